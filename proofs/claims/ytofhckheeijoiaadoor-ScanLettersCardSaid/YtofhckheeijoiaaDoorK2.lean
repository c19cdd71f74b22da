/- Texts merged by program: SBytes, SRet, SWrong, SHas, SHex, SFlag, SDigits, SCount, SArg. No condition. -/
import Derived.Test.YtofhckheeijoiaaDoorK1
import Derived.Test.YtofhckheeijoiaaDoorProg
import Derived.WalkKit
import Derived.Lib.Strings
import Derived.IntWalk
import Derived.OwnWalk
import Derived.Laws.Rows
import Derived.Lib.Hide
set_option linter.unusedVariables false
/- Texts, byte by byte: what stands at a place is the head of what is left. -/
namespace Go.Proofs.YtofhckheeijoiaaDoor
open Go Go.RowKit

theorem wrap_in (n : Int) (h : -9223372036854775808 ≤ n ∧ n ≤ 9223372036854775807) : IntKind.i64.wrap n = n := (IntWalk.i64_left n).trans (IntWalk.wrap64_in n h)
/-- What is left of a text from a place on. -/
def leftB (s : ByteArray) (i : Nat) : List UInt8 := s.toList.drop i
theorem left_cons (s : ByteArray) (i : Nat) (h : i < s.size) : leftB s i = s[i] :: leftB s (i + 1) := by
  unfold leftB
  have hl : i < s.toList.length := by rw [Lib.toList_data, ← Lib.size_eq]; exact h
  rw [List.drop_eq_getElem_cons hl]
  congr 1
  rw [show s[i] = s.data[i]'h from rfl]
  simp [Lib.toList_data]
theorem left_nil (s : ByteArray) (i : Nat) (h : s.size ≤ i) : leftB s i = [] := by
  unfold leftB
  exact List.drop_eq_nil_of_le (by rw [Lib.toList_data, ← Lib.size_eq]; exact h)
theorem left_drop (s : ByteArray) (i k : Nat) : (leftB s i).drop k = leftB s (i + k) := by
  unfold leftB
  rw [List.drop_drop]
theorem left_length (s : ByteArray) (i : Nat) : (leftB s i).length = s.size - i := by
  unfold leftB
  rw [List.length_drop, Lib.toList_data, ← Lib.size_eq]
/-- The first byte of what is left; -1: there is none. -/
def headI : List UInt8 → Int
  | [] => -1
  | c :: _ => c.toNat
theorem head_at (s : ByteArray) (i : Nat) (h : i < s.size) : headI (leftB s i) = (s[i].toNat : Int) := by rw [left_cons s i h]; rfl
theorem head_end (s : ByteArray) (i : Nat) (h : s.size ≤ i) : headI (leftB s i) = -1 := by rw [left_nil s i h]; rfl
theorem head_in {s : ByteArray} {i : Nat} (h : 0 ≤ headI (leftB s i)) : i < s.size := by
  refine Nat.lt_of_not_le fun hn => ?_
  rw [head_end s i hn] at h
  omega
theorem eq_true_of {a b : Int} (h : a = b) : (a == b) = true := by simpa using h
theorem eq_false_of {a b : Int} (h : ¬ a = b) : (a == b) = false := by simpa using h
theorem ne_false_of {a b : Int} (h : a = b) : (a != b) = false := by rw [bne, eq_true_of h]; rfl
theorem ne_true_of {a b : Int} (h : ¬ a = b) : (a != b) = true := by rw [bne, eq_false_of h]; rfl
def isDig (c : UInt8) : Bool := decide (48 ≤ c.toNat) && decide (c.toNat ≤ 57)
theorem isDig_iff (c : UInt8) : isDig c = true ↔ 48 ≤ c.toNat ∧ c.toNat ≤ 57 := by unfold isDig; rw [Bool.and_eq_true, decide_eq_true_iff, decide_eq_true_iff]
/-- The number of the digits ahead, at most 1001, onto n; and how many there are. -/
def digsFrom : List UInt8 → Int → Int × Nat
  | [], n => (n, 0)
  | c :: t, n => if isDig c then ((digsFrom t (min (10 * n + ((c.toNat : Int) - 48)) 1001)).1, (digsFrom t (min (10 * n + ((c.toNat : Int) - 48)) 1001)).2 + 1) else (n, 0)
theorem digs_fit : ∀ (l : List UInt8) (n : Int), (digsFrom l n).2 ≤ l.length
  | [], n => Nat.le_refl _
  | c :: t, n => by
    unfold digsFrom
    split
    · have := digs_fit t (min (10 * n + ((c.toNat : Int) - 48)) 1001)
      simp only [List.length_cons]
      omega
    · exact Nat.zero_le _
theorem results_tmp4 {fn : Func} {t u v x : Tmp} (h : fn.results = #[.tmp t, .tmp u, .tmp v, .tmp x]) (tmps : Array Value) (P : Program) (w : World) :
    (results fn tmps).run P w = .ok (.tuple #[tmps.getD t undef, tmps.getD u undef, tmps.getD v undef, tmps.getD x undef]) w := by
  simp [results, h]
end Go.Proofs.YtofhckheeijoiaaDoor
/- Errors and escapes in cells of their own: set anew, handed back among other results. -/
namespace Go.Proofs.YtofhckheeijoiaaDoor
open Go Go.RowKit

def wrongV (e a b : Int) : Value := .agg #[.int .i64 e, .int .i64 a, .int .i64 b]
def set3 (w : World) (b : Nat) (x0 x1 x2 : Value) : World := ((w.setCell ⟨b, 0, none⟩ x0).setCell ⟨b, 1, none⟩ x1).setCell ⟨b, 2, none⟩ x2
theorem set3_whole {w : World} {b : Nat} {t : TypeId} {y0 y1 y2 : Value} (h : Whole w b t #[y0, y1, y2]) (x0 x1 x2 : Value) : Whole (set3 w b x0 x1 x2) b t #[x0, x1, x2] := by
  have h10 := ((h.store 0 x0).store 1 x1).store 2 x2
  simp only [List.setIfInBounds_toArray, List.set_cons_zero, List.set_cons_succ] at h10
  exact h10
theorem set3_other {w : World} {b k : Nat} (hk : k ≠ b) (x0 x1 x2 : Value) : (set3 w b x0 x1 x2).heap[k]? = w.heap[k]? := by
  unfold set3
  have h : ∀ (W : World) (j : Nat) (u : Value), (W.setCell ⟨b, j, none⟩ u).heap[k]? = W.heap[k]? := fun W j u => Below.heap_setCell W _ u k hk
  simp only [h]
theorem set3_below {B b : Nat} {w0 w : World} (h : Below B w0 w) (hb : B ≤ b) (x0 x1 x2 : Value) : Below B w0 (set3 w b x0 x1 x2) :=
  ((h.setCell (p := ⟨b, 0, none⟩) hb x0).setCell (p := ⟨b, 1, none⟩) hb x1).setCell (p := ⟨b, 2, none⟩) hb x2
theorem set3_size (w : World) (b : Nat) (x0 x1 x2 : Value) : (set3 w b x0 x1 x2).heap.size = w.heap.size := by
  unfold set3
  simp [World.setCell]
def set4 (w : World) (b : Nat) (x0 x1 x2 x3 : Value) : World := (((w.setCell ⟨b, 0, none⟩ x0).setCell ⟨b, 1, none⟩ x1).setCell ⟨b, 2, none⟩ x2).setCell ⟨b, 3, none⟩ x3
theorem set4_whole {w : World} {b : Nat} {t : TypeId} {y0 y1 y2 y3 : Value} (h : Whole w b t #[y0, y1, y2, y3]) (x0 x1 x2 x3 : Value) : Whole (set4 w b x0 x1 x2 x3) b t #[x0, x1, x2, x3] := by
  have h10 := (((h.store 0 x0).store 1 x1).store 2 x2).store 3 x3
  simp only [List.setIfInBounds_toArray, List.set_cons_zero, List.set_cons_succ] at h10
  exact h10
theorem set4_other {w : World} {b k : Nat} (hk : k ≠ b) (x0 x1 x2 x3 : Value) : (set4 w b x0 x1 x2 x3).heap[k]? = w.heap[k]? := by
  unfold set4
  have h : ∀ (W : World) (j : Nat) (u : Value), (W.setCell ⟨b, j, none⟩ u).heap[k]? = W.heap[k]? := fun W j u => Below.heap_setCell W _ u k hk
  simp only [h]
theorem set4_below {B b : Nat} {w0 w : World} (h : Below B w0 w) (hb : B ≤ b) (x0 x1 x2 x3 : Value) : Below B w0 (set4 w b x0 x1 x2 x3) :=
  (((h.setCell (p := ⟨b, 0, none⟩) hb x0).setCell (p := ⟨b, 1, none⟩) hb x1).setCell (p := ⟨b, 2, none⟩) hb x2).setCell (p := ⟨b, 3, none⟩) hb x3
theorem set4_size (w : World) (b : Nat) (x0 x1 x2 x3 : Value) : (set4 w b x0 x1 x2 x3).heap.size = w.heap.size := by
  unfold set4
  simp [World.setCell]
/-- The cells of a block of three, and that they may be written. -/
def Box3 (W : World) (b : Nat) (x0 x1 x2 : Value) : Prop := W.cell? ⟨b, 0, none⟩ = some x0 ∧ W.cell? ⟨b, 1, none⟩ = some x1 ∧ W.cell? ⟨b, 2, none⟩ = some x2 ∧ W.frozen? ⟨b, 0, none⟩ = false ∧ W.frozen? ⟨b, 1, none⟩ = false ∧ W.frozen? ⟨b, 2, none⟩ = false
theorem Whole.three {W : World} {b : Nat} {t : TypeId} {x0 x1 x2 : Value} (h : Whole W b t #[x0, x1, x2]) : Box3 W b x0 x1 x2 := ⟨h.cell 0, h.cell 1, h.cell 2, h.free 0, h.free 1, h.free 2⟩
def Box4 (W : World) (b : Nat) (x0 x1 x2 x3 : Value) : Prop := W.cell? ⟨b, 0, none⟩ = some x0 ∧ W.cell? ⟨b, 1, none⟩ = some x1 ∧ W.cell? ⟨b, 2, none⟩ = some x2 ∧ W.cell? ⟨b, 3, none⟩ = some x3 ∧ W.frozen? ⟨b, 0, none⟩ = false ∧ W.frozen? ⟨b, 1, none⟩ = false ∧ W.frozen? ⟨b, 2, none⟩ = false ∧ W.frozen? ⟨b, 3, none⟩ = false
theorem Whole.four {W : World} {b : Nat} {t : TypeId} {x0 x1 x2 x3 : Value} (h : Whole W b t #[x0, x1, x2, x3]) : Box4 W b x0 x1 x2 x3 := ⟨h.cell 0, h.cell 1, h.cell 2, h.cell 3, h.free 0, h.free 1, h.free 2, h.free 3⟩

theorem run_wrong {w : World} {b : Nat} {cs : Array Value} (h : Whole w b 30 cs) (hn : cs.size = 3) : (loadVar 30 ⟨b, 0, none⟩).run Tryd.prog w = .ok (.agg cs) w :=
  run_loadVar_row w b _ _ cs (0, 0) _ h Tryd.underlying30 rfl (by rw [hn]; kernel_rfl)
theorem run_esc {w : World} {b : Nat} {cs : Array Value} (h : Whole w b 27 cs) (hn : cs.size = 4) : (loadVar 27 ⟨b, 0, none⟩).run Tryd.prog w = .ok (.agg cs) w :=
  run_loadVar_row w b _ _ cs (0, 0) _ h Tryd.underlying27 rfl (by rw [hn]; kernel_rfl)
/-- Two results and an error. -/
theorem results_ttw {fn : Func} {p q r : Tmp} (h : fn.results = #[.tmp p, .tmp q, .cell r 30]) (tmps : Array Value) {w : World} {b : Nat} {cs : Array Value} (hp : tmps.getD r undef = .pointer (some ⟨b, 0, none⟩)) (hW : Whole w b 30 cs) (hn : cs.size = 3) :
    (results fn tmps).run Tryd.prog w = .ok (.tuple #[tmps.getD p undef, tmps.getD q undef, .agg cs]) w := by
  have hp' : tmps[r]?.getD undef = .pointer (some ⟨b, 0, none⟩) := by simpa using hp
  simp [results, h, hp', asAddr, run_wrong hW hn]
/-- Three results and an error. -/
theorem results_tttw {fn : Func} {p q u r : Tmp} (h : fn.results = #[.tmp p, .tmp q, .tmp u, .cell r 30]) (tmps : Array Value) {w : World} {b : Nat} {cs : Array Value} (hp : tmps.getD r undef = .pointer (some ⟨b, 0, none⟩)) (hW : Whole w b 30 cs) (hn : cs.size = 3) :
    (results fn tmps).run Tryd.prog w = .ok (.tuple #[tmps.getD p undef, tmps.getD q undef, tmps.getD u undef, .agg cs]) w := by
  have hp' : tmps[r]?.getD undef = .pointer (some ⟨b, 0, none⟩) := by simpa using hp
  simp [results, h, hp', asAddr, run_wrong hW hn]
/-- An escape, a place and an error. -/
theorem results_etw {fn : Func} {p q r : Tmp} (h : fn.results = #[.cell p 27, .tmp q, .cell r 30]) (tmps : Array Value) {w : World} {a b : Nat} {es cs : Array Value} (ha : tmps.getD p undef = .pointer (some ⟨a, 0, none⟩)) (hE : Whole w a 27 es) (he : es.size = 4) (hp : tmps.getD r undef = .pointer (some ⟨b, 0, none⟩)) (hW : Whole w b 30 cs) (hn : cs.size = 3) :
    (results fn tmps).run Tryd.prog w = .ok (.tuple #[.agg es, tmps.getD q undef, .agg cs]) w := by
  have ha' : tmps[p]?.getD undef = .pointer (some ⟨a, 0, none⟩) := by simpa using ha
  have hp' : tmps[r]?.getD undef = .pointer (some ⟨b, 0, none⟩) := by simpa using hp
  simp [results, h, ha', hp', asAddr, run_wrong hW hn, run_esc hE he]
/-- An escape and two results. -/
theorem results_ett {fn : Func} {p q r : Tmp} (h : fn.results = #[.cell p 27, .tmp q, .tmp r]) (tmps : Array Value) {w : World} {a : Nat} {es : Array Value} (ha : tmps.getD p undef = .pointer (some ⟨a, 0, none⟩)) (hE : Whole w a 27 es) (he : es.size = 4) :
    (results fn tmps).run Tryd.prog w = .ok (.tuple #[.agg es, tmps.getD q undef, tmps.getD r undef]) w := by
  have ha' : tmps[p]?.getD undef = .pointer (some ⟨a, 0, none⟩) := by simpa using ha
  simp [results, h, ha', asAddr, run_esc hE he]
end Go.Proofs.YtofhckheeijoiaaDoor
/- An error and its bytes: a fresh struct, handed back. -/
namespace Go.Proofs.YtofhckheeijoiaaDoor
open Go Go.RowKit

set_option maxHeartbeats 800000 in
theorem rwrong_any (e a b : Int) (w : World) : Calls Tryd.prog 28 #[.int .i64 e, .int .i64 a, .int .i64 b] w fun e' w' => e' = .returned (.agg #[.int .i64 e, .int .i64 a, .int .i64 b]) ∧ Below w.heap.size w w' := by
  go_enter Tryd.func28, Tryd.ntmps28
  go_wp2
  have hW : Whole (w.alloc (.cells #[.int .i64 e, .int .i64 a, .int .i64 b] 30)) w.heap.size 30 #[.int .i64 e, .int .i64 a, .int .i64 b] := heap_alloc_new w _
  refine bodyPost_ret (results_cell_row Tryd.results28 _ _ w.heap.size 30 _ (0, 0) _ rfl hW Tryd.underlying30 rfl (by kernel_rfl)) rfl ?_
  exact ⟨rfl, (Below.refl _ w).alloc (Nat.le_refl _) _⟩
end Go.Proofs.YtofhckheeijoiaaDoor
/- Does a text stand at a place. -/
namespace Go.Proofs.YtofhckheeijoiaaDoor
open Go Go.RowKit

/-- Does a list begin with another one? -/
def preB (a l : List UInt8) : Bool := l.take a.length == a

set_option maxHeartbeats 800000 in
theorem rhas6_any (s t : ByteArray) (i : Nat) (w : World) (hs : s.size ≤ 4503599627370496) (ht : t.size ≤ 100) (hi : i ≤ s.size) : Calls Tryd.prog 39 #[.string s, .int .i64 i, .string t] w fun e w' => e = .returned (.bool (preB t.toList (leftB s i))) ∧ w' = w := by
  have htl : t.toList.length = t.size := by rw [Lib.toList_data, ← Lib.size_eq]
  have hw1 : IntKind.i64.wrap ((s.size : Int) - (i : Int)) = (s.size : Int) - (i : Int) := wrap_in _ (by omega)
  by_cases h : i + t.size ≤ s.size
  · have hw2 : IntKind.i64.wrap ((i : Int) + (t.size : Int)) = (i : Int) + (t.size : Int) := wrap_in _ (by omega)
    have x1 : (t.size : Int) ≤ (s.size : Int) - (i : Int) := by omega
    have x2 : (i : Int) ≤ (i : Int) + (t.size : Int) := by omega
    have x3 : (i : Int) + (t.size : Int) ≤ (s.size : Int) := by omega
    have x4 : ((i : Int) + (t.size : Int)).toNat = i + t.size := by omega
    have hq : ((s.extract i (i + t.size)).toList == t.toList) = preB t.toList (leftB s i) := by
      unfold preB leftB
      rw [Lib.extract_toList, ← Lib.toList_data, htl, show i + t.size - i = t.size by omega]
    have HQ := Lib.hid hq
    clear hq htl
    go_enter Tryd.func39, Tryd.ntmps39
    go_wp2
    go_ret
    exact ⟨congrArg (fun b => Ending.returned (.bool b)) HQ.out, rfl⟩
  · have x1 : ¬ (t.size : Int) ≤ (s.size : Int) - (i : Int) := by omega
    have hq : preB t.toList (leftB s i) = false := by
      unfold preB
      refine beq_eq_false_iff_ne.2 fun e => ?_
      have := congrArg List.length e
      rw [List.length_take, left_length, htl] at this
      omega
    have HQ := Lib.hid hq
    clear hq htl
    go_enter Tryd.func39, Tryd.ntmps39
    go_wp2
    go_ret
    exact ⟨congrArg (fun b => Ending.returned (.bool b)) HQ.out.symm, rfl⟩
end Go.Proofs.YtofhckheeijoiaaDoor
/- The document's small tables of signs: hexadecimal digits, signs, letters, places. -/
namespace Go.Proofs.YtofhckheeijoiaaDoor
open Go Go.RowKit

def hexI (c : Int) : Int := if 48 ≤ c ∧ c ≤ 57 then c - 48 else if 97 ≤ c ∧ c ≤ 102 then c - 87 else if 65 ≤ c ∧ c ≤ 70 then c - 55 else -1
theorem hexI_lo (c : Int) : -1 ≤ hexI c := by unfold hexI; repeat' split
                                              all_goals omega
theorem hexI_hi (c : Int) : hexI c ≤ 15 := by unfold hexI; repeat' split
                                              all_goals omega

set_option maxHeartbeats 800000 in
theorem rhex_any (c : Int) (w : World) (h0 : 0 ≤ c) (h1 : c ≤ 255) : Calls Tryd.prog 51 #[.int .u8 c] w fun e w' => e = .returned (.int .i64 (hexI c)) ∧ w' = w := by
  go_enter Tryd.func51, Tryd.ntmps51
  by_cases a0 : 48 ≤ c
  · by_cases a1 : c ≤ 57
    · go_wp2
      go_ret
      refine ⟨congrArg (fun n => Ending.returned (.int .i64 n)) ?_, rfl⟩
      unfold hexI
      rw [if_pos ⟨a0, a1⟩]
    · by_cases b0 : 97 ≤ c
      · by_cases b1 : c ≤ 102
        · go_wp2
          go_ret
          refine ⟨congrArg (fun n => Ending.returned (.int .i64 n)) ?_, rfl⟩
          unfold hexI
          rw [if_neg (by omega), if_pos ⟨b0, b1⟩]
          omega
        · have d0 : 65 ≤ c := by omega
          have d1 : ¬ c ≤ 70 := by omega
          go_wp2
          go_ret
          refine ⟨congrArg (fun n => Ending.returned (.int .i64 n)) ?_, rfl⟩
          unfold hexI
          rw [if_neg (by omega), if_neg (by omega), if_neg (by omega)]
      · by_cases d0 : 65 ≤ c
        · by_cases d1 : c ≤ 70
          · go_wp2
            go_ret
            refine ⟨congrArg (fun n => Ending.returned (.int .i64 n)) ?_, rfl⟩
            unfold hexI
            rw [if_neg (by omega), if_neg (by omega), if_pos ⟨d0, d1⟩]
            omega
          · go_wp2
            go_ret
            refine ⟨congrArg (fun n => Ending.returned (.int .i64 n)) ?_, rfl⟩
            unfold hexI
            rw [if_neg (by omega), if_neg (by omega), if_neg (by omega)]
        · go_wp2
          go_ret
          refine ⟨congrArg (fun n => Ending.returned (.int .i64 n)) ?_, rfl⟩
          unfold hexI
          rw [if_neg (by omega), if_neg (by omega), if_neg (by omega)]
  · have b0 : ¬ 97 ≤ c := by omega
    have d0 : ¬ 65 ≤ c := by omega
    go_wp2
    go_ret
    refine ⟨congrArg (fun n => Ending.returned (.int .i64 n)) ?_, rfl⟩
    unfold hexI
    rw [if_neg (by omega), if_neg (by omega), if_neg (by omega)]

/-- A sign. -/
def signI (c : Int) : Bool := (decide (33 ≤ c) && decide (c ≤ 47)) || (decide (58 ≤ c) && decide (c ≤ 64)) || (decide (91 ≤ c) && decide (c ≤ 96)) || (decide (123 ≤ c) && decide (c ≤ 126))
def letterI (c : Int) : Int := if c = 97 then 7 else if c = 102 then 12 else if c = 110 then 10 else if c = 114 then 13 else if c = 116 then 9 else if c = 118 then 11 else -1
set_option maxHeartbeats 800000 in
theorem rletter_any (c : Int) (w : World) : Calls Tryd.prog 30 #[.int .i32 c] w fun e w' => e = .returned (.int .i32 (letterI c)) ∧ w' = w := by
  go_enter Tryd.func30, Tryd.ntmps30
  by_cases h0 : c = 97
  · subst h0
    go_wp2
    go_ret
    exact ⟨rfl, rfl⟩
  have g0 := eq_false_of h0
  by_cases h1 : c = 102
  · subst h1
    go_wp2
    go_ret
    exact ⟨rfl, rfl⟩
  have g1 := eq_false_of h1
  by_cases h2 : c = 110
  · subst h2
    go_wp2
    go_ret
    exact ⟨rfl, rfl⟩
  have g2 := eq_false_of h2
  by_cases h3 : c = 114
  · subst h3
    go_wp2
    go_ret
    exact ⟨rfl, rfl⟩
  have g3 := eq_false_of h3
  by_cases h4 : c = 116
  · subst h4
    go_wp2
    go_ret
    exact ⟨rfl, rfl⟩
  have g4 := eq_false_of h4
  by_cases h5 : c = 118
  · subst h5
    go_wp2
    go_ret
    exact ⟨rfl, rfl⟩
  have g5 := eq_false_of h5
  have HD := Lib.hid (show letterI c = -1 by unfold letterI; rw [if_neg h0, if_neg h1, if_neg h2, if_neg h3, if_neg h4, if_neg h5])
  clear h0 h1 h2 h3 h4 h5
  go_wp2
  go_ret
  exact ⟨congrArg (fun n => Ending.returned (.int .i32 n)) HD.out.symm, rfl⟩
def placeI (c : Int) : Int := if c = 65 then 1 else if c = 122 then 2 else if c = 98 then 16 else if c = 66 then 32 else 0
set_option maxHeartbeats 800000 in
theorem rplace_any (c : Int) (w : World) : Calls Tryd.prog 54 #[.int .i32 c] w fun e w' => e = .returned (.int .i64 (placeI c)) ∧ w' = w := by
  go_enter Tryd.func54, Tryd.ntmps54
  by_cases h0 : c = 65
  · subst h0
    go_wp2
    go_ret
    exact ⟨rfl, rfl⟩
  have g0 := eq_false_of h0
  by_cases h1 : c = 122
  · subst h1
    go_wp2
    go_ret
    exact ⟨rfl, rfl⟩
  have g1 := eq_false_of h1
  by_cases h2 : c = 98
  · subst h2
    go_wp2
    go_ret
    exact ⟨rfl, rfl⟩
  have g2 := eq_false_of h2
  by_cases h3 : c = 66
  · subst h3
    go_wp2
    go_ret
    exact ⟨rfl, rfl⟩
  have g3 := eq_false_of h3
  have HD := Lib.hid (show placeI c = 0 by unfold placeI; rw [if_neg h0, if_neg h1, if_neg h2, if_neg h3])
  clear h0 h1 h2 h3
  go_wp2
  go_ret
  exact ⟨congrArg (fun n => Ending.returned (.int .i64 n)) HD.out.symm, rfl⟩
set_option maxHeartbeats 800000 in
theorem rsign_any (c : Int) (w : World) : Calls Tryd.prog 20 #[.int .i32 c] w fun e w' => e = .returned (.bool (signI c)) ∧ w' = w := by
  go_enter Tryd.func20, Tryd.ntmps20
  have hcase : c < 33 ∨ (33 ≤ c ∧ c ≤ 47) ∨ (47 < c ∧ c < 58) ∨ (58 ≤ c ∧ c ≤ 64) ∨ (64 < c ∧ c < 91) ∨ (91 ≤ c ∧ c ≤ 96) ∨ (96 < c ∧ c < 123) ∨ (123 ≤ c ∧ c ≤ 126) ∨ 126 < c := by omega
  rcases hcase with hc | hc | hc | hc | hc | hc | hc | hc | hc
  · have l33 : decide (33 ≤ c) = false := decide_eq_false (by omega)
    have l58 : decide (58 ≤ c) = false := decide_eq_false (by omega)
    have l91 : decide (91 ≤ c) = false := decide_eq_false (by omega)
    have l123 : decide (123 ≤ c) = false := decide_eq_false (by omega)
    have u47 : decide (c ≤ 47) = true := decide_eq_true (by omega)
    have u64 : decide (c ≤ 64) = true := decide_eq_true (by omega)
    have u96 : decide (c ≤ 96) = true := decide_eq_true (by omega)
    have u126 : decide (c ≤ 126) = true := decide_eq_true (by omega)
    have HS := Lib.hid (show signI c = false by unfold signI; rw [l33, l58, l91, l123, u47, u64, u96, u126]; rfl)
    clear hc
    go_wp2
    go_ret
    exact ⟨congrArg (fun b => Ending.returned (.bool b)) HS.out.symm, rfl⟩
  · have l33 : decide (33 ≤ c) = true := decide_eq_true (by omega)
    have l58 : decide (58 ≤ c) = false := decide_eq_false (by omega)
    have l91 : decide (91 ≤ c) = false := decide_eq_false (by omega)
    have l123 : decide (123 ≤ c) = false := decide_eq_false (by omega)
    have u47 : decide (c ≤ 47) = true := decide_eq_true (by omega)
    have u64 : decide (c ≤ 64) = true := decide_eq_true (by omega)
    have u96 : decide (c ≤ 96) = true := decide_eq_true (by omega)
    have u126 : decide (c ≤ 126) = true := decide_eq_true (by omega)
    have HS := Lib.hid (show signI c = true by unfold signI; rw [l33, l58, l91, l123, u47, u64, u96, u126]; rfl)
    clear hc
    go_wp2
    go_ret
    exact ⟨congrArg (fun b => Ending.returned (.bool b)) HS.out.symm, rfl⟩
  · have l33 : decide (33 ≤ c) = true := decide_eq_true (by omega)
    have l58 : decide (58 ≤ c) = false := decide_eq_false (by omega)
    have l91 : decide (91 ≤ c) = false := decide_eq_false (by omega)
    have l123 : decide (123 ≤ c) = false := decide_eq_false (by omega)
    have u47 : decide (c ≤ 47) = false := decide_eq_false (by omega)
    have u64 : decide (c ≤ 64) = true := decide_eq_true (by omega)
    have u96 : decide (c ≤ 96) = true := decide_eq_true (by omega)
    have u126 : decide (c ≤ 126) = true := decide_eq_true (by omega)
    have HS := Lib.hid (show signI c = false by unfold signI; rw [l33, l58, l91, l123, u47, u64, u96, u126]; rfl)
    clear hc
    go_wp2
    go_ret
    exact ⟨congrArg (fun b => Ending.returned (.bool b)) HS.out.symm, rfl⟩
  · have l33 : decide (33 ≤ c) = true := decide_eq_true (by omega)
    have l58 : decide (58 ≤ c) = true := decide_eq_true (by omega)
    have l91 : decide (91 ≤ c) = false := decide_eq_false (by omega)
    have l123 : decide (123 ≤ c) = false := decide_eq_false (by omega)
    have u47 : decide (c ≤ 47) = false := decide_eq_false (by omega)
    have u64 : decide (c ≤ 64) = true := decide_eq_true (by omega)
    have u96 : decide (c ≤ 96) = true := decide_eq_true (by omega)
    have u126 : decide (c ≤ 126) = true := decide_eq_true (by omega)
    have HS := Lib.hid (show signI c = true by unfold signI; rw [l33, l58, l91, l123, u47, u64, u96, u126]; rfl)
    clear hc
    go_wp2
    go_ret
    exact ⟨congrArg (fun b => Ending.returned (.bool b)) HS.out.symm, rfl⟩
  · have l33 : decide (33 ≤ c) = true := decide_eq_true (by omega)
    have l58 : decide (58 ≤ c) = true := decide_eq_true (by omega)
    have l91 : decide (91 ≤ c) = false := decide_eq_false (by omega)
    have l123 : decide (123 ≤ c) = false := decide_eq_false (by omega)
    have u47 : decide (c ≤ 47) = false := decide_eq_false (by omega)
    have u64 : decide (c ≤ 64) = false := decide_eq_false (by omega)
    have u96 : decide (c ≤ 96) = true := decide_eq_true (by omega)
    have u126 : decide (c ≤ 126) = true := decide_eq_true (by omega)
    have HS := Lib.hid (show signI c = false by unfold signI; rw [l33, l58, l91, l123, u47, u64, u96, u126]; rfl)
    clear hc
    go_wp2
    go_ret
    exact ⟨congrArg (fun b => Ending.returned (.bool b)) HS.out.symm, rfl⟩
  · have l33 : decide (33 ≤ c) = true := decide_eq_true (by omega)
    have l58 : decide (58 ≤ c) = true := decide_eq_true (by omega)
    have l91 : decide (91 ≤ c) = true := decide_eq_true (by omega)
    have l123 : decide (123 ≤ c) = false := decide_eq_false (by omega)
    have u47 : decide (c ≤ 47) = false := decide_eq_false (by omega)
    have u64 : decide (c ≤ 64) = false := decide_eq_false (by omega)
    have u96 : decide (c ≤ 96) = true := decide_eq_true (by omega)
    have u126 : decide (c ≤ 126) = true := decide_eq_true (by omega)
    have HS := Lib.hid (show signI c = true by unfold signI; rw [l33, l58, l91, l123, u47, u64, u96, u126]; rfl)
    clear hc
    go_wp2
    go_ret
    exact ⟨congrArg (fun b => Ending.returned (.bool b)) HS.out.symm, rfl⟩
  · have l33 : decide (33 ≤ c) = true := decide_eq_true (by omega)
    have l58 : decide (58 ≤ c) = true := decide_eq_true (by omega)
    have l91 : decide (91 ≤ c) = true := decide_eq_true (by omega)
    have l123 : decide (123 ≤ c) = false := decide_eq_false (by omega)
    have u47 : decide (c ≤ 47) = false := decide_eq_false (by omega)
    have u64 : decide (c ≤ 64) = false := decide_eq_false (by omega)
    have u96 : decide (c ≤ 96) = false := decide_eq_false (by omega)
    have u126 : decide (c ≤ 126) = true := decide_eq_true (by omega)
    have HS := Lib.hid (show signI c = false by unfold signI; rw [l33, l58, l91, l123, u47, u64, u96, u126]; rfl)
    clear hc
    go_wp2
    go_ret
    exact ⟨congrArg (fun b => Ending.returned (.bool b)) HS.out.symm, rfl⟩
  · have l33 : decide (33 ≤ c) = true := decide_eq_true (by omega)
    have l58 : decide (58 ≤ c) = true := decide_eq_true (by omega)
    have l91 : decide (91 ≤ c) = true := decide_eq_true (by omega)
    have l123 : decide (123 ≤ c) = true := decide_eq_true (by omega)
    have u47 : decide (c ≤ 47) = false := decide_eq_false (by omega)
    have u64 : decide (c ≤ 64) = false := decide_eq_false (by omega)
    have u96 : decide (c ≤ 96) = false := decide_eq_false (by omega)
    have u126 : decide (c ≤ 126) = true := decide_eq_true (by omega)
    have HS := Lib.hid (show signI c = true by unfold signI; rw [l33, l58, l91, l123, u47, u64, u96, u126]; rfl)
    clear hc
    go_wp2
    go_ret
    exact ⟨congrArg (fun b => Ending.returned (.bool b)) HS.out.symm, rfl⟩
  · have l33 : decide (33 ≤ c) = true := decide_eq_true (by omega)
    have l58 : decide (58 ≤ c) = true := decide_eq_true (by omega)
    have l91 : decide (91 ≤ c) = true := decide_eq_true (by omega)
    have l123 : decide (123 ≤ c) = true := decide_eq_true (by omega)
    have u47 : decide (c ≤ 47) = false := decide_eq_false (by omega)
    have u64 : decide (c ≤ 64) = false := decide_eq_false (by omega)
    have u96 : decide (c ≤ 96) = false := decide_eq_false (by omega)
    have u126 : decide (c ≤ 126) = false := decide_eq_false (by omega)
    have HS := Lib.hid (show signI c = false by unfold signI; rw [l33, l58, l91, l123, u47, u64, u96, u126]; rfl)
    clear hc
    go_wp2
    go_ret
    exact ⟨congrArg (fun b => Ending.returned (.bool b)) HS.out.symm, rfl⟩
end Go.Proofs.YtofhckheeijoiaaDoor
/- What flag a letter stands for. -/
namespace Go.Proofs.YtofhckheeijoiaaDoor
open Go Go.RowKit

def flagI (c : Int) : Int := if c = 105 then 1 else if c = 109 then 4 else if c = 115 then 8 else if c = 85 then 16 else 0
set_option maxHeartbeats 800000 in
theorem rflag_any (c : Int) (w : World) : Calls Tryd.prog 42 #[.int .u8 c] w fun e w' => e = .returned (.int .i64 (flagI c)) ∧ w' = w := by
  go_enter Tryd.func42, Tryd.ntmps42
  by_cases h0 : c = 105
  · subst h0
    go_wp2
    go_ret
    exact ⟨rfl, rfl⟩
  have g0 := eq_false_of h0
  by_cases h1 : c = 109
  · subst h1
    go_wp2
    go_ret
    exact ⟨rfl, rfl⟩
  have g1 := eq_false_of h1
  by_cases h2 : c = 115
  · subst h2
    go_wp2
    go_ret
    exact ⟨rfl, rfl⟩
  have g2 := eq_false_of h2
  by_cases h3 : c = 85
  · subst h3
    go_wp2
    go_ret
    exact ⟨rfl, rfl⟩
  have g3 := eq_false_of h3
  have HD := Lib.hid (show flagI c = 0 by unfold flagI; rw [if_neg h0, if_neg h1, if_neg h2, if_neg h3])
  clear h0 h1 h2 h3
  go_wp2
  go_ret
  exact ⟨congrArg (fun n => Ending.returned (.int .i64 n)) HD.out.symm, rfl⟩
end Go.Proofs.YtofhckheeijoiaaDoor
/- The document's digits of a text at a place. -/
namespace Go.Proofs.YtofhckheeijoiaaDoor
open Go Go.RowKit

def DigPost (r : Int × Nat) (at' : Nat) (w : World) (e : Ending) (w' : World) : Prop :=
  e = .returned (.tuple #[.int .i64 r.1, .int .i64 ((at' + r.2 : Nat) : Int), .bool (decide (0 < r.2))]) ∧ w' = w

theorem dig_end {r : Int × Nat} {n : Int} {i j k : Nat} {w : World} (hd : r = (n, 0 + k)) (hj : i + k = j) :
    Ending.returned (.tuple #[.int .i64 n, .int .i64 j, .bool (decide (i < j))]) = .returned (.tuple #[.int .i64 r.1, .int .i64 ((i : Int) + (r.2 : Int)), .bool (decide (0 < r.2))]) ∧ w = w := by
  subst hd hj
  refine ⟨?_, rfl⟩
  have : decide (i < i + k) = decide (0 < 0 + k) := by by_cases h : 0 < k <;> simp [h] <;> omega
  rw [this]
  simp

set_option maxHeartbeats 800000 in
theorem rdigits_any (s : ByteArray) (i : Nat) (w : World) (hs : s.size ≤ 4503599627370496) (hi : i ≤ s.size) :
    Calls Tryd.prog 36 #[.string s, .int .i64 i] w (DigPost (digsFrom (leftB s i) 0) i w) := by
  unfold DigPost
  go_enter Tryd.func36, Tryd.ntmps36
  go_wp2_with fail
  go_loopw [7, 8] (fun vn vi wr => ∃ (j k : Nat) (n : Int), i + k = j ∧ j ≤ s.size ∧ vn = .int .i64 n ∧ vi = .int .i64 j ∧ 0 ≤ n ∧ n ≤ 1001 ∧ digsFrom (leftB s i) 0 = ((digsFrom (leftB s j) n).1, (digsFrom (leftB s j) n).2 + k) ∧ wr = w) (fun _ vi _ => s.size - (intOf vi).toNat)
  case atStart => exact ⟨i, 0, 0, rfl, hi, rfl, rfl, by decide, by decide, rfl, rfl⟩
  case round =>
    obtain ⟨j, k, n, hjk, hj, rfl, rfl, hn0, hn1, hd, rfl⟩ := hrel
    have HD := Lib.hid hd; have HJ := Lib.hid hjk
    clear hd hjk hi
    by_cases hlt : j < s.size
    · have hc := left_cons s j hlt
      have hw1 : IntKind.i64.wrap ((j : Int) + 1) = (j : Int) + 1 := wrap_in _ (by omega)
      by_cases hdg : isDig s[j] = true
      · obtain ⟨h48, h57⟩ := (isDig_iff _).1 hdg
        rw [hc, digsFrom, if_pos hdg] at HD
        have HD := Lib.hid HD.out
        clear hc hdg
        go_wp2
        refine ⟨⟨j + 1, k + 1, min (10 * n + ((s[j].toNat : Int) - 48)) 1001, by have := HJ.out; omega, hlt, congrArg _ (by omega), rfl, by omega, by omega, ?_, trivial⟩, ?_⟩
        · rw [HD.out]
          simp only [Prod.mk.injEq, true_and]
          omega
        · simp only [intOf]
          omega
      · rw [hc, digsFrom, if_neg hdg] at HD
        have hnd : ¬ (48 ≤ s[j].toNat ∧ s[j].toNat ≤ 57) := fun h => hdg ((isDig_iff _).2 h)
        clear hc hdg
        by_cases h48 : 48 ≤ s[j].toNat
        · have h57 : ¬ s[j].toNat ≤ 57 := fun h => hnd ⟨h48, h⟩
          clear hnd
          go_wp2
          go_ret3
          exact dig_end HD.out HJ.out
        · clear hnd
          go_wp2
          go_ret3
          exact dig_end HD.out HJ.out
    · rw [left_nil s j (by omega), digsFrom] at HD
      go_wp2
      go_ret3
      exact dig_end HD.out HJ.out
/-- The same, in letters. -/
theorem rdigits_at (s : ByteArray) (p j k : Nat) (a : Int) (w : World) (hs : s.size ≤ 4503599627370496) (hp : p ≤ s.size) (hr : digsFrom (leftB s p) 0 = (a, k)) (hj : p + k = j) :
    Calls Tryd.prog 36 #[.string s, .int .i64 p] w fun e w' => e = .returned (.tuple #[.int .i64 a, .int .i64 j, .bool (decide (0 < k))]) ∧ w' = w := by
  have := rdigits_any s p w hs hp
  rw [hr] at this
  subst hj
  exact this
end Go.Proofs.YtofhckheeijoiaaDoor
/- The document's counted repeat of a text at a place. -/
namespace Go.Proofs.YtofhckheeijoiaaDoor
open Go Go.RowKit

/-- A counted repeat at a place: the numbers, and the place behind. -/
def countS (s : ByteArray) (i : Nat) : Option (Int × Int × Nat) :=
  if ¬ headI (leftB s i) = 123 then none else
  if (digsFrom (leftB s (i + 1)) 0).2 = 0 then none else
  if headI (leftB s (i + 1 + (digsFrom (leftB s (i + 1)) 0).2)) = 125 then some ((digsFrom (leftB s (i + 1)) 0).1, (digsFrom (leftB s (i + 1)) 0).1, i + 1 + (digsFrom (leftB s (i + 1)) 0).2 + 1) else
  if ¬ headI (leftB s (i + 1 + (digsFrom (leftB s (i + 1)) 0).2)) = 44 then none else
  if headI (leftB s (i + 1 + (digsFrom (leftB s (i + 1)) 0).2 + 1)) = 125 then some ((digsFrom (leftB s (i + 1)) 0).1, -1, i + 1 + (digsFrom (leftB s (i + 1)) 0).2 + 2) else
  if (digsFrom (leftB s (i + 1 + (digsFrom (leftB s (i + 1)) 0).2 + 1)) 0).2 = 0 then none else
  if headI (leftB s (i + 1 + (digsFrom (leftB s (i + 1)) 0).2 + 1 + (digsFrom (leftB s (i + 1 + (digsFrom (leftB s (i + 1)) 0).2 + 1)) 0).2)) = 125 then some ((digsFrom (leftB s (i + 1)) 0).1, (digsFrom (leftB s (i + 1 + (digsFrom (leftB s (i + 1)) 0).2 + 1)) 0).1, i + 1 + (digsFrom (leftB s (i + 1)) 0).2 + 1 + (digsFrom (leftB s (i + 1 + (digsFrom (leftB s (i + 1)) 0).2 + 1)) 0).2 + 1) else none
/-- The same, in letters. -/
theorem countS_eq {s : ByteArray} {i j m : Nat} {a b : Int} {k l : Nat} (h0 : headI (leftB s i) = 123) (h1 : digsFrom (leftB s (i + 1)) 0 = (a, k)) (hj : i + 1 + k = j) (h2 : digsFrom (leftB s (j + 1)) 0 = (b, l)) (hm : j + 1 + l = m) :
    countS s i = if k = 0 then none else if headI (leftB s j) = 125 then some (a, a, j + 1) else if ¬ headI (leftB s j) = 44 then none else if headI (leftB s (j + 1)) = 125 then some (a, -1, j + 2) else if l = 0 then none else if headI (leftB s m) = 125 then some (a, b, m + 1) else none := by
  unfold countS
  rw [if_neg (by omega), h1]
  simp only [hj, h2, hm]

def CountPost (o : Option (Int × Int × Nat)) (w : World) (e : Ending) (w' : World) : Prop :=
  Below w.heap.size w w' ∧ ((o = none ∧ e = .returned (.tuple #[.int .i64 0, .int .i64 0, .int .i64 0, .bool false])) ∨ ∃ a b k, o = some (a, b, k) ∧ e = .returned (.tuple #[.int .i64 a, .int .i64 b, .int .i64 (k : Int), .bool true]))

set_option maxHeartbeats 1600000 in
theorem rcount6_any (s : ByteArray) (i : Nat) (w : World) (hs : s.size ≤ 4503599627370496) (hi : i ≤ s.size) :
    Calls Tryd.prog 14 #[.string s, .int .i64 i] w (CountPost (countS s i) w) := by
  obtain ⟨O, hO⟩ : ∃ O, countS s i = O := ⟨_, rfl⟩
  rw [hO]
  unfold CountPost
  by_cases h0 : headI (leftB s i) = 123
  · have hlt : i < s.size := head_in (by omega)
    obtain ⟨⟨a, k⟩, h1⟩ : ∃ r, digsFrom (leftB s (i + 1)) 0 = r := ⟨_, rfl⟩
    obtain ⟨j, hj⟩ : ∃ j, i + 1 + k = j := ⟨_, rfl⟩
    obtain ⟨⟨b, l⟩, h2⟩ : ∃ r, digsFrom (leftB s (j + 1)) 0 = r := ⟨_, rfl⟩
    obtain ⟨m, hm⟩ : ∃ m, j + 1 + l = m := ⟨_, rfl⟩
    have HC := Lib.hid (hO.symm.trans (countS_eq h0 h1 hj h2 hm))
    have hjs : j ≤ s.size := by
      have := digs_fit (leftB s (i + 1)) 0
      rw [h1, left_length] at this
      simp only at this
      omega
    rw [head_at s i hlt] at h0
    have b0 := ne_false_of h0
    have hw1 : IntKind.i64.wrap ((i : Int) + 1) = (i : Int) + 1 := wrap_in _ (by omega)
    have HD := Lib.hid (rdigits_at s (i + 1) j k a w hs hlt h1 hj)
    have H2 := Lib.hid h2; have HM := Lib.hid hm
    clear h1 hj h2 hm h0 hO
    go_enter Tryd.func14, Tryd.ntmps14
    go_wp2_with fail
    refine HD.out.mono ?_
    rintro e w1 ⟨rfl, rfl⟩
    clear HD
    by_cases hk : k = 0
    · rw [show decide (0 < k) = false from decide_eq_false (by omega)]
      have HC := Lib.hid (HC.out.trans (if_pos hk))
      clear hk
      go_wp2_with fail
      refine bodyPost_ret (results_tmp4 Tryd.results14 _ _ _) rfl ?_
      exact ⟨Below.refl _ _, .inl ⟨HC.out, rfl⟩⟩
    rw [show decide (0 < k) = true from decide_eq_true (by omega)]
    replace HC := Lib.hid (HC.out.trans (if_neg hk))
    clear hk
    by_cases hjl : j < s.size
    · have hw2 : IntKind.i64.wrap ((j : Int) + 1) = (j : Int) + 1 := wrap_in _ (by omega)
      have g0 := head_at s j hjl
      by_cases h125 : (s[j].toNat : Int) = 125
      · replace HC := Lib.hid (HC.out.trans (if_pos (g0.trans h125)))
        have b1 := eq_true_of h125
        clear h125 g0
        go_wp2_with fail
        refine bodyPost_ret (results_tmp4 Tryd.results14 _ _ _) rfl ?_
        exact ⟨Below.refl _ _, .inr ⟨a, a, j + 1, HC.out, rfl⟩⟩
      replace HC := Lib.hid (HC.out.trans (if_neg (fun h => h125 (g0.symm.trans h))))
      have b1 := eq_false_of h125
      clear h125
      by_cases h44 : (s[j].toNat : Int) = 44
      · replace HC := Lib.hid (HC.out.trans (if_neg (fun h => h (g0.trans h44))))
        have b2 := ne_false_of h44
        clear h44 g0
        by_cases hj1 : j + 1 < s.size
        · have g1 := head_at s (j + 1) hj1
          have x1 : (0 : Int) ≤ (j : Int) + 1 := by omega
          have x2 : (j : Int) + 1 < (s.size : Int) := by omega
          have x3 : ((j : Int) + 1).toNat = j + 1 := by omega
          have x4 : ¬ (s.size : Int) ≤ (j : Int) + 1 := by omega
          by_cases h125 : (s[j + 1].toNat : Int) = 125
          · replace HC := Lib.hid (HC.out.trans (if_pos (g1.trans h125)))
            have b3 := eq_true_of h125
            have hw3 : IntKind.i64.wrap ((j : Int) + 2) = (j : Int) + 2 := wrap_in _ (by omega)
            clear h125 g1
            go_wp2_with fail
            refine bodyPost_ret (results_tmp4 Tryd.results14 _ _ _) rfl ?_
            exact ⟨Below.refl _ _, .inr ⟨a, -1, j + 2, HC.out, rfl⟩⟩
          replace HC := Lib.hid (HC.out.trans (if_neg (fun h => h125 (g1.symm.trans h))))
          have b3 := eq_false_of h125
          clear h125 g1
          have HD := Lib.hid (rdigits_at s (j + 1) m l b w1 hs (Nat.le_of_lt hj1) H2.out HM.out)
          have hms : m ≤ s.size := by
            have := digs_fit (leftB s (j + 1)) 0
            rw [H2.out, left_length] at this
            simp only at this
            have := HM.out
            omega
          go_wp2_with fail
          refine HD.out.mono ?_
          rintro e w2 ⟨rfl, rfl⟩
          clear HD
          by_cases hl : l = 0
          · rw [show decide (0 < l) = false from decide_eq_false (by omega)]
            replace HC := Lib.hid (HC.out.trans (if_pos hl))
            clear hl
            go_wp2_with fail
            refine bodyPost_ret (results_tmp4 Tryd.results14 _ _ _) rfl ?_
            exact ⟨Below.refl _ _, .inl ⟨HC.out, rfl⟩⟩
          rw [show decide (0 < l) = true from decide_eq_true (by omega)]
          replace HC := Lib.hid (HC.out.trans (if_neg hl))
          clear hl
          by_cases hml : m < s.size
          · have g2 := head_at s m hml
            have hw4 : IntKind.i64.wrap ((m : Int) + 1) = (m : Int) + 1 := wrap_in _ (by omega)
            by_cases h125 : (s[m].toNat : Int) = 125
            · replace HC := Lib.hid (HC.out.trans (if_pos (g2.trans h125)))
              have b4 := ne_false_of h125
              clear h125 g2
              go_wp2_with fail
              refine bodyPost_ret (results_tmp4 Tryd.results14 _ _ _) rfl ?_
              exact ⟨Below.refl _ _, .inr ⟨a, b, m + 1, HC.out, rfl⟩⟩
            · replace HC := Lib.hid (HC.out.trans (if_neg (fun h => h125 (g2.symm.trans h))))
              have b4 := ne_true_of h125
              clear h125 g2
              go_wp2_with fail
              refine bodyPost_ret (results_tmp4 Tryd.results14 _ _ _) rfl ?_
              exact ⟨Below.refl _ _, .inl ⟨HC.out, rfl⟩⟩
          · replace HC := Lib.hid (HC.out.trans (if_neg (by rw [head_end s m (by omega)]; decide)))
            go_wp2_with fail
            refine bodyPost_ret (results_tmp4 Tryd.results14 _ _ _) rfl ?_
            exact ⟨Below.refl _ _, .inl ⟨HC.out, rfl⟩⟩
        · have hl0 : l = 0 := by
            have := H2.out
            rw [left_nil s (j + 1) (by omega)] at this
            injection this with _ this
            exact this.symm
          replace HC := Lib.hid ((HC.out.trans (if_neg (by rw [head_end s (j + 1) (by omega)]; decide))).trans (if_pos hl0))
          have x4 : (s.size : Int) ≤ (j : Int) + 1 := by omega
          clear hl0
          go_wp2_with fail
          refine bodyPost_ret (results_tmp4 Tryd.results14 _ _ _) rfl ?_
          exact ⟨Below.refl _ _, .inl ⟨HC.out, rfl⟩⟩
      · replace HC := Lib.hid (HC.out.trans (if_pos (fun h => h44 (g0.symm.trans h))))
        have b2 := ne_true_of h44
        clear h44 g0
        go_wp2_with fail
        refine bodyPost_ret (results_tmp4 Tryd.results14 _ _ _) rfl ?_
        exact ⟨Below.refl _ _, .inl ⟨HC.out, rfl⟩⟩
    · replace HC := Lib.hid ((HC.out.trans (if_neg (by rw [head_end s j (by omega)]; decide))).trans (if_pos (by rw [head_end s j (by omega)]; decide)))
      go_wp2_with fail
      refine bodyPost_ret (results_tmp4 Tryd.results14 _ _ _) rfl ?_
      exact ⟨Below.refl _ _, .inl ⟨HC.out, rfl⟩⟩
  · have HC := Lib.hid (show O = none by rw [← hO]; unfold countS; rw [if_pos h0])
    by_cases hlt : i < s.size
    · rw [head_at s i hlt] at h0
      have b0 := ne_true_of h0
      clear h0 hO
      go_enter Tryd.func14, Tryd.ntmps14
      go_wp2_with fail
      refine bodyPost_ret (results_tmp4 Tryd.results14 _ _ _) rfl ?_
      exact ⟨Below.refl _ _, .inl ⟨HC.out, rfl⟩⟩
    · clear h0 hO
      go_enter Tryd.func14, Tryd.ntmps14
      go_wp2_with fail
      refine bodyPost_ret (results_tmp4 Tryd.results14 _ _ _) rfl ?_
      exact ⟨Below.refl _ _, .inl ⟨HC.out, rfl⟩⟩
end Go.Proofs.YtofhckheeijoiaaDoor
/- What a small whole number that came in fits. -/
namespace Go.Proofs.YtofhckheeijoiaaDoor
open Go Go.RowKit

theorem u8_of_wf {a : Int} (h : (Lit.int .u8 a).wf = true) : 0 ≤ a ∧ a ≤ 255 := by
  simp [Lit.wf, IntKind.min, IntKind.max, IntKind.bits, IntKind.signed] at h
  omega
theorem u16_of_wf {a : Int} (h : (Lit.int .u16 a).wf = true) : 0 ≤ a ∧ a ≤ 65535 := by
  simp [Lit.wf, IntKind.min, IntKind.max, IntKind.bits, IntKind.signed] at h
  omega
theorem i64_of_wf6 {a : Int} (h : (Lit.int .i64 a).wf = true) : -9223372036854775808 ≤ a ∧ a ≤ 9223372036854775807 := by
  simp [Lit.wf, IntKind.min, IntKind.max, IntKind.bits, IntKind.signed] at h
  omega
end Go.Proofs.YtofhckheeijoiaaDoor
