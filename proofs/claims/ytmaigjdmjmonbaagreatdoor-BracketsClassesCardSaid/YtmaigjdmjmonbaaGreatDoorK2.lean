/- Texts merged by program: SBytes, SRet, SWrong, SHas, SHex, SFlag, BrEnd, SArg. No condition. -/
import Derived.Test.YtmaigjdmjmonbaaGreatDoorK1
import Derived.Test.YtmaigjdmjmonbaaGreatDoorProg
import Derived.WalkKit
import Derived.Lib.Strings
import Derived.IntWalk
import Derived.OwnWalk
import Derived.Laws.Rows
import Derived.Lib.Hide
set_option linter.unusedVariables false
/- Texts, byte by byte: what stands at a place is the head of what is left. -/
namespace Go.Proofs.YtmaigjdmjmonbaaGreatDoor
open Go Go.RowKit

theorem wrap_in (n : Int) (h : -9223372036854775808 ≤ n ∧ n ≤ 9223372036854775807) : IntKind.i64.wrap n = n := (IntWalk.i64_left n).trans (IntWalk.wrap64_in n h)
/-- What is left of a text from a place on. -/
def leftB (s : ByteArray) (i : Nat) : List UInt8 := s.toList.drop i
theorem left_cons (s : ByteArray) (i : Nat) (h : i < s.size) : leftB s i = s[i] :: leftB s (i + 1) := by
  unfold leftB
  have hl : i < s.toList.length := by rw [Lib.toList_data, ← Lib.size_eq]; exact h
  rw [List.drop_eq_getElem_cons hl]
  congr 1
  rw [show s[i] = s.data[i]'h from rfl]
  simp [Lib.toList_data]
theorem left_nil (s : ByteArray) (i : Nat) (h : s.size ≤ i) : leftB s i = [] := by
  unfold leftB
  exact List.drop_eq_nil_of_le (by rw [Lib.toList_data, ← Lib.size_eq]; exact h)
theorem left_drop (s : ByteArray) (i k : Nat) : (leftB s i).drop k = leftB s (i + k) := by
  unfold leftB
  rw [List.drop_drop]
theorem left_length (s : ByteArray) (i : Nat) : (leftB s i).length = s.size - i := by
  unfold leftB
  rw [List.length_drop, Lib.toList_data, ← Lib.size_eq]
/-- The first byte of what is left; -1: there is none. -/
def headI : List UInt8 → Int
  | [] => -1
  | c :: _ => c.toNat
theorem head_at (s : ByteArray) (i : Nat) (h : i < s.size) : headI (leftB s i) = (s[i].toNat : Int) := by rw [left_cons s i h]; rfl
theorem head_end (s : ByteArray) (i : Nat) (h : s.size ≤ i) : headI (leftB s i) = -1 := by rw [left_nil s i h]; rfl
theorem head_in {s : ByteArray} {i : Nat} (h : 0 ≤ headI (leftB s i)) : i < s.size := by
  refine Nat.lt_of_not_le fun hn => ?_
  rw [head_end s i hn] at h
  omega
theorem eq_true_of {a b : Int} (h : a = b) : (a == b) = true := by simpa using h
theorem eq_false_of {a b : Int} (h : ¬ a = b) : (a == b) = false := by simpa using h
theorem ne_false_of {a b : Int} (h : a = b) : (a != b) = false := by rw [bne, eq_true_of h]; rfl
theorem ne_true_of {a b : Int} (h : ¬ a = b) : (a != b) = true := by rw [bne, eq_false_of h]; rfl
def isDig (c : UInt8) : Bool := decide (48 ≤ c.toNat) && decide (c.toNat ≤ 57)
theorem isDig_iff (c : UInt8) : isDig c = true ↔ 48 ≤ c.toNat ∧ c.toNat ≤ 57 := by unfold isDig; rw [Bool.and_eq_true, decide_eq_true_iff, decide_eq_true_iff]
/-- The number of the digits ahead, at most 1001, onto n; and how many there are. -/
def digsFrom : List UInt8 → Int → Int × Nat
  | [], n => (n, 0)
  | c :: t, n => if isDig c then ((digsFrom t (min (10 * n + ((c.toNat : Int) - 48)) 1001)).1, (digsFrom t (min (10 * n + ((c.toNat : Int) - 48)) 1001)).2 + 1) else (n, 0)
theorem digs_fit : ∀ (l : List UInt8) (n : Int), (digsFrom l n).2 ≤ l.length
  | [], n => Nat.le_refl _
  | c :: t, n => by
    unfold digsFrom
    split
    · have := digs_fit t (min (10 * n + ((c.toNat : Int) - 48)) 1001)
      simp only [List.length_cons]
      omega
    · exact Nat.zero_le _
theorem results_tmp4 {fn : Func} {t u v x : Tmp} (h : fn.results = #[.tmp t, .tmp u, .tmp v, .tmp x]) (tmps : Array Value) (P : Program) (w : World) :
    (results fn tmps).run P w = .ok (.tuple #[tmps.getD t undef, tmps.getD u undef, tmps.getD v undef, tmps.getD x undef]) w := by
  simp [results, h]
end Go.Proofs.YtmaigjdmjmonbaaGreatDoor
/- Errors and escapes in cells of their own: set anew, handed back among other results. -/
namespace Go.Proofs.YtmaigjdmjmonbaaGreatDoor
open Go Go.RowKit

def wrongV (e a b : Int) : Value := .agg #[.int .i64 e, .int .i64 a, .int .i64 b]
def set3 (w : World) (b : Nat) (x0 x1 x2 : Value) : World := ((w.setCell ⟨b, 0, none⟩ x0).setCell ⟨b, 1, none⟩ x1).setCell ⟨b, 2, none⟩ x2
theorem set3_whole {w : World} {b : Nat} {t : TypeId} {y0 y1 y2 : Value} (h : Whole w b t #[y0, y1, y2]) (x0 x1 x2 : Value) : Whole (set3 w b x0 x1 x2) b t #[x0, x1, x2] := by
  have h10 := ((h.store 0 x0).store 1 x1).store 2 x2
  simp only [List.setIfInBounds_toArray, List.set_cons_zero, List.set_cons_succ] at h10
  exact h10
theorem set3_other {w : World} {b k : Nat} (hk : k ≠ b) (x0 x1 x2 : Value) : (set3 w b x0 x1 x2).heap[k]? = w.heap[k]? := by
  unfold set3
  have h : ∀ (W : World) (j : Nat) (u : Value), (W.setCell ⟨b, j, none⟩ u).heap[k]? = W.heap[k]? := fun W j u => Below.heap_setCell W _ u k hk
  simp only [h]
theorem set3_below {B b : Nat} {w0 w : World} (h : Below B w0 w) (hb : B ≤ b) (x0 x1 x2 : Value) : Below B w0 (set3 w b x0 x1 x2) :=
  ((h.setCell (p := ⟨b, 0, none⟩) hb x0).setCell (p := ⟨b, 1, none⟩) hb x1).setCell (p := ⟨b, 2, none⟩) hb x2
theorem set3_size (w : World) (b : Nat) (x0 x1 x2 : Value) : (set3 w b x0 x1 x2).heap.size = w.heap.size := by
  unfold set3
  simp [World.setCell]
def set4 (w : World) (b : Nat) (x0 x1 x2 x3 : Value) : World := (((w.setCell ⟨b, 0, none⟩ x0).setCell ⟨b, 1, none⟩ x1).setCell ⟨b, 2, none⟩ x2).setCell ⟨b, 3, none⟩ x3
theorem set4_whole {w : World} {b : Nat} {t : TypeId} {y0 y1 y2 y3 : Value} (h : Whole w b t #[y0, y1, y2, y3]) (x0 x1 x2 x3 : Value) : Whole (set4 w b x0 x1 x2 x3) b t #[x0, x1, x2, x3] := by
  have h10 := (((h.store 0 x0).store 1 x1).store 2 x2).store 3 x3
  simp only [List.setIfInBounds_toArray, List.set_cons_zero, List.set_cons_succ] at h10
  exact h10
theorem set4_other {w : World} {b k : Nat} (hk : k ≠ b) (x0 x1 x2 x3 : Value) : (set4 w b x0 x1 x2 x3).heap[k]? = w.heap[k]? := by
  unfold set4
  have h : ∀ (W : World) (j : Nat) (u : Value), (W.setCell ⟨b, j, none⟩ u).heap[k]? = W.heap[k]? := fun W j u => Below.heap_setCell W _ u k hk
  simp only [h]
theorem set4_below {B b : Nat} {w0 w : World} (h : Below B w0 w) (hb : B ≤ b) (x0 x1 x2 x3 : Value) : Below B w0 (set4 w b x0 x1 x2 x3) :=
  (((h.setCell (p := ⟨b, 0, none⟩) hb x0).setCell (p := ⟨b, 1, none⟩) hb x1).setCell (p := ⟨b, 2, none⟩) hb x2).setCell (p := ⟨b, 3, none⟩) hb x3
theorem set4_size (w : World) (b : Nat) (x0 x1 x2 x3 : Value) : (set4 w b x0 x1 x2 x3).heap.size = w.heap.size := by
  unfold set4
  simp [World.setCell]
/-- The cells of a block of three, and that they may be written. -/
def Box3 (W : World) (b : Nat) (x0 x1 x2 : Value) : Prop := W.cell? ⟨b, 0, none⟩ = some x0 ∧ W.cell? ⟨b, 1, none⟩ = some x1 ∧ W.cell? ⟨b, 2, none⟩ = some x2 ∧ W.frozen? ⟨b, 0, none⟩ = false ∧ W.frozen? ⟨b, 1, none⟩ = false ∧ W.frozen? ⟨b, 2, none⟩ = false
theorem Whole.three {W : World} {b : Nat} {t : TypeId} {x0 x1 x2 : Value} (h : Whole W b t #[x0, x1, x2]) : Box3 W b x0 x1 x2 := ⟨h.cell 0, h.cell 1, h.cell 2, h.free 0, h.free 1, h.free 2⟩
def Box4 (W : World) (b : Nat) (x0 x1 x2 x3 : Value) : Prop := W.cell? ⟨b, 0, none⟩ = some x0 ∧ W.cell? ⟨b, 1, none⟩ = some x1 ∧ W.cell? ⟨b, 2, none⟩ = some x2 ∧ W.cell? ⟨b, 3, none⟩ = some x3 ∧ W.frozen? ⟨b, 0, none⟩ = false ∧ W.frozen? ⟨b, 1, none⟩ = false ∧ W.frozen? ⟨b, 2, none⟩ = false ∧ W.frozen? ⟨b, 3, none⟩ = false
theorem Whole.four {W : World} {b : Nat} {t : TypeId} {x0 x1 x2 x3 : Value} (h : Whole W b t #[x0, x1, x2, x3]) : Box4 W b x0 x1 x2 x3 := ⟨h.cell 0, h.cell 1, h.cell 2, h.cell 3, h.free 0, h.free 1, h.free 2, h.free 3⟩

theorem run_wrong {w : World} {b : Nat} {cs : Array Value} (h : Whole w b 27 cs) (hn : cs.size = 3) : (loadVar 27 ⟨b, 0, none⟩).run Tryz.prog w = .ok (.agg cs) w :=
  run_loadVar_row w b _ _ cs (0, 0) _ h Tryz.underlying27 rfl (by rw [hn]; kernel_rfl)
theorem run_esc {w : World} {b : Nat} {cs : Array Value} (h : Whole w b 80 cs) (hn : cs.size = 4) : (loadVar 80 ⟨b, 0, none⟩).run Tryz.prog w = .ok (.agg cs) w :=
  run_loadVar_row w b _ _ cs (0, 0) _ h Tryz.underlying80 rfl (by rw [hn]; kernel_rfl)
/-- Two results and an error. -/
theorem results_ttw {fn : Func} {p q r : Tmp} (h : fn.results = #[.tmp p, .tmp q, .cell r 27]) (tmps : Array Value) {w : World} {b : Nat} {cs : Array Value} (hp : tmps.getD r undef = .pointer (some ⟨b, 0, none⟩)) (hW : Whole w b 27 cs) (hn : cs.size = 3) :
    (results fn tmps).run Tryz.prog w = .ok (.tuple #[tmps.getD p undef, tmps.getD q undef, .agg cs]) w := by
  have hp' : tmps[r]?.getD undef = .pointer (some ⟨b, 0, none⟩) := by simpa using hp
  simp [results, h, hp', asAddr, run_wrong hW hn]
/-- Three results and an error. -/
theorem results_tttw {fn : Func} {p q u r : Tmp} (h : fn.results = #[.tmp p, .tmp q, .tmp u, .cell r 27]) (tmps : Array Value) {w : World} {b : Nat} {cs : Array Value} (hp : tmps.getD r undef = .pointer (some ⟨b, 0, none⟩)) (hW : Whole w b 27 cs) (hn : cs.size = 3) :
    (results fn tmps).run Tryz.prog w = .ok (.tuple #[tmps.getD p undef, tmps.getD q undef, tmps.getD u undef, .agg cs]) w := by
  have hp' : tmps[r]?.getD undef = .pointer (some ⟨b, 0, none⟩) := by simpa using hp
  simp [results, h, hp', asAddr, run_wrong hW hn]
/-- An escape, a place and an error. -/
theorem results_etw {fn : Func} {p q r : Tmp} (h : fn.results = #[.cell p 80, .tmp q, .cell r 27]) (tmps : Array Value) {w : World} {a b : Nat} {es cs : Array Value} (ha : tmps.getD p undef = .pointer (some ⟨a, 0, none⟩)) (hE : Whole w a 80 es) (he : es.size = 4) (hp : tmps.getD r undef = .pointer (some ⟨b, 0, none⟩)) (hW : Whole w b 27 cs) (hn : cs.size = 3) :
    (results fn tmps).run Tryz.prog w = .ok (.tuple #[.agg es, tmps.getD q undef, .agg cs]) w := by
  have ha' : tmps[p]?.getD undef = .pointer (some ⟨a, 0, none⟩) := by simpa using ha
  have hp' : tmps[r]?.getD undef = .pointer (some ⟨b, 0, none⟩) := by simpa using hp
  simp [results, h, ha', hp', asAddr, run_wrong hW hn, run_esc hE he]
/-- An escape and two results. -/
theorem results_ett {fn : Func} {p q r : Tmp} (h : fn.results = #[.cell p 80, .tmp q, .tmp r]) (tmps : Array Value) {w : World} {a : Nat} {es : Array Value} (ha : tmps.getD p undef = .pointer (some ⟨a, 0, none⟩)) (hE : Whole w a 80 es) (he : es.size = 4) :
    (results fn tmps).run Tryz.prog w = .ok (.tuple #[.agg es, tmps.getD q undef, tmps.getD r undef]) w := by
  have ha' : tmps[p]?.getD undef = .pointer (some ⟨a, 0, none⟩) := by simpa using ha
  simp [results, h, ha', asAddr, run_esc hE he]
end Go.Proofs.YtmaigjdmjmonbaaGreatDoor
/- An error and its bytes: a fresh struct, handed back. -/
namespace Go.Proofs.YtmaigjdmjmonbaaGreatDoor
open Go Go.RowKit

set_option maxHeartbeats 800000 in
theorem rwrong_any (e a b : Int) (w : World) : Calls Tryz.prog 81 #[.int .i64 e, .int .i64 a, .int .i64 b] w fun e' w' => e' = .returned (.agg #[.int .i64 e, .int .i64 a, .int .i64 b]) ∧ Below w.heap.size w w' := by
  go_enter Tryz.func81, Tryz.ntmps81
  go_wp2
  have hW : Whole (w.alloc (.cells #[.int .i64 e, .int .i64 a, .int .i64 b] 27)) w.heap.size 27 #[.int .i64 e, .int .i64 a, .int .i64 b] := heap_alloc_new w _
  refine bodyPost_ret (results_cell_row Tryz.results81 _ _ w.heap.size 27 _ (0, 0) _ rfl hW Tryz.underlying27 rfl (by kernel_rfl)) rfl ?_
  exact ⟨rfl, (Below.refl _ w).alloc (Nat.le_refl _) _⟩
end Go.Proofs.YtmaigjdmjmonbaaGreatDoor
/- Does a text stand at a place. -/
namespace Go.Proofs.YtmaigjdmjmonbaaGreatDoor
open Go Go.RowKit

/-- Does a list begin with another one? -/
def preB (a l : List UInt8) : Bool := l.take a.length == a

end Go.Proofs.YtmaigjdmjmonbaaGreatDoor
/- The document's small tables of signs: hexadecimal digits, signs, letters, places. -/
namespace Go.Proofs.YtmaigjdmjmonbaaGreatDoor
open Go Go.RowKit

def hexI (c : Int) : Int := if 48 ≤ c ∧ c ≤ 57 then c - 48 else if 97 ≤ c ∧ c ≤ 102 then c - 87 else if 65 ≤ c ∧ c ≤ 70 then c - 55 else -1
theorem hexI_lo (c : Int) : -1 ≤ hexI c := by unfold hexI; repeat' split
                                              all_goals omega
theorem hexI_hi (c : Int) : hexI c ≤ 15 := by unfold hexI; repeat' split
                                              all_goals omega

set_option maxHeartbeats 800000 in
theorem rhex_any (c : Int) (w : World) (h0 : 0 ≤ c) (h1 : c ≤ 255) : Calls Tryz.prog 108 #[.int .u8 c] w fun e w' => e = .returned (.int .i64 (hexI c)) ∧ w' = w := by
  go_enter Tryz.func108, Tryz.ntmps108
  by_cases a0 : 48 ≤ c
  · by_cases a1 : c ≤ 57
    · go_wp2
      go_ret
      refine ⟨congrArg (fun n => Ending.returned (.int .i64 n)) ?_, rfl⟩
      unfold hexI
      rw [if_pos ⟨a0, a1⟩]
    · by_cases b0 : 97 ≤ c
      · by_cases b1 : c ≤ 102
        · go_wp2
          go_ret
          refine ⟨congrArg (fun n => Ending.returned (.int .i64 n)) ?_, rfl⟩
          unfold hexI
          rw [if_neg (by omega), if_pos ⟨b0, b1⟩]
          omega
        · have d0 : 65 ≤ c := by omega
          have d1 : ¬ c ≤ 70 := by omega
          go_wp2
          go_ret
          refine ⟨congrArg (fun n => Ending.returned (.int .i64 n)) ?_, rfl⟩
          unfold hexI
          rw [if_neg (by omega), if_neg (by omega), if_neg (by omega)]
      · by_cases d0 : 65 ≤ c
        · by_cases d1 : c ≤ 70
          · go_wp2
            go_ret
            refine ⟨congrArg (fun n => Ending.returned (.int .i64 n)) ?_, rfl⟩
            unfold hexI
            rw [if_neg (by omega), if_neg (by omega), if_pos ⟨d0, d1⟩]
            omega
          · go_wp2
            go_ret
            refine ⟨congrArg (fun n => Ending.returned (.int .i64 n)) ?_, rfl⟩
            unfold hexI
            rw [if_neg (by omega), if_neg (by omega), if_neg (by omega)]
        · go_wp2
          go_ret
          refine ⟨congrArg (fun n => Ending.returned (.int .i64 n)) ?_, rfl⟩
          unfold hexI
          rw [if_neg (by omega), if_neg (by omega), if_neg (by omega)]
  · have b0 : ¬ 97 ≤ c := by omega
    have d0 : ¬ 65 ≤ c := by omega
    go_wp2
    go_ret
    refine ⟨congrArg (fun n => Ending.returned (.int .i64 n)) ?_, rfl⟩
    unfold hexI
    rw [if_neg (by omega), if_neg (by omega), if_neg (by omega)]

/-- A sign. -/
def signI (c : Int) : Bool := (decide (33 ≤ c) && decide (c ≤ 47)) || (decide (58 ≤ c) && decide (c ≤ 64)) || (decide (91 ≤ c) && decide (c ≤ 96)) || (decide (123 ≤ c) && decide (c ≤ 126))
def letterI (c : Int) : Int := if c = 97 then 7 else if c = 102 then 12 else if c = 110 then 10 else if c = 114 then 13 else if c = 116 then 9 else if c = 118 then 11 else -1
set_option maxHeartbeats 800000 in
theorem rletter_any (c : Int) (w : World) : Calls Tryz.prog 83 #[.int .i32 c] w fun e w' => e = .returned (.int .i32 (letterI c)) ∧ w' = w := by
  go_enter Tryz.func83, Tryz.ntmps83
  by_cases h0 : c = 97
  · subst h0
    go_wp2
    go_ret
    exact ⟨rfl, rfl⟩
  have g0 := eq_false_of h0
  by_cases h1 : c = 102
  · subst h1
    go_wp2
    go_ret
    exact ⟨rfl, rfl⟩
  have g1 := eq_false_of h1
  by_cases h2 : c = 110
  · subst h2
    go_wp2
    go_ret
    exact ⟨rfl, rfl⟩
  have g2 := eq_false_of h2
  by_cases h3 : c = 114
  · subst h3
    go_wp2
    go_ret
    exact ⟨rfl, rfl⟩
  have g3 := eq_false_of h3
  by_cases h4 : c = 116
  · subst h4
    go_wp2
    go_ret
    exact ⟨rfl, rfl⟩
  have g4 := eq_false_of h4
  by_cases h5 : c = 118
  · subst h5
    go_wp2
    go_ret
    exact ⟨rfl, rfl⟩
  have g5 := eq_false_of h5
  have HD := Lib.hid (show letterI c = -1 by unfold letterI; rw [if_neg h0, if_neg h1, if_neg h2, if_neg h3, if_neg h4, if_neg h5])
  clear h0 h1 h2 h3 h4 h5
  go_wp2
  go_ret
  exact ⟨congrArg (fun n => Ending.returned (.int .i32 n)) HD.out.symm, rfl⟩
def placeI (c : Int) : Int := if c = 65 then 1 else if c = 122 then 2 else if c = 98 then 16 else if c = 66 then 32 else 0
set_option maxHeartbeats 800000 in
theorem rplace_any (c : Int) (w : World) : Calls Tryz.prog 110 #[.int .i32 c] w fun e w' => e = .returned (.int .i64 (placeI c)) ∧ w' = w := by
  go_enter Tryz.func110, Tryz.ntmps110
  by_cases h0 : c = 65
  · subst h0
    go_wp2
    go_ret
    exact ⟨rfl, rfl⟩
  have g0 := eq_false_of h0
  by_cases h1 : c = 122
  · subst h1
    go_wp2
    go_ret
    exact ⟨rfl, rfl⟩
  have g1 := eq_false_of h1
  by_cases h2 : c = 98
  · subst h2
    go_wp2
    go_ret
    exact ⟨rfl, rfl⟩
  have g2 := eq_false_of h2
  by_cases h3 : c = 66
  · subst h3
    go_wp2
    go_ret
    exact ⟨rfl, rfl⟩
  have g3 := eq_false_of h3
  have HD := Lib.hid (show placeI c = 0 by unfold placeI; rw [if_neg h0, if_neg h1, if_neg h2, if_neg h3])
  clear h0 h1 h2 h3
  go_wp2
  go_ret
  exact ⟨congrArg (fun n => Ending.returned (.int .i64 n)) HD.out.symm, rfl⟩
set_option maxHeartbeats 800000 in
theorem rsign_any (c : Int) (w : World) : Calls Tryz.prog 82 #[.int .i32 c] w fun e w' => e = .returned (.bool (signI c)) ∧ w' = w := by
  go_enter Tryz.func82, Tryz.ntmps82
  have hcase : c < 33 ∨ (33 ≤ c ∧ c ≤ 47) ∨ (47 < c ∧ c < 58) ∨ (58 ≤ c ∧ c ≤ 64) ∨ (64 < c ∧ c < 91) ∨ (91 ≤ c ∧ c ≤ 96) ∨ (96 < c ∧ c < 123) ∨ (123 ≤ c ∧ c ≤ 126) ∨ 126 < c := by omega
  rcases hcase with hc | hc | hc | hc | hc | hc | hc | hc | hc
  · have l33 : decide (33 ≤ c) = false := decide_eq_false (by omega)
    have l58 : decide (58 ≤ c) = false := decide_eq_false (by omega)
    have l91 : decide (91 ≤ c) = false := decide_eq_false (by omega)
    have l123 : decide (123 ≤ c) = false := decide_eq_false (by omega)
    have u47 : decide (c ≤ 47) = true := decide_eq_true (by omega)
    have u64 : decide (c ≤ 64) = true := decide_eq_true (by omega)
    have u96 : decide (c ≤ 96) = true := decide_eq_true (by omega)
    have u126 : decide (c ≤ 126) = true := decide_eq_true (by omega)
    have HS := Lib.hid (show signI c = false by unfold signI; rw [l33, l58, l91, l123, u47, u64, u96, u126]; rfl)
    clear hc
    go_wp2
    go_ret
    exact ⟨congrArg (fun b => Ending.returned (.bool b)) HS.out.symm, rfl⟩
  · have l33 : decide (33 ≤ c) = true := decide_eq_true (by omega)
    have l58 : decide (58 ≤ c) = false := decide_eq_false (by omega)
    have l91 : decide (91 ≤ c) = false := decide_eq_false (by omega)
    have l123 : decide (123 ≤ c) = false := decide_eq_false (by omega)
    have u47 : decide (c ≤ 47) = true := decide_eq_true (by omega)
    have u64 : decide (c ≤ 64) = true := decide_eq_true (by omega)
    have u96 : decide (c ≤ 96) = true := decide_eq_true (by omega)
    have u126 : decide (c ≤ 126) = true := decide_eq_true (by omega)
    have HS := Lib.hid (show signI c = true by unfold signI; rw [l33, l58, l91, l123, u47, u64, u96, u126]; rfl)
    clear hc
    go_wp2
    go_ret
    exact ⟨congrArg (fun b => Ending.returned (.bool b)) HS.out.symm, rfl⟩
  · have l33 : decide (33 ≤ c) = true := decide_eq_true (by omega)
    have l58 : decide (58 ≤ c) = false := decide_eq_false (by omega)
    have l91 : decide (91 ≤ c) = false := decide_eq_false (by omega)
    have l123 : decide (123 ≤ c) = false := decide_eq_false (by omega)
    have u47 : decide (c ≤ 47) = false := decide_eq_false (by omega)
    have u64 : decide (c ≤ 64) = true := decide_eq_true (by omega)
    have u96 : decide (c ≤ 96) = true := decide_eq_true (by omega)
    have u126 : decide (c ≤ 126) = true := decide_eq_true (by omega)
    have HS := Lib.hid (show signI c = false by unfold signI; rw [l33, l58, l91, l123, u47, u64, u96, u126]; rfl)
    clear hc
    go_wp2
    go_ret
    exact ⟨congrArg (fun b => Ending.returned (.bool b)) HS.out.symm, rfl⟩
  · have l33 : decide (33 ≤ c) = true := decide_eq_true (by omega)
    have l58 : decide (58 ≤ c) = true := decide_eq_true (by omega)
    have l91 : decide (91 ≤ c) = false := decide_eq_false (by omega)
    have l123 : decide (123 ≤ c) = false := decide_eq_false (by omega)
    have u47 : decide (c ≤ 47) = false := decide_eq_false (by omega)
    have u64 : decide (c ≤ 64) = true := decide_eq_true (by omega)
    have u96 : decide (c ≤ 96) = true := decide_eq_true (by omega)
    have u126 : decide (c ≤ 126) = true := decide_eq_true (by omega)
    have HS := Lib.hid (show signI c = true by unfold signI; rw [l33, l58, l91, l123, u47, u64, u96, u126]; rfl)
    clear hc
    go_wp2
    go_ret
    exact ⟨congrArg (fun b => Ending.returned (.bool b)) HS.out.symm, rfl⟩
  · have l33 : decide (33 ≤ c) = true := decide_eq_true (by omega)
    have l58 : decide (58 ≤ c) = true := decide_eq_true (by omega)
    have l91 : decide (91 ≤ c) = false := decide_eq_false (by omega)
    have l123 : decide (123 ≤ c) = false := decide_eq_false (by omega)
    have u47 : decide (c ≤ 47) = false := decide_eq_false (by omega)
    have u64 : decide (c ≤ 64) = false := decide_eq_false (by omega)
    have u96 : decide (c ≤ 96) = true := decide_eq_true (by omega)
    have u126 : decide (c ≤ 126) = true := decide_eq_true (by omega)
    have HS := Lib.hid (show signI c = false by unfold signI; rw [l33, l58, l91, l123, u47, u64, u96, u126]; rfl)
    clear hc
    go_wp2
    go_ret
    exact ⟨congrArg (fun b => Ending.returned (.bool b)) HS.out.symm, rfl⟩
  · have l33 : decide (33 ≤ c) = true := decide_eq_true (by omega)
    have l58 : decide (58 ≤ c) = true := decide_eq_true (by omega)
    have l91 : decide (91 ≤ c) = true := decide_eq_true (by omega)
    have l123 : decide (123 ≤ c) = false := decide_eq_false (by omega)
    have u47 : decide (c ≤ 47) = false := decide_eq_false (by omega)
    have u64 : decide (c ≤ 64) = false := decide_eq_false (by omega)
    have u96 : decide (c ≤ 96) = true := decide_eq_true (by omega)
    have u126 : decide (c ≤ 126) = true := decide_eq_true (by omega)
    have HS := Lib.hid (show signI c = true by unfold signI; rw [l33, l58, l91, l123, u47, u64, u96, u126]; rfl)
    clear hc
    go_wp2
    go_ret
    exact ⟨congrArg (fun b => Ending.returned (.bool b)) HS.out.symm, rfl⟩
  · have l33 : decide (33 ≤ c) = true := decide_eq_true (by omega)
    have l58 : decide (58 ≤ c) = true := decide_eq_true (by omega)
    have l91 : decide (91 ≤ c) = true := decide_eq_true (by omega)
    have l123 : decide (123 ≤ c) = false := decide_eq_false (by omega)
    have u47 : decide (c ≤ 47) = false := decide_eq_false (by omega)
    have u64 : decide (c ≤ 64) = false := decide_eq_false (by omega)
    have u96 : decide (c ≤ 96) = false := decide_eq_false (by omega)
    have u126 : decide (c ≤ 126) = true := decide_eq_true (by omega)
    have HS := Lib.hid (show signI c = false by unfold signI; rw [l33, l58, l91, l123, u47, u64, u96, u126]; rfl)
    clear hc
    go_wp2
    go_ret
    exact ⟨congrArg (fun b => Ending.returned (.bool b)) HS.out.symm, rfl⟩
  · have l33 : decide (33 ≤ c) = true := decide_eq_true (by omega)
    have l58 : decide (58 ≤ c) = true := decide_eq_true (by omega)
    have l91 : decide (91 ≤ c) = true := decide_eq_true (by omega)
    have l123 : decide (123 ≤ c) = true := decide_eq_true (by omega)
    have u47 : decide (c ≤ 47) = false := decide_eq_false (by omega)
    have u64 : decide (c ≤ 64) = false := decide_eq_false (by omega)
    have u96 : decide (c ≤ 96) = false := decide_eq_false (by omega)
    have u126 : decide (c ≤ 126) = true := decide_eq_true (by omega)
    have HS := Lib.hid (show signI c = true by unfold signI; rw [l33, l58, l91, l123, u47, u64, u96, u126]; rfl)
    clear hc
    go_wp2
    go_ret
    exact ⟨congrArg (fun b => Ending.returned (.bool b)) HS.out.symm, rfl⟩
  · have l33 : decide (33 ≤ c) = true := decide_eq_true (by omega)
    have l58 : decide (58 ≤ c) = true := decide_eq_true (by omega)
    have l91 : decide (91 ≤ c) = true := decide_eq_true (by omega)
    have l123 : decide (123 ≤ c) = true := decide_eq_true (by omega)
    have u47 : decide (c ≤ 47) = false := decide_eq_false (by omega)
    have u64 : decide (c ≤ 64) = false := decide_eq_false (by omega)
    have u96 : decide (c ≤ 96) = false := decide_eq_false (by omega)
    have u126 : decide (c ≤ 126) = false := decide_eq_false (by omega)
    have HS := Lib.hid (show signI c = false by unfold signI; rw [l33, l58, l91, l123, u47, u64, u96, u126]; rfl)
    clear hc
    go_wp2
    go_ret
    exact ⟨congrArg (fun b => Ending.returned (.bool b)) HS.out.symm, rfl⟩
end Go.Proofs.YtmaigjdmjmonbaaGreatDoor
/- What flag a letter stands for. -/
namespace Go.Proofs.YtmaigjdmjmonbaaGreatDoor
open Go Go.RowKit

def flagI (c : Int) : Int := if c = 105 then 1 else if c = 109 then 4 else if c = 115 then 8 else if c = 85 then 16 else 0
end Go.Proofs.YtmaigjdmjmonbaaGreatDoor
/- Where a name between colons ends. -/
namespace Go.Proofs.YtmaigjdmjmonbaaGreatDoor
open Go Go.RowKit

/-- How many letters, or ^, stand first. -/
def colN : List UInt8 → Nat
  | [] => 0
  | c :: t => if (97 ≤ c.toNat ∧ c.toNat ≤ 122) ∨ c.toNat = 94 then colN t + 1 else 0
theorem colN_le : ∀ l : List UInt8, colN l ≤ l.length
  | [] => Nat.le_refl _
  | c :: t => by
    unfold colN
    have := colN_le t
    split <;> simp <;> omega
/-- Where a name between colons ends. -/
def colS (s : ByteArray) (i : Nat) : Option Nat :=
  if ¬ (headI (leftB s i) = 91 ∧ headI (leftB s (i + 1)) = 58) then none else
  if headI (leftB s (i + 2 + colN (leftB s (i + 2)))) = 58 ∧ headI (leftB s (i + 2 + colN (leftB s (i + 2)) + 1)) = 93 then some (i + 2 + colN (leftB s (i + 2))) else none
def colI : Option Nat → Int
  | none => -1
  | some k => k
theorem colS_le {s : ByteArray} {i k : Nat} (h : colS s i = some k) : i + 2 ≤ k ∧ k + 2 ≤ s.size := by
  unfold colS at h
  split at h
  · cases h
  · split at h
    · rename_i h2
      have := head_in (s := s) (i := i + 2 + colN (leftB s (i + 2)) + 1) (by omega)
      cases h
      omega
    · cases h

set_option maxHeartbeats 3200000 in
set_option maxRecDepth 100000 in
theorem rend_any (s : ByteArray) (i : Nat) (w : World) (hs : s.size ≤ 4503599627370496) (hi : i ≤ s.size) :
    Calls Tryz.prog 44 #[.string s, .int .i64 i] w fun e w' => e = .returned (.int .i64 (colI (colS s i))) ∧ w' = w := by
  obtain ⟨O, hO⟩ : ∃ O, colS s i = O := ⟨_, rfl⟩
  rw [hO]
  have hw1 : IntKind.i64.wrap ((i : Int) + 1) = (i : Int) + 1 := wrap_in _ (by omega)
  by_cases h0 : i + 1 < s.size
  · have hlt : i < s.size := by omega
    have x1 : (0 : Int) ≤ (i : Int) + 1 := by omega
    have x2 : (i : Int) + 1 < (s.size : Int) := by omega
    have x3 : ((i : Int) + 1).toNat = i + 1 := by omega
    have x4 : ¬ (s.size : Int) ≤ (i : Int) + 1 := by omega
    have g0 := head_at s i hlt
    have g1 := head_at s (i + 1) h0
    by_cases h91 : (s[i].toNat : Int) = 91
    · have b0 := ne_false_of h91
      by_cases h58 : (s[i + 1].toNat : Int) = 58
      · have b1 := ne_false_of h58
        have hw2 : IntKind.i64.wrap ((i : Int) + 2) = (i : Int) + 2 := wrap_in _ (by omega)
        have hO2 := hO.symm.trans (if_neg (fun h => h ⟨g0.trans h91, g1.trans h58⟩))
        obtain ⟨E, hE⟩ : ∃ E, i + 2 + colN (leftB s (i + 2)) = E := ⟨_, rfl⟩
        have hES : E ≤ s.size := by
          have := colN_le (leftB s (i + 2))
          rw [left_length] at this
          omega
        rw [hE] at hO2
        have HE := Lib.hid hE; have HO := Lib.hid hO2
        clear hE hO hO2 h91 h58 g0 g1
        have hwE : IntKind.i64.wrap ((E : Int) + 1) = (E : Int) + 1 := wrap_in _ (by omega)
        by_cases q0 : E + 1 < s.size
        · have hlE : E < s.size := by omega
          have y1 : (0 : Int) ≤ (E : Int) + 1 := by omega
          have y2 : (E : Int) + 1 < (s.size : Int) := by omega
          have y3 : ((E : Int) + 1).toNat = E + 1 := by omega
          have g0 := head_at s E hlE
          have g1 := head_at s (E + 1) q0
          by_cases q1 : (s[E].toNat : Int) = 58
          · have c0 := eq_true_of q1
            by_cases q2 : (s[E + 1].toNat : Int) = 93
            · have c1 := eq_true_of q2
              have HN := Lib.hid (HO.out.trans (if_pos ⟨g0.trans q1, g1.trans q2⟩))
              clear HO q1 q2 g0 g1
              go_enter Tryz.func44, Tryz.ntmps44
              go_wp2_with fail
              go_loopw [5] (fun vj wr => ∃ j : Nat, i + 2 ≤ j ∧ j ≤ s.size ∧ vj = .int .i64 j ∧ E = j + colN (leftB s j) ∧ wr = w) (fun vj _ => s.size - (intOf vj).toNat)
              case atStart => exact ⟨i + 2, Nat.le_refl _, h0, rfl, HE.out.symm, rfl⟩
              case round =>
                obtain ⟨j, hij, hj, rfl, hg, rfl⟩ := hrel
                have HG := Lib.hid hg
                clear hg
                have hw3 : IntKind.i64.wrap ((j : Int) + 1) = (j : Int) + 1 := wrap_in _ (by omega)
                by_cases hlj : j < s.size
                · by_cases g1 : 97 ≤ s[j].toNat
                  · by_cases g2 : s[j].toNat ≤ 122
                    · have g0 := trivial
                      have HG2 := Lib.hid (show E = j + 1 + colN (leftB s (j + 1)) by
                        have := HG.out
                        rw [left_cons s j hlj, colN, if_pos (.inl ⟨g1, g2⟩)] at this
                        omega)
                      clear HG
                      go_wp2
                      exact ⟨⟨j + 1, by omega, hlj, rfl, HG2.out, trivial⟩, by simp only [intOf]; omega⟩
                    · have g3 : ((s[j].toNat : Int) == 94) = false := eq_false_of (by omega)
                      have HJ : E = j := by
                        have := HG.out
                        rw [left_cons s j hlj, colN, if_neg (by omega)] at this
                        exact this
                      subst HJ
                      clear HG
                      go_wp2
                      go_ret
                      exact ⟨by rw [HN.out]; rfl, rfl⟩
                  · by_cases g2 : s[j].toNat = 94
                    · have g3 : ((s[j].toNat : Int) == 94) = true := eq_true_of (by omega)
                      have HG2 := Lib.hid (show E = j + 1 + colN (leftB s (j + 1)) by
                        have := HG.out
                        rw [left_cons s j hlj, colN, if_pos (.inr g2)] at this
                        omega)
                      clear g2
                      clear HG
                      go_wp2
                      exact ⟨⟨j + 1, by omega, hlj, rfl, HG2.out, trivial⟩, by simp only [intOf]; omega⟩
                    · have g3 : ((s[j].toNat : Int) == 94) = false := eq_false_of (by omega)
                      have HJ : E = j := by
                        have := HG.out
                        rw [left_cons s j hlj, colN, if_neg (by omega)] at this
                        exact this
                      clear g2
                      subst HJ
                      clear HG
                      go_wp2
                      go_ret
                      exact ⟨by rw [HN.out]; rfl, rfl⟩
                · have HJ : E = j := by
                    have := HG.out
                    rw [left_nil s j (by omega), colN] at this
                    exact this
                  exact absurd hlE (by omega)
            · have c1 := eq_false_of q2
              have HN := Lib.hid (HO.out.trans (if_neg (fun h => q2 (g1.symm.trans h.2))))
              clear HO q1 q2 g0 g1
              go_enter Tryz.func44, Tryz.ntmps44
              go_wp2_with fail
              go_loopw [5] (fun vj wr => ∃ j : Nat, i + 2 ≤ j ∧ j ≤ s.size ∧ vj = .int .i64 j ∧ E = j + colN (leftB s j) ∧ wr = w) (fun vj _ => s.size - (intOf vj).toNat)
              case atStart => exact ⟨i + 2, Nat.le_refl _, h0, rfl, HE.out.symm, rfl⟩
              case round =>
                obtain ⟨j, hij, hj, rfl, hg, rfl⟩ := hrel
                have HG := Lib.hid hg
                clear hg
                have hw3 : IntKind.i64.wrap ((j : Int) + 1) = (j : Int) + 1 := wrap_in _ (by omega)
                by_cases hlj : j < s.size
                · by_cases g1 : 97 ≤ s[j].toNat
                  · by_cases g2 : s[j].toNat ≤ 122
                    · have g0 := trivial
                      have HG2 := Lib.hid (show E = j + 1 + colN (leftB s (j + 1)) by
                        have := HG.out
                        rw [left_cons s j hlj, colN, if_pos (.inl ⟨g1, g2⟩)] at this
                        omega)
                      clear HG
                      go_wp2
                      exact ⟨⟨j + 1, by omega, hlj, rfl, HG2.out, trivial⟩, by simp only [intOf]; omega⟩
                    · have g3 : ((s[j].toNat : Int) == 94) = false := eq_false_of (by omega)
                      have HJ : E = j := by
                        have := HG.out
                        rw [left_cons s j hlj, colN, if_neg (by omega)] at this
                        exact this
                      subst HJ
                      clear HG
                      go_wp2
                      go_ret
                      exact ⟨by rw [HN.out]; rfl, rfl⟩
                  · by_cases g2 : s[j].toNat = 94
                    · have g3 : ((s[j].toNat : Int) == 94) = true := eq_true_of (by omega)
                      have HG2 := Lib.hid (show E = j + 1 + colN (leftB s (j + 1)) by
                        have := HG.out
                        rw [left_cons s j hlj, colN, if_pos (.inr g2)] at this
                        omega)
                      clear g2
                      clear HG
                      go_wp2
                      exact ⟨⟨j + 1, by omega, hlj, rfl, HG2.out, trivial⟩, by simp only [intOf]; omega⟩
                    · have g3 : ((s[j].toNat : Int) == 94) = false := eq_false_of (by omega)
                      have HJ : E = j := by
                        have := HG.out
                        rw [left_cons s j hlj, colN, if_neg (by omega)] at this
                        exact this
                      clear g2
                      subst HJ
                      clear HG
                      go_wp2
                      go_ret
                      exact ⟨by rw [HN.out]; rfl, rfl⟩
                · have HJ : E = j := by
                    have := HG.out
                    rw [left_nil s j (by omega), colN] at this
                    exact this
                  exact absurd hlE (by omega)
          · have c0 := eq_false_of q1
            have HN := Lib.hid (HO.out.trans (if_neg (fun h => q1 (g0.symm.trans h.1))))
            clear HO q1 g0 g1
            go_enter Tryz.func44, Tryz.ntmps44
            go_wp2_with fail
            go_loopw [5] (fun vj wr => ∃ j : Nat, i + 2 ≤ j ∧ j ≤ s.size ∧ vj = .int .i64 j ∧ E = j + colN (leftB s j) ∧ wr = w) (fun vj _ => s.size - (intOf vj).toNat)
            case atStart => exact ⟨i + 2, Nat.le_refl _, h0, rfl, HE.out.symm, rfl⟩
            case round =>
              obtain ⟨j, hij, hj, rfl, hg, rfl⟩ := hrel
              have HG := Lib.hid hg
              clear hg
              have hw3 : IntKind.i64.wrap ((j : Int) + 1) = (j : Int) + 1 := wrap_in _ (by omega)
              by_cases hlj : j < s.size
              · by_cases g1 : 97 ≤ s[j].toNat
                · by_cases g2 : s[j].toNat ≤ 122
                  · have g0 := trivial
                    have HG2 := Lib.hid (show E = j + 1 + colN (leftB s (j + 1)) by
                      have := HG.out
                      rw [left_cons s j hlj, colN, if_pos (.inl ⟨g1, g2⟩)] at this
                      omega)
                    clear HG
                    go_wp2
                    exact ⟨⟨j + 1, by omega, hlj, rfl, HG2.out, trivial⟩, by simp only [intOf]; omega⟩
                  · have g3 : ((s[j].toNat : Int) == 94) = false := eq_false_of (by omega)
                    have HJ : E = j := by
                      have := HG.out
                      rw [left_cons s j hlj, colN, if_neg (by omega)] at this
                      exact this
                    subst HJ
                    clear HG
                    go_wp2
                    go_ret
                    exact ⟨by rw [HN.out]; rfl, rfl⟩
                · by_cases g2 : s[j].toNat = 94
                  · have g3 : ((s[j].toNat : Int) == 94) = true := eq_true_of (by omega)
                    have HG2 := Lib.hid (show E = j + 1 + colN (leftB s (j + 1)) by
                      have := HG.out
                      rw [left_cons s j hlj, colN, if_pos (.inr g2)] at this
                      omega)
                    clear g2
                    clear HG
                    go_wp2
                    exact ⟨⟨j + 1, by omega, hlj, rfl, HG2.out, trivial⟩, by simp only [intOf]; omega⟩
                  · have g3 : ((s[j].toNat : Int) == 94) = false := eq_false_of (by omega)
                    have HJ : E = j := by
                      have := HG.out
                      rw [left_cons s j hlj, colN, if_neg (by omega)] at this
                      exact this
                    clear g2
                    subst HJ
                    clear HG
                    go_wp2
                    go_ret
                    exact ⟨by rw [HN.out]; rfl, rfl⟩
              · have HJ : E = j := by
                  have := HG.out
                  rw [left_nil s j (by omega), colN] at this
                  exact this
                exact absurd hlE (by omega)
        · have y2 : ¬ (E : Int) + 1 < (s.size : Int) := by omega
          have HN := Lib.hid (HO.out.trans (if_neg (fun h => q0 (head_in (by omega)))))
          clear HO
          go_enter Tryz.func44, Tryz.ntmps44
          go_wp2_with fail
          go_loopw [5] (fun vj wr => ∃ j : Nat, i + 2 ≤ j ∧ j ≤ s.size ∧ vj = .int .i64 j ∧ E = j + colN (leftB s j) ∧ wr = w) (fun vj _ => s.size - (intOf vj).toNat)
          case atStart => exact ⟨i + 2, Nat.le_refl _, h0, rfl, HE.out.symm, rfl⟩
          case round =>
            obtain ⟨j, hij, hj, rfl, hg, rfl⟩ := hrel
            have HG := Lib.hid hg
            clear hg
            have hw3 : IntKind.i64.wrap ((j : Int) + 1) = (j : Int) + 1 := wrap_in _ (by omega)
            by_cases hlj : j < s.size
            · by_cases g1 : 97 ≤ s[j].toNat
              · by_cases g2 : s[j].toNat ≤ 122
                · have g0 := trivial
                  have HG2 := Lib.hid (show E = j + 1 + colN (leftB s (j + 1)) by
                    have := HG.out
                    rw [left_cons s j hlj, colN, if_pos (.inl ⟨g1, g2⟩)] at this
                    omega)
                  clear HG
                  go_wp2
                  exact ⟨⟨j + 1, by omega, hlj, rfl, HG2.out, trivial⟩, by simp only [intOf]; omega⟩
                · have g3 : ((s[j].toNat : Int) == 94) = false := eq_false_of (by omega)
                  have HJ : E = j := by
                    have := HG.out
                    rw [left_cons s j hlj, colN, if_neg (by omega)] at this
                    exact this
                  subst HJ
                  clear HG
                  go_wp2
                  go_ret
                  exact ⟨by rw [HN.out]; rfl, rfl⟩
              · by_cases g2 : s[j].toNat = 94
                · have g3 : ((s[j].toNat : Int) == 94) = true := eq_true_of (by omega)
                  have HG2 := Lib.hid (show E = j + 1 + colN (leftB s (j + 1)) by
                    have := HG.out
                    rw [left_cons s j hlj, colN, if_pos (.inr g2)] at this
                    omega)
                  clear g2
                  clear HG
                  go_wp2
                  exact ⟨⟨j + 1, by omega, hlj, rfl, HG2.out, trivial⟩, by simp only [intOf]; omega⟩
                · have g3 : ((s[j].toNat : Int) == 94) = false := eq_false_of (by omega)
                  have HJ : E = j := by
                    have := HG.out
                    rw [left_cons s j hlj, colN, if_neg (by omega)] at this
                    exact this
                  clear g2
                  subst HJ
                  clear HG
                  go_wp2
                  go_ret
                  exact ⟨by rw [HN.out]; rfl, rfl⟩
            · have HJ : E = j := by
                have := HG.out
                rw [left_nil s j (by omega), colN] at this
                exact this
              subst HJ
              clear HG
              go_wp2
              go_ret
              exact ⟨by rw [HN.out]; rfl, rfl⟩
      · have b1 := ne_true_of h58
        have HN := Lib.hid (hO.symm.trans (if_pos (fun h => h58 (g1.symm.trans h.2))))
        clear hO h91 h58 g0 g1
        go_enter Tryz.func44, Tryz.ntmps44
        go_wp2_with fail
        go_ret
        exact ⟨by rw [HN.out]; rfl, rfl⟩
    · have b0 := ne_true_of h91
      have HN := Lib.hid (hO.symm.trans (if_pos (fun h => h91 (g0.symm.trans h.1))))
      clear hO h91 g0 g1
      go_enter Tryz.func44, Tryz.ntmps44
      go_wp2_with fail
      go_ret
      exact ⟨by rw [HN.out]; rfl, rfl⟩
  · have x4 : (s.size : Int) ≤ (i : Int) + 1 := by omega
    have HN := Lib.hid (hO.symm.trans (if_pos (fun h => h0 (head_in (by omega)))))
    clear hO
    go_enter Tryz.func44, Tryz.ntmps44
    go_wp2_with fail
    go_ret
    exact ⟨by rw [HN.out]; rfl, rfl⟩
end Go.Proofs.YtmaigjdmjmonbaaGreatDoor
/- What a small whole number that came in fits. -/
namespace Go.Proofs.YtmaigjdmjmonbaaGreatDoor
open Go Go.RowKit

theorem u8_of_wf {a : Int} (h : (Lit.int .u8 a).wf = true) : 0 ≤ a ∧ a ≤ 255 := by
  simp [Lit.wf, IntKind.min, IntKind.max, IntKind.bits, IntKind.signed] at h
  omega
theorem u16_of_wf {a : Int} (h : (Lit.int .u16 a).wf = true) : 0 ≤ a ∧ a ≤ 65535 := by
  simp [Lit.wf, IntKind.min, IntKind.max, IntKind.bits, IntKind.signed] at h
  omega
theorem i64_of_wf6 {a : Int} (h : (Lit.int .i64 a).wf = true) : -9223372036854775808 ≤ a ∧ a ≤ 9223372036854775807 := by
  simp [Lit.wf, IntKind.min, IntKind.max, IntKind.bits, IntKind.signed] at h
  omega
end Go.Proofs.YtmaigjdmjmonbaaGreatDoor
