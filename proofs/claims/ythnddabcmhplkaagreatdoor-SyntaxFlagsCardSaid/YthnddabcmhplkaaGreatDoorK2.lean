/- Texts merged by program. No condition. -/
import Derived.WalkSmall
import Derived.Lib.Hide
import Derived.BigQuiet
import Derived.Test.YthnddabcmhplkaaGreatDoorProg
import Derived.Lib.Strings
namespace Go.Proofs.YthnddabcmhplkaaGreatDoor
open Go Go.RowKit
def Whole (w : World) (g : Nat) (t : TypeId) (cs : Array Value) : Prop := w.heap[g]? = some (.cells cs t (0,0))
section
variable {w w' : World} {g : Nat} {t : TypeId} {cs : Array Value}
theorem Whole.lt (h : Whole w g t cs) : g < w.heap.size := (Array.getElem?_eq_some_iff.1 h).1
theorem Whole.cell (h : Whole w g t cs) (i : Nat) : w.cell? ⟨g,i,none⟩ = cs[i]? := cell_of_row w g i cs t (0,0) h
theorem Whole.free (h : Whole w g t cs) (i : Nat) : w.frozen? ⟨g,i,none⟩ = false := by
 unfold Whole at h
 simp [World.frozen?,h]
theorem Whole.alloc (h : Whole w g t cs) (o : Obj) : Whole (w.alloc o) g t cs := (Below.heap_alloc w o g h.lt).trans h
theorem Whole.drew (h : Whole w g t cs) : Whole w.drew g t cs := h
theorem Whole.below {B : Nat} (h : Whole w g t cs) (hb : Below B w w') (hg : g < B) : Whole w' g t cs := (hb.block g hg).trans h
theorem Whole.grown {row : Option Nat} (h : Whole w g t cs) (hb : w.grownBy w' row) (hg : row ≠ some g) : Whole w' g t cs := (hb.block g h.lt (fun e => hg e.symm)).trans h
theorem Whole.store (h : Whole w g t cs) (i : Nat) (u : Value) : Whole (w.setCell ⟨g,i,none⟩ u) g t (cs.setIfInBounds i u) := by
 unfold Whole at h ⊢
 simp [World.setCell,Array.getElem?_modify,h]
theorem Whole.far (h : Whole w g t cs) {g' : Nat} (hne : g ≠ g') (i : Nat) (u : Value) : Whole (w.setCell ⟨g',i,none⟩ u) g t cs := (Below.heap_setCell w _ u g hne).trans h
theorem own_slice {base : Nat} {e : TypeId} {n : Nat} {v : Value} {xs : List Value} (h : w.ownsRow base e 1 v n xs) : ∃ a c,v = .slice a n c := by
 rcases h.2 with ⟨rfl,rfl⟩ | ⟨q,cap,cur,rfl,_⟩
 ·exact ⟨_,_,rfl⟩
 ·exact ⟨_,_,rfl⟩
theorem below_draws (w : World) (n : Nat) : Below w.heap.size w (w.drewN n) := _root_.Go.below_drewN (Below.refl _ _) n
end
end Go.Proofs.YthnddabcmhplkaaGreatDoor
set_option linter.unusedVariables false
namespace Go.Proofs.YthnddabcmhplkaaGreatDoor
open Go Go.RowKit
theorem wrap_in (n : Int) (h : -9223372036854775808 ≤ n ∧ n ≤ 9223372036854775807) : IntKind.i64.wrap n = n := (IntWalk.i64_left n).trans (IntWalk.wrap64_in n h)
def leftB (s : ByteArray) (i : Nat) : List UInt8 := s.toList.drop i
theorem left_cons (s : ByteArray) (i : Nat) (h : i < s.size) : leftB s i = s[i] :: leftB s (i + 1) := by
 unfold leftB
 have hl : i < s.toList.length := by rw [Lib.toList_data,← Lib.size_eq];exact h
 rw [List.drop_eq_getElem_cons hl]
 congr 1
 rw [show s[i] = s.data[i]'h from rfl]
 simp [Lib.toList_data]
theorem left_nil (s : ByteArray) (i : Nat) (h : s.size ≤ i) : leftB s i = [] := by
 unfold leftB
 exact List.drop_eq_nil_of_le (by rw [Lib.toList_data,← Lib.size_eq];exact h)
theorem left_drop (s : ByteArray) (i k : Nat) : (leftB s i).drop k = leftB s (i + k) := by
 unfold leftB
 rw [List.drop_drop]
theorem left_length (s : ByteArray) (i : Nat) : (leftB s i).length = s.size - i := by
 unfold leftB
 rw [List.length_drop,Lib.toList_data,← Lib.size_eq]
def headI : List UInt8 → Int
 | [] => -1
 | c :: _ => c.toNat
theorem head_at (s : ByteArray) (i : Nat) (h : i < s.size) : headI (leftB s i) = (s[i].toNat : Int) := by rw [left_cons s i h];rfl
theorem head_end (s : ByteArray) (i : Nat) (h : s.size ≤ i) : headI (leftB s i) = -1 := by rw [left_nil s i h];rfl
theorem head_in {s : ByteArray} {i : Nat} (h : 0 ≤ headI (leftB s i)) : i < s.size := by
 refine Nat.lt_of_not_le fun hn => ?_
 rw [head_end s i hn] at h
 omega
theorem eq_true_of {a b : Int} (h : a = b) : (a == b) = true := by simpa using h
theorem eq_false_of {a b : Int} (h : ¬ a = b) : (a == b) = false := by simpa using h
theorem ne_false_of {a b : Int} (h : a = b) : (a != b) = false := by rw [bne,eq_true_of h];rfl
theorem ne_true_of {a b : Int} (h : ¬ a = b) : (a != b) = true := by rw [bne,eq_false_of h];rfl
def isDig (c : UInt8) : Bool := decide (48 ≤ c.toNat) && decide (c.toNat ≤ 57)
theorem isDig_iff (c : UInt8) : isDig c = true ↔ 48 ≤ c.toNat ∧ c.toNat ≤ 57 := by unfold isDig;rw [Bool.and_eq_true,decide_eq_true_iff,decide_eq_true_iff]
def digsFrom : List UInt8 → Int → Int × Nat
 | [],n => (n,0)
 | c :: t,n => if isDig c then ((digsFrom t (min (10 * n + ((c.toNat : Int) - 48)) 1001)).1,(digsFrom t (min (10 * n + ((c.toNat : Int) - 48)) 1001)).2 + 1) else (n,0)
theorem digs_fit : ∀ (l : List UInt8) (n : Int),(digsFrom l n).2 ≤ l.length
 | [],n => Nat.le_refl _
 | c :: t,n => by
  unfold digsFrom
  split
  ·have := digs_fit t (min (10 * n + ((c.toNat : Int) - 48)) 1001)
   simp only [List.length_cons]
   omega
  ·exact Nat.zero_le _
theorem results_tmp4 {fn : Func} {t u v x : Tmp} (h : fn.results = #[.tmp t,.tmp u,.tmp v,.tmp x]) (tmps : Array Value) (P : Program) (w : World) :
  (results fn tmps).run P w = .ok (.tuple #[tmps.getD t undef,tmps.getD u undef,tmps.getD v undef,tmps.getD x undef]) w := by
 simp [results,h]
def wrongV (e a b : Int) : Value := .agg #[.int .i64 e,.int .i64 a,.int .i64 b]
def set3 (w : World) (b : Nat) (x0 x1 x2 : Value) : World := ((w.setCell ⟨b,0,none⟩ x0).setCell ⟨b,1,none⟩ x1).setCell ⟨b,2,none⟩ x2
theorem set3_whole {w : World} {b : Nat} {t : TypeId} {y0 y1 y2 : Value} (h : Whole w b t #[y0,y1,y2]) (x0 x1 x2 : Value) : Whole (set3 w b x0 x1 x2) b t #[x0,x1,x2] := by
 have h10 := ((h.store 0 x0).store 1 x1).store 2 x2
 simp only [List.setIfInBounds_toArray,List.set_cons_zero,List.set_cons_succ] at h10
 exact h10
theorem set3_other {w : World} {b k : Nat} (hk : k ≠ b) (x0 x1 x2 : Value) : (set3 w b x0 x1 x2).heap[k]? = w.heap[k]? := by
 unfold set3
 have h : ∀ (W : World) (j : Nat) (u : Value),(W.setCell ⟨b,j,none⟩ u).heap[k]? = W.heap[k]? := fun W j u => Below.heap_setCell W _ u k hk
 simp only [h]
theorem set3_below {B b : Nat} {w0 w : World} (h : Below B w0 w) (hb : B ≤ b) (x0 x1 x2 : Value) : Below B w0 (set3 w b x0 x1 x2) :=
 ((h.setCell (p := ⟨b,0,none⟩) hb x0).setCell (p := ⟨b,1,none⟩) hb x1).setCell (p := ⟨b,2,none⟩) hb x2
theorem set3_size (w : World) (b : Nat) (x0 x1 x2 : Value) : (set3 w b x0 x1 x2).heap.size = w.heap.size := by
 unfold set3
 simp [World.setCell]
def set4 (w : World) (b : Nat) (x0 x1 x2 x3 : Value) : World := (((w.setCell ⟨b,0,none⟩ x0).setCell ⟨b,1,none⟩ x1).setCell ⟨b,2,none⟩ x2).setCell ⟨b,3,none⟩ x3
theorem set4_whole {w : World} {b : Nat} {t : TypeId} {y0 y1 y2 y3 : Value} (h : Whole w b t #[y0,y1,y2,y3]) (x0 x1 x2 x3 : Value) : Whole (set4 w b x0 x1 x2 x3) b t #[x0,x1,x2,x3] := by
 have h10 := (((h.store 0 x0).store 1 x1).store 2 x2).store 3 x3
 simp only [List.setIfInBounds_toArray,List.set_cons_zero,List.set_cons_succ] at h10
 exact h10
theorem set4_other {w : World} {b k : Nat} (hk : k ≠ b) (x0 x1 x2 x3 : Value) : (set4 w b x0 x1 x2 x3).heap[k]? = w.heap[k]? := by
 unfold set4
 have h : ∀ (W : World) (j : Nat) (u : Value),(W.setCell ⟨b,j,none⟩ u).heap[k]? = W.heap[k]? := fun W j u => Below.heap_setCell W _ u k hk
 simp only [h]
theorem set4_below {B b : Nat} {w0 w : World} (h : Below B w0 w) (hb : B ≤ b) (x0 x1 x2 x3 : Value) : Below B w0 (set4 w b x0 x1 x2 x3) :=
 (((h.setCell (p := ⟨b,0,none⟩) hb x0).setCell (p := ⟨b,1,none⟩) hb x1).setCell (p := ⟨b,2,none⟩) hb x2).setCell (p := ⟨b,3,none⟩) hb x3
theorem set4_size (w : World) (b : Nat) (x0 x1 x2 x3 : Value) : (set4 w b x0 x1 x2 x3).heap.size = w.heap.size := by
 unfold set4
 simp [World.setCell]
def Box3 (W : World) (b : Nat) (x0 x1 x2 : Value) : Prop := W.cell? ⟨b,0,none⟩ = some x0 ∧ W.cell? ⟨b,1,none⟩ = some x1 ∧ W.cell? ⟨b,2,none⟩ = some x2 ∧ W.frozen? ⟨b,0,none⟩ = false ∧ W.frozen? ⟨b,1,none⟩ = false ∧ W.frozen? ⟨b,2,none⟩ = false
theorem Whole.three {W : World} {b : Nat} {t : TypeId} {x0 x1 x2 : Value} (h : Whole W b t #[x0,x1,x2]) : Box3 W b x0 x1 x2 := ⟨h.cell 0,h.cell 1,h.cell 2,h.free 0,h.free 1,h.free 2⟩
def Box4 (W : World) (b : Nat) (x0 x1 x2 x3 : Value) : Prop := W.cell? ⟨b,0,none⟩ = some x0 ∧ W.cell? ⟨b,1,none⟩ = some x1 ∧ W.cell? ⟨b,2,none⟩ = some x2 ∧ W.cell? ⟨b,3,none⟩ = some x3 ∧ W.frozen? ⟨b,0,none⟩ = false ∧ W.frozen? ⟨b,1,none⟩ = false ∧ W.frozen? ⟨b,2,none⟩ = false ∧ W.frozen? ⟨b,3,none⟩ = false
theorem Whole.four {W : World} {b : Nat} {t : TypeId} {x0 x1 x2 x3 : Value} (h : Whole W b t #[x0,x1,x2,x3]) : Box4 W b x0 x1 x2 x3 := ⟨h.cell 0,h.cell 1,h.cell 2,h.cell 3,h.free 0,h.free 1,h.free 2,h.free 3⟩
theorem run_wrong {w : World} {b : Nat} {cs : Array Value} (h : Whole w b 32 cs) (hn : cs.size = 3) : (loadVar 32 ⟨b,0,none⟩).run Tryz.prog w = .ok (.agg cs) w :=
 run_loadVar_row w b _ _ cs (0,0) _ h Tryz.underlying32 rfl (by rw [hn];kernel_rfl)
theorem run_esc {w : World} {b : Nat} {cs : Array Value} (h : Whole w b 115 cs) (hn : cs.size = 4) : (loadVar 115 ⟨b,0,none⟩).run Tryz.prog w = .ok (.agg cs) w :=
 run_loadVar_row w b _ _ cs (0,0) _ h Tryz.underlying115 rfl (by rw [hn];kernel_rfl)
theorem results_ttw {fn : Func} {p q r : Tmp} (h : fn.results = #[.tmp p,.tmp q,.cell r 32]) (tmps : Array Value) {w : World} {b : Nat} {cs : Array Value} (hp : tmps.getD r undef = .pointer (some ⟨b,0,none⟩)) (hW : Whole w b 32 cs) (hn : cs.size = 3) :
  (results fn tmps).run Tryz.prog w = .ok (.tuple #[tmps.getD p undef,tmps.getD q undef,.agg cs]) w := by
 have hp' : tmps[r]?.getD undef = .pointer (some ⟨b,0,none⟩) := by simpa using hp
 simp [results,h,hp',asAddr,run_wrong hW hn]
theorem results_tttw {fn : Func} {p q u r : Tmp} (h : fn.results = #[.tmp p,.tmp q,.tmp u,.cell r 32]) (tmps : Array Value) {w : World} {b : Nat} {cs : Array Value} (hp : tmps.getD r undef = .pointer (some ⟨b,0,none⟩)) (hW : Whole w b 32 cs) (hn : cs.size = 3) :
  (results fn tmps).run Tryz.prog w = .ok (.tuple #[tmps.getD p undef,tmps.getD q undef,tmps.getD u undef,.agg cs]) w := by
 have hp' : tmps[r]?.getD undef = .pointer (some ⟨b,0,none⟩) := by simpa using hp
 simp [results,h,hp',asAddr,run_wrong hW hn]
theorem results_etw {fn : Func} {p q r : Tmp} (h : fn.results = #[.cell p 115,.tmp q,.cell r 32]) (tmps : Array Value) {w : World} {a b : Nat} {es cs : Array Value} (ha : tmps.getD p undef = .pointer (some ⟨a,0,none⟩)) (hE : Whole w a 115 es) (he : es.size = 4) (hp : tmps.getD r undef = .pointer (some ⟨b,0,none⟩)) (hW : Whole w b 32 cs) (hn : cs.size = 3) :
  (results fn tmps).run Tryz.prog w = .ok (.tuple #[.agg es,tmps.getD q undef,.agg cs]) w := by
 have ha' : tmps[p]?.getD undef = .pointer (some ⟨a,0,none⟩) := by simpa using ha
 have hp' : tmps[r]?.getD undef = .pointer (some ⟨b,0,none⟩) := by simpa using hp
 simp [results,h,ha',hp',asAddr,run_wrong hW hn,run_esc hE he]
def preB (a l : List UInt8) : Bool := l.take a.length == a
def hexI (c : Int) : Int := if 48 ≤ c ∧ c ≤ 57 then c - 48 else if 97 ≤ c ∧ c ≤ 102 then c - 87 else if 65 ≤ c ∧ c ≤ 70 then c - 55 else -1
theorem hexI_hi (c : Int) : hexI c ≤ 15 := by unfold hexI;repeat' split;all_goals omega
def signI (c : Int) : Bool := (decide (33 ≤ c) && decide (c ≤ 47)) || (decide (58 ≤ c) && decide (c ≤ 64)) || (decide (91 ≤ c) && decide (c ≤ 96)) || (decide (123 ≤ c) && decide (c ≤ 126))
def letterI (c : Int) : Int := if c = 97 then 7 else if c = 102 then 12 else if c = 110 then 10 else if c = 114 then 13 else if c = 116 then 9 else if c = 118 then 11 else -1
def placeI (c : Int) : Int := if c = 65 then 1 else if c = 122 then 2 else if c = 98 then 16 else if c = 66 then 32 else 0
def flagI (c : Int) : Int := if c = 105 then 1 else if c = 109 then 4 else if c = 115 then 8 else if c = 85 then 16 else 0
def colN : List UInt8 → Nat
 | [] => 0
 | c :: t => if (97 ≤ c.toNat ∧ c.toNat ≤ 122) ∨ c.toNat = 94 then colN t + 1 else 0
theorem colN_le : ∀ l : List UInt8,colN l ≤ l.length
 | [] => Nat.le_refl _
 | c :: t => by
  unfold colN
  have := colN_le t
  split <;> simp <;> omega
def colS (s : ByteArray) (i : Nat) : Option Nat :=
 if ¬ (headI (leftB s i) = 91 ∧ headI (leftB s (i + 1)) = 58) then none else
 if headI (leftB s (i + 2 + colN (leftB s (i + 2)))) = 58 ∧ headI (leftB s (i + 2 + colN (leftB s (i + 2)) + 1)) = 93 then some (i + 2 + colN (leftB s (i + 2))) else none
theorem colS_le {s : ByteArray} {i k : Nat} (h : colS s i = some k) : i + 2 ≤ k ∧ k + 2 ≤ s.size := by
 unfold colS at h
 split at h
 ·cases h
 ·split at h
  ·rename_i h2
   have := head_in (s := s) (i := i + 2 + colN (leftB s (i + 2)) + 1) (by omega)
   cases h
   omega
  ·cases h
def countS (s : ByteArray) (i : Nat) : Option (Int × Int × Nat) :=
 if ¬ headI (leftB s i) = 123 then none else
 if (digsFrom (leftB s (i + 1)) 0).2 = 0 then none else
 if headI (leftB s (i + 1 + (digsFrom (leftB s (i + 1)) 0).2)) = 125 then some ((digsFrom (leftB s (i + 1)) 0).1,(digsFrom (leftB s (i + 1)) 0).1,i + 1 + (digsFrom (leftB s (i + 1)) 0).2 + 1) else
 if ¬ headI (leftB s (i + 1 + (digsFrom (leftB s (i + 1)) 0).2)) = 44 then none else
 if headI (leftB s (i + 1 + (digsFrom (leftB s (i + 1)) 0).2 + 1)) = 125 then some ((digsFrom (leftB s (i + 1)) 0).1,-1,i + 1 + (digsFrom (leftB s (i + 1)) 0).2 + 2) else
 if (digsFrom (leftB s (i + 1 + (digsFrom (leftB s (i + 1)) 0).2 + 1)) 0).2 = 0 then none else
 if headI (leftB s (i + 1 + (digsFrom (leftB s (i + 1)) 0).2 + 1 + (digsFrom (leftB s (i + 1 + (digsFrom (leftB s (i + 1)) 0).2 + 1)) 0).2)) = 125 then some ((digsFrom (leftB s (i + 1)) 0).1,(digsFrom (leftB s (i + 1 + (digsFrom (leftB s (i + 1)) 0).2 + 1)) 0).1,i + 1 + (digsFrom (leftB s (i + 1)) 0).2 + 1 + (digsFrom (leftB s (i + 1 + (digsFrom (leftB s (i + 1)) 0).2 + 1)) 0).2 + 1) else none
theorem countS_eq {s : ByteArray} {i j m : Nat} {a b : Int} {k l : Nat} (h0 : headI (leftB s i) = 123) (h1 : digsFrom (leftB s (i + 1)) 0 = (a,k)) (hj : i + 1 + k = j) (h2 : digsFrom (leftB s (j + 1)) 0 = (b,l)) (hm : j + 1 + l = m) :
  countS s i = if k = 0 then none else if headI (leftB s j) = 125 then some (a,a,j + 1) else if ¬ headI (leftB s j) = 44 then none else if headI (leftB s (j + 1)) = 125 then some (a,-1,j + 2) else if l = 0 then none else if headI (leftB s m) = 125 then some (a,b,m + 1) else none := by
 unfold countS
 rw [if_neg (by omega),h1]
 simp only [hj,h2,hm]
def CountPost (o : Option (Int × Int × Nat)) (w : World) (e : Ending) (w' : World) : Prop :=
 Below w.heap.size w w' ∧ ((o = none ∧ e = .returned (.tuple #[.int .i64 0,.int .i64 0,.int .i64 0,.bool false])) ∨ ∃ a b k,o = some (a,b,k) ∧ e = .returned (.tuple #[.int .i64 a,.int .i64 b,.int .i64 (k : Int),.bool true]))
end Go.Proofs.YthnddabcmhplkaaGreatDoor
