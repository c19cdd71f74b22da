/- Lists of ranges in memory. -/
import Derived.Test.YtlkbdbijlnjjbaaProg
import Derived.Test.YtlkbdbijlnjjbaaBase
import Derived.Test.YtlkbdbijlnjjbaaSets
import Derived.Below
import Derived.Deep.QuietTactic
import Derived.BigQuiet
set_option linter.unusedVariables false
namespace Go.Proofs.Ytlkbdbijlnjjbaa
open Go Go.RowKit

def I32 (x : Int) : Prop := -2147483648 ≤ x ∧ x ≤ 2147483647
/-- The slice value v holds the ranges l. -/
def Rgs (w : World) (v : Value) (l : List (Int × Int)) : Prop :=
  ∃ a c, v = .slice a l.length c ∧ l.length ≤ c ∧ c ≤ maxLen ∧ (a = none → c = 0) ∧
    (l = [] ∨ ∃ b o, a = some ⟨b, o, none⟩ ∧ ∀ i (h : i < l.length), w.cell? ⟨b, o + i * 2, none⟩ = some (.int .i32 l[i].1) ∧ w.cell? ⟨b, o + i * 2 + 1, none⟩ = some (.int .i32 l[i].2)) ∧
    ∀ r ∈ l, I32 r.1 ∧ I32 r.2
theorem Rgs.below {w w' : World} {v : Value} {l : List (Int × Int)} (h : Rgs w v l) (hb : Below w.heap.size w w') : Rgs w' v l := by
  obtain ⟨a, c, h1, h2, h3, h4, h5, h6⟩ := h
  refine ⟨a, c, h1, h2, h3, h4, ?_, h6⟩
  rcases h5 with h5 | ⟨b, o, e, hc⟩
  · exact .inl h5
  · exact .inr ⟨b, o, e, fun i hi => ⟨(hb.cell (World.block_lt_of_cell? w _ (hc i hi).1)).trans (hc i hi).1, (hb.cell (World.block_lt_of_cell? w _ (hc i hi).2)).trans (hc i hi).2⟩⟩
theorem below_drewNr {B : Nat} {a w : World} (h : Below B a w) : ∀ q, Below B a (w.drewN q)
  | 0 => h
  | q + 1 => (below_drewNr h q).drew

/-- A bool that says P; the world is as it was but for draws. -/
def Says (P : Prop) (w : World) (e : Ending) (w' : World) : Prop := ∃ B : Bool, e = .returned (.bool B) ∧ (B = true ↔ P) ∧ ∃ q, w' = w.drewN q

theorem right_split (l : List (Int × Int)) (m : Nat) (h : m < l.length) : RightR (l.take (m + 1)) ↔ RightR (l.take m) ∧ (endOf 0 (l.take m) ≤ l[m].1 ∧ l[m].1 ≤ l[m].2 ∧ l[m].2 ≤ 1114111) := by
  rw [List.take_succ_eq_append_getElem h]
  unfold RightR
  rw [right_append]
  simp [RightFrom]
theorem right_part (l : List (Int × Int)) (m : Nat) (h : RightR l) : RightR (l.take m) := by
  rw [← List.take_append_drop m l] at h
  exact ((right_append _ _ _).1 h).1
theorem end_take (l : List (Int × Int)) (m : Nat) (h : m + 1 ≤ l.length) : endOf 0 (l.take (m + 1)) = l[m].2 + 2 := by
  rw [List.take_succ_eq_append_getElem h, end_append]

theorem end_nonneg : ∀ (l : List (Int × Int)) (lo : Int), 0 ≤ lo → RightFrom lo l → 0 ≤ endOf lo l
  | [], _, h, _ => h
  | r :: l, lo, h, ⟨h1, h2, h3, h4⟩ => end_nonneg l (r.2 + 2) (by omega) h4

theorem has_split (l : List (Int × Int)) (m : Nat) (h : m < l.length) (c : Int) : HasR (l.take (m + 1)) c ↔ HasR (l.take m) c ∨ (0 ≤ c ∧ c ≤ 1114111 ∧ l[m].1 ≤ c ∧ c ≤ l[m].2) := by
  rw [List.take_succ_eq_append_getElem h, has_append, has_one]
theorem has_part (l : List (Int × Int)) (m : Nat) (c : Int) (h : HasR (l.take m) c) : HasR l c := by
  rw [← List.take_append_drop m l, has_append]
  exact .inl h

theorem rgs_at {w : World} {b o : Nat} {l : List (Int × Int)} (hc : ∀ i (h : i < l.length), w.cell? ⟨b, o + i * 2, none⟩ = some (.int .i32 l[i].1) ∧ w.cell? ⟨b, o + i * 2 + 1, none⟩ = some (.int .i32 l[i].2)) (m : Nat) (h : m < l.length) :
    ∃ y1 y2, l[m]? = some (y1, y2) ∧ l.take (m + 1) = l.take m ++ [(y1, y2)] ∧ w.cell? ⟨b, o + m * 2, none⟩ = some (.int .i32 y1) ∧ w.cell? ⟨b, o + m * 2 + 1, none⟩ = some (.int .i32 y2) :=
  ⟨l[m].1, l[m].2, by simp [h], List.take_succ_eq_append_getElem h, (hc m h).1, (hc m h).2⟩

end Go.Proofs.Ytlkbdbijlnjjbaa
