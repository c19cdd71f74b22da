/- Texts merged by program: PxStandsL. No condition. -/
import Derived.Test.YtnemacejaiifnaaQ58
import Derived.Test.YtnemacejaiifnaaQ38
set_option linter.unusedVariables false
/- PrefixStands. No condition. -/
namespace Go.Proofs.Ytnemacejaiifnaa
open Go Go.RowKit

theorem runeAt_i32 (s : ByteArray) (i : Int) : I32 (runeAt (runesOf s) i) := by
  unfold runeAt I32
  split
  · rename_i h
    have hk : i.toNat < (runesOf s).length := by omega
    have h := runesFrom_isRune s _ _ (runesOf s)[i.toNat] (List.getElem_mem hk)
    simp only [List.getD, List.getElem?_eq_getElem hk, Option.getD_some]
    unfold IsRune at h
    omega
  · omega
/-- The runes of R from I on, d of them. -/
def cutN (R : List Int) (I d : Nat) : List Int := (List.range d).map fun j => runeAt R ((I + j : Nat) : Int)
theorem cutN_len (R : List Int) (I d : Nat) : (cutN R I d).length = d := by simp [cutN]
theorem cutN_next (R : List Int) (I d : Nat) : cutN R I (d + 1) = cutN R I d ++ [runeAt R ((I + d : Nat) : Int)] := by simp [cutN, List.range_succ]
theorem cutN_lies (R : List Int) (I d : Nat) (h : I + d ≤ R.length) : Lies R (cutN R I d) I := ⟨by rw [cutN_len]; exact h, fun k hk => by
  rw [cutN_len] at hk
  simp [cutN, List.getD, hk]⟩
theorem cutN_get (R : List Int) (I d : Nat) {k : Nat} (hk : k < d) : (cutN R I d).getD k 0 = runeAt R ((I + k : Nat) : Int) := by simp [cutN, List.getD, hk]
theorem index_at {R l : List Int} {i : Nat} {r : Int} (h : IndexIs R l i r) (hl : Lies R l i) : r = i := by
  rcases h with ⟨-, h⟩ | ⟨j, rfl, h1, h2, h3⟩
  · exact absurd hl (h i (Int.le_refl _))
  · by_cases e : i < j
    · exact absurd hl (h3 i (Int.le_refl _) e)
    · omega
theorem index_upto {R l : List Int} {i : Nat} {r : Int} (h : IndexIs R l 0 r) (hl : Lies R l i) : ∃ j : Nat, r = j ∧ j ≤ i ∧ Lies R l j := by
  rcases h with ⟨-, h⟩ | ⟨j, rfl, h1, h2, h3⟩
  · exact absurd hl (h i (by omega))
  · refine ⟨j, rfl, ?_, h2⟩
    by_cases e : i < j
    · exact absurd hl (h3 i (by omega) e)
    · omega

end Go.Proofs.Ytnemacejaiifnaa
