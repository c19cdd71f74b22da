/- Texts merged by program: SmHead. No condition. -/
import Derived.Test.YthffdmncdoogpaaK32
import Derived.Test.YthffdmncdoogpaaK12
import Derived.Test.YthffdmncdoogpaaK3
import Derived.Test.YthffdmncdoogpaaK33
import Derived.Test.YthffdmncdoogpaaK34
set_option linter.unusedVariables false
/- The fixed question of stage 10, and its trees. Written by gen10.py. -/
namespace Go.Proofs.Ythffdmncdoogpaa
open Go Go.RowKit

def aFld : Fld := { op := 3, rune := 97, set := [], at' := 0, cap := 0, name := ⟨#[]⟩, min := 0, max := 0, lazy := false }
def aTr : Tr := .mk aFld []
def repF (a b : Int) (z : Bool) : Fld := { op := 10, rune := 0, set := [], at' := 0, cap := 0, name := ⟨#[]⟩, min := a, max := b, lazy := z }
def repTr (a b : Int) (z : Bool) : Tr := .mk (repF a b z) [aTr]
theorem a_parts : partsR aTr = 1 := by rw [aTr, partsS_mk]; rfl
theorem a_runes : runesN aTr = 1 := by rw [aTr, runesN_mk]; simp [aFld]
theorem a_shaped : ShapedP aTr := by
  rw [shapedP_iff]
  refine ⟨⟨by decide, by decide, fun h => absurd rfl h, fun _ => rfl, fun _ => rfl, fun _ => ⟨rfl, show (⟨#[]⟩ : ByteArray).toList = [] by kernel_rfl⟩, fun _ => ⟨rfl, rfl⟩, fun h => (by cases h), fun _ => ⟨by decide, by decide⟩, fun h => (by cases h), fun h => (by cases h), fun h => (by cases h), fun h => (by cases h)⟩, ⟨fun h => ?_, fun h => (by cases h), .inr (.inr (.inr (.inr (.inr (.inr (.inr rfl))))))⟩, fun h => (by cases h.1), fun k hk => (by cases hk)⟩
  rcases h with h | h | h | h | h <;> cases h
theorem rep_right {a b : Int} {z : Bool} (h0 : 0 ≤ a) (h1 : a ≤ 1000) (h2 : b = -1 ∨ (a ≤ b ∧ b ≤ 1000)) : RightT (repTr a b z) := by
  refine ⟨?_, ?_, ?_, ?_⟩
  · rw [depthR_eq]
    show maxL ([aTr].map depthR) + 1 ≤ 50
    have : depthR aTr = 1 := by rw [depthR_eq]; rfl
    simp [maxL, this]
  · rw [weightR_eq]
    show weightN (repF a b z) 1 (clipR (([aTr].map weightR).sum)) ≤ 4000
    have : weightR aTr = 1 := by rw [weightR_eq]; rfl
    rw [List.map_cons, List.map_nil, List.sum_cons, List.sum_nil, this]
    unfold weightN
    rw [if_neg (by simp [repF]), if_neg (by simp [repF]), if_pos (by simp [repF])]
    show clipR (clipR (max (max a b) 1).toNat * clipR (1 + 0) + clipR (max (max a b) 1).toNat + 1) ≤ 4000
    rw [show clipR (1 + 0) = 1 by decide, Nat.mul_one]
    unfold clipR
    omega
  · rw [shapedP_iff]
    refine ⟨⟨show (1 : Int) ≤ 10 by decide, show (10 : Int) ≤ 12 by decide, fun _ => rfl, fun _ => rfl, fun _ => rfl, fun _ => ⟨rfl, show (⟨#[]⟩ : ByteArray).toList = [] by kernel_rfl⟩, fun h => absurd rfl h, fun _ => ⟨show (7 : Int) ≤ 10 by decide, show (10 : Int) ≤ 10 by decide⟩, fun h => (by cases h), fun h => (by cases h), fun h => (by cases h), fun h => (by cases h), fun _ => ⟨⟨h0, h1⟩, h2⟩⟩, ⟨fun _ => rfl, fun h => (by cases h), .inr (.inr (.inr (.inr (.inl rfl))))⟩, fun h => (by cases h.1), fun k hk => ?_⟩
    rw [List.mem_singleton.1 (show k ∈ [aTr] from hk)]
    exact a_shaped
  · have hg : groupsT (repTr a b z) = [] := by
      rw [groupsT_eq]
      show (if (repF a b z).op = 6 then _ else []) ++ ([aTr].map groupsT).flatten = []
      have : groupsT aTr = [] := by rw [groupsT_eq]; rfl
      rw [if_neg (by simp [repF])]
      simp [this]
    rw [hg]
    intro i hi
    simp at hi
theorem rep_simple (a b : Int) (z : Bool) : simpleT (repTr a b z) = repeatedT (repF a b z) aTr := by
  have h1 : simpleT aTr = aTr := by
    rw [simpleT_eq]
    unfold madeT
    rw [if_neg (by simp [aTr, Tr.fld, aFld]), if_neg (by simp [aTr, Tr.fld, aFld]), if_neg (by simp [aTr, Tr.fld, aFld]), if_neg (by simp [aTr, Tr.fld, aFld]), if_neg (by simp [aTr, Tr.fld, aFld])]
    rfl
  rw [simpleT_eq]
  show madeT (repF a b z) ([aTr].map simpleT) = _
  rw [List.map_cons, List.map_nil, h1]
  unfold madeT
  rw [if_neg (by simp [repF]), if_neg (by simp [repF]), if_pos (by simp [repF])]
  rfl
theorem two_simple : simpleT (repTr 2 2 false) = .mk (opF 11 false) [aTr, aTr] := by
  rw [rep_simple]
  unfold repeatedT
  rw [if_neg (by simp [repF]), if_neg (by simp [repF]), if_pos (by simp [repF]), joined_same]
  · rfl
  · intro k hk
    rw [List.eq_of_mem_replicate hk]
    simp [aTr, Tr.fld, aFld]
theorem aFld_ok : FldOk aFld := by
  refine ⟨⟨by decide, by decide⟩, ⟨by decide, by decide⟩, ⟨by decide, by decide⟩, ⟨by decide, by decide⟩, ⟨by decide, by decide⟩, ⟨by decide, by decide⟩, show (0 : Nat) ≤ _ by omega, by simp [aFld]⟩
theorem nil_rgs (w : World) : Rgs w (.slice none 0 0) [] := ⟨none, 0, rfl, by simp, by unfold maxLen; omega, by simp, .inl rfl, by simp⟩
theorem a_tre (w : World) : Tre w aTr (.agg #[.int .i64 3, .slice none 0 0, .int .i32 97, .slice none 0 0, .int .i64 0, .int .i64 0, .string ⟨#[]⟩, .int .i64 0, .int .i64 0, .bool false]) := by
  rw [tre_iff]
  exact ⟨_, _, rfl, nil_rgs w, aFld_ok, none, 0, rfl, by simp [aTr, Tr.kids], by unfold maxLen; omega, by simp [aTr, Tr.kids], by simp, .inl rfl⟩
theorem rep_tre {w : World} {b : Nat} {mn mx : Int} {z : Bool} (h0 : 0 ≤ mn) (h1 : mn ≤ 1000) (h2 : -1 ≤ mx) (h3 : mx ≤ 1000) (h : CellsAt w b 0 #[.int .i64 3, .slice none 0 0, .int .i32 97, .slice none 0 0, .int .i64 0, .int .i64 0, .string ⟨#[]⟩, .int .i64 0, .int .i64 0, .bool false]) : Tre w (repTr mn mx z) (.agg #[.int .i64 10, .slice (some ⟨b, 0, none⟩) 1 1, .int .i32 0, .slice none 0 0, .int .i64 0, .int .i64 0, .string ⟨#[]⟩, .int .i64 mn, .int .i64 mx, .bool z]) := by
  rw [tre_iff]
  refine ⟨_, _, rfl, nil_rgs w, ⟨⟨show (-9223372036854775808 : Int) ≤ 10 by decide, show (10 : Int) ≤ _ by decide⟩, ⟨show (-2147483648 : Int) ≤ 0 by decide, show (0 : Int) ≤ _ by decide⟩, ⟨show (-9223372036854775808 : Int) ≤ 0 by decide, show (0 : Int) ≤ _ by decide⟩, ⟨show (-9223372036854775808 : Int) ≤ 0 by decide, show (0 : Int) ≤ _ by decide⟩, ⟨show -9223372036854775808 ≤ mn by omega, show mn ≤ 9223372036854775807 by omega⟩, ⟨show -9223372036854775808 ≤ mx by omega, show mx ≤ 9223372036854775807 by omega⟩, show (0 : Nat) ≤ _ by omega, show ([] : List (Int × Int)).length ≤ _ by simp⟩, some ⟨b, 0, none⟩, 1, rfl, by simp [repTr, Tr.kids], by unfold maxLen; omega, by simp [repTr, Tr.kids], by simp, .inr ⟨b, 0, rfl, trivial, fun i hi => ?_⟩⟩
  have hi' : i < 1 := hi
  obtain rfl : i = 0 := by omega
  exact ⟨_, by simpa using h, a_tre w⟩
theorem rep_parts (a b : Int) (z : Bool) : partsR (repTr a b z) ≤ 10000000000 := by
  rw [repTr, partsS_mk, sumS_cons, a_parts]
  show 1 + 0 + (1 + 0) ≤ _
  omega

end Go.Proofs.Ythffdmncdoogpaa
