/- The document's Union: a fresh row of a set. -/
import Derived.Test.YthfmoodjdokaiaaDoorNorm
set_option linter.unusedVariables false
namespace Go.Proofs.YthfmoodjdokaiaaDoor
open Go Go.RowKit

set_option maxHeartbeats 800000 in
set_option maxRecDepth 100000 in
theorem runion_any (va vb : Value) (a b : List (Int × Int)) (w : World) (ha : Rgs w va a) (hb : Rgs w vb b) (hn : a.length + b.length ≤ 1099511627776) :
    Calls Tryd.prog 32 #[va, vb] w (SetPost (fun c => HasR a c ∨ HasR b c) w) := by
  have HA := Lib.hid ha; have HB := Lib.hid hb
  obtain ⟨A, ca, rfl, -⟩ := ha
  obtain ⟨B, cb, rfl, -⟩ := hb
  go_enter Tryd.func32, Tryd.ntmps32
  go_wp2_with (at_builtin; refine append_rgs rfl (.tmp 5) (.tmp 6) rfl w.heap.size _ [] rfl (own_lit' w w.heap.size w.heap.size rfl (Nat.le_refl _)) A a.length ca a rfl (HA.out.below ((Below.refl _ w).alloc (Nat.le_refl _) _)) ?b2 ?b3 ?_)
  case b2 => simp <;> omega
  case b3 => simp
  intro v1 w1 ho1 hg1
  try simp only [List.nil_append] at ho1
  have HB1 := Lib.hid (((Below.refl _ w).alloc (Nat.le_refl _) (.cells #[] 28)).grown hg1 (by simp) (by simp [Value.ownBlock]))
  have HO1 := Lib.hid ho1
  clear ho1 hg1
  go_wp2_with (at_builtin; refine append_rgs rfl (.tmp 7) (.tmp 8) rfl w.heap.size v1 a rfl HO1.out B b.length cb b rfl (HB.out.below HB1.out) ?c2 ?c3 ?_)
  case c2 => omega
  case c3 => exact HB1.out.size
  intro v2 w2 ho2 hg2
  have HB2 := Lib.hid (HB1.out.grown hg2 HB1.out.size (fun j hj => (HO1.out.1.lt j hj).1))
  have HO2 := Lib.hid ho2
  clear ho2 hg2
  go_wp2_with fail
  refine (rnorm_any v2 (a ++ b) w2 HO2.out.rgs (by simp; omega)).mono ?_
  rintro e w3 ⟨v3, k, rfl, hO, hR, hP, hB3⟩
  have HO3 := Lib.hid hO; have HR := Lib.hid hR; have HP := Lib.hid hP; have HB3 := Lib.hid hB3
  clear hO hR hP hB3
  go_wp2
  go_ret
  exact ⟨_, k, rfl, HO3.out.mono HB2.out.size, HR.out, fun c => by rw [HP.out, has_append], HB2.out.trans (HB3.out.mono HB2.out.size)⟩

end Go.Proofs.YthfmoodjdokaiaaDoor
