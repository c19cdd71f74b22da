/- The program's Orbit: the document's orbit, in a fresh row. -/
import Derived.Test.YthfmoodjdokaiaaDoorTOrbitOf
import Derived.Test.YthfmoodjdokaiaaDoorTGather
set_option linter.unusedVariables false
namespace Go.Proofs.YthfmoodjdokaiaaDoor
open Go Go.RowKit

set_option maxHeartbeats 1600000 in
set_option maxRecDepth 100000 in
theorem orbit_any (c : Int) (w : World) (hc : I32 c) (hT : TabsT w) : Calls Tryd.prog 13 #[.int .i32 c] w (RunesPost (orbR c) w) := by
  have HTT := Lib.hid hT
  clear hT
  unfold I32 at hc
  go_enter Tryd.func13, Tryd.ntmps13
  by_cases h0 : c < 0
  · rw [orb_none (.inl h0)]
    go_wp2
    go_ret
    exact ⟨_, rfl, ownN_none _ _, Below.refl _ _⟩
  by_cases h1 : 1114111 < c
  · rw [orb_none (.inr h1)]
    go_wp2
    go_ret
    exact ⟨_, rfl, ownN_none _ _, Below.refl _ _⟩
  obtain ⟨w1, hw1⟩ : ∃ w1, w.alloc (.cells #[.slice none 0 0] 31) = w1 := ⟨_, rfl⟩
  have hb1 : Below w.heap.size w w1 := by rw [← hw1]; exact (Below.refl _ w).alloc (Nat.le_refl _) _
  have hB1 : Boxed w1 w.heap.size 31 (.slice none 0 0) := by rw [← hw1]; exact Boxed.new w _ _
  have HB1 := Lib.hid hb1; have HX := Lib.hid hB1; have HW := Lib.hid hw1
  clear hb1 hB1 hw1
  go_wp2_with fail
  rw [HW.out]
  refine (orbitOf_any c (by omega) (by omega) w1 (HTT.out.below HB1.out)).mono ?_
  rintro e w2 ⟨rfl, hb⟩
  have HB2 := Lib.hid (HB1.out.trans (hb.mono HB1.out.size))
  have hX2 : BoxN w2 w.heap.size w.heap.size [] := ⟨_, (hb.block _ HX.out.lt).trans HX.out, ownN_none _ _⟩
  have HX2 := Lib.hid hX2
  have hS3 := orb_len c
  have hSI : ∀ x ∈ orbR c, I32 x := fun x hx => by
    have := orb_rune c (by omega) (by omega) x hx
    unfold I32
    omega
  have HSI := Lib.hid hSI
  obtain ⟨S, hS⟩ : ∃ S, orbR c = S := ⟨_, rfl⟩
  rw [hS] at hS3 HSI ⊢
  have HSS := Lib.hid hS
  clear hb hSI hS hX2
  go_wp2_with fail
  refine (each_any _ _ (enters_of Tryd.func23 (by kernel_rfl) rfl) S hS3 (fun pre W => BoxN W w.heap.size w.heap.size pre ∧ Below w.heap.size w W) ?_ ?_ w2 ⟨HX2.out, HB2.out⟩).mono ?_
  · rintro pre W ob ⟨k1, k2⟩
    exact ⟨k1.kept ((Below.refl _ _).alloc (Nat.le_refl _) _), k2.alloc k2.size _⟩
  · rintro pre x W hp ⟨k1, k2⟩
    have hx : x ∈ S := hp.subset (by simp)
    have hl := hp.length_le
    rw [List.length_append, List.length_singleton] at hl
    refine (add_rune_any w.heap.size w.heap.size pre x W (HSI.out x hx) (by omega) (Nat.le_refl _) k1).mono ?_
    rintro e W2 ⟨hu, h2, h3, h4⟩
    exact ⟨hu, ⟨h2, k2.trans h4⟩, h3⟩
  rintro e w3 ⟨⟨u, rfl⟩, ⟨vs, k1, k2⟩, k3⟩
  have c1 := k1.cell
  have H2 := Lib.hid k2; have H3 := Lib.hid k3
  clear k1 k2 k3
  go_wp2_with fail
  go_ret
  exact ⟨_, rfl, by rw [HSS.out]; exact H2.out, H3.out⟩
end Go.Proofs.YthfmoodjdokaiaaDoor
