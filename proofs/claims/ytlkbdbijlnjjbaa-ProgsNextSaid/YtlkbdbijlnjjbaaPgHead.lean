/- The fixed question. -/
import Derived.Test.YtlkbdbijlnjjbaaPgProg
set_option linter.unusedVariables false
namespace Go.Proofs.Ytlkbdbijlnjjbaa
open Go Go.RowKit

def headP : Pg := ⟨[⟨1, 0, 0, [], 0⟩, ⟨2, 0, 0, [(97, 97)], 0⟩, ⟨3, 1, 0, [], 0⟩], 2, 2⟩
theorem head_right : RightPg headP := by
  refine ⟨by decide, by decide, by unfold PlaceI headP; simp, by decide, by decide, by decide, fun x hx => ?_⟩
  simp only [headP, List.mem_cons, List.not_mem_nil, or_false] at hx
  rcases hx with rfl | rfl | rfl
  · exact .inl ⟨.inl rfl, rfl, rfl, rfl, rfl⟩
  · exact .inr (.inl ⟨rfl, by unfold PlaceI headP; simp, rfl, ⟨by simp, by simp [RightR, RightFrom]⟩, rfl⟩)
  · exact .inr (.inr (.inl ⟨rfl, by unfold PlaceI headP; simp, by unfold PlaceI headP; simp, rfl, rfl⟩))
theorem head_bds : ∀ x ∈ headP.ins, Bds x := fun x hx => by
  simp only [headP, List.mem_cons, List.not_mem_nil, or_false] at hx
  unfold Bds R64
  rcases hx with rfl | rfl | rfl <;> decide
theorem head_close : closeG headP [2] 0 false = ([1], true) := by
  rw [close_good 0 false ⟨head_right, by unfold PlaceI headP; simp⟩]
  have h1 : closeI (meetsI 0) false headP.ins (natsI [2]) = ⟨[true, true, true], [1], true⟩ := by
    unfold closeI
    show walkI (meetsI 0) false headP.ins [2] ⟨[false, false, false], [], false⟩ = _
    rw [walk_new _ rfl (by decide)]
    show walkI (meetsI 0) false headP.ins [1, 0] ⟨[false, false, true], [], false⟩ = _
    rw [walk_new _ rfl (by decide)]
    show walkI (meetsI 0) false headP.ins [0] ⟨[false, true, true], [1], false⟩ = _
    rw [walk_new _ rfl (by decide)]
    show walkI (meetsI 0) false headP.ins [] ⟨[true, true, true], [1], true⟩ = _
    rw [walk_nil]
  rw [h1]
def zeroP : Pg := ⟨[], 0, 0⟩
theorem zero_wrong : ¬ RightPg zeroP := fun h => by
  have := h.1
  simp [zeroP] at this
theorem zero_pg (w : World) : PgV w zeroP (.agg #[.slice none 0 0, .int .i64 0, .int .i64 0]) :=
  ⟨_, rfl, ⟨none, 0, rfl, Nat.le_refl _, Nat.zero_le _, fun _ => rfl, .inl rfl⟩, by unfold R64 zeroP; simp, by unfold R64 zeroP; simp⟩
set_option maxHeartbeats 1600000 in
set_option maxRecDepth 100000 in
theorem head12_any (w : World) : Calls Try.prog 10 #[] w fun e w' => e = .returned (.bool true) ∧ Below w.heap.size w w' := by
  obtain ⟨w1, hw1⟩ : ∃ w1, w.alloc (.cells #[.int .i32 97, .int .i32 97] 53) = w1 := ⟨_, rfl⟩
  have hz1 : w1.heap.size = w.heap.size + 1 := by rw [← hw1]; exact World.size_alloc _ _
  have hr1 : Rgs w1 (.slice (some ⟨w.heap.size, 0, none⟩) 1 1) [(97, 97)] := by rw [← hw1]; exact rgs_new w 97 97 (by unfold I32; omega) (by unfold I32; omega)
  have hb1 : Below w.heap.size w w1 := by rw [← hw1]; exact (Below.refl _ _).alloc (Nat.le_refl _) _
  obtain ⟨C, hC⟩ : ∃ C : Array Value, #[.int .i64 1, .int .i64 0, .int .i64 0, .slice none 0 0, .int .i64 0, .int .i64 2, .int .i64 0, .int .i64 0, .slice (some ⟨w.heap.size, 0, none⟩) 1 1, .int .i64 0, .int .i64 3, .int .i64 1, .int .i64 0, .slice none 0 0, .int .i64 0] = C := ⟨_, rfl⟩
  obtain ⟨w2, hw2⟩ : ∃ w2, w1.alloc (.cells C 46) = w2 := ⟨_, rfl⟩
  have hz2 : w2.heap.size = w.heap.size + 2 := by rw [← hw2, World.size_alloc, hz1]
  have hb2 : Below w1.heap.size w1 w2 := by rw [← hw2]; exact (Below.refl _ _).alloc (Nat.le_refl _) _
  have hc2 : ∀ j u, C[j]? = some u → w2.cell? ⟨w.heap.size + 1, j, none⟩ = some u := fun j u h => by rw [← hw2, ← hz1]; exact box_at w1 _ C j u h
  have hI2 : Inss w2 (.slice (some ⟨w.heap.size + 1, 0, none⟩) 3 3) headP.ins := by
    refine ⟨_, 3, rfl, Nat.le_refl _, by unfold maxLen; omega, fun e => (by cases e), .inr ⟨w.heap.size + 1, 0, rfl, fun i hi => ?_⟩⟩
    subst hC
    have hn : ∀ W, Rgs W (.slice none 0 0) [] := fun W => ⟨none, 0, rfl, Nat.le_refl _, Nat.zero_le _, fun _ => rfl, .inl rfl, by simp⟩
    match i, hi with
    | 0, hi => exact ⟨none, 0, ⟨hc2 0 _ rfl, hc2 1 _ rfl, hc2 2 _ rfl, hc2 3 _ rfl, hc2 4 _ rfl⟩, hn _, head_bds _ (List.getElem_mem hi)⟩
    | 1, hi => exact ⟨_, 1, ⟨hc2 5 _ rfl, hc2 6 _ rfl, hc2 7 _ rfl, hc2 8 _ rfl, hc2 9 _ rfl⟩, hr1.below hb2, head_bds _ (List.getElem_mem hi)⟩
    | 2, hi => exact ⟨none, 0, ⟨hc2 10 _ rfl, hc2 11 _ rfl, hc2 12 _ rfl, hc2 13 _ rfl, hc2 14 _ rfl⟩, hn _, head_bds _ (List.getElem_mem hi)⟩
    | i + 3, hi => have h3 : headP.ins.length = 3 := rfl; omega
  obtain ⟨w3, hw3⟩ : ∃ w3, w2.alloc (.cells #[.slice (some ⟨w.heap.size + 1, 0, none⟩) 3 3, .int .i64 2, .int .i64 2] 24) = w3 := ⟨_, rfl⟩
  obtain ⟨hb3, e0, e1, e2, hz3⟩ := box3_new w2 _ _ _ _ hw3
  rw [hz2] at e0 e1 e2
  have hP : PgV w3 headP (.agg #[.slice (some ⟨w.heap.size + 1, 0, none⟩) 3 3, .int .i64 2, .int .i64 2]) := ⟨_, rfl, hI2.below hb3, by unfold R64 headP; simp, by unfold R64 headP; simp⟩
  have HF : Hid (∀ W, Below w3.heap.size w3 W → W.cell? ⟨w.heap.size + 1 + 1, 0, none⟩ = some (.slice (some ⟨w.heap.size + 1, 0, none⟩) 3 3) ∧ W.cell? ⟨w.heap.size + 1 + 1, 1, none⟩ = some (.int .i64 2) ∧ W.cell? ⟨w.heap.size + 1 + 1, 2, none⟩ = some (.int .i64 2)) := Lib.hid fun W hW => ⟨cell_on hW e0, cell_on hW e1, cell_on hW e2⟩
  have HP := Lib.hid hP
  have HB3 := Lib.hid (below_steps (below_steps hb1 hb2) hb3)
  have HW1 := Lib.hid hw1; have HW2 := Lib.hid hw2; have HW3 := Lib.hid hw3; have HC := Lib.hid hC
  clear hw1 hz1 hr1 hb1 hC hw2 hz2 hb2 hc2 hI2 hw3 hb3 e0 e1 e2 hz3 hP
  go_enter Try.func10, Try.ntmps10
  go_upto_region 2 with (fail)
  rw [HW1.out, HC.out, HW2.out, HW3.out]
  obtain ⟨w4, hw4⟩ : ∃ w4, w3.alloc (.cells #[.int .i64 2] 3) = w4 := ⟨_, rfl⟩
  have hb4 : Below w3.heap.size w3 w4 := by rw [← hw4]; exact (Below.refl _ _).alloc (Nat.le_refl _) _
  have hZ4 : Zs w4 (.slice (some ⟨w3.heap.size, 0, none⟩) 1 1) [2] := by rw [← hw4]; exact zs_new w3 2 (by unfold R64; omega)
  have HCL := Lib.hid (pclose_any headP _ _ [2] 0 false w4 (HP.out.below hb4) hZ4 (by decide))
  rw [head_close] at HCL
  have HW4 := Lib.hid hw4; have HB4 := Lib.hid hb4
  obtain ⟨e0, e1, e2⟩ := HF.out _ (Below.refl _ w3)
  clear hw4 hb4 hZ4
  go_wp2_with (go_at_call 14; rw [HW4.out]; refine HCL.out.mono ?_; rintro e w5 ⟨v5, rfl, ho5, hb5⟩; have HO5 := Lib.hid ho5; have HB5 := Lib.hid (below_steps HB4.out hb5); obtain ⟨q0, q1, q2⟩ := HF.out _ HB5.out; clear ho5 hb5)
  refine (pcheck_any headP _ w5 (HP.out.below HB5.out)).mono ?_
  rintro e w6 ⟨r, rfl, hr, hb6⟩
  obtain rfl : r = 0 := by
    rcases hr with ⟨h, -⟩ | ⟨-, h⟩
    · exact h
    · exact absurd head_right h
  have HB6 := Lib.hid (below_steps HB5.out hb6); have HO6 := Lib.hid (HO5.out.below hb6)
  clear hr hb6 q0 q1 q2 e0 e1 e2 HCL
  go_wp2_with fail
  refine (pcheck_any zeroP _ w6 (zero_pg w6)).mono ?_
  rintro e w7 ⟨r, rfl, hr, hb7⟩
  obtain rfl : r = 121 := by
    rcases hr with ⟨-, h⟩ | ⟨h, -⟩
    · exact absurd h zero_wrong
    · exact h
  have HB7 := Lib.hid (below_steps HB6.out hb7); have HO7 := Lib.hid (HO6.out.below hb7)
  clear hr hb7
  obtain ⟨g, cg, hv⟩ : ∃ g c, v5 = .slice (some ⟨g, 0, none⟩) 1 c := by
    rcases own_sliceZ HO7.out.1 with ⟨-, h0⟩ | ⟨g, c, h, -⟩
    · simp [natsZ] at h0
    · exact ⟨g, c, h⟩
  subst hv
  obtain ⟨d0, -⟩ := HO7.out.at' 0 (by simp [natsZ])
  have hd0 : w7.cell? ⟨g, 0, none⟩ = some (.int .i64 1) := d0
  clear d0
  go_wp2_with fail
  go_ret
  exact ⟨rfl, below_steps HB3.out HB7.out⟩
end Go.Proofs.Ytlkbdbijlnjjbaa
