/- Texts merged by program: DnHead. No condition. -/
import Derived.Test.YtnemacejaiifnaaQ31
import Derived.Test.YtnemacejaiifnaaQ8
import Derived.Test.YtnemacejaiifnaaQ6
import Derived.Test.YtnemacejaiifnaaQ2
import Derived.Test.YtnemacejaiifnaaQ46
import Derived.Deep.RegionLaw
import Derived.Deep.Cut
set_option linter.unusedVariables false
set_option linter.unusedSimpArgs false
/- The fixed question of denote's laws. No condition. -/
namespace Go.Proofs.Ytnemacejaiifnaa
open Go Go.RowKit

def baaS : ByteArray := ⟨#[98, 97, 97]⟩
theorem baa_runes : runesOf baaS = headR := by kernel_rfl
def starX : Tr := opX 7 0 [runeX 97]
theorem starX_shaped : ShapedP starX := opX_shaped (.inr (.inl ⟨rfl, rfl, rfl⟩)) fun k hk => by obtain rfl := List.mem_singleton.1 hk; exact runeX_shaped (by decide)
theorem starX_mat : Mat headR 0 starX headQ := (mat_iff _ _ _ _).2 (.star (k := runeX 97) rfl rfl ((mat_iff _ _ _ _).2 (.rune rfl)))
theorem starX_parts : partsR starX = 2 := by unfold starX; rw [opX_parts]; simp [runeX_parts]
theorem own_slice_two {w : World} {B g n c : Nat} {k : List Int} (h : OwnI w B (.slice (some ⟨g, 0, none⟩) n c) k) : n ≤ c ∧ c ≤ maxLen := by
  rcases own_slice1 h with ⟨e, -⟩ | ⟨g', c', e, h1, h2, -⟩
  · cases e
  · injection e with e1 e2 e3
    subst e3
    have := h.1
    rcases h.2 with ⟨e, -⟩ | ⟨q, cap, cur, e, -, -, hn, hm, -⟩
    · cases e
    · injection e with _ e4 e5
      subst e4 e5
      exact ⟨hn, hm⟩
/-- Find at the head's question: the match from 1 to 3. -/
theorem head_find (w : World) {v : Value} {B ib : Nat} (h : Tre w starX v) (hin : In w B 2 baaS ib) :
    Calls Try.prog 19 #[v, .int .i64 0, .pointer (some ⟨ib, 0, none⟩), .int .i64 1, .bool false] w fun e w' => ∃ (g c : Nat), e = .returned (.tuple #[.slice (some ⟨g, 0, none⟩) 2 c, .bool true]) ∧ OwnI w' w.heap.size (.slice (some ⟨g, 0, none⟩) 2 c) (rowOf (3, [1, -1])) ∧ Below w.heap.size w w' :=
  find_hit starX (by rw [starX_parts]; decide) v 0 ib B 2 baaS 1 w h hin starX_shaped (by omega) (by rw [baa_runes]; decide) (by rw [baa_runes]; decide) ((off_place baaS 1).2 ⟨by decide, by rw [baa_runes]; decide⟩) headQ (by rw [baa_runes]; exact starX_mat)
    (fun a => List.nodup_iff_count.1 (by decide) a) (by decide) 6 10 (stepN 6 headS) 3 [.go [] 2, .go [] 1] (by decide) head_runs head_left head_arr (by rw [head_left]; decide)

set_option maxHeartbeats 3200000 in
set_option maxRecDepth 100000 in
theorem dhead_any (w : World) : Calls Try.prog 9 #[] w (HeadPost w) := by
  have kc := fun (w : World) (C : Array Value) (n c : Nat) => Lib.run_convert_bytes_const (P := Try.prog) w 28 5 C n c Try.underlying28 Try.underlying5
  obtain ⟨w1, hw1⟩ : ∃ x, w.alloc (.cells #[.int .i64 3, .slice none 0 0, .int .i32 97, .slice none 0 0, .int .i64 0, .int .i64 0, .string ⟨#[]⟩, .int .i64 0, .int .i64 0, .bool false] 27) = x := ⟨_, rfl⟩
  obtain ⟨w2, hw2⟩ : ∃ x, w1.alloc (.cells #[.int .i64 7, .slice (some ⟨w.heap.size, 0, none⟩) 1 1, .int .i32 0, .slice none 0 0, .int .i64 0, .int .i64 0, .string ⟨#[]⟩, .int .i64 0, .int .i64 0, .bool false] 27) = x := ⟨_, rfl⟩
  have hs1 : w1.heap.size = w.heap.size + 1 := by rw [← hw1]; simp
  have hb1 : Below w.heap.size w w1 := by rw [← hw1]; exact (Below.refl _ _).alloc (Nat.le_refl _) _
  have hb2 : Below w1.heap.size w1 w2 := by rw [← hw2]; exact (Below.refl _ _).alloc (Nat.le_refl _) _
  have hx1 : Whole w1 w.heap.size 27 #[.int .i64 3, .slice none 0 0, .int .i32 97, .slice none 0 0, .int .i64 0, .int .i64 0, .string ⟨#[]⟩, .int .i64 0, .int .i64 0, .bool false] := by rw [← hw1]; exact heap_alloc_new w _
  have hx2 : Whole w2 (w.heap.size + 1) 27 #[.int .i64 7, .slice (some ⟨w.heap.size, 0, none⟩) 1 1, .int .i32 0, .slice none 0 0, .int .i64 0, .int .i64 0, .string ⟨#[]⟩, .int .i64 0, .int .i64 0, .bool false] := by rw [← hw2, ← hs1]; exact heap_alloc_new w1 _
  have hT : Tre w2 starX (.agg #[.int .i64 7, .slice (some ⟨w.heap.size, 0, none⟩) 1 1, .int .i32 0, .slice none 0 0, .int .i64 0, .int .i64 0, .string ⟨#[]⟩, .int .i64 0, .int .i64 0, .bool false]) := opX_tre (kds1X (hx1.below hb2 hx1.lt) (runeX_tre w2 (by decide))) (by decide) (by decide)
  have HTR := Lib.hid hT; have HX2 := Lib.hid hx2; have HW1 := Lib.hid hw1; have HW2 := Lib.hid hw2; have HBW := Lib.hid (below_two hb1 hb2)
  have hS : Hid (∀ W, Below w2.heap.size w2 W → (fun W' => W'.cell? ⟨w.heap.size + 1, 0, none⟩ = some (.int .i64 7) ∧ W'.cell? ⟨w.heap.size + 1, 1, none⟩ = some (.slice (some ⟨w.heap.size, 0, none⟩) 1 1) ∧ W'.cell? ⟨w.heap.size + 1, 2, none⟩ = some (.int .i32 0) ∧ W'.cell? ⟨w.heap.size + 1, 3, none⟩ = some (.slice none 0 0) ∧ W'.cell? ⟨w.heap.size + 1, 4, none⟩ = some (.int .i64 0) ∧ W'.cell? ⟨w.heap.size + 1, 5, none⟩ = some (.int .i64 0) ∧ W'.cell? ⟨w.heap.size + 1, 6, none⟩ = some (.string ⟨#[]⟩) ∧ W'.cell? ⟨w.heap.size + 1, 7, none⟩ = some (.int .i64 0) ∧ W'.cell? ⟨w.heap.size + 1, 8, none⟩ = some (.int .i64 0) ∧ W'.cell? ⟨w.heap.size + 1, 9, none⟩ = some (.bool false)) W) := Lib.hid fun W hW => by
    have h := hx2.below hW hx2.lt
    exact ⟨(h.cell 0).trans rfl, (h.cell 1).trans rfl, (h.cell 2).trans rfl, (h.cell 3).trans rfl, (h.cell 4).trans rfl, (h.cell 5).trans rfl, (h.cell 6).trans rfl, (h.cell 7).trans rfl, (h.cell 8).trans rfl, (h.cell 9).trans rfl⟩
  clear hw1 hw2 hs1 hb1 hb2 hx1 hx2 hT
  go_enter Try.func9, Try.ntmps9
  go_upto_region 2 with (fail)
  rw [HW1.out, HW2.out]
  obtain ⟨u0, hu0⟩ : ∃ x, w2.drew = x := ⟨_, rfl⟩
  have hb0 : Below w2.heap.size w2 u0 := by rw [← hu0]; exact (Below.refl _ _).drew
  have HB0 := Lib.hid hb0
  refine wp_onlyP ?_
  refine wp_region_held_drew (S := (fun W' => W'.cell? ⟨w.heap.size + 1, 0, none⟩ = some (.int .i64 7) ∧ W'.cell? ⟨w.heap.size + 1, 1, none⟩ = some (.slice (some ⟨w.heap.size, 0, none⟩) 1 1) ∧ W'.cell? ⟨w.heap.size + 1, 2, none⟩ = some (.int .i32 0) ∧ W'.cell? ⟨w.heap.size + 1, 3, none⟩ = some (.slice none 0 0) ∧ W'.cell? ⟨w.heap.size + 1, 4, none⟩ = some (.int .i64 0) ∧ W'.cell? ⟨w.heap.size + 1, 5, none⟩ = some (.int .i64 0) ∧ W'.cell? ⟨w.heap.size + 1, 6, none⟩ = some (.string ⟨#[]⟩) ∧ W'.cell? ⟨w.heap.size + 1, 7, none⟩ = some (.int .i64 0) ∧ W'.cell? ⟨w.heap.size + 1, 8, none⟩ = some (.int .i64 0) ∧ W'.cell? ⟨w.heap.size + 1, 9, none⟩ = some (.bool false))) (by kernel_rfl) (by rw [hu0]; exact hS.out _ HB0.out) (fun hHeld => ?_)
  rw [hu0] at hHeld ⊢
  clear hu0 hb0
  refine wpAnyH_take (i := 0) (oi := _) (v := ?_) rfl (by kernel_rfl) (by kernel_rfl) (by kernel_rfl) (fun _ _ _ h => h) (Or.inl ⟨by rfl, ?_⟩) hHeld ?_
  rotate_left 1
  · (intro w hSw; (try dsimp only at hSw); go_simp; (try with_reducible rfl))
  try simp only [List.getElem_toArray, List.getElem_cons_zero, List.getElem_cons_succ, Act.put, List.setIfInBounds_toArray, List.set_cons_zero, List.set_cons_succ]
  refine wpAnyH_ready (rs := [1]) (by kernel_rfl) (by simp) ?_
  refine AllReadyH.cons (o := _) rfl (fun K hK => ?_) ?_
  · go_simp
    obtain ⟨u1, hu1⟩ : ∃ x, u0.alloc (.cells #[.int .u8 98, .int .u8 97, .int .u8 97] 5) = x := ⟨_, rfl⟩
    have hb1 : Below w2.heap.size w2 u1 := by rw [← hu1]; exact HB0.out.alloc HB0.out.size _
    have HB1 := Lib.hid hb1; have HU1 := Lib.hid hu1
    try rw [hu1]
    clear hb1 hu1
    refine hK.out _ _ (hS.out _ HB1.out) (fun hHeld => ?_)
    clear hK K
    try simp only [List.getElem_toArray, List.getElem_cons_zero, List.getElem_cons_succ, Act.put, List.setIfInBounds_toArray, List.set_cons_zero, List.set_cons_succ]
    refine wpAnyH_ready (rs := [2]) (by kernel_rfl) (by simp) ?_
    refine AllReadyH.cons (o := _) rfl (fun K hK => ?_) ?_
    · obtain ⟨u2, hu2⟩ : ∃ x, u0.alloc (.cells #[.int .u8 98, .int .u8 97, .int .u8 97] 5 (3, 4)) = x := ⟨_, rfl⟩
      have hkc := kc u0 #[.int .u8 98, .int .u8 97, .int .u8 97] 3 3
      rw [HU1.out, show (#[.int .u8 98, .int .u8 97, .int .u8 97] : Array Value).size = 3 from rfl, hu2] at hkc
      go_simp
      have hb2 : Below w2.heap.size w2 u2 := by rw [← hu2]; exact HB0.out.alloc HB0.out.size _
      have hx2 : ∀ i, u2.cell? ⟨u0.heap.size, i, none⟩ = #[.int .u8 98, .int .u8 97, .int .u8 97][i]? := fun i => by rw [← hu2]; exact cell_of_row _ u0.heap.size i _ _ _ (heap_alloc_new u0 _)
      have HT := Lib.hid (text_ok (some ⟨u0.heap.size, 0, none⟩) 3 baaS u2 (by decide) (lit3_conv 98 97 97 u2 u0.heap.size ((hx2 0).trans rfl) ((hx2 1).trans rfl) ((hx2 2).trans rfl)))
      have HB2 := Lib.hid hb2
      clear hb2 hx2 hu2 hkc
      refine hK.out _ _ (hS.out _ HB2.out) (fun hHeld => ?_)
      clear hK K
      try simp only [List.getElem_toArray, List.getElem_cons_zero, List.getElem_cons_succ, Act.put, List.setIfInBounds_toArray, List.set_cons_zero, List.set_cons_succ]
      refine wpAnyH_ready (rs := [3]) (by kernel_rfl) (by simp) ?_
      refine AllReadyH.cons (o := _) rfl (fun K hK => ?_) ?_
      · go_simp
        refine HT.out.mono ?_
        rintro e u3 ⟨ib, rfl, hin, hb3⟩
        have HB3 := Lib.hid (HB2.out.trans (hb3.mono HB2.out.size)); have HIN := Lib.hid hin
        dsimp only
        clear hb3 hin
        have HFI := Lib.hid (head_find u3 (HTR.out.below HB3.out) HIN.out)
        refine hK.out _ _ (hS.out _ HB3.out) (fun hHeld => ?_)
        clear hK K
        try simp only [List.getElem_toArray, List.getElem_cons_zero, List.getElem_cons_succ, Act.put, List.setIfInBounds_toArray, List.set_cons_zero, List.set_cons_succ]
        refine wpAnyH_ready (rs := [4]) (by kernel_rfl) (by simp) ?_
        refine AllReadyH.cons (o := _) rfl (fun K hK => ?_) ?_
        · go_simp
          refine HFI.out.mono ?_
          rintro e u4 ⟨g, c, rfl, ho, hb4⟩
          have HB4 := Lib.hid (HB3.out.trans (hb4.mono HB3.out.size)); have HO := Lib.hid ho
          dsimp only
          clear hb4 ho
          refine hK.out _ _ (hS.out _ HB4.out) (fun hHeld => ?_)
          clear hK K
          try simp only [List.getElem_toArray, List.getElem_cons_zero, List.getElem_cons_succ, Act.put, List.setIfInBounds_toArray, List.set_cons_zero, List.set_cons_succ]
          refine wpAnyH_take (i := 5) (oi := _) (v := ?_) rfl (by kernel_rfl) (by kernel_rfl) (by kernel_rfl) (fun _ _ _ h => h) (Or.inl ⟨by rfl, ?_⟩) hHeld ?_
          rotate_left 1
          · (intro w hSw; (try dsimp only at hSw); go_simp; (try with_reducible rfl))
          try simp only [List.getElem_toArray, List.getElem_cons_zero, List.getElem_cons_succ, Act.put, List.setIfInBounds_toArray, List.set_cons_zero, List.set_cons_succ]
          refine wpAnyH_take (i := 6) (oi := _) (v := ?_) rfl (by kernel_rfl) (by kernel_rfl) (by kernel_rfl) (fun _ _ _ h => h) (Or.inl ⟨by rfl, ?_⟩) hHeld ?_
          rotate_left 1
          · (intro w hSw; (try dsimp only at hSw); go_simp; (try with_reducible rfl))
          try simp only [List.getElem_toArray, List.getElem_cons_zero, List.getElem_cons_succ, Act.put, List.setIfInBounds_toArray, List.set_cons_zero, List.set_cons_succ]
          refine wpAnyH_take (i := 7) (oi := _) (v := ?_) rfl (by kernel_rfl) (by kernel_rfl) (by kernel_rfl) (fun _ _ _ h => h) (Or.inl ⟨by rfl, ?_⟩) hHeld ?_
          rotate_left 1
          · (intro w hSw; (try dsimp only at hSw); go_simp; (try with_reducible rfl))
          try simp only [List.getElem_toArray, List.getElem_cons_zero, List.getElem_cons_succ, Act.put, List.setIfInBounds_toArray, List.set_cons_zero, List.set_cons_succ]
          refine wpAnyH_take (i := 8) (oi := _) (v := ?_) rfl (by kernel_rfl) (by kernel_rfl) (by kernel_rfl) (fun _ _ _ h => h) (Or.inl ⟨by rfl, ?_⟩) hHeld ?_
          rotate_left 1
          · (intro w hSw; (try dsimp only at hSw); go_simp; (try with_reducible rfl))
          try simp only [List.getElem_toArray, List.getElem_cons_zero, List.getElem_cons_succ, Act.put, List.setIfInBounds_toArray, List.set_cons_zero, List.set_cons_succ]
          refine wpAnyH_take (i := 9) (oi := _) (v := ?_) rfl (by kernel_rfl) (by kernel_rfl) (by kernel_rfl) (fun _ _ _ h => h) (Or.inl ⟨by rfl, ?_⟩) hHeld ?_
          rotate_left 1
          · (intro w hSw; (try dsimp only at hSw); go_simp; (try with_reducible rfl))
          try simp only [List.getElem_toArray, List.getElem_cons_zero, List.getElem_cons_succ, Act.put, List.setIfInBounds_toArray, List.set_cons_zero, List.set_cons_succ]
          refine wpAnyH_done (by kernel_rfl) ?_ _
          dsimp only [onlyP]
          have c0 := ownI_cell HO.out 0 (by decide)
          have c1 := ownI_cell HO.out 1 (by decide)
          rw [show (rowOf (3, [1, -1]))[0]'(by decide) = 1 from rfl] at c0
          rw [show (rowOf (3, [1, -1]))[1]'(by decide) = 3 from rfl] at c1
          obtain ⟨hc2, -⟩ := own_slice_two HO.out
          go_wp2_with fail
          go_ret
          exact ⟨rfl, HBW.out.trans (HB4.out.mono HBW.out.size)⟩
        exact AllReadyH.nil
      exact AllReadyH.nil
    exact AllReadyH.nil
  exact AllReadyH.nil
end Go.Proofs.Ytnemacejaiifnaa
