/- The laws of Check and of Closure. -/
import Derived.Test.YtlkbdbijlnjjbaaPgHead
set_option linter.unusedVariables false
namespace Go.Proofs.Ytlkbdbijlnjjbaa
open Go Go.RowKit

set_option maxHeartbeats 1600000 in
set_option maxRecDepth 100000 in
theorem lcheck_any (p : Pg) (v : Value) (w : World) (h : PgV w p v) : Calls Try.prog 3 #[v] w (fun e w' => e = .returned (.bool true) ∧ Below w.heap.size w w') := by
  have H0 := Lib.hid h
  obtain ⟨A, n, c, hn, rfl, hI, hs, hc, hnb⟩ := h.opened
  obtain ⟨w1, hw1⟩ : ∃ w1, w.alloc (.cells #[.slice A n c, .int .i64 p.start, .int .i64 p.caps] 24) = w1 := ⟨_, rfl⟩
  obtain ⟨hb1, e0, e1, e2, hz1⟩ := box3_new w _ _ _ _ hw1
  have HF : Hid (∀ W, Below w1.heap.size w1 W → W.cell? ⟨w.heap.size, 0, none⟩ = some (.slice A n c) ∧ W.cell? ⟨w.heap.size, 1, none⟩ = some (.int .i64 p.start) ∧ W.cell? ⟨w.heap.size, 2, none⟩ = some (.int .i64 p.caps)) := Lib.hid fun W hW => ⟨cell_on hW e0, cell_on hW e1, cell_on hW e2⟩
  have HP : Hid (∀ W, Below w1.heap.size w1 W → PgV W p (.agg #[.slice A n c, .int .i64 p.start, .int .i64 p.caps])) := Lib.hid fun W hW => H0.out.below (below_steps hb1 hW)
  have HB1 := Lib.hid hb1; have HW1 := Lib.hid hw1
  clear h hI hs hc hw1 hb1 hz1 hn e0 e1 e2 H0
  go_enter Try.func3, Try.ntmps3
  go_upto_region 1 with (fail)
  rw [HW1.out]
  go_wp2_with fail
  refine (head12_any w1).mono ?_
  rintro e w2 ⟨rfl, hb2⟩
  have HB2 := Lib.hid hb2
  clear hb2
  obtain ⟨e0, e1, e2⟩ := HF.out _ HB2.out
  go_wp2_with fail
  refine wp_region_held_drew (S := (fun W => W.cell? ⟨w.heap.size, 0, none⟩ = some (.slice A n c) ∧ W.cell? ⟨w.heap.size, 1, none⟩ = some (.int .i64 p.start) ∧ W.cell? ⟨w.heap.size, 2, none⟩ = some (.int .i64 p.caps))) (by kernel_rfl) (HF.out _ (below_steps HB2.out (Below.refl _ _).drew)) (fun hHeld => ?_)
  refine wpAnyH_take (i := 0) (oi := _) (v := ?_) rfl (by kernel_rfl) (by kernel_rfl) (by kernel_rfl) (fun _ _ _ h => h) (Or.inl ⟨by rfl, ?_⟩) (by assumption) ?_
  rotate_left 1
  · (intro w hSw; (try dsimp only at hSw); go_simp; (try with_reducible rfl))
  try simp only [List.getElem_toArray, List.getElem_cons_zero, List.getElem_cons_succ, Act.put, List.setIfInBounds_toArray, List.set_cons_zero, List.set_cons_succ]
  refine wpAnyH_take (i := 1) (oi := _) (v := ?_) rfl (by kernel_rfl) (by kernel_rfl) (by kernel_rfl) (fun _ _ _ h => h) (Or.inl ⟨by rfl, ?_⟩) (by assumption) ?_
  rotate_left 1
  · (intro w hSw; (try dsimp only at hSw); go_simp; (try with_reducible rfl))
  try simp only [List.getElem_toArray, List.getElem_cons_zero, List.getElem_cons_succ, Act.put, List.setIfInBounds_toArray, List.set_cons_zero, List.set_cons_succ]
  refine wpAnyH_take (i := 2) (oi := _) (v := ?_) rfl (by kernel_rfl) (by kernel_rfl) (by kernel_rfl) (fun _ _ _ h => h) (Or.inl ⟨by rfl, ?_⟩) (by assumption) ?_
  rotate_left 1
  · (intro w hSw; (try dsimp only at hSw); go_simp; (try with_reducible rfl))
  try simp only [List.getElem_toArray, List.getElem_cons_zero, List.getElem_cons_succ, Act.put, List.setIfInBounds_toArray, List.set_cons_zero, List.set_cons_succ]
  refine wpAnyH_take (i := 4) (oi := _) (v := ?_) rfl (by kernel_rfl) (by kernel_rfl) (by kernel_rfl) (fun _ _ _ h => h) (Or.inl ⟨by rfl, ?_⟩) (by assumption) ?_
  rotate_left 1
  · (intro w hSw; (try dsimp only at hSw); go_simp; (try with_reducible rfl))
  try simp only [List.getElem_toArray, List.getElem_cons_zero, List.getElem_cons_succ, Act.put, List.setIfInBounds_toArray, List.set_cons_zero, List.set_cons_succ]
  refine wpAnyH_ready (rs := [3]) (by kernel_rfl) (by simp) ?_
  refine AllReadyH.cons (o := _) rfl (fun K hK => ?_) ?_
  · go_simp
    refine (pcheck_any p _ _ (HP.out _ (below_steps HB2.out (Below.refl _ _).drew))).mono ?_
    rintro e w3 ⟨r, rfl, hr, hb3⟩
    have hb3 := below_of_drew hb3
    have HB3 := Lib.hid (below_steps HB2.out hb3)
    have HR := Lib.hid hr
    have hS3 := HF.out _ HB3.out
    clear hb3 hr
    go_wp2_with fail
    refine hK.out _ _ hS3 (fun hHeld => ?_)
    clear hK K
    try simp only [List.getElem_toArray, List.getElem_cons_zero, List.getElem_cons_succ, Act.put, List.setIfInBounds_toArray, List.set_cons_zero, List.set_cons_succ]
    refine wpAnyH_ready (rs := [5]) (by kernel_rfl) (by simp) ?_
    refine AllReadyH.cons (o := _) rfl (fun K hK => ?_) ?_
    · go_simp
      refine (rcheck_any p _ _ (HP.out _ HB3.out)).mono ?_
      rintro e w4 ⟨r2, rfl, hr, hb4⟩
      have HB4 := Lib.hid (below_steps HB3.out hb4)
      have hE : r = r2 := by
        rcases HR.out with ⟨rfl, h1⟩ | ⟨rfl, h1⟩ <;> rcases hr with ⟨rfl, h2⟩ | ⟨rfl, h2⟩
        · rfl
        · exact absurd h1 h2
        · exact absurd h2 h1
        · rfl
      subst hE
      have hS4 := HF.out _ HB4.out
      clear hb4 hr
      go_wp2_with fail
      refine hK.out _ _ hS4 (fun hHeld => ?_)
      clear hK K
      try simp only [List.getElem_toArray, List.getElem_cons_zero, List.getElem_cons_succ, Act.put, List.setIfInBounds_toArray, List.set_cons_zero, List.set_cons_succ]
      refine wpAnyH_take (i := 6) (oi := _) (v := ?_) rfl (by kernel_rfl) (by kernel_rfl) (by kernel_rfl) (fun _ _ _ h => h) (Or.inl ⟨by rfl, ?_⟩) (by assumption) ?_
      rotate_left 1
      · (intro w hSw; (try dsimp only at hSw); go_simp; (try with_reducible rfl))
      try simp only [List.getElem_toArray, List.getElem_cons_zero, List.getElem_cons_succ, Act.put, List.setIfInBounds_toArray, List.set_cons_zero, List.set_cons_succ]
      refine wpAnyH_take (i := 7) (oi := _) (v := ?_) rfl (by kernel_rfl) (by kernel_rfl) (by kernel_rfl) (fun _ _ _ h => h) (Or.inl ⟨by rfl, ?_⟩) (by assumption) ?_
      rotate_left 1
      · (intro w hSw; (try dsimp only at hSw); go_simp; (try with_reducible rfl))
      try simp only [List.getElem_toArray, List.getElem_cons_zero, List.getElem_cons_succ, Act.put, List.setIfInBounds_toArray, List.set_cons_zero, List.set_cons_succ]
      refine wpAnyH_take (i := 8) (oi := _) (v := ?_) rfl (by kernel_rfl) (by kernel_rfl) (by kernel_rfl) (fun _ _ _ h => h) (Or.inl ⟨by rfl, ?_⟩) (by assumption) ?_
      rotate_left 1
      · (intro w hSw; (try dsimp only at hSw); go_simp; (try with_reducible rfl))
      try simp only [List.getElem_toArray, List.getElem_cons_zero, List.getElem_cons_succ, Act.put, List.setIfInBounds_toArray, List.set_cons_zero, List.set_cons_succ]
      refine wpAnyH_done (by kernel_rfl) ?_ _
      go_wp2_with fail
      go_ret
      exact ⟨by simp, below_steps HB1.out HB4.out⟩
    exact AllReadyH.nil
  exact AllReadyH.nil

theorem lit_list (w : World) (T : TypeId) : Below w.heap.size w (w.alloc (.cells #[] T)) := (Below.refl _ _).alloc (Nat.le_refl _) _
/-- What SameInts says of a list and the same. -/
theorem same_self (v u : Value) (l : List Int) (w : World) (h : Zs w v l) (g : Zs w u l) : Calls Try.prog 16 #[v, u] w (fun e w' => e = .returned (.bool true) ∧ Below w.heap.size w w') := by
  refine (zsame_any v u l l w h g).mono ?_
  rintro e w' ⟨B, rfl, hB, q, rfl⟩
  have : B = true := hB.2 rfl
  subst this
  exact ⟨rfl, below_draws w q⟩
set_option maxHeartbeats 1600000 in
set_option maxRecDepth 100000 in
theorem lclose_any (p : Pg) (v u : Value) (pcs : List Int) (at' : Int) (long : Bool) (w : World) (h : PgV w p v) (g : Zs w u pcs) (hlen : pcs.length ≤ 17592186044416) :
    Calls Try.prog 4 #[v, u, .int .i64 at', .bool long] w (fun e w' => e = .returned (.bool true) ∧ Below w.heap.size w w') := by
  have HZ := Lib.hid g
  have H0 := Lib.hid h
  obtain ⟨A, n, c, hn, rfl, hI, hs, hc, hnb⟩ := h.opened
  obtain ⟨w1, hw1⟩ : ∃ w1, w.alloc (.cells #[.slice A n c, .int .i64 p.start, .int .i64 p.caps] 24) = w1 := ⟨_, rfl⟩
  obtain ⟨hb1, e0, e1, e2, hz1⟩ := box3_new w _ _ _ _ hw1
  have HF : Hid (∀ W, Below w1.heap.size w1 W → W.cell? ⟨w.heap.size, 0, none⟩ = some (.slice A n c) ∧ W.cell? ⟨w.heap.size, 1, none⟩ = some (.int .i64 p.start) ∧ W.cell? ⟨w.heap.size, 2, none⟩ = some (.int .i64 p.caps)) := Lib.hid fun W hW => ⟨cell_on hW e0, cell_on hW e1, cell_on hW e2⟩
  have HP : Hid (∀ W, Below w1.heap.size w1 W → PgV W p (.agg #[.slice A n c, .int .i64 p.start, .int .i64 p.caps])) := Lib.hid fun W hW => H0.out.below (below_steps hb1 hW)
  have HB1 := Lib.hid hb1; have HW1 := Lib.hid hw1
  clear h hI hs hc hw1 hb1 hz1 hn e0 e1 e2 H0
  obtain ⟨A2, c2, rfl, -⟩ := g
  have HLN := Lib.hid hlen
  obtain ⟨m, hm⟩ : ∃ m, pcs.length = m := ⟨_, rfl⟩
  rw [hm] at HZ ⊢
  clear hm hlen
  go_enter Try.func4, Try.ntmps4
  go_upto_region 1 with (fail)
  rw [HW1.out]
  go_wp2_with fail
  refine (head12_any w1).mono ?_
  rintro e w2 ⟨rfl, hb2⟩
  have HB2 := Lib.hid hb2
  clear hb2
  have HZ2 := Lib.hid (HZ.out.below (below_steps HB1.out HB2.out))
  have hb3 := lit_list w2 3
  have HO3 := Lib.hid (ownZ_lit w2 w2.heap.size (Nat.le_refl _) [] 0 #[] rfl rfl (Nat.zero_le _) (by simp))
  have HZ3 := Lib.hid (HZ2.out.below hb3)
  have HB3 := Lib.hid hb3
  clear hb3
  go_wp2_with (at_builtin; refine append_zs rfl (.tmp 16) (.tmp 17) rfl w2.heap.size _ [] rfl HO3.out A2 m c2 pcs rfl HZ3.out (by have := HLN.out; simp; omega) (by simp) ?_; intro v4 w4 ho4 hg4; have HO4 := Lib.hid ho4; have HB4 := Lib.hid (HB3.out.grown hg4 HB3.out.size (fun j e => by cases e; exact Nat.le_refl _)); clear ho4 hg4; have HX4 := Lib.hid (below_steps HB2.out HB4.out); obtain ⟨e0, e1, e2⟩ := HF.out _ HX4.out)
  refine (long12_any p _ w4 (HP.out _ HX4.out)).mono ?_
  rintro e w5 ⟨B, rfl, -, hb5⟩
  have HX5 := Lib.hid (below_steps HX4.out hb5); have HO5 := Lib.hid (HO4.out.below hb5); have HZ5 := Lib.hid ((HZ2.out.below HB4.out).below hb5)
  clear hb5 e0 e1 e2
  obtain ⟨e0, e1, e2⟩ := HF.out _ HX5.out
  cases B
  rotate_left
  · go_wp2_with fail
    go_ret
    exact ⟨rfl, below_steps HB1.out HX5.out⟩
  obtain ⟨a4, c4, hv4⟩ := own_slice HO5.out.1
  subst hv4
  have HO5' := HO5
  simp only [List.nil_append] at HO5'
  go_wp2_with fail
  refine (pclose_any p _ _ pcs at' long w5 (HP.out _ HX5.out) HO5'.out.zs HLN.out).mono ?_
  rintro e w6 ⟨v6, rfl, ho6, hb6⟩
  have HX6 := Lib.hid (below_steps HX5.out hb6); have HO6 := Lib.hid ho6; have HB6 := Lib.hid hb6
  obtain ⟨C, hC⟩ : ∃ C, closeG p pcs at' long = C := ⟨_, rfl⟩
  have HCC := Lib.hid hC
  rw [hC] at HO6
  clear hb6 ho6 e0 e1 e2
  obtain ⟨e0, e1, e2⟩ := HF.out _ HX6.out
  obtain ⟨a6, c6, hv6⟩ := own_slice HO6.out.1
  rw [hC]
  subst hv6
  clear hC
  go_wp2_with fail
  refine (rclose_any p _ _ pcs at' long w6 (HP.out _ HX6.out) (HZ5.out.below HB6.out)).mono ?_
  rintro e w7 ⟨v7, rfl, ho7, hb7⟩
  rw [HCC.out] at ho7 ⊢
  have HX7 := Lib.hid (below_steps HX6.out hb7); have HO7 := Lib.hid ho7
  have HS1 := Lib.hid (same_self _ _ (natsZ C.1) w7 (HO6.out.below hb7).zs ho7.zs)
  have HZ7 := Lib.hid ((HZ5.out.below HB6.out).below hb7); have HO57 := Lib.hid ((HO5'.out.below HB6.out).below hb7)
  clear hb7 ho7 e0 e1 e2
  obtain ⟨a7, c7, hv7⟩ := own_slice HO7.out.1
  subst hv7
  go_wp2_with fail
  refine HS1.out.mono ?_
  rintro e w8 ⟨rfl, hb8⟩
  have HX8 := Lib.hid (below_steps HX7.out hb8)
  have HS2 := Lib.hid (same_self _ _ pcs w8 (HO57.out.below hb8).zs (HZ7.out.below hb8))
  clear hb8
  go_wp2_with fail
  refine HS2.out.mono ?_
  rintro e w9 ⟨rfl, hb9⟩
  have HX9 := Lib.hid (below_steps HX8.out hb9)
  clear hb9
  go_wp2_with fail
  go_ret
  exact ⟨rfl, below_steps HB1.out HX9.out⟩
end Go.Proofs.Ytlkbdbijlnjjbaa
