/- The law of Closure of two lists. -/
import Derived.Test.YtlkbdbijlnjjbaaPgPlaces
set_option linter.unusedVariables false
namespace Go.Proofs.Ytlkbdbijlnjjbaa
open Go Go.RowKit

theorem want_take (m k : List Int) (j : Nat) (h : j < k.length) : wantZ m (k.take (j + 1)) = if k[j] ∈ m then wantZ m (k.take j) else wantZ m (k.take j) ++ [k[j]] := by
  unfold wantZ
  rw [List.take_succ_eq_append_getElem h, List.filter_append]
  by_cases hm : k[j] ∈ m
  · rw [if_pos hm]
    simp [hm]
  · rw [if_neg hm]
    simp [hm]
theorem mem_take (m : List Int) (j : Nat) (h : j < m.length) (x : Int) : x ∈ m.take (j + 1) ↔ x ∈ m.take j ∨ m[j] = x := by
  rw [List.take_succ_eq_append_getElem h, List.mem_append, List.mem_singleton]
  constructor
  · rintro (h | h)
    · exact .inl h
    · exact .inr h.symm
  · rintro (h | h)
    · exact .inl h
    · exact .inr h.symm
set_option maxHeartbeats 4000000 in
set_option maxRecDepth 100000 in
theorem lparts_any (p : Pg) (v ua ub : Value) (a b : List Int) (at' : Int) (w : World) (h : PgV w p v) (ga : Zs w ua a) (gb : Zs w ub b) (ha : a.length ≤ 1048576) (hb : b.length ≤ 1048576) :
    Calls Try.prog 9 #[v, ua, ub, .int .i64 at'] w (fun e w' => e = .returned (.bool true) ∧ Below w.heap.size w w') := by
  have HZA := Lib.hid ga; have HZB := Lib.hid gb; have HLA := Lib.hid ha; have HLB := Lib.hid hb
  clear ha hb
  have H0 := Lib.hid h
  obtain ⟨A, n, c, hn, rfl, hI, hs, hc, hnb⟩ := h.opened
  obtain ⟨w1, hw1⟩ : ∃ w1, w.alloc (.cells #[.slice A n c, .int .i64 p.start, .int .i64 p.caps] 24) = w1 := ⟨_, rfl⟩
  obtain ⟨hb1, e0, e1, e2, hz1⟩ := box3_new w _ _ _ _ hw1
  have HF : Hid (∀ W, Below w1.heap.size w1 W → W.cell? ⟨w.heap.size, 0, none⟩ = some (.slice A n c) ∧ W.cell? ⟨w.heap.size, 1, none⟩ = some (.int .i64 p.start) ∧ W.cell? ⟨w.heap.size, 2, none⟩ = some (.int .i64 p.caps)) := Lib.hid fun W hW => ⟨cell_on hW e0, cell_on hW e1, cell_on hW e2⟩
  have HP : Hid (∀ W, Below w1.heap.size w1 W → PgV W p (.agg #[.slice A n c, .int .i64 p.start, .int .i64 p.caps])) := Lib.hid fun W hW => H0.out.below (below_steps hb1 hW)
  have HB1 := Lib.hid hb1; have HW1 := Lib.hid hw1
  clear h hI hs hc hw1 hb1 hz1 hn e0 e1 e2 H0
  obtain ⟨A2, c2, rfl, -⟩ := ga
  obtain ⟨A3, c3, rfl, -⟩ := gb
  obtain ⟨na, hna⟩ : ∃ m, a.length = m := ⟨_, rfl⟩
  obtain ⟨nb, hnb'⟩ : ∃ m, b.length = m := ⟨_, rfl⟩
  rw [hna] at HZA ⊢
  rw [hnb'] at HZB ⊢
  have HNA := Lib.hid hna; have HNB := Lib.hid hnb'
  clear hna hnb'
  go_enter Try.func9, Try.ntmps9
  go_upto_region 1 with (fail)
  rw [HW1.out]
  go_wp2_with fail
  refine (head12_any w1).mono ?_
  rintro e w2 ⟨rfl, hb2⟩
  have HB2 := Lib.hid hb2
  clear hb2
  obtain ⟨e0, e1, e2⟩ := HF.out _ HB2.out
  go_wp2_with fail
  refine (long12_any p _ w2 (HP.out _ HB2.out)).mono ?_
  rintro e w3 ⟨B, rfl, -, hb3⟩
  have HB3 := Lib.hid (below_steps HB2.out hb3)
  clear hb3 e0 e1 e2
  obtain ⟨e0, e1, e2⟩ := HF.out _ HB3.out
  cases B
  rotate_left
  · go_wp2_with fail
    go_ret
    exact ⟨rfl, below_steps HB1.out HB3.out⟩
  have HA : Hid (∀ W, Below w1.heap.size w1 W → Zs W (.slice A2 na c2) a) := Lib.hid fun W hW => HZA.out.below (below_steps HB1.out hW)
  have HB : Hid (∀ W, Below w1.heap.size w1 W → Zs W (.slice A3 nb c3) b) := Lib.hid fun W hW => HZB.out.below (below_steps HB1.out hW)
  obtain ⟨CL, hCL⟩ : ∃ C, closeG p (a ++ b) at' true = C := ⟨_, rfl⟩
  obtain ⟨CM, hCM⟩ : ∃ C, closeG p a at' true = C := ⟨_, rfl⟩
  obtain ⟨CN, hCN⟩ : ∃ C, closeG p b at' true = C := ⟨_, rfl⟩
  have hfacts := parts_facts p a b at'
  have hbads := parts_bad p a b at'
  have hsm := close_short p a at' true
  have hsn := close_short p b at' true
  have hsl := close_short p (a ++ b) at' true
  rw [hCL, hCM, hCN] at hfacts
  rw [hCL] at hbads hsl
  rw [hCM] at hsm
  rw [hCN] at hsn
  obtain ⟨Ll, bl⟩ := CL
  obtain ⟨Lm, bm⟩ := CM
  obtain ⟨Ln, bn⟩ := CN
  simp only at hfacts hsm hsn hsl
  have HCL := Lib.hid hCL; have HCM := Lib.hid hCM; have HCN := Lib.hid hCN; have HFA := Lib.hid hfacts; have HBA := Lib.hid hbads
  have HSM : Hid ((natsZ Lm).length ≤ 10000) := Lib.hid (by rw [natsZ_len]; exact hsm)
  have HSN : Hid ((natsZ Ln).length ≤ 10000) := Lib.hid (by rw [natsZ_len]; exact hsn)
  have HSL : Hid ((natsZ Ll).length ≤ 10000) := Lib.hid (by rw [natsZ_len]; exact hsl)
  clear hCL hCM hCN hfacts hbads hsm hsn hsl
  go_wp2_with fail
  refine wp_region_held_drew (S := (fun W => W.cell? ⟨w.heap.size, 0, none⟩ = some (.slice A n c) ∧ W.cell? ⟨w.heap.size, 1, none⟩ = some (.int .i64 p.start) ∧ W.cell? ⟨w.heap.size, 2, none⟩ = some (.int .i64 p.caps))) (by kernel_rfl) (HF.out _ (below_steps HB3.out (Below.refl _ _).drew)) (fun hHeld => ?_)
  refine wpAnyH_take (i := 0) (oi := _) (v := ?_) rfl (by kernel_rfl) (by kernel_rfl) (by kernel_rfl) (fun _ _ _ h => h) (Or.inl ⟨by rfl, ?_⟩) (by assumption) ?_
  rotate_left 1
  · (intro w hSw; (try dsimp only at hSw); go_simp; (try with_reducible rfl))
  try simp only [List.getElem_toArray, List.getElem_cons_zero, List.getElem_cons_succ, Act.put, List.setIfInBounds_toArray, List.set_cons_zero, List.set_cons_succ]
  refine wpAnyH_take (i := 2) (oi := _) (v := ?_) rfl (by kernel_rfl) (by kernel_rfl) (by kernel_rfl) (fun _ _ _ h => h) (Or.inl ⟨by rfl, ?_⟩) (by assumption) ?_
  rotate_left 1
  · (intro w hSw; (try dsimp only at hSw); go_simp; (try with_reducible rfl))
  try simp only [List.getElem_toArray, List.getElem_cons_zero, List.getElem_cons_succ, Act.put, List.setIfInBounds_toArray, List.set_cons_zero, List.set_cons_succ]
  refine wpAnyH_take (i := 4) (oi := _) (v := ?_) rfl (by kernel_rfl) (by kernel_rfl) (by kernel_rfl) (fun _ _ _ h => h) (Or.inl ⟨by rfl, ?_⟩) (by assumption) ?_
  rotate_left 1
  · (intro w hSw; (try dsimp only at hSw); go_simp; (try with_reducible rfl))
  try simp only [List.getElem_toArray, List.getElem_cons_zero, List.getElem_cons_succ, Act.put, List.setIfInBounds_toArray, List.set_cons_zero, List.set_cons_succ]
  refine wpAnyH_take (i := 6) (oi := _) (v := ?_) rfl (by kernel_rfl) (by kernel_rfl) (by kernel_rfl) (fun _ _ _ h => h) (Or.inl ⟨by rfl, ?_⟩) (by assumption) ?_
  rotate_left 1
  · (intro w hSw; (try dsimp only at hSw); go_simp; (try with_reducible rfl))
  try simp only [List.getElem_toArray, List.getElem_cons_zero, List.getElem_cons_succ, Act.put, List.setIfInBounds_toArray, List.set_cons_zero, List.set_cons_succ]
  refine wpAnyH_ready (rs := [1]) (by kernel_rfl) (by simp) ?_
  refine AllReadyH.cons (o := _) rfl (fun K hK => ?_) ?_
  · go_simp
    obtain ⟨w4, hw4⟩ : ∃ w4, (w3.alloc (.cells #[] 3)).drew = w4 := ⟨_, rfl⟩
    rw [hw4]
    have hb4 : Below w3.heap.size w3 w4 := by rw [← hw4]; exact ((Below.refl _ w3).alloc (Nat.le_refl _) _).drew
    have ho4 : OwnZ w4 w3.heap.size (.slice (some ⟨w3.heap.size, 0, none⟩) 0 0) [] := by rw [← hw4]; exact (ownZ_lit w3 w3.heap.size (Nat.le_refl _) [] 0 #[] rfl rfl (Nat.zero_le _) (by simp)).below (Below.refl _ _).drew
    have HB4 := Lib.hid (below_steps HB3.out hb4)
    have HO4 := Lib.hid ho4
    have HS4 : Hid (w3.heap.size ≤ w4.heap.size) := Lib.hid hb4.size
    have hS4 := HF.out _ HB4.out
    clear hw4 hb4 ho4
    refine hK.out _ _ hS4 (fun hHeld => ?_)
    clear hK K
    try simp only [List.getElem_toArray, List.getElem_cons_zero, List.getElem_cons_succ, Act.put, List.setIfInBounds_toArray, List.set_cons_zero, List.set_cons_succ]
    refine wpAnyH_ready (rs := [3]) (by kernel_rfl) (by simp) ?_
    refine AllReadyH.cons (o := _) rfl (fun K hK => ?_) ?_
    · refine step_append_zs rfl (.tmp 29) (.tmp 30) rfl w3.heap.size _ [] rfl HO4.out A2 na c2 a rfl (HA.out _ HB4.out) (by have := HLA.out; simp; omega) HS4.out ?_
      intro v5 w5 ho5 hg5
      have HB5 := Lib.hid (HB4.out.grown hg5 HB4.out.size (fun j e => by cases e; exact HB3.out.size))
      have HO5 := Lib.hid ho5
      have HS5 := Lib.hid (Nat.le_trans HS4.out hg5.size)
      have hS5 := HF.out _ HB5.out
      clear ho5 hg5
      refine hK.out _ _ hS5 (fun hHeld => ?_)
      clear hK K
      try simp only [List.getElem_toArray, List.getElem_cons_zero, List.getElem_cons_succ, Act.put, List.setIfInBounds_toArray, List.set_cons_zero, List.set_cons_succ]
      refine wpAnyH_ready (rs := [5]) (by kernel_rfl) (by simp) ?_
      refine AllReadyH.cons (o := _) rfl (fun K hK => ?_) ?_
      · refine step_append_zs rfl (.tmp 31) (.tmp 32) rfl w3.heap.size v5 ([] ++ a) rfl HO5.out A3 nb c3 b rfl (HB.out _ HB5.out) (by have := HLA.out; have := HLB.out; simp; omega) HS5.out ?_
        intro v6 w6 ho6 hg6
        have HB6 := Lib.hid (HB5.out.grown hg6 HB5.out.size (fun j e => Nat.le_trans HB3.out.size (own_ge HO5.out e)))
        have ho6' : OwnZ w6 w3.heap.size v6 (a ++ b) := by simpa using ho6
        have HO6 := Lib.hid ho6'
        obtain ⟨a6, c6, hv6⟩ := own_slice ho6'.1
        obtain ⟨n6, hn6⟩ : ∃ n6, (a ++ b).length = n6 := ⟨_, rfl⟩
        rw [hn6] at hv6
        subst hv6
        have hS6 := HF.out _ HB6.out
        clear ho6 ho6' hg6 hn6
        refine hK.out _ _ hS6 (fun hHeld => ?_)
        clear hK K
        try simp only [List.getElem_toArray, List.getElem_cons_zero, List.getElem_cons_succ, Act.put, List.setIfInBounds_toArray, List.set_cons_zero, List.set_cons_succ]
        refine wpAnyH_ready (rs := [7]) (by kernel_rfl) (by simp) ?_
        refine AllReadyH.cons (o := _) rfl (fun K hK => ?_) ?_
        · go_simp
          refine (pclose_any p _ _ (a ++ b) at' true _ (HP.out _ HB6.out) HO6.out.zs (by rw [List.length_append]; have := HLA.out; have := HLB.out; omega)).mono ?_
          rintro e w7 ⟨v7, rfl, ho7, hb7⟩
          rw [HCL.out] at ho7 ⊢
          have HO7 := Lib.hid ho7
          have HB7 := Lib.hid (below_steps HB6.out hb7)
          have hS7 := HF.out _ HB7.out
          clear hb7 ho7
          go_wp2_with fail
          refine hK.out _ _ hS7 (fun hHeld => ?_)
          clear hK K
          try simp only [List.getElem_toArray, List.getElem_cons_zero, List.getElem_cons_succ, Act.put, List.setIfInBounds_toArray, List.set_cons_zero, List.set_cons_succ]
          refine wpAnyH_take (i := 8) (oi := _) (v := ?_) rfl (by kernel_rfl) (by kernel_rfl) (by kernel_rfl) (fun _ _ _ h => h) (Or.inl ⟨by rfl, ?_⟩) (by assumption) ?_
          rotate_left 1
          · (intro w hSw; (try dsimp only at hSw); go_simp; (try with_reducible rfl))
          try simp only [List.getElem_toArray, List.getElem_cons_zero, List.getElem_cons_succ, Act.put, List.setIfInBounds_toArray, List.set_cons_zero, List.set_cons_succ]
          refine wpAnyH_take (i := 9) (oi := _) (v := ?_) rfl (by kernel_rfl) (by kernel_rfl) (by kernel_rfl) (fun _ _ _ h => h) (Or.inl ⟨by rfl, ?_⟩) (by assumption) ?_
          rotate_left 1
          · (intro w hSw; (try dsimp only at hSw); go_simp; (try with_reducible rfl))
          try simp only [List.getElem_toArray, List.getElem_cons_zero, List.getElem_cons_succ, Act.put, List.setIfInBounds_toArray, List.set_cons_zero, List.set_cons_succ]
          refine wpAnyH_take (i := 10) (oi := _) (v := ?_) rfl (by kernel_rfl) (by kernel_rfl) (by kernel_rfl) (fun _ _ _ h => h) (Or.inl ⟨by rfl, ?_⟩) (by assumption) ?_
          rotate_left 1
          · (intro w hSw; (try dsimp only at hSw); go_simp; (try with_reducible rfl))
          try simp only [List.getElem_toArray, List.getElem_cons_zero, List.getElem_cons_succ, Act.put, List.setIfInBounds_toArray, List.set_cons_zero, List.set_cons_succ]
          refine wpAnyH_take (i := 11) (oi := _) (v := ?_) rfl (by kernel_rfl) (by kernel_rfl) (by kernel_rfl) (fun _ _ _ h => h) (Or.inl ⟨by rfl, ?_⟩) (by assumption) ?_
          rotate_left 1
          · (intro w hSw; (try dsimp only at hSw); go_simp; (try with_reducible rfl))
          try simp only [List.getElem_toArray, List.getElem_cons_zero, List.getElem_cons_succ, Act.put, List.setIfInBounds_toArray, List.set_cons_zero, List.set_cons_succ]
          refine wpAnyH_take (i := 12) (oi := _) (v := ?_) rfl (by kernel_rfl) (by kernel_rfl) (by kernel_rfl) (fun _ _ _ h => h) (Or.inl ⟨by rfl, ?_⟩) (by assumption) ?_
          rotate_left 1
          · (intro w hSw; (try dsimp only at hSw); go_simp; (try with_reducible rfl))
          try simp only [List.getElem_toArray, List.getElem_cons_zero, List.getElem_cons_succ, Act.put, List.setIfInBounds_toArray, List.set_cons_zero, List.set_cons_succ]
          refine wpAnyH_done (by kernel_rfl) ?_ _
          clear hHeld e0 e1 e2 hS4 hS5 hS6 hS7
          obtain ⟨e0, e1, e2⟩ := HF.out _ HB7.out
          obtain ⟨a7, c7, hv7⟩ := own_slice HO7.out.1
          obtain ⟨nl, hnl⟩ : ∃ nl, (natsZ (Ll, bl).1).length = nl := ⟨_, rfl⟩
          rw [hnl] at hv7
          subst hv7
          simp only at HO7 hnl ⊢
          have HNL := Lib.hid hnl
          clear hnl HO4 HO5 HO6
          go_wp2_with fail
          refine (pclose_any p _ _ a at' true w7 (HP.out _ HB7.out) (HA.out _ HB7.out) (by have := HLA.out; omega)).mono ?_
          rintro e w8 ⟨v8, rfl, ho8, hb8⟩
          rw [HCM.out] at ho8 ⊢
          have HB8 := Lib.hid (below_steps HB7.out hb8); have HO8 := Lib.hid ho8; have HO78 := Lib.hid (HO7.out.below hb8)
          obtain ⟨a8, c8, hv8⟩ := own_slice ho8.1
          obtain ⟨nm, hnm⟩ : ∃ nm, (natsZ (Lm, bm).1).length = nm := ⟨_, rfl⟩
          rw [hnm] at hv8
          subst hv8
          simp only at HO8 hnm ⊢
          have HNM := Lib.hid hnm
          clear hnm hb8 ho8 e0 e1 e2
          obtain ⟨e0, e1, e2⟩ := HF.out _ HB8.out
          go_wp2_with fail
          refine (pclose_any p _ _ b at' true w8 (HP.out _ HB8.out) (HB.out _ HB8.out) (by have := HLB.out; omega)).mono ?_
          rintro e w9 ⟨v9, rfl, ho9, hb9⟩
          rw [HCN.out] at ho9 ⊢
          have HB9 := Lib.hid (below_steps HB8.out hb9); have HO9 := Lib.hid ho9; have HO89 := Lib.hid (HO8.out.below hb9); have HO79 := Lib.hid (HO78.out.below hb9)
          obtain ⟨a9, c9, hv9⟩ := own_slice ho9.1
          obtain ⟨nn, hnn⟩ : ∃ nn, (natsZ (Ln, bn).1).length = nn := ⟨_, rfl⟩
          rw [hnn] at hv9
          subst hv9
          simp only at HO9 hnn ⊢
          have HNN := Lib.hid hnn
          clear hnn hb9 ho9 e0 e1 e2
          obtain ⟨e0, e1, e2⟩ := HF.out _ HB9.out
          go_wp2_with fail
          refine (pcheck_any p _ w9 (HP.out _ HB9.out)).mono ?_
          rintro e w10 ⟨r, rfl, hr, hb10⟩
          have HB10 := Lib.hid (below_steps HB9.out hb10); have HT10 := Lib.hid hb10
          clear hb10 e0 e1 e2
          obtain ⟨e0, e1, e2⟩ := HF.out _ HB10.out
          rcases hr with ⟨rfl, hR⟩ | ⟨rfl, hR⟩
          rotate_left
          · have hbad := HBA.out (fun h => hR h.1.1)
            injection hbad with h1 h2
            subst h1 h2
            have hz : nl = 0 := by have := HNL.out; simpa [natsZ] using this.symm
            subst hz
            clear hR e0 e1 e2
            go_wp2_with fail
            go_ret
            exact ⟨rfl, below_steps HB1.out HB10.out⟩
          have HR := Lib.hid hR
          clear hR
          go_wp2_with fail
          refine (lplaces_any p _ _ a w10 (HP.out _ HB10.out) (HA.out _ HB10.out)).mono ?_
          rintro e w11 ⟨B, rfl, hq, hb11⟩
          have HB11 := Lib.hid (below_steps HB10.out hb11); have HT11 := Lib.hid (below_steps HT10.out hb11); have HQ := Lib.hid hq
          clear hb11 hq e0 e1 e2
          obtain ⟨e0, e1, e2⟩ := HF.out _ HB11.out
          cases B
          · have hbad := HBA.out (fun h => Bool.false_ne_true (HQ.out.2 h.1.2))
            injection hbad with h1 h2
            subst h1 h2
            have hz : nl = 0 := by have := HNL.out; simpa [natsZ] using this.symm
            subst hz
            clear HQ e0 e1 e2
            go_wp2_with fail
            go_ret
            exact ⟨rfl, below_steps HB1.out HB11.out⟩
          have HGA : Hid (GoodPg p a) := Lib.hid ⟨HR.out, HQ.out.1 rfl⟩
          clear HQ
          go_wp2_with fail
          refine (lplaces_any p _ _ b w11 (HP.out _ HB11.out) (HB.out _ HB11.out)).mono ?_
          rintro e w12 ⟨B, rfl, hq, hb12⟩
          have HB12 := Lib.hid (below_steps HB11.out hb12); have HT12 := Lib.hid (below_steps HT11.out hb12); have HQ := Lib.hid hq
          clear hb12 hq e0 e1 e2
          obtain ⟨e0, e1, e2⟩ := HF.out _ HB12.out
          cases B
          · have hbad := HBA.out (fun h => Bool.false_ne_true (HQ.out.2 h.2.2))
            injection hbad with h1 h2
            subst h1 h2
            have hz : nl = 0 := by have := HNL.out; simpa [natsZ] using this.symm
            subst hz
            clear HQ e0 e1 e2
            go_wp2_with fail
            go_ret
            exact ⟨rfl, below_steps HB1.out HB12.out⟩
          obtain ⟨⟨E, hE⟩, hlen, hsub, hbit⟩ := HFA.out ⟨HGA.out, HR.out, HQ.out.1 rfl⟩
          obtain ⟨M, hMl⟩ : ∃ M, natsZ Lm = M := ⟨_, rfl⟩
          obtain ⟨K, hKl⟩ : ∃ K, natsZ Ln = K := ⟨_, rfl⟩
          obtain ⟨L, hLl⟩ : ∃ L, natsZ Ll = L := ⟨_, rfl⟩
          rw [hMl] at hE hlen hsub HO89 HNM HSM
          rw [hKl] at hlen hsub HO9 HNN HSN
          rw [hLl] at hE hlen hsub HO79 HNL HSL
          have HE := Lib.hid hE; have HLEN := Lib.hid hlen; have HSUB := Lib.hid hsub; have HBIT := Lib.hid hbit
          have HOM := Lib.hid (HO89.out.below HT12.out); have HON := Lib.hid (HO9.out.below HT12.out); have HOL := Lib.hid (HO79.out.below HT12.out)
          have hb13 := lit_list w12 3
          have HO13 := Lib.hid (ownZ_lit w12 w12.heap.size (Nat.le_refl _) [] 0 #[] rfl rfl (Nat.zero_le _) (by simp))
          have HZM := Lib.hid (HOM.out.zs.below hb13)
          have HT13 := Lib.hid hb13
          clear HQ hE hlen hsub hbit hMl hKl hLl hb13 e0 e1 e2 HFA HBA
          go_wp2_with (at_builtin; refine append_zs rfl (.tmp 77) (.tmp 78) rfl w12.heap.size _ [] rfl HO13.out a8 nm c8 M rfl HZM.out (by have := HSM.out; simp; omega) (by simp) ?_; intro v14 w14 ho14 hg14; have HO14 := Lib.hid ho14; have HT14 := Lib.hid (HT13.out.grown hg14 HT13.out.size (fun j e => by cases e; exact Nat.le_refl _)); clear ho14 hg14)
          have hb_m : nm ≤ 10000 := by have h1 := HSM.out; have h2 := HNM.out; omega
          have hb_n : nn ≤ 10000 := by have h1 := HSN.out; have h2 := HNN.out; omega
          have hb_l : nl ≤ 10000 := by have h1 := HSL.out; have h2 := HNL.out; omega
          have HW14 : Hid (OwnZ w14 w12.heap.size v14 (wantZ M (K.take 0))) := Lib.hid (by have := HO14.out; simpa [wantZ] using this)
          go_loopw [16, 17] (fun wv i wr => ∃ k : Nat, k ≤ nn ∧ i = .int .i64 k ∧ OwnZ wr w12.heap.size wv (wantZ M (K.take k)) ∧ Below w12.heap.size w12 wr) (fun _ i _ => nn - (intOf i).toNat)
          case atStart => exact ⟨0, Nat.zero_le _, rfl, HW14.out, HT14.out⟩
          case round =>
            obtain ⟨k, hk, rfl, hO, hT⟩ := hrel
            have HO := Lib.hid hO; have HT := Lib.hid hT
            clear hO hT
            by_cases hkn : k < nn
            · have hkl : k < K.length := by have := HNN.out; omega
              obtain ⟨bk, ok, x, hAk, hxk, -, k0, hR64⟩ := (HON.out.zs.below HT.out).at' k hkl
              have hwt := want_take M K k hkl
              rw [hxk] at hwt
              subst hAk
              have HWT := Lib.hid hwt
              clear hwt hxk hkl
              obtain ⟨Wk, rfl⟩ : ∃ Wk, Wk = wr := ⟨_, rfl⟩
              go_wp2_with fail
              go_loopw [18, 19] (fun kv j wr2 => ∃ i2 : Nat, i2 ≤ nm ∧ j = .int .i64 i2 ∧ kv = .bool (decide (x ∈ M.take i2)) ∧ Below Wk.heap.size Wk wr2) (fun _ j _ => nm - (intOf j).toNat)
              case atStart => exact ⟨0, Nat.zero_le _, rfl, by simp, Below.refl _ _⟩
              case round =>
                obtain ⟨i2, hi2, rfl, rfl, hQ⟩ := hrel
                have HQW := Lib.hid hQ
                have k0' := cell_on hQ k0
                by_cases him : i2 < nm
                · have hil : i2 < M.length := by have := HNM.out; omega
                  obtain ⟨bm2, om2, y, hAm, hym, -, m0, -⟩ := (HOM.out.zs.below HT.out).at' i2 hil
                  have hmt := mem_take M i2 hil x
                  rw [hym] at hmt
                  subst hAm
                  have m0' := cell_on hQ m0
                  have HMT := Lib.hid hmt
                  clear hmt hym hil m0 hQ
                  by_cases hin : x ∈ M.take i2
                  · have HD : Hid (decide (x ∈ M.take (i2 + 1)) = true) := Lib.hid (decide_eq_true (HMT.out.2 (.inl hin)))
                    rw [decide_eq_true hin]
                    clear hin
                    go_wp2_with fail
                    go_big_quiet (fail)
                    go_wp2_with fail
                    go_roundw
                    case rel => exact ⟨i2 + 1, by omega, by go_num, by rw [HD.out], below_steps HQW.out (below_draws _ _)⟩
                    case measure => simp [intOf]; omega
                  · rw [decide_eq_false hin]
                    by_cases hyx : y = x
                    · have HD : Hid (decide (x ∈ M.take (i2 + 1)) = true) := Lib.hid (decide_eq_true (HMT.out.2 (.inr hyx)))
                      have dyx : (y == x) = true := beq_iff_eq.2 hyx
                      clear hin hyx
                      go_wp2_with fail
                      go_big_quiet (fail)
                      go_wp2_with fail
                      go_roundw
                      case rel => exact ⟨i2 + 1, by omega, by go_num, by rw [HD.out], below_steps HQW.out (below_draws _ _)⟩
                      case measure => simp [intOf]; omega
                    · have HD : Hid (decide (x ∈ M.take (i2 + 1)) = false) := Lib.hid (decide_eq_false (fun h => (HMT.out.1 h).elim hin hyx))
                      have dyx : (y == x) = false := beq_eq_false_iff_ne.2 hyx
                      clear hin hyx
                      go_wp2_with fail
                      go_big_quiet (fail)
                      go_wp2_with fail
                      go_roundw
                      case rel => exact ⟨i2 + 1, by omega, by go_num, by rw [HD.out], below_steps HQW.out (below_draws _ _)⟩
                      case measure => simp [intOf]; omega
                · have hfull : M.take i2 = M := List.take_of_length_le (by have := HNM.out; omega)
                  rw [hfull]
                  clear hfull
                  have hTq := below_steps HT.out hQ
                  have HTQ := Lib.hid hTq; have HOQ := Lib.hid (HO.out.below hQ)
                  obtain ⟨Wq, rfl⟩ : ∃ W, W = wr := ⟨_, rfl⟩
                  clear hTq HO HT k0 hQ HQW
                  by_cases hin : x ∈ M
                  · have HD : Hid (wantZ M (K.take (k + 1)) = wantZ M (K.take k)) := Lib.hid (by rw [HWT.out, if_pos hin])
                    rw [decide_eq_true hin]
                    clear hin
                    go_wp2_with fail
                    go_roundw
                    case rel => exact ⟨k + 1, by omega, by go_num, by rw [HD.out]; exact HOQ.out, HTQ.out⟩
                    case measure => simp [intOf]; omega
                  · have HD : Hid (wantZ M (K.take (k + 1)) = wantZ M (K.take k) ++ [x]) := Lib.hid (by rw [HWT.out, if_neg hin])
                    have hlw : (wantZ M (K.take k)).length ≤ 20000 := by
                      unfold wantZ
                      have h1 := List.length_filter_le (fun x => decide (x ∉ M)) (K.take k)
                      have h2 := HSM.out
                      have h3 := HSN.out
                      rw [List.length_take] at h1
                      rw [List.length_append]
                      omega
                    have HLW := Lib.hid hlw
                    rw [decide_eq_false hin]
                    have hb3 : Below Wq.heap.size Wq (Wq.alloc (.cells #[.int .i64 x] 3)) := (Below.refl _ Wq).alloc (Nat.le_refl _) _
                    have HO3 := Lib.hid (HOQ.out.below hb3); have HT3 := Lib.hid (below_steps HTQ.out hb3); have HZ3 := Lib.hid (zs_new Wq x hR64)
                    clear hin hlw hb3
                    go_wp2_with (at_builtin; refine append_zs rfl (.tmp 106) (.tmp 111) rfl w12.heap.size _ (wantZ M (K.take k)) rfl HO3.out (some ⟨Wq.heap.size, 0, none⟩) 1 1 [x] rfl HZ3.out (by have := HLW.out; simp; omega) HT3.out.size ?_; intro v15 w15 ho15 hg15; have HO15 := Lib.hid ho15; have HT15 := Lib.hid (HT3.out.grown hg15 HT3.out.size (fun j e => own_ge HO3.out e)); clear ho15 hg15)
                    go_roundw
                    case rel => exact ⟨k + 1, by omega, by go_num, by rw [HD.out]; exact HO15.out, HT15.out⟩
                    case measure => simp [intOf]; omega
            · have hfull : K.take k = K := List.take_of_length_le (by have := HNN.out; omega)
              rw [hfull] at HO
              have hle : (wantZ M K).length = nl := by rw [← HLEN.out]; exact HNL.out
              obtain ⟨V, hV⟩ : ∃ V, wantZ M K = V := ⟨_, rfl⟩
              rw [hV] at HO hle
              have HVS : Hid (∀ x ∈ L, x ∈ V) := Lib.hid (by rw [← hV]; exact HSUB.out)
              have HNW := Lib.hid hle
              obtain ⟨av, cv, hwv⟩ := own_slice HO.out.1
              rw [hle] at hwv
              subst hwv
              have HTX := Lib.hid HT.out; have HOW0 := Lib.hid HO.out
              obtain ⟨w16, rfl⟩ : ∃ W, W = wr := ⟨_, rfl⟩
              have hbx : bl = (bm || bn) := HBIT.out
              subst hbx
              clear hfull hle hV HO HT
              cases bm
              all_goals
                go_wp2_with fail
                go_loopw [20] (fun i wr => ∃ k : Nat, k ≤ nl ∧ i = .int .i64 k ∧ Below w16.heap.size w16 wr) (fun i _ => nl - (intOf i).toNat)
                case atStart => exact ⟨0, Nat.zero_le _, rfl, Below.refl _ _⟩
                case round =>
                  obtain ⟨k, hk, rfl, hT⟩ := hrel
                  have HT := Lib.hid hT
                  have HOW := Lib.hid HOW0.out
                  clear hT
                  by_cases hkn : k < nl
                  · have hkl : k < L.length := by have := HNL.out; omega
                    obtain ⟨bk, ok, x, hAk, hxk, hxm, k0, hR64⟩ := ((HOL.out.below HTX.out).zs.below HT.out).at' k hkl
                    have HXV := Lib.hid (HVS.out x hxm)
                    subst hAk
                    clear hxk hkl hxm
                    obtain ⟨Wk, rfl⟩ : ∃ Wk, Wk = wr := ⟨_, rfl⟩
                    go_wp2_with fail
                    go_loopw [21, 22] (fun kv j wr2 => ∃ i2 : Nat, i2 ≤ nl ∧ j = .int .i64 i2 ∧ kv = .bool (decide (x ∈ V.take i2)) ∧ Below Wk.heap.size Wk wr2) (fun _ j _ => nl - (intOf j).toNat)
                    case atStart => exact ⟨0, Nat.zero_le _, rfl, by simp, Below.refl _ _⟩
                    case round =>
                      obtain ⟨i2, hi2, rfl, rfl, hQ⟩ := hrel
                      have HQW := Lib.hid hQ
                      have k0' := cell_on hQ k0
                      by_cases him : i2 < nl
                      · have hil : i2 < V.length := by have := HNW.out; omega
                        obtain ⟨bm2, om2, y, hAm, hym, -, m0, -⟩ := (HOW.out.zs.below HT.out).at' i2 hil
                        have hmt := mem_take V i2 hil x
                        rw [hym] at hmt
                        subst hAm
                        have m0' := cell_on hQ m0
                        have HMT := Lib.hid hmt
                        clear hmt hym hil m0 hQ
                        by_cases hin : x ∈ V.take i2
                        · have HD : Hid (decide (x ∈ V.take (i2 + 1)) = true) := Lib.hid (decide_eq_true (HMT.out.2 (.inl hin)))
                          rw [decide_eq_true hin]
                          clear hin
                          go_wp2_with fail
                          go_big_quiet (fail)
                          go_wp2_with fail
                          go_roundw
                          case rel => exact ⟨i2 + 1, by omega, by go_num, by rw [HD.out], below_steps HQW.out (below_draws _ _)⟩
                          case measure => simp [intOf]; omega
                        · rw [decide_eq_false hin]
                          by_cases hyx : y = x
                          · have HD : Hid (decide (x ∈ V.take (i2 + 1)) = true) := Lib.hid (decide_eq_true (HMT.out.2 (.inr hyx)))
                            have dyx : (y == x) = true := beq_iff_eq.2 hyx
                            clear hin hyx
                            go_wp2_with fail
                            go_big_quiet (fail)
                            go_wp2_with fail
                            go_roundw
                            case rel => exact ⟨i2 + 1, by omega, by go_num, by rw [HD.out], below_steps HQW.out (below_draws _ _)⟩
                            case measure => simp [intOf]; omega
                          · have HD : Hid (decide (x ∈ V.take (i2 + 1)) = false) := Lib.hid (decide_eq_false (fun h => (HMT.out.1 h).elim hin hyx))
                            have dyx : (y == x) = false := beq_eq_false_iff_ne.2 hyx
                            clear hin hyx
                            go_wp2_with fail
                            go_big_quiet (fail)
                            go_wp2_with fail
                            go_roundw
                            case rel => exact ⟨i2 + 1, by omega, by go_num, by rw [HD.out], below_steps HQW.out (below_draws _ _)⟩
                            case measure => simp [intOf]; omega
                      · have hfull : V.take i2 = V := List.take_of_length_le (by have := HNW.out; omega)
                        rw [hfull]
                        clear hfull
                        have hTq := below_steps HT.out hQ
                        have HTQ := Lib.hid hTq
                        rw [decide_eq_true HXV.out]
                        obtain ⟨Wq, rfl⟩ : ∃ W, W = wr := ⟨_, rfl⟩
                        clear hTq HT k0 k0' hQ HQW
                        go_wp2_with fail
                        go_roundw
                        case rel => exact ⟨k + 1, by omega, by go_num, HTQ.out⟩
                        case measure => simp [intOf]; omega
                  · have hmn : nm ≤ nl := by
                      have h1 := HNM.out
                      have h2 := HNL.out
                      have h3 := congrArg List.length HE.out
                      rw [List.length_append] at h3
                      omega
                    have d1 : decide (nm ≤ nl) = true := decide_eq_true hmn
                    have d2 : decide ((nm : Int) ≤ (nl : Int)) = true := decide_eq_true (by omega)
                    have hcap : nl ≤ c7 := by
                      obtain ⟨_, _, e, q1, _⟩ := HOL.out.zs
                      injection e with _ e2 e3
                      omega
                    have hzc : (nm : Int) ≤ (c7 : Int) := by omega
                    have htk : L.take nm = M := by rw [HE.out, ← HNM.out, List.take_append_of_le_length (Nat.le_refl _), List.take_length]
                    have hT2 := ((HOL.out.below HTX.out).below HT.out).take nm (by rw [HNL.out]; exact hmn)
                    rw [htk] at hT2
                    have HSS := Lib.hid (same_self _ _ M wr hT2.zs ((HOM.out.below HTX.out).below HT.out).zs)
                    clear htk hT2 hmn
                    go_wp2_with fail
                    refine HSS.out.mono ?_
                    rintro e w17 ⟨rfl, hb17⟩
                    have HB17 := Lib.hid (below_steps (below_steps HB12.out HTX.out) (below_steps HT.out hb17))
                    clear hb17
                    go_wp2_with fail
                    go_ret
                    exact ⟨rfl, below_steps HB1.out HB17.out⟩
        exact AllReadyH.nil
      exact AllReadyH.nil
    exact AllReadyH.nil
  exact AllReadyH.nil
end Go.Proofs.Ytlkbdbijlnjjbaa
