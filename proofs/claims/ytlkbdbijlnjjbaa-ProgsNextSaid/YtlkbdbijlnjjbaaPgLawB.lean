/- The law of Closure twice. -/
import Derived.Test.YtlkbdbijlnjjbaaPgLawA
set_option linter.unusedVariables false
namespace Go.Proofs.Ytlkbdbijlnjjbaa
open Go Go.RowKit

theorem nats_back (l : List Nat) : natsI (natsZ l) = l := by
  unfold natsI natsZ
  rw [List.map_map]
  refine (List.map_congr_left (g := id) fun x _ => ?_).trans (List.map_id _)
  simp
theorem close_places (p : Pg) (pcs : List Int) (at' : Int) (long : Bool) (hR : RightPg p) : GoodPg p (natsZ (closeG p pcs at' long).1) := by
  refine ⟨hR, fun x hx => ?_⟩
  by_cases hG : GoodPg p pcs
  · rw [close_good at' long hG] at hx
    obtain ⟨i, hi, rfl⟩ := List.mem_map.1 hx
    have hf := fine_walk (meets := meetsI at') (long := long) (natsI pcs) (wk0 p.ins.length) (fine_zero p.ins)
    have h1 := ((hf.2.2.1 i).1 hi).1
    exact ⟨by omega, by omega⟩
  · rw [close_bad at' long hG] at hx
    simp [natsZ] at hx
theorem close_short (p : Pg) (pcs : List Int) (at' : Int) (long : Bool) : (closeG p pcs at' long).1.length ≤ 10000 := by
  by_cases hG : GoodPg p pcs
  · rw [close_good at' long hG]
    have h1 := walk_keep (meets := meetsI at') (long := long) (I := p.ins) (fun _ t => t.out.length + leftI t ≤ p.ins.length) (fun t => t.out.length + leftI t ≤ p.ins.length) (fun _ h => h) (fun _ _ _ h _ => h) (fun pc st t h hn _ => by
      have h2 := left_visit t pc (atI p.ins pc) hn
      have h3 : (visitI pc (atI p.ins pc) t).out.length ≤ t.out.length + 1 := by
        unfold visitI
        simp only
        split <;> simp
      omega) _ (natsI pcs) (wk0 p.ins.length) rfl (by simp [wk0, leftI])
    have h4 := hG.1.2.1
    show (walkI (meetsI at') long p.ins (natsI pcs) (wk0 p.ins.length)).out.length ≤ 10000
    omega
  · rw [close_bad at' long hG]
    simp
theorem twice_facts (p : Pg) (pcs : List Int) (at' : Int) : ∃ e, (closeG p pcs at' true).1 = (closeG p pcs at' false).1 ++ e ∧ (closeG p pcs at' true).2 = (closeG p pcs at' false).2 ∧ ((closeG p pcs at' false).2 = false → e = []) ∧
    closeG p (natsZ (closeG p pcs at' false).1) at' false = ((closeG p pcs at' false).1, false) := by
  by_cases hR : RightPg p
  · have hG2 := close_places p pcs at' false hR
    rw [close_good at' false hG2, nats_back]
    by_cases hG : GoodPg p pcs
    · rw [close_good at' true hG, close_good at' false hG]
      obtain ⟨e, h1, h2, h3⟩ := walk_short (meets := meetsI at') (I := p.ins) (natsI pcs) (wk0 p.ins.length) rfl
      obtain ⟨h4, h5⟩ := close_twice (meetsI at') false false p.ins (natsI pcs)
      exact ⟨e, h1, h2, h3, by rw [h4, h5]⟩
    · rw [close_bad at' true hG, close_bad at' false hG]
      refine ⟨[], rfl, rfl, fun _ => rfl, ?_⟩
      unfold closeI
      simp only [walk_nil]
      rfl
  · rw [close_bad at' true (fun h => hR h.1), close_bad at' false (fun h => hR h.1), close_bad at' false (fun h => hR h.1)]
    exact ⟨[], rfl, rfl, fun _ => rfl, rfl⟩
set_option maxHeartbeats 1600000 in
set_option maxRecDepth 100000 in
theorem ltwice_any (p : Pg) (v u : Value) (pcs : List Int) (at' : Int) (w : World) (h : PgV w p v) (g : Zs w u pcs) (hlen : pcs.length ≤ 17592186044416) :
    Calls Try.prog 8 #[v, u, .int .i64 at'] w (fun e w' => e = .returned (.bool true) ∧ Below w.heap.size w w') := by
  have HZ := Lib.hid g
  have H0 := Lib.hid h
  obtain ⟨A, n, c, hn, rfl, hI, hs, hc, hnb⟩ := h.opened
  obtain ⟨w1, hw1⟩ : ∃ w1, w.alloc (.cells #[.slice A n c, .int .i64 p.start, .int .i64 p.caps] 24) = w1 := ⟨_, rfl⟩
  obtain ⟨hb1, e0, e1, e2, hz1⟩ := box3_new w _ _ _ _ hw1
  have HF : Hid (∀ W, Below w1.heap.size w1 W → W.cell? ⟨w.heap.size, 0, none⟩ = some (.slice A n c) ∧ W.cell? ⟨w.heap.size, 1, none⟩ = some (.int .i64 p.start) ∧ W.cell? ⟨w.heap.size, 2, none⟩ = some (.int .i64 p.caps)) := Lib.hid fun W hW => ⟨cell_on hW e0, cell_on hW e1, cell_on hW e2⟩
  have HP : Hid (∀ W, Below w1.heap.size w1 W → PgV W p (.agg #[.slice A n c, .int .i64 p.start, .int .i64 p.caps])) := Lib.hid fun W hW => H0.out.below (below_steps hb1 hW)
  have HB1 := Lib.hid hb1; have HW1 := Lib.hid hw1
  clear h hI hs hc hw1 hb1 hz1 hn e0 e1 e2 H0
  obtain ⟨A2, c2, rfl, -⟩ := g
  have HLN := Lib.hid hlen
  obtain ⟨m, hm⟩ : ∃ m, pcs.length = m := ⟨_, rfl⟩
  rw [hm] at HZ ⊢
  clear hm hlen
  obtain ⟨E, hE1, hE2, hE3, hE4⟩ := twice_facts p pcs at'
  obtain ⟨C1, hC1⟩ : ∃ C, closeG p pcs at' false = C := ⟨_, rfl⟩
  obtain ⟨C3, hC3⟩ : ∃ C, closeG p pcs at' true = C := ⟨_, rfl⟩
  rw [hC1] at hE1 hE2 hE3 hE4
  rw [hC3] at hE1 hE2
  have HC1 := Lib.hid hC1; have HC3 := Lib.hid hC3; have HE4 := Lib.hid hE4
  obtain ⟨La, ba⟩ := C1
  obtain ⟨Lc, bc⟩ := C3
  simp only at hE1 hE2 hE3
  subst hE1 hE2
  have HE3 := Lib.hid hE3
  clear hC1 hC3 hE3 hE4
  go_enter Try.func8, Try.ntmps8
  go_upto_region 1 with (fail)
  rw [HW1.out]
  go_wp2_with fail
  refine (head12_any w1).mono ?_
  rintro e w2 ⟨rfl, hb2⟩
  have HB2 := Lib.hid hb2
  clear hb2
  obtain ⟨e0, e1, e2⟩ := HF.out _ HB2.out
  go_wp2_with fail
  refine (long12_any p _ w2 (HP.out _ HB2.out)).mono ?_
  rintro e w3 ⟨B, rfl, -, hb3⟩
  have HX3 := Lib.hid (below_steps HB2.out hb3)
  clear hb3 e0 e1 e2
  obtain ⟨e0, e1, e2⟩ := HF.out _ HX3.out
  cases B
  rotate_left
  · go_wp2_with fail
    go_ret
    exact ⟨rfl, below_steps HB1.out HX3.out⟩
  go_wp2_with fail
  refine (pclose_any p _ _ pcs at' false w3 (HP.out _ HX3.out) (HZ.out.below (below_steps HB1.out HX3.out)) HLN.out).mono ?_
  rintro e w4 ⟨v4, rfl, ho4, hb4⟩
  rw [HC1.out] at ho4 ⊢
  have HX4 := Lib.hid (below_steps HX3.out hb4); have HO4 := Lib.hid ho4
  clear hb4 ho4 e0 e1 e2
  obtain ⟨e0, e1, e2⟩ := HF.out _ HX4.out
  obtain ⟨a4, c4, hv4⟩ := own_slice HO4.out.1
  obtain ⟨na, hna⟩ : ∃ na, (natsZ (La, bc).1).length = na := ⟨_, rfl⟩
  rw [hna] at hv4
  subst hv4
  simp only at HO4 hna ⊢
  have HNA := Lib.hid hna
  have hnb' : La.length ≤ 17592186044416 := by
    have h1 := close_short p pcs at' false
    rw [HC1.out] at h1
    simp only at h1
    omega
  have HNB := Lib.hid hnb'
  clear hna hnb'
  go_wp2_with fail
  refine (pclose_any p _ _ (natsZ La) at' false w4 (HP.out _ HX4.out) HO4.out.zs (by rw [natsZ_len]; exact HNB.out)).mono ?_
  rintro e w5 ⟨v5, rfl, ho5, hb5⟩
  rw [HE4.out] at ho5 ⊢
  have HX5 := Lib.hid (below_steps HX4.out hb5); have HO5 := Lib.hid ho5; have HO45 := Lib.hid (HO4.out.below hb5)
  clear hb5 ho5 e0 e1 e2
  obtain ⟨e0, e1, e2⟩ := HF.out _ HX5.out
  obtain ⟨a5, c5, hv5⟩ := own_slice HO5.out.1
  rw [show (natsZ (La, false).1).length = na from HNA.out] at hv5
  subst hv5
  simp only at HO5 ⊢
  go_wp2_with fail
  refine (pclose_any p _ _ pcs at' true w5 (HP.out _ HX5.out) (HZ.out.below (below_steps HB1.out HX5.out)) HLN.out).mono ?_
  rintro e w6 ⟨v6, rfl, ho6, hb6⟩
  rw [HC3.out] at ho6 ⊢
  have HX6 := Lib.hid (below_steps HX5.out hb6); have HO6 := Lib.hid ho6; have HO46 := Lib.hid (HO45.out.below hb6); have HO56 := Lib.hid (HO5.out.below hb6)
  clear hb6 ho6 e0 e1 e2
  obtain ⟨a6, c6, hv6⟩ := own_slice HO6.out.1
  obtain ⟨nc, hnc⟩ : ∃ nc, (natsZ (La ++ E, bc).1).length = nc := ⟨_, rfl⟩
  rw [hnc] at hv6
  subst hv6
  simp only at HO6 hnc ⊢
  have hle : na ≤ nc := by
    rw [natsZ_len, List.length_append] at hnc
    have := HNA.out
    rw [natsZ_len] at this
    omega
  have d1 : decide (nc < na) = false := decide_eq_false (by omega)
  have d2 : decide ((nc : Int) < (na : Int)) = false := decide_eq_false (by omega)
  have hz : (na : Int) ≤ (nc : Int) := by omega
  have hcap : nc ≤ c6 := by
    obtain ⟨_, _, e, q1, _⟩ := HO6.out.zs
    injection e with _ e2 e3
    omega
  have hzc : (na : Int) ≤ (c6 : Int) := by omega
  have HS1 := Lib.hid (same_self _ _ (natsZ La) w6 HO46.out.zs HO56.out.zs)
  have hT := HO6.out.take na (by rw [hnc]; exact hle)
  have htk : (natsZ (La ++ E)).take na = natsZ La := by
    rw [natsZ_app, ← HNA.out, List.take_append_of_le_length (Nat.le_refl _), List.take_length]
  rw [htk] at hT
  have HT := Lib.hid hT
  have HNC := Lib.hid hnc
  clear hT htk hnc hle
  have key : bc = false → (nc : Int) = (na : Int) := fun e => by
    have h1 := HE3.out e
    have h2 := HNC.out
    have h3 := HNA.out
    rw [h1, List.append_nil] at h2
    omega
  have HKEY := Lib.hid key
  clear key
  have fin : ∀ (K : Unit), True := fun _ => trivial
  cases bc
  · have hk := HKEY.out rfl
    have d3 : ((nc : Int) != (na : Int)) = false := by rw [hk]; simp
    have d4 : (nc != na) = false := by simp only [bne_eq_false_iff_eq]; omega
    go_wp2_with fail
    refine HS1.out.mono ?_
    rintro e w7 ⟨rfl, hb7⟩
    have HX7 := Lib.hid (below_steps HX6.out hb7)
    have HS2 := Lib.hid (same_self _ _ (natsZ La) w7 (HO46.out.below hb7).zs (HT.out.below hb7).zs)
    clear hb7
    go_wp2_with fail
    refine HS2.out.mono ?_
    rintro e w8 ⟨rfl, hb8⟩
    have HX8 := Lib.hid (below_steps HX7.out hb8)
    clear hb8
    go_wp2_with fail
    go_ret
    exact ⟨rfl, below_steps HB1.out HX8.out⟩
  · go_wp2_with fail
    refine HS1.out.mono ?_
    rintro e w7 ⟨rfl, hb7⟩
    have HX7 := Lib.hid (below_steps HX6.out hb7)
    have HS2 := Lib.hid (same_self _ _ (natsZ La) w7 (HO46.out.below hb7).zs (HT.out.below hb7).zs)
    clear hb7
    go_wp2_with fail
    refine HS2.out.mono ?_
    rintro e w8 ⟨rfl, hb8⟩
    have HX8 := Lib.hid (below_steps HX7.out hb8)
    clear hb8
    go_wp2_with fail
    go_ret
    exact ⟨rfl, below_steps HB1.out HX8.out⟩
end Go.Proofs.Ytlkbdbijlnjjbaa
