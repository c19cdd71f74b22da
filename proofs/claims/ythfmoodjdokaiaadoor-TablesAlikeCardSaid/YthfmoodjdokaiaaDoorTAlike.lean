/- What is alike: all of an orbit have the same one, and Fold twice is Fold once. From orbit_any and fold_any. -/
import Derived.Test.YthfmoodjdokaiaaDoorTLaws
set_option linter.unusedVariables false
namespace Go.Proofs.YthfmoodjdokaiaaDoor
open Go Go.RowKit

theorem take_mem {l : List Int} {k : Nat} (h : k < l.length) (c : Int) : (c ∈ l.take (k + 1)) ↔ c ∈ l.take k ∨ l[k] = c := by
  rw [List.take_succ_eq_append_getElem h, List.mem_append, List.mem_singleton]
  constructor
  · rintro (h | h)
    · exact .inl h
    · exact .inr h.symm
  · rintro (h | h)
    · exact .inl h
    · exact .inr h.symm

set_option maxHeartbeats 4000000 in
set_option maxRecDepth 100000 in
/-- All of an orbit have the same one, and the rune is in it; Fold twice is Fold once, and has the orbit of what the list has. -/
theorem talike_any (w : World) (v : Value) (l : List (Int × Int)) (g : Rgs w v l) (c : Int) (hc : I32 c) (hT0 : TabsT w) :
    Calls Tryd.prog 6 #[v, .int .i32 c] w fun e w' => e = .returned (.bool true) ∧ Below w.heap.size w w' := by
  have H0 := Lib.hid hT0
  clear hT0
  have R_l := Lib.hid g
  obtain ⟨a, cl, rfl, h2, h3, -⟩ := g
  have hlen : l.length ≤ 9223372036854775807 := by unfold maxLen at h3; omega
  have HC := Lib.hid hc
  clear h2 h3 hc
  go_enter Tryd.func6, Tryd.ntmps6
  go_wp2_with fail
  refine (thead_any w H0.out).mono ?_
  rintro e w1 ⟨rfl, hb⟩
  have HT := Lib.hid hb
  replace R_l := Lib.hid (R_l.out.below hb)
  clear hb
  go_wp2_with fail
  refine (orbit_any c w1 HC.out (H0.out.below HT.out)).mono ?_
  rintro e w2 ⟨vo, rfl, ho, hb⟩
  have R_o := Lib.hid ho.rns
  replace HT := Lib.hid (HT.out.trans (hb.mono HT.out.size))
  replace R_l := Lib.hid (R_l.out.below hb)
  clear ho hb
  by_cases hn0 : c < 0
  · have e0 : orbR c = [] := orb_none (.inl hn0)
    rw [e0] at R_o
    obtain ⟨ao, co, rfl, -⟩ := R_o.out
    go_wp2_with fail
    go_ret
    exact ⟨rfl, HT.out⟩
  by_cases hn1 : 1114111 < c
  · have e0 : orbR c = [] := orb_none (.inr hn1)
    rw [e0] at R_o
    obtain ⟨ao, co, rfl, -⟩ := R_o.out
    go_wp2_with fail
    go_ret
    exact ⟨rfl, HT.out⟩
  have hol := orb_len c
  have hoz : (orbR c).length ≠ 0 := fun h => by
    have := orb_self c (by omega) (by omega)
    rw [List.eq_nil_of_length_eq_zero h] at this
    simp at this
  have hself := orb_self c (by omega) (by omega)
  obtain ⟨og, hog⟩ : ∃ og, orbR c = og := ⟨_, rfl⟩
  rw [hog] at R_o hol hoz hself
  have HOG := Lib.hid hog; have HSELF := Lib.hid hself
  clear hog hself
  obtain ⟨ao, co, hvo, -⟩ := R_o.out
  subst hvo
  have hoz' : ¬ ((og.length : Int) = 0) := by omega
  by_cases hl : 500 < l.length
  · have hz : (500 : Int) < (l.length : Int) := by omega
    go_wp2_with fail
    go_ret
    exact ⟨rfl, HT.out⟩
  have hz : ¬ (500 : Int) < (l.length : Int) := by omega
  have hsz2 := HT.out.size
  go_wp2_with (at_builtin; refine append_rgs rfl (.tmp 35) (.tmp 36) rfl w2.heap.size _ [] rfl (own_lit' w2 w2.heap.size w2.heap.size rfl (Nat.le_refl _)) a l.length cl l rfl (R_l.out.below ((Below.refl _ w2).alloc (Nat.le_refl _) _)) ?b2 ?b3 ?_)
  case b2 => simp <;> omega
  case b3 => simp
  intro v3 w3 ho3 hg3
  try simp only [List.nil_append] at ho3
  have hb := ((Below.refl _ w2).alloc (Nat.le_refl _) (.cells #[] 28)).grown hg3 (by simp) (by simp [Value.ownBlock])
  have O3 := Lib.hid ho3
  have HB3 := Lib.hid hb
  have hsz3 := hb.size
  clear hb ho3 hg3
  go_wp2_with (at_builtin; refine append_rgs rfl (.tmp 37) (.tmp 41) rfl w2.heap.size v3 l rfl (O3.out.below ((Below.refl _ w3).alloc (Nat.le_refl _) _)) (some ⟨w3.heap.size, 0, none⟩) 1 1 [(c, c)] rfl (rgs_new w3 c c HC.out HC.out) ?c2 ?c3 ?_)
  case c2 => simp <;> omega
  case c3 => simp <;> omega
  intro v4 w4 ho4 hg4
  have hb := (HB3.out.alloc hsz3 (.cells #[.int .i32 c, .int .i32 c] 28)).grown hg4 (by simp <;> omega) (fun j hj => (O3.out.1.lt j hj).1)
  have R4 := Lib.hid ho4.rgs
  replace R_o := Lib.hid (R_o.out.below hb)
  replace HT := Lib.hid (HT.out.trans (hb.mono HT.out.size))
  clear hb ho4 hg4 HB3 O3
  go_wp2_with fail
  refine (fold_any v4 (l ++ [(c, c)]) w4 R4.out (by rw [List.length_append, List.length_singleton]; omega) (H0.out.below HT.out)).mono ?_
  rintro e w5 ⟨vf, kf, rfl, hO, hR, hP, hb⟩
  have Q_f := Lib.hid hR; have P_f := Lib.hid hP
  have n5 := right_len kf 0 (by omega) hR
  replace R_o := Lib.hid (R_o.out.below hb)
  replace HT := Lib.hid (HT.out.trans (hb.mono HT.out.size))
  have R_f := Lib.hid hO.rgs
  have hall : ∀ y ∈ og, HasR kf y := fun y hy => by
    rw [P_f.out]
    exact ⟨c, (has_append _ _ _).2 (.inr ((has_one _ _).2 ⟨by omega, by omega, Int.le_refl _, Int.le_refl _⟩)), by rw [HOG.out]; exact hy⟩
  have HALL := Lib.hid hall
  clear hO hR hP hb hall
  go_wp2_with fail
  go_loopw [7, 9] (fun th i wz => ∃ k : Nat, k ≤ og.length ∧ i = .int .i64 k ∧ th = .bool (decide (c ∈ og.take k)) ∧ Below w.heap.size w wz ∧ Rns wz (.slice ao og.length co) og ∧ Rgs wz vf kf) (fun _ i _ => og.length - (intOf i).toNat)
  case atStart => exact ⟨0, Nat.zero_le _, rfl, by simp, HT.out, R_o.out, R_f.out⟩
  case round =>
    obtain ⟨k, hk, rfl, rfl, hBz, hNo, hRf⟩ := hrel
    have HBZ := Lib.hid hBz; have HNO := Lib.hid hNo; have HRF := Lib.hid hRf
    clear hBz hNo hRf
    by_cases hkl : k < og.length
    · obtain ⟨a3, c3, e, -, -, -, f5, f6⟩ := HNO.out
      injection e with e1 e2 e3
      subst e1 e3
      rcases f5 with f5 | ⟨b3, o3, rfl, f7⟩
      · rw [f5] at hkl
        simp at hkl
      have htm := take_mem hkl c
      obtain ⟨y, hy⟩ : ∃ y, og[k] = y := ⟨_, rfl⟩
      have cy := f7 k hkl
      have hyi := f6 og[k] (List.getElem_mem hkl)
      have hym : og[k] ∈ og := List.getElem_mem hkl
      rw [hy] at cy hyi hym htm
      have hsame : orbR y = og := by rw [← HOG.out]; exact orb_same c y (by rw [HOG.out]; exact hym)
      have HYK := Lib.hid hy; have HY := Lib.hid hyi; have HYM := Lib.hid hym; have HTM := Lib.hid htm; have HSM := Lib.hid hsame
      obtain ⟨th, hth⟩ : ∃ th, decide (c ∈ og.take k) = th := ⟨_, rfl⟩
      rw [hth]
      have hnx : decide (c ∈ og.take (k + 1)) = (th || decide (y = c)) := by
        rw [← hth]
        simp only [HTM.out, Bool.decide_or]
      have HNX := Lib.hid hnx
      clear hy hyi hym htm hsame f6 f7 hth hnx e2
      cases th
      · go_wp2_with fail
        refine (orbit_any y _ HY.out (H0.out.below HBZ.out)).mono ?_
        rintro e w6 ⟨vy, rfl, ho, hb⟩
        have R_y := Lib.hid ho.rns
        have HT2 := Lib.hid (HBZ.out.trans (hb.mono HBZ.out.size))
        have R_o2 := Lib.hid (HNO.out.below hb)
        have R_f2 := Lib.hid (HRF.out.below hb)
        clear ho hb cy
        go_wp2_with fail
        refine (nsame_any vy _ (orbR y) og w6 R_y.out R_o2.out).mono ?_
        rintro e w7 ⟨B, rfl, hq, q, hw7⟩
        obtain rfl : B = true := hq.2 HSM.out
        have hb := below_draws w6 q
        rw [← hw7] at hb
        have HT3 := Lib.hid (HT2.out.trans (hb.mono HT2.out.size))
        have R_o3 := Lib.hid (R_o2.out.below hb)
        have R_f3 := Lib.hid (R_f2.out.below hb)
        have cy2 : w7.cell? ⟨b3, o3 + k, none⟩ = some (.int .i32 y) := by
          obtain ⟨a5, c5, e5, -, -, -, f5, -⟩ := R_o3.out
          injection e5 with e5 _ _
          rcases f5 with f5 | ⟨b5, o5, e6, f7⟩
          · rw [f5] at hkl
            simp at hkl
          · rw [← e5] at e6
            injection e6 with e6
            injection e6 with e6 e7
            subst e6 e7
            rw [f7 k hkl, HYK.out]
        clear hq hw7 hb
        go_wp2_with fail
        refine (rhas_any vf kf y w7 R_f3.out).mono ?_
        rintro e w8 ⟨B2, rfl, hq2, q2, hw8⟩
        obtain rfl : B2 = true := hq2.2 (HALL.out y HYM.out)
        have hb := below_draws w7 q2
        rw [← hw8] at hb
        have HT4 := Lib.hid (HT3.out.trans (hb.mono HT3.out.size))
        have R_o4 := Lib.hid (R_o3.out.below hb)
        have R_f4 := Lib.hid (R_f3.out.below hb)
        clear hq2 hw8 hb cy2
        go_wp2_with fail
        go_roundw
        case rel => exact ⟨k + 1, by omega, by go_num, by rw [HNX.out]; first | rfl | simp | (congr 1; simp; rfl), HT4.out, R_o4.out, R_f4.out⟩
        case measure => simp [intOf]; omega
      · go_wp2_with fail
        refine (orbit_any y _ HY.out (H0.out.below HBZ.out)).mono ?_
        rintro e w6 ⟨vy, rfl, ho, hb⟩
        have R_y := Lib.hid ho.rns
        have HT2 := Lib.hid (HBZ.out.trans (hb.mono HBZ.out.size))
        have R_o2 := Lib.hid (HNO.out.below hb)
        have R_f2 := Lib.hid (HRF.out.below hb)
        clear ho hb cy
        go_wp2_with fail
        refine (nsame_any vy _ (orbR y) og w6 R_y.out R_o2.out).mono ?_
        rintro e w7 ⟨B, rfl, hq, q, hw7⟩
        obtain rfl : B = true := hq.2 HSM.out
        have hb := below_draws w6 q
        rw [← hw7] at hb
        have HT3 := Lib.hid (HT2.out.trans (hb.mono HT2.out.size))
        have R_o3 := Lib.hid (R_o2.out.below hb)
        have R_f3 := Lib.hid (R_f2.out.below hb)
        have cy2 : w7.cell? ⟨b3, o3 + k, none⟩ = some (.int .i32 y) := by
          obtain ⟨a5, c5, e5, -, -, -, f5, -⟩ := R_o3.out
          injection e5 with e5 _ _
          rcases f5 with f5 | ⟨b5, o5, e6, f7⟩
          · rw [f5] at hkl
            simp at hkl
          · rw [← e5] at e6
            injection e6 with e6
            injection e6 with e6 e7
            subst e6 e7
            rw [f7 k hkl, HYK.out]
        clear hq hw7 hb
        go_wp2_with fail
        refine (rhas_any vf kf y w7 R_f3.out).mono ?_
        rintro e w8 ⟨B2, rfl, hq2, q2, hw8⟩
        obtain rfl : B2 = true := hq2.2 (HALL.out y HYM.out)
        have hb := below_draws w7 q2
        rw [← hw8] at hb
        have HT4 := Lib.hid (HT3.out.trans (hb.mono HT3.out.size))
        have R_o4 := Lib.hid (R_o3.out.below hb)
        have R_f4 := Lib.hid (R_f3.out.below hb)
        clear hq2 hw8 hb cy2
        go_wp2_with fail
        go_roundw
        case rel => exact ⟨k + 1, by omega, by go_num, by rw [HNX.out]; first | rfl | simp | (congr 1; simp; rfl), HT4.out, R_o4.out, R_f4.out⟩
        case measure => simp [intOf]; omega
    · have e : og.take k = og := List.take_of_length_le (by omega)
      have hm : decide (c ∈ og.take k) = true := by rw [e]; exact decide_eq_true HSELF.out
      rw [hm]
      clear hm e
      go_wp2_with fail
      refine (fold_any vf kf _ HRF.out (by omega) (H0.out.below HBZ.out)).mono ?_
      rintro e w7 ⟨vg, kg, rfl, hO, hR, hP, hb⟩
      have Q_g := Lib.hid hR; have P_g := Lib.hid hP
      have HT2 := Lib.hid (HBZ.out.trans (hb.mono HBZ.out.size))
      have R_g := Lib.hid hO.rgs
      have R_f2 := Lib.hid (HRF.out.below hb)
      clear hO hR hP hb
      go_wp2_with fail
      refine (rsame_any _ _ kg kf w7 R_g.out R_f2.out).mono ?_
      rintro e w8 ⟨B, rfl, hq, q, rfl⟩
      obtain rfl : B = true := hq.2 (right_eq kg kf Q_g.out Q_f.out fun x => by rw [P_g.out, fold_twice (l ++ [(c, c)]) kf P_f.out x, P_f.out])
      have HT3 := Lib.hid (below_drewNr HT2.out q)
      clear hq
      go_wp2_with fail
      go_ret
      exact ⟨rfl, HT3.out⟩
end Go.Proofs.YthfmoodjdokaiaaDoor
