/- Texts merged by program: DnRow, DnGroup, DnRep, DnGroupC. No condition. -/
import Derived.Test.YtnemacejaiifnaaQ12
import Derived.Deep.RegionHeld3
import Derived.Laws.EntriesVeiled
set_option linter.unusedVariables false
/- A row of trees is laid. No condition. -/
namespace Go.Proofs.Ytnemacejaiifnaa
open Go Go.RowKit

theorem laid_pass {E : Env} {f : Fv} {K : Ks} {inp fv lv mv : Value} {n0 : Nat} {ev bv : Value} {w w1 w' : World} {e : Ending} (hb : Below w.heap.size w w1) (hO : Om w E.q inp fv lv mv n0 ev bv) (h : PassPost E.q f w1 e w') : LayPost E f K .eps inp fv lv mv n0 ev bv w e w' := by
  obtain ⟨b, rfl, k1, k2, k3, k4⟩ := h
  have l2 := k2.lt
  have hs := hb.size
  refine ⟨⟨_, _, _⟩, [], [(_, .q .eps :: K)], [], rfl, ⟨below_grown (below_two hb k4), Stage.one (Nat.le_refl _) (.pass (bx_new k1 (by omega) (by omega)) (bx_new k2 (by omega) (by omega)) (.base (.inr ⟨rfl, rfl⟩))), .base (List.mem_singleton.2 rfl), fun a => by simp [idsZ, idsQ], fn_ne (by decide)⟩, by simpa using (hO.below hb hO.lt).below k4 (hO.below hb hO.lt).lt⟩
/-- What is laid behind a tree, and the tree: put together. -/
theorem row_post {E : Env} {x y y' : Q} {f fx : Fv} {K : Ks} {inp fv lv mv : Value} {n0 : Nat} {ev bv : Value} {w w3 w5 w6 : World} {vb : Fv} {N : List Nat} {T : List (Fv × Ks)} {b : Nat} {v : Fv} {N2 : List Nat} {T2 : List (Fv × Ks)} {Z2 : List Lzy}
    (hq : E.q < w.heap.size) (hb3 : Below w.heap.size w w3) (hvb : (vb, .q y' :: K) ∈ T) (hg5 : w3.grownBy w5 (some E.q))
    (hl1 : w3.heap.size ≤ b) (hT : Thunk E (ghOf (fun v k => v = f ∧ k = K) w.heap.size w5.heap.size n0 w5 N T [⟨b, fx, y, K⟩]) fx y K)
    (hst : ∀ X lo, lo ≤ w3.heap.size → Thunk E (ghOf X lo w5.heap.size n0 w5 N T [⟨b, fx, y, K⟩]) fx y K → Stage E X lo w5.heap.size n0 w5 N T [⟨b, fx, y, K⟩]) (hc : ∀ a, N.count a + (idsQ y).count a = (idsQ y').count a)
    (hl : Laid E vb (.q y' :: K) x (n0 + N.length) w5 v w6 N2 T2 Z2) (ho6 : Om w6 E.q inp fv lv mv ((n0 + N.length + N2.length : Nat) : Int) ev bv) :
    LayPost E f K (.seq x y') inp fv lv mv n0 ev bv w (.returned v.v) w6 := by
  have h56 := hl.grown
  have hs3 := hb3.size
  have hs5 := hg5.size
  have hs6 := h56.size
  have A := (hst _ _ hs3 hT).move (w' := w6) hs6 fun b h1 h2 => h56.block b h2 (by intro e; have := Option.some.inj e; omega)
  have J := A.join hl.stage (X := fun v k => v = f ∧ k = K) (by omega) hs6 rfl (fun v k h => .inr h) fun v k h => .inl (by rw [h.1, h.2]; exact hvb)
  refine ⟨v, N ++ N2, T ++ T2, [⟨b, fx, y, K⟩] ++ Z2, rfl, ⟨grown_trans (grown_below hb3 hg5) h56, J, .seq (hl.rep.mono fun _ _ h => List.mem_append_right _ h), fun a => ?_, hl.nl⟩, ?_⟩
  · have h1 := hc a
    have h2 := hl.count a
    have e : idsZ ([⟨b, fx, y, K⟩] ++ Z2) = idsQ y ++ idsZ Z2 := by simp [idsZ]
    rw [e]
    simp only [idsQ, List.count_append] at h1 h2 ⊢
    omega
  · rw [List.length_append, ← Nat.add_assoc]
    exact ho6
/-- A box is in sight, but for the one that is still empty. -/
theorem bx_but {X : Fv → Ks → Prop} {lo hi n0 : Nat} {w : World} {N : List Nat} {T : List (Fv × Ks)} {z : Lzy} {b : Nat} {t : TypeId} {cs : Array Value} (h : Whole w b t cs) (h1 : lo ≤ b) (h2 : b < hi) (h3 : z.b ≠ b) : (ghOf X lo hi n0 w N T [z]).Bx b t cs :=
  ⟨h, h1, h2, fun z' hz => by rw [List.mem_singleton.1 hz]; exact h3⟩
/-- 'row' lays trees as y. -/
def RowOf (E : Env) (y : Q) : Prop := ∀ (kv : Value) (ks : List Tr) (f : Fv) (K : Ks) (inp fv lv mv : Value) (n0 : Nat) (ev bv : Value) (w : World) [Nonempty (FitOk E fv)], KP E.w0 kv ks → (∀ k ∈ ks, ShapedP k) → RowM (Mat E.R E.G) ks y → Rd E w → Om w E.q inp fv lv mv n0 ev bv → n0 + (idsQ y).length ≤ 100000000 →
  Calls Try.prog 82 #[ptrV E.q, kv, f.v] w (LayPost E f K y inp fv lv mv n0 ev bv w)
set_option maxHeartbeats 1600000 in
theorem drow_nil (E : Env) (kv : Value) (f : Fv) (K : Ks) (inp fv lv mv : Value) (n0 : Nat) (ev bv : Value) (w : World) [Nonempty (FitOk E fv)] (hK : KP E.w0 kv []) (hO : Om w E.q inp fv lv mv n0 ev bv) :
    Calls Try.prog 82 #[ptrV E.q, kv, f.v] w (LayPost E f K .eps inp fv lv mv n0 ev bv w) := by
  obtain ⟨A, c, hkv, -⟩ := hK
  obtain rfl : kv = .slice A 0 c := hkv
  obtain ⟨w3, hw3, b1, b2, b3, hb3, hs3⟩ := three_new w 71 23 75 (ptrV E.q) (.slice A 0 c) f.v
  have HP := Lib.hid (dpass_any E.q f w3)
  obtain ⟨g, ff, fc⟩ := f
  have c1 := (b1.cell 0).trans (rfl : _ = some (ptrV E.q))
  have c2 : w3.cell? ⟨w.heap.size + 1, 0, none⟩ = some (.slice A 0 c) := (b2.cell 0).trans rfl
  have c3 : w3.cell? ⟨w.heap.size + 1 + 1, 0, none⟩ = some (.func g ff fc) := (b3.cell 0).trans rfl
  have HO := Lib.hid hO; have HB := Lib.hid hb3; have HW := Lib.hid hw3
  clear b1 b2 b3 hs3 hw3 hO hb3
  go_enter Try.func82, Try.ntmps82
  go_upto_region 1 with (fail)
  rw [HW.out]
  go_wp2_with fail
  refine HP.out.mono ?_
  rintro e w4 ⟨b, he, h⟩
  obtain rfl : e = .returned (.func (.func 110) #[] #[ptrV b, ptrV (b + 1)]) := he
  have H := Lib.hid h
  clear h
  go_wp2_with fail
  go_ret
  exact laid_pass HB.out HO.out ⟨b, rfl, H.out⟩

theorem beh_ids {N : List Nat} {x y y' : Q} {n0 : Nat} (hc : ∀ a, N.count a + (idsQ y).count a = (idsQ y').count a) (hn : n0 + (idsQ x).length + (idsQ y').length ≤ 100000000) : n0 + N.length + (idsQ x).length ≤ 100000000 := by
  have := ids_len hc
  omega
set_option maxHeartbeats 1600000 in
theorem drow_cons (E : Env) (x y y' : Q) (hL : LayOf E x) (kv : Value) (k : Tr) (ks : List Tr) (f : Fv) (KK : Ks) (inp fv lv mv : Value) (n0 : Nat) (ev bv : Value) (w : World) [Nonempty (FitOk E fv)] (hK : KP E.w0 kv (k :: ks)) (hs : ∀ t ∈ k :: ks, ShapedP t) (hM : Mat E.R E.G k x) (hRM : RowM (Mat E.R E.G) ks y) (hB : Beh (k.kids = []) y y') (hr : Rd E w)
    (hO : Om w E.q inp fv lv mv n0 ev bv) (hn : n0 + (idsQ (.seq x y')).length ≤ 100000000) :
    Calls Try.prog 82 #[ptrV E.q, kv, f.v] w (LayPost E f KK (.seq x y') inp fv lv mv n0 ev bv w) := by
  have hmf := mkf
  obtain ⟨kb, ko, kc, hkv, hT⟩ := hK.one
  have HKP := Lib.hid hK
  obtain ⟨n, hnl⟩ : ∃ n, ks.length + 1 = n := ⟨_, rfl⟩
  obtain rfl : kv = .slice (some ⟨kb, ko, none⟩) n kc := by rw [hkv, ← hnl]; rfl
  obtain ⟨w3, hw3, b1, b2, b3, hb3, hs3⟩ := three_new w 71 23 75 (ptrV E.q) (.slice (some ⟨kb, ko, none⟩) n kc) f.v
  obtain ⟨g, ff, fc⟩ := f
  have c1 := (b1.cell 0).trans (rfl : _ = some (ptrV E.q))
  have c2 : w3.cell? ⟨w.heap.size + 1, 0, none⟩ = some (.slice (some ⟨kb, ko, none⟩) n kc) := (b2.cell 0).trans rfl
  have c3 : w3.cell? ⟨w.heap.size + 1 + 1, 0, none⟩ = some (.func g ff fc) := (b3.cell 0).trans rfl
  have hr3 := hr.then hb3
  have hO3 := hO.below hb3 hO.lt
  have hn' : n0 + (idsQ x).length + (idsQ y').length ≤ 100000000 := by simp only [idsQ, List.length_append] at hn; omega
  have hkc : decide ((0 : Int) < (n : Int)) = true := by simp; omega
  have hkn : 0 < n := by omega
  have hkz : ((n : Int) == 0) = false := by simp only [beq_eq_false_iff_ne]; omega
  have HB0 := Lib.hid (below_draws w3 1)
  have KP : Hid (∀ W, Whole W w.heap.size 71 #[ptrV E.q] → Whole W (w.heap.size + 1) 23 #[.slice (some ⟨kb, ko, none⟩) n kc] → W.cell? ⟨w.heap.size, 0, none⟩ = some (ptrV E.q) ∧ W.cell? ⟨w.heap.size + 1, 0, none⟩ = some (.slice (some ⟨kb, ko, none⟩) n kc)) := Lib.hid fun W h1 h2 => ⟨h1.cell 0, h2.cell 0⟩
  have HBH := Lib.hid (fun W (hW : Below w3.heap.size w3 W) => dbehind_any E kb ko k hT ⟨.func 125, #[], #[ptrV w.heap.size, ptrV (w.heap.size + 1), ptrV (w.heap.size + 2)]⟩ y y' KK hB inp fv lv mv n0 ev bv W (hr3.then hW) (hO3.below hW hO3.lt) (by omega))
  have HT := Lib.hid hT; have HW := Lib.hid hw3; have HB1 := Lib.hid b1; have HB2 := Lib.hid b2; have HB3 := Lib.hid b3; have HBL := Lib.hid hb3; have HS3 := Lib.hid hs3; have HR3 := Lib.hid hr3; have HQ := Lib.hid hO.lt; have HM := Lib.hid hM; have HRM := Lib.hid hRM; have HL := Lib.hid hL; have HSH := Lib.hid hs; have HN := Lib.hid hn'
  clear hK hT hw3 b1 b2 b3 hb3 hs3 hO hO3 hr hr3 hM hRM hB hL hs hn hn' hnl hkv
  go_enter Try.func82, Try.ntmps82
  go_upto_region 1 with (fail)
  rw [HW.out]
  go_upto_region 3 with (fail)
  refine wp_region_held_drew (S := (fun w' => w'.cell? ⟨w.heap.size, 0, none⟩ = some (ptrV E.q) ∧ w'.cell? ⟨w.heap.size + 1, 0, none⟩ = some (.slice (some ⟨kb, ko, none⟩) n kc))) (by kernel_rfl) (KP.out _ (HB1.out.below HB0.out HB1.out.lt) (HB2.out.below HB0.out HB2.out.lt)) (fun hHeld => ?_)
  refine wpAnyH_take (i := 0) (oi := _) (v := ?_) rfl (by kernel_rfl) (by kernel_rfl) (by kernel_rfl) (fun _ _ _ h => h) (Or.inl ⟨by rfl, ?_⟩) (by assumption) ?_
  rotate_left 1
  · (intro w hSw; (try dsimp only at hSw); go_simp; (try with_reducible rfl))
  try simp only [List.getElem_toArray, List.getElem_cons_zero, Act.put, List.setIfInBounds_toArray, List.set_cons_zero, List.set_cons_succ]
  refine wpAnyH_take (i := 1) (oi := _) (v := ?_) rfl (by kernel_rfl) (by kernel_rfl) (by kernel_rfl) (fun _ _ _ h => h) (Or.inl ⟨by rfl, ?_⟩) (by assumption) ?_
  rotate_left 1
  · (intro w hSw; (try dsimp only at hSw); go_simp; (try with_reducible rfl))
  try simp only [List.getElem_toArray, List.getElem_cons_zero, List.getElem_cons_succ, Act.put, List.setIfInBounds_toArray, List.set_cons_zero, List.set_cons_succ]
  refine wpAnyH_take (i := 2) (oi := _) (v := ?_) rfl (by kernel_rfl) (by kernel_rfl) (by kernel_rfl) (fun _ _ _ h => h) (Or.inl ⟨by rfl, ?_⟩) (by assumption) ?_
  rotate_left 1
  · (intro w hSw; (try dsimp only at hSw); go_simp; (try with_reducible rfl))
  try simp only [List.getElem_toArray, List.getElem_cons_zero, List.getElem_cons_succ, Act.put, List.setIfInBounds_toArray, List.set_cons_zero, List.set_cons_succ]
  refine wpAnyH_take (i := 3) (oi := _) (v := ?_) rfl (by kernel_rfl) (by kernel_rfl) (by kernel_rfl) (fun _ _ _ h => h) (Or.inl ⟨by rfl, ?_⟩) (by assumption) ?_
  rotate_left 1
  · (intro w hSw; (try dsimp only at hSw); go_simp; (try with_reducible rfl))
  try simp only [List.getElem_toArray, List.getElem_cons_zero, List.getElem_cons_succ, Act.put, List.setIfInBounds_toArray, List.set_cons_zero, List.set_cons_succ]
  refine wpAnyH_take (i := 4) (oi := _) (v := ?_) rfl (by kernel_rfl) (by kernel_rfl) (by kernel_rfl) (fun _ _ _ h => h) (Or.inl ⟨by rfl, ?_⟩) (by assumption) ?_
  rotate_left 1
  · (intro w hSw; (try dsimp only at hSw); go_simp; (try with_reducible rfl))
  try simp only [List.getElem_toArray, List.getElem_cons_zero, List.getElem_cons_succ, Act.put, List.setIfInBounds_toArray, List.set_cons_zero, List.set_cons_succ]
  refine wpAnyH_take (i := 5) (oi := _) (v := ?_) rfl (by kernel_rfl) (by kernel_rfl) (by kernel_rfl) (fun _ _ _ h => h) (Or.inl ⟨by rfl, ?_⟩) (by assumption) ?_
  rotate_left 1
  · (intro w hSw; (try dsimp only at hSw); go_simp; (try with_reducible rfl))
  try simp only [List.getElem_toArray, List.getElem_cons_zero, List.getElem_cons_succ, Act.put, List.setIfInBounds_toArray, List.set_cons_zero, List.set_cons_succ]
  refine wpAnyH_take (i := 6) (oi := _) (v := ?_) rfl (by kernel_rfl) (by kernel_rfl) (by kernel_rfl) (fun _ _ _ h => h) (Or.inl ⟨by rfl, ?_⟩) (by assumption) ?_
  rotate_left 1
  · (intro w hSw; (try dsimp only at hSw); go_simp; (try with_reducible rfl))
  try simp only [List.getElem_toArray, List.getElem_cons_zero, List.getElem_cons_succ, Act.put, List.setIfInBounds_toArray, List.set_cons_zero, List.set_cons_succ]
  refine wpAnyH_ready (rs := [7]) (by kernel_rfl) (by simp) ?_
  refine AllReadyH.cons (o := _) rfl (fun K hK => ?_) ?_
  · go_simp
    refine (HBH.out _ HB0.out).mono ?_
    rintro e w5 ⟨⟨vg, vf, vc⟩, N, T, l, b, he, hvT, hg5, hl5, hb5, h1, h2, h3, hst, hct, hO5⟩
    obtain rfl : e = .returned (.func vg vf vc) := he
    replace hg5 := Lib.hid (grown_below HB0.out hg5)
    have HBV := Lib.hid (beh_ids hct HN.out (n0 := n0))
    have HLAY := Lib.hid (HL.out kb ko k ⟨vg, vf, vc⟩ (.q y' :: KK) inp fv lv mv (n0 + N.length) ev bv w5 HT.out (HSH.out k (List.mem_cons_self ..)) HM.out (HR3.out.grown hg5.out) hO5 HBV.out)
    have C1 := Lib.hid (kp_away hg5.out HB1.out (by have := HQ.out; omega)); have C2 := Lib.hid (kp_away hg5.out HB2.out (by have := HQ.out; omega))
    replace hst := Lib.hid hst; replace hct := Lib.hid hct; replace hvT := Lib.hid hvT; replace hl5 := Lib.hid hl5; replace hb5 := Lib.hid hb5; replace h1 := Lib.hid h1; replace h2 := Lib.hid h2; replace h3 := Lib.hid h3; replace hO5 := Lib.hid hO5
    go_wp2_with fail
    refine hK.out _ _ (KP.out _ C1.out C2.out) (fun hHeld => ?_)
    clear hK K
    try simp only [List.getElem_toArray, List.getElem_cons_zero, List.getElem_cons_succ, Act.put, List.setIfInBounds_toArray, List.set_cons_zero, List.set_cons_succ]
    refine wpAnyH_ready (rs := [8]) (by kernel_rfl) (by simp) ?_
    refine AllReadyH.cons (o := _) rfl (fun K hK => ?_) ?_
    · go_simp
      refine HLAY.out.mono ?_
      rintro e w6 ⟨⟨vg2, vf2, vc2⟩, N2, T2, Z2, he, hl6, ho6⟩
      obtain rfl : e = .returned (.func vg2 vf2 vc2) := he
      replace hl6 := Lib.hid hl6; replace ho6 := Lib.hid ho6
      have C3 := Lib.hid (kp_away hl6.out.grown C1.out (by have := HQ.out; omega)); have C4 := Lib.hid (kp_away hl6.out.grown C2.out (by have := HQ.out; omega))
      go_wp2_with fail
      refine hK.out _ _ (KP.out _ C3.out C4.out) (fun hHeld => ?_)
      clear hK K
      try simp only [List.getElem_toArray, List.getElem_cons_zero, List.getElem_cons_succ, Act.put, List.setIfInBounds_toArray, List.set_cons_zero, List.set_cons_succ]
      refine wpAnyH_take (i := 9) (oi := _) (v := ?_) rfl (by kernel_rfl) (by kernel_rfl) (by kernel_rfl) (fun _ _ _ h => h) (Or.inl ⟨by rfl, ?_⟩) (by assumption) ?_
      rotate_left 1
      · (intro w hSw; (try dsimp only at hSw); go_simp; (try with_reducible rfl))
      try simp only [List.getElem_toArray, List.getElem_cons_zero, List.getElem_cons_succ, Act.put, List.setIfInBounds_toArray, List.set_cons_zero, List.set_cons_succ]
      refine wpAnyH_done (by kernel_rfl) ?_ _
      go_wp2_with fail
      go_ret
      refine row_post (fx := ⟨.func 125, #[], #[ptrV w.heap.size, ptrV (w.heap.size + 1), ptrV (w.heap.size + 2)]⟩) HQ.out HBL.out hvT.out hg5.out h2.out ?_ hst.out hct.out hl6.out ho6.out
      have q1 := kp_away hg5.out HB1.out (by have := HQ.out; omega)
      have q2 := kp_away hg5.out HB2.out (by have := HQ.out; omega)
      have q3 := kp_away hg5.out HB3.out (by have := HQ.out; omega)
      have a1 := HS3.out
      have a2 := hg5.out.size
      have a3 : w3.heap.size ≤ b := h2.out
      exact .row (bx_but q1 (by omega) (by omega) (by show b ≠ _; omega)) (bx_but q2 (by omega) (by omega) (by show b ≠ _; omega)) (bx_but q3 (by omega) (by omega) (by show b ≠ _; omega)) HKP.out HRM.out (.inr ⟨rfl, rfl⟩) fun t ht => HSH.out t (List.mem_cons_of_mem _ ht)
    exact AllReadyH.nil
  exact AllReadyH.nil
/-- Rows are laid, if their trees are. -/
theorem drow_any (E : Env) (y : Q) (hL : ∀ x : Q, SizeOf.sizeOf x < SizeOf.sizeOf y → LayOf E x) : RowOf E y := by
  intro kv ks f K inp fv lv mv n0 ev bv w _ hK hs hM hr hO hn
  cases hM with
  | nil => exact drow_nil E kv f K inp fv lv mv n0 ev bv w hK hO
  | cons h1 h2 h3 => exact drow_cons E _ _ _ (hL _ (by simp only [Q.seq.sizeOf_spec]; omega)) kv _ _ f K inp fv lv mv n0 ev bv w hK hs h1 h2 h3 hr hO hn
end Go.Proofs.Ytnemacejaiifnaa
/- A group is laid. No condition. -/
namespace Go.Proofs.Ytnemacejaiifnaa
open Go Go.RowKit

/-- A world that only grew stands ahead. -/
theorem lay_from {E : Env} {f : Fv} {KK : Ks} {x : Q} {inp fv lv mv : Value} {n0 : Nat} {ev bv : Value} {w w1 w' : World} {e : Ending} (hb : Below w.heap.size w w1) (h : LayPost E f KK x inp fv lv mv n0 ev bv w1 e w') : LayPost E f KK x inp fv lv mv n0 ev bv w e w' := by
  obtain ⟨v, N, T, Z, he, hl, ho⟩ := h
  have hs := hb.size
  refine ⟨v, N, T, Z, he, ⟨grown_below hb hl.grown, ?_, hl.rep, hl.count, hl.nl⟩, ho⟩
  have J := (⟨Nat.le_trans hl.grown.size (Nat.le_refl _), fun p hp => (by cases hp), fun z hz => (by cases hz), List.nodup_nil⟩ : Stage E (fun v k => v = f ∧ k = KK) w.heap.size w1.heap.size n0 w' [] [] []).join hl.stage (X := fun v k => v = f ∧ k = KK) hs hl.grown.size rfl (fun v k h => .inr h) fun v k h => .inr h
  exact J
theorem LayOf.over {E : Env} {x : Q} (h : LayOf E x) {pb po : Nat} {t : Tr} {f : Fv} {K : Ks} {inp fv lv mv : Value} {n0 : Nat} {ev bv : Value} {w : World} [Nonempty (FitOk E fv)] (hT : TP E.w0 pb po t) (hs : ShapedP t) (hM : Mat E.R E.G t x) (hr : Rd E w) (hO : Om w E.q inp fv lv mv n0 ev bv) (hn : n0 + (idsQ x).length ≤ 100000000) (W : World) (hW : Below w.heap.size w W) :
    Calls Try.prog 39 #[ptrV E.q, .pointer (some ⟨pb, po, none⟩), f.v] W (LayPost E f K x inp fv lv mv n0 ev bv w) :=
  (h pb po t f K inp fv lv mv n0 ev bv W hT hs hM (hr.then hW) (hO.below hW hO.lt) hn).mono fun e w' h => lay_from hW h
/-- 'lay' lays this tree as x. -/
def LayAt (E : Env) (x : Q) (t : Tr) : Prop := ∀ (pb po : Nat) (f : Fv) (K : Ks) (inp fv lv mv : Value) (n0 : Nat) (ev bv : Value) (w : World) [Nonempty (FitOk E fv)], TP E.w0 pb po t → ShapedP t → Mat E.R E.G t x → Rd E w → Om w E.q inp fv lv mv n0 ev bv → n0 + (idsQ x).length ≤ 100000000 →
  Calls Try.prog 39 #[ptrV E.q, .pointer (some ⟨pb, po, none⟩), f.v] w (LayPost E f K x inp fv lv mv n0 ev bv w)
theorem LayAt.over {E : Env} {x : Q} {t : Tr} (h : LayAt E x t) {pb po : Nat} {f : Fv} {K : Ks} {inp fv lv mv : Value} {n0 : Nat} {ev bv : Value} {w : World} [Nonempty (FitOk E fv)] (hT : TP E.w0 pb po t) (hs : ShapedP t) (hM : Mat E.R E.G t x) (hr : Rd E w) (hO : Om w E.q inp fv lv mv n0 ev bv) (hn : n0 + (idsQ x).length ≤ 100000000) (W : World) (hW : Below w.heap.size w W) :
    Calls Try.prog 39 #[ptrV E.q, .pointer (some ⟨pb, po, none⟩), f.v] W (LayPost E f K x inp fv lv mv n0 ev bv w) :=
  (h pb po f K inp fv lv mv n0 ev bv W hT hs hM (hr.then hW) (hO.below hW hO.lt) hn).mono fun e w' h => lay_from hW h
theorem lay_value {E : Env} {f : Fv} {KK : Ks} {x : Q} {inp fv lv mv : Value} {n0 : Nat} {ev bv : Value} {w w' : World} {e : Ending} (h : LayPost E f KK x inp fv lv mv n0 ev bv w e w') : ∃ v : Fv, e = .returned v.v ∧ LayPost E f KK x inp fv lv mv n0 ev bv w (.returned v.v) w' := by
  have h' := h
  obtain ⟨v, N, T, Z, he, -⟩ := h
  exact ⟨v, he, he ▸ h'⟩

set_option maxHeartbeats 3200000 in
theorem dgroup_bare (E : Env) (x : Q) (t k : Tr) (hL : LayAt E x k) (pb po : Nat) (f : Fv) (KK : Ks) (inp fv lv mv : Value) (n0 : Nat) (ev bv : Value) (w : World) [hfit : Nonempty (FitOk E fv)] (hT : TP E.w0 pb po t) (hk : t.kids = [k]) (hs : ShapedP k) (hM : Mat E.R E.G k x) (hc : (E.G : Int) < t.fld.cap) (hr : Rd E w)
    (hO : Om w E.q inp fv lv mv n0 ev bv) (hn : n0 + (idsQ x).length ≤ 100000000) :
    Calls Try.prog 77 #[ptrV E.q, .pointer (some ⟨pb, po, none⟩), f.v] w (LayPost E f KK x inp fv lv mv n0 ev bv w) := by
  obtain ⟨hfv⟩ := hfit
  have hF : Nonempty (FitOk E fv) := ⟨hfv⟩
  have hle := hfv.le
  obtain ⟨w2, hw2, b1, b2, hb2, hs2⟩ := dtwo_new w 71 75 (ptrV E.q) f.v
  have hr2 := hr.then hb2
  have hO2 := hO.below hb2 hO.lt
  obtain ⟨kv, sv, ⟨-, d1, -, -, -, d5, -⟩, hkp, -, -⟩ := hT.ten hr2
  rw [hk] at hkp
  obtain ⟨kb, ko, kc, rfl, hkt⟩ := hkp.one
  have HLAY := Lib.hid (fun W hW => hL.over (f := f) (K := KK) hkt hs hM hr2 hO2 hn W hW)
  obtain ⟨g, ff, fc⟩ := f
  have c1 := (b1.cell 0).trans (rfl : _ = some (ptrV E.q))
  have c2 : w2.cell? ⟨w.heap.size + 1, 0, none⟩ = some (.func g ff fc) := (b2.cell 0).trans rfl
  obtain ⟨-, f1, -⟩ := om_ten hO2
  rw [hfv.eq] at f1
  obtain ⟨G2, hG2⟩ : ∃ G2, 2 * (E.G + 1) = G2 := ⟨_, rfl⟩
  obtain ⟨cp, hcp⟩ : ∃ cp, t.fld.cap = cp := ⟨_, rfl⟩
  unfold Env.fv at f1
  rw [hG2] at f1
  rw [hcp] at d5 hc
  have HW := Lib.hid hw2; have HB := Lib.hid hb2
  clear hw2 hb2 hs2 b1 b2 hO hO2 hr hr2 hT hk hs hM hkp hkt hL hn hF hfv
  go_enter Try.func77, Try.ntmps77
  go_upto_region 1 with (fail)
  rw [HW.out]
  go_big_quiet (fail)
  have hz : decide ((G2 : Int) / 2 ≤ cp) = true := decide_eq_true (by omega)
  have hkc : (0 : Int) < (([k] : List Tr).length : Nat) := by simp
  have hB := below_draws w2 nq
  have d1' : (w2.drewN nq).cell? ⟨pb, po + 1, none⟩ = some (.slice (some ⟨kb, ko, none⟩) ([k] : List Tr).length kc) := d1
  have c1' : (w2.drewN nq).cell? ⟨w.heap.size, 0, none⟩ = some (ptrV E.q) := c1
  have c2' : (w2.drewN nq).cell? ⟨w.heap.size + 1, 0, none⟩ = some (.func g ff fc) := c2
  generalize w2.drewN nq = w3 at hB d1' c1' c2' ⊢
  have HB3 := Lib.hid hB
  clear c1 c2 d1 d5 f1 hB
  go_wp2_with fail
  go_region_with (go_at_call 39; refine (HLAY.out _ ?hb).mono ?_; (case hb => exact HB3.out.trans ((Below.refl _ _).drew.mono HB3.out.size)); intro e w6 hp; obtain ⟨⟨vg, vf, vc⟩, he, H⟩ := lay_value hp; obtain rfl : e = .returned (.func vg vf vc) := he; replace H := Lib.hid H; clear hp)
  all_goals
    go_wp2_with fail
    go_ret
    exact lay_from HB.out H.out
end Go.Proofs.Ytnemacejaiifnaa
/- A counted repeat is laid. Written by gen11rep.py. No condition. -/
namespace Go.Proofs.Ytnemacejaiifnaa
open Go Go.RowKit

theorem five_new (w : World) (t1 t2 t3 t4 t5 : TypeId) (u1 u2 u3 u4 u5 : Value) : ∃ w2, ((((w.alloc (.cells #[u1] t1)).alloc (.cells #[u2] t2)).alloc (.cells #[u3] t3)).alloc (.cells #[u4] t4)).alloc (.cells #[u5] t5) = w2 ∧ Whole w2 w.heap.size t1 #[u1] ∧ Whole w2 (w.heap.size + 1) t2 #[u2] ∧ Whole w2 (w.heap.size + 2) t3 #[u3] ∧ Whole w2 (w.heap.size + 3) t4 #[u4] ∧ Whole w2 (w.heap.size + 4) t5 #[u5] ∧ Below w.heap.size w w2 ∧ w2.heap.size = w.heap.size + 5 := by
  obtain ⟨a, rfl, h1, h2, h3, h4, h5, h6⟩ := four_new w t1 t2 t3 t4 u1 u2 u3 u4
  obtain ⟨b, rfl, k1, k2, k3⟩ := new_box ((((w.alloc (.cells #[u1] t1)).alloc (.cells #[u2] t2)).alloc (.cells #[u3] t3)).alloc (.cells #[u4] t4)) t5 u5
  exact ⟨_, rfl, h1.alloc _, h2.alloc _, h3.alloc _, h4.alloc _, by rw [h6] at k1; exact k1, h5.trans (k2.mono h5.size), by rw [k3, h6]⟩
/-- A part that may be left out, over what is laid. -/
theorem quest_post {E : Env} {f : Fv} {KK : Ks} {x : Q} {z : Bool} {inp fv lv mv : Value} {n0 : Nat} {ev bv : Value} {w w7 w8 : World} {e : Ending} {vk : Fv} (h : LayPost E f KK x inp fv lv mv n0 ev bv w (.returned vk.v) w7) (hq : QuestPost E.q z vk f w7 e w8) : LayPost E f KK (.quest z x) inp fv lv mv n0 ev bv w e w8 := by
  obtain ⟨v, N, T, Z, hv, hl, ho⟩ := h
  obtain ⟨b, rfl, k1, k2, k3, k4, k5, k6⟩ := hq
  have hvk : v = vk := by
    have := Ending.returned.inj hv
    obtain ⟨g1, f1, c1⟩ := v
    obtain ⟨g2, f2, c2⟩ := vk
    injection this with e1 e2 e3
    subst e1 e2 e3
    rfl
  subst hvk
  have hs7 := hl.grown.size
  have hs8 := k6.size
  have l4 := k4.lt
  have B := hl.stage.move (w' := w8) hs8 fun b h1 h2 => k6.block b h2
  have C : Stage E (fun v' k' => (v', k') ∈ T ∨ (v' = f ∧ k' = KK)) w7.heap.size w8.heap.size (n0 + N.length) w8 [] [(⟨.func 122, #[], #[ptrV b, ptrV (b + 1), ptrV (b + 2), ptrV (b + 3)]⟩, .q (.quest z x) :: KK)] [] :=
    Stage.one (Nat.le_refl _) (.quest (bx_new k1 (by omega) (by omega)) (bx_new k2 (by omega) (by omega)) (bx_new k3 (by omega) (by omega)) (bx_new k4 (by omega) (by omega)) (hl.rep.mono fun _ _ h => .inr (.inl h)) (.base (.inr (.inr ⟨rfl, rfl⟩))))
  have J := B.join C (X := fun v k => v = f ∧ k = KK) (by omega) (by omega) rfl (fun v k h => .inr h) fun v k h => h
  exact ⟨_, N ++ [], _, Z ++ [], rfl, ⟨grown_then hl.grown k6, J, .base (List.mem_append_right _ (List.mem_singleton.2 rfl)), fun a => by have := hl.count a; simpa [idsQ] using this, fn_ne (by decide)⟩, by simpa using ho.below k6 ho.lt⟩
abbrev drepF (b : Nat) : Fv := ⟨.func 124, #[], #[ptrV b, ptrV (b + 1), ptrV (b + 2), ptrV (b + 3), ptrV (b + 4)]⟩

set_option maxHeartbeats 1600000 in
theorem drep_done (E : Env) (pb po : Nat) (t k : Tr) (l h : Int) (f : Fv) (KK : Ks) (inp fv lv mv : Value) (n0 : Nat) (ev bv : Value) (w : World) [Nonempty (FitOk E fv)] (hT : TP E.w0 pb po t) (hk : t.kids = [k]) (hr : Rd E w) (hO : Om w E.q inp fv lv mv n0 ev bv) (hh : h = 0) :
    Calls Try.prog 81 #[ptrV E.q, .pointer (some ⟨pb, po, none⟩), .int .i64 l, .int .i64 h, f.v] w (LayPost E f KK .eps inp fv lv mv n0 ev bv w) := by
  obtain ⟨w5, hw5, b1, b2, b3, b4, b5, hb5, hs5⟩ := five_new w 71 77 3 3 75 (ptrV E.q) (.pointer (some ⟨pb, po, none⟩)) (.int .i64 l) (.int .i64 h) f.v
  have hr5 := hr.then hb5
  obtain ⟨kv, sv, ⟨-, d1, -, -, -, -, -, -, -, d9⟩, hkp, -, -⟩ := hT.ten hr5
  rw [hk] at hkp
  obtain ⟨kb, ko, kc, rfl, hkt⟩ := hkp.one
  obtain ⟨g, ff, fc⟩ := f
  have c1 := (b1.cell 0).trans (rfl : _ = some (ptrV E.q))
  have c2 : w5.cell? ⟨w.heap.size + 1, 0, none⟩ = some (.pointer (some ⟨pb, po, none⟩)) := (b2.cell 0).trans rfl
  have c3 : w5.cell? ⟨w.heap.size + 1 + 1, 0, none⟩ = some (.int .i64 l) := (b3.cell 0).trans rfl
  have c4 : w5.cell? ⟨w.heap.size + 1 + 1 + 1, 0, none⟩ = some (.int .i64 h) := (b4.cell 0).trans rfl
  have c5 : w5.cell? ⟨w.heap.size + 1 + 1 + 1 + 1, 0, none⟩ = some (.func g ff fc) := (b5.cell 0).trans rfl
  have hO5 := hO.below hb5 hO.lt
  have hkc : (0 : Int) < (([k] : List Tr).length : Nat) := by simp
  have HP := Lib.hid (dpass_any E.q ⟨g, ff, fc⟩ w5)
  have HO := Lib.hid hO; have HB := Lib.hid hb5; have HW := Lib.hid hw5
  subst hh
  clear b1 b2 b3 b4 b5 hs5 hw5 hO hb5 hr hr5 hT hk hkp hkt hO5 d9
  go_enter Try.func81, Try.ntmps81
  go_upto_region 1 with (fail)
  rw [HW.out]
  go_wp2_with fail
  refine HP.out.mono ?_
  rintro e w4 ⟨b, he, h⟩
  obtain rfl : e = .returned (.func (.func 110) #[] #[ptrV b, ptrV (b + 1)]) := he
  have H := Lib.hid h
  clear h
  go_wp2_with fail
  go_ret
  exact laid_pass HB.out HO.out ⟨b, rfl, H.out⟩

set_option maxHeartbeats 1600000 in
theorem drep_star (E : Env) (a : Nat) (x : Q) (hL : LayOf E x) (pb po : Nat) (t k : Tr) (l h : Int) (f : Fv) (KK : Ks) (inp fv lv mv : Value) (n0 : Nat) (ev bv : Value) (w : World) [Nonempty (FitOk E fv)] (hT : TP E.w0 pb po t) (hk : t.kids = [k]) (hr : Rd E w) (hO : Om w E.q inp fv lv mv n0 ev bv) (hl0 : l = 0) (hh : h < 0) (hs : ShapedP k) (hM : Mat E.R E.G k x) (hn : n0 + (idsQ (.star a t.fld.lazy x)).length ≤ 100000000) :
    Calls Try.prog 81 #[ptrV E.q, .pointer (some ⟨pb, po, none⟩), .int .i64 l, .int .i64 h, f.v] w (LayPost E f KK (.star a t.fld.lazy x) inp fv lv mv n0 ev bv w) := by
  obtain ⟨w5, hw5, b1, b2, b3, b4, b5, hb5, hs5⟩ := five_new w 71 77 3 3 75 (ptrV E.q) (.pointer (some ⟨pb, po, none⟩)) (.int .i64 l) (.int .i64 h) f.v
  have hr5 := hr.then hb5
  obtain ⟨kv, sv, ⟨-, d1, -, -, -, -, -, -, -, d9⟩, hkp, -, -⟩ := hT.ten hr5
  rw [hk] at hkp
  obtain ⟨kb, ko, kc, rfl, hkt⟩ := hkp.one
  obtain ⟨g, ff, fc⟩ := f
  have c1 := (b1.cell 0).trans (rfl : _ = some (ptrV E.q))
  have c2 : w5.cell? ⟨w.heap.size + 1, 0, none⟩ = some (.pointer (some ⟨pb, po, none⟩)) := (b2.cell 0).trans rfl
  have c3 : w5.cell? ⟨w.heap.size + 1 + 1, 0, none⟩ = some (.int .i64 l) := (b3.cell 0).trans rfl
  have c4 : w5.cell? ⟨w.heap.size + 1 + 1 + 1, 0, none⟩ = some (.int .i64 h) := (b4.cell 0).trans rfl
  have c5 : w5.cell? ⟨w.heap.size + 1 + 1 + 1 + 1, 0, none⟩ = some (.func g ff fc) := (b5.cell 0).trans rfl
  have hO5 := hO.below hb5 hO.lt
  have hkc : (0 : Int) < (([k] : List Tr).length : Nat) := by simp
  have HP := Lib.hid (dstar_any E a x hL pb po t k ⟨g, ff, fc⟩ KK inp fv lv mv n0 ev bv w5 hT hk hs hM hr5 hO5 hn)
  have HB := Lib.hid hb5; have HW := Lib.hid hw5
  have z0 : (h == 0) = false := by simp only [beq_eq_false_iff_ne]; omega
  have z1 : decide (h < 0) = true := decide_eq_true hh
  subst hl0
  clear b1 b2 b3 b4 b5 hs5 hw5 hO hb5 hr hr5 hT hk hkp hkt hO5 d9 hL hs hM hn
  go_enter Try.func81, Try.ntmps81
  go_upto_region 1 with (fail)
  rw [HW.out]
  go_wp2_with fail
  refine HP.out.mono ?_
  intro e w4 hp
  obtain ⟨⟨vg, vf, vc⟩, he, H⟩ := lay_value hp
  obtain rfl : e = .returned (.func vg vf vc) := he
  replace H := Lib.hid H
  clear hp
  go_wp2_with fail
  go_ret
  exact lay_from HB.out H.out

set_option maxHeartbeats 1600000 in
theorem drep_plus (E : Env) (a a' : Nat) (x : Q) (hL : LayOf E x) (pb po : Nat) (t k : Tr) (l h : Int) (f : Fv) (KK : Ks) (inp fv lv mv : Value) (n0 : Nat) (ev bv : Value) (w : World) [Nonempty (FitOk E fv)] (hT : TP E.w0 pb po t) (hk : t.kids = [k]) (hr : Rd E w) (hO : Om w E.q inp fv lv mv n0 ev bv) (hl0 : l = 1) (hh : h < 0) (hs : ShapedP k) (hM : Mat E.R E.G k x) (hn : n0 + (idsQ (.plus a a' t.fld.lazy x)).length ≤ 100000000) :
    Calls Try.prog 81 #[ptrV E.q, .pointer (some ⟨pb, po, none⟩), .int .i64 l, .int .i64 h, f.v] w (LayPost E f KK (.plus a a' t.fld.lazy x) inp fv lv mv n0 ev bv w) := by
  obtain ⟨w5, hw5, b1, b2, b3, b4, b5, hb5, hs5⟩ := five_new w 71 77 3 3 75 (ptrV E.q) (.pointer (some ⟨pb, po, none⟩)) (.int .i64 l) (.int .i64 h) f.v
  have hr5 := hr.then hb5
  obtain ⟨kv, sv, ⟨-, d1, -, -, -, -, -, -, -, d9⟩, hkp, -, -⟩ := hT.ten hr5
  rw [hk] at hkp
  obtain ⟨kb, ko, kc, rfl, hkt⟩ := hkp.one
  obtain ⟨g, ff, fc⟩ := f
  have c1 := (b1.cell 0).trans (rfl : _ = some (ptrV E.q))
  have c2 : w5.cell? ⟨w.heap.size + 1, 0, none⟩ = some (.pointer (some ⟨pb, po, none⟩)) := (b2.cell 0).trans rfl
  have c3 : w5.cell? ⟨w.heap.size + 1 + 1, 0, none⟩ = some (.int .i64 l) := (b3.cell 0).trans rfl
  have c4 : w5.cell? ⟨w.heap.size + 1 + 1 + 1, 0, none⟩ = some (.int .i64 h) := (b4.cell 0).trans rfl
  have c5 : w5.cell? ⟨w.heap.size + 1 + 1 + 1 + 1, 0, none⟩ = some (.func g ff fc) := (b5.cell 0).trans rfl
  have hO5 := hO.below hb5 hO.lt
  have hkc : (0 : Int) < (([k] : List Tr).length : Nat) := by simp
  have HP := Lib.hid (dplus_any E a a' x hL pb po t k ⟨g, ff, fc⟩ KK inp fv lv mv n0 ev bv w5 hT hk hs hM hr5 hO5 hn)
  have HB := Lib.hid hb5; have HW := Lib.hid hw5
  have z0 : (h == 0) = false := by simp only [beq_eq_false_iff_ne]; omega
  have z1 : decide (h < 0) = true := decide_eq_true hh
  subst hl0
  clear b1 b2 b3 b4 b5 hs5 hw5 hO hb5 hr hr5 hT hk hkp hkt hO5 d9 hL hs hM hn
  go_enter Try.func81, Try.ntmps81
  go_upto_region 1 with (fail)
  rw [HW.out]
  go_wp2_with fail
  refine HP.out.mono ?_
  intro e w4 hp
  obtain ⟨⟨vg, vf, vc⟩, he, H⟩ := lay_value hp
  obtain rfl : e = .returned (.func vg vf vc) := he
  replace H := Lib.hid H
  clear hp
  go_wp2_with fail
  go_ret
  exact lay_from HB.out H.out

/-- How the rest of a repeat is laid: its boxes. -/
theorem rep_thunk {E : Env} {X : Fv → Ks → Prop} {n0 : Nat} {N : List Nat} {T : List (Fv × Ks)} {b : Nat} {w w5 w6 : World} {pb po : Nat} {t k : Tr} {l h : Int} {g : Fn} {ff fc : Array Value} {y : Q} {KK : Ks} (hq : E.q < w.heap.size) (hg : w5.grownBy w6 (some E.q)) (hs : w5.heap.size = w.heap.size + 5)
    (b1 : Whole w5 w.heap.size 71 #[ptrV E.q]) (b2 : Whole w5 (w.heap.size + 1) 77 #[.pointer (some ⟨pb, po, none⟩)]) (b3 : Whole w5 (w.heap.size + 2) 3 #[.int .i64 l]) (b4 : Whole w5 (w.heap.size + 3) 3 #[.int .i64 h]) (b5 : Whole w5 (w.heap.size + 4) 75 #[.func g ff fc]) (h2 : w5.heap.size ≤ b)
    (hT : TP E.w0 pb po t) (hk : t.kids = [k]) (hsh : ShapedP k) (h0 : 0 ≤ l) (h1 : l ≤ 1000) (h3 : -3000 ≤ h - l) (h4 : h ≤ 1000) (hRM : RepM (Mat E.R E.G k) (k.kids = []) t.fld.lazy (max (l - 1) 0) (h - 1) y)
    (hX : (⟨g, ff, fc⟩, KK) ∈ T ∨ X ⟨g, ff, fc⟩ KK) : Thunk E (ghOf X w.heap.size w6.heap.size n0 w6 N T [⟨b, drepF w.heap.size, y, KK⟩]) (drepF w.heap.size) y KK := by
  have hs6 := hg.size
  have q1 := kp_away hg b1 (by omega)
  have q2 := kp_away hg b2 (by omega)
  have q3 := kp_away hg b3 (by omega)
  have q4 := kp_away hg b4 (by omega)
  have q5 := kp_away hg b5 (by omega)
  exact .rep (bx_but q1 (by omega) (by omega) (by show b ≠ _; omega)) (bx_but q2 (by omega) (by omega) (by show b ≠ _; omega)) (bx_but q3 (by omega) (by omega) (by show b ≠ _; omega)) (bx_but q4 (by omega) (by omega) (by show b ≠ _; omega)) (bx_but (cs := #[(⟨g, ff, fc⟩ : Fv).v]) q5 (by omega) (by omega) (by show b ≠ _; omega)) hT hk hsh h0 h1 h3 h4 hRM hX
theorem lay_grown {E : Env} {f : Fv} {KK : Ks} {x : Q} {inp fv lv mv : Value} {n0 : Nat} {ev bv : Value} {w W : World} {args : Array Value} (h : Calls Try.prog 39 args W (LayPost E f KK x inp fv lv mv n0 ev bv W)) (hW : Below w.heap.size w W) : Calls Try.prog 39 args W (LayPost E f KK x inp fv lv mv n0 ev bv w) :=
  h.mono fun e w' h => lay_from hW h
set_option maxHeartbeats 3200000 in
theorem drep_more (E : Env) (x y y' : Q) (hL : LayOf E x) (pb po : Nat) (t k : Tr) (l h : Int) (f : Fv) (KK : Ks) (inp fv lv mv : Value) (n0 : Nat) (ev bv : Value) (w : World) [Nonempty (FitOk E fv)] (hT : TP E.w0 pb po t) (hk : t.kids = [k]) (hr : Rd E w) (hO : Om w E.q inp fv lv mv n0 ev bv) (hs : ShapedP k) (hM : Mat E.R E.G k x) (hRM : RepM (Mat E.R E.G k) (k.kids = []) t.fld.lazy (max (l - 1) 0) (h - 1) y) (hB : Beh (k.kids = []) y y') (hbnd : 0 ≤ l ∧ l ≤ 1000 ∧ -3000 ≤ h - l ∧ h ≤ 1000) (hl0 : 0 < l) (hh : h ≠ 0) (hh1 : ¬ (h < 0 ∧ l = 1)) (hn : n0 + (idsQ (.seq x y')).length ≤ 100000000) :
    Calls Try.prog 81 #[ptrV E.q, .pointer (some ⟨pb, po, none⟩), .int .i64 l, .int .i64 h, f.v] w (LayPost E f KK (.seq x y') inp fv lv mv n0 ev bv w) := by
  obtain ⟨w5, hw5, b1, b2, b3, b4, b5, hb5, hs5⟩ := five_new w 71 77 3 3 75 (ptrV E.q) (.pointer (some ⟨pb, po, none⟩)) (.int .i64 l) (.int .i64 h) f.v
  have hr5 := hr.then hb5
  obtain ⟨kv, sv, ⟨-, d1, -, -, -, -, -, -, -, d9⟩, hkp, -, -⟩ := hT.ten hr5
  rw [hk] at hkp
  obtain ⟨kb, ko, kc, rfl, hkt⟩ := hkp.one
  obtain ⟨g, ff, fc⟩ := f
  have c1 := (b1.cell 0).trans (rfl : _ = some (ptrV E.q))
  have c2 : w5.cell? ⟨w.heap.size + 1, 0, none⟩ = some (.pointer (some ⟨pb, po, none⟩)) := (b2.cell 0).trans rfl
  have c3 : w5.cell? ⟨w.heap.size + 1 + 1, 0, none⟩ = some (.int .i64 l) := (b3.cell 0).trans rfl
  have c4 : w5.cell? ⟨w.heap.size + 1 + 1 + 1, 0, none⟩ = some (.int .i64 h) := (b4.cell 0).trans rfl
  have c5 : w5.cell? ⟨w.heap.size + 1 + 1 + 1 + 1, 0, none⟩ = some (.func g ff fc) := (b5.cell 0).trans rfl
  have hO5 := hO.below hb5 hO.lt
  have hkc : (0 : Int) < (([k] : List Tr).length : Nat) := by simp
  have hn' : n0 + (idsQ x).length + (idsQ y').length ≤ 100000000 := by simp only [idsQ, List.length_append] at hn; omega
  have hmf := mkf
  have z0 : (h == 0) = false := by simp only [beq_eq_false_iff_ne]; omega
  have z1 : (l == 0) = false := by simp only [beq_eq_false_iff_ne]; omega
  have z2 : (decide (h < 0) && (l == 1)) = false := by
    rcases Classical.em (h < 0) with h1 | h1
    · have : l ≠ 1 := fun e => hh1 ⟨h1, e⟩
      simp [this]
    · simp [h1]
  by_cases hneg : h < 0
  · have z3 : decide (h < 0) = true := decide_eq_true hneg
    have z4 : (l == 1) = false := by have : l ≠ 1 := fun e => hh1 ⟨hneg, e⟩; simpa using this
    clear hh1 hh hl0 z2 hneg
    have hq := hO.lt
    have hsz : (w5.heap.size : Nat) = w.heap.size + 5 := hs5
    have HBH := Lib.hid (dbehind_any E kb ko k hkt (drepF w.heap.size) y y' KK hB inp fv lv mv n0 ev bv w5 hr5 hO5 (by omega))
    have HTP := Lib.hid hT; have HKT := Lib.hid hkt; have HW := Lib.hid hw5; have HB1 := Lib.hid b1; have HB2 := Lib.hid b2; have HB3 := Lib.hid b3; have HB4 := Lib.hid b4; have HB5 := Lib.hid b5; have HBL := Lib.hid hb5; have HS5 := Lib.hid hs5; have HR5 := Lib.hid hr5; have HQ := Lib.hid hq; have HM := Lib.hid hM; have HRM := Lib.hid hRM; have HL := Lib.hid hL; have HSH := Lib.hid hs; have HN := Lib.hid hn'; have HK := Lib.hid hk; have HBND := Lib.hid hbnd
    clear hT hw5 b1 b2 b3 b4 b5 hb5 hs5 hO hO5 hr hr5 hM hRM hB hL hs hn hn' hkp hkt hk hsz hq d9 hbnd
    go_enter Try.func81, Try.ntmps81
    go_upto_region 1 with (fail)
    rw [HW.out]
    go_wp2_with fail
    refine HBH.out.mono ?_
    rintro e w6 ⟨⟨vg, vf, vc⟩, N, T, lb, b, he, hvT, hg6, hl6', hb6, h1, h2, h3, hst, hct, hO6⟩
    obtain rfl : e = .returned (.func vg vf vc) := he
    have HTH := Lib.hid (rep_thunk (X := fun v k => v = ⟨g, ff, fc⟩ ∧ k = KK) (n0 := n0) (N := N) (T := T) (b := b) HQ.out hg6 HS5.out HB1.out HB2.out HB3.out HB4.out HB5.out h2 HTP.out HK.out HSH.out HBND.out.1 HBND.out.2.1 HBND.out.2.2.1 HBND.out.2.2.2 HRM.out (.inr ⟨rfl, rfl⟩))
    have HBV := Lib.hid (beh_ids hct HN.out (n0 := n0))
    have HR6 := Lib.hid (HR5.out.grown hg6)
    have D1 := Lib.hid (kp_away hg6 HB1.out (by have := HQ.out; omega)); have D2 := Lib.hid (kp_away hg6 HB2.out (by have := HQ.out; omega)); have D3 := Lib.hid (kp_away hg6 HB5.out (by have := HQ.out; omega)); have D4 := Lib.hid (kp_away hg6 HB3.out (by have := HQ.out; omega))
    have c1' : w6.cell? ⟨w.heap.size, 0, none⟩ = some (ptrV E.q) := (D1.out.cell 0).trans rfl
    have c3' : w6.cell? ⟨w.heap.size + 1 + 1, 0, none⟩ = some (.int .i64 l) := (D4.out.cell 0).trans rfl
    have HLAY := Lib.hid (fun W (hW : Below w6.heap.size w6 W) => lay_grown (HL.out kb ko k ⟨vg, vf, vc⟩ (.q y' :: KK) inp fv lv mv (n0 + N.length) ev bv W HKT.out HSH.out HM.out (HR6.out.then hW) (hO6.below hW hO6.lt) HBV.out) hW)
    replace hst := Lib.hid hst; replace hct := Lib.hid hct; replace hvT := Lib.hid hvT; replace hl6' := Lib.hid hl6'; replace hb6 := Lib.hid hb6; replace h1 := Lib.hid h1; replace h2 := Lib.hid h2; replace h3 := Lib.hid h3; replace hO6 := Lib.hid hO6; replace hg6 := Lib.hid hg6
    go_wp2_with fail
    refine (HLAY.out _ (Below.refl _ _)).mono ?_
    rintro e w7 ⟨⟨vg2, vf2, vc2⟩, N2, T2, Z2, he, hl6, ho6⟩
    obtain rfl : e = .returned (.func vg2 vf2 vc2) := he
    replace hl6 := Lib.hid hl6; replace ho6 := Lib.hid ho6
    go_wp2_with fail
    go_ret
    exact row_post (fx := drepF w.heap.size) HQ.out HBL.out hvT.out hg6.out h2.out HTH.out hst.out hct.out hl6.out ho6.out
  · have z3 : decide (h < 0) = false := decide_eq_false hneg
    clear hh1 hh hl0 z2 hneg
    have hq := hO.lt
    have hsz : (w5.heap.size : Nat) = w.heap.size + 5 := hs5
    have HBH := Lib.hid (dbehind_any E kb ko k hkt (drepF w.heap.size) y y' KK hB inp fv lv mv n0 ev bv w5 hr5 hO5 (by omega))
    have HTP := Lib.hid hT; have HKT := Lib.hid hkt; have HW := Lib.hid hw5; have HB1 := Lib.hid b1; have HB2 := Lib.hid b2; have HB3 := Lib.hid b3; have HB4 := Lib.hid b4; have HB5 := Lib.hid b5; have HBL := Lib.hid hb5; have HS5 := Lib.hid hs5; have HR5 := Lib.hid hr5; have HQ := Lib.hid hq; have HM := Lib.hid hM; have HRM := Lib.hid hRM; have HL := Lib.hid hL; have HSH := Lib.hid hs; have HN := Lib.hid hn'; have HK := Lib.hid hk; have HBND := Lib.hid hbnd
    clear hT hw5 b1 b2 b3 b4 b5 hb5 hs5 hO hO5 hr hr5 hM hRM hB hL hs hn hn' hkp hkt hk hsz hq d9 hbnd
    go_enter Try.func81, Try.ntmps81
    go_upto_region 1 with (fail)
    rw [HW.out]
    go_wp2_with fail
    refine HBH.out.mono ?_
    rintro e w6 ⟨⟨vg, vf, vc⟩, N, T, lb, b, he, hvT, hg6, hl6', hb6, h1, h2, h3, hst, hct, hO6⟩
    obtain rfl : e = .returned (.func vg vf vc) := he
    have HTH := Lib.hid (rep_thunk (X := fun v k => v = ⟨g, ff, fc⟩ ∧ k = KK) (n0 := n0) (N := N) (T := T) (b := b) HQ.out hg6 HS5.out HB1.out HB2.out HB3.out HB4.out HB5.out h2 HTP.out HK.out HSH.out HBND.out.1 HBND.out.2.1 HBND.out.2.2.1 HBND.out.2.2.2 HRM.out (.inr ⟨rfl, rfl⟩))
    have HBV := Lib.hid (beh_ids hct HN.out (n0 := n0))
    have HR6 := Lib.hid (HR5.out.grown hg6)
    have D1 := Lib.hid (kp_away hg6 HB1.out (by have := HQ.out; omega)); have D2 := Lib.hid (kp_away hg6 HB2.out (by have := HQ.out; omega)); have D3 := Lib.hid (kp_away hg6 HB5.out (by have := HQ.out; omega)); have D4 := Lib.hid (kp_away hg6 HB3.out (by have := HQ.out; omega))
    have c1' : w6.cell? ⟨w.heap.size, 0, none⟩ = some (ptrV E.q) := (D1.out.cell 0).trans rfl
    have c3' : w6.cell? ⟨w.heap.size + 1 + 1, 0, none⟩ = some (.int .i64 l) := (D4.out.cell 0).trans rfl
    have HLAY := Lib.hid (fun W (hW : Below w6.heap.size w6 W) => lay_grown (HL.out kb ko k ⟨vg, vf, vc⟩ (.q y' :: KK) inp fv lv mv (n0 + N.length) ev bv W HKT.out HSH.out HM.out (HR6.out.then hW) (hO6.below hW hO6.lt) HBV.out) hW)
    replace hst := Lib.hid hst; replace hct := Lib.hid hct; replace hvT := Lib.hid hvT; replace hl6' := Lib.hid hl6'; replace hb6 := Lib.hid hb6; replace h1 := Lib.hid h1; replace h2 := Lib.hid h2; replace h3 := Lib.hid h3; replace hO6 := Lib.hid hO6; replace hg6 := Lib.hid hg6
    go_wp2_with fail
    refine (HLAY.out _ (Below.refl _ _)).mono ?_
    rintro e w7 ⟨⟨vg2, vf2, vc2⟩, N2, T2, Z2, he, hl6, ho6⟩
    obtain rfl : e = .returned (.func vg2 vf2 vc2) := he
    replace hl6 := Lib.hid hl6; replace ho6 := Lib.hid ho6
    go_wp2_with fail
    go_ret
    exact row_post (fx := drepF w.heap.size) HQ.out HBL.out hvT.out hg6.out h2.out HTH.out hst.out hct.out hl6.out ho6.out

set_option maxHeartbeats 3200000 in
theorem drep_opt (E : Env) (z : Bool) (x y y' : Q) (hL : LayOf E x) (pb po : Nat) (t k : Tr) (l h : Int) (f : Fv) (KK : Ks) (inp fv lv mv : Value) (n0 : Nat) (ev bv : Value) (w : World) [Nonempty (FitOk E fv)] (hT : TP E.w0 pb po t) (hk : t.kids = [k]) (hr : Rd E w) (hO : Om w E.q inp fv lv mv n0 ev bv) (hs : ShapedP k) (hM : Mat E.R E.G k x) (hRM : RepM (Mat E.R E.G k) (k.kids = []) z (max (l - 1) 0) (h - 1) y) (hB : Beh (k.kids = []) y y') (hbnd : 0 ≤ l ∧ l ≤ 1000 ∧ -3000 ≤ h - l ∧ h ≤ 1000) (hz : t.fld.lazy = z) (hl0 : l = 0) (hh : 0 < h) (hn : n0 + (idsQ (.seq x y')).length ≤ 100000000) :
    Calls Try.prog 81 #[ptrV E.q, .pointer (some ⟨pb, po, none⟩), .int .i64 l, .int .i64 h, f.v] w (LayPost E f KK (.quest z (.seq x y')) inp fv lv mv n0 ev bv w) := by
  obtain ⟨w5, hw5, b1, b2, b3, b4, b5, hb5, hs5⟩ := five_new w 71 77 3 3 75 (ptrV E.q) (.pointer (some ⟨pb, po, none⟩)) (.int .i64 l) (.int .i64 h) f.v
  have hr5 := hr.then hb5
  obtain ⟨kv, sv, ⟨-, d1, -, -, -, -, -, -, -, d9⟩, hkp, -, -⟩ := hT.ten hr5
  rw [hk] at hkp
  rw [hz] at d9
  obtain ⟨kb, ko, kc, rfl, hkt⟩ := hkp.one
  obtain ⟨g, ff, fc⟩ := f
  have c1 := (b1.cell 0).trans (rfl : _ = some (ptrV E.q))
  have c2 : w5.cell? ⟨w.heap.size + 1, 0, none⟩ = some (.pointer (some ⟨pb, po, none⟩)) := (b2.cell 0).trans rfl
  have c3 : w5.cell? ⟨w.heap.size + 1 + 1, 0, none⟩ = some (.int .i64 l) := (b3.cell 0).trans rfl
  have c4 : w5.cell? ⟨w.heap.size + 1 + 1 + 1, 0, none⟩ = some (.int .i64 h) := (b4.cell 0).trans rfl
  have c5 : w5.cell? ⟨w.heap.size + 1 + 1 + 1 + 1, 0, none⟩ = some (.func g ff fc) := (b5.cell 0).trans rfl
  have hO5 := hO.below hb5 hO.lt
  have hkc : (0 : Int) < (([k] : List Tr).length : Nat) := by simp
  have hn' : n0 + (idsQ x).length + (idsQ y').length ≤ 100000000 := by simp only [idsQ, List.length_append] at hn; omega
  have hmf := mkf
  have z0 : (h == 0) = false := by simp only [beq_eq_false_iff_ne]; omega
  have z3 : decide (h < 0) = false := decide_eq_false (by omega)
  rw [← hz] at hRM
  subst hl0
  have hq := hO.lt
  have hsz : (w5.heap.size : Nat) = w.heap.size + 5 := hs5
  have HBH := Lib.hid (dbehind_any E kb ko k hkt (drepF w.heap.size) y y' KK hB inp fv lv mv n0 ev bv w5 hr5 hO5 (by omega))
  have HTP := Lib.hid hT; have HKT := Lib.hid hkt; have HW := Lib.hid hw5; have HB1 := Lib.hid b1; have HB2 := Lib.hid b2; have HB3 := Lib.hid b3; have HB4 := Lib.hid b4; have HB5 := Lib.hid b5; have HBL := Lib.hid hb5; have HS5 := Lib.hid hs5; have HR5 := Lib.hid hr5; have HQ := Lib.hid hq; have HM := Lib.hid hM; have HRM := Lib.hid hRM; have HL := Lib.hid hL; have HSH := Lib.hid hs; have HN := Lib.hid hn'; have HK := Lib.hid hk; have HBND := Lib.hid hbnd
  have HZ := Lib.hid hz; clear hz hT hw5 b1 b2 b3 b4 b5 hb5 hs5 hO hO5 hr hr5 hM hRM hB hL hs hn hn' hkp hkt hk hsz hq d9 hbnd hh
  go_enter Try.func81, Try.ntmps81
  go_upto_region 1 with (fail)
  rw [HW.out]
  go_wp2_with fail
  refine HBH.out.mono ?_
  rintro e w6 ⟨⟨vg, vf, vc⟩, N, T, lb, b, he, hvT, hg6, hl6', hb6, h1, h2, h3, hst, hct, hO6⟩
  obtain rfl : e = .returned (.func vg vf vc) := he
  have HTH := Lib.hid (rep_thunk (X := fun v k => v = ⟨g, ff, fc⟩ ∧ k = KK) (n0 := n0) (N := N) (T := T) (b := b) HQ.out hg6 HS5.out HB1.out HB2.out HB3.out HB4.out HB5.out h2 HTP.out HK.out HSH.out HBND.out.1 HBND.out.2.1 HBND.out.2.2.1 HBND.out.2.2.2 HRM.out (.inr ⟨rfl, rfl⟩))
  have HBV := Lib.hid (beh_ids hct HN.out (n0 := n0))
  have HR6 := Lib.hid (HR5.out.grown hg6)
  have D1 := Lib.hid (kp_away hg6 HB1.out (by have := HQ.out; omega)); have D2 := Lib.hid (kp_away hg6 HB2.out (by have := HQ.out; omega)); have D3 := Lib.hid (kp_away hg6 HB5.out (by have := HQ.out; omega)); have D4 := Lib.hid (kp_away hg6 HB3.out (by have := HQ.out; omega))
  have c1' : w6.cell? ⟨w.heap.size, 0, none⟩ = some (ptrV E.q) := (D1.out.cell 0).trans rfl
  have c3' : w6.cell? ⟨w.heap.size + 1 + 1, 0, none⟩ = some (.int .i64 0) := (D4.out.cell 0).trans rfl
  have HLAY := Lib.hid (fun W (hW : Below w6.heap.size w6 W) => lay_grown (HL.out kb ko k ⟨vg, vf, vc⟩ (.q y' :: KK) inp fv lv mv (n0 + N.length) ev bv W HKT.out HSH.out HM.out (HR6.out.then hW) (hO6.below hW hO6.lt) HBV.out) hW)
  replace hst := Lib.hid hst; replace hct := Lib.hid hct; replace hvT := Lib.hid hvT; replace hl6' := Lib.hid hl6'; replace hb6 := Lib.hid hb6; replace h1 := Lib.hid h1; replace h2 := Lib.hid h2; replace h3 := Lib.hid h3; replace hO6 := Lib.hid hO6; replace hg6 := Lib.hid hg6
  have KP : Hid (∀ W, Rd E W → Whole W w.heap.size 71 #[ptrV E.q] → Whole W (w.heap.size + 1) 77 #[.pointer (some ⟨pb, po, none⟩)] → Whole W (w.heap.size + 4) 75 #[.func g ff fc] → W.cell? ⟨w.heap.size, 0, none⟩ = some (ptrV E.q) ∧ W.cell? ⟨w.heap.size + 1, 0, none⟩ = some (.pointer (some ⟨pb, po, none⟩)) ∧ W.cell? ⟨w.heap.size + 1 + 1 + 1 + 1, 0, none⟩ = some (.func g ff fc) ∧ W.cell? ⟨pb, po + 9, none⟩ = some (.bool z)) := Lib.hid fun W hR h1 h2 h3 => by
    obtain ⟨kv', sv', ⟨-, -, -, -, -, -, -, -, -, e9⟩, -⟩ := HTP.out.ten hR
    rw [HZ.out] at e9
    exact ⟨h1.cell 0, h2.cell 0, h3.cell 0, e9⟩
  have HD0 := Lib.hid (below_draws w6 1)
  go_upto_region 10 with (fail)
  refine wp_region_held_drew (S := (fun w' => w'.cell? ⟨w.heap.size, 0, none⟩ = some (ptrV E.q) ∧ w'.cell? ⟨w.heap.size + 1, 0, none⟩ = some (.pointer (some ⟨pb, po, none⟩)) ∧ w'.cell? ⟨w.heap.size + 1 + 1 + 1 + 1, 0, none⟩ = some (.func g ff fc) ∧ w'.cell? ⟨pb, po + 9, none⟩ = some (.bool z))) (by kernel_rfl) (KP.out _ (HR6.out.then HD0.out) (D1.out.below HD0.out D1.out.lt) (D2.out.below HD0.out D2.out.lt) (D3.out.below HD0.out D3.out.lt)) (fun hHeld => ?_)
  refine wpAnyH_take (i := 0) (oi := _) (v := ?_) rfl (by kernel_rfl) (by kernel_rfl) (by kernel_rfl) (fun _ _ _ h => h) (Or.inl ⟨by rfl, ?_⟩) (by assumption) ?_
  rotate_left 1
  · (intro w hSw; (try dsimp only at hSw); go_simp; (try with_reducible rfl))
  try simp only [List.getElem_toArray, List.getElem_cons_zero, Act.put, List.setIfInBounds_toArray, List.set_cons_zero, List.set_cons_succ]
  refine wpAnyH_take (i := 1) (oi := _) (v := ?_) rfl (by kernel_rfl) (by kernel_rfl) (by kernel_rfl) (fun _ _ _ h => h) (Or.inl ⟨by rfl, ?_⟩) (by assumption) ?_
  rotate_left 1
  · (intro w hSw; (try dsimp only at hSw); go_simp; (try with_reducible rfl))
  try simp only [List.getElem_toArray, List.getElem_cons_zero, List.getElem_cons_succ, Act.put, List.setIfInBounds_toArray, List.set_cons_zero, List.set_cons_succ]
  refine wpAnyH_take (i := 2) (oi := _) (v := ?_) rfl (by kernel_rfl) (by kernel_rfl) (by kernel_rfl) (fun _ _ _ h => h) (Or.inl ⟨by rfl, ?_⟩) (by assumption) ?_
  rotate_left 1
  · (intro w hSw; (try dsimp only at hSw); go_simp; (try with_reducible rfl))
  try simp only [List.getElem_toArray, List.getElem_cons_zero, List.getElem_cons_succ, Act.put, List.setIfInBounds_toArray, List.set_cons_zero, List.set_cons_succ]
  refine wpAnyH_take (i := 3) (oi := _) (v := ?_) rfl (by kernel_rfl) (by kernel_rfl) (by kernel_rfl) (fun _ _ _ h => h) (Or.inl ⟨by rfl, ?_⟩) (by assumption) ?_
  rotate_left 1
  · (intro w hSw; (try dsimp only at hSw); go_simp; (try with_reducible rfl))
  try simp only [List.getElem_toArray, List.getElem_cons_zero, List.getElem_cons_succ, Act.put, List.setIfInBounds_toArray, List.set_cons_zero, List.set_cons_succ]
  refine wpAnyH_take (i := 4) (oi := _) (v := ?_) rfl (by kernel_rfl) (by kernel_rfl) (by kernel_rfl) (fun _ _ _ h => h) (Or.inl ⟨by rfl, ?_⟩) (by assumption) ?_
  rotate_left 1
  · (intro w hSw; (try dsimp only at hSw); go_simp; (try with_reducible rfl))
  try simp only [List.getElem_toArray, List.getElem_cons_zero, List.getElem_cons_succ, Act.put, List.setIfInBounds_toArray, List.set_cons_zero, List.set_cons_succ]
  refine wpAnyH_take (i := 5) (oi := _) (v := ?_) rfl (by kernel_rfl) (by kernel_rfl) (by kernel_rfl) (fun _ _ _ h => h) (Or.inl ⟨by rfl, ?_⟩) (by assumption) ?_
  rotate_left 1
  · (intro w hSw; (try dsimp only at hSw); go_simp; (try with_reducible rfl))
  try simp only [List.getElem_toArray, List.getElem_cons_zero, List.getElem_cons_succ, Act.put, List.setIfInBounds_toArray, List.set_cons_zero, List.set_cons_succ]
  refine wpAnyH_take (i := 6) (oi := _) (v := ?_) rfl (by kernel_rfl) (by kernel_rfl) (by kernel_rfl) (fun _ _ _ h => h) (Or.inl ⟨by rfl, ?_⟩) (by assumption) ?_
  rotate_left 1
  · (intro w hSw; (try dsimp only at hSw); go_simp; (try with_reducible rfl))
  try simp only [List.getElem_toArray, List.getElem_cons_zero, List.getElem_cons_succ, Act.put, List.setIfInBounds_toArray, List.set_cons_zero, List.set_cons_succ]
  refine wpAnyH_take (i := 7) (oi := _) (v := ?_) rfl (by kernel_rfl) (by kernel_rfl) (by kernel_rfl) (fun _ _ _ h => h) (Or.inl ⟨by rfl, ?_⟩) (by assumption) ?_
  rotate_left 1
  · (intro w hSw; (try dsimp only at hSw); go_simp; (try with_reducible rfl))
  try simp only [List.getElem_toArray, List.getElem_cons_zero, List.getElem_cons_succ, Act.put, List.setIfInBounds_toArray, List.set_cons_zero, List.set_cons_succ]
  refine wpAnyH_take (i := 9) (oi := _) (v := ?_) rfl (by kernel_rfl) (by kernel_rfl) (by kernel_rfl) (fun _ _ _ h => h) (Or.inl ⟨by rfl, ?_⟩) (by assumption) ?_
  rotate_left 1
  · (intro w hSw; (try dsimp only at hSw); go_simp; (try with_reducible rfl))
  try simp only [List.getElem_toArray, List.getElem_cons_zero, List.getElem_cons_succ, Act.put, List.setIfInBounds_toArray, List.set_cons_zero, List.set_cons_succ]
  refine wpAnyH_ready (rs := [8]) (by kernel_rfl) (by simp) ?_
  refine AllReadyH.cons (o := _) rfl (fun K hK => ?_) ?_
  · go_simp
    refine (HLAY.out _ HD0.out).mono ?_
    rintro e w7 ⟨⟨vg2, vf2, vc2⟩, N2, T2, Z2, he, hl6, ho6⟩
    obtain rfl : e = .returned (.func vg2 vf2 vc2) := he
    replace hl6 := Lib.hid hl6; replace ho6 := Lib.hid ho6
    have E1 := Lib.hid (kp_away hl6.out.grown D1.out (by have := HQ.out; omega)); have E2 := Lib.hid (kp_away hl6.out.grown D2.out (by have := HQ.out; omega)); have E3 := Lib.hid (kp_away hl6.out.grown D3.out (by have := HQ.out; omega))
    have HR7 := Lib.hid (HR6.out.grown hl6.out.grown)
    have HQST := Lib.hid (dquest_any E.q z ⟨vg2, vf2, vc2⟩ ⟨g, ff, fc⟩ w7)
    go_wp2_with fail
    refine hK.out _ _ (KP.out _ HR7.out E1.out E2.out E3.out) (fun hHeld => ?_)
    clear hK K
    try simp only [List.getElem_toArray, List.getElem_cons_zero, List.getElem_cons_succ, Act.put, List.setIfInBounds_toArray, List.set_cons_zero, List.set_cons_succ]
    refine wpAnyH_ready (rs := [10]) (by kernel_rfl) (by simp) ?_
    refine AllReadyH.cons (o := _) rfl (fun K hK => ?_) ?_
    · go_simp
      refine HQST.out.mono ?_
      rintro e w8 ⟨b8, he, hq8⟩
      obtain rfl : e = .returned (.func (.func 122) #[] #[ptrV b8, ptrV (b8 + 1), ptrV (b8 + 2), ptrV (b8 + 3)]) := he
      have hb8 := hq8.2.2.2.2.2
      have G1 := Lib.hid (E1.out.below hb8 E1.out.lt); have G2 := Lib.hid (E2.out.below hb8 E2.out.lt); have G3 := Lib.hid (E3.out.below hb8 E3.out.lt); have HR8 := Lib.hid (HR7.out.then hb8)
      replace hq8 := Lib.hid hq8
      clear hb8
      go_wp2_with fail
      refine hK.out _ _ (KP.out _ HR8.out G1.out G2.out G3.out) (fun hHeld => ?_)
      clear hK K
      try simp only [List.getElem_toArray, List.getElem_cons_zero, List.getElem_cons_succ, Act.put, List.setIfInBounds_toArray, List.set_cons_zero, List.set_cons_succ]
      refine wpAnyH_take (i := 11) (oi := _) (v := ?_) rfl (by kernel_rfl) (by kernel_rfl) (by kernel_rfl) (fun _ _ _ h => h) (Or.inl ⟨by rfl, ?_⟩) (by assumption) ?_
      rotate_left 1
      · (intro w hSw; (try dsimp only at hSw); go_simp; (try with_reducible rfl))
      try simp only [List.getElem_toArray, List.getElem_cons_zero, List.getElem_cons_succ, Act.put, List.setIfInBounds_toArray, List.set_cons_zero, List.set_cons_succ]
      refine wpAnyH_done (by kernel_rfl) ?_ _
      go_wp2_with fail
      go_ret
      exact quest_post (show LayPost E ⟨g, ff, fc⟩ KK (.seq x y') inp fv lv mv n0 ev bv w (.returned (.func vg2 vf2 vc2)) w7 from row_post (fx := drepF w.heap.size) HQ.out HBL.out hvT.out hg6.out h2.out HTH.out hst.out hct.out hl6.out ho6.out) ⟨b8, rfl, hq8.out⟩
    exact AllReadyH.nil
  exact AllReadyH.nil
/-- Counted repeats are laid, if their trees are. -/
def DRepOf (E : Env) (y : Q) : Prop := ∀ (pb po : Nat) (t k : Tr) (l h : Int) (f : Fv) (K : Ks) (inp fv lv mv : Value) (n0 : Nat) (ev bv : Value) (w : World) [Nonempty (FitOk E fv)], TP E.w0 pb po t → t.kids = [k] → ShapedP k → RepM (Mat E.R E.G k) (k.kids = []) t.fld.lazy l h y → (0 ≤ l ∧ l ≤ 1000 ∧ -3000 ≤ h - l ∧ h ≤ 1000) → Rd E w → Om w E.q inp fv lv mv n0 ev bv → n0 + (idsQ y).length ≤ 100000000 →
  Calls Try.prog 81 #[ptrV E.q, .pointer (some ⟨pb, po, none⟩), .int .i64 l, .int .i64 h, f.v] w (LayPost E f K y inp fv lv mv n0 ev bv w)
theorem drep_any (E : Env) (y : Q) (hL : ∀ x : Q, SizeOf.sizeOf x < SizeOf.sizeOf y → LayOf E x) : DRepOf E y := by
  intro pb po t k l h f K inp fv lv mv n0 ev bv w _ hT hk hs hM hb hr hO hn
  cases hM with
  | done => exact drep_done E pb po t k l 0 f K inp fv lv mv n0 ev bv w hT hk hr hO rfl
  | star h1 h2 => exact drep_star E _ _ (hL _ (by simp only [Q.star.sizeOf_spec]; omega)) pb po t k 0 h f K inp fv lv mv n0 ev bv w hT hk hr hO rfl h1 hs h2 hn
  | plus h1 h2 => exact drep_plus E _ _ _ (hL _ (by simp only [Q.plus.sizeOf_spec]; omega)) pb po t k 1 h f K inp fv lv mv n0 ev bv w hT hk hr hO rfl h1 hs h2 hn
  | opt h1 h2 h3 h4 => exact drep_opt E _ _ _ _ (hL _ (by simp only [Q.quest.sizeOf_spec, Q.seq.sizeOf_spec]; omega)) pb po t k 0 h f K inp fv lv mv n0 ev bv w hT hk hr hO hs h2 (by rw [show max ((0 : Int) - 1) 0 = 0 by omega]; exact h3) h4 hb rfl rfl h1 (by simpa [idsQ] using hn)
  | more h1 h2 h3 h4 h5 h6 => exact drep_more E _ _ _ (hL _ (by simp only [Q.seq.sizeOf_spec]; omega)) pb po t k l h f K inp fv lv mv n0 ev bv w hT hk hr hO hs h4 (by rw [show max (l - 1) 0 = l - 1 by omega]; exact h5) h6 hb h1 h2 h3 hn
end Go.Proofs.Ytnemacejaiifnaa
/- A group that is asked for is laid. Written by gen11group.py. No condition. -/
namespace Go.Proofs.Ytnemacejaiifnaa
open Go Go.RowKit

theorem TP_lt {w0 : World} {b o : Nat} {t : Tr} (h : TP w0 b o t) : b < w0.heap.size := by
  obtain ⟨kv, sv, hc, -⟩ := h
  exact World.block_lt_of_cell? w0 _ hc.ten.1
abbrev gendF (bw bp bi bt : Nat) : Fv := ⟨.func 117, #[], #[ptrV bw, ptrV bp, ptrV bi, ptrV bt]⟩
/-- Parts of one's own beside those of a stage. -/
theorem Stage.wide {E : Env} {X X1 : Fv → Ks → Prop} {lo hi lo1 hi1 n0 : Nat} {w : World} {N : List Nat} {T0 T1 : List (Fv × Ks)} {Z : List Lzy} (h : Stage E X1 lo1 hi1 n0 w N T1 Z) (h1 : lo ≤ lo1) (h2 : hi1 ≤ hi) (h3 : hi ≤ w.heap.size) (hX : ∀ v K, X1 v K → (v, K) ∈ T0 ∨ X v K)
    (hT : ∀ p ∈ T0, Loc E (ghOf X lo hi n0 w N (T0 ++ T1) Z) p.1 p.2) : Stage E X lo hi n0 w N (T0 ++ T1) Z := by
  have hg : (ghOf X1 lo1 hi1 n0 w N T1 Z).le (ghOf X lo hi n0 w N (T0 ++ T1) Z) := ⟨fun b t cs _ ⟨a1, a2, a3, a4⟩ => ⟨a1, by omega, by omega, a4⟩, fun v K h => by
    rcases h with h | h
    · exact .inl (List.mem_append_right _ h)
    · exact (hX v K h).imp (List.mem_append_left _) id, fun _ _ _ h => h, fun _ _ h => h⟩
  refine ⟨h3, fun p hp => ?_, fun z hz => ?_, h.nodup⟩
  · rcases List.mem_append.1 hp with hp | hp
    · exact hT p hp
    · exact (h.locs p hp).mono hg
  · obtain ⟨a, b, c, d⟩ := h.lazies z hz
    exact ⟨a, by omega, by omega, d.mono hg⟩
/-- A group's closures and its Kid's, put together. -/
theorem group_post {E : Env} {x : Q} {cn : Nat} {f : Fv} {KK : Ks} {inp fv lv mv : Value} {n0 : Nat} {ev bv : Value} {w w2 w5 wF : World} {lp ln p7 p8 p9 p10 q9 q10 p11 : Nat} {vk : Fv} {N1 : List Nat} {T1 : List (Fv × Ks)} {Z1 : List Lzy}
    (hc : cn ≤ E.G) (hc1 : 1 ≤ cn) (hq : E.q < w.heap.size) (hbw : w.grownBy w5 (some E.q)) (hs2 : w2.heap.size = w.heap.size + 2) (hsz : w2.heap.size ≤ w5.heap.size)
    (f1 : Whole w5 w.heap.size 71 #[ptrV E.q]) (f2 : Whole w5 (w.heap.size + 1) 75 #[f.v]) (f7 : Whole w5 p7 3 #[.int .i64 ((2 * cn : Nat) : Int)]) (f8 : Whole w5 p8 3 #[.int .i64 ((2 * cn + 1 : Nat) : Int)])
    (f9 : Whole w5 p9 75 #[.func (.func 143) #[] #[ptrV q9, ptrV (q9 + 1)]]) (f10 : Whole w5 p10 75 #[.func (.func 143) #[] #[ptrV q10, ptrV (q10 + 1)]])
    (q9a : Whole w5 q9 71 #[ptrV E.q]) (q9b : Whole w5 (q9 + 1) 3 #[.int .i64 ((2 * cn : Nat) : Int)]) (q10a : Whole w5 q10 71 #[ptrV E.q]) (q10b : Whole w5 (q10 + 1) 3 #[.int .i64 ((2 * cn + 1 : Nat) : Int)])
    (l7 : w2.heap.size ≤ p7) (l8 : w2.heap.size ≤ p8) (l9 : w2.heap.size ≤ p9) (l10 : w2.heap.size ≤ p10) (m9 : w2.heap.size ≤ q9) (m10 : w2.heap.size ≤ q10)
    (hG : w5.grownBy wF (some E.q)) (h11 : Whole wF p11 75 #[vk.v]) (hst : Stage E (fun v k => v = gendF w.heap.size p10 p8 (w.heap.size + 1) ∧ k = .capEnd cn :: KK) lp ln n0 wF N1 T1 Z1)
    (hrep : Rp (fun v k => (v, k) ∈ T1) vk (.q x :: .capEnd cn :: KK)) (hct : ∀ a, N1.count a + (idsZ Z1).count a = (idsQ x).count a) (hlp : w5.heap.size ≤ lp) (hln : lp ≤ ln) (hom : Om wF E.q inp fv lv mv ((n0 + N1.length : Nat) : Int) ev bv)
    (hnF : ln ≤ wF.heap.size) (h11w : w5.heap.size ≤ p11) (h11n : p11 < lp ∨ ln ≤ p11) :
    LayPost E f KK (.cap cn x) inp fv lv mv n0 ev bv w (.returned (.func (.func 118) #[] #[ptrV w.heap.size, ptrV p9, ptrV p7, ptrV p11])) wF := by
  have l11 := h11.lt
  have hsF := hG.size
  have lt7 := f7.lt
  have lt8 := f8.lt
  have lt9 := f9.lt
  have lt10 := f10.lt
  have ltq9 := q9b.lt
  have ltq10 := q10b.lt
  have hz : ∀ b, b < lp ∨ ln ≤ b → ∀ z ∈ Z1, z.b ≠ b := fun b hb z hz => by have := hst.lazies z hz; omega
  have toF : ∀ {b : Nat} {ty : TypeId} {cs : Array Value}, Whole w5 b ty cs → w.heap.size ≤ b → (ghOf (fun v k => v = f ∧ k = KK) w.heap.size wF.heap.size n0 wF N1 ([(⟨.func 118, #[], #[ptrV w.heap.size, ptrV p9, ptrV p7, ptrV p11]⟩, .q (.cap cn x) :: KK), (gendF w.heap.size p10 p8 (w.heap.size + 1), .capEnd cn :: KK)] ++ T1) Z1).Bx b ty cs := fun h hb => by
    have := h.lt
    exact ⟨kp_away hG h (by omega), hb, by omega, hz _ (by omega)⟩
  have J := hst.wide (X := fun v k => v = f ∧ k = KK) (lo := w.heap.size) (hi := wF.heap.size) (T0 := [(⟨.func 118, #[], #[ptrV w.heap.size, ptrV p9, ptrV p7, ptrV p11]⟩, .q (.cap cn x) :: KK), (gendF w.heap.size p10 p8 (w.heap.size + 1), .capEnd cn :: KK)]) (by omega) hnF (Nat.le_refl _) (fun v K h => .inl (by rw [h.1, h.2]; simp)) fun p hp => by
    rcases List.mem_cons.1 hp with rfl | hp
    · exact .group (toF f1 (Nat.le_refl _)) (toF f9 (by omega)) (toF q9a (by omega)) (toF q9b (by omega)) (toF f7 (by omega)) ⟨h11, by omega, by omega, hz _ h11n⟩ (hrep.mono fun _ _ h => .inl (List.mem_append_right _ h)) hc hc1
    · rw [List.mem_singleton.1 hp]
      exact .gend (toF f1 (Nat.le_refl _)) (toF f10 (by omega)) (toF q10a (by omega)) (toF q10b (by omega)) (toF f8 (by omega)) (toF f2 (by omega)) (.base (.inr ⟨rfl, rfl⟩)) hc hc1
  exact ⟨⟨_, _, _⟩, N1, _, Z1, rfl, ⟨grown_trans hbw hG, J, .base (List.mem_append_left _ (List.mem_cons_self ..)), fun a => by have := hct a; simpa [idsQ] using this, fn_ne (by decide)⟩, hom⟩
/-- A box that was made here is written: of the elder blocks but E.q has turned. -/
theorem grown_box {w u v : World} {q p : Nat} {x : Value} (h : w.grownBy u (some q)) (hp : w.heap.size ≤ p) (hl : p < u.heap.size) (he : u.setCell ⟨p, 0, none⟩ x = v) : w.grownBy v (some q) := by
  subst he
  exact ⟨h.os, h.tape, h.output, by simp [World.setCell]; exact h.size, fun k hk hr => (Below.heap_setCell u _ x k (by show k ≠ p; omega)).trans (h.block k hk hr)⟩
set_option maxHeartbeats 3200000 in
theorem dgroup_cap (E : Env) (x : Q) (hL : LayOf E x) (pb po : Nat) (t k : Tr) (f : Fv) (KK : Ks) (inp fv lv mv : Value) (n0 : Nat) (ev bv : Value) (w : World) [hfit : Nonempty (FitOk E fv)] (hT : TP E.w0 pb po t) (hk : t.kids = [k]) (hs : ShapedP k) (hM : Mat E.R E.G k x) (cn : Nat) (hcn : t.fld.cap = cn) (hc : cn ≤ E.G) (hc1 : 1 ≤ cn) (hr : Rd E w)
    (hO : Om w E.q inp fv lv mv n0 ev bv) (hn : n0 + (idsQ x).length ≤ 100000000) :
    Calls Try.prog 77 #[ptrV E.q, .pointer (some ⟨pb, po, none⟩), f.v] w (LayPost E f KK (.cap cn x) inp fv lv mv n0 ev bv w) := by
  obtain ⟨hfv⟩ := hfit
  have hF : Nonempty (FitOk E fv) := ⟨hfv⟩
  have hle := hfv.le
  obtain ⟨w2, hw2, b1, b2, hb2, hs2⟩ := dtwo_new w 71 75 (ptrV E.q) f.v
  have hr2 := hr.then hb2
  have hO2 := hO.below hb2 hO.lt
  obtain ⟨kv, sv, ⟨-, d1, -, -, -, d5, -⟩, hkp, -, -⟩ := hT.ten hr2
  rw [hk] at hkp
  obtain ⟨kb, ko, kc, rfl, hkt⟩ := hkp.one
  obtain ⟨g, ff, fc⟩ := f
  have c1 := (b1.cell 0).trans (rfl : _ = some (ptrV E.q))
  have c2 : w2.cell? ⟨w.heap.size + 1, 0, none⟩ = some (.func g ff fc) := (b2.cell 0).trans rfl
  obtain ⟨-, f1, -⟩ := om_ten hO2
  rw [hfv.eq] at f1
  obtain ⟨G2, hG2⟩ : ∃ G2, 2 * (E.G + 1) = G2 := ⟨_, rfl⟩
  unfold Env.fv at f1
  rw [hG2] at f1
  rw [hcn] at d5
  have HW := Lib.hid hw2; have HB := Lib.hid hb2; have HQ0 := Lib.hid hO.lt; have HO2 := Lib.hid hO2; have HR2 := Lib.hid hr2; have HT := Lib.hid hT; have HKT := Lib.hid hkt; have HK := Lib.hid hk; have HSH := Lib.hid hs; have HM := Lib.hid hM; have HL := Lib.hid hL; have HN := Lib.hid hn; have HB1 := Lib.hid b1; have HB2 := Lib.hid b2; have HSW2 := Lib.hid hs2; have HFV := Lib.hid hF; have HC := Lib.hid hc; have HC1 := Lib.hid hc1
  clear hw2 hb2 hs2 b1 b2 hO hO2 hr hr2 hT hk hs hM hkp hkt hL hn hF hfv
  go_enter Try.func77, Try.ntmps77
  go_upto_region 1 with (fail)
  rw [HW.out]
  go_big_quiet (fail)
  have hz : decide ((G2 : Int) / 2 ≤ (cn : Int)) = false := decide_eq_false (by omega)
  go_wp2_with fail
  generalize hw3 : w2.drewN nq = w3
  have hB3 : Below w2.heap.size w2 w3 := by rw [← hw3]; exact below_draws w2 nq
  have d5' : w3.cell? ⟨pb, po + 5, none⟩ = some (.int .i64 (cn : Int)) := by rw [← hw3]; exact d5
  clear hw3 c1 c2 d1 d5 f1 hz
  have hx1 : IntKind.i64.wrap (2 * (cn : Int)) = ((2 * cn : Nat) : Int) := by simp [IntKind.wrap, IntKind.signed, IntKind.bits]; omega
  have hx2 : IntKind.i64.wrap (((2 * cn : Nat) : Int) + 1) = ((2 * cn + 1 : Nat) : Int) := by simp [IntKind.wrap, IntKind.signed, IntKind.bits]; omega
  obtain ⟨m1, hm1⟩ : ∃ m1 : Int, ((2 * cn : Nat) : Int) = m1 := ⟨_, rfl⟩
  obtain ⟨m2, hm2⟩ : ∃ m2 : Int, ((2 * cn + 1 : Nat) : Int) = m2 := ⟨_, rfl⟩
  rw [hm1] at hx1 hx2; rw [hm2] at hx2
  have HM1 := Lib.hid hm1; have HM2 := Lib.hid hm2; have HB3 := Lib.hid hB3
  clear hB3 hm1 hm2 hc hc1 hcn
  go_upto_region 3 with (fail)
  go_cut [7, 8] (fun s7 s8 wx => ∃ W, W = wx ∧ ∃ p7 p8, s7 = ptrV p7 ∧ s8 = ptrV p8 ∧ Whole wx p7 3 #[.int .i64 ((2 * cn : Nat) : Int)] ∧ Whole wx p8 3 #[.int .i64 ((2 * cn + 1 : Nat) : Int)] ∧ w3.heap.size ≤ p7 ∧ w3.heap.size ≤ p8 ∧ Below w3.heap.size w3 wx)
  case first =>
    go_region_held3 (fun w' => w'.cell? ⟨pb, po + 5, none⟩ = some (.int .i64 (cn : Int))) (first | go_keep | exact d5') (fail)
    all_goals
      go_wp2
      go_meet
      rw [HM1.out, HM2.out]
      first
      | (obtain ⟨wx, hwx, k1, k2, k3, k4⟩ := dtwo_new w3 3 3 (.int .i64 m1) (.int .i64 m2)
         rw [hwx]
         exact ⟨_, rfl, w3.heap.size, w3.heap.size + 1, rfl, rfl, k1, k2, Nat.le_refl _, Nat.le_succ _, k3.drew⟩)
      | (obtain ⟨wx, hwx, k1, k2, k3, k4⟩ := dtwo_new w3 3 3 (.int .i64 m2) (.int .i64 m1)
         rw [hwx]
         exact ⟨_, rfl, w3.heap.size + 1, w3.heap.size, rfl, rfl, k2, k1, Nat.le_succ _, Nat.le_refl _, k3.drew⟩)
  case rest =>
    obtain ⟨w4, rfl, p7, p8, rfl, rfl, hp7, hp8, hl7, hl8, hb4⟩ := hcut
    clear d5' hx1 hx2
    have hb24 := HB3.out.trans (hb4.mono HB3.out.size)
    have HB24 := Lib.hid hb24
    have C1 := Lib.hid (HB1.out.below hb24 HB1.out.lt); have C2 := Lib.hid (HB2.out.below hb24 HB2.out.lt)
    have c1 := (C1.out.cell 0).trans (rfl : _ = some (ptrV E.q))
    have c7 := (hp7.cell 0).trans (rfl : _ = some (Value.int .i64 ((2 * cn : Nat) : Int)))
    have c8 := (hp8.cell 0).trans (rfl : _ = some (Value.int .i64 ((2 * cn + 1 : Nat) : Int)))
    rw [HM1.out] at c7; rw [HM2.out] at c8
    have HP7 := Lib.hid hp7; have HP8 := Lib.hid hp8; have HL7 := Lib.hid hl7; have HL8 := Lib.hid hl8
    have HO4 := Lib.hid (HO2.out.below hb24 HO2.out.lt)
    have HQ := Lib.hid (show E.q < w4.heap.size from Nat.lt_of_lt_of_le HO2.out.lt hb24.size)
    have n1 : some w.heap.size ≠ some E.q := fun e => by have := Option.some.inj e; have := HQ0.out; omega
    have n7 : some p7 ≠ some E.q := fun e => by have := Option.some.inj e; have := HQ0.out; have := HB.out.size; have := HB3.out.size; omega
    have n8 : some p8 ≠ some E.q := fun e => by have := Option.some.inj e; have := HQ0.out; have := HB.out.size; have := HB3.out.size; omega
    have hmf := mkf
    have HPUT := Lib.hid (dput_any E.q)
    clear hp7 hp8 hl7 hl8 hb4 hb24
    go_upto_region 4 with (fail)
    go_cut [9, 10] (fun s9 s10 wx => ∃ W, W = wx ∧ ∃ p9 p10 q9 q10, s9 = ptrV p9 ∧ s10 = ptrV p10 ∧ Whole wx p9 75 #[.func (.func 143) #[] #[ptrV q9, ptrV (q9 + 1)]] ∧ Whole wx p10 75 #[.func (.func 143) #[] #[ptrV q10, ptrV (q10 + 1)]] ∧ Whole wx q9 71 #[ptrV E.q] ∧ Whole wx (q9 + 1) 3 #[.int .i64 ((2 * cn : Nat) : Int)] ∧ Whole wx q10 71 #[ptrV E.q] ∧ Whole wx (q10 + 1) 3 #[.int .i64 ((2 * cn + 1 : Nat) : Int)] ∧ w4.heap.size ≤ p9 ∧ w4.heap.size ≤ p10 ∧ w4.heap.size ≤ q9 ∧ w4.heap.size ≤ q10 ∧ w4.grownBy wx (some E.q) ∧ Om wx E.q inp fv lv mv n0 ev bv)
    case first =>
      refine wp_region_held_drew (S := fun w' => w4.grownBy w' (some E.q)) (by kernel_rfl) (below_grown ((Below.refl _ _).drew)) (fun hHeld => ?_)
      obtain ⟨u0, hu0⟩ : ∃ x, w4.drew = x := ⟨_, rfl⟩
      rw [hu0] at hHeld ⊢
      have HG0 := Lib.hid hHeld; have HS0 := Lib.hid (show u0.heap.size = w4.heap.size by rw [← hu0]; rfl)
      have HOM0 := Lib.hid (show Whole u0 E.q _ _ by rw [← hu0]; exact HO4.out)
      clear hu0
      refine wpAnyH_take (i := 0) (oi := _) (v := ?_) rfl (by kernel_rfl) (by kernel_rfl) (by kernel_rfl) (fun _ _ _ h => h) (Or.inl ⟨by rfl, ?_⟩) hHeld ?_
      rotate_left 1
      · (intro w hSw; (try dsimp only at hSw); have e0 := hSw.cell c1 n1; have e1 := hSw.cell c7 n7; have e2 := hSw.cell c8 n8; go_simp; (try with_reducible rfl))
      try simp only [List.getElem_toArray, List.getElem_cons_zero, Act.put, List.setIfInBounds_toArray, List.set_cons_zero, List.set_cons_succ]
      refine wpAnyH_take (i := 1) (oi := _) (v := ?_) rfl (by kernel_rfl) (by kernel_rfl) (by kernel_rfl) (fun _ _ _ h => h) (Or.inl ⟨by rfl, ?_⟩) hHeld ?_
      rotate_left 1
      · (intro w hSw; (try dsimp only at hSw); have e0 := hSw.cell c1 n1; have e1 := hSw.cell c7 n7; have e2 := hSw.cell c8 n8; go_simp; (try with_reducible rfl))
      try simp only [List.getElem_toArray, List.getElem_cons_zero, List.getElem_cons_succ, Act.put, List.setIfInBounds_toArray, List.set_cons_zero, List.set_cons_succ]
      refine wpAnyH_take (i := 3) (oi := _) (v := ?_) rfl (by kernel_rfl) (by kernel_rfl) (by kernel_rfl) (fun _ _ _ h => h) (Or.inl ⟨by rfl, ?_⟩) hHeld ?_
      rotate_left 1
      · (intro w hSw; (try dsimp only at hSw); have e0 := hSw.cell c1 n1; have e1 := hSw.cell c7 n7; have e2 := hSw.cell c8 n8; go_simp; (try with_reducible rfl))
      try simp only [List.getElem_toArray, List.getElem_cons_zero, List.getElem_cons_succ, Act.put, List.setIfInBounds_toArray, List.set_cons_zero, List.set_cons_succ]
      refine wpAnyH_take (i := 4) (oi := _) (v := ?_) rfl (by kernel_rfl) (by kernel_rfl) (by kernel_rfl) (fun _ _ _ h => h) (Or.inl ⟨by rfl, ?_⟩) hHeld ?_
      rotate_left 1
      · (intro w hSw; (try dsimp only at hSw); have e0 := hSw.cell c1 n1; have e1 := hSw.cell c7 n7; have e2 := hSw.cell c8 n8; go_simp; (try with_reducible rfl))
      try simp only [List.getElem_toArray, List.getElem_cons_zero, List.getElem_cons_succ, Act.put, List.setIfInBounds_toArray, List.set_cons_zero, List.set_cons_succ]
      refine wpAnyH_ready (rs := [2, 6, 7]) (by kernel_rfl) (by simp) ?_
      refine AllReadyH.cons (o := _) rfl (fun K hK => ?_) ?_
      · go_simp
        refine (HPUT.out m1 u0).mono ?_
        rintro e u1 ⟨z1, he, hz1, hz2, hz3, hz4⟩
        obtain rfl : e = .returned (.func (.func 143) #[] #[ptrV z1, ptrV (z1 + 1)]) := he
        have hb : u0.grownBy u1 (some E.q) := below_grown hz4
        have hz2' := hz2.lt
        have hom := HOM0.out.below hz4 HOM0.out.lt
        have HZ1a := Lib.hid hz1; have HZ1b := Lib.hid hz2; have HZ1c := Lib.hid (show u0.heap.size ≤ z1 ∧ z1 + 1 < u1.heap.size from ⟨hz3, hz2'⟩)
        clear hz1 hz2 hz3 hz4 hz2'
        have HG1 := Lib.hid (grown_trans HG0.out hb); have HS1 := Lib.hid hb.size
        have HOM1 := Lib.hid hom
        clear hom
        clear hb
        go_wp2_with fail
        refine hK.out _ _ HG1.out (fun hHeld => ?_)
        clear hK K
        try simp only [List.getElem_toArray, List.getElem_cons_zero, List.getElem_cons_succ, Act.put, List.setIfInBounds_toArray, List.set_cons_zero, List.set_cons_succ]
        refine wpAnyH_ready (rs := [5, 6, 7]) (by kernel_rfl) (by simp) ?_
        refine AllReadyH.cons (o := _) rfl (fun K hK => ?_) ?_
        · go_simp
          refine (HPUT.out m2 u1).mono ?_
          rintro e u2 ⟨z2, he, hz1, hz2, hz3, hz4⟩
          obtain rfl : e = .returned (.func (.func 143) #[] #[ptrV z2, ptrV (z2 + 1)]) := he
          have hb : u1.grownBy u2 (some E.q) := below_grown hz4
          have hz2' := hz2.lt
          have hom := HOM1.out.below hz4 HOM1.out.lt
          have HZ2a := Lib.hid hz1; have HZ2b := Lib.hid hz2; have HZ2c := Lib.hid (show u1.heap.size ≤ z2 ∧ z2 + 1 < u2.heap.size from ⟨hz3, hz2'⟩)
          clear hz1 hz2 hz3 hz4 hz2'
          have HG2 := Lib.hid (grown_trans HG1.out hb); have HS2 := Lib.hid hb.size
          have HX2q9a := Lib.hid (kp_away hb HZ1a.out (by have := HQ.out; have := HS0.out; have := HS1.out; have := HZ1c.out; have := HZ1c.out; omega))
          have HX2q9b := Lib.hid (kp_away hb HZ1b.out (by have := HQ.out; have := HS0.out; have := HS1.out; have := HZ1c.out; have := HZ1c.out; omega))
          have HOM2 := Lib.hid hom
          clear hom
          clear hb
          go_wp2_with fail
          refine hK.out _ _ HG2.out (fun hHeld => ?_)
          clear hK K
          try simp only [List.getElem_toArray, List.getElem_cons_zero, List.getElem_cons_succ, Act.put, List.setIfInBounds_toArray, List.set_cons_zero, List.set_cons_succ]
          refine wpAnyH_ready (rs := [6, 7]) (by kernel_rfl) (by simp) ?_
          refine AllReadyH.cons (o := _) rfl (fun K hK => ?_) ?_
          · go_simp
            refine hK.out _ _ (grown_then HG2.out ((Below.refl _ _).alloc (Nat.le_refl _) _)) (fun hHeld => ?_)
            clear hK K
            try simp only [List.getElem_toArray, List.getElem_cons_zero, List.getElem_cons_succ, Act.put, List.setIfInBounds_toArray, List.set_cons_zero, List.set_cons_succ]
            obtain ⟨u3, hu3⟩ : ∃ x, u2.alloc (.cells #[.nilFunc] 75) = x := ⟨_, rfl⟩
            rw [hu3] at hHeld ⊢
            have HG3 := Lib.hid hHeld; have HS3 := Lib.hid (show u3.heap.size = u2.heap.size + 1 by rw [← hu3]; simp)
            have HX3b9 := Lib.hid (show Whole u3 u2.heap.size 75 #[.nilFunc] by rw [← hu3]; exact heap_alloc_new u2 _)
            have HX3q9a := Lib.hid (show Whole u3 (z1) _ _ by rw [← hu3]; exact Whole.alloc HX2q9a.out _)
            have HX3q9b := Lib.hid (show Whole u3 (z1 + 1) _ _ by rw [← hu3]; exact Whole.alloc HX2q9b.out _)
            have HX3q10a := Lib.hid (show Whole u3 (z2) _ _ by rw [← hu3]; exact Whole.alloc HZ2a.out _)
            have HX3q10b := Lib.hid (show Whole u3 (z2 + 1) _ _ by rw [← hu3]; exact Whole.alloc HZ2b.out _)
            have HOM3 := Lib.hid (show Whole u3 E.q _ _ by rw [← hu3]; exact Whole.alloc HOM2.out _)
            clear hu3
            refine wpAnyH_ready (rs := [7]) (by kernel_rfl) (by simp) ?_
            refine AllReadyH.cons (o := _) rfl (fun K hK => ?_) ?_
            · go_simp
              refine hK.out _ _ (grown_then HG3.out ((Below.refl _ _).alloc (Nat.le_refl _) _)) (fun hHeld => ?_)
              clear hK K
              try simp only [List.getElem_toArray, List.getElem_cons_zero, List.getElem_cons_succ, Act.put, List.setIfInBounds_toArray, List.set_cons_zero, List.set_cons_succ]
              obtain ⟨u4, hu4⟩ : ∃ x, u3.alloc (.cells #[.nilFunc] 75) = x := ⟨_, rfl⟩
              rw [hu4] at hHeld ⊢
              have HG4 := Lib.hid hHeld; have HS4 := Lib.hid (show u4.heap.size = u3.heap.size + 1 by rw [← hu4]; simp)
              have HX4b10 := Lib.hid (show Whole u4 u3.heap.size 75 #[.nilFunc] by rw [← hu4]; exact heap_alloc_new u3 _)
              have HX4q9a := Lib.hid (show Whole u4 (z1) _ _ by rw [← hu4]; exact Whole.alloc HX3q9a.out _)
              have HX4q9b := Lib.hid (show Whole u4 (z1 + 1) _ _ by rw [← hu4]; exact Whole.alloc HX3q9b.out _)
              have HX4q10a := Lib.hid (show Whole u4 (z2) _ _ by rw [← hu4]; exact Whole.alloc HX3q10a.out _)
              have HX4q10b := Lib.hid (show Whole u4 (z2 + 1) _ _ by rw [← hu4]; exact Whole.alloc HX3q10b.out _)
              have HX4b9 := Lib.hid (show Whole u4 (u2.heap.size) _ _ by rw [← hu4]; exact Whole.alloc HX3b9.out _)
              have HOM4 := Lib.hid (show Whole u4 E.q _ _ by rw [← hu4]; exact Whole.alloc HOM3.out _)
              clear hu4
              refine wpAnyH_ready (rs := [8]) (by kernel_rfl) (by simp) ?_
              refine AllReadyH.cons (o := _) rfl (fun K hK => ?_) ?_
              · have l0 := (HX4b9.out.cell 0).trans (rfl : _ = some ((.nilFunc : Value))); have n0' := HX4b9.out.free 0
                go_simp
                clear l0 n0'
                obtain ⟨u5, hu5⟩ : ∃ x, u4.setCell ⟨u2.heap.size, 0, none⟩ (.func (.func 143) #[] #[ptrV z1, ptrV (z1 + 1)]) = x := ⟨_, rfl⟩
                have hset := grown_box HG4.out (by have := HG0.out.size; have := HS0.out; have := HS1.out; have := HZ1c.out; have := HZ1c.out; have := HS2.out; have := HZ2c.out; have := HZ2c.out; have := HS3.out; have := HS4.out; omega : w4.heap.size ≤ u2.heap.size) HX4b9.out.lt hu5
                have HS5 := Lib.hid (show u5.heap.size = u4.heap.size by rw [← hu5]; simp [World.setCell])
                have HX5q9a := Lib.hid (show Whole u5 (z1) _ _ by rw [← hu5]; exact HX4q9a.out.far (by have := HS0.out; have := HS1.out; have := HZ1c.out; have := HZ1c.out; have := HS2.out; have := HZ2c.out; have := HZ2c.out; have := HS3.out; have := HS4.out; omega) _ _)
                have HX5q9b := Lib.hid (show Whole u5 (z1 + 1) _ _ by rw [← hu5]; exact HX4q9b.out.far (by have := HS0.out; have := HS1.out; have := HZ1c.out; have := HZ1c.out; have := HS2.out; have := HZ2c.out; have := HZ2c.out; have := HS3.out; have := HS4.out; omega) _ _)
                have HX5q10a := Lib.hid (show Whole u5 (z2) _ _ by rw [← hu5]; exact HX4q10a.out.far (by have := HS0.out; have := HS1.out; have := HZ1c.out; have := HZ1c.out; have := HS2.out; have := HZ2c.out; have := HZ2c.out; have := HS3.out; have := HS4.out; omega) _ _)
                have HX5q10b := Lib.hid (show Whole u5 (z2 + 1) _ _ by rw [← hu5]; exact HX4q10b.out.far (by have := HS0.out; have := HS1.out; have := HZ1c.out; have := HZ1c.out; have := HS2.out; have := HZ2c.out; have := HZ2c.out; have := HS3.out; have := HS4.out; omega) _ _)
                have HX5b9 := Lib.hid (show Whole u5 (u2.heap.size) _ #[.func (.func 143) #[] #[ptrV z1, ptrV (z1 + 1)]] by rw [← hu5]; exact HX4b9.out.store 0 _)
                have HX5b10 := Lib.hid (show Whole u5 (u3.heap.size) _ _ by rw [← hu5]; exact HX4b10.out.far (by have := HS0.out; have := HS1.out; have := HZ1c.out; have := HZ1c.out; have := HS2.out; have := HZ2c.out; have := HZ2c.out; have := HS3.out; have := HS4.out; omega) _ _)
                have HOM5 := Lib.hid (show Whole u5 E.q _ _ by rw [← hu5]; exact HOM4.out.far (by have := HQ.out; have := HS0.out; have := HS1.out; have := HZ1c.out; have := HZ1c.out; have := HS2.out; have := HZ2c.out; have := HZ2c.out; have := HS3.out; have := HS4.out; omega) _ _)
                rw [hu5]
                refine hK.out _ _ hset (fun hHeld => ?_)
                clear hK K
                try simp only [List.getElem_toArray, List.getElem_cons_zero, List.getElem_cons_succ, Act.put, List.setIfInBounds_toArray, List.set_cons_zero, List.set_cons_succ]
                have HG5 := Lib.hid hset
                clear hset hu5
                refine wpAnyH_ready (rs := [9]) (by kernel_rfl) (by simp) ?_
                refine AllReadyH.cons (o := _) rfl (fun K hK => ?_) ?_
                · have l0 := (HX5b10.out.cell 0).trans (rfl : _ = some ((.nilFunc : Value))); have n0' := HX5b10.out.free 0
                  go_simp
                  clear l0 n0'
                  obtain ⟨u6, hu6⟩ : ∃ x, u5.setCell ⟨u3.heap.size, 0, none⟩ (.func (.func 143) #[] #[ptrV z2, ptrV (z2 + 1)]) = x := ⟨_, rfl⟩
                  have hset := grown_box HG5.out (by have := HG0.out.size; have := HS0.out; have := HS1.out; have := HZ1c.out; have := HZ1c.out; have := HS2.out; have := HZ2c.out; have := HZ2c.out; have := HS3.out; have := HS4.out; have := HS5.out; omega : w4.heap.size ≤ u3.heap.size) HX5b10.out.lt hu6
                  have HS6 := Lib.hid (show u6.heap.size = u5.heap.size by rw [← hu6]; simp [World.setCell])
                  have HX6q9a := Lib.hid (show Whole u6 (z1) _ _ by rw [← hu6]; exact HX5q9a.out.far (by have := HS0.out; have := HS1.out; have := HZ1c.out; have := HZ1c.out; have := HS2.out; have := HZ2c.out; have := HZ2c.out; have := HS3.out; have := HS4.out; have := HS5.out; omega) _ _)
                  have HX6q9b := Lib.hid (show Whole u6 (z1 + 1) _ _ by rw [← hu6]; exact HX5q9b.out.far (by have := HS0.out; have := HS1.out; have := HZ1c.out; have := HZ1c.out; have := HS2.out; have := HZ2c.out; have := HZ2c.out; have := HS3.out; have := HS4.out; have := HS5.out; omega) _ _)
                  have HX6q10a := Lib.hid (show Whole u6 (z2) _ _ by rw [← hu6]; exact HX5q10a.out.far (by have := HS0.out; have := HS1.out; have := HZ1c.out; have := HZ1c.out; have := HS2.out; have := HZ2c.out; have := HZ2c.out; have := HS3.out; have := HS4.out; have := HS5.out; omega) _ _)
                  have HX6q10b := Lib.hid (show Whole u6 (z2 + 1) _ _ by rw [← hu6]; exact HX5q10b.out.far (by have := HS0.out; have := HS1.out; have := HZ1c.out; have := HZ1c.out; have := HS2.out; have := HZ2c.out; have := HZ2c.out; have := HS3.out; have := HS4.out; have := HS5.out; omega) _ _)
                  have HX6b9 := Lib.hid (show Whole u6 (u2.heap.size) _ _ by rw [← hu6]; exact HX5b9.out.far (by have := HS0.out; have := HS1.out; have := HZ1c.out; have := HZ1c.out; have := HS2.out; have := HZ2c.out; have := HZ2c.out; have := HS3.out; have := HS4.out; have := HS5.out; omega) _ _)
                  have HX6b10 := Lib.hid (show Whole u6 (u3.heap.size) _ #[.func (.func 143) #[] #[ptrV z2, ptrV (z2 + 1)]] by rw [← hu6]; exact HX5b10.out.store 0 _)
                  have HOM6 := Lib.hid (show Whole u6 E.q _ _ by rw [← hu6]; exact HOM5.out.far (by have := HQ.out; have := HS0.out; have := HS1.out; have := HZ1c.out; have := HZ1c.out; have := HS2.out; have := HZ2c.out; have := HZ2c.out; have := HS3.out; have := HS4.out; have := HS5.out; omega) _ _)
                  rw [hu6]
                  refine hK.out _ _ hset (fun hHeld => ?_)
                  clear hK K
                  try simp only [List.getElem_toArray, List.getElem_cons_zero, List.getElem_cons_succ, Act.put, List.setIfInBounds_toArray, List.set_cons_zero, List.set_cons_succ]
                  have HG6 := Lib.hid hset
                  clear hset hu6
                  refine wpAnyH_done (by kernel_rfl) ?_ _
                  go_wp2
                  go_meet
                  rw [HM1.out, HM2.out]
                  exact ⟨_, rfl, _, _, _, _, rfl, rfl, HX6b9.out, HX6b10.out, HX6q9a.out, HX6q9b.out, HX6q10a.out, HX6q10b.out, by have := HS0.out; have := HS1.out; have := HZ1c.out; have := HZ1c.out; have := HS2.out; have := HZ2c.out; have := HZ2c.out; have := HS3.out; have := HS4.out; have := HS5.out; have := HS6.out; omega, by have := HS0.out; have := HS1.out; have := HZ1c.out; have := HZ1c.out; have := HS2.out; have := HZ2c.out; have := HZ2c.out; have := HS3.out; have := HS4.out; have := HS5.out; have := HS6.out; omega, by have := HS0.out; have := HS1.out; have := HZ1c.out; have := HZ1c.out; have := HS2.out; have := HZ2c.out; have := HZ2c.out; have := HS3.out; have := HS4.out; have := HS5.out; have := HS6.out; omega, by have := HS0.out; have := HS1.out; have := HZ1c.out; have := HZ1c.out; have := HS2.out; have := HZ2c.out; have := HZ2c.out; have := HS3.out; have := HS4.out; have := HS5.out; have := HS6.out; omega, HG6.out, HOM6.out⟩
                exact AllReadyH.nil
              exact AllReadyH.nil
            exact AllReadyH.nil
          refine AllReadyH.cons (o := _) rfl (fun K hK => ?_) ?_
          · go_simp
            refine hK.out _ _ (grown_then HG2.out ((Below.refl _ _).alloc (Nat.le_refl _) _)) (fun hHeld => ?_)
            clear hK K
            try simp only [List.getElem_toArray, List.getElem_cons_zero, List.getElem_cons_succ, Act.put, List.setIfInBounds_toArray, List.set_cons_zero, List.set_cons_succ]
            obtain ⟨u7, hu7⟩ : ∃ x, u2.alloc (.cells #[.nilFunc] 75) = x := ⟨_, rfl⟩
            rw [hu7] at hHeld ⊢
            have HG7 := Lib.hid hHeld; have HS7 := Lib.hid (show u7.heap.size = u2.heap.size + 1 by rw [← hu7]; simp)
            have HX7b10 := Lib.hid (show Whole u7 u2.heap.size 75 #[.nilFunc] by rw [← hu7]; exact heap_alloc_new u2 _)
            have HX7q9a := Lib.hid (show Whole u7 (z1) _ _ by rw [← hu7]; exact Whole.alloc HX2q9a.out _)
            have HX7q9b := Lib.hid (show Whole u7 (z1 + 1) _ _ by rw [← hu7]; exact Whole.alloc HX2q9b.out _)
            have HX7q10a := Lib.hid (show Whole u7 (z2) _ _ by rw [← hu7]; exact Whole.alloc HZ2a.out _)
            have HX7q10b := Lib.hid (show Whole u7 (z2 + 1) _ _ by rw [← hu7]; exact Whole.alloc HZ2b.out _)
            have HOM7 := Lib.hid (show Whole u7 E.q _ _ by rw [← hu7]; exact Whole.alloc HOM2.out _)
            clear hu7
            refine wpAnyH_ready (rs := [6]) (by kernel_rfl) (by simp) ?_
            refine AllReadyH.cons (o := _) rfl (fun K hK => ?_) ?_
            · go_simp
              refine hK.out _ _ (grown_then HG7.out ((Below.refl _ _).alloc (Nat.le_refl _) _)) (fun hHeld => ?_)
              clear hK K
              try simp only [List.getElem_toArray, List.getElem_cons_zero, List.getElem_cons_succ, Act.put, List.setIfInBounds_toArray, List.set_cons_zero, List.set_cons_succ]
              obtain ⟨u8, hu8⟩ : ∃ x, u7.alloc (.cells #[.nilFunc] 75) = x := ⟨_, rfl⟩
              rw [hu8] at hHeld ⊢
              have HG8 := Lib.hid hHeld; have HS8 := Lib.hid (show u8.heap.size = u7.heap.size + 1 by rw [← hu8]; simp)
              have HX8b9 := Lib.hid (show Whole u8 u7.heap.size 75 #[.nilFunc] by rw [← hu8]; exact heap_alloc_new u7 _)
              have HX8q9a := Lib.hid (show Whole u8 (z1) _ _ by rw [← hu8]; exact Whole.alloc HX7q9a.out _)
              have HX8q9b := Lib.hid (show Whole u8 (z1 + 1) _ _ by rw [← hu8]; exact Whole.alloc HX7q9b.out _)
              have HX8q10a := Lib.hid (show Whole u8 (z2) _ _ by rw [← hu8]; exact Whole.alloc HX7q10a.out _)
              have HX8q10b := Lib.hid (show Whole u8 (z2 + 1) _ _ by rw [← hu8]; exact Whole.alloc HX7q10b.out _)
              have HX8b10 := Lib.hid (show Whole u8 (u2.heap.size) _ _ by rw [← hu8]; exact Whole.alloc HX7b10.out _)
              have HOM8 := Lib.hid (show Whole u8 E.q _ _ by rw [← hu8]; exact Whole.alloc HOM7.out _)
              clear hu8
              refine wpAnyH_ready (rs := [8]) (by kernel_rfl) (by simp) ?_
              refine AllReadyH.cons (o := _) rfl (fun K hK => ?_) ?_
              · have l0 := (HX8b9.out.cell 0).trans (rfl : _ = some ((.nilFunc : Value))); have n0' := HX8b9.out.free 0
                go_simp
                clear l0 n0'
                obtain ⟨u9, hu9⟩ : ∃ x, u8.setCell ⟨u7.heap.size, 0, none⟩ (.func (.func 143) #[] #[ptrV z1, ptrV (z1 + 1)]) = x := ⟨_, rfl⟩
                have hset := grown_box HG8.out (by have := HG0.out.size; have := HS0.out; have := HS1.out; have := HZ1c.out; have := HZ1c.out; have := HS2.out; have := HZ2c.out; have := HZ2c.out; have := HS7.out; have := HS8.out; omega : w4.heap.size ≤ u7.heap.size) HX8b9.out.lt hu9
                have HS9 := Lib.hid (show u9.heap.size = u8.heap.size by rw [← hu9]; simp [World.setCell])
                have HX9q9a := Lib.hid (show Whole u9 (z1) _ _ by rw [← hu9]; exact HX8q9a.out.far (by have := HS0.out; have := HS1.out; have := HZ1c.out; have := HZ1c.out; have := HS2.out; have := HZ2c.out; have := HZ2c.out; have := HS7.out; have := HS8.out; omega) _ _)
                have HX9q9b := Lib.hid (show Whole u9 (z1 + 1) _ _ by rw [← hu9]; exact HX8q9b.out.far (by have := HS0.out; have := HS1.out; have := HZ1c.out; have := HZ1c.out; have := HS2.out; have := HZ2c.out; have := HZ2c.out; have := HS7.out; have := HS8.out; omega) _ _)
                have HX9q10a := Lib.hid (show Whole u9 (z2) _ _ by rw [← hu9]; exact HX8q10a.out.far (by have := HS0.out; have := HS1.out; have := HZ1c.out; have := HZ1c.out; have := HS2.out; have := HZ2c.out; have := HZ2c.out; have := HS7.out; have := HS8.out; omega) _ _)
                have HX9q10b := Lib.hid (show Whole u9 (z2 + 1) _ _ by rw [← hu9]; exact HX8q10b.out.far (by have := HS0.out; have := HS1.out; have := HZ1c.out; have := HZ1c.out; have := HS2.out; have := HZ2c.out; have := HZ2c.out; have := HS7.out; have := HS8.out; omega) _ _)
                have HX9b10 := Lib.hid (show Whole u9 (u2.heap.size) _ _ by rw [← hu9]; exact HX8b10.out.far (by have := HS0.out; have := HS1.out; have := HZ1c.out; have := HZ1c.out; have := HS2.out; have := HZ2c.out; have := HZ2c.out; have := HS7.out; have := HS8.out; omega) _ _)
                have HX9b9 := Lib.hid (show Whole u9 (u7.heap.size) _ #[.func (.func 143) #[] #[ptrV z1, ptrV (z1 + 1)]] by rw [← hu9]; exact HX8b9.out.store 0 _)
                have HOM9 := Lib.hid (show Whole u9 E.q _ _ by rw [← hu9]; exact HOM8.out.far (by have := HQ.out; have := HS0.out; have := HS1.out; have := HZ1c.out; have := HZ1c.out; have := HS2.out; have := HZ2c.out; have := HZ2c.out; have := HS7.out; have := HS8.out; omega) _ _)
                rw [hu9]
                refine hK.out _ _ hset (fun hHeld => ?_)
                clear hK K
                try simp only [List.getElem_toArray, List.getElem_cons_zero, List.getElem_cons_succ, Act.put, List.setIfInBounds_toArray, List.set_cons_zero, List.set_cons_succ]
                have HG9 := Lib.hid hset
                clear hset hu9
                refine wpAnyH_ready (rs := [9]) (by kernel_rfl) (by simp) ?_
                refine AllReadyH.cons (o := _) rfl (fun K hK => ?_) ?_
                · have l0 := (HX9b10.out.cell 0).trans (rfl : _ = some ((.nilFunc : Value))); have n0' := HX9b10.out.free 0
                  go_simp
                  clear l0 n0'
                  obtain ⟨u10, hu10⟩ : ∃ x, u9.setCell ⟨u2.heap.size, 0, none⟩ (.func (.func 143) #[] #[ptrV z2, ptrV (z2 + 1)]) = x := ⟨_, rfl⟩
                  have hset := grown_box HG9.out (by have := HG0.out.size; have := HS0.out; have := HS1.out; have := HZ1c.out; have := HZ1c.out; have := HS2.out; have := HZ2c.out; have := HZ2c.out; have := HS7.out; have := HS8.out; have := HS9.out; omega : w4.heap.size ≤ u2.heap.size) HX9b10.out.lt hu10
                  have HS10 := Lib.hid (show u10.heap.size = u9.heap.size by rw [← hu10]; simp [World.setCell])
                  have HX10q9a := Lib.hid (show Whole u10 (z1) _ _ by rw [← hu10]; exact HX9q9a.out.far (by have := HS0.out; have := HS1.out; have := HZ1c.out; have := HZ1c.out; have := HS2.out; have := HZ2c.out; have := HZ2c.out; have := HS7.out; have := HS8.out; have := HS9.out; omega) _ _)
                  have HX10q9b := Lib.hid (show Whole u10 (z1 + 1) _ _ by rw [← hu10]; exact HX9q9b.out.far (by have := HS0.out; have := HS1.out; have := HZ1c.out; have := HZ1c.out; have := HS2.out; have := HZ2c.out; have := HZ2c.out; have := HS7.out; have := HS8.out; have := HS9.out; omega) _ _)
                  have HX10q10a := Lib.hid (show Whole u10 (z2) _ _ by rw [← hu10]; exact HX9q10a.out.far (by have := HS0.out; have := HS1.out; have := HZ1c.out; have := HZ1c.out; have := HS2.out; have := HZ2c.out; have := HZ2c.out; have := HS7.out; have := HS8.out; have := HS9.out; omega) _ _)
                  have HX10q10b := Lib.hid (show Whole u10 (z2 + 1) _ _ by rw [← hu10]; exact HX9q10b.out.far (by have := HS0.out; have := HS1.out; have := HZ1c.out; have := HZ1c.out; have := HS2.out; have := HZ2c.out; have := HZ2c.out; have := HS7.out; have := HS8.out; have := HS9.out; omega) _ _)
                  have HX10b10 := Lib.hid (show Whole u10 (u2.heap.size) _ #[.func (.func 143) #[] #[ptrV z2, ptrV (z2 + 1)]] by rw [← hu10]; exact HX9b10.out.store 0 _)
                  have HX10b9 := Lib.hid (show Whole u10 (u7.heap.size) _ _ by rw [← hu10]; exact HX9b9.out.far (by have := HS0.out; have := HS1.out; have := HZ1c.out; have := HZ1c.out; have := HS2.out; have := HZ2c.out; have := HZ2c.out; have := HS7.out; have := HS8.out; have := HS9.out; omega) _ _)
                  have HOM10 := Lib.hid (show Whole u10 E.q _ _ by rw [← hu10]; exact HOM9.out.far (by have := HQ.out; have := HS0.out; have := HS1.out; have := HZ1c.out; have := HZ1c.out; have := HS2.out; have := HZ2c.out; have := HZ2c.out; have := HS7.out; have := HS8.out; have := HS9.out; omega) _ _)
                  rw [hu10]
                  refine hK.out _ _ hset (fun hHeld => ?_)
                  clear hK K
                  try simp only [List.getElem_toArray, List.getElem_cons_zero, List.getElem_cons_succ, Act.put, List.setIfInBounds_toArray, List.set_cons_zero, List.set_cons_succ]
                  have HG10 := Lib.hid hset
                  clear hset hu10
                  refine wpAnyH_done (by kernel_rfl) ?_ _
                  go_wp2
                  go_meet
                  rw [HM1.out, HM2.out]
                  exact ⟨_, rfl, _, _, _, _, rfl, rfl, HX10b9.out, HX10b10.out, HX10q9a.out, HX10q9b.out, HX10q10a.out, HX10q10b.out, by have := HS0.out; have := HS1.out; have := HZ1c.out; have := HZ1c.out; have := HS2.out; have := HZ2c.out; have := HZ2c.out; have := HS7.out; have := HS8.out; have := HS9.out; have := HS10.out; omega, by have := HS0.out; have := HS1.out; have := HZ1c.out; have := HZ1c.out; have := HS2.out; have := HZ2c.out; have := HZ2c.out; have := HS7.out; have := HS8.out; have := HS9.out; have := HS10.out; omega, by have := HS0.out; have := HS1.out; have := HZ1c.out; have := HZ1c.out; have := HS2.out; have := HZ2c.out; have := HZ2c.out; have := HS7.out; have := HS8.out; have := HS9.out; have := HS10.out; omega, by have := HS0.out; have := HS1.out; have := HZ1c.out; have := HZ1c.out; have := HS2.out; have := HZ2c.out; have := HZ2c.out; have := HS7.out; have := HS8.out; have := HS9.out; have := HS10.out; omega, HG10.out, HOM10.out⟩
                exact AllReadyH.nil
              exact AllReadyH.nil
            exact AllReadyH.nil
          exact AllReadyH.nil
        refine AllReadyH.cons (o := _) rfl (fun K hK => ?_) ?_
        · go_simp
          refine hK.out _ _ (grown_then HG1.out ((Below.refl _ _).alloc (Nat.le_refl _) _)) (fun hHeld => ?_)
          clear hK K
          try simp only [List.getElem_toArray, List.getElem_cons_zero, List.getElem_cons_succ, Act.put, List.setIfInBounds_toArray, List.set_cons_zero, List.set_cons_succ]
          obtain ⟨u11, hu11⟩ : ∃ x, u1.alloc (.cells #[.nilFunc] 75) = x := ⟨_, rfl⟩
          rw [hu11] at hHeld ⊢
          have HG11 := Lib.hid hHeld; have HS11 := Lib.hid (show u11.heap.size = u1.heap.size + 1 by rw [← hu11]; simp)
          have HX11b9 := Lib.hid (show Whole u11 u1.heap.size 75 #[.nilFunc] by rw [← hu11]; exact heap_alloc_new u1 _)
          have HX11q9a := Lib.hid (show Whole u11 (z1) _ _ by rw [← hu11]; exact Whole.alloc HZ1a.out _)
          have HX11q9b := Lib.hid (show Whole u11 (z1 + 1) _ _ by rw [← hu11]; exact Whole.alloc HZ1b.out _)
          have HOM11 := Lib.hid (show Whole u11 E.q _ _ by rw [← hu11]; exact Whole.alloc HOM1.out _)
          clear hu11
          refine wpAnyH_ready (rs := [5, 7]) (by kernel_rfl) (by simp) ?_
          refine AllReadyH.cons (o := _) rfl (fun K hK => ?_) ?_
          · go_simp
            refine (HPUT.out m2 u11).mono ?_
            rintro e u12 ⟨z3, he, hz1, hz2, hz3, hz4⟩
            obtain rfl : e = .returned (.func (.func 143) #[] #[ptrV z3, ptrV (z3 + 1)]) := he
            have hb : u11.grownBy u12 (some E.q) := below_grown hz4
            have hz2' := hz2.lt
            have hom := HOM11.out.below hz4 HOM11.out.lt
            have HZ3a := Lib.hid hz1; have HZ3b := Lib.hid hz2; have HZ3c := Lib.hid (show u11.heap.size ≤ z3 ∧ z3 + 1 < u12.heap.size from ⟨hz3, hz2'⟩)
            clear hz1 hz2 hz3 hz4 hz2'
            have HG12 := Lib.hid (grown_trans HG11.out hb); have HS12 := Lib.hid hb.size
            have HX12q9a := Lib.hid (kp_away hb HX11q9a.out (by have := HQ.out; have := HS0.out; have := HS1.out; have := HZ1c.out; have := HZ1c.out; have := HS11.out; omega))
            have HX12q9b := Lib.hid (kp_away hb HX11q9b.out (by have := HQ.out; have := HS0.out; have := HS1.out; have := HZ1c.out; have := HZ1c.out; have := HS11.out; omega))
            have HX12b9 := Lib.hid (kp_away hb HX11b9.out (by have := HQ.out; have := HS0.out; have := HS1.out; have := HZ1c.out; have := HZ1c.out; have := HS11.out; omega))
            have HOM12 := Lib.hid hom
            clear hom
            clear hb
            go_wp2_with fail
            refine hK.out _ _ HG12.out (fun hHeld => ?_)
            clear hK K
            try simp only [List.getElem_toArray, List.getElem_cons_zero, List.getElem_cons_succ, Act.put, List.setIfInBounds_toArray, List.set_cons_zero, List.set_cons_succ]
            refine wpAnyH_ready (rs := [7]) (by kernel_rfl) (by simp) ?_
            refine AllReadyH.cons (o := _) rfl (fun K hK => ?_) ?_
            · go_simp
              refine hK.out _ _ (grown_then HG12.out ((Below.refl _ _).alloc (Nat.le_refl _) _)) (fun hHeld => ?_)
              clear hK K
              try simp only [List.getElem_toArray, List.getElem_cons_zero, List.getElem_cons_succ, Act.put, List.setIfInBounds_toArray, List.set_cons_zero, List.set_cons_succ]
              obtain ⟨u13, hu13⟩ : ∃ x, u12.alloc (.cells #[.nilFunc] 75) = x := ⟨_, rfl⟩
              rw [hu13] at hHeld ⊢
              have HG13 := Lib.hid hHeld; have HS13 := Lib.hid (show u13.heap.size = u12.heap.size + 1 by rw [← hu13]; simp)
              have HX13b10 := Lib.hid (show Whole u13 u12.heap.size 75 #[.nilFunc] by rw [← hu13]; exact heap_alloc_new u12 _)
              have HX13q9a := Lib.hid (show Whole u13 (z1) _ _ by rw [← hu13]; exact Whole.alloc HX12q9a.out _)
              have HX13q9b := Lib.hid (show Whole u13 (z1 + 1) _ _ by rw [← hu13]; exact Whole.alloc HX12q9b.out _)
              have HX13b9 := Lib.hid (show Whole u13 (u1.heap.size) _ _ by rw [← hu13]; exact Whole.alloc HX12b9.out _)
              have HX13q10a := Lib.hid (show Whole u13 (z3) _ _ by rw [← hu13]; exact Whole.alloc HZ3a.out _)
              have HX13q10b := Lib.hid (show Whole u13 (z3 + 1) _ _ by rw [← hu13]; exact Whole.alloc HZ3b.out _)
              have HOM13 := Lib.hid (show Whole u13 E.q _ _ by rw [← hu13]; exact Whole.alloc HOM12.out _)
              clear hu13
              refine wpAnyH_ready (rs := [8]) (by kernel_rfl) (by simp) ?_
              refine AllReadyH.cons (o := _) rfl (fun K hK => ?_) ?_
              · have l0 := (HX13b9.out.cell 0).trans (rfl : _ = some ((.nilFunc : Value))); have n0' := HX13b9.out.free 0
                go_simp
                clear l0 n0'
                obtain ⟨u14, hu14⟩ : ∃ x, u13.setCell ⟨u1.heap.size, 0, none⟩ (.func (.func 143) #[] #[ptrV z1, ptrV (z1 + 1)]) = x := ⟨_, rfl⟩
                have hset := grown_box HG13.out (by have := HG0.out.size; have := HS0.out; have := HS1.out; have := HZ1c.out; have := HZ1c.out; have := HS11.out; have := HS12.out; have := HZ3c.out; have := HZ3c.out; have := HS13.out; omega : w4.heap.size ≤ u1.heap.size) HX13b9.out.lt hu14
                have HS14 := Lib.hid (show u14.heap.size = u13.heap.size by rw [← hu14]; simp [World.setCell])
                have HX14q9a := Lib.hid (show Whole u14 (z1) _ _ by rw [← hu14]; exact HX13q9a.out.far (by have := HS0.out; have := HS1.out; have := HZ1c.out; have := HZ1c.out; have := HS11.out; have := HS12.out; have := HZ3c.out; have := HZ3c.out; have := HS13.out; omega) _ _)
                have HX14q9b := Lib.hid (show Whole u14 (z1 + 1) _ _ by rw [← hu14]; exact HX13q9b.out.far (by have := HS0.out; have := HS1.out; have := HZ1c.out; have := HZ1c.out; have := HS11.out; have := HS12.out; have := HZ3c.out; have := HZ3c.out; have := HS13.out; omega) _ _)
                have HX14b9 := Lib.hid (show Whole u14 (u1.heap.size) _ #[.func (.func 143) #[] #[ptrV z1, ptrV (z1 + 1)]] by rw [← hu14]; exact HX13b9.out.store 0 _)
                have HX14q10a := Lib.hid (show Whole u14 (z3) _ _ by rw [← hu14]; exact HX13q10a.out.far (by have := HS0.out; have := HS1.out; have := HZ1c.out; have := HZ1c.out; have := HS11.out; have := HS12.out; have := HZ3c.out; have := HZ3c.out; have := HS13.out; omega) _ _)
                have HX14q10b := Lib.hid (show Whole u14 (z3 + 1) _ _ by rw [← hu14]; exact HX13q10b.out.far (by have := HS0.out; have := HS1.out; have := HZ1c.out; have := HZ1c.out; have := HS11.out; have := HS12.out; have := HZ3c.out; have := HZ3c.out; have := HS13.out; omega) _ _)
                have HX14b10 := Lib.hid (show Whole u14 (u12.heap.size) _ _ by rw [← hu14]; exact HX13b10.out.far (by have := HS0.out; have := HS1.out; have := HZ1c.out; have := HZ1c.out; have := HS11.out; have := HS12.out; have := HZ3c.out; have := HZ3c.out; have := HS13.out; omega) _ _)
                have HOM14 := Lib.hid (show Whole u14 E.q _ _ by rw [← hu14]; exact HOM13.out.far (by have := HQ.out; have := HS0.out; have := HS1.out; have := HZ1c.out; have := HZ1c.out; have := HS11.out; have := HS12.out; have := HZ3c.out; have := HZ3c.out; have := HS13.out; omega) _ _)
                rw [hu14]
                refine hK.out _ _ hset (fun hHeld => ?_)
                clear hK K
                try simp only [List.getElem_toArray, List.getElem_cons_zero, List.getElem_cons_succ, Act.put, List.setIfInBounds_toArray, List.set_cons_zero, List.set_cons_succ]
                have HG14 := Lib.hid hset
                clear hset hu14
                refine wpAnyH_ready (rs := [9]) (by kernel_rfl) (by simp) ?_
                refine AllReadyH.cons (o := _) rfl (fun K hK => ?_) ?_
                · have l0 := (HX14b10.out.cell 0).trans (rfl : _ = some ((.nilFunc : Value))); have n0' := HX14b10.out.free 0
                  go_simp
                  clear l0 n0'
                  obtain ⟨u15, hu15⟩ : ∃ x, u14.setCell ⟨u12.heap.size, 0, none⟩ (.func (.func 143) #[] #[ptrV z3, ptrV (z3 + 1)]) = x := ⟨_, rfl⟩
                  have hset := grown_box HG14.out (by have := HG0.out.size; have := HS0.out; have := HS1.out; have := HZ1c.out; have := HZ1c.out; have := HS11.out; have := HS12.out; have := HZ3c.out; have := HZ3c.out; have := HS13.out; have := HS14.out; omega : w4.heap.size ≤ u12.heap.size) HX14b10.out.lt hu15
                  have HS15 := Lib.hid (show u15.heap.size = u14.heap.size by rw [← hu15]; simp [World.setCell])
                  have HX15q9a := Lib.hid (show Whole u15 (z1) _ _ by rw [← hu15]; exact HX14q9a.out.far (by have := HS0.out; have := HS1.out; have := HZ1c.out; have := HZ1c.out; have := HS11.out; have := HS12.out; have := HZ3c.out; have := HZ3c.out; have := HS13.out; have := HS14.out; omega) _ _)
                  have HX15q9b := Lib.hid (show Whole u15 (z1 + 1) _ _ by rw [← hu15]; exact HX14q9b.out.far (by have := HS0.out; have := HS1.out; have := HZ1c.out; have := HZ1c.out; have := HS11.out; have := HS12.out; have := HZ3c.out; have := HZ3c.out; have := HS13.out; have := HS14.out; omega) _ _)
                  have HX15b9 := Lib.hid (show Whole u15 (u1.heap.size) _ _ by rw [← hu15]; exact HX14b9.out.far (by have := HS0.out; have := HS1.out; have := HZ1c.out; have := HZ1c.out; have := HS11.out; have := HS12.out; have := HZ3c.out; have := HZ3c.out; have := HS13.out; have := HS14.out; omega) _ _)
                  have HX15q10a := Lib.hid (show Whole u15 (z3) _ _ by rw [← hu15]; exact HX14q10a.out.far (by have := HS0.out; have := HS1.out; have := HZ1c.out; have := HZ1c.out; have := HS11.out; have := HS12.out; have := HZ3c.out; have := HZ3c.out; have := HS13.out; have := HS14.out; omega) _ _)
                  have HX15q10b := Lib.hid (show Whole u15 (z3 + 1) _ _ by rw [← hu15]; exact HX14q10b.out.far (by have := HS0.out; have := HS1.out; have := HZ1c.out; have := HZ1c.out; have := HS11.out; have := HS12.out; have := HZ3c.out; have := HZ3c.out; have := HS13.out; have := HS14.out; omega) _ _)
                  have HX15b10 := Lib.hid (show Whole u15 (u12.heap.size) _ #[.func (.func 143) #[] #[ptrV z3, ptrV (z3 + 1)]] by rw [← hu15]; exact HX14b10.out.store 0 _)
                  have HOM15 := Lib.hid (show Whole u15 E.q _ _ by rw [← hu15]; exact HOM14.out.far (by have := HQ.out; have := HS0.out; have := HS1.out; have := HZ1c.out; have := HZ1c.out; have := HS11.out; have := HS12.out; have := HZ3c.out; have := HZ3c.out; have := HS13.out; have := HS14.out; omega) _ _)
                  rw [hu15]
                  refine hK.out _ _ hset (fun hHeld => ?_)
                  clear hK K
                  try simp only [List.getElem_toArray, List.getElem_cons_zero, List.getElem_cons_succ, Act.put, List.setIfInBounds_toArray, List.set_cons_zero, List.set_cons_succ]
                  have HG15 := Lib.hid hset
                  clear hset hu15
                  refine wpAnyH_done (by kernel_rfl) ?_ _
                  go_wp2
                  go_meet
                  rw [HM1.out, HM2.out]
                  exact ⟨_, rfl, _, _, _, _, rfl, rfl, HX15b9.out, HX15b10.out, HX15q9a.out, HX15q9b.out, HX15q10a.out, HX15q10b.out, by have := HS0.out; have := HS1.out; have := HZ1c.out; have := HZ1c.out; have := HS11.out; have := HS12.out; have := HZ3c.out; have := HZ3c.out; have := HS13.out; have := HS14.out; have := HS15.out; omega, by have := HS0.out; have := HS1.out; have := HZ1c.out; have := HZ1c.out; have := HS11.out; have := HS12.out; have := HZ3c.out; have := HZ3c.out; have := HS13.out; have := HS14.out; have := HS15.out; omega, by have := HS0.out; have := HS1.out; have := HZ1c.out; have := HZ1c.out; have := HS11.out; have := HS12.out; have := HZ3c.out; have := HZ3c.out; have := HS13.out; have := HS14.out; have := HS15.out; omega, by have := HS0.out; have := HS1.out; have := HZ1c.out; have := HZ1c.out; have := HS11.out; have := HS12.out; have := HZ3c.out; have := HZ3c.out; have := HS13.out; have := HS14.out; have := HS15.out; omega, HG15.out, HOM15.out⟩
                exact AllReadyH.nil
              exact AllReadyH.nil
            exact AllReadyH.nil
          refine AllReadyH.cons (o := _) rfl (fun K hK => ?_) ?_
          · go_simp
            refine hK.out _ _ (grown_then HG11.out ((Below.refl _ _).alloc (Nat.le_refl _) _)) (fun hHeld => ?_)
            clear hK K
            try simp only [List.getElem_toArray, List.getElem_cons_zero, List.getElem_cons_succ, Act.put, List.setIfInBounds_toArray, List.set_cons_zero, List.set_cons_succ]
            obtain ⟨u16, hu16⟩ : ∃ x, u11.alloc (.cells #[.nilFunc] 75) = x := ⟨_, rfl⟩
            rw [hu16] at hHeld ⊢
            have HG16 := Lib.hid hHeld; have HS16 := Lib.hid (show u16.heap.size = u11.heap.size + 1 by rw [← hu16]; simp)
            have HX16b10 := Lib.hid (show Whole u16 u11.heap.size 75 #[.nilFunc] by rw [← hu16]; exact heap_alloc_new u11 _)
            have HX16q9a := Lib.hid (show Whole u16 (z1) _ _ by rw [← hu16]; exact Whole.alloc HX11q9a.out _)
            have HX16q9b := Lib.hid (show Whole u16 (z1 + 1) _ _ by rw [← hu16]; exact Whole.alloc HX11q9b.out _)
            have HX16b9 := Lib.hid (show Whole u16 (u1.heap.size) _ _ by rw [← hu16]; exact Whole.alloc HX11b9.out _)
            have HOM16 := Lib.hid (show Whole u16 E.q _ _ by rw [← hu16]; exact Whole.alloc HOM11.out _)
            clear hu16
            refine wpAnyH_ready (rs := [5]) (by kernel_rfl) (by simp) ?_
            refine AllReadyH.cons (o := _) rfl (fun K hK => ?_) ?_
            · go_simp
              refine (HPUT.out m2 u16).mono ?_
              rintro e u17 ⟨z4, he, hz1, hz2, hz3, hz4⟩
              obtain rfl : e = .returned (.func (.func 143) #[] #[ptrV z4, ptrV (z4 + 1)]) := he
              have hb : u16.grownBy u17 (some E.q) := below_grown hz4
              have hz2' := hz2.lt
              have hom := HOM16.out.below hz4 HOM16.out.lt
              have HZ4a := Lib.hid hz1; have HZ4b := Lib.hid hz2; have HZ4c := Lib.hid (show u16.heap.size ≤ z4 ∧ z4 + 1 < u17.heap.size from ⟨hz3, hz2'⟩)
              clear hz1 hz2 hz3 hz4 hz2'
              have HG17 := Lib.hid (grown_trans HG16.out hb); have HS17 := Lib.hid hb.size
              have HX17q9a := Lib.hid (kp_away hb HX16q9a.out (by have := HQ.out; have := HS0.out; have := HS1.out; have := HZ1c.out; have := HZ1c.out; have := HS11.out; have := HS16.out; omega))
              have HX17q9b := Lib.hid (kp_away hb HX16q9b.out (by have := HQ.out; have := HS0.out; have := HS1.out; have := HZ1c.out; have := HZ1c.out; have := HS11.out; have := HS16.out; omega))
              have HX17b9 := Lib.hid (kp_away hb HX16b9.out (by have := HQ.out; have := HS0.out; have := HS1.out; have := HZ1c.out; have := HZ1c.out; have := HS11.out; have := HS16.out; omega))
              have HX17b10 := Lib.hid (kp_away hb HX16b10.out (by have := HQ.out; have := HS0.out; have := HS1.out; have := HZ1c.out; have := HZ1c.out; have := HS11.out; have := HS16.out; omega))
              have HOM17 := Lib.hid hom
              clear hom
              clear hb
              go_wp2_with fail
              refine hK.out _ _ HG17.out (fun hHeld => ?_)
              clear hK K
              try simp only [List.getElem_toArray, List.getElem_cons_zero, List.getElem_cons_succ, Act.put, List.setIfInBounds_toArray, List.set_cons_zero, List.set_cons_succ]
              refine wpAnyH_ready (rs := [8]) (by kernel_rfl) (by simp) ?_
              refine AllReadyH.cons (o := _) rfl (fun K hK => ?_) ?_
              · have l0 := (HX17b9.out.cell 0).trans (rfl : _ = some ((.nilFunc : Value))); have n0' := HX17b9.out.free 0
                go_simp
                clear l0 n0'
                obtain ⟨u18, hu18⟩ : ∃ x, u17.setCell ⟨u1.heap.size, 0, none⟩ (.func (.func 143) #[] #[ptrV z1, ptrV (z1 + 1)]) = x := ⟨_, rfl⟩
                have hset := grown_box HG17.out (by have := HG0.out.size; have := HS0.out; have := HS1.out; have := HZ1c.out; have := HZ1c.out; have := HS11.out; have := HS16.out; have := HS17.out; have := HZ4c.out; have := HZ4c.out; omega : w4.heap.size ≤ u1.heap.size) HX17b9.out.lt hu18
                have HS18 := Lib.hid (show u18.heap.size = u17.heap.size by rw [← hu18]; simp [World.setCell])
                have HX18q9a := Lib.hid (show Whole u18 (z1) _ _ by rw [← hu18]; exact HX17q9a.out.far (by have := HS0.out; have := HS1.out; have := HZ1c.out; have := HZ1c.out; have := HS11.out; have := HS16.out; have := HS17.out; have := HZ4c.out; have := HZ4c.out; omega) _ _)
                have HX18q9b := Lib.hid (show Whole u18 (z1 + 1) _ _ by rw [← hu18]; exact HX17q9b.out.far (by have := HS0.out; have := HS1.out; have := HZ1c.out; have := HZ1c.out; have := HS11.out; have := HS16.out; have := HS17.out; have := HZ4c.out; have := HZ4c.out; omega) _ _)
                have HX18b9 := Lib.hid (show Whole u18 (u1.heap.size) _ #[.func (.func 143) #[] #[ptrV z1, ptrV (z1 + 1)]] by rw [← hu18]; exact HX17b9.out.store 0 _)
                have HX18b10 := Lib.hid (show Whole u18 (u11.heap.size) _ _ by rw [← hu18]; exact HX17b10.out.far (by have := HS0.out; have := HS1.out; have := HZ1c.out; have := HZ1c.out; have := HS11.out; have := HS16.out; have := HS17.out; have := HZ4c.out; have := HZ4c.out; omega) _ _)
                have HX18q10a := Lib.hid (show Whole u18 (z4) _ _ by rw [← hu18]; exact HZ4a.out.far (by have := HS0.out; have := HS1.out; have := HZ1c.out; have := HZ1c.out; have := HS11.out; have := HS16.out; have := HS17.out; have := HZ4c.out; have := HZ4c.out; omega) _ _)
                have HX18q10b := Lib.hid (show Whole u18 (z4 + 1) _ _ by rw [← hu18]; exact HZ4b.out.far (by have := HS0.out; have := HS1.out; have := HZ1c.out; have := HZ1c.out; have := HS11.out; have := HS16.out; have := HS17.out; have := HZ4c.out; have := HZ4c.out; omega) _ _)
                have HOM18 := Lib.hid (show Whole u18 E.q _ _ by rw [← hu18]; exact HOM17.out.far (by have := HQ.out; have := HS0.out; have := HS1.out; have := HZ1c.out; have := HZ1c.out; have := HS11.out; have := HS16.out; have := HS17.out; have := HZ4c.out; have := HZ4c.out; omega) _ _)
                rw [hu18]
                refine hK.out _ _ hset (fun hHeld => ?_)
                clear hK K
                try simp only [List.getElem_toArray, List.getElem_cons_zero, List.getElem_cons_succ, Act.put, List.setIfInBounds_toArray, List.set_cons_zero, List.set_cons_succ]
                have HG18 := Lib.hid hset
                clear hset hu18
                refine wpAnyH_ready (rs := [9]) (by kernel_rfl) (by simp) ?_
                refine AllReadyH.cons (o := _) rfl (fun K hK => ?_) ?_
                · have l0 := (HX18b10.out.cell 0).trans (rfl : _ = some ((.nilFunc : Value))); have n0' := HX18b10.out.free 0
                  go_simp
                  clear l0 n0'
                  obtain ⟨u19, hu19⟩ : ∃ x, u18.setCell ⟨u11.heap.size, 0, none⟩ (.func (.func 143) #[] #[ptrV z4, ptrV (z4 + 1)]) = x := ⟨_, rfl⟩
                  have hset := grown_box HG18.out (by have := HG0.out.size; have := HS0.out; have := HS1.out; have := HZ1c.out; have := HZ1c.out; have := HS11.out; have := HS16.out; have := HS17.out; have := HZ4c.out; have := HZ4c.out; have := HS18.out; omega : w4.heap.size ≤ u11.heap.size) HX18b10.out.lt hu19
                  have HS19 := Lib.hid (show u19.heap.size = u18.heap.size by rw [← hu19]; simp [World.setCell])
                  have HX19q9a := Lib.hid (show Whole u19 (z1) _ _ by rw [← hu19]; exact HX18q9a.out.far (by have := HS0.out; have := HS1.out; have := HZ1c.out; have := HZ1c.out; have := HS11.out; have := HS16.out; have := HS17.out; have := HZ4c.out; have := HZ4c.out; have := HS18.out; omega) _ _)
                  have HX19q9b := Lib.hid (show Whole u19 (z1 + 1) _ _ by rw [← hu19]; exact HX18q9b.out.far (by have := HS0.out; have := HS1.out; have := HZ1c.out; have := HZ1c.out; have := HS11.out; have := HS16.out; have := HS17.out; have := HZ4c.out; have := HZ4c.out; have := HS18.out; omega) _ _)
                  have HX19b9 := Lib.hid (show Whole u19 (u1.heap.size) _ _ by rw [← hu19]; exact HX18b9.out.far (by have := HS0.out; have := HS1.out; have := HZ1c.out; have := HZ1c.out; have := HS11.out; have := HS16.out; have := HS17.out; have := HZ4c.out; have := HZ4c.out; have := HS18.out; omega) _ _)
                  have HX19b10 := Lib.hid (show Whole u19 (u11.heap.size) _ #[.func (.func 143) #[] #[ptrV z4, ptrV (z4 + 1)]] by rw [← hu19]; exact HX18b10.out.store 0 _)
                  have HX19q10a := Lib.hid (show Whole u19 (z4) _ _ by rw [← hu19]; exact HX18q10a.out.far (by have := HS0.out; have := HS1.out; have := HZ1c.out; have := HZ1c.out; have := HS11.out; have := HS16.out; have := HS17.out; have := HZ4c.out; have := HZ4c.out; have := HS18.out; omega) _ _)
                  have HX19q10b := Lib.hid (show Whole u19 (z4 + 1) _ _ by rw [← hu19]; exact HX18q10b.out.far (by have := HS0.out; have := HS1.out; have := HZ1c.out; have := HZ1c.out; have := HS11.out; have := HS16.out; have := HS17.out; have := HZ4c.out; have := HZ4c.out; have := HS18.out; omega) _ _)
                  have HOM19 := Lib.hid (show Whole u19 E.q _ _ by rw [← hu19]; exact HOM18.out.far (by have := HQ.out; have := HS0.out; have := HS1.out; have := HZ1c.out; have := HZ1c.out; have := HS11.out; have := HS16.out; have := HS17.out; have := HZ4c.out; have := HZ4c.out; have := HS18.out; omega) _ _)
                  rw [hu19]
                  refine hK.out _ _ hset (fun hHeld => ?_)
                  clear hK K
                  try simp only [List.getElem_toArray, List.getElem_cons_zero, List.getElem_cons_succ, Act.put, List.setIfInBounds_toArray, List.set_cons_zero, List.set_cons_succ]
                  have HG19 := Lib.hid hset
                  clear hset hu19
                  refine wpAnyH_done (by kernel_rfl) ?_ _
                  go_wp2
                  go_meet
                  rw [HM1.out, HM2.out]
                  exact ⟨_, rfl, _, _, _, _, rfl, rfl, HX19b9.out, HX19b10.out, HX19q9a.out, HX19q9b.out, HX19q10a.out, HX19q10b.out, by have := HS0.out; have := HS1.out; have := HZ1c.out; have := HZ1c.out; have := HS11.out; have := HS16.out; have := HS17.out; have := HZ4c.out; have := HZ4c.out; have := HS18.out; have := HS19.out; omega, by have := HS0.out; have := HS1.out; have := HZ1c.out; have := HZ1c.out; have := HS11.out; have := HS16.out; have := HS17.out; have := HZ4c.out; have := HZ4c.out; have := HS18.out; have := HS19.out; omega, by have := HS0.out; have := HS1.out; have := HZ1c.out; have := HZ1c.out; have := HS11.out; have := HS16.out; have := HS17.out; have := HZ4c.out; have := HZ4c.out; have := HS18.out; have := HS19.out; omega, by have := HS0.out; have := HS1.out; have := HZ1c.out; have := HZ1c.out; have := HS11.out; have := HS16.out; have := HS17.out; have := HZ4c.out; have := HZ4c.out; have := HS18.out; have := HS19.out; omega, HG19.out, HOM19.out⟩
                exact AllReadyH.nil
              exact AllReadyH.nil
            exact AllReadyH.nil
          exact AllReadyH.nil
        refine AllReadyH.cons (o := _) rfl (fun K hK => ?_) ?_
        · go_simp
          refine hK.out _ _ (grown_then HG1.out ((Below.refl _ _).alloc (Nat.le_refl _) _)) (fun hHeld => ?_)
          clear hK K
          try simp only [List.getElem_toArray, List.getElem_cons_zero, List.getElem_cons_succ, Act.put, List.setIfInBounds_toArray, List.set_cons_zero, List.set_cons_succ]
          obtain ⟨u20, hu20⟩ : ∃ x, u1.alloc (.cells #[.nilFunc] 75) = x := ⟨_, rfl⟩
          rw [hu20] at hHeld ⊢
          have HG20 := Lib.hid hHeld; have HS20 := Lib.hid (show u20.heap.size = u1.heap.size + 1 by rw [← hu20]; simp)
          have HX20b10 := Lib.hid (show Whole u20 u1.heap.size 75 #[.nilFunc] by rw [← hu20]; exact heap_alloc_new u1 _)
          have HX20q9a := Lib.hid (show Whole u20 (z1) _ _ by rw [← hu20]; exact Whole.alloc HZ1a.out _)
          have HX20q9b := Lib.hid (show Whole u20 (z1 + 1) _ _ by rw [← hu20]; exact Whole.alloc HZ1b.out _)
          have HOM20 := Lib.hid (show Whole u20 E.q _ _ by rw [← hu20]; exact Whole.alloc HOM1.out _)
          clear hu20
          refine wpAnyH_ready (rs := [5, 6]) (by kernel_rfl) (by simp) ?_
          refine AllReadyH.cons (o := _) rfl (fun K hK => ?_) ?_
          · go_simp
            refine (HPUT.out m2 u20).mono ?_
            rintro e u21 ⟨z5, he, hz1, hz2, hz3, hz4⟩
            obtain rfl : e = .returned (.func (.func 143) #[] #[ptrV z5, ptrV (z5 + 1)]) := he
            have hb : u20.grownBy u21 (some E.q) := below_grown hz4
            have hz2' := hz2.lt
            have hom := HOM20.out.below hz4 HOM20.out.lt
            have HZ5a := Lib.hid hz1; have HZ5b := Lib.hid hz2; have HZ5c := Lib.hid (show u20.heap.size ≤ z5 ∧ z5 + 1 < u21.heap.size from ⟨hz3, hz2'⟩)
            clear hz1 hz2 hz3 hz4 hz2'
            have HG21 := Lib.hid (grown_trans HG20.out hb); have HS21 := Lib.hid hb.size
            have HX21q9a := Lib.hid (kp_away hb HX20q9a.out (by have := HQ.out; have := HS0.out; have := HS1.out; have := HZ1c.out; have := HZ1c.out; have := HS20.out; omega))
            have HX21q9b := Lib.hid (kp_away hb HX20q9b.out (by have := HQ.out; have := HS0.out; have := HS1.out; have := HZ1c.out; have := HZ1c.out; have := HS20.out; omega))
            have HX21b10 := Lib.hid (kp_away hb HX20b10.out (by have := HQ.out; have := HS0.out; have := HS1.out; have := HZ1c.out; have := HZ1c.out; have := HS20.out; omega))
            have HOM21 := Lib.hid hom
            clear hom
            clear hb
            go_wp2_with fail
            refine hK.out _ _ HG21.out (fun hHeld => ?_)
            clear hK K
            try simp only [List.getElem_toArray, List.getElem_cons_zero, List.getElem_cons_succ, Act.put, List.setIfInBounds_toArray, List.set_cons_zero, List.set_cons_succ]
            refine wpAnyH_ready (rs := [6]) (by kernel_rfl) (by simp) ?_
            refine AllReadyH.cons (o := _) rfl (fun K hK => ?_) ?_
            · go_simp
              refine hK.out _ _ (grown_then HG21.out ((Below.refl _ _).alloc (Nat.le_refl _) _)) (fun hHeld => ?_)
              clear hK K
              try simp only [List.getElem_toArray, List.getElem_cons_zero, List.getElem_cons_succ, Act.put, List.setIfInBounds_toArray, List.set_cons_zero, List.set_cons_succ]
              obtain ⟨u22, hu22⟩ : ∃ x, u21.alloc (.cells #[.nilFunc] 75) = x := ⟨_, rfl⟩
              rw [hu22] at hHeld ⊢
              have HG22 := Lib.hid hHeld; have HS22 := Lib.hid (show u22.heap.size = u21.heap.size + 1 by rw [← hu22]; simp)
              have HX22b9 := Lib.hid (show Whole u22 u21.heap.size 75 #[.nilFunc] by rw [← hu22]; exact heap_alloc_new u21 _)
              have HX22q9a := Lib.hid (show Whole u22 (z1) _ _ by rw [← hu22]; exact Whole.alloc HX21q9a.out _)
              have HX22q9b := Lib.hid (show Whole u22 (z1 + 1) _ _ by rw [← hu22]; exact Whole.alloc HX21q9b.out _)
              have HX22b10 := Lib.hid (show Whole u22 (u1.heap.size) _ _ by rw [← hu22]; exact Whole.alloc HX21b10.out _)
              have HX22q10a := Lib.hid (show Whole u22 (z5) _ _ by rw [← hu22]; exact Whole.alloc HZ5a.out _)
              have HX22q10b := Lib.hid (show Whole u22 (z5 + 1) _ _ by rw [← hu22]; exact Whole.alloc HZ5b.out _)
              have HOM22 := Lib.hid (show Whole u22 E.q _ _ by rw [← hu22]; exact Whole.alloc HOM21.out _)
              clear hu22
              refine wpAnyH_ready (rs := [8]) (by kernel_rfl) (by simp) ?_
              refine AllReadyH.cons (o := _) rfl (fun K hK => ?_) ?_
              · have l0 := (HX22b9.out.cell 0).trans (rfl : _ = some ((.nilFunc : Value))); have n0' := HX22b9.out.free 0
                go_simp
                clear l0 n0'
                obtain ⟨u23, hu23⟩ : ∃ x, u22.setCell ⟨u21.heap.size, 0, none⟩ (.func (.func 143) #[] #[ptrV z1, ptrV (z1 + 1)]) = x := ⟨_, rfl⟩
                have hset := grown_box HG22.out (by have := HG0.out.size; have := HS0.out; have := HS1.out; have := HZ1c.out; have := HZ1c.out; have := HS20.out; have := HS21.out; have := HZ5c.out; have := HZ5c.out; have := HS22.out; omega : w4.heap.size ≤ u21.heap.size) HX22b9.out.lt hu23
                have HS23 := Lib.hid (show u23.heap.size = u22.heap.size by rw [← hu23]; simp [World.setCell])
                have HX23q9a := Lib.hid (show Whole u23 (z1) _ _ by rw [← hu23]; exact HX22q9a.out.far (by have := HS0.out; have := HS1.out; have := HZ1c.out; have := HZ1c.out; have := HS20.out; have := HS21.out; have := HZ5c.out; have := HZ5c.out; have := HS22.out; omega) _ _)
                have HX23q9b := Lib.hid (show Whole u23 (z1 + 1) _ _ by rw [← hu23]; exact HX22q9b.out.far (by have := HS0.out; have := HS1.out; have := HZ1c.out; have := HZ1c.out; have := HS20.out; have := HS21.out; have := HZ5c.out; have := HZ5c.out; have := HS22.out; omega) _ _)
                have HX23b10 := Lib.hid (show Whole u23 (u1.heap.size) _ _ by rw [← hu23]; exact HX22b10.out.far (by have := HS0.out; have := HS1.out; have := HZ1c.out; have := HZ1c.out; have := HS20.out; have := HS21.out; have := HZ5c.out; have := HZ5c.out; have := HS22.out; omega) _ _)
                have HX23q10a := Lib.hid (show Whole u23 (z5) _ _ by rw [← hu23]; exact HX22q10a.out.far (by have := HS0.out; have := HS1.out; have := HZ1c.out; have := HZ1c.out; have := HS20.out; have := HS21.out; have := HZ5c.out; have := HZ5c.out; have := HS22.out; omega) _ _)
                have HX23q10b := Lib.hid (show Whole u23 (z5 + 1) _ _ by rw [← hu23]; exact HX22q10b.out.far (by have := HS0.out; have := HS1.out; have := HZ1c.out; have := HZ1c.out; have := HS20.out; have := HS21.out; have := HZ5c.out; have := HZ5c.out; have := HS22.out; omega) _ _)
                have HX23b9 := Lib.hid (show Whole u23 (u21.heap.size) _ #[.func (.func 143) #[] #[ptrV z1, ptrV (z1 + 1)]] by rw [← hu23]; exact HX22b9.out.store 0 _)
                have HOM23 := Lib.hid (show Whole u23 E.q _ _ by rw [← hu23]; exact HOM22.out.far (by have := HQ.out; have := HS0.out; have := HS1.out; have := HZ1c.out; have := HZ1c.out; have := HS20.out; have := HS21.out; have := HZ5c.out; have := HZ5c.out; have := HS22.out; omega) _ _)
                rw [hu23]
                refine hK.out _ _ hset (fun hHeld => ?_)
                clear hK K
                try simp only [List.getElem_toArray, List.getElem_cons_zero, List.getElem_cons_succ, Act.put, List.setIfInBounds_toArray, List.set_cons_zero, List.set_cons_succ]
                have HG23 := Lib.hid hset
                clear hset hu23
                refine wpAnyH_ready (rs := [9]) (by kernel_rfl) (by simp) ?_
                refine AllReadyH.cons (o := _) rfl (fun K hK => ?_) ?_
                · have l0 := (HX23b10.out.cell 0).trans (rfl : _ = some ((.nilFunc : Value))); have n0' := HX23b10.out.free 0
                  go_simp
                  clear l0 n0'
                  obtain ⟨u24, hu24⟩ : ∃ x, u23.setCell ⟨u1.heap.size, 0, none⟩ (.func (.func 143) #[] #[ptrV z5, ptrV (z5 + 1)]) = x := ⟨_, rfl⟩
                  have hset := grown_box HG23.out (by have := HG0.out.size; have := HS0.out; have := HS1.out; have := HZ1c.out; have := HZ1c.out; have := HS20.out; have := HS21.out; have := HZ5c.out; have := HZ5c.out; have := HS22.out; have := HS23.out; omega : w4.heap.size ≤ u1.heap.size) HX23b10.out.lt hu24
                  have HS24 := Lib.hid (show u24.heap.size = u23.heap.size by rw [← hu24]; simp [World.setCell])
                  have HX24q9a := Lib.hid (show Whole u24 (z1) _ _ by rw [← hu24]; exact HX23q9a.out.far (by have := HS0.out; have := HS1.out; have := HZ1c.out; have := HZ1c.out; have := HS20.out; have := HS21.out; have := HZ5c.out; have := HZ5c.out; have := HS22.out; have := HS23.out; omega) _ _)
                  have HX24q9b := Lib.hid (show Whole u24 (z1 + 1) _ _ by rw [← hu24]; exact HX23q9b.out.far (by have := HS0.out; have := HS1.out; have := HZ1c.out; have := HZ1c.out; have := HS20.out; have := HS21.out; have := HZ5c.out; have := HZ5c.out; have := HS22.out; have := HS23.out; omega) _ _)
                  have HX24b10 := Lib.hid (show Whole u24 (u1.heap.size) _ #[.func (.func 143) #[] #[ptrV z5, ptrV (z5 + 1)]] by rw [← hu24]; exact HX23b10.out.store 0 _)
                  have HX24q10a := Lib.hid (show Whole u24 (z5) _ _ by rw [← hu24]; exact HX23q10a.out.far (by have := HS0.out; have := HS1.out; have := HZ1c.out; have := HZ1c.out; have := HS20.out; have := HS21.out; have := HZ5c.out; have := HZ5c.out; have := HS22.out; have := HS23.out; omega) _ _)
                  have HX24q10b := Lib.hid (show Whole u24 (z5 + 1) _ _ by rw [← hu24]; exact HX23q10b.out.far (by have := HS0.out; have := HS1.out; have := HZ1c.out; have := HZ1c.out; have := HS20.out; have := HS21.out; have := HZ5c.out; have := HZ5c.out; have := HS22.out; have := HS23.out; omega) _ _)
                  have HX24b9 := Lib.hid (show Whole u24 (u21.heap.size) _ _ by rw [← hu24]; exact HX23b9.out.far (by have := HS0.out; have := HS1.out; have := HZ1c.out; have := HZ1c.out; have := HS20.out; have := HS21.out; have := HZ5c.out; have := HZ5c.out; have := HS22.out; have := HS23.out; omega) _ _)
                  have HOM24 := Lib.hid (show Whole u24 E.q _ _ by rw [← hu24]; exact HOM23.out.far (by have := HQ.out; have := HS0.out; have := HS1.out; have := HZ1c.out; have := HZ1c.out; have := HS20.out; have := HS21.out; have := HZ5c.out; have := HZ5c.out; have := HS22.out; have := HS23.out; omega) _ _)
                  rw [hu24]
                  refine hK.out _ _ hset (fun hHeld => ?_)
                  clear hK K
                  try simp only [List.getElem_toArray, List.getElem_cons_zero, List.getElem_cons_succ, Act.put, List.setIfInBounds_toArray, List.set_cons_zero, List.set_cons_succ]
                  have HG24 := Lib.hid hset
                  clear hset hu24
                  refine wpAnyH_done (by kernel_rfl) ?_ _
                  go_wp2
                  go_meet
                  rw [HM1.out, HM2.out]
                  exact ⟨_, rfl, _, _, _, _, rfl, rfl, HX24b9.out, HX24b10.out, HX24q9a.out, HX24q9b.out, HX24q10a.out, HX24q10b.out, by have := HS0.out; have := HS1.out; have := HZ1c.out; have := HZ1c.out; have := HS20.out; have := HS21.out; have := HZ5c.out; have := HZ5c.out; have := HS22.out; have := HS23.out; have := HS24.out; omega, by have := HS0.out; have := HS1.out; have := HZ1c.out; have := HZ1c.out; have := HS20.out; have := HS21.out; have := HZ5c.out; have := HZ5c.out; have := HS22.out; have := HS23.out; have := HS24.out; omega, by have := HS0.out; have := HS1.out; have := HZ1c.out; have := HZ1c.out; have := HS20.out; have := HS21.out; have := HZ5c.out; have := HZ5c.out; have := HS22.out; have := HS23.out; have := HS24.out; omega, by have := HS0.out; have := HS1.out; have := HZ1c.out; have := HZ1c.out; have := HS20.out; have := HS21.out; have := HZ5c.out; have := HZ5c.out; have := HS22.out; have := HS23.out; have := HS24.out; omega, HG24.out, HOM24.out⟩
                exact AllReadyH.nil
              exact AllReadyH.nil
            exact AllReadyH.nil
          refine AllReadyH.cons (o := _) rfl (fun K hK => ?_) ?_
          · go_simp
            refine hK.out _ _ (grown_then HG20.out ((Below.refl _ _).alloc (Nat.le_refl _) _)) (fun hHeld => ?_)
            clear hK K
            try simp only [List.getElem_toArray, List.getElem_cons_zero, List.getElem_cons_succ, Act.put, List.setIfInBounds_toArray, List.set_cons_zero, List.set_cons_succ]
            obtain ⟨u25, hu25⟩ : ∃ x, u20.alloc (.cells #[.nilFunc] 75) = x := ⟨_, rfl⟩
            rw [hu25] at hHeld ⊢
            have HG25 := Lib.hid hHeld; have HS25 := Lib.hid (show u25.heap.size = u20.heap.size + 1 by rw [← hu25]; simp)
            have HX25b9 := Lib.hid (show Whole u25 u20.heap.size 75 #[.nilFunc] by rw [← hu25]; exact heap_alloc_new u20 _)
            have HX25q9a := Lib.hid (show Whole u25 (z1) _ _ by rw [← hu25]; exact Whole.alloc HX20q9a.out _)
            have HX25q9b := Lib.hid (show Whole u25 (z1 + 1) _ _ by rw [← hu25]; exact Whole.alloc HX20q9b.out _)
            have HX25b10 := Lib.hid (show Whole u25 (u1.heap.size) _ _ by rw [← hu25]; exact Whole.alloc HX20b10.out _)
            have HOM25 := Lib.hid (show Whole u25 E.q _ _ by rw [← hu25]; exact Whole.alloc HOM20.out _)
            clear hu25
            refine wpAnyH_ready (rs := [5]) (by kernel_rfl) (by simp) ?_
            refine AllReadyH.cons (o := _) rfl (fun K hK => ?_) ?_
            · go_simp
              refine (HPUT.out m2 u25).mono ?_
              rintro e u26 ⟨z6, he, hz1, hz2, hz3, hz4⟩
              obtain rfl : e = .returned (.func (.func 143) #[] #[ptrV z6, ptrV (z6 + 1)]) := he
              have hb : u25.grownBy u26 (some E.q) := below_grown hz4
              have hz2' := hz2.lt
              have hom := HOM25.out.below hz4 HOM25.out.lt
              have HZ6a := Lib.hid hz1; have HZ6b := Lib.hid hz2; have HZ6c := Lib.hid (show u25.heap.size ≤ z6 ∧ z6 + 1 < u26.heap.size from ⟨hz3, hz2'⟩)
              clear hz1 hz2 hz3 hz4 hz2'
              have HG26 := Lib.hid (grown_trans HG25.out hb); have HS26 := Lib.hid hb.size
              have HX26q9a := Lib.hid (kp_away hb HX25q9a.out (by have := HQ.out; have := HS0.out; have := HS1.out; have := HZ1c.out; have := HZ1c.out; have := HS20.out; have := HS25.out; omega))
              have HX26q9b := Lib.hid (kp_away hb HX25q9b.out (by have := HQ.out; have := HS0.out; have := HS1.out; have := HZ1c.out; have := HZ1c.out; have := HS20.out; have := HS25.out; omega))
              have HX26b10 := Lib.hid (kp_away hb HX25b10.out (by have := HQ.out; have := HS0.out; have := HS1.out; have := HZ1c.out; have := HZ1c.out; have := HS20.out; have := HS25.out; omega))
              have HX26b9 := Lib.hid (kp_away hb HX25b9.out (by have := HQ.out; have := HS0.out; have := HS1.out; have := HZ1c.out; have := HZ1c.out; have := HS20.out; have := HS25.out; omega))
              have HOM26 := Lib.hid hom
              clear hom
              clear hb
              go_wp2_with fail
              refine hK.out _ _ HG26.out (fun hHeld => ?_)
              clear hK K
              try simp only [List.getElem_toArray, List.getElem_cons_zero, List.getElem_cons_succ, Act.put, List.setIfInBounds_toArray, List.set_cons_zero, List.set_cons_succ]
              refine wpAnyH_ready (rs := [8]) (by kernel_rfl) (by simp) ?_
              refine AllReadyH.cons (o := _) rfl (fun K hK => ?_) ?_
              · have l0 := (HX26b9.out.cell 0).trans (rfl : _ = some ((.nilFunc : Value))); have n0' := HX26b9.out.free 0
                go_simp
                clear l0 n0'
                obtain ⟨u27, hu27⟩ : ∃ x, u26.setCell ⟨u20.heap.size, 0, none⟩ (.func (.func 143) #[] #[ptrV z1, ptrV (z1 + 1)]) = x := ⟨_, rfl⟩
                have hset := grown_box HG26.out (by have := HG0.out.size; have := HS0.out; have := HS1.out; have := HZ1c.out; have := HZ1c.out; have := HS20.out; have := HS25.out; have := HS26.out; have := HZ6c.out; have := HZ6c.out; omega : w4.heap.size ≤ u20.heap.size) HX26b9.out.lt hu27
                have HS27 := Lib.hid (show u27.heap.size = u26.heap.size by rw [← hu27]; simp [World.setCell])
                have HX27q9a := Lib.hid (show Whole u27 (z1) _ _ by rw [← hu27]; exact HX26q9a.out.far (by have := HS0.out; have := HS1.out; have := HZ1c.out; have := HZ1c.out; have := HS20.out; have := HS25.out; have := HS26.out; have := HZ6c.out; have := HZ6c.out; omega) _ _)
                have HX27q9b := Lib.hid (show Whole u27 (z1 + 1) _ _ by rw [← hu27]; exact HX26q9b.out.far (by have := HS0.out; have := HS1.out; have := HZ1c.out; have := HZ1c.out; have := HS20.out; have := HS25.out; have := HS26.out; have := HZ6c.out; have := HZ6c.out; omega) _ _)
                have HX27b10 := Lib.hid (show Whole u27 (u1.heap.size) _ _ by rw [← hu27]; exact HX26b10.out.far (by have := HS0.out; have := HS1.out; have := HZ1c.out; have := HZ1c.out; have := HS20.out; have := HS25.out; have := HS26.out; have := HZ6c.out; have := HZ6c.out; omega) _ _)
                have HX27b9 := Lib.hid (show Whole u27 (u20.heap.size) _ #[.func (.func 143) #[] #[ptrV z1, ptrV (z1 + 1)]] by rw [← hu27]; exact HX26b9.out.store 0 _)
                have HX27q10a := Lib.hid (show Whole u27 (z6) _ _ by rw [← hu27]; exact HZ6a.out.far (by have := HS0.out; have := HS1.out; have := HZ1c.out; have := HZ1c.out; have := HS20.out; have := HS25.out; have := HS26.out; have := HZ6c.out; have := HZ6c.out; omega) _ _)
                have HX27q10b := Lib.hid (show Whole u27 (z6 + 1) _ _ by rw [← hu27]; exact HZ6b.out.far (by have := HS0.out; have := HS1.out; have := HZ1c.out; have := HZ1c.out; have := HS20.out; have := HS25.out; have := HS26.out; have := HZ6c.out; have := HZ6c.out; omega) _ _)
                have HOM27 := Lib.hid (show Whole u27 E.q _ _ by rw [← hu27]; exact HOM26.out.far (by have := HQ.out; have := HS0.out; have := HS1.out; have := HZ1c.out; have := HZ1c.out; have := HS20.out; have := HS25.out; have := HS26.out; have := HZ6c.out; have := HZ6c.out; omega) _ _)
                rw [hu27]
                refine hK.out _ _ hset (fun hHeld => ?_)
                clear hK K
                try simp only [List.getElem_toArray, List.getElem_cons_zero, List.getElem_cons_succ, Act.put, List.setIfInBounds_toArray, List.set_cons_zero, List.set_cons_succ]
                have HG27 := Lib.hid hset
                clear hset hu27
                refine wpAnyH_ready (rs := [9]) (by kernel_rfl) (by simp) ?_
                refine AllReadyH.cons (o := _) rfl (fun K hK => ?_) ?_
                · have l0 := (HX27b10.out.cell 0).trans (rfl : _ = some ((.nilFunc : Value))); have n0' := HX27b10.out.free 0
                  go_simp
                  clear l0 n0'
                  obtain ⟨u28, hu28⟩ : ∃ x, u27.setCell ⟨u1.heap.size, 0, none⟩ (.func (.func 143) #[] #[ptrV z6, ptrV (z6 + 1)]) = x := ⟨_, rfl⟩
                  have hset := grown_box HG27.out (by have := HG0.out.size; have := HS0.out; have := HS1.out; have := HZ1c.out; have := HZ1c.out; have := HS20.out; have := HS25.out; have := HS26.out; have := HZ6c.out; have := HZ6c.out; have := HS27.out; omega : w4.heap.size ≤ u1.heap.size) HX27b10.out.lt hu28
                  have HS28 := Lib.hid (show u28.heap.size = u27.heap.size by rw [← hu28]; simp [World.setCell])
                  have HX28q9a := Lib.hid (show Whole u28 (z1) _ _ by rw [← hu28]; exact HX27q9a.out.far (by have := HS0.out; have := HS1.out; have := HZ1c.out; have := HZ1c.out; have := HS20.out; have := HS25.out; have := HS26.out; have := HZ6c.out; have := HZ6c.out; have := HS27.out; omega) _ _)
                  have HX28q9b := Lib.hid (show Whole u28 (z1 + 1) _ _ by rw [← hu28]; exact HX27q9b.out.far (by have := HS0.out; have := HS1.out; have := HZ1c.out; have := HZ1c.out; have := HS20.out; have := HS25.out; have := HS26.out; have := HZ6c.out; have := HZ6c.out; have := HS27.out; omega) _ _)
                  have HX28b10 := Lib.hid (show Whole u28 (u1.heap.size) _ #[.func (.func 143) #[] #[ptrV z6, ptrV (z6 + 1)]] by rw [← hu28]; exact HX27b10.out.store 0 _)
                  have HX28b9 := Lib.hid (show Whole u28 (u20.heap.size) _ _ by rw [← hu28]; exact HX27b9.out.far (by have := HS0.out; have := HS1.out; have := HZ1c.out; have := HZ1c.out; have := HS20.out; have := HS25.out; have := HS26.out; have := HZ6c.out; have := HZ6c.out; have := HS27.out; omega) _ _)
                  have HX28q10a := Lib.hid (show Whole u28 (z6) _ _ by rw [← hu28]; exact HX27q10a.out.far (by have := HS0.out; have := HS1.out; have := HZ1c.out; have := HZ1c.out; have := HS20.out; have := HS25.out; have := HS26.out; have := HZ6c.out; have := HZ6c.out; have := HS27.out; omega) _ _)
                  have HX28q10b := Lib.hid (show Whole u28 (z6 + 1) _ _ by rw [← hu28]; exact HX27q10b.out.far (by have := HS0.out; have := HS1.out; have := HZ1c.out; have := HZ1c.out; have := HS20.out; have := HS25.out; have := HS26.out; have := HZ6c.out; have := HZ6c.out; have := HS27.out; omega) _ _)
                  have HOM28 := Lib.hid (show Whole u28 E.q _ _ by rw [← hu28]; exact HOM27.out.far (by have := HQ.out; have := HS0.out; have := HS1.out; have := HZ1c.out; have := HZ1c.out; have := HS20.out; have := HS25.out; have := HS26.out; have := HZ6c.out; have := HZ6c.out; have := HS27.out; omega) _ _)
                  rw [hu28]
                  refine hK.out _ _ hset (fun hHeld => ?_)
                  clear hK K
                  try simp only [List.getElem_toArray, List.getElem_cons_zero, List.getElem_cons_succ, Act.put, List.setIfInBounds_toArray, List.set_cons_zero, List.set_cons_succ]
                  have HG28 := Lib.hid hset
                  clear hset hu28
                  refine wpAnyH_done (by kernel_rfl) ?_ _
                  go_wp2
                  go_meet
                  rw [HM1.out, HM2.out]
                  exact ⟨_, rfl, _, _, _, _, rfl, rfl, HX28b9.out, HX28b10.out, HX28q9a.out, HX28q9b.out, HX28q10a.out, HX28q10b.out, by have := HS0.out; have := HS1.out; have := HZ1c.out; have := HZ1c.out; have := HS20.out; have := HS25.out; have := HS26.out; have := HZ6c.out; have := HZ6c.out; have := HS27.out; have := HS28.out; omega, by have := HS0.out; have := HS1.out; have := HZ1c.out; have := HZ1c.out; have := HS20.out; have := HS25.out; have := HS26.out; have := HZ6c.out; have := HZ6c.out; have := HS27.out; have := HS28.out; omega, by have := HS0.out; have := HS1.out; have := HZ1c.out; have := HZ1c.out; have := HS20.out; have := HS25.out; have := HS26.out; have := HZ6c.out; have := HZ6c.out; have := HS27.out; have := HS28.out; omega, by have := HS0.out; have := HS1.out; have := HZ1c.out; have := HZ1c.out; have := HS20.out; have := HS25.out; have := HS26.out; have := HZ6c.out; have := HZ6c.out; have := HS27.out; have := HS28.out; omega, HG28.out, HOM28.out⟩
                exact AllReadyH.nil
              exact AllReadyH.nil
            exact AllReadyH.nil
          exact AllReadyH.nil
        exact AllReadyH.nil
      refine AllReadyH.cons (o := _) rfl (fun K hK => ?_) ?_
      · go_simp
        refine hK.out _ _ (grown_then HG0.out ((Below.refl _ _).alloc (Nat.le_refl _) _)) (fun hHeld => ?_)
        clear hK K
        try simp only [List.getElem_toArray, List.getElem_cons_zero, List.getElem_cons_succ, Act.put, List.setIfInBounds_toArray, List.set_cons_zero, List.set_cons_succ]
        obtain ⟨u29, hu29⟩ : ∃ x, u0.alloc (.cells #[.nilFunc] 75) = x := ⟨_, rfl⟩
        rw [hu29] at hHeld ⊢
        have HG29 := Lib.hid hHeld; have HS29 := Lib.hid (show u29.heap.size = u0.heap.size + 1 by rw [← hu29]; simp)
        have HX29b9 := Lib.hid (show Whole u29 u0.heap.size 75 #[.nilFunc] by rw [← hu29]; exact heap_alloc_new u0 _)
        have HOM29 := Lib.hid (show Whole u29 E.q _ _ by rw [← hu29]; exact Whole.alloc HOM0.out _)
        clear hu29
        refine wpAnyH_ready (rs := [2, 7]) (by kernel_rfl) (by simp) ?_
        refine AllReadyH.cons (o := _) rfl (fun K hK => ?_) ?_
        · go_simp
          refine (HPUT.out m1 u29).mono ?_
          rintro e u30 ⟨z7, he, hz1, hz2, hz3, hz4⟩
          obtain rfl : e = .returned (.func (.func 143) #[] #[ptrV z7, ptrV (z7 + 1)]) := he
          have hb : u29.grownBy u30 (some E.q) := below_grown hz4
          have hz2' := hz2.lt
          have hom := HOM29.out.below hz4 HOM29.out.lt
          have HZ7a := Lib.hid hz1; have HZ7b := Lib.hid hz2; have HZ7c := Lib.hid (show u29.heap.size ≤ z7 ∧ z7 + 1 < u30.heap.size from ⟨hz3, hz2'⟩)
          clear hz1 hz2 hz3 hz4 hz2'
          have HG30 := Lib.hid (grown_trans HG29.out hb); have HS30 := Lib.hid hb.size
          have HX30b9 := Lib.hid (kp_away hb HX29b9.out (by have := HQ.out; have := HS0.out; have := HS29.out; omega))
          have HOM30 := Lib.hid hom
          clear hom
          clear hb
          go_wp2_with fail
          refine hK.out _ _ HG30.out (fun hHeld => ?_)
          clear hK K
          try simp only [List.getElem_toArray, List.getElem_cons_zero, List.getElem_cons_succ, Act.put, List.setIfInBounds_toArray, List.set_cons_zero, List.set_cons_succ]
          refine wpAnyH_ready (rs := [5, 7]) (by kernel_rfl) (by simp) ?_
          refine AllReadyH.cons (o := _) rfl (fun K hK => ?_) ?_
          · go_simp
            refine (HPUT.out m2 u30).mono ?_
            rintro e u31 ⟨z8, he, hz1, hz2, hz3, hz4⟩
            obtain rfl : e = .returned (.func (.func 143) #[] #[ptrV z8, ptrV (z8 + 1)]) := he
            have hb : u30.grownBy u31 (some E.q) := below_grown hz4
            have hz2' := hz2.lt
            have hom := HOM30.out.below hz4 HOM30.out.lt
            have HZ8a := Lib.hid hz1; have HZ8b := Lib.hid hz2; have HZ8c := Lib.hid (show u30.heap.size ≤ z8 ∧ z8 + 1 < u31.heap.size from ⟨hz3, hz2'⟩)
            clear hz1 hz2 hz3 hz4 hz2'
            have HG31 := Lib.hid (grown_trans HG30.out hb); have HS31 := Lib.hid hb.size
            have HX31b9 := Lib.hid (kp_away hb HX30b9.out (by have := HQ.out; have := HS0.out; have := HS29.out; have := HS30.out; have := HZ7c.out; have := HZ7c.out; omega))
            have HX31q9a := Lib.hid (kp_away hb HZ7a.out (by have := HQ.out; have := HS0.out; have := HS29.out; have := HS30.out; have := HZ7c.out; have := HZ7c.out; omega))
            have HX31q9b := Lib.hid (kp_away hb HZ7b.out (by have := HQ.out; have := HS0.out; have := HS29.out; have := HS30.out; have := HZ7c.out; have := HZ7c.out; omega))
            have HOM31 := Lib.hid hom
            clear hom
            clear hb
            go_wp2_with fail
            refine hK.out _ _ HG31.out (fun hHeld => ?_)
            clear hK K
            try simp only [List.getElem_toArray, List.getElem_cons_zero, List.getElem_cons_succ, Act.put, List.setIfInBounds_toArray, List.set_cons_zero, List.set_cons_succ]
            refine wpAnyH_ready (rs := [7]) (by kernel_rfl) (by simp) ?_
            refine AllReadyH.cons (o := _) rfl (fun K hK => ?_) ?_
            · go_simp
              refine hK.out _ _ (grown_then HG31.out ((Below.refl _ _).alloc (Nat.le_refl _) _)) (fun hHeld => ?_)
              clear hK K
              try simp only [List.getElem_toArray, List.getElem_cons_zero, List.getElem_cons_succ, Act.put, List.setIfInBounds_toArray, List.set_cons_zero, List.set_cons_succ]
              obtain ⟨u32, hu32⟩ : ∃ x, u31.alloc (.cells #[.nilFunc] 75) = x := ⟨_, rfl⟩
              rw [hu32] at hHeld ⊢
              have HG32 := Lib.hid hHeld; have HS32 := Lib.hid (show u32.heap.size = u31.heap.size + 1 by rw [← hu32]; simp)
              have HX32b10 := Lib.hid (show Whole u32 u31.heap.size 75 #[.nilFunc] by rw [← hu32]; exact heap_alloc_new u31 _)
              have HX32b9 := Lib.hid (show Whole u32 (u0.heap.size) _ _ by rw [← hu32]; exact Whole.alloc HX31b9.out _)
              have HX32q9a := Lib.hid (show Whole u32 (z7) _ _ by rw [← hu32]; exact Whole.alloc HX31q9a.out _)
              have HX32q9b := Lib.hid (show Whole u32 (z7 + 1) _ _ by rw [← hu32]; exact Whole.alloc HX31q9b.out _)
              have HX32q10a := Lib.hid (show Whole u32 (z8) _ _ by rw [← hu32]; exact Whole.alloc HZ8a.out _)
              have HX32q10b := Lib.hid (show Whole u32 (z8 + 1) _ _ by rw [← hu32]; exact Whole.alloc HZ8b.out _)
              have HOM32 := Lib.hid (show Whole u32 E.q _ _ by rw [← hu32]; exact Whole.alloc HOM31.out _)
              clear hu32
              refine wpAnyH_ready (rs := [8]) (by kernel_rfl) (by simp) ?_
              refine AllReadyH.cons (o := _) rfl (fun K hK => ?_) ?_
              · have l0 := (HX32b9.out.cell 0).trans (rfl : _ = some ((.nilFunc : Value))); have n0' := HX32b9.out.free 0
                go_simp
                clear l0 n0'
                obtain ⟨u33, hu33⟩ : ∃ x, u32.setCell ⟨u0.heap.size, 0, none⟩ (.func (.func 143) #[] #[ptrV z7, ptrV (z7 + 1)]) = x := ⟨_, rfl⟩
                have hset := grown_box HG32.out (by have := HG0.out.size; have := HS0.out; have := HS29.out; have := HS30.out; have := HZ7c.out; have := HZ7c.out; have := HS31.out; have := HZ8c.out; have := HZ8c.out; have := HS32.out; omega : w4.heap.size ≤ u0.heap.size) HX32b9.out.lt hu33
                have HS33 := Lib.hid (show u33.heap.size = u32.heap.size by rw [← hu33]; simp [World.setCell])
                have HX33b9 := Lib.hid (show Whole u33 (u0.heap.size) _ #[.func (.func 143) #[] #[ptrV z7, ptrV (z7 + 1)]] by rw [← hu33]; exact HX32b9.out.store 0 _)
                have HX33q9a := Lib.hid (show Whole u33 (z7) _ _ by rw [← hu33]; exact HX32q9a.out.far (by have := HS0.out; have := HS29.out; have := HS30.out; have := HZ7c.out; have := HZ7c.out; have := HS31.out; have := HZ8c.out; have := HZ8c.out; have := HS32.out; omega) _ _)
                have HX33q9b := Lib.hid (show Whole u33 (z7 + 1) _ _ by rw [← hu33]; exact HX32q9b.out.far (by have := HS0.out; have := HS29.out; have := HS30.out; have := HZ7c.out; have := HZ7c.out; have := HS31.out; have := HZ8c.out; have := HZ8c.out; have := HS32.out; omega) _ _)
                have HX33q10a := Lib.hid (show Whole u33 (z8) _ _ by rw [← hu33]; exact HX32q10a.out.far (by have := HS0.out; have := HS29.out; have := HS30.out; have := HZ7c.out; have := HZ7c.out; have := HS31.out; have := HZ8c.out; have := HZ8c.out; have := HS32.out; omega) _ _)
                have HX33q10b := Lib.hid (show Whole u33 (z8 + 1) _ _ by rw [← hu33]; exact HX32q10b.out.far (by have := HS0.out; have := HS29.out; have := HS30.out; have := HZ7c.out; have := HZ7c.out; have := HS31.out; have := HZ8c.out; have := HZ8c.out; have := HS32.out; omega) _ _)
                have HX33b10 := Lib.hid (show Whole u33 (u31.heap.size) _ _ by rw [← hu33]; exact HX32b10.out.far (by have := HS0.out; have := HS29.out; have := HS30.out; have := HZ7c.out; have := HZ7c.out; have := HS31.out; have := HZ8c.out; have := HZ8c.out; have := HS32.out; omega) _ _)
                have HOM33 := Lib.hid (show Whole u33 E.q _ _ by rw [← hu33]; exact HOM32.out.far (by have := HQ.out; have := HS0.out; have := HS29.out; have := HS30.out; have := HZ7c.out; have := HZ7c.out; have := HS31.out; have := HZ8c.out; have := HZ8c.out; have := HS32.out; omega) _ _)
                rw [hu33]
                refine hK.out _ _ hset (fun hHeld => ?_)
                clear hK K
                try simp only [List.getElem_toArray, List.getElem_cons_zero, List.getElem_cons_succ, Act.put, List.setIfInBounds_toArray, List.set_cons_zero, List.set_cons_succ]
                have HG33 := Lib.hid hset
                clear hset hu33
                refine wpAnyH_ready (rs := [9]) (by kernel_rfl) (by simp) ?_
                refine AllReadyH.cons (o := _) rfl (fun K hK => ?_) ?_
                · have l0 := (HX33b10.out.cell 0).trans (rfl : _ = some ((.nilFunc : Value))); have n0' := HX33b10.out.free 0
                  go_simp
                  clear l0 n0'
                  obtain ⟨u34, hu34⟩ : ∃ x, u33.setCell ⟨u31.heap.size, 0, none⟩ (.func (.func 143) #[] #[ptrV z8, ptrV (z8 + 1)]) = x := ⟨_, rfl⟩
                  have hset := grown_box HG33.out (by have := HG0.out.size; have := HS0.out; have := HS29.out; have := HS30.out; have := HZ7c.out; have := HZ7c.out; have := HS31.out; have := HZ8c.out; have := HZ8c.out; have := HS32.out; have := HS33.out; omega : w4.heap.size ≤ u31.heap.size) HX33b10.out.lt hu34
                  have HS34 := Lib.hid (show u34.heap.size = u33.heap.size by rw [← hu34]; simp [World.setCell])
                  have HX34b9 := Lib.hid (show Whole u34 (u0.heap.size) _ _ by rw [← hu34]; exact HX33b9.out.far (by have := HS0.out; have := HS29.out; have := HS30.out; have := HZ7c.out; have := HZ7c.out; have := HS31.out; have := HZ8c.out; have := HZ8c.out; have := HS32.out; have := HS33.out; omega) _ _)
                  have HX34q9a := Lib.hid (show Whole u34 (z7) _ _ by rw [← hu34]; exact HX33q9a.out.far (by have := HS0.out; have := HS29.out; have := HS30.out; have := HZ7c.out; have := HZ7c.out; have := HS31.out; have := HZ8c.out; have := HZ8c.out; have := HS32.out; have := HS33.out; omega) _ _)
                  have HX34q9b := Lib.hid (show Whole u34 (z7 + 1) _ _ by rw [← hu34]; exact HX33q9b.out.far (by have := HS0.out; have := HS29.out; have := HS30.out; have := HZ7c.out; have := HZ7c.out; have := HS31.out; have := HZ8c.out; have := HZ8c.out; have := HS32.out; have := HS33.out; omega) _ _)
                  have HX34q10a := Lib.hid (show Whole u34 (z8) _ _ by rw [← hu34]; exact HX33q10a.out.far (by have := HS0.out; have := HS29.out; have := HS30.out; have := HZ7c.out; have := HZ7c.out; have := HS31.out; have := HZ8c.out; have := HZ8c.out; have := HS32.out; have := HS33.out; omega) _ _)
                  have HX34q10b := Lib.hid (show Whole u34 (z8 + 1) _ _ by rw [← hu34]; exact HX33q10b.out.far (by have := HS0.out; have := HS29.out; have := HS30.out; have := HZ7c.out; have := HZ7c.out; have := HS31.out; have := HZ8c.out; have := HZ8c.out; have := HS32.out; have := HS33.out; omega) _ _)
                  have HX34b10 := Lib.hid (show Whole u34 (u31.heap.size) _ #[.func (.func 143) #[] #[ptrV z8, ptrV (z8 + 1)]] by rw [← hu34]; exact HX33b10.out.store 0 _)
                  have HOM34 := Lib.hid (show Whole u34 E.q _ _ by rw [← hu34]; exact HOM33.out.far (by have := HQ.out; have := HS0.out; have := HS29.out; have := HS30.out; have := HZ7c.out; have := HZ7c.out; have := HS31.out; have := HZ8c.out; have := HZ8c.out; have := HS32.out; have := HS33.out; omega) _ _)
                  rw [hu34]
                  refine hK.out _ _ hset (fun hHeld => ?_)
                  clear hK K
                  try simp only [List.getElem_toArray, List.getElem_cons_zero, List.getElem_cons_succ, Act.put, List.setIfInBounds_toArray, List.set_cons_zero, List.set_cons_succ]
                  have HG34 := Lib.hid hset
                  clear hset hu34
                  refine wpAnyH_done (by kernel_rfl) ?_ _
                  go_wp2
                  go_meet
                  rw [HM1.out, HM2.out]
                  exact ⟨_, rfl, _, _, _, _, rfl, rfl, HX34b9.out, HX34b10.out, HX34q9a.out, HX34q9b.out, HX34q10a.out, HX34q10b.out, by have := HS0.out; have := HS29.out; have := HS30.out; have := HZ7c.out; have := HZ7c.out; have := HS31.out; have := HZ8c.out; have := HZ8c.out; have := HS32.out; have := HS33.out; have := HS34.out; omega, by have := HS0.out; have := HS29.out; have := HS30.out; have := HZ7c.out; have := HZ7c.out; have := HS31.out; have := HZ8c.out; have := HZ8c.out; have := HS32.out; have := HS33.out; have := HS34.out; omega, by have := HS0.out; have := HS29.out; have := HS30.out; have := HZ7c.out; have := HZ7c.out; have := HS31.out; have := HZ8c.out; have := HZ8c.out; have := HS32.out; have := HS33.out; have := HS34.out; omega, by have := HS0.out; have := HS29.out; have := HS30.out; have := HZ7c.out; have := HZ7c.out; have := HS31.out; have := HZ8c.out; have := HZ8c.out; have := HS32.out; have := HS33.out; have := HS34.out; omega, HG34.out, HOM34.out⟩
                exact AllReadyH.nil
              exact AllReadyH.nil
            exact AllReadyH.nil
          refine AllReadyH.cons (o := _) rfl (fun K hK => ?_) ?_
          · go_simp
            refine hK.out _ _ (grown_then HG30.out ((Below.refl _ _).alloc (Nat.le_refl _) _)) (fun hHeld => ?_)
            clear hK K
            try simp only [List.getElem_toArray, List.getElem_cons_zero, List.getElem_cons_succ, Act.put, List.setIfInBounds_toArray, List.set_cons_zero, List.set_cons_succ]
            obtain ⟨u35, hu35⟩ : ∃ x, u30.alloc (.cells #[.nilFunc] 75) = x := ⟨_, rfl⟩
            rw [hu35] at hHeld ⊢
            have HG35 := Lib.hid hHeld; have HS35 := Lib.hid (show u35.heap.size = u30.heap.size + 1 by rw [← hu35]; simp)
            have HX35b10 := Lib.hid (show Whole u35 u30.heap.size 75 #[.nilFunc] by rw [← hu35]; exact heap_alloc_new u30 _)
            have HX35b9 := Lib.hid (show Whole u35 (u0.heap.size) _ _ by rw [← hu35]; exact Whole.alloc HX30b9.out _)
            have HX35q9a := Lib.hid (show Whole u35 (z7) _ _ by rw [← hu35]; exact Whole.alloc HZ7a.out _)
            have HX35q9b := Lib.hid (show Whole u35 (z7 + 1) _ _ by rw [← hu35]; exact Whole.alloc HZ7b.out _)
            have HOM35 := Lib.hid (show Whole u35 E.q _ _ by rw [← hu35]; exact Whole.alloc HOM30.out _)
            clear hu35
            refine wpAnyH_ready (rs := [5]) (by kernel_rfl) (by simp) ?_
            refine AllReadyH.cons (o := _) rfl (fun K hK => ?_) ?_
            · go_simp
              refine (HPUT.out m2 u35).mono ?_
              rintro e u36 ⟨z9, he, hz1, hz2, hz3, hz4⟩
              obtain rfl : e = .returned (.func (.func 143) #[] #[ptrV z9, ptrV (z9 + 1)]) := he
              have hb : u35.grownBy u36 (some E.q) := below_grown hz4
              have hz2' := hz2.lt
              have hom := HOM35.out.below hz4 HOM35.out.lt
              have HZ9a := Lib.hid hz1; have HZ9b := Lib.hid hz2; have HZ9c := Lib.hid (show u35.heap.size ≤ z9 ∧ z9 + 1 < u36.heap.size from ⟨hz3, hz2'⟩)
              clear hz1 hz2 hz3 hz4 hz2'
              have HG36 := Lib.hid (grown_trans HG35.out hb); have HS36 := Lib.hid hb.size
              have HX36b9 := Lib.hid (kp_away hb HX35b9.out (by have := HQ.out; have := HS0.out; have := HS29.out; have := HS30.out; have := HZ7c.out; have := HZ7c.out; have := HS35.out; omega))
              have HX36q9a := Lib.hid (kp_away hb HX35q9a.out (by have := HQ.out; have := HS0.out; have := HS29.out; have := HS30.out; have := HZ7c.out; have := HZ7c.out; have := HS35.out; omega))
              have HX36q9b := Lib.hid (kp_away hb HX35q9b.out (by have := HQ.out; have := HS0.out; have := HS29.out; have := HS30.out; have := HZ7c.out; have := HZ7c.out; have := HS35.out; omega))
              have HX36b10 := Lib.hid (kp_away hb HX35b10.out (by have := HQ.out; have := HS0.out; have := HS29.out; have := HS30.out; have := HZ7c.out; have := HZ7c.out; have := HS35.out; omega))
              have HOM36 := Lib.hid hom
              clear hom
              clear hb
              go_wp2_with fail
              refine hK.out _ _ HG36.out (fun hHeld => ?_)
              clear hK K
              try simp only [List.getElem_toArray, List.getElem_cons_zero, List.getElem_cons_succ, Act.put, List.setIfInBounds_toArray, List.set_cons_zero, List.set_cons_succ]
              refine wpAnyH_ready (rs := [8]) (by kernel_rfl) (by simp) ?_
              refine AllReadyH.cons (o := _) rfl (fun K hK => ?_) ?_
              · have l0 := (HX36b9.out.cell 0).trans (rfl : _ = some ((.nilFunc : Value))); have n0' := HX36b9.out.free 0
                go_simp
                clear l0 n0'
                obtain ⟨u37, hu37⟩ : ∃ x, u36.setCell ⟨u0.heap.size, 0, none⟩ (.func (.func 143) #[] #[ptrV z7, ptrV (z7 + 1)]) = x := ⟨_, rfl⟩
                have hset := grown_box HG36.out (by have := HG0.out.size; have := HS0.out; have := HS29.out; have := HS30.out; have := HZ7c.out; have := HZ7c.out; have := HS35.out; have := HS36.out; have := HZ9c.out; have := HZ9c.out; omega : w4.heap.size ≤ u0.heap.size) HX36b9.out.lt hu37
                have HS37 := Lib.hid (show u37.heap.size = u36.heap.size by rw [← hu37]; simp [World.setCell])
                have HX37b9 := Lib.hid (show Whole u37 (u0.heap.size) _ #[.func (.func 143) #[] #[ptrV z7, ptrV (z7 + 1)]] by rw [← hu37]; exact HX36b9.out.store 0 _)
                have HX37q9a := Lib.hid (show Whole u37 (z7) _ _ by rw [← hu37]; exact HX36q9a.out.far (by have := HS0.out; have := HS29.out; have := HS30.out; have := HZ7c.out; have := HZ7c.out; have := HS35.out; have := HS36.out; have := HZ9c.out; have := HZ9c.out; omega) _ _)
                have HX37q9b := Lib.hid (show Whole u37 (z7 + 1) _ _ by rw [← hu37]; exact HX36q9b.out.far (by have := HS0.out; have := HS29.out; have := HS30.out; have := HZ7c.out; have := HZ7c.out; have := HS35.out; have := HS36.out; have := HZ9c.out; have := HZ9c.out; omega) _ _)
                have HX37b10 := Lib.hid (show Whole u37 (u30.heap.size) _ _ by rw [← hu37]; exact HX36b10.out.far (by have := HS0.out; have := HS29.out; have := HS30.out; have := HZ7c.out; have := HZ7c.out; have := HS35.out; have := HS36.out; have := HZ9c.out; have := HZ9c.out; omega) _ _)
                have HX37q10a := Lib.hid (show Whole u37 (z9) _ _ by rw [← hu37]; exact HZ9a.out.far (by have := HS0.out; have := HS29.out; have := HS30.out; have := HZ7c.out; have := HZ7c.out; have := HS35.out; have := HS36.out; have := HZ9c.out; have := HZ9c.out; omega) _ _)
                have HX37q10b := Lib.hid (show Whole u37 (z9 + 1) _ _ by rw [← hu37]; exact HZ9b.out.far (by have := HS0.out; have := HS29.out; have := HS30.out; have := HZ7c.out; have := HZ7c.out; have := HS35.out; have := HS36.out; have := HZ9c.out; have := HZ9c.out; omega) _ _)
                have HOM37 := Lib.hid (show Whole u37 E.q _ _ by rw [← hu37]; exact HOM36.out.far (by have := HQ.out; have := HS0.out; have := HS29.out; have := HS30.out; have := HZ7c.out; have := HZ7c.out; have := HS35.out; have := HS36.out; have := HZ9c.out; have := HZ9c.out; omega) _ _)
                rw [hu37]
                refine hK.out _ _ hset (fun hHeld => ?_)
                clear hK K
                try simp only [List.getElem_toArray, List.getElem_cons_zero, List.getElem_cons_succ, Act.put, List.setIfInBounds_toArray, List.set_cons_zero, List.set_cons_succ]
                have HG37 := Lib.hid hset
                clear hset hu37
                refine wpAnyH_ready (rs := [9]) (by kernel_rfl) (by simp) ?_
                refine AllReadyH.cons (o := _) rfl (fun K hK => ?_) ?_
                · have l0 := (HX37b10.out.cell 0).trans (rfl : _ = some ((.nilFunc : Value))); have n0' := HX37b10.out.free 0
                  go_simp
                  clear l0 n0'
                  obtain ⟨u38, hu38⟩ : ∃ x, u37.setCell ⟨u30.heap.size, 0, none⟩ (.func (.func 143) #[] #[ptrV z9, ptrV (z9 + 1)]) = x := ⟨_, rfl⟩
                  have hset := grown_box HG37.out (by have := HG0.out.size; have := HS0.out; have := HS29.out; have := HS30.out; have := HZ7c.out; have := HZ7c.out; have := HS35.out; have := HS36.out; have := HZ9c.out; have := HZ9c.out; have := HS37.out; omega : w4.heap.size ≤ u30.heap.size) HX37b10.out.lt hu38
                  have HS38 := Lib.hid (show u38.heap.size = u37.heap.size by rw [← hu38]; simp [World.setCell])
                  have HX38b9 := Lib.hid (show Whole u38 (u0.heap.size) _ _ by rw [← hu38]; exact HX37b9.out.far (by have := HS0.out; have := HS29.out; have := HS30.out; have := HZ7c.out; have := HZ7c.out; have := HS35.out; have := HS36.out; have := HZ9c.out; have := HZ9c.out; have := HS37.out; omega) _ _)
                  have HX38q9a := Lib.hid (show Whole u38 (z7) _ _ by rw [← hu38]; exact HX37q9a.out.far (by have := HS0.out; have := HS29.out; have := HS30.out; have := HZ7c.out; have := HZ7c.out; have := HS35.out; have := HS36.out; have := HZ9c.out; have := HZ9c.out; have := HS37.out; omega) _ _)
                  have HX38q9b := Lib.hid (show Whole u38 (z7 + 1) _ _ by rw [← hu38]; exact HX37q9b.out.far (by have := HS0.out; have := HS29.out; have := HS30.out; have := HZ7c.out; have := HZ7c.out; have := HS35.out; have := HS36.out; have := HZ9c.out; have := HZ9c.out; have := HS37.out; omega) _ _)
                  have HX38b10 := Lib.hid (show Whole u38 (u30.heap.size) _ #[.func (.func 143) #[] #[ptrV z9, ptrV (z9 + 1)]] by rw [← hu38]; exact HX37b10.out.store 0 _)
                  have HX38q10a := Lib.hid (show Whole u38 (z9) _ _ by rw [← hu38]; exact HX37q10a.out.far (by have := HS0.out; have := HS29.out; have := HS30.out; have := HZ7c.out; have := HZ7c.out; have := HS35.out; have := HS36.out; have := HZ9c.out; have := HZ9c.out; have := HS37.out; omega) _ _)
                  have HX38q10b := Lib.hid (show Whole u38 (z9 + 1) _ _ by rw [← hu38]; exact HX37q10b.out.far (by have := HS0.out; have := HS29.out; have := HS30.out; have := HZ7c.out; have := HZ7c.out; have := HS35.out; have := HS36.out; have := HZ9c.out; have := HZ9c.out; have := HS37.out; omega) _ _)
                  have HOM38 := Lib.hid (show Whole u38 E.q _ _ by rw [← hu38]; exact HOM37.out.far (by have := HQ.out; have := HS0.out; have := HS29.out; have := HS30.out; have := HZ7c.out; have := HZ7c.out; have := HS35.out; have := HS36.out; have := HZ9c.out; have := HZ9c.out; have := HS37.out; omega) _ _)
                  rw [hu38]
                  refine hK.out _ _ hset (fun hHeld => ?_)
                  clear hK K
                  try simp only [List.getElem_toArray, List.getElem_cons_zero, List.getElem_cons_succ, Act.put, List.setIfInBounds_toArray, List.set_cons_zero, List.set_cons_succ]
                  have HG38 := Lib.hid hset
                  clear hset hu38
                  refine wpAnyH_done (by kernel_rfl) ?_ _
                  go_wp2
                  go_meet
                  rw [HM1.out, HM2.out]
                  exact ⟨_, rfl, _, _, _, _, rfl, rfl, HX38b9.out, HX38b10.out, HX38q9a.out, HX38q9b.out, HX38q10a.out, HX38q10b.out, by have := HS0.out; have := HS29.out; have := HS30.out; have := HZ7c.out; have := HZ7c.out; have := HS35.out; have := HS36.out; have := HZ9c.out; have := HZ9c.out; have := HS37.out; have := HS38.out; omega, by have := HS0.out; have := HS29.out; have := HS30.out; have := HZ7c.out; have := HZ7c.out; have := HS35.out; have := HS36.out; have := HZ9c.out; have := HZ9c.out; have := HS37.out; have := HS38.out; omega, by have := HS0.out; have := HS29.out; have := HS30.out; have := HZ7c.out; have := HZ7c.out; have := HS35.out; have := HS36.out; have := HZ9c.out; have := HZ9c.out; have := HS37.out; have := HS38.out; omega, by have := HS0.out; have := HS29.out; have := HS30.out; have := HZ7c.out; have := HZ7c.out; have := HS35.out; have := HS36.out; have := HZ9c.out; have := HZ9c.out; have := HS37.out; have := HS38.out; omega, HG38.out, HOM38.out⟩
                exact AllReadyH.nil
              exact AllReadyH.nil
            exact AllReadyH.nil
          exact AllReadyH.nil
        refine AllReadyH.cons (o := _) rfl (fun K hK => ?_) ?_
        · go_simp
          refine hK.out _ _ (grown_then HG29.out ((Below.refl _ _).alloc (Nat.le_refl _) _)) (fun hHeld => ?_)
          clear hK K
          try simp only [List.getElem_toArray, List.getElem_cons_zero, List.getElem_cons_succ, Act.put, List.setIfInBounds_toArray, List.set_cons_zero, List.set_cons_succ]
          obtain ⟨u39, hu39⟩ : ∃ x, u29.alloc (.cells #[.nilFunc] 75) = x := ⟨_, rfl⟩
          rw [hu39] at hHeld ⊢
          have HG39 := Lib.hid hHeld; have HS39 := Lib.hid (show u39.heap.size = u29.heap.size + 1 by rw [← hu39]; simp)
          have HX39b10 := Lib.hid (show Whole u39 u29.heap.size 75 #[.nilFunc] by rw [← hu39]; exact heap_alloc_new u29 _)
          have HX39b9 := Lib.hid (show Whole u39 (u0.heap.size) _ _ by rw [← hu39]; exact Whole.alloc HX29b9.out _)
          have HOM39 := Lib.hid (show Whole u39 E.q _ _ by rw [← hu39]; exact Whole.alloc HOM29.out _)
          clear hu39
          refine wpAnyH_ready (rs := [2]) (by kernel_rfl) (by simp) ?_
          refine AllReadyH.cons (o := _) rfl (fun K hK => ?_) ?_
          · go_simp
            refine (HPUT.out m1 u39).mono ?_
            rintro e u40 ⟨z10, he, hz1, hz2, hz3, hz4⟩
            obtain rfl : e = .returned (.func (.func 143) #[] #[ptrV z10, ptrV (z10 + 1)]) := he
            have hb : u39.grownBy u40 (some E.q) := below_grown hz4
            have hz2' := hz2.lt
            have hom := HOM39.out.below hz4 HOM39.out.lt
            have HZ10a := Lib.hid hz1; have HZ10b := Lib.hid hz2; have HZ10c := Lib.hid (show u39.heap.size ≤ z10 ∧ z10 + 1 < u40.heap.size from ⟨hz3, hz2'⟩)
            clear hz1 hz2 hz3 hz4 hz2'
            have HG40 := Lib.hid (grown_trans HG39.out hb); have HS40 := Lib.hid hb.size
            have HX40b9 := Lib.hid (kp_away hb HX39b9.out (by have := HQ.out; have := HS0.out; have := HS29.out; have := HS39.out; omega))
            have HX40b10 := Lib.hid (kp_away hb HX39b10.out (by have := HQ.out; have := HS0.out; have := HS29.out; have := HS39.out; omega))
            have HOM40 := Lib.hid hom
            clear hom
            clear hb
            go_wp2_with fail
            refine hK.out _ _ HG40.out (fun hHeld => ?_)
            clear hK K
            try simp only [List.getElem_toArray, List.getElem_cons_zero, List.getElem_cons_succ, Act.put, List.setIfInBounds_toArray, List.set_cons_zero, List.set_cons_succ]
            refine wpAnyH_ready (rs := [5]) (by kernel_rfl) (by simp) ?_
            refine AllReadyH.cons (o := _) rfl (fun K hK => ?_) ?_
            · go_simp
              refine (HPUT.out m2 u40).mono ?_
              rintro e u41 ⟨z11, he, hz1, hz2, hz3, hz4⟩
              obtain rfl : e = .returned (.func (.func 143) #[] #[ptrV z11, ptrV (z11 + 1)]) := he
              have hb : u40.grownBy u41 (some E.q) := below_grown hz4
              have hz2' := hz2.lt
              have hom := HOM40.out.below hz4 HOM40.out.lt
              have HZ11a := Lib.hid hz1; have HZ11b := Lib.hid hz2; have HZ11c := Lib.hid (show u40.heap.size ≤ z11 ∧ z11 + 1 < u41.heap.size from ⟨hz3, hz2'⟩)
              clear hz1 hz2 hz3 hz4 hz2'
              have HG41 := Lib.hid (grown_trans HG40.out hb); have HS41 := Lib.hid hb.size
              have HX41b9 := Lib.hid (kp_away hb HX40b9.out (by have := HQ.out; have := HS0.out; have := HS29.out; have := HS39.out; have := HS40.out; have := HZ10c.out; have := HZ10c.out; omega))
              have HX41b10 := Lib.hid (kp_away hb HX40b10.out (by have := HQ.out; have := HS0.out; have := HS29.out; have := HS39.out; have := HS40.out; have := HZ10c.out; have := HZ10c.out; omega))
              have HX41q9a := Lib.hid (kp_away hb HZ10a.out (by have := HQ.out; have := HS0.out; have := HS29.out; have := HS39.out; have := HS40.out; have := HZ10c.out; have := HZ10c.out; omega))
              have HX41q9b := Lib.hid (kp_away hb HZ10b.out (by have := HQ.out; have := HS0.out; have := HS29.out; have := HS39.out; have := HS40.out; have := HZ10c.out; have := HZ10c.out; omega))
              have HOM41 := Lib.hid hom
              clear hom
              clear hb
              go_wp2_with fail
              refine hK.out _ _ HG41.out (fun hHeld => ?_)
              clear hK K
              try simp only [List.getElem_toArray, List.getElem_cons_zero, List.getElem_cons_succ, Act.put, List.setIfInBounds_toArray, List.set_cons_zero, List.set_cons_succ]
              refine wpAnyH_ready (rs := [8]) (by kernel_rfl) (by simp) ?_
              refine AllReadyH.cons (o := _) rfl (fun K hK => ?_) ?_
              · have l0 := (HX41b9.out.cell 0).trans (rfl : _ = some ((.nilFunc : Value))); have n0' := HX41b9.out.free 0
                go_simp
                clear l0 n0'
                obtain ⟨u42, hu42⟩ : ∃ x, u41.setCell ⟨u0.heap.size, 0, none⟩ (.func (.func 143) #[] #[ptrV z10, ptrV (z10 + 1)]) = x := ⟨_, rfl⟩
                have hset := grown_box HG41.out (by have := HG0.out.size; have := HS0.out; have := HS29.out; have := HS39.out; have := HS40.out; have := HZ10c.out; have := HZ10c.out; have := HS41.out; have := HZ11c.out; have := HZ11c.out; omega : w4.heap.size ≤ u0.heap.size) HX41b9.out.lt hu42
                have HS42 := Lib.hid (show u42.heap.size = u41.heap.size by rw [← hu42]; simp [World.setCell])
                have HX42b9 := Lib.hid (show Whole u42 (u0.heap.size) _ #[.func (.func 143) #[] #[ptrV z10, ptrV (z10 + 1)]] by rw [← hu42]; exact HX41b9.out.store 0 _)
                have HX42b10 := Lib.hid (show Whole u42 (u29.heap.size) _ _ by rw [← hu42]; exact HX41b10.out.far (by have := HS0.out; have := HS29.out; have := HS39.out; have := HS40.out; have := HZ10c.out; have := HZ10c.out; have := HS41.out; have := HZ11c.out; have := HZ11c.out; omega) _ _)
                have HX42q9a := Lib.hid (show Whole u42 (z10) _ _ by rw [← hu42]; exact HX41q9a.out.far (by have := HS0.out; have := HS29.out; have := HS39.out; have := HS40.out; have := HZ10c.out; have := HZ10c.out; have := HS41.out; have := HZ11c.out; have := HZ11c.out; omega) _ _)
                have HX42q9b := Lib.hid (show Whole u42 (z10 + 1) _ _ by rw [← hu42]; exact HX41q9b.out.far (by have := HS0.out; have := HS29.out; have := HS39.out; have := HS40.out; have := HZ10c.out; have := HZ10c.out; have := HS41.out; have := HZ11c.out; have := HZ11c.out; omega) _ _)
                have HX42q10a := Lib.hid (show Whole u42 (z11) _ _ by rw [← hu42]; exact HZ11a.out.far (by have := HS0.out; have := HS29.out; have := HS39.out; have := HS40.out; have := HZ10c.out; have := HZ10c.out; have := HS41.out; have := HZ11c.out; have := HZ11c.out; omega) _ _)
                have HX42q10b := Lib.hid (show Whole u42 (z11 + 1) _ _ by rw [← hu42]; exact HZ11b.out.far (by have := HS0.out; have := HS29.out; have := HS39.out; have := HS40.out; have := HZ10c.out; have := HZ10c.out; have := HS41.out; have := HZ11c.out; have := HZ11c.out; omega) _ _)
                have HOM42 := Lib.hid (show Whole u42 E.q _ _ by rw [← hu42]; exact HOM41.out.far (by have := HQ.out; have := HS0.out; have := HS29.out; have := HS39.out; have := HS40.out; have := HZ10c.out; have := HZ10c.out; have := HS41.out; have := HZ11c.out; have := HZ11c.out; omega) _ _)
                rw [hu42]
                refine hK.out _ _ hset (fun hHeld => ?_)
                clear hK K
                try simp only [List.getElem_toArray, List.getElem_cons_zero, List.getElem_cons_succ, Act.put, List.setIfInBounds_toArray, List.set_cons_zero, List.set_cons_succ]
                have HG42 := Lib.hid hset
                clear hset hu42
                refine wpAnyH_ready (rs := [9]) (by kernel_rfl) (by simp) ?_
                refine AllReadyH.cons (o := _) rfl (fun K hK => ?_) ?_
                · have l0 := (HX42b10.out.cell 0).trans (rfl : _ = some ((.nilFunc : Value))); have n0' := HX42b10.out.free 0
                  go_simp
                  clear l0 n0'
                  obtain ⟨u43, hu43⟩ : ∃ x, u42.setCell ⟨u29.heap.size, 0, none⟩ (.func (.func 143) #[] #[ptrV z11, ptrV (z11 + 1)]) = x := ⟨_, rfl⟩
                  have hset := grown_box HG42.out (by have := HG0.out.size; have := HS0.out; have := HS29.out; have := HS39.out; have := HS40.out; have := HZ10c.out; have := HZ10c.out; have := HS41.out; have := HZ11c.out; have := HZ11c.out; have := HS42.out; omega : w4.heap.size ≤ u29.heap.size) HX42b10.out.lt hu43
                  have HS43 := Lib.hid (show u43.heap.size = u42.heap.size by rw [← hu43]; simp [World.setCell])
                  have HX43b9 := Lib.hid (show Whole u43 (u0.heap.size) _ _ by rw [← hu43]; exact HX42b9.out.far (by have := HS0.out; have := HS29.out; have := HS39.out; have := HS40.out; have := HZ10c.out; have := HZ10c.out; have := HS41.out; have := HZ11c.out; have := HZ11c.out; have := HS42.out; omega) _ _)
                  have HX43b10 := Lib.hid (show Whole u43 (u29.heap.size) _ #[.func (.func 143) #[] #[ptrV z11, ptrV (z11 + 1)]] by rw [← hu43]; exact HX42b10.out.store 0 _)
                  have HX43q9a := Lib.hid (show Whole u43 (z10) _ _ by rw [← hu43]; exact HX42q9a.out.far (by have := HS0.out; have := HS29.out; have := HS39.out; have := HS40.out; have := HZ10c.out; have := HZ10c.out; have := HS41.out; have := HZ11c.out; have := HZ11c.out; have := HS42.out; omega) _ _)
                  have HX43q9b := Lib.hid (show Whole u43 (z10 + 1) _ _ by rw [← hu43]; exact HX42q9b.out.far (by have := HS0.out; have := HS29.out; have := HS39.out; have := HS40.out; have := HZ10c.out; have := HZ10c.out; have := HS41.out; have := HZ11c.out; have := HZ11c.out; have := HS42.out; omega) _ _)
                  have HX43q10a := Lib.hid (show Whole u43 (z11) _ _ by rw [← hu43]; exact HX42q10a.out.far (by have := HS0.out; have := HS29.out; have := HS39.out; have := HS40.out; have := HZ10c.out; have := HZ10c.out; have := HS41.out; have := HZ11c.out; have := HZ11c.out; have := HS42.out; omega) _ _)
                  have HX43q10b := Lib.hid (show Whole u43 (z11 + 1) _ _ by rw [← hu43]; exact HX42q10b.out.far (by have := HS0.out; have := HS29.out; have := HS39.out; have := HS40.out; have := HZ10c.out; have := HZ10c.out; have := HS41.out; have := HZ11c.out; have := HZ11c.out; have := HS42.out; omega) _ _)
                  have HOM43 := Lib.hid (show Whole u43 E.q _ _ by rw [← hu43]; exact HOM42.out.far (by have := HQ.out; have := HS0.out; have := HS29.out; have := HS39.out; have := HS40.out; have := HZ10c.out; have := HZ10c.out; have := HS41.out; have := HZ11c.out; have := HZ11c.out; have := HS42.out; omega) _ _)
                  rw [hu43]
                  refine hK.out _ _ hset (fun hHeld => ?_)
                  clear hK K
                  try simp only [List.getElem_toArray, List.getElem_cons_zero, List.getElem_cons_succ, Act.put, List.setIfInBounds_toArray, List.set_cons_zero, List.set_cons_succ]
                  have HG43 := Lib.hid hset
                  clear hset hu43
                  refine wpAnyH_done (by kernel_rfl) ?_ _
                  go_wp2
                  go_meet
                  rw [HM1.out, HM2.out]
                  exact ⟨_, rfl, _, _, _, _, rfl, rfl, HX43b9.out, HX43b10.out, HX43q9a.out, HX43q9b.out, HX43q10a.out, HX43q10b.out, by have := HS0.out; have := HS29.out; have := HS39.out; have := HS40.out; have := HZ10c.out; have := HZ10c.out; have := HS41.out; have := HZ11c.out; have := HZ11c.out; have := HS42.out; have := HS43.out; omega, by have := HS0.out; have := HS29.out; have := HS39.out; have := HS40.out; have := HZ10c.out; have := HZ10c.out; have := HS41.out; have := HZ11c.out; have := HZ11c.out; have := HS42.out; have := HS43.out; omega, by have := HS0.out; have := HS29.out; have := HS39.out; have := HS40.out; have := HZ10c.out; have := HZ10c.out; have := HS41.out; have := HZ11c.out; have := HZ11c.out; have := HS42.out; have := HS43.out; omega, by have := HS0.out; have := HS29.out; have := HS39.out; have := HS40.out; have := HZ10c.out; have := HZ10c.out; have := HS41.out; have := HZ11c.out; have := HZ11c.out; have := HS42.out; have := HS43.out; omega, HG43.out, HOM43.out⟩
                exact AllReadyH.nil
              exact AllReadyH.nil
            exact AllReadyH.nil
          exact AllReadyH.nil
        exact AllReadyH.nil
      refine AllReadyH.cons (o := _) rfl (fun K hK => ?_) ?_
      · go_simp
        refine hK.out _ _ (grown_then HG0.out ((Below.refl _ _).alloc (Nat.le_refl _) _)) (fun hHeld => ?_)
        clear hK K
        try simp only [List.getElem_toArray, List.getElem_cons_zero, List.getElem_cons_succ, Act.put, List.setIfInBounds_toArray, List.set_cons_zero, List.set_cons_succ]
        obtain ⟨u44, hu44⟩ : ∃ x, u0.alloc (.cells #[.nilFunc] 75) = x := ⟨_, rfl⟩
        rw [hu44] at hHeld ⊢
        have HG44 := Lib.hid hHeld; have HS44 := Lib.hid (show u44.heap.size = u0.heap.size + 1 by rw [← hu44]; simp)
        have HX44b10 := Lib.hid (show Whole u44 u0.heap.size 75 #[.nilFunc] by rw [← hu44]; exact heap_alloc_new u0 _)
        have HOM44 := Lib.hid (show Whole u44 E.q _ _ by rw [← hu44]; exact Whole.alloc HOM0.out _)
        clear hu44
        refine wpAnyH_ready (rs := [2, 6]) (by kernel_rfl) (by simp) ?_
        refine AllReadyH.cons (o := _) rfl (fun K hK => ?_) ?_
        · go_simp
          refine (HPUT.out m1 u44).mono ?_
          rintro e u45 ⟨z12, he, hz1, hz2, hz3, hz4⟩
          obtain rfl : e = .returned (.func (.func 143) #[] #[ptrV z12, ptrV (z12 + 1)]) := he
          have hb : u44.grownBy u45 (some E.q) := below_grown hz4
          have hz2' := hz2.lt
          have hom := HOM44.out.below hz4 HOM44.out.lt
          have HZ12a := Lib.hid hz1; have HZ12b := Lib.hid hz2; have HZ12c := Lib.hid (show u44.heap.size ≤ z12 ∧ z12 + 1 < u45.heap.size from ⟨hz3, hz2'⟩)
          clear hz1 hz2 hz3 hz4 hz2'
          have HG45 := Lib.hid (grown_trans HG44.out hb); have HS45 := Lib.hid hb.size
          have HX45b10 := Lib.hid (kp_away hb HX44b10.out (by have := HQ.out; have := HS0.out; have := HS44.out; omega))
          have HOM45 := Lib.hid hom
          clear hom
          clear hb
          go_wp2_with fail
          refine hK.out _ _ HG45.out (fun hHeld => ?_)
          clear hK K
          try simp only [List.getElem_toArray, List.getElem_cons_zero, List.getElem_cons_succ, Act.put, List.setIfInBounds_toArray, List.set_cons_zero, List.set_cons_succ]
          refine wpAnyH_ready (rs := [5, 6]) (by kernel_rfl) (by simp) ?_
          refine AllReadyH.cons (o := _) rfl (fun K hK => ?_) ?_
          · go_simp
            refine (HPUT.out m2 u45).mono ?_
            rintro e u46 ⟨z13, he, hz1, hz2, hz3, hz4⟩
            obtain rfl : e = .returned (.func (.func 143) #[] #[ptrV z13, ptrV (z13 + 1)]) := he
            have hb : u45.grownBy u46 (some E.q) := below_grown hz4
            have hz2' := hz2.lt
            have hom := HOM45.out.below hz4 HOM45.out.lt
            have HZ13a := Lib.hid hz1; have HZ13b := Lib.hid hz2; have HZ13c := Lib.hid (show u45.heap.size ≤ z13 ∧ z13 + 1 < u46.heap.size from ⟨hz3, hz2'⟩)
            clear hz1 hz2 hz3 hz4 hz2'
            have HG46 := Lib.hid (grown_trans HG45.out hb); have HS46 := Lib.hid hb.size
            have HX46b10 := Lib.hid (kp_away hb HX45b10.out (by have := HQ.out; have := HS0.out; have := HS44.out; have := HS45.out; have := HZ12c.out; have := HZ12c.out; omega))
            have HX46q9a := Lib.hid (kp_away hb HZ12a.out (by have := HQ.out; have := HS0.out; have := HS44.out; have := HS45.out; have := HZ12c.out; have := HZ12c.out; omega))
            have HX46q9b := Lib.hid (kp_away hb HZ12b.out (by have := HQ.out; have := HS0.out; have := HS44.out; have := HS45.out; have := HZ12c.out; have := HZ12c.out; omega))
            have HOM46 := Lib.hid hom
            clear hom
            clear hb
            go_wp2_with fail
            refine hK.out _ _ HG46.out (fun hHeld => ?_)
            clear hK K
            try simp only [List.getElem_toArray, List.getElem_cons_zero, List.getElem_cons_succ, Act.put, List.setIfInBounds_toArray, List.set_cons_zero, List.set_cons_succ]
            refine wpAnyH_ready (rs := [6]) (by kernel_rfl) (by simp) ?_
            refine AllReadyH.cons (o := _) rfl (fun K hK => ?_) ?_
            · go_simp
              refine hK.out _ _ (grown_then HG46.out ((Below.refl _ _).alloc (Nat.le_refl _) _)) (fun hHeld => ?_)
              clear hK K
              try simp only [List.getElem_toArray, List.getElem_cons_zero, List.getElem_cons_succ, Act.put, List.setIfInBounds_toArray, List.set_cons_zero, List.set_cons_succ]
              obtain ⟨u47, hu47⟩ : ∃ x, u46.alloc (.cells #[.nilFunc] 75) = x := ⟨_, rfl⟩
              rw [hu47] at hHeld ⊢
              have HG47 := Lib.hid hHeld; have HS47 := Lib.hid (show u47.heap.size = u46.heap.size + 1 by rw [← hu47]; simp)
              have HX47b9 := Lib.hid (show Whole u47 u46.heap.size 75 #[.nilFunc] by rw [← hu47]; exact heap_alloc_new u46 _)
              have HX47b10 := Lib.hid (show Whole u47 (u0.heap.size) _ _ by rw [← hu47]; exact Whole.alloc HX46b10.out _)
              have HX47q9a := Lib.hid (show Whole u47 (z12) _ _ by rw [← hu47]; exact Whole.alloc HX46q9a.out _)
              have HX47q9b := Lib.hid (show Whole u47 (z12 + 1) _ _ by rw [← hu47]; exact Whole.alloc HX46q9b.out _)
              have HX47q10a := Lib.hid (show Whole u47 (z13) _ _ by rw [← hu47]; exact Whole.alloc HZ13a.out _)
              have HX47q10b := Lib.hid (show Whole u47 (z13 + 1) _ _ by rw [← hu47]; exact Whole.alloc HZ13b.out _)
              have HOM47 := Lib.hid (show Whole u47 E.q _ _ by rw [← hu47]; exact Whole.alloc HOM46.out _)
              clear hu47
              refine wpAnyH_ready (rs := [8]) (by kernel_rfl) (by simp) ?_
              refine AllReadyH.cons (o := _) rfl (fun K hK => ?_) ?_
              · have l0 := (HX47b9.out.cell 0).trans (rfl : _ = some ((.nilFunc : Value))); have n0' := HX47b9.out.free 0
                go_simp
                clear l0 n0'
                obtain ⟨u48, hu48⟩ : ∃ x, u47.setCell ⟨u46.heap.size, 0, none⟩ (.func (.func 143) #[] #[ptrV z12, ptrV (z12 + 1)]) = x := ⟨_, rfl⟩
                have hset := grown_box HG47.out (by have := HG0.out.size; have := HS0.out; have := HS44.out; have := HS45.out; have := HZ12c.out; have := HZ12c.out; have := HS46.out; have := HZ13c.out; have := HZ13c.out; have := HS47.out; omega : w4.heap.size ≤ u46.heap.size) HX47b9.out.lt hu48
                have HS48 := Lib.hid (show u48.heap.size = u47.heap.size by rw [← hu48]; simp [World.setCell])
                have HX48b10 := Lib.hid (show Whole u48 (u0.heap.size) _ _ by rw [← hu48]; exact HX47b10.out.far (by have := HS0.out; have := HS44.out; have := HS45.out; have := HZ12c.out; have := HZ12c.out; have := HS46.out; have := HZ13c.out; have := HZ13c.out; have := HS47.out; omega) _ _)
                have HX48q9a := Lib.hid (show Whole u48 (z12) _ _ by rw [← hu48]; exact HX47q9a.out.far (by have := HS0.out; have := HS44.out; have := HS45.out; have := HZ12c.out; have := HZ12c.out; have := HS46.out; have := HZ13c.out; have := HZ13c.out; have := HS47.out; omega) _ _)
                have HX48q9b := Lib.hid (show Whole u48 (z12 + 1) _ _ by rw [← hu48]; exact HX47q9b.out.far (by have := HS0.out; have := HS44.out; have := HS45.out; have := HZ12c.out; have := HZ12c.out; have := HS46.out; have := HZ13c.out; have := HZ13c.out; have := HS47.out; omega) _ _)
                have HX48q10a := Lib.hid (show Whole u48 (z13) _ _ by rw [← hu48]; exact HX47q10a.out.far (by have := HS0.out; have := HS44.out; have := HS45.out; have := HZ12c.out; have := HZ12c.out; have := HS46.out; have := HZ13c.out; have := HZ13c.out; have := HS47.out; omega) _ _)
                have HX48q10b := Lib.hid (show Whole u48 (z13 + 1) _ _ by rw [← hu48]; exact HX47q10b.out.far (by have := HS0.out; have := HS44.out; have := HS45.out; have := HZ12c.out; have := HZ12c.out; have := HS46.out; have := HZ13c.out; have := HZ13c.out; have := HS47.out; omega) _ _)
                have HX48b9 := Lib.hid (show Whole u48 (u46.heap.size) _ #[.func (.func 143) #[] #[ptrV z12, ptrV (z12 + 1)]] by rw [← hu48]; exact HX47b9.out.store 0 _)
                have HOM48 := Lib.hid (show Whole u48 E.q _ _ by rw [← hu48]; exact HOM47.out.far (by have := HQ.out; have := HS0.out; have := HS44.out; have := HS45.out; have := HZ12c.out; have := HZ12c.out; have := HS46.out; have := HZ13c.out; have := HZ13c.out; have := HS47.out; omega) _ _)
                rw [hu48]
                refine hK.out _ _ hset (fun hHeld => ?_)
                clear hK K
                try simp only [List.getElem_toArray, List.getElem_cons_zero, List.getElem_cons_succ, Act.put, List.setIfInBounds_toArray, List.set_cons_zero, List.set_cons_succ]
                have HG48 := Lib.hid hset
                clear hset hu48
                refine wpAnyH_ready (rs := [9]) (by kernel_rfl) (by simp) ?_
                refine AllReadyH.cons (o := _) rfl (fun K hK => ?_) ?_
                · have l0 := (HX48b10.out.cell 0).trans (rfl : _ = some ((.nilFunc : Value))); have n0' := HX48b10.out.free 0
                  go_simp
                  clear l0 n0'
                  obtain ⟨u49, hu49⟩ : ∃ x, u48.setCell ⟨u0.heap.size, 0, none⟩ (.func (.func 143) #[] #[ptrV z13, ptrV (z13 + 1)]) = x := ⟨_, rfl⟩
                  have hset := grown_box HG48.out (by have := HG0.out.size; have := HS0.out; have := HS44.out; have := HS45.out; have := HZ12c.out; have := HZ12c.out; have := HS46.out; have := HZ13c.out; have := HZ13c.out; have := HS47.out; have := HS48.out; omega : w4.heap.size ≤ u0.heap.size) HX48b10.out.lt hu49
                  have HS49 := Lib.hid (show u49.heap.size = u48.heap.size by rw [← hu49]; simp [World.setCell])
                  have HX49b10 := Lib.hid (show Whole u49 (u0.heap.size) _ #[.func (.func 143) #[] #[ptrV z13, ptrV (z13 + 1)]] by rw [← hu49]; exact HX48b10.out.store 0 _)
                  have HX49q9a := Lib.hid (show Whole u49 (z12) _ _ by rw [← hu49]; exact HX48q9a.out.far (by have := HS0.out; have := HS44.out; have := HS45.out; have := HZ12c.out; have := HZ12c.out; have := HS46.out; have := HZ13c.out; have := HZ13c.out; have := HS47.out; have := HS48.out; omega) _ _)
                  have HX49q9b := Lib.hid (show Whole u49 (z12 + 1) _ _ by rw [← hu49]; exact HX48q9b.out.far (by have := HS0.out; have := HS44.out; have := HS45.out; have := HZ12c.out; have := HZ12c.out; have := HS46.out; have := HZ13c.out; have := HZ13c.out; have := HS47.out; have := HS48.out; omega) _ _)
                  have HX49q10a := Lib.hid (show Whole u49 (z13) _ _ by rw [← hu49]; exact HX48q10a.out.far (by have := HS0.out; have := HS44.out; have := HS45.out; have := HZ12c.out; have := HZ12c.out; have := HS46.out; have := HZ13c.out; have := HZ13c.out; have := HS47.out; have := HS48.out; omega) _ _)
                  have HX49q10b := Lib.hid (show Whole u49 (z13 + 1) _ _ by rw [← hu49]; exact HX48q10b.out.far (by have := HS0.out; have := HS44.out; have := HS45.out; have := HZ12c.out; have := HZ12c.out; have := HS46.out; have := HZ13c.out; have := HZ13c.out; have := HS47.out; have := HS48.out; omega) _ _)
                  have HX49b9 := Lib.hid (show Whole u49 (u46.heap.size) _ _ by rw [← hu49]; exact HX48b9.out.far (by have := HS0.out; have := HS44.out; have := HS45.out; have := HZ12c.out; have := HZ12c.out; have := HS46.out; have := HZ13c.out; have := HZ13c.out; have := HS47.out; have := HS48.out; omega) _ _)
                  have HOM49 := Lib.hid (show Whole u49 E.q _ _ by rw [← hu49]; exact HOM48.out.far (by have := HQ.out; have := HS0.out; have := HS44.out; have := HS45.out; have := HZ12c.out; have := HZ12c.out; have := HS46.out; have := HZ13c.out; have := HZ13c.out; have := HS47.out; have := HS48.out; omega) _ _)
                  rw [hu49]
                  refine hK.out _ _ hset (fun hHeld => ?_)
                  clear hK K
                  try simp only [List.getElem_toArray, List.getElem_cons_zero, List.getElem_cons_succ, Act.put, List.setIfInBounds_toArray, List.set_cons_zero, List.set_cons_succ]
                  have HG49 := Lib.hid hset
                  clear hset hu49
                  refine wpAnyH_done (by kernel_rfl) ?_ _
                  go_wp2
                  go_meet
                  rw [HM1.out, HM2.out]
                  exact ⟨_, rfl, _, _, _, _, rfl, rfl, HX49b9.out, HX49b10.out, HX49q9a.out, HX49q9b.out, HX49q10a.out, HX49q10b.out, by have := HS0.out; have := HS44.out; have := HS45.out; have := HZ12c.out; have := HZ12c.out; have := HS46.out; have := HZ13c.out; have := HZ13c.out; have := HS47.out; have := HS48.out; have := HS49.out; omega, by have := HS0.out; have := HS44.out; have := HS45.out; have := HZ12c.out; have := HZ12c.out; have := HS46.out; have := HZ13c.out; have := HZ13c.out; have := HS47.out; have := HS48.out; have := HS49.out; omega, by have := HS0.out; have := HS44.out; have := HS45.out; have := HZ12c.out; have := HZ12c.out; have := HS46.out; have := HZ13c.out; have := HZ13c.out; have := HS47.out; have := HS48.out; have := HS49.out; omega, by have := HS0.out; have := HS44.out; have := HS45.out; have := HZ12c.out; have := HZ12c.out; have := HS46.out; have := HZ13c.out; have := HZ13c.out; have := HS47.out; have := HS48.out; have := HS49.out; omega, HG49.out, HOM49.out⟩
                exact AllReadyH.nil
              exact AllReadyH.nil
            exact AllReadyH.nil
          refine AllReadyH.cons (o := _) rfl (fun K hK => ?_) ?_
          · go_simp
            refine hK.out _ _ (grown_then HG45.out ((Below.refl _ _).alloc (Nat.le_refl _) _)) (fun hHeld => ?_)
            clear hK K
            try simp only [List.getElem_toArray, List.getElem_cons_zero, List.getElem_cons_succ, Act.put, List.setIfInBounds_toArray, List.set_cons_zero, List.set_cons_succ]
            obtain ⟨u50, hu50⟩ : ∃ x, u45.alloc (.cells #[.nilFunc] 75) = x := ⟨_, rfl⟩
            rw [hu50] at hHeld ⊢
            have HG50 := Lib.hid hHeld; have HS50 := Lib.hid (show u50.heap.size = u45.heap.size + 1 by rw [← hu50]; simp)
            have HX50b9 := Lib.hid (show Whole u50 u45.heap.size 75 #[.nilFunc] by rw [← hu50]; exact heap_alloc_new u45 _)
            have HX50b10 := Lib.hid (show Whole u50 (u0.heap.size) _ _ by rw [← hu50]; exact Whole.alloc HX45b10.out _)
            have HX50q9a := Lib.hid (show Whole u50 (z12) _ _ by rw [← hu50]; exact Whole.alloc HZ12a.out _)
            have HX50q9b := Lib.hid (show Whole u50 (z12 + 1) _ _ by rw [← hu50]; exact Whole.alloc HZ12b.out _)
            have HOM50 := Lib.hid (show Whole u50 E.q _ _ by rw [← hu50]; exact Whole.alloc HOM45.out _)
            clear hu50
            refine wpAnyH_ready (rs := [5]) (by kernel_rfl) (by simp) ?_
            refine AllReadyH.cons (o := _) rfl (fun K hK => ?_) ?_
            · go_simp
              refine (HPUT.out m2 u50).mono ?_
              rintro e u51 ⟨z14, he, hz1, hz2, hz3, hz4⟩
              obtain rfl : e = .returned (.func (.func 143) #[] #[ptrV z14, ptrV (z14 + 1)]) := he
              have hb : u50.grownBy u51 (some E.q) := below_grown hz4
              have hz2' := hz2.lt
              have hom := HOM50.out.below hz4 HOM50.out.lt
              have HZ14a := Lib.hid hz1; have HZ14b := Lib.hid hz2; have HZ14c := Lib.hid (show u50.heap.size ≤ z14 ∧ z14 + 1 < u51.heap.size from ⟨hz3, hz2'⟩)
              clear hz1 hz2 hz3 hz4 hz2'
              have HG51 := Lib.hid (grown_trans HG50.out hb); have HS51 := Lib.hid hb.size
              have HX51b10 := Lib.hid (kp_away hb HX50b10.out (by have := HQ.out; have := HS0.out; have := HS44.out; have := HS45.out; have := HZ12c.out; have := HZ12c.out; have := HS50.out; omega))
              have HX51q9a := Lib.hid (kp_away hb HX50q9a.out (by have := HQ.out; have := HS0.out; have := HS44.out; have := HS45.out; have := HZ12c.out; have := HZ12c.out; have := HS50.out; omega))
              have HX51q9b := Lib.hid (kp_away hb HX50q9b.out (by have := HQ.out; have := HS0.out; have := HS44.out; have := HS45.out; have := HZ12c.out; have := HZ12c.out; have := HS50.out; omega))
              have HX51b9 := Lib.hid (kp_away hb HX50b9.out (by have := HQ.out; have := HS0.out; have := HS44.out; have := HS45.out; have := HZ12c.out; have := HZ12c.out; have := HS50.out; omega))
              have HOM51 := Lib.hid hom
              clear hom
              clear hb
              go_wp2_with fail
              refine hK.out _ _ HG51.out (fun hHeld => ?_)
              clear hK K
              try simp only [List.getElem_toArray, List.getElem_cons_zero, List.getElem_cons_succ, Act.put, List.setIfInBounds_toArray, List.set_cons_zero, List.set_cons_succ]
              refine wpAnyH_ready (rs := [8]) (by kernel_rfl) (by simp) ?_
              refine AllReadyH.cons (o := _) rfl (fun K hK => ?_) ?_
              · have l0 := (HX51b9.out.cell 0).trans (rfl : _ = some ((.nilFunc : Value))); have n0' := HX51b9.out.free 0
                go_simp
                clear l0 n0'
                obtain ⟨u52, hu52⟩ : ∃ x, u51.setCell ⟨u45.heap.size, 0, none⟩ (.func (.func 143) #[] #[ptrV z12, ptrV (z12 + 1)]) = x := ⟨_, rfl⟩
                have hset := grown_box HG51.out (by have := HG0.out.size; have := HS0.out; have := HS44.out; have := HS45.out; have := HZ12c.out; have := HZ12c.out; have := HS50.out; have := HS51.out; have := HZ14c.out; have := HZ14c.out; omega : w4.heap.size ≤ u45.heap.size) HX51b9.out.lt hu52
                have HS52 := Lib.hid (show u52.heap.size = u51.heap.size by rw [← hu52]; simp [World.setCell])
                have HX52b10 := Lib.hid (show Whole u52 (u0.heap.size) _ _ by rw [← hu52]; exact HX51b10.out.far (by have := HS0.out; have := HS44.out; have := HS45.out; have := HZ12c.out; have := HZ12c.out; have := HS50.out; have := HS51.out; have := HZ14c.out; have := HZ14c.out; omega) _ _)
                have HX52q9a := Lib.hid (show Whole u52 (z12) _ _ by rw [← hu52]; exact HX51q9a.out.far (by have := HS0.out; have := HS44.out; have := HS45.out; have := HZ12c.out; have := HZ12c.out; have := HS50.out; have := HS51.out; have := HZ14c.out; have := HZ14c.out; omega) _ _)
                have HX52q9b := Lib.hid (show Whole u52 (z12 + 1) _ _ by rw [← hu52]; exact HX51q9b.out.far (by have := HS0.out; have := HS44.out; have := HS45.out; have := HZ12c.out; have := HZ12c.out; have := HS50.out; have := HS51.out; have := HZ14c.out; have := HZ14c.out; omega) _ _)
                have HX52b9 := Lib.hid (show Whole u52 (u45.heap.size) _ #[.func (.func 143) #[] #[ptrV z12, ptrV (z12 + 1)]] by rw [← hu52]; exact HX51b9.out.store 0 _)
                have HX52q10a := Lib.hid (show Whole u52 (z14) _ _ by rw [← hu52]; exact HZ14a.out.far (by have := HS0.out; have := HS44.out; have := HS45.out; have := HZ12c.out; have := HZ12c.out; have := HS50.out; have := HS51.out; have := HZ14c.out; have := HZ14c.out; omega) _ _)
                have HX52q10b := Lib.hid (show Whole u52 (z14 + 1) _ _ by rw [← hu52]; exact HZ14b.out.far (by have := HS0.out; have := HS44.out; have := HS45.out; have := HZ12c.out; have := HZ12c.out; have := HS50.out; have := HS51.out; have := HZ14c.out; have := HZ14c.out; omega) _ _)
                have HOM52 := Lib.hid (show Whole u52 E.q _ _ by rw [← hu52]; exact HOM51.out.far (by have := HQ.out; have := HS0.out; have := HS44.out; have := HS45.out; have := HZ12c.out; have := HZ12c.out; have := HS50.out; have := HS51.out; have := HZ14c.out; have := HZ14c.out; omega) _ _)
                rw [hu52]
                refine hK.out _ _ hset (fun hHeld => ?_)
                clear hK K
                try simp only [List.getElem_toArray, List.getElem_cons_zero, List.getElem_cons_succ, Act.put, List.setIfInBounds_toArray, List.set_cons_zero, List.set_cons_succ]
                have HG52 := Lib.hid hset
                clear hset hu52
                refine wpAnyH_ready (rs := [9]) (by kernel_rfl) (by simp) ?_
                refine AllReadyH.cons (o := _) rfl (fun K hK => ?_) ?_
                · have l0 := (HX52b10.out.cell 0).trans (rfl : _ = some ((.nilFunc : Value))); have n0' := HX52b10.out.free 0
                  go_simp
                  clear l0 n0'
                  obtain ⟨u53, hu53⟩ : ∃ x, u52.setCell ⟨u0.heap.size, 0, none⟩ (.func (.func 143) #[] #[ptrV z14, ptrV (z14 + 1)]) = x := ⟨_, rfl⟩
                  have hset := grown_box HG52.out (by have := HG0.out.size; have := HS0.out; have := HS44.out; have := HS45.out; have := HZ12c.out; have := HZ12c.out; have := HS50.out; have := HS51.out; have := HZ14c.out; have := HZ14c.out; have := HS52.out; omega : w4.heap.size ≤ u0.heap.size) HX52b10.out.lt hu53
                  have HS53 := Lib.hid (show u53.heap.size = u52.heap.size by rw [← hu53]; simp [World.setCell])
                  have HX53b10 := Lib.hid (show Whole u53 (u0.heap.size) _ #[.func (.func 143) #[] #[ptrV z14, ptrV (z14 + 1)]] by rw [← hu53]; exact HX52b10.out.store 0 _)
                  have HX53q9a := Lib.hid (show Whole u53 (z12) _ _ by rw [← hu53]; exact HX52q9a.out.far (by have := HS0.out; have := HS44.out; have := HS45.out; have := HZ12c.out; have := HZ12c.out; have := HS50.out; have := HS51.out; have := HZ14c.out; have := HZ14c.out; have := HS52.out; omega) _ _)
                  have HX53q9b := Lib.hid (show Whole u53 (z12 + 1) _ _ by rw [← hu53]; exact HX52q9b.out.far (by have := HS0.out; have := HS44.out; have := HS45.out; have := HZ12c.out; have := HZ12c.out; have := HS50.out; have := HS51.out; have := HZ14c.out; have := HZ14c.out; have := HS52.out; omega) _ _)
                  have HX53b9 := Lib.hid (show Whole u53 (u45.heap.size) _ _ by rw [← hu53]; exact HX52b9.out.far (by have := HS0.out; have := HS44.out; have := HS45.out; have := HZ12c.out; have := HZ12c.out; have := HS50.out; have := HS51.out; have := HZ14c.out; have := HZ14c.out; have := HS52.out; omega) _ _)
                  have HX53q10a := Lib.hid (show Whole u53 (z14) _ _ by rw [← hu53]; exact HX52q10a.out.far (by have := HS0.out; have := HS44.out; have := HS45.out; have := HZ12c.out; have := HZ12c.out; have := HS50.out; have := HS51.out; have := HZ14c.out; have := HZ14c.out; have := HS52.out; omega) _ _)
                  have HX53q10b := Lib.hid (show Whole u53 (z14 + 1) _ _ by rw [← hu53]; exact HX52q10b.out.far (by have := HS0.out; have := HS44.out; have := HS45.out; have := HZ12c.out; have := HZ12c.out; have := HS50.out; have := HS51.out; have := HZ14c.out; have := HZ14c.out; have := HS52.out; omega) _ _)
                  have HOM53 := Lib.hid (show Whole u53 E.q _ _ by rw [← hu53]; exact HOM52.out.far (by have := HQ.out; have := HS0.out; have := HS44.out; have := HS45.out; have := HZ12c.out; have := HZ12c.out; have := HS50.out; have := HS51.out; have := HZ14c.out; have := HZ14c.out; have := HS52.out; omega) _ _)
                  rw [hu53]
                  refine hK.out _ _ hset (fun hHeld => ?_)
                  clear hK K
                  try simp only [List.getElem_toArray, List.getElem_cons_zero, List.getElem_cons_succ, Act.put, List.setIfInBounds_toArray, List.set_cons_zero, List.set_cons_succ]
                  have HG53 := Lib.hid hset
                  clear hset hu53
                  refine wpAnyH_done (by kernel_rfl) ?_ _
                  go_wp2
                  go_meet
                  rw [HM1.out, HM2.out]
                  exact ⟨_, rfl, _, _, _, _, rfl, rfl, HX53b9.out, HX53b10.out, HX53q9a.out, HX53q9b.out, HX53q10a.out, HX53q10b.out, by have := HS0.out; have := HS44.out; have := HS45.out; have := HZ12c.out; have := HZ12c.out; have := HS50.out; have := HS51.out; have := HZ14c.out; have := HZ14c.out; have := HS52.out; have := HS53.out; omega, by have := HS0.out; have := HS44.out; have := HS45.out; have := HZ12c.out; have := HZ12c.out; have := HS50.out; have := HS51.out; have := HZ14c.out; have := HZ14c.out; have := HS52.out; have := HS53.out; omega, by have := HS0.out; have := HS44.out; have := HS45.out; have := HZ12c.out; have := HZ12c.out; have := HS50.out; have := HS51.out; have := HZ14c.out; have := HZ14c.out; have := HS52.out; have := HS53.out; omega, by have := HS0.out; have := HS44.out; have := HS45.out; have := HZ12c.out; have := HZ12c.out; have := HS50.out; have := HS51.out; have := HZ14c.out; have := HZ14c.out; have := HS52.out; have := HS53.out; omega, HG53.out, HOM53.out⟩
                exact AllReadyH.nil
              exact AllReadyH.nil
            exact AllReadyH.nil
          exact AllReadyH.nil
        refine AllReadyH.cons (o := _) rfl (fun K hK => ?_) ?_
        · go_simp
          refine hK.out _ _ (grown_then HG44.out ((Below.refl _ _).alloc (Nat.le_refl _) _)) (fun hHeld => ?_)
          clear hK K
          try simp only [List.getElem_toArray, List.getElem_cons_zero, List.getElem_cons_succ, Act.put, List.setIfInBounds_toArray, List.set_cons_zero, List.set_cons_succ]
          obtain ⟨u54, hu54⟩ : ∃ x, u44.alloc (.cells #[.nilFunc] 75) = x := ⟨_, rfl⟩
          rw [hu54] at hHeld ⊢
          have HG54 := Lib.hid hHeld; have HS54 := Lib.hid (show u54.heap.size = u44.heap.size + 1 by rw [← hu54]; simp)
          have HX54b9 := Lib.hid (show Whole u54 u44.heap.size 75 #[.nilFunc] by rw [← hu54]; exact heap_alloc_new u44 _)
          have HX54b10 := Lib.hid (show Whole u54 (u0.heap.size) _ _ by rw [← hu54]; exact Whole.alloc HX44b10.out _)
          have HOM54 := Lib.hid (show Whole u54 E.q _ _ by rw [← hu54]; exact Whole.alloc HOM44.out _)
          clear hu54
          refine wpAnyH_ready (rs := [2]) (by kernel_rfl) (by simp) ?_
          refine AllReadyH.cons (o := _) rfl (fun K hK => ?_) ?_
          · go_simp
            refine (HPUT.out m1 u54).mono ?_
            rintro e u55 ⟨z15, he, hz1, hz2, hz3, hz4⟩
            obtain rfl : e = .returned (.func (.func 143) #[] #[ptrV z15, ptrV (z15 + 1)]) := he
            have hb : u54.grownBy u55 (some E.q) := below_grown hz4
            have hz2' := hz2.lt
            have hom := HOM54.out.below hz4 HOM54.out.lt
            have HZ15a := Lib.hid hz1; have HZ15b := Lib.hid hz2; have HZ15c := Lib.hid (show u54.heap.size ≤ z15 ∧ z15 + 1 < u55.heap.size from ⟨hz3, hz2'⟩)
            clear hz1 hz2 hz3 hz4 hz2'
            have HG55 := Lib.hid (grown_trans HG54.out hb); have HS55 := Lib.hid hb.size
            have HX55b10 := Lib.hid (kp_away hb HX54b10.out (by have := HQ.out; have := HS0.out; have := HS44.out; have := HS54.out; omega))
            have HX55b9 := Lib.hid (kp_away hb HX54b9.out (by have := HQ.out; have := HS0.out; have := HS44.out; have := HS54.out; omega))
            have HOM55 := Lib.hid hom
            clear hom
            clear hb
            go_wp2_with fail
            refine hK.out _ _ HG55.out (fun hHeld => ?_)
            clear hK K
            try simp only [List.getElem_toArray, List.getElem_cons_zero, List.getElem_cons_succ, Act.put, List.setIfInBounds_toArray, List.set_cons_zero, List.set_cons_succ]
            refine wpAnyH_ready (rs := [5]) (by kernel_rfl) (by simp) ?_
            refine AllReadyH.cons (o := _) rfl (fun K hK => ?_) ?_
            · go_simp
              refine (HPUT.out m2 u55).mono ?_
              rintro e u56 ⟨z16, he, hz1, hz2, hz3, hz4⟩
              obtain rfl : e = .returned (.func (.func 143) #[] #[ptrV z16, ptrV (z16 + 1)]) := he
              have hb : u55.grownBy u56 (some E.q) := below_grown hz4
              have hz2' := hz2.lt
              have hom := HOM55.out.below hz4 HOM55.out.lt
              have HZ16a := Lib.hid hz1; have HZ16b := Lib.hid hz2; have HZ16c := Lib.hid (show u55.heap.size ≤ z16 ∧ z16 + 1 < u56.heap.size from ⟨hz3, hz2'⟩)
              clear hz1 hz2 hz3 hz4 hz2'
              have HG56 := Lib.hid (grown_trans HG55.out hb); have HS56 := Lib.hid hb.size
              have HX56b10 := Lib.hid (kp_away hb HX55b10.out (by have := HQ.out; have := HS0.out; have := HS44.out; have := HS54.out; have := HS55.out; have := HZ15c.out; have := HZ15c.out; omega))
              have HX56b9 := Lib.hid (kp_away hb HX55b9.out (by have := HQ.out; have := HS0.out; have := HS44.out; have := HS54.out; have := HS55.out; have := HZ15c.out; have := HZ15c.out; omega))
              have HX56q9a := Lib.hid (kp_away hb HZ15a.out (by have := HQ.out; have := HS0.out; have := HS44.out; have := HS54.out; have := HS55.out; have := HZ15c.out; have := HZ15c.out; omega))
              have HX56q9b := Lib.hid (kp_away hb HZ15b.out (by have := HQ.out; have := HS0.out; have := HS44.out; have := HS54.out; have := HS55.out; have := HZ15c.out; have := HZ15c.out; omega))
              have HOM56 := Lib.hid hom
              clear hom
              clear hb
              go_wp2_with fail
              refine hK.out _ _ HG56.out (fun hHeld => ?_)
              clear hK K
              try simp only [List.getElem_toArray, List.getElem_cons_zero, List.getElem_cons_succ, Act.put, List.setIfInBounds_toArray, List.set_cons_zero, List.set_cons_succ]
              refine wpAnyH_ready (rs := [8]) (by kernel_rfl) (by simp) ?_
              refine AllReadyH.cons (o := _) rfl (fun K hK => ?_) ?_
              · have l0 := (HX56b9.out.cell 0).trans (rfl : _ = some ((.nilFunc : Value))); have n0' := HX56b9.out.free 0
                go_simp
                clear l0 n0'
                obtain ⟨u57, hu57⟩ : ∃ x, u56.setCell ⟨u44.heap.size, 0, none⟩ (.func (.func 143) #[] #[ptrV z15, ptrV (z15 + 1)]) = x := ⟨_, rfl⟩
                have hset := grown_box HG56.out (by have := HG0.out.size; have := HS0.out; have := HS44.out; have := HS54.out; have := HS55.out; have := HZ15c.out; have := HZ15c.out; have := HS56.out; have := HZ16c.out; have := HZ16c.out; omega : w4.heap.size ≤ u44.heap.size) HX56b9.out.lt hu57
                have HS57 := Lib.hid (show u57.heap.size = u56.heap.size by rw [← hu57]; simp [World.setCell])
                have HX57b10 := Lib.hid (show Whole u57 (u0.heap.size) _ _ by rw [← hu57]; exact HX56b10.out.far (by have := HS0.out; have := HS44.out; have := HS54.out; have := HS55.out; have := HZ15c.out; have := HZ15c.out; have := HS56.out; have := HZ16c.out; have := HZ16c.out; omega) _ _)
                have HX57b9 := Lib.hid (show Whole u57 (u44.heap.size) _ #[.func (.func 143) #[] #[ptrV z15, ptrV (z15 + 1)]] by rw [← hu57]; exact HX56b9.out.store 0 _)
                have HX57q9a := Lib.hid (show Whole u57 (z15) _ _ by rw [← hu57]; exact HX56q9a.out.far (by have := HS0.out; have := HS44.out; have := HS54.out; have := HS55.out; have := HZ15c.out; have := HZ15c.out; have := HS56.out; have := HZ16c.out; have := HZ16c.out; omega) _ _)
                have HX57q9b := Lib.hid (show Whole u57 (z15 + 1) _ _ by rw [← hu57]; exact HX56q9b.out.far (by have := HS0.out; have := HS44.out; have := HS54.out; have := HS55.out; have := HZ15c.out; have := HZ15c.out; have := HS56.out; have := HZ16c.out; have := HZ16c.out; omega) _ _)
                have HX57q10a := Lib.hid (show Whole u57 (z16) _ _ by rw [← hu57]; exact HZ16a.out.far (by have := HS0.out; have := HS44.out; have := HS54.out; have := HS55.out; have := HZ15c.out; have := HZ15c.out; have := HS56.out; have := HZ16c.out; have := HZ16c.out; omega) _ _)
                have HX57q10b := Lib.hid (show Whole u57 (z16 + 1) _ _ by rw [← hu57]; exact HZ16b.out.far (by have := HS0.out; have := HS44.out; have := HS54.out; have := HS55.out; have := HZ15c.out; have := HZ15c.out; have := HS56.out; have := HZ16c.out; have := HZ16c.out; omega) _ _)
                have HOM57 := Lib.hid (show Whole u57 E.q _ _ by rw [← hu57]; exact HOM56.out.far (by have := HQ.out; have := HS0.out; have := HS44.out; have := HS54.out; have := HS55.out; have := HZ15c.out; have := HZ15c.out; have := HS56.out; have := HZ16c.out; have := HZ16c.out; omega) _ _)
                rw [hu57]
                refine hK.out _ _ hset (fun hHeld => ?_)
                clear hK K
                try simp only [List.getElem_toArray, List.getElem_cons_zero, List.getElem_cons_succ, Act.put, List.setIfInBounds_toArray, List.set_cons_zero, List.set_cons_succ]
                have HG57 := Lib.hid hset
                clear hset hu57
                refine wpAnyH_ready (rs := [9]) (by kernel_rfl) (by simp) ?_
                refine AllReadyH.cons (o := _) rfl (fun K hK => ?_) ?_
                · have l0 := (HX57b10.out.cell 0).trans (rfl : _ = some ((.nilFunc : Value))); have n0' := HX57b10.out.free 0
                  go_simp
                  clear l0 n0'
                  obtain ⟨u58, hu58⟩ : ∃ x, u57.setCell ⟨u0.heap.size, 0, none⟩ (.func (.func 143) #[] #[ptrV z16, ptrV (z16 + 1)]) = x := ⟨_, rfl⟩
                  have hset := grown_box HG57.out (by have := HG0.out.size; have := HS0.out; have := HS44.out; have := HS54.out; have := HS55.out; have := HZ15c.out; have := HZ15c.out; have := HS56.out; have := HZ16c.out; have := HZ16c.out; have := HS57.out; omega : w4.heap.size ≤ u0.heap.size) HX57b10.out.lt hu58
                  have HS58 := Lib.hid (show u58.heap.size = u57.heap.size by rw [← hu58]; simp [World.setCell])
                  have HX58b10 := Lib.hid (show Whole u58 (u0.heap.size) _ #[.func (.func 143) #[] #[ptrV z16, ptrV (z16 + 1)]] by rw [← hu58]; exact HX57b10.out.store 0 _)
                  have HX58b9 := Lib.hid (show Whole u58 (u44.heap.size) _ _ by rw [← hu58]; exact HX57b9.out.far (by have := HS0.out; have := HS44.out; have := HS54.out; have := HS55.out; have := HZ15c.out; have := HZ15c.out; have := HS56.out; have := HZ16c.out; have := HZ16c.out; have := HS57.out; omega) _ _)
                  have HX58q9a := Lib.hid (show Whole u58 (z15) _ _ by rw [← hu58]; exact HX57q9a.out.far (by have := HS0.out; have := HS44.out; have := HS54.out; have := HS55.out; have := HZ15c.out; have := HZ15c.out; have := HS56.out; have := HZ16c.out; have := HZ16c.out; have := HS57.out; omega) _ _)
                  have HX58q9b := Lib.hid (show Whole u58 (z15 + 1) _ _ by rw [← hu58]; exact HX57q9b.out.far (by have := HS0.out; have := HS44.out; have := HS54.out; have := HS55.out; have := HZ15c.out; have := HZ15c.out; have := HS56.out; have := HZ16c.out; have := HZ16c.out; have := HS57.out; omega) _ _)
                  have HX58q10a := Lib.hid (show Whole u58 (z16) _ _ by rw [← hu58]; exact HX57q10a.out.far (by have := HS0.out; have := HS44.out; have := HS54.out; have := HS55.out; have := HZ15c.out; have := HZ15c.out; have := HS56.out; have := HZ16c.out; have := HZ16c.out; have := HS57.out; omega) _ _)
                  have HX58q10b := Lib.hid (show Whole u58 (z16 + 1) _ _ by rw [← hu58]; exact HX57q10b.out.far (by have := HS0.out; have := HS44.out; have := HS54.out; have := HS55.out; have := HZ15c.out; have := HZ15c.out; have := HS56.out; have := HZ16c.out; have := HZ16c.out; have := HS57.out; omega) _ _)
                  have HOM58 := Lib.hid (show Whole u58 E.q _ _ by rw [← hu58]; exact HOM57.out.far (by have := HQ.out; have := HS0.out; have := HS44.out; have := HS54.out; have := HS55.out; have := HZ15c.out; have := HZ15c.out; have := HS56.out; have := HZ16c.out; have := HZ16c.out; have := HS57.out; omega) _ _)
                  rw [hu58]
                  refine hK.out _ _ hset (fun hHeld => ?_)
                  clear hK K
                  try simp only [List.getElem_toArray, List.getElem_cons_zero, List.getElem_cons_succ, Act.put, List.setIfInBounds_toArray, List.set_cons_zero, List.set_cons_succ]
                  have HG58 := Lib.hid hset
                  clear hset hu58
                  refine wpAnyH_done (by kernel_rfl) ?_ _
                  go_wp2
                  go_meet
                  rw [HM1.out, HM2.out]
                  exact ⟨_, rfl, _, _, _, _, rfl, rfl, HX58b9.out, HX58b10.out, HX58q9a.out, HX58q9b.out, HX58q10a.out, HX58q10b.out, by have := HS0.out; have := HS44.out; have := HS54.out; have := HS55.out; have := HZ15c.out; have := HZ15c.out; have := HS56.out; have := HZ16c.out; have := HZ16c.out; have := HS57.out; have := HS58.out; omega, by have := HS0.out; have := HS44.out; have := HS54.out; have := HS55.out; have := HZ15c.out; have := HZ15c.out; have := HS56.out; have := HZ16c.out; have := HZ16c.out; have := HS57.out; have := HS58.out; omega, by have := HS0.out; have := HS44.out; have := HS54.out; have := HS55.out; have := HZ15c.out; have := HZ15c.out; have := HS56.out; have := HZ16c.out; have := HZ16c.out; have := HS57.out; have := HS58.out; omega, by have := HS0.out; have := HS44.out; have := HS54.out; have := HS55.out; have := HZ15c.out; have := HZ15c.out; have := HS56.out; have := HZ16c.out; have := HZ16c.out; have := HS57.out; have := HS58.out; omega, HG58.out, HOM58.out⟩
                exact AllReadyH.nil
              exact AllReadyH.nil
            exact AllReadyH.nil
          exact AllReadyH.nil
        exact AllReadyH.nil
      exact AllReadyH.nil
    case rest =>
      obtain ⟨w5, rfl, p9, p10, q9, q10, rfl, rfl, r9, r10, s9a, s9b, s10a, s10b, e9, e10, e11, e12, hg5, hO5⟩ := hcut
      have F1 := Lib.hid (kp_away hg5 C1.out (by have := HQ0.out; omega)); have F2 := Lib.hid (kp_away hg5 C2.out (by have := HQ0.out; omega))
      have F7 := Lib.hid (kp_away hg5 HP7.out (by have := HQ0.out; have := HL7.out; have := HB.out.size; have := HB3.out.size; omega)); have F8 := Lib.hid (kp_away hg5 HP8.out (by have := HQ0.out; have := HL8.out; have := HB.out.size; have := HB3.out.size; omega))
      have F9 := Lib.hid r9; have F10 := Lib.hid r10; have Q9a := Lib.hid s9a; have Q9b := Lib.hid s9b; have Q10a := Lib.hid s10a; have Q10b := Lib.hid s10b
      have HG25 := Lib.hid (grown_below HB24.out hg5)
      have HBW := Lib.hid (grown_below HB.out HG25.out)
      have HR5 := Lib.hid (HR2.out.grown HG25.out)
      obtain ⟨kv', sv', ⟨-, d1, -⟩, hkp, -, -⟩ := HT.out.ten HR5.out
      have HLA := Lib.hid (show w2.heap.size ≤ p7 from Nat.le_trans HB3.out.size HL7.out); have HLB := Lib.hid (show w2.heap.size ≤ p8 from Nat.le_trans HB3.out.size HL8.out)
      have HLC := Lib.hid (show w2.heap.size ≤ p9 from Nat.le_trans HB24.out.size e9); have HLD2 := Lib.hid (show w2.heap.size ≤ p10 from Nat.le_trans HB24.out.size e10); have HLE := Lib.hid (show w2.heap.size ≤ q9 from Nat.le_trans HB24.out.size e11); have HLF := Lib.hid (show w2.heap.size ≤ q10 from Nat.le_trans HB24.out.size e12)
      have HO5 := Lib.hid hO5
      clear r9 r10 s9a s9b s10a s10b e9 e10 e11 e12 hg5 hO5 c1 c7 c8 n1 n7 n8
      rw [HK.out] at hkp
      obtain ⟨kb', ko', kc', rfl, hkt'⟩ := hkp.one
      have HKT' := Lib.hid hkt'
      clear hkp hkt'
      have c1 := (F1.out.cell 0).trans (rfl : _ = some (ptrV E.q))
      have n1 : some w.heap.size ≠ some E.q := fun e => by have := Option.some.inj e; have := HQ0.out; omega
      have n2 : some pb ≠ some E.q := fun e => by have := Option.some.inj e; have := HR5.out.q; have := TP_lt HT.out; omega
      have HQ := Lib.hid (show E.q < w5.heap.size from HO5.out.lt)
      have HSZ25 := Lib.hid HG25.out.size
      have hmf := mkf
      have hkc : (0 : Int) < (([k] : List Tr).length : Nat) := by simp
      go_upto_region 5 with (fail)
      refine wp_region_held_drew (S := fun w' => w5.grownBy w' (some E.q)) (by kernel_rfl) (below_grown ((Below.refl _ _).drew)) (fun hHeld => ?_)
      obtain ⟨u0, hu0⟩ : ∃ x, w5.drew = x := ⟨_, rfl⟩
      rw [hu0] at hHeld ⊢
      have HG0 := Lib.hid hHeld; have HS0 := Lib.hid (show u0.heap.size = w5.heap.size by rw [← hu0]; rfl)
      have HOM0 := Lib.hid (show Whole u0 E.q _ _ by rw [← hu0]; exact HO5.out)
      clear hu0
      refine wpAnyH_take (i := 0) (oi := _) (v := ?_) rfl (by kernel_rfl) (by kernel_rfl) (by kernel_rfl) (fun _ _ _ h => h) (Or.inl ⟨by rfl, ?_⟩) hHeld ?_
      rotate_left 1
      · (intro w hSw; (try dsimp only at hSw); have e0 := hSw.cell c1 n1; have e1 := hSw.cell d1 n2; go_simp; (try with_reducible rfl))
      try simp only [List.getElem_toArray, List.getElem_cons_zero, Act.put, List.setIfInBounds_toArray, List.set_cons_zero, List.set_cons_succ]
      refine wpAnyH_take (i := 1) (oi := _) (v := ?_) rfl (by kernel_rfl) (by kernel_rfl) (by kernel_rfl) (fun _ _ _ h => h) (Or.inl ⟨by rfl, ?_⟩) hHeld ?_
      rotate_left 1
      · (intro w hSw; (try dsimp only at hSw); have e0 := hSw.cell c1 n1; have e1 := hSw.cell d1 n2; go_simp; (try with_reducible rfl))
      try simp only [List.getElem_toArray, List.getElem_cons_zero, List.getElem_cons_succ, Act.put, List.setIfInBounds_toArray, List.set_cons_zero, List.set_cons_succ]
      refine wpAnyH_take (i := 2) (oi := _) (v := ?_) rfl (by kernel_rfl) (by kernel_rfl) (by kernel_rfl) (fun _ _ _ h => h) (Or.inl ⟨by rfl, ?_⟩) hHeld ?_
      rotate_left 1
      · (intro w hSw; (try dsimp only at hSw); have e0 := hSw.cell c1 n1; have e1 := hSw.cell d1 n2; go_simp; (try with_reducible rfl))
      try simp only [List.getElem_toArray, List.getElem_cons_zero, List.getElem_cons_succ, Act.put, List.setIfInBounds_toArray, List.set_cons_zero, List.set_cons_succ]
      refine wpAnyH_take (i := 3) (oi := _) (v := ?_) rfl (by kernel_rfl) (by kernel_rfl) (by kernel_rfl) (fun _ _ _ h => h) (Or.inl ⟨by rfl, ?_⟩) hHeld ?_
      rotate_left 1
      · (intro w hSw; (try dsimp only at hSw); have e0 := hSw.cell c1 n1; have e1 := hSw.cell d1 n2; go_simp; (try with_reducible rfl))
      try simp only [List.getElem_toArray, List.getElem_cons_zero, List.getElem_cons_succ, Act.put, List.setIfInBounds_toArray, List.set_cons_zero, List.set_cons_succ]
      refine wpAnyH_take (i := 4) (oi := _) (v := ?_) rfl (by kernel_rfl) (by kernel_rfl) (by kernel_rfl) (fun _ _ _ h => h) (Or.inl ⟨by rfl, ?_⟩) hHeld ?_
      rotate_left 1
      · (intro w hSw; (try dsimp only at hSw); have e0 := hSw.cell c1 n1; have e1 := hSw.cell d1 n2; go_simp; (try with_reducible rfl))
      try simp only [List.getElem_toArray, List.getElem_cons_zero, List.getElem_cons_succ, Act.put, List.setIfInBounds_toArray, List.set_cons_zero, List.set_cons_succ]
      refine wpAnyH_take (i := 5) (oi := _) (v := ?_) rfl (by kernel_rfl) (by kernel_rfl) (by kernel_rfl) (fun _ _ _ h => h) (Or.inl ⟨by rfl, ?_⟩) hHeld ?_
      rotate_left 1
      · (intro w hSw; (try dsimp only at hSw); have e0 := hSw.cell c1 n1; have e1 := hSw.cell d1 n2; go_simp; (try with_reducible rfl))
      try simp only [List.getElem_toArray, List.getElem_cons_zero, List.getElem_cons_succ, Act.put, List.setIfInBounds_toArray, List.set_cons_zero, List.set_cons_succ]
      refine wpAnyH_take (i := 6) (oi := _) (v := ?_) rfl (by kernel_rfl) (by kernel_rfl) (by kernel_rfl) (fun _ _ _ h => h) (Or.inl ⟨by rfl, ?_⟩) hHeld ?_
      rotate_left 1
      · (intro w hSw; (try dsimp only at hSw); have e0 := hSw.cell c1 n1; have e1 := hSw.cell d1 n2; go_simp; (try with_reducible rfl))
      try simp only [List.getElem_toArray, List.getElem_cons_zero, List.getElem_cons_succ, Act.put, List.setIfInBounds_toArray, List.set_cons_zero, List.set_cons_succ]
      refine wpAnyH_ready (rs := [7, 8]) (by kernel_rfl) (by simp) ?_
      refine AllReadyH.cons (o := _) rfl (fun K hK => ?_) ?_
      · go_simp
        have hFI := HFV.out
        have HCL := Lib.hid (HL.out kb' ko' k (gendF w.heap.size p10 p8 (w.heap.size + 1)) (.capEnd cn :: KK) inp fv lv mv n0 ev bv u0 HKT'.out HSH.out HM.out (HR5.out.grown HG0.out) HOM0.out HN.out)
        refine HCL.out.mono ?_
        rintro e u1 ⟨⟨vg, vf, vc⟩, N1, T1, Z1, he, hl1, hom⟩
        obtain rfl : e = .returned (.func vg vf vc) := he
        have hb := hl1.grown
        have HLR := Lib.hid hl1.rep; have HLC1 := Lib.hid hl1.count; have HSTG := Lib.hid hl1.stage; have HLO := Lib.hid (show w5.heap.size ≤ u0.heap.size ∧ u0.heap.size ≤ u1.heap.size from ⟨HG0.out.size, hb.size⟩)
        clear hl1 HCL hFI
        have HG1 := Lib.hid (grown_trans HG0.out hb); have HS1 := Lib.hid hb.size
        have HOM1 := Lib.hid hom
        clear hom
        clear hb
        go_wp2_with fail
        refine hK.out _ _ HG1.out (fun hHeld => ?_)
        clear hK K
        try simp only [List.getElem_toArray, List.getElem_cons_zero, List.getElem_cons_succ, Act.put, List.setIfInBounds_toArray, List.set_cons_zero, List.set_cons_succ]
        refine wpAnyH_ready (rs := [8]) (by kernel_rfl) (by simp) ?_
        refine AllReadyH.cons (o := _) rfl (fun K hK => ?_) ?_
        · go_simp
          refine hK.out _ _ (grown_then HG1.out ((Below.refl _ _).alloc (Nat.le_refl _) _)) (fun hHeld => ?_)
          clear hK K
          try simp only [List.getElem_toArray, List.getElem_cons_zero, List.getElem_cons_succ, Act.put, List.setIfInBounds_toArray, List.set_cons_zero, List.set_cons_succ]
          obtain ⟨u2, hu2⟩ : ∃ x, u1.alloc (.cells #[.nilFunc] 75) = x := ⟨_, rfl⟩
          rw [hu2] at hHeld ⊢
          have HG2 := Lib.hid hHeld; have HS2 := Lib.hid (show u2.heap.size = u1.heap.size + 1 by rw [← hu2]; simp)
          have HX2b11 := Lib.hid (show Whole u2 u1.heap.size 75 #[.nilFunc] by rw [← hu2]; exact heap_alloc_new u1 _)
          have HOM2 := Lib.hid (show Whole u2 E.q _ _ by rw [← hu2]; exact Whole.alloc HOM1.out _)
          have HSTG2 := Lib.hid (HSTG.out.move (w' := u2) (by rw [← hu2]; simp) fun b _ h => by rw [← hu2]; exact heap_alloc_old _ _ (Nat.lt_of_lt_of_le h HSTG.out.hi_le))
          clear hu2
          refine wpAnyH_ready (rs := [9]) (by kernel_rfl) (by simp) ?_
          refine AllReadyH.cons (o := _) rfl (fun K hK => ?_) ?_
          · have l0 := (HX2b11.out.cell 0).trans (rfl : _ = some ((.nilFunc : Value))); have n0' := HX2b11.out.free 0
            go_simp
            clear l0 n0'
            obtain ⟨u3, hu3⟩ : ∃ x, u2.setCell ⟨u1.heap.size, 0, none⟩ (.func vg vf vc) = x := ⟨_, rfl⟩
            have hset := grown_box HG2.out (by have := HG0.out.size; have := HS0.out; have := HS1.out; have := HS2.out; omega : w5.heap.size ≤ u1.heap.size) HX2b11.out.lt hu3
            have HS3 := Lib.hid (show u3.heap.size = u2.heap.size by rw [← hu3]; simp [World.setCell])
            have HX3b11 := Lib.hid (show Whole u3 (u1.heap.size) _ #[.func vg vf vc] by rw [← hu3]; exact HX2b11.out.store 0 _)
            have HOM3 := Lib.hid (show Whole u3 E.q _ _ by rw [← hu3]; exact HOM2.out.far (by have := HQ.out; have := HS0.out; have := HS1.out; have := HS2.out; omega) _ _)
            have HSTG3 := Lib.hid (HSTG2.out.move (w' := u3) (by rw [← hu3]; simp [World.setCell]) fun b _ h => by rw [← hu3]; exact Below.heap_setCell _ _ _ _ (by show b ≠ u1.heap.size; have := HLO.out; have := HS0.out; have := HS1.out; have := HS2.out; omega))
            rw [hu3]
            refine hK.out _ _ hset (fun hHeld => ?_)
            clear hK K
            try simp only [List.getElem_toArray, List.getElem_cons_zero, List.getElem_cons_succ, Act.put, List.setIfInBounds_toArray, List.set_cons_zero, List.set_cons_succ]
            have HG3 := Lib.hid hset
            clear hset hu3
            refine wpAnyH_done (by kernel_rfl) ?_ _
            go_wp2_with fail
            go_ret
            exact group_post HC.out HC1.out HQ0.out HBW.out HSW2.out HSZ25.out F1.out F2.out F7.out F8.out F9.out F10.out Q9a.out Q9b.out Q10a.out Q10b.out HLA.out HLB.out HLC.out HLD2.out HLE.out HLF.out HG3.out HX3b11.out HSTG3.out HLR.out HLC1.out HLO.out.1 HLO.out.2 HOM3.out (by have := HS0.out; have := HS1.out; have := HS2.out; have := HS3.out; have := HLO.out; omega) (by have := HS0.out; have := HS1.out; have := HS2.out; have := HS3.out; omega) (by have := HS0.out; have := HS1.out; have := HS2.out; have := HS3.out; have := HLO.out; omega)
          exact AllReadyH.nil
        exact AllReadyH.nil
      refine AllReadyH.cons (o := _) rfl (fun K hK => ?_) ?_
      · go_simp
        refine hK.out _ _ (grown_then HG0.out ((Below.refl _ _).alloc (Nat.le_refl _) _)) (fun hHeld => ?_)
        clear hK K
        try simp only [List.getElem_toArray, List.getElem_cons_zero, List.getElem_cons_succ, Act.put, List.setIfInBounds_toArray, List.set_cons_zero, List.set_cons_succ]
        obtain ⟨u4, hu4⟩ : ∃ x, u0.alloc (.cells #[.nilFunc] 75) = x := ⟨_, rfl⟩
        rw [hu4] at hHeld ⊢
        have HG4 := Lib.hid hHeld; have HS4 := Lib.hid (show u4.heap.size = u0.heap.size + 1 by rw [← hu4]; simp)
        have HX4b11 := Lib.hid (show Whole u4 u0.heap.size 75 #[.nilFunc] by rw [← hu4]; exact heap_alloc_new u0 _)
        have HOM4 := Lib.hid (show Whole u4 E.q _ _ by rw [← hu4]; exact Whole.alloc HOM0.out _)
        clear hu4
        refine wpAnyH_ready (rs := [7]) (by kernel_rfl) (by simp) ?_
        refine AllReadyH.cons (o := _) rfl (fun K hK => ?_) ?_
        · go_simp
          have hFI := HFV.out
          have HCL := Lib.hid (HL.out kb' ko' k (gendF w.heap.size p10 p8 (w.heap.size + 1)) (.capEnd cn :: KK) inp fv lv mv n0 ev bv u4 HKT'.out HSH.out HM.out (HR5.out.grown HG4.out) HOM4.out HN.out)
          refine HCL.out.mono ?_
          rintro e u5 ⟨⟨vg, vf, vc⟩, N1, T1, Z1, he, hl1, hom⟩
          obtain rfl : e = .returned (.func vg vf vc) := he
          have hb := hl1.grown
          have HLR := Lib.hid hl1.rep; have HLC1 := Lib.hid hl1.count; have HSTG := Lib.hid hl1.stage; have HLO := Lib.hid (show w5.heap.size ≤ u4.heap.size ∧ u4.heap.size ≤ u5.heap.size from ⟨HG4.out.size, hb.size⟩)
          clear hl1 HCL hFI
          have HG5 := Lib.hid (grown_trans HG4.out hb); have HS5 := Lib.hid hb.size
          have HX5b11 := Lib.hid (kp_away hb HX4b11.out (by have := HQ.out; have := HS0.out; have := HS4.out; omega))
          have HOM5 := Lib.hid hom
          clear hom
          clear hb
          go_wp2_with fail
          refine hK.out _ _ HG5.out (fun hHeld => ?_)
          clear hK K
          try simp only [List.getElem_toArray, List.getElem_cons_zero, List.getElem_cons_succ, Act.put, List.setIfInBounds_toArray, List.set_cons_zero, List.set_cons_succ]
          refine wpAnyH_ready (rs := [9]) (by kernel_rfl) (by simp) ?_
          refine AllReadyH.cons (o := _) rfl (fun K hK => ?_) ?_
          · have l0 := (HX5b11.out.cell 0).trans (rfl : _ = some ((.nilFunc : Value))); have n0' := HX5b11.out.free 0
            go_simp
            clear l0 n0'
            obtain ⟨u6, hu6⟩ : ∃ x, u5.setCell ⟨u0.heap.size, 0, none⟩ (.func vg vf vc) = x := ⟨_, rfl⟩
            have hset := grown_box HG5.out (by have := HG0.out.size; have := HS0.out; have := HS4.out; have := HS5.out; omega : w5.heap.size ≤ u0.heap.size) HX5b11.out.lt hu6
            have HS6 := Lib.hid (show u6.heap.size = u5.heap.size by rw [← hu6]; simp [World.setCell])
            have HX6b11 := Lib.hid (show Whole u6 (u0.heap.size) _ #[.func vg vf vc] by rw [← hu6]; exact HX5b11.out.store 0 _)
            have HOM6 := Lib.hid (show Whole u6 E.q _ _ by rw [← hu6]; exact HOM5.out.far (by have := HQ.out; have := HS0.out; have := HS4.out; have := HS5.out; omega) _ _)
            have HSTG6 := Lib.hid (HSTG.out.move (w' := u6) (by rw [← hu6]; simp [World.setCell]) fun b _ h => by rw [← hu6]; exact Below.heap_setCell _ _ _ _ (by show b ≠ u0.heap.size; have := HLO.out; have := HS0.out; have := HS4.out; have := HS5.out; omega))
            rw [hu6]
            refine hK.out _ _ hset (fun hHeld => ?_)
            clear hK K
            try simp only [List.getElem_toArray, List.getElem_cons_zero, List.getElem_cons_succ, Act.put, List.setIfInBounds_toArray, List.set_cons_zero, List.set_cons_succ]
            have HG6 := Lib.hid hset
            clear hset hu6
            refine wpAnyH_done (by kernel_rfl) ?_ _
            go_wp2_with fail
            go_ret
            exact group_post HC.out HC1.out HQ0.out HBW.out HSW2.out HSZ25.out F1.out F2.out F7.out F8.out F9.out F10.out Q9a.out Q9b.out Q10a.out Q10b.out HLA.out HLB.out HLC.out HLD2.out HLE.out HLF.out HG6.out HX6b11.out HSTG6.out HLR.out HLC1.out HLO.out.1 HLO.out.2 HOM6.out (by have := HS0.out; have := HS4.out; have := HS5.out; have := HS6.out; have := HLO.out; omega) (by have := HS0.out; have := HS4.out; have := HS5.out; have := HS6.out; omega) (by have := HS0.out; have := HS4.out; have := HS5.out; have := HS6.out; have := HLO.out; omega)
          exact AllReadyH.nil
        exact AllReadyH.nil
      exact AllReadyH.nil
end Go.Proofs.Ytnemacejaiifnaa
