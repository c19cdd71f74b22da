/- The document's Next. -/
import Derived.Test.YtlkbdbijlnjjbaaPgHead
import Derived.Test.YtlkbdbijlnjjbaaRHas
set_option linter.unusedVariables false
namespace Go.Proofs.Ytlkbdbijlnjjbaa
open Go Go.RowKit

open Classical in
/-- One more place: to what it leads by the rune c, if that has not been told. -/
noncomputable def nextS (I : List Ins) (c : Int) (outs : List Nat) (x : Int) : List Nat :=
  if PlaceI I.length x ∧ (atI I x.toNat).op = 2 ∧ HasR (atI I x.toNat).set c ∧ (atI I x.toNat).out.toNat ∉ outs then outs ++ [(atI I x.toNat).out.toNat] else outs
open Classical in
noncomputable def nextG (p : Pg) (pcs : List Int) (c : Int) : List Nat := if RightPg p then pcs.foldl (nextS p.ins c) [] else []
def NextPost (l : List Nat) (w : World) (e : Ending) (w' : World) : Prop := ∃ v, e = .returned v ∧ OwnZ w' w.heap.size v (natsZ l) ∧ Below w.heap.size w w'
def seenL (n : Nat) (outs : List Nat) : List Bool := (List.range n).map fun i => decide (i ∈ outs)
theorem seenL_nil (n : Nat) : seenL n [] = List.replicate n false := by
  unfold seenL
  exact List.eq_replicate_iff.2 ⟨by simp, by simp⟩
theorem seenL_get (n : Nat) (outs : List Nat) (i : Nat) (h : i < n) : (seenL n outs)[i]? = some (decide (i ∈ outs)) := by
  unfold seenL
  rw [List.getElem?_map, List.getElem?_range h]
  rfl
theorem seenL_set (n : Nat) (outs : List Nat) (i : Nat) : (seenL n outs).set i true = seenL n (outs ++ [i]) := by
  refine List.ext_getElem? fun j => ?_
  rw [List.getElem?_set]
  rcases Nat.lt_or_ge j n with hj | hj
  · rw [seenL_get n _ j hj, seenL_get n _ j hj]
    by_cases e : i = j
    · subst e
      simp [seenL, hj]
    · have e' : ¬ j = i := fun h => e h.symm
      simp [e, e']
  · have h1 : ∀ o, (seenL n o)[j]? = none := fun o => by unfold seenL; rw [List.getElem?_map, List.getElem?_eq_none (by simpa using hj)]; rfl
    rw [h1, h1]
    split
    · simp [seenL]; omega
    · rfl
structure NxIn (W0 W : World) (g n : Nat) (ov : Value) (outs : List Nat) : Prop where
  bel : Below W0.heap.size W0 W
  seen : Whole W g 4 ((seenL n outs).map Value.bool).toArray
  own : OwnZ W W0.heap.size ov (natsZ outs)
  hg : W0.heap.size ≤ g
section
variable {W0 W W' : World} {g n : Nat} {ov : Value} {outs : List Nat}
theorem NxIn.below (h : NxIn W0 W g n ov outs) (hb : Below W.heap.size W W') : NxIn W0 W' g n ov outs := ⟨below_steps h.bel hb, h.seen.below hb h.seen.lt, h.own.below hb, h.hg⟩
/-- Marked, and put behind. -/
theorem NxIn.put (h : NxIn W0 W g n ov outs) {W1 : World} {ov' : Value} (x : Nat) (h1 : Below W.heap.size (W.setCell ⟨g, x, none⟩ (.bool true)) W1) (ho : OwnZ W' W0.heap.size ov' (natsZ outs ++ [(x : Int)])) (hg : W1.grownBy W' ov.ownBlock) : NxIn W0 W' g n ov' (outs ++ [x]) := by
  have hsz : (W.setCell ⟨g, x, none⟩ (.bool true)).heap.size = W.heap.size := by simp [World.setCell]
  have h1' : Below (W.setCell ⟨g, x, none⟩ (.bool true)).heap.size (W.setCell ⟨g, x, none⟩ (.bool true)) W1 := by rw [hsz]; exact h1
  have hs : Whole (W.setCell ⟨g, x, none⟩ (.bool true)) g 4 ((seenL n (outs ++ [x])).map Value.bool).toArray := by
    rw [← seenL_set, ← set_map]
    exact h.seen.store x (.bool true)
  have hs1 := hs.below h1' (by rw [hsz]; exact h.seen.lt)
  have ho1 : OwnZ W1 W0.heap.size ov (natsZ outs) := (own_set h.own g x _ (own_whole_ne h.own.1 h.seen (by decide))).below h1'
  have hb1 : Below W0.heap.size W0 W1 := below_steps (h.bel.setCell (p := ⟨g, x, none⟩) h.hg _) h1'
  exact ⟨hb1.grown hg hb1.size (fun j hj => own_ge ho1 hj), hs1.grown hg (own_whole_ne ho1.1 hs1 (by decide)), by rw [natsZ_app]; exact ho, h.hg⟩
end
theorem next_take (I : List Ins) (c : Int) (pcs : List Int) (k : Nat) (h : k < pcs.length) : (pcs.take (k + 1)).foldl (nextS I c) [] = nextS I c ((pcs.take k).foldl (nextS I c) []) pcs[k] := by
  rw [List.take_succ_eq_append_getElem h, List.foldl_append]
  rfl
theorem next_len (I : List Ins) (c : Int) : ∀ (pcs : List Int) (o : List Nat), (pcs.foldl (nextS I c) o).length ≤ o.length + pcs.length
  | [], o => by simp
  | x :: l, o => by
    have h1 := next_len I c l (nextS I c o x)
    have h2 : (nextS I c o x).length ≤ o.length + 1 := by
      unfold nextS
      split <;> simp
    rw [List.foldl_cons, List.length_cons]
    omega
set_option maxHeartbeats 1600000 in
set_option maxRecDepth 100000 in
theorem rnext_any (p : Pg) (v u : Value) (pcs : List Int) (c : Int) (w : World) (h : PgV w p v) (g : Zs w u pcs) (hlen : pcs.length ≤ 17592186044416) :
    Calls Try.prog 18 #[v, u, .int .i32 c] w (NextPost (nextG p pcs c) w) := by
  have H0 := Lib.hid h
  obtain ⟨A, n, cp, hn, rfl, hI, hs, hc, hnb⟩ := h.opened
  obtain ⟨w1, hw1⟩ : ∃ w1, w.alloc (.cells #[.slice A n cp, .int .i64 p.start, .int .i64 p.caps] 24) = w1 := ⟨_, rfl⟩
  obtain ⟨hb1, e0, e1, e2, hz1⟩ := box3_new w _ _ _ _ hw1
  have HCK := Lib.hid (rcheck_any p _ w1 (H0.out.below hb1))
  have HZ := Lib.hid (g.below hb1)
  obtain ⟨A2, c2, rfl, hle, hmx, -⟩ := g
  obtain ⟨m, hm⟩ : ∃ m, pcs.length = m := ⟨_, rfl⟩
  have hmb : m ≤ 9223372036854775807 := by unfold maxLen at hmx; omega
  rw [hm] at HZ hlen ⊢
  have HF : Hid (∀ W, Below w1.heap.size w1 W → W.cell? ⟨w.heap.size, 0, none⟩ = some (.slice A n cp) ∧ W.cell? ⟨w.heap.size, 1, none⟩ = some (.int .i64 p.start) ∧ W.cell? ⟨w.heap.size, 2, none⟩ = some (.int .i64 p.caps)) := Lib.hid fun W hW => ⟨cell_on hW e0, cell_on hW e1, cell_on hW e2⟩
  have HIS := Lib.hid (hI.below hb1)
  have HB1 := Lib.hid hb1; have HW1 := Lib.hid hw1; have HN := Lib.hid hn; have HM := Lib.hid hm; have HLN := Lib.hid hlen
  clear h hI hs hc hw1 hb1 hz1 hn hm hmx hle hlen
  go_enter Try.func18, Try.ntmps18
  go_upto_region 1 with (fail)
  rw [HW1.out]
  go_wp2_with fail
  refine HCK.out.mono ?_
  rintro e w3 ⟨r, rfl, hr, hb3⟩
  have HB3 := Lib.hid hb3
  rcases hr with ⟨rfl, hR⟩ | ⟨rfl, hR⟩
  rotate_left
  · have HE : Hid (nextG p pcs c = []) := Lib.hid (if_neg hR)
    clear hb3 hR HCK
    go_wp2_with fail
    go_ret
    exact ⟨.slice none 0 0, rfl, by rw [HE.out]; exact ownZ_none _ _, below_steps HB1.out HB3.out⟩
  have HG : Hid (nextG p pcs c = pcs.foldl (nextS p.ins c) []) := Lib.hid (if_pos hR)
  have HR := Lib.hid hR
  have hnn : n ≤ 10000 := by rw [← HN.out]; exact hR.2.1
  have hmk := make_bools n (by omega)
  obtain ⟨C, hC⟩ : ∃ C, Array.replicate n (Value.bool false) = C := ⟨_, rfl⟩
  rw [hC] at hmk
  obtain ⟨w4, hw4⟩ : ∃ w4, w3.alloc (.cells C 4) = w4 := ⟨_, rfl⟩
  have hm4 : Whole w4 w3.heap.size 4 C := by rw [← hw4]; exact heap_alloc_new w3 _
  have hx4 : Below w3.heap.size w3 w4 := by rw [← hw4]; exact (Below.refl _ w3).alloc (Nat.le_refl _) _
  have HX0 : Hid (NxIn w3 w4 w3.heap.size n (.slice none 0 0) []) := Lib.hid ⟨hx4, by
    have e : ((seenL n []).map Value.bool).toArray = Array.replicate n (.bool false) := by rw [seenL_nil]; simp
    rw [e, hC]
    exact hm4, ownZ_none _ _, Nat.le_refl _⟩
  have HW4 := Lib.hid hw4
  clear hb3 hR HCK hC hw4 hm4 hx4 e0 e1 e2
  obtain ⟨e0, e1, e2⟩ := HF.out w3 HB3.out
  go_upto_region 4 with (fail)
  rw [HW4.out]
  clear hmk
  go_wp2_with fail
  go_loopw [8, 9] (fun ov i wr => ∃ k : Nat, k ≤ m ∧ i = .int .i64 k ∧ NxIn w3 wr w3.heap.size n ov ((pcs.take k).foldl (nextS p.ins c) [])) (fun _ i _ => m - (intOf i).toNat)
  case atStart => exact ⟨0, Nat.zero_le _, rfl, HX0.out⟩
  case round =>
    obtain ⟨k, hk, rfl, hX⟩ := hrel
    have HX := Lib.hid hX
    have hbx := below_steps HB3.out hX.bel
    have HBX := Lib.hid hbx
    clear e0 e1 e2
    obtain ⟨e0, e1, e2⟩ := HF.out _ hbx
    have hZr := HZ.out.below hbx
    obtain ⟨outs, ho⟩ : ∃ o, (pcs.take k).foldl (nextS p.ins c) [] = o := ⟨_, rfl⟩
    rw [ho] at HX hX
    have HO := Lib.hid ho
    by_cases hkm : k < m
    · have hkl : k < pcs.length := by rw [HM.out]; exact hkm
      obtain ⟨b, o, x, rfl, hx, hmem, k0, hR64⟩ := hZr.at' k hkl
      have hnx := next_take p.ins c pcs k hkl
      rw [ho, hx] at hnx
      have HNX := Lib.hid hnx
      have hol := next_len p.ins c (pcs.take k) []
      rw [ho, List.length_take] at hol
      have HOL := Lib.hid hol
      clear hX ho hnx hmem hx hZr hbx hol
      by_cases q0 : x < 0
      · have d0 : decide (x < 0) = true := decide_eq_true q0
        have HE : Hid ((pcs.take (k + 1)).foldl (nextS p.ins c) [] = outs) := Lib.hid (by
          rw [HNX.out]
          unfold nextS
          rw [if_neg (fun h => by have := h.1.1; omega)])
        clear q0
        go_wp2_with fail
        go_big_quiet (fail)
        go_wp2_with fail
        go_roundw
        case rel => exact ⟨k + 1, by omega, by go_num, by rw [HE.out]; exact HX.out.below (below_draws _ _)⟩
        case measure => simp [intOf]; omega
      have d0 : decide (x < 0) = false := decide_eq_false q0
      by_cases q1 : (n : Int) ≤ x
      · have d1 : decide ((n : Int) ≤ x) = true := decide_eq_true q1
        have HE : Hid ((pcs.take (k + 1)).foldl (nextS p.ins c) [] = outs) := Lib.hid (by
          rw [HNX.out]
          unfold nextS
          rw [if_neg (fun h => by have h1 := h.1.2; rw [HN.out] at h1; omega)])
        clear q0 q1
        go_wp2_with fail
        go_big_quiet (fail)
        go_wp2_with fail
        go_roundw
        case rel => exact ⟨k + 1, by omega, by go_num, by rw [HE.out]; exact HX.out.below (below_draws _ _)⟩
        case measure => simp [intOf]; omega
      have d1 : decide ((n : Int) ≤ x) = false := decide_eq_false q1
      obtain ⟨y, rfl⟩ := Int.eq_ofNat_of_zero_le (show 0 ≤ x by omega)
      have hyn : y < n := by omega
      have hyz : (y : Int) < (n : Int) := by omega
      have d3 : decide (n ≤ y) = false := decide_eq_false (by omega)
      obtain ⟨b2, o2, X, a3, sl, c3, hA, hX2, hm2, hsl, hat, HFV, HRG, hbd, hIV⟩ := (HIS.out.below HBX.out).at' y (by rw [HN.out]; exact hyn)
      have hsd := HR.out.2.2.2.2.2.2 X hm2
      rw [HN.out] at hsd
      obtain ⟨xo, xu, xa, xs, xt⟩ := X
      simp only at HFV HRG hsl
      subst hA
      have HRS := Lib.hid HRG; have HAT := Lib.hid hat; have HSD := Lib.hid hsd; have HYN := Lib.hid hyn
      obtain ⟨k1, k2, k3, k4, k5⟩ := HFV
      clear HRG hat hsd hbd hIV hm2 hX2 hsl q0 q1 hyn
      by_cases o2' : xo = 2
      rotate_left
      · have d2 : (xo != 2) = true := by simpa using o2'
        have HE : Hid ((pcs.take (k + 1)).foldl (nextS p.ins c) [] = outs) := Lib.hid (by
          rw [HNX.out]
          unfold nextS
          rw [if_neg (fun h => o2' (by have h1 := h.2.1; rw [Int.toNat_natCast, HAT.out] at h1; exact h1))])
        clear o2'
        go_wp2_with fail
        go_big_quiet (fail)
        go_wp2_with fail
        go_roundw
        case rel => exact ⟨k + 1, by omega, by go_num, by rw [HE.out]; exact HX.out.below (below_draws _ _)⟩
        case measure => simp [intOf]; omega
      subst o2'
      have hu := ((sound_set n p.caps xu xa xt xs).1 HSD.out).1
      obtain ⟨z, rfl⟩ := Int.eq_ofNat_of_zero_le hu.1
      have hzn : (z : Int) < (n : Int) := hu.2
      have hpl : PlaceI p.ins.length (y : Int) := ⟨by omega, by rw [HN.out]; have := HYN.out; omega⟩
      have HE1 : Hid (HasR xs c → z ∉ outs → (pcs.take (k + 1)).foldl (nextS p.ins c) [] = outs ++ [z]) := Lib.hid (fun h1 h2 => by
        rw [HNX.out]
        unfold nextS
        rw [Int.toNat_natCast, HAT.out, if_pos ⟨hpl, rfl, h1, by simpa using h2⟩]
        simp)
      have HE0 : Hid (¬ (HasR xs c ∧ z ∉ outs) → (pcs.take (k + 1)).foldl (nextS p.ins c) [] = outs) := Lib.hid (fun h1 => by
        rw [HNX.out]
        unfold nextS
        rw [Int.toNat_natCast, HAT.out, if_neg (fun h => h1 ⟨h.2.2.1, by simpa using h.2.2.2⟩)])
      clear hpl
      clear hu
      go_wp2_with fail
      go_big_quiet (fail)
      go_wp2_with fail
      have hbd := below_draws wr nq
      have HX2 := Lib.hid (HX.out.below hbd); have HRS2 := Lib.hid (HRS.out.below hbd)
      have r0 := cell_on hbd k0; have r1 := cell_on hbd k1; have r2 := cell_on hbd k2; have r3 := cell_on hbd k3; have r4 := cell_on hbd k4; have r5 := cell_on hbd k5; have s0 := cell_on hbd e0
      generalize wr.drewN nq = wd at HX2 HRS2 r0 r1 r2 r3 r4 r5 s0 ⊢
      clear hbd k0 k1 k2 k3 k4 k5 e0 e1 e2 HX HBX HRS
      -- REGION 9
      have HSS : Hid (∀ W, Below wd.heap.size wd W → (fun W => W.cell? ⟨b, o + k, none⟩ = some (.int .i64 (y : Int)) ∧ W.cell? ⟨b2, o2 + y * 5, none⟩ = some (.int .i64 2) ∧ W.cell? ⟨b2, o2 + y * 5 + 1, none⟩ = some (.int .i64 (z : Int)) ∧ W.cell? ⟨b2, o2 + y * 5 + 2, none⟩ = some (.int .i64 xa) ∧ W.cell? ⟨b2, o2 + y * 5 + 3, none⟩ = some (.slice a3 sl c3) ∧ W.cell? ⟨b2, o2 + y * 5 + 4, none⟩ = some (.int .i64 xt) ∧ W.cell? ⟨w.heap.size, 0, none⟩ = some (.slice (some ⟨b2, o2, none⟩) n cp)) W) := Lib.hid fun W hW => ⟨cell_on hW r0, cell_on hW r1, cell_on hW r2, cell_on hW r3, cell_on hW r4, cell_on hW r5, cell_on hW s0⟩
      refine wp_region_held_drew (S := (fun W => W.cell? ⟨b, o + k, none⟩ = some (.int .i64 (y : Int)) ∧ W.cell? ⟨b2, o2 + y * 5, none⟩ = some (.int .i64 2) ∧ W.cell? ⟨b2, o2 + y * 5 + 1, none⟩ = some (.int .i64 (z : Int)) ∧ W.cell? ⟨b2, o2 + y * 5 + 2, none⟩ = some (.int .i64 xa) ∧ W.cell? ⟨b2, o2 + y * 5 + 3, none⟩ = some (.slice a3 sl c3) ∧ W.cell? ⟨b2, o2 + y * 5 + 4, none⟩ = some (.int .i64 xt) ∧ W.cell? ⟨w.heap.size, 0, none⟩ = some (.slice (some ⟨b2, o2, none⟩) n cp))) (by kernel_rfl) (HSS.out _ (Below.refl _ _).drew) (fun hHeld => ?_)
      refine wpAnyH_take (i := 0) (oi := _) (v := ?_) rfl (by kernel_rfl) (by kernel_rfl) (by kernel_rfl) (fun _ _ _ h => h) (Or.inl ⟨by rfl, ?_⟩) (by assumption) ?_
      rotate_left 1
      · (intro w hSw; (try dsimp only at hSw); go_simp; (try with_reducible rfl))
      try simp only [List.getElem_toArray, List.getElem_cons_zero, List.getElem_cons_succ, Act.put, List.setIfInBounds_toArray, List.set_cons_zero, List.set_cons_succ]
      refine wpAnyH_take (i := 1) (oi := _) (v := ?_) rfl (by kernel_rfl) (by kernel_rfl) (by kernel_rfl) (fun _ _ _ h => h) (Or.inl ⟨by rfl, ?_⟩) (by assumption) ?_
      rotate_left 1
      · (intro w hSw; (try dsimp only at hSw); go_simp; (try with_reducible rfl))
      try simp only [List.getElem_toArray, List.getElem_cons_zero, List.getElem_cons_succ, Act.put, List.setIfInBounds_toArray, List.set_cons_zero, List.set_cons_succ]
      refine wpAnyH_take (i := 2) (oi := _) (v := ?_) rfl (by kernel_rfl) (by kernel_rfl) (by kernel_rfl) (fun _ _ _ h => h) (Or.inl ⟨by rfl, ?_⟩) (by assumption) ?_
      rotate_left 1
      · (intro w hSw; (try dsimp only at hSw); go_simp; (try with_reducible rfl))
      try simp only [List.getElem_toArray, List.getElem_cons_zero, List.getElem_cons_succ, Act.put, List.setIfInBounds_toArray, List.set_cons_zero, List.set_cons_succ]
      refine wpAnyH_take (i := 3) (oi := _) (v := ?_) rfl (by kernel_rfl) (by kernel_rfl) (by kernel_rfl) (fun _ _ _ h => h) (Or.inl ⟨by rfl, ?_⟩) (by assumption) ?_
      rotate_left 1
      · (intro w hSw; (try dsimp only at hSw); go_simp; (try with_reducible rfl))
      try simp only [List.getElem_toArray, List.getElem_cons_zero, List.getElem_cons_succ, Act.put, List.setIfInBounds_toArray, List.set_cons_zero, List.set_cons_succ]
      refine wpAnyH_take (i := 4) (oi := _) (v := ?_) rfl (by kernel_rfl) (by kernel_rfl) (by kernel_rfl) (fun _ _ _ h => h) (Or.inl ⟨by rfl, ?_⟩) (by assumption) ?_
      rotate_left 1
      · (intro w hSw; (try dsimp only at hSw); go_simp; (try with_reducible rfl))
      try simp only [List.getElem_toArray, List.getElem_cons_zero, List.getElem_cons_succ, Act.put, List.setIfInBounds_toArray, List.set_cons_zero, List.set_cons_succ]
      refine wpAnyH_take (i := 5) (oi := _) (v := ?_) rfl (by kernel_rfl) (by kernel_rfl) (by kernel_rfl) (fun _ _ _ h => h) (Or.inl ⟨by rfl, ?_⟩) (by assumption) ?_
      rotate_left 1
      · (intro w hSw; (try dsimp only at hSw); go_simp; (try with_reducible rfl))
      try simp only [List.getElem_toArray, List.getElem_cons_zero, List.getElem_cons_succ, Act.put, List.setIfInBounds_toArray, List.set_cons_zero, List.set_cons_succ]
      refine wpAnyH_take (i := 6) (oi := _) (v := ?_) rfl (by kernel_rfl) (by kernel_rfl) (by kernel_rfl) (fun _ _ _ h => h) (Or.inl ⟨by rfl, ?_⟩) (by assumption) ?_
      rotate_left 1
      · (intro w hSw; (try dsimp only at hSw); go_simp; (try with_reducible rfl))
      try simp only [List.getElem_toArray, List.getElem_cons_zero, List.getElem_cons_succ, Act.put, List.setIfInBounds_toArray, List.set_cons_zero, List.set_cons_succ]
      refine wpAnyH_take (i := 7) (oi := _) (v := ?_) rfl (by kernel_rfl) (by kernel_rfl) (by kernel_rfl) (fun _ _ _ h => h) (Or.inl ⟨by rfl, ?_⟩) (by assumption) ?_
      rotate_left 1
      · (intro w hSw; (try dsimp only at hSw); go_simp; (try with_reducible rfl))
      try simp only [List.getElem_toArray, List.getElem_cons_zero, List.getElem_cons_succ, Act.put, List.setIfInBounds_toArray, List.set_cons_zero, List.set_cons_succ]
      refine wpAnyH_ready (rs := [8]) (by kernel_rfl) (by simp) ?_
      refine AllReadyH.cons (o := _) rfl (fun K hK => ?_) ?_
      · go_simp
        obtain ⟨W5, hW5⟩ : ∃ W5, (wd.alloc (.cells #[.int .i64 0, .int .i64 0, .int .i64 0, .slice none 0 0, .int .i64 0] 46)).drew = W5 := ⟨_, rfl⟩
        rw [hW5]
        have hb5 : Below wd.heap.size wd W5 := by rw [← hW5]; exact ((Below.refl _ wd).alloc (Nat.le_refl _) _).drew
        have hw5 : Whole W5 wd.heap.size 46 #[.int .i64 0, .int .i64 0, .int .i64 0, .slice none 0 0, .int .i64 0] := by rw [← hW5]; exact heap_alloc_new wd _
        have hS5 := HSS.out W5 hb5
        have HB5 := Lib.hid hb5; have HW5 := Lib.hid hw5
        have x0 := hw5.cell 0; have x1 := hw5.cell 1; have x2 := hw5.cell 2; have x3 := hw5.cell 3; have x4 := hw5.cell 4
        simp only [List.getElem?_toArray, List.getElem?_cons_zero, List.getElem?_cons_succ] at x0 x1 x2 x3 x4
        have z0 := hw5.free 0; have z1 := hw5.free 1; have z2 := hw5.free 2; have z3 := hw5.free 3; have z4 := hw5.free 4
        clear hW5 hb5 hw5
        refine hK.out _ _ hS5 (fun hHeld => ?_)
        clear hK K
        try simp only [List.getElem_toArray, List.getElem_cons_zero, List.getElem_cons_succ, Act.put, List.setIfInBounds_toArray, List.set_cons_zero, List.set_cons_succ]
        refine wpAnyH_ready (rs := [9]) (by kernel_rfl) (by simp) ?_
        refine AllReadyH.cons (o := _) rfl (fun K hK => ?_) ?_
        · go_simp
          obtain ⟨W6, hW6⟩ : ∃ W6, (((((W5.setCell ⟨wd.heap.size, 0, none⟩ (.int .i64 2)).setCell ⟨wd.heap.size, 1, none⟩ (.int .i64 (z : Int))).setCell ⟨wd.heap.size, 2, none⟩ (.int .i64 xa)).setCell ⟨wd.heap.size, 3, none⟩ (.slice a3 sl c3)).setCell ⟨wd.heap.size, 4, none⟩ (.int .i64 xt)) = W6 := ⟨_, rfl⟩
          rw [hW6]
          have hw6 : Whole W6 wd.heap.size 46 #[.int .i64 2, .int .i64 (z : Int), .int .i64 xa, .slice a3 sl c3, .int .i64 xt] := by
            rw [← hW6]
            have h6 := ((((HW5.out.store 0 (.int .i64 2)).store 1 (.int .i64 (z : Int))).store 2 (.int .i64 xa)).store 3 (.slice a3 sl c3)).store 4 (.int .i64 xt)
            simpa using h6
          have hb6 : Below wd.heap.size wd W6 := by
            rw [← hW6]
            exact ((((HB5.out.setCell (p := ⟨wd.heap.size, 0, none⟩) (Nat.le_refl _) _).setCell (p := ⟨wd.heap.size, 1, none⟩) (Nat.le_refl _) _).setCell (p := ⟨wd.heap.size, 2, none⟩) (Nat.le_refl _) _).setCell (p := ⟨wd.heap.size, 3, none⟩) (Nat.le_refl _) _).setCell (p := ⟨wd.heap.size, 4, none⟩) (Nat.le_refl _) _
          have hS6 := HSS.out W6 hb6
          have HB6 := Lib.hid hb6; have HW6 := Lib.hid hw6
          clear hW6 hb6 hw6 x0 x1 x2 x3 x4 z0 z1 z2 z3 z4
          refine hK.out _ _ hS6 (fun hHeld => ?_)
          clear hK K
          try simp only [List.getElem_toArray, List.getElem_cons_zero, List.getElem_cons_succ, Act.put, List.setIfInBounds_toArray, List.set_cons_zero, List.set_cons_succ]
          refine wpAnyH_done (by kernel_rfl) ?_ _
          clear hHeld r0 r1 r2 r3 r4 r5 s0
          have HX6 := Lib.hid (HX2.out.below HB6.out)
          have hgd : w3.heap.size ≠ wd.heap.size := by have := HX2.out.seen.lt; omega
          have HGD := Lib.hid hgd
          have HHA := Lib.hid (rhas_any _ xs c W6 (HRS2.out.below HB6.out))
          have x1 := HW6.out.cell 1; have x3 := HW6.out.cell 3
          simp only [List.getElem?_toArray, List.getElem?_cons_zero, List.getElem?_cons_succ] at x1 x3
          clear hgd HRS2 HX2 HSS HB5 HW5 hS5
          go_wp2_with fail
          refine HHA.out.mono ?_
          rintro e w7 ⟨B, rfl, hB, q, rfl⟩
          have hb7 := below_draws W6 q
          have HX7 := Lib.hid (HX6.out.below hb7)
          have y1 := cell_on hb7 x1
          generalize W6.drewN q = w7 at HX7 y1 ⊢
          have HBQ := Lib.hid hB
          clear hb7 hB x1 x3 HHA HX6 HW6
          cases B
          · have HNO := Lib.hid (HE0.out (fun h => mt HBQ.out.2 Bool.false_ne_true h.1))
            clear HBQ
            go_wp2_with fail
            go_roundw
            case rel => exact ⟨k + 1, by omega, by go_num, by rw [HNO.out]; exact HX7.out⟩
            case measure => simp [intOf]; omega
          have HYES := Lib.hid (HBQ.out.1 rfl)
          clear HBQ
          have d7 := HX7.out.seen.cell z
          have hzl : z < n := by omega
          simp only [List.getElem?_toArray, List.getElem?_map, seenL_get n outs z hzl, Option.map_some] at d7
          by_cases hmem : z ∈ outs
          · have HNO := Lib.hid (HE0.out (fun h => h.2 hmem))
            have hd7 : w7.cell? ⟨w3.heap.size, z, none⟩ = some (.bool true) := by rw [d7, decide_eq_true hmem]
            clear d7 hmem hzl
            go_wp2_with fail
            go_roundw
            case rel => exact ⟨k + 1, by omega, by go_num, by rw [HNO.out]; exact HX7.out⟩
            case measure => simp [intOf]; omega
          have HNO := Lib.hid (HE1.out HYES.out hmem)
          have hd7 : w7.cell? ⟨w3.heap.size, z, none⟩ = some (.bool false) := by rw [d7, decide_eq_false hmem]
          have fz := HX7.out.seen.free z
          clear d7 hmem hzl
          go_upto_region 13 with (fail)
          obtain ⟨W8, hW8⟩ : ∃ W8, w7.setCell ⟨w3.heap.size, z, none⟩ (.bool true) = W8 := ⟨_, rfl⟩
          have hsz8 : W8.heap.size = w7.heap.size := by rw [← hW8]; simp [World.setCell]
          have hx8 := own_set HX7.out.own w3.heap.size z (.bool true) (own_whole_ne HX7.out.own.1 HX7.out.seen (by decide))
          rw [hW8] at hx8
          have y8 : W8.cell? ⟨wd.heap.size, 1, none⟩ = some (.int .i64 (z : Int)) := by rw [← hW8]; exact (World.cell?_setCell_other _ _ _ _ (by simpa using fun e => absurd e HGD.out)).trans y1
          rw [hW8]
          have hb9 : Below W8.heap.size W8 (W8.alloc (.cells #[.int .i64 (z : Int)] 3)) := (Below.refl _ W8).alloc (Nat.le_refl _) _
          have HO9 := Lib.hid (hx8.below hb9); have HZ9 := Lib.hid (zs_new W8 (z : Int) (by unfold R64; omega))
          have HB9 : Hid (Below w7.heap.size (w7.setCell ⟨w3.heap.size, z, none⟩ (.bool true)) (W8.alloc (.cells #[.int .i64 (z : Int)] 3))) := Lib.hid (by rw [hW8, ← hsz8]; exact hb9)
          have HSZ : Hid (w3.heap.size ≤ (W8.alloc (.cells #[.int .i64 (z : Int)] 3)).heap.size) := Lib.hid (by rw [World.size_alloc, hsz8]; have := HX7.out.seen.lt; omega)
          clear hb9 hW8 hsz8 hx8 y1 hd7 fz
          go_wp2_with (at_builtin; refine append_zs rfl (.tmp 77) (.tmp 80) rfl w3.heap.size _ (natsZ outs) rfl HO9.out (some ⟨W8.heap.size, 0, none⟩) 1 1 [(z : Int)] rfl HZ9.out ?c1 ?c2 ?_)
          case c1 => rw [natsZ_len]; have := HOL.out; have := HLN.out; simp at *; omega
          case c2 => exact HSZ.out
          intro v9 w9 ho9 hg9
          have HX9 := Lib.hid (HX7.out.put z HB9.out ho9 hg9)
          clear ho9 hg9 y8
          go_wp2_with fail
          go_roundw
          case rel => exact ⟨k + 1, by omega, by go_num, by rw [HNO.out]; exact HX9.out⟩
          case measure => simp [intOf]; omega
        exact AllReadyH.nil
      exact AllReadyH.nil
    · have hall : (pcs.take k).foldl (nextS p.ins c) [] = nextG p pcs c := by rw [HG.out, List.take_of_length_le (by rw [HM.out]; omega)]
      have HE : Hid (outs = nextG p pcs c) := Lib.hid (by rw [← HO.out]; exact hall)
      clear hall hX ho hZr hbx
      go_wp2_with fail
      go_ret
      exact ⟨_, rfl, by rw [← HE.out]; exact HX.out.own.mono (below_steps HB1.out HB3.out).size, below_steps HB1.out HBX.out⟩
end Go.Proofs.Ytlkbdbijlnjjbaa
