/- The program's Next. -/
import Derived.Test.YtlkbdbijlnjjbaaPgNext
set_option linter.unusedVariables false
namespace Go.Proofs.Ytlkbdbijlnjjbaa
open Go Go.RowKit

def condN (I : List Ins) (c : Int) (outs : List Nat) (x : Nat) : Prop := x < I.length ∧ (atI I x).op = 2 ∧ HasR (atI I x).set c ∧ (atI I x).out.toNat ∉ outs
theorem next_yes {I : List Ins} {c : Int} {outs : List Nat} {x : Nat} (h : condN I c outs x) : nextS I c outs x = outs ++ [(atI I x).out.toNat] := by
  unfold nextS
  rw [if_pos ⟨⟨by omega, by have := h.1; omega⟩, by rw [Int.toNat_natCast]; exact h.2⟩, Int.toNat_natCast]
theorem next_no {I : List Ins} {c : Int} {outs : List Nat} {x : Nat} (h : ¬ condN I c outs x) : nextS I c outs x = outs := by
  unfold nextS
  rw [if_neg (fun k => h ⟨by have := k.1.2; omega, by have := k.2; rw [Int.toNat_natCast] at this; exact this⟩)]
theorem next_out {I : List Ins} {c : Int} {outs : List Nat} {x : Int} (h : ¬ PlaceI I.length x) : nextS I c outs x = outs := by
  unfold nextS
  rw [if_neg (fun k => h k.1)]
theorem condN_less {I : List Ins} {c : Int} {o o' : List Nat} {x : Nat} (h : ∀ y ∈ o, y ∈ o') (k : condN I c o' x) : condN I c o x := ⟨k.1, k.2.1, k.2.2.1, fun m => k.2.2.2 (h _ m)⟩
theorem condN_after (I : List Ins) (c : Int) (o : List Nat) (x : Nat) : ¬ condN I c (nextS I c o x) x := fun k => by
  by_cases h : condN I c o x
  · rw [next_yes h] at k
    exact k.2.2.2 (by simp)
  · rw [next_no h] at k
    exact h k
theorem next_sub (I : List Ins) (c : Int) (o : List Nat) (x : Int) : ∀ y ∈ o, y ∈ nextS I c o x := fun y hy => by
  unfold nextS
  split
  · exact List.mem_append_left _ hy
  · exact hy
structure PxIn (W0 W : World) (ga gt n : Nat) (ov : Value) (outs asked : List Nat) (I : List Ins) (c : Int) : Prop where
  nx : NxIn W0 W gt n ov outs
  ask : Whole W ga 4 ((seenL n asked).map Value.bool).toArray
  hga : W0.heap.size ≤ ga
  ne : ga ≠ gt
  done : ∀ a ∈ asked, ¬ condN I c outs a
section
variable {W0 W W' : World} {ga gt n : Nat} {ov : Value} {outs asked : List Nat} {I : List Ins} {c : Int}
theorem PxIn.below (h : PxIn W0 W ga gt n ov outs asked I c) (hb : Below W.heap.size W W') : PxIn W0 W' ga gt n ov outs asked I c := ⟨h.nx.below hb, h.ask.below hb h.ask.lt, h.hga, h.ne, h.done⟩
/-- Asked, and nothing told. -/
theorem PxIn.asks (h : PxIn W0 W ga gt n ov outs asked I c) (x : Nat) (hx : ¬ condN I c outs x) : PxIn W0 (W.setCell ⟨ga, x, none⟩ (.bool true)) ga gt n ov outs (asked ++ [x]) I c := by
  refine ⟨⟨h.nx.bel.setCell (p := ⟨ga, x, none⟩) h.hga _, h.nx.seen.far (fun e => h.ne e.symm) _ _, own_set h.nx.own ga x _ (own_whole_ne h.nx.own.1 h.ask (by decide)), h.nx.hg⟩, ?_, h.hga, h.ne, fun a ha => ?_⟩
  · rw [← seenL_set, ← set_map]
    exact h.ask.store x (.bool true)
  · rcases List.mem_append.1 ha with ha | ha
    · exact h.done a ha
    · rw [List.mem_singleton.1 ha]
      exact hx
theorem PxIn.mark (h : PxIn W0 W ga gt n ov outs asked I c) (x : Nat) : NxIn W0 (W.setCell ⟨ga, x, none⟩ (.bool true)) gt n ov outs ∧ Whole (W.setCell ⟨ga, x, none⟩ (.bool true)) ga 4 ((seenL n (asked ++ [x])).map Value.bool).toArray := by
  refine ⟨⟨h.nx.bel.setCell (p := ⟨ga, x, none⟩) h.hga _, h.nx.seen.far (fun e => h.ne e.symm) _ _, own_set h.nx.own ga x _ (own_whole_ne h.nx.own.1 h.ask (by decide)), h.nx.hg⟩, ?_⟩
  rw [← seenL_set, ← set_map]
  exact h.ask.store x (.bool true)
end
set_option maxHeartbeats 4000000 in
set_option maxRecDepth 100000 in
theorem pnext_any (p : Pg) (v u : Value) (pcs : List Int) (c : Int) (w : World) (h : PgV w p v) (g : Zs w u pcs) (hlen : pcs.length ≤ 17592186044416) :
    Calls Try.prog 17 #[v, u, .int .i32 c] w (NextPost (nextG p pcs c) w) := by
  have H0 := Lib.hid h
  obtain ⟨A, n, cp, hn, rfl, hI, hs, hc, hnb⟩ := h.opened
  obtain ⟨w1, hw1⟩ : ∃ w1, w.alloc (.cells #[.slice A n cp, .int .i64 p.start, .int .i64 p.caps] 24) = w1 := ⟨_, rfl⟩
  obtain ⟨hb1, e0, e1, e2, hz1⟩ := box3_new w _ _ _ _ hw1
  have HRT := Lib.hid (pright12_any p _ w1 (H0.out.below hb1))
  have HPL : Hid (∀ (y : Int) (W : World), Below w1.heap.size w1 W → Calls Try.prog 32 #[.agg #[.slice A n cp, .int .i64 p.start, .int .i64 p.caps], .int .i64 y] W (SaysG (PlaceI n y) W)) := Lib.hid fun y W hW => by
    have := pplace_any p _ y W (H0.out.below (below_steps hb1 hW))
    rw [hn] at this
    exact this
  have HZ := Lib.hid (g.below hb1)
  obtain ⟨A2, c2, rfl, hle, hmx, -⟩ := g
  obtain ⟨m, hm⟩ : ∃ m, pcs.length = m := ⟨_, rfl⟩
  have hmb : m ≤ 9223372036854775807 := by unfold maxLen at hmx; omega
  rw [hm] at HZ hlen ⊢
  have HF : Hid (∀ W, Below w1.heap.size w1 W → W.cell? ⟨w.heap.size, 0, none⟩ = some (.slice A n cp) ∧ W.cell? ⟨w.heap.size, 1, none⟩ = some (.int .i64 p.start) ∧ W.cell? ⟨w.heap.size, 2, none⟩ = some (.int .i64 p.caps)) := Lib.hid fun W hW => ⟨cell_on hW e0, cell_on hW e1, cell_on hW e2⟩
  have HIS := Lib.hid (hI.below hb1)
  have HB1 := Lib.hid hb1; have HW1 := Lib.hid hw1; have HN := Lib.hid hn; have HM := Lib.hid hm; have HLN := Lib.hid hlen
  clear h hI hs hc hw1 hb1 hz1 hn hm hmx hle hlen H0
  go_enter Try.func17, Try.ntmps17
  go_upto_region 1 with (fail)
  rw [HW1.out]
  go_wp2_with fail
  refine HRT.out.mono ?_
  rintro e w3 ⟨B, rfl, hq, hb3⟩
  have HB3 := Lib.hid hb3; have HQ := Lib.hid hq
  clear hb3 hq HRT e0 e1 e2
  obtain ⟨e0, e1, e2⟩ := HF.out _ HB3.out
  cases B
  · have HE : Hid (nextG p pcs c = []) := Lib.hid (if_neg (fun h => Bool.false_ne_true (HQ.out.2 h)))
    clear HQ
    go_wp2_with fail
    go_ret
    exact ⟨.slice none 0 0, rfl, by rw [HE.out]; exact ownZ_none _ _, below_steps HB1.out HB3.out⟩
  have HR := Lib.hid (HQ.out.1 rfl)
  have HG : Hid (nextG p pcs c = pcs.foldl (nextS p.ins c) []) := Lib.hid (if_pos HR.out)
  have hnn : n ≤ 10000 := by rw [← HN.out]; exact HR.out.2.1
  have hmk := make_bools n (by omega)
  obtain ⟨C, hC⟩ : ∃ C, Array.replicate n (Value.bool false) = C := ⟨_, rfl⟩
  rw [hC] at hmk
  have HC := Lib.hid hC
  clear hC HQ
  go_wp2_with fail
  refine wp_region_held_drew (S := (fun W => W.cell? ⟨w.heap.size, 0, none⟩ = some (.slice A n cp) ∧ W.cell? ⟨w.heap.size, 1, none⟩ = some (.int .i64 p.start) ∧ W.cell? ⟨w.heap.size, 2, none⟩ = some (.int .i64 p.caps))) (by kernel_rfl) (HF.out _ (below_steps HB3.out (Below.refl _ _).drew)) (fun hHeld => ?_)
  refine wpAnyH_take (i := 0) (oi := _) (v := ?_) rfl (by kernel_rfl) (by kernel_rfl) (by kernel_rfl) (fun _ _ _ h => h) (Or.inl ⟨by rfl, ?_⟩) (by assumption) ?_
  rotate_left 1
  · (intro w hSw; (try dsimp only at hSw); go_simp; (try with_reducible rfl))
  try simp only [List.getElem_toArray, List.getElem_cons_zero, List.getElem_cons_succ, Act.put, List.setIfInBounds_toArray, List.set_cons_zero, List.set_cons_succ]
  refine wpAnyH_take (i := 1) (oi := _) (v := ?_) rfl (by kernel_rfl) (by kernel_rfl) (by kernel_rfl) (fun _ _ _ h => h) (Or.inl ⟨by rfl, ?_⟩) (by assumption) ?_
  rotate_left 1
  · (intro w hSw; (try dsimp only at hSw); go_simp; (try with_reducible rfl))
  try simp only [List.getElem_toArray, List.getElem_cons_zero, List.getElem_cons_succ, Act.put, List.setIfInBounds_toArray, List.set_cons_zero, List.set_cons_succ]
  refine wpAnyH_take (i := 2) (oi := _) (v := ?_) rfl (by kernel_rfl) (by kernel_rfl) (by kernel_rfl) (fun _ _ _ h => h) (Or.inl ⟨by rfl, ?_⟩) (by assumption) ?_
  rotate_left 1
  · (intro w hSw; (try dsimp only at hSw); go_simp; (try with_reducible rfl))
  try simp only [List.getElem_toArray, List.getElem_cons_zero, List.getElem_cons_succ, Act.put, List.setIfInBounds_toArray, List.set_cons_zero, List.set_cons_succ]
  refine wpAnyH_take (i := 4) (oi := _) (v := ?_) rfl (by kernel_rfl) (by kernel_rfl) (by kernel_rfl) (fun _ _ _ h => h) (Or.inl ⟨by rfl, ?_⟩) (by assumption) ?_
  rotate_left 1
  · (intro w hSw; (try dsimp only at hSw); go_simp; (try with_reducible rfl))
  try simp only [List.getElem_toArray, List.getElem_cons_zero, List.getElem_cons_succ, Act.put, List.setIfInBounds_toArray, List.set_cons_zero, List.set_cons_succ]
  refine wpAnyH_take (i := 5) (oi := _) (v := ?_) rfl (by kernel_rfl) (by kernel_rfl) (by kernel_rfl) (fun _ _ _ h => h) (Or.inl ⟨by rfl, ?_⟩) (by assumption) ?_
  rotate_left 1
  · (intro w hSw; (try dsimp only at hSw); go_simp; (try with_reducible rfl))
  try simp only [List.getElem_toArray, List.getElem_cons_zero, List.getElem_cons_succ, Act.put, List.setIfInBounds_toArray, List.set_cons_zero, List.set_cons_succ]
  refine wpAnyH_take (i := 6) (oi := _) (v := ?_) rfl (by kernel_rfl) (by kernel_rfl) (by kernel_rfl) (fun _ _ _ h => h) (Or.inl ⟨by rfl, ?_⟩) (by assumption) ?_
  rotate_left 1
  · (intro w hSw; (try dsimp only at hSw); go_simp; (try with_reducible rfl))
  try simp only [List.getElem_toArray, List.getElem_cons_zero, List.getElem_cons_succ, Act.put, List.setIfInBounds_toArray, List.set_cons_zero, List.set_cons_succ]
  refine wpAnyH_ready (rs := [3, 7]) (by kernel_rfl) (by simp) ?_
  refine AllReadyH.cons (o := _) rfl (fun K hK => ?_) ?_
  · go_simp
    obtain ⟨W1, hW1⟩ : ∃ W1, (w3.alloc (.cells C 4)).drew = W1 := ⟨_, rfl⟩
    rw [hW1]
    have hbm : Below w3.heap.size w3 W1 := by rw [← hW1]; exact ((Below.refl _ w3).alloc (Nat.le_refl _) _).drew
    have hwa : Whole W1 w3.heap.size 4 C := by rw [← hW1]; exact heap_alloc_new w3 _
    have hsz : W1.heap.size = w3.heap.size + 1 := by rw [← hW1]; exact World.size_alloc _ _
    have hSa := HF.out W1 (below_steps HB3.out hbm)
    clear hW1
    refine hK.out _ _ hSa (fun hHeld => ?_)
    clear hK K
    try simp only [List.getElem_toArray, List.getElem_cons_zero, List.getElem_cons_succ, Act.put, List.setIfInBounds_toArray, List.set_cons_zero, List.set_cons_succ]
    refine wpAnyH_take (i := 8) (oi := _) (v := ?_) rfl (by kernel_rfl) (by kernel_rfl) (by kernel_rfl) (fun _ _ _ h => h) (Or.inl ⟨by rfl, ?_⟩) (by assumption) ?_
    rotate_left 1
    · (intro w hSw; (try dsimp only at hSw); go_simp; (try with_reducible rfl))
    try simp only [List.getElem_toArray, List.getElem_cons_zero, List.getElem_cons_succ, Act.put, List.setIfInBounds_toArray, List.set_cons_zero, List.set_cons_succ]
    refine wpAnyH_ready (rs := [7]) (by kernel_rfl) (by simp) ?_
    refine AllReadyH.cons (o := _) rfl (fun K hK => ?_) ?_
    · go_simp
      obtain ⟨W2, hW2⟩ : ∃ W2, W1.alloc (.cells C 4) = W2 := ⟨_, rfl⟩
      try rw [hW2]
      have hbm2 : Below W1.heap.size W1 W2 := by rw [← hW2]; exact (Below.refl _ W1).alloc (Nat.le_refl _) _
      have hwb : Whole W2 W1.heap.size 4 C := by rw [← hW2]; exact heap_alloc_new W1 _
      have hwa2 := hwa.below hbm2 (by omega)
      have hSb := HF.out W2 (below_steps HB3.out (below_steps hbm hbm2))
      clear hW2
      refine hK.out _ _ hSb (fun hHeld => ?_)
      clear hK K
      try simp only [List.getElem_toArray, List.getElem_cons_zero, List.getElem_cons_succ, Act.put, List.setIfInBounds_toArray, List.set_cons_zero, List.set_cons_succ]
      refine wpAnyH_take (i := 9) (oi := _) (v := ?_) rfl (by kernel_rfl) (by kernel_rfl) (by kernel_rfl) (fun _ _ _ h => h) (Or.inl ⟨by rfl, ?_⟩) (by assumption) ?_
      rotate_left 1
      · (intro w hSw; (try dsimp only at hSw); go_simp; (try with_reducible rfl))
      try simp only [List.getElem_toArray, List.getElem_cons_zero, List.getElem_cons_succ, Act.put, List.setIfInBounds_toArray, List.set_cons_zero, List.set_cons_succ]
      refine wpAnyH_done (by kernel_rfl) ?_ _
      clear hHeld e0 e1 e2 hmk
      have HX0 : Hid (PxIn w3 W2 (w3.heap.size) (W1.heap.size) n (.slice none 0 0) [] [] p.ins c) := Lib.hid (by
        have e : ((seenL n []).map Value.bool).toArray = C := by rw [seenL_nil, ← HC.out]; simp
        exact ⟨⟨below_steps hbm hbm2, by rw [e]; exact hwb, ownZ_none _ _, by omega⟩, by rw [e]; exact hwa2, by omega, by omega, by simp⟩)
      obtain ⟨ga, hga⟩ : ∃ ga, w3.heap.size = ga := ⟨_, rfl⟩
      obtain ⟨gt, hgt⟩ : ∃ gt, W1.heap.size = gt := ⟨_, rfl⟩
      rw [hga, hgt] at HX0
      try rw [hsz] at hga
      try rw [hsz] at hgt
      rw [hgt]
      rw [hga]
      clear hga hgt hwa hwa2 hwb hbm hbm2 hsz hSa hSb
      go_wp2_with fail
      go_loopw [7, 26] (fun ov i wr => ∃ (k : Nat) (asked : List Nat), k ≤ m ∧ i = .int .i64 k ∧ PxIn w3 wr ga gt n ov ((pcs.take k).foldl (nextS p.ins c) []) asked p.ins c) (fun _ i _ => m - (intOf i).toNat)
      case atStart => exact ⟨0, [], Nat.zero_le _, rfl, HX0.out⟩
      case round =>
        obtain ⟨k, asked, hk, rfl, hX⟩ := hrel
        have HX := Lib.hid hX
        have hbx := below_steps HB3.out hX.nx.bel
        have HBX := Lib.hid hbx
        obtain ⟨e0, e1, e2⟩ := HF.out _ hbx
        have hZr := HZ.out.below hbx
        obtain ⟨outs, ho⟩ : ∃ o, (pcs.take k).foldl (nextS p.ins c) [] = o := ⟨_, rfl⟩
        rw [ho] at HX hX
        have HO := Lib.hid ho
        by_cases hkm : k < m
        · have hkl : k < pcs.length := by rw [HM.out]; exact hkm
          obtain ⟨b, o, x, rfl, hx, hmem, k0, hR64⟩ := hZr.at' k hkl
          have hnx := next_take p.ins c pcs k hkl
          rw [ho, hx] at hnx
          have HNX := Lib.hid hnx
          have hol := next_len p.ins c (pcs.take k) []
          rw [ho, List.length_take] at hol
          have HOL := Lib.hid hol
          have HPX := Lib.hid (HPL.out x wr hbx)
          clear hX ho hnx hmem hx hZr hbx hol hR64
          go_wp2_with fail
          refine HPX.out.mono ?_
          rintro e w5 ⟨B, rfl, hB, hb5⟩
          have HX5 := Lib.hid (HX.out.below hb5); have HBX5 := Lib.hid (below_steps HBX.out hb5); have HBQ := Lib.hid hB
          clear hb5 hB HPX e0 e1 e2 k0 HX HBX
          obtain ⟨e0, e1, e2⟩ := HF.out _ HBX5.out
          cases B
          · have HE : Hid ((pcs.take (k + 1)).foldl (nextS p.ins c) [] = outs) := Lib.hid (by
              rw [HNX.out]
              exact next_out (fun h => mt HBQ.out.2 Bool.false_ne_true (by rw [HN.out] at h; exact h)))
            clear HBQ
            go_wp2_with fail
            go_roundw
            case rel => exact ⟨k + 1, asked, by omega, by go_num, by rw [HE.out]; exact HX5.out⟩
            case measure => simp [intOf]; omega
          have hpl := HBQ.out.1 rfl
          obtain ⟨y, rfl⟩ := Int.eq_ofNat_of_zero_le hpl.1
          have hyn : y < n := by have := hpl.2; omega
          have hyz : (y : Int) < (n : Int) := hpl.2
          have HYN := Lib.hid hyn
          have d7 := HX5.out.ask.cell y
          simp only [List.getElem?_toArray, List.getElem?_map, seenL_get n asked y hyn, Option.map_some] at d7
          have fz := HX5.out.ask.free y
          clear hpl HBQ hyn
          by_cases hma : y ∈ asked
          · have HE : Hid ((pcs.take (k + 1)).foldl (nextS p.ins c) [] = outs) := Lib.hid (by
              rw [HNX.out]
              exact next_no (HX5.out.done y hma))
            have hd7 : w5.cell? ⟨ga, y, none⟩ = some (.bool true) := by rw [d7, decide_eq_true hma]
            clear d7 hma
            go_wp2_with fail
            go_roundw
            case rel => exact ⟨k + 1, asked, by omega, by go_num, by rw [HE.out]; exact HX5.out⟩
            case measure => simp [intOf]; omega
          have hd7 : w5.cell? ⟨ga, y, none⟩ = some (.bool false) := by rw [d7, decide_eq_false hma]
          clear d7 hma
          obtain ⟨b2, o2, X, a3, sl, c3, hA, hX2, hm2, hsl, hat, HFV, HRG, hbd, hIV⟩ := HIS.out.at' y (by rw [HN.out]; exact HYN.out)
          have hsd := HR.out.2.2.2.2.2.2 X hm2
          rw [HN.out] at hsd
          obtain ⟨xo, xu, xa, xs, xt⟩ := X
          simp only at HFV HRG hsl
          subst hA
          have HF5 := Lib.hid HFV; have HRS := Lib.hid HRG; have HAT := Lib.hid hat; have HSD := Lib.hid hsd
          have HBL : Hid (b2 < w1.heap.size) := Lib.hid (World.block_lt_of_cell? w1 _ HFV.1)
          clear HFV HRG hat hsd hbd hIV hm2 hX2 hsl
          go_upto_region 10 with (fail)
          obtain ⟨W6, hW6⟩ : ∃ W6, w5.setCell ⟨ga, y, none⟩ (.bool true) = W6 := ⟨_, rfl⟩
          have hb6 : Below w1.heap.size w1 W6 := by
            rw [← hW6]
            exact HBX5.out.setCell (p := ⟨ga, y, none⟩) (Nat.le_trans HB3.out.size HX5.out.hga) _
          have HPA : Hid (¬ condN p.ins c outs y → PxIn w3 W6 ga gt n _ outs (asked ++ [y]) p.ins c) := Lib.hid (fun hno => by rw [← hW6]; exact HX5.out.asks y hno)
          have hmk := HX5.out.mark y
          rw [hW6] at hmk ⊢
          have HMK := Lib.hid hmk; have HB6 := Lib.hid hb6
          have HDONE : Hid (∀ a ∈ asked, ¬ condN p.ins c outs a) := Lib.hid HX5.out.done
          have HNE := Lib.hid HX5.out.ne; have HGA := Lib.hid HX5.out.hga
          clear hmk hW6 hb6 hd7 fz e0 e1 e2 HX5
          obtain ⟨e0, e1, e2⟩ := HF.out _ HB6.out
          obtain ⟨k1, k2, k3, k4, k5⟩ := HF5.out.below HB6.out
          by_cases o2' : xo = 2
          rotate_left
          · have d2 : (xo == 2) = false := beq_eq_false_iff_ne.2 o2'
            have HNC : Hid (¬ condN p.ins c outs y) := Lib.hid (fun h => o2' (by have h1 := h.2.1; rw [HAT.out] at h1; exact h1))
            have HE : Hid ((pcs.take (k + 1)).foldl (nextS p.ins c) [] = outs) := Lib.hid (by rw [HNX.out]; exact next_no HNC.out)
            clear o2'
            go_wp2_with fail
            go_roundw
            case rel => exact ⟨k + 1, asked ++ [y], by omega, by go_num, by rw [HE.out]; exact HPA.out HNC.out⟩
            case measure => simp [intOf]; omega
          subst o2'
          have hu := ((sound_set n p.caps xu xa xt xs).1 HSD.out).1
          obtain ⟨z, rfl⟩ := Int.eq_ofNat_of_zero_le hu.1
          have hzn : (z : Int) < (n : Int) := hu.2
          have hzl : z < n := by omega
          have d8 := HMK.out.1.seen.cell z
          simp only [List.getElem?_toArray, List.getElem?_map, seenL_get n outs z hzl, Option.map_some] at d8
          clear hu hzl
          by_cases hmz : z ∈ outs
          · have hd8 : W6.cell? ⟨gt, z, none⟩ = some (.bool true) := by rw [d8, decide_eq_true hmz]
            have HNC : Hid (¬ condN p.ins c outs y) := Lib.hid (fun h => h.2.2.2 (by rw [HAT.out]; simpa using hmz))
            have HE : Hid ((pcs.take (k + 1)).foldl (nextS p.ins c) [] = outs) := Lib.hid (by rw [HNX.out]; exact next_no HNC.out)
            clear d8 hmz
            go_wp2_with fail
            go_roundw
            case rel => exact ⟨k + 1, asked ++ [y], by omega, by go_num, by rw [HE.out]; exact HPA.out HNC.out⟩
            case measure => simp [intOf]; omega
          have hd8 : W6.cell? ⟨gt, z, none⟩ = some (.bool false) := by rw [d8, decide_eq_false hmz]
          have HMZ := Lib.hid hmz
          have HHA := Lib.hid (ghas_any _ xs c W6 (HRS.out.below HB6.out))
          clear d8 hmz
          go_wp2_with fail
          refine HHA.out.mono ?_
          rintro e w7 ⟨B, rfl, hB, hb7⟩
          have HBQ := Lib.hid hB; have HB7 := Lib.hid hb7; have HBX7 := Lib.hid (below_steps HB6.out hb7)
          have HM7 := Lib.hid (HMK.out.1.below hb7); have HA7 := Lib.hid (HMK.out.2.below hb7 HMK.out.2.lt)
          clear hb7 hB HHA e0 e1 e2 hd8 k1 k2 k3 k4 k5
          obtain ⟨e0, e1, e2⟩ := HF.out _ HBX7.out
          obtain ⟨k1, k2, k3, k4, k5⟩ := HF5.out.below HBX7.out
          cases B
          · have HNC : Hid (¬ condN p.ins c outs y) := Lib.hid (fun h => mt HBQ.out.2 Bool.false_ne_true (by have h1 := h.2.2.1; rw [HAT.out] at h1; exact h1))
            have HE : Hid ((pcs.take (k + 1)).foldl (nextS p.ins c) [] = outs) := Lib.hid (by rw [HNX.out]; exact next_no HNC.out)
            clear HBQ
            go_wp2_with fail
            go_roundw
            case rel => exact ⟨k + 1, asked ++ [y], by omega, by go_num, by rw [HE.out]; exact (HPA.out HNC.out).below HB7.out⟩
            case measure => simp [intOf]; omega
          have HCN : Hid (condN p.ins c outs y) := Lib.hid ⟨by rw [HN.out]; exact HYN.out, by rw [HAT.out], by rw [HAT.out]; exact HBQ.out.1 rfl, by rw [HAT.out]; simpa using HMZ.out⟩
          have HE : Hid ((pcs.take (k + 1)).foldl (nextS p.ins c) [] = outs ++ [z]) := Lib.hid (by rw [HNX.out, next_yes HCN.out, HAT.out]; simp)
          have fz2 := HM7.out.seen.free z
          have hu9 : w7.cell? ⟨gt, z, none⟩ = some (.bool (decide (z ∈ outs))) := by
            have h := HM7.out.seen.cell z
            rw [h]
            simp only [List.getElem?_toArray, List.getElem?_map, seenL_get n outs z (by omega), Option.map_some]
          rw [decide_eq_false HMZ.out] at hu9
          clear HBQ HPA
          go_upto_region 13 with (fail)
          obtain ⟨W8, hW8⟩ : ∃ W8, w7.setCell ⟨gt, z, none⟩ (.bool true) = W8 := ⟨_, rfl⟩
          have hsz8 : W8.heap.size = w7.heap.size := by rw [← hW8]; simp [World.setCell]
          have hx8 := own_set HM7.out.own gt z (.bool true) (own_whole_ne HM7.out.own.1 HM7.out.seen (by decide))
          rw [hW8] at hx8 ⊢
          have hb8 : Below w1.heap.size w1 W8 := by
            rw [← hW8]
            exact HBX7.out.setCell (p := ⟨gt, z, none⟩) (Nat.le_trans HB3.out.size HM7.out.hg) _
          have ha8 : Whole W8 ga 4 ((seenL n (asked ++ [y])).map Value.bool).toArray := by rw [← hW8]; exact HA7.out.far HNE.out _ _
          clear e0 e1 e2 k1 k2 k3 k4 k5 hu9 fz2
          obtain ⟨e0, e1, e2⟩ := HF.out _ hb8
          obtain ⟨k1, k2, k3, k4, k5⟩ := HF5.out.below hb8
          have hb9 : Below W8.heap.size W8 (W8.alloc (.cells #[.int .i64 (z : Int)] 3)) := (Below.refl _ W8).alloc (Nat.le_refl _) _
          have HO9 := Lib.hid (hx8.below hb9); have HZ9 := Lib.hid (zs_new W8 (z : Int) (by unfold R64; omega)); have HA9 := Lib.hid (ha8.below hb9 ha8.lt)
          have HB9 : Hid (Below w7.heap.size (w7.setCell ⟨gt, z, none⟩ (.bool true)) (W8.alloc (.cells #[.int .i64 (z : Int)] 3))) := Lib.hid (by rw [hW8, ← hsz8]; exact hb9)
          have HSZ : Hid (w3.heap.size ≤ (W8.alloc (.cells #[.int .i64 (z : Int)] 3)).heap.size) := Lib.hid (by rw [World.size_alloc, hsz8]; have := HM7.out.bel.size; omega)
          clear hb9 hW8 hsz8 hx8 ha8 hb8
          go_wp2_with (at_builtin; refine append_zs rfl (.tmp 76) (.tmp 81) rfl w3.heap.size _ (natsZ outs) rfl HO9.out (some ⟨W8.heap.size, 0, none⟩) 1 1 [(z : Int)] rfl HZ9.out ?c1 ?c2 ?_)
          case c1 => rw [natsZ_len]; have := HOL.out; have := HLN.out; simp at *; omega
          case c2 => exact HSZ.out
          intro v9 w9 ho9 hg9
          have HX9 : Hid (PxIn w3 w9 ga gt n v9 (outs ++ [z]) (asked ++ [y]) p.ins c) := Lib.hid ⟨HM7.out.put z HB9.out ho9 hg9, HA9.out.grown hg9 (own_whole_ne HO9.out.1 HA9.out (by decide)), HGA.out, HNE.out, fun a ha => by
            rcases List.mem_append.1 ha with ha | ha
            · exact fun h => HDONE.out a ha (condN_less (fun y hy => List.mem_append_left _ hy) h)
            · rw [List.mem_singleton.1 ha]
              exact fun h => h.2.2.2 (by rw [HAT.out]; simp)⟩
          clear ho9 hg9 e0 e1 e2 k1 k2 k3 k4 k5
          go_wp2_with fail
          go_roundw
          case rel => exact ⟨k + 1, asked ++ [y], by omega, by go_num, by rw [HE.out]; exact HX9.out⟩
          case measure => simp [intOf]; omega
        · have hall : (pcs.take k).foldl (nextS p.ins c) [] = nextG p pcs c := by rw [HG.out, List.take_of_length_le (by rw [HM.out]; omega)]
          have HE : Hid (outs = nextG p pcs c) := Lib.hid (by rw [← HO.out]; exact hall)
          clear hall hX ho hZr hbx e0 e1 e2
          go_wp2_with fail
          go_ret
          exact ⟨_, rfl, by rw [← HE.out]; exact HX.out.nx.own.mono (below_steps HB1.out HB3.out).size, below_steps HB1.out HBX.out⟩
    exact AllReadyH.nil
  refine AllReadyH.cons (o := _) rfl (fun K hK => ?_) ?_
  · go_simp
    obtain ⟨W1, hW1⟩ : ∃ W1, (w3.alloc (.cells C 4)).drew = W1 := ⟨_, rfl⟩
    rw [hW1]
    have hbm : Below w3.heap.size w3 W1 := by rw [← hW1]; exact ((Below.refl _ w3).alloc (Nat.le_refl _) _).drew
    have hwa : Whole W1 w3.heap.size 4 C := by rw [← hW1]; exact heap_alloc_new w3 _
    have hsz : W1.heap.size = w3.heap.size + 1 := by rw [← hW1]; exact World.size_alloc _ _
    have hSa := HF.out W1 (below_steps HB3.out hbm)
    clear hW1
    refine hK.out _ _ hSa (fun hHeld => ?_)
    clear hK K
    try simp only [List.getElem_toArray, List.getElem_cons_zero, List.getElem_cons_succ, Act.put, List.setIfInBounds_toArray, List.set_cons_zero, List.set_cons_succ]
    refine wpAnyH_ready (rs := [3]) (by kernel_rfl) (by simp) ?_
    refine AllReadyH.cons (o := _) rfl (fun K hK => ?_) ?_
    · go_simp
      obtain ⟨W2, hW2⟩ : ∃ W2, W1.alloc (.cells C 4) = W2 := ⟨_, rfl⟩
      try rw [hW2]
      have hbm2 : Below W1.heap.size W1 W2 := by rw [← hW2]; exact (Below.refl _ W1).alloc (Nat.le_refl _) _
      have hwb : Whole W2 W1.heap.size 4 C := by rw [← hW2]; exact heap_alloc_new W1 _
      have hwa2 := hwa.below hbm2 (by omega)
      have hSb := HF.out W2 (below_steps HB3.out (below_steps hbm hbm2))
      clear hW2
      refine hK.out _ _ hSb (fun hHeld => ?_)
      clear hK K
      try simp only [List.getElem_toArray, List.getElem_cons_zero, List.getElem_cons_succ, Act.put, List.setIfInBounds_toArray, List.set_cons_zero, List.set_cons_succ]
      refine wpAnyH_take (i := 8) (oi := _) (v := ?_) rfl (by kernel_rfl) (by kernel_rfl) (by kernel_rfl) (fun _ _ _ h => h) (Or.inl ⟨by rfl, ?_⟩) (by assumption) ?_
      rotate_left 1
      · (intro w hSw; (try dsimp only at hSw); go_simp; (try with_reducible rfl))
      try simp only [List.getElem_toArray, List.getElem_cons_zero, List.getElem_cons_succ, Act.put, List.setIfInBounds_toArray, List.set_cons_zero, List.set_cons_succ]
      refine wpAnyH_take (i := 9) (oi := _) (v := ?_) rfl (by kernel_rfl) (by kernel_rfl) (by kernel_rfl) (fun _ _ _ h => h) (Or.inl ⟨by rfl, ?_⟩) (by assumption) ?_
      rotate_left 1
      · (intro w hSw; (try dsimp only at hSw); go_simp; (try with_reducible rfl))
      try simp only [List.getElem_toArray, List.getElem_cons_zero, List.getElem_cons_succ, Act.put, List.setIfInBounds_toArray, List.set_cons_zero, List.set_cons_succ]
      refine wpAnyH_done (by kernel_rfl) ?_ _
      clear hHeld e0 e1 e2 hmk
      have HX0 : Hid (PxIn w3 W2 (W1.heap.size) (w3.heap.size) n (.slice none 0 0) [] [] p.ins c) := Lib.hid (by
        have e : ((seenL n []).map Value.bool).toArray = C := by rw [seenL_nil, ← HC.out]; simp
        exact ⟨⟨below_steps hbm hbm2, by rw [e]; exact hwa2, ownZ_none _ _, by omega⟩, by rw [e]; exact hwb, by omega, by omega, by simp⟩)
      obtain ⟨ga, hga⟩ : ∃ ga, W1.heap.size = ga := ⟨_, rfl⟩
      obtain ⟨gt, hgt⟩ : ∃ gt, w3.heap.size = gt := ⟨_, rfl⟩
      rw [hga, hgt] at HX0
      try rw [hsz] at hga
      try rw [hsz] at hgt
      rw [hga]
      rw [hgt]
      clear hga hgt hwa hwa2 hwb hbm hbm2 hsz hSa hSb
      go_wp2_with fail
      go_loopw [7, 26] (fun ov i wr => ∃ (k : Nat) (asked : List Nat), k ≤ m ∧ i = .int .i64 k ∧ PxIn w3 wr ga gt n ov ((pcs.take k).foldl (nextS p.ins c) []) asked p.ins c) (fun _ i _ => m - (intOf i).toNat)
      case atStart => exact ⟨0, [], Nat.zero_le _, rfl, HX0.out⟩
      case round =>
        obtain ⟨k, asked, hk, rfl, hX⟩ := hrel
        have HX := Lib.hid hX
        have hbx := below_steps HB3.out hX.nx.bel
        have HBX := Lib.hid hbx
        obtain ⟨e0, e1, e2⟩ := HF.out _ hbx
        have hZr := HZ.out.below hbx
        obtain ⟨outs, ho⟩ : ∃ o, (pcs.take k).foldl (nextS p.ins c) [] = o := ⟨_, rfl⟩
        rw [ho] at HX hX
        have HO := Lib.hid ho
        by_cases hkm : k < m
        · have hkl : k < pcs.length := by rw [HM.out]; exact hkm
          obtain ⟨b, o, x, rfl, hx, hmem, k0, hR64⟩ := hZr.at' k hkl
          have hnx := next_take p.ins c pcs k hkl
          rw [ho, hx] at hnx
          have HNX := Lib.hid hnx
          have hol := next_len p.ins c (pcs.take k) []
          rw [ho, List.length_take] at hol
          have HOL := Lib.hid hol
          have HPX := Lib.hid (HPL.out x wr hbx)
          clear hX ho hnx hmem hx hZr hbx hol hR64
          go_wp2_with fail
          refine HPX.out.mono ?_
          rintro e w5 ⟨B, rfl, hB, hb5⟩
          have HX5 := Lib.hid (HX.out.below hb5); have HBX5 := Lib.hid (below_steps HBX.out hb5); have HBQ := Lib.hid hB
          clear hb5 hB HPX e0 e1 e2 k0 HX HBX
          obtain ⟨e0, e1, e2⟩ := HF.out _ HBX5.out
          cases B
          · have HE : Hid ((pcs.take (k + 1)).foldl (nextS p.ins c) [] = outs) := Lib.hid (by
              rw [HNX.out]
              exact next_out (fun h => mt HBQ.out.2 Bool.false_ne_true (by rw [HN.out] at h; exact h)))
            clear HBQ
            go_wp2_with fail
            go_roundw
            case rel => exact ⟨k + 1, asked, by omega, by go_num, by rw [HE.out]; exact HX5.out⟩
            case measure => simp [intOf]; omega
          have hpl := HBQ.out.1 rfl
          obtain ⟨y, rfl⟩ := Int.eq_ofNat_of_zero_le hpl.1
          have hyn : y < n := by have := hpl.2; omega
          have hyz : (y : Int) < (n : Int) := hpl.2
          have HYN := Lib.hid hyn
          have d7 := HX5.out.ask.cell y
          simp only [List.getElem?_toArray, List.getElem?_map, seenL_get n asked y hyn, Option.map_some] at d7
          have fz := HX5.out.ask.free y
          clear hpl HBQ hyn
          by_cases hma : y ∈ asked
          · have HE : Hid ((pcs.take (k + 1)).foldl (nextS p.ins c) [] = outs) := Lib.hid (by
              rw [HNX.out]
              exact next_no (HX5.out.done y hma))
            have hd7 : w5.cell? ⟨ga, y, none⟩ = some (.bool true) := by rw [d7, decide_eq_true hma]
            clear d7 hma
            go_wp2_with fail
            go_roundw
            case rel => exact ⟨k + 1, asked, by omega, by go_num, by rw [HE.out]; exact HX5.out⟩
            case measure => simp [intOf]; omega
          have hd7 : w5.cell? ⟨ga, y, none⟩ = some (.bool false) := by rw [d7, decide_eq_false hma]
          clear d7 hma
          obtain ⟨b2, o2, X, a3, sl, c3, hA, hX2, hm2, hsl, hat, HFV, HRG, hbd, hIV⟩ := HIS.out.at' y (by rw [HN.out]; exact HYN.out)
          have hsd := HR.out.2.2.2.2.2.2 X hm2
          rw [HN.out] at hsd
          obtain ⟨xo, xu, xa, xs, xt⟩ := X
          simp only at HFV HRG hsl
          subst hA
          have HF5 := Lib.hid HFV; have HRS := Lib.hid HRG; have HAT := Lib.hid hat; have HSD := Lib.hid hsd
          have HBL : Hid (b2 < w1.heap.size) := Lib.hid (World.block_lt_of_cell? w1 _ HFV.1)
          clear HFV HRG hat hsd hbd hIV hm2 hX2 hsl
          go_upto_region 10 with (fail)
          obtain ⟨W6, hW6⟩ : ∃ W6, w5.setCell ⟨ga, y, none⟩ (.bool true) = W6 := ⟨_, rfl⟩
          have hb6 : Below w1.heap.size w1 W6 := by
            rw [← hW6]
            exact HBX5.out.setCell (p := ⟨ga, y, none⟩) (Nat.le_trans HB3.out.size HX5.out.hga) _
          have HPA : Hid (¬ condN p.ins c outs y → PxIn w3 W6 ga gt n _ outs (asked ++ [y]) p.ins c) := Lib.hid (fun hno => by rw [← hW6]; exact HX5.out.asks y hno)
          have hmk := HX5.out.mark y
          rw [hW6] at hmk ⊢
          have HMK := Lib.hid hmk; have HB6 := Lib.hid hb6
          have HDONE : Hid (∀ a ∈ asked, ¬ condN p.ins c outs a) := Lib.hid HX5.out.done
          have HNE := Lib.hid HX5.out.ne; have HGA := Lib.hid HX5.out.hga
          clear hmk hW6 hb6 hd7 fz e0 e1 e2 HX5
          obtain ⟨e0, e1, e2⟩ := HF.out _ HB6.out
          obtain ⟨k1, k2, k3, k4, k5⟩ := HF5.out.below HB6.out
          by_cases o2' : xo = 2
          rotate_left
          · have d2 : (xo == 2) = false := beq_eq_false_iff_ne.2 o2'
            have HNC : Hid (¬ condN p.ins c outs y) := Lib.hid (fun h => o2' (by have h1 := h.2.1; rw [HAT.out] at h1; exact h1))
            have HE : Hid ((pcs.take (k + 1)).foldl (nextS p.ins c) [] = outs) := Lib.hid (by rw [HNX.out]; exact next_no HNC.out)
            clear o2'
            go_wp2_with fail
            go_roundw
            case rel => exact ⟨k + 1, asked ++ [y], by omega, by go_num, by rw [HE.out]; exact HPA.out HNC.out⟩
            case measure => simp [intOf]; omega
          subst o2'
          have hu := ((sound_set n p.caps xu xa xt xs).1 HSD.out).1
          obtain ⟨z, rfl⟩ := Int.eq_ofNat_of_zero_le hu.1
          have hzn : (z : Int) < (n : Int) := hu.2
          have hzl : z < n := by omega
          have d8 := HMK.out.1.seen.cell z
          simp only [List.getElem?_toArray, List.getElem?_map, seenL_get n outs z hzl, Option.map_some] at d8
          clear hu hzl
          by_cases hmz : z ∈ outs
          · have hd8 : W6.cell? ⟨gt, z, none⟩ = some (.bool true) := by rw [d8, decide_eq_true hmz]
            have HNC : Hid (¬ condN p.ins c outs y) := Lib.hid (fun h => h.2.2.2 (by rw [HAT.out]; simpa using hmz))
            have HE : Hid ((pcs.take (k + 1)).foldl (nextS p.ins c) [] = outs) := Lib.hid (by rw [HNX.out]; exact next_no HNC.out)
            clear d8 hmz
            go_wp2_with fail
            go_roundw
            case rel => exact ⟨k + 1, asked ++ [y], by omega, by go_num, by rw [HE.out]; exact HPA.out HNC.out⟩
            case measure => simp [intOf]; omega
          have hd8 : W6.cell? ⟨gt, z, none⟩ = some (.bool false) := by rw [d8, decide_eq_false hmz]
          have HMZ := Lib.hid hmz
          have HHA := Lib.hid (ghas_any _ xs c W6 (HRS.out.below HB6.out))
          clear d8 hmz
          go_wp2_with fail
          refine HHA.out.mono ?_
          rintro e w7 ⟨B, rfl, hB, hb7⟩
          have HBQ := Lib.hid hB; have HB7 := Lib.hid hb7; have HBX7 := Lib.hid (below_steps HB6.out hb7)
          have HM7 := Lib.hid (HMK.out.1.below hb7); have HA7 := Lib.hid (HMK.out.2.below hb7 HMK.out.2.lt)
          clear hb7 hB HHA e0 e1 e2 hd8 k1 k2 k3 k4 k5
          obtain ⟨e0, e1, e2⟩ := HF.out _ HBX7.out
          obtain ⟨k1, k2, k3, k4, k5⟩ := HF5.out.below HBX7.out
          cases B
          · have HNC : Hid (¬ condN p.ins c outs y) := Lib.hid (fun h => mt HBQ.out.2 Bool.false_ne_true (by have h1 := h.2.2.1; rw [HAT.out] at h1; exact h1))
            have HE : Hid ((pcs.take (k + 1)).foldl (nextS p.ins c) [] = outs) := Lib.hid (by rw [HNX.out]; exact next_no HNC.out)
            clear HBQ
            go_wp2_with fail
            go_roundw
            case rel => exact ⟨k + 1, asked ++ [y], by omega, by go_num, by rw [HE.out]; exact (HPA.out HNC.out).below HB7.out⟩
            case measure => simp [intOf]; omega
          have HCN : Hid (condN p.ins c outs y) := Lib.hid ⟨by rw [HN.out]; exact HYN.out, by rw [HAT.out], by rw [HAT.out]; exact HBQ.out.1 rfl, by rw [HAT.out]; simpa using HMZ.out⟩
          have HE : Hid ((pcs.take (k + 1)).foldl (nextS p.ins c) [] = outs ++ [z]) := Lib.hid (by rw [HNX.out, next_yes HCN.out, HAT.out]; simp)
          have fz2 := HM7.out.seen.free z
          have hu9 : w7.cell? ⟨gt, z, none⟩ = some (.bool (decide (z ∈ outs))) := by
            have h := HM7.out.seen.cell z
            rw [h]
            simp only [List.getElem?_toArray, List.getElem?_map, seenL_get n outs z (by omega), Option.map_some]
          rw [decide_eq_false HMZ.out] at hu9
          clear HBQ HPA
          go_upto_region 13 with (fail)
          obtain ⟨W8, hW8⟩ : ∃ W8, w7.setCell ⟨gt, z, none⟩ (.bool true) = W8 := ⟨_, rfl⟩
          have hsz8 : W8.heap.size = w7.heap.size := by rw [← hW8]; simp [World.setCell]
          have hx8 := own_set HM7.out.own gt z (.bool true) (own_whole_ne HM7.out.own.1 HM7.out.seen (by decide))
          rw [hW8] at hx8 ⊢
          have hb8 : Below w1.heap.size w1 W8 := by
            rw [← hW8]
            exact HBX7.out.setCell (p := ⟨gt, z, none⟩) (Nat.le_trans HB3.out.size HM7.out.hg) _
          have ha8 : Whole W8 ga 4 ((seenL n (asked ++ [y])).map Value.bool).toArray := by rw [← hW8]; exact HA7.out.far HNE.out _ _
          clear e0 e1 e2 k1 k2 k3 k4 k5 hu9 fz2
          obtain ⟨e0, e1, e2⟩ := HF.out _ hb8
          obtain ⟨k1, k2, k3, k4, k5⟩ := HF5.out.below hb8
          have hb9 : Below W8.heap.size W8 (W8.alloc (.cells #[.int .i64 (z : Int)] 3)) := (Below.refl _ W8).alloc (Nat.le_refl _) _
          have HO9 := Lib.hid (hx8.below hb9); have HZ9 := Lib.hid (zs_new W8 (z : Int) (by unfold R64; omega)); have HA9 := Lib.hid (ha8.below hb9 ha8.lt)
          have HB9 : Hid (Below w7.heap.size (w7.setCell ⟨gt, z, none⟩ (.bool true)) (W8.alloc (.cells #[.int .i64 (z : Int)] 3))) := Lib.hid (by rw [hW8, ← hsz8]; exact hb9)
          have HSZ : Hid (w3.heap.size ≤ (W8.alloc (.cells #[.int .i64 (z : Int)] 3)).heap.size) := Lib.hid (by rw [World.size_alloc, hsz8]; have := HM7.out.bel.size; omega)
          clear hb9 hW8 hsz8 hx8 ha8 hb8
          go_wp2_with (at_builtin; refine append_zs rfl (.tmp 76) (.tmp 81) rfl w3.heap.size _ (natsZ outs) rfl HO9.out (some ⟨W8.heap.size, 0, none⟩) 1 1 [(z : Int)] rfl HZ9.out ?c1 ?c2 ?_)
          case c1 => rw [natsZ_len]; have := HOL.out; have := HLN.out; simp at *; omega
          case c2 => exact HSZ.out
          intro v9 w9 ho9 hg9
          have HX9 : Hid (PxIn w3 w9 ga gt n v9 (outs ++ [z]) (asked ++ [y]) p.ins c) := Lib.hid ⟨HM7.out.put z HB9.out ho9 hg9, HA9.out.grown hg9 (own_whole_ne HO9.out.1 HA9.out (by decide)), HGA.out, HNE.out, fun a ha => by
            rcases List.mem_append.1 ha with ha | ha
            · exact fun h => HDONE.out a ha (condN_less (fun y hy => List.mem_append_left _ hy) h)
            · rw [List.mem_singleton.1 ha]
              exact fun h => h.2.2.2 (by rw [HAT.out]; simp)⟩
          clear ho9 hg9 e0 e1 e2 k1 k2 k3 k4 k5
          go_wp2_with fail
          go_roundw
          case rel => exact ⟨k + 1, asked ++ [y], by omega, by go_num, by rw [HE.out]; exact HX9.out⟩
          case measure => simp [intOf]; omega
        · have hall : (pcs.take k).foldl (nextS p.ins c) [] = nextG p pcs c := by rw [HG.out, List.take_of_length_le (by rw [HM.out]; omega)]
          have HE : Hid (outs = nextG p pcs c) := Lib.hid (by rw [← HO.out]; exact hall)
          clear hall hX ho hZr hbx e0 e1 e2
          go_wp2_with fail
          go_ret
          exact ⟨_, rfl, by rw [← HE.out]; exact HX.out.nx.own.mono (below_steps HB1.out HB3.out).size, below_steps HB1.out HBX.out⟩
    exact AllReadyH.nil
  exact AllReadyH.nil
end Go.Proofs.Ytlkbdbijlnjjbaa
