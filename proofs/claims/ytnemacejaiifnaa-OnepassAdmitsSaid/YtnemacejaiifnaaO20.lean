/- Texts merged by program: OeMatch. No condition. -/
import Derived.Test.YtnemacejaiifnaaO13
import Derived.Test.YtnemacejaiifnaaO15
import Derived.Test.YtnemacejaiifnaaO19
import Derived.Deep.RegionHeld3
import Derived.Deep.RegionWith
import Derived.OwnWalk
set_option linter.unusedVariables false
set_option linter.unusedSimpArgs false
/- Match of a program without choice (the walk by gen15match.py). No condition. -/
namespace Go.Proofs.Ytnemacejaiifnaa
open Go Go.RowKit

theorem step_store_row {w : World} {ops : Array Oper} {o : Oper} {a : Act} {Kk : Act → World → Prop} {Q : Exit → Act → World → Prop} {E : Prop} (hgd : o.guard = none) (ty : TypeId) (x y : Operand) (ho : o.op = .store ty x y)
    (g : Nat) (cells : Array Value) (hx : a.eval x = .pointer (some ⟨g, 0, none⟩)) (hy : a.eval y = .agg cells) (t : TypeId) (old : Array Value) (hg : Whole w g t old) (hi : (Try.prog.info? ty).map (·.size) = some cells.size)
    (hold : old.size = cells.size) (h1 : cells.all (·.oneCell') = true) (h : Kk (a.put o.dst undef) (w.setRow g cells)) : if Region.wanted o (yielded ops a.tmps) = true then Oper.wp Try.prog o a w Kk Q else E := by
  have hw : Region.wanted o (yielded ops a.tmps) = true := by
    unfold Region.wanted
    rw [hgd]
  rw [if_pos hw]
  exact wp_store_row ty x y ho g cells hx hy t old hg hi hold h1 h
theorem run_cells15 (A : Option Addr) (n c gm gb ib g caps : Nat) (long : Bool) : (#[.slice A n c, .slice (some ⟨gm, 0, none⟩) n n, .slice (some ⟨gb, 0, none⟩) n n, .int .i64 0, .slice none 0 0, .pointer (some ⟨ib, 0, none⟩), .bool long, .slice (some ⟨g, 0, none⟩) caps caps, .slice none 0 0, .int .i64 0] : Array Value).all (·.oneCell') = true := by
  simp [Value.oneCell']
def fit0 (caps : Nat) : List Int := (List.replicate caps (-1)).set 0 0
/-- What Match tells. -/
def MatP (p : Pg) (s : ByteArray) (long : Bool) (w : World) (e : Ending) (w' : World) : Prop :=
  ∃ mv got st, e = .returned (.tuple #[mv, .bool got.isSome, .int .i64 ((st : Nat) : Int)]) ∧ OwnZ w' w.heap.size mv (got.getD []) ∧ (got = none → mv = .slice none 0 0) ∧ (∀ m, got = some m → (m.length : Int) = p.caps) ∧ Below w.heap.size w w' ∧
    ((¬ OneI p ∧ got = none ∧ st = 0) ∨ (OneI p ∧ got = findF p.ins (textT (runesOf s)) long ((runesOf s).length + 1) p.start.toNat 0 (fit0 p.caps.toNat) ∧ st ≤ 1 + ((runesOf s).length + 1) * (3 * p.ins.length + p.caps.toNat + 2)))
theorem ownZ_mono15 {w : World} {B B' : Nat} {v : Value} {l : List Int} (h : OwnZ w B v l) (hB : B' ≤ B) : OwnZ w B' v l := by
  refine ⟨⟨h.1.1, ?_⟩, h.2⟩
  rcases h.1.2 with h2 | ⟨g, cap, cur, e, h3, h4⟩
  · exact .inl h2
  · exact .inr ⟨g, cap, cur, e, by omega, h4⟩
theorem ownZ_whole15 {w : World} {g B : Nat} {l : List Int} (h : Whole w g 3 (litsZ l).toArray) (hB : B ≤ g) (hr : ∀ x ∈ l, R64 x) (hm : l.length ≤ maxLen) : OwnZ w B (.slice (some ⟨g, 0, none⟩) l.length l.length) l := by
  refine ⟨⟨by rw [litsZ_length, Nat.mul_one], .inr ⟨g, l.length, _, rfl, hB, h, ?_⟩⟩, hr⟩
  simp [litsZ, hm]
  rw [List.take_of_length_le (by simp)]
set_option maxHeartbeats 8000000 in
set_option maxRecDepth 100000 in
theorem pmatch_any (p : Pg) (v : Value) (w : World) (h : PgV w p v) (hS : ¬ LongPg p) (B0 : Nat) (k0 : Int) (s : ByteArray) (ib : Nat) (hIn : In w B0 k0 s ib) (hlen : (runesOf s).length ≤ 1000000) (long : Bool) :
    Calls Try.prog 50 #[v, .pointer (some ⟨ib, 0, none⟩), .bool long] w (MatP p s long w) := by
  have H0 := Lib.hid h
  obtain ⟨A, n, c, hn, rfl, hI, hs, hc, hnb⟩ := h.opened
  obtain ⟨w1, hw1⟩ : ∃ w1, w.alloc (.cells #[.slice A n c, .int .i64 p.start, .int .i64 p.caps] 58) = w1 := ⟨_, rfl⟩
  obtain ⟨hb1, e0, e1, e2, hz1⟩ := box3_new w _ _ _ _ hw1
  have HAD := Lib.hid (padmits_any p _ w1 (H0.out.below hb1) hS)
  have HF : Hid (∀ W, Below w1.heap.size w1 W → W.cell? ⟨w.heap.size, 0, none⟩ = some (.slice A n c) ∧ W.cell? ⟨w.heap.size, 1, none⟩ = some (.int .i64 p.start) ∧ W.cell? ⟨w.heap.size, 2, none⟩ = some (.int .i64 p.caps)) := Lib.hid fun W hW => ⟨cell_on hW e0, cell_on hW e1, cell_on hW e2⟩
  have HIS := Lib.hid hI; have HB1 := Lib.hid hb1; have HW1 := Lib.hid hw1; have HN := Lib.hid hn; have HIN := Lib.hid hIn; have HLEN := Lib.hid hlen
  clear h hI hs hc hw1 hb1 hz1 hn hS hIn hlen
  go_enter Try.func50, Try.ntmps50
  go_upto_region 1 with (fail)
  rw [HW1.out]
  go_wp2_with fail
  refine HAD.out.mono ?_
  rintro e w2 ⟨B, rfl, hB, hb2⟩
  have HB := Lib.hid hB; have HB2 := Lib.hid hb2
  obtain ⟨q0, q1, q2⟩ := HF.out w2 hb2
  clear e0 e1 e2 HAD hB hb2
  cases B
  · go_wp2_with fail
    go_ret3
    exact ⟨.slice none 0 0, none, 0, rfl, ownZ_none _ _, fun _ => rfl, fun m e => (by cases e), below_steps HB1.out HB2.out, .inl ⟨fun h => (by have := HB.out.2 h; cases this), rfl, rfl⟩⟩
  · have hone : OneI p := HB.out.1 rfl
    have hR := hone.1
    have hnn : n ≤ 10000 := by rw [← HN.out]; exact hR.2.1
    obtain ⟨caps, hcaps⟩ : ∃ caps : Nat, p.caps = (caps : Int) := Int.eq_ofNat_of_zero_le (by have := hR.2.2.2.1; omega)
    obtain ⟨s0, hs0⟩ : ∃ s0 : Nat, p.start = (s0 : Int) := Int.eq_ofNat_of_zero_le hR.2.2.1.1
    have hc2 : 2 ≤ caps := by have := hR.2.2.2.1; omega
    have hc3 : caps ≤ 4002 := by have := hR.2.2.2.2.1; omega
    rw [hcaps] at q2
    rw [hs0] at q1
    have HON := Lib.hid hone; have HR := Lib.hid hR; have HNN := Lib.hid hnn; have HCE := Lib.hid hcaps; have HSE := Lib.hid hs0; have HC2 := Lib.hid hc2; have HC3 := Lib.hid hc3
    have HQ0 := Lib.hid q0; have HQ2 := Lib.hid q2
    clear hone hR hnn hcaps hs0 hc2 hc3
    go_upto_region 3 with (fail)
    go_cut [9] (fun s9 wx => ∃ W, W = wx ∧ ∃ q gm gb g, s9 = .pointer (some ⟨q, 0, none⟩) ∧ Whole wx q 139 #[.slice A n c, .slice (some ⟨gm, 0, none⟩) n n, .slice (some ⟨gb, 0, none⟩) n n, .int .i64 0, .slice none 0 0, .pointer (some ⟨ib, 0, none⟩), .bool long, .slice (some ⟨g, 0, none⟩) caps caps, .slice none 0 0, .int .i64 0] ∧
        Whole wx gm 3 (litsZ (List.replicate n 0)).toArray ∧ Whole wx gb 3 (litsZ (List.replicate n 0)).toArray ∧ Whole wx g 3 (litsZ (List.replicate caps (-1))).toArray ∧ gm ≠ gb ∧ g ≠ gm ∧ g ≠ gb ∧ w2.heap.size ≤ q ∧ w2.heap.size ≤ gm ∧ w2.heap.size ≤ gb ∧ w2.heap.size ≤ g ∧ Below w2.heap.size w2 wx)
    case first =>
      refine wp_region_held_drew (S := fun w' => Below w2.heap.size w2 w') (by kernel_rfl) ((Below.refl _ w2).drew) (fun hHeld => ?_)
      obtain ⟨u0, hu0⟩ : ∃ x, w2.drew = x := ⟨_, rfl⟩
      rw [hu0] at hHeld ⊢
      have HB0 := Lib.hid hHeld
      clear hu0
      refine wpAnyH_take (i := 0) (oi := _) (v := ?_) rfl (by kernel_rfl) (by kernel_rfl) (by kernel_rfl) (fun _ _ _ h => h) (Or.inl ⟨by rfl, ?_⟩) hHeld ?_
      rotate_left 1
      · (intro w hSw; (try dsimp only at hSw); have e0 := cell_on hSw HQ0.out; have e1 := cell_on hSw HQ2.out; go_simp; (try with_reducible rfl))
      try simp only [List.getElem_toArray, List.getElem_cons_zero, List.getElem_cons_succ, Act.put, List.setIfInBounds_toArray, List.set_cons_zero, List.set_cons_succ]
      refine wpAnyH_take (i := 1) (oi := _) (v := ?_) rfl (by kernel_rfl) (by kernel_rfl) (by kernel_rfl) (fun _ _ _ h => h) (Or.inl ⟨by rfl, ?_⟩) hHeld ?_
      rotate_left 1
      · (intro w hSw; (try dsimp only at hSw); have e0 := cell_on hSw HQ0.out; have e1 := cell_on hSw HQ2.out; go_simp; (try with_reducible rfl))
      try simp only [List.getElem_toArray, List.getElem_cons_zero, List.getElem_cons_succ, Act.put, List.setIfInBounds_toArray, List.set_cons_zero, List.set_cons_succ]
      refine wpAnyH_take (i := 3) (oi := _) (v := ?_) rfl (by kernel_rfl) (by kernel_rfl) (by kernel_rfl) (fun _ _ _ h => h) (Or.inl ⟨by rfl, ?_⟩) hHeld ?_
      rotate_left 1
      · (intro w hSw; (try dsimp only at hSw); have e0 := cell_on hSw HQ0.out; have e1 := cell_on hSw HQ2.out; go_simp; (try with_reducible rfl))
      try simp only [List.getElem_toArray, List.getElem_cons_zero, List.getElem_cons_succ, Act.put, List.setIfInBounds_toArray, List.set_cons_zero, List.set_cons_succ]
      refine wpAnyH_take (i := 4) (oi := _) (v := ?_) rfl (by kernel_rfl) (by kernel_rfl) (by kernel_rfl) (fun _ _ _ h => h) (Or.inl ⟨by rfl, ?_⟩) hHeld ?_
      rotate_left 1
      · (intro w hSw; (try dsimp only at hSw); have e0 := cell_on hSw HQ0.out; have e1 := cell_on hSw HQ2.out; go_simp; (try with_reducible rfl))
      try simp only [List.getElem_toArray, List.getElem_cons_zero, List.getElem_cons_succ, Act.put, List.setIfInBounds_toArray, List.set_cons_zero, List.set_cons_succ]
      refine wpAnyH_take (i := 6) (oi := _) (v := ?_) rfl (by kernel_rfl) (by kernel_rfl) (by kernel_rfl) (fun _ _ _ h => h) (Or.inl ⟨by rfl, ?_⟩) hHeld ?_
      rotate_left 1
      · (intro w hSw; (try dsimp only at hSw); have e0 := cell_on hSw HQ0.out; have e1 := cell_on hSw HQ2.out; go_simp; (try with_reducible rfl))
      try simp only [List.getElem_toArray, List.getElem_cons_zero, List.getElem_cons_succ, Act.put, List.setIfInBounds_toArray, List.set_cons_zero, List.set_cons_succ]
      refine wpAnyH_take (i := 7) (oi := _) (v := ?_) rfl (by kernel_rfl) (by kernel_rfl) (by kernel_rfl) (fun _ _ _ h => h) (Or.inl ⟨by rfl, ?_⟩) hHeld ?_
      rotate_left 1
      · (intro w hSw; (try dsimp only at hSw); have e0 := cell_on hSw HQ0.out; have e1 := cell_on hSw HQ2.out; go_simp; (try with_reducible rfl))
      try simp only [List.getElem_toArray, List.getElem_cons_zero, List.getElem_cons_succ, Act.put, List.setIfInBounds_toArray, List.set_cons_zero, List.set_cons_succ]
      refine wpAnyH_ready (rs := [2, 5, 10]) (by kernel_rfl) (by simp) ?_
      refine AllReadyH.cons (o := _) rfl (fun K hK => ?_) ?_
      · go_simp
        refine (pthrough_any A n c HNN.out u0).mono ?_
        rintro e u1 ⟨gm, gb, rfl, hgm, hgb, hne, hzm, hzb, hb⟩
        have hw : Below w2.heap.size w2 u1 := below_steps HB0.out hb
        have HB1 := Lib.hid hw
        have HNE := Lib.hid hne; have HX1M := Lib.hid hgm; have HX1B := Lib.hid hgb; have HZM := Lib.hid (Nat.le_trans HB0.out.size hzm); have HZB := Lib.hid (Nat.le_trans HB0.out.size hzb)
        clear hne hgm hgb hzm hzb
        clear hb
        go_wp2_with fail
        refine hK.out _ _ hw (fun hHeld => ?_)
        clear hK K hw
        try simp only [List.getElem_toArray, List.getElem_cons_zero, List.getElem_cons_succ, Act.put, List.setIfInBounds_toArray, List.set_cons_zero, List.set_cons_succ]
        refine wpAnyH_ready (rs := [5, 10]) (by kernel_rfl) (by simp) ?_
        refine AllReadyH.cons (o := _) rfl (fun K hK => ?_) ?_
        · go_simp
          obtain ⟨u2, hu2⟩ : ∃ x, u1.alloc (.cells #[.int .i64 (-1)] 3) = x := ⟨_, rfl⟩
          rw [hu2]
          have hb : Below u1.heap.size u1 u2 := by rw [← hu2]; exact (Below.refl _ _).alloc (Nat.le_refl _) _
          have hnew : Whole u2 u1.heap.size 3 #[.int .i64 (-1)] := by rw [← hu2]; exact heap_alloc_new u1 _
          clear hu2
          have hw : Below w2.heap.size w2 u2 := below_steps HB1.out hb
          have HB2 := Lib.hid hw
          have HX2M := Lib.hid (HX1M.out.below hb HX1M.out.lt)
          have HX2B := Lib.hid (HX1B.out.below hb HX1B.out.lt)
          have HX2S := Lib.hid hnew
          clear hnew
          clear hb
          refine hK.out _ _ hw (fun hHeld => ?_)
          clear hK K hw
          try simp only [List.getElem_toArray, List.getElem_cons_zero, List.getElem_cons_succ, Act.put, List.setIfInBounds_toArray, List.set_cons_zero, List.set_cons_succ]
          refine wpAnyH_ready (rs := [8, 10]) (by kernel_rfl) (by simp) ?_
          refine AllReadyH.cons (o := _) rfl (fun K hK => ?_) ?_
          · go_simp
            refine (drepeat_anyO caps (by have := HC3.out; omega) _ u2 HX2S.out).mono ?_
            rintro e u3 ⟨g, rfl, hzg, hgg, hb⟩
            have hw : Below w2.heap.size w2 u3 := below_steps HB2.out hb
            have HB3 := Lib.hid hw
            have HX3M := Lib.hid (HX2M.out.below hb HX2M.out.lt)
            have HX3B := Lib.hid (HX2B.out.below hb HX2B.out.lt)
            have HX3S := Lib.hid (HX2S.out.below hb HX2S.out.lt)
            have HNG1 := Lib.hid (show g ≠ gm by have := HX2M.out.lt; omega); have HNG2 := Lib.hid (show g ≠ gb by have := HX2B.out.lt; omega); have HX3G := Lib.hid (show Whole u3 g _ (litsZ (List.replicate caps (-1))).toArray from hgg); have HZG := Lib.hid (Nat.le_trans HB2.out.size hzg)
            clear hgg hzg
            clear hb
            go_wp2_with fail
            refine hK.out _ _ hw (fun hHeld => ?_)
            clear hK K hw
            try simp only [List.getElem_toArray, List.getElem_cons_zero, List.getElem_cons_succ, Act.put, List.setIfInBounds_toArray, List.set_cons_zero, List.set_cons_succ]
            refine wpAnyH_take (i := 9) (oi := _) (v := ?_) rfl (by kernel_rfl) (by kernel_rfl) (by kernel_rfl) (fun _ _ _ h => h) (Or.inl ⟨by rfl, ?_⟩) hHeld ?_
            rotate_left 1
            · (intro w hSw; (try dsimp only at hSw); have e0 := cell_on hSw HQ0.out; have e1 := cell_on hSw HQ2.out; go_simp; (try with_reducible rfl))
            try simp only [List.getElem_toArray, List.getElem_cons_zero, List.getElem_cons_succ, Act.put, List.setIfInBounds_toArray, List.set_cons_zero, List.set_cons_succ]
            refine wpAnyH_ready (rs := [10]) (by kernel_rfl) (by simp) ?_
            refine AllReadyH.cons (o := _) rfl (fun K hK => ?_) ?_
            · go_simp
              obtain ⟨u4, hu4⟩ : ∃ x, u3.alloc (.cells #[.slice none 0 0, .slice none 0 0, .slice none 0 0, .int .i64 0, .slice none 0 0, .pointer none, .bool false, .slice none 0 0, .slice none 0 0, .int .i64 0] 139) = x := ⟨_, rfl⟩
              rw [hu4]
              have hb : Below u3.heap.size u3 u4 := by rw [← hu4]; exact (Below.refl _ _).alloc (Nat.le_refl _) _
              have hnew : Whole u4 u3.heap.size 139 #[.slice none 0 0, .slice none 0 0, .slice none 0 0, .int .i64 0, .slice none 0 0, .pointer none, .bool false, .slice none 0 0, .slice none 0 0, .int .i64 0] := by rw [← hu4]; exact heap_alloc_new u3 _
              clear hu4
              have hw : Below w2.heap.size w2 u4 := below_steps HB3.out hb
              have HB4 := Lib.hid hw
              have HX4M := Lib.hid (HX3M.out.below hb HX3M.out.lt)
              have HX4B := Lib.hid (HX3B.out.below hb HX3B.out.lt)
              have HX4S := Lib.hid (HX3S.out.below hb HX3S.out.lt)
              have HX4G := Lib.hid (HX3G.out.below hb HX3G.out.lt)
              have HX4Q := Lib.hid hnew
              clear hnew
              have HZQ4 := Lib.hid (HB3.out.size)
              clear hb
              refine hK.out _ _ hw (fun hHeld => ?_)
              clear hK K hw
              try simp only [List.getElem_toArray, List.getElem_cons_zero, List.getElem_cons_succ, Act.put, List.setIfInBounds_toArray, List.set_cons_zero, List.set_cons_succ]
              refine wpAnyH_ready (rs := [11]) (by kernel_rfl) (by simp) ?_
              refine AllReadyH.cons (o := _) rfl (fun K hK => ?_) ?_
              · refine step_store_row rfl 139 (.tmp 9) (.tmp 26) rfl (u3.heap.size) #[.slice A n c, .slice (some ⟨gm, 0, none⟩) n n, .slice (some ⟨gb, 0, none⟩) n n, .int .i64 0, .slice none 0 0, .pointer (some ⟨ib, 0, none⟩), .bool long, .slice (some ⟨g, 0, none⟩) caps caps, .slice none 0 0, .int .i64 0] rfl rfl _ _ HX4Q.out (by kernel_rfl) rfl (run_cells15 ..) ?_
                have hw : Below w2.heap.size w2 (u4.setRow (u3.heap.size) #[.slice A n c, .slice (some ⟨gm, 0, none⟩) n n, .slice (some ⟨gb, 0, none⟩) n n, .int .i64 0, .slice none 0 0, .pointer (some ⟨ib, 0, none⟩), .bool long, .slice (some ⟨g, 0, none⟩) caps caps, .slice none 0 0, .int .i64 0]) := below_setRow HB4.out HZQ4.out _
                have HWF := Lib.hid hw
                have HQF := Lib.hid (show Whole (u4.setRow (u3.heap.size) #[.slice A n c, .slice (some ⟨gm, 0, none⟩) n n, .slice (some ⟨gb, 0, none⟩) n n, .int .i64 0, .slice none 0 0, .pointer (some ⟨ib, 0, none⟩), .bool long, .slice (some ⟨g, 0, none⟩) caps caps, .slice none 0 0, .int .i64 0]) (u3.heap.size) _ _ from setRow_heap _ _ _ _ _ _ HX4Q.out)
                have HMF := Lib.hid (show Whole (u4.setRow (u3.heap.size) #[.slice A n c, .slice (some ⟨gm, 0, none⟩) n n, .slice (some ⟨gb, 0, none⟩) n n, .int .i64 0, .slice none 0 0, .pointer (some ⟨ib, 0, none⟩), .bool long, .slice (some ⟨g, 0, none⟩) caps caps, .slice none 0 0, .int .i64 0]) (gm) _ _ from (setRow_other _ _ _ _ (ne_types HX4M.out HX4Q.out (by decide))).trans HX4M.out)
                have HBF := Lib.hid (show Whole (u4.setRow (u3.heap.size) #[.slice A n c, .slice (some ⟨gm, 0, none⟩) n n, .slice (some ⟨gb, 0, none⟩) n n, .int .i64 0, .slice none 0 0, .pointer (some ⟨ib, 0, none⟩), .bool long, .slice (some ⟨g, 0, none⟩) caps caps, .slice none 0 0, .int .i64 0]) (gb) _ _ from (setRow_other _ _ _ _ (ne_types HX4B.out HX4Q.out (by decide))).trans HX4B.out)
                have HGF := Lib.hid (show Whole (u4.setRow (u3.heap.size) #[.slice A n c, .slice (some ⟨gm, 0, none⟩) n n, .slice (some ⟨gb, 0, none⟩) n n, .int .i64 0, .slice none 0 0, .pointer (some ⟨ib, 0, none⟩), .bool long, .slice (some ⟨g, 0, none⟩) caps caps, .slice none 0 0, .int .i64 0]) (g) _ _ from (setRow_other _ _ _ _ (ne_types HX4G.out HX4Q.out (by decide))).trans HX4G.out)
                refine hK.out _ _ hw (fun hHeld => ?_)
                clear hK K hw
                try simp only [List.getElem_toArray, List.getElem_cons_zero, List.getElem_cons_succ, Act.put, List.setIfInBounds_toArray, List.set_cons_zero, List.set_cons_succ]
                refine wpAnyH_done (by kernel_rfl) ?_ _
                go_wp2_with fail
                go_meet
                exact ⟨_, rfl, u3.heap.size, gm, gb, g, rfl, HQF.out, HMF.out, HBF.out, HGF.out, HNE.out, HNG1.out, HNG2.out, HZQ4.out, HZM.out, HZB.out, HZG.out, HWF.out⟩
              exact AllReadyH.nil
            exact AllReadyH.nil
          refine AllReadyH.cons (o := _) rfl (fun K hK => ?_) ?_
          · go_simp
            obtain ⟨u6, hu6⟩ : ∃ x, u2.alloc (.cells #[.slice none 0 0, .slice none 0 0, .slice none 0 0, .int .i64 0, .slice none 0 0, .pointer none, .bool false, .slice none 0 0, .slice none 0 0, .int .i64 0] 139) = x := ⟨_, rfl⟩
            rw [hu6]
            have hb : Below u2.heap.size u2 u6 := by rw [← hu6]; exact (Below.refl _ _).alloc (Nat.le_refl _) _
            have hnew : Whole u6 u2.heap.size 139 #[.slice none 0 0, .slice none 0 0, .slice none 0 0, .int .i64 0, .slice none 0 0, .pointer none, .bool false, .slice none 0 0, .slice none 0 0, .int .i64 0] := by rw [← hu6]; exact heap_alloc_new u2 _
            clear hu6
            have hw : Below w2.heap.size w2 u6 := below_steps HB2.out hb
            have HB6 := Lib.hid hw
            have HX6M := Lib.hid (HX2M.out.below hb HX2M.out.lt)
            have HX6B := Lib.hid (HX2B.out.below hb HX2B.out.lt)
            have HX6S := Lib.hid (HX2S.out.below hb HX2S.out.lt)
            have HX6Q := Lib.hid hnew
            clear hnew
            have HZQ6 := Lib.hid (HB2.out.size)
            clear hb
            refine hK.out _ _ hw (fun hHeld => ?_)
            clear hK K hw
            try simp only [List.getElem_toArray, List.getElem_cons_zero, List.getElem_cons_succ, Act.put, List.setIfInBounds_toArray, List.set_cons_zero, List.set_cons_succ]
            refine wpAnyH_ready (rs := [8]) (by kernel_rfl) (by simp) ?_
            refine AllReadyH.cons (o := _) rfl (fun K hK => ?_) ?_
            · go_simp
              refine (drepeat_anyO caps (by have := HC3.out; omega) _ u6 HX6S.out).mono ?_
              rintro e u7 ⟨g, rfl, hzg, hgg, hb⟩
              have hw : Below w2.heap.size w2 u7 := below_steps HB6.out hb
              have HB7 := Lib.hid hw
              have HX7M := Lib.hid (HX6M.out.below hb HX6M.out.lt)
              have HX7B := Lib.hid (HX6B.out.below hb HX6B.out.lt)
              have HX7S := Lib.hid (HX6S.out.below hb HX6S.out.lt)
              have HX7Q := Lib.hid (HX6Q.out.below hb HX6Q.out.lt)
              have HNG1 := Lib.hid (show g ≠ gm by have := HX6M.out.lt; omega); have HNG2 := Lib.hid (show g ≠ gb by have := HX6B.out.lt; omega); have HX7G := Lib.hid (show Whole u7 g _ (litsZ (List.replicate caps (-1))).toArray from hgg); have HZG := Lib.hid (Nat.le_trans HB6.out.size hzg)
              clear hgg hzg
              clear hb
              go_wp2_with fail
              refine hK.out _ _ hw (fun hHeld => ?_)
              clear hK K hw
              try simp only [List.getElem_toArray, List.getElem_cons_zero, List.getElem_cons_succ, Act.put, List.setIfInBounds_toArray, List.set_cons_zero, List.set_cons_succ]
              refine wpAnyH_take (i := 9) (oi := _) (v := ?_) rfl (by kernel_rfl) (by kernel_rfl) (by kernel_rfl) (fun _ _ _ h => h) (Or.inl ⟨by rfl, ?_⟩) hHeld ?_
              rotate_left 1
              · (intro w hSw; (try dsimp only at hSw); have e0 := cell_on hSw HQ0.out; have e1 := cell_on hSw HQ2.out; go_simp; (try with_reducible rfl))
              try simp only [List.getElem_toArray, List.getElem_cons_zero, List.getElem_cons_succ, Act.put, List.setIfInBounds_toArray, List.set_cons_zero, List.set_cons_succ]
              refine wpAnyH_ready (rs := [11]) (by kernel_rfl) (by simp) ?_
              refine AllReadyH.cons (o := _) rfl (fun K hK => ?_) ?_
              · refine step_store_row rfl 139 (.tmp 9) (.tmp 26) rfl (u2.heap.size) #[.slice A n c, .slice (some ⟨gm, 0, none⟩) n n, .slice (some ⟨gb, 0, none⟩) n n, .int .i64 0, .slice none 0 0, .pointer (some ⟨ib, 0, none⟩), .bool long, .slice (some ⟨g, 0, none⟩) caps caps, .slice none 0 0, .int .i64 0] rfl rfl _ _ HX7Q.out (by kernel_rfl) rfl (run_cells15 ..) ?_
                have hw : Below w2.heap.size w2 (u7.setRow (u2.heap.size) #[.slice A n c, .slice (some ⟨gm, 0, none⟩) n n, .slice (some ⟨gb, 0, none⟩) n n, .int .i64 0, .slice none 0 0, .pointer (some ⟨ib, 0, none⟩), .bool long, .slice (some ⟨g, 0, none⟩) caps caps, .slice none 0 0, .int .i64 0]) := below_setRow HB7.out HZQ6.out _
                have HWF := Lib.hid hw
                have HQF := Lib.hid (show Whole (u7.setRow (u2.heap.size) #[.slice A n c, .slice (some ⟨gm, 0, none⟩) n n, .slice (some ⟨gb, 0, none⟩) n n, .int .i64 0, .slice none 0 0, .pointer (some ⟨ib, 0, none⟩), .bool long, .slice (some ⟨g, 0, none⟩) caps caps, .slice none 0 0, .int .i64 0]) (u2.heap.size) _ _ from setRow_heap _ _ _ _ _ _ HX7Q.out)
                have HMF := Lib.hid (show Whole (u7.setRow (u2.heap.size) #[.slice A n c, .slice (some ⟨gm, 0, none⟩) n n, .slice (some ⟨gb, 0, none⟩) n n, .int .i64 0, .slice none 0 0, .pointer (some ⟨ib, 0, none⟩), .bool long, .slice (some ⟨g, 0, none⟩) caps caps, .slice none 0 0, .int .i64 0]) (gm) _ _ from (setRow_other _ _ _ _ (ne_types HX7M.out HX7Q.out (by decide))).trans HX7M.out)
                have HBF := Lib.hid (show Whole (u7.setRow (u2.heap.size) #[.slice A n c, .slice (some ⟨gm, 0, none⟩) n n, .slice (some ⟨gb, 0, none⟩) n n, .int .i64 0, .slice none 0 0, .pointer (some ⟨ib, 0, none⟩), .bool long, .slice (some ⟨g, 0, none⟩) caps caps, .slice none 0 0, .int .i64 0]) (gb) _ _ from (setRow_other _ _ _ _ (ne_types HX7B.out HX7Q.out (by decide))).trans HX7B.out)
                have HGF := Lib.hid (show Whole (u7.setRow (u2.heap.size) #[.slice A n c, .slice (some ⟨gm, 0, none⟩) n n, .slice (some ⟨gb, 0, none⟩) n n, .int .i64 0, .slice none 0 0, .pointer (some ⟨ib, 0, none⟩), .bool long, .slice (some ⟨g, 0, none⟩) caps caps, .slice none 0 0, .int .i64 0]) (g) _ _ from (setRow_other _ _ _ _ (ne_types HX7G.out HX7Q.out (by decide))).trans HX7G.out)
                refine hK.out _ _ hw (fun hHeld => ?_)
                clear hK K hw
                try simp only [List.getElem_toArray, List.getElem_cons_zero, List.getElem_cons_succ, Act.put, List.setIfInBounds_toArray, List.set_cons_zero, List.set_cons_succ]
                refine wpAnyH_done (by kernel_rfl) ?_ _
                go_wp2_with fail
                go_meet
                exact ⟨_, rfl, u2.heap.size, gm, gb, g, rfl, HQF.out, HMF.out, HBF.out, HGF.out, HNE.out, HNG1.out, HNG2.out, HZQ6.out, HZM.out, HZB.out, HZG.out, HWF.out⟩
              exact AllReadyH.nil
            exact AllReadyH.nil
          exact AllReadyH.nil
        refine AllReadyH.cons (o := _) rfl (fun K hK => ?_) ?_
        · go_simp
          obtain ⟨u9, hu9⟩ : ∃ x, u1.alloc (.cells #[.slice none 0 0, .slice none 0 0, .slice none 0 0, .int .i64 0, .slice none 0 0, .pointer none, .bool false, .slice none 0 0, .slice none 0 0, .int .i64 0] 139) = x := ⟨_, rfl⟩
          rw [hu9]
          have hb : Below u1.heap.size u1 u9 := by rw [← hu9]; exact (Below.refl _ _).alloc (Nat.le_refl _) _
          have hnew : Whole u9 u1.heap.size 139 #[.slice none 0 0, .slice none 0 0, .slice none 0 0, .int .i64 0, .slice none 0 0, .pointer none, .bool false, .slice none 0 0, .slice none 0 0, .int .i64 0] := by rw [← hu9]; exact heap_alloc_new u1 _
          clear hu9
          have hw : Below w2.heap.size w2 u9 := below_steps HB1.out hb
          have HB9 := Lib.hid hw
          have HX9M := Lib.hid (HX1M.out.below hb HX1M.out.lt)
          have HX9B := Lib.hid (HX1B.out.below hb HX1B.out.lt)
          have HX9Q := Lib.hid hnew
          clear hnew
          have HZQ9 := Lib.hid (HB1.out.size)
          clear hb
          refine hK.out _ _ hw (fun hHeld => ?_)
          clear hK K hw
          try simp only [List.getElem_toArray, List.getElem_cons_zero, List.getElem_cons_succ, Act.put, List.setIfInBounds_toArray, List.set_cons_zero, List.set_cons_succ]
          refine wpAnyH_ready (rs := [5]) (by kernel_rfl) (by simp) ?_
          refine AllReadyH.cons (o := _) rfl (fun K hK => ?_) ?_
          · go_simp
            obtain ⟨u10, hu10⟩ : ∃ x, u9.alloc (.cells #[.int .i64 (-1)] 3) = x := ⟨_, rfl⟩
            rw [hu10]
            have hb : Below u9.heap.size u9 u10 := by rw [← hu10]; exact (Below.refl _ _).alloc (Nat.le_refl _) _
            have hnew : Whole u10 u9.heap.size 3 #[.int .i64 (-1)] := by rw [← hu10]; exact heap_alloc_new u9 _
            clear hu10
            have hw : Below w2.heap.size w2 u10 := below_steps HB9.out hb
            have HB10 := Lib.hid hw
            have HX10M := Lib.hid (HX9M.out.below hb HX9M.out.lt)
            have HX10B := Lib.hid (HX9B.out.below hb HX9B.out.lt)
            have HX10Q := Lib.hid (HX9Q.out.below hb HX9Q.out.lt)
            have HX10S := Lib.hid hnew
            clear hnew
            clear hb
            refine hK.out _ _ hw (fun hHeld => ?_)
            clear hK K hw
            try simp only [List.getElem_toArray, List.getElem_cons_zero, List.getElem_cons_succ, Act.put, List.setIfInBounds_toArray, List.set_cons_zero, List.set_cons_succ]
            refine wpAnyH_ready (rs := [8]) (by kernel_rfl) (by simp) ?_
            refine AllReadyH.cons (o := _) rfl (fun K hK => ?_) ?_
            · go_simp
              refine (drepeat_anyO caps (by have := HC3.out; omega) _ u10 HX10S.out).mono ?_
              rintro e u11 ⟨g, rfl, hzg, hgg, hb⟩
              have hw : Below w2.heap.size w2 u11 := below_steps HB10.out hb
              have HB11 := Lib.hid hw
              have HX11M := Lib.hid (HX10M.out.below hb HX10M.out.lt)
              have HX11B := Lib.hid (HX10B.out.below hb HX10B.out.lt)
              have HX11Q := Lib.hid (HX10Q.out.below hb HX10Q.out.lt)
              have HX11S := Lib.hid (HX10S.out.below hb HX10S.out.lt)
              have HNG1 := Lib.hid (show g ≠ gm by have := HX10M.out.lt; omega); have HNG2 := Lib.hid (show g ≠ gb by have := HX10B.out.lt; omega); have HX11G := Lib.hid (show Whole u11 g _ (litsZ (List.replicate caps (-1))).toArray from hgg); have HZG := Lib.hid (Nat.le_trans HB10.out.size hzg)
              clear hgg hzg
              clear hb
              go_wp2_with fail
              refine hK.out _ _ hw (fun hHeld => ?_)
              clear hK K hw
              try simp only [List.getElem_toArray, List.getElem_cons_zero, List.getElem_cons_succ, Act.put, List.setIfInBounds_toArray, List.set_cons_zero, List.set_cons_succ]
              refine wpAnyH_take (i := 9) (oi := _) (v := ?_) rfl (by kernel_rfl) (by kernel_rfl) (by kernel_rfl) (fun _ _ _ h => h) (Or.inl ⟨by rfl, ?_⟩) hHeld ?_
              rotate_left 1
              · (intro w hSw; (try dsimp only at hSw); have e0 := cell_on hSw HQ0.out; have e1 := cell_on hSw HQ2.out; go_simp; (try with_reducible rfl))
              try simp only [List.getElem_toArray, List.getElem_cons_zero, List.getElem_cons_succ, Act.put, List.setIfInBounds_toArray, List.set_cons_zero, List.set_cons_succ]
              refine wpAnyH_ready (rs := [11]) (by kernel_rfl) (by simp) ?_
              refine AllReadyH.cons (o := _) rfl (fun K hK => ?_) ?_
              · refine step_store_row rfl 139 (.tmp 9) (.tmp 26) rfl (u1.heap.size) #[.slice A n c, .slice (some ⟨gm, 0, none⟩) n n, .slice (some ⟨gb, 0, none⟩) n n, .int .i64 0, .slice none 0 0, .pointer (some ⟨ib, 0, none⟩), .bool long, .slice (some ⟨g, 0, none⟩) caps caps, .slice none 0 0, .int .i64 0] rfl rfl _ _ HX11Q.out (by kernel_rfl) rfl (run_cells15 ..) ?_
                have hw : Below w2.heap.size w2 (u11.setRow (u1.heap.size) #[.slice A n c, .slice (some ⟨gm, 0, none⟩) n n, .slice (some ⟨gb, 0, none⟩) n n, .int .i64 0, .slice none 0 0, .pointer (some ⟨ib, 0, none⟩), .bool long, .slice (some ⟨g, 0, none⟩) caps caps, .slice none 0 0, .int .i64 0]) := below_setRow HB11.out HZQ9.out _
                have HWF := Lib.hid hw
                have HQF := Lib.hid (show Whole (u11.setRow (u1.heap.size) #[.slice A n c, .slice (some ⟨gm, 0, none⟩) n n, .slice (some ⟨gb, 0, none⟩) n n, .int .i64 0, .slice none 0 0, .pointer (some ⟨ib, 0, none⟩), .bool long, .slice (some ⟨g, 0, none⟩) caps caps, .slice none 0 0, .int .i64 0]) (u1.heap.size) _ _ from setRow_heap _ _ _ _ _ _ HX11Q.out)
                have HMF := Lib.hid (show Whole (u11.setRow (u1.heap.size) #[.slice A n c, .slice (some ⟨gm, 0, none⟩) n n, .slice (some ⟨gb, 0, none⟩) n n, .int .i64 0, .slice none 0 0, .pointer (some ⟨ib, 0, none⟩), .bool long, .slice (some ⟨g, 0, none⟩) caps caps, .slice none 0 0, .int .i64 0]) (gm) _ _ from (setRow_other _ _ _ _ (ne_types HX11M.out HX11Q.out (by decide))).trans HX11M.out)
                have HBF := Lib.hid (show Whole (u11.setRow (u1.heap.size) #[.slice A n c, .slice (some ⟨gm, 0, none⟩) n n, .slice (some ⟨gb, 0, none⟩) n n, .int .i64 0, .slice none 0 0, .pointer (some ⟨ib, 0, none⟩), .bool long, .slice (some ⟨g, 0, none⟩) caps caps, .slice none 0 0, .int .i64 0]) (gb) _ _ from (setRow_other _ _ _ _ (ne_types HX11B.out HX11Q.out (by decide))).trans HX11B.out)
                have HGF := Lib.hid (show Whole (u11.setRow (u1.heap.size) #[.slice A n c, .slice (some ⟨gm, 0, none⟩) n n, .slice (some ⟨gb, 0, none⟩) n n, .int .i64 0, .slice none 0 0, .pointer (some ⟨ib, 0, none⟩), .bool long, .slice (some ⟨g, 0, none⟩) caps caps, .slice none 0 0, .int .i64 0]) (g) _ _ from (setRow_other _ _ _ _ (ne_types HX11G.out HX11Q.out (by decide))).trans HX11G.out)
                refine hK.out _ _ hw (fun hHeld => ?_)
                clear hK K hw
                try simp only [List.getElem_toArray, List.getElem_cons_zero, List.getElem_cons_succ, Act.put, List.setIfInBounds_toArray, List.set_cons_zero, List.set_cons_succ]
                refine wpAnyH_done (by kernel_rfl) ?_ _
                go_wp2_with fail
                go_meet
                exact ⟨_, rfl, u1.heap.size, gm, gb, g, rfl, HQF.out, HMF.out, HBF.out, HGF.out, HNE.out, HNG1.out, HNG2.out, HZQ9.out, HZM.out, HZB.out, HZG.out, HWF.out⟩
              exact AllReadyH.nil
            exact AllReadyH.nil
          exact AllReadyH.nil
        exact AllReadyH.nil
      refine AllReadyH.cons (o := _) rfl (fun K hK => ?_) ?_
      · go_simp
        obtain ⟨u13, hu13⟩ : ∃ x, u0.alloc (.cells #[.int .i64 (-1)] 3) = x := ⟨_, rfl⟩
        rw [hu13]
        have hb : Below u0.heap.size u0 u13 := by rw [← hu13]; exact (Below.refl _ _).alloc (Nat.le_refl _) _
        have hnew : Whole u13 u0.heap.size 3 #[.int .i64 (-1)] := by rw [← hu13]; exact heap_alloc_new u0 _
        clear hu13
        have hw : Below w2.heap.size w2 u13 := below_steps HB0.out hb
        have HB13 := Lib.hid hw
        have HX13S := Lib.hid hnew
        clear hnew
        clear hb
        refine hK.out _ _ hw (fun hHeld => ?_)
        clear hK K hw
        try simp only [List.getElem_toArray, List.getElem_cons_zero, List.getElem_cons_succ, Act.put, List.setIfInBounds_toArray, List.set_cons_zero, List.set_cons_succ]
        refine wpAnyH_ready (rs := [2, 10]) (by kernel_rfl) (by simp) ?_
        refine AllReadyH.cons (o := _) rfl (fun K hK => ?_) ?_
        · go_simp
          refine (pthrough_any A n c HNN.out u13).mono ?_
          rintro e u14 ⟨gm, gb, rfl, hgm, hgb, hne, hzm, hzb, hb⟩
          have hw : Below w2.heap.size w2 u14 := below_steps HB13.out hb
          have HB14 := Lib.hid hw
          have HX14S := Lib.hid (HX13S.out.below hb HX13S.out.lt)
          have HNE := Lib.hid hne; have HX14M := Lib.hid hgm; have HX14B := Lib.hid hgb; have HZM := Lib.hid (Nat.le_trans HB13.out.size hzm); have HZB := Lib.hid (Nat.le_trans HB13.out.size hzb)
          clear hne hgm hgb hzm hzb
          clear hb
          go_wp2_with fail
          refine hK.out _ _ hw (fun hHeld => ?_)
          clear hK K hw
          try simp only [List.getElem_toArray, List.getElem_cons_zero, List.getElem_cons_succ, Act.put, List.setIfInBounds_toArray, List.set_cons_zero, List.set_cons_succ]
          refine wpAnyH_ready (rs := [8, 10]) (by kernel_rfl) (by simp) ?_
          refine AllReadyH.cons (o := _) rfl (fun K hK => ?_) ?_
          · go_simp
            refine (drepeat_anyO caps (by have := HC3.out; omega) _ u14 HX14S.out).mono ?_
            rintro e u15 ⟨g, rfl, hzg, hgg, hb⟩
            have hw : Below w2.heap.size w2 u15 := below_steps HB14.out hb
            have HB15 := Lib.hid hw
            have HX15S := Lib.hid (HX14S.out.below hb HX14S.out.lt)
            have HX15M := Lib.hid (HX14M.out.below hb HX14M.out.lt)
            have HX15B := Lib.hid (HX14B.out.below hb HX14B.out.lt)
            have HNG1 := Lib.hid (show g ≠ gm by have := HX14M.out.lt; omega); have HNG2 := Lib.hid (show g ≠ gb by have := HX14B.out.lt; omega); have HX15G := Lib.hid (show Whole u15 g _ (litsZ (List.replicate caps (-1))).toArray from hgg); have HZG := Lib.hid (Nat.le_trans HB14.out.size hzg)
            clear hgg hzg
            clear hb
            go_wp2_with fail
            refine hK.out _ _ hw (fun hHeld => ?_)
            clear hK K hw
            try simp only [List.getElem_toArray, List.getElem_cons_zero, List.getElem_cons_succ, Act.put, List.setIfInBounds_toArray, List.set_cons_zero, List.set_cons_succ]
            refine wpAnyH_take (i := 9) (oi := _) (v := ?_) rfl (by kernel_rfl) (by kernel_rfl) (by kernel_rfl) (fun _ _ _ h => h) (Or.inl ⟨by rfl, ?_⟩) hHeld ?_
            rotate_left 1
            · (intro w hSw; (try dsimp only at hSw); have e0 := cell_on hSw HQ0.out; have e1 := cell_on hSw HQ2.out; go_simp; (try with_reducible rfl))
            try simp only [List.getElem_toArray, List.getElem_cons_zero, List.getElem_cons_succ, Act.put, List.setIfInBounds_toArray, List.set_cons_zero, List.set_cons_succ]
            refine wpAnyH_ready (rs := [10]) (by kernel_rfl) (by simp) ?_
            refine AllReadyH.cons (o := _) rfl (fun K hK => ?_) ?_
            · go_simp
              obtain ⟨u16, hu16⟩ : ∃ x, u15.alloc (.cells #[.slice none 0 0, .slice none 0 0, .slice none 0 0, .int .i64 0, .slice none 0 0, .pointer none, .bool false, .slice none 0 0, .slice none 0 0, .int .i64 0] 139) = x := ⟨_, rfl⟩
              rw [hu16]
              have hb : Below u15.heap.size u15 u16 := by rw [← hu16]; exact (Below.refl _ _).alloc (Nat.le_refl _) _
              have hnew : Whole u16 u15.heap.size 139 #[.slice none 0 0, .slice none 0 0, .slice none 0 0, .int .i64 0, .slice none 0 0, .pointer none, .bool false, .slice none 0 0, .slice none 0 0, .int .i64 0] := by rw [← hu16]; exact heap_alloc_new u15 _
              clear hu16
              have hw : Below w2.heap.size w2 u16 := below_steps HB15.out hb
              have HB16 := Lib.hid hw
              have HX16S := Lib.hid (HX15S.out.below hb HX15S.out.lt)
              have HX16M := Lib.hid (HX15M.out.below hb HX15M.out.lt)
              have HX16B := Lib.hid (HX15B.out.below hb HX15B.out.lt)
              have HX16G := Lib.hid (HX15G.out.below hb HX15G.out.lt)
              have HX16Q := Lib.hid hnew
              clear hnew
              have HZQ16 := Lib.hid (HB15.out.size)
              clear hb
              refine hK.out _ _ hw (fun hHeld => ?_)
              clear hK K hw
              try simp only [List.getElem_toArray, List.getElem_cons_zero, List.getElem_cons_succ, Act.put, List.setIfInBounds_toArray, List.set_cons_zero, List.set_cons_succ]
              refine wpAnyH_ready (rs := [11]) (by kernel_rfl) (by simp) ?_
              refine AllReadyH.cons (o := _) rfl (fun K hK => ?_) ?_
              · refine step_store_row rfl 139 (.tmp 9) (.tmp 26) rfl (u15.heap.size) #[.slice A n c, .slice (some ⟨gm, 0, none⟩) n n, .slice (some ⟨gb, 0, none⟩) n n, .int .i64 0, .slice none 0 0, .pointer (some ⟨ib, 0, none⟩), .bool long, .slice (some ⟨g, 0, none⟩) caps caps, .slice none 0 0, .int .i64 0] rfl rfl _ _ HX16Q.out (by kernel_rfl) rfl (run_cells15 ..) ?_
                have hw : Below w2.heap.size w2 (u16.setRow (u15.heap.size) #[.slice A n c, .slice (some ⟨gm, 0, none⟩) n n, .slice (some ⟨gb, 0, none⟩) n n, .int .i64 0, .slice none 0 0, .pointer (some ⟨ib, 0, none⟩), .bool long, .slice (some ⟨g, 0, none⟩) caps caps, .slice none 0 0, .int .i64 0]) := below_setRow HB16.out HZQ16.out _
                have HWF := Lib.hid hw
                have HQF := Lib.hid (show Whole (u16.setRow (u15.heap.size) #[.slice A n c, .slice (some ⟨gm, 0, none⟩) n n, .slice (some ⟨gb, 0, none⟩) n n, .int .i64 0, .slice none 0 0, .pointer (some ⟨ib, 0, none⟩), .bool long, .slice (some ⟨g, 0, none⟩) caps caps, .slice none 0 0, .int .i64 0]) (u15.heap.size) _ _ from setRow_heap _ _ _ _ _ _ HX16Q.out)
                have HMF := Lib.hid (show Whole (u16.setRow (u15.heap.size) #[.slice A n c, .slice (some ⟨gm, 0, none⟩) n n, .slice (some ⟨gb, 0, none⟩) n n, .int .i64 0, .slice none 0 0, .pointer (some ⟨ib, 0, none⟩), .bool long, .slice (some ⟨g, 0, none⟩) caps caps, .slice none 0 0, .int .i64 0]) (gm) _ _ from (setRow_other _ _ _ _ (ne_types HX16M.out HX16Q.out (by decide))).trans HX16M.out)
                have HBF := Lib.hid (show Whole (u16.setRow (u15.heap.size) #[.slice A n c, .slice (some ⟨gm, 0, none⟩) n n, .slice (some ⟨gb, 0, none⟩) n n, .int .i64 0, .slice none 0 0, .pointer (some ⟨ib, 0, none⟩), .bool long, .slice (some ⟨g, 0, none⟩) caps caps, .slice none 0 0, .int .i64 0]) (gb) _ _ from (setRow_other _ _ _ _ (ne_types HX16B.out HX16Q.out (by decide))).trans HX16B.out)
                have HGF := Lib.hid (show Whole (u16.setRow (u15.heap.size) #[.slice A n c, .slice (some ⟨gm, 0, none⟩) n n, .slice (some ⟨gb, 0, none⟩) n n, .int .i64 0, .slice none 0 0, .pointer (some ⟨ib, 0, none⟩), .bool long, .slice (some ⟨g, 0, none⟩) caps caps, .slice none 0 0, .int .i64 0]) (g) _ _ from (setRow_other _ _ _ _ (ne_types HX16G.out HX16Q.out (by decide))).trans HX16G.out)
                refine hK.out _ _ hw (fun hHeld => ?_)
                clear hK K hw
                try simp only [List.getElem_toArray, List.getElem_cons_zero, List.getElem_cons_succ, Act.put, List.setIfInBounds_toArray, List.set_cons_zero, List.set_cons_succ]
                refine wpAnyH_done (by kernel_rfl) ?_ _
                go_wp2_with fail
                go_meet
                exact ⟨_, rfl, u15.heap.size, gm, gb, g, rfl, HQF.out, HMF.out, HBF.out, HGF.out, HNE.out, HNG1.out, HNG2.out, HZQ16.out, HZM.out, HZB.out, HZG.out, HWF.out⟩
              exact AllReadyH.nil
            exact AllReadyH.nil
          refine AllReadyH.cons (o := _) rfl (fun K hK => ?_) ?_
          · go_simp
            obtain ⟨u18, hu18⟩ : ∃ x, u14.alloc (.cells #[.slice none 0 0, .slice none 0 0, .slice none 0 0, .int .i64 0, .slice none 0 0, .pointer none, .bool false, .slice none 0 0, .slice none 0 0, .int .i64 0] 139) = x := ⟨_, rfl⟩
            rw [hu18]
            have hb : Below u14.heap.size u14 u18 := by rw [← hu18]; exact (Below.refl _ _).alloc (Nat.le_refl _) _
            have hnew : Whole u18 u14.heap.size 139 #[.slice none 0 0, .slice none 0 0, .slice none 0 0, .int .i64 0, .slice none 0 0, .pointer none, .bool false, .slice none 0 0, .slice none 0 0, .int .i64 0] := by rw [← hu18]; exact heap_alloc_new u14 _
            clear hu18
            have hw : Below w2.heap.size w2 u18 := below_steps HB14.out hb
            have HB18 := Lib.hid hw
            have HX18S := Lib.hid (HX14S.out.below hb HX14S.out.lt)
            have HX18M := Lib.hid (HX14M.out.below hb HX14M.out.lt)
            have HX18B := Lib.hid (HX14B.out.below hb HX14B.out.lt)
            have HX18Q := Lib.hid hnew
            clear hnew
            have HZQ18 := Lib.hid (HB14.out.size)
            clear hb
            refine hK.out _ _ hw (fun hHeld => ?_)
            clear hK K hw
            try simp only [List.getElem_toArray, List.getElem_cons_zero, List.getElem_cons_succ, Act.put, List.setIfInBounds_toArray, List.set_cons_zero, List.set_cons_succ]
            refine wpAnyH_ready (rs := [8]) (by kernel_rfl) (by simp) ?_
            refine AllReadyH.cons (o := _) rfl (fun K hK => ?_) ?_
            · go_simp
              refine (drepeat_anyO caps (by have := HC3.out; omega) _ u18 HX18S.out).mono ?_
              rintro e u19 ⟨g, rfl, hzg, hgg, hb⟩
              have hw : Below w2.heap.size w2 u19 := below_steps HB18.out hb
              have HB19 := Lib.hid hw
              have HX19S := Lib.hid (HX18S.out.below hb HX18S.out.lt)
              have HX19M := Lib.hid (HX18M.out.below hb HX18M.out.lt)
              have HX19B := Lib.hid (HX18B.out.below hb HX18B.out.lt)
              have HX19Q := Lib.hid (HX18Q.out.below hb HX18Q.out.lt)
              have HNG1 := Lib.hid (show g ≠ gm by have := HX18M.out.lt; omega); have HNG2 := Lib.hid (show g ≠ gb by have := HX18B.out.lt; omega); have HX19G := Lib.hid (show Whole u19 g _ (litsZ (List.replicate caps (-1))).toArray from hgg); have HZG := Lib.hid (Nat.le_trans HB18.out.size hzg)
              clear hgg hzg
              clear hb
              go_wp2_with fail
              refine hK.out _ _ hw (fun hHeld => ?_)
              clear hK K hw
              try simp only [List.getElem_toArray, List.getElem_cons_zero, List.getElem_cons_succ, Act.put, List.setIfInBounds_toArray, List.set_cons_zero, List.set_cons_succ]
              refine wpAnyH_take (i := 9) (oi := _) (v := ?_) rfl (by kernel_rfl) (by kernel_rfl) (by kernel_rfl) (fun _ _ _ h => h) (Or.inl ⟨by rfl, ?_⟩) hHeld ?_
              rotate_left 1
              · (intro w hSw; (try dsimp only at hSw); have e0 := cell_on hSw HQ0.out; have e1 := cell_on hSw HQ2.out; go_simp; (try with_reducible rfl))
              try simp only [List.getElem_toArray, List.getElem_cons_zero, List.getElem_cons_succ, Act.put, List.setIfInBounds_toArray, List.set_cons_zero, List.set_cons_succ]
              refine wpAnyH_ready (rs := [11]) (by kernel_rfl) (by simp) ?_
              refine AllReadyH.cons (o := _) rfl (fun K hK => ?_) ?_
              · refine step_store_row rfl 139 (.tmp 9) (.tmp 26) rfl (u14.heap.size) #[.slice A n c, .slice (some ⟨gm, 0, none⟩) n n, .slice (some ⟨gb, 0, none⟩) n n, .int .i64 0, .slice none 0 0, .pointer (some ⟨ib, 0, none⟩), .bool long, .slice (some ⟨g, 0, none⟩) caps caps, .slice none 0 0, .int .i64 0] rfl rfl _ _ HX19Q.out (by kernel_rfl) rfl (run_cells15 ..) ?_
                have hw : Below w2.heap.size w2 (u19.setRow (u14.heap.size) #[.slice A n c, .slice (some ⟨gm, 0, none⟩) n n, .slice (some ⟨gb, 0, none⟩) n n, .int .i64 0, .slice none 0 0, .pointer (some ⟨ib, 0, none⟩), .bool long, .slice (some ⟨g, 0, none⟩) caps caps, .slice none 0 0, .int .i64 0]) := below_setRow HB19.out HZQ18.out _
                have HWF := Lib.hid hw
                have HQF := Lib.hid (show Whole (u19.setRow (u14.heap.size) #[.slice A n c, .slice (some ⟨gm, 0, none⟩) n n, .slice (some ⟨gb, 0, none⟩) n n, .int .i64 0, .slice none 0 0, .pointer (some ⟨ib, 0, none⟩), .bool long, .slice (some ⟨g, 0, none⟩) caps caps, .slice none 0 0, .int .i64 0]) (u14.heap.size) _ _ from setRow_heap _ _ _ _ _ _ HX19Q.out)
                have HMF := Lib.hid (show Whole (u19.setRow (u14.heap.size) #[.slice A n c, .slice (some ⟨gm, 0, none⟩) n n, .slice (some ⟨gb, 0, none⟩) n n, .int .i64 0, .slice none 0 0, .pointer (some ⟨ib, 0, none⟩), .bool long, .slice (some ⟨g, 0, none⟩) caps caps, .slice none 0 0, .int .i64 0]) (gm) _ _ from (setRow_other _ _ _ _ (ne_types HX19M.out HX19Q.out (by decide))).trans HX19M.out)
                have HBF := Lib.hid (show Whole (u19.setRow (u14.heap.size) #[.slice A n c, .slice (some ⟨gm, 0, none⟩) n n, .slice (some ⟨gb, 0, none⟩) n n, .int .i64 0, .slice none 0 0, .pointer (some ⟨ib, 0, none⟩), .bool long, .slice (some ⟨g, 0, none⟩) caps caps, .slice none 0 0, .int .i64 0]) (gb) _ _ from (setRow_other _ _ _ _ (ne_types HX19B.out HX19Q.out (by decide))).trans HX19B.out)
                have HGF := Lib.hid (show Whole (u19.setRow (u14.heap.size) #[.slice A n c, .slice (some ⟨gm, 0, none⟩) n n, .slice (some ⟨gb, 0, none⟩) n n, .int .i64 0, .slice none 0 0, .pointer (some ⟨ib, 0, none⟩), .bool long, .slice (some ⟨g, 0, none⟩) caps caps, .slice none 0 0, .int .i64 0]) (g) _ _ from (setRow_other _ _ _ _ (ne_types HX19G.out HX19Q.out (by decide))).trans HX19G.out)
                refine hK.out _ _ hw (fun hHeld => ?_)
                clear hK K hw
                try simp only [List.getElem_toArray, List.getElem_cons_zero, List.getElem_cons_succ, Act.put, List.setIfInBounds_toArray, List.set_cons_zero, List.set_cons_succ]
                refine wpAnyH_done (by kernel_rfl) ?_ _
                go_wp2_with fail
                go_meet
                exact ⟨_, rfl, u14.heap.size, gm, gb, g, rfl, HQF.out, HMF.out, HBF.out, HGF.out, HNE.out, HNG1.out, HNG2.out, HZQ18.out, HZM.out, HZB.out, HZG.out, HWF.out⟩
              exact AllReadyH.nil
            exact AllReadyH.nil
          exact AllReadyH.nil
        refine AllReadyH.cons (o := _) rfl (fun K hK => ?_) ?_
        · go_simp
          obtain ⟨u21, hu21⟩ : ∃ x, u13.alloc (.cells #[.slice none 0 0, .slice none 0 0, .slice none 0 0, .int .i64 0, .slice none 0 0, .pointer none, .bool false, .slice none 0 0, .slice none 0 0, .int .i64 0] 139) = x := ⟨_, rfl⟩
          rw [hu21]
          have hb : Below u13.heap.size u13 u21 := by rw [← hu21]; exact (Below.refl _ _).alloc (Nat.le_refl _) _
          have hnew : Whole u21 u13.heap.size 139 #[.slice none 0 0, .slice none 0 0, .slice none 0 0, .int .i64 0, .slice none 0 0, .pointer none, .bool false, .slice none 0 0, .slice none 0 0, .int .i64 0] := by rw [← hu21]; exact heap_alloc_new u13 _
          clear hu21
          have hw : Below w2.heap.size w2 u21 := below_steps HB13.out hb
          have HB21 := Lib.hid hw
          have HX21S := Lib.hid (HX13S.out.below hb HX13S.out.lt)
          have HX21Q := Lib.hid hnew
          clear hnew
          have HZQ21 := Lib.hid (HB13.out.size)
          clear hb
          refine hK.out _ _ hw (fun hHeld => ?_)
          clear hK K hw
          try simp only [List.getElem_toArray, List.getElem_cons_zero, List.getElem_cons_succ, Act.put, List.setIfInBounds_toArray, List.set_cons_zero, List.set_cons_succ]
          refine wpAnyH_ready (rs := [2]) (by kernel_rfl) (by simp) ?_
          refine AllReadyH.cons (o := _) rfl (fun K hK => ?_) ?_
          · go_simp
            refine (pthrough_any A n c HNN.out u21).mono ?_
            rintro e u22 ⟨gm, gb, rfl, hgm, hgb, hne, hzm, hzb, hb⟩
            have hw : Below w2.heap.size w2 u22 := below_steps HB21.out hb
            have HB22 := Lib.hid hw
            have HX22S := Lib.hid (HX21S.out.below hb HX21S.out.lt)
            have HX22Q := Lib.hid (HX21Q.out.below hb HX21Q.out.lt)
            have HNE := Lib.hid hne; have HX22M := Lib.hid hgm; have HX22B := Lib.hid hgb; have HZM := Lib.hid (Nat.le_trans HB21.out.size hzm); have HZB := Lib.hid (Nat.le_trans HB21.out.size hzb)
            clear hne hgm hgb hzm hzb
            clear hb
            go_wp2_with fail
            refine hK.out _ _ hw (fun hHeld => ?_)
            clear hK K hw
            try simp only [List.getElem_toArray, List.getElem_cons_zero, List.getElem_cons_succ, Act.put, List.setIfInBounds_toArray, List.set_cons_zero, List.set_cons_succ]
            refine wpAnyH_ready (rs := [8]) (by kernel_rfl) (by simp) ?_
            refine AllReadyH.cons (o := _) rfl (fun K hK => ?_) ?_
            · go_simp
              refine (drepeat_anyO caps (by have := HC3.out; omega) _ u22 HX22S.out).mono ?_
              rintro e u23 ⟨g, rfl, hzg, hgg, hb⟩
              have hw : Below w2.heap.size w2 u23 := below_steps HB22.out hb
              have HB23 := Lib.hid hw
              have HX23S := Lib.hid (HX22S.out.below hb HX22S.out.lt)
              have HX23Q := Lib.hid (HX22Q.out.below hb HX22Q.out.lt)
              have HX23M := Lib.hid (HX22M.out.below hb HX22M.out.lt)
              have HX23B := Lib.hid (HX22B.out.below hb HX22B.out.lt)
              have HNG1 := Lib.hid (show g ≠ gm by have := HX22M.out.lt; omega); have HNG2 := Lib.hid (show g ≠ gb by have := HX22B.out.lt; omega); have HX23G := Lib.hid (show Whole u23 g _ (litsZ (List.replicate caps (-1))).toArray from hgg); have HZG := Lib.hid (Nat.le_trans HB22.out.size hzg)
              clear hgg hzg
              clear hb
              go_wp2_with fail
              refine hK.out _ _ hw (fun hHeld => ?_)
              clear hK K hw
              try simp only [List.getElem_toArray, List.getElem_cons_zero, List.getElem_cons_succ, Act.put, List.setIfInBounds_toArray, List.set_cons_zero, List.set_cons_succ]
              refine wpAnyH_take (i := 9) (oi := _) (v := ?_) rfl (by kernel_rfl) (by kernel_rfl) (by kernel_rfl) (fun _ _ _ h => h) (Or.inl ⟨by rfl, ?_⟩) hHeld ?_
              rotate_left 1
              · (intro w hSw; (try dsimp only at hSw); have e0 := cell_on hSw HQ0.out; have e1 := cell_on hSw HQ2.out; go_simp; (try with_reducible rfl))
              try simp only [List.getElem_toArray, List.getElem_cons_zero, List.getElem_cons_succ, Act.put, List.setIfInBounds_toArray, List.set_cons_zero, List.set_cons_succ]
              refine wpAnyH_ready (rs := [11]) (by kernel_rfl) (by simp) ?_
              refine AllReadyH.cons (o := _) rfl (fun K hK => ?_) ?_
              · refine step_store_row rfl 139 (.tmp 9) (.tmp 26) rfl (u13.heap.size) #[.slice A n c, .slice (some ⟨gm, 0, none⟩) n n, .slice (some ⟨gb, 0, none⟩) n n, .int .i64 0, .slice none 0 0, .pointer (some ⟨ib, 0, none⟩), .bool long, .slice (some ⟨g, 0, none⟩) caps caps, .slice none 0 0, .int .i64 0] rfl rfl _ _ HX23Q.out (by kernel_rfl) rfl (run_cells15 ..) ?_
                have hw : Below w2.heap.size w2 (u23.setRow (u13.heap.size) #[.slice A n c, .slice (some ⟨gm, 0, none⟩) n n, .slice (some ⟨gb, 0, none⟩) n n, .int .i64 0, .slice none 0 0, .pointer (some ⟨ib, 0, none⟩), .bool long, .slice (some ⟨g, 0, none⟩) caps caps, .slice none 0 0, .int .i64 0]) := below_setRow HB23.out HZQ21.out _
                have HWF := Lib.hid hw
                have HQF := Lib.hid (show Whole (u23.setRow (u13.heap.size) #[.slice A n c, .slice (some ⟨gm, 0, none⟩) n n, .slice (some ⟨gb, 0, none⟩) n n, .int .i64 0, .slice none 0 0, .pointer (some ⟨ib, 0, none⟩), .bool long, .slice (some ⟨g, 0, none⟩) caps caps, .slice none 0 0, .int .i64 0]) (u13.heap.size) _ _ from setRow_heap _ _ _ _ _ _ HX23Q.out)
                have HMF := Lib.hid (show Whole (u23.setRow (u13.heap.size) #[.slice A n c, .slice (some ⟨gm, 0, none⟩) n n, .slice (some ⟨gb, 0, none⟩) n n, .int .i64 0, .slice none 0 0, .pointer (some ⟨ib, 0, none⟩), .bool long, .slice (some ⟨g, 0, none⟩) caps caps, .slice none 0 0, .int .i64 0]) (gm) _ _ from (setRow_other _ _ _ _ (ne_types HX23M.out HX23Q.out (by decide))).trans HX23M.out)
                have HBF := Lib.hid (show Whole (u23.setRow (u13.heap.size) #[.slice A n c, .slice (some ⟨gm, 0, none⟩) n n, .slice (some ⟨gb, 0, none⟩) n n, .int .i64 0, .slice none 0 0, .pointer (some ⟨ib, 0, none⟩), .bool long, .slice (some ⟨g, 0, none⟩) caps caps, .slice none 0 0, .int .i64 0]) (gb) _ _ from (setRow_other _ _ _ _ (ne_types HX23B.out HX23Q.out (by decide))).trans HX23B.out)
                have HGF := Lib.hid (show Whole (u23.setRow (u13.heap.size) #[.slice A n c, .slice (some ⟨gm, 0, none⟩) n n, .slice (some ⟨gb, 0, none⟩) n n, .int .i64 0, .slice none 0 0, .pointer (some ⟨ib, 0, none⟩), .bool long, .slice (some ⟨g, 0, none⟩) caps caps, .slice none 0 0, .int .i64 0]) (g) _ _ from (setRow_other _ _ _ _ (ne_types HX23G.out HX23Q.out (by decide))).trans HX23G.out)
                refine hK.out _ _ hw (fun hHeld => ?_)
                clear hK K hw
                try simp only [List.getElem_toArray, List.getElem_cons_zero, List.getElem_cons_succ, Act.put, List.setIfInBounds_toArray, List.set_cons_zero, List.set_cons_succ]
                refine wpAnyH_done (by kernel_rfl) ?_ _
                go_wp2_with fail
                go_meet
                exact ⟨_, rfl, u13.heap.size, gm, gb, g, rfl, HQF.out, HMF.out, HBF.out, HGF.out, HNE.out, HNG1.out, HNG2.out, HZQ21.out, HZM.out, HZB.out, HZG.out, HWF.out⟩
              exact AllReadyH.nil
            exact AllReadyH.nil
          exact AllReadyH.nil
        exact AllReadyH.nil
      refine AllReadyH.cons (o := _) rfl (fun K hK => ?_) ?_
      · go_simp
        obtain ⟨u25, hu25⟩ : ∃ x, u0.alloc (.cells #[.slice none 0 0, .slice none 0 0, .slice none 0 0, .int .i64 0, .slice none 0 0, .pointer none, .bool false, .slice none 0 0, .slice none 0 0, .int .i64 0] 139) = x := ⟨_, rfl⟩
        rw [hu25]
        have hb : Below u0.heap.size u0 u25 := by rw [← hu25]; exact (Below.refl _ _).alloc (Nat.le_refl _) _
        have hnew : Whole u25 u0.heap.size 139 #[.slice none 0 0, .slice none 0 0, .slice none 0 0, .int .i64 0, .slice none 0 0, .pointer none, .bool false, .slice none 0 0, .slice none 0 0, .int .i64 0] := by rw [← hu25]; exact heap_alloc_new u0 _
        clear hu25
        have hw : Below w2.heap.size w2 u25 := below_steps HB0.out hb
        have HB25 := Lib.hid hw
        have HX25Q := Lib.hid hnew
        clear hnew
        have HZQ25 := Lib.hid (HB0.out.size)
        clear hb
        refine hK.out _ _ hw (fun hHeld => ?_)
        clear hK K hw
        try simp only [List.getElem_toArray, List.getElem_cons_zero, List.getElem_cons_succ, Act.put, List.setIfInBounds_toArray, List.set_cons_zero, List.set_cons_succ]
        refine wpAnyH_ready (rs := [2, 5]) (by kernel_rfl) (by simp) ?_
        refine AllReadyH.cons (o := _) rfl (fun K hK => ?_) ?_
        · go_simp
          refine (pthrough_any A n c HNN.out u25).mono ?_
          rintro e u26 ⟨gm, gb, rfl, hgm, hgb, hne, hzm, hzb, hb⟩
          have hw : Below w2.heap.size w2 u26 := below_steps HB25.out hb
          have HB26 := Lib.hid hw
          have HX26Q := Lib.hid (HX25Q.out.below hb HX25Q.out.lt)
          have HNE := Lib.hid hne; have HX26M := Lib.hid hgm; have HX26B := Lib.hid hgb; have HZM := Lib.hid (Nat.le_trans HB25.out.size hzm); have HZB := Lib.hid (Nat.le_trans HB25.out.size hzb)
          clear hne hgm hgb hzm hzb
          clear hb
          go_wp2_with fail
          refine hK.out _ _ hw (fun hHeld => ?_)
          clear hK K hw
          try simp only [List.getElem_toArray, List.getElem_cons_zero, List.getElem_cons_succ, Act.put, List.setIfInBounds_toArray, List.set_cons_zero, List.set_cons_succ]
          refine wpAnyH_ready (rs := [5]) (by kernel_rfl) (by simp) ?_
          refine AllReadyH.cons (o := _) rfl (fun K hK => ?_) ?_
          · go_simp
            obtain ⟨u27, hu27⟩ : ∃ x, u26.alloc (.cells #[.int .i64 (-1)] 3) = x := ⟨_, rfl⟩
            rw [hu27]
            have hb : Below u26.heap.size u26 u27 := by rw [← hu27]; exact (Below.refl _ _).alloc (Nat.le_refl _) _
            have hnew : Whole u27 u26.heap.size 3 #[.int .i64 (-1)] := by rw [← hu27]; exact heap_alloc_new u26 _
            clear hu27
            have hw : Below w2.heap.size w2 u27 := below_steps HB26.out hb
            have HB27 := Lib.hid hw
            have HX27Q := Lib.hid (HX26Q.out.below hb HX26Q.out.lt)
            have HX27M := Lib.hid (HX26M.out.below hb HX26M.out.lt)
            have HX27B := Lib.hid (HX26B.out.below hb HX26B.out.lt)
            have HX27S := Lib.hid hnew
            clear hnew
            clear hb
            refine hK.out _ _ hw (fun hHeld => ?_)
            clear hK K hw
            try simp only [List.getElem_toArray, List.getElem_cons_zero, List.getElem_cons_succ, Act.put, List.setIfInBounds_toArray, List.set_cons_zero, List.set_cons_succ]
            refine wpAnyH_ready (rs := [8]) (by kernel_rfl) (by simp) ?_
            refine AllReadyH.cons (o := _) rfl (fun K hK => ?_) ?_
            · go_simp
              refine (drepeat_anyO caps (by have := HC3.out; omega) _ u27 HX27S.out).mono ?_
              rintro e u28 ⟨g, rfl, hzg, hgg, hb⟩
              have hw : Below w2.heap.size w2 u28 := below_steps HB27.out hb
              have HB28 := Lib.hid hw
              have HX28Q := Lib.hid (HX27Q.out.below hb HX27Q.out.lt)
              have HX28M := Lib.hid (HX27M.out.below hb HX27M.out.lt)
              have HX28B := Lib.hid (HX27B.out.below hb HX27B.out.lt)
              have HX28S := Lib.hid (HX27S.out.below hb HX27S.out.lt)
              have HNG1 := Lib.hid (show g ≠ gm by have := HX27M.out.lt; omega); have HNG2 := Lib.hid (show g ≠ gb by have := HX27B.out.lt; omega); have HX28G := Lib.hid (show Whole u28 g _ (litsZ (List.replicate caps (-1))).toArray from hgg); have HZG := Lib.hid (Nat.le_trans HB27.out.size hzg)
              clear hgg hzg
              clear hb
              go_wp2_with fail
              refine hK.out _ _ hw (fun hHeld => ?_)
              clear hK K hw
              try simp only [List.getElem_toArray, List.getElem_cons_zero, List.getElem_cons_succ, Act.put, List.setIfInBounds_toArray, List.set_cons_zero, List.set_cons_succ]
              refine wpAnyH_take (i := 9) (oi := _) (v := ?_) rfl (by kernel_rfl) (by kernel_rfl) (by kernel_rfl) (fun _ _ _ h => h) (Or.inl ⟨by rfl, ?_⟩) hHeld ?_
              rotate_left 1
              · (intro w hSw; (try dsimp only at hSw); have e0 := cell_on hSw HQ0.out; have e1 := cell_on hSw HQ2.out; go_simp; (try with_reducible rfl))
              try simp only [List.getElem_toArray, List.getElem_cons_zero, List.getElem_cons_succ, Act.put, List.setIfInBounds_toArray, List.set_cons_zero, List.set_cons_succ]
              refine wpAnyH_ready (rs := [11]) (by kernel_rfl) (by simp) ?_
              refine AllReadyH.cons (o := _) rfl (fun K hK => ?_) ?_
              · refine step_store_row rfl 139 (.tmp 9) (.tmp 26) rfl (u0.heap.size) #[.slice A n c, .slice (some ⟨gm, 0, none⟩) n n, .slice (some ⟨gb, 0, none⟩) n n, .int .i64 0, .slice none 0 0, .pointer (some ⟨ib, 0, none⟩), .bool long, .slice (some ⟨g, 0, none⟩) caps caps, .slice none 0 0, .int .i64 0] rfl rfl _ _ HX28Q.out (by kernel_rfl) rfl (run_cells15 ..) ?_
                have hw : Below w2.heap.size w2 (u28.setRow (u0.heap.size) #[.slice A n c, .slice (some ⟨gm, 0, none⟩) n n, .slice (some ⟨gb, 0, none⟩) n n, .int .i64 0, .slice none 0 0, .pointer (some ⟨ib, 0, none⟩), .bool long, .slice (some ⟨g, 0, none⟩) caps caps, .slice none 0 0, .int .i64 0]) := below_setRow HB28.out HZQ25.out _
                have HWF := Lib.hid hw
                have HQF := Lib.hid (show Whole (u28.setRow (u0.heap.size) #[.slice A n c, .slice (some ⟨gm, 0, none⟩) n n, .slice (some ⟨gb, 0, none⟩) n n, .int .i64 0, .slice none 0 0, .pointer (some ⟨ib, 0, none⟩), .bool long, .slice (some ⟨g, 0, none⟩) caps caps, .slice none 0 0, .int .i64 0]) (u0.heap.size) _ _ from setRow_heap _ _ _ _ _ _ HX28Q.out)
                have HMF := Lib.hid (show Whole (u28.setRow (u0.heap.size) #[.slice A n c, .slice (some ⟨gm, 0, none⟩) n n, .slice (some ⟨gb, 0, none⟩) n n, .int .i64 0, .slice none 0 0, .pointer (some ⟨ib, 0, none⟩), .bool long, .slice (some ⟨g, 0, none⟩) caps caps, .slice none 0 0, .int .i64 0]) (gm) _ _ from (setRow_other _ _ _ _ (ne_types HX28M.out HX28Q.out (by decide))).trans HX28M.out)
                have HBF := Lib.hid (show Whole (u28.setRow (u0.heap.size) #[.slice A n c, .slice (some ⟨gm, 0, none⟩) n n, .slice (some ⟨gb, 0, none⟩) n n, .int .i64 0, .slice none 0 0, .pointer (some ⟨ib, 0, none⟩), .bool long, .slice (some ⟨g, 0, none⟩) caps caps, .slice none 0 0, .int .i64 0]) (gb) _ _ from (setRow_other _ _ _ _ (ne_types HX28B.out HX28Q.out (by decide))).trans HX28B.out)
                have HGF := Lib.hid (show Whole (u28.setRow (u0.heap.size) #[.slice A n c, .slice (some ⟨gm, 0, none⟩) n n, .slice (some ⟨gb, 0, none⟩) n n, .int .i64 0, .slice none 0 0, .pointer (some ⟨ib, 0, none⟩), .bool long, .slice (some ⟨g, 0, none⟩) caps caps, .slice none 0 0, .int .i64 0]) (g) _ _ from (setRow_other _ _ _ _ (ne_types HX28G.out HX28Q.out (by decide))).trans HX28G.out)
                refine hK.out _ _ hw (fun hHeld => ?_)
                clear hK K hw
                try simp only [List.getElem_toArray, List.getElem_cons_zero, List.getElem_cons_succ, Act.put, List.setIfInBounds_toArray, List.set_cons_zero, List.set_cons_succ]
                refine wpAnyH_done (by kernel_rfl) ?_ _
                go_wp2_with fail
                go_meet
                exact ⟨_, rfl, u0.heap.size, gm, gb, g, rfl, HQF.out, HMF.out, HBF.out, HGF.out, HNE.out, HNG1.out, HNG2.out, HZQ25.out, HZM.out, HZB.out, HZG.out, HWF.out⟩
              exact AllReadyH.nil
            exact AllReadyH.nil
          exact AllReadyH.nil
        refine AllReadyH.cons (o := _) rfl (fun K hK => ?_) ?_
        · go_simp
          obtain ⟨u30, hu30⟩ : ∃ x, u25.alloc (.cells #[.int .i64 (-1)] 3) = x := ⟨_, rfl⟩
          rw [hu30]
          have hb : Below u25.heap.size u25 u30 := by rw [← hu30]; exact (Below.refl _ _).alloc (Nat.le_refl _) _
          have hnew : Whole u30 u25.heap.size 3 #[.int .i64 (-1)] := by rw [← hu30]; exact heap_alloc_new u25 _
          clear hu30
          have hw : Below w2.heap.size w2 u30 := below_steps HB25.out hb
          have HB30 := Lib.hid hw
          have HX30Q := Lib.hid (HX25Q.out.below hb HX25Q.out.lt)
          have HX30S := Lib.hid hnew
          clear hnew
          clear hb
          refine hK.out _ _ hw (fun hHeld => ?_)
          clear hK K hw
          try simp only [List.getElem_toArray, List.getElem_cons_zero, List.getElem_cons_succ, Act.put, List.setIfInBounds_toArray, List.set_cons_zero, List.set_cons_succ]
          refine wpAnyH_ready (rs := [2]) (by kernel_rfl) (by simp) ?_
          refine AllReadyH.cons (o := _) rfl (fun K hK => ?_) ?_
          · go_simp
            refine (pthrough_any A n c HNN.out u30).mono ?_
            rintro e u31 ⟨gm, gb, rfl, hgm, hgb, hne, hzm, hzb, hb⟩
            have hw : Below w2.heap.size w2 u31 := below_steps HB30.out hb
            have HB31 := Lib.hid hw
            have HX31Q := Lib.hid (HX30Q.out.below hb HX30Q.out.lt)
            have HX31S := Lib.hid (HX30S.out.below hb HX30S.out.lt)
            have HNE := Lib.hid hne; have HX31M := Lib.hid hgm; have HX31B := Lib.hid hgb; have HZM := Lib.hid (Nat.le_trans HB30.out.size hzm); have HZB := Lib.hid (Nat.le_trans HB30.out.size hzb)
            clear hne hgm hgb hzm hzb
            clear hb
            go_wp2_with fail
            refine hK.out _ _ hw (fun hHeld => ?_)
            clear hK K hw
            try simp only [List.getElem_toArray, List.getElem_cons_zero, List.getElem_cons_succ, Act.put, List.setIfInBounds_toArray, List.set_cons_zero, List.set_cons_succ]
            refine wpAnyH_ready (rs := [8]) (by kernel_rfl) (by simp) ?_
            refine AllReadyH.cons (o := _) rfl (fun K hK => ?_) ?_
            · go_simp
              refine (drepeat_anyO caps (by have := HC3.out; omega) _ u31 HX31S.out).mono ?_
              rintro e u32 ⟨g, rfl, hzg, hgg, hb⟩
              have hw : Below w2.heap.size w2 u32 := below_steps HB31.out hb
              have HB32 := Lib.hid hw
              have HX32Q := Lib.hid (HX31Q.out.below hb HX31Q.out.lt)
              have HX32S := Lib.hid (HX31S.out.below hb HX31S.out.lt)
              have HX32M := Lib.hid (HX31M.out.below hb HX31M.out.lt)
              have HX32B := Lib.hid (HX31B.out.below hb HX31B.out.lt)
              have HNG1 := Lib.hid (show g ≠ gm by have := HX31M.out.lt; omega); have HNG2 := Lib.hid (show g ≠ gb by have := HX31B.out.lt; omega); have HX32G := Lib.hid (show Whole u32 g _ (litsZ (List.replicate caps (-1))).toArray from hgg); have HZG := Lib.hid (Nat.le_trans HB31.out.size hzg)
              clear hgg hzg
              clear hb
              go_wp2_with fail
              refine hK.out _ _ hw (fun hHeld => ?_)
              clear hK K hw
              try simp only [List.getElem_toArray, List.getElem_cons_zero, List.getElem_cons_succ, Act.put, List.setIfInBounds_toArray, List.set_cons_zero, List.set_cons_succ]
              refine wpAnyH_take (i := 9) (oi := _) (v := ?_) rfl (by kernel_rfl) (by kernel_rfl) (by kernel_rfl) (fun _ _ _ h => h) (Or.inl ⟨by rfl, ?_⟩) hHeld ?_
              rotate_left 1
              · (intro w hSw; (try dsimp only at hSw); have e0 := cell_on hSw HQ0.out; have e1 := cell_on hSw HQ2.out; go_simp; (try with_reducible rfl))
              try simp only [List.getElem_toArray, List.getElem_cons_zero, List.getElem_cons_succ, Act.put, List.setIfInBounds_toArray, List.set_cons_zero, List.set_cons_succ]
              refine wpAnyH_ready (rs := [11]) (by kernel_rfl) (by simp) ?_
              refine AllReadyH.cons (o := _) rfl (fun K hK => ?_) ?_
              · refine step_store_row rfl 139 (.tmp 9) (.tmp 26) rfl (u0.heap.size) #[.slice A n c, .slice (some ⟨gm, 0, none⟩) n n, .slice (some ⟨gb, 0, none⟩) n n, .int .i64 0, .slice none 0 0, .pointer (some ⟨ib, 0, none⟩), .bool long, .slice (some ⟨g, 0, none⟩) caps caps, .slice none 0 0, .int .i64 0] rfl rfl _ _ HX32Q.out (by kernel_rfl) rfl (run_cells15 ..) ?_
                have hw : Below w2.heap.size w2 (u32.setRow (u0.heap.size) #[.slice A n c, .slice (some ⟨gm, 0, none⟩) n n, .slice (some ⟨gb, 0, none⟩) n n, .int .i64 0, .slice none 0 0, .pointer (some ⟨ib, 0, none⟩), .bool long, .slice (some ⟨g, 0, none⟩) caps caps, .slice none 0 0, .int .i64 0]) := below_setRow HB32.out HZQ25.out _
                have HWF := Lib.hid hw
                have HQF := Lib.hid (show Whole (u32.setRow (u0.heap.size) #[.slice A n c, .slice (some ⟨gm, 0, none⟩) n n, .slice (some ⟨gb, 0, none⟩) n n, .int .i64 0, .slice none 0 0, .pointer (some ⟨ib, 0, none⟩), .bool long, .slice (some ⟨g, 0, none⟩) caps caps, .slice none 0 0, .int .i64 0]) (u0.heap.size) _ _ from setRow_heap _ _ _ _ _ _ HX32Q.out)
                have HMF := Lib.hid (show Whole (u32.setRow (u0.heap.size) #[.slice A n c, .slice (some ⟨gm, 0, none⟩) n n, .slice (some ⟨gb, 0, none⟩) n n, .int .i64 0, .slice none 0 0, .pointer (some ⟨ib, 0, none⟩), .bool long, .slice (some ⟨g, 0, none⟩) caps caps, .slice none 0 0, .int .i64 0]) (gm) _ _ from (setRow_other _ _ _ _ (ne_types HX32M.out HX32Q.out (by decide))).trans HX32M.out)
                have HBF := Lib.hid (show Whole (u32.setRow (u0.heap.size) #[.slice A n c, .slice (some ⟨gm, 0, none⟩) n n, .slice (some ⟨gb, 0, none⟩) n n, .int .i64 0, .slice none 0 0, .pointer (some ⟨ib, 0, none⟩), .bool long, .slice (some ⟨g, 0, none⟩) caps caps, .slice none 0 0, .int .i64 0]) (gb) _ _ from (setRow_other _ _ _ _ (ne_types HX32B.out HX32Q.out (by decide))).trans HX32B.out)
                have HGF := Lib.hid (show Whole (u32.setRow (u0.heap.size) #[.slice A n c, .slice (some ⟨gm, 0, none⟩) n n, .slice (some ⟨gb, 0, none⟩) n n, .int .i64 0, .slice none 0 0, .pointer (some ⟨ib, 0, none⟩), .bool long, .slice (some ⟨g, 0, none⟩) caps caps, .slice none 0 0, .int .i64 0]) (g) _ _ from (setRow_other _ _ _ _ (ne_types HX32G.out HX32Q.out (by decide))).trans HX32G.out)
                refine hK.out _ _ hw (fun hHeld => ?_)
                clear hK K hw
                try simp only [List.getElem_toArray, List.getElem_cons_zero, List.getElem_cons_succ, Act.put, List.setIfInBounds_toArray, List.set_cons_zero, List.set_cons_succ]
                refine wpAnyH_done (by kernel_rfl) ?_ _
                go_wp2_with fail
                go_meet
                exact ⟨_, rfl, u0.heap.size, gm, gb, g, rfl, HQF.out, HMF.out, HBF.out, HGF.out, HNE.out, HNG1.out, HNG2.out, HZQ25.out, HZM.out, HZB.out, HZG.out, HWF.out⟩
              exact AllReadyH.nil
            exact AllReadyH.nil
          exact AllReadyH.nil
        exact AllReadyH.nil
      exact AllReadyH.nil
    case rest =>
      obtain ⟨w3, rfl, q, gm, gb, g, rfl, hq, hgm, hgb, hg, hne, hne1, hne2, hzq, hzm, hzb, hzg, hb3⟩ := hcut
      have hI2 : Inss w2 (.slice A n c) p.ins := HIS.out.below (below_steps HB1.out HB2.out)
      have hIn2 : In w2 B0 k0 s ib := HIN.out.below (below_steps HB1.out HB2.out)
      have hways : WaysIn w2 w3 q gm gb n (.slice A n c) 139 #[.slice A n c, .slice (some ⟨gm, 0, none⟩) n n, .slice (some ⟨gb, 0, none⟩) n n, .int .i64 0, .slice none 0 0, .pointer (some ⟨ib, 0, none⟩), .bool long, .slice (some ⟨g, 0, none⟩) caps caps, .slice none 0 0, .int .i64 0] (List.replicate n 0) (List.replicate n 0) 0 (.slice none 0 0) [] :=
        ⟨hb3, hq, rfl, rfl, rfl, rfl, rfl, hgm, hgb, ownZ_none _ _, hzq, hzm, hzb, by decide, hne, by simp [Value.ownBlock], by simp [Value.ownBlock], by simp, by simp, Int.le_refl _, fun x hx => by rw [List.eq_of_mem_replicate hx]; omega, fun x hx => by rw [List.eq_of_mem_replicate hx]; omega⟩
      have hfit := ownZ_whole15 (l := List.replicate caps (-1)) hg hzg (fun x hx => by rw [List.eq_of_mem_replicate hx]; unfold R64; omega) (by rw [List.length_replicate]; unfold maxLen; have := HC3.out; omega)
      rw [List.length_replicate] at hfit
      have hnb : ∀ j, (Value.slice none 0 0).ownBlock ≠ some j := fun j e => by cases e
      have hrun : RunB w2 w3 q gm gb #[.slice A n c, .slice (some ⟨gm, 0, none⟩) n n, .slice (some ⟨gb, 0, none⟩) n n, .int .i64 0, .slice none 0 0, .pointer (some ⟨ib, 0, none⟩), .bool long, .slice (some ⟨g, 0, none⟩) caps caps, .slice none 0 0, .int .i64 0] (Value.slice none 0 0).ownBlock caps (.pointer (some ⟨ib, 0, none⟩)) long (.slice (some ⟨g, 0, none⟩) caps caps) (List.replicate caps (-1)) (.slice none 0 0) none 0 :=
        ⟨rfl, rfl, rfl, rfl, rfl, hfit, by simp, ownZ_none _ _, fun _ => rfl, fun m e => (by cases e), fun e => hne1 (Option.some.inj e), fun e => hne2 (Option.some.inj e), hnb _, hnb _, fun j _ => hnb j, fun j _ => hnb j, fun j _ => hnb j⟩
      have hgo := pgo_any p HR.out HON.out.2.2 w2 w3 q gm gb n HN.out _ hI2 caps HCE.out.symm B0 k0 s ib hIn2 _ rfl HLEN.out long g caps 0 (by omega) (List.replicate caps (-1)) 0 (by omega) ⟨_, _, _, _, _, _, hways, hrun⟩ (by simp) s0 HSE.out
      obtain ⟨m, hm⟩ : ∃ m, findF p.ins (textT (runesOf s)) long ((runesOf s).length + 1) s0 0 ((List.replicate caps (-1)).set 0 0) = m := ⟨_, rfl⟩
      rw [hm] at hgo
      have HGO := Lib.hid hgo; have HM := Lib.hid hm; have HB3 := Lib.hid (below_steps HB1.out (below_steps HB2.out hb3))
      obtain ⟨-, q1', -⟩ := HF.out w3 (below_steps HB2.out hb3)
      rw [HSE.out] at q1'
      have hzz := (below_steps HB1.out HB2.out).size
      have HZZ := Lib.hid hzz
      clear hI2 hIn2 hways hfit hnb hrun hgo hm hq hgm hgb hg hne hne1 hne2 hzq hzm hzb hzg hb3 hzz q0 q1 q2
      go_wp2_with fail
      refine HGO.out.mono ?_
      rintro e w4 ⟨rfl, rr, fit, st, hst, cs, M, B, lv, left, mv, hw, hb⟩
      have d8 : w4.cell? ⟨q, 8, none⟩ = some mv := (hw.box.cell 8).trans hb.c8
      have d9 : w4.cell? ⟨q, 9, none⟩ = some (.int .i64 (st : Int)) := (hw.box.cell 9).trans hb.c9
      have HEND : Hid (∀ W', Below w4.heap.size w4 W' → MatP p s long w (.returned (.tuple #[mv, .bool m.isSome, .int .i64 (st : Int)])) W') := Lib.hid fun W' hb' => by
        refine ⟨mv, m, st, rfl, ownZ_mono15 (hb.ownM.below hb') HZZ.out, hb.nilM, fun m' e => by rw [hb.lenM m' e, HCE.out], below_steps (below_steps HB1.out (below_steps HB2.out hw.bel)) hb', .inr ⟨HON.out, ?_, ?_⟩⟩
        · rw [HSE.out, HCE.out, Int.toNat_natCast, Int.toNat_natCast]
          exact HM.out.symm
        · rw [HCE.out, Int.toNat_natCast, HN.out]
          exact hst
      rcases m with _ | m
      · have hmv := hb.nilM rfl
        subst hmv
        have he : ∀ w : World, (binOp .neq 38 (.slice none 0 0) (.slice none 0 0)).run Try.prog w = .ok (.bool false) w := fun _ => rfl
        clear hw hb hst HGO q1'
        go_wp2_with fail
        go_big_quiet (fail)
        have HB5 := Lib.hid (below_draws w4 nq)
        clear d8 d9
        go_wp2_with fail
        go_ret3
        exact HEND.out _ HB5.out
      · obtain ⟨g2, c2, hmv⟩ : ∃ g c, mv = .slice (some ⟨g, 0, none⟩) caps c := by
          rcases own_sliceZ hb.ownM.1 with ⟨-, h0⟩ | ⟨g, c, e, -⟩
          · have h1 := hb.lenM m rfl
            have h2 := HC2.out
            have h3 : ((some m).getD [] : List Int).length = m.length := rfl
            omega
          · exact ⟨g, c, by rw [e, show ((some m).getD [] : List Int).length = m.length from rfl, hb.lenM m rfl]⟩
        subst hmv
        have he : ∀ w : World, (binOp .neq 38 (.slice (some ⟨g2, 0, none⟩) caps c2) (.slice none 0 0)).run Try.prog w = .ok (.bool true) w := fun _ => rfl
        clear hw hb hst HGO q1'
        go_wp2_with fail
        go_big_quiet (fail)
        have HB5 := Lib.hid (below_draws w4 nq)
        clear d8 d9
        go_wp2_with fail
        go_ret3
        exact HEND.out _ HB5.out
end Go.Proofs.Ytnemacejaiifnaa
