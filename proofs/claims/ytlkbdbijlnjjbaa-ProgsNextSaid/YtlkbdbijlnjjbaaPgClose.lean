/- The document's Closure. -/
import Derived.Test.YtlkbdbijlnjjbaaPgCome
import Derived.Deep.OwnRows
import Derived.Laws.OwnMore
set_option linter.unusedVariables false
namespace Go.Proofs.Ytlkbdbijlnjjbaa
open Go Go.RowKit

/-- Of a right program and places of it. -/
def GoodPg (p : Pg) (pcs : List Int) : Prop := RightPg p ∧ ∀ x ∈ pcs, PlaceI p.ins.length x
def natsI (pcs : List Int) : List Nat := pcs.map Int.toNat
open Classical in
/-- What Closure tells. -/
noncomputable def closeG (p : Pg) (pcs : List Int) (at' : Int) (long : Bool) : List Nat × Bool :=
  if GoodPg p pcs then ((closeI (meetsI at') long p.ins (natsI pcs)).out, (closeI (meetsI at') long p.ins (natsI pcs)).hit) else ([], false)
def ClosePost (c : List Nat × Bool) (w : World) (e : Ending) (w' : World) : Prop := ∃ v, e = .returned (.tuple #[v, .bool c.2]) ∧ OwnZ w' w.heap.size v (natsZ c.1) ∧ Below w.heap.size w w'
theorem close_bad {p : Pg} {pcs : List Int} (at' : Int) (long : Bool) (h : ¬ GoodPg p pcs) : closeG p pcs at' long = ([], false) := if_neg h
theorem close_good {p : Pg} {pcs : List Int} (at' : Int) (long : Bool) (h : GoodPg p pcs) : closeG p pcs at' long = ((closeI (meetsI at') long p.ins (natsI pcs)).out, (closeI (meetsI at') long p.ins (natsI pcs)).hit) := if_pos h
theorem info_bool : (Try.prog.info? 4).map (fun i => (i.zero, i.size, i.bytes)) = some (some (.bool false), 1, 1) := by kernel_rfl
/-- A new row of bools. -/
theorem make_bools (n : Nat) (h : n ≤ 281474976710656) (W : World) : (Instr.makeSlice 57 (.int .i64 (n : Int)) (.int .i64 (n : Int))).run Try.prog W = .ok (.slice (some ⟨W.heap.size, 0, none⟩) n n) (W.alloc (.cells (Array.replicate n (.bool false)) 4)) := by
  have h1 := run_make_row' (P := Try.prog) 57 4 (.bool false) 1 Try.underlying57 info_bool rfl .i64 .i64 n (by omega) (by omega) W
  have e : madeCells #[.bool false] n = Array.replicate n (.bool false) := by
    apply Array.toList_inj.1
    rw [toList_madeCells_one, Array.toList_replicate]
  rw [e] at h1
  exact h1
theorem wk_start {W0 : World} {p : Pg} {n c : Nat} {A : Option Addr} (hn : p.ins.length = n) (at' : Int) (long : Bool) {W1 W2 : World} (h1 : W0.alloc (.cells (Array.replicate n (.bool false)) 4) = W1)
    (h2 : W1.alloc (.cells #[.slice A n c, .int .i64 p.start, .int .i64 p.caps, .int .i64 at', .bool long, .slice (some ⟨W0.heap.size, 0, none⟩) n n, .slice none 0 0, .bool false] 59) = W2) :
    WkIn W0 W2 (W0.heap.size + 1) W0.heap.size (.slice A n c) p n at' long (.slice none 0 0) (wk0 n) := by
  have hz1 : W1.heap.size = W0.heap.size + 1 := by rw [← h1]; exact World.size_alloc _ _
  have hb1 : Below W0.heap.size W0 W1 := by rw [← h1]; exact (Below.refl _ _).alloc (Nat.le_refl _) _
  have hb2 : Below W1.heap.size W1 W2 := by rw [← h2]; exact (Below.refl _ _).alloc (Nat.le_refl _) _
  have hs1 : Whole W1 W0.heap.size 4 (Array.replicate n (.bool false)) := by rw [← h1]; exact heap_alloc_new W0 _
  have hq : Whole W2 W1.heap.size 59 #[.slice A n c, .int .i64 p.start, .int .i64 p.caps, .int .i64 at', .bool long, .slice (some ⟨W0.heap.size, 0, none⟩) n n, .slice none 0 0, .bool false] := by rw [← h2]; exact heap_alloc_new W1 _
  refine ⟨below_steps hb1 hb2, by rw [← hz1]; exact hq, ?_, ownZ_none _ _, by omega, Nat.le_refl _, by omega, by simp [wk0], by simp [wk0]⟩
  have e : ((wk0 n).seen.map Value.bool).toArray = Array.replicate n (.bool false) := by simp [wk0]
  rw [e]
  exact hs1.below hb2 (by omega)

set_option maxHeartbeats 1600000 in
set_option maxRecDepth 100000 in
theorem rclose_any (p : Pg) (v u : Value) (pcs : List Int) (at' : Int) (long : Bool) (w : World) (h : PgV w p v) (g : Zs w u pcs) :
    Calls Try.prog 15 #[v, u, .int .i64 at', .bool long] w (ClosePost (closeG p pcs at' long) w) := by
  have H0 := Lib.hid h
  obtain ⟨A, n, c, hn, rfl, hI, hs, hc, hnb⟩ := h.opened
  obtain ⟨w1, hw1⟩ : ∃ w1, w.alloc (.cells #[.slice A n c, .int .i64 p.start, .int .i64 p.caps] 24) = w1 := ⟨_, rfl⟩
  obtain ⟨hb1, e0, e1, e2, hz1⟩ := box3_new w _ _ _ _ hw1
  have HCK := Lib.hid (rcheck_any p _ w1 (H0.out.below hb1))
  have HZ := Lib.hid (g.below hb1)
  obtain ⟨A2, c2, rfl, hle, hmx, -⟩ := g
  obtain ⟨m, hm⟩ : ∃ m, pcs.length = m := ⟨_, rfl⟩
  have hmb : m ≤ 9223372036854775807 := by unfold maxLen at hmx; omega
  rw [hm] at HZ ⊢
  have HF : Hid (∀ W, Below w1.heap.size w1 W → W.cell? ⟨w.heap.size, 0, none⟩ = some (.slice A n c) ∧ W.cell? ⟨w.heap.size, 1, none⟩ = some (.int .i64 p.start) ∧ W.cell? ⟨w.heap.size, 2, none⟩ = some (.int .i64 p.caps)) := Lib.hid fun W hW => ⟨cell_on hW e0, cell_on hW e1, cell_on hW e2⟩
  have HIS := Lib.hid (hI.below hb1)
  have HB1 := Lib.hid hb1; have HW1 := Lib.hid hw1; have HN := Lib.hid hn; have HM := Lib.hid hm
  clear h hI hs hc hw1 hb1 hz1 hn hm hmx hle
  go_enter Try.func15, Try.ntmps15
  go_upto_region 1 with (fail)
  rw [HW1.out]
  go_wp2_with fail
  refine HCK.out.mono ?_
  rintro e w3 ⟨r, rfl, hr, hb3⟩
  have HB3 := Lib.hid hb3
  rcases hr with ⟨rfl, hR⟩ | ⟨rfl, hR⟩
  rotate_left
  · have HBAD := Lib.hid (close_bad (pcs := pcs) at' long (fun h => hR h.1))
    clear hb3 hR HCK
    go_wp2_with fail
    go_ret2
    exact ⟨.slice none 0 0, by rw [HBAD.out]; rfl, by rw [HBAD.out]; exact ownZ_none _ _, below_steps HB1.out HB3.out⟩
  have HR := Lib.hid hR
  have hnn : n ≤ 10000 := by rw [← HN.out]; exact hR.2.1
  clear hb3 hR HCK e0 e1 e2
  go_wp2_with fail
  go_loopw [10] (fun i wr => ∃ k : Nat, k ≤ m ∧ i = .int .i64 k ∧ Below w3.heap.size w3 wr ∧ ∀ x ∈ pcs.take k, PlaceI n x) (fun i _ => m - (intOf i).toNat)
  case atStart => exact ⟨0, Nat.zero_le _, rfl, Below.refl _ _, by simp⟩
  case round =>
    obtain ⟨k, hk, rfl, hB, hall⟩ := hrel
    have HB := Lib.hid hB; have HALL := Lib.hid hall
    obtain ⟨e0, e1, e2⟩ := HF.out wr (below_steps HB3.out hB)
    have hZr := HZ.out.below (below_steps HB3.out hB)
    clear hB hall
    by_cases hkm : k < m
    · have hkl : k < pcs.length := by rw [HM.out]; exact hkm
      obtain ⟨b, o, x, rfl, hx, hmem, k0, hR64⟩ := hZr.at' k hkl
      have hts : pcs.take (k + 1) = pcs.take k ++ [x] := by rw [List.take_succ_eq_append_getElem hkl, hx]
      have HTS := Lib.hid hts; have HMEM := Lib.hid hmem
      clear hts hmem hx hZr
      by_cases q0 : x < 0
      · have d0 : decide (x < 0) = true := decide_eq_true q0
        have HBAD := Lib.hid (close_bad (p := p) (pcs := pcs) at' long (fun h => by have := (h.2 x HMEM.out).1; omega))
        clear q0
        go_wp2_with fail
        go_big_quiet (fail)
        go_wp2_with fail
        go_ret2
        exact ⟨.slice none 0 0, by rw [HBAD.out]; rfl, by rw [HBAD.out]; exact ownZ_none _ _, below_steps (below_steps HB1.out HB3.out) (below_steps HB.out (below_draws wr nq))⟩
      have d0 : decide (x < 0) = false := decide_eq_false q0
      by_cases q1 : (n : Int) ≤ x
      · have d1 : decide ((n : Int) ≤ x) = true := decide_eq_true q1
        have HBAD := Lib.hid (close_bad (p := p) (pcs := pcs) at' long (fun h => by have h1 := (h.2 x HMEM.out).2; rw [HN.out] at h1; omega))
        clear q0 q1
        go_wp2_with fail
        go_big_quiet (fail)
        go_wp2_with fail
        go_ret2
        exact ⟨.slice none 0 0, by rw [HBAD.out]; rfl, by rw [HBAD.out]; exact ownZ_none _ _, below_steps (below_steps HB1.out HB3.out) (below_steps HB.out (below_draws wr nq))⟩
      have d1 : decide ((n : Int) ≤ x) = false := decide_eq_false q1
      have HPL : Hid (PlaceI n x) := Lib.hid ⟨by omega, by omega⟩
      clear q0 q1
      go_wp2_with fail
      go_big_quiet (fail)
      go_wp2_with fail
      go_roundw
      case rel =>
        refine ⟨k + 1, by omega, by go_num, below_steps HB.out (below_draws wr nq), fun y hy => ?_⟩
        rw [HTS.out] at hy
        rcases List.mem_append.1 hy with hy | hy
        · exact HALL.out y hy
        · rw [List.mem_singleton.1 hy]
          exact HPL.out
      case measure => simp [intOf]; omega
    · have hall' : GoodPg p pcs := ⟨HR.out, fun x hx => by
        rw [HN.out]
        refine HALL.out x ?_
        rwa [List.take_of_length_le (by rw [HM.out]; omega)]⟩
      have HGD := Lib.hid hall'
      have hmk := make_bools n (by omega)
      clear hall' hZr
      go_wp2_with fail
      refine wp_region_held_drew (S := (fun W => W.cell? ⟨w.heap.size, 0, none⟩ = some (.slice A n c) ∧ W.cell? ⟨w.heap.size, 1, none⟩ = some (.int .i64 p.start) ∧ W.cell? ⟨w.heap.size, 2, none⟩ = some (.int .i64 p.caps))) (by kernel_rfl) ⟨e0, e1, e2⟩ (fun hHeld => ?_)
      refine wpAnyH_take (i := 0) (oi := _) (v := ?_) rfl (by kernel_rfl) (by kernel_rfl) (by kernel_rfl) (fun _ _ _ h => h) (Or.inl ⟨by rfl, ?_⟩) (by assumption) ?_
      rotate_left 1
      · (intro w hSw; (try dsimp only at hSw); go_simp; (try with_reducible rfl))
      try simp only [List.getElem_toArray, List.getElem_cons_zero, List.getElem_cons_succ, Act.put, List.setIfInBounds_toArray, List.set_cons_zero, List.set_cons_succ]
      refine wpAnyH_take (i := 1) (oi := _) (v := ?_) rfl (by kernel_rfl) (by kernel_rfl) (by kernel_rfl) (fun _ _ _ h => h) (Or.inl ⟨by rfl, ?_⟩) (by assumption) ?_
      rotate_left 1
      · (intro w hSw; (try dsimp only at hSw); go_simp; (try with_reducible rfl))
      try simp only [List.getElem_toArray, List.getElem_cons_zero, List.getElem_cons_succ, Act.put, List.setIfInBounds_toArray, List.set_cons_zero, List.set_cons_succ]
      refine wpAnyH_take (i := 2) (oi := _) (v := ?_) rfl (by kernel_rfl) (by kernel_rfl) (by kernel_rfl) (fun _ _ _ h => h) (Or.inl ⟨by rfl, ?_⟩) (by assumption) ?_
      rotate_left 1
      · (intro w hSw; (try dsimp only at hSw); go_simp; (try with_reducible rfl))
      try simp only [List.getElem_toArray, List.getElem_cons_zero, List.getElem_cons_succ, Act.put, List.setIfInBounds_toArray, List.set_cons_zero, List.set_cons_succ]
      refine wpAnyH_take (i := 3) (oi := _) (v := ?_) rfl (by kernel_rfl) (by kernel_rfl) (by kernel_rfl) (fun _ _ _ h => h) (Or.inl ⟨by rfl, ?_⟩) (by assumption) ?_
      rotate_left 1
      · (intro w hSw; (try dsimp only at hSw); go_simp; (try with_reducible rfl))
      try simp only [List.getElem_toArray, List.getElem_cons_zero, List.getElem_cons_succ, Act.put, List.setIfInBounds_toArray, List.set_cons_zero, List.set_cons_succ]
      refine wpAnyH_take (i := 4) (oi := _) (v := ?_) rfl (by kernel_rfl) (by kernel_rfl) (by kernel_rfl) (fun _ _ _ h => h) (Or.inl ⟨by rfl, ?_⟩) (by assumption) ?_
      rotate_left 1
      · (intro w hSw; (try dsimp only at hSw); go_simp; (try with_reducible rfl))
      try simp only [List.getElem_toArray, List.getElem_cons_zero, List.getElem_cons_succ, Act.put, List.setIfInBounds_toArray, List.set_cons_zero, List.set_cons_succ]
      refine wpAnyH_take (i := 5) (oi := _) (v := ?_) rfl (by kernel_rfl) (by kernel_rfl) (by kernel_rfl) (fun _ _ _ h => h) (Or.inl ⟨by rfl, ?_⟩) (by assumption) ?_
      rotate_left 1
      · (intro w hSw; (try dsimp only at hSw); go_simp; (try with_reducible rfl))
      try simp only [List.getElem_toArray, List.getElem_cons_zero, List.getElem_cons_succ, Act.put, List.setIfInBounds_toArray, List.set_cons_zero, List.set_cons_succ]
      refine wpAnyH_ready (rs := [6]) (by kernel_rfl) (by simp) ?_
      refine AllReadyH.cons (o := _) rfl (fun K hK => ?_) ?_
      · go_simp
        obtain ⟨W1, hW1⟩ : ∃ W1, wr.drew.alloc (.cells (Array.replicate n (.bool false)) 4) = W1 := ⟨_, rfl⟩
        rw [show (wr.alloc (.cells (Array.replicate n (.bool false)) 4)).drew = W1 from hW1]
        have hbm : Below wr.drew.heap.size wr.drew W1 := by rw [← hW1]; exact (Below.refl _ _).alloc (Nat.le_refl _) _
        have hSa := HF.out W1 (below_steps HB3.out (below_steps HB.out ((Below.refl _ wr).drew.trans hbm)))
        have HW1' := Lib.hid hW1
        have hsz : W1.heap.size = wr.heap.size + 1 := by rw [← hW1]; exact World.size_alloc _ _
        clear hW1 hbm
        refine hK.out _ _ hSa (fun hHeld => ?_)
        clear hK K
        try simp only [List.getElem_toArray, List.getElem_cons_zero, List.getElem_cons_succ, Act.put, List.setIfInBounds_toArray, List.set_cons_zero, List.set_cons_succ]
        refine wpAnyH_take (i := 7) (oi := _) (v := ?_) rfl (by kernel_rfl) (by kernel_rfl) (by kernel_rfl) (fun _ _ _ h => h) (Or.inl ⟨by rfl, ?_⟩) (by assumption) ?_
        rotate_left 1
        · (intro w hSw; (try dsimp only at hSw); go_simp; (try with_reducible rfl))
        try simp only [List.getElem_toArray, List.getElem_cons_zero, List.getElem_cons_succ, Act.put, List.setIfInBounds_toArray, List.set_cons_zero, List.set_cons_succ]
        refine wpAnyH_ready (rs := [8]) (by kernel_rfl) (by simp) ?_
        refine AllReadyH.cons (o := _) rfl (fun K hK => ?_) ?_
        · go_simp
          obtain ⟨W2, hW2⟩ : ∃ W2, W1.alloc (.cells #[.slice A n c, .int .i64 p.start, .int .i64 p.caps, .int .i64 at', .bool long, .slice (some ⟨wr.heap.size, 0, none⟩) n n, .slice none 0 0, .bool false] 59) = W2 := ⟨_, rfl⟩
          rw [hW2]
          have hst := wk_start (W0 := wr.drew) (p := p) (c := c) (A := A) HN.out at' long HW1'.out hW2
          have hSb := HF.out W2 (below_steps HB3.out (below_steps HB.out ((Below.refl _ wr).drew.trans hst.bel)))
          have HST := Lib.hid hst
          clear hW2 hst
          refine hK.out _ _ hSb (fun hHeld => ?_)
          clear hK K
          try simp only [List.getElem_toArray, List.getElem_cons_zero, List.getElem_cons_succ, Act.put, List.setIfInBounds_toArray, List.set_cons_zero, List.set_cons_succ]
          refine wpAnyH_take (i := 9) (oi := _) (v := ?_) rfl (by kernel_rfl) (by kernel_rfl) (by kernel_rfl) (fun _ _ _ h => h) (Or.inl ⟨by rfl, ?_⟩) (by assumption) ?_
          rotate_left 1
          · (intro w hSw; (try dsimp only at hSw); go_simp; (try with_reducible rfl))
          try simp only [List.getElem_toArray, List.getElem_cons_zero, List.getElem_cons_succ, Act.put, List.setIfInBounds_toArray, List.set_cons_zero, List.set_cons_succ]
          refine wpAnyH_done (by kernel_rfl) ?_ _
          clear hHeld e0 e1 e2 hmk
          have HI0 : Hid (Inss wr.drew (.slice A n c) p.ins) := Lib.hid (HIS.out.below (below_steps HB3.out (below_steps HB.out (Below.refl _ _).drew)))
          have HBW := Lib.hid (below_steps HB3.out (below_steps HB.out (Below.refl _ wr).drew))
          have hq : (wr.heap.size + 1 : Nat) = wr.drew.heap.size + 1 := rfl
          obtain ⟨W0, hW0⟩ : ∃ W0, wr.drew = W0 := ⟨_, rfl⟩
          have hws : wr.heap.size = W0.heap.size := by rw [← hW0]; rfl
          rw [hW0] at HI0 HST HBW
          rw [hws]
          clear hq hW0 HB HW1' hsz
          go_wp2_with fail
          go_loopw [12] (fun i wr2 => ∃ (k : Nat) (lv : Value), k ≤ m ∧ i = .int .i64 k ∧ WkIn W0 wr2 (W0.heap.size + 1) W0.heap.size (.slice A n c) p n at' long lv (walkI (meetsI at') long p.ins ((natsI pcs).take k) (wk0 n))) (fun i _ => m - (intOf i).toNat)
          case atStart => exact ⟨0, _, Nat.zero_le _, rfl, by rw [List.take_zero, walk_nil]; exact HST.out⟩
          case round =>
            obtain ⟨k2, lv, hk2, rfl, hwk⟩ := hrel
            have HWK := Lib.hid hwk
            have hZr := HZ.out.below (below_steps HBW.out hwk.bel)
            clear hwk
            by_cases hkm2 : k2 < m
            · have hkl : k2 < pcs.length := by rw [HM.out]; exact hkm2
              obtain ⟨b, o, x, rfl, hx, hmem, k0, hR64⟩ := hZr.at' k2 hkl
              obtain ⟨u, hu⟩ := Int.eq_ofNat_of_zero_le (HGD.out.2 x hmem).1
              have hun : u < n := by have := (HGD.out.2 x hmem).2; rw [HN.out] at this; omega
              have hts : (natsI pcs).take (k2 + 1) = (natsI pcs).take k2 ++ [u] := by
                rw [List.take_succ_eq_append_getElem (by simpa [natsI] using hkl)]
                simp [natsI, hx, hu]
              subst hu
              have HTS := Lib.hid hts
              have HCM := Lib.hid (rcome_any W0 (W0.heap.size + 1) W0.heap.size (.slice A n c) p n HN.out at' long HI0.out HR.out _ wr lv _ u (Nat.lt_succ_self _) hun HWK.out)
              clear hts hmem hx hZr hun
              go_wp2_with fail
              refine HCM.out.mono ?_
              rintro e W3 ⟨rfl, -, lv3, hx3⟩
              have HX3 := Lib.hid hx3
              clear hx3 k0 HCM
              go_wp2_with fail
              go_roundw
              case rel => exact ⟨k2 + 1, lv3, by omega, by go_num, by rw [HTS.out, walk_append]; exact HX3.out⟩
              case measure => simp [intOf]; omega
            · have hall : (natsI pcs).take k2 = natsI pcs := List.take_of_length_le (by simp [natsI, HM.out]; omega)
              rw [hall] at HWK
              have hcl : closeI (meetsI at') long p.ins (natsI pcs) = walkI (meetsI at') long p.ins (natsI pcs) (wk0 n) := by unfold closeI; rw [HN.out]
              have hcg := close_good at' long HGD.out
              rw [hcl] at hcg
              obtain ⟨s, hs⟩ : ∃ s, walkI (meetsI at') long p.ins (natsI pcs) (wk0 n) = s := ⟨_, rfl⟩
              rw [hs] at hcg HWK
              have HCG := Lib.hid hcg
              have c6 := HWK.out.box.cell 6; have c7 := HWK.out.box.cell 7
              simp only [List.getElem?_toArray, List.getElem?_cons_zero, List.getElem?_cons_succ] at c6 c7
              clear hall hcl hcg hs hZr
              go_wp2_with fail
              go_big_quiet (fail)
              go_wp2_with fail
              go_ret2
              refine ⟨lv, by rw [HCG.out]; rfl, ?_, below_steps (below_steps HB1.out HBW.out) (below_steps HWK.out.bel (below_draws wr nq))⟩
              rw [HCG.out]
              exact (HWK.out.own.below (below_draws wr nq)).mono (below_steps HB1.out HBW.out).size
        exact AllReadyH.nil
      exact AllReadyH.nil
end Go.Proofs.Ytlkbdbijlnjjbaa
