/- Texts merged by program: OeHead, OeLawA. No condition. -/
import Derived.Test.YtnemacejaiifnaaO20
import Derived.Test.YtnemacejaiifnaaO22
import Derived.Test.YtnemacejaiifnaaO19
import Derived.Test.YtnemacejaiifnaaO6
import Derived.Deep.RegionHeld3
import Derived.Deep.RegionWith
set_option linter.unusedVariables false
set_option linter.unusedSimpArgs false
/- The fixed question of onepass's laws. No condition. -/
namespace Go.Proofs.Ytnemacejaiifnaa
open Go Go.RowKit

def headPg : Pg := ⟨[⟨1, 0, 0, [], 0⟩, ⟨5, 0, 0, [], 1⟩], 1, 2⟩
theorem headPg_right : RightPg headPg := by
  refine ⟨by decide, by decide, by unfold PlaceI headPg; decide, by decide, by decide, by decide, fun x hx => ?_⟩
  simp only [headPg, List.mem_cons, List.not_mem_nil, or_false] at hx
  rcases hx with rfl | rfl
  · simp [SoundI, PlaceI, AtOk, headPg]
  · simp [SoundI, PlaceI, AtOk, headPg]
theorem headPg_nx (meets : Int → Bool) (h : meets 1 = true) : nxI meets headPg.ins 1 = [0] ∧ nxI meets headPg.ins 0 = [] := by
  constructor
  · unfold nxI nextI atI headPg
    simp [h]
  · unfold nxI nextI atI headPg
    simp
theorem headPg_unf (meets : Int → Bool) (h : meets 1 = true) : Unf (nxI meets headPg.ins) [(1, [])] [(1, []), (0, [1])] := by
  obtain ⟨h1, h0⟩ := headPg_nx meets h
  refine .cons ?_
  rw [show kidsI (nxI meets headPg.ins) (1, []) = [(0, [1])] by unfold kidsI; rw [h1]; rfl]
  refine .cons ?_
  rw [show kidsI (nxI meets headPg.ins) (0, [1]) = [] by unfold kidsI; rw [h0]; rfl]
  exact .nil
theorem headPg_one : OneI headPg := by
  have hset : ∀ k, isSet headPg.ins k = false := fun k => by
    unfold isSet atI headPg
    match k with
    | 0 => rfl
    | 1 => rfl
    | k + 2 => rfl
  have hreach : ∀ pc, ReachI headPg.ins headPg.start.toNat pc → pc = 1 := fun pc h => by
    cases h with
    | start => rfl
    | step _ _ _ ho => rw [hset] at ho; cases ho
  refine ⟨headPg_right, ?_, fun pc h => ?_⟩
  · rintro ⟨l, hu, x, hx, hl⟩
    have h2 : Unf (nxI noB headPg.ins) [(1, [])] [(1, [])] := by
      refine .cons ?_
      rw [show kidsI (nxI noB headPg.ins) (1, []) = [] by unfold kidsI nxI nextI atI headPg noB; simp]
      exact .nil
    have := unf_det hu h2
    subst this
    obtain rfl : x = (1, []) := by simpa using hx
    rcases hl with hl | hl
    · revert hl; unfold isHit atI headPg; decide
    · rw [hset] at hl; cases hl
  · rw [hreach pc h]
    refine ⟨_, headPg_unf allM rfl, by decide, ?_, ?_⟩
    · unfold isHit atI headPg; decide
    · rw [show ((placesI [(1, ([] : List Nat)), (0, [1])]).filter (isSet headPg.ins)) = [] by simp [placesI, hset]]
      unfold ApartI
      simp
def oneS : ByteArray := ⟨#[97]⟩
theorem one_runes : runesOf oneS = [97] := by kernel_rfl
theorem headPg_find : findF headPg.ins (textT (runesOf oneS)) false ((runesOf oneS).length + 1) headPg.start.toNat 0 (fit0 headPg.caps.toNat) = some [0, 0] := by
  rw [one_runes]
  have hm : (textT [97]).meets ((textT [97]).at' 0) 1 = true := by kernel_rfl
  have hcl : closI ((textT [97]).meets ((textT [97]).at' 0)) headPg.ins 1 = [(1, []), (0, [1])] := good_clos (headPg_unf _ hm) (by decide) (by intro x hx; simp only [List.mem_cons, List.not_mem_nil, or_false] at hx; rcases hx with rfl | rfl <;> decide)
  show findF headPg.ins (textT [97]) false 2 1 0 (fit0 2) = _
  unfold findF
  rw [hcl]
  rfl
def Head15 (w : World) (e : Ending) (w' : World) : Prop := e = .returned (.bool true) ∧ Below w.heap.size w w'
theorem lit1_conv (x : UInt8) (W : World) (g c : Nat) (h0 : W.cell? ⟨g, 0, none⟩ = some (.int .u8 (x.toNat : Nat))) :
    (convert 28 9 (.slice (some ⟨g, 0, none⟩) 1 c)).run Try.prog W = .ok (.string ⟨#[x]⟩) W :=
  Lib.run_convert_whole W 28 5 9 Try.underlying28 Try.underlying5 Try.underlying9 g 0 ⟨#[x]⟩ (fun i hi => by
    match i, hi with
    | 0, _ => exact h0) c
def headCells : Array Value := #[.int .i64 1, .int .i64 0, .int .i64 0, .slice none 0 0, .int .i64 0, .int .i64 5, .int .i64 0, .int .i64 0, .slice none 0 0, .int .i64 1]
theorem headPg_v {W : World} {b : Nat} (h : Whole W b 95 headCells) : PgV W headPg (.agg #[.slice (some ⟨b, 0, none⟩) 2 2, .int .i64 1, .int .i64 2]) := by
  refine ⟨_, rfl, ⟨some ⟨b, 0, none⟩, 2, rfl, Nat.le_refl _, by unfold maxLen; omega, fun e => (by cases e), .inr ⟨b, 0, rfl, fun i hi => ⟨none, 0, ?_, ?_, ?_⟩⟩⟩, by unfold R64 headPg; decide, by unfold R64 headPg; decide⟩
  · match i, hi with
    | 0, _ => exact ⟨h.cell 0, h.cell 1, h.cell 2, h.cell 3, h.cell 4⟩
    | 1, _ => exact ⟨h.cell 5, h.cell 6, h.cell 7, h.cell 8, h.cell 9⟩
  · match i, hi with
    | 0, _ => exact ⟨none, 0, rfl, Nat.le_refl _, by unfold maxLen; omega, fun _ => rfl, .inl rfl, by simp [AllI32, headPg]⟩
    | 1, _ => exact ⟨none, 0, rfl, Nat.le_refl _, by unfold maxLen; omega, fun _ => rfl, .inl rfl, by simp [AllI32, headPg]⟩
  · match i, hi with
    | 0, _ => simp [Bds, R64, headPg]
    | 1, _ => simp [Bds, R64, headPg]
theorem noPg_not : ¬ OneI ⟨[], 0, 0⟩ := fun h => by
  have := h.1.1
  simp at this
set_option maxHeartbeats 1600000 in
set_option maxRecDepth 100000 in
theorem head15_any (w : World) : Calls Try.prog 24 #[] w (Head15 w) := by
  obtain ⟨w1, hw1⟩ : ∃ w1, w.alloc (.cells #[.int .i64 1, .int .i64 0, .int .i64 0, .slice none 0 0, .int .i64 0, .int .i64 5, .int .i64 0, .int .i64 0, .slice none 0 0, .int .i64 1] 95) = w1 := ⟨_, rfl⟩
  obtain ⟨w2, hw2⟩ : ∃ w2, w1.alloc (.cells #[.slice (some ⟨w.heap.size, 0, none⟩) 2 2, .int .i64 1, .int .i64 2] 58) = w2 := ⟨_, rfl⟩
  have z1 : w1.heap.size = w.heap.size + 1 := by rw [← hw1]; exact World.size_alloc _ _
  obtain ⟨hb2, -, -, -, hz2⟩ := box3_new w1 _ _ _ _ hw2
  have hb1 : Below w.heap.size w w1 := by rw [← hw1]; exact (Below.refl _ _).alloc (Nat.le_refl _) _
  have hi1 : Whole w1 w.heap.size 95 headCells := by rw [← hw1]; exact heap_alloc_new w _
  have hv2 : PgV w2 headPg (.agg #[.slice (some ⟨w.heap.size, 0, none⟩) 2 2, .int .i64 1, .int .i64 2]) := headPg_v (hi1.below hb2 hi1.lt)
  have hp2 : Whole w2 w1.heap.size 58 #[.slice (some ⟨w.heap.size, 0, none⟩) 2 2, .int .i64 1, .int .i64 2] := by rw [← hw2]; exact heap_alloc_new w1 _
  obtain ⟨wa, hwa⟩ : ∃ x, (w2.alloc (.cells #[.int .u8 97] 5)).drew = x := ⟨_, rfl⟩
  obtain ⟨w3, hw3⟩ : ∃ x, (w2.alloc (.cells #[.int .u8 97] 5 (1, 2))).drew = x := ⟨_, rfl⟩
  have hcv : (convert 28 28 (.slice (some ⟨w2.heap.size, 0, none⟩) 1 1)).run Try.prog wa = .ok (.slice (some ⟨w2.heap.size, 0, none⟩) 1 1) w3 := by
    rw [← hwa, ← hw3]
    exact Lib.run_convert_bytes_const (P := Try.prog) w2.drew 28 5 #[.int .u8 97] 1 1 Try.underlying28 Try.underlying5
  have hba : Below w2.heap.size w2 wa := by rw [← hwa]; exact ((Below.refl _ w2).alloc (Nat.le_refl _) _).drew
  have HWA := Lib.hid hwa; have HBA := Lib.hid hba
  have hb3 : Below w2.heap.size w2 w3 := by rw [← hw3]; exact ((Below.refl _ w2).alloc (Nat.le_refl _) _).drew
  have hx3 : w3.cell? ⟨w2.heap.size, 0, none⟩ = some (.int .u8 97) := by rw [← hw3]; exact cell_of_row _ w2.heap.size 0 _ _ _ (heap_alloc_new w2 _)
  have HT := Lib.hid (text_ok (some ⟨w2.heap.size, 0, none⟩) 1 oneS w3 (by decide) (lit1_conv 97 w3 w2.heap.size 1 hx3))
  have hls : ¬ LongPg headPg := by unfold LongPg totI headPg; simp
  have HM := Lib.hid (fun W (hb : Below w2.heap.size w2 W) ib (hin : In W w3.heap.size 2 oneS ib) => pmatch_any headPg _ W (hv2.below hb) hls _ _ oneS ib hin (by rw [one_runes]; decide) false)
  have HA := Lib.hid (fun W (hb : Below w2.heap.size w2 W) => padmits_any headPg _ W (hv2.below hb) hls)
  have HN := Lib.hid (fun W => padmits_any ⟨[], 0, 0⟩ (.agg #[.slice none 0 0, .int .i64 0, .int .i64 0]) W ⟨_, rfl, ⟨none, 0, rfl, Nat.le_refl _, by unfold maxLen; omega, fun _ => rfl, .inl rfl⟩, by simp [R64], by simp [R64]⟩ (by unfold LongPg totI; simp))
  have HP := Lib.hid hp2; have HB2 := Lib.hid (below_steps hb1 hb2); have HB3 := Lib.hid hb3; have HZ1 := Lib.hid z1
  have HW1 := Lib.hid hw1; have HW2 := Lib.hid hw2; have HW3 := Lib.hid hw3
  rw [z1] at hp2
  have p0 : w2.cell? ⟨w.heap.size + 1, 0, none⟩ = some (.slice (some ⟨w.heap.size, 0, none⟩) 2 2) := hp2.cell 0
  have p1 : w2.cell? ⟨w.heap.size + 1, 1, none⟩ = some (.int .i64 1) := hp2.cell 1
  have p2 : w2.cell? ⟨w.heap.size + 1, 2, none⟩ = some (.int .i64 2) := hp2.cell 2
  have P0 := Lib.hid p0; have P1 := Lib.hid p1; have P2 := Lib.hid p2
  clear hwa hba hw1 hw2 z1 hb2 hz2 hb1 hi1 hv2 hp2 hw3 hb3 hx3 hls
  go_enter Try.func24, Try.ntmps24
  go_upto_region 2 with (fail)
  rw [HW1.out, HW2.out]
  clear p0 p1 p2
  refine wp_region_held_drew (S := fun w' => Below w2.heap.size w2 w') (by kernel_rfl) ((Below.refl _ w2).drew) (fun hHeld => ?_)
  refine wpAnyH_take (i := 0) (oi := _) (v := ?_) rfl (by kernel_rfl) (by kernel_rfl) (by kernel_rfl) (fun _ _ _ h => h) (Or.inl ⟨by rfl, ?_⟩) hHeld ?_
  rotate_left 1
  · (intro w hSw; (try dsimp only at hSw); have e0 := cell_on hSw P0.out; have e1 := cell_on hSw P1.out; have e2 := cell_on hSw P2.out; go_simp; (try with_reducible rfl))
  try simp only [List.getElem_toArray, List.getElem_cons_zero, List.getElem_cons_succ, Act.put, List.setIfInBounds_toArray, List.set_cons_zero, List.set_cons_succ]
  refine wpAnyH_ready (rs := [1]) (by kernel_rfl) (by simp) ?_
  refine AllReadyH.cons (o := _) rfl (fun K hK => ?_) ?_
  · go_simp
    rw [HWA.out]
    refine hK.out _ _ HBA.out (fun hHeld => ?_)
    clear hK K
    try simp only [List.getElem_toArray, List.getElem_cons_zero, List.getElem_cons_succ, Act.put, List.setIfInBounds_toArray, List.set_cons_zero, List.set_cons_succ]
    refine wpAnyH_ready (rs := [2]) (by kernel_rfl) (by simp) ?_
    refine AllReadyH.cons (o := _) rfl (fun K hK => ?_) ?_
    · go_simp
      refine hK.out _ _ HB3.out (fun hHeld => ?_)
      clear hK K
      try simp only [List.getElem_toArray, List.getElem_cons_zero, List.getElem_cons_succ, Act.put, List.setIfInBounds_toArray, List.set_cons_zero, List.set_cons_succ]
      refine wpAnyH_ready (rs := [3]) (by kernel_rfl) (by simp) ?_
      refine AllReadyH.cons (o := _) rfl (fun K hK => ?_) ?_
      · go_simp
        refine HT.out.mono ?_
        rintro e w4 ⟨ib, rfl, hin, hb4⟩
        have HIN := Lib.hid hin; have HB4 := Lib.hid (below_steps HB3.out hb4)
        clear hin hb4
        go_wp2_with fail
        refine hK.out _ _ HB4.out (fun hHeld => ?_)
        clear hK K
        try simp only [List.getElem_toArray, List.getElem_cons_zero, List.getElem_cons_succ, Act.put, List.setIfInBounds_toArray, List.set_cons_zero, List.set_cons_succ]
        refine wpAnyH_ready (rs := [4]) (by kernel_rfl) (by simp) ?_
        refine AllReadyH.cons (o := _) rfl (fun K hK => ?_) ?_
        · go_simp
          refine (HM.out w4 HB4.out ib HIN.out).mono ?_
          rintro e w5 ⟨mv, got, st, rfl, ho, hn, hl, hb5, hc⟩
          have HB5 := Lib.hid (below_steps HB4.out hb5); have HO := Lib.hid ho; have HC := Lib.hid hc
          clear ho hn hl hb5 hc
          go_wp2_with fail
          refine hK.out _ _ HB5.out (fun hHeld => ?_)
          clear hK K
          try simp only [List.getElem_toArray, List.getElem_cons_zero, List.getElem_cons_succ, Act.put, List.setIfInBounds_toArray, List.set_cons_zero, List.set_cons_succ]
          refine wpAnyH_take (i := 5) (oi := _) (v := ?_) rfl (by kernel_rfl) (by kernel_rfl) (by kernel_rfl) (fun _ _ _ h => h) (Or.inl ⟨by rfl, ?_⟩) hHeld ?_
          rotate_left 1
          · (intro w hSw; (try dsimp only at hSw); have e0 := cell_on hSw P0.out; have e1 := cell_on hSw P1.out; have e2 := cell_on hSw P2.out; go_simp; (try with_reducible rfl))
          try simp only [List.getElem_toArray, List.getElem_cons_zero, List.getElem_cons_succ, Act.put, List.setIfInBounds_toArray, List.set_cons_zero, List.set_cons_succ]
          refine wpAnyH_take (i := 6) (oi := _) (v := ?_) rfl (by kernel_rfl) (by kernel_rfl) (by kernel_rfl) (fun _ _ _ h => h) (Or.inl ⟨by rfl, ?_⟩) hHeld ?_
          rotate_left 1
          · (intro w hSw; (try dsimp only at hSw); have e0 := cell_on hSw P0.out; have e1 := cell_on hSw P1.out; have e2 := cell_on hSw P2.out; go_simp; (try with_reducible rfl))
          try simp only [List.getElem_toArray, List.getElem_cons_zero, List.getElem_cons_succ, Act.put, List.setIfInBounds_toArray, List.set_cons_zero, List.set_cons_succ]
          refine wpAnyH_take (i := 7) (oi := _) (v := ?_) rfl (by kernel_rfl) (by kernel_rfl) (by kernel_rfl) (fun _ _ _ h => h) (Or.inl ⟨by rfl, ?_⟩) hHeld ?_
          rotate_left 1
          · (intro w hSw; (try dsimp only at hSw); have e0 := cell_on hSw P0.out; have e1 := cell_on hSw P1.out; have e2 := cell_on hSw P2.out; go_simp; (try with_reducible rfl))
          try simp only [List.getElem_toArray, List.getElem_cons_zero, List.getElem_cons_succ, Act.put, List.setIfInBounds_toArray, List.set_cons_zero, List.set_cons_succ]
          refine wpAnyH_take (i := 8) (oi := _) (v := ?_) rfl (by kernel_rfl) (by kernel_rfl) (by kernel_rfl) (fun _ _ _ h => h) (Or.inl ⟨by rfl, ?_⟩) hHeld ?_
          rotate_left 1
          · (intro w hSw; (try dsimp only at hSw); have e0 := cell_on hSw P0.out; have e1 := cell_on hSw P1.out; have e2 := cell_on hSw P2.out; go_simp; (try with_reducible rfl))
          try simp only [List.getElem_toArray, List.getElem_cons_zero, List.getElem_cons_succ, Act.put, List.setIfInBounds_toArray, List.set_cons_zero, List.set_cons_succ]
          refine wpAnyH_take (i := 9) (oi := _) (v := ?_) rfl (by kernel_rfl) (by kernel_rfl) (by kernel_rfl) (fun _ _ _ h => h) (Or.inl ⟨by rfl, ?_⟩) hHeld ?_
          rotate_left 1
          · (intro w hSw; (try dsimp only at hSw); have e0 := cell_on hSw P0.out; have e1 := cell_on hSw P1.out; have e2 := cell_on hSw P2.out; go_simp; (try with_reducible rfl))
          try simp only [List.getElem_toArray, List.getElem_cons_zero, List.getElem_cons_succ, Act.put, List.setIfInBounds_toArray, List.set_cons_zero, List.set_cons_succ]
          refine wpAnyH_take (i := 10) (oi := _) (v := ?_) rfl (by kernel_rfl) (by kernel_rfl) (by kernel_rfl) (fun _ _ _ h => h) (Or.inl ⟨by rfl, ?_⟩) hHeld ?_
          rotate_left 1
          · (intro w hSw; (try dsimp only at hSw); have e0 := cell_on hSw P0.out; have e1 := cell_on hSw P1.out; have e2 := cell_on hSw P2.out; go_simp; (try with_reducible rfl))
          try simp only [List.getElem_toArray, List.getElem_cons_zero, List.getElem_cons_succ, Act.put, List.setIfInBounds_toArray, List.set_cons_zero, List.set_cons_succ]
          refine wpAnyH_take (i := 11) (oi := _) (v := ?_) rfl (by kernel_rfl) (by kernel_rfl) (by kernel_rfl) (fun _ _ _ h => h) (Or.inl ⟨by rfl, ?_⟩) hHeld ?_
          rotate_left 1
          · (intro w hSw; (try dsimp only at hSw); have e0 := cell_on hSw P0.out; have e1 := cell_on hSw P1.out; have e2 := cell_on hSw P2.out; go_simp; (try with_reducible rfl))
          try simp only [List.getElem_toArray, List.getElem_cons_zero, List.getElem_cons_succ, Act.put, List.setIfInBounds_toArray, List.set_cons_zero, List.set_cons_succ]
          refine wpAnyH_done (by kernel_rfl) ?_ _
          have hg : got = some [0, 0] := by
            rcases HC.out with ⟨h, -⟩ | ⟨-, h, -⟩
            · exact absurd headPg_one h
            · rw [h]
              exact headPg_find
          subst hg
          have ho := HO.out
          obtain ⟨g, c, hmv⟩ : ∃ g c, mv = .slice (some ⟨g, 0, none⟩) 2 c := by
            rcases own_sliceZ ho.1 with ⟨-, h0⟩ | ⟨g, c, e, -⟩
            · simp at h0
            · exact ⟨g, c, by rw [e]; rfl⟩
          subst hmv
          have t0 : w5.cell? ⟨g, 0, none⟩ = some (.int .i64 0) := (ho.at' 0 (by simp)).1
          have t1 : w5.cell? ⟨g, 1, none⟩ = some (.int .i64 0) := (ho.at' 1 (by simp)).1
          have p0 := cell_on HB5.out P0.out
          have p1 := cell_on HB5.out P1.out
          have p2 := cell_on HB5.out P2.out
          have HT0 := Lib.hid t0; have HT1 := Lib.hid t1
          have HA5 := Lib.hid (HA.out w5 HB5.out)
          clear ho t0 t1 HC HO HM HT HIN
          go_wp2_with fail
          refine HA5.out.mono ?_
          rintro e w6 ⟨B, rfl, hB, hb6⟩
          obtain rfl : B = true := hB.2 headPg_one
          have t0 := cell_on hb6 HT0.out
          have t1 := cell_on hb6 HT1.out
          have HB6 := Lib.hid (below_steps HB5.out hb6)
          clear hB hb6 p0 p1 p2
          go_wp2_with fail
          refine (HN.out _).mono ?_
          rintro e w7 ⟨B, rfl, hB, hb7⟩
          obtain rfl : B = false := by
            cases B
            · rfl
            · exact absurd (hB.1 rfl) noPg_not
          have HB7 := Lib.hid (below_steps HB6.out hb7)
          clear hB hb7 t0 t1
          go_wp2_with fail
          go_ret
          exact ⟨rfl, below_steps HB2.out HB7.out⟩
        exact AllReadyH.nil
      exact AllReadyH.nil
    exact AllReadyH.nil
  exact AllReadyH.nil
end Go.Proofs.Ytnemacejaiifnaa
/- Admits of onepass, the program's and the document's: the law (the walk by gen15lawA.py). No condition. -/
namespace Go.Proofs.Ytnemacejaiifnaa
open Go Go.RowKit

set_option maxHeartbeats 1600000 in
set_option maxRecDepth 100000 in
theorem onepassAdmits_any (p : Pg) (v : Value) (w : World) (h : PgV w p v) : Calls Try.prog 8 #[v] w (fun e w' => e = .returned (.bool true) ∧ Below w.heap.size w w') := by
  have H0 := Lib.hid h
  obtain ⟨A, n, c, hn, rfl, hI, hs, hc, hnb⟩ := h.opened
  obtain ⟨w1, hw1⟩ : ∃ w1, w.alloc (.cells #[.slice A n c, .int .i64 p.start, .int .i64 p.caps] 58) = w1 := ⟨_, rfl⟩
  obtain ⟨hb1, e0, e1, e2, hz1⟩ := box3_new w _ _ _ _ hw1
  have HF : Hid (∀ W, Below w1.heap.size w1 W → W.cell? ⟨w.heap.size, 0, none⟩ = some (.slice A n c) ∧ W.cell? ⟨w.heap.size, 1, none⟩ = some (.int .i64 p.start) ∧ W.cell? ⟨w.heap.size, 2, none⟩ = some (.int .i64 p.caps)) := Lib.hid fun W hW => ⟨cell_on hW e0, cell_on hW e1, cell_on hW e2⟩
  have HP : Hid (∀ W, Below w1.heap.size w1 W → PgV W p (.agg #[.slice A n c, .int .i64 p.start, .int .i64 p.caps])) := Lib.hid fun W hW => H0.out.below (below_steps hb1 hW)
  have HH := Lib.hid (head15_any w1)
  have HB1 := Lib.hid hb1; have HW1 := Lib.hid hw1
  clear h hI hs hc hw1 hb1 hz1 hn e0 e1 e2 H0
  go_enter Try.func8, Try.ntmps8
  go_upto_region 1 with (fail)
  rw [HW1.out]
  go_wp2_with fail
  refine HH.out.mono ?_
  rintro e w2 ⟨rfl, hb2⟩
  have HB2 := Lib.hid hb2
  clear hb2 HH
  go_wp2_with fail
  refine wp_region_held_drew (S := fun w' => Below w1.heap.size w1 w') (by kernel_rfl) (HB2.out.drew) (fun hHeld => ?_)
  obtain ⟨w9, hw9⟩ : ∃ x, w2.drew = x := ⟨_, rfl⟩
  rw [hw9] at hHeld ⊢
  have HB9 := Lib.hid hHeld
  clear hw9
  refine wpAnyH_take (i := 0) (oi := _) (v := ?_) rfl (by kernel_rfl) (by kernel_rfl) (by kernel_rfl) (fun _ _ _ h => h) (Or.inl ⟨by rfl, ?_⟩) hHeld ?_
  rotate_left 1
  · (intro w hSw; (try dsimp only at hSw); have e0 := (HF.out _ hSw).1; have e1 := (HF.out _ hSw).2.1; have e2 := (HF.out _ hSw).2.2; go_simp; (try with_reducible rfl))
  try simp only [List.getElem_toArray, List.getElem_cons_zero, List.getElem_cons_succ, Act.put, List.setIfInBounds_toArray, List.set_cons_zero, List.set_cons_succ]
  refine wpAnyH_take (i := 1) (oi := _) (v := ?_) rfl (by kernel_rfl) (by kernel_rfl) (by kernel_rfl) (fun _ _ _ h => h) (Or.inl ⟨by rfl, ?_⟩) hHeld ?_
  rotate_left 1
  · (intro w hSw; (try dsimp only at hSw); have e0 := (HF.out _ hSw).1; have e1 := (HF.out _ hSw).2.1; have e2 := (HF.out _ hSw).2.2; go_simp; (try with_reducible rfl))
  try simp only [List.getElem_toArray, List.getElem_cons_zero, List.getElem_cons_succ, Act.put, List.setIfInBounds_toArray, List.set_cons_zero, List.set_cons_succ]
  refine wpAnyH_take (i := 2) (oi := _) (v := ?_) rfl (by kernel_rfl) (by kernel_rfl) (by kernel_rfl) (fun _ _ _ h => h) (Or.inl ⟨by rfl, ?_⟩) hHeld ?_
  rotate_left 1
  · (intro w hSw; (try dsimp only at hSw); have e0 := (HF.out _ hSw).1; have e1 := (HF.out _ hSw).2.1; have e2 := (HF.out _ hSw).2.2; go_simp; (try with_reducible rfl))
  try simp only [List.getElem_toArray, List.getElem_cons_zero, List.getElem_cons_succ, Act.put, List.setIfInBounds_toArray, List.set_cons_zero, List.set_cons_succ]
  refine wpAnyH_ready (rs := [3]) (by kernel_rfl) (by simp) ?_
  refine AllReadyH.cons (o := _) rfl (fun K hK => ?_) ?_
  · go_simp
    refine ((long12_any p _ w9 (HP.out w9 HB9.out))).mono ?_
    rintro e w13 ⟨B3, rfl, hB3, hb⟩
    have hw := below_steps HB9.out hb
    have HB13 := Lib.hid hw; have HQ3 := Lib.hid hB3
    clear hb hB3
    cases B3
    · have HNL := Lib.hid (show ¬ LongPg p from fun h => by have := HQ3.out.2 h; cases this)
      go_wp2_with fail
      refine hK.out _ _ hw (fun hHeld => ?_)
      clear hK K hw
      try simp only [List.getElem_toArray, List.getElem_cons_zero, List.getElem_cons_succ, Act.put, List.setIfInBounds_toArray, List.set_cons_zero, List.set_cons_succ]
      refine wpAnyH_take (i := 4) (oi := _) (v := ?_) rfl (by kernel_rfl) (by kernel_rfl) (by kernel_rfl) (fun _ _ _ h => h) (Or.inl ⟨by rfl, ?_⟩) hHeld ?_
      rotate_left 1
      · (intro w hSw; (try dsimp only at hSw); have e0 := (HF.out _ hSw).1; have e1 := (HF.out _ hSw).2.1; have e2 := (HF.out _ hSw).2.2; go_simp; (try with_reducible rfl))
      try simp only [List.getElem_toArray, List.getElem_cons_zero, List.getElem_cons_succ, Act.put, List.setIfInBounds_toArray, List.set_cons_zero, List.set_cons_succ]
      refine wpAnyH_take (i := 5) (oi := _) (v := ?_) rfl (by kernel_rfl) (by kernel_rfl) (by kernel_rfl) (fun _ _ _ h => h) (Or.inl ⟨by rfl, ?_⟩) hHeld ?_
      rotate_left 1
      · (intro w hSw; (try dsimp only at hSw); have e0 := (HF.out _ hSw).1; have e1 := (HF.out _ hSw).2.1; have e2 := (HF.out _ hSw).2.2; go_simp; (try with_reducible rfl))
      try simp only [List.getElem_toArray, List.getElem_cons_zero, List.getElem_cons_succ, Act.put, List.setIfInBounds_toArray, List.set_cons_zero, List.set_cons_succ]
      refine wpAnyH_take (i := 7) (oi := _) (v := ?_) rfl (by kernel_rfl) (by kernel_rfl) (by kernel_rfl) (fun _ _ _ h => h) (Or.inl ⟨by rfl, ?_⟩) hHeld ?_
      rotate_left 1
      · (intro w hSw; (try dsimp only at hSw); have e0 := (HF.out _ hSw).1; have e1 := (HF.out _ hSw).2.1; have e2 := (HF.out _ hSw).2.2; go_simp; (try with_reducible rfl))
      try simp only [List.getElem_toArray, List.getElem_cons_zero, List.getElem_cons_succ, Act.put, List.setIfInBounds_toArray, List.set_cons_zero, List.set_cons_succ]
      refine wpAnyH_ready (rs := [6]) (by kernel_rfl) (by simp) ?_
      refine AllReadyH.cons (o := _) rfl (fun K hK => ?_) ?_
      · go_simp
        refine ((padmits_any p _ w13 (HP.out w13 HB13.out) HNL.out)).mono ?_
        rintro e w16 ⟨B6, rfl, hB6, hb⟩
        have hw := below_steps HB13.out hb
        have HB16 := Lib.hid hw; have HQ6 := Lib.hid hB6
        clear hb hB6
        go_wp2_with fail
        refine hK.out _ _ hw (fun hHeld => ?_)
        clear hK K hw
        try simp only [List.getElem_toArray, List.getElem_cons_zero, List.getElem_cons_succ, Act.put, List.setIfInBounds_toArray, List.set_cons_zero, List.set_cons_succ]
        refine wpAnyH_ready (rs := [8]) (by kernel_rfl) (by simp) ?_
        refine AllReadyH.cons (o := _) rfl (fun K hK => ?_) ?_
        · go_simp
          refine ((radmits_any p _ w16 (HP.out w16 HB16.out) HNL.out)).mono ?_
          rintro e w18 ⟨B8, rfl, hB8, hb⟩
          have hw := below_steps HB16.out hb
          have HB18 := Lib.hid hw; have HQ8 := Lib.hid hB8
          clear hb hB8
          obtain rfl : B6 = B8 := by
            have h1 := HQ6.out
            have h2 := HQ8.out
            cases B6 <;> cases B8 <;> simp_all
          have hbb : (B6 == B6) = true := by simp
          go_wp2_with fail
          refine hK.out _ _ hw (fun hHeld => ?_)
          clear hK K hw
          try simp only [List.getElem_toArray, List.getElem_cons_zero, List.getElem_cons_succ, Act.put, List.setIfInBounds_toArray, List.set_cons_zero, List.set_cons_succ]
          refine wpAnyH_take (i := 9) (oi := _) (v := ?_) rfl (by kernel_rfl) (by kernel_rfl) (by kernel_rfl) (fun _ _ _ h => h) (Or.inl ⟨by rfl, ?_⟩) hHeld ?_
          rotate_left 1
          · (intro w hSw; (try dsimp only at hSw); have e0 := (HF.out _ hSw).1; have e1 := (HF.out _ hSw).2.1; have e2 := (HF.out _ hSw).2.2; go_simp; (try with_reducible rfl))
          try simp only [List.getElem_toArray, List.getElem_cons_zero, List.getElem_cons_succ, Act.put, List.setIfInBounds_toArray, List.set_cons_zero, List.set_cons_succ]
          refine wpAnyH_take (i := 10) (oi := _) (v := ?_) rfl (by kernel_rfl) (by kernel_rfl) (by kernel_rfl) (fun _ _ _ h => h) (Or.inl ⟨by rfl, ?_⟩) hHeld ?_
          rotate_left 1
          · (intro w hSw; (try dsimp only at hSw); have e0 := (HF.out _ hSw).1; have e1 := (HF.out _ hSw).2.1; have e2 := (HF.out _ hSw).2.2; go_simp; (try with_reducible rfl))
          try simp only [List.getElem_toArray, List.getElem_cons_zero, List.getElem_cons_succ, Act.put, List.setIfInBounds_toArray, List.set_cons_zero, List.set_cons_succ]
          refine wpAnyH_take (i := 11) (oi := _) (v := ?_) rfl (by kernel_rfl) (by kernel_rfl) (by kernel_rfl) (fun _ _ _ h => h) (Or.inl ⟨by rfl, ?_⟩) hHeld ?_
          rotate_left 1
          · (intro w hSw; (try dsimp only at hSw); have e0 := (HF.out _ hSw).1; have e1 := (HF.out _ hSw).2.1; have e2 := (HF.out _ hSw).2.2; go_simp; (try with_reducible rfl))
          try simp only [List.getElem_toArray, List.getElem_cons_zero, List.getElem_cons_succ, Act.put, List.setIfInBounds_toArray, List.set_cons_zero, List.set_cons_succ]
          refine wpAnyH_take (i := 12) (oi := _) (v := ?_) rfl (by kernel_rfl) (by kernel_rfl) (by kernel_rfl) (fun _ _ _ h => h) (Or.inl ⟨by rfl, ?_⟩) hHeld ?_
          rotate_left 1
          · (intro w hSw; (try dsimp only at hSw); have e0 := (HF.out _ hSw).1; have e1 := (HF.out _ hSw).2.1; have e2 := (HF.out _ hSw).2.2; go_simp; (try with_reducible rfl))
          try simp only [List.getElem_toArray, List.getElem_cons_zero, List.getElem_cons_succ, Act.put, List.setIfInBounds_toArray, List.set_cons_zero, List.set_cons_succ]
          refine wpAnyH_done (by kernel_rfl) ?_ _
          go_wp2_with fail
          go_ret
          exact ⟨rfl, below_steps HB1.out HB18.out⟩
        exact AllReadyH.nil
      exact AllReadyH.nil
    · go_wp2_with fail
      refine hK.out _ _ hw (fun hHeld => ?_)
      clear hK K hw
      try simp only [List.getElem_toArray, List.getElem_cons_zero, List.getElem_cons_succ, Act.put, List.setIfInBounds_toArray, List.set_cons_zero, List.set_cons_succ]
      refine wpAnyH_take (i := 4) (oi := _) (v := ?_) rfl (by kernel_rfl) (by kernel_rfl) (by kernel_rfl) (fun _ _ _ h => h) (Or.inl ⟨by rfl, ?_⟩) hHeld ?_
      rotate_left 1
      · (intro w hSw; (try dsimp only at hSw); have e0 := (HF.out _ hSw).1; have e1 := (HF.out _ hSw).2.1; have e2 := (HF.out _ hSw).2.2; go_simp; (try with_reducible rfl))
      try simp only [List.getElem_toArray, List.getElem_cons_zero, List.getElem_cons_succ, Act.put, List.setIfInBounds_toArray, List.set_cons_zero, List.set_cons_succ]
      refine wpAnyH_take (i := 5) (oi := _) (v := undef) rfl (by kernel_rfl) (by kernel_rfl) (by kernel_rfl) (fun _ _ _ h => h) (Or.inr ⟨by rfl, rfl⟩) hHeld ?_
      try simp only [List.getElem_toArray, List.getElem_cons_zero, List.getElem_cons_succ, Act.put, List.setIfInBounds_toArray, List.set_cons_zero, List.set_cons_succ]
      refine wpAnyH_take (i := 6) (oi := _) (v := undef) rfl (by kernel_rfl) (by kernel_rfl) (by kernel_rfl) (fun _ _ _ h => h) (Or.inr ⟨by rfl, rfl⟩) hHeld ?_
      try simp only [List.getElem_toArray, List.getElem_cons_zero, List.getElem_cons_succ, Act.put, List.setIfInBounds_toArray, List.set_cons_zero, List.set_cons_succ]
      refine wpAnyH_take (i := 7) (oi := _) (v := undef) rfl (by kernel_rfl) (by kernel_rfl) (by kernel_rfl) (fun _ _ _ h => h) (Or.inr ⟨by rfl, rfl⟩) hHeld ?_
      try simp only [List.getElem_toArray, List.getElem_cons_zero, List.getElem_cons_succ, Act.put, List.setIfInBounds_toArray, List.set_cons_zero, List.set_cons_succ]
      refine wpAnyH_take (i := 8) (oi := _) (v := undef) rfl (by kernel_rfl) (by kernel_rfl) (by kernel_rfl) (fun _ _ _ h => h) (Or.inr ⟨by rfl, rfl⟩) hHeld ?_
      try simp only [List.getElem_toArray, List.getElem_cons_zero, List.getElem_cons_succ, Act.put, List.setIfInBounds_toArray, List.set_cons_zero, List.set_cons_succ]
      refine wpAnyH_take (i := 9) (oi := _) (v := undef) rfl (by kernel_rfl) (by kernel_rfl) (by kernel_rfl) (fun _ _ _ h => h) (Or.inr ⟨by rfl, rfl⟩) hHeld ?_
      try simp only [List.getElem_toArray, List.getElem_cons_zero, List.getElem_cons_succ, Act.put, List.setIfInBounds_toArray, List.set_cons_zero, List.set_cons_succ]
      refine wpAnyH_take (i := 10) (oi := _) (v := ?_) rfl (by kernel_rfl) (by kernel_rfl) (by kernel_rfl) (fun _ _ _ h => h) (Or.inl ⟨by rfl, ?_⟩) hHeld ?_
      rotate_left 1
      · (intro w hSw; (try dsimp only at hSw); have e0 := (HF.out _ hSw).1; have e1 := (HF.out _ hSw).2.1; have e2 := (HF.out _ hSw).2.2; go_simp; (try with_reducible rfl))
      try simp only [List.getElem_toArray, List.getElem_cons_zero, List.getElem_cons_succ, Act.put, List.setIfInBounds_toArray, List.set_cons_zero, List.set_cons_succ]
      refine wpAnyH_take (i := 11) (oi := _) (v := ?_) rfl (by kernel_rfl) (by kernel_rfl) (by kernel_rfl) (fun _ _ _ h => h) (Or.inl ⟨by rfl, ?_⟩) hHeld ?_
      rotate_left 1
      · (intro w hSw; (try dsimp only at hSw); have e0 := (HF.out _ hSw).1; have e1 := (HF.out _ hSw).2.1; have e2 := (HF.out _ hSw).2.2; go_simp; (try with_reducible rfl))
      try simp only [List.getElem_toArray, List.getElem_cons_zero, List.getElem_cons_succ, Act.put, List.setIfInBounds_toArray, List.set_cons_zero, List.set_cons_succ]
      refine wpAnyH_take (i := 12) (oi := _) (v := ?_) rfl (by kernel_rfl) (by kernel_rfl) (by kernel_rfl) (fun _ _ _ h => h) (Or.inl ⟨by rfl, ?_⟩) hHeld ?_
      rotate_left 1
      · (intro w hSw; (try dsimp only at hSw); have e0 := (HF.out _ hSw).1; have e1 := (HF.out _ hSw).2.1; have e2 := (HF.out _ hSw).2.2; go_simp; (try with_reducible rfl))
      try simp only [List.getElem_toArray, List.getElem_cons_zero, List.getElem_cons_succ, Act.put, List.setIfInBounds_toArray, List.set_cons_zero, List.set_cons_succ]
      refine wpAnyH_done (by kernel_rfl) ?_ _
      go_wp2_with fail
      go_ret
      exact ⟨rfl, below_steps HB1.out HB13.out⟩
  exact AllReadyH.nil
end Go.Proofs.Ytnemacejaiifnaa
