/- The walks of InputsTurned: whatever kind, whatever text that can be read: true, and what lay lies as it lay. -/
import Derived.Test.YtiknfakelognpaaDoorBegin
import Derived.Test.YtiknfakelognpaaDoorPlace
import Derived.Test.YtiknfakelognpaaDoorRefTurned
namespace Go.Proofs.YtiknfakelognpaaDoor
open Go Go.RowKit

theorem bytes_turnT (R : List Int) (h : ∀ r ∈ R, IsRune r) : bytesOf (turnT R) 0 (R.length : Int) = turnT R := by
  unfold bytesOf
  rw [offs_turnT R h]
  have hl : (placesR 0 R.reverse ++ [((turnT R).size : Int)]).length = R.length + 1 := by simp [length_placesR]
  rw [if_pos ⟨by omega, by omega, by rw [hl]; omega⟩]
  have h1 : (placesR 0 R.reverse ++ [((turnT R).size : Int)]).getD ((R.length : Int).toNat) 0 = ((turnT R).size : Int) := by
    have e : ((R.length : Int).toNat) = (placesR 0 R.reverse).length := by simp [length_placesR]
    rw [e]
    simp
  have h2 : (placesR 0 R.reverse ++ [((turnT R).size : Int)]).getD ((0 : Int).toNat) 0 = 0 := by
    rcases hR : R.reverse with _ | ⟨x, X⟩
    · have : (turnT R).size = 0 := by
        show (encR R.reverse).length = 0
        rw [hR]
        rfl
      simp [placesR, this]
    · simp [placesR]
  rw [h1, h2]
  apply ByteArray.ext
  simp [ByteArray.data_extract]
theorem RefIn.txt {w : World} {B : Nat} {k : Int} {s : ByteArray} {d : Nat} (h : RefIn w B k s d) : ∃ ga gc, w.cell? ⟨d, 1, none⟩ = some (.slice ga s.size gc) ∧ Txt w ga gc s := by
  obtain ⟨h0, _, ga, gc, a, c, a', c', h1, hb, _, h3, hcap⟩ := h
  have e1 := h1.cell 1
  simp at e1
  refine ⟨ga, gc, e1, hcap.1, hcap.2.1, hcap.2.2, ?_⟩
  by_cases hz : s.size = 0
  · exact .inl hz
  · obtain ⟨q, hq, _⟩ := hb 0 (by rw [length_nums]; omega)
    refine .inr ⟨q, 0, hq, fun m hm => ?_⟩
    obtain ⟨q', e, _, hc⟩ := hb m (by rw [length_nums]; exact hm)
    rw [hq] at e
    injection e with e
    injection e with e
    subst e
    rw [Nat.zero_add, hc]
    have := nums_at s m hm
    rw [List.getElem?_eq_getElem (by rw [length_nums]; exact hm)] at this
    rw [Option.some.inj this]

set_option maxHeartbeats 400000 in
set_option maxRecDepth 100000 in
theorem turnedl_none (k : Int) (A : Option Addr) (n c : Nat) (w : World) (h : ∀ W, Below w.heap.size w W → Calls Tryd.prog 9 #[.int .i64 k, .slice A n c] W (BothNone W)) :
    Calls Tryd.prog 7 #[.int .i64 k, .slice A n c] w (HeadPost w) := by
  have H := Lib.hid h; clear h
  go_enter Tryd.func7, Tryd.ntmps7
  go_wp2_with fail
  refine (head_any w).mono ?_
  rintro e w1 ⟨rfl, hB⟩
  have HB := Lib.hid hB; clear hB
  go_wp2_with fail
  refine (H.out w1 HB.out).mono ?_
  rintro e w2 ⟨rfl, hB2⟩
  have HB2 := Lib.hid (HB.out.trans (hB2.mono HB.out.size)); clear hB2
  go_wp2
  go_ret
  exact ⟨rfl, HB2.out⟩

set_option maxHeartbeats 2000000 in
set_option maxRecDepth 100000 in
theorem turnedl_ok (k : Int) (A : Option Addr) (c : Nat) (s : ByteArray) (w : World) (hs : (s.size : Int) ≤ 65536)
    (h : ∀ W, Below w.heap.size w W → Calls Tryd.prog 9 #[.int .i64 k, .slice A s.size c] W (BothPost k s W)) :
    Calls Tryd.prog 7 #[.int .i64 k, .slice A s.size c] w (HeadPost w) := by
  have H := Lib.hid h; clear h
  go_enter Tryd.func7, Tryd.ntmps7
  go_wp2_with fail
  refine (head_any w).mono ?_
  rintro e w1 ⟨rfl, hB⟩
  have HB := Lib.hid hB; clear hB
  go_wp2_with fail
  refine (H.out w1 HB.out).mono ?_
  rintro e w2 ⟨b, d, rfl, hI, hD, hB2⟩
  have HB2 := Lib.hid (HB.out.trans (hB2.mono HB.out.size)); have HI := Lib.hid hI; have HD := Lib.hid hD; clear hI hD hB2
  have hl : (runesOf s).length ≤ s.size := length_runesOf s
  have hval : ∀ r ∈ runesOf s, IsRune r := runesFrom_isRune s _ _
  have hTl := turnT_le (runesOf s)
  have hTr := runes_turnT (runesOf s) hval
  have hTb := bytes_turnT (runesOf s) hval
  have hval2 : ∀ r ∈ (runesOf s).reverse, IsRune r := fun r hr => hval r (List.mem_reverse.1 hr)
  have hT2 := runes_turnT (runesOf s).reverse hval2
  rw [List.reverse_reverse] at hT2
  have ct := turned_any HI.out (by omega) (by omega)
  have cr := fun W (hW : Below w2.heap.size w2 W) => rturned_any (HD.out.below hW) (by omega)
  obtain ⟨n, hn⟩ : ∃ n : Nat, n = (runesOf s).length := ⟨_, rfl⟩
  have hTn : (runesOf (turnT (runesOf s))).length = n := by rw [hTr, List.length_reverse, hn]
  obtain ⟨T, hT⟩ : ∃ T, T = turnT (runesOf s) := ⟨_, rfl⟩
  rw [← hn] at hl hTl hTb
  rw [← hT] at hTl hTr hTb ct cr hTn
  have CT := Lib.hid ct; have CR := Lib.hid cr; have HTR := Lib.hid hTr; have HTB := Lib.hid hTb; have HT2 := Lib.hid hT2; have HN := Lib.hid hn; have HTN := Lib.hid hTn
  clear ct cr hTr hTb hT2 hn hval hval2 hT hTn
  go_wp2_with fail
  refine CT.out.mono ?_
  rintro e w3 ⟨a, rfl, hA, hB3⟩
  have HB3 := Lib.hid hB3; have HA := Lib.hid hA; clear hB3 hA
  go_wp2_with fail
  refine (CR.out w3 HB3.out).mono ?_
  rintro e w4 ⟨d1, rfl, hE, hB4⟩
  have HE := Lib.hid hE; have HA4 := Lib.hid (HA.out.below hB4); have HB4 := Lib.hid (HB3.out.trans (hB4.mono HB3.out.size)); clear hE hB4
  obtain ⟨ga, gc, g1, g2⟩ := HE.out.txt
  have g3 := World.block_lt_of_cell? w4 _ g1
  have HG2 := Lib.hid g2
  have cl := len_any (HA4.out.below (Below.refl _ w4).drew)
  have cm := rlen_any (HE.out.below (Below.refl _ w4).drew)
  rw [HTN.out] at cl cm
  have HL := Lib.hid cl; have HM := Lib.hid cm; have HK := Lib.hid (kind_any (HA4.out.below (Below.refl _ w4).drew))
  clear cl cm g2
  go_upto_region 7 with (fail)
  go_cut [72] (fun s72 wx => s72 = .bool false ∧ Below w4.heap.size w4 wx)
  case first =>
    refine wp_region_held_drew (S := fun w' => w'.cell? ⟨d1, 1, none⟩ = some (.slice ga T.size gc) ∧ Txt w' ga gc T) (by kernel_rfl) ⟨g1, HG2.out.below (Below.refl _ w4).drew⟩ (fun hHeld => ?_)
    refine wpAnyH_take (i := 0) (oi := _) (v := ?_) rfl (by kernel_rfl) (by kernel_rfl) (by kernel_rfl) (fun _ _ _ h => h) (Or.inl ⟨by rfl, ?_⟩) (by assumption) ?_
    rotate_left 1
    · (intro w hSw; (try dsimp only at hSw); go_simp; (try with_reducible rfl))
    try simp only [List.getElem_toArray, List.getElem_cons_zero, List.getElem_cons_succ, Act.put, List.setIfInBounds_toArray, List.set_cons_zero, List.set_cons_succ]
    refine wpAnyH_take (i := 1) (oi := _) (v := ?_) rfl (by kernel_rfl) (by kernel_rfl) (by kernel_rfl) (fun _ _ _ h => h) (Or.inl ⟨by rfl, ?_⟩) (by assumption) ?_
    rotate_left 1
    · (intro w hSw; (try dsimp only at hSw); go_simp; (try with_reducible rfl))
    try simp only [List.getElem_toArray, List.getElem_cons_zero, List.getElem_cons_succ, Act.put, List.setIfInBounds_toArray, List.set_cons_zero, List.set_cons_succ]
    refine wpAnyH_take (i := 2) (oi := _) (v := ?_) rfl (by kernel_rfl) (by kernel_rfl) (by kernel_rfl) (fun _ _ _ h => h) (Or.inl ⟨by rfl, ?_⟩) (by assumption) ?_
    rotate_left 1
    · (intro w hSw; (try dsimp only at hSw); go_simp; (try with_reducible rfl))
    try simp only [List.getElem_toArray, List.getElem_cons_zero, List.getElem_cons_succ, Act.put, List.setIfInBounds_toArray, List.set_cons_zero, List.set_cons_succ]
    refine wpAnyH_take (i := 3) (oi := _) (v := ?_) rfl (by kernel_rfl) (by kernel_rfl) (by kernel_rfl) (fun _ _ _ h => h) (Or.inl ⟨by rfl, ?_⟩) (by assumption) ?_
    rotate_left 1
    · (intro w hSw; (try dsimp only at hSw); go_simp; (try with_reducible rfl))
    try simp only [List.getElem_toArray, List.getElem_cons_zero, List.getElem_cons_succ, Act.put, List.setIfInBounds_toArray, List.set_cons_zero, List.set_cons_succ]
    refine wpAnyH_take (i := 5) (oi := _) (v := ?_) rfl (by kernel_rfl) (by kernel_rfl) (by kernel_rfl) (fun _ _ _ h => h) (Or.inl ⟨by rfl, ?_⟩) (by assumption) ?_
    rotate_left 1
    · (intro w hSw; (try dsimp only at hSw); go_simp; (try with_reducible rfl))
    try simp only [List.getElem_toArray, List.getElem_cons_zero, List.getElem_cons_succ, Act.put, List.setIfInBounds_toArray, List.set_cons_zero, List.set_cons_succ]
    refine wpAnyH_ready (rs := [4]) (by kernel_rfl) (by simp) ?_
    refine AllReadyH.cons (o := _) rfl (fun K hK => ?_) ?_
    · go_simp
      refine HK.out.mono ?_
      rintro e w' ⟨rfl, rfl⟩
      go_wp2_with fail
      refine hK.out _ _ ⟨g1, HG2.out.below (Below.refl _ w4).drew⟩ (fun hHeld => ?_)
      clear hK K
      try simp only [List.getElem_toArray, List.getElem_cons_zero, List.getElem_cons_succ, Act.put, List.setIfInBounds_toArray, List.set_cons_zero, List.set_cons_succ]
      refine wpAnyH_take (i := 6) (oi := _) (v := ?_) rfl (by kernel_rfl) (by kernel_rfl) (by kernel_rfl) (fun _ _ _ h => h) (Or.inl ⟨by rfl, ?_⟩) (by assumption) ?_
      rotate_left 1
      · (intro w hSw; (try dsimp only at hSw); go_simp; (try with_reducible rfl))
      try simp only [List.getElem_toArray, List.getElem_cons_zero, List.getElem_cons_succ, Act.put, List.setIfInBounds_toArray, List.set_cons_zero, List.set_cons_succ]
      refine wpAnyH_take (i := 7) (oi := _) (v := ?_) rfl (by kernel_rfl) (by kernel_rfl) (by kernel_rfl) (fun _ _ _ h => h) (Or.inl ⟨by rfl, ?_⟩) (by assumption) ?_
      rotate_left 1
      · (intro w hSw; (try dsimp only at hSw); go_simp; (try with_reducible rfl))
      try simp only [List.getElem_toArray, List.getElem_cons_zero, List.getElem_cons_succ, Act.put, List.setIfInBounds_toArray, List.set_cons_zero, List.set_cons_succ]
      refine wpAnyH_take (i := 8) (oi := _) (v := ?_) rfl (by kernel_rfl) (by kernel_rfl) (by kernel_rfl) (fun _ _ _ h => h) (Or.inl ⟨by rfl, ?_⟩) (by assumption) ?_
      rotate_left 1
      · (intro w hSw; (try dsimp only at hSw); go_simp; (try with_reducible rfl))
      try simp only [List.getElem_toArray, List.getElem_cons_zero, List.getElem_cons_succ, Act.put, List.setIfInBounds_toArray, List.set_cons_zero, List.set_cons_succ]
      refine wpAnyH_take (i := 9) (oi := _) (v := ?_) rfl (by kernel_rfl) (by kernel_rfl) (by kernel_rfl) (fun _ _ _ h => h) (Or.inl ⟨by rfl, ?_⟩) (by assumption) ?_
      rotate_left 1
      · (intro w hSw; (try dsimp only at hSw); go_simp; (try with_reducible rfl))
      try simp only [List.getElem_toArray, List.getElem_cons_zero, List.getElem_cons_succ, Act.put, List.setIfInBounds_toArray, List.set_cons_zero, List.set_cons_succ]
      refine wpAnyH_take (i := 10) (oi := _) (v := ?_) rfl (by kernel_rfl) (by kernel_rfl) (by kernel_rfl) (fun _ _ _ h => h) (Or.inl ⟨by rfl, ?_⟩) (by assumption) ?_
      rotate_left 1
      · (intro w hSw; (try dsimp only at hSw); go_simp; (try with_reducible rfl))
      try simp only [List.getElem_toArray, List.getElem_cons_zero, List.getElem_cons_succ, Act.put, List.setIfInBounds_toArray, List.set_cons_zero, List.set_cons_succ]
      refine wpAnyH_take (i := 11) (oi := _) (v := ?_) rfl (by kernel_rfl) (by kernel_rfl) (by kernel_rfl) (fun _ _ _ h => h) (Or.inl ⟨by rfl, ?_⟩) (by assumption) ?_
      rotate_left 1
      · (intro w hSw; (try dsimp only at hSw); go_simp; (try with_reducible rfl))
      try simp only [List.getElem_toArray, List.getElem_cons_zero, List.getElem_cons_succ, Act.put, List.setIfInBounds_toArray, List.set_cons_zero, List.set_cons_succ]
      refine wpAnyH_take (i := 13) (oi := _) (v := ?_) rfl (by kernel_rfl) (by kernel_rfl) (by kernel_rfl) (fun _ _ _ h => h) (Or.inl ⟨by rfl, ?_⟩) (by assumption) ?_
      rotate_left 1
      · (intro w hSw; (try dsimp only at hSw); go_simp; (try with_reducible rfl))
      try simp only [List.getElem_toArray, List.getElem_cons_zero, List.getElem_cons_succ, Act.put, List.setIfInBounds_toArray, List.set_cons_zero, List.set_cons_succ]
      refine wpAnyH_ready (rs := [12]) (by kernel_rfl) (by simp) ?_
      refine AllReadyH.cons (o := _) rfl (fun K hK => ?_) ?_
      · go_simp
        refine HL.out.mono ?_
        rintro e w' ⟨rfl, rfl⟩
        go_wp2_with fail
        refine hK.out _ _ ⟨g1, HG2.out.below (Below.refl _ w4).drew⟩ (fun hHeld => ?_)
        clear hK K
        try simp only [List.getElem_toArray, List.getElem_cons_zero, List.getElem_cons_succ, Act.put, List.setIfInBounds_toArray, List.set_cons_zero, List.set_cons_succ]
        refine wpAnyH_ready (rs := [14]) (by kernel_rfl) (by simp) ?_
        refine AllReadyH.cons (o := _) rfl (fun K hK => ?_) ?_
        · go_simp
          refine HM.out.mono ?_
          rintro e w' ⟨rfl, rfl⟩
          go_wp2_with fail
          refine hK.out _ _ ⟨g1, HG2.out.below (Below.refl _ w4).drew⟩ (fun hHeld => ?_)
          clear hK K
          try simp only [List.getElem_toArray, List.getElem_cons_zero, List.getElem_cons_succ, Act.put, List.setIfInBounds_toArray, List.set_cons_zero, List.set_cons_succ]
          refine wpAnyH_take (i := 15) (oi := _) (v := ?_) rfl (by kernel_rfl) (by kernel_rfl) (by kernel_rfl) (fun _ _ _ h => h) (Or.inl ⟨by rfl, ?_⟩) (by assumption) ?_
          rotate_left 1
          · (intro w hSw; (try dsimp only at hSw); go_simp; (try with_reducible rfl))
          try simp only [List.getElem_toArray, List.getElem_cons_zero, List.getElem_cons_succ, Act.put, List.setIfInBounds_toArray, List.set_cons_zero, List.set_cons_succ]
          refine wpAnyH_take (i := 16) (oi := _) (v := ?_) rfl (by kernel_rfl) (by kernel_rfl) (by kernel_rfl) (fun _ _ _ h => h) (Or.inl ⟨by rfl, ?_⟩) (by assumption) ?_
          rotate_left 1
          · (intro w hSw; (try dsimp only at hSw); go_simp; (try with_reducible rfl))
          try simp only [List.getElem_toArray, List.getElem_cons_zero, List.getElem_cons_succ, Act.put, List.setIfInBounds_toArray, List.set_cons_zero, List.set_cons_succ]
          refine wpAnyH_take (i := 17) (oi := _) (v := ?_) rfl (by kernel_rfl) (by kernel_rfl) (by kernel_rfl) (fun _ _ _ h => h) (Or.inl ⟨by rfl, ?_⟩) (by assumption) ?_
          rotate_left 1
          · (intro w hSw; (try dsimp only at hSw); go_simp; (try with_reducible rfl))
          try simp only [List.getElem_toArray, List.getElem_cons_zero, List.getElem_cons_succ, Act.put, List.setIfInBounds_toArray, List.set_cons_zero, List.set_cons_succ]
          refine wpAnyH_take (i := 18) (oi := _) (v := ?_) rfl (by kernel_rfl) (by kernel_rfl) (by kernel_rfl) (fun _ _ _ h => h) (Or.inl ⟨by rfl, ?_⟩) (by assumption) ?_
          rotate_left 1
          · (intro w hSw; (try dsimp only at hSw); go_simp; (try with_reducible rfl))
          try simp only [List.getElem_toArray, List.getElem_cons_zero, List.getElem_cons_succ, Act.put, List.setIfInBounds_toArray, List.set_cons_zero, List.set_cons_succ]
          refine wpAnyH_take (i := 19) (oi := _) (v := ?_) rfl (by kernel_rfl) (by kernel_rfl) (by kernel_rfl) (fun _ _ _ h => h) (Or.inl ⟨by rfl, ?_⟩) (by assumption) ?_
          rotate_left 1
          · (intro w hSw; (try dsimp only at hSw); go_simp; (try with_reducible rfl))
          try simp only [List.getElem_toArray, List.getElem_cons_zero, List.getElem_cons_succ, Act.put, List.setIfInBounds_toArray, List.set_cons_zero, List.set_cons_succ]
          refine wpAnyH_take (i := 20) (oi := _) (v := ?_) rfl (by kernel_rfl) (by kernel_rfl) (by kernel_rfl) (fun _ _ _ h => h) (Or.inl ⟨by rfl, ?_⟩) (by assumption) ?_
          rotate_left 1
          · (intro w hSw; (try dsimp only at hSw); go_simp; (try with_reducible rfl))
          try simp only [List.getElem_toArray, List.getElem_cons_zero, List.getElem_cons_succ, Act.put, List.setIfInBounds_toArray, List.set_cons_zero, List.set_cons_succ]
          refine wpAnyH_take (i := 21) (oi := _) (v := ?_) rfl (by kernel_rfl) (by kernel_rfl) (by kernel_rfl) (fun _ _ _ h => h) (Or.inl ⟨by rfl, ?_⟩) (by assumption) ?_
          rotate_left 1
          · (intro w hSw; (try dsimp only at hSw); go_simp; (try with_reducible rfl))
          try simp only [List.getElem_toArray, List.getElem_cons_zero, List.getElem_cons_succ, Act.put, List.setIfInBounds_toArray, List.set_cons_zero, List.set_cons_succ]
          refine wpAnyH_take (i := 22) (oi := _) (v := ?_) rfl (by kernel_rfl) (by kernel_rfl) (by kernel_rfl) (fun _ _ _ h => h) (Or.inl ⟨by rfl, ?_⟩) (by assumption) ?_
          rotate_left 1
          · (intro w hSw; (try dsimp only at hSw); go_simp; (try with_reducible rfl))
          try simp only [List.getElem_toArray, List.getElem_cons_zero, List.getElem_cons_succ, Act.put, List.setIfInBounds_toArray, List.set_cons_zero, List.set_cons_succ]
          refine wpAnyH_take (i := 23) (oi := _) (v := ?_) rfl (by kernel_rfl) (by kernel_rfl) (by kernel_rfl) (fun _ _ _ h => h) (Or.inl ⟨by rfl, ?_⟩) (by assumption) ?_
          rotate_left 1
          · (intro w hSw; (try dsimp only at hSw); go_simp; (try with_reducible rfl))
          try simp only [List.getElem_toArray, List.getElem_cons_zero, List.getElem_cons_succ, Act.put, List.setIfInBounds_toArray, List.set_cons_zero, List.set_cons_succ]
          refine wpAnyH_take (i := 27) (oi := _) (v := ?_) rfl (by kernel_rfl) (by kernel_rfl) (by kernel_rfl) (fun _ _ _ h => h) (Or.inl ⟨by rfl, ?_⟩) (by assumption) ?_
          rotate_left 1
          · (intro w hSw; (try dsimp only at hSw); go_simp; (try with_reducible rfl))
          try simp only [List.getElem_toArray, List.getElem_cons_zero, List.getElem_cons_succ, Act.put, List.setIfInBounds_toArray, List.set_cons_zero, List.set_cons_succ]
          refine wpAnyH_take (i := 28) (oi := _) (v := ?_) rfl (by kernel_rfl) (by kernel_rfl) (by kernel_rfl) (fun _ _ _ h => h) (Or.inl ⟨by rfl, ?_⟩) (by assumption) ?_
          rotate_left 1
          · (intro w hSw; (try dsimp only at hSw); go_simp; (try with_reducible rfl))
          try simp only [List.getElem_toArray, List.getElem_cons_zero, List.getElem_cons_succ, Act.put, List.setIfInBounds_toArray, List.set_cons_zero, List.set_cons_succ]
          refine wpAnyH_take (i := 29) (oi := _) (v := ?_) rfl (by kernel_rfl) (by kernel_rfl) (by kernel_rfl) (fun _ _ _ h => h) (Or.inl ⟨by rfl, ?_⟩) (by assumption) ?_
          rotate_left 1
          · (intro w hSw; (try dsimp only at hSw); go_simp; (try with_reducible rfl))
          try simp only [List.getElem_toArray, List.getElem_cons_zero, List.getElem_cons_succ, Act.put, List.setIfInBounds_toArray, List.set_cons_zero, List.set_cons_succ]
          refine wpAnyH_take (i := 30) (oi := _) (v := ?_) rfl (by kernel_rfl) (by kernel_rfl) (by kernel_rfl) (fun _ _ _ h => h) (Or.inl ⟨by rfl, ?_⟩) (by assumption) ?_
          rotate_left 1
          (intro w hSw; (try dsimp only at hSw); obtain ⟨hS1, hS2⟩ := hSw; have hS3 := hS2.conv; clear hS2; go_simp; (try with_reducible rfl))
          try simp only [List.getElem_toArray, List.getElem_cons_zero, List.getElem_cons_succ, Act.put, List.setIfInBounds_toArray, List.set_cons_zero, List.set_cons_succ]
          refine wpAnyH_take (i := 31) (oi := _) (v := ?_) rfl (by kernel_rfl) (by kernel_rfl) (by kernel_rfl) (fun _ _ _ h => h) (Or.inl ⟨by rfl, ?_⟩) (by assumption) ?_
          rotate_left 1
          (intro w hSw; (try dsimp only at hSw); obtain ⟨hS1, hS2⟩ := hSw; have hS3 := hS2.conv; clear hS2; go_simp; (try with_reducible rfl))
          try simp only [List.getElem_toArray, List.getElem_cons_zero, List.getElem_cons_succ, Act.put, List.setIfInBounds_toArray, List.set_cons_zero, List.set_cons_succ]
          refine wpAnyH_ready (rs := [24]) (by kernel_rfl) (by simp) ?_
          refine AllReadyH.cons (o := _) rfl (fun K hK => ?_) ?_
          · go_simp
            refine HL.out.mono ?_
            rintro e w' ⟨rfl, rfl⟩
            go_wp2_with fail
            refine hK.out _ _ ⟨g1, HG2.out.below (Below.refl _ w4).drew⟩ (fun hHeld => ?_)
            clear hK K
            try simp only [List.getElem_toArray, List.getElem_cons_zero, List.getElem_cons_succ, Act.put, List.setIfInBounds_toArray, List.set_cons_zero, List.set_cons_succ]
            refine wpAnyH_ready (rs := [25]) (by kernel_rfl) (by simp) ?_
            refine AllReadyH.cons (o := _) rfl (fun K hK => ?_) ?_
            · go_simp
              refine (bytes_any (HA4.out.below (Below.refl _ w4).drew) 0 (n : Int)).mono ?_
              rw [HTB.out]
              rintro e w5 ⟨aa, ca, rfl, hTx, _, hB5⟩
              have hcx := hTx.conv
              have y1 := (hB5.cell (p := ⟨d1, 1, none⟩) g3).trans g1
              have y2 := (HG2.out.below (Below.refl _ w4).drew).below hB5
              have HB5 := Lib.hid hB5
              clear hTx hB5
              go_wp2_with fail
              refine hK.out _ _ ⟨y1, y2⟩ (fun hHeld => ?_)
              clear hK K
              try simp only [List.getElem_toArray, List.getElem_cons_zero, List.getElem_cons_succ, Act.put, List.setIfInBounds_toArray, List.set_cons_zero, List.set_cons_succ]
              refine wpAnyH_ready (rs := [26]) (by kernel_rfl) (by simp) ?_
              refine AllReadyH.cons (o := _) rfl (fun K hK => ?_) ?_
              · go_simp
                refine hK.out _ _ ⟨y1, y2⟩ (fun hHeld => ?_)
                clear hK K
                try simp only [List.getElem_toArray, List.getElem_cons_zero, List.getElem_cons_succ, Act.put, List.setIfInBounds_toArray, List.set_cons_zero, List.set_cons_succ]
                refine wpAnyH_take (i := 32) (oi := _) (v := ?_) rfl (by kernel_rfl) (by kernel_rfl) (by kernel_rfl) (fun _ _ _ h => h) (Or.inl ⟨by rfl, ?_⟩) (by assumption) ?_
                rotate_left 1
                · (intro w hSw; (try dsimp only at hSw); go_simp; (try with_reducible rfl))
                try simp only [List.getElem_toArray, List.getElem_cons_zero, List.getElem_cons_succ, Act.put, List.setIfInBounds_toArray, List.set_cons_zero, List.set_cons_succ]
                refine wpAnyH_take (i := 33) (oi := _) (v := ?_) rfl (by kernel_rfl) (by kernel_rfl) (by kernel_rfl) (fun _ _ _ h => h) (Or.inl ⟨by rfl, ?_⟩) (by assumption) ?_
                rotate_left 1
                · (intro w hSw; (try dsimp only at hSw); go_simp; (try with_reducible rfl))
                try simp only [List.getElem_toArray, List.getElem_cons_zero, List.getElem_cons_succ, Act.put, List.setIfInBounds_toArray, List.set_cons_zero, List.set_cons_succ]
                refine wpAnyH_done (by kernel_rfl) ?_ _
                go_wp2_with fail
                go_meet
                exact ⟨rfl, (Below.refl _ w4).drew.trans HB5.out⟩
              exact AllReadyH.nil
            exact AllReadyH.nil
          exact AllReadyH.nil
        exact AllReadyH.nil
      exact AllReadyH.nil
    exact AllReadyH.nil
  case rest =>
    obtain ⟨rfl, hBc⟩ := hcut
    have HBc := Lib.hid hBc
    have ct := turned_any (HA4.out.below HBc.out) (by rw [HTN.out]; omega) (by omega)
    rw [HTR.out] at ct
    have CT2 := Lib.hid ct
    clear ct hBc g1 g3 HL HM HK
    go_wp2_with fail
    refine CT2.out.mono ?_
    rintro e w5 ⟨a2, rfl, hA2, hB5⟩
    have HA5 := Lib.hid hA2; have HB5 := Lib.hid (HBc.out.trans (hB5.mono HBc.out.size)); clear hA2 hB5
    have cl2 := len_any HA5.out
    rw [HT2.out, ← HN.out] at cl2
    have cm := rlen_any (HE.out.below HB5.out)
    rw [HTN.out] at cm
    have cd := rlen_any (HD.out.below (HB4.out.trans (HB5.out.mono HB4.out.size)))
    rw [← HN.out] at cd
    have HL2 := Lib.hid cl2; have HM := Lib.hid cm; have HLD := Lib.hid cd
    clear cl2 cm cd
    go_wp2_with (first
      | (go_at_call 11; refine HL2.out.mono ?_; rintro e w' ⟨rfl, rfl⟩)
      | (go_at_call 12; refine HLD.out.mono ?_; rintro e w' ⟨rfl, rfl⟩))
    go_loop [12] (fun i => ∃ m : Nat, m ≤ n + 3 ∧ i = .int .i64 ((m : Int) - 1)) (fun i => n + 3 - (intOf i + 1).toNat)
    case atStart => exact ⟨0, by omega, rfl⟩
    case round =>
      obtain ⟨m, hm, rfl⟩ := hrel
      by_cases hlt : m ≤ n + 2
      · obtain ⟨x, hx⟩ : ∃ x, x = runeAt (runesOf T) ((m : Int) - 1) := ⟨_, rfl⟩
        obtain ⟨y, hy⟩ : ∃ y, y = offAt (offsOf T) ((m : Int) - 1) := ⟨_, rfl⟩
        obtain ⟨z, hz⟩ : ∃ z, z = atOf (runesOf T) ((m : Int) - 1) := ⟨_, rfl⟩
        obtain ⟨u, hu⟩ : ∃ u, u = runeAt (runesOf s) ((m : Int) - 1) := ⟨_, rfl⟩
        have hP := HA4.out.below HB5.out
        have hQ := HE.out.below HB5.out
        have hV := HD.out.below (HB4.out.trans (HB5.out.mono HB4.out.size))
        have xa := rune_any hP ((m : Int) - 1)
        have xb := rrune_any hQ ((m : Int) - 1)
        have ya := off_any hP ((m : Int) - 1)
        have yb := roff_any hQ ((m : Int) - 1)
        have za := at_any hP ((m : Int) - 1)
        have zb := rat_any hQ ((m : Int) - 1)
        have ua := rune_any HA5.out ((m : Int) - 1)
        have ub := rrune_any hV ((m : Int) - 1)
        rw [HT2.out] at ua
        rw [← hx] at xa xb
        rw [← hy] at ya yb
        rw [← hz] at za zb
        rw [← hu] at ua ub
        have Xa := Lib.hid xa; have Xb := Lib.hid xb; have Ya := Lib.hid ya; have Yb := Lib.hid yb; have Za := Lib.hid za; have Zb := Lib.hid zb; have Ua := Lib.hid ua; have Ub := Lib.hid ub
        clear hx hy hz hu hP hQ hV xa xb ya yb za zb ua ub
        go_wp2_with fail
        refine HM.out.mono ?_
        rintro e w' ⟨rfl, rfl⟩
        go_wp2_with fail
        refine Xa.out.mono ?_
        rintro e w' ⟨rfl, rfl⟩
        go_wp2_with fail
        refine Xb.out.mono ?_
        rintro e w' ⟨rfl, rfl⟩
        go_wp2_with fail
        refine Ya.out.mono ?_
        rintro e w' ⟨rfl, rfl⟩
        go_wp2_with fail
        refine Yb.out.mono ?_
        rintro e w' ⟨rfl, rfl⟩
        go_wp2_with fail
        refine Za.out.mono ?_
        rintro e w' ⟨rfl, rfl⟩
        go_wp2_with fail
        refine Zb.out.mono ?_
        rintro e w' ⟨rfl, rfl⟩
        go_wp2_with fail
        refine Ua.out.mono ?_
        rintro e w' ⟨rfl, rfl⟩
        go_wp2_with fail
        refine Ub.out.mono ?_
        rintro e w' ⟨rfl, rfl⟩
        go_wp2_with fail
        go_round
        case rel => exact ⟨m + 1, by omega, by go_num⟩
        case measure => simp [intOf]; omega
      · go_wp2_with (first
          | (go_at_call 12; refine HM.out.mono ?_; rintro e w' ⟨rfl, rfl⟩))
        go_ret
        exact ⟨rfl, HB2.out.trans ((HB4.out.trans (HB5.out.mono HB4.out.size)).mono HB2.out.size)⟩

theorem turnedl_any (k : Int) (A : Option Addr) (n c : Nat) (zs : List Int) (w : World) (h : IsRow .u8 w A n c zs) (hr : n ≤ 140737488355328) (hT : Lib.Utf8Tabs 0 1 w) :
    Calls Tryd.prog 7 #[.int .i64 k, .slice A n c] w (HeadPost w) := by
  rcases both_any k A n c zs w h hr hT with h | ⟨s, rfl, hs, _, h⟩
  · exact turnedl_none k A n c w h
  · exact turnedl_ok k A c s w hs h
end Go.Proofs.YtiknfakelognpaaDoor
