/- The walks of InputsWhole: whatever kind, whatever text that can be read: true, and what lay lies as it lay. -/
import Derived.Test.YticghidkbpkefaaDoorWholeP
import Derived.Test.YticghidkbpkefaaDoorValid
import Derived.Test.YticghidkbpkefaaDoorAppendAt
import Derived.Test.YticghidkbpkefaaDoorBegin
import Derived.Test.YticghidkbpkefaaDoorTurned
import Derived.Deep.QuietTactic
import Derived.BigQuiet
namespace Go.Proofs.YticghidkbpkefaaDoor
open Go Go.RowKit

theorem valid_any {w : World} {A : Option Addr} {c : Nat} {s : ByteArray} (h : Txt w A c s) (hs : s.size ≤ 2147483648) (hT : Lib.Utf8Tabs 0 1 w) :
    Calls Tryd.prog 25 #[.slice A s.size c] w fun e w' => e = .returned (.bool (Lib.validD s.data.toList)) ∧ Below w.heap.size w w' := by
  obtain ⟨h1, h2, h3, h4⟩ := h
  by_cases h0 : s.size = 0
  · have ht0 : s.data.toList = [] := List.eq_nil_of_length_eq_zero (by rw [← Lib.size_eq]; omega)
    rw [ht0, Lib.validD_nil, h0]
    exact valid_empty A c w
  · rcases h4 with h4 | ⟨b, off, rfl, hb⟩
    · exact absurd h4 h0
    · exact valid_some b off c s w hs h1 hb hT

/-- Two rows share no block. -/
def Apart (v u : Value) : Prop := ∀ g, v.ownBlock = some g → u.ownBlock ≠ some g
theorem Apart.symm {v u : Value} (h : Apart v u) : Apart u v := fun g h1 h2 => h g h2 h1
theorem Apart.kept {w w' : World} {base : Nat} {e : TypeId} {v u : Value} {n : Nat} {xs : List Value} (ha : Apart v u) (h : w.ownsRow base e 1 v n xs) (hg : w.grownBy w' u.ownBlock) : w'.ownsRow base e 1 v n xs := by
  refine h.kept hg ?_
  rcases hb : v.ownBlock with _ | g
  · exact .inl rfl
  · exact .inr fun e => ha g hb e.symm
theorem Apart.spot {w : World} {base : Nat} {e : TypeId} {v v' u : Value} {n : Nat} {xs : List Value} (ha : Apart v u) (h : w.ownsRow base e 1 u n xs) (hs : Spot w v v') : Apart v' u := fun g hg he => by
  rcases hs with hs | ⟨g', h1, h2⟩
  · exact ha g (hs ▸ hg) he
  · have := (h.lt g he).2
    rw [h1] at hg
    injection hg
    omega

theorem nums_cells (s : ByteArray) : (nums s).map (Value.int .u8) = Lib.byteCells s.data.toList := by
  simp [nums, Lib.byteCells]

/-- An append of a text onto a row of the call's own, with the place of what comes back. -/
theorem append_txt_at {w : World} {ops : Array Oper} {rest : List Oper} {o : Oper} {a : Act} {Q : Exit → Act → World → Prop} (hgd : o.guard = none) (x y : Operand)
    (ho : o.op = .call { callee := .builtin .append, args := #[x, y], argTypes := #[23, 23] })
    (base : Nat) (i : TypeInfo) (hi : Tryd.prog.info? 5 = some i) (hz : i.zero = some (.int .u8 0)) (hsize : i.size = 1) (hby : i.bytes = 1)
    (v : Value) (n : Nat) (xs : List Value) (hs : a.eval x = v) (hown : w.ownsRow base 5 1 v n xs)
    (A : Option Addr) (c : Nat) (s : ByteArray) (hx : a.eval y = .slice A s.size c) (ht : Txt w A c s) (hn : n + s.size ≤ 140737488355328) (hbase : base ≤ w.heap.size)
    (h : ∀ v' w', w'.ownsRow base 5 1 v' (n + s.size) (xs ++ Lib.byteCells s.data.toList) → w.grownBy w' v.ownBlock → Spot w v v' → wpList Tryd.prog ops Q rest (a.put o.dst v') w') : wpList Tryd.prog ops Q (o :: rest) a w := by
  rw [← nums_cells] at h
  obtain ⟨h1, h2, h3, h4⟩ := ht
  rcases A with _ | ad
  · have hc := h3 rfl
    have h0 : s.size = 0 := by omega
    have hn0 : nums s = [] := List.eq_nil_of_length_eq_zero (by rw [length_nums, h0])
    rw [h0, hc] at hx
    refine wpList_append_own_none hgd x y 23 ho base 5 i 1 Tryd.underlying23 hi v n xs hs hown hx (h v w ?_ (World.grownBy.refl w _) (.inl rfl))
    rw [hn0, h0]
    simpa using hown
  · refine wpList_append_own_at w hgd x y 23 ho base 5 i (.int .u8 0) 1 1 Tryd.underlying23 hi hz hsize hby rfl (by omega) v n xs hs hown ad s.size c ((nums s).map (.int .u8)) hx (by simp [length_nums]) ?_ ?_ (by unfold maxLen; omega) (by omega) hbase (fun v' w' g1 g2 _ g3 => h v' w' g1 g2 (g3.imp id fun e => ⟨_, e, Nat.le_refl _⟩))
    · intro j u hu
      rcases h4 with h4 | ⟨b, off, e, hc⟩
      · have : nums s = [] := List.eq_nil_of_length_eq_zero (by rw [length_nums, h4])
        rw [this] at hu
        simp at hu
      · injection e with e
        subst e
        have hj : j < s.size := by
          have := (List.getElem?_eq_some_iff.1 hu).1
          simpa [length_nums] using this
        have hadd : (⟨b, off, none⟩ : Addr).add j = ⟨b, off + j, none⟩ := by unfold Addr.add; split <;> simp_all
        rw [hadd, hc j hj]
        rw [List.getElem?_map, nums_at s j hj] at hu
        simpa using hu
    · intro u hu
      obtain ⟨z, _, rfl⟩ := List.mem_map.1 hu
      rfl

set_option maxHeartbeats 400000 in
set_option maxRecDepth 100000 in
theorem whole_no (k err : Int) (he : err = 1 ∨ err = 2) (A : Option Addr) (n c : Nat) (w : World)
    (hN : ∀ W, Calls Tryd.prog 23 #[.int .i64 k, .slice A n c] W fun e w' => e = .returned (.tuple #[.pointer none, .int .i64 err]) ∧ W = w') :
    Calls Tryd.prog 6 #[.int .i64 k, .slice A n c] w (HeadPost w) := by
  have H := Lib.hid hN; clear hN
  go_enter Tryd.func6, Tryd.ntmps6
  go_wp2_with fail
  refine (head_any w).mono ?_
  rintro e w1 ⟨rfl, hB⟩
  have HB := Lib.hid hB; clear hB
  go_wp2_with fail
  refine (H.out w1).mono ?_
  rintro e w2 ⟨rfl, rfl⟩
  rcases he with rfl | rfl
  all_goals
    go_wp2
    go_ret
    exact ⟨rfl, HB.out⟩

/-- One round's head: the state behind m rounds. -/
def Upto (s : ByteArray) (w2 : World) (m : Nat) (va vb : Value) (wr : World) : Prop :=
  Below w2.heap.size w2 wr ∧ wr.ownsRow w2.heap.size 5 1 va (cutAt s m) (Lib.byteCells (s.data.toList.take (cutAt s m))) ∧
    wr.ownsRow w2.heap.size 5 1 vb (encR ((runesOf s).take m)).length (Lib.byteCells (encR ((runesOf s).take m))) ∧ Apart va vb
theorem upto_start (s : ByteArray) (w2 : World) : Upto s w2 0 (.slice none 0 0) (.slice none 0 0) w2 := by
  refine ⟨Below.refl _ _, ?_, World.ownsRow_nil _ _ _ _, fun g hg => by simp [Value.ownBlock] at hg⟩
  rw [cut_zero]
  exact World.ownsRow_nil _ _ _ _

set_option maxHeartbeats 800000 in
set_option maxRecDepth 100000 in
theorem whole_ok (k : Int) (hk : k = 1 ∨ k = 2 ∨ k = 3) (A : Option Addr) (c : Nat) (s : ByteArray) (w : World) (hs : (s.size : Int) ≤ 65536) (hx : Txt w A c s) (hT : Lib.Utf8Tabs 0 1 w) :
    Calls Tryd.prog 6 #[.int .i64 k, .slice A s.size c] w (HeadPost w) := by
  obtain ⟨i5, hi5, hz5, hs5, hb5⟩ := info_parts info_byte
  have HX := Lib.hid hx; have HT := Lib.hid hT
  clear hx hT
  go_enter Tryd.func6, Tryd.ntmps6
  go_wp2_with fail
  refine (head_any w).mono ?_
  rintro e w1 ⟨rfl, hB⟩
  have HB := Lib.hid hB; clear hB
  go_wp2_with fail
  refine (new_one k hk A c s w1 hs (HX.out.below HB.out).conv).mono ?_
  rintro e w2 ⟨b, rfl, hb, hI, hB2⟩
  have HB2 := Lib.hid (HB.out.trans (hB2.mono HB.out.size)); have HI := Lib.hid hI
  clear hb hI hB2
  obtain ⟨n, hn⟩ : ∃ n : Nat, n = (runesOf s).length := ⟨_, rfl⟩
  have HN := Lib.hid hn
  have hns : n ≤ s.size := by rw [hn]; exact length_runesOf s
  clear hn
  go_wp2_with fail
  go_loopw [8, 9, 10] (fun va vb i wr => ∃ m : Nat, m ≤ n ∧ i = .int .i64 m ∧ Upto s w2 m va vb wr) (fun _ _ i _ => n - (intOf i).toNat)
  case atStart => exact ⟨0, Nat.zero_le _, rfl, upto_start s w2⟩
  case round =>
    obtain ⟨m, hm, rfl, hBw, hoA, hoB, hap⟩ := hrel
    have HBw := Lib.hid hBw; have HOA := Lib.hid hoA; have HOB := Lib.hid hoB; have HAP := Lib.hid hap
    clear hBw hoA hoB hap
    have cl := len_any (HI.out.below HBw.out)
    rw [← HN.out] at cl
    have HL := Lib.hid cl
    clear cl
    by_cases hlt : m < n
    · -- one more rune
      have hlr : m < (runesOf s).length := by rw [← HN.out]; exact hlt
      have HLR := Lib.hid hlr; clear hlr
      obtain ⟨t, ht⟩ : ∃ t, t = bytesOf s (m : Int) ((m : Int) + 1) := ⟨_, rfl⟩
      have cb := bytes_any (HI.out.below HBw.out) (m : Int) ((m : Int) + 1)
      rw [← ht] at cb
      have hts := size_cut s m HLR.out
      rw [← ht] at hts
      have hcu := cut_up s m HLR.out
      obtain ⟨u, hu⟩ : ∃ u, u = cutAt s m := ⟨_, rfl⟩
      obtain ⟨v, hv⟩ : ∃ v, v = cutAt s (m + 1) := ⟨_, rfl⟩
      have hvs : v ≤ s.size := by rw [hv]; exact (cut_in s (m + 1) HLR.out).2.2
      rw [← hu, ← hv] at hcu hts
      have HTT := Lib.hid ht; have HCB := Lib.hid cb; have HU := Lib.hid hu; have HV := Lib.hid hv; have HTS := Lib.hid hts
      clear ht cb hu hv hts
      go_wp2_with fail
      refine HL.out.mono ?_
      rintro e w' ⟨rfl, rfl⟩
      go_wp2_with fail
      refine HCB.out.mono ?_
      rintro e w3 ⟨a3, c3, rfl, hx3, -, hB3⟩
      have hoA3 := own_below HOA.out hB3
      rw [← HU.out] at hoA3
      have HOA3 := Lib.hid hoA3; have HOB3 := Lib.hid (own_below HOB.out hB3); have HX3 := Lib.hid hx3; have HB3 := Lib.hid (HBw.out.trans (hB3.mono HBw.out.size))
      clear hoA3 hx3 hB3
      go_wp2_with (at_builtin; go_loud (refine append_txt_at rfl (.tmp 41) (.tmp 48) rfl w2.heap.size i5 hi5 hz5 hs5 hb5 _ u _ rfl HOA3.out a3 c3 t rfl HX3.out ?a1 ?a2 ?_))
      case a1 => have := HTS.out; omega
      case a2 => exact HB3.out.size
      intro va4 w4 hoA4 hg4 hsp4
      have HB4 := Lib.hid (HB3.out.grown hg4 HB3.out.size (fun j hj => (HOA3.out.lt j hj).1))
      have HOB4 := Lib.hid (HAP.out.symm.kept HOB3.out hg4)
      have HAP4 := Lib.hid (HAP.out.spot HOB3.out hsp4)
      have HOA4 := Lib.hid hoA4
      clear hoA4 hg4 hsp4
      obtain ⟨r, hr⟩ : ∃ r, r = (runesOf s)[m]'HLR.out := ⟨_, rfl⟩
      have hir : IsRune r := by rw [hr]; exact runesFrom_isRune s _ _ _ (List.getElem_mem _)
      have cr := rune_any (HI.out.below HB4.out) (m : Int)
      have er : runeAt (runesOf s) (m : Int) = r := by rw [runeAt_in _ m HLR.out, hr]
      rw [er] at cr
      have hl4 := encR_le ((runesOf s).take m)
      have hl5 : ((runesOf s).take m).length ≤ s.size := by rw [List.length_take]; omega
      have ca := append_rune_at w2.heap.size _ _ _ r hir w4 HOB4.out (by omega) HB4.out.size
      have HR := Lib.hid hr; have HCR := Lib.hid cr; have HCA := Lib.hid ca
      clear hr hir cr er hl4 hl5 ca
      go_wp2_with fail
      refine HCR.out.mono ?_
      rintro e w' ⟨rfl, rfl⟩
      go_wp2_with fail
      refine HCA.out.mono ?_
      rintro e w5 ⟨vb5, rfl, hoB5, ⟨o5, hg5⟩, hsp5⟩
      have HB5 := Lib.hid ((HB4.out.alloc HB4.out.size o5).grown hg5 (by have := HB4.out.size; simp; omega) (fun j hj => (HOB4.out.lt j hj).1))
      have HOA5 := Lib.hid (HAP4.out.kept (HOA4.out.alloc o5) hg5)
      have HAP5 := Lib.hid (HAP4.out.symm.spot HOA4.out hsp5).symm
      have HOB5 := Lib.hid hoB5
      clear hoB5 hg5 hsp5
      have hI5 := fun q => HI.out.below (below_drewNq HB5.out q)
      have e1 := off_cut s m (Nat.le_of_lt HLR.out)
      have e2 := off_cut s (m + 1) HLR.out
      have e3 := place_cut s m (Nat.le_of_lt HLR.out)
      rw [← HU.out] at e1 e3
      rw [← HV.out] at e2
      push_cast at e2
      have huv : ¬ (v ≤ u) := by omega
      have huvb : decide (v ≤ u) = false := decide_eq_false huv
      have co1 : ∀ q : Nat, Calls Tryd.prog 15 #[.pointer (some ⟨b, 1, none⟩), .int .i64 (m : Int)] (w5.drewN q) fun e w' => e = .returned (.int .i64 u) ∧ ∃ q', w' = (w5.drewN q).drewN q' := fun q =>
        (off_any (hI5 q) (m : Int)).mono (by rintro e w' ⟨rfl, rfl⟩; exact ⟨ret_int e1, 0, rfl⟩)
      have co2 : ∀ q : Nat, Calls Tryd.prog 15 #[.pointer (some ⟨b, 1, none⟩), .int .i64 ((m : Int) + 1)] (w5.drewN q) fun e w' => e = .returned (.int .i64 v) ∧ ∃ q', w' = (w5.drewN q).drewN q' := fun q =>
        (off_any (hI5 q) ((m : Int) + 1)).mono (by rintro e w' ⟨rfl, rfl⟩; exact ⟨ret_int e2, 0, rfl⟩)
      have cp : ∀ q : Nat, Calls Tryd.prog 17 #[.pointer (some ⟨b, 1, none⟩), .int .i64 (u : Int)] (w5.drewN q) fun e w' => e = .returned (.int .i64 m) ∧ ∃ q', w' = (w5.drewN q).drewN q' := fun q =>
        (place_quiet (hI5 q) (u : Int)).mono (by rintro e w' ⟨rfl, h⟩; exact ⟨ret_int e3, h⟩)
      clear e1 e2 e3
      clear hI5
      go_wp2_with fail
      go_big_quiet (first
        | (go_at_call 15; with_reducible refine Calls.quiet_of (co1 _))
        | (go_at_call 15; with_reducible refine Calls.quiet_of (co2 _))
        | (go_at_call 17; with_reducible refine Calls.quiet_of (cp _)))
      go_wp2
      go_roundw
      case rel =>
        refine ⟨m + 1, by omega, by go_num, below_drewNq HB5.out nq, ?_, ?_, HAP5.out⟩
        · have h := own_below HOA5.out (below_drewNq (Below.refl _ w5) nq)
          have hl : u + t.size = cutAt s (m + 1) := by
            have := HTS.out
            rw [← HV.out]
            omega
          rw [hl, ← Lib.byteCells_append, HTT.out, HU.out, take_cut s m HLR.out] at h
          exact h
        · have h := own_below HOB5.out (below_drewNq (Below.refl _ w5) nq)
          have he := enc_take (runesOf s) m HLR.out
          rw [← HR.out] at he
          rw [Lib.runeCells_length, ← Lib.byteCells_encodeRune, ← Lib.byteCells_append, ← he] at h
          have hl : (encR ((runesOf s).take m)).length + (Lib.encodeRune r).length = (encR ((runesOf s).take (m + 1))).length := by rw [he, List.length_append]
          rw [hl] at h
          exact h
      case measure => simp [intOf]; omega
    · -- behind the last rune
      have hmn : m = n := by omega
      have hoA := HOA.out
      have hoB := HOB.out
      have e1 : cutAt s m = s.size := by rw [hmn, HN.out]; exact cut_last s
      have e2 : s.data.toList.take s.size = s.data.toList := by
        have : s.size = s.data.toList.length := by simp
        rw [this, List.take_length]
      have e3 : (runesOf s).take m = runesOf s := by rw [hmn, HN.out]; exact List.take_length
      rw [e1, e2] at hoA
      rw [e3] at hoB
      obtain ⟨av, cv, hva⟩ := own_slice hoA
      obtain ⟨bv, dv, hvb⟩ := own_slice hoB
      subst hva hvb
      have e4 : (⟨s.data.toList.toArray⟩ : ByteArray) = s := by
        apply ByteArray.ext
        simp
      have hall := HB2.out.trans (HBw.out.mono HB2.out.size)
      have hxw := HX.out.below hall
      have cA : (convert 23 9 (.slice av s.size cv)).run Tryd.prog wr = .ok (.string s) wr := by
        have h := back_conv (l := s.data.toList) hoA
        rw [e4] at h
        exact h
      have cB : Lib.validD s.data.toList = true → ∀ W, Below wr.heap.size wr W → (convert 23 9 (.slice bv (encR (runesOf s)).length dv)).run Tryd.prog W = .ok (.string s) W := fun hv W hW => by
        have h := back_conv (own_below hoB hW)
        rw [enc_valid s hv] at h
        exact h
      have cT : ∀ W, Below wr.heap.size wr W → (convert 23 9 (.slice A s.size c)).run Tryd.prog W = .ok (.string s) W := fun W hW => (hxw.below hW).conv
      have cV := valid_any hxw (by omega) (tabs_below HT.out hall)
      have T1 := cT wr (Below.refl _ _)
      have HALL := Lib.hid hall; have HCB := Lib.hid cB; have HCT := Lib.hid cT
      clear hall hxw cB cT hoA hoB e1 e2 e3 e4
      by_cases hv : Lib.validD s.data.toList = true
      · rw [hv] at cV
        have HCV := Lib.hid cV; have HVV := Lib.hid hv
        clear cV hv
        go_wp2_with fail
        refine HL.out.mono ?_
        rintro e w' ⟨rfl, rfl⟩
        go_wp2_with fail
        refine HCV.out.mono ?_
        rintro e w6 ⟨rfl, hB6⟩
        have b6 := HCB.out HVV.out w6 hB6
        have t6 := HCT.out w6 hB6
        have HB6 := Lib.hid hB6
        clear hB6 cA T1
        go_wp2
        go_ret
        exact ⟨rfl, HALL.out.trans (HB6.out.mono HALL.out.size)⟩
      · have hv' : Lib.validD s.data.toList = false := by simpa using hv
        rw [hv'] at cV
        have HCV := Lib.hid cV
        clear cV hv hv'
        go_wp2_with fail
        refine HL.out.mono ?_
        rintro e w' ⟨rfl, rfl⟩
        go_wp2_with fail
        refine HCV.out.mono ?_
        rintro e w6 ⟨rfl, hB6⟩
        have HB6 := Lib.hid hB6
        clear hB6 cA T1
        go_wp2
        go_ret
        exact ⟨rfl, HALL.out.trans (HB6.out.mono HALL.out.size)⟩

theorem whole_any (k : Int) (A : Option Addr) (n c : Nat) (zs : List Int) (w : World) (h : IsRow .u8 w A n c zs) (_hr : n ≤ 140737488355328) (hT : Lib.Utf8Tabs 0 1 w) :
    Calls Tryd.prog 6 #[.int .i64 k, .slice A n c] w (HeadPost w) := by
  obtain ⟨s, rfl, hx⟩ := txt_of_row h
  by_cases h1 : k < 1 ∨ 3 < k
  · exact whole_no k 1 (.inl rfl) A _ c w (fun W => new_bad k (by simp; omega) (by simp; omega) (by simp; omega) A _ c W)
  · by_cases hs : (65536 : Int) < s.size
    · exact whole_no k 2 (.inr rfl) A _ c w (fun W => new_long k (by omega) A _ c W hs)
    · exact whole_ok k (by omega) A c s w (by omega) hx hT
end Go.Proofs.YticghidkbpkefaaDoor
