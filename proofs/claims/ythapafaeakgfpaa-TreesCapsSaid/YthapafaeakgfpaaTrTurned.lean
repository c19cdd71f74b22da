/- A tree, turned: the document's turned. -/
import Derived.Test.YthapafaeakgfpaaTrShaped
import Derived.Test.YthapafaeakgfpaaTrGroups
import Derived.Test.YthapafaeakgfpaaTrCell
set_option linter.unusedVariables false
namespace Go.Proofs.Ythapafaeakgfpaa
open Go Go.RowKit

theorem SameOn.mono {F G : Nat → Prop} {w w' : World} (h : SameOn G w w') (hFG : ∀ b, F b → G b) : SameOn F w w' := fun b hb hlt => h b (hFG b hb) hlt
def swapAt (x : Int) : Int := if x = 1 then 2 else if x = 2 then 1 else if x = 4 then 8 else if x = 8 then 4 else x
def noTr : Tr := .mk { op := 0, rune := 0, set := [], at' := 0, cap := 0, name := ⟨#[]⟩, min := 0, max := 0, lazy := false } []
/-- A tree, turned. -/
def turnedT : Tr → Tr := Tr.para fun t l => if t.fld.op = 6 then l.headD noTr else .mk { t.fld with at' := swapAt t.fld.at' } (if t.fld.op = 11 then l.reverse else l)
theorem turnedT_eq (t : Tr) : turnedT t = if t.fld.op = 6 then (t.kids.map turnedT).headD noTr else .mk { t.fld with at' := swapAt t.fld.at' } (if t.fld.op = 11 then (t.kids.map turnedT).reverse else t.kids.map turnedT) := Tr.para_eq _ t
def TurnedPost (A : Nat → Prop) (T : Tr) (w : World) (e : Ending) (w' : World) : Prop := ∃ v, e = .returned v ∧ TreF (fun b => A b ∨ w.heap.size ≤ b) w' T v ∧ Below w.heap.size w w'
def TurnedOf (t : Tr) : Prop := ShapedP t → partsR t ≤ 1000000 → ∀ (A : Nat → Prop) (v : Value) (w : World), (∀ b, A b → b < w.heap.size) → TreF A w t v → Calls Try.prog 42 #[v] w (TurnedPost A (turnedT t) w)
/-- The Kids in the order in which they are turned. -/
def turnKids (t : Tr) : List Tr := if t.fld.op = 11 then t.kids.reverse else t.kids
theorem turnKids_len (t : Tr) : (turnKids t).length = t.kids.length := by unfold turnKids; split <;> simp
theorem turnedT_else (t : Tr) (h : t.fld.op ≠ 6) : turnedT t = .mk { t.fld with at' := swapAt t.fld.at' } ((turnKids t).map turnedT) := by
  rw [turnedT_eq, if_neg h]
  unfold turnKids
  split <;> simp
theorem swap_i64 {x : Int} (h : I64 x) : I64 (swapAt x) := by
  unfold swapAt I64 at *
  split
  · omega
  · split
    · omega
    · split
      · omega
      · split <;> omega
/-- A turned tree out of its row of Kids. -/
theorem turned_made {G : Nat → Prop} {w : World} {t : Tr} {ks : List Tr} {kv sv : Value} (hf : FldOk t.fld) (hs : Rgs w sv t.fld.set ∧ Foot G sv t.fld.set) (hk : KdsF G w ks kv) : TreF G w (.mk { t.fld with at' := swapAt t.fld.at' } ks) (.agg #[.int .i64 t.fld.op, kv, .int .i32 t.fld.rune, sv, .int .i64 (swapAt t.fld.at'), .int .i64 t.fld.cap, .string t.fld.name, .int .i64 t.fld.min, .int .i64 t.fld.max, .bool t.fld.lazy]) := by
  rw [treF_iff]
  exact ⟨kv, sv, rfl, hs, ⟨hf.1, hf.2.1, swap_i64 hf.2.2.1, hf.2.2.2.1, hf.2.2.2.2.1, hf.2.2.2.2.2.1, hf.2.2.2.2.2.2.1, hf.2.2.2.2.2.2.2⟩, hk⟩

set_option maxHeartbeats 4000000 in
set_option maxRecDepth 100000 in
theorem turned_any (t : Tr) : TurnedOf t := by
  refine Tr.ind (P := TurnedOf) (fun t ih hsh hp AF v w hA h0 => ?_) t
  have IH := Lib.hid ih
  have H0 := Lib.hid h0
  have h := h0.tre
  obtain ⟨A, n, c, a2, s, c2, hn, hs, rfl, hnb, hsb, hK, hS, hF⟩ := h.opened
  obtain ⟨w1, hw1⟩ : ∃ w1, (w.alloc (.cells #[.int .i64 t.fld.op, .slice A n c, .int .i32 t.fld.rune, .slice a2 s c2, .int .i64 t.fld.at', .int .i64 t.fld.cap, .string t.fld.name, .int .i64 t.fld.min, .int .i64 t.fld.max, .bool t.fld.lazy] 27)).alloc (.cells #[.int .i64 0, .slice none 0 0, .int .i32 0, .slice none 0 0, .int .i64 0, .int .i64 0, .string ⟨#[]⟩, .int .i64 0, .int .i64 0, .bool false] 27) = w1 := ⟨_, rfl⟩
  have hb1 : Below w.heap.size w w1 := by rw [← hw1]; exact ((Below.refl _ w).alloc (Nat.le_refl _) _).alloc (by simp) _
  have hE1 : Whole w1 w.heap.size 27 #[.int .i64 t.fld.op, .slice A n c, .int .i32 t.fld.rune, .slice a2 s c2, .int .i64 t.fld.at', .int .i64 t.fld.cap, .string t.fld.name, .int .i64 t.fld.min, .int .i64 t.fld.max, .bool t.fld.lazy] := by rw [← hw1]; exact Whole.alloc (heap_alloc_new w _) _
  have hR1 : Whole w1 (w.heap.size + 1) 27 #[.int .i64 0, .slice none 0 0, .int .i32 0, .slice none 0 0, .int .i64 0, .int .i64 0, .string ⟨#[]⟩, .int .i64 0, .int .i64 0, .bool false] := by
    rw [← hw1]
    have := heap_alloc_new (w.alloc (.cells #[.int .i64 t.fld.op, .slice A n c, .int .i32 t.fld.rune, .slice a2 s c2, .int .i64 t.fld.at', .int .i64 t.fld.cap, .string t.fld.name, .int .i64 t.fld.min, .int .i64 t.fld.max, .bool t.fld.lazy] 27)) (.cells #[.int .i64 0, .slice none 0 0, .int .i32 0, .slice none 0 0, .int .i64 0, .int .i64 0, .string ⟨#[]⟩, .int .i64 0, .int .i64 0, .bool false] 27)
    simpa [Whole] using this
  have hs1 : w1.heap.size = w.heap.size + 2 := by rw [← hw1]; simp
  have hT1 : TreF AF w1 t _ := TreF.same H0.out (same_below hb1) (fun _ h _ => h)
  have HB1 := Lib.hid hb1; have HE1 := Lib.hid hE1; have HR1 := Lib.hid hR1; have HW1 := Lib.hid hw1; have HS1 := Lib.hid hs1; have HT1 := Lib.hid hT1; have HN := Lib.hid hn; have HA := Lib.hid hA; have HSH := Lib.hid hsh; have HF := Lib.hid hF
  obtain ⟨b0, b1, b2, b3, b4, b5, b6, b7, b8, b9⟩ := hE1.ten
  obtain ⟨op, hop⟩ : ∃ op, t.fld.op = op := ⟨_, rfl⟩
  rw [hop] at b0
  have HOP := Lib.hid hop
  clear h h0 ih hb1 hE1 hR1 hw1 hs1 hT1 hK hS hn hs hF hA hsh hop
  go_enter Try.func42, Try.ntmps42
  go_upto_region 1 with (fail)
  rw [HW1.out]
  by_cases h6 : op = 6
  · subst h6
    have hk1 : t.kids.length = 1 := ((shapedP_iff t).1 HSH.out).2.1.1 (.inl HOP.out)
    obtain ⟨b, o, cc, ss, tk, kv, sv, hv, htk, hm, ⟨c0, c1, c2', c3, c4, c5, c6, c7, c8, c9⟩, hTk⟩ := HT1.out.kid 0 (by omega)
    obtain ⟨hkv, -⟩ := treC_inj (f := t.fld) hv
    rw [hkv, hk1] at b1
    have hsk := ((shapedP_iff t).1 HSH.out).2.2.2 tk hm
    have hpk := partsR_kid hm
    have hres : turnedT t = turnedT tk := by
      rw [turnedT_eq, if_pos HOP.out]
      obtain ⟨f, ks⟩ := t
      match ks, hk1, htk with
      | [q], _, htk =>
        have : q = tk := htk
        rw [this]
        rfl
    have HI := Lib.hid (IH.out tk hm hsk (by omega) AF _ w1 (fun b hb => by have := HA.out b hb; have := HS1.out; omega) hTk)
    have HRES := Lib.hid hres
    clear hv hkv htk hm hTk hsk hres hk1
    simp only [Nat.zero_mul, Nat.add_zero] at c0 c1 c2' c3 c4 c5 c6 c7 c8 c9
    go_wp2_with fail
    refine HI.out.mono ?_
    rintro e w2 ⟨v2, rfl, ht2, hb2⟩
    obtain ⟨kv2, sv2, rfl, ⟨x1, x2, x3, rfl⟩, ⟨y1, y2, y3, rfl⟩⟩ := ht2.ten
    have HT2 := Lib.hid ht2
    have HB2 := Lib.hid (HB1.out.trans (hb2.mono HB1.out.size))
    have hR2 : Whole w2 (w.heap.size + 1) 27 #[.int .i64 0, .slice none 0 0, .int .i32 0, .slice none 0 0, .int .i64 0, .int .i64 0, .string ⟨#[]⟩, .int .i64 0, .int .i64 0, .bool false] := HR1.out.below hb2 (by have := HS1.out; omega)
    have HR2 := Lib.hid hR2
    obtain ⟨r0, r1, r2, r3, r4, r5, r6, r7, r8, r9⟩ := hR2.ten
    obtain ⟨z0, z1, z2, z3, z4, z5, z6, z7, z8, z9⟩ := whole_free hR2
    clear ht2 hb2 hR2 b0 b1 b2 b3 b4 b5 b6 b7 b8 b9 c0 c1 c2' c3 c4 c5 c6 c7 c8 c9 HI
    go_wp2_with fail
    refine tree_ret Try.results42 (w.heap.size + 1) rfl HR2.out ?_
    refine ⟨_, rfl, ?_, set10_below HB2.out (by omega) _ _ _ _ _ _ _ _ _ _⟩
    rw [HRES.out]
    refine TreF.same HT2.out (SameOn.mono (set10_same _ _ _ _ _ _ _ _ _ _ _ _) (fun b hb e => ?_)) (fun b hb _ => hb.imp id fun h => by have := HS1.out; omega)
    have h1 := HS1.out
    rcases hb with hb | hb
    · have := HA.out b hb
      omega
    · omega
  have hte := turnedT_else t (by rw [HOP.out]; exact h6)
  have e6 : (op == 6) = false := beq_eq_false_iff_ne.2 h6
  have HTE := Lib.hid hte
  have hkl := turnKids_len t
  have HKL := Lib.hid hkl
  clear hte hkl h6
  obtain ⟨KS, hKS⟩ : ∃ KS, turnKids t = KS := ⟨_, rfl⟩
  have HKS := Lib.hid hKS
  rw [hKS] at HTE HKL
  clear hKS
  have hways : (op = 11) ∨ (op == 11) = false := by
    by_cases q : op = 11
    · exact .inl q
    · exact .inr (beq_eq_false_iff_ne.2 q)
  have hat : ∀ k, k < n → ∃ j, j < n ∧ (op = 11 → j = n - 1 - k) ∧ ((op == 11) = false → j = k) ∧ KS[k]? = t.kids[j]? := fun k hk => by
    have hn := HN.out
    by_cases q : op = 11
    · refine ⟨n - 1 - k, by omega, fun _ => rfl, fun h => ?_, ?_⟩
      · rw [q] at h
        cases h
      · rw [← HKS.out]
        unfold turnKids
        rw [if_pos (by rw [HOP.out]; exact q), List.getElem?_reverse (by omega), hn]
    · refine ⟨k, hk, fun h => absurd h q, fun _ => rfl, ?_⟩
      rw [← HKS.out]
      unfold turnKids
      rw [if_neg (by rw [HOP.out]; exact q)]
  have HAT := Lib.hid hat
  clear hat
  go_wp2_with fail
  go_loopw [3, 4] (fun vl i wr => ∃ k : Nat, k ≤ n ∧ i = .int .i64 k ∧ OwnT (fun b => AF b ∨ w1.heap.size ≤ b) wr w1.heap.size vl ((KS.take k).map turnedT) ∧ Below w1.heap.size w1 wr) (fun _ i _ => n - (intOf i).toNat)
  case atStart => exact ⟨0, Nat.zero_le _, rfl, ownT_none _ _ _, Below.refl _ _⟩
  case round =>
    obtain ⟨k, hk, rfl, hO, hB⟩ := hrel
    have HO := Lib.hid hO; have HB := Lib.hid hB
    have hszr := hB.size
    have hEr := HE1.out.below hB (by have := HS1.out; omega)
    have HER := Lib.hid hEr
    clear hO hB b0 b1 b2 b3 b4 b5 b6 b7 b8 b9
    obtain ⟨b0, b1, b2, b3, b4, b5, b6, b7, b8, b9⟩ := hEr.ten
    rw [HOP.out] at b0
    clear hEr
    by_cases hkn : k < n
    · obtain ⟨j, hj, hj1, hj2, hjk⟩ := HAT.out k hkn
      have hjl : j < t.kids.length := by rw [HN.out]; exact hj
      have hkl : k < KS.length := by rw [HKL.out, HN.out]; exact hkn
      obtain ⟨b, o, cc, ss, tk, kv, sv, hv, htk, hm, ⟨c0, c1, c2', c3, c4, c5, c6, c7, c8, c9⟩, hTk⟩ := (TreF.same HT1.out (same_below HB.out) (fun _ h _ => h)).kid j hjl
      obtain ⟨hkv, -⟩ := treC_inj (f := t.fld) hv
      rw [hkv, HN.out] at b1
      have hsk := ((shapedP_iff t).1 HSH.out).2.2.2 tk hm
      have hpk := partsR_kid hm
      have hsp : (KS.take (k + 1)).map turnedT = (KS.take k).map turnedT ++ [turnedT tk] := by
        rw [List.getElem?_eq_getElem hkl, List.getElem?_eq_getElem hjl, Option.some.injEq, htk] at hjk
        rw [List.take_succ_eq_append_getElem hkl, hjk]
        simp
      have hHI := IH.out tk hm hsk (by omega) AF _ _ (fun b hb => by have := HA.out b hb; have := HS1.out; omega) hTk
      have HI := Lib.hid hHI; have HSP := Lib.hid hsp
      have hlk : ((KS.take k).map turnedT).length + 1 ≤ 1172812402961 := by rw [List.length_map, List.length_take]; omega
      clear hv hkv htk hm hTk hsk hjk hsp hHI hjl hkl
      have hjz : (j : Int) < (n : Int) := by omega
      rcases hways with q11 | q11
      all_goals
        first | (have hj3 := hj1 q11; subst q11; have hj4 : (n : Int) - 1 - (k : Int) = (j : Int) := (by omega)) | (have hj3 := (hj2 q11).symm; subst hj3; have hj4 : (0 : Int) = 0 := rfl; have hj3 := hj4)
        have HJ4 := Lib.hid hj4
        clear hj1 hj2 hj3 hj4
        go_upto_region 10 with (fail)
        try rw [HJ4.out]
        go_wp2_with fail
        refine HI.out.mono ?_
        rintro e w3 ⟨v3, rfl, ht3, hb3⟩
        obtain ⟨kv3, sv3, rfl, ⟨x1, x2, x3, rfl⟩, ⟨y1, y2, y3, rfl⟩⟩ := ht3.ten
        have HB3 := Lib.hid (below_two HB.out hb3)
        have HO3 := Lib.hid (HO.out.below hb3)
        have hsz3 := hb3.size
        have hk3 : KdsE (fun b => Off _ b ∧ (AF b ∨ w1.heap.size ≤ b)) (w3.alloc (.cells _ 27)) [turnedT tk] (.slice (some ⟨w3.heap.size, 0, none⟩) 1 1) := kds_one ht3 _ (fun b hb _ => ⟨fun e => (by
          rcases hb with hb | hb
          · have h1 := HA.out b hb
            have h2 := HO.out.base b e
            have h3 := HS1.out
            omega
          · exact HO.out.off b hb e), hb.imp id fun h => by omega⟩)
        unfold treC at hk3
        have HK3 := Lib.hid hk3
        clear ht3 hb3 hk3 b0 b1 b2 b3 b4 b5 b6 b7 b8 b9 c0 c1 c2' c3 c4 c5 c6 c7 c8 c9
        go_wp2_with (at_builtin; refine append_trs rfl (.tmp 31) (.tmp 38) rfl (fun b => AF b ∨ w1.heap.size ≤ b) w1.heap.size _ ((KS.take k).map turnedT) rfl (HO3.out.below ((Below.refl _ w3).alloc (Nat.le_refl _) _)) (some ⟨w3.heap.size, 0, none⟩) 1 1 [turnedT tk] rfl HK3.out (by simp only [List.length_singleton]; exact hlk) (by simp; omega) ?_; intro v4 w4 ho4 hg4 _; have HO4 := Lib.hid ho4; have HB4 := Lib.hid ((HB3.out.alloc HB3.out.size _).grown hg4 (by simp; omega) (fun j hj => HO3.out.base j hj)); clear ho4 hg4)
        go_roundw
        case rel => exact ⟨k + 1, by omega, by go_num, by rw [HSP.out]; exact HO4.out, HB4.out⟩
        case measure => simp [intOf]; omega
    · have hk2 : KS.take k = KS := List.take_of_length_le (by rw [HKL.out, HN.out]; omega)
      have ho := HO.out
      rw [hk2] at ho
      have hks : (KS.map turnedT).length ≤ 1172812402961 := by rw [List.length_map, HKL.out, HN.out]; omega
      have HOX := Lib.hid ho; have HKX := Lib.hid hks
      clear hk2 ho hks
      obtain ⟨l1, l2, l3, rfl⟩ := HO.out.slice
      obtain ⟨z0, z1, z2, z3, z4, z5, z6, z7, z8, z9⟩ := whole_free HER.out
      have hset : Rgs wr (.slice a2 s c2) t.fld.set ∧ Foot AF (.slice a2 s c2) t.fld.set := by
        have h1 := TreF.same HT1.out (same_below HB.out) (fun b h _ => h)
        rw [treF_iff] at h1
        obtain ⟨kv', sv', e, h2, -⟩ := h1
        obtain ⟨-, rfl⟩ := treC_inj (f := t.fld) e
        exact h2
      have hkd : KdsF (fun b => AF b ∨ w1.heap.size ≤ b) wr (KS.map turnedT) (.slice l1 l2 l3) := HOX.out.kdsF HKX.out (fun b h => .inr h) (fun b h => h)
      have hfin : ∀ (x : Int) (wz : World), SameOn (fun k => k ≠ w.heap.size) wr wz → Below w.heap.size w wz → Whole wz (w.heap.size + 1) 27 #[.int .i64 0, .slice none 0 0, .int .i32 0, .slice none 0 0, .int .i64 0, .int .i64 0, .string ⟨#[]⟩, .int .i64 0, .int .i64 0, .bool false] → x = swapAt t.fld.at' → ∀ tmps : Array Value, tmps.getD 2 undef = .pointer (some ⟨w.heap.size + 1, 0, none⟩) →
          bodyPost Try.prog Try.f42 (TurnedPost AF (turnedT t) w) Exit.ret { tmps := tmps, defers := [] } (set10 wz (w.heap.size + 1) (.int .i64 t.fld.op) (.slice l1 l2 l3) (.int .i32 t.fld.rune) (.slice a2 s c2) (.int .i64 x) (.int .i64 t.fld.cap) (.string t.fld.name) (.int .i64 t.fld.min) (.int .i64 t.fld.max) (.bool t.fld.lazy)) := by
        intro x wz hsz hbz hrz hx tmps htm
        have h1 := HS1.out
        refine tree_ret Try.results42 (w.heap.size + 1) htm hrz ?_
        refine ⟨_, rfl, ?_, set10_below hbz (by omega) _ _ _ _ _ _ _ _ _ _⟩
        rw [HTE.out, hx]
        have hsw : SameOn (fun b => b ≠ w.heap.size ∧ b ≠ w.heap.size + 1) wr (set10 wz (w.heap.size + 1) (.int .i64 t.fld.op) (.slice l1 l2 l3) (.int .i32 t.fld.rune) (.slice a2 s c2) (.int .i64 (swapAt t.fld.at')) (.int .i64 t.fld.cap) (.string t.fld.name) (.int .i64 t.fld.min) (.int .i64 t.fld.max) (.bool t.fld.lazy)) := fun b hb hlt => by
          have h2 := hsz b hb.1 hlt
          have hltz : b < wz.heap.size := by
            obtain ⟨o, ho⟩ : ∃ o, wr.heap[b]? = some o := ⟨wr.heap[b], by simp [hlt]⟩
            rw [ho] at h2
            exact (Array.getElem?_eq_some_iff.1 h2).1
          exact (set10_same wz _ _ _ _ _ _ _ _ _ _ _ b hb.2 hltz).trans h2
        refine turned_made HF.out (rgs_same hset.1 hset.2 (hsw.mono fun b hb => ?_) fun b hb _ => .inl hb) (KdsF.same hkd (hsw.mono fun b hb => ?_) fun b hb _ => hb.imp id fun h => by omega)
        · have := HA.out b hb
          exact ⟨by omega, by omega⟩
        · rcases hb with hb | hb
          · have := HA.out b hb
            exact ⟨by omega, by omega⟩
          · exact ⟨by omega, by omega⟩
      have HFIN := Lib.hid hfin
      clear hset hkd hfin
      obtain ⟨wa, hwa⟩ : ∃ wa, wr.setCell ⟨w.heap.size, 1, none⟩ (.slice l1 l2 l3) = wa := ⟨_, rfl⟩
      have hWa0 := HER.out.store 1 (.slice l1 l2 l3)
      simp only [List.setIfInBounds_toArray, List.set_cons_zero, List.set_cons_succ] at hWa0
      have hWa : Whole wa w.heap.size 27 _ := hwa ▸ hWa0
      have hRa : Whole wa (w.heap.size + 1) 27 #[.int .i64 0, .slice none 0 0, .int .i32 0, .slice none 0 0, .int .i64 0, .int .i64 0, .string ⟨#[]⟩, .int .i64 0, .int .i64 0, .bool false] := hwa ▸ (HR1.out.below HB.out (by have := HS1.out; omega)).far (by omega) 1 (.slice l1 l2 l3)
      have hBa : Below w.heap.size w wa := hwa ▸ (HB1.out.trans (HB.out.mono HB1.out.size)).setCell (p := ⟨w.heap.size, 1, none⟩) (Nat.le_refl _) _
      have hSa : SameOn (fun k => k ≠ w.heap.size) wr wa := fun b hb _ => by rw [← hwa]; exact Below.heap_setCell wr _ _ b hb
      have HWA := Lib.hid hWa; have HRA := Lib.hid hRa; have HBA := Lib.hid hBa; have HSA := Lib.hid hSa; have HWQ := Lib.hid hwa
      have hat64 := HF.out.2.2.1
      obtain ⟨b0', b1', b2', b3', b4', b5', b6', b7', b8', b9'⟩ := hWa.ten
      obtain ⟨r0, r1, r2, r3, r4, r5, r6, r7, r8, r9⟩ := hRa.ten
      obtain ⟨y0, y1, y2, y3, y4, y5, y6, y7, y8, y9⟩ := whole_free hRa
      obtain ⟨u0, u1, u2', u3', u4', u5', u6, u7, u8, u9⟩ := whole_free hWa
      obtain ⟨at0, hat⟩ : ∃ x, t.fld.at' = x := ⟨_, rfl⟩
      rw [hat] at b4'
      have HATX := Lib.hid hat
      clear hWa0 hWa hRa hBa hSa hwa
      go_upto_region 12 with (fail)
      rw [HWQ.out]
      by_cases q1 : at0 = 1
      · subst q1
        have hz0 := HWA.out.store 4 (.int .i64 2)
        simp only [List.setIfInBounds_toArray, List.set_cons_zero, List.set_cons_succ] at hz0
        have hzR := HRA.out.far (g' := w.heap.size) (by omega) 4 (.int .i64 2)
        have hzB := HBA.out.setCell (p := ⟨w.heap.size, 4, none⟩) (Nat.le_refl _) (.int .i64 2)
        have hzS : SameOn (fun k => k ≠ w.heap.size) wr (wa.setCell ⟨w.heap.size, 4, none⟩ (.int .i64 2)) := fun b hb hlt => (Below.heap_setCell wa _ _ b hb).trans (HSA.out b hb hlt)
        have HZR := Lib.hid hzR; have HZB := Lib.hid hzB; have HZS := Lib.hid hzS
        obtain ⟨g0, g1, g2, g3, g4, g5, g6, g7, g8, g9⟩ := hz0.ten
        obtain ⟨h0, h1, h2, h3, h4, h5, h6, h7, h8, h9⟩ := hzR.ten
        obtain ⟨k0, k1, k2, k3, k4, k5, k6, k7, k8, k9⟩ := whole_free hzR
        clear hz0 hzR hzB hzS
        go_wp2_with fail
        exact HFIN.out 2 _ HZS.out HZB.out HZR.out (by rw [HATX.out]; rfl) _ rfl
      by_cases q2 : at0 = 2
      · subst q2
        have hz0 := HWA.out.store 4 (.int .i64 1)
        simp only [List.setIfInBounds_toArray, List.set_cons_zero, List.set_cons_succ] at hz0
        have hzR := HRA.out.far (g' := w.heap.size) (by omega) 4 (.int .i64 1)
        have hzB := HBA.out.setCell (p := ⟨w.heap.size, 4, none⟩) (Nat.le_refl _) (.int .i64 1)
        have hzS : SameOn (fun k => k ≠ w.heap.size) wr (wa.setCell ⟨w.heap.size, 4, none⟩ (.int .i64 1)) := fun b hb hlt => (Below.heap_setCell wa _ _ b hb).trans (HSA.out b hb hlt)
        have HZR := Lib.hid hzR; have HZB := Lib.hid hzB; have HZS := Lib.hid hzS
        obtain ⟨g0, g1, g2, g3, g4, g5, g6, g7, g8, g9⟩ := hz0.ten
        obtain ⟨h0, h1, h2, h3, h4, h5, h6, h7, h8, h9⟩ := hzR.ten
        obtain ⟨k0, k1, k2, k3, k4, k5, k6, k7, k8, k9⟩ := whole_free hzR
        clear hz0 hzR hzB hzS
        go_wp2_with fail
        exact HFIN.out 1 _ HZS.out HZB.out HZR.out (by rw [HATX.out]; rfl) _ rfl
      by_cases q4 : at0 = 4
      · subst q4
        have hz0 := HWA.out.store 4 (.int .i64 8)
        simp only [List.setIfInBounds_toArray, List.set_cons_zero, List.set_cons_succ] at hz0
        have hzR := HRA.out.far (g' := w.heap.size) (by omega) 4 (.int .i64 8)
        have hzB := HBA.out.setCell (p := ⟨w.heap.size, 4, none⟩) (Nat.le_refl _) (.int .i64 8)
        have hzS : SameOn (fun k => k ≠ w.heap.size) wr (wa.setCell ⟨w.heap.size, 4, none⟩ (.int .i64 8)) := fun b hb hlt => (Below.heap_setCell wa _ _ b hb).trans (HSA.out b hb hlt)
        have HZR := Lib.hid hzR; have HZB := Lib.hid hzB; have HZS := Lib.hid hzS
        obtain ⟨g0, g1, g2, g3, g4, g5, g6, g7, g8, g9⟩ := hz0.ten
        obtain ⟨h0, h1, h2, h3, h4, h5, h6, h7, h8, h9⟩ := hzR.ten
        obtain ⟨k0, k1, k2, k3, k4, k5, k6, k7, k8, k9⟩ := whole_free hzR
        clear hz0 hzR hzB hzS
        go_wp2_with fail
        exact HFIN.out 8 _ HZS.out HZB.out HZR.out (by rw [HATX.out]; rfl) _ rfl
      by_cases q8 : at0 = 8
      · subst q8
        have hz0 := HWA.out.store 4 (.int .i64 4)
        simp only [List.setIfInBounds_toArray, List.set_cons_zero, List.set_cons_succ] at hz0
        have hzR := HRA.out.far (g' := w.heap.size) (by omega) 4 (.int .i64 4)
        have hzB := HBA.out.setCell (p := ⟨w.heap.size, 4, none⟩) (Nat.le_refl _) (.int .i64 4)
        have hzS : SameOn (fun k => k ≠ w.heap.size) wr (wa.setCell ⟨w.heap.size, 4, none⟩ (.int .i64 4)) := fun b hb hlt => (Below.heap_setCell wa _ _ b hb).trans (HSA.out b hb hlt)
        have HZR := Lib.hid hzR; have HZB := Lib.hid hzB; have HZS := Lib.hid hzS
        obtain ⟨g0, g1, g2, g3, g4, g5, g6, g7, g8, g9⟩ := hz0.ten
        obtain ⟨h0, h1, h2, h3, h4, h5, h6, h7, h8, h9⟩ := hzR.ten
        obtain ⟨k0, k1, k2, k3, k4, k5, k6, k7, k8, k9⟩ := whole_free hzR
        clear hz0 hzR hzB hzS
        go_wp2_with fail
        exact HFIN.out 4 _ HZS.out HZB.out HZR.out (by rw [HATX.out]; rfl) _ rfl
      have e1 : (at0 == 1) = false := beq_eq_false_iff_ne.2 q1
      have e2 : (at0 == 2) = false := beq_eq_false_iff_ne.2 q2
      have e4 : (at0 == 4) = false := beq_eq_false_iff_ne.2 q4
      have e8 : (at0 == 8) = false := beq_eq_false_iff_ne.2 q8
      have hsw : swapAt t.fld.at' = at0 := by rw [HATX.out]; unfold swapAt; rw [if_neg q1, if_neg q2, if_neg q4, if_neg q8]
      have HSW := Lib.hid hsw
      clear hsw q1 q2 q4 q8
      go_wp2_with fail
      exact HFIN.out at0 _ HSA.out HBA.out HRA.out HSW.out.symm _ rfl
end Go.Proofs.Ythapafaeakgfpaa
