/- The names of a right tree's groups: the program's Caps, at any tree. -/
import Derived.Test.YthapafaeakgfpaaPRight
import Derived.Test.YthapafaeakgfpaaTrCaps
set_option linter.unusedVariables false
namespace Go.Proofs.Ythapafaeakgfpaa
open Go Go.RowKit Go.Shelf
attribute [local go_sem] Oper.semAt_some

/-- The names so far. -/
def namesC (L : List (Tr × Nat)) : List ByteArray := ⟨#[]⟩ :: (capsOf L).map fun g => g.fld.name
theorem namesC_parts (t : Tr) : namesC (partsT t 1) = capsNames t := by unfold namesC capsNames; rw [capsOf_parts]
theorem namesC_len (L : List (Tr × Nat)) : (namesC L).length ≤ L.length + 1 := by
  unfold namesC capsOf
  rw [List.length_cons, List.length_map, List.length_map]
  have := List.length_filter_le (fun q : Tr × Nat => decide (q.1.fld.op = 6)) L
  omega
theorem namesC_snoc (L : List (Tr × Nat)) (x : Tr × Nat) : namesC (L ++ [x]) = if x.1.fld.op = 6 then namesC L ++ [x.1.fld.name] else namesC L := by
  unfold namesC
  rw [capsOf_append]
  by_cases h : x.1.fld.op = 6 <;> simp [capsOf, h]
/-- What the gathering holds: the names, in a row of its own. -/
def CBox (w : World) (q : Nat) (l : List ByteArray) (W : World) : Prop := (∃ v, Boxed W (q + 1) 30 v ∧ W.ownsRow w.heap.size 9 1 v l.length (litsS l) ∧ True) ∧ Below w.heap.size w W
theorem cbox_own {w : World} {q B : Nat} {W0 : World} (hB : w.heap.size ≤ B) : OwnFrom B (fun (pre : List (Part W0)) W => CBox w q (namesC (keys pre)) W) :=
  OwnFrom.and (Own.from (holdsRow_own w.heap.size (q + 1) 30 9 1 (fun pre => (namesC (keys pre)).length) (fun pre => litsS (namesC (keys pre))) (fun _ _ => True)) _) (ownFrom_below (Nat.le_refl _) hB)
theorem CBox.below {w W W' : World} {q : Nat} {l : List ByteArray} (h : CBox w q l W) (hb : Below W.heap.size W W') : CBox w q l W' := by
  obtain ⟨⟨v, h1, h2, _⟩, h3⟩ := h
  exact ⟨⟨v, whole_boxed h1 hb, h2.kept (row := none) ⟨hb.os, hb.tape, hb.output, hb.size, fun k hk _ => hb.block k hk⟩ (by cases v.ownBlock <;> simp), trivial⟩, h3.trans (hb.mono h3.size)⟩
theorem row_off_tr {W W' : World} {base n : Nat} {v : Value} {xs : List Value} {e : TypeId} (hr : W.ownsRow base e 1 v n xs) (he : e ≠ 27) (hg : W.grownBy W' v.ownBlock) : KeepsTr W W' :=
  KeepsTr.grown hg fun r e' cs h' => by
    rcases hr.2 with ⟨rfl, _⟩ | ⟨q, cap, cur, rfl, _, hh, _⟩
    · simp [Value.ownBlock] at e'
    · have : q = r := by simpa [Value.ownBlock] using e'
      subst this
      rw [h'] at hh
      injection hh with hh
      injection hh with _ hh
      exact absurd hh.symm he

set_option maxHeartbeats 2000000 in
set_option maxRecDepth 100000 in
theorem pcaps_any (t : Tr) (hp : partsR t ≤ 1000000) (v : Value) (w : World) (h : Tre w t v) : Calls Try.prog 14 #[v] w (CapsPost t w) := by
  have H0 := Lib.hid h
  obtain ⟨A, m, c, a2, s, c2, hm, hs, rfl, hmb, hsb, hK, hS, hF⟩ := h.opened
  have hpl := partsT_len t 1
  obtain ⟨w1, hw1⟩ : ∃ w1, w.alloc (.cells #[.int .i64 t.fld.op, .slice A m c, .int .i32 t.fld.rune, .slice a2 s c2, .int .i64 t.fld.at', .int .i64 t.fld.cap, .string t.fld.name, .int .i64 t.fld.min, .int .i64 t.fld.max, .bool t.fld.lazy] 27) = w1 := ⟨_, rfl⟩
  have hb1 : Below w.heap.size w w1 := by rw [← hw1]; exact (Below.refl _ _).alloc (Nat.le_refl _) _
  have hE1 : Whole w1 w.heap.size 27 #[.int .i64 t.fld.op, .slice A m c, .int .i32 t.fld.rune, .slice a2 s c2, .int .i64 t.fld.at', .int .i64 t.fld.cap, .string t.fld.name, .int .i64 t.fld.min, .int .i64 t.fld.max, .bool t.fld.lazy] := by rw [← hw1]; exact heap_alloc_new w _
  have HRT := Lib.hid (pright_any t hp _ w1 (h.below hb1))
  have HW1 := Lib.hid hw1; have HB1 := Lib.hid hb1; have HE1 := Lib.hid hE1
  obtain ⟨e0, e1, e2, e3, e4, e5, e6, e7, e8, e9⟩ := hE1.ten
  clear hw1 hb1 hE1 h hm hs hK hS hF
  refine (callsIn_wide (n := 8)).1 ?_
  refine callsIn_of_wp_marks Try.func14 rfl trivial ?_ rfl
  simp only [Try.ntmps14, List.size_toArray, List.length_cons, List.length_nil, Nat.reduceAdd, Nat.reduceSub, Array.replicate_succ, Array.replicate_zero, List.push_toArray, List.append_toArray, List.nil_append, List.cons_append]
  gi_upto_region 1 with (fail)
  rw [HW1.out]
  gi_wp2_with fail
  refine ⟨trivial, ?_⟩
  gi_at_call 12
  refine (callsIn_wide.2 HRT.out).mono ?_
  rintro e W2 ⟨R, rfl, hq, hb2⟩
  have hE2 : Whole W2 w.heap.size 27 _ := (hb2.block _ HE1.out.lt).trans HE1.out
  have HB2 := Lib.hid (below_two HB1.out hb2)
  have HNB : Hid (R = false → ¬ RightT t) := Lib.hid fun e g => by rw [hq.2 g] at e; cases e
  have HYB : Hid (R = true → RightT t) := Lib.hid hq.1
  clear e0 e1 e2 e3 e4 e5 e6 e7 e8 e9 hb2 HE1 HB1 HW1 HRT hq
  cases R
  · have NB := Lib.hid (HNB.out rfl)
    clear HNB HYB
    gi_wp2_with fail
    exact ⟨_, results_tmp rfl _ _ _, HB2.out, .inl ⟨NB.out, rfl⟩⟩
  have YB := Lib.hid (HYB.out rfl)
  clear HNB HYB
  obtain ⟨q, hq⟩ : ∃ q, W2.heap.size = q := ⟨_, rfl⟩
  obtain ⟨W3, hW3⟩ : ∃ W3, (W2.alloc (.cells #[.string ⟨#[]⟩] 9)).alloc (.cells #[.slice (some ⟨W2.heap.size, 0, none⟩) 1 1] 30) = W3 := ⟨_, rfl⟩
  have hB3 : Below W2.heap.size W2 W3 := by rw [← hW3]; exact ((Below.refl _ W2).alloc (Nat.le_refl _) _).alloc (by simp) _
  have hs3 : W3.heap.size = q + 2 := by rw [← hW3]; simp [hq]
  have hC3 : CBox w q [⟨#[]⟩] W3 := by
    have h1 : (W2.alloc (.cells #[.string ⟨#[]⟩] 9)).ownsRow W2.heap.size 9 1 (.slice (some ⟨W2.heap.size, 0, none⟩) 1 1) 1 (litsS [⟨#[]⟩]) := World.ownsRow_lit W2 #[.string ⟨#[]⟩] 1 (Nat.le_refl _) (by unfold maxLen; omega) rfl
    have h2 := World.ownsRow.kept h1 (World.grownBy_alloc (W2.alloc (.cells #[.string ⟨#[]⟩] 9)) (.cells #[.slice (some ⟨W2.heap.size, 0, none⟩) 1 1] 30) none) (Classical.em _)
    have h3 := Boxed.new (W2.alloc (.cells #[.string ⟨#[]⟩] 9)) 30 (.slice (some ⟨W2.heap.size, 0, none⟩) 1 1)
    simp only [World.size_alloc] at h3
    rw [hW3] at h2 h3
    have hle := HB2.out.size
    rw [hq] at h2 h3 hle
    exact ⟨⟨_, h3, Go.Joins.ownsRow_le h2 hle, trivial⟩, HB2.out.trans (hB3.mono HB2.out.size)⟩
  have hE3 := hE2.below hB3 (by have := hE2.lt; omega)
  obtain ⟨e0, e1, e2, e3, e4, e5, e6, e7, e8, e9⟩ := hE2.ten
  obtain ⟨f0, f1, f2, f3, f4, f5, f6, f7, f8, f9⟩ := hE3.ten
  have hqw : w.heap.size ≤ q := by rw [← hq]; exact HB2.out.size
  have HW3 := Lib.hid hW3; have HC3 := Lib.hid hC3; have HS3 := Lib.hid hs3; have HQ := Lib.hid hq
  clear hW3 hB3 hC3 hE3 hE2 hs3 hq
  gi_upto_region 4 with (fail)
  rw [HW3.out, HQ.out]
  clear e0 e1 e2 e3 e4 e5 e6 e7 e8 e9
  gi_wp2_with (refine ⟨trivial, ?_⟩; gi_at_call 32; refine (callsIn_wide.2 (pparts_any _ _ _ _ _ _ _ _ _ _ _)).mono ?_; rintro e W1 ⟨rfl, rfl⟩)
  obtain ⟨w3, hw3⟩ : ∃ w3, W3.alloc (.cells #[.int .i64 t.fld.op, .slice A m c, .int .i32 t.fld.rune, .slice a2 s c2, .int .i64 t.fld.at', .int .i64 t.fld.cap, .string t.fld.name, .int .i64 t.fld.min, .int .i64 t.fld.max, .bool t.fld.lazy] 27) = w3 := ⟨_, rfl⟩
  have hE3 := box10_new W3 27 (.int .i64 t.fld.op) (.slice A m c) (.int .i32 t.fld.rune) (.slice a2 s c2) (.int .i64 t.fld.at') (.int .i64 t.fld.cap) (.string t.fld.name) (.int .i64 t.fld.min) (.int .i64 t.fld.max) (.bool t.fld.lazy)
  have hC4 : CBox w q [⟨#[]⟩] w3 := by rw [← hw3]; exact HC3.out.below ((Below.refl _ _).alloc (Nat.le_refl _) _)
  have hs4 : w3.heap.size = q + 3 := by rw [← hw3]; simp [HS3.out]
  rw [hw3, HS3.out] at hE3
  rw [hw3, HS3.out]
  clear f0 f1 f2 f3 f4 f5 f6 f7 f8 f9 hw3 HC3 HS3 HW3
  have HC4 := Lib.hid hC4
  refine wpIn_rangeFunc_ownH rfl (by decide) (gf := 46) (lb := #[.pointer (some ⟨q + 2, 0, none⟩)]) rfl trivial (enters_of Try.func46 (by kernel_rfl) rfl)
    (parts_stops 7 (q + 2) w t hp _ w3 hC4.2 H0.out (by intro x0 x1 x2 x3 x4 x5 x6 x7 x8 x9 e; injection e with e; injection e with e; cases e; exact hE3)) KpT.trans
    (fun W l ob ob' hl h1 h2 h3 => ⟨belowK_b (w := w) (Nat.le_refl _) W l ob ob' (by omega) h1 h2 h3, KeepsTr.grown (grownBy_putObj' W l ob') (fun r e cs h => by cases e; rw [h1] at h; cases h; cases h2)⟩) (Below.refl _ _) (fun _ => rfl)
    (fun pre W => CBox w q (namesC (keys pre)) W)
    (fun _ _ _ => False)
    (cbox_own (by omega))
    (fun _ _ _ _ _ hs _ _ => hs)
    hC4
    (PartAt (q + 2) fun x Bx => { tmps := #[.agg #[.int .i64 t.fld.op, .slice A m c, .int .i32 t.fld.rune, .slice a2 s c2, .int .i64 t.fld.at', .int .i64 t.fld.cap, .string t.fld.name, .int .i64 t.fld.min, .int .i64 t.fld.max, .bool t.fld.lazy], .pointer (some ⟨w.heap.size, 0, none⟩), .slice none 0 0, .pointer (some ⟨q + 1, 0, none⟩), .pointer (some ⟨Bx, 0, none⟩), .agg #[.int .i64 t.fld.op, .slice A m c, .int .i32 t.fld.rune, .slice a2 s c2, .int .i64 t.fld.at', .int .i64 t.fld.cap, .string t.fld.name, .int .i64 t.fld.min, .int .i64 t.fld.max, .bool t.fld.lazy], .bool true, .bool false, .slice (some ⟨q, 0, none⟩) 1 1, .agg #[.int .i64 t.fld.op, .slice A m c, .int .i32 t.fld.rune, .slice a2 s c2, .int .i64 t.fld.at', .int .i64 t.fld.cap, .string t.fld.name, .int .i64 t.fld.min, .int .i64 t.fld.max, .bool t.fld.lazy], .func (.func 46) #[] #[.pointer (some ⟨q + 2, 0, none⟩)], x.1.2.1, .int .i64 x.1.2.2, undef, undef, undef, undef, undef, undef, undef, undef, undef], defers := [] })
    partAt_own ?assign ?body ?done ?stop
  case assign =>
    rintro l pre x W K hC hK
    obtain ⟨A', n', c', a2', s', c2', hv⟩ := part_opened x
    have hvl : Part.vals x = #[.agg #[.int .i64 x.1.1.fld.op, .slice A' n' c', .int .i32 x.1.1.fld.rune, .slice a2' s' c2', .int .i64 x.1.1.fld.at', .int .i64 x.1.1.fld.cap, .string x.1.1.fld.name, .int .i64 x.1.1.fld.min, .int .i64 x.1.1.fld.max, .bool x.1.1.fld.lazy], .int .i64 x.1.2.2] := by unfold Part.vals; rw [hv]
    rw [hvl]
    have HK := Lib.hid hK; have HC := Lib.hid hC; have HV := Lib.hid hv
    obtain ⟨wn, hwn⟩ : ∃ wn, W.alloc (.cells #[.int .i64 x.1.1.fld.op, .slice A' n' c', .int .i32 x.1.1.fld.rune, .slice a2' s' c2', .int .i64 x.1.1.fld.at', .int .i64 x.1.1.fld.cap, .string x.1.1.fld.name, .int .i64 x.1.1.fld.min, .int .i64 x.1.1.fld.max, .bool x.1.1.fld.lazy] 27) = wn := ⟨_, rfl⟩
    have HWN := Lib.hid hwn
    clear hK hC hv hwn hvl
    gi_wp2
    rw [HWN.out]
    have hbn : Below W.heap.size W wn := by rw [← HWN.out]; exact (Below.refl _ _).alloc (Nat.le_refl _) _
    refine HK.out _ _ ((others_below hbn).from _) (KpT.below HC.out.2.size hbn) (HC.out.below hbn) ⟨W.heap.size, _, by obtain ⟨⟨v0, h1, -⟩, -⟩ := HC.out; exact h1.lt, HV.out, by rw [← HWN.out]; exact heap_alloc_new W _, by dsimp only; rw [HV.out]⟩
  case body =>
    rintro l pre x a' W hl hr hCB ⟨Bx, cs, hBx, hv, hC, rfl⟩ hlt
    obtain ⟨A', n', c', a2', s', c2', hv'⟩ := part_opened x
    rw [hv'] at hv
    injection hv with hv
    subst hv
    have hks : keys (pre ++ [x]) = keys pre ++ [(x.1.1, x.1.2.2)] := keys_snoc pre x
    have hnl := namesC_len (keys pre)
    rw [keys_length] at hnl
    dsimp only
    rw [hv']
    obtain ⟨tk, htk⟩ : ∃ tk, x.1.1 = tk := ⟨_, rfl⟩
    rw [htk] at hks hC ⊢
    have hsn := namesC_snoc (keys pre) (tk, x.1.2.2)
    rw [← hks] at hsn
    obtain ⟨L, hL⟩ : ∃ L, namesC (keys pre) = L := ⟨_, rfl⟩
    rw [hL] at hsn hnl hCB
    have HC := Lib.hid hCB; have HSN := Lib.hid hsn
    obtain ⟨e0, e1, e2, e3, e4, e5, e6, e7, e8, e9⟩ := Whole.ten hC
    obtain ⟨⟨v0, hb0, hr0, -⟩, hB0⟩ := hCB
    have k1 := hb0.cell
    have g1 := hb0.frozen
    obtain ⟨op, hop⟩ : ∃ op, tk.fld.op = op := ⟨_, rfl⟩
    obtain ⟨nm, hnm⟩ : ∃ nm, tk.fld.name = nm := ⟨_, rfl⟩
    rw [hop] at e0
    rw [hnm] at e6
    have HB0 := Lib.hid hb0; have HR0 := Lib.hid hr0; have HBW := Lib.hid hB0
    have HSN2 : Hid (namesC (keys (pre ++ [x])) = if op = 6 then L ++ [nm] else L) := Lib.hid (by rw [HSN.out, ← hop, ← hnm])
    clear hks hC hv' htk hop hnm hL hb0 hr0 hB0 hsn HSN
    by_cases h6 : op = 6
    rotate_left
    · have d6 : (op == 6) = false := beq_eq_false_iff_ne.2 h6
      have hn := HSN2.out
      rw [if_neg h6] at hn
      have HN := Lib.hid hn
      clear h6 hn
      gi_wp2_with fail
      exact ⟨KeepsFrom.refl _ _, ⟨Below.refl _ _, KeepsTr.refl _⟩, by dsimp only; rw [HN.out]; exact HC.out⟩
    subst h6
    have hn : namesC (keys (pre ++ [x])) = L ++ [nm] := HSN2.out
    have HN := Lib.hid hn
    have hra : (W.alloc (.cells #[.string nm] 9)).ownsRow w.heap.size 9 1 v0 L.length (litsS L) := World.ownsRow.kept HR0.out (World.grownBy_alloc W _ none) (by cases v0.ownBlock <;> simp)
    have hszW := HBW.out.size
    obtain ⟨i0, hi, hz0, hz1, hz2⟩ := info_parts info_str
    clear HSN2 hn
    gi_wp2_with (gi_at_builtin; refine wpListIn_append_own _ rfl _ _ 30 rfl w.heap.size 9 i0 (.string ⟨#[]⟩) 1 16 Try.underlying30 hi hz0 hz1 hz2 rfl (by decide) _ _ _ rfl hra ⟨W.heap.size, 0, none⟩ 1 1 [.string nm] rfl rfl (cell_one_new _ _ _) (by simp [Value.oneCell']) (by unfold maxLen; omega) (by omega) (by simp; omega) ?_; intro v' w1 hown' hgrow _; have HAP := Lib.hid hown'; have HGR := Lib.hid hgrow; obtain ⟨g', cap', rfl⟩ := ownsRow_succ hown'; obtain ⟨hv1, -⟩ := HB0.out.appended (by decide) HR0.out hszW (by omega) hown' hgrow; have t1 := hv1.cell; have t2 := hv1.frozen; clear hown' hgrow hv1)
    obtain ⟨a1, a2'', a3, a4, a5⟩ := HB0.out.appended (by decide) HR0.out hszW (by omega) HAP.out HGR.out
    have hkt : KeepsTr W (w1.setCell ⟨q + 1, 0, none⟩ (.slice (some ⟨g', 0, none⟩) (L.length + 1) cap')) :=
      ((KeepsTr.below ((Below.refl _ W).alloc (Nat.le_refl _) _)).trans (row_off_tr hra (by decide) HGR.out)).trans (KeepsTr.set a1 (by decide) _)
    refine ⟨a4.from _, ⟨a5, hkt⟩, ?_⟩
    dsimp only
    rw [HN.out]
    exact ⟨⟨_, a2'', by rw [List.length_append, litsS_append]; exact a3, trivial⟩, HBW.out.trans a5⟩
  case done =>
    rintro D xs W hD hS ⟨⟨v0, hb0, hr0, -⟩, hB⟩ hK
    rw [hS, namesC_parts] at hr0
    have HB := Lib.hid hB; have HK := Lib.hid hK; have HR0 := Lib.hid hr0
    have c2 := hb0.cell
    clear hB hK hS hr0 hb0
    gi_wp2
    refine ⟨by simp, .inl ⟨_, _, rfl, run_takeDeferred HK.out, ?_⟩⟩
    exact ⟨_, results_tmp rfl _ _ _, HB.out.trans (belowK_b (w := w) (Nat.le_refl _) W D _ _ (by omega) HK.out rfl rfl), .inr ⟨YB.out, v0, rfl, ownsRow_putObj HR0.out _ HK.out rfl⟩⟩
  case stop =>
    rintro D c pre W _ _ h _
    exact h.elim
end Go.Proofs.Ythapafaeakgfpaa
