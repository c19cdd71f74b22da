/- How deep a tree is: the program's Depth, at any tree. -/
import Derived.Test.YthapafaeakgfpaaPParts
set_option linter.unusedVariables false
namespace Go.Proofs.Ythapafaeakgfpaa
open Go Go.RowKit Go.Shelf
attribute [local go_sem] Oper.semAt_some

theorem maxL_depths (t : Tr) : ∀ d, maxL ((partsT t d).map (·.2)) + 1 = d + depthR t := by
  refine Tr.ind (P := fun t => ∀ d, maxL ((partsT t d).map (·.2)) + 1 = d + depthR t) (fun t ih d => ?_) t
  rw [partsT_eq, depthR_eq, List.map_cons, maxL]
  have h : ∀ (l : List Tr), (∀ k ∈ l, ∀ d, maxL ((partsT k d).map (·.2)) + 1 = d + depthR k) → max d (maxL (((l.map fun k => partsT k (d + 1)).flatten).map (·.2))) = d + maxL (l.map depthR) := fun l => by
    induction l with
    | nil => simp [maxL]
    | cons k l ihl =>
      intro hl
      have h1 := hl k (by simp) (d + 1)
      have h2 := ihl fun q hq => hl q (by simp [hq])
      rw [List.map_cons, List.flatten_cons, List.map_append, maxL_append, List.map_cons, maxL]
      omega
  have := h t.kids ih
  simp only at this ⊢
  omega
/-- How deep the deepest part so far stands. -/
def deepOf {W0 : World} (G : List (Part W0)) : Nat := maxL ((keys G).map (·.2))
theorem deepOf_snoc {W0 : World} (G : List (Part W0)) (x : Part W0) : deepOf (G ++ [x]) = max (deepOf G) x.1.2.2 := by
  unfold deepOf
  rw [keys_append, List.map_append, maxL_append]
  simp [keys, maxL]
theorem deepOf_le {W0 : World} (G : List (Part W0)) : deepOf G ≤ 1000002 := by
  refine maxL_le fun x hx => ?_
  simp only [keys, List.map_map, List.mem_map] at hx
  obtain ⟨q, _, rfl⟩ := hx
  exact q.2.2
theorem KeepsTr.set {B : Nat} {t : TypeId} {v : Value} {W : World} (h : Boxed W B t v) (ht : t ≠ 27) (u : Value) : KeepsTr W (W.setCell ⟨B, 0, none⟩ u) :=
  KeepsTr.grown (grownBy_setCell' W B u) fun r e cs h' => by
    cases e
    have := h
    unfold Boxed at this
    rw [h'] at this
    injection this with this
    injection this with _ this
    exact ht this.symm

set_option maxHeartbeats 2000000 in
set_option maxRecDepth 100000 in
theorem pdepth_any (t : Tr) (hp : partsR t ≤ 1000000) (v : Value) (w : World) (h : Tre w t v) : Calls Try.prog 29 #[v] w (SaysN (depthR t) w) := by
  have H0 := Lib.hid h
  obtain ⟨A, m, c, a2, s, c2, hm, hs, rfl, hmb, hsb, hK, hS, hF⟩ := h.opened
  have hmx := maxL_depths t 1
  obtain ⟨w1, hw1⟩ : ∃ w1, w.alloc (.cells #[.int .i64 t.fld.op, .slice A m c, .int .i32 t.fld.rune, .slice a2 s c2, .int .i64 t.fld.at', .int .i64 t.fld.cap, .string t.fld.name, .int .i64 t.fld.min, .int .i64 t.fld.max, .bool t.fld.lazy] 27) = w1 := ⟨_, rfl⟩
  have hb1 : Below w.heap.size w w1 := by rw [← hw1]; exact (Below.refl _ _).alloc (Nat.le_refl _) _
  have hE1 : Whole w1 w.heap.size 27 #[.int .i64 t.fld.op, .slice A m c, .int .i32 t.fld.rune, .slice a2 s c2, .int .i64 t.fld.at', .int .i64 t.fld.cap, .string t.fld.name, .int .i64 t.fld.min, .int .i64 t.fld.max, .bool t.fld.lazy] := by rw [← hw1]; exact heap_alloc_new w _
  have hs1 : w1.heap.size = w.heap.size + 1 := by rw [← hw1]; simp
  obtain ⟨w2, hw2⟩ : ∃ w2, w1.alloc (.cells #[.int .i64 0] 3) = w2 := ⟨_, rfl⟩
  have hb2 : Below w.heap.size w w2 := by rw [← hw2]; exact hb1.alloc (by omega) _
  have hE2 : Whole w2 w.heap.size 27 _ := hw2 ▸ hE1.alloc _
  have hs2 : w2.heap.size = w.heap.size + 2 := by rw [← hw2]; simp [hs1]
  have hX2 : Boxed w2 (w.heap.size + 1) 3 (.int .i64 0) := by rw [← hw2, ← hs1]; exact Boxed.new w1 _ _
  have HW1 := Lib.hid hw1; have HS1 := Lib.hid hs1; have HW2 := Lib.hid hw2; have HB2 := Lib.hid hb2; have HS2 := Lib.hid hs2; have HX2 := Lib.hid hX2; have HM := Lib.hid hmx
  obtain ⟨e0, e1, e2, e3, e4, e5, e6, e7, e8, e9⟩ := hE2.ten
  clear hw1 hb1 hE1 hs1 hw2 hb2 hE2 hs2 hX2 hmx h hm hs hK hS hF
  refine (callsIn_wide (n := 8)).1 ?_
  refine callsIn_of_wp_marks Try.func29 rfl trivial ?_ rfl
  simp only [Try.ntmps29, List.size_toArray, List.length_cons, List.length_nil, Nat.reduceAdd, Nat.reduceSub, Array.replicate_succ, Array.replicate_zero, List.push_toArray, List.append_toArray, List.nil_append, List.cons_append]
  gi_upto_region 1 with (fail)
  rw [HW1.out]
  gi_upto_region 2 with (fail)
  rw [HW2.out, HS1.out]
  gi_wp2_with (refine ⟨trivial, ?_⟩; gi_at_call 32; refine (callsIn_wide.2 (pparts_any _ _ _ _ _ _ _ _ _ _ _)).mono ?_; rintro e W1 ⟨rfl, rfl⟩)
  obtain ⟨w3, hw3⟩ : ∃ w3, w2.alloc (.cells #[.int .i64 t.fld.op, .slice A m c, .int .i32 t.fld.rune, .slice a2 s c2, .int .i64 t.fld.at', .int .i64 t.fld.cap, .string t.fld.name, .int .i64 t.fld.min, .int .i64 t.fld.max, .bool t.fld.lazy] 27) = w3 := ⟨_, rfl⟩
  have hb3 : Below w.heap.size w w3 := by rw [← hw3]; exact HB2.out.alloc HB2.out.size _
  have hE3 := box10_new w2 27 (.int .i64 t.fld.op) (.slice A m c) (.int .i32 t.fld.rune) (.slice a2 s c2) (.int .i64 t.fld.at') (.int .i64 t.fld.cap) (.string t.fld.name) (.int .i64 t.fld.min) (.int .i64 t.fld.max) (.bool t.fld.lazy)
  have hX3 : Boxed w3 (w.heap.size + 1) 3 (.int .i64 0) := by rw [← hw3]; exact HX2.out.alloc _
  have hs3 : w3.heap.size = w.heap.size + 3 := by rw [← hw3]; simp [HS2.out]
  rw [hw3, HS2.out] at hE3
  rw [hw3, HS2.out]
  have HB3 := Lib.hid hb3; have HX3 := Lib.hid hX3
  clear e0 e1 e2 e3 e4 e5 e6 e7 e8 e9 hw3 HX2 HB2 HW1 HW2 HS1
  refine wpIn_rangeFunc_ownG rfl (by decide) (gf := 46) (lb := #[.pointer (some ⟨w.heap.size + 2, 0, none⟩)]) rfl trivial (enters_of Try.func46 (by kernel_rfl) rfl)
    (parts_stops 7 (w.heap.size + 2) w t hp _ w3 hb3 H0.out (by intro x0 x1 x2 x3 x4 x5 x6 x7 x8 x9 e; injection e with e; injection e with e; cases e; exact hE3)) KpT.trans
    (fun W l ob ob' hl h1 h2 h3 => ⟨belowK_b (w := w) (Nat.le_refl _) W l ob ob' (by omega) h1 h2 h3, KeepsTr.grown (grownBy_putObj' W l ob') (fun r e cs h => by cases e; rw [h1] at h; cases h; cases h2)⟩) (Below.refl _ _) (fun _ => rfl)
    (fun pre W => Boxed W (w.heap.size + 1) 3 (.int .i64 (deepOf pre)) ∧ Below w.heap.size w W)
    (fun _ _ _ => False)
    (OwnFrom.and (Own.from (boxed_own (w.heap.size + 1) _ (fun pre => Value.int .i64 (deepOf pre))) _) (ownFrom_below (Nat.le_refl _) (by omega)))
    (fun _ _ _ _ _ hs _ _ => hs)
    ⟨hX3, hb3⟩
    (fun x => { tmps := #[.agg #[.int .i64 t.fld.op, .slice A m c, .int .i32 t.fld.rune, .slice a2 s c2, .int .i64 t.fld.at', .int .i64 t.fld.cap, .string t.fld.name, .int .i64 t.fld.min, .int .i64 t.fld.max, .bool t.fld.lazy], .pointer (some ⟨w.heap.size, 0, none⟩), .int .i64 0, .pointer (some ⟨w.heap.size + 1, 0, none⟩), undef, .int .i64 x.1.2.2, .agg #[.int .i64 t.fld.op, .slice A m c, .int .i32 t.fld.rune, .slice a2 s c2, .int .i64 t.fld.at', .int .i64 t.fld.cap, .string t.fld.name, .int .i64 t.fld.min, .int .i64 t.fld.max, .bool t.fld.lazy], .func (.func 46) #[] #[.pointer (some ⟨w.heap.size + 2, 0, none⟩)], x.1.2.1, .int .i64 x.1.2.2, undef, undef, undef, undef], defers := [] }) ?assign ?body ?done ?stop
  case assign =>
    intro l x W K hK
    gi_wp2
    exact hK
  case body =>
    rintro l pre x W ⟨hX, hB⟩ hlt
    have hsn := deepOf_snoc pre x
    have hx2 : x.1.2.2 ≤ 1000002 := x.2.2
    obtain ⟨D, hD⟩ : ∃ D, deepOf pre = D := ⟨_, rfl⟩
    rw [hD] at hX hsn
    have HSN := Lib.hid hsn; have HX := Lib.hid hX; have HB := Lib.hid hB
    have c3 : W.cell? ⟨w.heap.size + 1, 0, none⟩ = _ := hX.cell
    have f3 : W.frozen? ⟨w.heap.size + 1, 0, none⟩ = _ := hX.frozen
    obtain ⟨⟨tk, vk, dk⟩, hx⟩ := x
    simp only at hx2 HSN
    obtain ⟨M, hM⟩ : ∃ M : Nat, max D dk = M := ⟨_, rfl⟩
    rw [hM] at HSN
    have hmx : ∀ (ts : Array TypeId) (ty : TypeId) (W : World), (Builtin.max_ ts ty #[.int .i64 D, .int .i64 dk]).run Try.prog W = .ok (.int .i64 M) W := fun ts ty W => by
      rw [run_max_int2, ← hM]
      congr 2
      omega
    clear hX hB hsn hD hM
    dsimp only
    gi_wp2
    have hS := (Below.refl w.heap.size W).setCell (p := ⟨w.heap.size + 1, 0, none⟩) (by simp) (.int .i64 (M : Int))
    exact ⟨(KeepsOthers.setCell _ _ _).from _, ⟨hS, KeepsTr.set HX.out (by decide) _⟩, by rw [HSN.out]; exact HX.out.set _, HB.out.trans hS⟩
  case done =>
    rintro D xs W hD hS ⟨hX, hB⟩ hK
    have hdp : deepOf xs = depthR t := by unfold deepOf; rw [hS]; have := HM.out; omega
    rw [hdp] at hX
    have HX := Lib.hid hX; have HB := Lib.hid hB; have HK := Lib.hid hK
    have c3 := hX.cell
    clear hX hB hK hS hdp
    gi_wp2
    refine ⟨by simp, .inl ⟨_, _, rfl, run_takeDeferred HK.out, ?_⟩⟩
    exact ⟨_, results_tmp rfl _ _ _, rfl, HB.out.trans (belowK_b (w := w) (Nat.le_refl _) W D _ _ (by omega) HK.out rfl rfl)⟩
  case stop =>
    rintro D c pre W _ _ h _
    exact h.elim
end Go.Proofs.Ythapafaeakgfpaa
