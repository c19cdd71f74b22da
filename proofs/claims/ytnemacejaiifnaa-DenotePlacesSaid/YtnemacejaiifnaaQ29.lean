/- Texts merged by program: PShaped. No condition. -/
import Derived.Test.YtnemacejaiifnaaQ25
import Derived.Test.YtnemacejaiifnaaQ28
set_option linter.unusedVariables false
/- Is it right but for its groups' numbers and names, its depth and its weight: the program's Shaped, at any tree. -/
namespace Go.Proofs.Ytnemacejaiifnaa
open Go Go.RowKit Go.Shelf
attribute [local go_sem] Oper.semAt_some

theorem shaped_parts (t : Tr) : ∀ d, ShapedP t ↔ ∀ q ∈ partsT t d, SoundF q.1.fld q.1.kids.length := by
  refine Tr.ind (P := fun t => ∀ d, ShapedP t ↔ ∀ q ∈ partsT t d, SoundF q.1.fld q.1.kids.length) (fun t ih d => ?_) t
  rw [shapedP_iff, partsT_eq]
  constructor
  · rintro ⟨h1, h2, h3, h4⟩ q hq
    rcases List.mem_cons.1 hq with rfl | hq
    · exact ⟨h1, h2, h3⟩
    · obtain ⟨l, hl, hq⟩ := List.mem_flatten.1 hq
      obtain ⟨k, hk, rfl⟩ := List.mem_map.1 hl
      exact (ih k hk (d + 1)).1 (h4 k hk) q hq
  · intro h
    obtain ⟨h1, h2, h3⟩ := h (t, d) (by simp)
    exact ⟨h1, h2, h3, fun k hk => (ih k hk (d + 1)).2 fun q hq => h q (List.mem_cons_of_mem _ (List.mem_flatten.2 ⟨_, List.mem_map.2 ⟨k, hk, rfl⟩, hq⟩))⟩
theorem keys_snoc {W0 : World} (G : List (Part W0)) (x : Part W0) : keys (G ++ [x]) = keys G ++ [x.key] := by simp [keys]
theorem others_below {W W' : World} (h : Below W.heap.size W W') : KeepsOthers W W' := KeepsOthers.of_grownBy (row := none) ⟨h.os, h.tape, h.output, h.size, fun k hk _ => h.block k hk⟩ (fun j o e _ => by cases e)
theorem whole_boxed {W W' : World} {B : Nat} {t : TypeId} {v : Value} (h : Boxed W B t v) (hb : Below W.heap.size W W') : Boxed W' B t v := (hb.block B (Array.getElem?_eq_some_iff.1 h).1).trans h
/-- The part that a round is told, in its box. -/
def PartAt {W0 : World} (S : Nat) (mk : Part W0 → Nat → Act) (x : Part W0) (a' : Act) (W : World) : Prop := ∃ (Bx : Nat) (cs : Array Value), S ≤ Bx ∧ x.1.2.1 = .agg cs ∧ Whole W Bx 27 cs ∧ a' = mk x Bx
theorem partAt_own {W0 : World} {S B : Nat} {mk : Part W0 → Nat → Act} (x : Part W0) (a' : Act) : OwnFrom B (fun (_ : Unit) W => PartAt S mk x a' W) := by
  rintro s A A' row ⟨Bx, cs, e1, e2, e3, e4⟩ hg hr
  exact ⟨Bx, cs, e1, e2, e3.grown hg (fun e => by obtain ⟨o, ho, hc⟩ := (hr _ e).2; rw [show A.heap[Bx]? = _ from e3] at ho; cases ho; cases hc), e4⟩
/-- A part's value laid open. -/
theorem part_opened {W0 : World} (x : Part W0) : ∃ (A : Option Addr) (n c : Nat) (a2 : Option Addr) (s c2 : Nat), x.1.2.1 = .agg #[.int .i64 x.1.1.fld.op, .slice A n c, .int .i32 x.1.1.fld.rune, .slice a2 s c2, .int .i64 x.1.1.fld.at', .int .i64 x.1.1.fld.cap, .string x.1.1.fld.name, .int .i64 x.1.1.fld.min, .int .i64 x.1.1.fld.max, .bool x.1.1.fld.lazy] := by
  obtain ⟨A, n, c, a2, s, c2, -, -, e, -⟩ := x.2.1.opened
  exact ⟨A, n, c, a2, s, c2, e⟩
/-- The box of a bool, and what lay. -/
def BoxB (w : World) (b : Bool) (W : World) : Prop := Boxed W (w.heap.size + 1) 4 (.bool b) ∧ Below w.heap.size w W
theorem boxB_own {β : Type} (w : World) {B : Nat} (hB : w.heap.size ≤ B) (f : β → Bool) : OwnFrom B (fun s W => BoxB w (f s) W) :=
  OwnFrom.and (Own.from (boxed_own (w.heap.size + 1) _ (fun s => Value.bool (f s))) _) (ownFrom_below (Nat.le_refl _) hB)

set_option maxHeartbeats 2000000 in
set_option maxRecDepth 100000 in
theorem pshaped_any (t : Tr) (hp : partsR t ≤ 10000000000) (v : Value) (w : World) (h : Tre w t v) : Calls Try.prog 20 #[v] w (SaysB (ShapedP t) w) := by
  have H0 := Lib.hid h
  obtain ⟨A, m, c, a2, s, c2, hm, hs, rfl, hmb, hsb, hK, hS, hF⟩ := h.opened
  have hsh := shaped_parts t 1
  obtain ⟨w1, hw1⟩ : ∃ w1, w.alloc (.cells #[.int .i64 t.fld.op, .slice A m c, .int .i32 t.fld.rune, .slice a2 s c2, .int .i64 t.fld.at', .int .i64 t.fld.cap, .string t.fld.name, .int .i64 t.fld.min, .int .i64 t.fld.max, .bool t.fld.lazy] 27) = w1 := ⟨_, rfl⟩
  have hb1 : Below w.heap.size w w1 := by rw [← hw1]; exact (Below.refl _ _).alloc (Nat.le_refl _) _
  have hE1 : Whole w1 w.heap.size 27 #[.int .i64 t.fld.op, .slice A m c, .int .i32 t.fld.rune, .slice a2 s c2, .int .i64 t.fld.at', .int .i64 t.fld.cap, .string t.fld.name, .int .i64 t.fld.min, .int .i64 t.fld.max, .bool t.fld.lazy] := by rw [← hw1]; exact heap_alloc_new w _
  have hs1 : w1.heap.size = w.heap.size + 1 := by rw [← hw1]; simp
  obtain ⟨w2, hw2⟩ : ∃ w2, w1.alloc (.cells #[.bool false] 4) = w2 := ⟨_, rfl⟩
  have hb2 : Below w.heap.size w w2 := by rw [← hw2]; exact hb1.alloc (by omega) _
  have hE2 : Whole w2 w.heap.size 27 _ := hw2 ▸ hE1.alloc _
  have hs2 : w2.heap.size = w.heap.size + 2 := by rw [← hw2]; simp [hs1]
  have hX2 : Boxed w2 (w.heap.size + 1) 4 (.bool false) := by rw [← hw2, ← hs1]; exact Boxed.new w1 _ _
  have HW1 := Lib.hid hw1; have HS1 := Lib.hid hs1; have HW2 := Lib.hid hw2; have HB2 := Lib.hid hb2; have HS2 := Lib.hid hs2; have HX2 := Lib.hid hX2; have HM := Lib.hid hsh
  obtain ⟨e0, e1, e2, e3, e4, e5, e6, e7, e8, e9⟩ := hE2.ten
  clear hw1 hb1 hE1 hs1 hw2 hb2 hE2 hs2 hX2 hsh h hm hs hK hS hF
  refine (callsIn_wide (n := 8)).1 ?_
  refine callsIn_of_wp_marks Try.func20 rfl trivial ?_ rfl
  simp only [Try.ntmps20, List.size_toArray, List.length_cons, List.length_nil, Nat.reduceAdd, Nat.reduceSub, Array.replicate_succ, Array.replicate_zero, List.push_toArray, List.append_toArray, List.nil_append, List.cons_append]
  gi_upto_region 1 with (fail)
  rw [HW1.out, HW2.out]
  gi_wp2_with (refine ⟨trivial, ?_⟩; gi_at_call 33; refine (callsIn_wide.2 (pparts_any _ _ _ _ _ _ _ _ _ _ _)).mono ?_; rintro e W1 ⟨rfl, rfl⟩)
  obtain ⟨w3, hw3⟩ : ∃ w3, w2.alloc (.cells #[.int .i64 t.fld.op, .slice A m c, .int .i32 t.fld.rune, .slice a2 s c2, .int .i64 t.fld.at', .int .i64 t.fld.cap, .string t.fld.name, .int .i64 t.fld.min, .int .i64 t.fld.max, .bool t.fld.lazy] 27) = w3 := ⟨_, rfl⟩
  have hb3 : Below w.heap.size w w3 := by rw [← hw3]; exact HB2.out.alloc HB2.out.size _
  have hE3 := box10_new w2 27 (.int .i64 t.fld.op) (.slice A m c) (.int .i32 t.fld.rune) (.slice a2 s c2) (.int .i64 t.fld.at') (.int .i64 t.fld.cap) (.string t.fld.name) (.int .i64 t.fld.min) (.int .i64 t.fld.max) (.bool t.fld.lazy)
  have hX3 : Boxed w3 (w.heap.size + 1) 4 (.bool false) := by rw [← hw3]; exact HX2.out.alloc _
  have hs3 : w3.heap.size = w.heap.size + 3 := by rw [← hw3]; simp [HS2.out]
  rw [hw3, HS2.out] at hE3
  rw [hw3, HS2.out]
  have HB3 := Lib.hid hb3; have HX3 := Lib.hid hX3
  clear e0 e1 e2 e3 e4 e5 e6 e7 e8 e9 hw3 HX2 HB2 HW1 HW2 HS1
  refine wpIn_rangeFunc_ownH rfl (by decide) (gf := 60) (lb := #[.pointer (some ⟨w.heap.size + 2, 0, none⟩)]) rfl trivial (enters_of Try.func60 (by kernel_rfl) rfl)
    (parts_stops 7 (w.heap.size + 2) w t hp _ w3 hb3 H0.out (by intro x0 x1 x2 x3 x4 x5 x6 x7 x8 x9 e; injection e with e; injection e with e; cases e; exact hE3)) KpT.trans
    (fun W l ob ob' hl h1 h2 h3 => ⟨belowK_b (w := w) (Nat.le_refl _) W l ob ob' (by omega) h1 h2 h3, KeepsTr.grown (grownBy_putObj' W l ob') (fun r e cs h => by cases e; rw [h1] at h; cases h; cases h2)⟩) (Below.refl _ _) (fun _ => rfl)
    (fun pre W => (∀ q ∈ keys pre, SoundF q.1.fld q.1.kids.length) ∧ BoxB w false W)
    (fun c pre W => (c = .ret ∧ ∃ q ∈ keys pre, ¬ SoundF q.1.fld q.1.kids.length) ∧ BoxB w false W)
    (OwnFrom.and (ownFrom_pure _ _) (boxB_own w (by omega) _))
    (fun c => OwnFrom.and (ownFrom_pure _ _) (boxB_own w (by omega) _))
    ⟨by simp [keys], hX3, hb3⟩
    (PartAt (w.heap.size + 2) fun x Bx => { tmps := #[.agg #[.int .i64 t.fld.op, .slice A m c, .int .i32 t.fld.rune, .slice a2 s c2, .int .i64 t.fld.at', .int .i64 t.fld.cap, .string t.fld.name, .int .i64 t.fld.min, .int .i64 t.fld.max, .bool t.fld.lazy], .pointer (some ⟨w.heap.size, 0, none⟩), .pointer (some ⟨w.heap.size + 1, 0, none⟩), .pointer (some ⟨Bx, 0, none⟩), .agg #[.int .i64 t.fld.op, .slice A m c, .int .i32 t.fld.rune, .slice a2 s c2, .int .i64 t.fld.at', .int .i64 t.fld.cap, .string t.fld.name, .int .i64 t.fld.min, .int .i64 t.fld.max, .bool t.fld.lazy], .func (.func 60) #[] #[.pointer (some ⟨w.heap.size + 2, 0, none⟩)], x.1.2.1, .int .i64 x.1.2.2, undef, undef, undef], defers := [] })
    partAt_own ?assign ?body ?done ?stop
  case assign =>
    rintro l pre x W K ⟨hq, hX, hB⟩ hK
    obtain ⟨A', n', c', a2', s', c2', hv⟩ := part_opened x
    have hvl : Part.vals x = #[.agg #[.int .i64 x.1.1.fld.op, .slice A' n' c', .int .i32 x.1.1.fld.rune, .slice a2' s' c2', .int .i64 x.1.1.fld.at', .int .i64 x.1.1.fld.cap, .string x.1.1.fld.name, .int .i64 x.1.1.fld.min, .int .i64 x.1.1.fld.max, .bool x.1.1.fld.lazy], .int .i64 x.1.2.2] := by unfold Part.vals; rw [hv]
    rw [hvl]
    have HK := Lib.hid hK; have HX := Lib.hid hX; have HB := Lib.hid hB; have HQ := Lib.hid hq; have HV := Lib.hid hv
    obtain ⟨wn, hwn⟩ : ∃ wn, W.alloc (.cells #[.int .i64 x.1.1.fld.op, .slice A' n' c', .int .i32 x.1.1.fld.rune, .slice a2' s' c2', .int .i64 x.1.1.fld.at', .int .i64 x.1.1.fld.cap, .string x.1.1.fld.name, .int .i64 x.1.1.fld.min, .int .i64 x.1.1.fld.max, .bool x.1.1.fld.lazy] 27) = wn := ⟨_, rfl⟩
    have HWN := Lib.hid hwn
    clear hK hX hB hq hv hwn hvl
    gi_wp2
    rw [HWN.out]
    have hbn : Below W.heap.size W wn := by rw [← HWN.out]; exact (Below.refl _ _).alloc (Nat.le_refl _) _
    refine HK.out _ _ ((others_below hbn).from _) (KpT.below HB.out.size hbn) ⟨HQ.out, whole_boxed HX.out hbn, HB.out.trans (hbn.mono HB.out.size)⟩ ⟨W.heap.size, _, HX.out.lt, HV.out, by rw [← HWN.out]; exact heap_alloc_new W _, by dsimp only; rw [HV.out]⟩
  case body =>
    rintro l pre x a' W hl hr ⟨hq, hX, hB⟩ ⟨Bx, cs, hBx, hv, hC, rfl⟩ hlt
    obtain ⟨A', n', c', a2', s', c2', hv'⟩ := part_opened x
    rw [hv'] at hv
    injection hv with hv
    subst hv
    have hT := x.2.1.below hB
    have hks := keys_snoc pre x
    unfold Part.key at hks
    have hcon := psound_any x.1.1 _ W hT
    dsimp only
    rw [hv'] at hcon ⊢
    obtain ⟨P, hP⟩ : ∃ P, SoundF x.1.1.fld x.1.1.kids.length = P := ⟨_, rfl⟩
    have hall : (∀ q ∈ keys (pre ++ [x]), SoundF q.1.fld q.1.kids.length) ↔ P := by
      rw [hks, ← hP]
      constructor
      · intro h
        exact h (x.1.1, x.1.2.2) (by simp)
      · intro h q hm
        rcases List.mem_append.1 hm with hm | hm
        · exact hq q hm
        · rw [List.mem_singleton.1 hm]
          exact h
    rw [hP] at hcon
    have HX := Lib.hid hX; have HB := Lib.hid hB; have HALL := Lib.hid hall; have HCON := Lib.hid hcon
    obtain ⟨e0, e1, e2, e3, e4, e5, e6, e7, e8, e9⟩ := Whole.ten hC
    clear hX hB hall hcon hT hks hC hv' hP hq
    gi_wp2_with fail
    refine ⟨trivial, ?_⟩
    gi_at_call 34
    refine (CallsIn.inRound l (callsIn_wide.2 HCON.out)).mono ?_
    rintro e W2 ⟨B, rfl, hq, hb2⟩
    have hX2 := whole_boxed HX.out hb2
    have hB2 := HB.out.trans (hb2.mono HB.out.size)
    have HX2 := Lib.hid hX2; have HB2 := Lib.hid hB2; have HBW := Lib.hid hb2
    have HNB : Hid (B = false → ¬ P) := Lib.hid fun e g => by rw [hq.2 g] at e; cases e
    have HYB : Hid (B = true → P) := Lib.hid hq.1
    have c2 := hX2.cell
    have f2 := hX2.frozen
    clear e0 e1 e2 e3 e4 e5 e6 e7 e8 e9 hX2 hB2 hq hb2 HCON
    cases B
    · have NB := Lib.hid (HNB.out rfl)
      clear HNB HYB
      gi_wp2_with fail
      refine ⟨(others_below HBW.out).from _ |>.trans ((KeepsOthers.setCell _ _ _).from _), ⟨rfl, ?_⟩, HX2.out.set _, HB2.out.setCell (p := ⟨w.heap.size + 1, 0, none⟩) (by simp) _⟩
      have h1 : ¬ ∀ q ∈ keys (pre ++ [x]), SoundF q.1.fld q.1.kids.length := fun h => NB.out (HALL.out.1 h)
      exact Classical.not_forall.1 h1 |>.imp fun q h => Classical.not_imp.1 h
    · have YB := Lib.hid (HYB.out rfl)
      clear HNB HYB
      gi_wp2_with fail
      exact ⟨(others_below HBW.out).from _, KpT.below HB.out.size HBW.out, HALL.out.2 YB.out, HX2.out, HB2.out⟩
  case done =>
    rintro D xs W hD hS ⟨hq, hX, hB⟩ hK
    have hsh : ShapedP t := HM.out.2 (by rw [← hS]; exact hq)
    have HX := Lib.hid hX; have HB := Lib.hid hB; have HK := Lib.hid hK; have HSH := Lib.hid hsh
    have c2 := hX.cell
    have f2 := hX.frozen
    clear hX hB hK hS hq hsh
    gi_wp2
    have hK' := (KeepsOthers.setCell W ⟨w.heap.size + 1, 0, none⟩ (.bool true)).same D _ HK.out rfl
    refine ⟨by simp, .inl ⟨_, _, rfl, run_takeDeferred hK', ?_⟩⟩
    have hc5 := cell_kept (HX.out.set (.bool true)).cell (grownBy_putObj' _ D (.deferred none)) (fun r e => by cases e; exact ⟨_, hK', rfl⟩)
    refine ⟨.bool true, ?_, true, rfl, by simp [HSH.out], (HB.out.setCell (p := ⟨w.heap.size + 1, 0, none⟩) (by simp) _).trans (belowK_b (w := w) (Nat.le_refl _) _ D _ _ (by omega) hK' rfl rfl)⟩
    simp [results, Try.f20, go_sem, hc5]
  case stop =>
    rintro D c pre W hD hpre ⟨⟨rfl, q, hq, hn⟩, hX, hB⟩ hK
    have hsh : ¬ ShapedP t := fun h => hn (HM.out.1 h q (hpre.subset hq))
    have HX := Lib.hid hX; have HB := Lib.hid hB; have HK := Lib.hid hK; have HSH := Lib.hid hsh
    clear hX hB hK hq hsh hpre hn
    gi_wp2
    refine ⟨by simp, .inl ⟨_, _, rfl, run_takeDeferred HK.out, ?_⟩⟩
    have hc5 := cell_kept HX.out.cell (grownBy_putObj' _ D (.deferred none)) (fun r e => by cases e; exact ⟨_, HK.out, rfl⟩)
    refine ⟨.bool false, ?_, false, rfl, by simp [HSH.out], HB.out.trans (belowK_b (w := w) (Nat.le_refl _) W D _ _ (by omega) HK.out rfl rfl)⟩
    simp [results, Try.f20, go_sem, hc5]
end Go.Proofs.Ytnemacejaiifnaa
