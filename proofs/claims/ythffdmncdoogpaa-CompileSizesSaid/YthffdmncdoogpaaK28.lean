/- Texts merged by program: CoCompile. No condition. -/
import Derived.Test.YthffdmncdoogpaaK21
import Derived.Test.YthffdmncdoogpaaK26
import Derived.Test.YthffdmncdoogpaaK27
import Derived.Laws.ResultCell
set_option linter.unusedVariables false
/- The program's Compile. No condition. -/
namespace Go.Proofs.Ythffdmncdoogpaa
open Go Go.RowKit

def PCountOf (t : Tr) : Prop := ∀ (v : Value) (w : World), Tre w t v → Calls Try.prog 33 #[v] w (SaysB (¬ NoRep t) w)
set_option maxHeartbeats 1600000 in
set_option maxRecDepth 100000 in
theorem pcounted_any (t : Tr) : PCountOf t := by
  refine Tr.ind (P := PCountOf) (fun t ih v w h => ?_) t
  have H0 := Lib.hid h
  obtain ⟨A, n, c, a2, s, c2, hn, hs, rfl, hnb, hsb, hK, hS, hF⟩ := h.opened
  obtain ⟨w1, hw1⟩ : ∃ w1, w.alloc (.cells #[.int .i64 t.fld.op, .slice A n c, .int .i32 t.fld.rune, .slice a2 s c2, .int .i64 t.fld.at', .int .i64 t.fld.cap, .string t.fld.name, .int .i64 t.fld.min, .int .i64 t.fld.max, .bool t.fld.lazy] 45) = w1 := ⟨_, rfl⟩
  have hb1 : Below w.heap.size w w1 := by rw [← hw1]; exact (Below.refl _ _).alloc (Nat.le_refl _) _
  have hE1 := box10_new w 45 (.int .i64 t.fld.op) (.slice A n c) (.int .i32 t.fld.rune) (.slice a2 s c2) (.int .i64 t.fld.at') (.int .i64 t.fld.cap) (.string t.fld.name) (.int .i64 t.fld.min) (.int .i64 t.fld.max) (.bool t.fld.lazy)
  rw [hw1] at hE1
  have HB1 := Lib.hid hb1; have HW1 := Lib.hid hw1
  have HC := Lib.hid (contains_any t.kids (fun k => ¬ NoRep k) 33 (enters_of Try.func33 (by kernel_rfl) rfl) (fun k hk v w hv => ih k hk v w hv) (.slice A n c) w1 (hK.below hb1))
  obtain ⟨P, hP⟩ : ∃ P, (¬ NoRep t) = P := ⟨_, rfl⟩
  have HP : Hid (P ↔ (t.fld.op = 10 ∨ ∃ k ∈ t.kids, ¬ NoRep k)) := Lib.hid (by
    rw [← hP, noRep_iff]
    constructor
    · intro h
      by_cases e : t.fld.op = 10
      · exact .inl e
      · right
        apply Classical.byContradiction
        intro h2
        refine h ⟨e, fun k hk => ?_⟩
        apply Classical.byContradiction
        intro h3
        exact h2 ⟨k, hk, h3⟩
    · rintro (e | ⟨k, hk, h⟩) ⟨h1, h2⟩
      · exact h1 e
      · exact h (h2 k hk))
  rw [hP]
  obtain ⟨e0, e1, -⟩ := hE1
  obtain ⟨op, hop⟩ : ∃ op, t.fld.op = op := ⟨_, rfl⟩
  have HOP := Lib.hid hop
  rw [hop] at e0
  clear h hw1 hb1 hn hs hK hS hF hP ih hop
  go_enter Try.func33, Try.ntmps33
  go_upto_region 1 with (fail)
  rw [HW1.out]
  by_cases h10 : op = 10
  · have H10 := Lib.hid h10
    subst h10
    go_wp2_with fail
    go_ret
    exact ⟨true, rfl, ⟨fun _ => HP.out.2 (.inl (by rw [HOP.out])), fun _ => rfl⟩, HB1.out⟩
  · have n10 : (op == 10) = false := beq_eq_false_iff_ne.2 h10
    have H10 := Lib.hid h10
    clear h10
    go_wp2_with fail
    refine HC.out.mono ?_
    rintro e w3 ⟨B, rfl, hq, hb3⟩
    have HB3 := Lib.hid (below_two HB1.out hb3); have HQ := Lib.hid hq
    clear hb3 hq e0 e1
    go_wp2_with fail
    go_ret
    exact ⟨B, rfl, ⟨fun h => HP.out.2 (.inr (HQ.out.1 h)), fun h => HQ.out.2 ((HP.out.1 h).resolve_left (fun e => H10.out (by rw [← HOP.out]; exact e)))⟩, HB3.out⟩

theorem loadVar_prog {w : World} {b : Nat} {cs : Array Value} (h : Whole w b 24 cs) (hn : cs.size = 3) : (loadVar 24 ⟨b, 0, none⟩).run Try.prog w = .ok (.agg cs) w :=
  run_loadVar_row w b _ _ cs (0, 0) _ h Try.underlying24 rfl (by rw [hn]; kernel_rfl)
theorem results_pt {fn : Func} {p q : Tmp} (h : fn.results = #[.cell p 24, .tmp q]) (tmps : Array Value) {w : World} {a : Nat} {es : Array Value} (ha : tmps.getD p undef = .pointer (some ⟨a, 0, none⟩)) (hE : Whole w a 24 es) (he : es.size = 3) :
    (results fn tmps).run Try.prog w = .ok (.tuple #[.agg es, tmps.getD q undef]) w := by
  have ha' : tmps[p]?.getD undef = .pointer (some ⟨a, 0, none⟩) := by simpa using ha
  simp [results, h, ha', asAddr, loadVar_prog hE he]
theorem make_insts (n : Nat) (hn : n ≤ 10001) : ∃ C : Array Value, C.size = n * 5 ∧ ∀ W : World, (Instr.makeSlice 22 (.int .i64 0) (.int .i64 (n : Int))).run Try.prog W = .ok (.slice (some ⟨W.heap.size, 0, none⟩) 0 n) (W.alloc (.cells C 39)) := by
  obtain ⟨i, hi, hz, hsize, hby⟩ := info_parts info_inst
  refine ⟨madeCells (Value.agg #[.int .i64 0, .int .i64 0, .int .i64 0, .slice none 0 0, .int .i64 0]).cells (n * i.size), by rw [size_madeCells, hsize], fun W => ?_⟩
  have h := run_make (P := Try.prog) W 22 39 i _ Try.underlying22 hi hz .i64 .i64 0 (n : Int) (by omega) (by omega) (by rw [hby]; omega) (by omega)
  simpa using h
theorem ownI_set {w : World} {B : Nat} {v : Value} {L : List Ins} (h : OwnI w B v L) {b : Nat} {t : TypeId} {cs : Array Value} (hw : Whole w b t cs) (ht : t ≠ 39) (hr : t ≠ 55) (j : Nat) (u : Value) : OwnI (w.setCell ⟨b, j, none⟩ u) B v L :=
  h.kept (fun k hk => Below.heap_setCell w _ _ k (fun e => not_kindI hw ht (by subst e; exact h.kind hk))) (same_set_r hw hr u)
theorem ownI_none (w : World) (B : Nat) : OwnI w B (.slice none 0 0) [] := ⟨[], rfl, World.ownsRow_nil _ _ _ _, fun i h => by simp at h⟩
theorem ownI_made (w : World) (C : Array Value) (n B : Nat) (hC : C.size = n * 5) (hn : n ≤ 10001) (hB : B ≤ w.heap.size) : OwnI (w.alloc (.cells C 39)) B (.slice (some ⟨w.heap.size, 0, none⟩) 0 n) [] :=
  ⟨[], rfl, ⟨rfl, .inr ⟨w.heap.size, n, C, rfl, hB, heap_alloc_new w _, Nat.zero_le _, by unfold maxLen; omega, hC, by simp [cells5]⟩⟩, fun i h => by simp at h⟩
/-- Three cells, set anew. -/
def set3p (w : World) (b : Nat) (x0 x1 x2 : Value) : World := ((w.setCell ⟨b, 0, none⟩ x0).setCell ⟨b, 1, none⟩ x1).setCell ⟨b, 2, none⟩ x2
theorem set3p_whole {w : World} {b : Nat} {t : TypeId} {y0 y1 y2 : Value} (h : Whole w b t #[y0, y1, y2]) (x0 x1 x2 : Value) : Whole (set3p w b x0 x1 x2) b t #[x0, x1, x2] := by
  have h3 := ((h.store 0 x0).store 1 x1).store 2 x2
  simp only [List.setIfInBounds_toArray, List.set_cons_zero, List.set_cons_succ] at h3
  exact h3
theorem set3p_below {B b : Nat} {w0 w : World} (h : Below B w0 w) (hb : B ≤ b) (x0 x1 x2 : Value) : Below B w0 (set3p w b x0 x1 x2) :=
  ((h.setCell (p := ⟨b, 0, none⟩) hb x0).setCell (p := ⟨b, 1, none⟩) hb x1).setCell (p := ⟨b, 2, none⟩) hb x2
theorem comp_ret {fn : Func} (hres : fn.results = #[.cell 4 24, .tmp 5]) {post : Ending → World → Prop} {W : World} {tmps : Array Value} {b : Nat} {er : Int} {x0 x1 x2 y0 y1 y2 : Value} (h4 : tmps.getD 4 undef = .pointer (some ⟨b, 0, none⟩)) (h5 : tmps.getD 5 undef = .int .i64 er)
    (hR : Whole W b 24 #[y0, y1, y2]) (hpost : post (.returned (.tuple #[.agg #[x0, x1, x2], .int .i64 er])) (set3p W b x0 x1 x2)) : bodyPost Try.prog fn post Exit.ret { tmps := tmps, defers := [] } (set3p W b x0 x1 x2) := by
  refine bodyPost_ret (v := .tuple #[.agg #[x0, x1, x2], .int .i64 er]) ?_ rfl hpost
  have := results_pt hres tmps h4 (set3p_whole hR x0 x1 x2) rfl
  rwa [h5] at this
/-- What Compile tells. -/
def CompPost (t : Tr) (g : Int) (w : World) (e : Ending) (w' : World) : Prop := ∃ v, e = .returned (.tuple #[v, .int .i64 (compT t g).2]) ∧ PgV w' (compT t g).1 v ∧ Below w.heap.size w w'
theorem pgV_zero (w : World) : PgV w zeroPg (.agg #[.slice none 0 0, .int .i64 0, .int .i64 0]) :=
  ⟨_, rfl, ⟨none, 0, rfl, Nat.le_refl _, Nat.zero_le _, fun _ => rfl, .inl rfl⟩, by unfold zeroPg R64; simp only; omega, by unfold zeroPg R64; simp only; omega⟩

set_option maxHeartbeats 1600000 in
set_option maxRecDepth 100000 in
theorem pcompile_any (t : Tr) (hp : partsR t ≤ 10000000000) (hnd : nodesR t ≤ 1000000) (g : Int) (hg64 : R64 g) (v : Value) (w : World) (h : Tre w t v) :
    Calls Try.prog 20 #[v, .int .i64 g] w (CompPost t g w) := by
  have H0 := Lib.hid h
  obtain ⟨A, n, c, a2, s, c2, hn, hs, rfl, hnb, hsb, hK, hS, hF⟩ := h.opened
  obtain ⟨w1, hw1⟩ : ∃ w1, w.alloc (.cells #[.int .i64 t.fld.op, .slice A n c, .int .i32 t.fld.rune, .slice a2 s c2, .int .i64 t.fld.at', .int .i64 t.fld.cap, .string t.fld.name, .int .i64 t.fld.min, .int .i64 t.fld.max, .bool t.fld.lazy] 45) = w1 := ⟨_, rfl⟩
  obtain ⟨w2, hw2⟩ : ∃ w2, w1.alloc (.cells #[.slice none 0 0, .int .i64 0, .int .i64 0] 24) = w2 := ⟨_, rfl⟩
  have hb1 : Below w.heap.size w w1 := by rw [← hw1]; exact (Below.refl _ _).alloc (Nat.le_refl _) _
  have hb2 : Below w1.heap.size w1 w2 := by rw [← hw2]; exact (Below.refl _ _).alloc (Nat.le_refl _) _
  have hb12 := below_two hb1 hb2
  have s1 : w1.heap.size = w.heap.size + 1 := by rw [← hw1]; exact World.size_alloc _ _
  have s2 : w2.heap.size = w.heap.size + 2 := by rw [← hw2, World.size_alloc, s1]
  have hE1 : CellsAt w1 w.heap.size 0 (treC t.fld (.slice A n c) (.slice a2 s c2)) := by rw [← hw1]; exact cellsAt_new w _ _
  have hT1 : Tre w1 t (.agg (treC t.fld (.slice A n c) (.slice a2 s c2))) := H0.out.below hb1
  have hT2 : TAt w2 w.heap.size 0 t := TAt.below ⟨_, _, hE1, hT1⟩ hb2
  have hr2 : Whole w2 (w.heap.size + 1) 24 #[.slice none 0 0, .int .i64 0, .int .i64 0] := by rw [← s1, ← hw2]; exact heap_alloc_new _ _
  have hE2 := (hE1.below hb2).ten
  simp only [Nat.zero_add] at hE2
  obtain ⟨e0, e1, e2, e3, e4, e5, e6, e7, e8, e9⟩ := hE2
  have HSH := Lib.hid (pshaped_any t hp _ w2 (H0.out.below hb12))
  have HW := Lib.hid (show (w.alloc (.cells #[.int .i64 t.fld.op, .slice A n c, .int .i32 t.fld.rune, .slice a2 s c2, .int .i64 t.fld.at', .int .i64 t.fld.cap, .string t.fld.name, .int .i64 t.fld.min, .int .i64 t.fld.max, .bool t.fld.lazy] 45)).alloc (.cells #[.slice none 0 0, .int .i64 0, .int .i64 0] 24) = w2 by rw [hw1, hw2])
  have HCE := Lib.hid (hE1.below hb2); have HB := Lib.hid hb12; have HT2 := Lib.hid hT2; have HR2 := Lib.hid hr2; have HS2 := Lib.hid s2; have HND := Lib.hid hnd
  have r0 := hr2.cell 0; have r1 := hr2.cell 1; have r2 := hr2.cell 2
  have q0 := hr2.free 0; have q1 := hr2.free 1; have q2 := hr2.free 2
  clear h hw1 hw2 hb1 hb2 hb12 s1 hE1 hT1 hT2 hr2 hn hs hK hS hF hnd
  have hs1 : w.heap.size + 1 < w2.heap.size := by omega
  obtain ⟨f, hf⟩ : ∃ f, t.fld = f := ⟨_, rfl⟩
  rw [hf] at e0 e2 e4 e5 e6 e7 e8 e9 HSH HW HCE H0 ⊢
  clear hf
  go_enter Try.func20, Try.ntmps20
  go_upto_region 1 with (fail)
  rw [HW.out]
  by_cases hlo : g < 0
  · have d1 : decide (g < 0) = true := decide_eq_true hlo
    have HX : Hid (compT t g = (zeroPg, 51)) := Lib.hid (by unfold compT; rw [if_pos (fun h => by omega)])
    clear hlo
    go_wp2_with fail
    exact comp_ret rfl rfl rfl HR2.out ⟨_, by rw [HX.out], by rw [HX.out]; exact pgV_zero _, set3p_below HB.out (by omega) _ _ _⟩
  have d1 : decide (g < 0) = false := decide_eq_false hlo
  by_cases hhi : 2000 < g
  · have d2 : decide (2000 < g) = true := decide_eq_true hhi
    have HX : Hid (compT t g = (zeroPg, 51)) := Lib.hid (by unfold compT; rw [if_pos (fun h => by omega)])
    clear hlo hhi
    go_wp2_with fail
    exact comp_ret rfl rfl rfl HR2.out ⟨_, by rw [HX.out], by rw [HX.out]; exact pgV_zero _, set3p_below HB.out (by omega) _ _ _⟩
  have d2 : decide (2000 < g) = false := decide_eq_false hhi
  have hg : 0 ≤ g ∧ g ≤ 2000 := ⟨by omega, by omega⟩
  have HG := Lib.hid hg
  clear hlo hhi
  go_wp2_with fail
  refine HSH.out.mono ?_
  rintro e w3 ⟨B, rfl, hq, hb3⟩
  have hR3 := HR2.out.below hb3 HR2.out.lt
  have HR3 := Lib.hid hR3; have HB3 : Hid (Below w.heap.size w w3 ∧ Below w2.heap.size w2 w3) := Lib.hid ⟨below_two HB.out hb3, hb3⟩; have HT3 := Lib.hid (HT2.out.below hb3)
  have hs3 : w2.heap.size ≤ w3.heap.size := hb3.size
  clear r0 r1 r2 q0 q1 q2 e0 e1 e2 e3 e4 e5 e6 e7 e8 e9
  have r0 := hR3.cell 0; have r1 := hR3.cell 1; have r2 := hR3.cell 2
  have q0 := hR3.free 0; have q1 := hR3.free 1; have q2 := hR3.free 2
  have HQ := Lib.hid hq
  clear hR3 hq hb3
  cases B
  · have HX : Hid (compT t g = (zeroPg, 51)) := Lib.hid (by unfold compT; rw [if_pos (fun h => by have := HQ.out.2 h.2.2.1; cases this)])
    clear HQ
    go_wp2_with fail
    exact comp_ret rfl rfl rfl HR3.out ⟨_, by rw [HX.out], by rw [HX.out]; exact pgV_zero _, set3p_below HB3.out.1 (by omega) _ _ _⟩
  have HSP : Hid (ShapedP t) := Lib.hid (HQ.out.1 rfl)
  clear HQ
  have HC3 := Lib.hid (HCE.out.below (HB3.out.2))
  obtain ⟨e0, e1, e2, e3, e4, e5, e6, e7, e8, e9⟩ := HC3.out.ten
  simp only [Nat.zero_add] at e0 e1 e2 e3 e4 e5 e6 e7 e8 e9
  have HCN := Lib.hid (pcounted_any t _ w3 (H0.out.below HB3.out.1))
  go_wp2_with fail
  refine HCN.out.mono ?_
  rintro e w4 ⟨B, rfl, hq, hb4⟩
  have hR4 := HR3.out.below hb4 HR3.out.lt
  have HR4 := Lib.hid hR4; have HB4 := Lib.hid (below_two HB3.out.1 hb4); have HT4 := Lib.hid (HT3.out.below hb4)
  have hs4 : w3.heap.size ≤ w4.heap.size := hb4.size
  clear r0 r1 r2 q0 q1 q2 e0 e1 e2 e3 e4 e5 e6 e7 e8 e9
  have r0 := hR4.cell 0; have r1 := hR4.cell 1; have r2 := hR4.cell 2
  have q0 := hR4.free 0; have q1 := hR4.free 1; have q2 := hR4.free 2
  have HQ := Lib.hid hq
  clear hR4 hq hb4
  cases B
  rotate_left
  · have HX : Hid (compT t g = (zeroPg, 51)) := Lib.hid (by unfold compT; rw [if_pos (fun h => (HQ.out.1 rfl) h.2.2.2)])
    clear HQ
    go_wp2_with fail
    exact comp_ret rfl rfl rfl HR4.out ⟨_, by rw [HX.out], by rw [HX.out]; exact pgV_zero _, set3p_below HB4.out (by omega) _ _ _⟩
  have HNR : Hid (NoRep t) := Lib.hid (Classical.byContradiction fun h => by have := HQ.out.2 h; cases this)
  clear HQ
  have hw1 : IntKind.i64.wrap (2 * g) = 2 * g := co_wrap _ (by omega)
  have hw2 : IntKind.i64.wrap (2 * g + 2) = 2 * g + 2 := co_wrap _ (by omega)
  go_upto_region 4 with (fail)
  obtain ⟨w5, hw5⟩ : ∃ W, w4.alloc (.cells #[.slice none 0 0, .int .i64 0, .int .i64 (2 * g + 2)] 68) = W := ⟨_, rfl⟩
  have b5 : Below w4.heap.size w4 w5 := by rw [← hw5]; exact (Below.refl _ _).alloc (Nat.le_refl _) _
  have hB5 : Bld w4 w4.heap.size g w5 [] := ⟨b5, Nat.le_refl _, .slice none 0 0, by rw [← hw5]; exact heap_alloc_new _ _, ownI_none _ _⟩
  have HCS := Lib.hid (csize_any g hg t HSP.out (by omega) w4 w4.heap.size [] w5 w.heap.size 0 hB5 (HT4.out.below b5))
  have HW5 := Lib.hid hw5; have HB5 := Lib.hid b5; have HBL5 := Lib.hid hB5
  have hsz4 : w.heap.size + 1 < w4.heap.size := by omega
  obtain ⟨N, hN⟩ : ∃ N, sizeT g t = N := ⟨_, rfl⟩
  have HN := Lib.hid hN
  have hNb : N ≤ 100000000000 := by have := sizeT_parts g t; omega
  rw [hN] at HCS
  rw [hw5]
  clear hw5 b5 hB5 hN
  go_wp2_with fail
  refine HCS.out.mono ?_
  rintro e w6 ⟨rfl, hb6⟩
  have HB6 := Lib.hid (below_two HB5.out hb6); have HBL6 := Lib.hid (HBL5.out.on hb6)
  have hR6 := HR4.out.below (below_two HB5.out hb6) HR4.out.lt
  have HR6 := Lib.hid hR6
  clear r0 r1 r2 q0 q1 q2
  have r0 := hR6.cell 0; have r1 := hR6.cell 1; have r2 := hR6.cell 2
  have q0 := hR6.free 0; have q1 := hR6.free 1; have q2 := hR6.free 2
  clear hR6 hb6
  have hw3 : IntKind.i64.wrap (1 + (N : Int)) = 1 + (N : Int) := co_wrap _ (by omega)
  by_cases hbig : 10000 < 1 + N
  · have d3 : decide (10000 < 1 + (N : Int)) = true := decide_eq_true (by omega)
    have HX : Hid (compT t g = (zeroPg, 2)) := Lib.hid (by unfold compT; rw [if_neg (fun h => h ⟨HG.out.1, HG.out.2, HSP.out, HNR.out⟩), HN.out, if_pos hbig])
    clear hbig
    go_wp2_with fail
    exact comp_ret rfl rfl rfl HR6.out ⟨_, by rw [HX.out], by rw [HX.out]; exact pgV_zero _, set3p_below (HB4.out.trans (HB6.out.mono HB4.out.size)) (by omega) _ _ _⟩
  have d3 : decide (10000 < 1 + (N : Int)) = false := decide_eq_false (by omega)
  obtain ⟨C, hC, hmk⟩ := make_insts (1 + N) (by omega)
  have hmk' : ∀ W : World, (Instr.makeSlice 22 (.int .i64 0) (.int .i64 (1 + (N : Int)))).run Try.prog W = .ok (.slice (some ⟨W.heap.size, 0, none⟩) 0 (1 + N)) (W.alloc (.cells C 39)) := fun W => by have := hmk W; rwa [show ((1 + N : Nat) : Int) = 1 + (N : Int) by omega] at this
  have hbx : ∃ v, Whole w6 w4.heap.size 68 #[v, .int .i64 0, .int .i64 (2 * g + 2)] := by
    obtain ⟨v, h, -⟩ := HBL6.out.row
    exact ⟨v, h⟩
  obtain ⟨v6, hbx⟩ := hbx
  have HBX := Lib.hid hbx
  have x0 : ∀ o, (w6.alloc o).cell? ⟨w4.heap.size, 0, none⟩ = some v6 := fun o => (hbx.alloc o).cell 0
  have x1 : ∀ o, (w6.alloc o).frozen? ⟨w4.heap.size, 0, none⟩ = false := fun o => (hbx.alloc o).free 0
  have HC := Lib.hid hC
  have hNS : N ≤ 9999 := by omega
  have HNB := Lib.hid hbig
  clear hmk hbx hbig hC
  go_upto_region 8 with (fail)
  obtain ⟨w7, hw7⟩ : ∃ W, (w6.alloc (.cells C 39)).setCell ⟨w4.heap.size, 0, none⟩ (.slice (some ⟨w6.heap.size, 0, none⟩) 0 (1 + N)) = W := ⟨_, rfl⟩
  have hs6 : w4.heap.size ≤ w6.heap.size := HB6.out.size
  have hB7 : Bld w4 w4.heap.size g w7 [] := by
    rw [← hw7]
    exact Bld.putRow (HB6.out.alloc hs6 _) (Nat.le_refl _) (HBX.out.alloc _) (ownI_made w6 C (1 + N) w4.heap.size HC.out (by omega) hs6)
  have hR7 : Whole w7 (w.heap.size + 1) 24 #[.slice none 0 0, .int .i64 0, .int .i64 0] := by
    rw [← hw7]
    exact (Below.heap_setCell _ _ _ _ (by show w.heap.size + 1 ≠ w4.heap.size; omega)).trans (HR6.out.alloc _)
  have HP := Lib.hid (cput_any w4 w4.heap.size g [] ⟨1, 0, 0, [], 0⟩ _ w7 hB7 (insF_bare w7 1 0 0 0 (r64_small _ (by omega)) (r64_small _ (by omega)) (r64_small _ (by omega)) (r64_small _ (by omega))) (by simp))
  have HR7 := Lib.hid hR7
  rw [hw7]
  clear hw7 hB7 hR7 x0 x1 r0 r1 r2 q0 q1 q2 hmk'
  go_wp2_with fail
  refine HP.out.mono ?_
  rintro e w8 ⟨rfl, hB8, hF8⟩
  have HC8 := Lib.hid (code_all g hg t HSP.out HNR.out w4 w4.heap.size w8 0 [⟨1, 0, 0, [], 0⟩] w.heap.size 0 ⟨hB8, HT4.out, by omega, by have := HND.out; simp only [List.length_singleton]; omega, by rw [HN.out]; omega⟩)
  have hR8 := hF8.whole HR7.out (by omega) (by decide)
  have HR8 := Lib.hid hR8
  clear hB8 hF8 hR8
  obtain ⟨r, hr⟩ : ∃ r, codeT g t 0 [⟨1, 0, 0, [], 0⟩] = r := ⟨_, rfl⟩
  rw [hr] at HC8
  have HR := Lib.hid hr
  have hent := ((plain_ok HSP.out HNR.out : CodOk (sizeT g t) 100000000000 (fun _ => True) (codeT g t)).all 0 [⟨1, 0, 0, [], 0⟩] (by omega) (by simp only [List.length_singleton]; rw [HN.out]; omega) (fun _ _ => trivial)).1
  rw [hr] at hent
  have HEN := Lib.hid hent
  clear hr hent
  go_wp2_with fail
  refine HC8.out.mono ?_
  rintro e w9 ⟨rfl, hB9, hF9⟩
  have hR9 := hF9.whole HR8.out (by omega) (by decide)
  obtain ⟨v9, hq9, ho9⟩ := hB9.row
  obtain ⟨va, vc, rfl, -, -⟩ := ho9.slice
  have HR9 := Lib.hid hR9; have HQ9 := Lib.hid hq9; have HO9 := Lib.hid ho9; have HBW9 := Lib.hid hB9.below
  have k0 := hq9.cell 0; have k1 := hq9.cell 1; have k2 := hq9.cell 2; have kf := hq9.free 1
  have r0 := hR9.cell 0; have r1 := hR9.cell 1; have r2 := hR9.cell 2
  have q0 := hR9.free 0; have q1 := hR9.free 1; have q2 := hR9.free 2
  have hne : w.heap.size + 1 ≠ w4.heap.size := by omega
  have hne' : w4.heap.size ≠ w.heap.size + 1 := by omega
  have hk : Whole (w9.setCell ⟨w4.heap.size, 1, none⟩ (.int .i64 (r.1 : Int))) (w.heap.size + 1) 24 #[.slice none 0 0, .int .i64 0, .int .i64 0] := (Below.heap_setCell _ _ _ _ (by show w.heap.size + 1 ≠ w4.heap.size; omega)).trans hR9
  have HK := Lib.hid hk
  clear hB9 hF9 hR9 hq9 ho9 hk
  go_wp2_with fail
  have HX : Hid (compT t g = (⟨r.2, r.1, 2 * g + 2⟩, 0)) := Lib.hid (by unfold compT; rw [if_neg (fun h => h ⟨HG.out.1, HG.out.2, HSP.out, HNR.out⟩), HN.out, if_neg HNB.out, HR.out])
  have hq10 := HQ9.out.store 1 (.int .i64 (r.1 : Int))
  have ho10 := ownI_set HO9.out HQ9.out (by decide) (by decide) 1 (.int .i64 (r.1 : Int))
  have hk0 := HK.out.store 0 (.slice va r.2.length vc)
  have hk1 := hk0.store 1 (.int .i64 (r.1 : Int))
  have ho11 := ownI_set ho10 HK.out (by decide) (by decide) 0 (.slice va r.2.length vc)
  have ho12 := ownI_set ho11 hk0 (by decide) (by decide) 1 (.int .i64 (r.1 : Int))
  have ho13 := ownI_set ho12 hk1 (by decide) (by decide) 2 (.int .i64 (2 * g + 2))
  refine comp_ret rfl rfl rfl HK.out ⟨_, by rw [HX.out], ?_, set3p_below ((HB4.out.trans (HBW9.out.mono HB4.out.size)).setCell (p := ⟨w4.heap.size, 1, none⟩) (by show w.heap.size ≤ w4.heap.size; omega) _) (by omega) _ _ _⟩
  rw [HX.out]
  exact ⟨_, rfl, ho13.inss, r64_small _ (by have := HEN.out; simp only; omega), r64_small _ (by simp only; omega)⟩
end Go.Proofs.Ythffdmncdoogpaa
