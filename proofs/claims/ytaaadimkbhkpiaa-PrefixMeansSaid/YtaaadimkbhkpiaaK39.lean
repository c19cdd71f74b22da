/- Texts merged by program: PxHead, PxTreesL, PxRunsL. No condition. -/
import Derived.Test.YtaaadimkbhkpiaaK33
import Derived.Test.YtaaadimkbhkpiaaK36
import Derived.Test.YtaaadimkbhkpiaaK38
import Derived.Test.YtaaadimkbhkpiaaK4
import Derived.Test.YtaaadimkbhkpiaaK24
set_option linter.unusedVariables false
/- The fixed question of prefix's laws. No condition. -/
namespace Go.Proofs.Ytaaadimkbhkpiaa
open Go Go.RowKit

theorem rgs_nilX (w : World) : Rgs w (.slice none 0 0) [] := ⟨none, 0, rfl, Nat.le_refl _, by unfold maxLen; omega, fun _ => rfl, .inl rfl, by simp⟩
/-- The tree of one rune. -/
def runeX (r : Int) : Tr := .mk { op := 3, rune := r, set := [], at' := 0, cap := 0, name := ⟨#[]⟩, min := 0, max := 0, lazy := false } []
theorem runeX_parts (r : Int) : partsR (runeX r) = 1 := by rw [partsR_eq]; simp [runeX, Tr.kids, Tr.fld]
theorem runeX_pre (r : Int) : preT (runeX r) = ([r], true) := by rw [preT_eq]; simp [runeX, Tr.fld, preX]
theorem runeX_shaped {r : Int} (h : 0 ≤ r ∧ r ≤ 1114111) : ShapedP (runeX r) := by
  rw [shapedP_iff]
  refine ⟨?_, ?_, ?_, ?_⟩
  · simp [FieldsOk, runeX, Tr.fld]; exact h
  · simp [KidsOk, runeX, Tr.fld, Tr.kids]
  · simp [runeX, Tr.fld]
  · simp [runeX, Tr.kids]
theorem runeX_tre (w : World) {r : Int} (h : 0 ≤ r ∧ r ≤ 1114111) : Tre w (runeX r) (.agg #[.int .i64 3, .slice none 0 0, .int .i32 r, .slice none 0 0, .int .i64 0, .int .i64 0, .string ⟨#[]⟩, .int .i64 0, .int .i64 0, .bool false]) := by
  rw [tre_iff]
  refine ⟨.slice none 0 0, .slice none 0 0, rfl, rgs_nilX w, ?_, none, 0, rfl, by simp [runeX, Tr.kids], by unfold maxLen; omega, by simp [runeX, Tr.kids], fun _ => rfl, .inl rfl⟩
  simp [FldOk, I64, I32, runeX, Tr.fld]
  exact ⟨by omega, by decide⟩

def aabS : ByteArray := ⟨#[97, 97, 98]⟩
theorem aab_runes : runesOf aabS = [97, 97, 98] := by kernel_rfl
theorem aab_index : IndexIs (runesOf aabS) [98] (max 0 0) 2 := by
  rw [aab_runes]
  refine .inr ⟨2, rfl, by decide, ⟨by decide, stands_one.2 (by decide)⟩, fun j _ hj h => ?_⟩
  have h1 := stands_one.1 h.2
  have : j = 0 ∨ j = 1 := by omega
  rcases this with rfl | rfl <;> exact absurd h1 (by decide)

set_option maxHeartbeats 1600000 in
set_option maxRecDepth 100000 in
theorem phead14_any (w : World) : Calls Try.prog 23 #[] w (HeadPost w) := by
  have HP := Lib.hid (pprefix_any (runeX 98) (by rw [runeX_parts]; decide) _ w (runeX_tre w (by decide)))
  rw [preF_yes (runeX_shaped (by decide)), runeX_pre] at HP
  go_enter Try.func23, Try.ntmps23
  go_wp2_with fail
  refine HP.out.mono ?_
  rintro e w1 ⟨v, rfl, hv, hb⟩
  obtain ⟨A, c, rfl, -, -, -, hrow, -⟩ := hv.rns
  rcases hrow with h | ⟨b, o, rfl, hc⟩
  · cases h
  have c0 : w1.cell? ⟨b, o, none⟩ = some (.int .i32 98) := hc 0 (by decide)
  have HB := Lib.hid hb; have HR : Hid (Rns w1 (.slice (some ⟨b, o, none⟩) 1 c) [98]) := Lib.hid hv.rns
  obtain ⟨w2, hw2⟩ : ∃ x, w1.alloc (.cells #[.int .u8 97, .int .u8 97, .int .u8 98] 5 (3, 4)) = x := ⟨_, rfl⟩
  have hb2 : Below w1.heap.size w1 w2 := by rw [← hw2]; exact (Below.refl _ _).alloc (Nat.le_refl _) _
  have hx2 : ∀ i, w2.cell? ⟨w1.heap.size, i, none⟩ = #[.int .u8 97, .int .u8 97, .int .u8 98][i]? := fun i => by rw [← hw2]; exact cell_of_row _ w1.heap.size i _ _ _ (heap_alloc_new w1 _)
  have HT := Lib.hid (text_ok (some ⟨w1.heap.size, 0, none⟩) 3 aabS w2 (by decide) (lit3_conv 97 97 98 w2 w1.heap.size ((hx2 0).trans rfl) ((hx2 1).trans rfl) ((hx2 2).trans rfl)))
  have HW2 := Lib.hid hw2; have HB2 := Lib.hid (below_two hb hb2); have HR2 := Lib.hid (HR.out.below hb2)
  have hlen : ([98] : List Int).length = 1 := rfl
  rw [hlen]
  clear hv hb hc hw2 hb2 hx2 hlen
  have kc := fun (w : World) (C : Array Value) (n c : Nat) => Lib.run_convert_bytes_const (P := Try.prog) w 28 5 C n c Try.underlying28 Try.underlying5
  go_wp2_with fail
  rw [HW2.out]
  refine HT.out.mono ?_
  rintro e w3 ⟨ib, rfl, hin, hb3⟩
  have HB3 := Lib.hid (below_two HB2.out hb3)
  have HX := Lib.hid (index_any _ 2 aabS ib w3 hin _ [98] (HR2.out.below hb3) (by decide) 0 (by unfold I64; omega))
  clear hin hb3 c0
  go_wp2_with fail
  refine HX.out.mono ?_
  rintro e w4 ⟨r, rfl, hr, hb4⟩
  obtain rfl := hr.eq aab_index
  have HB4 := Lib.hid (below_two HB3.out hb4)
  clear hr hb4
  go_wp2_with fail
  go_ret
  exact ⟨rfl, HB4.out⟩
end Go.Proofs.Ytaaadimkbhkpiaa
/- PrefixTrees. No condition. -/
namespace Go.Proofs.Ytaaadimkbhkpiaa
open Go Go.RowKit

set_option maxHeartbeats 1600000 in
set_option maxRecDepth 100000 in
theorem prefixTrees_any (w : World) (v : Value) (t : Tr) (h : Tre w t v) : Calls Try.prog 7 #[v] w (HeadPost w) := by
  have h0 := h
  obtain ⟨A, n, c, a2, s, c2, hn, hs, rfl, hnb, hsb, hK, hS, hF⟩ := h.opened
  obtain ⟨w1, hw1⟩ : ∃ w1, w.alloc (.cells #[.int .i64 t.fld.op, .slice A n c, .int .i32 t.fld.rune, .slice a2 s c2, .int .i64 t.fld.at', .int .i64 t.fld.cap, .string t.fld.name, .int .i64 t.fld.min, .int .i64 t.fld.max, .bool t.fld.lazy] 27) = w1 := ⟨_, rfl⟩
  have hb1 : Below w.heap.size w w1 := by rw [← hw1]; exact (Below.refl _ _).alloc (Nat.le_refl _) _
  have hE1 : Box10 w1 w.heap.size (.int .i64 t.fld.op) (.slice A n c) (.int .i32 t.fld.rune) (.slice a2 s c2) (.int .i64 t.fld.at') (.int .i64 t.fld.cap) (.string t.fld.name) (.int .i64 t.fld.min) (.int .i64 t.fld.max) (.bool t.fld.lazy) := by rw [← hw1]; exact box10_new w _ _ _ _ _ _ _ _ _ _ _
  have HW1 := Lib.hid hw1; have HT := Lib.hid hb1; have HE := Lib.hid hE1; have H0 := Lib.hid (h0.below hb1)
  obtain ⟨f, hf⟩ : ∃ f, t.fld = f := ⟨_, rfl⟩
  rw [hf] at HW1 HE H0 ⊢
  clear hb1 hE1 hw1 hK hS hn hs hF h h0 hf
  go_enter Try.func7, Try.ntmps7
  go_upto_region 1 with (fail)
  rw [HW1.out]
  clear HW1
  go_wp2_with fail
  refine (phead14_any w1).mono ?_
  rintro e w2 ⟨rfl, hb⟩
  replace H0 := Lib.hid (H0.out.below hb); replace HE := Lib.hid (HE.out.below hb)
  replace HT := Lib.hid (HT.out.trans (hb.mono HT.out.size))
  clear hb
  obtain ⟨b0, b1, b2, b3, b4, b5, b6, b7, b8, b9⟩ := HE.out
  go_wp2_with fail
  refine (parts_any 30000 (by omega) t _ w2 H0.out).mono ?_
  rintro e w3 ⟨r, rfl, hr1, hr2, hr3, hb⟩
  replace H0 := Lib.hid (H0.out.below hb); replace HE := Lib.hid (HE.out.below hb)
  replace HT := Lib.hid (HT.out.trans (hb.mono HT.out.size))
  have HR1 := Lib.hid hr1; have HR2 := Lib.hid hr2
  clear hb hr1 hr2 b0 b1 b2 b3 b4 b5 b6 b7 b8 b9
  by_cases hlt : 30000 < r
  · have hz : decide ((30000 : Int) < (r : Int)) = true := decide_eq_true (by omega)
    have hz2 : (30000 : Int) < (r : Int) := by omega
    go_wp2_with fail
    go_ret
    exact ⟨rfl, HT.out⟩
  have hz : ¬ (30000 : Int) < (r : Int) := by omega
  have hp : partsR t ≤ 30000 := by
    rcases Nat.lt_or_ge 30000 (partsR t) with h | h
    · have := HR2.out h
      omega
    · omega
  have HP := Lib.hid (pprefix_any t (by omega) _ w3 H0.out)
  have HQ : Hid (∀ W V, Tre W t V → Calls Try.prog 26 #[V] W (PrePost (preF t) W)) := Lib.hid fun W V hV => rprefix_any t (by omega) V W hV
  clear HR1 HR2 hlt hp
  obtain ⟨b0, b1, b2, b3, b4, b5, b6, b7, b8, b9⟩ := HE.out
  go_wp2_with fail
  refine HP.out.mono ?_
  rintro e w4 ⟨va, rfl, hva, hb⟩
  replace H0 := Lib.hid (H0.out.below hb); replace HE := Lib.hid (HE.out.below hb)
  replace HT := Lib.hid (HT.out.trans (hb.mono HT.out.size))
  have HVA := Lib.hid hva.rns
  clear hb hva b0 b1 b2 b3 b4 b5 b6 b7 b8 b9
  have HQ4 := Lib.hid (HQ.out _ _ H0.out)
  obtain ⟨b0, b1, b2, b3, b4, b5, b6, b7, b8, b9⟩ := HE.out
  obtain ⟨P, hP⟩ : ∃ P, preF t = P := ⟨_, rfl⟩
  rw [hP] at HQ4 HVA ⊢
  obtain ⟨p1, p2⟩ := P
  clear hP
  go_wp2_with fail
  refine HQ4.out.mono ?_
  rintro e w5 ⟨vb, rfl, hvb, hb⟩
  replace HT := Lib.hid (HT.out.trans (hb.mono HT.out.size))
  have HS := Lib.hid (psame14_any va vb p1 p1 w5 (HVA.out.below hb) hvb.rns)
  obtain ⟨xa, xc, rfl, -⟩ := HVA.out
  obtain ⟨ya, yc, rfl, -⟩ := hvb.rns
  clear hb hvb b0 b1 b2 b3 b4 b5 b6 b7 b8 b9
  dsimp only at HS ⊢
  go_wp2_with fail
  refine HS.out.mono ?_
  rintro e w6 ⟨B, rfl, hB, q, rfl⟩
  obtain rfl : B = true := hB.2 (by first | trivial | rfl)
  have HT2 := Lib.hid (HT.out.trans ((below_draws w5 q).mono HT.out.size))
  clear hB
  go_wp2_with fail
  go_ret
  exact ⟨rfl, HT2.out⟩
end Go.Proofs.Ytaaadimkbhkpiaa
/- PrefixRuns. No condition. -/
namespace Go.Proofs.Ytaaadimkbhkpiaa
open Go Go.RowKit

theorem runeX_treF (F : Nat → Prop) (w : World) {r : Int} (h : 0 ≤ r ∧ r ≤ 1114111) : TreF F w (runeX r) (.agg #[.int .i64 3, .slice none 0 0, .int .i32 r, .slice none 0 0, .int .i64 0, .int .i64 0, .string ⟨#[]⟩, .int .i64 0, .int .i64 0, .bool false]) := by
  rw [treF_iff]
  refine ⟨.slice none 0 0, .slice none 0 0, rfl, ⟨rgs_nilX w, .inl rfl⟩, ?_, none, 0, rfl, by simp [runeX, Tr.kids], by unfold maxLen; omega, by simp [runeX, Tr.kids], fun _ => rfl, .inl rfl⟩
  simp [FldOk, I64, I32, runeX, Tr.fld]
  exact ⟨by omega, by decide⟩
/-- A tree of an Op with Kids, bare but for a group's number. -/
def opX (op cap : Int) (ks : List Tr) : Tr := .mk { op := op, rune := 0, set := [], at' := 0, cap := cap, name := ⟨#[]⟩, min := 0, max := 0, lazy := false } ks
theorem opX_tre {w : World} {op cap : Int} {ks : List Tr} {v : Value} (h : Kds w ks v) (ho : 0 ≤ op ∧ op ≤ 12) (hc : 0 ≤ cap ∧ cap ≤ 1) : Tre w (opX op cap ks) (.agg #[.int .i64 op, v, .int .i32 0, .slice none 0 0, .int .i64 0, .int .i64 cap, .string ⟨#[]⟩, .int .i64 0, .int .i64 0, .bool false]) := by
  rw [tre_iff]
  refine ⟨v, .slice none 0 0, rfl, rgs_nilX w, ?_, h⟩
  simp [FldOk, I64, I32, opX, Tr.fld]
  exact ⟨by omega, by omega, by decide⟩
theorem catX_runes (l : List Int) : catX (l.map fun r => ([r], true)) = (l, true) := by
  induction l with
  | nil => rfl
  | cons x l ih => simp [catX, ih]
/-- The trees of the law: runes, one behind the other; in a group or not; with a repeat behind them or not. -/
def catL (l : List Int) : Tr := opX 11 0 (l.map runeX)
def grpL (l : List Int) (g : Bool) : Tr := if g then opX 6 1 [catL l] else catL l
def repL (l : List Int) (g r : Bool) : Tr := if r then opX 11 0 [grpL l g, opX 7 0 [runeX 120], runeX 121] else grpL l g
theorem catL_pre (l : List Int) : preT (catL l) = (l, true) := by
  rw [preT_eq]
  simp only [catL, opX, Tr.kids, Tr.fld, preX, List.map_map]
  have : (preT ∘ runeX) = fun r => ([r], true) := funext runeX_pre
  rw [this]
  simp [catX_runes]
theorem grpL_pre (l : List Int) (g : Bool) : preT (grpL l g) = (l, true) := by
  cases g
  · exact catL_pre l
  · rw [preT_eq]
    simp [grpL, opX, Tr.kids, Tr.fld, preX, catL_pre]
theorem repL_pre (l : List Int) (g r : Bool) : preT (repL l g r) = (l, !r) := by
  cases r
  · exact grpL_pre l g
  · rw [preT_eq]
    have h7 : preT (opX 7 0 [runeX 120]) = ([], false) := by rw [preT_eq]; simp [opX, Tr.kids, Tr.fld, preX]
    simp [repL, opX, Tr.kids, Tr.fld, preX, grpL_pre, catX] 
    rw [show (Tr.mk { op := 7, rune := 0, set := [], at' := 0, cap := 0, name := ⟨#[]⟩, min := 0, max := 0, lazy := false } [runeX 120]) = opX 7 0 [runeX 120] from rfl, h7]
    simp
theorem opX_shaped {op cap : Int} {ks : List Tr} (ho : (op = 6 ∧ cap = 1 ∧ ks.length = 1) ∨ (op = 7 ∧ cap = 0 ∧ ks.length = 1) ∨ (op = 11 ∧ cap = 0)) (h : ∀ k ∈ ks, ShapedP k) : ShapedP (opX op cap ks) := by
  rw [shapedP_iff]
  refine ⟨?_, ?_, ?_, h⟩
  · rcases ho with ⟨rfl, rfl, -⟩ | ⟨rfl, rfl, -⟩ | ⟨rfl, rfl⟩ <;> simp [FieldsOk, opX, Tr.fld] <;> decide
  · rcases ho with ⟨rfl, rfl, hk⟩ | ⟨rfl, rfl, hk⟩ | ⟨rfl, rfl⟩ <;> simp [KidsOk, opX, Tr.fld, Tr.kids] <;> first | exact hk | trivial
  · rcases ho with ⟨rfl, rfl, -⟩ | ⟨rfl, rfl, -⟩ | ⟨rfl, rfl⟩ <;> simp [opX, Tr.fld]
theorem repL_shaped (l : List Int) (g r : Bool) (h : ∀ x ∈ l, 0 ≤ x ∧ x ≤ 1114111) : ShapedP (repL l g r) := by
  have hc : ShapedP (catL l) := opX_shaped (.inr (.inr ⟨rfl, rfl⟩)) fun k hk => by
    obtain ⟨x, hx, rfl⟩ := List.mem_map.1 hk
    exact runeX_shaped (h x hx)
  have hg : ShapedP (grpL l g) := by
    cases g
    · exact hc
    · exact opX_shaped (.inl ⟨rfl, rfl, rfl⟩) fun k hk => by obtain rfl := List.mem_singleton.1 hk; exact hc
  cases r
  · exact hg
  · refine opX_shaped (.inr (.inr ⟨rfl, rfl⟩)) fun k hk => ?_
    simp at hk
    rcases hk with rfl | rfl | rfl
    · exact hg
    · exact opX_shaped (.inr (.inl ⟨rfl, rfl, rfl⟩)) fun k hk => by obtain rfl := List.mem_singleton.1 hk; exact runeX_shaped (by decide)
    · exact runeX_shaped (by decide)
theorem opX_parts (op cap : Int) (ks : List Tr) : partsR (opX op cap ks) = 1 + (ks.map partsR).sum := by rw [partsR_eq]; simp [opX, Tr.kids, Tr.fld]
theorem ones_sum (l : List Int) : (l.map fun _ => 1).sum = l.length := by
  induction l with
  | nil => rfl
  | cons x l ih => simp [ih]; omega
theorem repL_parts (l : List Int) (g r : Bool) : partsR (repL l g r) ≤ l.length + 10 := by
  have h0 : partsR (catL l) = 1 + l.length := by
    unfold catL
    rw [opX_parts, List.map_map]
    have : (partsR ∘ runeX) = fun _ => 1 := funext runeX_parts
    rw [this, ones_sum]
  have h1 : partsR (grpL l g) ≤ l.length + 2 := by
    cases g
    · show partsR (catL l) ≤ _
      omega
    · show partsR (opX 6 1 [catL l]) ≤ _
      rw [opX_parts]
      simp
      omega
  cases r
  · show partsR (grpL l g) ≤ _
    omega
  · show partsR (opX 11 0 [grpL l g, opX 7 0 [runeX 120], runeX 121]) ≤ _
    rw [opX_parts]
    simp [opX_parts, runeX_parts]
    omega
/-- A box of ten cells, stored into. -/
def set10X (w : World) (g : Nat) (x0 x1 x2 x3 x4 x5 x6 x7 x8 x9 : Value) : World := (((((((((w.setCell ⟨g, 0, none⟩ x0).setCell ⟨g, 1, none⟩ x1).setCell ⟨g, 2, none⟩ x2).setCell ⟨g, 3, none⟩ x3).setCell ⟨g, 4, none⟩ x4).setCell ⟨g, 5, none⟩ x5).setCell ⟨g, 6, none⟩ x6).setCell ⟨g, 7, none⟩ x7).setCell ⟨g, 8, none⟩ x8).setCell ⟨g, 9, none⟩ x9
theorem set10X_whole {w : World} {g : Nat} {t : TypeId} {y0 y1 y2 y3 y4 y5 y6 y7 y8 y9 : Value} (h : Whole w g t #[y0, y1, y2, y3, y4, y5, y6, y7, y8, y9]) (x0 x1 x2 x3 x4 x5 x6 x7 x8 x9 : Value) : Whole (set10X w g x0 x1 x2 x3 x4 x5 x6 x7 x8 x9) g t #[x0, x1, x2, x3, x4, x5, x6, x7, x8, x9] := by
  have h0 := h.store 0 x0
  have h1 := h0.store 1 x1
  have h2 := h1.store 2 x2
  have h3 := h2.store 3 x3
  have h4 := h3.store 4 x4
  have h5 := h4.store 5 x5
  have h6 := h5.store 6 x6
  have h7 := h6.store 7 x7
  have h8 := h7.store 8 x8
  have h9 := h8.store 9 x9
  simp only [List.setIfInBounds_toArray, List.set_cons_zero, List.set_cons_succ] at h9
  exact h9
theorem set10X_below {B : Nat} {a w : World} {g : Nat} (h : Below B a w) (hg : B ≤ g) (x0 x1 x2 x3 x4 x5 x6 x7 x8 x9 : Value) : Below B a (set10X w g x0 x1 x2 x3 x4 x5 x6 x7 x8 x9) :=
  (((((((((h.setCell (p := ⟨g, 0, none⟩) hg x0).setCell (p := ⟨g, 1, none⟩) hg x1).setCell (p := ⟨g, 2, none⟩) hg x2).setCell (p := ⟨g, 3, none⟩) hg x3).setCell (p := ⟨g, 4, none⟩) hg x4).setCell (p := ⟨g, 5, none⟩) hg x5).setCell (p := ⟨g, 6, none⟩) hg x6).setCell (p := ⟨g, 7, none⟩) hg x7).setCell (p := ⟨g, 8, none⟩) hg x8).setCell (p := ⟨g, 9, none⟩) hg x9

theorem set10X_far {w : World} {b g : Nat} {t : TypeId} {cs : Array Value} (h : Whole w b t cs) (hne : b ≠ g) (x0 x1 x2 x3 x4 x5 x6 x7 x8 x9 : Value) : Whole (set10X w g x0 x1 x2 x3 x4 x5 x6 x7 x8 x9) b t cs :=
  (((((((((h.far hne 0 x0).far hne 1 x1).far hne 2 x2).far hne 3 x3).far hne 4 x4).far hne 5 x5).far hne 6 x6).far hne 7 x7).far hne 8 x8).far hne 9 x9
theorem cellsAt10 {w : World} {b o : Nat} {x0 x1 x2 x3 x4 x5 x6 x7 x8 x9 : Value} (h : ∀ j, j < 10 → w.cell? ⟨b, o + j, none⟩ = #[x0, x1, x2, x3, x4, x5, x6, x7, x8, x9][j]?) : CellsAt w b o #[x0, x1, x2, x3, x4, x5, x6, x7, x8, x9] := fun j hj => by
  rw [h j hj, Array.getElem?_eq_getElem hj]
theorem kds1X {w : World} {b : Nat} {ty : TypeId} {t : Tr} {x0 x1 x2 x3 x4 x5 x6 x7 x8 x9 : Value} (h : Whole w b ty #[x0, x1, x2, x3, x4, x5, x6, x7, x8, x9]) (hT : Tre w t (.agg #[x0, x1, x2, x3, x4, x5, x6, x7, x8, x9])) : Kds w [t] (.slice (some ⟨b, 0, none⟩) 1 1) := by
  refine ⟨_, 1, rfl, Nat.le_refl _, by unfold maxLen; omega, by simp, fun e => (by cases e), .inr ⟨b, 0, rfl, trivial, fun i hi => ?_⟩⟩
  have : i = 0 := by simpa using hi
  subst this
  exact ⟨_, cellsAt10 fun j hj => by rw [h.cell]; simp, hT⟩
theorem kds3X {w : World} {b : Nat} {ty : TypeId} {t u v : Tr} {x0 x1 x2 x3 x4 x5 x6 x7 x8 x9 y0 y1 y2 y3 y4 y5 y6 y7 y8 y9 z0 z1 z2 z3 z4 z5 z6 z7 z8 z9 : Value} (h : Whole w b ty #[x0, x1, x2, x3, x4, x5, x6, x7, x8, x9, y0, y1, y2, y3, y4, y5, y6, y7, y8, y9, z0, z1, z2, z3, z4, z5, z6, z7, z8, z9])
    (hT : Tre w t (.agg #[x0, x1, x2, x3, x4, x5, x6, x7, x8, x9])) (hU : Tre w u (.agg #[y0, y1, y2, y3, y4, y5, y6, y7, y8, y9])) (hV : Tre w v (.agg #[z0, z1, z2, z3, z4, z5, z6, z7, z8, z9])) : Kds w [t, u, v] (.slice (some ⟨b, 0, none⟩) 3 3) := by
  refine ⟨_, 3, rfl, Nat.le_refl _, by unfold maxLen; omega, by simp, fun e => (by cases e), .inr ⟨b, 0, rfl, trivial, fun i hi => ?_⟩⟩
  have : i = 0 ∨ i = 1 ∨ i = 2 := by simp at hi; omega
  have ten : ∀ j, j < 10 → j = 0 ∨ j = 1 ∨ j = 2 ∨ j = 3 ∨ j = 4 ∨ j = 5 ∨ j = 6 ∨ j = 7 ∨ j = 8 ∨ j = 9 := fun j hj => by omega
  rcases this with rfl | rfl | rfl
  · exact ⟨_, cellsAt10 fun j hj => by rw [h.cell]; rcases ten j hj with rfl | rfl | rfl | rfl | rfl | rfl | rfl | rfl | rfl | rfl <;> rfl, hT⟩
  · exact ⟨_, cellsAt10 fun j hj => by rw [h.cell]; rcases ten j hj with rfl | rfl | rfl | rfl | rfl | rfl | rfl | rfl | rfl | rfl <;> rfl, hU⟩
  · exact ⟨_, cellsAt10 fun j hj => by rw [h.cell]; rcases ten j hj with rfl | rfl | rfl | rfl | rfl | rfl | rfl | rfl | rfl | rfl <;> rfl, hV⟩

set_option maxHeartbeats 3200000 in
set_option maxRecDepth 100000 in
theorem prefixRuns_any (w : World) (A : Option Addr) (n c : Nat) (l : List Int) (h : Rns w (.slice A n c) l) (g r : Bool) : Calls Try.prog 10 #[.slice A n c, .bool g, .bool r] w (HeadPost w) := by
  obtain ⟨A', c', e, hlc, hcm, -, hrow, h32⟩ := id h
  injection e with e1 e2 e3
  subst e1 e3
  have HROW := Lib.hid hrow; have H := Lib.hid h
  obtain ⟨N, hN⟩ : ∃ N, l.length = N := ⟨_, rfl⟩
  have HN := Lib.hid hN
  subst e2
  rw [hN] at hlc ⊢
  clear h hrow hN h32
  go_enter Try.func10, Try.ntmps10
  go_wp2_with fail
  refine (phead14_any w).mono ?_
  rintro e w1 ⟨rfl, hB⟩
  have HB := Lib.hid hB
  clear hB
  by_cases hlong : 1000 < N
  · have hz : decide ((1000 : Int) < (N : Int)) = true := decide_eq_true (by omega)
    go_wp2_with fail
    go_ret
    exact ⟨rfl, HB.out⟩
  have hz : decide ((1000 : Int) < (N : Int)) = false := decide_eq_false (by omega)
  go_upto_region 6 with (fail)
  clear hz
  go_loopw [8, 9] (fun vm i wr => ∃ k : Nat, k ≤ N ∧ i = .int .i64 (k : Int) ∧ OwnT (fun _ => False) wr w1.heap.size vm ((l.take k).map runeX) ∧ Below w1.heap.size w1 wr ∧ ∀ x ∈ l.take k, 0 ≤ x ∧ x ≤ 1114111) (fun _ i _ => N - (intOf i).toNat)
  case atStart => exact ⟨0, by omega, rfl, ⟨[], rfl, World.ownsRow_nil _ _ _ _, by simp⟩, Below.refl _ _, by simp⟩
  case round =>
    obtain ⟨k, hk, rfl, hv, hbr, hin⟩ := hrel
    have HV := Lib.hid hv; have HBR := Lib.hid hbr; have HIN := Lib.hid hin
    clear hv hbr hin
    by_cases hkN : k < N
    · have hkl : k < l.length := by rw [HN.out]; exact hkN
      rcases HROW.out with h | ⟨b, o, rfl, hc⟩
      · rw [h] at hkl; simp at hkl
      have c1 : wr.cell? ⟨b, o + k, none⟩ = some (.int .i32 l[k]) := (HBR.out.cell (World.block_lt_of_cell? w1 _ ((HB.out.cell (World.block_lt_of_cell? w _ (hc k hkl))).trans (hc k hkl)))).trans ((HB.out.cell (World.block_lt_of_cell? w _ (hc k hkl))).trans (hc k hkl))
      obtain ⟨x, hx⟩ : ∃ x, l[k] = x := ⟨_, rfl⟩
      have HSP := Lib.hid (show l.take (k + 1) = l.take k ++ [x] by rw [List.take_succ_eq_append_getElem hkl, hx])
      rw [hx] at c1
      clear hc hx hkl
      by_cases hx0 : x < 0
      · have hd0 : decide (x < 0) = true := decide_eq_true hx0
        go_wp2_with fail
        go_ret
        exact ⟨rfl, HB.out.trans (HBR.out.mono HB.out.size)⟩
      have hd0 : decide (x < 0) = false := decide_eq_false hx0
      by_cases hx1 : 1114111 < x
      · have hd1 : decide (1114111 < x) = true := decide_eq_true hx1
        go_wp2_with fail
        go_ret
        exact ⟨rfl, HB.out.trans (HBR.out.mono HB.out.size)⟩
      have hd1 : decide (1114111 < x) = false := decide_eq_false hx1
      have hxr : 0 ≤ x ∧ x ≤ 1114111 := by omega
      obtain ⟨wa, hwa⟩ : ∃ X, wr.alloc (.cells #[.int .i64 3, .slice none 0 0, .int .i32 x, .slice none 0 0, .int .i64 0, .int .i64 0, .string ⟨#[]⟩, .int .i64 0, .int .i64 0, .bool false] 27) = X := ⟨_, rfl⟩
      have hba : Below wr.heap.size wr wa := by rw [← hwa]; exact (Below.refl _ _).alloc (Nat.le_refl _) _
      have HKD : Hid (KdsE (fun b => Off u8 b ∧ False) wa [runeX x] (.slice (some ⟨wr.heap.size, 0, none⟩) 1 1)) := Lib.hid (by rw [← hwa]; exact kds_one (t := runeX x) (kv := .slice none 0 0) (sv := .slice none 0 0) (F := fun _ => False) (runeX_treF _ wr hxr) _ (fun b hb _ => hb.elim))
      have HO1 := Lib.hid (HV.out.below hba)
      have HWA := Lib.hid hwa; have HBA := Lib.hid (HBR.out.trans (hba.mono HBR.out.size))
      clear hwa hba
      go_upto_region 7 with (first | (rw [HWA.out]; at_builtin; refine append_trs rfl (.tmp 38) (.tmp 44) rfl (fun _ => False) w1.heap.size u8 ((l.take k).map runeX) rfl HO1.out (some ⟨wr.heap.size, 0, none⟩) 1 1 [runeX x] rfl HKD.out ?c1 ?c2 ?_))
      case c1 => exact Nat.le_trans (Nat.min_le_left _ _) (by omega)
      case c2 => exact HBA.out.size
      intro v3 w3 h3 hg3 _
      have HB3 := Lib.hid (HBA.out.grown hg3 HBA.out.size (fun j hj => HO1.out.base j hj))
      rw [show List.take k (List.map runeX l) ++ [runeX x] = (l.take (k + 1)).map runeX by rw [HSP.out]; simp] at h3
      have H3 := Lib.hid h3
      have hin3 : ∀ y ∈ l.take (k + 1), 0 ≤ y ∧ y ≤ 1114111 := fun y hy => by
        rw [HSP.out] at hy
        rcases List.mem_append.1 hy with hy | hy
        · exact HIN.out y hy
        · obtain rfl := List.mem_singleton.1 hy; exact hxr
      have HIN3 := Lib.hid hin3
      clear h3 hg3 hin3
      go_wp2_with fail
      exact ⟨⟨k + 1, by omega, by go_num, H3.out, HB3.out, HIN3.out⟩, by simp only [intOf]; omega⟩
    · have hkk : k = N := by omega
      subst hkk
      have htk : l.take k = l := List.take_of_length_le (by rw [HN.out]; omega)
      have hv := HV.out
      have hin := HIN.out
      rw [htk] at hv hin
      have HALL := Lib.hid hin
      have hkds := hv.kds (by rw [List.length_map, HN.out]; omega)
      obtain ⟨x1, x2, x3, rfl⟩ := hv.slice
      have HK := Lib.hid hkds
      obtain ⟨wo, rfl⟩ : ∃ W, W = wr := ⟨_, rfl⟩
      have hnd : decide ((k : Int) < (k : Int)) = false := decide_eq_false (by omega)
      clear hv hin htk hkds
      have hfin : Hid (∀ (W : World) (fv : Value), Below wo.heap.size wo W → Tre W (repL l g r) fv → Calls Try.prog 25 #[fv] W (PrePost (l, !r) W)) := Lib.hid fun W fv hW hT => by
        have h1 := pprefix_any (repL l g r) (by have := repL_parts l g r; rw [HN.out] at this; omega) fv W hT
        rw [preF_yes (repL_shaped l g r HALL.out), repL_pre] at h1
        exact h1
      obtain ⟨w4, hw4⟩ : ∃ X, wo.alloc (.cells #[.int .i64 11, .slice x1 x2 x3, .int .i32 0, .slice none 0 0, .int .i64 0, .int .i64 0, .string ⟨#[]⟩, .int .i64 0, .int .i64 0, .bool false] 27) = X := ⟨_, rfl⟩
      have hb4 : Below wo.heap.size wo w4 := by rw [← hw4]; exact (Below.refl _ _).alloc (Nat.le_refl _) _
      have hx4 : Whole w4 wo.heap.size 27 #[.int .i64 11, .slice x1 x2 x3, .int .i32 0, .slice none 0 0, .int .i64 0, .int .i64 0, .string ⟨#[]⟩, .int .i64 0, .int .i64 0, .bool false] := by rw [← hw4]; exact heap_alloc_new wo _
      have hs4 : w4.heap.size = wo.heap.size + 1 := by rw [← hw4]; simp
      have hT4 : Tre w4 (catL l) (.agg #[.int .i64 11, .slice x1 x2 x3, .int .i32 0, .slice none 0 0, .int .i64 0, .int .i64 0, .string ⟨#[]⟩, .int .i64 0, .int .i64 0, .bool false]) := opX_tre (HK.out.below hb4) (by decide) (by decide)
      have HW4 := Lib.hid hw4; have HB4 := Lib.hid hb4; have HX4 := Lib.hid hx4; have HT4 := Lib.hid hT4; have HS4 := Lib.hid hs4
      have hc0 := hx4.cell 0
      have hc1 := hx4.cell 1
      have hc2 := hx4.cell 2
      have hc3 := hx4.cell 3
      have hc4 := hx4.cell 4
      have hc5 := hx4.cell 5
      have hc6 := hx4.cell 6
      have hc7 := hx4.cell 7
      have hc8 := hx4.cell 8
      have hc9 := hx4.cell 9
      simp only [List.getElem?_toArray, List.getElem?_cons_zero, List.getElem?_cons_succ] at hc0 hc1 hc2 hc3 hc4 hc5 hc6 hc7 hc8 hc9
      clear hw4 hb4 hx4 hT4 hs4
      go_upto_region 12 with (fail)
      rw [HW4.out]
      cases g
      · cases r
        · go_wp2_with fail
          refine (hfin.out w4 _ HB4.out HT4.out).mono ?_
          rintro e wp ⟨vp, rfl, hvp, hbp⟩
          have HBP := Lib.hid (HB.out.trans ((HBR.out.trans ((HB4.out).trans (hbp.mono (HB4.out).size) |>.mono HBR.out.size)).mono HB.out.size))
          have HS := Lib.hid (psame14_any vp (.slice A k c) l l wp hvp.rns (by rw [← HN.out]; exact H.out.below HBP.out))
          obtain ⟨p1, p2, rfl, -⟩ := hvp.rns
          clear hvp hbp
          go_wp2_with fail
          refine HS.out.mono ?_
          rintro e wq ⟨B, rfl, hB, q, rfl⟩
          obtain rfl : B = true := hB.2 (by first | trivial | rfl)
          have HT2 := Lib.hid (HBP.out.trans ((below_draws wp q).mono HBP.out.size))
          clear hB
          go_wp2_with fail
          go_ret
          exact ⟨rfl, HT2.out⟩
        · have hcw40 : ∀ (j : Nat), w4.cell? ⟨wo.heap.size, j, none⟩ = #[.int .i64 11, .slice x1 x2 x3, .int .i32 0, .slice none 0 0, .int .i64 0, .int .i64 0, .string ⟨#[]⟩, .int .i64 0, .int .i64 0, .bool false][j]? := fun  j => (HX4.out).cell j
          have hfw40 : ∀ (j : Nat), w4.frozen? ⟨wo.heap.size, j, none⟩ = false := fun  j => (HX4.out).free j
          have hcw41 : ∀ (o0 : Obj) (j : Nat), (w4.alloc o0).cell? ⟨wo.heap.size, j, none⟩ = #[.int .i64 11, .slice x1 x2 x3, .int .i32 0, .slice none 0 0, .int .i64 0, .int .i64 0, .string ⟨#[]⟩, .int .i64 0, .int .i64 0, .bool false][j]? := fun o0 j => (Whole.alloc (HX4.out) o0).cell j
          have hfw41 : ∀ (o0 : Obj) (j : Nat), (w4.alloc o0).frozen? ⟨wo.heap.size, j, none⟩ = false := fun o0 j => (Whole.alloc (HX4.out) o0).free j
          have hcw42 : ∀ (o0 o1 : Obj) (j : Nat), ((w4.alloc o0).alloc o1).cell? ⟨wo.heap.size, j, none⟩ = #[.int .i64 11, .slice x1 x2 x3, .int .i32 0, .slice none 0 0, .int .i64 0, .int .i64 0, .string ⟨#[]⟩, .int .i64 0, .int .i64 0, .bool false][j]? := fun o0 o1 j => (Whole.alloc (Whole.alloc (HX4.out) o0) o1).cell j
          have hfw42 : ∀ (o0 o1 : Obj) (j : Nat), ((w4.alloc o0).alloc o1).frozen? ⟨wo.heap.size, j, none⟩ = false := fun o0 o1 j => (Whole.alloc (Whole.alloc (HX4.out) o0) o1).free j
          have hcw43 : ∀ (o0 o1 o2 : Obj) (j : Nat), (((w4.alloc o0).alloc o1).alloc o2).cell? ⟨wo.heap.size, j, none⟩ = #[.int .i64 11, .slice x1 x2 x3, .int .i32 0, .slice none 0 0, .int .i64 0, .int .i64 0, .string ⟨#[]⟩, .int .i64 0, .int .i64 0, .bool false][j]? := fun o0 o1 o2 j => (Whole.alloc (Whole.alloc (Whole.alloc (HX4.out) o0) o1) o2).cell j
          have hfw43 : ∀ (o0 o1 o2 : Obj) (j : Nat), (((w4.alloc o0).alloc o1).alloc o2).frozen? ⟨wo.heap.size, j, none⟩ = false := fun o0 o1 o2 j => (Whole.alloc (Whole.alloc (Whole.alloc (HX4.out) o0) o1) o2).free j
          obtain ⟨w6, hw6⟩ : ∃ X, ((w4.alloc (.cells #[.int .i64 11, .slice x1 x2 x3, .int .i32 0, .slice none 0 0, .int .i64 0, .int .i64 0, .string ⟨#[]⟩, .int .i64 0, .int .i64 0, .bool false] 27)).alloc (.cells #[.int .i64 3, .slice none 0 0, .int .i32 120, .slice none 0 0, .int .i64 0, .int .i64 0, .string ⟨#[]⟩, .int .i64 0, .int .i64 0, .bool false] 27)).alloc (.cells #[.int .i64 11, .slice x1 x2 x3, .int .i32 0, .slice none 0 0, .int .i64 0, .int .i64 0, .string ⟨#[]⟩, .int .i64 0, .int .i64 0, .bool false, .int .i64 7, .slice (some ⟨w4.heap.size + 1, 0, none⟩) 1 1, .int .i32 0, .slice none 0 0, .int .i64 0, .int .i64 0, .string ⟨#[]⟩, .int .i64 0, .int .i64 0, .bool false, .int .i64 3, .slice none 0 0, .int .i32 121, .slice none 0 0, .int .i64 0, .int .i64 0, .string ⟨#[]⟩, .int .i64 0, .int .i64 0, .bool false] 27) = X := ⟨_, rfl⟩
          obtain ⟨w7, hw7⟩ : ∃ X, set10X w6 wo.heap.size (.int .i64 11) (.slice (some ⟨w4.heap.size + 1 + 1, 0, none⟩) 3 3) (.int .i32 0) (.slice none 0 0) (.int .i64 0) (.int .i64 0) (.string ⟨#[]⟩) (.int .i64 0) (.int .i64 0) (.bool false) = X := ⟨_, rfl⟩
          have y1 : Whole w6 (w4.heap.size + 1) 27 #[.int .i64 3, .slice none 0 0, .int .i32 120, .slice none 0 0, .int .i64 0, .int .i64 0, .string ⟨#[]⟩, .int .i64 0, .int .i64 0, .bool false] := by
            rw [← hw6]
            refine Whole.alloc ?_ _
            have := heap_alloc_new (w4.alloc (.cells #[.int .i64 11, .slice x1 x2 x3, .int .i32 0, .slice none 0 0, .int .i64 0, .int .i64 0, .string ⟨#[]⟩, .int .i64 0, .int .i64 0, .bool false] 27)) (.cells #[.int .i64 3, .slice none 0 0, .int .i32 120, .slice none 0 0, .int .i64 0, .int .i64 0, .string ⟨#[]⟩, .int .i64 0, .int .i64 0, .bool false] 27)
            simpa [Whole] using this
          have y2 : Whole w6 (w4.heap.size + 1 + 1) 27 #[.int .i64 11, .slice x1 x2 x3, .int .i32 0, .slice none 0 0, .int .i64 0, .int .i64 0, .string ⟨#[]⟩, .int .i64 0, .int .i64 0, .bool false, .int .i64 7, .slice (some ⟨w4.heap.size + 1, 0, none⟩) 1 1, .int .i32 0, .slice none 0 0, .int .i64 0, .int .i64 0, .string ⟨#[]⟩, .int .i64 0, .int .i64 0, .bool false, .int .i64 3, .slice none 0 0, .int .i32 121, .slice none 0 0, .int .i64 0, .int .i64 0, .string ⟨#[]⟩, .int .i64 0, .int .i64 0, .bool false] := by
            rw [← hw6]
            have := heap_alloc_new ((w4.alloc (.cells #[.int .i64 11, .slice x1 x2 x3, .int .i32 0, .slice none 0 0, .int .i64 0, .int .i64 0, .string ⟨#[]⟩, .int .i64 0, .int .i64 0, .bool false] 27)).alloc (.cells #[.int .i64 3, .slice none 0 0, .int .i32 120, .slice none 0 0, .int .i64 0, .int .i64 0, .string ⟨#[]⟩, .int .i64 0, .int .i64 0, .bool false] 27)) (.cells #[.int .i64 11, .slice x1 x2 x3, .int .i32 0, .slice none 0 0, .int .i64 0, .int .i64 0, .string ⟨#[]⟩, .int .i64 0, .int .i64 0, .bool false, .int .i64 7, .slice (some ⟨w4.heap.size + 1, 0, none⟩) 1 1, .int .i32 0, .slice none 0 0, .int .i64 0, .int .i64 0, .string ⟨#[]⟩, .int .i64 0, .int .i64 0, .bool false, .int .i64 3, .slice none 0 0, .int .i32 121, .slice none 0 0, .int .i64 0, .int .i64 0, .string ⟨#[]⟩, .int .i64 0, .int .i64 0, .bool false] 27)
            simpa [Whole] using this
          have y0 : Whole w6 wo.heap.size 27 #[.int .i64 11, .slice x1 x2 x3, .int .i32 0, .slice none 0 0, .int .i64 0, .int .i64 0, .string ⟨#[]⟩, .int .i64 0, .int .i64 0, .bool false] := by rw [← hw6]; exact Whole.alloc (Whole.alloc (Whole.alloc (HX4.out) _) _) _
          have hb6 : Below wo.heap.size wo w6 := by rw [← hw6]; exact ((((HB4.out).alloc (by have := (HB4.out).size; omega) _).alloc (by have := (HB4.out).size; simp; omega) _).alloc (by have := (HB4.out).size; simp; omega) _)
          have hb7 : Below wo.heap.size wo w7 := by rw [← hw7]; exact set10X_below hb6 (Nat.le_refl _) _ _ _ _ _ _ _ _ _ _
          have hlw : wo.heap.size < w4.heap.size := (HX4.out).lt
          have z0 : Whole w7 wo.heap.size 27 #[.int .i64 11, .slice (some ⟨w4.heap.size + 1 + 1, 0, none⟩) 3 3, .int .i32 0, .slice none 0 0, .int .i64 0, .int .i64 0, .string ⟨#[]⟩, .int .i64 0, .int .i64 0, .bool false] := by rw [← hw7]; exact set10X_whole y0 _ _ _ _ _ _ _ _ _ _
          have z1 : Whole w7 (w4.heap.size + 1) 27 #[.int .i64 3, .slice none 0 0, .int .i32 120, .slice none 0 0, .int .i64 0, .int .i64 0, .string ⟨#[]⟩, .int .i64 0, .int .i64 0, .bool false] := by rw [← hw7]; exact set10X_far y1 (by omega) _ _ _ _ _ _ _ _ _ _
          have z2 : Whole w7 (w4.heap.size + 1 + 1) 27 #[.int .i64 11, .slice x1 x2 x3, .int .i32 0, .slice none 0 0, .int .i64 0, .int .i64 0, .string ⟨#[]⟩, .int .i64 0, .int .i64 0, .bool false, .int .i64 7, .slice (some ⟨w4.heap.size + 1, 0, none⟩) 1 1, .int .i32 0, .slice none 0 0, .int .i64 0, .int .i64 0, .string ⟨#[]⟩, .int .i64 0, .int .i64 0, .bool false, .int .i64 3, .slice none 0 0, .int .i32 121, .slice none 0 0, .int .i64 0, .int .i64 0, .string ⟨#[]⟩, .int .i64 0, .int .i64 0, .bool false] := by rw [← hw7]; exact set10X_far y2 (by omega) _ _ _ _ _ _ _ _ _ _
          have hF7 : Tre w7 (grpL l false) (.agg #[.int .i64 11, .slice x1 x2 x3, .int .i32 0, .slice none 0 0, .int .i64 0, .int .i64 0, .string ⟨#[]⟩, .int .i64 0, .int .i64 0, .bool false]) := opX_tre (HK.out.below hb7) (by decide) (by decide)
          have hT7 : Tre w7 (repL l false true) (.agg #[.int .i64 11, .slice (some ⟨w4.heap.size + 1 + 1, 0, none⟩) 3 3, .int .i32 0, .slice none 0 0, .int .i64 0, .int .i64 0, .string ⟨#[]⟩, .int .i64 0, .int .i64 0, .bool false]) := opX_tre (kds3X z2 hF7 (opX_tre (kds1X z1 (runeX_tre w7 (by decide))) (by decide) (by decide)) (runeX_tre w7 (by decide))) (by decide) (by decide)
          have HT7 := Lib.hid hT7; have HB7 := Lib.hid hb7; have HW6 := Lib.hid hw6; have HW7 := Lib.hid hw7
          have hk7 : ∀ j, w7.cell? ⟨wo.heap.size, j, none⟩ = #[.int .i64 11, .slice (some ⟨w4.heap.size + 1 + 1, 0, none⟩) 3 3, .int .i32 0, .slice none 0 0, .int .i64 0, .int .i64 0, .string ⟨#[]⟩, .int .i64 0, .int .i64 0, .bool false][j]? := fun j => z0.cell j
          clear hT7 hb7 hb6 y0 y1 y2 z0 z1 z2 hF7 hlw hw6 hw7
          go_upto_region 17 with (fail)
          rw [HW6.out]
          have hw7' := HW7.out
          unfold set10X at hw7'
          rw [hw7']
          clear hw7'
          go_wp2_with fail
          refine (hfin.out w7 _ HB7.out HT7.out).mono ?_
          rintro e wp ⟨vp, rfl, hvp, hbp⟩
          have HBP := Lib.hid (HB.out.trans ((HBR.out.trans ((HB7.out).trans (hbp.mono (HB7.out).size) |>.mono HBR.out.size)).mono HB.out.size))
          have HS := Lib.hid (psame14_any vp (.slice A k c) l l wp hvp.rns (by rw [← HN.out]; exact H.out.below HBP.out))
          obtain ⟨p1, p2, rfl, -⟩ := hvp.rns
          clear hvp hbp
          go_wp2_with fail
          refine HS.out.mono ?_
          rintro e wq ⟨B, rfl, hB, q, rfl⟩
          obtain rfl : B = true := hB.2 (by first | trivial | rfl)
          have HT2 := Lib.hid (HBP.out.trans ((below_draws wp q).mono HBP.out.size))
          clear hB
          go_wp2_with fail
          go_ret
          exact ⟨rfl, HT2.out⟩
      · have hcw40 : ∀ (j : Nat), w4.cell? ⟨wo.heap.size, j, none⟩ = #[.int .i64 11, .slice x1 x2 x3, .int .i32 0, .slice none 0 0, .int .i64 0, .int .i64 0, .string ⟨#[]⟩, .int .i64 0, .int .i64 0, .bool false][j]? := fun  j => (HX4.out).cell j
        have hfw40 : ∀ (j : Nat), w4.frozen? ⟨wo.heap.size, j, none⟩ = false := fun  j => (HX4.out).free j
        have hcw41 : ∀ (o0 : Obj) (j : Nat), (w4.alloc o0).cell? ⟨wo.heap.size, j, none⟩ = #[.int .i64 11, .slice x1 x2 x3, .int .i32 0, .slice none 0 0, .int .i64 0, .int .i64 0, .string ⟨#[]⟩, .int .i64 0, .int .i64 0, .bool false][j]? := fun o0 j => (Whole.alloc (HX4.out) o0).cell j
        have hfw41 : ∀ (o0 : Obj) (j : Nat), (w4.alloc o0).frozen? ⟨wo.heap.size, j, none⟩ = false := fun o0 j => (Whole.alloc (HX4.out) o0).free j
        obtain ⟨w5a, hw5a⟩ : ∃ X, w4.alloc (.cells #[.int .i64 11, .slice x1 x2 x3, .int .i32 0, .slice none 0 0, .int .i64 0, .int .i64 0, .string ⟨#[]⟩, .int .i64 0, .int .i64 0, .bool false] 27) = X := ⟨_, rfl⟩
        obtain ⟨w5, hw5⟩ : ∃ X, set10X w5a wo.heap.size (.int .i64 6) (.slice (some ⟨w4.heap.size, 0, none⟩) 1 1) (.int .i32 0) (.slice none 0 0) (.int .i64 0) (.int .i64 1) (.string ⟨#[]⟩) (.int .i64 0) (.int .i64 0) (.bool false) = X := ⟨_, rfl⟩
        have y1 : Whole w5a w4.heap.size 27 #[.int .i64 11, .slice x1 x2 x3, .int .i32 0, .slice none 0 0, .int .i64 0, .int .i64 0, .string ⟨#[]⟩, .int .i64 0, .int .i64 0, .bool false] := by rw [← hw5a]; exact heap_alloc_new w4 _
        have y0 : Whole w5a wo.heap.size 27 #[.int .i64 11, .slice x1 x2 x3, .int .i32 0, .slice none 0 0, .int .i64 0, .int .i64 0, .string ⟨#[]⟩, .int .i64 0, .int .i64 0, .bool false] := by rw [← hw5a]; exact Whole.alloc HX4.out _
        have hb5a : Below wo.heap.size wo w5a := by rw [← hw5a]; exact HB4.out.alloc HB4.out.size _
        have hb5 : Below wo.heap.size wo w5 := by rw [← hw5]; exact set10X_below hb5a (Nat.le_refl _) _ _ _ _ _ _ _ _ _ _
        have z0 : Whole w5 wo.heap.size 27 #[.int .i64 6, .slice (some ⟨w4.heap.size, 0, none⟩) 1 1, .int .i32 0, .slice none 0 0, .int .i64 0, .int .i64 1, .string ⟨#[]⟩, .int .i64 0, .int .i64 0, .bool false] := by rw [← hw5]; exact set10X_whole y0 _ _ _ _ _ _ _ _ _ _
        have z1 : Whole w5 w4.heap.size 27 #[.int .i64 11, .slice x1 x2 x3, .int .i32 0, .slice none 0 0, .int .i64 0, .int .i64 0, .string ⟨#[]⟩, .int .i64 0, .int .i64 0, .bool false] := by rw [← hw5]; exact set10X_far y1 (by have := HS4.out; omega) _ _ _ _ _ _ _ _ _ _
        have HX5 := Lib.hid z0; have HY5 := Lib.hid z1; have HB5 := Lib.hid hb5; have HW5a := Lib.hid hw5a; have HW5 := Lib.hid hw5
        clear y0 y1 z0 z1 hb5 hb5a hw5 hw5a
        go_upto_region 14 with (fail)
        rw [HW5a.out]
        have hw5' := HW5.out
        unfold set10X at hw5'
        rw [hw5']
        clear hw5' hcw40 hcw41 hfw40 hfw41
        cases r
        · have hT5 : Tre w5 (repL l true false) (.agg #[.int .i64 6, .slice (some ⟨w4.heap.size, 0, none⟩) 1 1, .int .i32 0, .slice none 0 0, .int .i64 0, .int .i64 1, .string ⟨#[]⟩, .int .i64 0, .int .i64 0, .bool false]) := opX_tre (kds1X HY5.out (opX_tre (HK.out.below HB5.out) (by decide) (by decide))) (by decide) (by decide)
          have HT5 := Lib.hid hT5
          have hk5 : ∀ j, w5.cell? ⟨wo.heap.size, j, none⟩ = #[.int .i64 6, .slice (some ⟨w4.heap.size, 0, none⟩) 1 1, .int .i32 0, .slice none 0 0, .int .i64 0, .int .i64 1, .string ⟨#[]⟩, .int .i64 0, .int .i64 0, .bool false][j]? := fun j => HX5.out.cell j
          clear hT5
          go_wp2_with fail
          refine (hfin.out w5 _ HB5.out HT5.out).mono ?_
          rintro e wp ⟨vp, rfl, hvp, hbp⟩
          have HBP := Lib.hid (HB.out.trans ((HBR.out.trans ((HB5.out).trans (hbp.mono (HB5.out).size) |>.mono HBR.out.size)).mono HB.out.size))
          have HS := Lib.hid (psame14_any vp (.slice A k c) l l wp hvp.rns (by rw [← HN.out]; exact H.out.below HBP.out))
          obtain ⟨p1, p2, rfl, -⟩ := hvp.rns
          clear hvp hbp
          go_wp2_with fail
          refine HS.out.mono ?_
          rintro e wq ⟨B, rfl, hB, q, rfl⟩
          obtain rfl : B = true := hB.2 (by first | trivial | rfl)
          have HT2 := Lib.hid (HBP.out.trans ((below_draws wp q).mono HBP.out.size))
          clear hB
          go_wp2_with fail
          go_ret
          exact ⟨rfl, HT2.out⟩
        · have hcw50 : ∀ (j : Nat), w5.cell? ⟨wo.heap.size, j, none⟩ = #[.int .i64 6, .slice (some ⟨w4.heap.size, 0, none⟩) 1 1, .int .i32 0, .slice none 0 0, .int .i64 0, .int .i64 1, .string ⟨#[]⟩, .int .i64 0, .int .i64 0, .bool false][j]? := fun  j => (HX5.out).cell j
          have hfw50 : ∀ (j : Nat), w5.frozen? ⟨wo.heap.size, j, none⟩ = false := fun  j => (HX5.out).free j
          have hcw51 : ∀ (o0 : Obj) (j : Nat), (w5.alloc o0).cell? ⟨wo.heap.size, j, none⟩ = #[.int .i64 6, .slice (some ⟨w4.heap.size, 0, none⟩) 1 1, .int .i32 0, .slice none 0 0, .int .i64 0, .int .i64 1, .string ⟨#[]⟩, .int .i64 0, .int .i64 0, .bool false][j]? := fun o0 j => (Whole.alloc (HX5.out) o0).cell j
          have hfw51 : ∀ (o0 : Obj) (j : Nat), (w5.alloc o0).frozen? ⟨wo.heap.size, j, none⟩ = false := fun o0 j => (Whole.alloc (HX5.out) o0).free j
          have hcw52 : ∀ (o0 o1 : Obj) (j : Nat), ((w5.alloc o0).alloc o1).cell? ⟨wo.heap.size, j, none⟩ = #[.int .i64 6, .slice (some ⟨w4.heap.size, 0, none⟩) 1 1, .int .i32 0, .slice none 0 0, .int .i64 0, .int .i64 1, .string ⟨#[]⟩, .int .i64 0, .int .i64 0, .bool false][j]? := fun o0 o1 j => (Whole.alloc (Whole.alloc (HX5.out) o0) o1).cell j
          have hfw52 : ∀ (o0 o1 : Obj) (j : Nat), ((w5.alloc o0).alloc o1).frozen? ⟨wo.heap.size, j, none⟩ = false := fun o0 o1 j => (Whole.alloc (Whole.alloc (HX5.out) o0) o1).free j
          have hcw53 : ∀ (o0 o1 o2 : Obj) (j : Nat), (((w5.alloc o0).alloc o1).alloc o2).cell? ⟨wo.heap.size, j, none⟩ = #[.int .i64 6, .slice (some ⟨w4.heap.size, 0, none⟩) 1 1, .int .i32 0, .slice none 0 0, .int .i64 0, .int .i64 1, .string ⟨#[]⟩, .int .i64 0, .int .i64 0, .bool false][j]? := fun o0 o1 o2 j => (Whole.alloc (Whole.alloc (Whole.alloc (HX5.out) o0) o1) o2).cell j
          have hfw53 : ∀ (o0 o1 o2 : Obj) (j : Nat), (((w5.alloc o0).alloc o1).alloc o2).frozen? ⟨wo.heap.size, j, none⟩ = false := fun o0 o1 o2 j => (Whole.alloc (Whole.alloc (Whole.alloc (HX5.out) o0) o1) o2).free j
          obtain ⟨w6, hw6⟩ : ∃ X, ((w5.alloc (.cells #[.int .i64 6, .slice (some ⟨w4.heap.size, 0, none⟩) 1 1, .int .i32 0, .slice none 0 0, .int .i64 0, .int .i64 1, .string ⟨#[]⟩, .int .i64 0, .int .i64 0, .bool false] 27)).alloc (.cells #[.int .i64 3, .slice none 0 0, .int .i32 120, .slice none 0 0, .int .i64 0, .int .i64 0, .string ⟨#[]⟩, .int .i64 0, .int .i64 0, .bool false] 27)).alloc (.cells #[.int .i64 6, .slice (some ⟨w4.heap.size, 0, none⟩) 1 1, .int .i32 0, .slice none 0 0, .int .i64 0, .int .i64 1, .string ⟨#[]⟩, .int .i64 0, .int .i64 0, .bool false, .int .i64 7, .slice (some ⟨w5.heap.size + 1, 0, none⟩) 1 1, .int .i32 0, .slice none 0 0, .int .i64 0, .int .i64 0, .string ⟨#[]⟩, .int .i64 0, .int .i64 0, .bool false, .int .i64 3, .slice none 0 0, .int .i32 121, .slice none 0 0, .int .i64 0, .int .i64 0, .string ⟨#[]⟩, .int .i64 0, .int .i64 0, .bool false] 27) = X := ⟨_, rfl⟩
          obtain ⟨w7, hw7⟩ : ∃ X, set10X w6 wo.heap.size (.int .i64 11) (.slice (some ⟨w5.heap.size + 1 + 1, 0, none⟩) 3 3) (.int .i32 0) (.slice none 0 0) (.int .i64 0) (.int .i64 0) (.string ⟨#[]⟩) (.int .i64 0) (.int .i64 0) (.bool false) = X := ⟨_, rfl⟩
          have y1 : Whole w6 (w5.heap.size + 1) 27 #[.int .i64 3, .slice none 0 0, .int .i32 120, .slice none 0 0, .int .i64 0, .int .i64 0, .string ⟨#[]⟩, .int .i64 0, .int .i64 0, .bool false] := by
            rw [← hw6]
            refine Whole.alloc ?_ _
            have := heap_alloc_new (w5.alloc (.cells #[.int .i64 6, .slice (some ⟨w4.heap.size, 0, none⟩) 1 1, .int .i32 0, .slice none 0 0, .int .i64 0, .int .i64 1, .string ⟨#[]⟩, .int .i64 0, .int .i64 0, .bool false] 27)) (.cells #[.int .i64 3, .slice none 0 0, .int .i32 120, .slice none 0 0, .int .i64 0, .int .i64 0, .string ⟨#[]⟩, .int .i64 0, .int .i64 0, .bool false] 27)
            simpa [Whole] using this
          have y2 : Whole w6 (w5.heap.size + 1 + 1) 27 #[.int .i64 6, .slice (some ⟨w4.heap.size, 0, none⟩) 1 1, .int .i32 0, .slice none 0 0, .int .i64 0, .int .i64 1, .string ⟨#[]⟩, .int .i64 0, .int .i64 0, .bool false, .int .i64 7, .slice (some ⟨w5.heap.size + 1, 0, none⟩) 1 1, .int .i32 0, .slice none 0 0, .int .i64 0, .int .i64 0, .string ⟨#[]⟩, .int .i64 0, .int .i64 0, .bool false, .int .i64 3, .slice none 0 0, .int .i32 121, .slice none 0 0, .int .i64 0, .int .i64 0, .string ⟨#[]⟩, .int .i64 0, .int .i64 0, .bool false] := by
            rw [← hw6]
            have := heap_alloc_new ((w5.alloc (.cells #[.int .i64 6, .slice (some ⟨w4.heap.size, 0, none⟩) 1 1, .int .i32 0, .slice none 0 0, .int .i64 0, .int .i64 1, .string ⟨#[]⟩, .int .i64 0, .int .i64 0, .bool false] 27)).alloc (.cells #[.int .i64 3, .slice none 0 0, .int .i32 120, .slice none 0 0, .int .i64 0, .int .i64 0, .string ⟨#[]⟩, .int .i64 0, .int .i64 0, .bool false] 27)) (.cells #[.int .i64 6, .slice (some ⟨w4.heap.size, 0, none⟩) 1 1, .int .i32 0, .slice none 0 0, .int .i64 0, .int .i64 1, .string ⟨#[]⟩, .int .i64 0, .int .i64 0, .bool false, .int .i64 7, .slice (some ⟨w5.heap.size + 1, 0, none⟩) 1 1, .int .i32 0, .slice none 0 0, .int .i64 0, .int .i64 0, .string ⟨#[]⟩, .int .i64 0, .int .i64 0, .bool false, .int .i64 3, .slice none 0 0, .int .i32 121, .slice none 0 0, .int .i64 0, .int .i64 0, .string ⟨#[]⟩, .int .i64 0, .int .i64 0, .bool false] 27)
            simpa [Whole] using this
          have y0 : Whole w6 wo.heap.size 27 #[.int .i64 6, .slice (some ⟨w4.heap.size, 0, none⟩) 1 1, .int .i32 0, .slice none 0 0, .int .i64 0, .int .i64 1, .string ⟨#[]⟩, .int .i64 0, .int .i64 0, .bool false] := by rw [← hw6]; exact Whole.alloc (Whole.alloc (Whole.alloc (HX5.out) _) _) _
          have hb6 : Below wo.heap.size wo w6 := by rw [← hw6]; exact ((((HB5.out).alloc (by have := (HB5.out).size; omega) _).alloc (by have := (HB5.out).size; simp; omega) _).alloc (by have := (HB5.out).size; simp; omega) _)
          have hb7 : Below wo.heap.size wo w7 := by rw [← hw7]; exact set10X_below hb6 (Nat.le_refl _) _ _ _ _ _ _ _ _ _ _
          have hlw : wo.heap.size < w5.heap.size := (HX5.out).lt
          have z0 : Whole w7 wo.heap.size 27 #[.int .i64 11, .slice (some ⟨w5.heap.size + 1 + 1, 0, none⟩) 3 3, .int .i32 0, .slice none 0 0, .int .i64 0, .int .i64 0, .string ⟨#[]⟩, .int .i64 0, .int .i64 0, .bool false] := by rw [← hw7]; exact set10X_whole y0 _ _ _ _ _ _ _ _ _ _
          have z1 : Whole w7 (w5.heap.size + 1) 27 #[.int .i64 3, .slice none 0 0, .int .i32 120, .slice none 0 0, .int .i64 0, .int .i64 0, .string ⟨#[]⟩, .int .i64 0, .int .i64 0, .bool false] := by rw [← hw7]; exact set10X_far y1 (by omega) _ _ _ _ _ _ _ _ _ _
          have z2 : Whole w7 (w5.heap.size + 1 + 1) 27 #[.int .i64 6, .slice (some ⟨w4.heap.size, 0, none⟩) 1 1, .int .i32 0, .slice none 0 0, .int .i64 0, .int .i64 1, .string ⟨#[]⟩, .int .i64 0, .int .i64 0, .bool false, .int .i64 7, .slice (some ⟨w5.heap.size + 1, 0, none⟩) 1 1, .int .i32 0, .slice none 0 0, .int .i64 0, .int .i64 0, .string ⟨#[]⟩, .int .i64 0, .int .i64 0, .bool false, .int .i64 3, .slice none 0 0, .int .i32 121, .slice none 0 0, .int .i64 0, .int .i64 0, .string ⟨#[]⟩, .int .i64 0, .int .i64 0, .bool false] := by rw [← hw7]; exact set10X_far y2 (by omega) _ _ _ _ _ _ _ _ _ _
          have z3 : Whole w7 w4.heap.size 27 #[.int .i64 11, .slice x1 x2 x3, .int .i32 0, .slice none 0 0, .int .i64 0, .int .i64 0, .string ⟨#[]⟩, .int .i64 0, .int .i64 0, .bool false] := by rw [← hw7, ← hw6]; exact set10X_far (Whole.alloc (Whole.alloc (Whole.alloc HY5.out _) _) _) (by have := HS4.out; omega) _ _ _ _ _ _ _ _ _ _
          have hF7 : Tre w7 (grpL l true) (.agg #[.int .i64 6, .slice (some ⟨w4.heap.size, 0, none⟩) 1 1, .int .i32 0, .slice none 0 0, .int .i64 0, .int .i64 1, .string ⟨#[]⟩, .int .i64 0, .int .i64 0, .bool false]) := opX_tre (kds1X z3 (opX_tre (HK.out.below hb7) (by decide) (by decide))) (by decide) (by decide)
          have hT7 : Tre w7 (repL l true true) (.agg #[.int .i64 11, .slice (some ⟨w5.heap.size + 1 + 1, 0, none⟩) 3 3, .int .i32 0, .slice none 0 0, .int .i64 0, .int .i64 0, .string ⟨#[]⟩, .int .i64 0, .int .i64 0, .bool false]) := opX_tre (kds3X z2 hF7 (opX_tre (kds1X z1 (runeX_tre w7 (by decide))) (by decide) (by decide)) (runeX_tre w7 (by decide))) (by decide) (by decide)
          have HT7 := Lib.hid hT7; have HB7 := Lib.hid hb7; have HW6 := Lib.hid hw6; have HW7 := Lib.hid hw7
          have hk7 : ∀ j, w7.cell? ⟨wo.heap.size, j, none⟩ = #[.int .i64 11, .slice (some ⟨w5.heap.size + 1 + 1, 0, none⟩) 3 3, .int .i32 0, .slice none 0 0, .int .i64 0, .int .i64 0, .string ⟨#[]⟩, .int .i64 0, .int .i64 0, .bool false][j]? := fun j => z0.cell j
          clear hT7 hb7 hb6 y0 y1 y2 z0 z1 z2 hF7 hlw hw6 hw7
          go_upto_region 17 with (fail)
          rw [HW6.out]
          have hw7' := HW7.out
          unfold set10X at hw7'
          rw [hw7']
          clear hw7'
          go_wp2_with fail
          refine (hfin.out w7 _ HB7.out HT7.out).mono ?_
          rintro e wp ⟨vp, rfl, hvp, hbp⟩
          have HBP := Lib.hid (HB.out.trans ((HBR.out.trans ((HB7.out).trans (hbp.mono (HB7.out).size) |>.mono HBR.out.size)).mono HB.out.size))
          have HS := Lib.hid (psame14_any vp (.slice A k c) l l wp hvp.rns (by rw [← HN.out]; exact H.out.below HBP.out))
          obtain ⟨p1, p2, rfl, -⟩ := hvp.rns
          clear hvp hbp
          go_wp2_with fail
          refine HS.out.mono ?_
          rintro e wq ⟨B, rfl, hB, q, rfl⟩
          obtain rfl : B = true := hB.2 (by first | trivial | rfl)
          have HT2 := Lib.hid (HBP.out.trans ((below_draws wp q).mono HBP.out.size))
          clear hB
          go_wp2_with fail
          go_ret
          exact ⟨rfl, HT2.out⟩
end Go.Proofs.Ytaaadimkbhkpiaa
