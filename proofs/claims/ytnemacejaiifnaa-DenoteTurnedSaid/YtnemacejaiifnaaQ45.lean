/- Texts merged by program: PTurned, DnTTop. No condition. -/
import Derived.Test.YtnemacejaiifnaaQ43
import Derived.Test.YtnemacejaiifnaaQ44
import Derived.Test.YtnemacejaiifnaaQ41
import Derived.Test.YtnemacejaiifnaaQ29
import Derived.Test.YtnemacejaiifnaaQ36
set_option linter.unusedVariables false
/- A tree, turned: the program's turned, at any tree; and its Turned. -/
namespace Go.Proofs.Ytnemacejaiifnaa
open Go Go.RowKit

def PTurnedOf (t : Tr) : Prop := ShapedP t → partsR t ≤ 10000000000 → ∀ (A : Nat → Prop) (v : Value) (w : World), (∀ b, A b → b < w.heap.size) → TreF A w t v → Calls Try.prog 42 #[v] w (TurnedPost A (turnedT t) w)
theorem OwnT.monoF {F G : Nat → Prop} {w : World} {B : Nat} {v : Value} {T : List Tr} (h : OwnT F w B v T) (hFG : ∀ b, F b → G b) : OwnT G w B v T := by
  obtain ⟨L, hl, ho, ht⟩ := h
  exact ⟨L, hl, ho, fun i h h' => (ht i h h').same (fun _ _ _ => rfl) fun b hb _ => ⟨hb.1, hFG b hb.2⟩⟩
theorem OwnT.far {F : Nat → Prop} {w : World} {B : Nat} {v : Value} {T : List Tr} (h : OwnT F w B v T) (x : Nat) (hx : x < B) (hF : ∀ b, F b → b ≠ x) (j : Nat) (u : Value) : OwnT F (w.setCell ⟨x, j, none⟩ u) B v T := by
  obtain ⟨L, hl, ho, ht⟩ := h
  refine ⟨L, hl, ownsRow_setCell_below ho (a := ⟨x, j, none⟩) hx u, fun i h h' => (ht i h h').same (fun b hb _ => Below.heap_setCell w _ u b (hF b hb.2)) fun b hb _ => hb⟩
theorem rows_apart {w : World} {b1 b2 n1 n2 z1 z2 : Nat} {e1 e2 : TypeId} {v1 v2 : Value} {x1 x2 : List Value} (h : w.ownsRow b1 e1 z1 v1 n1 x1) (h' : w.ownsRow b2 e2 z2 v2 n2 x2) (hne : e1 ≠ e2) : v1.ownBlock = none ∨ v1.ownBlock ≠ v2.ownBlock := by
  rcases h.2 with ⟨rfl, _⟩ | ⟨q, cap, cur, rfl, _, hh, _⟩
  · exact .inl rfl
  · refine .inr fun he => ?_
    rcases h'.2 with ⟨rfl, _⟩ | ⟨q', cap', cur', rfl, _, hh', _⟩
    · simp [Value.ownBlock] at he
    · obtain rfl : q = q' := by simpa [Value.ownBlock] using he
      rw [hh] at hh'
      injection hh' with h1
      injection h1 with _ h2
      exact hne h2
theorem kdsE_of {F : Nat → Prop} {w : World} {ks : List Tr} {v : Value} (h : KdsF F w ks v) : KdsE F w ks v := by
  obtain ⟨A, c, h1, h2, h3, h4, h5, h6⟩ := h
  refine ⟨A, c, h1, h2, h3, h4, h5, h6.imp id ?_⟩
  rintro ⟨b, o, e, -, hc⟩
  exact ⟨b, o, e, hc⟩

/-- The Kids, the first k of them turned. -/
def mixT (ks : List Tr) (k : Nat) : List Tr := (ks.take k).map turnedT ++ ks.drop k
theorem mixT_len {ks : List Tr} {k : Nat} (h : k ≤ ks.length) : (mixT ks k).length = ks.length := by
  unfold mixT
  simp
  omega
theorem mixT_at {ks : List Tr} {k : Nat} (h : k < ks.length) (h' : k < (mixT ks k).length) : (mixT ks k)[k] = ks[k] := by
  have h1 : (mixT ks k)[k]? = ks[k]? := by
    unfold mixT
    rw [List.getElem?_append_right (by simp; omega), List.getElem?_drop]
    congr 1
    simp
    omega
  rw [List.getElem?_eq_getElem h, List.getElem?_eq_getElem h'] at h1
  exact Option.some.inj h1
theorem mixT_set {ks : List Tr} {k : Nat} (h : k < ks.length) : (mixT ks k).set k (turnedT ks[k]) = mixT ks (k + 1) := by
  unfold mixT
  rw [List.set_append_right _ _ (by simp; omega), List.take_succ_eq_append_getElem h, List.map_append, List.append_assoc]
  congr 1
  rw [List.length_map, List.length_take, Nat.min_eq_left (by omega), Nat.sub_self, List.drop_eq_getElem_cons h]
  rfl
/-- What the turning holds: the tree's box, the result's, the row of its set, the row of its Kids. -/
structure TSt (w : World) (AF : Nat → Prop) (t : Tr) (v5 v3 : Value) (T : List Tr) (W : World) : Prop where
  e : Whole W w.heap.size 27 #[.int .i64 t.fld.op, v5, .int .i32 t.fld.rune, v3, .int .i64 (swapAt t.fld.at'), .int .i64 t.fld.cap, .string t.fld.name, .int .i64 t.fld.min, .int .i64 t.fld.max, .bool t.fld.lazy]
  r : Whole W (w.heap.size + 1) 27 #[.int .i64 0, .slice none 0 0, .int .i32 0, .slice none 0 0, .int .i64 0, .int .i64 0, .string ⟨#[]⟩, .int .i64 0, .int .i64 0, .bool false]
  s : OwnR W (w.heap.size + 2) v3 t.fld.set
  o : OwnT (fun b => AF b ∨ w.heap.size + 2 ≤ b) W (w.heap.size + 2) v5 T
  b : Below w.heap.size w W
theorem TSt.below {w W W' : World} {AF : Nat → Prop} {t : Tr} {v5 v3 : Value} {T : List Tr} (h : TSt w AF t v5 v3 T W) (hb : Below W.heap.size W W') : TSt w AF t v5 v3 T W' :=
  ⟨h.e.below hb h.e.lt, h.r.below hb h.r.lt, h.s.below hb, h.o.below hb, h.b.trans (hb.mono h.b.size)⟩
theorem TSt.next {w W W' : World} {AF : Nat → Prop} {t : Tr} {v5 v3 : Value} {T T' : List Tr} (h : TSt w AF t v5 v3 T W) (hg : W.grownBy W' v5.ownBlock) (ho : OwnT (fun b => AF b ∨ w.heap.size + 2 ≤ b) W' (w.heap.size + 2) v5 T') : TSt w AF t v5 v3 T' W' := by
  have hB := h.o.base
  have hne : ∀ j, j < w.heap.size + 2 → v5.ownBlock ≠ some j := fun j hj e => by have := hB j e; omega
  obtain ⟨L, hl, hro, ht⟩ := h.o
  exact ⟨h.e.grown hg (hne _ (by omega)), h.r.grown hg (hne _ (by omega)), ⟨h.s.1.kept hg (rows_apart h.s.1 hro (by decide)), h.s.2⟩, ho, h.b.grown hg h.b.size (fun k e => by have := hB k e; omega)⟩

/-- What is handed back at the end. -/
theorem TSt.fin {w W : World} {AF : Nat → Prop} {t : Tr} {r1 q1 : Option Addr} {n r3 q2 q3 : Nat} (h : TSt w AF t (.slice r1 n r3) (.slice q1 q2 q3) ((turnKids t).map turnedT) W) (hA : ∀ b, AF b → b < w.heap.size) (hF : FldOk t.fld) (h6 : t.fld.op ≠ 6) (hks : ((turnKids t).map turnedT).length ≤ 1172812402961) (tmps : Array Value) (htm : tmps.getD 2 undef = .pointer (some ⟨w.heap.size + 1, 0, none⟩)) :
    bodyPost Try.prog Try.f42 (TurnedPost AF (turnedT t) w) Exit.ret { tmps := tmps, defers := [] } (set10 W (w.heap.size + 1) (.int .i64 t.fld.op) (.slice r1 n r3) (.int .i32 t.fld.rune) (.slice q1 q2 q3) (.int .i64 (swapAt t.fld.at')) (.int .i64 t.fld.cap) (.string t.fld.name) (.int .i64 t.fld.min) (.int .i64 t.fld.max) (.bool t.fld.lazy)) := by
  refine tree_ret Try.results42 (w.heap.size + 1) htm h.r ?_
  refine ⟨_, rfl, ?_, set10_below h.b (by omega) _ _ _ _ _ _ _ _ _ _⟩
  rw [turnedT_else t h6]
  have hsw := set10_same W (w.heap.size + 1) (.int .i64 t.fld.op) (.slice r1 n r3) (.int .i32 t.fld.rune) (.slice q1 q2 q3) (.int .i64 (swapAt t.fld.at')) (.int .i64 t.fld.cap) (.string t.fld.name) (.int .i64 t.fld.min) (.int .i64 t.fld.max) (.bool t.fld.lazy)
  have hkd : KdsF (fun b => AF b ∨ w.heap.size + 2 ≤ b) W ((turnKids t).map turnedT) (.slice r1 n r3) := h.o.kdsF hks (fun b h => .inr h) (fun b h => h)
  refine turned_made hF (rgs_same (F := fun b => w.heap.size + 2 ≤ b) h.s.rgs (.inr fun b hb => (h.s.1.lt b hb).1) (hsw.mono fun b hb => by omega) fun b hb _ => .inr (by omega)) (KdsF.same hkd (hsw.mono fun b hb => ?_) fun b hb _ => hb.imp id fun h => by omega)
  rcases hb with hb | hb
  · have := hA b hb
    omega
  · omega

set_option maxHeartbeats 4000000 in
set_option maxRecDepth 100000 in
theorem pturned_all (t : Tr) : PTurnedOf t := by
  refine Tr.ind (P := PTurnedOf) (fun t ih hsh hp AF v w hA h0 => ?_) t
  have IH := Lib.hid ih
  have H0 := Lib.hid h0
  have h := h0.tre
  obtain ⟨A, n, c, a2, s, c2, hn, hs, rfl, hnb, hsb, hK, hS, hF⟩ := h.opened
  obtain ⟨w1, hw1⟩ : ∃ w1, (w.alloc (.cells #[.int .i64 t.fld.op, .slice A n c, .int .i32 t.fld.rune, .slice a2 s c2, .int .i64 t.fld.at', .int .i64 t.fld.cap, .string t.fld.name, .int .i64 t.fld.min, .int .i64 t.fld.max, .bool t.fld.lazy] 27)).alloc (.cells #[.int .i64 0, .slice none 0 0, .int .i32 0, .slice none 0 0, .int .i64 0, .int .i64 0, .string ⟨#[]⟩, .int .i64 0, .int .i64 0, .bool false] 27) = w1 := ⟨_, rfl⟩
  have hb1 : Below w.heap.size w w1 := by rw [← hw1]; exact ((Below.refl _ w).alloc (Nat.le_refl _) _).alloc (by simp) _
  have hE1 : Whole w1 w.heap.size 27 #[.int .i64 t.fld.op, .slice A n c, .int .i32 t.fld.rune, .slice a2 s c2, .int .i64 t.fld.at', .int .i64 t.fld.cap, .string t.fld.name, .int .i64 t.fld.min, .int .i64 t.fld.max, .bool t.fld.lazy] := by rw [← hw1]; exact Whole.alloc (heap_alloc_new w _) _
  have hR1 : Whole w1 (w.heap.size + 1) 27 #[.int .i64 0, .slice none 0 0, .int .i32 0, .slice none 0 0, .int .i64 0, .int .i64 0, .string ⟨#[]⟩, .int .i64 0, .int .i64 0, .bool false] := by
    rw [← hw1]
    have := heap_alloc_new (w.alloc (.cells #[.int .i64 t.fld.op, .slice A n c, .int .i32 t.fld.rune, .slice a2 s c2, .int .i64 t.fld.at', .int .i64 t.fld.cap, .string t.fld.name, .int .i64 t.fld.min, .int .i64 t.fld.max, .bool t.fld.lazy] 27)) (.cells #[.int .i64 0, .slice none 0 0, .int .i32 0, .slice none 0 0, .int .i64 0, .int .i64 0, .string ⟨#[]⟩, .int .i64 0, .int .i64 0, .bool false] 27)
    simpa [Whole] using this
  have hs1 : w1.heap.size = w.heap.size + 2 := by rw [← hw1]; simp
  have hT1 : TreF AF w1 t _ := TreF.same H0.out (same_below hb1) (fun _ h _ => h)
  have HB1 := Lib.hid hb1; have HE1 := Lib.hid hE1; have HR1 := Lib.hid hR1; have HW1 := Lib.hid hw1; have HS1 := Lib.hid hs1; have HT1 := Lib.hid hT1; have HN := Lib.hid hn; have HA := Lib.hid hA; have HSH := Lib.hid hsh; have HF := Lib.hid hF
  obtain ⟨b0, b1, b2, b3, b4, b5, b6, b7, b8, b9⟩ := hE1.ten
  obtain ⟨op, hop⟩ : ∃ op, t.fld.op = op := ⟨_, rfl⟩
  rw [hop] at b0
  have HOP := Lib.hid hop
  clear h h0 ih hb1 hE1 hR1 hw1 hs1 hT1 hK hS hn hs hF hA hsh hop
  go_enter Try.func42, Try.ntmps42
  go_upto_region 1 with (fail)
  rw [HW1.out]
  by_cases h6 : op = 6
  · subst h6
    have hk1 : t.kids.length = 1 := ((shapedP_iff t).1 HSH.out).2.1.1 (.inl HOP.out)
    obtain ⟨b, o, cc, ss, tk, kv, sv, hv, htk, hm, ⟨c0, c1, c2', c3, c4, c5, c6, c7, c8, c9⟩, hTk⟩ := HT1.out.kid 0 (by omega)
    obtain ⟨hkv, -⟩ := treC_inj (f := t.fld) hv
    rw [hkv, hk1] at b1
    have hsk := ((shapedP_iff t).1 HSH.out).2.2.2 tk hm
    have hpk := partsR_kid hm
    have hres : turnedT t = turnedT tk := by
      rw [turnedT_eq, if_pos HOP.out]
      obtain ⟨f, ks⟩ := t
      match ks, hk1, htk with
      | [q], _, htk =>
        have : q = tk := htk
        rw [this]
        rfl
    have HI := Lib.hid (IH.out tk hm hsk (by omega) AF _ w1 (fun b hb => by have := HA.out b hb; have := HS1.out; omega) hTk)
    have HRES := Lib.hid hres
    clear hv hkv htk hm hTk hsk hres hk1
    simp only [Nat.zero_mul, Nat.add_zero] at c0 c1 c2' c3 c4 c5 c6 c7 c8 c9
    go_wp2_with fail
    refine HI.out.mono ?_
    rintro e w2 ⟨v2, rfl, ht2, hb2⟩
    obtain ⟨kv2, sv2, rfl, ⟨x1, x2, x3, rfl⟩, ⟨y1, y2, y3, rfl⟩⟩ := ht2.ten
    have HT2 := Lib.hid ht2
    have HB2 := Lib.hid (HB1.out.trans (hb2.mono HB1.out.size))
    have hR2 : Whole w2 (w.heap.size + 1) 27 #[.int .i64 0, .slice none 0 0, .int .i32 0, .slice none 0 0, .int .i64 0, .int .i64 0, .string ⟨#[]⟩, .int .i64 0, .int .i64 0, .bool false] := HR1.out.below hb2 (by have := HS1.out; omega)
    have HR2 := Lib.hid hR2
    obtain ⟨r0, r1, r2, r3, r4, r5, r6, r7, r8, r9⟩ := hR2.ten
    obtain ⟨z0, z1, z2, z3, z4, z5, z6, z7, z8, z9⟩ := whole_free hR2
    clear ht2 hb2 hR2 b0 b1 b2 b3 b4 b5 b6 b7 b8 b9 c0 c1 c2' c3 c4 c5 c6 c7 c8 c9 HI
    go_wp2_with fail
    refine tree_ret Try.results42 (w.heap.size + 1) rfl HR2.out ?_
    refine ⟨_, rfl, ?_, set10_below HB2.out (by omega) _ _ _ _ _ _ _ _ _ _⟩
    rw [HRES.out]
    refine TreF.same HT2.out (SameOn.mono (set10_same _ _ _ _ _ _ _ _ _ _ _ _) (fun b hb e => ?_)) (fun b hb _ => hb.imp id fun h => by have := HS1.out; omega)
    have h1 := HS1.out
    rcases hb with hb | hb
    · have := HA.out b hb
      omega
    · omega
  have hte := turnedT_else t (by rw [HOP.out]; exact h6)
  have e6 : (op == 6) = false := beq_eq_false_iff_ne.2 h6
  have HTE := Lib.hid hte
  clear hte h6
  -- the place
  obtain ⟨w2, hw2⟩ : ∃ w2, w1.setCell ⟨w.heap.size, 4, none⟩ (.int .i64 (swapAt t.fld.at')) = w2 := ⟨_, rfl⟩
  have hE20 := HE1.out.store 4 (.int .i64 (swapAt t.fld.at'))
  simp only [List.setIfInBounds_toArray, List.set_cons_zero, List.set_cons_succ] at hE20
  have hE2 : Whole w2 w.heap.size 27 #[.int .i64 t.fld.op, .slice A n c, .int .i32 t.fld.rune, .slice a2 s c2, .int .i64 (swapAt t.fld.at'), .int .i64 t.fld.cap, .string t.fld.name, .int .i64 t.fld.min, .int .i64 t.fld.max, .bool t.fld.lazy] := hw2 ▸ hE20
  have hR2 : Whole w2 (w.heap.size + 1) 27 #[.int .i64 0, .slice none 0 0, .int .i32 0, .slice none 0 0, .int .i64 0, .int .i64 0, .string ⟨#[]⟩, .int .i64 0, .int .i64 0, .bool false] := by rw [← hw2]; exact HR1.out.far (by omega) 4 _
  have hB2 : Below w.heap.size w w2 := by rw [← hw2]; exact HB1.out.setCell (p := ⟨w.heap.size, 4, none⟩) (Nat.le_refl _) _
  have hs2 : w2.heap.size = w1.heap.size := by rw [← hw2]; simp [World.setCell]
  have hT2 : TreF AF w2 t _ := HT1.out.same (fun b hb _ => by rw [← hw2]; exact Below.heap_setCell w1 _ _ b (by have := HA.out b hb; simp; omega)) (fun _ h _ => h)
  have hset2 : Rgs w2 (.slice a2 s c2) t.fld.set ∧ KdsF AF w2 t.kids (.slice A n c) := by
    rw [treF_iff] at hT2
    obtain ⟨kv', sv', e, h2, -, h3⟩ := hT2
    obtain ⟨rfl, rfl⟩ := treC_inj (f := t.fld) e
    exact ⟨h2.1, h3⟩
  have hsb' : t.fld.set.length ≤ 17592186044416 := HF.out.2.2.2.2.2.2.2
  have HCR := Lib.hid (cloneR_any _ t.fld.set w2 hset2.1 hsb')
  have HW2 := Lib.hid hw2; have HE2 := Lib.hid hE2; have HR2 := Lib.hid hR2; have HB2 := Lib.hid hB2; have HS2 := Lib.hid hs2; have HK2 := Lib.hid hset2.2
  have hpt := Lib.hid (pturnedAt_any t.fld.at' w1)
  have f4 := HE1.out.free 4
  rw [HOP.out] at hE2
  obtain ⟨a0, a1, a2', a3, a4, a5, a6, a7, a8, a9⟩ := hE2.ten
  obtain ⟨z0, z1, z2, z3, z4, z5, z6, z7, z8, z9⟩ := whole_free hE2
  clear hw2 hE20 hE2 hR2 hB2 hs2 hT2 hset2
  go_wp2_with fail
  refine hpt.out.mono ?_
  rintro e w1' ⟨rfl, hw1'⟩
  subst hw1'
  have hwlt : w.heap.size + 2 ≤ w1'.heap.size := by rw [HS1.out]; exact Nat.le_refl _
  go_upto_region 4 with (fail)
  rw [HW2.out]
  clear b0 b1 b2 b3 b4 b5 b6 b7 b8 b9 f4 hpt
  go_wp2_with fail
  refine HCR.out.mono ?_
  rintro e w3 ⟨v3, rfl, ho3, hb3⟩
  obtain ⟨q1, q2, q3, rfl⟩ : ∃ q1 q2 q3, v3 = .slice q1 q2 q3 := by
    rcases own_slice2 ho3.1 with ⟨rfl, -⟩ | ⟨g, c', rfl, -⟩
    · exact ⟨_, _, _, rfl⟩
    · exact ⟨_, _, _, rfl⟩
  have hE3 := HE2.out.below hb3 HE2.out.lt
  have hR3 := HR2.out.below hb3 HR2.out.lt
  have hE40 := hE3.store 3 (.slice q1 q2 q3)
  simp only [List.setIfInBounds_toArray, List.set_cons_zero, List.set_cons_succ] at hE40
  obtain ⟨w4, hw4⟩ : ∃ w4, w3.setCell ⟨w.heap.size, 3, none⟩ (.slice q1 q2 q3) = w4 := ⟨_, rfl⟩
  have hE4 : Whole w4 w.heap.size 27 #[.int .i64 t.fld.op, .slice A n c, .int .i32 t.fld.rune, .slice q1 q2 q3, .int .i64 (swapAt t.fld.at'), .int .i64 t.fld.cap, .string t.fld.name, .int .i64 t.fld.min, .int .i64 t.fld.max, .bool t.fld.lazy] := hw4 ▸ hE40
  have hR4 : Whole w4 (w.heap.size + 1) 27 #[.int .i64 0, .slice none 0 0, .int .i32 0, .slice none 0 0, .int .i64 0, .int .i64 0, .string ⟨#[]⟩, .int .i64 0, .int .i64 0, .bool false] := by rw [← hw4]; exact hR3.far (by omega) 3 _
  have hB4 : Below w.heap.size w w4 := by rw [← hw4]; exact (HB2.out.trans (hb3.mono HB2.out.size)).setCell (p := ⟨w.heap.size, 3, none⟩) (Nat.le_refl _) _
  have hs4 : w4.heap.size = w3.heap.size := by rw [← hw4]; simp [World.setCell]
  have hO4 : OwnR w4 (w.heap.size + 2) (.slice q1 q2 q3) t.fld.set := by
    have hbase : w.heap.size + 2 ≤ w2.heap.size := by rw [HS2.out]; exact hwlt
    rw [← hw4]
    exact ⟨ownsRow_setCell_below (Go.Joins.ownsRow_le ho3.1 hbase) (a := ⟨w.heap.size, 3, none⟩) (by show w.heap.size < w.heap.size + 2; omega) _, ho3.2⟩
  have hK4 : KdsF AF w4 t.kids (.slice A n c) := KdsF.same HK2.out (fun b hb hlt => by
    rw [← hw4, Below.heap_setCell w3 _ _ b (by have := HA.out b hb; simp; omega)]
    exact hb3.block b hlt) (fun b h _ => h)
  have hAF4 : ∀ b, AF b → b < w4.heap.size := fun b hb => Nat.lt_of_lt_of_le (HA.out b hb) hB4.size
  have HCT := Lib.hid (cloneT_any AF _ t.kids w4 hAF4 (kdsE_of hK4))
  have hle4 : w.heap.size + 2 ≤ w4.heap.size := by rw [hs4]; exact Nat.le_trans (by rw [HS2.out]; exact hwlt) hb3.size
  have HW4 := Lib.hid hw4; have HE4 := Lib.hid hE4; have HR4 := Lib.hid hR4; have HB4 := Lib.hid hB4; have HO4 := Lib.hid hO4; have HLE4 := Lib.hid hle4
  obtain ⟨c0, c1, c2', c3, c4, c5, c6, c7, c8, c9⟩ := hE3.ten
  obtain ⟨y0, y1, y2, y3, y4, y5, y6, y7, y8, y9⟩ := whole_free hE3
  rw [HOP.out] at hE4
  obtain ⟨d0, d1, d2, d3, d4, d5, d6, d7, d8, d9⟩ := hE4.ten
  obtain ⟨x0, x1, x2, x3, x4, x5, x6, x7, x8, x9⟩ := whole_free hE4
  clear a0 a1 a2' a3 a4 a5 a6 a7 a8 a9 z0 z1 z2 z3 z4 z5 z6 z7 z8 z9 hE3 hR3 hE40 hw4 hE4 hR4 hB4 hs4 hO4 hK4 hAF4 hle4 ho3 hb3
  go_upto_region 5 with (fail)
  rw [HW4.out]
  clear c0 c1 c2' c3 c4 c5 c6 c7 c8 c9 y0 y1 y2 y3 y4 y5 y6 y7 y8 y9
  go_wp2_with fail
  refine HCT.out.mono ?_
  rintro e w5 ⟨v5, rfl, ho5, hb5⟩
  obtain ⟨r1, r2, r3, rfl⟩ := ho5.slice
  obtain rfl : r2 = n := by rw [ho5.len]; exact HN.out
  have hE5 := HE4.out.below hb5 HE4.out.lt
  have hR5 := HR4.out.below hb5 HR4.out.lt
  have hE60 := hE5.store 1 (.slice r1 r2 r3)
  simp only [List.setIfInBounds_toArray, List.set_cons_zero, List.set_cons_succ] at hE60
  obtain ⟨w6, hw6⟩ : ∃ w6, w5.setCell ⟨w.heap.size, 1, none⟩ (.slice r1 r2 r3) = w6 := ⟨_, rfl⟩
  have hSt : TSt w AF t (.slice r1 r2 r3) (.slice q1 q2 q3) t.kids w6 := by
    refine ⟨hw6 ▸ hE60, by rw [← hw6]; exact hR5.far (by omega) 1 _, ?_, ?_, by rw [← hw6]; exact (HB4.out.trans (hb5.mono HB4.out.size)).setCell (p := ⟨w.heap.size, 1, none⟩) (Nat.le_refl _) _⟩
    · have h1 := HO4.out.below hb5
      rw [← hw6]
      exact ⟨ownsRow_setCell_below h1.1 (a := ⟨w.heap.size, 1, none⟩) (by show w.heap.size < w.heap.size + 2; omega) _, h1.2⟩
    · rw [← hw6]
      exact OwnT.far ((ho5.mono HLE4.out).monoF fun b h => .inl h) w.heap.size (by omega) (fun b hb => by rcases hb with hb | hb <;> (try have := HA.out b hb) <;> omega) 1 _
  have HW6 := Lib.hid hw6; have HST := Lib.hid hSt
  obtain ⟨c0, c1, c2', c3, c4, c5, c6, c7, c8, c9⟩ := hE5.ten
  obtain ⟨y0, y1, y2, y3, y4, y5, y6, y7, y8, y9⟩ := whole_free hE5
  have hE6 := hSt.e
  rw [HOP.out] at hE6
  obtain ⟨k0, k1, k2, k3, k4, k5, k6, k7, k8, k9⟩ := hE6.ten
  clear d0 d1 d2 d3 d4 d5 d6 d7 d8 d9 x0 x1 x2 x3 x4 x5 x6 x7 x8 x9 hE5 hR5 hE60 hw6 hSt hE6 ho5 hb5
  go_upto_region 6 with (fail)
  rw [HW6.out]
  clear c0 c1 c2' c3 c4 c5 c6 c7 c8 c9 y0 y1 y2 y3 y4 y5 y6 y7 y8 y9
  go_wp2_with fail
  have hr1 : r2 = 0 ∨ ∃ g, r1 = some ⟨g, 0, none⟩ := by
    obtain ⟨L, hl, ho, ht⟩ := HST.out.o
    rcases own_slice10 ho with ⟨h, -⟩ | ⟨g', c', h, -⟩
    · injection h with _ h _
      exact .inl h
    · injection h with h _ _
      exact .inr ⟨g', h⟩
  have HR1' := Lib.hid hr1
  clear hr1
  go_loopw [28] (fun i wr => ∃ k : Nat, k ≤ r2 ∧ i = .int .i64 k ∧ TSt w AF t (.slice r1 r2 r3) (.slice q1 q2 q3) (mixT t.kids k) wr) (fun i _ => r2 - (intOf i).toNat)
  case atStart => exact ⟨0, Nat.zero_le _, rfl, by unfold mixT; simpa using HST.out⟩
  case round =>
    obtain ⟨k, hk, rfl, hSt⟩ := hrel
    have HSR := Lib.hid hSt
    clear hSt k0 k1 k2 k3 k4 k5 k6 k7 k8 k9
    by_cases hkn : k < r2
    · obtain ⟨g, rfl⟩ := HR1'.out.resolve_left (by omega)
      have hkl : k < t.kids.length := by rw [HN.out]; exact hkn
      have hml : k < (mixT t.kids k).length := by rw [mixT_len (by omega)]; exact hkl
      obtain ⟨tk, u1, u2, u3, u4, u5, u6, htk, h10, hTk⟩ := HSR.out.o.at' k hml
      rw [mixT_at hkl hml] at htk
      have hm : tk ∈ t.kids := htk ▸ List.getElem_mem hkl
      have hsk := ((shapedP_iff t).1 HSH.out).2.2.2 tk hm
      have hpk := partsR_kid hm
      have hms := mixT_set hkl
      rw [htk] at hms
      obtain ⟨c0, c1, c2', c3, c4, c5, c6, c7, c8, c9⟩ := h10
      obtain ⟨wk, hwk⟩ : ∃ wk, wr.alloc (.cells #[.int .i64 tk.fld.op, .slice u1 u2 u3, .int .i32 tk.fld.rune, .slice u4 u5 u6, .int .i64 tk.fld.at', .int .i64 tk.fld.cap, .string tk.fld.name, .int .i64 tk.fld.min, .int .i64 tk.fld.max, .bool tk.fld.lazy] 27) = wk := ⟨_, rfl⟩
      have hbk : Below wr.heap.size wr wk := by rw [← hwk]; exact (Below.refl _ _).alloc (Nat.le_refl _) _
      have hsk1 : wk.heap.size = wr.heap.size + 1 := by rw [← hwk]; simp
      have hE7 := box10_new wr 27 (.int .i64 tk.fld.op) (.slice u1 u2 u3) (.int .i32 tk.fld.rune) (.slice u4 u5 u6) (.int .i64 tk.fld.at') (.int .i64 tk.fld.cap) (.string tk.fld.name) (.int .i64 tk.fld.min) (.int .i64 tk.fld.max) (.bool tk.fld.lazy)
      rw [hwk] at hE7
      have hSk := HSR.out.below hbk
      have hTk2 : TreF (fun b => (Off (.slice (some ⟨g, 0, none⟩) r2 r3) b ∧ (AF b ∨ w.heap.size + 2 ≤ b)) ∧ b < wk.heap.size) wk tk _ := hTk.same (same_below hbk) (fun b h hlt => ⟨h, Nat.lt_of_lt_of_le hlt hbk.size⟩)
      have HI := Lib.hid fun q => IH.out tk hm hsk (by omega) (fun b => (Off (.slice (some ⟨g, 0, none⟩) r2 r3) b ∧ (AF b ∨ w.heap.size + 2 ≤ b)) ∧ b < wk.heap.size) _ (wk.drewN q) (fun b h => by simpa using h.2) (hTk2.same (same_below (below_draws wk q)) (fun b h _ => h))
      have HML := Lib.hid hml
      have HWK := Lib.hid hwk; have HSK := Lib.hid hSk; have HMS := Lib.hid hms; have HBK := Lib.hid hbk
      have hE8 := hSk.e
      obtain ⟨e0, e1, e2, e3, e4, e5, e6', e7, e8, e9⟩ := hE8.ten
      obtain ⟨p0, p1, p2, p3, p4, p5, p6, p7, p8, p9⟩ := hE7
      clear htk hm hsk hms hwk hbk hTk hTk2 hSk hE8 hml hkl
      go_upto_region 9 with (fail)
      rw [HWK.out]
      clear c0 c1 c2' c3 c4 c5 c6 c7 c8 c9
      go_region_with (go_at_call 42; refine (HI.out _).mono ?_; rintro e w7 ⟨v7, rfl, ht7, hb7⟩; obtain ⟨kv7, sv7, rfl, ⟨m1, m2, m3, rfl⟩, ⟨o1, o2, o3, rfl⟩⟩ := ht7.ten; have hb7' := (below_draws wk _).trans hb7; have hS7 := HSK.out.below hb7'; obtain ⟨-, e1', -⟩ := hS7.e.ten; obtain ⟨tq, v1, v2, v3, v4, v5, v6, -, ⟨d0, d1, d2, d3, d4, d5, d6, d7, d8, d9⟩, -⟩ := hS7.o.at' k HML.out; have fr := fun j => hS7.o.free j; have HS7 := Lib.hid hS7; have HT7 := Lib.hid ht7; have HB7 := Lib.hid hb7'; clear hb7 hb7' hS7 ht7)
      all_goals
        clear e0 e1 e2 e3 e4 e5 e6' e7 e8 e9 p0 p1 p2 p3 p4 p5 p6 p7 p8 p9 d0 d1 d2 d3 d4 d5 d6 d7 d8 d9 fr e1' HI
        obtain ⟨W8, hW8⟩ : ∃ W8, set10o w7 g (k * 10) (.int .i64 (turnedT tk).fld.op) (.slice m1 m2 m3) (.int .i32 (turnedT tk).fld.rune) (.slice o1 o2 o3) (.int .i64 (turnedT tk).fld.at') (.int .i64 (turnedT tk).fld.cap) (.string (turnedT tk).fld.name) (.int .i64 (turnedT tk).fld.min) (.int .i64 (turnedT tk).fld.max) (.bool (turnedT tk).fld.lazy) = W8 := ⟨_, rfl⟩
        have hS8 : TSt w AF t (.slice (some ⟨g, 0, none⟩) r2 r3) (.slice q1 q2 q3) (mixT t.kids (k + 1)) W8 := by
          rw [← hW8, set10o_eq, ← HMS.out]
          refine HS7.out.next (setsW_grown (g := g) (#[.int .i64 (turnedT tk).fld.op, .slice m1 m2 m3, .int .i32 (turnedT tk).fld.rune, .slice o1 o2 o3, .int .i64 (turnedT tk).fld.at', .int .i64 (turnedT tk).fld.cap, .string (turnedT tk).fld.name, .int .i64 (turnedT tk).fld.min, .int .i64 (turnedT tk).fld.max, .bool (turnedT tk).fld.lazy] : Array Value).toList w7 (k * 10)) ?_
          refine ownT_set HS7.out.o k HML.out (HT7.out.same (fun _ _ _ => rfl) fun b hb _ => ?_)
          rcases hb with hb | hb
          · exact hb.1
          · have hb' : wk.heap.size ≤ b := by simpa using hb
            exact ⟨HSK.out.o.off b hb', .inr (by have := HSK.out.r.lt; omega)⟩
        have HS8 := Lib.hid hS8
        unfold set10o at hW8
        have HW8 := Lib.hid hW8
        clear hW8 hS8
        rw [HW8.out]
        go_wp2_with fail
        go_roundw
        case rel => exact ⟨k + 1, by omega, by go_num, HS8.out⟩
        case measure => simp [intOf]; omega
    · have hkn' : k = t.kids.length := by rw [HN.out]; omega
      have hmx : mixT t.kids k = t.kids.map turnedT := by
        unfold mixT
        rw [hkn', List.take_length, List.drop_length, List.append_nil]
      have hs := HSR.out
      rw [hmx] at hs
      have HSF := Lib.hid hs
      have hlen : (t.kids.map turnedT).length ≤ 1172812402961 := by rw [List.length_map, HN.out]; exact hnb
      have HLEN := Lib.hid hlen
      have h6 : t.fld.op ≠ 6 := by rw [HOP.out]; exact fun e => by rw [e] at e6; cases e6
      have H6 := Lib.hid h6
      clear hkn' hmx hs hlen h6
      have hE8 := HSF.out.e
      rw [HOP.out] at hE8
      obtain ⟨e0, e1, e2, e3, e4, e5, e6', e7, e8, e9⟩ := hE8.ten
      clear hE8
      by_cases q11 : op = 11
      · subst q11
        have HRV := Lib.hid (prev_any _ _ _ _ _ HSF.out.o HLEN.out)
        go_wp2_with fail
        refine HRV.out.mono ?_
        rintro e w9 ⟨⟨xr, rfl⟩, ho9, hg9⟩
        have hkr : (turnKids t).map turnedT = (t.kids.map turnedT).reverse := by
          unfold turnKids
          rw [if_pos HOP.out]
          simp
        rw [← hkr] at ho9
        have HS9 := Lib.hid (HSF.out.next hg9 ho9)
        clear ho9 hg9 hkr e0 e1 e2 e3 e4 e5 e6' e7 e8 e9
        have hE9 := HS9.out.e
        rw [HOP.out] at hE9
        obtain ⟨e0, e1, e2, e3, e4, e5, e6', e7, e8, e9⟩ := hE9.ten
        obtain ⟨r0', r1', r2', r3', r4', r5', r6', r7', r8', r9'⟩ := HS9.out.r.ten
        obtain ⟨z0, z1, z2, z3, z4, z5, z6, z7, z8, z9⟩ := whole_free HS9.out.r
        clear hE9
        go_wp2_with fail
        have hf := TSt.fin HS9.out HA.out HF.out H6.out (by rw [List.length_map, turnKids_len, HN.out]; exact hnb)
        rw [HOP.out] at hf
        exact hf _ rfl
      · have q11' : (op == 11) = false := beq_eq_false_iff_ne.2 q11
        have hkr : (turnKids t).map turnedT = t.kids.map turnedT := by
          unfold turnKids
          rw [if_neg (by rw [HOP.out]; exact q11)]
        have hs9 := HSF.out
        rw [← hkr] at hs9
        have HS9 := Lib.hid hs9
        clear hs9 hkr q11
        obtain ⟨r0', r1', r2', r3', r4', r5', r6', r7', r8', r9'⟩ := HS9.out.r.ten
        obtain ⟨z0, z1, z2, z3, z4, z5, z6, z7, z8, z9⟩ := whole_free HS9.out.r
        go_wp2_with fail
        have hf := TSt.fin HS9.out HA.out HF.out H6.out (by rw [List.length_map, turnKids_len, HN.out]; exact hnb)
        rw [HOP.out] at hf
        exact hf _ rfl
end Go.Proofs.Ytnemacejaiifnaa
/- The program's Turned, of any tree: turned, if it is right. (As in XTrProg, by itself.) No condition. -/
namespace Go.Proofs.Ytnemacejaiifnaa
open Go Go.RowKit

set_option maxHeartbeats 4000000 in
set_option maxRecDepth 100000 in
theorem pturnedT_any (t : Tr) (hp : partsR t ≤ 10000000000) (AF : Nat → Prop) (v : Value) (w : World) (hA : ∀ b, AF b → b < w.heap.size) (h0 : TreF AF w t v) : Calls Try.prog 16 #[v] w (TopPost AF t w) := by
  have H0 := Lib.hid h0
  have h := h0.tre
  obtain ⟨A, n, c, a2, s, c2, hn, hs, rfl, hnb, hsb, hK, hS, hF⟩ := h.opened
  obtain ⟨w1, hw1⟩ : ∃ w1, (w.alloc (.cells #[.int .i64 t.fld.op, .slice A n c, .int .i32 t.fld.rune, .slice a2 s c2, .int .i64 t.fld.at', .int .i64 t.fld.cap, .string t.fld.name, .int .i64 t.fld.min, .int .i64 t.fld.max, .bool t.fld.lazy] 27)).alloc (.cells #[.int .i64 0, .slice none 0 0, .int .i32 0, .slice none 0 0, .int .i64 0, .int .i64 0, .string ⟨#[]⟩, .int .i64 0, .int .i64 0, .bool false] 27) = w1 := ⟨_, rfl⟩
  have hb1 : Below w.heap.size w w1 := by rw [← hw1]; exact ((Below.refl _ w).alloc (Nat.le_refl _) _).alloc (by simp) _
  have hE1 : Whole w1 w.heap.size 27 #[.int .i64 t.fld.op, .slice A n c, .int .i32 t.fld.rune, .slice a2 s c2, .int .i64 t.fld.at', .int .i64 t.fld.cap, .string t.fld.name, .int .i64 t.fld.min, .int .i64 t.fld.max, .bool t.fld.lazy] := by rw [← hw1]; exact Whole.alloc (heap_alloc_new w _) _
  have hR1 : Whole w1 (w.heap.size + 1) 27 #[.int .i64 0, .slice none 0 0, .int .i32 0, .slice none 0 0, .int .i64 0, .int .i64 0, .string ⟨#[]⟩, .int .i64 0, .int .i64 0, .bool false] := by
    rw [← hw1]
    have := heap_alloc_new (w.alloc (.cells #[.int .i64 t.fld.op, .slice A n c, .int .i32 t.fld.rune, .slice a2 s c2, .int .i64 t.fld.at', .int .i64 t.fld.cap, .string t.fld.name, .int .i64 t.fld.min, .int .i64 t.fld.max, .bool t.fld.lazy] 27)) (.cells #[.int .i64 0, .slice none 0 0, .int .i32 0, .slice none 0 0, .int .i64 0, .int .i64 0, .string ⟨#[]⟩, .int .i64 0, .int .i64 0, .bool false] 27)
    simpa [Whole] using this
  have hs1 : w1.heap.size = w.heap.size + 2 := by rw [← hw1]; simp
  have hT1 : TreF AF w1 t _ := TreF.same H0.out (same_below hb1) (fun _ h _ => h)
  have HB1 := Lib.hid hb1; have HE1 := Lib.hid hE1; have HR1 := Lib.hid hR1; have HW1 := Lib.hid hw1; have HS1 := Lib.hid hs1; have HT1 := Lib.hid hT1; have HA := Lib.hid hA
  obtain ⟨b0, b1, b2, b3, b4, b5, b6, b7, b8, b9⟩ := hE1.ten
  clear h h0 hb1 hE1 hR1 hw1 hs1 hT1 hK hS hn hs hF hA
  have HD := Lib.hid (pright_any t hp _ w1 HT1.out.tre)
  go_enter Try.func16, Try.ntmps16
  go_upto_region 1 with (fail)
  rw [HW1.out]
  go_wp2_with fail
  refine HD.out.mono ?_
  rintro e w2 ⟨B, rfl, hq, hb2⟩
  have HB2 := Lib.hid (HB1.out.trans (hb2.mono HB1.out.size)); have HT2 := Lib.hid (HT1.out.same (same_below hb2) (fun _ h _ => h)); have HQ := Lib.hid hq; have HS2 := Lib.hid hb2.size
  have HE2 : Hid (Whole w2 w.heap.size 27 #[.int .i64 t.fld.op, .slice A n c, .int .i32 t.fld.rune, .slice a2 s c2, .int .i64 t.fld.at', .int .i64 t.fld.cap, .string t.fld.name, .int .i64 t.fld.min, .int .i64 t.fld.max, .bool t.fld.lazy]) := Lib.hid (HE1.out.below hb2 (by have := HS1.out; omega))
  have HR2 : Hid (Whole w2 (w.heap.size + 1) 27 #[.int .i64 0, .slice none 0 0, .int .i32 0, .slice none 0 0, .int .i64 0, .int .i64 0, .string ⟨#[]⟩, .int .i64 0, .int .i64 0, .bool false]) := Lib.hid (HR1.out.below hb2 (by have := HS1.out; omega))
  clear hb2 hq HD b0 b1 b2 b3 b4 b5 b6 b7 b8 b9
  rcases B with _ | _
  · have HN : Hid (¬ RightT t) := Lib.hid fun h => by have := HQ.out.2 h; cases this
    clear HQ
    obtain ⟨r0, r1, r2, r3, r4, r5, r6, r7, r8, r9⟩ := HR2.out.ten
    obtain ⟨z0, z1, z2, z3, z4, z5, z6, z7, z8, z9⟩ := whole_free HR2.out
    go_wp2_with fail
    refine tree_ret Try.results16 (w.heap.size + 1) rfl HR2.out ?_
    exact ⟨_, noTr, rfl, .inr ⟨HN.out, rfl⟩, noTr_tre _ _, set10_below HB2.out (by omega) _ _ _ _ _ _ _ _ _ _⟩
  have HR := Lib.hid (HQ.out.1 rfl)
  clear HQ
  have HI := Lib.hid (pturned_all t HR.out.2.2.1 hp AF _ w2 (fun b hb => by have := HA.out b hb; have := HS1.out; have := HS2.out; omega) HT2.out)
  obtain ⟨b0, b1, b2, b3, b4, b5, b6, b7, b8, b9⟩ := HE2.out.ten
  go_wp2_with fail
  refine HI.out.mono ?_
  rintro e w3 ⟨v3, rfl, ht3, hb3⟩
  obtain ⟨kv2, sv2, rfl, ⟨x1, x2, x3, rfl⟩, ⟨y1, y2, y3, rfl⟩⟩ := ht3.ten
  have HT3 := Lib.hid ht3; have HB3 := Lib.hid (HB2.out.trans (hb3.mono HB2.out.size))
  have hR3 : Whole w3 (w.heap.size + 1) 27 #[.int .i64 0, .slice none 0 0, .int .i32 0, .slice none 0 0, .int .i64 0, .int .i64 0, .string ⟨#[]⟩, .int .i64 0, .int .i64 0, .bool false] := HR2.out.below hb3 (by have := HS1.out; have := HS2.out; omega)
  have HR3 := Lib.hid hR3
  obtain ⟨r0, r1, r2, r3, r4, r5, r6, r7, r8, r9⟩ := hR3.ten
  obtain ⟨z0, z1, z2, z3, z4, z5, z6, z7, z8, z9⟩ := whole_free hR3
  clear ht3 hb3 hR3 b0 b1 b2 b3 b4 b5 b6 b7 b8 b9 HI
  go_wp2_with fail
  refine tree_ret Try.results16 (w.heap.size + 1) rfl HR3.out ?_
  refine ⟨_, turnedT t, rfl, .inl ⟨HR.out, rfl⟩, ?_, set10_below HB3.out (by omega) _ _ _ _ _ _ _ _ _ _⟩
  refine TreF.same HT3.out (SameOn.mono (set10_same _ _ _ _ _ _ _ _ _ _ _ _) (fun b hb e => ?_)) (fun b hb _ => hb.imp id fun h => by have := HS1.out; have := HS2.out; omega)
  have h1 := HS1.out; have h2 := HS2.out
  rcases hb with hb | hb
  · have := HA.out b hb
    omega
  · omega

end Go.Proofs.Ytnemacejaiifnaa
