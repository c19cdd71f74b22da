/- Texts merged by program: SmAnew, SmAs, SmRest, SmChosen. No condition. -/
import Derived.Test.YthffdmncdoogpaaK13
import Derived.Shelf.Abstract
import Derived.Deep.RegionHeld3
set_option linter.unusedVariables false
/- A tree with lists of its own, each Kid made anew: the program's anew; and copied. Written by gen10.py. -/
namespace Go.Proofs.Ythffdmncdoogpaa
open Go Go.RowKit

/-- A function that hands back a tree out of the cells of its result k. -/
theorem tree_retK {f : Func} {k : Nat} (hres : f.results = #[.cell k 45]) {post : Ending → World → Prop} {w2 : World} {tmps : Array Value} (b : Nat) {x0 x1 x2 x3 x4 x5 x6 x7 x8 x9 y0 y1 y2 y3 y4 y5 y6 y7 y8 y9 : Value} (hp : tmps.getD k undef = .pointer (some ⟨b, 0, none⟩))
    (hR : Whole w2 b 45 #[y0, y1, y2, y3, y4, y5, y6, y7, y8, y9]) (hpost : post (.returned (.agg #[x0, x1, x2, x3, x4, x5, x6, x7, x8, x9])) (set10 w2 b x0 x1 x2 x3 x4 x5 x6 x7 x8 x9)) : bodyPost Try.prog f post Exit.ret { tmps := tmps, defers := [] } (set10 w2 b x0 x1 x2 x3 x4 x5 x6 x7 x8 x9) :=
  bodyPost_ret (v := .agg #[x0, x1, x2, x3, x4, x5, x6, x7, x8, x9]) (results_cell_row hres tmps _ b 45 _ (0, 0) _ hp (set10_whole hR _ _ _ _ _ _ _ _ _ _) Try.underlying45 rfl (by kernel_rfl)) rfl hpost
theorem anew_ret {post : Ending → World → Prop} {w2 : World} {b : Nat} {x0 x1 x2 x3 x4 x5 x6 x7 x8 x9 y0 y1 y2 y3 y4 y5 y6 y7 y8 y9 : Value} (hR : Whole w2 b 45 #[y0, y1, y2, y3, y4, y5, y6, y7, y8, y9]) (tmps : Array Value) (hp : tmps.getD 4 undef = .pointer (some ⟨b, 0, none⟩))
    (hpost : post (.returned (.agg #[x0, x1, x2, x3, x4, x5, x6, x7, x8, x9])) (set10 w2 b x0 x1 x2 x3 x4 x5 x6 x7 x8 x9)) : bodyPost Try.prog Try.f66 post Exit.ret { tmps := tmps, defers := [] } (set10 w2 b x0 x1 x2 x3 x4 x5 x6 x7 x8 x9) :=
  tree_retK Try.results66 b hp hR hpost
/-- A tree, its Kids made anew by f. -/
def anewT (f : Tr → Tr) (t : Tr) : Tr := .mk t.fld (t.kids.map f)

set_option maxHeartbeats 4000000 in
set_option maxRecDepth 100000 in
theorem smAnew_any (g : Nat) (f : Tr → Tr) (eg : ∀ args w, (callFunc g args).run Try.prog w = .ok (.enter g args) w) (t : Tr) (hg : ∀ k ∈ t.kids, FnOf g f k) (AF : Nat → Prop) (v : Value) (w : World) (hA : ∀ b, AF b → b < w.heap.size) (h0 : TreF AF w t v) :
    Calls Try.prog 66 #[v, .func (.func g) #[] #[]] w (TurnedPost AF (anewT f t) w) := by
  have HG := Lib.hid hg
  clear hg
  have H0 := Lib.hid h0
  have h := h0.tre
  obtain ⟨A, n, c, a2, s, c2, hn, hs, rfl, hnb, hsb, hK, hS, hF⟩ := h.opened
  obtain ⟨w1, hw1⟩ : ∃ w1, (w.alloc (.cells #[.int .i64 t.fld.op, .slice A n c, .int .i32 t.fld.rune, .slice a2 s c2, .int .i64 t.fld.at', .int .i64 t.fld.cap, .string t.fld.name, .int .i64 t.fld.min, .int .i64 t.fld.max, .bool t.fld.lazy] 45)).alloc (.cells #[.int .i64 0, .slice none 0 0, .int .i32 0, .slice none 0 0, .int .i64 0, .int .i64 0, .string ⟨#[]⟩, .int .i64 0, .int .i64 0, .bool false] 45) = w1 := ⟨_, rfl⟩
  have hb1 : Below w.heap.size w w1 := by rw [← hw1]; exact ((Below.refl _ w).alloc (Nat.le_refl _) _).alloc (by simp) _
  have hE1 : Whole w1 w.heap.size 45 #[.int .i64 t.fld.op, .slice A n c, .int .i32 t.fld.rune, .slice a2 s c2, .int .i64 t.fld.at', .int .i64 t.fld.cap, .string t.fld.name, .int .i64 t.fld.min, .int .i64 t.fld.max, .bool t.fld.lazy] := by rw [← hw1]; exact Whole.alloc (heap_alloc_new w _) _
  have hR1 : Whole w1 (w.heap.size + 1) 45 #[.int .i64 0, .slice none 0 0, .int .i32 0, .slice none 0 0, .int .i64 0, .int .i64 0, .string ⟨#[]⟩, .int .i64 0, .int .i64 0, .bool false] := by
    rw [← hw1]
    have := heap_alloc_new (w.alloc (.cells #[.int .i64 t.fld.op, .slice A n c, .int .i32 t.fld.rune, .slice a2 s c2, .int .i64 t.fld.at', .int .i64 t.fld.cap, .string t.fld.name, .int .i64 t.fld.min, .int .i64 t.fld.max, .bool t.fld.lazy] 45)) (.cells #[.int .i64 0, .slice none 0 0, .int .i32 0, .slice none 0 0, .int .i64 0, .int .i64 0, .string ⟨#[]⟩, .int .i64 0, .int .i64 0, .bool false] 45)
    simpa [Whole] using this
  have hs1 : w1.heap.size = w.heap.size + 2 := by rw [← hw1]; simp
  have hT1 : TreF AF w1 t _ := TreF.same H0.out (same_below hb1) (fun _ h _ => h)
  have HB1 := Lib.hid hb1; have HE1 := Lib.hid hE1; have HR1 := Lib.hid hR1; have HW1 := Lib.hid hw1; have HS1 := Lib.hid hs1; have HT1 := Lib.hid hT1; have HN := Lib.hid hn; have HA := Lib.hid hA; have HF := Lib.hid hF
  clear h h0 hb1 hE1 hR1 hw1 hs1 hT1 hK hS hn hs hF hA
  go_enter Try.func66, Try.ntmps66
  go_upto_region 1 with (fail)
  rw [HW1.out]

  have hset : Rgs w1 (.slice a2 s c2) t.fld.set ∧ KdsF AF w1 t.kids (.slice A n c) := by
    have h := HT1.out
    rw [treF_iff] at h
    obtain ⟨kv', sv', e, h2, -, h3⟩ := h
    obtain ⟨rfl, rfl⟩ := treC_inj (f := t.fld) (k1 := .slice A n c) (s1 := .slice a2 s c2) e
    exact ⟨h2.1, h3⟩
  have HCR := Lib.hid (cloneR_any _ t.fld.set w1 hset.1 HF.out.2.2.2.2.2.2.2)
  have HK1 := Lib.hid hset.2
  clear hset
  obtain ⟨b0, b1, b2, b3, b4, b5, b6, b7, b8, b9⟩ := HE1.out.ten
  go_wp2_with fail
  refine HCR.out.mono ?_
  rintro e w3 ⟨v3, rfl, ho3, hb3⟩
  obtain ⟨q1, q2, q3, rfl⟩ : ∃ q1 q2 q3, v3 = .slice q1 q2 q3 := by
    rcases own_slice2 ho3.1 with ⟨rfl, -⟩ | ⟨g, c', rfl, -⟩
    · exact ⟨_, _, _, rfl⟩
    · exact ⟨_, _, _, rfl⟩
  have hE3 := HE1.out.below hb3 HE1.out.lt
  have hR3 := HR1.out.below hb3 HR1.out.lt
  have hE40 := hE3.store 3 (.slice q1 q2 q3)
  simp only [List.setIfInBounds_toArray, List.set_cons_zero, List.set_cons_succ] at hE40
  obtain ⟨w4, hw4⟩ : ∃ w4, w3.setCell ⟨w.heap.size, 3, none⟩ (.slice q1 q2 q3) = w4 := ⟨_, rfl⟩
  have hE4 : Whole w4 w.heap.size 45 #[.int .i64 t.fld.op, .slice A n c, .int .i32 t.fld.rune, .slice q1 q2 q3, .int .i64 t.fld.at', .int .i64 t.fld.cap, .string t.fld.name, .int .i64 t.fld.min, .int .i64 t.fld.max, .bool t.fld.lazy] := hw4 ▸ hE40
  have hR4 : Whole w4 (w.heap.size + 1) 45 #[.int .i64 0, .slice none 0 0, .int .i32 0, .slice none 0 0, .int .i64 0, .int .i64 0, .string ⟨#[]⟩, .int .i64 0, .int .i64 0, .bool false] := by rw [← hw4]; exact hR3.far (by omega) 3 _
  have hB4 : Below w.heap.size w w4 := by rw [← hw4]; exact (HB1.out.trans (hb3.mono HB1.out.size)).setCell (p := ⟨w.heap.size, 3, none⟩) (Nat.le_refl _) _
  have hs4 : w4.heap.size = w3.heap.size := by rw [← hw4]; simp [World.setCell]
  have hO4 : OwnR w4 (w.heap.size + 2) (.slice q1 q2 q3) t.fld.set := by
    have hbase : w.heap.size + 2 ≤ w1.heap.size := by rw [HS1.out]; exact Nat.le_refl _
    rw [← hw4]
    exact ⟨ownsRow_setCell_below (Go.Joins.ownsRow_le ho3.1 hbase) (a := ⟨w.heap.size, 3, none⟩) (by show w.heap.size < w.heap.size + 2; omega) _, ho3.2⟩
  have hK4 : KdsF AF w4 t.kids (.slice A n c) := KdsF.same HK1.out (fun b hb hlt => by
    rw [← hw4, Below.heap_setCell w3 _ _ b (by have := HA.out b hb; simp; omega)]
    exact hb3.block b hlt) (fun b h _ => h)
  have hAF4 : ∀ b, AF b → b < w4.heap.size := fun b hb => Nat.lt_of_lt_of_le (HA.out b hb) hB4.size
  have HCT := Lib.hid (smEach_any g f eg t.kids HG.out AF _ w4 hAF4 (smKdsE hK4))
  have hle4 : w.heap.size + 2 ≤ w4.heap.size := by rw [hs4]; exact Nat.le_trans (by rw [HS1.out]; exact Nat.le_refl _) hb3.size
  have HW4 := Lib.hid hw4; have HE4 := Lib.hid hE4; have HR4 := Lib.hid hR4; have HB4 := Lib.hid hB4; have HO4 := Lib.hid hO4; have HLE4 := Lib.hid hle4
  obtain ⟨c0, c1, c2', c3, c4, c5, c6, c7, c8, c9⟩ := hE3.ten
  obtain ⟨y0, y1, y2, y3, y4, y5, y6, y7, y8, y9⟩ := whole_free hE3
  obtain ⟨d0, d1, d2, d3, d4, d5, d6, d7, d8, d9⟩ := hE4.ten
  obtain ⟨x0, x1, x2, x3, x4, x5, x6, x7, x8, x9⟩ := whole_free hE4
  clear hE3 hR3 hE40 hw4 hE4 hR4 hB4 hs4 hO4 hK4 hAF4 hle4 ho3 hb3 b0 b1 b2 b3 b4 b5 b6 b7 b8 b9
  go_upto_region 2 with (fail)
  rw [HW4.out]
  clear c0 c1 c2' c3 c4 c5 c6 c7 c8 c9 y0 y1 y2 y3 y4 y5 y6 y7 y8 y9
  go_wp2_with fail
  refine HCT.out.mono ?_
  rintro e w5 ⟨v5, rfl, ho5, hb5⟩
  obtain ⟨r1, r2, r3, rfl⟩ := ho5.slice
  have hE5 := HE4.out.below hb5 HE4.out.lt
  have hR5 := HR4.out.below hb5 HR4.out.lt
  have hE60 := hE5.store 1 (.slice r1 r2 r3)
  simp only [List.setIfInBounds_toArray, List.set_cons_zero, List.set_cons_succ] at hE60
  obtain ⟨w6, hw6⟩ : ∃ w6, w5.setCell ⟨w.heap.size, 1, none⟩ (.slice r1 r2 r3) = w6 := ⟨_, rfl⟩
  have hE6 : Whole w6 w.heap.size 45 #[.int .i64 t.fld.op, .slice r1 r2 r3, .int .i32 t.fld.rune, .slice q1 q2 q3, .int .i64 t.fld.at', .int .i64 t.fld.cap, .string t.fld.name, .int .i64 t.fld.min, .int .i64 t.fld.max, .bool t.fld.lazy] := hw6 ▸ hE60
  have hR6 : Whole w6 (w.heap.size + 1) 45 #[.int .i64 0, .slice none 0 0, .int .i32 0, .slice none 0 0, .int .i64 0, .int .i64 0, .string ⟨#[]⟩, .int .i64 0, .int .i64 0, .bool false] := by rw [← hw6]; exact hR5.far (by omega) 1 _
  have hB6 : Below w.heap.size w w6 := by rw [← hw6]; exact (HB4.out.trans (hb5.mono HB4.out.size)).setCell (p := ⟨w.heap.size, 1, none⟩) (Nat.le_refl _) _
  have hS6 : OwnR w6 (w.heap.size + 2) (.slice q1 q2 q3) t.fld.set := by
    have h1 := HO4.out.below hb5
    rw [← hw6]
    exact ⟨ownsRow_setCell_below h1.1 (a := ⟨w.heap.size, 1, none⟩) (by show w.heap.size < w.heap.size + 2; omega) _, h1.2⟩
  have hO6 : OwnT (fun b => AF b ∨ w.heap.size + 2 ≤ b) w6 (w.heap.size + 2) (.slice r1 r2 r3) (t.kids.map f) := by
    obtain ⟨L, hl, ho, ht⟩ := (ho5.mono HLE4.out).wide (G := fun b => AF b ∨ w.heap.size + 2 ≤ b) fun b h => h.imp id fun h => Nat.le_trans HLE4.out h
    rw [← hw6]
    exact ⟨L, hl, ownsRow_setCell_below ho (a := ⟨w.heap.size, 1, none⟩) (by show w.heap.size < w.heap.size + 2; omega) _, fun i h h' => (ht i h h').same (fun b hb _ => Below.heap_setCell w5 _ _ b (by
      rcases hb.2 with hb | hb
      · have := HA.out b hb; simp; omega
      · simp; omega)) fun b hb _ => hb⟩
  have hlen : (t.kids.map f).length ≤ 1172812402961 := by rw [List.length_map, HN.out]; exact hnb
  have HT6 : Hid (TreF (fun b => (AF b ∨ w.heap.size ≤ b) ∧ b ≠ w.heap.size + 1) w6 (anewT f t) (.agg #[.int .i64 t.fld.op, .slice r1 r2 r3, .int .i32 t.fld.rune, .slice q1 q2 q3, .int .i64 t.fld.at', .int .i64 t.fld.cap, .string t.fld.name, .int .i64 t.fld.min, .int .i64 t.fld.max, .bool t.fld.lazy])) := Lib.hid (by
    rw [treF_iff]
    exact ⟨_, _, rfl, ⟨hS6.rgs, .inr fun b hb => by have := (hS6.1.lt b hb).1; exact ⟨.inr (by omega), by omega⟩⟩, HF.out, hO6.kdsF hlen (fun b hb => ⟨.inr (by omega), by omega⟩) fun b hb => by
      rcases hb with hb | hb
      · exact ⟨.inl hb, by have := HA.out b hb; omega⟩
      · exact ⟨.inr (by omega), by omega⟩⟩)
  have HM := Lib.hid (out_tree HT6.out hB6 (Nat.le_succ _))
  have HW6 := Lib.hid hw6; have HR6 := Lib.hid hR6
  obtain ⟨c0, c1, c2', c3, c4, c5, c6, c7, c8, c9⟩ := hE5.ten
  obtain ⟨y0, y1, y2, y3, y4, y5, y6, y7, y8, y9⟩ := whole_free hE5
  obtain ⟨k0, k1, k2, k3, k4, k5, k6, k7, k8, k9⟩ := hE6.ten
  obtain ⟨r0', r1', r2', r3', r4', r5', r6', r7', r8', r9'⟩ := hR6.ten
  obtain ⟨z0, z1, z2, z3, z4, z5, z6, z7, z8, z9⟩ := whole_free hR6
  clear d0 d1 d2 d3 d4 d5 d6 d7 d8 d9 x0 x1 x2 x3 x4 x5 x6 x7 x8 x9 hE5 hR5 hE60 hw6 hE6 hR6 hB6 hS6 hO6 hlen ho5 hb5
  go_upto_region 3 with (fail)
  rw [HW6.out]
  clear c0 c1 c2' c3 c4 c5 c6 c7 c8 c9 y0 y1 y2 y3 y4 y5 y6 y7 y8 y9
  go_wp2_with fail
  exact anew_ret HR6.out _ rfl HM.out

set_option maxHeartbeats 4000000 in
set_option maxRecDepth 100000 in
theorem smCopied_any (t : Tr) : FnOf 109 (fun t => t) t := by
  refine Tr.ind (P := FnOf 109 (fun t => t)) (fun t ih AF v w hA h0 => ?_) t
  have IH := Lib.hid ih
  clear ih
  have hme : anewT (fun t => t) t = t := by unfold anewT; rw [List.map_id']; exact (Tr.eta t).symm
  have HME := Lib.hid hme
  clear hme
  have H0 := Lib.hid h0
  have h := h0.tre
  obtain ⟨A, n, c, a2, s, c2, hn, hs, rfl, hnb, hsb, hK, hS, hF⟩ := h.opened
  obtain ⟨w1, hw1⟩ : ∃ w1, (w.alloc (.cells #[.int .i64 t.fld.op, .slice A n c, .int .i32 t.fld.rune, .slice a2 s c2, .int .i64 t.fld.at', .int .i64 t.fld.cap, .string t.fld.name, .int .i64 t.fld.min, .int .i64 t.fld.max, .bool t.fld.lazy] 45)).alloc (.cells #[.int .i64 0, .slice none 0 0, .int .i32 0, .slice none 0 0, .int .i64 0, .int .i64 0, .string ⟨#[]⟩, .int .i64 0, .int .i64 0, .bool false] 45) = w1 := ⟨_, rfl⟩
  have hb1 : Below w.heap.size w w1 := by rw [← hw1]; exact ((Below.refl _ w).alloc (Nat.le_refl _) _).alloc (by simp) _
  have hE1 : Whole w1 w.heap.size 45 #[.int .i64 t.fld.op, .slice A n c, .int .i32 t.fld.rune, .slice a2 s c2, .int .i64 t.fld.at', .int .i64 t.fld.cap, .string t.fld.name, .int .i64 t.fld.min, .int .i64 t.fld.max, .bool t.fld.lazy] := by rw [← hw1]; exact Whole.alloc (heap_alloc_new w _) _
  have hR1 : Whole w1 (w.heap.size + 1) 45 #[.int .i64 0, .slice none 0 0, .int .i32 0, .slice none 0 0, .int .i64 0, .int .i64 0, .string ⟨#[]⟩, .int .i64 0, .int .i64 0, .bool false] := by
    rw [← hw1]
    have := heap_alloc_new (w.alloc (.cells #[.int .i64 t.fld.op, .slice A n c, .int .i32 t.fld.rune, .slice a2 s c2, .int .i64 t.fld.at', .int .i64 t.fld.cap, .string t.fld.name, .int .i64 t.fld.min, .int .i64 t.fld.max, .bool t.fld.lazy] 45)) (.cells #[.int .i64 0, .slice none 0 0, .int .i32 0, .slice none 0 0, .int .i64 0, .int .i64 0, .string ⟨#[]⟩, .int .i64 0, .int .i64 0, .bool false] 45)
    simpa [Whole] using this
  have hs1 : w1.heap.size = w.heap.size + 2 := by rw [← hw1]; simp
  have hT1 : TreF AF w1 t _ := TreF.same H0.out (same_below hb1) (fun _ h _ => h)
  have HB1 := Lib.hid hb1; have HE1 := Lib.hid hE1; have HR1 := Lib.hid hR1; have HW1 := Lib.hid hw1; have HS1 := Lib.hid hs1; have HT1 := Lib.hid hT1; have HN := Lib.hid hn; have HA := Lib.hid hA; have HF := Lib.hid hF
  clear h h0 hb1 hE1 hR1 hw1 hs1 hT1 hK hS hn hs hF hA
  go_enter Try.func109, Try.ntmps109
  go_upto_region 1 with (fail)
  rw [HW1.out]

  have HCA := Lib.hid (smAnew_any 109 (fun t => t) (enters_of Try.func109 (by kernel_rfl) rfl) t IH.out AF _ w1 (fun b hb => Nat.lt_of_lt_of_le (HA.out b hb) HB1.out.size) HT1.out)
  rw [HME.out] at HCA
  obtain ⟨b0, b1, b2, b3, b4, b5, b6, b7, b8, b9⟩ := HE1.out.ten
  go_wp2_with fail
  refine HCA.out.mono ?_
  rintro e w3 ⟨v3, rfl, ht3, hb3⟩
  obtain ⟨kv3, sv3, rfl, ⟨m1, m2, m3, rfl⟩, ⟨p1, p2, p3, rfl⟩⟩ := ht3.ten
  have HR3 := Lib.hid (HR1.out.below hb3 HR1.out.lt)
  have HM := Lib.hid (out_tree (AF := AF) (w := w) (r := w.heap.size + 1) (ht3.same (fun _ _ _ => rfl) fun b hb _ => by
    have h1 := HS1.out
    rcases hb with hb | hb
    · exact ⟨.inl hb, by have := HA.out b hb; omega⟩
    · exact ⟨.inr (by omega), by omega⟩) (HB1.out.trans (hb3.mono HB1.out.size)) (Nat.le_succ _))
  clear b0 b1 b2 b3 b4 b5 b6 b7 b8 b9 ht3 hb3
  obtain ⟨r0', r1', r2', r3', r4', r5', r6', r7', r8', r9'⟩ := HR3.out.ten
  obtain ⟨z0, z1, z2, z3, z4, z5, z6, z7, z8, z9⟩ := whole_free HR3.out
  go_wp2_with fail
  exact tree_ret Try.results109 (w.heap.size + 1) rfl HR3.out HM.out
end Go.Proofs.Ythffdmncdoogpaa
/- A Kid under an Op, lazy as the tree is: the closure in the program's repeated. Written by gen10.py. -/
namespace Go.Proofs.Ythffdmncdoogpaa
open Go Go.RowKit

/-- The closure's contract: q is the box that it looks into. -/
def AsOf (q : Nat) (z : Bool) (o : Int) (x : Tr) : Prop := ∀ (AF : Nat → Prop) (v : Value) (w : World), (∀ b, AF b → b < w.heap.size) → TreF AF w x v → w.cell? ⟨q, 9, none⟩ = some (.bool z) → Calls Try.prog 89 #[.int .i64 o, v, .pointer (some ⟨q, 0, none⟩)] w (TurnedPost AF (loopedT (opF o z) x) w)

set_option maxHeartbeats 4000000 in
set_option maxRecDepth 100000 in
theorem smAs_any (q : Nat) (z : Bool) (o : Int) (ho : o = 7 ∨ o = 8 ∨ o = 9) (x : Tr) : AsOf q z o x := by
  intro AF v w hA h0 hz
  obtain ⟨kv, sv, rfl, ⟨m1, m2, m3, rfl⟩, ⟨p1, p2, p3, rfl⟩⟩ := h0.ten
  have hq : q < w.heap.size := World.block_lt_of_cell? w _ hz
  obtain ⟨w1, hw1⟩ : ∃ w1, (w.alloc (.cells #[.int .i64 x.fld.op, .slice m1 m2 m3, .int .i32 x.fld.rune, .slice p1 p2 p3, .int .i64 x.fld.at', .int .i64 x.fld.cap, .string x.fld.name, .int .i64 x.fld.min, .int .i64 x.fld.max, .bool x.fld.lazy] 45)).alloc (.cells #[.int .i64 0, .slice none 0 0, .int .i32 0, .slice none 0 0, .int .i64 0, .int .i64 0, .string ⟨#[]⟩, .int .i64 0, .int .i64 0, .bool false] 45) = w1 := ⟨_, rfl⟩
  have hb1 : Below w.heap.size w w1 := by rw [← hw1]; exact ((Below.refl _ w).alloc (Nat.le_refl _) _).alloc (by simp) _
  have hE1 : Whole w1 w.heap.size 45 #[.int .i64 x.fld.op, .slice m1 m2 m3, .int .i32 x.fld.rune, .slice p1 p2 p3, .int .i64 x.fld.at', .int .i64 x.fld.cap, .string x.fld.name, .int .i64 x.fld.min, .int .i64 x.fld.max, .bool x.fld.lazy] := by rw [← hw1]; exact Whole.alloc (heap_alloc_new w _) _
  have hR1 : Whole w1 (w.heap.size + 1) 45 #[.int .i64 0, .slice none 0 0, .int .i32 0, .slice none 0 0, .int .i64 0, .int .i64 0, .string ⟨#[]⟩, .int .i64 0, .int .i64 0, .bool false] := by
    rw [← hw1]
    have := heap_alloc_new (w.alloc (.cells #[.int .i64 x.fld.op, .slice m1 m2 m3, .int .i32 x.fld.rune, .slice p1 p2 p3, .int .i64 x.fld.at', .int .i64 x.fld.cap, .string x.fld.name, .int .i64 x.fld.min, .int .i64 x.fld.max, .bool x.fld.lazy] 45)) (.cells #[.int .i64 0, .slice none 0 0, .int .i32 0, .slice none 0 0, .int .i64 0, .int .i64 0, .string ⟨#[]⟩, .int .i64 0, .int .i64 0, .bool false] 45)
    simpa [Whole] using this
  have hs1 : w1.heap.size = w.heap.size + 2 := by rw [← hw1]; simp
  obtain ⟨w2, hw2⟩ : ∃ w2, w1.alloc (.cells #[.int .i64 x.fld.op, .slice m1 m2 m3, .int .i32 x.fld.rune, .slice p1 p2 p3, .int .i64 x.fld.at', .int .i64 x.fld.cap, .string x.fld.name, .int .i64 x.fld.min, .int .i64 x.fld.max, .bool x.fld.lazy] 45) = w2 := ⟨_, rfl⟩
  have hb2 : Below w1.heap.size w1 w2 := by rw [← hw2]; exact (Below.refl _ _).alloc (Nat.le_refl _) _
  have hs2 : w2.heap.size = w1.heap.size + 1 := by rw [← hw2]; simp
  have hT2 : KdsF (fun b => AF b ∨ b = w1.heap.size) w2 [x] (.slice (some ⟨w1.heap.size, 0, none⟩) 1 1) := by
    refine ⟨_, 1, rfl, Nat.le_refl _, by unfold maxLen; omega, by simp, fun e => (by cases e), .inr ⟨w1.heap.size, 0, rfl, .inr rfl, fun i hi => ?_⟩⟩
    have : i = 0 := by simpa using hi
    subst this
    exact ⟨#[.int .i64 x.fld.op, .slice m1 m2 m3, .int .i32 x.fld.rune, .slice p1 p2 p3, .int .i64 x.fld.at', .int .i64 x.fld.cap, .string x.fld.name, .int .i64 x.fld.min, .int .i64 x.fld.max, .bool x.fld.lazy], by rw [← hw2]; simpa using cellsAt_new w1 _ _, h0.same (same_below (hb1.trans (hb2.mono hb1.size))) fun b h _ => .inl h⟩
  have HL := Lib.hid (smLooped_any (opF o z) x (fun b => AF b ∨ b = w1.heap.size) _ w2 (fun b hb => by rcases hb with hb | hb; (· have := hA b hb; omega); (· omega)) (opF_tre (o := o) (z := z) ⟨by omega, by omega⟩ hT2))
  have hz1 := (hb1.cell hq (p := ⟨q, 9, none⟩)).trans hz
  have hz2 := (hb2.cell (by show q < w1.heap.size; omega) (p := ⟨q, 9, none⟩)).trans hz1
  have HB1 := Lib.hid hb1; have HR2 := Lib.hid (hR1.below hb2 hR1.lt); have HW1 := Lib.hid hw1; have HW2 := Lib.hid hw2; have HB2 := Lib.hid (hb1.trans (hb2.mono hb1.size)); have HS1 := Lib.hid hs1; have HS2 := Lib.hid hs2; have HA := Lib.hid hA
  obtain ⟨b0, b1, b2, b3, b4, b5, b6, b7, b8, b9⟩ := hE1.ten
  clear hw1 hb1 hE1 hR1 hs1 hb2 hs2 hT2 h0 hz hq hA ho
  go_enter Try.func89, Try.ntmps89
  go_upto_region 1 with (fail)
  rw [HW1.out]
  go_wp2_with fail
  refine HL.out.mono ?_
  rintro e w3 ⟨v3, rfl, ht3, hb3⟩
  obtain ⟨kv3, sv3, rfl, ⟨n1, n2, n3, rfl⟩, ⟨q1, q2, q3, rfl⟩⟩ := ht3.ten
  have HR3 := Lib.hid (HR2.out.below hb3 HR2.out.lt)
  have HM := Lib.hid (out_tree (AF := AF) (w := w) (r := w.heap.size + 1) (ht3.same (fun _ _ _ => rfl) fun b hb _ => by
    have h1 := HS1.out; have h2 := HS2.out
    rcases hb with (hb | hb) | hb
    · exact ⟨.inl hb, by have := HA.out b hb; omega⟩
    · exact ⟨.inr (by omega), by omega⟩
    · exact ⟨.inr (by omega), by omega⟩) (HB2.out.trans (hb3.mono HB2.out.size)) (Nat.le_succ _))
  clear b0 b1 b2 b3 b4 b5 b6 b7 b8 b9 ht3 hb3 hz1 hz2 hw2
  obtain ⟨r0', r1', r2', r3', r4', r5', r6', r7', r8', r9'⟩ := HR3.out.ten
  obtain ⟨z0, z1, z2, z3, z4, z5, z6, z7, z8, z9⟩ := whole_free HR3.out
  go_wp2_with fail
  exact tree_retK Try.results89 (w.heap.size + 1) rfl HR3.out HM.out
end Go.Proofs.Ythffdmncdoogpaa
/- What may follow, as often as it may at most: the program's rest. Written by gen10.py. -/
namespace Go.Proofs.Ythffdmncdoogpaa
open Go Go.RowKit

/-- Two trees, laid in a block of their own. -/
theorem kds_two {F : Nat → Prop} {w : World} {a b : Tr} {A B : Array Value} (ha : TreF F w a (.agg A)) (hb : TreF F w b (.agg B)) (C : Array Value) (hC : C = A ++ B) (G : Nat → Prop) (hFG : ∀ k, F k → k < w.heap.size → G k) : KdsE G (w.alloc (.cells C 45)) [a, b] (.slice (some ⟨w.heap.size, 0, none⟩) 2 2) := by
  have hA := (treF_form ha).2.1; have hB := (treF_form hb).2.1
  have hs := same_below (F := F) ((Below.refl _ w).alloc (Nat.le_refl _) (.cells C 45))
  refine ⟨_, 2, rfl, Nat.le_refl _, by unfold maxLen; omega, by simp, fun e => (by cases e), .inr ⟨w.heap.size, 0, rfl, fun i hi => ?_⟩⟩
  have hi' : i = 0 ∨ i = 1 := by simp at hi; omega
  have hc := cellsAt_new w C 45
  have hn : C.size = 20 := by rw [hC, Array.size_append, hA, hB]
  rcases hi' with rfl | rfl
  · refine ⟨A, fun j hj => ?_, ha.same hs hFG⟩
    have := hc j (by omega)
    rw [Nat.zero_add] at this
    rw [show 0 + 0 * 10 + j = j by omega, this]
    subst hC
    rw [Array.getElem_append_left hj]
  · refine ⟨B, fun j hj => ?_, hb.same hs hFG⟩
    have := hc (10 + j) (by omega)
    rw [Nat.zero_add] at this
    rw [show 0 + 1 * 10 + j = 10 + j by omega, this]
    subst hC
    rw [Array.getElem_append_right (by omega)]
    congr 2
    omega
theorem rest_len {z : Bool} {x : Tr} (k : Nat) (hk : k ≤ 1000) (hp : k * partsR x ≤ 20000000000) (hp1 : partsR x ≤ 10000000000) : (spliced [x, restT z x k]).length ≤ 1172812402961 := by
  have h1 := spliced_parts [x, restT z x k]
  have h2 := length_le_sum (spliced [x, restT z x k])
  have h3 := rest_parts z x k
  rw [sumS_cons, sumS_cons, show sumS [] = 0 from rfl] at h1
  rw [Nat.add_mul, Nat.mul_add] at h3
  unfold sumS at h1
  omega

theorem whole_set10 {W : World} {b r : Nat} {t : TypeId} {cs : Array Value} (h : Whole W b t cs) (hr : b ≠ r) (x0 x1 x2 x3 x4 x5 x6 x7 x8 x9 : Value) : Whole (set10 W r x0 x1 x2 x3 x4 x5 x6 x7 x8 x9) b t cs := (set10_same W r x0 x1 x2 x3 x4 x5 x6 x7 x8 x9 b hr h.lt).trans h
/-- What the rest holds: the Kid's box, the result's, that of the last one, and the tree that the last one holds. -/
structure RestSt (w : World) (AF : Nat → Prop) (Lb : Nat) (x : Tr) (m1 : Option Addr) (m2 m3 : Nat) (p1 : Option Addr) (p2 p3 : Nat) (q : Nat) (z : Bool) (T : Tr) (W : World) : Prop where
  x : Whole W w.heap.size 45 #[.int .i64 x.fld.op, .slice m1 m2 m3, .int .i32 x.fld.rune, .slice p1 p2 p3, .int .i64 x.fld.at', .int .i64 x.fld.cap, .string x.fld.name, .int .i64 x.fld.min, .int .i64 x.fld.max, .bool x.fld.lazy]
  r : Whole W (w.heap.size + 1) 45 #[.int .i64 0, .slice none 0 0, .int .i32 0, .slice none 0 0, .int .i64 0, .int .i64 0, .string ⟨#[]⟩, .int .i64 0, .int .i64 0, .bool false]
  l : ∃ l1 l2 l3 k1 k2 k3, Whole W Lb 45 #[.int .i64 T.fld.op, .slice l1 l2 l3, .int .i32 T.fld.rune, .slice k1 k2 k3, .int .i64 T.fld.at', .int .i64 T.fld.cap, .string T.fld.name, .int .i64 T.fld.min, .int .i64 T.fld.max, .bool T.fld.lazy] ∧ TreF (fun b => (AF b ∨ w.heap.size ≤ b) ∧ b ≠ Lb ∧ b ≠ w.heap.size + 1) W T (.agg #[.int .i64 T.fld.op, .slice l1 l2 l3, .int .i32 T.fld.rune, .slice k1 k2 k3, .int .i64 T.fld.at', .int .i64 T.fld.cap, .string T.fld.name, .int .i64 T.fld.min, .int .i64 T.fld.max, .bool T.fld.lazy])
  lb : w.heap.size + 2 ≤ Lb
  z : W.cell? ⟨q, 9, none⟩ = some (.bool z)
  b : Below w.heap.size w W
theorem RestSt.next {w : World} {AF : Nat → Prop} {Lb : Nat} {x : Tr} {m1 : Option Addr} {m2 m3 : Nat} {p1 : Option Addr} {p2 p3 : Nat} {q : Nat} {z : Bool} {T E : Tr} {W U : World} {e1 : Option Addr} {e2 e3 : Nat} {f1 : Option Addr} {f2 f3 : Nat} (h : RestSt w AF Lb x m1 m2 m3 p1 p2 p3 q z T W) (hb : Below W.heap.size W U) (hq : q < w.heap.size)
    (hE : TreF (fun b => (AF b ∨ w.heap.size ≤ b) ∧ b ≠ Lb ∧ b ≠ w.heap.size + 1) U E (.agg #[.int .i64 E.fld.op, .slice e1 e2 e3, .int .i32 E.fld.rune, .slice f1 f2 f3, .int .i64 E.fld.at', .int .i64 E.fld.cap, .string E.fld.name, .int .i64 E.fld.min, .int .i64 E.fld.max, .bool E.fld.lazy])) : RestSt w AF Lb x m1 m2 m3 p1 p2 p3 q z E (set10 U Lb (.int .i64 E.fld.op) (.slice e1 e2 e3) (.int .i32 E.fld.rune) (.slice f1 f2 f3) (.int .i64 E.fld.at') (.int .i64 E.fld.cap) (.string E.fld.name) (.int .i64 E.fld.min) (.int .i64 E.fld.max) (.bool E.fld.lazy)) := by
  obtain ⟨l1, l2, l3, k1, k2, k3, hl, -⟩ := h.l
  have hlb := h.lb
  have hL := hl.below hb hl.lt
  refine ⟨whole_set10 (h.x.below hb h.x.lt) (by omega) _ _ _ _ _ _ _ _ _ _, whole_set10 (h.r.below hb h.r.lt) (by omega) _ _ _ _ _ _ _ _ _ _, ⟨_, _, _, _, _, _, set10_whole hL _ _ _ _ _ _ _ _ _ _, hE.same ((set10_same _ _ _ _ _ _ _ _ _ _ _ _).mono fun b hb => hb.2.1) fun b hb _ => hb⟩, h.lb, ?_, set10_below (h.b.trans (hb.mono h.b.size)) (by omega) _ _ _ _ _ _ _ _ _ _⟩
  have h1 := (hb.cell (World.block_lt_of_cell? W _ h.z)).trans h.z
  rw [← h1]
  have h2 := set10_same U Lb (.int .i64 E.fld.op) (.slice e1 e2 e3) (.int .i32 E.fld.rune) (.slice f1 f2 f3) (.int .i64 E.fld.at') (.int .i64 E.fld.cap) (.string E.fld.name) (.int .i64 E.fld.min) (.int .i64 E.fld.max) (.bool E.fld.lazy) q (by omega) (Nat.lt_of_lt_of_le (World.block_lt_of_cell? W _ h.z) hb.size)
  simp only [World.cell?, h2]

set_option maxHeartbeats 4000000 in
set_option maxRecDepth 100000 in
theorem smRest_any (x : Tr) (z : Bool) (q m : Nat) (N : Int) (hN : N = (m : Int) + 1) (hm : m ≤ 1000) (hp : m * partsR x ≤ 20000000000) (hp1 : partsR x ≤ 10000000000) (AF : Nat → Prop) (v : Value) (w : World) (hA : ∀ b, AF b → b < w.heap.size) (h0 : TreF AF w x v) (hz : w.cell? ⟨q, 9, none⟩ = some (.bool z)) :
    Calls Try.prog 91 #[.int .i64 N, v, .func (.func 89) #[] #[.pointer (some ⟨q, 0, none⟩)]] w (TurnedPost AF (restT z x m) w) := by
  have eg : ∀ args W, (callFunc 89 args).run Try.prog W = .ok (.enter 89 args) W := enters_of Try.func89 (by kernel_rfl) rfl
  obtain ⟨kv, sv, rfl, ⟨m1, m2, m3, rfl⟩, ⟨p1, p2, p3, rfl⟩⟩ := h0.ten
  have hq : q < w.heap.size := World.block_lt_of_cell? w _ hz
  obtain ⟨w1, hw1⟩ : ∃ w1, (w.alloc (.cells #[.int .i64 x.fld.op, .slice m1 m2 m3, .int .i32 x.fld.rune, .slice p1 p2 p3, .int .i64 x.fld.at', .int .i64 x.fld.cap, .string x.fld.name, .int .i64 x.fld.min, .int .i64 x.fld.max, .bool x.fld.lazy] 45)).alloc (.cells #[.int .i64 0, .slice none 0 0, .int .i32 0, .slice none 0 0, .int .i64 0, .int .i64 0, .string ⟨#[]⟩, .int .i64 0, .int .i64 0, .bool false] 45) = w1 := ⟨_, rfl⟩
  have hb1 : Below w.heap.size w w1 := by rw [← hw1]; exact ((Below.refl _ w).alloc (Nat.le_refl _) _).alloc (by simp) _
  have hE1 : Whole w1 w.heap.size 45 #[.int .i64 x.fld.op, .slice m1 m2 m3, .int .i32 x.fld.rune, .slice p1 p2 p3, .int .i64 x.fld.at', .int .i64 x.fld.cap, .string x.fld.name, .int .i64 x.fld.min, .int .i64 x.fld.max, .bool x.fld.lazy] := by rw [← hw1]; exact Whole.alloc (heap_alloc_new w _) _
  have hR1 : Whole w1 (w.heap.size + 1) 45 #[.int .i64 0, .slice none 0 0, .int .i32 0, .slice none 0 0, .int .i64 0, .int .i64 0, .string ⟨#[]⟩, .int .i64 0, .int .i64 0, .bool false] := by
    rw [← hw1]
    have := heap_alloc_new (w.alloc (.cells #[.int .i64 x.fld.op, .slice m1 m2 m3, .int .i32 x.fld.rune, .slice p1 p2 p3, .int .i64 x.fld.at', .int .i64 x.fld.cap, .string x.fld.name, .int .i64 x.fld.min, .int .i64 x.fld.max, .bool x.fld.lazy] 45)) (.cells #[.int .i64 0, .slice none 0 0, .int .i32 0, .slice none 0 0, .int .i64 0, .int .i64 0, .string ⟨#[]⟩, .int .i64 0, .int .i64 0, .bool false] 45)
    simpa [Whole] using this
  have hs1 : w1.heap.size = w.heap.size + 2 := by rw [← hw1]; simp
  have hX1 : TreF AF w1 x (.agg #[.int .i64 x.fld.op, .slice m1 m2 m3, .int .i32 x.fld.rune, .slice p1 p2 p3, .int .i64 x.fld.at', .int .i64 x.fld.cap, .string x.fld.name, .int .i64 x.fld.min, .int .i64 x.fld.max, .bool x.fld.lazy]) := h0.same (same_below hb1) fun _ h _ => h
  have HC1 := Lib.hid (smCopied_any x AF _ w1 (fun b hb => Nat.lt_of_lt_of_le (hA b hb) hb1.size) hX1)
  have HZ1 := Lib.hid ((hb1.cell hq (p := ⟨q, 9, none⟩)).trans hz)
  have HB1 := Lib.hid hb1; have HE1 := Lib.hid hE1; have HR1 := Lib.hid hR1; have HW1 := Lib.hid hw1; have HS1 := Lib.hid hs1; have HA := Lib.hid hA; have HX1 := Lib.hid hX1; have HQ := Lib.hid hq; have HMB := Lib.hid hm; have HP := Lib.hid hp; have HP1 := Lib.hid hp1
  have q1 : IntKind.i64.wrap (N - 1) = (m : Int) := (IntWalk.i64_left _).trans ((IntWalk.wrap64_in _ (by omega)).trans (by omega))
  have q2 : N - 1 = (m : Int) := by omega
  obtain ⟨b0, b1, b2, b3, b4, b5, b6, b7, b8, b9⟩ := hE1.ten
  clear hw1 hb1 hE1 hR1 hs1 hX1 h0 hz hq hA hN hp hp1
  go_enter Try.func91, Try.ntmps91
  go_upto_region 1 with (fail)
  rw [HW1.out]
  go_wp2_with fail
  refine HC1.out.mono ?_
  rintro e w2 ⟨v2, rfl, ht2, hb2⟩
  obtain ⟨kv2, sv2, rfl, ⟨a1, a2, a3, rfl⟩, ⟨c1, c2, c3, rfl⟩⟩ := ht2.ten
  have HB2 := Lib.hid (HB1.out.trans (hb2.mono HB1.out.size))
  have hZ2 := (hb2.cell (World.block_lt_of_cell? w1 _ HZ1.out)).trans HZ1.out
  have HA2 := Lib.hid (smAs_any q z 9 (.inr (.inr rfl)) x (fun b => (AF b ∨ w1.heap.size ≤ b) ∧ b < w2.heap.size) _ w2 (fun b hb => hb.2) (ht2.same (fun _ _ _ => rfl) fun b hb hl => ⟨hb, hl⟩) hZ2)
  have HE2 := Lib.hid (HE1.out.below hb2 HE1.out.lt); have HR2 := Lib.hid (HR1.out.below hb2 HR1.out.lt); have HZ2 := Lib.hid hZ2
  have HS2 := Lib.hid hb2.size
  clear ht2 hb2 hZ2 b0 b1 b2 b3 b4 b5 b6 b7 b8 b9
  go_wp2_with fail
  refine HA2.out.mono ?_
  rintro e w3 ⟨v3, rfl, ht3, hb3⟩
  obtain ⟨kv3, sv3, rfl, ⟨n1, n2, n3, rfl⟩, ⟨r1, r2, r3, rfl⟩⟩ := ht3.ten
  obtain ⟨Lb, hLb⟩ : ∃ Lb, w3.heap.size = Lb := ⟨_, rfl⟩
  obtain ⟨w4, hw4⟩ : ∃ w4, w3.alloc (.cells #[.int .i64 (loopedT (opF 9 z) x).fld.op, .slice n1 n2 n3, .int .i32 (loopedT (opF 9 z) x).fld.rune, .slice r1 r2 r3, .int .i64 (loopedT (opF 9 z) x).fld.at', .int .i64 (loopedT (opF 9 z) x).fld.cap, .string (loopedT (opF 9 z) x).fld.name, .int .i64 (loopedT (opF 9 z) x).fld.min, .int .i64 (loopedT (opF 9 z) x).fld.max, .bool (loopedT (opF 9 z) x).fld.lazy] 45) = w4 := ⟨_, rfl⟩
  have hb4 : Below w3.heap.size w3 w4 := by rw [← hw4]; exact (Below.refl _ _).alloc (Nat.le_refl _) _
  have hST : RestSt w AF Lb x m1 m2 m3 p1 p2 p3 q z (restT z x 0) w4 := by
    have h23 := Nat.le_trans HS2.out hb3.size
    have h1 := HS1.out
    have hE3 := HE2.out.below hb3 HE2.out.lt; have hR3 := HR2.out.below hb3 HR2.out.lt
    refine ⟨hE3.below hb4 hE3.lt, hR3.below hb4 hR3.lt, ⟨n1, n2, n3, r1, r2, r3, by rw [← hLb, ← hw4]; exact heap_alloc_new w3 _, ht3.same (same_below hb4) fun b hb hl => ?_⟩, by omega, (hb4.cell (Nat.lt_of_lt_of_le (World.block_lt_of_cell? w2 _ HZ2.out) hb3.size)).trans ((hb3.cell (World.block_lt_of_cell? w2 _ HZ2.out)).trans HZ2.out), (HB2.out.trans (hb3.mono HB2.out.size)).trans (hb4.mono (HB2.out.trans (hb3.mono HB2.out.size)).size)⟩
    have h2 := HS2.out
    rcases hb with ⟨hb | hb, -⟩ | hb
    · have := HA.out b hb
      exact ⟨.inl hb, by omega, by omega⟩
    · exact ⟨.inr (by omega), by omega, by omega⟩
    · exact ⟨.inr (by omega), by omega, by omega⟩
  have HST0 := Lib.hid hST; have HW4 := Lib.hid hw4
  clear ht3 hb3 hw4 hb4 hST
  go_upto_region 2 with (fail)
  rw [HW4.out]
  go_wp2_with fail
  go_loopw [14] (fun i wr => ∃ k : Nat, k ≤ m ∧ i = .int .i64 k ∧ RestSt w AF Lb x m1 m2 m3 p1 p2 p3 q z (restT z x k) wr) (fun i _ => m - (intOf i).toNat)
  case atStart => exact ⟨0, Nat.zero_le _, rfl, HST0.out⟩
  case round =>
    obtain ⟨k, hk, rfl, hst⟩ := hrel
    have HST := Lib.hid hst
    clear hst
    obtain ⟨T, hT⟩ : ∃ T, restT z x k = T := ⟨_, rfl⟩
    have hst := HST.out
    rw [hT] at hst
    obtain ⟨hx, hr, ⟨l1, l2, l3, k1, k2, k3, hl, hlt⟩, hlb, hz, hb⟩ := hst
    by_cases hkm : k < m
    · have HXW := Lib.hid (show ∀ W, Below wr.heap.size wr W → Whole W w.heap.size 45 #[.int .i64 x.fld.op, .slice m1 m2 m3, .int .i32 x.fld.rune, .slice p1 p2 p3, .int .i64 x.fld.at', .int .i64 x.fld.cap, .string x.fld.name, .int .i64 x.fld.min, .int .i64 x.fld.max, .bool x.fld.lazy] from fun W hW => hx.below hW hx.lt)
      have HLW := Lib.hid (show ∀ W, Below wr.heap.size wr W → Whole W Lb 45 #[.int .i64 T.fld.op, .slice l1 l2 l3, .int .i32 T.fld.rune, .slice k1 k2 k3, .int .i64 T.fld.at', .int .i64 T.fld.cap, .string T.fld.name, .int .i64 T.fld.min, .int .i64 T.fld.max, .bool T.fld.lazy] from fun W hW => hl.below hW hl.lt)
      have HTL := Lib.hid (show ∀ W, Below wr.heap.size wr W → TreF (fun b => ((AF b ∨ w.heap.size ≤ b) ∧ b ≠ Lb ∧ b ≠ w.heap.size + 1) ∧ b < W.heap.size) W T (.agg #[.int .i64 T.fld.op, .slice l1 l2 l3, .int .i32 T.fld.rune, .slice k1 k2 k3, .int .i64 T.fld.at', .int .i64 T.fld.cap, .string T.fld.name, .int .i64 T.fld.min, .int .i64 T.fld.max, .bool T.fld.lazy]) from fun W hW => hlt.same (same_below hW) fun b hb hl => ⟨hb, Nat.lt_of_lt_of_le hl hW.size⟩)
      have hlw := hl.lt
      have HLB := Lib.hid (show w.heap.size ≠ Lb by omega)
      have hxt : TreF AF wr x (.agg #[.int .i64 x.fld.op, .slice m1 m2 m3, .int .i32 x.fld.rune, .slice p1 p2 p3, .int .i64 x.fld.at', .int .i64 x.fld.cap, .string x.fld.name, .int .i64 x.fld.min, .int .i64 x.fld.max, .bool x.fld.lazy]) := HX1.out.same (fun b hb _ => by
        have h1 := HB1.out.block b (HA.out b hb)
        have h2 := HST.out.b.block b (HA.out b hb)
        rw [h2, h1]) fun _ h _ => h
      have HCX := Lib.hid (show ∀ W, Below wr.heap.size wr W → Calls Try.prog 109 #[.agg #[.int .i64 x.fld.op, .slice m1 m2 m3, .int .i32 x.fld.rune, .slice p1 p2 p3, .int .i64 x.fld.at', .int .i64 x.fld.cap, .string x.fld.name, .int .i64 x.fld.min, .int .i64 x.fld.max, .bool x.fld.lazy]] W (TurnedPost (fun b => AF b) x W) from fun W hW => smCopied_any x AF _ W (fun b hb' => Nat.lt_of_lt_of_le (HA.out b hb') (Nat.le_trans HST.out.b.size hW.size)) (hxt.same (same_below hW) fun _ h _ => h))
      have HGX := Lib.hid (show ∀ b, (AF b ∨ wr.heap.size ≤ b) → (AF b ∨ w.heap.size ≤ b) ∧ b ≠ Lb ∧ b ≠ w.heap.size + 1 from fun b h => by
        rcases h with h | h
        · have := HA.out b h
          exact ⟨.inl h, by omega, by omega⟩
        · exact ⟨.inr (by omega), by omega, by omega⟩)
      have HLEN := Lib.hid (show (spliced [x, T]).length ≤ 1172812402961 by rw [← hT]; exact rest_len k (by omega) (Nat.le_trans (Nat.mul_le_mul_right _ (Nat.le_of_lt hkm)) HP.out) HP1.out)
      have HAS : Hid (∀ (v : Value) (W : World), Below wr.heap.size wr W → TreF (fun b => ((AF b ∨ w.heap.size ≤ b) ∧ b ≠ Lb ∧ b ≠ w.heap.size + 1) ∧ b < W.heap.size) W (joinedT [x, T]) v → Calls Try.prog 89 #[.int .i64 9, v, .pointer (some ⟨q, 0, none⟩)] W (TurnedPost (fun b => ((AF b ∨ w.heap.size ≤ b) ∧ b ≠ Lb ∧ b ≠ w.heap.size + 1) ∧ b < W.heap.size) (restT z x (k + 1)) W)) := Lib.hid fun v W hW hv => by
        have h := smAs_any q z 9 (.inr (.inr rfl)) (joinedT [x, T]) (fun b => ((AF b ∨ w.heap.size ≤ b) ∧ b ≠ Lb ∧ b ≠ w.heap.size + 1) ∧ b < W.heap.size) v W (fun b hb => hb.2) hv ((hW.cell (World.block_lt_of_cell? wr _ HST.out.z)).trans HST.out.z)
        rw [← hT] at h
        exact h
      have HTN := Lib.hid hT
      obtain ⟨E, hE⟩ : ∃ E, restT z x (k + 1) = E := ⟨_, rfl⟩
      have KP : Hid (∀ W, Whole W w.heap.size 45 #[.int .i64 x.fld.op, .slice m1 m2 m3, .int .i32 x.fld.rune, .slice p1 p2 p3, .int .i64 x.fld.at', .int .i64 x.fld.cap, .string x.fld.name, .int .i64 x.fld.min, .int .i64 x.fld.max, .bool x.fld.lazy] → W.cell? ⟨w.heap.size, 0, none⟩ = some (.int .i64 x.fld.op) ∧ W.cell? ⟨w.heap.size, 1, none⟩ = some (.slice m1 m2 m3) ∧ W.cell? ⟨w.heap.size, 2, none⟩ = some (.int .i32 x.fld.rune) ∧ W.cell? ⟨w.heap.size, 3, none⟩ = some (.slice p1 p2 p3) ∧ W.cell? ⟨w.heap.size, 4, none⟩ = some (.int .i64 x.fld.at') ∧ W.cell? ⟨w.heap.size, 5, none⟩ = some (.int .i64 x.fld.cap) ∧ W.cell? ⟨w.heap.size, 6, none⟩ = some (.string x.fld.name) ∧ W.cell? ⟨w.heap.size, 7, none⟩ = some (.int .i64 x.fld.min) ∧ W.cell? ⟨w.heap.size, 8, none⟩ = some (.int .i64 x.fld.max) ∧ W.cell? ⟨w.heap.size, 9, none⟩ = some (.bool x.fld.lazy)) := Lib.hid fun W h => ⟨h.cell 0, h.cell 1, h.cell 2, h.cell 3, h.cell 4, h.cell 5, h.cell 6, h.cell 7, h.cell 8, h.cell 9⟩
      rw [hE] at HAS
      have HE := Lib.hid hE
      have HB0 := Lib.hid (below_draws wr 1)
      clear hx hr hl hlt hlb hz hb hlw hxt hT hE
      go_upto_region 4 with (fail)
      refine wp_region_held_drew (S := (fun w' => w'.cell? ⟨w.heap.size, 0, none⟩ = some (.int .i64 x.fld.op) ∧ w'.cell? ⟨w.heap.size, 1, none⟩ = some (.slice m1 m2 m3) ∧ w'.cell? ⟨w.heap.size, 2, none⟩ = some (.int .i32 x.fld.rune) ∧ w'.cell? ⟨w.heap.size, 3, none⟩ = some (.slice p1 p2 p3) ∧ w'.cell? ⟨w.heap.size, 4, none⟩ = some (.int .i64 x.fld.at') ∧ w'.cell? ⟨w.heap.size, 5, none⟩ = some (.int .i64 x.fld.cap) ∧ w'.cell? ⟨w.heap.size, 6, none⟩ = some (.string x.fld.name) ∧ w'.cell? ⟨w.heap.size, 7, none⟩ = some (.int .i64 x.fld.min) ∧ w'.cell? ⟨w.heap.size, 8, none⟩ = some (.int .i64 x.fld.max) ∧ w'.cell? ⟨w.heap.size, 9, none⟩ = some (.bool x.fld.lazy))) (by kernel_rfl) (KP.out _ (HXW.out _ HB0.out)) (fun hHeld => ?_)
      refine wpAnyH_take (i := 0) (oi := _) (v := ?_) rfl (by kernel_rfl) (by kernel_rfl) (by kernel_rfl) (fun _ _ _ h => h) (Or.inl ⟨by rfl, ?_⟩) (by assumption) ?_
      rotate_left 1
      · (intro w hSw; (try dsimp only at hSw); go_simp; (try with_reducible rfl))
      try simp only [List.getElem_toArray, List.getElem_cons_zero, Act.put, List.setIfInBounds_toArray, List.set_cons_zero, List.set_cons_succ]
      refine wpAnyH_take (i := 1) (oi := _) (v := ?_) rfl (by kernel_rfl) (by kernel_rfl) (by kernel_rfl) (fun _ _ _ h => h) (Or.inl ⟨by rfl, ?_⟩) (by assumption) ?_
      rotate_left 1
      · (intro w hSw; (try dsimp only at hSw); go_simp; (try with_reducible rfl))
      try simp only [List.getElem_toArray, List.getElem_cons_zero, List.getElem_cons_succ, Act.put, List.setIfInBounds_toArray, List.set_cons_zero, List.set_cons_succ]
      refine wpAnyH_ready (rs := [2, 3]) (by kernel_rfl) (by simp) ?_
      refine AllReadyH.cons (o := _) rfl (fun K hK => ?_) ?_
      · go_simp
        refine (HCX.out _ HB0.out).mono ?_
        rintro e u1 ⟨v5, rfl, ht5, hb5⟩
        obtain ⟨kv5, sv5, rfl, ⟨a1, a2, a3, rfl⟩, ⟨b1, b2, b3, rfl⟩⟩ := ht5.ten
        have HB4 := Lib.hid (HB0.out.trans (hb5.mono HB0.out.size)); have HT5 := Lib.hid (ht5.same (G := fun b => ((AF b ∨ w.heap.size ≤ b) ∧ b ≠ Lb ∧ b ≠ w.heap.size + 1) ∧ b < u1.heap.size) (fun _ _ _ => rfl) fun b hb hl => ⟨HGX.out b (by simpa using hb), hl⟩)
        clear hb5 ht5
        go_wp2_with fail
        refine hK.out _ _ (KP.out _ (HXW.out _ HB4.out)) (fun hHeld => ?_)
        clear hK K
        try simp only [List.getElem_toArray, List.getElem_cons_zero, List.getElem_cons_succ, Act.put, List.setIfInBounds_toArray, List.set_cons_zero, List.set_cons_succ]
        refine wpAnyH_ready (rs := [3]) (by kernel_rfl) (by simp) ?_
        refine AllReadyH.cons (o := _) rfl (fun K hK => ?_) ?_
        · obtain ⟨g0, g1, g2, g3, g4, g5, g6, g7, g8, g9⟩ := (HLW.out _ HB4.out).ten
          go_simp
          clear g0 g1 g2 g3 g4 g5 g6 g7 g8 g9
          refine hK.out _ _ (KP.out _ (HXW.out _ HB4.out)) (fun hHeld => ?_)
          clear hK K
          try simp only [List.getElem_toArray, List.getElem_cons_zero, List.getElem_cons_succ, Act.put, List.setIfInBounds_toArray, List.set_cons_zero, List.set_cons_succ]
          refine wpAnyH_ready (rs := [4]) (by kernel_rfl) (by simp) ?_
          refine AllReadyH.cons (o := _) rfl (fun K hK => ?_) ?_
          · have HB5 := Lib.hid (HB4.out.alloc HB4.out.size (.cells #[.int .i64 x.fld.op, .slice a1 a2 a3, .int .i32 x.fld.rune, .slice b1 b2 b3, .int .i64 x.fld.at', .int .i64 x.fld.cap, .string x.fld.name, .int .i64 x.fld.min, .int .i64 x.fld.max, .bool x.fld.lazy, .int .i64 T.fld.op, .slice l1 l2 l3, .int .i32 T.fld.rune, .slice k1 k2 k3, .int .i64 T.fld.at', .int .i64 T.fld.cap, .string T.fld.name, .int .i64 T.fld.min, .int .i64 T.fld.max, .bool T.fld.lazy] 45))
            have HK5 := Lib.hid (kds_two HT5.out (HTL.out _ HB4.out) #[.int .i64 x.fld.op, .slice a1 a2 a3, .int .i32 x.fld.rune, .slice b1 b2 b3, .int .i64 x.fld.at', .int .i64 x.fld.cap, .string x.fld.name, .int .i64 x.fld.min, .int .i64 x.fld.max, .bool x.fld.lazy, .int .i64 T.fld.op, .slice l1 l2 l3, .int .i32 T.fld.rune, .slice k1 k2 k3, .int .i64 T.fld.at', .int .i64 T.fld.cap, .string T.fld.name, .int .i64 T.fld.min, .int .i64 T.fld.max, .bool T.fld.lazy] rfl _ (fun k h _ => h))
            go_simp
            refine hK.out _ _ (KP.out _ (HXW.out _ HB5.out)) (fun hHeld => ?_)
            clear hK K
            try simp only [List.getElem_toArray, List.getElem_cons_zero, List.getElem_cons_succ, Act.put, List.setIfInBounds_toArray, List.set_cons_zero, List.set_cons_succ]
            refine wpAnyH_ready (rs := [5]) (by kernel_rfl) (by simp) ?_
            refine AllReadyH.cons (o := _) rfl (fun K hK => ?_) ?_
            · go_simp
              refine (smJoined_any [x, T] HLEN.out _ _ _ (fun b hb => Nat.lt_of_lt_of_le hb.2 (by simp)) HK5.out).mono ?_
              rintro e u3 ⟨v6, rfl, ht6, hb6⟩
              obtain ⟨kv6, sv6, rfl, ⟨c1, c2, c3, rfl⟩, ⟨d1, d2, d3, rfl⟩⟩ := ht6.ten
              have HB6 := Lib.hid (HB5.out.trans (hb6.mono HB5.out.size))
              have HT6 := Lib.hid (ht6.same (G := fun b => ((AF b ∨ w.heap.size ≤ b) ∧ b ≠ Lb ∧ b ≠ w.heap.size + 1) ∧ b < u3.heap.size) (fun _ _ _ => rfl) fun b hb hl => ⟨by rcases hb with hb | hb; (· exact hb.1); (· exact HGX.out b (.inr (by have := HB4.out.size; simp at hb; omega))), hl⟩)
              clear hb6 ht6
              go_wp2_with fail
              refine hK.out _ _ (KP.out _ (HXW.out _ HB6.out)) (fun hHeld => ?_)
              clear hK K
              try simp only [List.getElem_toArray, List.getElem_cons_zero, List.getElem_cons_succ, Act.put, List.setIfInBounds_toArray, List.set_cons_zero, List.set_cons_succ]
              refine wpAnyH_ready (rs := [6]) (by kernel_rfl) (by simp) ?_
              refine AllReadyH.cons (o := _) rfl (fun K hK => ?_) ?_
              · go_simp
                refine (HAS.out _ _ HB6.out HT6.out).mono ?_
                rintro e u4 ⟨v7, rfl, ht7, hb7⟩
                obtain ⟨kv7, sv7, rfl, ⟨e1, e2, e3, rfl⟩, ⟨f1, f2, f3, rfl⟩⟩ := ht7.ten
                have HB7 := Lib.hid (HB6.out.trans (hb7.mono HB6.out.size))
                have HT7 := Lib.hid (ht7.same (G := fun b => (AF b ∨ w.heap.size ≤ b) ∧ b ≠ Lb ∧ b ≠ w.heap.size + 1) (fun _ _ _ => rfl) fun b hb hl => by rcases hb with hb | hb; (· exact hb.1); (· exact HGX.out b (.inr (by have := HB6.out.size; omega))))
                clear hb7 ht7
                go_wp2_with fail
                refine hK.out _ _ (KP.out _ (HXW.out _ HB7.out)) (fun hHeld => ?_)
                clear hK K
                try simp only [List.getElem_toArray, List.getElem_cons_zero, List.getElem_cons_succ, Act.put, List.setIfInBounds_toArray, List.set_cons_zero, List.set_cons_succ]
                refine wpAnyH_ready (rs := [7]) (by kernel_rfl) (by simp) ?_
                refine AllReadyH.cons (o := _) rfl (fun K hK => ?_) ?_
                · obtain ⟨g0, g1, g2, g3, g4, g5, g6, g7, g8, g9⟩ := (HLW.out _ HB7.out).ten
                  obtain ⟨y0, y1, y2, y3, y4, y5, y6, y7, y8, y9⟩ := whole_free (HLW.out _ HB7.out)
                  go_simp
                  clear g0 g1 g2 g3 g4 g5 g6 g7 g8 g9 y0 y1 y2 y3 y4 y5 y6 y7 y8 y9
                  refine hK.out _ _ (KP.out _ (whole_set10 (HXW.out _ HB7.out) HLB.out _ _ _ _ _ _ _ _ _ _)) (fun hHeld => ?_)
                  clear hK K
                  try simp only [List.getElem_toArray, List.getElem_cons_zero, List.getElem_cons_succ, Act.put, List.setIfInBounds_toArray, List.set_cons_zero, List.set_cons_succ]
                  refine wpAnyH_done (by kernel_rfl) ?_ _
                  obtain ⟨W8, hW8⟩ : ∃ W8, set10 u4 Lb (.int .i64 E.fld.op) (.slice e1 e2 e3) (.int .i32 E.fld.rune) (.slice f1 f2 f3) (.int .i64 E.fld.at') (.int .i64 E.fld.cap) (.string E.fld.name) (.int .i64 E.fld.min) (.int .i64 E.fld.max) (.bool E.fld.lazy) = W8 := ⟨_, rfl⟩
                  have HST8 : Hid (RestSt w AF Lb x m1 m2 m3 p1 p2 p3 q z E W8) := Lib.hid (hW8 ▸ HST.out.next HB7.out HQ.out HT7.out)
                  unfold set10 at hW8
                  have HW8 := Lib.hid hW8
                  clear hW8
                  rw [HW8.out]
                  go_wp2_with fail
                  go_roundw
                  case rel => exact ⟨k + 1, by omega, by go_num, by rw [HE.out]; exact HST8.out⟩
                  case measure => simp [intOf]; omega
                exact AllReadyH.nil
              exact AllReadyH.nil
            exact AllReadyH.nil
          exact AllReadyH.nil
        exact AllReadyH.nil
      refine AllReadyH.cons (o := _) rfl (fun K hK => ?_) ?_
      · obtain ⟨g0, g1, g2, g3, g4, g5, g6, g7, g8, g9⟩ := (HLW.out _ (Below.refl _ _)).ten
        go_simp
        clear g0 g1 g2 g3 g4 g5 g6 g7 g8 g9
        refine hK.out _ _ (KP.out _ (HXW.out _ HB0.out)) (fun hHeld => ?_)
        clear hK K
        try simp only [List.getElem_toArray, List.getElem_cons_zero, List.getElem_cons_succ, Act.put, List.setIfInBounds_toArray, List.set_cons_zero, List.set_cons_succ]
        refine wpAnyH_ready (rs := [2]) (by kernel_rfl) (by simp) ?_
        refine AllReadyH.cons (o := _) rfl (fun K hK => ?_) ?_
        · go_simp
          refine (HCX.out _ HB0.out).mono ?_
          rintro e u1 ⟨v5, rfl, ht5, hb5⟩
          obtain ⟨kv5, sv5, rfl, ⟨a1, a2, a3, rfl⟩, ⟨b1, b2, b3, rfl⟩⟩ := ht5.ten
          have HB4 := Lib.hid (HB0.out.trans (hb5.mono HB0.out.size)); have HT5 := Lib.hid (ht5.same (G := fun b => ((AF b ∨ w.heap.size ≤ b) ∧ b ≠ Lb ∧ b ≠ w.heap.size + 1) ∧ b < u1.heap.size) (fun _ _ _ => rfl) fun b hb hl => ⟨HGX.out b (by simpa using hb), hl⟩)
          clear hb5 ht5
          go_wp2_with fail
          refine hK.out _ _ (KP.out _ (HXW.out _ HB4.out)) (fun hHeld => ?_)
          clear hK K
          try simp only [List.getElem_toArray, List.getElem_cons_zero, List.getElem_cons_succ, Act.put, List.setIfInBounds_toArray, List.set_cons_zero, List.set_cons_succ]
          refine wpAnyH_ready (rs := [4]) (by kernel_rfl) (by simp) ?_
          refine AllReadyH.cons (o := _) rfl (fun K hK => ?_) ?_
          · have HB5 := Lib.hid (HB4.out.alloc HB4.out.size (.cells #[.int .i64 x.fld.op, .slice a1 a2 a3, .int .i32 x.fld.rune, .slice b1 b2 b3, .int .i64 x.fld.at', .int .i64 x.fld.cap, .string x.fld.name, .int .i64 x.fld.min, .int .i64 x.fld.max, .bool x.fld.lazy, .int .i64 T.fld.op, .slice l1 l2 l3, .int .i32 T.fld.rune, .slice k1 k2 k3, .int .i64 T.fld.at', .int .i64 T.fld.cap, .string T.fld.name, .int .i64 T.fld.min, .int .i64 T.fld.max, .bool T.fld.lazy] 45))
            have HK5 := Lib.hid (kds_two HT5.out (HTL.out _ HB4.out) #[.int .i64 x.fld.op, .slice a1 a2 a3, .int .i32 x.fld.rune, .slice b1 b2 b3, .int .i64 x.fld.at', .int .i64 x.fld.cap, .string x.fld.name, .int .i64 x.fld.min, .int .i64 x.fld.max, .bool x.fld.lazy, .int .i64 T.fld.op, .slice l1 l2 l3, .int .i32 T.fld.rune, .slice k1 k2 k3, .int .i64 T.fld.at', .int .i64 T.fld.cap, .string T.fld.name, .int .i64 T.fld.min, .int .i64 T.fld.max, .bool T.fld.lazy] rfl _ (fun k h _ => h))
            go_simp
            refine hK.out _ _ (KP.out _ (HXW.out _ HB5.out)) (fun hHeld => ?_)
            clear hK K
            try simp only [List.getElem_toArray, List.getElem_cons_zero, List.getElem_cons_succ, Act.put, List.setIfInBounds_toArray, List.set_cons_zero, List.set_cons_succ]
            refine wpAnyH_ready (rs := [5]) (by kernel_rfl) (by simp) ?_
            refine AllReadyH.cons (o := _) rfl (fun K hK => ?_) ?_
            · go_simp
              refine (smJoined_any [x, T] HLEN.out _ _ _ (fun b hb => Nat.lt_of_lt_of_le hb.2 (by simp)) HK5.out).mono ?_
              rintro e u3 ⟨v6, rfl, ht6, hb6⟩
              obtain ⟨kv6, sv6, rfl, ⟨c1, c2, c3, rfl⟩, ⟨d1, d2, d3, rfl⟩⟩ := ht6.ten
              have HB6 := Lib.hid (HB5.out.trans (hb6.mono HB5.out.size))
              have HT6 := Lib.hid (ht6.same (G := fun b => ((AF b ∨ w.heap.size ≤ b) ∧ b ≠ Lb ∧ b ≠ w.heap.size + 1) ∧ b < u3.heap.size) (fun _ _ _ => rfl) fun b hb hl => ⟨by rcases hb with hb | hb; (· exact hb.1); (· exact HGX.out b (.inr (by have := HB4.out.size; simp at hb; omega))), hl⟩)
              clear hb6 ht6
              go_wp2_with fail
              refine hK.out _ _ (KP.out _ (HXW.out _ HB6.out)) (fun hHeld => ?_)
              clear hK K
              try simp only [List.getElem_toArray, List.getElem_cons_zero, List.getElem_cons_succ, Act.put, List.setIfInBounds_toArray, List.set_cons_zero, List.set_cons_succ]
              refine wpAnyH_ready (rs := [6]) (by kernel_rfl) (by simp) ?_
              refine AllReadyH.cons (o := _) rfl (fun K hK => ?_) ?_
              · go_simp
                refine (HAS.out _ _ HB6.out HT6.out).mono ?_
                rintro e u4 ⟨v7, rfl, ht7, hb7⟩
                obtain ⟨kv7, sv7, rfl, ⟨e1, e2, e3, rfl⟩, ⟨f1, f2, f3, rfl⟩⟩ := ht7.ten
                have HB7 := Lib.hid (HB6.out.trans (hb7.mono HB6.out.size))
                have HT7 := Lib.hid (ht7.same (G := fun b => (AF b ∨ w.heap.size ≤ b) ∧ b ≠ Lb ∧ b ≠ w.heap.size + 1) (fun _ _ _ => rfl) fun b hb hl => by rcases hb with hb | hb; (· exact hb.1); (· exact HGX.out b (.inr (by have := HB6.out.size; omega))))
                clear hb7 ht7
                go_wp2_with fail
                refine hK.out _ _ (KP.out _ (HXW.out _ HB7.out)) (fun hHeld => ?_)
                clear hK K
                try simp only [List.getElem_toArray, List.getElem_cons_zero, List.getElem_cons_succ, Act.put, List.setIfInBounds_toArray, List.set_cons_zero, List.set_cons_succ]
                refine wpAnyH_ready (rs := [7]) (by kernel_rfl) (by simp) ?_
                refine AllReadyH.cons (o := _) rfl (fun K hK => ?_) ?_
                · obtain ⟨g0, g1, g2, g3, g4, g5, g6, g7, g8, g9⟩ := (HLW.out _ HB7.out).ten
                  obtain ⟨y0, y1, y2, y3, y4, y5, y6, y7, y8, y9⟩ := whole_free (HLW.out _ HB7.out)
                  go_simp
                  clear g0 g1 g2 g3 g4 g5 g6 g7 g8 g9 y0 y1 y2 y3 y4 y5 y6 y7 y8 y9
                  refine hK.out _ _ (KP.out _ (whole_set10 (HXW.out _ HB7.out) HLB.out _ _ _ _ _ _ _ _ _ _)) (fun hHeld => ?_)
                  clear hK K
                  try simp only [List.getElem_toArray, List.getElem_cons_zero, List.getElem_cons_succ, Act.put, List.setIfInBounds_toArray, List.set_cons_zero, List.set_cons_succ]
                  refine wpAnyH_done (by kernel_rfl) ?_ _
                  obtain ⟨W8, hW8⟩ : ∃ W8, set10 u4 Lb (.int .i64 E.fld.op) (.slice e1 e2 e3) (.int .i32 E.fld.rune) (.slice f1 f2 f3) (.int .i64 E.fld.at') (.int .i64 E.fld.cap) (.string E.fld.name) (.int .i64 E.fld.min) (.int .i64 E.fld.max) (.bool E.fld.lazy) = W8 := ⟨_, rfl⟩
                  have HST8 : Hid (RestSt w AF Lb x m1 m2 m3 p1 p2 p3 q z E W8) := Lib.hid (hW8 ▸ HST.out.next HB7.out HQ.out HT7.out)
                  unfold set10 at hW8
                  have HW8 := Lib.hid hW8
                  clear hW8
                  rw [HW8.out]
                  go_wp2_with fail
                  go_roundw
                  case rel => exact ⟨k + 1, by omega, by go_num, by rw [HE.out]; exact HST8.out⟩
                  case measure => simp [intOf]; omega
                exact AllReadyH.nil
              exact AllReadyH.nil
            exact AllReadyH.nil
          exact AllReadyH.nil
        exact AllReadyH.nil
      exact AllReadyH.nil
    · obtain rfl : k = m := by omega
      subst hT
      have HM := Lib.hid (out_tree (AF := AF) (w := w) (r := w.heap.size + 1) (hlt.same (fun _ _ _ => rfl) fun b hb _ => ⟨hb.1, hb.2.2⟩) hb (Nat.le_succ _))
      have HRR := Lib.hid hr
      obtain ⟨g0, g1, g2, g3, g4, g5, g6, g7, g8, g9⟩ := hl.ten
      obtain ⟨r0', r1', r2', r3', r4', r5', r6', r7', r8', r9'⟩ := hr.ten
      obtain ⟨z0, z1, z2, z3, z4, z5, z6, z7, z8, z9⟩ := whole_free hr
      clear hx hr hl hlt hlb hz hb
      go_wp2_with fail
      exact tree_retK Try.results91 (w.heap.size + 1) rfl HRR.out HM.out
end Go.Proofs.Ythffdmncdoogpaa
/- A tree of plain Kids without those that fit nothing: the program's chosen. Written by gen10.py. -/
namespace Go.Proofs.Ythffdmncdoogpaa
open Go Go.RowKit

set_option maxHeartbeats 4000000 in
set_option maxRecDepth 100000 in
theorem smChoose_any (k : Tr) (v : Value) (w : World) (h : Tre w k v) : Calls Try.prog 93 #[v] w fun e w' => e = .returned (.bool (k.fld.op != 1)) ∧ Below w.heap.size w w' := by
  obtain ⟨A, n, c, a2, s, c2, hn, hs, rfl, hnb, hsb, hK, hS, hF⟩ := h.opened
  obtain ⟨w1, hw1⟩ : ∃ w1, w.alloc (.cells #[.int .i64 k.fld.op, .slice A n c, .int .i32 k.fld.rune, .slice a2 s c2, .int .i64 k.fld.at', .int .i64 k.fld.cap, .string k.fld.name, .int .i64 k.fld.min, .int .i64 k.fld.max, .bool k.fld.lazy] 45) = w1 := ⟨_, rfl⟩
  have hb1 : Below w.heap.size w w1 := by rw [← hw1]; exact (Below.refl _ _).alloc (Nat.le_refl _) _
  have hE1 : Box10 w1 w.heap.size (.int .i64 k.fld.op) (.slice A n c) (.int .i32 k.fld.rune) (.slice a2 s c2) (.int .i64 k.fld.at') (.int .i64 k.fld.cap) (.string k.fld.name) (.int .i64 k.fld.min) (.int .i64 k.fld.max) (.bool k.fld.lazy) := by rw [← hw1]; exact box10_new w _ _ _ _ _ _ _ _ _ _ _
  have HB1 := Lib.hid hb1; have HW1 := Lib.hid hw1
  obtain ⟨op, hop⟩ : ∃ op, k.fld.op = op := ⟨_, rfl⟩
  obtain ⟨d0, -⟩ := hE1
  rw [hop] at d0
  obtain ⟨B, hB⟩ : ∃ B, (op != 1) = B := ⟨_, rfl⟩
  rw [hop, hB]
  have HOP := Lib.hid hop
  clear h hb1 hw1 hK hS hn hs hF
  go_enter Try.func93, Try.ntmps93
  go_upto_region 1 with (fail)
  rw [← hop, HW1.out]
  rw [← hop] at hB
  rw [hop] at hB ⊢
  go_wp2_with fail
  go_ret
  exact ⟨by first | rfl | rw [hB], HB1.out⟩

set_option maxHeartbeats 4000000 in
set_option maxRecDepth 100000 in
theorem smChosen_any (f : Fld) (l : List Tr) (AF : Nat → Prop) (v : Value) (w : World) (hA : ∀ b, AF b → b < w.heap.size) (h0 : TreF AF w (.mk f l) v) : Calls Try.prog 70 #[v] w (TurnedPost AF (altT f (l.filter fun k => k.fld.op != 1)) w) := by
  obtain ⟨t, ht⟩ : ∃ t, Tr.mk f l = t := ⟨_, rfl⟩
  have hfl : t.fld = f := by rw [← ht]; rfl
  have hkl : t.kids = l := by rw [← ht]; rfl
  rw [ht] at h0
  rw [← hfl, ← hkl]
  obtain ⟨O, hO⟩ : ∃ O, t.kids.filter (fun k => k.fld.op != 1) = O := ⟨_, rfl⟩
  obtain ⟨RT, hRT⟩ : ∃ RT, altT t.fld O = RT := ⟨_, rfl⟩
  rw [hO, hRT]
  have HO := Lib.hid hO; have HRT := Lib.hid hRT
  clear hO hRT ht hfl hkl
  have H0 := Lib.hid h0
  have h := h0.tre
  obtain ⟨A, n, c, a2, s, c2, hn, hs, rfl, hnb, hsb, hK, hS, hF⟩ := h.opened
  obtain ⟨w1, hw1⟩ : ∃ w1, (w.alloc (.cells #[.int .i64 t.fld.op, .slice A n c, .int .i32 t.fld.rune, .slice a2 s c2, .int .i64 t.fld.at', .int .i64 t.fld.cap, .string t.fld.name, .int .i64 t.fld.min, .int .i64 t.fld.max, .bool t.fld.lazy] 45)).alloc (.cells #[.int .i64 0, .slice none 0 0, .int .i32 0, .slice none 0 0, .int .i64 0, .int .i64 0, .string ⟨#[]⟩, .int .i64 0, .int .i64 0, .bool false] 45) = w1 := ⟨_, rfl⟩
  have hb1 : Below w.heap.size w w1 := by rw [← hw1]; exact ((Below.refl _ w).alloc (Nat.le_refl _) _).alloc (by simp) _
  have hE1 : Whole w1 w.heap.size 45 #[.int .i64 t.fld.op, .slice A n c, .int .i32 t.fld.rune, .slice a2 s c2, .int .i64 t.fld.at', .int .i64 t.fld.cap, .string t.fld.name, .int .i64 t.fld.min, .int .i64 t.fld.max, .bool t.fld.lazy] := by rw [← hw1]; exact Whole.alloc (heap_alloc_new w _) _
  have hR1 : Whole w1 (w.heap.size + 1) 45 #[.int .i64 0, .slice none 0 0, .int .i32 0, .slice none 0 0, .int .i64 0, .int .i64 0, .string ⟨#[]⟩, .int .i64 0, .int .i64 0, .bool false] := by
    rw [← hw1]
    have := heap_alloc_new (w.alloc (.cells #[.int .i64 t.fld.op, .slice A n c, .int .i32 t.fld.rune, .slice a2 s c2, .int .i64 t.fld.at', .int .i64 t.fld.cap, .string t.fld.name, .int .i64 t.fld.min, .int .i64 t.fld.max, .bool t.fld.lazy] 45)) (.cells #[.int .i64 0, .slice none 0 0, .int .i32 0, .slice none 0 0, .int .i64 0, .int .i64 0, .string ⟨#[]⟩, .int .i64 0, .int .i64 0, .bool false] 45)
    simpa [Whole] using this
  have hs1 : w1.heap.size = w.heap.size + 2 := by rw [← hw1]; simp
  have hT1 : TreF AF w1 t _ := TreF.same H0.out (same_below hb1) (fun _ h _ => h)
  have HB1 := Lib.hid hb1; have HE1 := Lib.hid hE1; have HR1 := Lib.hid hR1; have HW1 := Lib.hid hw1; have HS1 := Lib.hid hs1; have HT1 := Lib.hid hT1; have HN := Lib.hid hn; have HA := Lib.hid hA; have HF := Lib.hid hF
  clear h h0 hb1 hE1 hR1 hw1 hs1 hT1 hK hS hn hs hF hA
  go_enter Try.func70, Try.ntmps70
  go_upto_region 1 with (fail)
  rw [HW1.out]

  have hset : (Rgs w1 (.slice a2 s c2) t.fld.set ∧ Foot AF (.slice a2 s c2) t.fld.set) ∧ KdsF AF w1 t.kids (.slice A n c) := by
    have h := HT1.out
    rw [treF_iff] at h
    obtain ⟨kv', sv', e, h2, -, h3⟩ := h
    obtain ⟨rfl, rfl⟩ := treC_inj (f := t.fld) (k1 := .slice A n c) (s1 := .slice a2 s c2) e
    exact ⟨h2, h3⟩
  have HTH := Lib.hid (smThose_any 93 (fun k => k.fld.op != 1) (enters_of Try.func93 (by kernel_rfl) rfl) t.kids (fun k _ v W h => smChoose_any k v W h) AF _ w1 (fun b hb => Nat.lt_of_lt_of_le (HA.out b hb) HB1.out.size) (smKdsE hset.2))
  rw [HO.out] at HTH
  have HST := Lib.hid hset.1
  clear hset
  obtain ⟨b0, b1, b2, b3, b4, b5, b6, b7, b8, b9⟩ := HE1.out.ten
  go_wp2_with fail
  refine HTH.out.mono ?_
  rintro e w5 ⟨v5, rfl, ho5, hb5⟩
  obtain ⟨r1, r2, r3, rfl⟩ := ho5.slice
  have hE5 := HE1.out.below hb5 HE1.out.lt
  have hR5 := HR1.out.below hb5 HR1.out.lt
  have hE60 := hE5.store 1 (.slice r1 r2 r3)
  simp only [List.setIfInBounds_toArray, List.set_cons_zero, List.set_cons_succ] at hE60
  obtain ⟨w6, hw6⟩ : ∃ w6, w5.setCell ⟨w.heap.size, 1, none⟩ (.slice r1 r2 r3) = w6 := ⟨_, rfl⟩
  have hE6 : Whole w6 w.heap.size 45 #[.int .i64 t.fld.op, .slice r1 r2 r3, .int .i32 t.fld.rune, .slice a2 s c2, .int .i64 t.fld.at', .int .i64 t.fld.cap, .string t.fld.name, .int .i64 t.fld.min, .int .i64 t.fld.max, .bool t.fld.lazy] := hw6 ▸ hE60
  have hR6 : Whole w6 (w.heap.size + 1) 45 #[.int .i64 0, .slice none 0 0, .int .i32 0, .slice none 0 0, .int .i64 0, .int .i64 0, .string ⟨#[]⟩, .int .i64 0, .int .i64 0, .bool false] := by rw [← hw6]; exact hR5.far (by omega) 1 _
  have hB6 : Below w.heap.size w w6 := by rw [← hw6]; exact (HB1.out.trans (hb5.mono HB1.out.size)).setCell (p := ⟨w.heap.size, 1, none⟩) (Nat.le_refl _) _
  have hS6 : Rgs w6 (.slice a2 s c2) t.fld.set ∧ Foot (fun b => (AF b ∨ w.heap.size ≤ b) ∧ b ≠ w.heap.size + 1) (.slice a2 s c2) t.fld.set := rgs_same HST.out.1 HST.out.2 (fun b hb hlt => by rw [← hw6, Below.heap_setCell w5 _ _ b (by have := HA.out b hb; simp; omega)]; exact hb5.block b hlt) fun b hb _ => ⟨.inl hb, by have := HA.out b hb; omega⟩
  have hO6 : OwnT (fun b => AF b ∨ w.heap.size + 2 ≤ b) w6 (w.heap.size + 2) (.slice r1 r2 r3) O := by
    have h1 := HS1.out
    obtain ⟨L, hl, ho, ht⟩ := (ho5.mono (show w.heap.size + 2 ≤ w1.heap.size by omega)).wide (G := fun b => AF b ∨ w.heap.size + 2 ≤ b) fun b h => h.imp id fun h => by omega
    rw [← hw6]
    exact ⟨L, hl, ownsRow_setCell_below ho (a := ⟨w.heap.size, 1, none⟩) (by show w.heap.size < w.heap.size + 2; omega) _, fun i h h' => (ht i h h').same (fun b hb _ => Below.heap_setCell w5 _ _ b (by
      rcases hb.2 with hb | hb
      · have := HA.out b hb; simp; omega
      · simp; omega)) fun b hb _ => hb⟩
  have hlen : O.length ≤ 1172812402961 := by
    have := List.length_filter_le (fun k : Tr => k.fld.op != 1) t.kids
    rw [HO.out, HN.out] at this
    omega
  have HLO := Lib.hid hO6.len; have HO6 := Lib.hid hO6; have HLEN := Lib.hid hlen
  have HW6 := Lib.hid hw6; have HR6 := Lib.hid hR6; have HB6 := Lib.hid hB6; have HS6 := Lib.hid hS6
  obtain ⟨c0, c1, c2', c3, c4, c5, c6, c7, c8, c9⟩ := hE5.ten
  obtain ⟨y0, y1, y2, y3, y4, y5, y6, y7, y8, y9⟩ := whole_free hE5
  obtain ⟨k0, k1, k2, k3, k4, k5, k6, k7, k8, k9⟩ := hE6.ten
  obtain ⟨r0', r1', r2', r3', r4', r5', r6', r7', r8', r9'⟩ := hR6.ten
  obtain ⟨z0, z1, z2, z3, z4, z5, z6, z7, z8, z9⟩ := whole_free hR6
  clear hE5 hR5 hE60 hw6 hE6 hR6 hB6 hS6 hO6 hlen ho5 hb5 b0 b1 b2 b3 b4 b5 b6 b7 b8 b9
  go_upto_region 2 with (fail)
  rw [HW6.out]
  clear c0 c1 c2' c3 c4 c5 c6 c7 c8 c9 y0 y1 y2 y3 y4 y5 y6 y7 y8 y9
  by_cases q0 : r2 = 0
  · subst q0
    have HM : Hid (TurnedPost AF (.mk (opF 1 false) []) w (.returned (.agg #[.int .i64 1, .slice none 0 0, .int .i32 0, .slice none 0 0, .int .i64 0, .int .i64 0, .string ⟨#[]⟩, .int .i64 0, .int .i64 0, .bool false])) (set10 w6 (w.heap.size + 1) (.int .i64 1) (.slice none 0 0) (.int .i32 0) (.slice none 0 0) (.int .i64 0) (.int .i64 0) (.string ⟨#[]⟩) (.int .i64 0) (.int .i64 0) (.bool false))) := Lib.hid (out_tree (emptyT_tre _ _ 1 ⟨by omega, by omega⟩) HB6.out (Nat.le_succ _))
    have HOE : Hid (RT = .mk (opF 1 false) []) := Lib.hid (by rw [← HRT.out, List.eq_nil_of_length_eq_zero HLO.out.symm]; rfl)
    go_wp2_with fail
    refine tree_ret Try.results70 (w.heap.size + 1) rfl HR6.out ?_
    rw [HOE.out]
    exact HM.out
  by_cases q1 : r2 = 1
  · subst q1
    obtain ⟨x, hx⟩ := List.length_eq_one_iff.1 HLO.out.symm
    obtain ⟨g, rfl⟩ : ∃ g, r1 = some ⟨g, 0, none⟩ := by
      obtain ⟨L, hl, ho, ht⟩ := HO6.out
      rcases own_slice10 ho with ⟨h, -⟩ | ⟨g', c', h, -⟩
      · cases h
      · injection h with h _ _
        exact ⟨g', h⟩
    obtain ⟨tk, u1, u2, u3, u4, u5, u6, htk, h10, hTk⟩ := HO6.out.at' 0 (by rw [← HLO.out]; omega)
    have hxe : tk = x := by rw [← htk]; simp [hx]
    have HM : Hid (TurnedPost AF tk w (.returned (.agg #[.int .i64 tk.fld.op, .slice u1 u2 u3, .int .i32 tk.fld.rune, .slice u4 u5 u6, .int .i64 tk.fld.at', .int .i64 tk.fld.cap, .string tk.fld.name, .int .i64 tk.fld.min, .int .i64 tk.fld.max, .bool tk.fld.lazy])) (set10 w6 (w.heap.size + 1) (.int .i64 tk.fld.op) (.slice u1 u2 u3) (.int .i32 tk.fld.rune) (.slice u4 u5 u6) (.int .i64 tk.fld.at') (.int .i64 tk.fld.cap) (.string tk.fld.name) (.int .i64 tk.fld.min) (.int .i64 tk.fld.max) (.bool tk.fld.lazy))) := Lib.hid (out_tree (hTk.same (fun _ _ _ => rfl) fun b hb _ => by
      rcases hb.2 with hb | hb
      · exact ⟨.inl hb, by have := HA.out b hb; omega⟩
      · exact ⟨.inr (by omega), by omega⟩) HB6.out (Nat.le_succ _))
    have HOE : Hid (RT = tk) := Lib.hid (by rw [← HRT.out, hx, hxe]; rfl)
    obtain ⟨d0, d1, d2, d3, d4, d5, d6, d7, d8, d9⟩ := h10
    simp only [Nat.zero_mul] at d0 d1 d2 d3 d4 d5 d6 d7 d8 d9
    clear htk hTk hxe hx q0
    go_wp2_with fail
    refine tree_ret Try.results70 (w.heap.size + 1) rfl HR6.out ?_
    rw [HOE.out]
    exact HM.out
  · have HM : Hid (TurnedPost AF (.mk t.fld O) w (.returned (.agg #[.int .i64 t.fld.op, .slice r1 r2 r3, .int .i32 t.fld.rune, .slice a2 s c2, .int .i64 t.fld.at', .int .i64 t.fld.cap, .string t.fld.name, .int .i64 t.fld.min, .int .i64 t.fld.max, .bool t.fld.lazy])) (set10 w6 (w.heap.size + 1) (.int .i64 t.fld.op) (.slice r1 r2 r3) (.int .i32 t.fld.rune) (.slice a2 s c2) (.int .i64 t.fld.at') (.int .i64 t.fld.cap) (.string t.fld.name) (.int .i64 t.fld.min) (.int .i64 t.fld.max) (.bool t.fld.lazy))) := Lib.hid (out_tree (by
      rw [treF_iff]
      exact ⟨_, _, rfl, HS6.out, HF.out, HO6.out.kdsF HLEN.out (fun b hb => ⟨.inr (by omega), by omega⟩) fun b hb => by
        rcases hb with hb | hb
        · exact ⟨.inl hb, by have := HA.out b hb; omega⟩
        · exact ⟨.inr (by omega), by omega⟩⟩) HB6.out (Nat.le_succ _))
    have HOE : Hid (RT = .mk t.fld O) := Lib.hid (by
      rw [← HRT.out]
      match O, HLO.out with
      | [], h => exact absurd h q0
      | [x], h => exact absurd h q1
      | x :: y :: r, _ => rfl)
    have m0 : ((r2 : Int) == 0) = false := beq_eq_false_iff_ne.2 (by omega)
    have m1 : ((r2 : Int) == 1) = false := beq_eq_false_iff_ne.2 (by omega)
    clear q0 q1
    go_wp2_with fail
    refine tree_ret Try.results70 (w.heap.size + 1) rfl HR6.out ?_
    rw [HOE.out]
    exact HM.out
end Go.Proofs.Ythffdmncdoogpaa
