/- The program's Turned, of any tree: turned, if it is right. (As in XTrProg, by itself.) No condition. -/
import Derived.Test.YtaaadimkbhkpiaaQ29
import Derived.Test.YtaaadimkbhkpiaaQ40
import Derived.Test.YtaaadimkbhkpiaaPTurned
import Derived.Test.YtaaadimkbhkpiaaJ2
set_option linter.unusedVariables false
set_option linter.unusedSimpArgs false
namespace Go.Proofs.Ytaaadimkbhkpiaa
open Go Go.RowKit

set_option maxHeartbeats 4000000 in
set_option maxRecDepth 100000 in
theorem pturnedT_any (t : Tr) (hp : partsR t ≤ 10000000000) (AF : Nat → Prop) (v : Value) (w : World) (hA : ∀ b, AF b → b < w.heap.size) (h0 : TreF AF w t v) : Calls Try.prog 18 #[v] w (TopPost AF t w) := by
  have H0 := Lib.hid h0
  have h := h0.tre
  obtain ⟨A, n, c, a2, s, c2, hn, hs, rfl, hnb, hsb, hK, hS, hF⟩ := h.opened
  obtain ⟨w1, hw1⟩ : ∃ w1, (w.alloc (.cells #[.int .i64 t.fld.op, .slice A n c, .int .i32 t.fld.rune, .slice a2 s c2, .int .i64 t.fld.at', .int .i64 t.fld.cap, .string t.fld.name, .int .i64 t.fld.min, .int .i64 t.fld.max, .bool t.fld.lazy] 27)).alloc (.cells #[.int .i64 0, .slice none 0 0, .int .i32 0, .slice none 0 0, .int .i64 0, .int .i64 0, .string ⟨#[]⟩, .int .i64 0, .int .i64 0, .bool false] 27) = w1 := ⟨_, rfl⟩
  have hb1 : Below w.heap.size w w1 := by rw [← hw1]; exact ((Below.refl _ w).alloc (Nat.le_refl _) _).alloc (by simp) _
  have hE1 : Whole w1 w.heap.size 27 #[.int .i64 t.fld.op, .slice A n c, .int .i32 t.fld.rune, .slice a2 s c2, .int .i64 t.fld.at', .int .i64 t.fld.cap, .string t.fld.name, .int .i64 t.fld.min, .int .i64 t.fld.max, .bool t.fld.lazy] := by rw [← hw1]; exact Whole.alloc (heap_alloc_new w _) _
  have hR1 : Whole w1 (w.heap.size + 1) 27 #[.int .i64 0, .slice none 0 0, .int .i32 0, .slice none 0 0, .int .i64 0, .int .i64 0, .string ⟨#[]⟩, .int .i64 0, .int .i64 0, .bool false] := by
    rw [← hw1]
    have := heap_alloc_new (w.alloc (.cells #[.int .i64 t.fld.op, .slice A n c, .int .i32 t.fld.rune, .slice a2 s c2, .int .i64 t.fld.at', .int .i64 t.fld.cap, .string t.fld.name, .int .i64 t.fld.min, .int .i64 t.fld.max, .bool t.fld.lazy] 27)) (.cells #[.int .i64 0, .slice none 0 0, .int .i32 0, .slice none 0 0, .int .i64 0, .int .i64 0, .string ⟨#[]⟩, .int .i64 0, .int .i64 0, .bool false] 27)
    simpa [Whole] using this
  have hs1 : w1.heap.size = w.heap.size + 2 := by rw [← hw1]; simp
  have hT1 : TreF AF w1 t _ := TreF.same H0.out (same_below hb1) (fun _ h _ => h)
  have HB1 := Lib.hid hb1; have HE1 := Lib.hid hE1; have HR1 := Lib.hid hR1; have HW1 := Lib.hid hw1; have HS1 := Lib.hid hs1; have HT1 := Lib.hid hT1; have HA := Lib.hid hA
  obtain ⟨b0, b1, b2, b3, b4, b5, b6, b7, b8, b9⟩ := hE1.ten
  clear h h0 hb1 hE1 hR1 hw1 hs1 hT1 hK hS hn hs hF hA
  have HD := Lib.hid (pright_any t hp _ w1 HT1.out.tre)
  go_enter Try.func18, Try.ntmps18
  go_upto_region 1 with (fail)
  rw [HW1.out]
  go_wp2_with fail
  refine HD.out.mono ?_
  rintro e w2 ⟨B, rfl, hq, hb2⟩
  have HB2 := Lib.hid (HB1.out.trans (hb2.mono HB1.out.size)); have HT2 := Lib.hid (HT1.out.same (same_below hb2) (fun _ h _ => h)); have HQ := Lib.hid hq; have HS2 := Lib.hid hb2.size
  have HE2 : Hid (Whole w2 w.heap.size 27 #[.int .i64 t.fld.op, .slice A n c, .int .i32 t.fld.rune, .slice a2 s c2, .int .i64 t.fld.at', .int .i64 t.fld.cap, .string t.fld.name, .int .i64 t.fld.min, .int .i64 t.fld.max, .bool t.fld.lazy]) := Lib.hid (HE1.out.below hb2 (by have := HS1.out; omega))
  have HR2 : Hid (Whole w2 (w.heap.size + 1) 27 #[.int .i64 0, .slice none 0 0, .int .i32 0, .slice none 0 0, .int .i64 0, .int .i64 0, .string ⟨#[]⟩, .int .i64 0, .int .i64 0, .bool false]) := Lib.hid (HR1.out.below hb2 (by have := HS1.out; omega))
  clear hb2 hq HD b0 b1 b2 b3 b4 b5 b6 b7 b8 b9
  rcases B with _ | _
  · have HN : Hid (¬ RightT t) := Lib.hid fun h => by have := HQ.out.2 h; cases this
    clear HQ
    obtain ⟨r0, r1, r2, r3, r4, r5, r6, r7, r8, r9⟩ := HR2.out.ten
    obtain ⟨z0, z1, z2, z3, z4, z5, z6, z7, z8, z9⟩ := whole_free HR2.out
    go_wp2_with fail
    refine tree_ret Try.results18 (w.heap.size + 1) rfl HR2.out ?_
    exact ⟨_, noTr, rfl, .inr ⟨HN.out, rfl⟩, noTr_tre _ _, set10_below HB2.out (by omega) _ _ _ _ _ _ _ _ _ _⟩
  have HR := Lib.hid (HQ.out.1 rfl)
  clear HQ
  have HI := Lib.hid (pturned_all t HR.out.2.2.1 hp AF _ w2 (fun b hb => by have := HA.out b hb; have := HS1.out; have := HS2.out; omega) HT2.out)
  obtain ⟨b0, b1, b2, b3, b4, b5, b6, b7, b8, b9⟩ := HE2.out.ten
  go_wp2_with fail
  refine HI.out.mono ?_
  rintro e w3 ⟨v3, rfl, ht3, hb3⟩
  obtain ⟨kv2, sv2, rfl, ⟨x1, x2, x3, rfl⟩, ⟨y1, y2, y3, rfl⟩⟩ := ht3.ten
  have HT3 := Lib.hid ht3; have HB3 := Lib.hid (HB2.out.trans (hb3.mono HB2.out.size))
  have hR3 : Whole w3 (w.heap.size + 1) 27 #[.int .i64 0, .slice none 0 0, .int .i32 0, .slice none 0 0, .int .i64 0, .int .i64 0, .string ⟨#[]⟩, .int .i64 0, .int .i64 0, .bool false] := HR2.out.below hb3 (by have := HS1.out; have := HS2.out; omega)
  have HR3 := Lib.hid hR3
  obtain ⟨r0, r1, r2, r3, r4, r5, r6, r7, r8, r9⟩ := hR3.ten
  obtain ⟨z0, z1, z2, z3, z4, z5, z6, z7, z8, z9⟩ := whole_free hR3
  clear ht3 hb3 hR3 b0 b1 b2 b3 b4 b5 b6 b7 b8 b9 HI
  go_wp2_with fail
  refine tree_ret Try.results18 (w.heap.size + 1) rfl HR3.out ?_
  refine ⟨_, turnedT t, rfl, .inl ⟨HR.out, rfl⟩, ?_, set10_below HB3.out (by omega) _ _ _ _ _ _ _ _ _ _⟩
  refine TreF.same HT3.out (SameOn.mono (set10_same _ _ _ _ _ _ _ _ _ _ _ _) (fun b hb e => ?_)) (fun b hb _ => hb.imp id fun h => by have := HS1.out; have := HS2.out; omega)
  have h1 := HS1.out; have h2 := HS2.out
  rcases hb with hb | hb
  · have := HA.out b hb
    omega
  · omega

end Go.Proofs.Ytaaadimkbhkpiaa
