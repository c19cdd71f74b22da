/- Texts merged by program: RwRep, RwTextA. No condition. -/
import Derived.Test.YthnddabcmhplkaaDoorK23
import Derived.Test.YthnddabcmhplkaaDoorK1
import Derived.Test.YthnddabcmhplkaaDoorK7
import Derived.Test.YthnddabcmhplkaaDoorK20
import Derived.Test.YthnddabcmhplkaaDoorK14
import Derived.Lib.ItoaNum
import Derived.Lib.AppendIntMem
set_option linter.unusedVariables false
/- The document's sign of a repeat. -/
namespace Go.Proofs.YthnddabcmhplkaaDoor
open Go Go.RowKit

abbrev Pow9 (w : World) : Prop := Lib.TabIs Tryd.prog w "internal/strconv.uint64pow10" .u64 Lib.pow10Tab
theorem Pow9.below {w w' : World} (h : Pow9 w) (hb : Below w.heap.size w w') : Pow9 w' := by
  unfold Pow9 at h ⊢
  have hgn : Tryd.prog.globalNamed "internal/strconv.uint64pow10" = some 1 := by kernel_rfl
  unfold Lib.TabIs World.var? at h ⊢
  rw [hgn] at h ⊢
  simp only [Option.bind_some] at h ⊢
  have hlt : 1 < w.heap.size := by
    rcases Nat.lt_or_ge 1 w.heap.size with h' | h'
    · exact h'
    · rw [Array.getElem?_eq_none h'] at h
      cases h
  rw [hb.block _ hlt]
  exact h
theorem itoa_dec9 (n : Nat) : Lib.itoa (n : Int) = Lib.decDigits n := by
  unfold Lib.itoa
  rw [if_neg (by omega)]
  rfl
theorem itoa9_any (n : Nat) (hn : n ≤ 1000) (W : World) (hP : Pow9 W) :
    Calls Tryd.prog 58 #[.int .i64 n] W fun e w' => e = .returned (.string (textB (Lib.decDigits n))) ∧ Below W.heap.size W w' := by
  refine (Tryd.strconv_Itoa n (by omega) (by omega) W hP).mono ?_
  rintro e w' ⟨rfl, k, os, rfl⟩
  exact ⟨by rw [itoa_dec9]; rfl, Lib.below_grow _ _ (Nat.le_refl _) _ _⟩
/-- The sign without the lazy one's mark. -/
def stemP (f : Fld) : List UInt8 := if f.op = 7 then [42] else if f.op = 8 then [43] else if f.op = 9 then [63] else countP f.min f.max
def lzP (b : Bool) : List UInt8 := if b = true then [63] else []
theorem sign_stem (f : Fld) : signP f = stemP f ++ lzP f.lazy := rfl
theorem dec_len9 (n : Nat) (h : n ≤ 1000) : (Lib.decDigits n).length ≤ 10 := by
  rw [← num_10]
  have := num_len 10 (by omega) 9 n (by omega)
  omega
set_option maxHeartbeats 3200000 in
set_option maxRecDepth 100000 in
theorem repeat9_any (t : Tr) (hf : FieldsOk t.fld) (hop : t.fld.op = 7 ∨ t.fld.op = 8 ∨ t.fld.op = 9 ∨ t.fld.op = 10) (v : Value) (w : World) (h : Tre w t v) (hP : Pow9 w) : Calls Tryd.prog 35 #[v] w fun e w' => e = .returned (.string (textB (signP t.fld))) ∧ Below w.heap.size w w' := by
  obtain ⟨A, n, c, a2, s, c2, hn, hs, rfl, -, -, -, -, -⟩ := h.opened
  obtain ⟨w1, hw1⟩ : ∃ w1, w.alloc (.cells #[.int .i64 t.fld.op, .slice A n c, .int .i32 t.fld.rune, .slice a2 s c2, .int .i64 t.fld.at', .int .i64 t.fld.cap, .string t.fld.name, .int .i64 t.fld.min, .int .i64 t.fld.max, .bool t.fld.lazy] 27) = w1 := ⟨_, rfl⟩
  have hb1 : Below w.heap.size w w1 := by rw [← hw1]; exact (Below.refl _ _).alloc (Nat.le_refl _) _
  have hE1 : Whole w1 w.heap.size 27 #[.int .i64 t.fld.op, .slice A n c, .int .i32 t.fld.rune, .slice a2 s c2, .int .i64 t.fld.at', .int .i64 t.fld.cap, .string t.fld.name, .int .i64 t.fld.min, .int .i64 t.fld.max, .bool t.fld.lazy] := by rw [← hw1]; exact heap_alloc_new w _
  have HW := Lib.hid hw1; have HB := Lib.hid hb1; have HP := Lib.hid (hP.below hb1)
  have hlim : t.fld.op = 10 → (0 ≤ t.fld.min ∧ t.fld.min ≤ 1000) ∧ (t.fld.max = -1 ∨ (t.fld.min ≤ t.fld.max ∧ t.fld.max ≤ 1000)) := hf.2.2.2.2.2.2.2.2.2.2.2.2
  rw [sign_stem]
  obtain ⟨f, ks⟩ := t
  simp only [Tr.fld] at hop hE1 HW hlim ⊢
  obtain ⟨op, ru, se, at', ca, na, mi, ma, lz⟩ := f
  simp only at hop hE1 HW hlim ⊢
  have hst : stemP ⟨op, ru, se, at', ca, na, mi, ma, lz⟩ = if op = 7 then [42] else if op = 8 then [43] else if op = 9 then [63] else countP mi ma := rfl
  rw [hst]
  clear hf h hw1 hb1 hn hs hP hst
  rcases hop with rfl | rfl | rfl | rfl
  case inr.inr.inr =>
    obtain ⟨⟨m0, m1⟩, m2⟩ := hlim rfl
    obtain ⟨a, rfl⟩ : ∃ a : Nat, mi = (a : Int) := ⟨mi.toNat, by omega⟩
    rw [if_neg (by decide), if_neg (by decide), if_neg (by decide)]
    have HI := Lib.hid (itoa9_any a (by omega) w1 HP.out)
    have hla := dec_len9 a (by omega)
    obtain ⟨X, hX⟩ : ∃ X, textB (Lib.decDigits a) = X := ⟨_, rfl⟩
    have hzX : X.size ≤ 10 := by rw [← hX, textB_size]; exact hla
    rw [hX] at HI
    have p1 := cat9w ⟨#[123]⟩ X (by show 1 + X.size ≤ _; omega)
    have hcases : (ma = -1 ∧ textB (countP a ma) = (⟨#[123]⟩ ++ X ++ ⟨#[44]⟩) ++ ⟨#[125]⟩) ∨ (ma ≠ -1 ∧ ma = (a : Int) ∧ textB (countP a ma) = ⟨#[123]⟩ ++ X ++ ⟨#[125]⟩) ∨ (ma ≠ -1 ∧ ma ≠ (a : Int) ∧ ∃ b : Nat, ma = (b : Int) ∧ b ≤ 1000 ∧ textB (countP a ma) = (⟨#[123]⟩ ++ X ++ ⟨#[44]⟩) ++ textB (Lib.decDigits b) ++ ⟨#[125]⟩) := by
      rw [← hX]
      unfold countP
      rw [Int.toNat_natCast]
      by_cases e1 : ma = -1
      · left
        refine ⟨e1, ?_⟩
        rw [if_pos e1]
        show _ = textB [123] ++ textB _ ++ textB [44] ++ textB [125]
        simp [textB_app9]
      · rw [if_neg e1]
        by_cases e2 : ma = (a : Int)
        · right; left
          refine ⟨e1, e2, ?_⟩
          rw [if_pos e2]
          show _ = textB [123] ++ textB _ ++ textB [125]
          simp [textB_app9]
        · right; right
          refine ⟨e1, e2, ma.toNat, by omega, by omega, ?_⟩
          rw [if_neg e2]
          show _ = textB [123] ++ textB _ ++ textB [44] ++ textB _ ++ textB [125]
          simp [textB_app9]
    have hlz : ∀ B : Bool, textB (countP a ma ++ lzP B) = if B = true then textB (countP a ma) ++ ⟨#[63]⟩ else textB (countP a ma) := fun B => by
      cases B
      · simp [lzP]
      · show _ = textB _ ++ textB [63]
        rw [textB_app9]
        rfl
    rw [hlz lz]
    obtain ⟨C, hC⟩ : ∃ C, textB (countP a ma) = C := ⟨_, rfl⟩
    rw [hC] at hcases ⊢
    obtain ⟨g0, g1, g2, g3, g4, g5, g6, g7, g8, g9⟩ := hE1.ten
    have HE := Lib.hid hE1
    clear hlim hla hX hC hlz m0 m2 hE1
    go_enter Tryd.func35, Tryd.ntmps35
    go_upto_region 1 with (fail)
    rw [HW.out]
    go_wp2_with fail
    refine HI.out.mono ?_
    rintro e w2 ⟨rfl, hb⟩
    have HB2 := Lib.hid (HB.out.trans (hb.mono HB.out.size)); have HP2 := Lib.hid (HP.out.below hb)
    have hE2 := HE.out.below hb HE.out.lt
    clear hb g0 g1 g2 g3 g4 g5 g6 g7 g8 g9
    obtain ⟨g0, g1, g2, g3, g4, g5, g6, g7, g8, g9⟩ := hE2.ten
    rcases hcases with ⟨rfl, rfl⟩ | ⟨e1, rfl, rfl⟩ | ⟨e1, e2, b, rfl, hb, hCe⟩
    · have p2 := cat9w (⟨#[123]⟩ ++ X) ⟨#[44]⟩ (by rw [ByteArray.size_append]; show 1 + X.size + 1 ≤ _; omega)
      have p3 := cat9w (⟨#[123]⟩ ++ X ++ ⟨#[44]⟩) ⟨#[125]⟩ (by rw [ByteArray.size_append, ByteArray.size_append]; show 1 + X.size + 1 + 1 ≤ _; omega)
      have p4 := cat9w (⟨#[123]⟩ ++ X ++ ⟨#[44]⟩ ++ ⟨#[125]⟩) ⟨#[63]⟩ (by rw [ByteArray.size_append, ByteArray.size_append, ByteArray.size_append]; show 1 + X.size + 1 + 1 + 1 ≤ _; omega)
      clear hE2 hzX HI HE HP HP2
      cases lz
      all_goals
        go_wp2_with fail
        go_ret
        exact ⟨rfl, HB2.out⟩
    · have q1 : ((a : Int) == -1) = false := beq_eq_false_iff_ne.2 e1
      have p3 := cat9w (⟨#[123]⟩ ++ X) ⟨#[125]⟩ (by rw [ByteArray.size_append]; show 1 + X.size + 1 ≤ _; omega)
      have p4 := cat9w (⟨#[123]⟩ ++ X ++ ⟨#[125]⟩) ⟨#[63]⟩ (by rw [ByteArray.size_append, ByteArray.size_append]; show 1 + X.size + 1 + 1 ≤ _; omega)
      clear hE2 hzX HI HE HP HP2 e1
      cases lz
      all_goals
        go_wp2_with fail
        go_ret
        exact ⟨rfl, HB2.out⟩
    · have q1 : ((b : Int) == -1) = false := beq_eq_false_iff_ne.2 e1
      have q2 : ((b : Int) == (a : Int)) = false := beq_eq_false_iff_ne.2 e2
      have HI2 := Lib.hid (itoa9_any b hb w2 HP2.out)
      have hlb := dec_len9 b hb
      obtain ⟨Y, hY⟩ : ∃ Y, textB (Lib.decDigits b) = Y := ⟨_, rfl⟩
      have hzY : Y.size ≤ 10 := by rw [← hY, textB_size]; exact hlb
      rw [hY] at HI2 hCe
      have HCE := Lib.hid hCe
      have p2 := cat9w (⟨#[123]⟩ ++ X) ⟨#[44]⟩ (by rw [ByteArray.size_append]; show 1 + X.size + 1 ≤ _; omega)
      have p3 := cat9w (⟨#[123]⟩ ++ X ++ ⟨#[44]⟩) Y (by rw [ByteArray.size_append, ByteArray.size_append]; show 1 + X.size + 1 + Y.size ≤ _; omega)
      have p4 := cat9w (⟨#[123]⟩ ++ X ++ ⟨#[44]⟩ ++ Y) ⟨#[125]⟩ (by rw [ByteArray.size_append, ByteArray.size_append, ByteArray.size_append]; show 1 + X.size + 1 + Y.size + 1 ≤ _; omega)
      have p5 := cat9w (⟨#[123]⟩ ++ X ++ ⟨#[44]⟩ ++ Y ++ ⟨#[125]⟩) ⟨#[63]⟩ (by rw [ByteArray.size_append, ByteArray.size_append, ByteArray.size_append, ByteArray.size_append]; show 1 + X.size + 1 + Y.size + 1 + 1 ≤ _; omega)
      have HE2 := Lib.hid hE2
      clear hE2 hzX hzY hlb hY HI HE HP HP2 e1 e2 hb hCe
      go_wp2_with fail
      refine HI2.out.mono ?_
      rintro e w3 ⟨rfl, hb⟩
      have HB3 := Lib.hid (HB2.out.trans (hb.mono HB2.out.size))
      have hE3 := HE2.out.below hb HE2.out.lt
      clear hb g0 g1 g2 g3 g4 g5 g6 g7 g8 g9
      obtain ⟨g0, g1, g2, g3, g4, g5, g6, g7, g8, g9⟩ := hE3.ten
      clear hE3
      cases lz
      all_goals
        go_wp2_with fail
        go_ret
        exact ⟨by rw [HCE.out]; rfl, HB3.out⟩
  all_goals
    clear hlim
    obtain ⟨g0, g1, g2, g3, g4, g5, g6, g7, g8, g9⟩ := hE1.ten
    clear hE1 HP
    go_enter Tryd.func35, Tryd.ntmps35
    go_upto_region 1 with (fail)
    rw [HW.out]
    cases lz
    all_goals
      go_wp2_with fail
      go_ret
      exact ⟨rfl, HB.out⟩
end Go.Proofs.YthnddabcmhplkaaDoor
/- The document's text of a tree: leaves. Written by gen9wtext.py. -/
namespace Go.Proofs.YthnddabcmhplkaaDoor
open Go Go.RowKit

def Text9 (t : Tr) : Prop := ∀ (v : Value) (w : World), Tre w t v → De64 w → Pow9 w → Calls Tryd.prog 11 #[v] w (TextZ (textT t) w)
set_option maxHeartbeats 40000000 in
set_option maxRecDepth 100000 in
theorem text9_leaf {t : Tr} (hk : (soleT t).fld.op = 1 ∨ (soleT t).fld.op = 2 ∨ (soleT t).fld.op = 3 ∨ (soleT t).fld.op = 4 ∨ (soleT t).fld.op = 5) (hs0 : ShapedP t) (hp : partsR t ≤ 10000000000) (hC : ∀ k, partsR k < partsR t → ShapedP k → Text9 k) : Text9 t := by
  intro v w h hD hP
  have HD := Lib.hid hD; have HPW := Lib.hid hP
  clear hD hP
  have q1 := sole_all t hs0
  have hlen := text_len (soleT t) q1.1
  have hkids : ∀ k ∈ (soleT t).kids, ShapedP k ∧ partsR k < partsR t ∧ Text9 k ∧ Text9 (soleT k) := fun k hk => by
    have h1 := ((shapedP_iff _).1 q1.1).2.2.2 k hk
    have h2 := partsR_kid hk
    have h3 := sole_all k h1
    exact ⟨h1, by omega, hC k (by omega) h1, hC _ (by omega) h3.1⟩
  have HKI := Lib.hid hk
  clear hk
  have hflds := ((shapedP_iff _).1 q1.1).1
  have hnum := ((shapedP_iff _).1 q1.1).2.1
  have hnl := sole_not t
  have hplen : (textT (soleT t)).length ≤ 100000000000000 := by omega
  have hpu : partsR (soleT t) ≤ 10000000000 := by omega
  rw [← q1.2.2]
  clear hlen hC hs0 q1
  have hF := h.foot
  obtain ⟨u, hu⟩ : ∃ u, soleT t = u := ⟨_, rfl⟩
  rw [hu] at hkids HKI hflds hnum hnl hplen hpu ⊢
  have HU := Lib.hid hu
  clear hu
  have HKD := Lib.hid hkids; have HFL := Lib.hid hflds; have HNUM := Lib.hid hnum; have HNL := Lib.hid hnl
  clear hkids hflds hnum hnl
  obtain ⟨O, hO⟩ : ∃ O, textT u = O := ⟨_, rfl⟩
  rw [hO] at hplen ⊢
  have HO := Lib.hid hO
  clear hO
  obtain ⟨A, n, c, a2, s, c2, hn, hs, rfl, hnb, hsb, hK, hS, hFl⟩ := h.opened
  obtain ⟨w1, hw1⟩ : ∃ w1, w.alloc (.cells #[.int .i64 t.fld.op, .slice A n c, .int .i32 t.fld.rune, .slice a2 s c2, .int .i64 t.fld.at', .int .i64 t.fld.cap, .string t.fld.name, .int .i64 t.fld.min, .int .i64 t.fld.max, .bool t.fld.lazy] 27) = w1 := ⟨_, rfl⟩
  have hb1 : Below w.heap.size w w1 := by rw [← hw1]; exact (Below.refl _ w).alloc (Nat.le_refl _) _
  have hE1 : Whole w1 w.heap.size 27 #[.int .i64 t.fld.op, .slice A n c, .int .i32 t.fld.rune, .slice a2 s c2, .int .i64 t.fld.at', .int .i64 t.fld.cap, .string t.fld.name, .int .i64 t.fld.min, .int .i64 t.fld.max, .bool t.fld.lazy] := by rw [← hw1]; exact heap_alloc_new w _
  have HA := Lib.hid (bare9_any (fun b => b < w.heap.size) t _ w1 (fun b hb => Nat.lt_of_lt_of_le hb hb1.size) (hF.same (same_below hb1) (fun _ h _ => h)) hp)
  have HW1 := Lib.hid hw1; have HB1 := Lib.hid hb1; have HE1 := Lib.hid hE1
  obtain ⟨g0, g1, g2, g3, g4, g5, g6, g7, g8, g9⟩ := hE1.ten
  clear h hF hn hs hnb hsb hK hS hFl hw1 hb1 hE1
  go_enter Tryd.func11, Tryd.ntmps11
  go_upto_region 1 with (fail)
  rw [HW1.out]
  go_wp2_with fail
  refine HA.out.mono ?_
  rintro e w2 ⟨v2, rfl, ht2, hb2⟩
  rw [HU.out] at ht2
  obtain ⟨kv2, sv2, rfl, ⟨x1, x2, x3, rfl⟩, ⟨y1, y2, y3, rfl⟩⟩ := ht2.ten
  have hE2 : Whole w2 w.heap.size 27 #[.int .i64 t.fld.op, .slice A n c, .int .i32 t.fld.rune, .slice a2 s c2, .int .i64 t.fld.at', .int .i64 t.fld.cap, .string t.fld.name, .int .i64 t.fld.min, .int .i64 t.fld.max, .bool t.fld.lazy] := HE1.out.below hb2 HE1.out.lt
  obtain ⟨w3, hw3⟩ : ∃ w3, set10 w2 w.heap.size (.int .i64 u.fld.op) (.slice x1 x2 x3) (.int .i32 u.fld.rune) (.slice y1 y2 y3) (.int .i64 u.fld.at') (.int .i64 u.fld.cap) (.string u.fld.name) (.int .i64 u.fld.min) (.int .i64 u.fld.max) (.bool u.fld.lazy) = w3 := ⟨_, rfl⟩
  have hE3 : Whole w3 w.heap.size 27 #[.int .i64 u.fld.op, .slice x1 x2 x3, .int .i32 u.fld.rune, .slice y1 y2 y3, .int .i64 u.fld.at', .int .i64 u.fld.cap, .string u.fld.name, .int .i64 u.fld.min, .int .i64 u.fld.max, .bool u.fld.lazy] := by rw [← hw3]; exact set10_whole hE2 _ _ _ _ _ _ _ _ _ _
  have hsame : SameOn (fun k => k ≠ w.heap.size) w2 w3 := by rw [← hw3]; exact set10_same _ _ _ _ _ _ _ _ _ _ _ _
  have hT3 : Tre w3 u (.agg #[.int .i64 u.fld.op, .slice x1 x2 x3, .int .i32 u.fld.rune, .slice y1 y2 y3, .int .i64 u.fld.at', .int .i64 u.fld.cap, .string u.fld.name, .int .i64 u.fld.min, .int .i64 u.fld.max, .bool u.fld.lazy]) := ht2.same (fun b hb hl => hsame b (by have : b < w.heap.size := hb; omega) hl) (fun _ _ _ => trivial)
  have hB3 : Below w.heap.size w w3 := by rw [← hw3]; exact set10_below (HB1.out.trans (hb2.mono HB1.out.size)) (Nat.le_refl _) _ _ _ _ _ _ _ _ _ _
  clear g0 g1 g2 g3 g4 g5 g6 g7 g8 g9
  obtain ⟨g0, g1, g2, g3, g4, g5, g6, g7, g8, g9⟩ := hE2.ten
  obtain ⟨z0, z1, z2, z3, z4, z5, z6, z7, z8, z9⟩ := whole_free hE2
  unfold set10 at hw3
  have HW3 := Lib.hid hw3; have HE3 := Lib.hid hE3; have HT3 := Lib.hid hT3; have HB3 := Lib.hid hB3
  clear ht2 hb2 hE2 hw3 hE3 hsame hT3 hB3 HA HE1 HB1 HW1
  go_upto_region 2 with (fail)
  rw [HW3.out]
  clear g0 g1 g2 g3 g4 g5 g6 g7 g8 g9 z0 z1 z2 z3 z4 z5 z6 z7 z8 z9
  obtain ⟨r0, r1, r2, r3, r4, r5, r6, r7, r8, r9⟩ := HE3.out.ten
  have HX2 : Hid (u.kids.length = x2 ∧ Kds w3 u.kids (.slice x1 x2 x3) ∧ Rgs w3 (.slice y1 y2 y3) u.fld.set) := Lib.hid (by
    have h1 := HT3.out
    rw [tre_iff] at h1
    obtain ⟨kv', sv', e, hS, -, hK⟩ := h1
    obtain ⟨rfl, rfl⟩ := treC_inj (f := u.fld) (k1 := .slice x1 x2 x3) (s1 := .slice y1 y2 y3) e
    refine ⟨?_, hK, hS⟩
    obtain ⟨A', c', e2, -⟩ := hK
    injection e2 with _ q _
    exact q.symm)
  obtain ⟨op, hop⟩ : ∃ op, u.fld.op = op := ⟨_, rfl⟩
  have hkinds := HKI.out
  rw [hop] at hkinds r0
  have HOP := Lib.hid hop
  clear hop HKI
  have LF : Hid ((op = 1 ∨ op = 2 ∨ op = 3 ∨ op = 4 ∨ op = 5) → O = if op = 1 then noneP else if op = 2 then emptyP else if op = 3 then oneZ u.fld.rune else if op = 4 then setP u.fld.set else placeP u.fld.at') := Lib.hid (fun h => by rw [← HO.out, ← HOP.out]; exact text_leaf (by rw [HOP.out]; exact h))
  rcases hkinds with rfl | rfl | rfl | rfl | rfl
  · as_aux_lemma =>
      have HL := Lib.hid (LF.out (by omega))
      clear LF
      go_wp2_with fail
      go_ret
      exact ⟨by rw [HL.out]; rfl, HB3.out⟩
  · as_aux_lemma =>
      have HL := Lib.hid (LF.out (by omega))
      clear LF
      go_wp2_with fail
      go_ret
      exact ⟨by rw [HL.out]; rfl, HB3.out⟩
  · as_aux_lemma =>
      have HL := Lib.hid (LF.out (by omega))
      clear LF
      go_wp2_with fail
      refine (one9_any _ _ ((HFL.out.2.2.2.2.2.2.2.2.1 HOP.out)).1 ((HFL.out.2.2.2.2.2.2.2.2.1 HOP.out)).2 (HD.out.below HB3.out)).mono ?_
      rintro e w4 ⟨rfl, hb4⟩
      have HB4 := Lib.hid (HB3.out.trans (hb4.mono HB3.out.size))
      clear hb4
      go_wp2_with fail
      go_ret
      exact ⟨by rw [HL.out]; rfl, HB4.out⟩
  · as_aux_lemma =>
      have HL := Lib.hid (LF.out (by omega))
      clear LF
      go_wp2_with fail
      refine (set9_any _ _ _ HX2.out.2.2 (HFL.out.2.2.2.2.2.2.2.2.2.1 HOP.out).1 (HD.out.below HB3.out)).mono ?_
      rintro e w4 ⟨rfl, hb4⟩
      have HB4 := Lib.hid (HB3.out.trans (hb4.mono HB3.out.size))
      clear hb4
      go_wp2_with fail
      go_ret
      exact ⟨by rw [HL.out]; rfl, HB4.out⟩
  · as_aux_lemma =>
      have HL := Lib.hid (LF.out (by omega))
      clear LF
      go_wp2_with fail
      refine (place9_any _ _).mono ?_
      rintro e w4 ⟨rfl, rfl⟩
      go_wp2_with fail
      go_ret
      exact ⟨by rw [HL.out]; rfl, HB3.out⟩
end Go.Proofs.YthnddabcmhplkaaDoor
