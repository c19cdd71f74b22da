/- Texts merged by program: SProg, SLaws. No condition. -/
import Derived.Test.YtofhckheeijoiaaDoorK28
import Derived.Test.YtofhckheeijoiaaDoorK11
import Derived.Test.YtofhckheeijoiaaDoorK36
import Derived.Test.YtofhckheeijoiaaDoorK6
set_option linter.unusedVariables false
/- The program's four calls of scan, gathered. -/
/- The fixed question of stage 6; counts, names, flags, escapes as the document says. From the program's contracts pescape_any, pcount_any, pgroup_any, pflags_any. -/
namespace Go.Proofs.YtofhckheeijoiaaDoor
open Go Go.RowKit

/-- The four answers of a count, in letters. -/
theorem count_form {O : Option (Int × Int × Nat)} : ∃ (a b n : Int) (q : Bool), ∀ w e w', CountPost O w e w' → e = .returned (.tuple #[.int .i64 a, .int .i64 b, .int .i64 n, .bool q]) ∧ Below w.heap.size w w' := by
  cases O with
  | none => exact ⟨0, 0, 0, false, fun w e w' ⟨hb, h⟩ => by
      rcases h with ⟨_, rfl⟩ | ⟨a, b, k, h, _⟩
      · exact ⟨rfl, hb⟩
      · cases h⟩
  | some x => obtain ⟨a, b, k⟩ := x; exact ⟨a, b, k, true, fun w e w' ⟨hb, h⟩ => by
      rcases h with ⟨h, _⟩ | ⟨a', b', k', h, rfl⟩
      · cases h
      · cases h
        exact ⟨rfl, hb⟩⟩
theorem bytes_eq {a b : ByteArray} (h : a.toList = b.toList) : a = b := by
  rw [Lib.toList_data, Lib.toList_data] at h
  obtain ⟨⟨a⟩⟩ := a
  obtain ⟨⟨b⟩⟩ := b
  simp only at h
  rw [h]
theorem name_form (s : ByteArray) (i : Nat) : ∃ (b : ByteArray) (n x y z : Int), ∀ w e w', SNamePost s i w e w' → e = .returned (.tuple #[.string b, .int .i64 n, .agg #[.int .i64 x, .int .i64 y, .int .i64 z]]) ∧ Below w.heap.size w w' := by
  cases hO : nameS s i with
  | none => exact ⟨⟨#[]⟩, 0, 64, i, _, fun w e w' ⟨hb, h⟩ => by
      rcases h with ⟨_, rfl⟩ | ⟨a, b, k, h, _⟩
      · exact ⟨rfl, hb⟩
      · rw [hO] at h
        cases h⟩
  | some x => obtain ⟨n, k⟩ := x; exact ⟨⟨n.toArray⟩, k, 0, 0, 0, fun w e w' ⟨hb, h⟩ => by
      rcases h with ⟨h, _⟩ | ⟨n', k', b', h, hbb, rfl⟩
      · rw [hO] at h
        cases h
      · rw [hO] at h
        cases h
        have : b' = ⟨n.toArray⟩ := bytes_eq (by rw [hbb, Lib.toList_data])
        rw [this]
        exact ⟨rfl, hb⟩⟩
theorem flags_form (s : ByteArray) (i : Nat) (R : Option (Int × Bool) × Nat) : ∃ (g : Int) (q : Bool) (n x y z : Int), ∀ w e w', FlagsPost s i R w e w' → e = .returned (.tuple #[.int .i64 g, .bool q, .int .i64 n, .agg #[.int .i64 x, .int .i64 y, .int .i64 z]]) ∧ Below w.heap.size w w' := by
  obtain ⟨O, p⟩ := R
  cases O with
  | none => exact ⟨0, false, 0, 65, i, badTo s p, fun w e w' ⟨hb, h⟩ => by
      rcases h with ⟨_, rfl⟩ | ⟨g, c, h, _⟩
      · exact ⟨rfl, hb⟩
      · cases h⟩
  | some x => obtain ⟨g, c⟩ := x; exact ⟨g, c, p, 0, 0, 0, fun w e w' ⟨hb, h⟩ => by
      rcases h with ⟨h, _⟩ | ⟨g', c', h, rfl⟩
      · cases h
      · cases h
        exact ⟨rfl, hb⟩⟩
theorem esc_form (R : EscR) (i : Nat) : ∃ (k r a n x y z : Int) (l : List (Int × Int)), ∀ w e w', EscPost R i w e w' → ∃ v, e = .returned (.tuple #[.agg #[.int .i64 k, .int .i32 r, v, .int .i64 a], .int .i64 n, .agg #[.int .i64 x, .int .i64 y, .int .i64 z]]) ∧ OwnR w' w.heap.size v l ∧ Below w.heap.size w w' := by
  cases R with
  | esc k r l a n => exact ⟨k, r, a, n, 0, 0, 0, l, fun w e w' ⟨hb, v, h, ho⟩ => ⟨v, h, ho, hb⟩⟩
  | bad c till => exact ⟨0, 0, 0, 0, c, i, till, [], fun w e w' ⟨hb, h⟩ => ⟨.slice none 0 0, h, own_none _ _, hb⟩⟩

theorem head_esc : escS ⟨#[92, 120, 123, 52, 49, 125, 98]⟩ 0 false = .esc 1 65 [] 0 6 := by kernel_rfl
theorem head_count : countS ⟨#[97, 123, 50, 44, 125]⟩ 1 = some (2, -1, 5) := by kernel_rfl

set_option maxHeartbeats 1600000 in
set_option maxRecDepth 100000 in
theorem shead_any (w : World) (hT : Lib.Utf8Tabs 0 1 w) : Calls Tryd.prog 9 #[] w fun e w' => e = .returned (.bool true) ∧ Below w.heap.size w w' := by
  have HE := Lib.hid (pescape_any ⟨#[92, 120, 123, 52, 49, 125, 98]⟩ 0 false w (by decide) (Nat.zero_le _) hT)
  rw [head_esc] at HE
  go_enter Tryd.func9, Tryd.ntmps9
  go_wp2_with fail
  refine HE.out.mono ?_
  intro e w1 hp
  obtain ⟨hb, v, rfl, ho⟩ := hp
  obtain ⟨A, cA, hvs, -⟩ := ho.rgs
  subst hvs
  have HB := Lib.hid hb
  clear hb ho HE
  unfold escV wrongV
  go_wp2_with fail
  refine (pcount_any ⟨#[97, 123, 50, 44, 125]⟩ 1 _ (by decide) (by decide)).mono ?_
  rw [head_count]
  rintro e w2 ⟨hb, ⟨h, _⟩ | ⟨a, b, k, h, rfl⟩⟩
  · cases h
  cases h
  have HB2 := Lib.hid (((HB.out.alloc HB.out.size _).alloc (by simp; have := HB.out.size; omega) _).trans (hb.mono (by simp; have := HB.out.size; omega)))
  have hc1 : ∀ (W : World) (b j : Nat) (v : Value), Below b W w2 → b ≤ W.heap.size → W.cell? ⟨b, j, none⟩ = some v → True := fun _ _ _ _ _ _ _ => trivial
  clear hc1
  have hE := Whole.below (B := w1.heap.size + 2) (Whole.alloc (heap_alloc_new w1 (.cells #[.int .i64 1, .int .i32 65, .slice A 0 cA, .int .i64 0] 27)) (.cells #[.int .i64 0, .int .i64 0, .int .i64 0] 30)) (hb.mono (by simp)) (by omega)
  have hF : Whole w2 (w1.heap.size + 1) 30 #[.int .i64 0, .int .i64 0, .int .i64 0] := Whole.below (B := w1.heap.size + 2) (by
    have := heap_alloc_new (w1.alloc (.cells #[.int .i64 1, .int .i32 65, .slice A 0 cA, .int .i64 0] 27)) (.cells #[.int .i64 0, .int .i64 0, .int .i64 0] 30)
    simpa [Whole] using this) (hb.mono (by simp)) (by omega)
  obtain ⟨e0, e1, e2, e3, -, -, -, -⟩ := hE.four
  obtain ⟨f0, f1, f2, -, -, -⟩ := hF.three
  clear hb hE hF
  go_wp2_with fail
  go_ret
  exact ⟨rfl, HB2.out⟩

/-- A place that is none is not asked about. -/
theorem place_cases (i : Int) (s : ByteArray) : (i < 0 ∨ (s.size : Int) < i) ∨ ∃ j : Nat, i = (j : Int) ∧ j ≤ s.size := by
  by_cases h0 : i < 0
  · exact .inl (.inl h0)
  by_cases h1 : (s.size : Int) < i
  · exact .inl (.inr h1)
  · exact .inr ⟨i.toNat, by omega, by omega⟩

set_option maxHeartbeats 3200000 in
set_option maxRecDepth 100000 in
theorem scounts_any (w : World) (s : ByteArray) (i : Int) (hs : s.size ≤ 4503599627370496) (hT : Lib.Utf8Tabs 0 1 w) : Calls Tryd.prog 4 #[.string s, .int .i64 i] w fun e w' => e = .returned (.bool true) ∧ Below w.heap.size w w' := by
  have HT := Lib.hid hT
  have HH := Lib.hid (shead_any w hT)
  clear hT
  go_enter Tryd.func4, Tryd.ntmps4
  go_wp2_with fail
  refine HH.out.mono ?_
  rintro e w1 ⟨rfl, hb⟩
  have HB := Lib.hid hb
  clear hb HH
  rcases place_cases i s with h | ⟨j, rfl, hj⟩
  · by_cases h0 : i < 0
    · clear h
      go_wp2_with fail
      go_ret
      exact ⟨rfl, HB.out⟩
    · have h1 : (s.size : Int) < i := h.resolve_left h0
      clear h
      go_wp2_with fail
      go_ret
      exact ⟨rfl, HB.out⟩
  obtain ⟨a, b, n, q, hf⟩ := count_form (O := countS s j)
  have HF := Lib.hid hf
  have hqq : (q == q) = true := by cases q <;> rfl
  clear hf
  go_wp2_with fail
  refine (pcount_any s j _ hs hj).mono ?_
  intro e w2 hp
  obtain ⟨rfl, hb⟩ := HF.out _ _ _ hp
  replace HB := Lib.hid (HB.out.trans (hb.mono HB.out.size))
  clear hb hp
  go_wp2_with fail
  refine (rcount6_any s j _ hs hj).mono ?_
  intro e w3 hp
  obtain ⟨rfl, hb⟩ := HF.out _ _ _ hp
  replace HB := Lib.hid (HB.out.trans (hb.mono HB.out.size))
  clear hb hp
  go_wp2_with fail
  go_ret
  exact ⟨rfl, HB.out⟩

set_option maxHeartbeats 3200000 in
set_option maxRecDepth 100000 in
theorem snames_any (w : World) (s : ByteArray) (i : Int) (hs : s.size ≤ 4503599627370496) (hT : Lib.Utf8Tabs 0 1 w) : Calls Tryd.prog 5 #[.string s, .int .i64 i] w fun e w' => e = .returned (.bool true) ∧ Below w.heap.size w w' := by
  have HT := Lib.hid hT
  have HH := Lib.hid (shead_any w hT)
  clear hT
  go_enter Tryd.func5, Tryd.ntmps5
  go_wp2_with fail
  refine HH.out.mono ?_
  rintro e w1 ⟨rfl, hb⟩
  have HB := Lib.hid hb
  clear hb HH
  rcases place_cases i s with h | ⟨j, rfl, hj⟩
  · by_cases h0 : i < 0
    · clear h
      go_wp2_with fail
      go_ret
      exact ⟨rfl, HB.out⟩
    · have h1 : (s.size : Int) < i := h.resolve_left h0
      clear h
      go_wp2_with fail
      go_ret
      exact ⟨rfl, HB.out⟩
  obtain ⟨b, n, x, y, z, hf⟩ := name_form s j
  have HF := Lib.hid hf
  clear hf
  go_wp2_with fail
  refine (pgroup_any s j _ hs hj).mono ?_
  intro e w2 hp
  obtain ⟨rfl, hb⟩ := HF.out _ _ _ hp
  replace HB := Lib.hid (HB.out.trans (hb.mono HB.out.size))
  clear hb hp
  go_wp2_with fail
  refine (rname6_any s j _ hs hj).mono ?_
  intro e w3 hp
  obtain ⟨rfl, hb⟩ := HF.out _ _ _ hp
  have hE : Whole w3 w2.heap.size 30 #[.int .i64 x, .int .i64 y, .int .i64 z] := Whole.below (heap_alloc_new w2 _) hb (by simp)
  have hb0 := (HB.out.alloc HB.out.size (.cells #[.int .i64 x, .int .i64 y, .int .i64 z] 30)).trans (hb.mono (by simp; have := HB.out.size; omega))
  obtain ⟨w4, hw4⟩ : ∃ w4, w3.alloc (.cells #[.int .i64 x, .int .i64 y, .int .i64 z] 30) = w4 := ⟨_, rfl⟩
  have HB4 := Lib.hid (show Below w.heap.size w w4 by rw [← hw4]; exact hb0.alloc hb0.size _)
  have hE4 : Whole w4 w2.heap.size 30 #[.int .i64 x, .int .i64 y, .int .i64 z] := by rw [← hw4]; exact hE.alloc _
  have hF4 : Whole w4 w3.heap.size 30 #[.int .i64 x, .int .i64 y, .int .i64 z] := by rw [← hw4]; exact heap_alloc_new w3 _
  have HW4 := Lib.hid hw4
  obtain ⟨e0, e1, e2, -, -, -⟩ := hE4.three
  obtain ⟨f0, f1, f2, -, -, -⟩ := hF4.three
  clear hb hp hE hb0 hw4 hE4 hF4
  go_upto_region 6 with (fail)
  rw [HW4.out]
  go_wp2_with fail
  go_ret
  exact ⟨rfl, HB4.out⟩

set_option maxHeartbeats 3200000 in
set_option maxRecDepth 100000 in
theorem sflags_any (w : World) (s : ByteArray) (i : Int) (f : Int) (hs : s.size ≤ 4503599627370496) (hf : In64 f) (hT : Lib.Utf8Tabs 0 1 w) : Calls Tryd.prog 6 #[.string s, .int .i64 i, .int .i64 f] w fun e w' => e = .returned (.bool true) ∧ Below w.heap.size w w' := by
  have HF64 := Lib.hid hf
  clear hf
  have HT := Lib.hid hT
  have HH := Lib.hid (shead_any w hT)
  clear hT
  go_enter Tryd.func6, Tryd.ntmps6
  go_wp2_with fail
  refine HH.out.mono ?_
  rintro e w1 ⟨rfl, hb⟩
  have HB := Lib.hid hb
  clear hb HH
  rcases place_cases i s with h | ⟨j, rfl, hj⟩
  · by_cases h0 : i < 0
    · clear h
      go_wp2_with fail
      go_ret
      exact ⟨rfl, HB.out⟩
    · have h1 : (s.size : Int) < i := h.resolve_left h0
      clear h
      go_wp2_with fail
      go_ret
      exact ⟨rfl, HB.out⟩
  obtain ⟨g, q, n, x, y, z, hf⟩ := flags_form s j (flagsS s j f)
  have HF := Lib.hid hf
  have hqq : (q == q) = true := by cases q <;> rfl
  clear hf
  go_wp2_with fail
  refine (pflags_any s j f _ hs hj HF64.out (Utf8Tabs_below HT.out HB.out)).mono ?_
  intro e w2 hp
  obtain ⟨rfl, hb⟩ := HF.out _ _ _ hp
  replace HB := Lib.hid (HB.out.trans (hb.mono HB.out.size))
  clear hb hp
  go_wp2_with fail
  refine (rflags6_any s j f _ hs hj (Utf8Tabs_below HT.out (HB.out.alloc HB.out.size _))).mono ?_
  intro e w3 hp
  obtain ⟨rfl, hb⟩ := HF.out _ _ _ hp
  have hE : Whole w3 w2.heap.size 30 #[.int .i64 x, .int .i64 y, .int .i64 z] := Whole.below (heap_alloc_new w2 _) hb (by simp)
  have hb0 := (HB.out.alloc HB.out.size (.cells #[.int .i64 x, .int .i64 y, .int .i64 z] 30)).trans (hb.mono (by simp; have := HB.out.size; omega))
  obtain ⟨w4, hw4⟩ : ∃ w4, w3.alloc (.cells #[.int .i64 x, .int .i64 y, .int .i64 z] 30) = w4 := ⟨_, rfl⟩
  have HB4 := Lib.hid (show Below w.heap.size w w4 by rw [← hw4]; exact hb0.alloc hb0.size _)
  have hE4 : Whole w4 w2.heap.size 30 #[.int .i64 x, .int .i64 y, .int .i64 z] := by rw [← hw4]; exact hE.alloc _
  have hF4 : Whole w4 w3.heap.size 30 #[.int .i64 x, .int .i64 y, .int .i64 z] := by rw [← hw4]; exact heap_alloc_new w3 _
  have HW4 := Lib.hid hw4
  obtain ⟨e0, e1, e2, -, -, -⟩ := hE4.three
  obtain ⟨f0, f1, f2, -, -, -⟩ := hF4.three
  clear hb hp hE hb0 hw4 hE4 hF4
  go_upto_region 6 with (fail)
  rw [HW4.out]
  go_wp2_with fail
  go_ret
  exact ⟨rfl, HB4.out⟩

set_option maxHeartbeats 3200000 in
set_option maxRecDepth 100000 in
theorem sescapes_any (w : World) (s : ByteArray) (i : Int) (p : Bool) (hs : s.size ≤ 4503599627370496) (hT : Lib.Utf8Tabs 0 1 w) : Calls Tryd.prog 3 #[.string s, .int .i64 i, .bool p] w fun e w' => e = .returned (.bool true) ∧ Below w.heap.size w w' := by
  have HT := Lib.hid hT
  have HH := Lib.hid (shead_any w hT)
  clear hT
  go_enter Tryd.func3, Tryd.ntmps3
  go_wp2_with fail
  refine HH.out.mono ?_
  rintro e w1 ⟨rfl, hb⟩
  have HB := Lib.hid hb
  clear hb HH
  rcases place_cases i s with h | ⟨j, rfl, hj⟩
  · by_cases h0 : i < 0
    · clear h
      go_wp2_with fail
      go_ret
      exact ⟨rfl, HB.out⟩
    · have h1 : (s.size : Int) < i := h.resolve_left h0
      clear h
      go_wp2_with fail
      go_ret
      exact ⟨rfl, HB.out⟩
  obtain ⟨k, r, a, n, x, y, z, l, hf⟩ := esc_form (escS s j p) j
  have HF := Lib.hid hf
  clear hf
  go_wp2_with fail
  refine (pescape_any s j p _ hs hj (Utf8Tabs_below HT.out HB.out)).mono ?_
  intro e w2 hp
  obtain ⟨v, rfl, ho, hb⟩ := HF.out _ _ _ hp
  obtain ⟨A, n1, cA, hvs⟩ : ∃ A n1 cA, v = .slice A n1 cA := by obtain ⟨A, cA, hvs, -⟩ := ho.rgs; exact ⟨_, _, _, hvs⟩
  subst hvs
  replace HB := Lib.hid (HB.out.trans (hb.mono HB.out.size))
  have R2 := Lib.hid ho.rgs
  clear hb hp ho
  obtain ⟨w3, hw3⟩ : ∃ w3, (w2.alloc (.cells #[.int .i64 k, .int .i32 r, .slice A n1 cA, .int .i64 a] 27)).alloc (.cells #[.int .i64 x, .int .i64 y, .int .i64 z] 30) = w3 := ⟨_, rfl⟩
  have hb3 : Below w2.heap.size w2 w3 := by rw [← hw3]; exact ((Below.refl _ w2).alloc (Nat.le_refl _) _).alloc (by simp) _
  have HB3 := Lib.hid (HB.out.trans (hb3.mono HB.out.size))
  have hs3 : w3.heap.size = w2.heap.size + 2 := by rw [← hw3]; simp
  have hE3 : Whole w3 w2.heap.size 27 #[.int .i64 k, .int .i32 r, .slice A n1 cA, .int .i64 a] := by rw [← hw3]; exact Whole.alloc (heap_alloc_new w2 _) _
  have hF3 : Whole w3 (w2.heap.size + 1) 30 #[.int .i64 x, .int .i64 y, .int .i64 z] := by
    rw [← hw3]
    have := heap_alloc_new (w2.alloc (.cells #[.int .i64 k, .int .i32 r, .slice A n1 cA, .int .i64 a] 27)) (.cells #[.int .i64 x, .int .i64 y, .int .i64 z] 30)
    simpa [Whole] using this
  have HE3 := Lib.hid hE3; have HF3 := Lib.hid hF3; have HS3 := Lib.hid hs3; have HW3 := Lib.hid hw3; have R3 := Lib.hid (R2.out.below hb3)
  clear hb3 hs3 hE3 hF3 hw3
  go_upto_region 5 with (fail)
  rw [HW3.out]
  go_wp2_with fail
  refine (rescape6_any s j p _ hs hj (Utf8Tabs_below HT.out HB3.out)).mono ?_
  intro e w4 hp
  obtain ⟨v4, rfl, ho, hb⟩ := HF.out _ _ _ hp
  obtain ⟨B, n2, cB, hvs⟩ : ∃ B n2 cB, v4 = .slice B n2 cB := by obtain ⟨A, cA, hvs, -⟩ := ho.rgs; exact ⟨_, _, _, hvs⟩
  subst hvs
  have HB4 := Lib.hid (HB3.out.trans (hb.mono HB3.out.size))
  have HE4 := Lib.hid (HE3.out.below hb (by have := HS3.out; omega)); have HF4 := Lib.hid (HF3.out.below hb (by have := HS3.out; omega))
  have R4 := Lib.hid (R3.out.below hb); have R5 := Lib.hid ho.rgs
  clear hb hp ho
  obtain ⟨w5, hw5⟩ : ∃ w5, (w4.alloc (.cells #[.int .i64 k, .int .i32 r, .slice B n2 cB, .int .i64 a] 27)).alloc (.cells #[.int .i64 x, .int .i64 y, .int .i64 z] 30) = w5 := ⟨_, rfl⟩
  have hb5 : Below w4.heap.size w4 w5 := by rw [← hw5]; exact ((Below.refl _ w4).alloc (Nat.le_refl _) _).alloc (by simp) _
  have HB5 := Lib.hid (HB4.out.trans (hb5.mono HB4.out.size))
  have hE5 : Whole w5 w4.heap.size 27 #[.int .i64 k, .int .i32 r, .slice B n2 cB, .int .i64 a] := by rw [← hw5]; exact Whole.alloc (heap_alloc_new w4 _) _
  have hF5 : Whole w5 (w4.heap.size + 1) 30 #[.int .i64 x, .int .i64 y, .int .i64 z] := by
    rw [← hw5]
    have := heap_alloc_new (w4.alloc (.cells #[.int .i64 k, .int .i32 r, .slice B n2 cB, .int .i64 a] 27)) (.cells #[.int .i64 x, .int .i64 y, .int .i64 z] 30)
    simpa [Whole] using this
  have hG5 := HE4.out.below hb5 (World.block_lt_of_cell? w4 ⟨w2.heap.size, 0, none⟩ HE4.out.four.1)
  have hH5 := HF4.out.below hb5 (World.block_lt_of_cell? w4 ⟨w2.heap.size + 1, 0, none⟩ HF4.out.three.1)
  have HSM := Lib.hid (rsameesc_any k r a _ _ l w5 (R4.out.below hb5) (R5.out.below hb5))
  have hs5 : w4.heap.size + 2 = w5.heap.size := by rw [← hw5]; simp
  have HX : Hid (Whole w5 (w2.heap.size + 1) 30 #[.int .i64 x, .int .i64 y, .int .i64 z] ∧ Whole w5 (w4.heap.size + 1) 30 #[.int .i64 x, .int .i64 y, .int .i64 z]) := Lib.hid ⟨hH5, hF5⟩
  obtain ⟨a0, a1, a2, a3, -, -, -, -⟩ := hE5.four
  obtain ⟨c0, c1, c2, c3, -, -, -, -⟩ := hG5.four
  have HW5 := Lib.hid hw5; have HS5 := Lib.hid hs5
  clear hb5 hE5 hF5 hG5 hH5 hw5 hs5
  go_upto_region 6 with (fail)
  rw [HW5.out]
  go_wp2_with fail
  refine HSM.out.mono ?_
  rintro e w6 ⟨rfl, hb⟩
  have HB6 := Lib.hid (HB5.out.trans (hb.mono HB5.out.size))
  have h1 := HX.out.1.below hb (World.block_lt_of_cell? w5 ⟨w2.heap.size + 1, 0, none⟩ HX.out.1.three.1)
  have h2 := HX.out.2.below hb (World.block_lt_of_cell? w5 ⟨w4.heap.size + 1, 0, none⟩ HX.out.2.three.1)
  obtain ⟨d0, d1, d2, -, -, -⟩ := h1.three
  obtain ⟨g0, g1, g2, -, -, -⟩ := h2.three
  clear hb h1 h2 a0 a1 a2 a3 c0 c1 c2 c3
  go_wp2_with fail
  go_ret
  exact ⟨rfl, HB6.out⟩
end Go.Proofs.YtofhckheeijoiaaDoor
