/- Texts merged by program: PwSmall. No condition. -/
import Derived.Test.YthnddabcmhplkaaDoorK20
import Derived.Test.YthnddabcmhplkaaDoorK9
import Derived.Test.YthnddabcmhplkaaDoorK10
set_option linter.unusedVariables false
/- The program's texts of places, of a group's beginning, of a repeat's sign. -/
namespace Go.Proofs.YthnddabcmhplkaaDoor
open Go Go.RowKit

set_option maxHeartbeats 1600000 in
theorem ofAt_any (a : Int) (w : World) : Calls Tryd.prog 18 #[.int .i64 a] w fun e w' => e = .returned (.string (textB (placeP a))) ∧ w' = w := by
  have step : ∀ (k : Int), (a == k) = decide (a = k) := fun k => by by_cases h : a = k <;> simp [h]
  obtain ⟨O, hO⟩ : ∃ O, placeP a = O := ⟨_, rfl⟩
  rw [hO]
  have HO := Lib.hid hO
  clear hO
  unfold placeP at HO
  go_enter Tryd.func18, Tryd.ntmps18
  by_cases h1 : a = 1
  · subst h1
    go_wp2_with fail
    go_ret
    exact ⟨by rw [← HO.out]; rfl, rfl⟩
  by_cases h2 : a = 2
  · subst h2
    go_wp2_with fail
    go_ret
    exact ⟨by rw [← HO.out]; rfl, rfl⟩
  by_cases h4 : a = 4
  · subst h4
    go_wp2_with fail
    go_ret
    exact ⟨by rw [← HO.out]; rfl, rfl⟩
  by_cases h8 : a = 8
  · subst h8
    go_wp2_with fail
    go_ret
    exact ⟨by rw [← HO.out]; rfl, rfl⟩
  by_cases h16 : a = 16
  · subst h16
    go_wp2_with fail
    go_ret
    exact ⟨by rw [← HO.out]; rfl, rfl⟩
  · have e1 : (a == 1) = false := by simpa using h1
    have e2 : (a == 2) = false := by simpa using h2
    have e4 : (a == 4) = false := by simpa using h4
    have e8 : (a == 8) = false := by simpa using h8
    have e16 : (a == 16) = false := by simpa using h16
    have HF := Lib.hid (show O = [92, 66] by rw [← HO.out, if_neg h1, if_neg h2, if_neg h4, if_neg h8, if_neg h16])
    clear h1 h2 h4 h8 h16 step
    go_wp2_with fail
    go_ret
    exact ⟨by rw [HF.out]; rfl, rfl⟩
set_option maxHeartbeats 1600000 in
theorem begin_any (nm : ByteArray) (w : World) (hn : nm.size ≤ 1000000) : Calls Tryd.prog 20 #[.string nm] w fun e w' => e = .returned (.string (textB (beginP nm.toList))) ∧ Below w.heap.size w w' := by
  have hz : nm.toList.length = nm.size := by rw [Lib.toList_data, ← Lib.size_eq]
  by_cases h0 : nm.toList = []
  · have q1 : nm.toList.isEmpty = true := by rw [h0]; rfl
    have q2 : (nm.toList == []) = true := by rw [h0]; rfl
    have HB := Lib.hid (show beginP nm.toList = [40] by unfold beginP; rw [if_pos h0])
    rw [HB.out]
    clear h0 hz
    go_enter Tryd.func20, Tryd.ntmps20
    go_wp2_with fail
    go_ret
    exact ⟨rfl, Below.refl _ _⟩
  · have q1 : nm.toList.isEmpty = false := by simpa using h0
    have q2 : (nm.toList == []) = false := by simpa using h0
    have HB := Lib.hid (show beginP nm.toList = 40 :: 63 :: 80 :: 60 :: (nm.toList ++ [62]) by unfold beginP; rw [if_neg h0])
    rw [HB.out]
    have HJ := Lib.hid (joined_new [⟨#[40, 63, 80, 60]⟩, nm, ⟨#[62]⟩] w 3 _ rfl rfl 9 (by decide) (by
      simp [flatB, show (⟨#[40, 63, 80, 60]⟩ : ByteArray).toList = [40, 63, 80, 60] by kernel_rfl, show (⟨#[62]⟩ : ByteArray).toList = [62] by kernel_rfl]; omega))
    clear h0 hz
    go_enter Tryd.func20, Tryd.ntmps20
    go_wp2_with fail
    refine HJ.out.mono ?_
    rintro e w1 ⟨rfl, hb⟩
    go_wp2_with fail
    go_ret
    refine ⟨?_, hb⟩
    simp [flatB, show (⟨#[40, 63, 80, 60]⟩ : ByteArray).toList = [40, 63, 80, 60] by kernel_rfl, show (⟨#[62]⟩ : ByteArray).toList = [62] by kernel_rfl]
theorem one_textB (a : List UInt8) (b : ByteArray) (h : b.toList = a) : b = textB a := by rw [← h]; exact (textB_of b).symm
set_option maxHeartbeats 1600000 in
theorem count_any9 (a b : Int) (w : World) (h0 : 0 ≤ a) (h1 : a ≤ 1000) (hb : b = -1 ∨ (a ≤ b ∧ b ≤ 1000)) : Calls Tryd.prog 49 #[.int .i64 a, .int .i64 b] w fun e w' => e = .returned (.string (textB (countP a b))) ∧ Below w.heap.size w w' := by
  obtain ⟨n, rfl⟩ : ∃ n : Nat, a = n := ⟨a.toNat, by omega⟩
  have HA := Lib.hid fun W => number_any n 10 W (by decide) (by decide) (by omega)
  rw [num_10] at HA
  have la : (Lib.decDigits n).length ≤ 22 := by rw [← num_10]; exact Nat.le_trans (num_len 10 (by decide) 20 n (by omega)) (by decide)
  have L1 : (⟨#[123]⟩ : ByteArray).toList = [123] := by kernel_rfl
  have L2 : (⟨#[125]⟩ : ByteArray).toList = [125] := by kernel_rfl
  have L3 : (⟨#[44, 125]⟩ : ByteArray).toList = [44, 125] := by kernel_rfl
  have L4 : (⟨#[44]⟩ : ByteArray).toList = [44] := by kernel_rfl
  have hc : countP (n : Int) b = 123 :: (Lib.decDigits n ++ ((if b = -1 then [44] else if b = n then [] else 44 :: Lib.decDigits b.toNat) ++ [125])) := rfl
  by_cases hbn : b = n
  · subst hbn
    rw [if_neg (by omega), if_pos rfl] at hc
    rw [hc]
    obtain ⟨D, hD⟩ : ∃ D, Lib.decDigits n = D := ⟨_, rfl⟩
    rw [hD] at HA la ⊢
    clear hc hD hb
    have HJ := Lib.hid fun W => joined_new [⟨#[123]⟩, textB D, ⟨#[125]⟩] W 3 _ rfl rfl 9 (by decide) (by simp [flatB, textB_list, L1, L2]; omega)
    have HE := Lib.hid (show flatB [⟨#[123]⟩, textB D, ⟨#[125]⟩] = 123 :: (D ++ ([] ++ [125])) by simp [flatB, textB_list, L1, L2])
    clear L1 L2 L3 L4
    go_enter Tryd.func49, Tryd.ntmps49
    go_wp2_with fail
    refine (HA.out _).mono ?_
    rintro e w1 ⟨rfl, hb1⟩
    have HB1 := Lib.hid hb1
    clear hb1
    go_wp2_with fail
    refine (HJ.out _).mono ?_
    rintro e w2 ⟨rfl, hb2⟩
    have HB2 := Lib.hid (HB1.out.trans (hb2.mono HB1.out.size))
    clear hb2
    go_wp2_with fail
    go_ret
    exact ⟨by rw [HE.out]; try rfl, HB2.out⟩
  have e1 : (b == (n : Int)) = false := by simpa using hbn
  by_cases hm : b = -1
  · subst hm
    rw [if_pos rfl] at hc
    rw [hc]
    obtain ⟨D, hD⟩ : ∃ D, Lib.decDigits n = D := ⟨_, rfl⟩
    rw [hD] at HA la ⊢
    clear hc hD hb hbn
    have HJ := Lib.hid fun W => joined_new [⟨#[123]⟩, textB D, ⟨#[44, 125]⟩] W 3 _ rfl rfl 9 (by decide) (by simp [flatB, textB_list, L1, L3]; omega)
    have HE := Lib.hid (show flatB [⟨#[123]⟩, textB D, ⟨#[44, 125]⟩] = 123 :: (D ++ ([44] ++ [125])) by simp [flatB, textB_list, L1, L3])
    clear L1 L2 L3 L4
    go_enter Tryd.func49, Tryd.ntmps49
    go_wp2_with fail
    refine (HA.out _).mono ?_
    rintro e w1 ⟨rfl, hb1⟩
    have HB1 := Lib.hid hb1
    clear hb1
    go_wp2_with fail
    refine (HJ.out _).mono ?_
    rintro e w2 ⟨rfl, hb2⟩
    have HB2 := Lib.hid (HB1.out.trans (hb2.mono HB1.out.size))
    clear hb2
    go_wp2_with fail
    go_ret
    exact ⟨by rw [HE.out]; try rfl, HB2.out⟩
  · obtain ⟨m, rfl⟩ : ∃ m : Nat, b = m := ⟨b.toNat, by omega⟩
    have HM := Lib.hid fun W => number_any m 10 W (by decide) (by decide) (by omega)
    rw [num_10] at HM
    have lm : (Lib.decDigits m).length ≤ 22 := by rw [← num_10]; exact Nat.le_trans (num_len 10 (by decide) 20 m (by omega)) (by decide)
    have e2 : ((m : Int) == -1) = false := by simp
    rw [if_neg hm, if_neg hbn] at hc
    rw [hc, show ((m : Int)).toNat = m from rfl]
    obtain ⟨D, hD⟩ : ∃ D, Lib.decDigits n = D := ⟨_, rfl⟩
    obtain ⟨M, hM⟩ : ∃ M, Lib.decDigits m = M := ⟨_, rfl⟩
    rw [hD] at HA la ⊢
    rw [hM] at HM lm ⊢
    clear hc hD hM hb hbn hm
    have HJ := Lib.hid fun W => joined_new [⟨#[123]⟩, textB D, ⟨#[44]⟩, textB M, ⟨#[125]⟩] W 5 _ rfl rfl 9 (by decide) (by simp [flatB, textB_list, L1, L2, L4]; omega)
    have HE := Lib.hid (show flatB [⟨#[123]⟩, textB D, ⟨#[44]⟩, textB M, ⟨#[125]⟩] = 123 :: (D ++ (44 :: M ++ [125])) by simp [flatB, textB_list, L1, L2, L4])
    clear L1 L2 L3 L4
    go_enter Tryd.func49, Tryd.ntmps49
    go_wp2_with fail
    refine (HA.out _).mono ?_
    rintro e w1 ⟨rfl, hb1⟩
    have HB1 := Lib.hid hb1
    clear hb1
    go_wp2_with fail
    refine (HM.out _).mono ?_
    rintro e w2 ⟨rfl, hb2⟩
    have HB2 := Lib.hid (HB1.out.trans (hb2.mono HB1.out.size))
    clear hb2
    go_wp2_with fail
    refine (HJ.out _).mono ?_
    rintro e w3 ⟨rfl, hb3⟩
    have HB3 := Lib.hid (HB2.out.trans (hb3.mono HB2.out.size))
    clear hb3
    go_wp2_with fail
    go_ret
    exact ⟨by rw [HE.out]; try rfl, HB3.out⟩
def timesP (f : Fld) : List UInt8 := if f.op = 7 then [42] else if f.op = 8 then [43] else if f.op = 9 then [63] else countP f.min f.max
def lazyP (f : Fld) : List UInt8 := if f.lazy = true then [63] else []
set_option maxHeartbeats 1600000 in
set_option maxRecDepth 100000 in
theorem times_any (t : Tr) (v : Value) (w : World) (h : Tre w t v) (hf : FieldsOk t.fld) (hop : t.fld.op = 7 ∨ t.fld.op = 8 ∨ t.fld.op = 9 ∨ t.fld.op = 10) : Calls Tryd.prog 22 #[v] w fun e w' => e = .returned (.string (textB (timesP t.fld))) ∧ Below w.heap.size w w' := by
  obtain ⟨A, n, c, a2, s, c2, hn, hs, rfl, hnb, hsb, hK, hS, hFl⟩ := h.opened
  obtain ⟨w1, hw1⟩ : ∃ w1, w.alloc (.cells #[.int .i64 t.fld.op, .slice A n c, .int .i32 t.fld.rune, .slice a2 s c2, .int .i64 t.fld.at', .int .i64 t.fld.cap, .string t.fld.name, .int .i64 t.fld.min, .int .i64 t.fld.max, .bool t.fld.lazy] 27) = w1 := ⟨_, rfl⟩
  have hb1 : Below w.heap.size w w1 := by rw [← hw1]; exact (Below.refl _ w).alloc (Nat.le_refl _) _
  have hE1 : Whole w1 w.heap.size 27 #[.int .i64 t.fld.op, .slice A n c, .int .i32 t.fld.rune, .slice a2 s c2, .int .i64 t.fld.at', .int .i64 t.fld.cap, .string t.fld.name, .int .i64 t.fld.min, .int .i64 t.fld.max, .bool t.fld.lazy] := by rw [← hw1]; exact heap_alloc_new w _
  obtain ⟨g0, g1, g2, g3, g4, g5, g6, g7, g8, g9⟩ := hE1.ten
  have HC : Hid (t.fld.op = 10 → ∀ W, Calls Tryd.prog 49 #[.int .i64 t.fld.min, .int .i64 t.fld.max] W fun e w' => e = .returned (.string (textB (countP t.fld.min t.fld.max))) ∧ Below W.heap.size W w') := Lib.hid (fun e W => by
    have q := hf.2.2.2.2.2.2.2.2.2.2.2.2 e
    exact count_any9 _ _ W q.1.1 q.1.2 q.2)
  have HW1 := Lib.hid hw1; have HB1 := Lib.hid hb1
  obtain ⟨O, hO⟩ : ∃ O, timesP t.fld = O := ⟨_, rfl⟩
  rw [hO]
  unfold timesP at hO
  clear h hn hs hnb hsb hK hS hFl hw1 hb1 hE1 hf
  obtain ⟨op, ho⟩ : ∃ op, t.fld.op = op := ⟨_, rfl⟩
  rw [ho] at hop g0 HC hO
  have HO := Lib.hid hO
  have HP := Lib.hid ho
  clear ho hO
  go_enter Tryd.func22, Tryd.ntmps22
  go_upto_region 1 with (fail)
  rw [HW1.out]
  rcases hop with rfl | rfl | rfl | rfl
  · go_wp2_with fail
    go_ret
    exact ⟨by rw [← HO.out]; rfl, HB1.out⟩
  · go_wp2_with fail
    go_ret
    exact ⟨by rw [← HO.out]; rfl, HB1.out⟩
  · go_wp2_with fail
    go_ret
    exact ⟨by rw [← HO.out]; rfl, HB1.out⟩
  · have HC2 := Lib.hid (HC.out rfl)
    clear HC
    go_wp2_with fail
    refine (HC2.out _).mono ?_
    rintro e w2 ⟨rfl, hb2⟩
    have HB2 := Lib.hid (HB1.out.trans (hb2.mono HB1.out.size))
    clear hb2
    go_wp2_with fail
    go_ret
    exact ⟨by rw [← HO.out]; rfl, HB2.out⟩
set_option maxHeartbeats 1600000 in
set_option maxRecDepth 100000 in
theorem lazy_any (t : Tr) (v : Value) (w : World) (h : Tre w t v) : Calls Tryd.prog 23 #[v] w fun e w' => e = .returned (.string (textB (lazyP t.fld))) ∧ Below w.heap.size w w' := by
  obtain ⟨A, n, c, a2, s, c2, hn, hs, rfl, hnb, hsb, hK, hS, hFl⟩ := h.opened
  obtain ⟨w1, hw1⟩ : ∃ w1, w.alloc (.cells #[.int .i64 t.fld.op, .slice A n c, .int .i32 t.fld.rune, .slice a2 s c2, .int .i64 t.fld.at', .int .i64 t.fld.cap, .string t.fld.name, .int .i64 t.fld.min, .int .i64 t.fld.max, .bool t.fld.lazy] 27) = w1 := ⟨_, rfl⟩
  have hb1 : Below w.heap.size w w1 := by rw [← hw1]; exact (Below.refl _ w).alloc (Nat.le_refl _) _
  have hE1 : Whole w1 w.heap.size 27 #[.int .i64 t.fld.op, .slice A n c, .int .i32 t.fld.rune, .slice a2 s c2, .int .i64 t.fld.at', .int .i64 t.fld.cap, .string t.fld.name, .int .i64 t.fld.min, .int .i64 t.fld.max, .bool t.fld.lazy] := by rw [← hw1]; exact heap_alloc_new w _
  obtain ⟨g0, g1, g2, g3, g4, g5, g6, g7, g8, g9⟩ := hE1.ten
  have HW1 := Lib.hid hw1; have HB1 := Lib.hid hb1
  obtain ⟨O, hO⟩ : ∃ O, lazyP t.fld = O := ⟨_, rfl⟩
  rw [hO]
  unfold lazyP at hO
  clear h hn hs hnb hsb hK hS hFl hw1 hb1 hE1
  obtain ⟨lz, hl⟩ : ∃ lz, t.fld.lazy = lz := ⟨_, rfl⟩
  rw [hl] at hO g9
  have HO := Lib.hid hO
  have HP := Lib.hid hl
  clear hO hl
  go_enter Tryd.func23, Tryd.ntmps23
  go_upto_region 1 with (fail)
  rw [HW1.out]
  cases lz
  · go_wp2_with fail
    go_ret
    exact ⟨by rw [← HO.out]; rfl, HB1.out⟩
  · go_wp2_with fail
    go_ret
    exact ⟨by rw [← HO.out]; rfl, HB1.out⟩
end Go.Proofs.YthnddabcmhplkaaDoor
