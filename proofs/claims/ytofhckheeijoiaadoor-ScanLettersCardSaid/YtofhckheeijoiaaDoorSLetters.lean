/- Letters ahead of a '-' are set, those behind it are not. From the program's contract pflags_any. -/
import Derived.Test.YtofhckheeijoiaaDoorK37
import Derived.Test.YtofhckheeijoiaaDoorK38
set_option linter.unusedVariables false
namespace Go.Proofs.YtofhckheeijoiaaDoor
open Go Go.RowKit

/-- Is the letter of a number taken? -/
def bitN (n : Int) (k : Nat) : Bool := bits .and .u8 n (2 ^ k) != 0
def letN : Nat → UInt8
  | 0 => 105
  | 1 => 109
  | 2 => 115
  | _ => 85
def numN : Nat → Int
  | 0 => 1
  | 1 => 4
  | 2 => 8
  | _ => 16
/-- The letters of a number, up to one. -/
def selN (n : Int) : Nat → List UInt8
  | 0 => []
  | k + 1 => selN n k ++ (if bitN n k then [letN k] else [])
def orN (n : Int) (f : Int) : Nat → Int
  | 0 => f
  | k + 1 => if bitN n k then bits .or .i64 (orN n f k) (numN k) else orN n f k
def clrN (n : Int) (f : Int) : Nat → Int
  | 0 => f
  | k + 1 => if bitN n k then bits .andNot .i64 (clrN n f k) (numN k) else clrN n f k
theorem let_flag : ∀ k, flagI (letN k).toNat = numN k
  | 0 => rfl
  | 1 => rfl
  | 2 => rfl
  | _ + 3 => rfl
theorem num_ne : ∀ k, ¬ numN k = 0
  | 0 => by decide
  | 1 => by decide
  | 2 => by decide
  | _ + 3 => by show ¬ ((16 : Int) = 0); decide
theorem sel_le (n : Int) : ∀ k, (selN n k).length ≤ k
  | 0 => Nat.le_refl _
  | k + 1 => by
    have := sel_le n k
    unfold selN
    split <;> simp <;> omega
theorem sel_yes {n : Int} {k : Nat} (h : bitN n k = true) : selN n (k + 1) = selN n k ++ [letN k] := by rw [selN, if_pos h]
theorem sel_no {n : Int} {k : Nat} (h : ¬ bitN n k = true) : selN n (k + 1) = selN n k := by rw [selN, if_neg h, List.append_nil]
theorem or_yes {n f : Int} {k : Nat} (h : bitN n k = true) : orN n f (k + 1) = bits .or .i64 (orN n f k) (numN k) := by rw [orN, if_pos h]
theorem or_no {n f : Int} {k : Nat} (h : ¬ bitN n k = true) : orN n f (k + 1) = orN n f k := by rw [orN, if_neg h]
theorem clr_yes {n f : Int} {k : Nat} (h : bitN n k = true) : clrN n f (k + 1) = bits .andNot .i64 (clrN n f k) (numN k) := by rw [clrN, if_pos h]
theorem clr_no {n f : Int} {k : Nat} (h : ¬ bitN n k = true) : clrN n f (k + 1) = clrN n f k := by rw [clrN, if_neg h]
theorem snoc_full (l : List UInt8) (x : UInt8) : (l ++ [x]).isEmpty = false := by cases l <;> rfl
theorem flags_on (n f : Int) (m : Bool) : ∀ (k : Nat) (rest : List UInt8), flagsFrom (selN n k ++ rest) f false m = ((flagsFrom rest (orN n f k) false m).1, (flagsFrom rest (orN n f k) false m).2 + (selN n k).length)
  | 0, rest => rfl
  | k + 1, rest => by
    unfold selN orN
    by_cases h : bitN n k = true
    · simp only [if_pos h]
      rw [List.append_assoc, flags_on n f m k, List.singleton_append, flagsFrom, if_pos (by rw [let_flag]; exact num_ne k), let_flag]
      simp only [Bool.false_eq_true, if_false, Bool.or_false, List.length_append, List.length_singleton, Prod.mk.injEq, true_and]
      omega
    · simp only [if_neg h, List.append_nil]
      exact flags_on n f m k rest
theorem flags_off (n f : Int) : ∀ (k : Nat) (m : Bool) (rest : List UInt8), flagsFrom (selN n k ++ rest) f true m = ((flagsFrom rest (clrN n f k) true (m || !(selN n k).isEmpty)).1, (flagsFrom rest (clrN n f k) true (m || !(selN n k).isEmpty)).2 + (selN n k).length)
  | 0, m, rest => by simp [selN, clrN]
  | k + 1, m, rest => by
    unfold selN clrN
    by_cases h : bitN n k = true
    · simp only [if_pos h]
      rw [List.append_assoc, flags_off n f k, List.singleton_append, flagsFrom, if_pos (by rw [let_flag]; exact num_ne k), let_flag]
      simp only [if_true, Bool.or_true, List.length_append, List.length_singleton, snoc_full, Bool.not_false, Prod.mk.injEq, true_and]
      omega
    · simp only [if_neg h, List.append_nil]
      exact flags_off n f k m rest
theorem any_bits (n : Int) (h0 : 0 ≤ n) (h1 : n ≤ 255) : (bits .and .u8 n 15 != 0) = !(selN n 4).isEmpty := by
  have h : (List.range 256).all (fun k => (bits .and .u8 (k : Int) 15 != 0) == !(selN (k : Int) 4).isEmpty) = true := by kernel_rfl
  have := List.all_eq_true.1 h n.toNat (List.mem_range.2 (by omega))
  rw [show ((n.toNat : Nat) : Int) = n by omega] at this
  exact eq_of_beq this
theorem sel_nil (n f : Int) : ∀ k, (selN n k).isEmpty = true → clrN n f k = f
  | 0, _ => rfl
  | k + 1, h => by
    unfold selN at h
    unfold clrN
    by_cases hb : bitN n k = true
    · rw [if_pos hb] at h
      simp at h
    · rw [if_neg hb] at h ⊢
      exact sel_nil n f k (by simpa using h)

theorem lets_flags {S : ByteArray} {on off f : Int} {g : Bool} (hl : S.toList = ([40, 63] ++ selN on 4 ++ (if (selN off 4).isEmpty then [] else [45])) ++ selN off 4 ++ [if g then 58 else 41]) : flagsS S 0 f = (some (clrN off (orN on f 4) 4, g), S.size) := by
  have hz : S.size = S.toList.length := by rw [Lib.toList_data, ← Lib.size_eq]
  have hend : ∀ (G : Int) (o m : Bool), (o = false ∨ m = true) → flagsFrom [if g then 58 else 41] G o m = (some (G, g), 1) := fun G o m h => by
    cases g
    · rw [if_neg (by decide), flagsFrom, if_neg (fun h => h rfl), if_neg (fun h => by have := h.1; revert this; decide), if_pos ⟨.inr rfl, h⟩]
      rfl
    · rw [if_pos rfl, flagsFrom, if_neg (fun h => h rfl), if_neg (fun h => by have := h.1; revert this; decide), if_pos ⟨.inl rfl, h⟩]
      rfl
  unfold flagsS
  rw [left_of S 0 hl, left_of S (0 + 1) hl, left_of S (0 + 2) hl, hz, hl]
  by_cases he : (selN off 4).isEmpty = true
  · have h0 : selN off 4 = [] := List.isEmpty_iff.1 he
    rw [if_pos he, sel_nil off _ 4 he, h0]
    rw [if_neg (fun h => h rfl), if_neg (fun h => h rfl)]
    simp only [List.append_nil, List.cons_append, List.nil_append, List.drop_succ_cons, List.drop_zero, Nat.zero_add]
    rw [flags_on, hend _ _ _ (.inl rfl)]
    simp only [List.length_cons, List.length_append, List.length_nil, Prod.mk.injEq, true_and]
    omega
  · rw [if_neg he, if_neg (fun h => h rfl), if_neg (fun h => h rfl)]
    simp only [List.append_assoc, List.cons_append, List.nil_append, List.drop_succ_cons, List.drop_zero, Nat.zero_add]
    rw [flags_on, flagsFrom, if_neg (fun h => h rfl), if_pos ⟨rfl, rfl⟩, flags_off, hend _ _ _ (.inr (by simp [he]))]
    simp only [List.length_cons, List.length_append, List.length_nil, Prod.mk.injEq, true_and]
    omega

set_option maxHeartbeats 6400000 in
set_option maxRecDepth 100000 in
theorem sletters_any (w : World) (f on off : Int) (g : Bool) (h0 : 0 ≤ on) (h1 : on ≤ 255) (h2 : 0 ≤ off) (h3 : off ≤ 255) (hf : In64 f) (hT : Lib.Utf8Tabs 0 1 w) :
    Calls Tryd.prog 8 #[.int .i64 f, .int .u8 on, .int .u8 off, .bool g] w fun e w' => e = .returned (.bool true) ∧ Below w.heap.size w w' := by
  have HT := Lib.hid hT; have HF64 := Lib.hid hf
  have HH := Lib.hid (shead_any w hT)
  have HA := Lib.hid (any_bits off h2 h3)
  clear hT h0 h1 h2 h3 hf
  go_enter Tryd.func8, Tryd.ntmps8
  go_wp2_with fail
  refine HH.out.mono ?_
  rintro e w1 ⟨rfl, hb⟩
  obtain ⟨w2, hw2⟩ : ∃ w2, w1.alloc (.cells #[.int .i64 1, .int .i64 4, .int .i64 8, .int .i64 16] 40) = w2 := ⟨_, rfl⟩
  have HB := Lib.hid (show Below w.heap.size w w2 by rw [← hw2]; exact hb.alloc hb.size _)
  have hF : Whole w2 w1.heap.size 40 #[.int .i64 1, .int .i64 4, .int .i64 8, .int .i64 16] := by rw [← hw2]; exact heap_alloc_new w1 _
  have HW2 := Lib.hid hw2
  obtain ⟨c0, c1, c2, c3, -, -, -, -⟩ := hF.four
  clear hb HH hw2 hF
  go_upto_region 4 with (fail)
  rw [HW2.out]
  go_wp2_with fail
  go_loopw [12, 13, 14] (fun vs vg vi wr => ∃ (k : Nat) (bs : ByteArray), k ≤ 4 ∧ vi = .int .i64 k ∧ vs = .string bs ∧ bs.toList = [40, 63] ++ selN on k ∧ bs.size ≤ 2 + k ∧ vg = .int .i64 (orN on f k) ∧ wr = w2) (fun _ _ vi _ => 4 - (intOf vi).toNat)
  case atStart => exact ⟨0, ⟨#[40, 63]⟩, by decide, rfl, rfl, by kernel_rfl, by decide, rfl, rfl⟩
  case round =>
    obtain ⟨k, bs, hk, rfl, rfl, hl, hz, rfl, rfl⟩ := hrel
    have HL := Lib.hid hl
    clear hl
    have hk4 : k = 0 ∨ k = 1 ∨ k = 2 ∨ k = 3 ∨ k = 4 := by omega
    rcases hk4 with rfl | rfl | rfl | rfl | rfl
    · have HX := Lib.hid (show ((⟨#[105, 109, 115, 85]⟩ : ByteArray).extract 0 1).toList = [letN 0] by kernel_rfl)
      have hxz : ((⟨#[105, 109, 115, 85]⟩ : ByteArray).extract 0 1).size = 1 := by kernel_rfl
      have hsum : (bs ++ (⟨#[105, 109, 115, 85]⟩ : ByteArray).extract 0 1).size = bs.size + 1 := by rw [ByteArray.size_append, hxz]
      by_cases hb : bitN on 0 = true
      · have b0 : (bits .and .u8 on 1 != 0) = true := hb
        have HN := Lib.hid (show (bs ++ (⟨#[105, 109, 115, 85]⟩ : ByteArray).extract 0 1).toList = [40, 63] ++ selN on 1 by rw [append_list, HL.out, HX.out, List.append_assoc]; exact congrArg _ (sel_yes (k := 0) hb).symm)
        have HV := Lib.hid (show orN on f 1 = bits .or .i64 (orN on f 0) 1 from or_yes (k := 0) hb)
        clear hb
        go_wp2
        exact ⟨⟨1, _, by decide, rfl, rfl, HN.out, by rw [hsum]; omega, by rw [HV.out], trivial⟩, by simp [intOf]⟩
      · have b0 : (bits .and .u8 on 1 != 0) = false := eq_false_of_ne_true hb
        have HN := Lib.hid (show bs.toList = [40, 63] ++ selN on 1 by rw [HL.out]; exact congrArg _ (sel_no (k := 0) hb).symm)
        have HV := Lib.hid (show orN on f 1 = orN on f 0 from or_no (k := 0) hb)
        clear hb
        go_wp2
        exact ⟨⟨1, _, by decide, rfl, rfl, HN.out, by omega, by rw [HV.out], trivial⟩, by simp [intOf]⟩
    · have HX := Lib.hid (show ((⟨#[105, 109, 115, 85]⟩ : ByteArray).extract 1 2).toList = [letN 1] by kernel_rfl)
      have hxz : ((⟨#[105, 109, 115, 85]⟩ : ByteArray).extract 1 2).size = 1 := by kernel_rfl
      have hsum : (bs ++ (⟨#[105, 109, 115, 85]⟩ : ByteArray).extract 1 2).size = bs.size + 1 := by rw [ByteArray.size_append, hxz]
      by_cases hb : bitN on 1 = true
      · have b0 : (bits .and .u8 on 2 != 0) = true := hb
        have HN := Lib.hid (show (bs ++ (⟨#[105, 109, 115, 85]⟩ : ByteArray).extract 1 2).toList = [40, 63] ++ selN on 2 by rw [append_list, HL.out, HX.out, List.append_assoc]; exact congrArg _ (sel_yes (k := 1) hb).symm)
        have HV := Lib.hid (show orN on f 2 = bits .or .i64 (orN on f 1) 4 from or_yes (k := 1) hb)
        clear hb
        go_wp2
        exact ⟨⟨2, _, by decide, rfl, rfl, HN.out, by rw [hsum]; omega, by rw [HV.out], trivial⟩, by simp [intOf]⟩
      · have b0 : (bits .and .u8 on 2 != 0) = false := eq_false_of_ne_true hb
        have HN := Lib.hid (show bs.toList = [40, 63] ++ selN on 2 by rw [HL.out]; exact congrArg _ (sel_no (k := 1) hb).symm)
        have HV := Lib.hid (show orN on f 2 = orN on f 1 from or_no (k := 1) hb)
        clear hb
        go_wp2
        exact ⟨⟨2, _, by decide, rfl, rfl, HN.out, by omega, by rw [HV.out], trivial⟩, by simp [intOf]⟩
    · have HX := Lib.hid (show ((⟨#[105, 109, 115, 85]⟩ : ByteArray).extract 2 3).toList = [letN 2] by kernel_rfl)
      have hxz : ((⟨#[105, 109, 115, 85]⟩ : ByteArray).extract 2 3).size = 1 := by kernel_rfl
      have hsum : (bs ++ (⟨#[105, 109, 115, 85]⟩ : ByteArray).extract 2 3).size = bs.size + 1 := by rw [ByteArray.size_append, hxz]
      by_cases hb : bitN on 2 = true
      · have b0 : (bits .and .u8 on 4 != 0) = true := hb
        have HN := Lib.hid (show (bs ++ (⟨#[105, 109, 115, 85]⟩ : ByteArray).extract 2 3).toList = [40, 63] ++ selN on 3 by rw [append_list, HL.out, HX.out, List.append_assoc]; exact congrArg _ (sel_yes (k := 2) hb).symm)
        have HV := Lib.hid (show orN on f 3 = bits .or .i64 (orN on f 2) 8 from or_yes (k := 2) hb)
        clear hb
        go_wp2
        exact ⟨⟨3, _, by decide, rfl, rfl, HN.out, by rw [hsum]; omega, by rw [HV.out], trivial⟩, by simp [intOf]⟩
      · have b0 : (bits .and .u8 on 4 != 0) = false := eq_false_of_ne_true hb
        have HN := Lib.hid (show bs.toList = [40, 63] ++ selN on 3 by rw [HL.out]; exact congrArg _ (sel_no (k := 2) hb).symm)
        have HV := Lib.hid (show orN on f 3 = orN on f 2 from or_no (k := 2) hb)
        clear hb
        go_wp2
        exact ⟨⟨3, _, by decide, rfl, rfl, HN.out, by omega, by rw [HV.out], trivial⟩, by simp [intOf]⟩
    · have HX := Lib.hid (show ((⟨#[105, 109, 115, 85]⟩ : ByteArray).extract 3 4).toList = [letN 3] by kernel_rfl)
      have hxz : ((⟨#[105, 109, 115, 85]⟩ : ByteArray).extract 3 4).size = 1 := by kernel_rfl
      have hsum : (bs ++ (⟨#[105, 109, 115, 85]⟩ : ByteArray).extract 3 4).size = bs.size + 1 := by rw [ByteArray.size_append, hxz]
      by_cases hb : bitN on 3 = true
      · have b0 : (bits .and .u8 on 8 != 0) = true := hb
        have HN := Lib.hid (show (bs ++ (⟨#[105, 109, 115, 85]⟩ : ByteArray).extract 3 4).toList = [40, 63] ++ selN on 4 by rw [append_list, HL.out, HX.out, List.append_assoc]; exact congrArg _ (sel_yes (k := 3) hb).symm)
        have HV := Lib.hid (show orN on f 4 = bits .or .i64 (orN on f 3) 16 from or_yes (k := 3) hb)
        clear hb
        go_wp2
        exact ⟨⟨4, _, by decide, rfl, rfl, HN.out, by rw [hsum]; omega, by rw [HV.out], trivial⟩, by simp [intOf]⟩
      · have b0 : (bits .and .u8 on 8 != 0) = false := eq_false_of_ne_true hb
        have HN := Lib.hid (show bs.toList = [40, 63] ++ selN on 4 by rw [HL.out]; exact congrArg _ (sel_no (k := 3) hb).symm)
        have HV := Lib.hid (show orN on f 4 = orN on f 3 from or_no (k := 3) hb)
        clear hb
        go_wp2
        exact ⟨⟨4, _, by decide, rfl, rfl, HN.out, by omega, by rw [HV.out], trivial⟩, by simp [intOf]⟩
    · obtain ⟨G, hG⟩ : ∃ G, orN on f 4 = G := ⟨_, rfl⟩
      rw [hG]
      have HG := Lib.hid hG
      clear hG
      by_cases hE : (selN off 4).isEmpty = true
      · have b9 : (bits .and .u8 off 15 != 0) = false := HA.out.trans (by rw [hE]; rfl)
        have HE := Lib.hid (show (if (selN off 4).isEmpty then [] else [45]) = ([] : List UInt8) by rw [if_pos hE])
        clear hE
        have hwr : wr = wr := rfl
        clear hwr
        obtain ⟨w2, hw2⟩ : ∃ w2, wr = w2 := ⟨_, rfl⟩
        subst hw2
        go_wp2_with fail
        have HL0 := HL
        go_loopw [12, 13, 15] (fun vs vg vi wq => ∃ (k : Nat) (bs : ByteArray), k ≤ 4 ∧ vi = .int .i64 k ∧ vs = .string bs ∧ bs.toList = ([40, 63] ++ selN on 4 ++ []) ++ selN off k ∧ bs.size ≤ 10 + k ∧ vg = .int .i64 (clrN off G k) ∧ wq = wr) (fun _ _ vi _ => 4 - (intOf vi).toNat)
        case atStart => exact ⟨0, bs, by decide, rfl, rfl, by rw [HL.out, selN, List.append_nil, List.append_nil], by omega, rfl, rfl⟩
        case round =>
          clear HL hz; obtain ⟨k, bs, hk, rfl, rfl, hl, hz, rfl, rfl⟩ := hrel
          have HL := Lib.hid hl
          clear hl
          have hk4 : k = 0 ∨ k = 1 ∨ k = 2 ∨ k = 3 ∨ k = 4 := by omega
          rcases hk4 with rfl | rfl | rfl | rfl | rfl
          · have HX := Lib.hid (show ((⟨#[105, 109, 115, 85]⟩ : ByteArray).extract 0 1).toList = [letN 0] by kernel_rfl)
            have hxz : ((⟨#[105, 109, 115, 85]⟩ : ByteArray).extract 0 1).size = 1 := by kernel_rfl
            have hsum : (bs ++ (⟨#[105, 109, 115, 85]⟩ : ByteArray).extract 0 1).size = bs.size + 1 := by rw [ByteArray.size_append, hxz]
            by_cases hb : bitN off 0 = true
            · have b0 : (bits .and .u8 off 1 != 0) = true := hb
              have HN := Lib.hid (show (bs ++ (⟨#[105, 109, 115, 85]⟩ : ByteArray).extract 0 1).toList = ([40, 63] ++ selN on 4 ++ []) ++ selN off 1 by rw [append_list, HL.out, HX.out, List.append_assoc]; exact congrArg _ (sel_yes (k := 0) hb).symm)
              have HV := Lib.hid (show clrN off G 1 = bits .andNot .i64 (clrN off G 0) 1 from clr_yes (k := 0) hb)
              clear hb
              go_wp2
              exact ⟨⟨1, _, by decide, rfl, rfl, HN.out, by rw [hsum]; omega, by rw [HV.out], trivial⟩, by simp [intOf]⟩
            · have b0 : (bits .and .u8 off 1 != 0) = false := eq_false_of_ne_true hb
              have HN := Lib.hid (show bs.toList = ([40, 63] ++ selN on 4 ++ []) ++ selN off 1 by rw [HL.out]; exact congrArg _ (sel_no (k := 0) hb).symm)
              have HV := Lib.hid (show clrN off G 1 = clrN off G 0 from clr_no (k := 0) hb)
              clear hb
              go_wp2
              exact ⟨⟨1, _, by decide, rfl, rfl, HN.out, by omega, by rw [HV.out], trivial⟩, by simp [intOf]⟩
          · have HX := Lib.hid (show ((⟨#[105, 109, 115, 85]⟩ : ByteArray).extract 1 2).toList = [letN 1] by kernel_rfl)
            have hxz : ((⟨#[105, 109, 115, 85]⟩ : ByteArray).extract 1 2).size = 1 := by kernel_rfl
            have hsum : (bs ++ (⟨#[105, 109, 115, 85]⟩ : ByteArray).extract 1 2).size = bs.size + 1 := by rw [ByteArray.size_append, hxz]
            by_cases hb : bitN off 1 = true
            · have b0 : (bits .and .u8 off 2 != 0) = true := hb
              have HN := Lib.hid (show (bs ++ (⟨#[105, 109, 115, 85]⟩ : ByteArray).extract 1 2).toList = ([40, 63] ++ selN on 4 ++ []) ++ selN off 2 by rw [append_list, HL.out, HX.out, List.append_assoc]; exact congrArg _ (sel_yes (k := 1) hb).symm)
              have HV := Lib.hid (show clrN off G 2 = bits .andNot .i64 (clrN off G 1) 4 from clr_yes (k := 1) hb)
              clear hb
              go_wp2
              exact ⟨⟨2, _, by decide, rfl, rfl, HN.out, by rw [hsum]; omega, by rw [HV.out], trivial⟩, by simp [intOf]⟩
            · have b0 : (bits .and .u8 off 2 != 0) = false := eq_false_of_ne_true hb
              have HN := Lib.hid (show bs.toList = ([40, 63] ++ selN on 4 ++ []) ++ selN off 2 by rw [HL.out]; exact congrArg _ (sel_no (k := 1) hb).symm)
              have HV := Lib.hid (show clrN off G 2 = clrN off G 1 from clr_no (k := 1) hb)
              clear hb
              go_wp2
              exact ⟨⟨2, _, by decide, rfl, rfl, HN.out, by omega, by rw [HV.out], trivial⟩, by simp [intOf]⟩
          · have HX := Lib.hid (show ((⟨#[105, 109, 115, 85]⟩ : ByteArray).extract 2 3).toList = [letN 2] by kernel_rfl)
            have hxz : ((⟨#[105, 109, 115, 85]⟩ : ByteArray).extract 2 3).size = 1 := by kernel_rfl
            have hsum : (bs ++ (⟨#[105, 109, 115, 85]⟩ : ByteArray).extract 2 3).size = bs.size + 1 := by rw [ByteArray.size_append, hxz]
            by_cases hb : bitN off 2 = true
            · have b0 : (bits .and .u8 off 4 != 0) = true := hb
              have HN := Lib.hid (show (bs ++ (⟨#[105, 109, 115, 85]⟩ : ByteArray).extract 2 3).toList = ([40, 63] ++ selN on 4 ++ []) ++ selN off 3 by rw [append_list, HL.out, HX.out, List.append_assoc]; exact congrArg _ (sel_yes (k := 2) hb).symm)
              have HV := Lib.hid (show clrN off G 3 = bits .andNot .i64 (clrN off G 2) 8 from clr_yes (k := 2) hb)
              clear hb
              go_wp2
              exact ⟨⟨3, _, by decide, rfl, rfl, HN.out, by rw [hsum]; omega, by rw [HV.out], trivial⟩, by simp [intOf]⟩
            · have b0 : (bits .and .u8 off 4 != 0) = false := eq_false_of_ne_true hb
              have HN := Lib.hid (show bs.toList = ([40, 63] ++ selN on 4 ++ []) ++ selN off 3 by rw [HL.out]; exact congrArg _ (sel_no (k := 2) hb).symm)
              have HV := Lib.hid (show clrN off G 3 = clrN off G 2 from clr_no (k := 2) hb)
              clear hb
              go_wp2
              exact ⟨⟨3, _, by decide, rfl, rfl, HN.out, by omega, by rw [HV.out], trivial⟩, by simp [intOf]⟩
          · have HX := Lib.hid (show ((⟨#[105, 109, 115, 85]⟩ : ByteArray).extract 3 4).toList = [letN 3] by kernel_rfl)
            have hxz : ((⟨#[105, 109, 115, 85]⟩ : ByteArray).extract 3 4).size = 1 := by kernel_rfl
            have hsum : (bs ++ (⟨#[105, 109, 115, 85]⟩ : ByteArray).extract 3 4).size = bs.size + 1 := by rw [ByteArray.size_append, hxz]
            by_cases hb : bitN off 3 = true
            · have b0 : (bits .and .u8 off 8 != 0) = true := hb
              have HN := Lib.hid (show (bs ++ (⟨#[105, 109, 115, 85]⟩ : ByteArray).extract 3 4).toList = ([40, 63] ++ selN on 4 ++ []) ++ selN off 4 by rw [append_list, HL.out, HX.out, List.append_assoc]; exact congrArg _ (sel_yes (k := 3) hb).symm)
              have HV := Lib.hid (show clrN off G 4 = bits .andNot .i64 (clrN off G 3) 16 from clr_yes (k := 3) hb)
              clear hb
              go_wp2
              exact ⟨⟨4, _, by decide, rfl, rfl, HN.out, by rw [hsum]; omega, by rw [HV.out], trivial⟩, by simp [intOf]⟩
            · have b0 : (bits .and .u8 off 8 != 0) = false := eq_false_of_ne_true hb
              have HN := Lib.hid (show bs.toList = ([40, 63] ++ selN on 4 ++ []) ++ selN off 4 by rw [HL.out]; exact congrArg _ (sel_no (k := 3) hb).symm)
              have HV := Lib.hid (show clrN off G 4 = clrN off G 3 from clr_no (k := 3) hb)
              clear hb
              go_wp2
              exact ⟨⟨4, _, by decide, rfl, rfl, HN.out, by omega, by rw [HV.out], trivial⟩, by simp [intOf]⟩
          · skip
            cases g
            · have hsum : (bs ++ (⟨#[41]⟩ : ByteArray)).size = bs.size + 1 := by rw [ByteArray.size_append]; rfl
              have HN := Lib.hid (show (bs ++ (⟨#[41]⟩ : ByteArray)).toList = ([40, 63] ++ selN on 4 ++ (if (selN off 4).isEmpty then [] else [45])) ++ selN off 4 ++ [if false then 58 else 41] by rw [append_list, HL.out, show (⟨#[41]⟩ : ByteArray).toList = [41] by kernel_rfl, HE.out]; rfl)
              obtain ⟨S, hS⟩ : ∃ S, bs ++ (⟨#[41]⟩ : ByteArray) = S := ⟨_, rfl⟩
              rw [hS] at HN hsum
              have HS := Lib.hid hS
              clear hS
              have HP := Lib.hid (pflags_any S 0 f wr (by omega) (Nat.zero_le _) HF64.out (Utf8Tabs_below HT.out HB.out))
              rw [lets_flags HN.out, HG.out] at HP
              have hSz : S.size < 100 := by omega
              go_wp2_with fail
              rw [HS.out]
              refine HP.out.mono ?_
              rintro e w3 ⟨hb, ⟨h, _⟩ | ⟨g', c', h, rfl⟩⟩
              · cases h
              cases h
              have HB3 := Lib.hid (HB.out.trans (hb.mono HB.out.size))
              clear hb HP HN HS
              simp only []
              go_wp2_with fail
              go_ret
              exact ⟨rfl, HB3.out.alloc HB3.out.size _⟩
            · have hsum : (bs ++ (⟨#[58]⟩ : ByteArray)).size = bs.size + 1 := by rw [ByteArray.size_append]; rfl
              have HN := Lib.hid (show (bs ++ (⟨#[58]⟩ : ByteArray)).toList = ([40, 63] ++ selN on 4 ++ (if (selN off 4).isEmpty then [] else [45])) ++ selN off 4 ++ [if true then 58 else 41] by rw [append_list, HL.out, show (⟨#[58]⟩ : ByteArray).toList = [58] by kernel_rfl, HE.out]; rfl)
              obtain ⟨S, hS⟩ : ∃ S, bs ++ (⟨#[58]⟩ : ByteArray) = S := ⟨_, rfl⟩
              rw [hS] at HN hsum
              have HS := Lib.hid hS
              clear hS
              have HP := Lib.hid (pflags_any S 0 f wr (by omega) (Nat.zero_le _) HF64.out (Utf8Tabs_below HT.out HB.out))
              rw [lets_flags HN.out, HG.out] at HP
              have hSz : S.size < 100 := by omega
              go_wp2_with fail
              rw [HS.out]
              refine HP.out.mono ?_
              rintro e w3 ⟨hb, ⟨h, _⟩ | ⟨g', c', h, rfl⟩⟩
              · cases h
              cases h
              have HB3 := Lib.hid (HB.out.trans (hb.mono HB.out.size))
              clear hb HP HN HS
              simp only []
              go_wp2_with fail
              go_ret
              exact ⟨rfl, HB3.out.alloc HB3.out.size _⟩
      · have b9 : (bits .and .u8 off 15 != 0) = true := HA.out.trans (by simpa using hE)
        have HE := Lib.hid (show (if (selN off 4).isEmpty then [] else [45]) = ([45] : List UInt8) by rw [if_neg hE])
        have hsum0 : (bs ++ (⟨#[45]⟩ : ByteArray)).size = bs.size + 1 := by rw [ByteArray.size_append]; rfl
        clear hE
        go_wp2_with fail
        go_loopw [12, 13, 15] (fun vs vg vi wq => ∃ (k : Nat) (bs : ByteArray), k ≤ 4 ∧ vi = .int .i64 k ∧ vs = .string bs ∧ bs.toList = ([40, 63] ++ selN on 4 ++ [45]) ++ selN off k ∧ bs.size ≤ 10 + k ∧ vg = .int .i64 (clrN off G k) ∧ wq = wr) (fun _ _ vi _ => 4 - (intOf vi).toNat)
        case atStart => exact ⟨0, _, by decide, rfl, rfl, by rw [append_list, HL.out, selN, List.append_nil, show (⟨#[45]⟩ : ByteArray).toList = [45] by kernel_rfl], by rw [hsum0]; omega, rfl, rfl⟩
        case round =>
          clear HL hz; obtain ⟨k, bs, hk, rfl, rfl, hl, hz, rfl, rfl⟩ := hrel
          have HL := Lib.hid hl
          clear hl
          have hk4 : k = 0 ∨ k = 1 ∨ k = 2 ∨ k = 3 ∨ k = 4 := by omega
          rcases hk4 with rfl | rfl | rfl | rfl | rfl
          · have HX := Lib.hid (show ((⟨#[105, 109, 115, 85]⟩ : ByteArray).extract 0 1).toList = [letN 0] by kernel_rfl)
            have hxz : ((⟨#[105, 109, 115, 85]⟩ : ByteArray).extract 0 1).size = 1 := by kernel_rfl
            have hsum : (bs ++ (⟨#[105, 109, 115, 85]⟩ : ByteArray).extract 0 1).size = bs.size + 1 := by rw [ByteArray.size_append, hxz]
            by_cases hb : bitN off 0 = true
            · have b0 : (bits .and .u8 off 1 != 0) = true := hb
              have HN := Lib.hid (show (bs ++ (⟨#[105, 109, 115, 85]⟩ : ByteArray).extract 0 1).toList = ([40, 63] ++ selN on 4 ++ [45]) ++ selN off 1 by rw [append_list, HL.out, HX.out, List.append_assoc]; exact congrArg _ (sel_yes (k := 0) hb).symm)
              have HV := Lib.hid (show clrN off G 1 = bits .andNot .i64 (clrN off G 0) 1 from clr_yes (k := 0) hb)
              clear hb
              go_wp2
              exact ⟨⟨1, _, by decide, rfl, rfl, HN.out, by rw [hsum]; omega, by rw [HV.out], trivial⟩, by simp [intOf]⟩
            · have b0 : (bits .and .u8 off 1 != 0) = false := eq_false_of_ne_true hb
              have HN := Lib.hid (show bs.toList = ([40, 63] ++ selN on 4 ++ [45]) ++ selN off 1 by rw [HL.out]; exact congrArg _ (sel_no (k := 0) hb).symm)
              have HV := Lib.hid (show clrN off G 1 = clrN off G 0 from clr_no (k := 0) hb)
              clear hb
              go_wp2
              exact ⟨⟨1, _, by decide, rfl, rfl, HN.out, by omega, by rw [HV.out], trivial⟩, by simp [intOf]⟩
          · have HX := Lib.hid (show ((⟨#[105, 109, 115, 85]⟩ : ByteArray).extract 1 2).toList = [letN 1] by kernel_rfl)
            have hxz : ((⟨#[105, 109, 115, 85]⟩ : ByteArray).extract 1 2).size = 1 := by kernel_rfl
            have hsum : (bs ++ (⟨#[105, 109, 115, 85]⟩ : ByteArray).extract 1 2).size = bs.size + 1 := by rw [ByteArray.size_append, hxz]
            by_cases hb : bitN off 1 = true
            · have b0 : (bits .and .u8 off 2 != 0) = true := hb
              have HN := Lib.hid (show (bs ++ (⟨#[105, 109, 115, 85]⟩ : ByteArray).extract 1 2).toList = ([40, 63] ++ selN on 4 ++ [45]) ++ selN off 2 by rw [append_list, HL.out, HX.out, List.append_assoc]; exact congrArg _ (sel_yes (k := 1) hb).symm)
              have HV := Lib.hid (show clrN off G 2 = bits .andNot .i64 (clrN off G 1) 4 from clr_yes (k := 1) hb)
              clear hb
              go_wp2
              exact ⟨⟨2, _, by decide, rfl, rfl, HN.out, by rw [hsum]; omega, by rw [HV.out], trivial⟩, by simp [intOf]⟩
            · have b0 : (bits .and .u8 off 2 != 0) = false := eq_false_of_ne_true hb
              have HN := Lib.hid (show bs.toList = ([40, 63] ++ selN on 4 ++ [45]) ++ selN off 2 by rw [HL.out]; exact congrArg _ (sel_no (k := 1) hb).symm)
              have HV := Lib.hid (show clrN off G 2 = clrN off G 1 from clr_no (k := 1) hb)
              clear hb
              go_wp2
              exact ⟨⟨2, _, by decide, rfl, rfl, HN.out, by omega, by rw [HV.out], trivial⟩, by simp [intOf]⟩
          · have HX := Lib.hid (show ((⟨#[105, 109, 115, 85]⟩ : ByteArray).extract 2 3).toList = [letN 2] by kernel_rfl)
            have hxz : ((⟨#[105, 109, 115, 85]⟩ : ByteArray).extract 2 3).size = 1 := by kernel_rfl
            have hsum : (bs ++ (⟨#[105, 109, 115, 85]⟩ : ByteArray).extract 2 3).size = bs.size + 1 := by rw [ByteArray.size_append, hxz]
            by_cases hb : bitN off 2 = true
            · have b0 : (bits .and .u8 off 4 != 0) = true := hb
              have HN := Lib.hid (show (bs ++ (⟨#[105, 109, 115, 85]⟩ : ByteArray).extract 2 3).toList = ([40, 63] ++ selN on 4 ++ [45]) ++ selN off 3 by rw [append_list, HL.out, HX.out, List.append_assoc]; exact congrArg _ (sel_yes (k := 2) hb).symm)
              have HV := Lib.hid (show clrN off G 3 = bits .andNot .i64 (clrN off G 2) 8 from clr_yes (k := 2) hb)
              clear hb
              go_wp2
              exact ⟨⟨3, _, by decide, rfl, rfl, HN.out, by rw [hsum]; omega, by rw [HV.out], trivial⟩, by simp [intOf]⟩
            · have b0 : (bits .and .u8 off 4 != 0) = false := eq_false_of_ne_true hb
              have HN := Lib.hid (show bs.toList = ([40, 63] ++ selN on 4 ++ [45]) ++ selN off 3 by rw [HL.out]; exact congrArg _ (sel_no (k := 2) hb).symm)
              have HV := Lib.hid (show clrN off G 3 = clrN off G 2 from clr_no (k := 2) hb)
              clear hb
              go_wp2
              exact ⟨⟨3, _, by decide, rfl, rfl, HN.out, by omega, by rw [HV.out], trivial⟩, by simp [intOf]⟩
          · have HX := Lib.hid (show ((⟨#[105, 109, 115, 85]⟩ : ByteArray).extract 3 4).toList = [letN 3] by kernel_rfl)
            have hxz : ((⟨#[105, 109, 115, 85]⟩ : ByteArray).extract 3 4).size = 1 := by kernel_rfl
            have hsum : (bs ++ (⟨#[105, 109, 115, 85]⟩ : ByteArray).extract 3 4).size = bs.size + 1 := by rw [ByteArray.size_append, hxz]
            by_cases hb : bitN off 3 = true
            · have b0 : (bits .and .u8 off 8 != 0) = true := hb
              have HN := Lib.hid (show (bs ++ (⟨#[105, 109, 115, 85]⟩ : ByteArray).extract 3 4).toList = ([40, 63] ++ selN on 4 ++ [45]) ++ selN off 4 by rw [append_list, HL.out, HX.out, List.append_assoc]; exact congrArg _ (sel_yes (k := 3) hb).symm)
              have HV := Lib.hid (show clrN off G 4 = bits .andNot .i64 (clrN off G 3) 16 from clr_yes (k := 3) hb)
              clear hb
              go_wp2
              exact ⟨⟨4, _, by decide, rfl, rfl, HN.out, by rw [hsum]; omega, by rw [HV.out], trivial⟩, by simp [intOf]⟩
            · have b0 : (bits .and .u8 off 8 != 0) = false := eq_false_of_ne_true hb
              have HN := Lib.hid (show bs.toList = ([40, 63] ++ selN on 4 ++ [45]) ++ selN off 4 by rw [HL.out]; exact congrArg _ (sel_no (k := 3) hb).symm)
              have HV := Lib.hid (show clrN off G 4 = clrN off G 3 from clr_no (k := 3) hb)
              clear hb
              go_wp2
              exact ⟨⟨4, _, by decide, rfl, rfl, HN.out, by omega, by rw [HV.out], trivial⟩, by simp [intOf]⟩
          · skip
            cases g
            · have hsum : (bs ++ (⟨#[41]⟩ : ByteArray)).size = bs.size + 1 := by rw [ByteArray.size_append]; rfl
              have HN := Lib.hid (show (bs ++ (⟨#[41]⟩ : ByteArray)).toList = ([40, 63] ++ selN on 4 ++ (if (selN off 4).isEmpty then [] else [45])) ++ selN off 4 ++ [if false then 58 else 41] by rw [append_list, HL.out, show (⟨#[41]⟩ : ByteArray).toList = [41] by kernel_rfl, HE.out]; rfl)
              obtain ⟨S, hS⟩ : ∃ S, bs ++ (⟨#[41]⟩ : ByteArray) = S := ⟨_, rfl⟩
              rw [hS] at HN hsum
              have HS := Lib.hid hS
              clear hS
              have HP := Lib.hid (pflags_any S 0 f wr (by omega) (Nat.zero_le _) HF64.out (Utf8Tabs_below HT.out HB.out))
              rw [lets_flags HN.out, HG.out] at HP
              have hSz : S.size < 100 := by omega
              go_wp2_with fail
              rw [HS.out]
              refine HP.out.mono ?_
              rintro e w3 ⟨hb, ⟨h, _⟩ | ⟨g', c', h, rfl⟩⟩
              · cases h
              cases h
              have HB3 := Lib.hid (HB.out.trans (hb.mono HB.out.size))
              clear hb HP HN HS
              simp only []
              go_wp2_with fail
              go_ret
              exact ⟨rfl, HB3.out.alloc HB3.out.size _⟩
            · have hsum : (bs ++ (⟨#[58]⟩ : ByteArray)).size = bs.size + 1 := by rw [ByteArray.size_append]; rfl
              have HN := Lib.hid (show (bs ++ (⟨#[58]⟩ : ByteArray)).toList = ([40, 63] ++ selN on 4 ++ (if (selN off 4).isEmpty then [] else [45])) ++ selN off 4 ++ [if true then 58 else 41] by rw [append_list, HL.out, show (⟨#[58]⟩ : ByteArray).toList = [58] by kernel_rfl, HE.out]; rfl)
              obtain ⟨S, hS⟩ : ∃ S, bs ++ (⟨#[58]⟩ : ByteArray) = S := ⟨_, rfl⟩
              rw [hS] at HN hsum
              have HS := Lib.hid hS
              clear hS
              have HP := Lib.hid (pflags_any S 0 f wr (by omega) (Nat.zero_le _) HF64.out (Utf8Tabs_below HT.out HB.out))
              rw [lets_flags HN.out, HG.out] at HP
              have hSz : S.size < 100 := by omega
              go_wp2_with fail
              rw [HS.out]
              refine HP.out.mono ?_
              rintro e w3 ⟨hb, ⟨h, _⟩ | ⟨g', c', h, rfl⟩⟩
              · cases h
              cases h
              have HB3 := Lib.hid (HB.out.trans (hb.mono HB.out.size))
              clear hb HP HN HS
              simp only []
              go_wp2_with fail
              go_ret
              exact ⟨rfl, HB3.out.alloc HB3.out.size _⟩
end Go.Proofs.YtofhckheeijoiaaDoor
