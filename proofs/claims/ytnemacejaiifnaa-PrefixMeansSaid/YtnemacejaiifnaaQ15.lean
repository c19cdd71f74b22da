/- Texts merged by program: DnMeet. No condition. -/
import Derived.Test.YtnemacejaiifnaaQ14
import Derived.Test.YtnemacejaiifnaaQ10
import Derived.Deep.RegionHeld3
import Derived.Laws.Bits64b
import Derived.Deep.RegionLaw
set_option linter.unusedVariables false
/- Is it the first time that a part is come to at a place. No condition. -/
namespace Go.Proofs.Ytnemacejaiifnaa
open Go Go.RowKit

theorem shift_one (j : Nat) (hj : j < 64) (w : World) : (Op.shift .shl .u64 1 .i64 (j : Int)).run Try.prog w = .ok (.int .u64 ((2 ^ j : Nat) : Int)) w := by
  unfold Op.shift
  have h1 : ¬ ((j : Int) < 0) := by omega
  have h2 : min (j : Int).toNat IntKind.u64.bits = j := by
    have : IntKind.u64.bits = 64 := rfl
    rw [this]
    omega
  have h4 : (2 : Nat) ^ j < 2 ^ 64 := Nat.pow_lt_pow_right (by omega) hj
  have h3 : IntKind.u64.wrap (1 * 2 ^ j) = ((2 ^ j : Nat) : Int) := by
    rw [Int.one_mul]
    simp only [IntKind.wrap, IntKind.signed, IntKind.bits]
    push_cast
    have h5 : ((2 : Int) ^ j) < 2 ^ 64 := by exact_mod_cast h4
    have h6 : (0 : Int) < 2 ^ j := by exact_mod_cast Nat.pow_pos (n := j) (show 0 < 2 by omega)
    simp only [Bool.false_and, if_false, Bool.false_eq_true]
    exact Int.emod_eq_of_lt (by omega) h5
  simp only [h1, if_false, h2, h3]
  rfl
theorem and_bit (x j : Nat) : (x &&& 2 ^ j = 0) ↔ x.testBit j = false := by
  constructor
  · intro h
    have := congrArg (fun n => n.testBit j) h
    simpa [Nat.testBit_and, Nat.testBit_two_pow] using this
  · intro h
    apply Nat.eq_of_testBit_eq
    intro i
    rw [Nat.testBit_and, Nat.testBit_two_pow]
    by_cases hi : j = i
    · subst hi
      simp [h]
    · simp [hi]
theorem or_bit (x j i : Nat) : (x ||| 2 ^ j).testBit i = (x.testBit i || decide (i = j)) := by
  rw [Nat.testBit_or, Nat.testBit_two_pow]
  congr 1
  simp [eq_comm]
/-- A word is written. -/
theorem Words.update {w : World} {mb n : Nat} {f : Nat → Nat → Nat} (hW : Words w mb n f) (hn : n < maxLen) (k r z : Nat) (hk : k ≤ 9223372036854775807) (hr : r ≤ 9223372036854775807) (hz : z < 18446744073709551616) :
    ∃ w', (Instr.mapUpdate 80 (.map (some mb)) (.agg #[.int .i64 (k : Int), .int .i64 (r : Int)]) (.int .u64 (z : Int))).run Try.prog w = .ok () w' ∧ Words w' mb (n + 1) (fun k' r' => if k' = k ∧ r' = r then z else f k' r') ∧ w.grownBy w' (some mb) := by
  obtain ⟨D, hD, hf, hat⟩ := hW
  obtain ⟨l, hl⟩ := spot_key k r hk hr
  obtain ⟨w', hrun, r1, r2⟩ := hD.update spot_keyed Try.underlying80 hn hl (plainElem_int Try.underlying164 (word_wf hz))
  exact ⟨w', hrun, Words.put hD hf hat k r z hz hl r1, r2⟩
/-- What meet answers, and leaves. -/
def MeetPost (q mb n : Nat) (f : Nat → Nat → Nat) (k i : Nat) (w : World) (e : Ending) (w' : World) : Prop :=
  if (f k (i / 64)).testBit (i % 64) = true then e = .returned (.bool false) ∧ Below w.heap.size w w' else
  e = .returned (.bool true) ∧ w.grownBy w' (some mb) ∧ Words w' mb (n + 1) fun k' r' => if k' = k ∧ r' = i / 64 then f k r' ||| 2 ^ (i % 64) else f k' r'
set_option maxHeartbeats 1600000 in
theorem dmeet_any (q mb n : Nat) (f : Nat → Nat → Nat) (inp fv lv : Value) (p : Int) (ev bv : Value) (k i : Nat) (hk : k ≤ 1000000000) (hi : i ≤ 1000000000) (w : World) (hO : Om w q inp fv lv (.map (some mb)) p ev bv) (hW : Words w mb n f) (hn : n + 1 < maxLen) :
    Calls Try.prog 85 #[ptrV q, .int .i64 k, .int .i64 i] w (MeetPost q mb n f k i w) := by
  obtain ⟨r, hr⟩ : ∃ r, i / 64 = r := ⟨_, rfl⟩
  obtain ⟨j, hj⟩ : ∃ j, i % 64 = j := ⟨_, rfl⟩
  have hj64 : j < 64 := by omega
  have hx1 : IntKind.i64.wrap ((i : Int) / 64) = (r : Int) := by
    rw [← hr]
    simp only [IntKind.wrap, IntKind.signed, IntKind.bits]
    simp
    omega
  have hx2 : ((i : Int)).tmod 64 = (j : Int) := by rw [← hj, Int.tmod_eq_emod_of_nonneg (by omega)]; omega
  have hsh := fun W : World => shift_one j hj64 W
  obtain ⟨B, hB⟩ : ∃ B, 2 ^ j = B := ⟨_, rfl⟩
  have hBl : B < 18446744073709551616 := by rw [← hB]; exact Nat.pow_lt_pow_right (by omega) hj64
  rw [hB] at hsh
  have hsh2 : IntKind.u64.wrap (2 ^ min j 64) = (B : Int) := by
    rw [Nat.min_eq_left (by omega), ← hB]
    simp only [IntKind.wrap, IntKind.signed, IntKind.bits]
    have h4 : (2 : Nat) ^ j < 2 ^ 64 := Nat.pow_lt_pow_right (by omega) hj64
    have h5 : ((2 : Int) ^ j) < 2 ^ 64 := by exact_mod_cast h4
    have h6 : (0 : Int) < 2 ^ j := by exact_mod_cast Nat.pow_pos (n := j) (show 0 < 2 by omega)
    push_cast
    simp only [Bool.false_and, if_false, Bool.false_eq_true]
    exact Int.emod_eq_of_lt (by omega) h5
  have hf : ∀ a b, f a b < 18446744073709551616 := by obtain ⟨D, -, h, -⟩ := hW; exact h
  obtain ⟨x, hx⟩ : ∃ x, f k r = x := ⟨_, rfl⟩
  have hxl : x < 18446744073709551616 := by rw [← hx]; exact hf k r
  have hand := bits_and_u64_nat x B hxl hBl
  have hor := bits_or_u64_nat x B hxl hBl
  have hol : x ||| B < 18446744073709551616 := Nat.or_lt_two_pow (n := 64) hxl hBl
  obtain ⟨c, hc⟩ : ∃ c, x &&& B = c := ⟨_, rfl⟩
  obtain ⟨o, ho⟩ : ∃ o, x ||| B = o := ⟨_, rfl⟩
  rw [hc] at hand
  rw [ho] at hor hol
  have hcb : c = 0 ↔ x.testBit j = false := by rw [← hc, ← hB]; exact and_bit x j
  have HRR := Lib.hid hr; have HJJ := Lib.hid hj; have HBB := Lib.hid hB
  have hO0 := hO
  obtain ⟨w1, hw1, b1, hb1, hs1⟩ : ∃ w1, w.alloc (.cells #[.int .i64 (k : Int), .int .i64 (r : Int)] 163) = w1 ∧ Whole w1 w.heap.size 163 #[.int .i64 (k : Int), .int .i64 (r : Int)] ∧ Below w.heap.size w w1 ∧ w1.heap.size = w.heap.size + 1 := ⟨_, rfl, whole_new _ _ _, (Below.refl _ _).alloc (Nat.le_refl _) _, size_new _ _⟩
  have HW1 := Lib.hid hw1; have HB1 := Lib.hid b1; have HBL := Lib.hid hb1; have HO := Lib.hid hO; have HWD := Lib.hid hW; have HOR := Lib.hid ho; have HCB := Lib.hid hcb; have HXX := Lib.hid hx; have HKK := Lib.hid hk; have HR := Lib.hid (show r ≤ 1000000000 by omega); have HF := Lib.hid hf; have HOL := Lib.hid hol
  clear hw1 b1 hb1 hs1 hO hW hr hj hi hk hx hB hc ho hcb hf hol hO0 hBl hxl hj64
  go_enter Try.func85, Try.ntmps85
  go_upto_region 1 with (fail)
  go_region_held3 (fun w' => True) (trivial) (fail)
  rw [HW1.out]
  have hb2 : Below w1.heap.size w1 w1.drew := (Below.refl _ _).drew
  generalize w1.drew = w2 at hb2 ⊢
  have hB2 := HBL.out.trans (hb2.mono HBL.out.size)
  have hO2 := HO.out.below hB2 HO.out.lt
  have hS2 := HB1.out.below hb2 HB1.out.lt
  have hW2 := HWD.out.kept (hB2.block mb HWD.out.lt)
  obtain ⟨-, -, -, c3, -⟩ := om_ten hO2
  have e0 := (hS2.cell 0).trans (rfl : _ = some (Value.int .i64 (k : Int)))
  have e1 := (hS2.cell 1).trans (rfl : _ = some (Value.int .i64 (r : Int)))
  have hlook : ∀ m, (Instr.lookup 80 (.map (some mb)) (.agg #[.int .i64 (k : Int), .int .i64 (r : Int)]) false).run Try.prog (w2.drewN m) = .ok (.int .u64 (x : Int)) (w2.drewN m) := fun m => by
    have h := hW2.kept (w' := w2.drewN m) rfl
    have := h.look k r (by have := HKK.out; omega) (by have := HR.out; omega)
    rw [HXX.out] at this
    exact this
  have HB2 := Lib.hid hB2; have HO2 := Lib.hid hO2; have HS2 := Lib.hid hS2; have HW2 := Lib.hid hW2
  clear hb2 hB2 hO2 hS2 hW2
  go_upto_region 2 with (fail)
  go_big_quiet (fail)
  have hb3 : Below w2.heap.size w2 (w2.drewN nq) := below_draws w2 nq
  generalize w2.drewN nq = w3 at hb3 ⊢
  have hB3 := HB2.out.trans (hb3.mono HB2.out.size)
  have HB3 := Lib.hid hB3
  clear c3 e0 e1 hlook
  by_cases hc0 : c = 0
  · have hz : (((c : Nat) : Int) != 0) = false := by simp [hc0]
    have hbit := HCB.out.1 hc0
    have hO3 := HO2.out.below hb3 HO2.out.lt
    have hS3 := HS2.out.below hb3 HS2.out.lt
    have HW3 := Lib.hid (HW2.out.kept (hb3.block mb HW2.out.lt))
    obtain ⟨-, -, -, c3, -⟩ := om_ten hO3
    have e0 := (hS3.cell 0).trans (rfl : _ = some (Value.int .i64 (k : Int)))
    have e1 := (hS3.cell 1).trans (rfl : _ = some (Value.int .i64 (r : Int)))
    have HBIT := Lib.hid hbit
    clear hc0 hbit hO3 hS3 hb3 hB3
    go_upto_region 5 with (fail)
    obtain ⟨w4, hrun, hw4, hg4⟩ := Words.update (w := w3.drew) (HW3.out.kept rfl) (by omega) k r o (by have := HKK.out; omega) (by have := HR.out; omega) HOL.out
    replace hw4 := Lib.hid hw4; replace hg4 := Lib.hid hg4
    go_region
    all_goals
      go_wp2_with fail
      go_ret
      unfold MeetPost
      rw [HRR.out, HJJ.out, HXX.out, HBB.out, if_neg (by rw [HBIT.out]; decide)]
      refine ⟨rfl, grown_below (HB3.out.drew) hg4.out, ?_⟩
      have := hw4.out
      rw [← HOR.out] at this
      rw [show (fun k' r' => if k' = k ∧ r' = r then f k r' ||| B else f k' r') = fun k' r' => if k' = k ∧ r' = r then x ||| B else f k' r' from funext fun k' => funext fun r' => by
        by_cases h : k' = k ∧ r' = r
        · rw [if_pos h, if_pos h, h.2, HXX.out]
        · rw [if_neg h, if_neg h]]
      exact this
  · have hz : (((c : Nat) : Int) != 0) = true := by simp [hc0]
    have hbit : x.testBit j = true := by
      cases hx : x.testBit j
      · exact absurd (HCB.out.2 hx) hc0
      · rfl
    have HBIT := Lib.hid hbit
    clear hc0 hbit hb3 hB3
    go_wp2_with fail
    go_ret
    unfold MeetPost
    rw [HRR.out, HJJ.out, HXX.out, if_pos HBIT.out]
    exact ⟨rfl, HB3.out⟩
end Go.Proofs.Ytnemacejaiifnaa
