/- Texts merged by program: PwNum, PwSet. No condition. -/
import Derived.Test.YthnddabcmhplkaaDoorK4
import Derived.Test.YthnddabcmhplkaaDoorK19
import Derived.Test.YthnddabcmhplkaaDoorK9
import Derived.Test.YthnddabcmhplkaaDoorK13
import Derived.Test.YthnddabcmhplkaaDoorK6
import Derived.Deep.DeepCutAuto
import Derived.Deep.RegionHeld3
import Derived.Deep.RegionLaw
import Derived.Deep.RegionWith
import Derived.BigQuiet
import Derived.StillTailTactics
import Derived.Lib.ItoaNum
import Derived.Laws.EntriesVeiled
set_option linter.unusedVariables false
/- Numbers, digit by digit: a closure that calls itself. -/
namespace Go.Proofs.YthnddabcmhplkaaDoor
open Go Go.RowKit

/-- The digits of a number in a base. -/
def numL (b n : Nat) : List UInt8 := if h : n < b ∨ b < 2 then [hexD n] else numL b (n / b) ++ [hexD (n % b)]
termination_by n
decreasing_by
  exact Nat.div_lt_self (by omega) (by omega)
theorem num_16 : ∀ n : Nat, numL 16 n = hexL n := by
  intro n
  induction n using Nat.strongRecOn with
  | _ n ih =>
    rw [numL, hexL]
    by_cases h : n < 16
    · rw [dif_pos (.inl h), dif_pos h]
    · rw [dif_neg (by omega), dif_neg h, ih (n / 16) (by omega)]
theorem hexD_low (d : Nat) (h : d < 10) : hexD d = UInt8.ofNat (48 + d) := by unfold hexD; rw [if_pos h]
theorem num_10 : ∀ n : Nat, numL 10 n = Lib.decDigits n := by
  intro n
  induction n using Nat.strongRecOn with
  | _ n ih =>
    rw [numL, Lib.decDigits]
    by_cases h : n < 10
    · rw [dif_pos (.inl h), dif_pos h, hexD_low n h]
    · rw [dif_neg (by omega), dif_neg h, ih (n / 10) (by omega), hexD_low _ (by omega)]
theorem num_len (b : Nat) (hb : 2 ≤ b) : ∀ (k n : Nat), n < 2 ^ (k + 1) → (numL b n).length ≤ k + 1
  | 0, n, h => by
    rw [numL, dif_pos (.inl (by omega))]
    exact Nat.le_refl _
  | k + 1, n, h => by
    rw [numL]
    split
    · exact Nat.succ_le_succ (Nat.zero_le _)
    · have h1 : n / b ≤ n / 2 := Nat.div_le_div_left hb (by decide)
      have h2 : n / 2 < 2 ^ (k + 1) := by rw [Nat.pow_succ] at h; exact Nat.div_lt_of_lt_mul (by rw [Nat.mul_comm]; exact h)
      have := num_len b hb k (n / b) (by omega)
      simp only [List.length_append, List.length_singleton]
      omega
/-- What stands in memory while digits are put. -/
structure NumSt (w0 W : World) (q1 q2 q3 : Nat) (base : Nat) (v : Value) (l : List UInt8) : Prop where
  b1 : Whole W q1 3 #[.int .i64 base]
  b2 : Whole W q2 65 #[.func (.func 73) #[] #[.pointer (some ⟨q1, 0, none⟩), .pointer (some ⟨q2, 0, none⟩), .pointer (some ⟨q3, 0, none⟩)]]
  b3 : Whole W q3 62 #[v]
  row : OwnB W w0.heap.size v l
  low : w0.heap.size ≤ q3
  below : Below w0.heap.size w0 W
theorem whole_ne9 {w : World} {g g' : Nat} {t t' : TypeId} {cs cs' : Array Value} (h : Whole w g t cs) (h' : Whole w g' t' cs') (hne : t ≠ t') : g ≠ g' := by
  rintro rfl
  unfold Whole at h h'
  rw [h] at h'
  injection h' with h'
  injection h' with _ h'
  exact hne h'
theorem digit16 (d : Nat) (h : d < 16) (h' : d < (⟨#[48, 49, 50, 51, 52, 53, 54, 55, 56, 57, 97, 98, 99, 100, 101, 102]⟩ : ByteArray).size) : (⟨#[48, 49, 50, 51, 52, 53, 54, 55, 56, 57, 97, 98, 99, 100, 101, 102]⟩ : ByteArray)[d] = hexD d := by
  rcases (show d = 0 ∨ d = 1 ∨ d = 2 ∨ d = 3 ∨ d = 4 ∨ d = 5 ∨ d = 6 ∨ d = 7 ∨ d = 8 ∨ d = 9 ∨ d = 10 ∨ d = 11 ∨ d = 12 ∨ d = 13 ∨ d = 14 ∨ d = 15 by omega) with rfl | rfl | rfl | rfl | rfl | rfl | rfl | rfl | rfl | rfl | rfl | rfl | rfl | rfl | rfl | rfl <;> rfl
theorem NumSt.drew {w0 W : World} {q1 q2 q3 base : Nat} {v : Value} {l : List UInt8} (h : NumSt w0 W q1 q2 q3 base v l) (n : Nat) : NumSt w0 (W.drewN n) q1 q2 q3 base v l :=
  ⟨h.b1.below (below_draws W n) h.b1.lt, h.b2.below (below_draws W n) h.b2.lt, h.b3.below (below_draws W n) h.b3.lt, h.row.below (below_draws W n), h.low, h.below.trans ((below_draws W n).mono h.below.size)⟩
def DigZ (w0 : World) (q1 q2 q3 base : Nat) (l : List UInt8) (e : Ending) (w' : World) : Prop := (∃ x, e = .returned x) ∧ ∃ v', NumSt w0 w' q1 q2 q3 base v' l
set_option maxHeartbeats 1600000 in
set_option maxRecDepth 100000 in
theorem digs_any (w0 : World) (q1 q2 q3 base : Nat) (hb : 2 ≤ base) (hb2 : base ≤ 16) : ∀ (n : Nat) (l : List UInt8) (v : Value) (W : World), n ≤ 1114111 → l.length ≤ 100 → (∀ m ≤ n, (l ++ numL base m).length ≤ 200) → NumSt w0 W q1 q2 q3 base v l →
    Calls Tryd.prog 73 #[.int .i64 n, .pointer (some ⟨q1, 0, none⟩), .pointer (some ⟨q2, 0, none⟩), .pointer (some ⟨q3, 0, none⟩)] W (DigZ w0 q1 q2 q3 base (l ++ numL base n)) := by
  intro n
  induction n using Nat.strongRecOn with
  | _ n ih =>
  intro l v W hn hl hlen hst
  have IH := Lib.hid ih; have HST := Lib.hid hst; have HLEN := Lib.hid hlen
  have c1 : W.cell? ⟨q1, 0, none⟩ = some (.int .i64 base) := (hst.b1.cell 0)
  have c2 : W.cell? ⟨q2, 0, none⟩ = some (.func (.func 73) #[] #[.pointer (some ⟨q1, 0, none⟩), .pointer (some ⟨q2, 0, none⟩), .pointer (some ⟨q3, 0, none⟩)]) := (hst.b2.cell 0)
  have c3 : W.cell? ⟨q3, 0, none⟩ = some v := (hst.b3.cell 0)
  clear ih hst hlen
  go_enter Tryd.func73, Tryd.ntmps73
  by_cases hlt : base ≤ n
  · have hltz : (base : Int) ≤ (n : Int) := by omega
    have hq : n / base < n := Nat.div_lt_self (by omega) (by omega)
    have hm : n % base < base := Nat.mod_lt _ (by omega)
    have hnum : numL base n = numL base (n / base) ++ [hexD (n % base)] := by rw [numL, dif_neg (by omega)]
    obtain ⟨d, hd⟩ : ∃ d, n / base = d := ⟨_, rfl⟩
    obtain ⟨r, hr⟩ : ∃ r, n % base = r := ⟨_, rfl⟩
    have hdiv : Int.tdiv (n : Int) (base : Int) = (d : Int) := by rw [Int.tdiv_eq_ediv_of_nonneg (by omega), ← hd]; rfl
    have hmod : Int.tmod (n : Int) (base : Int) = (r : Int) := by rw [Int.tmod_eq_emod_of_nonneg (by omega), ← hr]; rfl
    rw [hd] at hq hnum
    rw [hr] at hm hnum
    have hwd : IntKind.i64.wrap (d : Int) = (d : Int) := wrap_in _ (by omega)
    have hwr : IntKind.i64.wrap (r : Int) = (r : Int) := wrap_in _ (by omega)
    have HNUM := Lib.hid hnum
    have hb0 : ((base : Int) == 0) = false := by rw [beq_eq_false_iff_ne]; omega
    have hb00 : ¬ base = 0 := by omega
    have hsz : r < (⟨#[48, 49, 50, 51, 52, 53, 54, 55, 56, 57, 97, 98, 99, 100, 101, 102]⟩ : ByteArray).size := by show r < 16; omega
    have hdg := digit16 r (by omega) hsz
    have h16 : (r : Int) < 16 := by omega
    have hl2 := HLEN.out d (by omega)
    have HI := Lib.hid fun k => IH.out d hq l v (W.drewN k) (by omega) hl (fun m hm => HLEN.out m (by omega)) (HST.out.drew k)
    clear hd hr hnum
    obtain ⟨L, hL⟩ : ∃ L, l ++ numL base d = L := ⟨_, rfl⟩
    have HLL := Lib.hid (show l ++ numL base n = L ++ [hexD r] by rw [HNUM.out, ← hL, List.append_assoc])
    rw [hL] at HI hl2
    rw [HLL.out]
    clear hL
    go_upto_region 1 with (fail)
    go_region_with (go_at_call 73; refine (HI.out _).mono ?_; rintro e w2 ⟨⟨x, rfl⟩, v2, hst2⟩; have HS2 := Lib.hid hst2; clear hst2)
    all_goals
      have e1 : w2.cell? ⟨q1, 0, none⟩ = some (.int .i64 base) := (HS2.out.b1.cell 0)
      have e3 : w2.cell? ⟨q3, 0, none⟩ = some v2 := (HS2.out.b3.cell 0)
      have z3 : ∀ o, (w2.alloc o).cell? ⟨q3, 0, none⟩ = some v2 := fun o => (HS2.out.b3.alloc o).cell 0
      clear c1 c2 c3 HI
      go_upto_region 2 with (fail)
      go_region_law (first | (refine step_append_byte rfl (.tmp 13) (.tmp 18) rfl w0.heap.size v2 L rfl (HS2.out.row.below ((Below.refl _ w2).alloc (Nat.le_refl _) _).drew) w2.heap.size (hexD r) rfl (by simp) (by omega) (by have := HS2.out.below.size; simp; omega) ?_; intro v3 w3 ho3 hg3; have hb3 : Whole w3 q3 62 #[v2] := Whole.grown ((HS2.out.b3.alloc _).drew) hg3 (own_whole_ne HS2.out.row HS2.out.b3 (by decide)); have hb1 : Whole w3 q1 3 #[.int .i64 base] := Whole.grown ((HS2.out.b1.alloc _).drew) hg3 (own_whole_ne HS2.out.row HS2.out.b1 (by decide)); have hb2 : Whole w3 q2 65 _ := Whole.grown ((HS2.out.b2.alloc _).drew) hg3 (own_whole_ne HS2.out.row HS2.out.b2 (by decide)); have k1 : w3.cell? ⟨q3, 0, none⟩ = some v2 := hb3.cell 0; have k2 : w3.cell? ⟨q1, 0, none⟩ = some (.int .i64 base) := hb1.cell 0; have k3 : w3.frozen? ⟨q3, 0, none⟩ = false := hb3.free 0; have KB1 := Lib.hid hb1; have KB2 := Lib.hid hb2; have KB3 := Lib.hid hb3; have KBW := Lib.hid (((HS2.out.below.alloc HS2.out.below.size _).drew).grown hg3 (by have := HS2.out.below.size; simp; omega) (fun j hj => (HS2.out.row.lt j hj).1)); have KO := Lib.hid ho3; clear hb1 hb2 hb3 hg3; obtain ⟨a3, n3, rfl⟩ := own_slice ho3; clear ho3))
      all_goals
        have hr : OwnB (w3.setCell ⟨q3, 0, none⟩ (.slice a3 (L.length + 1) n3)) w0.heap.size (.slice a3 (L.length + 1) n3) (L ++ [hexD r]) := by
          have h := own_store KO.out KB3.out (by decide) 0 (.slice a3 (L.length + 1) n3)
          unfold OwnB
          simp only [List.length_append, List.length_singleton] at h ⊢
          exact h
        go_end0
        exact ⟨⟨_, rfl⟩, _, KB1.out.far (whole_ne9 KB1.out KB3.out (by decide)) 0 _, KB2.out.far (whole_ne9 KB2.out KB3.out (by decide)) 0 _, KB3.out.store 0 _, hr, HS2.out.low, KBW.out.setCell (p := ⟨q3, 0, none⟩) HS2.out.low _⟩
  · have hltz : ¬ (base : Int) ≤ (n : Int) := by omega
    have hnum : numL base n = [hexD n] := by rw [numL, dif_pos (.inl (by omega))]
    have hmod : Int.tmod (n : Int) (base : Int) = (n : Int) := by rw [Int.tmod_eq_emod_of_nonneg (by omega), Int.emod_eq_of_lt (by omega) (by omega)]
    have hwr : IntKind.i64.wrap (n : Int) = (n : Int) := wrap_in _ (by omega)
    have hb0 : ((base : Int) == 0) = false := by rw [beq_eq_false_iff_ne]; omega
    have hb00 : ¬ base = 0 := by omega
    have hsz : n < (⟨#[48, 49, 50, 51, 52, 53, 54, 55, 56, 57, 97, 98, 99, 100, 101, 102]⟩ : ByteArray).size := by show n < 16; omega
    have hdg := digit16 n (by omega) hsz
    have h16 : (n : Int) < 16 := by omega
    rw [hnum]
    have z3 : ∀ o, (W.alloc o).cell? ⟨q3, 0, none⟩ = some v := fun o => (HST.out.b3.alloc o).cell 0
    clear hnum hlt
    go_upto_region 2 with (fail)
    go_region_law (first | (refine step_append_byte rfl (.tmp 13) (.tmp 18) rfl w0.heap.size v l rfl (HST.out.row.below ((Below.refl _ W).alloc (Nat.le_refl _) _).drew) W.heap.size (hexD n) rfl (by simp) (by omega) (by have := HST.out.below.size; simp; omega) ?_; intro v3 w3 ho3 hg3; have hb3 : Whole w3 q3 62 #[v] := Whole.grown ((HST.out.b3.alloc _).drew) hg3 (own_whole_ne HST.out.row HST.out.b3 (by decide)); have hb1 : Whole w3 q1 3 #[.int .i64 base] := Whole.grown ((HST.out.b1.alloc _).drew) hg3 (own_whole_ne HST.out.row HST.out.b1 (by decide)); have hb2 : Whole w3 q2 65 _ := Whole.grown ((HST.out.b2.alloc _).drew) hg3 (own_whole_ne HST.out.row HST.out.b2 (by decide)); have k1 : w3.cell? ⟨q3, 0, none⟩ = some v := hb3.cell 0; have k2 : w3.cell? ⟨q1, 0, none⟩ = some (.int .i64 base) := hb1.cell 0; have k3 : w3.frozen? ⟨q3, 0, none⟩ = false := hb3.free 0; have KB1 := Lib.hid hb1; have KB2 := Lib.hid hb2; have KB3 := Lib.hid hb3; have KBW := Lib.hid (((HST.out.below.alloc HST.out.below.size _).drew).grown hg3 (by have := HST.out.below.size; simp; omega) (fun j hj => (HST.out.row.lt j hj).1)); have KO := Lib.hid ho3; clear hb1 hb2 hb3 hg3; obtain ⟨a3, n3, rfl⟩ := own_slice ho3; clear ho3))
    all_goals
      have hr : OwnB (w3.setCell ⟨q3, 0, none⟩ (.slice a3 (l.length + 1) n3)) w0.heap.size (.slice a3 (l.length + 1) n3) (l ++ [hexD n]) := by
        have h := own_store KO.out KB3.out (by decide) 0 (.slice a3 (l.length + 1) n3)
        unfold OwnB
        simp only [List.length_append, List.length_singleton] at h ⊢
        exact h
      go_end0
      exact ⟨⟨_, rfl⟩, _, KB1.out.far (whole_ne9 KB1.out KB3.out (by decide)) 0 _, KB2.out.far (whole_ne9 KB2.out KB3.out (by decide)) 0 _, KB3.out.store 0 _, hr, HST.out.low, KBW.out.setCell (p := ⟨q3, 0, none⟩) HST.out.low _⟩
set_option maxHeartbeats 1600000 in
theorem number_any (n base : Nat) (w : World) (hb : 2 ≤ base) (hb2 : base ≤ 16) (hn : n ≤ 1114111) :
    Calls Tryd.prog 62 #[.int .i64 n, .int .i64 base] w fun e w' => e = .returned (.string (textB (numL base n))) ∧ Below w.heap.size w w' := by
  have hlen : ∀ m ≤ n, (numL base m).length ≤ 22 := fun m hm => Nat.le_trans (num_len base hb 20 m (by omega)) (by decide)
  obtain ⟨w3, hw3⟩ : ∃ w3, ((w.alloc (.cells #[.int .i64 base] 3)).alloc (.cells #[.slice none 0 0] 62)).alloc (.cells #[.nilFunc] 65) = w3 := ⟨_, rfl⟩
  have s1 : (w.alloc (.cells #[.int .i64 base] 3)).heap.size = w.heap.size + 1 := size_new9 _ _
  have s2 : ((w.alloc (.cells #[.int .i64 base] 3)).alloc (.cells #[.slice none 0 0] 62)).heap.size = w.heap.size + 1 + 1 := by rw [size_new9, s1]
  have b1 : Whole w3 w.heap.size 3 #[.int .i64 base] := by rw [← hw3]; exact (Whole.alloc (Whole.alloc (heap_alloc_new w _) _) _)
  have b3 : Whole w3 (w.heap.size + 1) 62 #[.slice none 0 0] := by rw [← hw3, ← s1]; exact Whole.alloc (heap_alloc_new _ _) _
  have b2 : Whole w3 (w.heap.size + 1 + 1) 65 #[.nilFunc] := by rw [← hw3, ← s2]; exact heap_alloc_new _ _
  have hB : Below w.heap.size w w3 := by rw [← hw3]; exact (((Below.refl _ w).alloc (Nat.le_refl _) _).alloc (by rw [s1]; omega) _).alloc (by rw [s2]; omega) _
  have c2 : w3.cell? ⟨w.heap.size + 1 + 1, 0, none⟩ = some .nilFunc := b2.cell 0
  have f2 : w3.frozen? ⟨w.heap.size + 1 + 1, 0, none⟩ = false := b2.free 0
  have B1 := Lib.hid b1; have B2 := Lib.hid b2; have B3 := Lib.hid b3; have HB := Lib.hid hB; have HW3 := Lib.hid hw3
  clear b1 b2 b3 hB hw3 s1 s2
  go_enter Tryd.func62, Tryd.ntmps62
  go_upto_region 3 with (fail)
  rw [HW3.out]
  have hst : NumSt w (w3.setCell ⟨w.heap.size + 1 + 1, 0, none⟩ (.func (.func 73) #[] #[.pointer (some ⟨w.heap.size, 0, none⟩), .pointer (some ⟨w.heap.size + 1 + 1, 0, none⟩), .pointer (some ⟨w.heap.size + 1, 0, none⟩)])) w.heap.size (w.heap.size + 1 + 1) (w.heap.size + 1) base (.slice none 0 0) [] :=
    ⟨B1.out.far (by omega) 0 _, B2.out.store 0 _, B3.out.far (by omega) 0 _, ownB_none _ _, by omega, HB.out.setCell (p := ⟨w.heap.size + 1 + 1, 0, none⟩) (by show w.heap.size ≤ w.heap.size + 1 + 1; omega) _⟩
  have HD := Lib.hid (digs_any w _ _ _ base hb hb2 n [] _ _ hn (by simp) (fun m hm => by have := hlen m hm; simp; omega) hst)
  have k2 : (w3.setCell ⟨w.heap.size + 1 + 1, 0, none⟩ (.func (.func 73) #[] #[.pointer (some ⟨w.heap.size, 0, none⟩), .pointer (some ⟨w.heap.size + 1 + 1, 0, none⟩), .pointer (some ⟨w.heap.size + 1, 0, none⟩)])).cell? ⟨w.heap.size + 1 + 1, 0, none⟩ = some (.func (.func 73) #[] #[.pointer (some ⟨w.heap.size, 0, none⟩), .pointer (some ⟨w.heap.size + 1 + 1, 0, none⟩), .pointer (some ⟨w.heap.size + 1, 0, none⟩)]) := (hst.b2.cell 0)
  clear hst hlen
  go_upto_region 4 with (fail)
  generalize w3.setCell ⟨w.heap.size + 1 + 1, 0, none⟩ (.func (.func 73) #[] #[.pointer (some ⟨w.heap.size, 0, none⟩), .pointer (some ⟨w.heap.size + 1 + 1, 0, none⟩), .pointer (some ⟨w.heap.size + 1, 0, none⟩)]) = w4 at k2 HD ⊢
  clear c2 f2
  go_wp2_with fail
  refine HD.out.mono ?_
  rintro e w5 ⟨⟨x, rfl⟩, v5, hst5⟩
  have c5 : w5.cell? ⟨w.heap.size + 1, 0, none⟩ = some v5 := hst5.b3.cell 0
  have hcv := hst5.row.conv
  rw [List.nil_append] at hcv
  have HB5 := Lib.hid hst5.below
  clear hst5 HD k2
  go_wp2_with fail
  go_ret
  exact ⟨rfl, HB5.out⟩
set_option maxHeartbeats 1600000 in
theorem numbered_any (n : Nat) (w : World) (hn : n ≤ 1114111) : Calls Tryd.prog 47 #[.int .i32 n] w fun e w' => e = .returned (.string (textB (92 :: 120 :: 123 :: (hexL n ++ [125])))) ∧ Below w.heap.size w w' := by
  have x1 : IntKind.i64.wrap (n : Int) = (n : Int) := wrap_in _ (by omega)
  have HN := Lib.hid (number_any n 16 w (by decide) (by decide) hn)
  rw [num_16] at HN
  have hlen : (hexL n).length ≤ 22 := by rw [← num_16]; exact Nat.le_trans (num_len 16 (by decide) 20 n (by omega)) (by decide)
  obtain ⟨h, hh⟩ : ∃ h, hexL n = h := ⟨_, rfl⟩
  rw [hh] at HN hlen ⊢
  clear hh
  go_enter Tryd.func47, Tryd.ntmps47
  go_wp2_with fail
  refine HN.out.mono ?_
  rintro e w1 ⟨rfl, hb⟩
  have HB := Lib.hid hb
  have HJ := Lib.hid (joined_new [⟨#[92, 120, 123]⟩, textB h, ⟨#[125]⟩] w1 3 #[.string ⟨#[92, 120, 123]⟩, .string (textB h), .string ⟨#[125]⟩] rfl rfl 9 (by decide) (by simp [flatB, textB_list, show (⟨#[92, 120, 123]⟩ : ByteArray).toList = [92, 120, 123] by kernel_rfl, show (⟨#[125]⟩ : ByteArray).toList = [125] by kernel_rfl]; omega))
  clear hb
  go_wp2_with fail
  refine HJ.out.mono ?_
  rintro e w2 ⟨rfl, hb2⟩
  have HB2 := Lib.hid (HB.out.trans (hb2.mono HB.out.size))
  clear hb2
  go_wp2_with fail
  go_ret
  refine ⟨?_, HB2.out⟩
  simp [flatB, textB_list, show (⟨#[92, 120, 123]⟩ : ByteArray).toList = [92, 120, 123] by kernel_rfl, show (⟨#[125]⟩ : ByteArray).toList = [125] by kernel_rfl]
end Go.Proofs.YthnddabcmhplkaaDoor
/- The program's text of a class. -/
namespace Go.Proofs.YthnddabcmhplkaaDoor
open Go Go.RowKit

def partsP (r : Int × Int) : List ByteArray := textB (codeP r.1.toNat) :: (if r.2 = r.1 then [] else [⟨#[45]⟩, textB (codeP r.2.toNat)])
def allP (l : List (Int × Int)) : List ByteArray := ⟨#[91]⟩ :: l.flatMap partsP
theorem flatB_append (a b : List ByteArray) : flatB (a ++ b) = flatB a ++ flatB b := by simp [flatB]
theorem flat_part (r : Int × Int) : flatB (partsP r) = rangeP r := by
  unfold partsP rangeP
  split <;> simp [flatB, textB_list, show (⟨#[45]⟩ : ByteArray).toList = [45] by kernel_rfl]
theorem flat_parts : ∀ l : List (Int × Int), flatB (l.flatMap partsP) = rangesP l
  | [] => rfl
  | r :: l => by
    rw [List.flatMap_cons, flatB_append, flat_part, flat_parts l]
    rfl
theorem flat_all (l : List (Int × Int)) : flatB (allP l ++ [⟨#[93]⟩]) = setP l := by
  unfold allP setP
  rw [List.cons_append, show flatB (⟨#[91]⟩ :: (l.flatMap partsP ++ [⟨#[93]⟩])) = 91 :: flatB (l.flatMap partsP ++ [⟨#[93]⟩]) by simp [flatB, show (⟨#[91]⟩ : ByteArray).toList = [91] by kernel_rfl], flatB_append, flat_parts]
  simp [flatB, show (⟨#[93]⟩ : ByteArray).toList = [93] by kernel_rfl]
theorem part_few (r : Int × Int) : (partsP r).length ≤ 3 := by unfold partsP; split <;> simp
theorem parts_few : ∀ l : List (Int × Int), (l.flatMap partsP).length ≤ 3 * l.length
  | [] => Nat.zero_le _
  | r :: l => by
    have h1 := part_few r
    have h2 := parts_few l
    rw [List.flatMap_cons, List.length_append, List.length_cons]
    omega
theorem all_take (l : List (Int × Int)) (k : Nat) (h : k < l.length) : allP (l.take (k + 1)) = allP (l.take k) ++ partsP l[k] := by
  unfold allP
  rw [List.take_succ_eq_append_getElem h, List.flatMap_append]
  simp
set_option maxHeartbeats 3200000 in
set_option maxRecDepth 100000 in
theorem ofSet_any (v : Value) (l : List (Int × Int)) (w : World) (h : Rgs w v l) (hr : RightR l) : Calls Tryd.prog 17 #[v] w fun e w' => e = .returned (.string (textB (setP l))) ∧ Below w.heap.size w w' := by
  obtain ⟨a, c, rfl, h2, h3, h4, h5, h6⟩ := h
  have hlen : l.length ≤ 1114112 := by have := right_len l 0 (by omega) hr; omega
  have HTOP := Lib.hid (right_tops l 0 hr)
  have H5 := Lib.hid h5
  obtain ⟨w1, hw1⟩ : ∃ w1, w.alloc (.cells #[.string ⟨#[91]⟩] 9) = w1 := ⟨_, rfl⟩
  have hO1 : OwnZ w1 w.heap.size (.slice (some ⟨w.heap.size, 0, none⟩) 1 1) (allP (l.take 0)) := by rw [← hw1]; exact ownS_lit w _ (Nat.le_refl _) [⟨#[91]⟩] 1 rfl (by decide) _ rfl
  have hB1 : Below w.heap.size w w1 := by rw [← hw1]; exact (Below.refl _ w).alloc (Nat.le_refl _) _
  have HW1 := Lib.hid hw1; have HO1 := Lib.hid hO1; have HB1 := Lib.hid hB1; have HL := Lib.hid hlen
  obtain ⟨n, hn⟩ : ∃ n, l.length = n := ⟨_, rfl⟩
  rw [hn] at h2 hlen ⊢
  have HN := Lib.hid hn
  clear h5 h6 h4 hr hw1 hO1 hB1 hn
  go_enter Tryd.func17, Tryd.ntmps17
  go_upto_region 2 with (fail)
  rw [HW1.out]
  go_wp2_with fail
  go_loopw [3, 9] (fun vp i wr => ∃ k : Nat, k ≤ n ∧ i = .int .i64 k ∧ OwnZ wr w.heap.size vp (allP (l.take k)) ∧ Below w.heap.size w wr) (fun _ i _ => n - (intOf i).toNat)
  case atStart => exact ⟨0, Nat.zero_le _, rfl, HO1.out, HB1.out⟩
  case round =>
    obtain ⟨k, hk, rfl, hO, hB⟩ := hrel
    have HO := Lib.hid hO; have HB := Lib.hid hB
    obtain ⟨va, vc, hvp⟩ := hO.slice
    subst hvp
    have hfew : (allP (l.take k)).length ≤ 3400000 := by
      have h1 := parts_few (l.take k)
      have h2 : (l.take k).length ≤ l.length := by rw [List.length_take]; exact Nat.min_le_right _ _
      have h3 := HL.out
      unfold allP
      rw [List.length_cons]
      omega
    have HFW := Lib.hid hfew
    clear hO hB hfew
    by_cases hkn : k < n
    · have hkl : k < l.length := by rw [HN.out]; exact hkn
      rcases H5.out with h5 | ⟨q, o, rfl, hc⟩
      · rw [h5] at hkl; simp at hkl
      obtain ⟨c1, c2⟩ := hc k hkl
      have htop := HTOP.out l[k] (List.getElem_mem hkl)
      have hat := all_take l k hkl
      obtain ⟨y, hy⟩ : ∃ y, l[k] = y := ⟨_, rfl⟩
      rw [hy] at c1 c2 htop hat
      obtain ⟨y1, y2⟩ := y
      simp only at c1 c2 htop
      obtain ⟨n1, rfl⟩ : ∃ n1 : Nat, y1 = (n1 : Int) := ⟨y1.toNat, by omega⟩
      obtain ⟨n2, rfl⟩ : ∃ n2 : Nat, y2 = (n2 : Int) := ⟨y2.toNat, by omega⟩
      have d1 := (HB.out.cell (p := ⟨q, o + k * 2, none⟩) (World.block_lt_of_cell? w _ c1)).trans c1
      have d2 := (HB.out.cell (p := ⟨q, o + k * 2 + 1, none⟩) (World.block_lt_of_cell? w _ c2)).trans c2
      have HAT := Lib.hid hat
      obtain ⟨w2, hw2⟩ : ∃ w2, wr.alloc (.cells #[.int .i32 (n1 : Int), .int .i32 (n2 : Int)] 59) = w2 := ⟨_, rfl⟩
      have hb2 : Below wr.heap.size wr w2 := by rw [← hw2]; exact (Below.refl _ wr).alloc (Nat.le_refl _) _
      have hE2 : Whole w2 wr.heap.size 59 #[.int .i32 (n1 : Int), .int .i32 (n2 : Int)] := by rw [← hw2]; exact heap_alloc_new wr _
      have g1 : w2.cell? ⟨wr.heap.size, 0, none⟩ = some (.int .i32 (n1 : Int)) := hE2.cell 0
      have g2 : w2.cell? ⟨wr.heap.size, 1, none⟩ = some (.int .i32 (n2 : Int)) := hE2.cell 1
      have HN1 := Lib.hid fun W => numbered_any n1 W (by omega)
      have HN2 := Lib.hid fun W => numbered_any n2 W (by omega)
      have HW2 := Lib.hid hw2; have HE2 := Lib.hid hE2
      have HO2 := Lib.hid (HO.out.below hb2)
      have HB2 := Lib.hid (HB.out.trans (hb2.mono HB.out.size))
      obtain ⟨L0, hL0⟩ : ∃ L0, allP (l.take k) = L0 := ⟨_, rfl⟩
      rw [hL0] at HO2 HAT HFW ⊢
      clear c1 c2 hat hy hw2 hb2 hE2 hc hL0 HO HB
      go_upto_region 5 with (fail)
      rw [HW2.out]
      clear d1 d2
      go_wp2_with fail
      refine (HN1.out _).mono ?_
      rintro e w3 ⟨rfl, hb3⟩
      obtain ⟨X1, hX1⟩ : ∃ X1, textB (92 :: 120 :: 123 :: (hexL n1 ++ [125])) = X1 := ⟨_, rfl⟩
      rw [hX1]
      have HX1 := Lib.hid hX1
      have HO3 := Lib.hid (HO2.out.below hb3)
      have HB3 := Lib.hid (HB2.out.trans (hb3.mono HB2.out.size))
      have HE3 := Lib.hid (HE2.out.below hb3 HE2.out.lt)
      have hs3 := HB3.out.size
      clear hb3 hX1 g1 g2
      go_wp2_with (at_builtin; refine append_texts rfl (.tmp 13) (.tmp 17) rfl w.heap.size _ L0 rfl (HO3.out.below ((Below.refl _ w3).alloc (Nat.le_refl _) _)) w3.heap.size 1 [X1] rfl rfl (texts_new w3 [X1] _ rfl _) ?c2 ?c3 ?_)
      case c2 => have := HFW.out; omega
      case c3 => rw [size_new9]; omega
      intro v4 w4 ho4 hg4
      have HB4 := Lib.hid ((HB3.out.alloc hs3 _).grown hg4 (by rw [size_new9]; omega) (fun j hj => (HO3.out.lt j hj).1))
      have hE4 := (HE3.out.alloc (.cells #[.string X1] 9)).grown hg4 (own_whole_ne HO3.out HE3.out (by decide))
      obtain ⟨O1, hO1⟩ : ∃ O1, L0 ++ [X1] = O1 := ⟨_, rfl⟩
      rw [hO1] at ho4
      have HO1 := Lib.hid hO1
      have hz1 : O1.length ≤ 3400001 := by have := HFW.out; rw [← hO1]; simp; omega
      have HZ1 := Lib.hid hz1
      clear hO1 hz1
      have HO4 := Lib.hid ho4
      have HE4 := Lib.hid hE4
      have g1 : w4.cell? ⟨wr.heap.size, 0, none⟩ = some (.int .i32 (n1 : Int)) := hE4.cell 0
      have g2 : w4.cell? ⟨wr.heap.size, 1, none⟩ = some (.int .i32 (n2 : Int)) := hE4.cell 1
      obtain ⟨va4, vc4, hv4⟩ := ho4.slice
      subst hv4
      clear ho4 hg4 hE4 HO3 HO2
      by_cases hnn : n2 = n1
      · subst hnn
        have HPQ := Lib.hid (show partsP ((n2 : Int), (n2 : Int)) = [X1] by unfold partsP; rw [if_pos rfl, ← HX1.out]; rfl)
        go_wp2_with fail
        go_roundw
        case rel => exact ⟨k + 1, hkn, by go_num, by rw [HAT.out, HPQ.out, HO1.out]; exact HO4.out, HB4.out⟩
        case measure => simp [intOf]; omega
      · have hne : ((n2 : Int) != (n1 : Int)) = true := by rw [bne_iff_ne]; omega
        have HPQ := Lib.hid (show partsP ((n1 : Int), (n2 : Int)) = [X1] ++ [⟨#[45]⟩, textB (codeP n2)] by unfold partsP; rw [if_neg (by simp only; omega), ← HX1.out]; rfl)
        clear hnn
        go_wp2_with fail
        refine (HN2.out _).mono ?_
        rintro e w5 ⟨rfl, hb5⟩
        obtain ⟨X2, hX2⟩ : ∃ X2, textB (92 :: 120 :: 123 :: (hexL n2 ++ [125])) = X2 := ⟨_, rfl⟩
        rw [hX2]
        have HX2 := Lib.hid (show textB (codeP n2) = X2 from hX2)
        have HO5 := Lib.hid (HO4.out.below hb5)
        have HB5 := Lib.hid (HB4.out.trans (hb5.mono HB4.out.size))
        have hs5 := HB5.out.size
        clear hb5 hX2 g1 g2
        go_wp2_with (at_builtin; refine append_texts rfl (.tmp 24) (.tmp 28) rfl w.heap.size _ O1 rfl (HO5.out.below ((Below.refl _ w5).alloc (Nat.le_refl _) _)) w5.heap.size 2 [⟨#[45]⟩, X2] rfl rfl (texts_new w5 [⟨#[45]⟩, X2] _ rfl _) ?c2 ?c3 ?_)
        case c2 => have := HZ1.out; omega
        case c3 => rw [size_new9]; omega
        intro v6 w6 ho6 hg6
        have HB6 := Lib.hid ((HB5.out.alloc hs5 _).grown hg6 (by rw [size_new9]; omega) (fun j hj => (HO5.out.lt j hj).1))
        obtain ⟨O2, hO2⟩ : ∃ O2, O1 ++ [⟨#[45]⟩, X2] = O2 := ⟨_, rfl⟩
        rw [hO2] at ho6
        obtain ⟨va6, vc6, hv6⟩ := ho6.slice
        subst hv6
        have HO2 := Lib.hid hO2
        have HO6 := Lib.hid ho6
        clear ho6 hg6 hO2
        go_wp2_with fail
        go_roundw
        case rel => exact ⟨k + 1, hkn, by go_num, by rw [HAT.out, HPQ.out, HX2.out, ← List.append_assoc, HO1.out, HO2.out]; exact HO6.out, HB6.out⟩
        case measure => simp [intOf]; omega
    · have hkn' : k = n := by omega
      have hall : l.take k = l := List.take_of_length_le (by rw [HN.out]; omega)
      rw [hall] at HO HFW ⊢
      have HOO := Lib.hid HO.out
      clear hall
      have hs := HB.out.size
      go_wp2_with (at_builtin; refine append_texts rfl (.tmp 31) (.tmp 32) rfl w.heap.size _ (allP l) rfl (HOO.out.below ((Below.refl _ wr).alloc (Nat.le_refl _) _)) wr.heap.size 1 [⟨#[93]⟩] rfl rfl (texts_new wr [⟨#[93]⟩] _ rfl _) ?c2 ?c3 ?_)
      case c2 => have := HFW.out; omega
      case c3 => rw [size_new9]; omega
      intro v4 w4 ho4 hg4
      have HB4 := Lib.hid ((HB.out.alloc hs _).grown hg4 (by rw [size_new9]; omega) (fun j hj => (HOO.out.lt j hj).1))
      have hfl := flat_all l
      have hzl : (allP l ++ [(⟨#[93]⟩ : ByteArray)]).length ≤ 3400001 := by have := HFW.out; simp; omega
      have hne0 : allP l ++ [(⟨#[93]⟩ : ByteArray)] ≠ [] := by simp
      generalize allP l ++ [(⟨#[93]⟩ : ByteArray)] = O1 at ho4 hfl hzl hne0
      obtain ⟨g, cc, hv4, hcc, hgl, htx⟩ := ho4.texts hne0
      subst hv4
      have HJ := Lib.hid (joined_any g 0 cc O1 w4 htx hgl (by omega) hcc (by
        rw [hfl]
        have h1 := ranges_le l (fun r hr => by have := HTOP.out r hr; omega)
        have h2 := HL.out
        unfold setP
        simp
        omega))
      rw [hfl] at HJ
      clear hfl hzl hne0
      clear ho4 hg4 hcc hgl htx
      go_wp2_with fail
      refine HJ.out.mono ?_
      rintro e w5 ⟨rfl, hb5⟩
      have HB5 := Lib.hid (HB4.out.trans (hb5.mono HB4.out.size))
      clear hb5
      go_wp2_with fail
      go_ret
      exact ⟨rfl, HB5.out⟩
end Go.Proofs.YthnddabcmhplkaaDoor
