/- Texts merged by program: PgRound. No condition. -/
import Derived.Test.YthffdmncdoogpaaK22
import Derived.Sort.AssemblyPlain
set_option linter.unusedVariables false
/- One round of slices.Sort's pdqsort, as what it makes of its list, in variables. No memory. -/
namespace Go.Proofs.Ythffdmncdoogpaa
open Go Go.RowKit Go.Sort

/-- The round over dk from a up to b, its limit lim, the marks wb and wp, towards F: behind breakPatterns D1 and LM; the pivot's place C and hint HN; behind the turning D2, PV, HT; behind the trial PI, and whether it was sorted PB. -/
structure RoundIs (F dk : Array Int) (a b lim : Nat) (wb wp : Bool) (D1 : Array Int) (LM C : Nat) (HN : Hint) (D2 : Array Int) (PV : Nat) (HT : Hint) (PI : Array Int) (PB : Bool) : Prop where
  lm : LM ≤ lim
  s1 : D1.size = dk.size
  s2 : D2.size = dk.size
  s3 : PI.size = dk.size
  c1 : a ≤ C ∧ C < b
  pv : a ≤ PV ∧ PV < b
  brk : wb = false → D1 = breakPatterns dk a b ∧ LM = lim - 1
  kept : wb = true → D1 = dk ∧ LM = lim
  piv : choosePivot ltInt D1 a b = (C, HN)
  dec : HN = .decreasing → D2 = reverseRange D1 a b ∧ PV = (b - 1) - (C - a) ∧ HT = .increasing
  not : HN ≠ .decreasing → D2 = D1 ∧ PV = C ∧ HT = HN
  yes : (wb && wp && decide (HT = .increasing)) = true → partialInsertionSort ltInt D2 a b = (PI, PB)
  no : (wb && wp && decide (HT = .increasing)) = false → PI = D2 ∧ PB = false
  done : PB = true → F = PI
  same : PB = false → (decide (a > 0) && !ltInt PI[a - 1]! PI[PV]!) = true → ∀ mid d4, partitionEqual ltInt PI a b PV = (mid, d4) →
    a < mid ∧ mid ≤ b ∧ d4.size = dk.size ∧ Below ltInt mid b d4 ∧ pdq ltInt d4 mid b LM wb wp = F
  part : PB = false → (decide (a > 0) && !ltInt PI[a - 1]! PI[PV]!) = false → ∀ mid ap d4, Sort.partition ltInt PI a b PV = (mid, ap, d4) →
    a ≤ mid ∧ mid < b ∧ d4.size = dk.size ∧
      (mid - a < b - mid → Below ltInt a mid d4 ∧ ∀ d5, pdq ltInt d4 a mid LM true true = d5 → d5.size = dk.size ∧ Below ltInt (mid + 1) b d5 ∧ pdq ltInt d5 (mid + 1) b LM (decide (mid - a ≥ (b - a) / 8)) ap = F) ∧
      (¬ mid - a < b - mid → Below ltInt (mid + 1) b d4 ∧ ∀ d5, pdq ltInt d4 (mid + 1) b LM true true = d5 → d5.size = dk.size ∧ Below ltInt a mid d5 ∧ pdq ltInt d5 a mid LM (decide (b - mid ≥ (b - a) / 8)) ap = F)

theorem round_has {F dk : Array Int} {a b lim : Nat} {wb wp : Bool} (h12 : ¬ b - a ≤ 12) (hl : ¬ lim = 0) (hb : b ≤ dk.size) (hB : Below ltInt a b dk) (hF : pdq ltInt dk a b lim wb wp = F) :
    ∃ D1 LM C HN D2 PV HT PI PB, RoundIs F dk a b lim wb wp D1 LM C HN D2 PV HT PI PB := by
  have par : partialInsertionSort_stmt ltInt := partialInsertionSort_holds
  obtain ⟨s1, B1, c1, s2, B2, pv, s3, B3⟩ := rd_facts (limit := lim) (wb := wb) (wp := wp) swo_ltInt par reverseRange_holds (show a < b by omega) hb hB
  let q := rd ltInt dk a b lim wb wp
  refine ⟨q.d1, q.lim, q.c.1, q.c.2, q.d2, q.pivot, q.hint, q.pi.1, q.pi.2, ⟨rd_lim_le (lt := ltInt) (d := dk) (a := a) (b := b) (limit := lim) (wb := wb) (wp := wp), s1, s2, s3, c1, pv, ?_, ?_, rd_c.symm, ?_, ?_, fun h => (rd_pi_yes h).symm, fun h => ⟨congrArg Prod.fst (rd_pi_no h), congrArg Prod.snd (rd_pi_no h)⟩, ?_, ?_, ?_⟩⟩
  · rintro rfl; exact rd_false
  · rintro rfl; exact rd_true
  · exact fun h => rd_dec h
  · exact fun h => rd_not h
  · intro h
    rw [← hF, pdq_done h12 hl h]
  · intro h0 h1 mid d4 hx
    have hc := h1
    simp only [Bool.and_eq_true, decide_eq_true_eq, Bool.not_eq_true'] at hc
    obtain ⟨r1, r2, r3, r4, _⟩ := round_eq swo_ltInt (partitionEqual_holds ltInt) hc.1 pv.1 pv.2 (show b ≤ _ by omega) B3 hc.2 hx
    refine ⟨r1, r2, r3.trans s3, r4, ?_⟩
    rw [← hF, pdq_eq h12 hl h0 h1 (by rw [hx]; exact ⟨r1, r2⟩), hx]
  · intro h0 h1 mid ap d4 hx
    obtain ⟨r1, r2, r3, r4, r5, r6, r7⟩ := round_part swo_ltInt (partition_holds ltInt) pv.1 pv.2 (show b ≤ _ by omega) B3 hx
    refine ⟨r1, r2, r3.trans s3, fun h => ⟨r4, ?_⟩, fun h => ⟨r5, ?_⟩⟩
    · rintro d5 rfl
      obtain ⟨p, s⟩ := pdq_sorts ltInt swo_ltInt d4 a mid (rd ltInt dk a b lim wb wp).lim true true r1 (by omega) r4
      exact ⟨p.1.trans (r3.trans s3), (r6 _ p s).1, by rw [← hF, pdq_left h12 hl h0 h1 (by rw [hx]; exact ⟨r1, r2⟩) (by rw [hx]; exact h), hx]⟩
    · rintro d5 rfl
      obtain ⟨p, s⟩ := pdq_sorts ltInt swo_ltInt d4 (mid + 1) b (rd ltInt dk a b lim wb wp).lim true true (by omega) (by omega) r5
      exact ⟨p.1.trans (r3.trans s3), (r7 _ p s).1, by rw [← hF, pdq_right h12 hl h0 h1 (by rw [hx]; exact ⟨r1, r2⟩) (by rw [hx]; exact h), hx]⟩
end Go.Proofs.Ythffdmncdoogpaa
