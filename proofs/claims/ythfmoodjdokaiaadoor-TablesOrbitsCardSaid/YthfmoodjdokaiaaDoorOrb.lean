/- Plain mathematics of orbits: who is in one, all of an orbit have the same one; what folding adds. No condition. -/
import Derived.Test.YthfmoodjdokaiaaDoorROrbit
set_option linter.unusedVariables false
namespace Go.Proofs.YthfmoodjdokaiaaDoor

theorem great_iff (c : Int) : greatB c = true ↔ (¬ (c = 75 ∨ c = 83 ∨ c = 197 ∨ c = 924)) ∧ ((65 ≤ c ∧ c ≤ 90) ∨ (192 ≤ c ∧ c ≤ 214) ∨ (216 ≤ c ∧ c ≤ 222) ∨ (913 ≤ c ∧ c ≤ 929) ∨ (932 ≤ c ∧ c ≤ 937) ∨ (1040 ≤ c ∧ c ≤ 1071)) := by
  unfold greatB greatL
  simp only [List.any_cons, List.any_nil, Bool.or_false, Bool.and_eq_true, Bool.or_eq_true, decide_eq_true_eq, Bool.not_eq_true', Bool.or_eq_false_iff, decide_eq_false_iff_not]
  omega
/-- The runes that are alike with more than one, or with one not 32 away. -/
def InG (c : Int) : Prop := c = 75 ∨ c = 107 ∨ c = 8490 ∨ c = 83 ∨ c = 115 ∨ c = 383 ∨ c = 197 ∨ c = 229 ∨ c = 8491 ∨ c = 181 ∨ c = 924 ∨ c = 956 ∨ c = 931 ∨ c = 962 ∨ c = 963 ∨ c = 223 ∨ c = 7838 ∨ c = 255 ∨ c = 376
theorem inG_of {c : Int} {g : List Int} (hg : g ∈ groupsR) (hc : c ∈ g) : InG c := by
  unfold groupsR at hg
  simp only [List.mem_cons, List.not_mem_nil, or_false] at hg
  unfold InG
  rcases hg with rfl | rfl | rfl | rfl | rfl | rfl | rfl <;> simp at hc <;> omega
theorem find_of_inG {c : Int} (h : InG c) : ∃ g ∈ groupsR, c ∈ g := by
  unfold InG at h
  rcases h with rfl | rfl | rfl | rfl | rfl | rfl | rfl | rfl | rfl | rfl | rfl | rfl | rfl | rfl | rfl | rfl | rfl | rfl | rfl <;> decide
theorem find_none {c : Int} (h : ¬ InG c) : groupsR.find? (fun g => g.contains c) = none := find_miss fun q hq hc => h (inG_of hq hc)
theorem group_find : ∀ g ∈ groupsR, ∀ c ∈ g, groupsR.find? (fun g => g.contains c) = some g := by unfold groupsR; decide
theorem orb_none {c : Int} (h : c < 0 ∨ 1114111 < c) : orbR c = [] := by unfold orbR; rw [if_pos h]
theorem orb_group {c : Int} {g : List Int} (hg : g ∈ groupsR) (hc : c ∈ g) : orbR c = g := by
  have hb := inG_of hg hc
  unfold InG at hb
  unfold orbR
  rw [if_neg (by omega), group_find g hg c hc]
theorem orb_plain {c : Int} (h0 : 0 ≤ c) (h1 : c ≤ 1114111) (h : ¬ InG c) : orbR c = if greatB c then [c, c + 32] else if 32 ≤ c ∧ greatB (c - 32) = true then [c - 32, c] else [c] := by
  unfold orbR
  rw [if_neg (by omega), find_none h]
/-- What an orbit is. -/
theorem orb_cases (c : Int) (h0 : 0 ≤ c) (h1 : c ≤ 1114111) :
    (∃ g ∈ groupsR, c ∈ g ∧ orbR c = g) ∨ (¬ InG c ∧ greatB c = true ∧ orbR c = [c, c + 32]) ∨ (¬ InG c ∧ greatB c = false ∧ 32 ≤ c ∧ greatB (c - 32) = true ∧ orbR c = [c - 32, c]) ∨ (¬ InG c ∧ greatB c = false ∧ ¬ (32 ≤ c ∧ greatB (c - 32) = true) ∧ orbR c = [c]) := by
  by_cases hG : InG c
  · obtain ⟨g, hg, hc⟩ := find_of_inG hG
    exact .inl ⟨g, hg, hc, orb_group hg hc⟩
  · have hp := orb_plain h0 h1 hG
    by_cases hg : greatB c = true
    · rw [if_pos hg] at hp
      exact .inr (.inl ⟨hG, hg, hp⟩)
    · rw [if_neg hg] at hp
      have hg' : greatB c = false := by simpa using hg
      by_cases hs : 32 ≤ c ∧ greatB (c - 32) = true
      · rw [if_pos hs] at hp
        exact .inr (.inr (.inl ⟨hG, hg', hs.1, hs.2, hp⟩))
      · rw [if_neg hs] at hp
        exact .inr (.inr (.inr ⟨hG, hg', hs, hp⟩))
theorem orb_self (c : Int) (h0 : 0 ≤ c) (h1 : c ≤ 1114111) : c ∈ orbR c := by
  rcases orb_cases c h0 h1 with ⟨g, _, hc, e⟩ | ⟨_, _, e⟩ | ⟨_, _, _, _, e⟩ | ⟨_, _, _, e⟩ <;> rw [e] <;> first | exact hc | simp
theorem orb_rune (c : Int) (h0 : 0 ≤ c) (h1 : c ≤ 1114111) : ∀ d ∈ orbR c, 0 ≤ d ∧ d ≤ 1114111 := by
  intro d hd
  rcases orb_cases c h0 h1 with ⟨g, hg, hc, e⟩ | ⟨_, hg, e⟩ | ⟨_, _, h32, hg, e⟩ | ⟨_, _, _, e⟩ <;> rw [e] at hd
  · have := inG_of hg hd
    unfold InG at this
    omega
  · have := greatB_bound hg
    simp at hd
    omega
  · have := greatB_bound hg
    simp at hd
    omega
  · simp at hd
    omega
theorem orb_len (c : Int) : (orbR c).length ≤ 3 := by
  by_cases h : 0 ≤ c ∧ c ≤ 1114111
  · rcases orb_cases c h.1 h.2 with ⟨g, hg, hc, e⟩ | ⟨_, hg, e⟩ | ⟨_, _, h32, hg, e⟩ | ⟨_, _, _, e⟩ <;> rw [e]
    · exact (groups_rise g hg).2
    · simp
    · simp
    · simp
  · rw [orb_none (by omega)]
    simp
theorem orb_high (c : Int) (h0 : 12288 ≤ c) (h1 : c ≤ 1114111) : orbR c = [c] := by
  rcases orb_cases c (by omega) h1 with ⟨g, hg, hc, e⟩ | ⟨_, hg, e⟩ | ⟨_, _, h32, hg, e⟩ | ⟨_, _, _, e⟩
  · have := inG_of hg hc
    unfold InG at this
    omega
  · have := greatB_bound hg
    omega
  · have := greatB_bound hg
    omega
  · exact e
/-- All of an orbit have the same one. -/
theorem orb_same (c d : Int) (h : d ∈ orbR c) : orbR d = orbR c := by
  by_cases hc : 0 ≤ c ∧ c ≤ 1114111
  · rcases orb_cases c hc.1 hc.2 with ⟨g, hg, hcg, e⟩ | ⟨hi, hg, e⟩ | ⟨hi, hgf, h32, hg, e⟩ | ⟨_, _, _, e⟩ <;> rw [e] at h ⊢
    · exact orb_group hg h
    · have hb := greatB_bound hg
      have hgi := (great_iff c).1 hg
      simp at h
      rcases h with rfl | rfl
      · exact e
      · have hn : ¬ InG (c + 32) := by
          unfold InG at hi ⊢
          omega
        have hng : greatB (c + 32) = false := by
          cases h : greatB (c + 32)
          · rfl
          · have := (great_iff _).1 h
            omega
        have hs : c + 32 - 32 = c := by omega
        rw [orb_plain (by omega) (by omega) hn, hng, hs, hg]
        simp
        omega
    · have hb := greatB_bound hg
      have hgi := (great_iff _).1 hg
      simp at h
      rcases h with rfl | rfl
      · have hn : ¬ InG (c - 32) := by
          unfold InG at hi ⊢
          omega
        have hs : c - 32 + 32 = c := by omega
        rw [orb_plain (by omega) (by omega) hn, hg, hs]
        simp
      · exact e
    · simp at h
      rw [h]
      exact e
  · rw [orb_none (by omega)] at h
    simp at h
theorem orb_rise (c : Int) : RiseN (orbR c) := by
  by_cases h : 0 ≤ c ∧ c ≤ 1114111
  · rcases orb_cases c h.1 h.2 with ⟨g, hg, hc, e⟩ | ⟨_, hg, e⟩ | ⟨_, _, h32, hg, e⟩ | ⟨_, _, _, e⟩ <;> rw [e]
    · exact (groups_rise g hg).1
    · simp [RiseN]
      omega
    · simp [RiseN]
      omega
    · simp [RiseN]
  · rw [orb_none (by omega)]
    exact List.Pairwise.nil
/-- The runes of the orbits of all that l has. -/
def FoldP (l : List (Int × Int)) (c : Int) : Prop := ∃ d, HasR l d ∧ c ∈ orbR d
theorem fold_split (l : List (Int × Int)) (c : Int) : FoldP l c ↔ HasR l c ∨ ∃ d, HasR l d ∧ d < 12288 ∧ c ∈ orbR d := by
  constructor
  · rintro ⟨d, hd, hc⟩
    by_cases h : d < 12288
    · exact .inr ⟨d, hd, h, hc⟩
    · rw [orb_high d (by omega) hd.2.1] at hc
      have : c = d := by simpa using hc
      rw [this]
      exact .inl hd
  · rintro (h | ⟨d, hd, _, hc⟩)
    · exact ⟨c, h, orb_self c h.1 h.2.1⟩
    · exact ⟨d, hd, hc⟩
/-- Folding twice is folding once. -/
theorem fold_twice (l k : List (Int × Int)) (h : ∀ c, HasR k c ↔ FoldP l c) (c : Int) : FoldP k c ↔ FoldP l c := by
  constructor
  · rintro ⟨d, hd, hc⟩
    obtain ⟨e, he, hd'⟩ := (h d).1 hd
    exact ⟨e, he, by rw [← orb_same e d hd']; exact hc⟩
  · rintro ⟨d, hd, hc⟩
    exact ⟨c, (h c).2 ⟨d, hd, hc⟩, by have := orb_rune d hd.1 hd.2.1 c hc; exact orb_self c this.1 this.2⟩
end Go.Proofs.YthfmoodjdokaiaaDoor
