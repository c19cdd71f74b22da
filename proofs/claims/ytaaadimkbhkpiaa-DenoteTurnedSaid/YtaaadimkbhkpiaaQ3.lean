/- Texts merged by program: Sets. No condition. -/
import Derived.Tactics
/- Plain mathematics of sets of runes as lists of ranges: a set's list is given by its runes; what a list does not have; how many runes. No condition. -/
namespace Go.Proofs.Ytaaadimkbhkpiaa

/-- The list l (any list) has the rune c. -/
def HasR (l : List (Int × Int)) (c : Int) : Prop := 0 ≤ c ∧ c ≤ 1114111 ∧ ∃ r ∈ l, r.1 ≤ c ∧ c ≤ r.2
/-- A set, all of it from lo on. -/
def RightFrom : Int → List (Int × Int) → Prop
  | _, [] => True
  | lo, r :: l => lo ≤ r.1 ∧ r.1 ≤ r.2 ∧ r.2 ≤ 1114111 ∧ RightFrom (r.2 + 2) l
def RightR (l : List (Int × Int)) : Prop := RightFrom 0 l
/-- Where the next range may begin. -/
def endOf : Int → List (Int × Int) → Int
  | lo, [] => lo
  | _, r :: l => endOf (r.2 + 2) l

theorem RightFrom.le {lo lo' : Int} : ∀ {l : List (Int × Int)}, RightFrom lo l → lo' ≤ lo → RightFrom lo' l
  | [], _, _ => trivial
  | _ :: _, ⟨h1, h2, h3, h4⟩, h => ⟨by omega, h2, h3, h4⟩
theorem right_append : ∀ (a b : List (Int × Int)) (lo : Int), RightFrom lo (a ++ b) ↔ RightFrom lo a ∧ RightFrom (endOf lo a) b
  | [], b, lo => by simp [RightFrom, endOf]
  | r :: a, b, lo => by
    show (_ ∧ _ ∧ _ ∧ RightFrom (r.2 + 2) (a ++ b)) ↔ (_ ∧ _ ∧ _ ∧ RightFrom (r.2 + 2) a) ∧ RightFrom (endOf (r.2 + 2) a) b
    rw [right_append a b (r.2 + 2)]
    constructor
    · rintro ⟨h1, h2, h3, h4, h5⟩
      exact ⟨⟨h1, h2, h3, h4⟩, h5⟩
    · rintro ⟨⟨h1, h2, h3, h4⟩, h5⟩
      exact ⟨h1, h2, h3, h4, h5⟩
theorem right_has_lo : ∀ (l : List (Int × Int)) (lo c : Int), RightFrom lo l → HasR l c → lo ≤ c
  | [], _, _, _, h => by
    obtain ⟨_, _, r, hr, _⟩ := h
    simp at hr
  | r :: l, lo, c, ⟨h1, h2, _, h4⟩, ⟨h5, h6, q, hq, h7, h8⟩ => by
    rcases List.mem_cons.1 hq with rfl | hq
    · omega
    · have := right_has_lo l (r.2 + 2) c h4 ⟨h5, h6, q, hq, h7, h8⟩
      omega
theorem has_cons (r : Int × Int) (l : List (Int × Int)) (c : Int) : HasR (r :: l) c ↔ (0 ≤ c ∧ c ≤ 1114111 ∧ r.1 ≤ c ∧ c ≤ r.2) ∨ HasR l c := by
  unfold HasR
  simp only [List.mem_cons, exists_eq_or_imp]
  constructor
  · rintro ⟨h1, h2, h3 | h3⟩
    · exact .inl ⟨h1, h2, h3⟩
    · exact .inr ⟨h1, h2, h3⟩
  · rintro (⟨h1, h2, h3⟩ | ⟨h1, h2, h3⟩)
    · exact ⟨h1, h2, .inl h3⟩
    · exact ⟨h1, h2, .inr h3⟩
theorem has_append (a b : List (Int × Int)) (c : Int) : HasR (a ++ b) c ↔ HasR a c ∨ HasR b c := by
  induction a with
  | nil => simp [HasR]
  | cons r a ih => rw [List.cons_append, has_cons, has_cons, ih, or_assoc]
theorem has_nil (c : Int) : ¬ HasR [] c := by simp [HasR]

/-- A set's list is given by its runes. -/
theorem right_unique : ∀ (a b : List (Int × Int)) (lo : Int), 0 ≤ lo → RightFrom lo a → RightFrom lo b → (∀ c, lo ≤ c → (HasR a c ↔ HasR b c)) → a = b
  | [], [], _, _, _, _, _ => rfl
  | [], r :: b, lo, h0, _, ⟨h1, h2, h3, _⟩, h => by
    have := (h r.1 h1).2 ((has_cons _ _ _).2 (.inl ⟨by omega, by omega, by omega, h2⟩))
    exact absurd this (has_nil _)
  | r :: a, [], lo, h0, ⟨h1, h2, h3, _⟩, _, h => by
    have := (h r.1 h1).1 ((has_cons _ _ _).2 (.inl ⟨by omega, by omega, by omega, h2⟩))
    exact absurd this (has_nil _)
  | r :: a, q :: b, lo, h0, ⟨h1, h2, h3, h4⟩, ⟨g1, g2, g3, g4⟩, h => by
    have e1 : r.1 = q.1 := by
      rcases Int.lt_trichotomy r.1 q.1 with hlt | he | hlt
      · have := (h r.1 h1).1 ((has_cons _ _ _).2 (.inl ⟨by omega, by omega, by omega, h2⟩))
        rcases (has_cons _ _ _).1 this with h5 | h5
        · omega
        · have := right_has_lo b _ _ g4 h5
          omega
      · exact he
      · have := (h q.1 g1).2 ((has_cons _ _ _).2 (.inl ⟨by omega, by omega, by omega, g2⟩))
        rcases (has_cons _ _ _).1 this with h5 | h5
        · omega
        · have := right_has_lo a _ _ h4 h5
          omega
    have e2 : r.2 = q.2 := by
      rcases Int.lt_trichotomy r.2 q.2 with hlt | he | hlt
      · have := (h (r.2 + 1) (by omega)).2 ((has_cons _ _ _).2 (.inl ⟨by omega, by omega, by omega, by omega⟩))
        rcases (has_cons _ _ _).1 this with h5 | h5
        · omega
        · have := right_has_lo a _ _ h4 h5
          omega
      · exact he
      · have := (h (q.2 + 1) (by omega)).1 ((has_cons _ _ _).2 (.inl ⟨by omega, by omega, by omega, by omega⟩))
        rcases (has_cons _ _ _).1 this with h5 | h5
        · omega
        · have := right_has_lo b _ _ g4 h5
          omega
    have e : r = q := Prod.ext e1 e2
    subst e
    have := right_unique a b (r.2 + 2) (by omega) h4 g4 fun c hc => by
      have := h c (by omega)
      rw [has_cons, has_cons] at this
      constructor
      · intro h5
        rcases this.1 (.inr h5) with h6 | h6
        · omega
        · exact h6
      · intro h5
        rcases this.2 (.inr h5) with h6 | h6
        · omega
        · exact h6
    rw [this]
/-- Two sets with the same runes are the same list. -/
theorem right_eq (a b : List (Int × Int)) (ha : RightR a) (hb : RightR b) (h : ∀ c, HasR a c ↔ HasR b c) : a = b :=
  right_unique a b 0 (Int.le_refl _) ha hb fun c _ => h c

/-- What the list l (a set from f on) does not have from f on. -/
def notFrom : Int → List (Int × Int) → List (Int × Int)
  | f, [] => if f ≤ 1114111 then [(f, 1114111)] else []
  | f, r :: l => (if f < r.1 then [(f, r.1 - 1)] else []) ++ notFrom (r.2 + 1) l
theorem not_right : ∀ (l : List (Int × Int)) (f : Int), RightFrom f l → RightFrom f (notFrom f l)
  | [], f, _ => by
    unfold notFrom
    split
    · exact ⟨Int.le_refl _, by assumption, Int.le_refl _, trivial⟩
    · trivial
  | r :: l, f, ⟨h1, h2, h3, h4⟩ => by
    have ih := not_right l (r.2 + 1) (h4.le (by omega))
    unfold notFrom
    split
    · exact ⟨Int.le_refl _, by omega, by omega, ih.le (by show r.1 - 1 + 2 ≤ _; omega)⟩
    · exact ih.le (by omega)
theorem not_has : ∀ (l : List (Int × Int)) (f c : Int), 0 ≤ f → RightFrom f l → (HasR (notFrom f l) c ↔ f ≤ c ∧ c ≤ 1114111 ∧ ¬ HasR l c)
  | [], f, c, h0, _ => by
    unfold notFrom
    split
    · rw [has_cons]
      have := has_nil c
      constructor
      · rintro (h | h)
        · exact ⟨h.2.2.1, h.2.1, this⟩
        · exact absurd h this
      · rintro ⟨h1, h2, _⟩
        exact .inl ⟨by omega, h2, h1, h2⟩
    · constructor
      · intro h
        exact absurd h (has_nil c)
      · rintro ⟨h1, h2, _⟩
        omega
  | r :: l, f, c, h0, ⟨h1, h2, h3, h4⟩ => by
    have ih := not_has l (r.2 + 1) c (by omega) (h4.le (by omega))
    have hlo : HasR l c → r.2 + 2 ≤ c := right_has_lo l _ _ h4
    unfold notFrom
    rw [has_append, ih, has_cons]
    constructor
    · rintro (h | ⟨h5, h6, h7⟩)
      · split at h
        · rcases (has_cons _ _ _).1 h with h | h
          · refine ⟨h.2.2.1, h.2.1, ?_⟩
            have h8 := h.2.2.2
            simp only at h8
            rintro (h9 | h9)
            · omega
            · have := hlo h9
              omega
          · exact absurd h (has_nil c)
        · exact absurd h (has_nil c)
      · refine ⟨by omega, h6, ?_⟩
        rintro (h9 | h9)
        · omega
        · exact h7 h9
    · rintro ⟨h5, h6, h7⟩
      have h8 : ¬ (0 ≤ c ∧ c ≤ 1114111 ∧ r.1 ≤ c ∧ c ≤ r.2) := fun h => h7 (.inl h)
      by_cases hc : c < r.1
      · left
        rw [if_pos (by omega)]
        exact (has_cons _ _ _).2 (.inl ⟨by omega, h6, h5, by show c ≤ r.1 - 1; omega⟩)
      · right
        exact ⟨by omega, h6, fun h => h7 (.inr h)⟩
def countR : List (Int × Int) → Int
  | [] => 0
  | r :: l => (r.2 - r.1 + 1) + countR l
theorem count_append : ∀ (a b : List (Int × Int)), countR (a ++ b) = countR a + countR b
  | [], b => by simp [countR]
  | r :: a, b => by
    rw [List.cons_append]
    show _ + countR (a ++ b) = _ + countR a + countR b
    rw [count_append a b]
    omega
theorem count_not : ∀ (l : List (Int × Int)) (f : Int), f ≤ 1114112 → RightFrom f l → countR l + countR (notFrom f l) = 1114112 - f
  | [], f, h, _ => by
    unfold notFrom
    split
    · simp [countR]
      omega
    · simp [countR]
      omega
  | r :: l, f, h, ⟨h1, h2, h3, h4⟩ => by
    have ih := count_not l (r.2 + 1) (by omega) (h4.le (by omega))
    unfold notFrom
    rw [count_append]
    show _ + countR l + _ = _
    split
    · simp [countR]
      omega
    · have : f = r.1 := by omega
      simp [countR]
      omega
theorem count_bound : ∀ (l : List (Int × Int)) (f : Int), f ≤ 1114112 → RightFrom f l → 0 ≤ countR l ∧ countR l ≤ 1114112 - f
  | [], f, h, _ => by simp [countR]; omega
  | r :: l, f, h, ⟨h1, h2, h3, h4⟩ => by
    by_cases hr : r.2 + 2 ≤ 1114112
    · have ih := count_bound l (r.2 + 2) hr h4
      show 0 ≤ _ + countR l ∧ _ + countR l ≤ _
      omega
    · have : l = [] := by
        rcases l with _ | ⟨q, l⟩
        · rfl
        · obtain ⟨g1, g2, g3, _⟩ := h4
          omega
      subst this
      simp [countR]
      omega
theorem right_len : ∀ (l : List (Int × Int)) (f : Int), f ≤ 1114112 → RightFrom f l → (l.length : Int) ≤ 1114112 - f
  | [], f, h, _ => by simp; omega
  | r :: l, f, h, ⟨h1, h2, h3, h4⟩ => by
    by_cases hr : r.2 + 2 ≤ 1114112
    · have ih := right_len l (r.2 + 2) hr h4
      simp only [List.length_cons]
      omega
    · have : l = [] := by
        rcases l with _ | ⟨q, l⟩
        · rfl
        · obtain ⟨g1, g2, g3, _⟩ := h4
          omega
      subst this
      simp
      omega
/-- What each range is cut to. -/
def cutR (r : Int × Int) : Int × Int := (max r.1 0, min r.2 1114111)
def Fit (r : Int × Int) : Prop := 0 ≤ r.1 ∧ r.1 ≤ r.2 ∧ r.2 ≤ 1114111
theorem has_one (r : Int × Int) (c : Int) : HasR [r] c ↔ 0 ≤ c ∧ c ≤ 1114111 ∧ r.1 ≤ c ∧ c ≤ r.2 := by
  rw [has_cons]
  exact ⟨fun h => h.resolve_right (has_nil c), .inl⟩
theorem has_cut (r : Int × Int) (c : Int) : HasR [cutR r] c ↔ HasR [r] c := by
  rw [has_one, has_one]
  unfold cutR
  simp only
  omega
theorem has_cut_none (r : Int × Int) (h : (cutR r).2 < (cutR r).1) (c : Int) : ¬ HasR [r] c := by
  rw [← has_cut, has_one]
  omega
theorem fit_cut (r : Int × Int) (h : ¬ (cutR r).2 < (cutR r).1) : Fit (cutR r) := by
  unfold cutR Fit at *
  simp only at *
  omega
/-- Ranges sorted by where they begin, each of runes. -/
def Sorted (s : List (Int × Int)) : Prop := s.Pairwise (fun a b => a.1 ≤ b.1) ∧ ∀ r ∈ s, Fit r
theorem sorted_nil : Sorted [] := ⟨List.Pairwise.nil, by simp⟩
theorem sorted_put (s : List (Int × Int)) (x : Int × Int) (k : Nat) (hs : Sorted s) (hx : Fit x) (hk : k ≤ s.length) (hlo : ∀ j (h : j < s.length), j + 1 = k → s[j].1 ≤ x.1) (hhi : ∀ j (h : j < s.length), k ≤ j → x.1 < s[j].1) :
    Sorted (s.take k ++ x :: s.drop k) := by
  obtain ⟨h1, h2⟩ := hs
  have hp := List.pairwise_iff_getElem.1 h1
  have hT : ∀ a ∈ s.take k, a.1 ≤ x.1 := fun a ha => by
    obtain ⟨j, hj, rfl⟩ := List.mem_iff_getElem.1 ha
    rw [List.length_take] at hj
    rw [List.getElem_take]
    have h3 := hlo (k - 1) (by omega) (by omega)
    rcases Nat.lt_or_ge j (k - 1) with h4 | h4
    · exact Int.le_trans (hp j (k - 1) (by omega) (by omega) h4) h3
    · have : j = k - 1 := by omega
      subst this
      exact h3
  have hD : ∀ b ∈ s.drop k, x.1 < b.1 := fun b hb => by
    obtain ⟨j, hj, rfl⟩ := List.mem_iff_getElem.1 hb
    rw [List.length_drop] at hj
    rw [List.getElem_drop]
    exact hhi (k + j) (by omega) (by omega)
  refine ⟨?_, fun r hr => ?_⟩
  · rw [List.pairwise_append]
    refine ⟨h1.sublist (List.take_sublist _ _), List.pairwise_cons.2 ⟨fun b hb => Int.le_of_lt (hD b hb), h1.sublist (List.drop_sublist _ _)⟩, fun a ha b hb => ?_⟩
    rcases List.mem_cons.1 hb with rfl | hb
    · exact hT a ha
    · exact Int.le_trans (hT a ha) (Int.le_of_lt (hD b hb))
  · rcases List.mem_append.1 hr with hr | hr
    · exact h2 r (List.mem_of_mem_take hr)
    · rcases List.mem_cons.1 hr with rfl | hr
      · exact hx
      · exact h2 r (List.mem_of_mem_drop hr)
theorem has_put (s : List (Int × Int)) (x : Int × Int) (k : Nat) (c : Int) : HasR (s.take k ++ x :: s.drop k) c ↔ HasR s c ∨ HasR [x] c := by
  have h := has_append (s.take k) (s.drop k) c
  rw [List.take_append_drop] at h
  rw [has_append, has_cons, h, has_one]
  constructor
  · rintro (h | h | h)
    · exact .inl (.inl h)
    · exact .inr h
    · exact .inl (.inr h)
  · rintro ((h | h) | h)
    · exact .inl h
    · exact .inr (.inr h)
    · exact .inr (.inl h)
theorem end_append : ∀ (o : List (Int × Int)) (p : Int × Int) (lo : Int), endOf lo (o ++ [p]) = p.2 + 2
  | [], _, _ => rfl
  | r :: o, p, _ => end_append o p (r.2 + 2)
/-- A range that touches the last one is put together with it. -/
theorem join_right (o : List (Int × Int)) (p x : Int × Int) (h : RightR (o ++ [p])) (hx : Fit x) : RightR (o ++ [(p.1, max p.2 x.2)]) := by
  obtain ⟨h1, h2⟩ := (right_append o [p] 0).1 h
  obtain ⟨h3, h4, h5, _⟩ := h2
  refine (right_append _ _ _).2 ⟨h1, ⟨h3, ?_, ?_, trivial⟩⟩
  · show p.1 ≤ max p.2 x.2
    omega
  · have := hx.2.2
    show max p.2 x.2 ≤ 1114111
    omega
theorem join_has (o : List (Int × Int)) (p x : Int × Int) (h1 : p.1 ≤ x.1) (h2 : x.1 ≤ p.2 + 1) (c : Int) :
    HasR (o ++ [(p.1, max p.2 x.2)]) c ↔ HasR (o ++ [p]) c ∨ HasR [x] c := by
  rw [has_append, has_append, has_one, has_one, has_one]
  simp only
  constructor
  · rintro (h | ⟨g1, g2, g3, g4⟩)
    · exact .inl (.inl h)
    · by_cases hc : c ≤ p.2
      · exact .inl (.inr ⟨g1, g2, g3, hc⟩)
      · exact .inr ⟨g1, g2, by omega, by omega⟩
  · rintro ((h | ⟨g1, g2, g3, g4⟩) | ⟨g1, g2, g3, g4⟩)
    · exact .inl h
    · exact .inr ⟨g1, g2, g3, by omega⟩
    · exact .inr ⟨g1, g2, by omega, by omega⟩
/-- A range that doesn't touch the last one stands behind it. -/
theorem put_right (o : List (Int × Int)) (p x : Int × Int) (h : RightR (o ++ [p])) (hx : Fit x) (h2 : p.2 + 1 < x.1) : RightR (o ++ [p] ++ [x]) := by
  refine (right_append _ _ _).2 ⟨h, ?_⟩
  rw [end_append]
  exact ⟨by omega, hx.2.1, hx.2.2, trivial⟩
theorem one_right (x : Int × Int) (hx : Fit x) : RightR [x] := ⟨hx.1, hx.2.1, hx.2.2, trivial⟩
theorem right_fit : ∀ (l : List (Int × Int)) (lo : Int), 0 ≤ lo → RightFrom lo l → ∀ r ∈ l, Fit r
  | [], _, _, _, r, hr => by simp at hr
  | q :: l, lo, h0, ⟨h1, h2, h3, h4⟩, r, hr => by
    rcases List.mem_cons.1 hr with rfl | hr
    · exact ⟨by omega, h2, h3⟩
    · exact right_fit l (q.2 + 2) (by omega) h4 r hr
end Go.Proofs.Ytaaadimkbhkpiaa
