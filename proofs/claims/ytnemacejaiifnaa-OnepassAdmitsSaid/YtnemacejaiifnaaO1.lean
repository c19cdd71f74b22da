/- Texts merged by program: Sets, PgMath, OeMath, OeAdm, OeRun, OeFind, OeChain. No condition. -/
import Derived.Tactics
set_option linter.unusedVariables false
/- Plain mathematics of sets of runes as lists of ranges: a set's list is given by its runes; what a list does not have; how many runes. No condition. -/
set_option linter.unusedSimpArgs false
namespace Go.Proofs.Ytnemacejaiifnaa

/-- The list l (any list) has the rune c. -/
def HasR (l : List (Int × Int)) (c : Int) : Prop := 0 ≤ c ∧ c ≤ 1114111 ∧ ∃ r ∈ l, r.1 ≤ c ∧ c ≤ r.2
/-- A set, all of it from lo on. -/
def RightFrom : Int → List (Int × Int) → Prop
  | _, [] => True
  | lo, r :: l => lo ≤ r.1 ∧ r.1 ≤ r.2 ∧ r.2 ≤ 1114111 ∧ RightFrom (r.2 + 2) l
def RightR (l : List (Int × Int)) : Prop := RightFrom 0 l
/-- Where the next range may begin. -/
def endOf : Int → List (Int × Int) → Int
  | lo, [] => lo
  | _, r :: l => endOf (r.2 + 2) l

theorem RightFrom.le {lo lo' : Int} : ∀ {l : List (Int × Int)}, RightFrom lo l → lo' ≤ lo → RightFrom lo' l
  | [], _, _ => trivial
  | _ :: _, ⟨h1, h2, h3, h4⟩, h => ⟨by omega, h2, h3, h4⟩
theorem right_append : ∀ (a b : List (Int × Int)) (lo : Int), RightFrom lo (a ++ b) ↔ RightFrom lo a ∧ RightFrom (endOf lo a) b
  | [], b, lo => by simp [RightFrom, endOf]
  | r :: a, b, lo => by
    show (_ ∧ _ ∧ _ ∧ RightFrom (r.2 + 2) (a ++ b)) ↔ (_ ∧ _ ∧ _ ∧ RightFrom (r.2 + 2) a) ∧ RightFrom (endOf (r.2 + 2) a) b
    rw [right_append a b (r.2 + 2)]
    constructor
    · rintro ⟨h1, h2, h3, h4, h5⟩
      exact ⟨⟨h1, h2, h3, h4⟩, h5⟩
    · rintro ⟨⟨h1, h2, h3, h4⟩, h5⟩
      exact ⟨h1, h2, h3, h4, h5⟩
theorem right_has_lo : ∀ (l : List (Int × Int)) (lo c : Int), RightFrom lo l → HasR l c → lo ≤ c
  | [], _, _, _, h => by
    obtain ⟨_, _, r, hr, _⟩ := h
    simp at hr
  | r :: l, lo, c, ⟨h1, h2, _, h4⟩, ⟨h5, h6, q, hq, h7, h8⟩ => by
    rcases List.mem_cons.1 hq with rfl | hq
    · omega
    · have := right_has_lo l (r.2 + 2) c h4 ⟨h5, h6, q, hq, h7, h8⟩
      omega
theorem has_cons (r : Int × Int) (l : List (Int × Int)) (c : Int) : HasR (r :: l) c ↔ (0 ≤ c ∧ c ≤ 1114111 ∧ r.1 ≤ c ∧ c ≤ r.2) ∨ HasR l c := by
  unfold HasR
  simp only [List.mem_cons, exists_eq_or_imp]
  constructor
  · rintro ⟨h1, h2, h3 | h3⟩
    · exact .inl ⟨h1, h2, h3⟩
    · exact .inr ⟨h1, h2, h3⟩
  · rintro (⟨h1, h2, h3⟩ | ⟨h1, h2, h3⟩)
    · exact ⟨h1, h2, .inl h3⟩
    · exact ⟨h1, h2, .inr h3⟩
theorem has_append (a b : List (Int × Int)) (c : Int) : HasR (a ++ b) c ↔ HasR a c ∨ HasR b c := by
  induction a with
  | nil => simp [HasR]
  | cons r a ih => rw [List.cons_append, has_cons, has_cons, ih, or_assoc]
theorem has_nil (c : Int) : ¬ HasR [] c := by simp [HasR]

/-- A set's list is given by its runes. -/
theorem right_unique : ∀ (a b : List (Int × Int)) (lo : Int), 0 ≤ lo → RightFrom lo a → RightFrom lo b → (∀ c, lo ≤ c → (HasR a c ↔ HasR b c)) → a = b
  | [], [], _, _, _, _, _ => rfl
  | [], r :: b, lo, h0, _, ⟨h1, h2, h3, _⟩, h => by
    have := (h r.1 h1).2 ((has_cons _ _ _).2 (.inl ⟨by omega, by omega, by omega, h2⟩))
    exact absurd this (has_nil _)
  | r :: a, [], lo, h0, ⟨h1, h2, h3, _⟩, _, h => by
    have := (h r.1 h1).1 ((has_cons _ _ _).2 (.inl ⟨by omega, by omega, by omega, h2⟩))
    exact absurd this (has_nil _)
  | r :: a, q :: b, lo, h0, ⟨h1, h2, h3, h4⟩, ⟨g1, g2, g3, g4⟩, h => by
    have e1 : r.1 = q.1 := by
      rcases Int.lt_trichotomy r.1 q.1 with hlt | he | hlt
      · have := (h r.1 h1).1 ((has_cons _ _ _).2 (.inl ⟨by omega, by omega, by omega, h2⟩))
        rcases (has_cons _ _ _).1 this with h5 | h5
        · omega
        · have := right_has_lo b _ _ g4 h5
          omega
      · exact he
      · have := (h q.1 g1).2 ((has_cons _ _ _).2 (.inl ⟨by omega, by omega, by omega, g2⟩))
        rcases (has_cons _ _ _).1 this with h5 | h5
        · omega
        · have := right_has_lo a _ _ h4 h5
          omega
    have e2 : r.2 = q.2 := by
      rcases Int.lt_trichotomy r.2 q.2 with hlt | he | hlt
      · have := (h (r.2 + 1) (by omega)).2 ((has_cons _ _ _).2 (.inl ⟨by omega, by omega, by omega, by omega⟩))
        rcases (has_cons _ _ _).1 this with h5 | h5
        · omega
        · have := right_has_lo a _ _ h4 h5
          omega
      · exact he
      · have := (h (q.2 + 1) (by omega)).1 ((has_cons _ _ _).2 (.inl ⟨by omega, by omega, by omega, by omega⟩))
        rcases (has_cons _ _ _).1 this with h5 | h5
        · omega
        · have := right_has_lo b _ _ g4 h5
          omega
    have e : r = q := Prod.ext e1 e2
    subst e
    have := right_unique a b (r.2 + 2) (by omega) h4 g4 fun c hc => by
      have := h c (by omega)
      rw [has_cons, has_cons] at this
      constructor
      · intro h5
        rcases this.1 (.inr h5) with h6 | h6
        · omega
        · exact h6
      · intro h5
        rcases this.2 (.inr h5) with h6 | h6
        · omega
        · exact h6
    rw [this]
/-- Two sets with the same runes are the same list. -/
theorem right_eq (a b : List (Int × Int)) (ha : RightR a) (hb : RightR b) (h : ∀ c, HasR a c ↔ HasR b c) : a = b :=
  right_unique a b 0 (Int.le_refl _) ha hb fun c _ => h c

/-- What the list l (a set from f on) does not have from f on. -/
def notFrom : Int → List (Int × Int) → List (Int × Int)
  | f, [] => if f ≤ 1114111 then [(f, 1114111)] else []
  | f, r :: l => (if f < r.1 then [(f, r.1 - 1)] else []) ++ notFrom (r.2 + 1) l
theorem not_right : ∀ (l : List (Int × Int)) (f : Int), RightFrom f l → RightFrom f (notFrom f l)
  | [], f, _ => by
    unfold notFrom
    split
    · exact ⟨Int.le_refl _, by assumption, Int.le_refl _, trivial⟩
    · trivial
  | r :: l, f, ⟨h1, h2, h3, h4⟩ => by
    have ih := not_right l (r.2 + 1) (h4.le (by omega))
    unfold notFrom
    split
    · exact ⟨Int.le_refl _, by omega, by omega, ih.le (by show r.1 - 1 + 2 ≤ _; omega)⟩
    · exact ih.le (by omega)
theorem not_has : ∀ (l : List (Int × Int)) (f c : Int), 0 ≤ f → RightFrom f l → (HasR (notFrom f l) c ↔ f ≤ c ∧ c ≤ 1114111 ∧ ¬ HasR l c)
  | [], f, c, h0, _ => by
    unfold notFrom
    split
    · rw [has_cons]
      have := has_nil c
      constructor
      · rintro (h | h)
        · exact ⟨h.2.2.1, h.2.1, this⟩
        · exact absurd h this
      · rintro ⟨h1, h2, _⟩
        exact .inl ⟨by omega, h2, h1, h2⟩
    · constructor
      · intro h
        exact absurd h (has_nil c)
      · rintro ⟨h1, h2, _⟩
        omega
  | r :: l, f, c, h0, ⟨h1, h2, h3, h4⟩ => by
    have ih := not_has l (r.2 + 1) c (by omega) (h4.le (by omega))
    have hlo : HasR l c → r.2 + 2 ≤ c := right_has_lo l _ _ h4
    unfold notFrom
    rw [has_append, ih, has_cons]
    constructor
    · rintro (h | ⟨h5, h6, h7⟩)
      · split at h
        · rcases (has_cons _ _ _).1 h with h | h
          · refine ⟨h.2.2.1, h.2.1, ?_⟩
            have h8 := h.2.2.2
            simp only at h8
            rintro (h9 | h9)
            · omega
            · have := hlo h9
              omega
          · exact absurd h (has_nil c)
        · exact absurd h (has_nil c)
      · refine ⟨by omega, h6, ?_⟩
        rintro (h9 | h9)
        · omega
        · exact h7 h9
    · rintro ⟨h5, h6, h7⟩
      have h8 : ¬ (0 ≤ c ∧ c ≤ 1114111 ∧ r.1 ≤ c ∧ c ≤ r.2) := fun h => h7 (.inl h)
      by_cases hc : c < r.1
      · left
        rw [if_pos (by omega)]
        exact (has_cons _ _ _).2 (.inl ⟨by omega, h6, h5, by show c ≤ r.1 - 1; omega⟩)
      · right
        exact ⟨by omega, h6, fun h => h7 (.inr h)⟩
def countR : List (Int × Int) → Int
  | [] => 0
  | r :: l => (r.2 - r.1 + 1) + countR l
theorem count_append : ∀ (a b : List (Int × Int)), countR (a ++ b) = countR a + countR b
  | [], b => by simp [countR]
  | r :: a, b => by
    rw [List.cons_append]
    show _ + countR (a ++ b) = _ + countR a + countR b
    rw [count_append a b]
    omega
theorem count_not : ∀ (l : List (Int × Int)) (f : Int), f ≤ 1114112 → RightFrom f l → countR l + countR (notFrom f l) = 1114112 - f
  | [], f, h, _ => by
    unfold notFrom
    split
    · simp [countR]
      omega
    · simp [countR]
      omega
  | r :: l, f, h, ⟨h1, h2, h3, h4⟩ => by
    have ih := count_not l (r.2 + 1) (by omega) (h4.le (by omega))
    unfold notFrom
    rw [count_append]
    show _ + countR l + _ = _
    split
    · simp [countR]
      omega
    · have : f = r.1 := by omega
      simp [countR]
      omega
theorem count_bound : ∀ (l : List (Int × Int)) (f : Int), f ≤ 1114112 → RightFrom f l → 0 ≤ countR l ∧ countR l ≤ 1114112 - f
  | [], f, h, _ => by simp [countR]; omega
  | r :: l, f, h, ⟨h1, h2, h3, h4⟩ => by
    by_cases hr : r.2 + 2 ≤ 1114112
    · have ih := count_bound l (r.2 + 2) hr h4
      show 0 ≤ _ + countR l ∧ _ + countR l ≤ _
      omega
    · have : l = [] := by
        rcases l with _ | ⟨q, l⟩
        · rfl
        · obtain ⟨g1, g2, g3, _⟩ := h4
          omega
      subst this
      simp [countR]
      omega
theorem right_len : ∀ (l : List (Int × Int)) (f : Int), f ≤ 1114112 → RightFrom f l → (l.length : Int) ≤ 1114112 - f
  | [], f, h, _ => by simp; omega
  | r :: l, f, h, ⟨h1, h2, h3, h4⟩ => by
    by_cases hr : r.2 + 2 ≤ 1114112
    · have ih := right_len l (r.2 + 2) hr h4
      simp only [List.length_cons]
      omega
    · have : l = [] := by
        rcases l with _ | ⟨q, l⟩
        · rfl
        · obtain ⟨g1, g2, g3, _⟩ := h4
          omega
      subst this
      simp
      omega
/-- What each range is cut to. -/
def cutR (r : Int × Int) : Int × Int := (max r.1 0, min r.2 1114111)
def Fit (r : Int × Int) : Prop := 0 ≤ r.1 ∧ r.1 ≤ r.2 ∧ r.2 ≤ 1114111
theorem has_one (r : Int × Int) (c : Int) : HasR [r] c ↔ 0 ≤ c ∧ c ≤ 1114111 ∧ r.1 ≤ c ∧ c ≤ r.2 := by
  rw [has_cons]
  exact ⟨fun h => h.resolve_right (has_nil c), .inl⟩
theorem has_cut (r : Int × Int) (c : Int) : HasR [cutR r] c ↔ HasR [r] c := by
  rw [has_one, has_one]
  unfold cutR
  simp only
  omega
theorem has_cut_none (r : Int × Int) (h : (cutR r).2 < (cutR r).1) (c : Int) : ¬ HasR [r] c := by
  rw [← has_cut, has_one]
  omega
theorem fit_cut (r : Int × Int) (h : ¬ (cutR r).2 < (cutR r).1) : Fit (cutR r) := by
  unfold cutR Fit at *
  simp only at *
  omega
/-- Ranges sorted by where they begin, each of runes. -/
def Sorted (s : List (Int × Int)) : Prop := s.Pairwise (fun a b => a.1 ≤ b.1) ∧ ∀ r ∈ s, Fit r
theorem sorted_nil : Sorted [] := ⟨List.Pairwise.nil, by simp⟩
theorem sorted_put (s : List (Int × Int)) (x : Int × Int) (k : Nat) (hs : Sorted s) (hx : Fit x) (hk : k ≤ s.length) (hlo : ∀ j (h : j < s.length), j + 1 = k → s[j].1 ≤ x.1) (hhi : ∀ j (h : j < s.length), k ≤ j → x.1 < s[j].1) :
    Sorted (s.take k ++ x :: s.drop k) := by
  obtain ⟨h1, h2⟩ := hs
  have hp := List.pairwise_iff_getElem.1 h1
  have hT : ∀ a ∈ s.take k, a.1 ≤ x.1 := fun a ha => by
    obtain ⟨j, hj, rfl⟩ := List.mem_iff_getElem.1 ha
    rw [List.length_take] at hj
    rw [List.getElem_take]
    have h3 := hlo (k - 1) (by omega) (by omega)
    rcases Nat.lt_or_ge j (k - 1) with h4 | h4
    · exact Int.le_trans (hp j (k - 1) (by omega) (by omega) h4) h3
    · have : j = k - 1 := by omega
      subst this
      exact h3
  have hD : ∀ b ∈ s.drop k, x.1 < b.1 := fun b hb => by
    obtain ⟨j, hj, rfl⟩ := List.mem_iff_getElem.1 hb
    rw [List.length_drop] at hj
    rw [List.getElem_drop]
    exact hhi (k + j) (by omega) (by omega)
  refine ⟨?_, fun r hr => ?_⟩
  · rw [List.pairwise_append]
    refine ⟨h1.sublist (List.take_sublist _ _), List.pairwise_cons.2 ⟨fun b hb => Int.le_of_lt (hD b hb), h1.sublist (List.drop_sublist _ _)⟩, fun a ha b hb => ?_⟩
    rcases List.mem_cons.1 hb with rfl | hb
    · exact hT a ha
    · exact Int.le_trans (hT a ha) (Int.le_of_lt (hD b hb))
  · rcases List.mem_append.1 hr with hr | hr
    · exact h2 r (List.mem_of_mem_take hr)
    · rcases List.mem_cons.1 hr with rfl | hr
      · exact hx
      · exact h2 r (List.mem_of_mem_drop hr)
theorem has_put (s : List (Int × Int)) (x : Int × Int) (k : Nat) (c : Int) : HasR (s.take k ++ x :: s.drop k) c ↔ HasR s c ∨ HasR [x] c := by
  have h := has_append (s.take k) (s.drop k) c
  rw [List.take_append_drop] at h
  rw [has_append, has_cons, h, has_one]
  constructor
  · rintro (h | h | h)
    · exact .inl (.inl h)
    · exact .inr h
    · exact .inl (.inr h)
  · rintro ((h | h) | h)
    · exact .inl h
    · exact .inr (.inr h)
    · exact .inr (.inl h)
theorem end_append : ∀ (o : List (Int × Int)) (p : Int × Int) (lo : Int), endOf lo (o ++ [p]) = p.2 + 2
  | [], _, _ => rfl
  | r :: o, p, _ => end_append o p (r.2 + 2)
/-- A range that touches the last one is put together with it. -/
theorem join_right (o : List (Int × Int)) (p x : Int × Int) (h : RightR (o ++ [p])) (hx : Fit x) : RightR (o ++ [(p.1, max p.2 x.2)]) := by
  obtain ⟨h1, h2⟩ := (right_append o [p] 0).1 h
  obtain ⟨h3, h4, h5, _⟩ := h2
  refine (right_append _ _ _).2 ⟨h1, ⟨h3, ?_, ?_, trivial⟩⟩
  · show p.1 ≤ max p.2 x.2
    omega
  · have := hx.2.2
    show max p.2 x.2 ≤ 1114111
    omega
theorem join_has (o : List (Int × Int)) (p x : Int × Int) (h1 : p.1 ≤ x.1) (h2 : x.1 ≤ p.2 + 1) (c : Int) :
    HasR (o ++ [(p.1, max p.2 x.2)]) c ↔ HasR (o ++ [p]) c ∨ HasR [x] c := by
  rw [has_append, has_append, has_one, has_one, has_one]
  simp only
  constructor
  · rintro (h | ⟨g1, g2, g3, g4⟩)
    · exact .inl (.inl h)
    · by_cases hc : c ≤ p.2
      · exact .inl (.inr ⟨g1, g2, g3, hc⟩)
      · exact .inr ⟨g1, g2, by omega, by omega⟩
  · rintro ((h | ⟨g1, g2, g3, g4⟩) | ⟨g1, g2, g3, g4⟩)
    · exact .inl h
    · exact .inr ⟨g1, g2, g3, by omega⟩
    · exact .inr ⟨g1, g2, by omega, by omega⟩
/-- A range that doesn't touch the last one stands behind it. -/
theorem put_right (o : List (Int × Int)) (p x : Int × Int) (h : RightR (o ++ [p])) (hx : Fit x) (h2 : p.2 + 1 < x.1) : RightR (o ++ [p] ++ [x]) := by
  refine (right_append _ _ _).2 ⟨h, ?_⟩
  rw [end_append]
  exact ⟨by omega, hx.2.1, hx.2.2, trivial⟩
theorem one_right (x : Int × Int) (hx : Fit x) : RightR [x] := ⟨hx.1, hx.2.1, hx.2.2, trivial⟩
theorem right_fit : ∀ (l : List (Int × Int)) (lo : Int), 0 ≤ lo → RightFrom lo l → ∀ r ∈ l, Fit r
  | [], _, _, _, r, hr => by simp at hr
  | q :: l, lo, h0, ⟨h1, h2, h3, h4⟩, r, hr => by
    rcases List.mem_cons.1 hr with rfl | hr
    · exact ⟨by omega, h2, h3⟩
    · exact right_fit l (q.2 + 2) (by omega) h4 r hr
end Go.Proofs.Ytnemacejaiifnaa
/- Plain mathematics of programs: which instructions are right, and to which one comes from some: a walk with a stack. No condition. -/
namespace Go.Proofs.Ytnemacejaiifnaa

/-- An instruction. -/
structure Ins where
  op : Int
  out : Int
  arg : Int
  set : List (Int × Int)
  at' : Int
/-- A program. -/
structure Pg where
  ins : List Ins
  start : Int
  caps : Int
def PlaceI (n : Nat) (x : Int) : Prop := 0 ≤ x ∧ x < n
def AtOk (x : Int) : Prop := x = 1 ∨ x = 2 ∨ x = 4 ∨ x = 8 ∨ x = 16 ∨ x = 32
instance (n : Nat) (x : Int) : Decidable (PlaceI n x) := inferInstanceAs (Decidable (_ ∧ _))
/-- An instruction of a program is as it must be. -/
def SoundI (n : Nat) (caps : Int) (x : Ins) : Prop :=
  ((x.op = 1 ∨ x.op = 6) ∧ x.out = 0 ∧ x.arg = 0 ∧ x.set = [] ∧ x.at' = 0) ∨
  (x.op = 2 ∧ PlaceI n x.out ∧ x.arg = 0 ∧ (x.set ≠ [] ∧ RightR x.set) ∧ x.at' = 0) ∨
  (x.op = 3 ∧ PlaceI n x.out ∧ PlaceI n x.arg ∧ x.set = [] ∧ x.at' = 0) ∨
  (x.op = 4 ∧ PlaceI n x.out ∧ (2 ≤ x.arg ∧ x.arg < caps) ∧ x.set = [] ∧ x.at' = 0) ∨
  (x.op = 5 ∧ PlaceI n x.out ∧ x.arg = 0 ∧ x.set = [] ∧ AtOk x.at')
def RightPg (p : Pg) : Prop :=
  1 ≤ p.ins.length ∧ p.ins.length ≤ 10000 ∧ PlaceI p.ins.length p.start ∧ 2 ≤ p.caps ∧ p.caps ≤ 4002 ∧ p.caps % 2 = 0 ∧ ∀ x ∈ p.ins, SoundI p.ins.length p.caps x

/-- What has been come to, what reads, is a match come to. -/
structure Wk where
  seen : List Bool
  out : List Nat
  hit : Bool
/-- To which an instruction leads on; meets: is its At in what the place is? -/
def nextI (meets : Int → Bool) (x : Ins) : List Nat :=
  if x.op = 3 then [x.out.toNat, x.arg.toNat] else if x.op = 4 then [x.out.toNat] else if x.op = 5 then (if meets x.at' = true then [x.out.toNat] else []) else []
def visitI (pc : Nat) (x : Ins) (s : Wk) : Wk := ⟨s.seen.set pc true, if x.op = 2 then s.out ++ [pc] else s.out, s.hit || decide (x.op = 1)⟩
def zeroI : Ins := ⟨6, 0, 0, [], 0⟩
def atI (I : List Ins) (pc : Nat) : Ins := I.getD pc zeroI
theorem next_two (meets : Int → Bool) (x : Ins) : (nextI meets x).length ≤ 2 := by
  unfold nextI
  split
  · simp
  · split
    · simp
    · split
      · split <;> simp
      · simp
def newI (s : Wk) (pc : Nat) : Bool := !(s.seen.getD pc true)
def leftI (s : Wk) : Nat := s.seen.count false
theorem count_set : ∀ (l : List Bool) (pc : Nat), l.getD pc true = false → (l.set pc true).count false + 1 = l.count false
  | [], pc, h => by simp at h
  | b :: l, 0, h => by
    simp at h
    subst h
    simp
  | b :: l, pc + 1, h => by
    have ih := count_set l pc (by simpa using h)
    simp only [List.set_cons_succ, List.count_cons]
    omega
theorem left_visit (s : Wk) (pc : Nat) (x : Ins) (h : newI s pc = true) : leftI (visitI pc x s) + 1 = leftI s := by
  unfold leftI visitI
  exact count_set _ _ (by simpa [newI] using h)
/-- The walk: the next one first. -/
def walkI (meets : Int → Bool) (long : Bool) (I : List Ins) (st : List Nat) (s : Wk) : Wk :=
  match st with
  | [] => s
  | pc :: st =>
    if h : newI s pc = true ∧ (s.hit = true → long = true) then walkI meets long I (nextI meets (atI I pc) ++ st) (visitI pc (atI I pc) s)
    else walkI meets long I st s
termination_by 2 * leftI s + st.length
decreasing_by
  · have h1 := left_visit s pc (atI I pc) h.1
    have h2 := next_two meets (atI I pc)
    simp only [List.length_append, List.length_cons]
    omega
  · simp only [List.length_cons]
    omega
section
variable {meets : Int → Bool} {long : Bool} {I : List Ins}
theorem walk_nil (s : Wk) : walkI meets long I [] s = s := by rw [walkI]
theorem walk_old {s : Wk} {pc : Nat} (st : List Nat) (h : newI s pc = false) : walkI meets long I (pc :: st) s = walkI meets long I st s := by
  rw [walkI, dif_neg (by simp [h])]
theorem walk_new {s : Wk} {pc : Nat} (st : List Nat) (h : newI s pc = true) (hl : s.hit = true → long = true) :
    walkI meets long I (pc :: st) s = walkI meets long I (nextI meets (atI I pc) ++ st) (visitI pc (atI I pc) s) := by
  rw [walkI, dif_pos ⟨h, hl⟩]
theorem walk_stop {s : Wk} (hh : s.hit = true) (hl : long = false) : ∀ st : List Nat, walkI meets long I st s = s
  | [] => walk_nil s
  | pc :: st => by
    rw [walkI, dif_neg (by simp [hh, hl])]
    exact walk_stop hh hl st
/-- What holds at the beginning and is kept by each step holds at the end. -/
theorem walk_keep (Q : List Nat → Wk → Prop) (R : Wk → Prop) (h0 : ∀ s, Q [] s → R s)
    (hold : ∀ pc st s, Q (pc :: st) s → (newI s pc = false ∨ (s.hit = true ∧ long = false)) → Q st s)
    (hnew : ∀ pc st s, Q (pc :: st) s → newI s pc = true → (s.hit = true → long = true) → Q (nextI meets (atI I pc) ++ st) (visitI pc (atI I pc) s)) :
    ∀ (n : Nat) (st : List Nat) (s : Wk), 2 * leftI s + st.length = n → Q st s → R (walkI meets long I st s) := by
  intro n
  induction n using Nat.strongRecOn with
  | _ n ih =>
    intro st s hn hq
    rcases st with _ | ⟨pc, st⟩
    · rw [walk_nil]
      exact h0 s hq
    · by_cases h : newI s pc = true ∧ (s.hit = true → long = true)
      · rw [walk_new st h.1 h.2]
        have h1 := left_visit s pc (atI I pc) h.1
        have h2 := next_two meets (atI I pc)
        refine ih _ ?_ _ _ rfl (hnew pc st s hq h.1 h.2)
        subst hn
        simp only [List.length_append, List.length_cons]
        omega
      · rw [walkI, dif_neg h]
        refine ih _ ?_ _ _ rfl (hold pc st s hq ?_)
        · subst hn
          simp only [List.length_cons]
          omega
        · by_cases hb : newI s pc = true
          · right
            have : ¬ (s.hit = true → long = true) := fun hl => h ⟨hb, hl⟩
            by_cases hh : s.hit = true
            · refine ⟨hh, ?_⟩
              cases long
              · rfl
              · exact absurd (fun _ => rfl) this
            · exact absurd (fun hh' => absurd hh' hh) this
          · exact .inl (by simpa using hb)
theorem walk_append (a b : List Nat) (s : Wk) : walkI meets long I (a ++ b) s = walkI meets long I b (walkI meets long I a s) := by
  refine walk_keep (meets := meets) (long := long) (I := I) (fun st t => walkI meets long I (st ++ b) t = walkI meets long I (a ++ b) s) (fun t => walkI meets long I (a ++ b) s = walkI meets long I b t) ?_ ?_ ?_ _ a s rfl rfl
  · intro t ht
    exact ht.symm
  · intro pc st t ht ho
    rw [← ht]
    rcases ho with ho | ⟨h1, h2⟩
    · rw [List.cons_append, walk_old _ ho]
    · rw [walk_stop h1 h2, walk_stop h1 h2]
  · intro pc st t ht hn hl
    rw [← ht, List.cons_append, walk_new _ hn hl, List.append_assoc]
theorem walk_len (st : List Nat) (s : Wk) : (walkI meets long I st s).seen.length = s.seen.length := by
  refine walk_keep (meets := meets) (long := long) (I := I) (fun _ t => t.seen.length = s.seen.length) (fun t => t.seen.length = s.seen.length) (fun _ h => h) (fun _ _ _ h _ => h) ?_ _ st s rfl rfl
  intro pc st t ht _ _
  simpa [visitI] using ht
/-- The beginning: nothing is come to. -/
def wk0 (n : Nat) : Wk := ⟨List.replicate n false, [], false⟩
/-- What some lead to. -/
def closeI (meets : Int → Bool) (long : Bool) (I : List Ins) (pcs : List Nat) : Wk := walkI meets long I pcs (wk0 I.length)
/-- What reads is just what has been come to and is an InstSet, each once; what has been come to lies in the program; a match is come to if one has been. -/
def FineW (I : List Ins) (s : Wk) : Prop :=
  s.seen.length = I.length ∧ s.out.Nodup ∧ (∀ i, i ∈ s.out ↔ i < I.length ∧ newI s i = false ∧ (atI I i).op = 2) ∧ (s.hit = true ↔ ∃ i, i < I.length ∧ newI s i = false ∧ (atI I i).op = 1)
theorem new_visit (s : Wk) (pc : Nat) (x : Ins) (i : Nat) : newI (visitI pc x s) i = (newI s i && decide (i ≠ pc)) := by
  unfold newI visitI
  simp only [List.getD_eq_getElem?_getD, List.getElem?_set]
  by_cases h : pc = i
  · subst h
    simp
    split <;> simp
  · rw [if_neg h]
    have : (i ≠ pc) := fun e => h e.symm
    simp [this]
theorem fine_zero (I : List Ins) : FineW I (wk0 I.length) := by
  refine ⟨by simp [wk0], by simp [wk0], fun i => ?_, ?_⟩
  · simp only [wk0, List.not_mem_nil, false_iff]
    rintro ⟨h1, h2, _⟩
    simp [newI, h1] at h2
  · simp only [wk0, Bool.false_eq_true, false_iff]
    rintro ⟨i, h1, h2, _⟩
    simp [newI, h1] at h2
theorem new_lt {s : Wk} {pc : Nat} (h : newI s pc = true) : pc < s.seen.length := by
  unfold newI at h
  rcases Nat.lt_or_ge pc s.seen.length with h1 | h1
  · exact h1
  · simp [List.getElem?_eq_none h1] at h
theorem fine_visit {I : List Ins} {s : Wk} {pc : Nat} (h : FineW I s) (hn : newI s pc = true) : FineW I (visitI pc (atI I pc) s) := by
  have hlt := new_lt hn
  obtain ⟨h1, h2, h3, h4⟩ := h
  have hno : pc ∉ s.out := fun hm => by
    have := (h3 pc).1 hm
    rw [hn] at this
    simp at this
  refine ⟨by simpa [visitI] using h1, ?_, fun i => ?_, ?_⟩
  · simp only [visitI]
    split
    · rw [List.nodup_append]
      refine ⟨h2, by simp, fun a ha b hb => ?_⟩
      have : b = pc := by simpa using hb
      subst this
      rintro rfl
      exact hno ha
    · exact h2
  · rw [new_visit]
    have h5 := h3 i
    by_cases hi : i = pc
    · subst hi
      simp only [visitI]
      by_cases ho : (atI I i).op = 2
      · rw [if_pos ho]
        simp [ho]
        omega
      · rw [if_neg ho]
        simp [ho, hno]
    · have : (i ∈ (visitI pc (atI I pc) s).out) ↔ i ∈ s.out := by
        simp only [visitI]
        split
        · simp [hi]
        · rfl
      rw [this, h5]
      simp [hi]
  · simp only [visitI, Bool.or_eq_true, decide_eq_true_eq, h4]
    constructor
    · rintro (⟨i, g1, g2, g3⟩ | g)
      · refine ⟨i, g1, ?_, g3⟩
        have := new_visit s pc (atI I pc) i
        rw [show newI { seen := s.seen.set pc true, out := if (atI I pc).op = 2 then s.out ++ [pc] else s.out, hit := s.hit || decide ((atI I pc).op = 1) } i = newI (visitI pc (atI I pc) s) i from rfl, this, g2]
        rfl
      · refine ⟨pc, by omega, ?_, g⟩
        have := new_visit s pc (atI I pc) pc
        rw [show newI { seen := s.seen.set pc true, out := if (atI I pc).op = 2 then s.out ++ [pc] else s.out, hit := s.hit || decide ((atI I pc).op = 1) } pc = newI (visitI pc (atI I pc) s) pc from rfl, this]
        simp
    · rintro ⟨i, g1, g2, g3⟩
      have := new_visit s pc (atI I pc) i
      rw [show newI { seen := s.seen.set pc true, out := if (atI I pc).op = 2 then s.out ++ [pc] else s.out, hit := s.hit || decide ((atI I pc).op = 1) } i = newI (visitI pc (atI I pc) s) i from rfl, this] at g2
      by_cases hi : i = pc
      · subst hi
        exact .inr g3
      · exact .inl ⟨i, g1, by simpa [hi] using g2, g3⟩
theorem fine_walk (st : List Nat) (s : Wk) (h : FineW I s) : FineW I (walkI meets long I st s) :=
  walk_keep (meets := meets) (long := long) (I := I) (fun _ t => FineW I t) (fun t => FineW I t) (fun _ h => h) (fun _ _ _ h _ => h) (fun _ _ _ h hn _ => fine_visit h hn) _ st s rfl h
/-- What has been come to is come to behind. -/
theorem walk_more (st : List Nat) (s : Wk) (i : Nat) (h : newI s i = false) : newI (walkI meets long I st s) i = false :=
  walk_keep (meets := meets) (long := long) (I := I) (fun _ t => newI t i = false) (fun t => newI t i = false) (fun _ h => h) (fun _ _ _ h _ => h) (fun _ _ _ h hn _ => by rw [new_visit, h]; rfl) _ st s rfl h
/-- With longest all from which one goes is come to, and what it leads to. -/
theorem walk_closed (S : List Nat) (S0 : Wk) : ∀ i, newI (walkI meets true I S S0) i = false → newI S0 i = false ∨ ∀ k ∈ nextI meets (atI I i), newI (walkI meets true I S S0) k = false := by
  refine walk_keep (meets := meets) (long := true) (I := I) (fun st t => ∀ i, newI t i = false → newI S0 i = false ∨ ∀ k ∈ nextI meets (atI I i), newI t k = false ∨ k ∈ st) (fun t => ∀ i, newI t i = false → newI S0 i = false ∨ ∀ k ∈ nextI meets (atI I i), newI t k = false) ?_ ?_ ?_ _ S S0 rfl (fun i h => .inl h)
  · intro t h i hi
    rcases h i hi with h1 | h1
    · exact .inl h1
    · exact .inr fun k hk => (h1 k hk).resolve_right (by simp)
  · intro pc st t h ho i hi
    rcases h i hi with h1 | h1
    · exact .inl h1
    · refine .inr fun k hk => ?_
      rcases h1 k hk with h2 | h2
      · exact .inl h2
      · rcases List.mem_cons.1 h2 with rfl | h2
        · rcases ho with ho | ⟨_, ho⟩
          · exact .inl ho
          · simp at ho
        · exact .inr h2
  · intro pc st t h hn hl i hi
    rw [new_visit] at hi
    by_cases e : i = pc
    · subst e
      exact .inr fun k hk => .inr (List.mem_append_left _ hk)
    · have hi' : newI t i = false := by simpa [e] using hi
      rcases h i hi' with h1 | h1
      · exact .inl h1
      · refine .inr fun k hk => ?_
        rcases h1 k hk with h2 | h2
        · left
          rw [new_visit, h2]
          rfl
        · rcases List.mem_cons.1 h2 with rfl | h2
          · left
            rw [new_visit]
            simp
          · exact .inr (List.mem_append_right _ h2)
theorem walk_all (S : List Nat) (S0 : Wk) : ∀ i ∈ S, newI (walkI meets true I S S0) i = false := by
  intro i hi
  refine walk_keep (meets := meets) (long := true) (I := I) (fun st t => newI t i = false ∨ i ∈ st) (fun t => newI t i = false) (fun t h => h.resolve_right (by simp)) ?_ ?_ _ S S0 rfl (.inr hi)
  · intro pc st t h ho
    rcases h with h | h
    · exact .inl h
    · rcases List.mem_cons.1 h with rfl | h
      · rcases ho with ho | ⟨_, ho⟩
        · exact .inl ho
        · simp at ho
      · exact .inr h
  · intro pc st t h hn hl
    rcases h with h | h
    · left
      rw [new_visit, h]
      rfl
    · rcases List.mem_cons.1 h with rfl | h
      · left
        rw [new_visit]
        simp
      · exact .inr (List.mem_append_right _ h)
/-- No more is come to than what is in any set from which nothing leads out. -/
theorem walk_least (M : Nat → Prop) (hM : ∀ i, M i → ∀ k ∈ nextI meets (atI I i), M k) (S : List Nat) (S0 : Wk) (hS : ∀ i ∈ S, M i) (h0 : ∀ i, i < S0.seen.length → newI S0 i = false → M i) :
    ∀ i, i < S0.seen.length → newI (walkI meets long I S S0) i = false → M i := by
  refine walk_keep (meets := meets) (long := long) (I := I) (fun st t => t.seen.length = S0.seen.length ∧ (∀ i ∈ st, M i) ∧ ∀ i, i < S0.seen.length → newI t i = false → M i) (fun t => ∀ i, i < S0.seen.length → newI t i = false → M i) (fun t h => h.2.2) ?_ ?_ _ S S0 rfl ⟨rfl, hS, h0⟩
  · rintro pc st t ⟨h1, h2, h3⟩ _
    exact ⟨h1, fun i hi => h2 i (List.mem_cons_of_mem _ hi), h3⟩
  · rintro pc st t ⟨h1, h2, h3⟩ hn _
    have hp := h2 pc (List.mem_cons_self ..)
    refine ⟨by simpa [visitI] using h1, fun i hi => ?_, fun i hi hi2 => ?_⟩
    · rcases List.mem_append.1 hi with hi | hi
      · exact hM pc hp i hi
      · exact h2 i (List.mem_cons_of_mem _ hi)
    · rw [new_visit] at hi2
      by_cases e : i = pc
      · subst e
        exact hp
      · exact h3 i hi (by simpa [e] using hi2)
/-- Without longest the walk is a beginning of what it is with it. -/
theorem walk_short (S : List Nat) (S0 : Wk) (h0 : S0.hit = false) :
    ∃ e, (walkI meets true I S S0).out = (walkI meets false I S S0).out ++ e ∧ (walkI meets true I S S0).hit = (walkI meets false I S S0).hit ∧ ((walkI meets false I S S0).hit = false → e = []) := by
  have grow : ∀ (S : List Nat) (t : Wk), ∃ e, (walkI meets true I S t).out = t.out ++ e ∧ (t.hit = true → (walkI meets true I S t).hit = true) := by
    intro S t
    refine walk_keep (meets := meets) (long := true) (I := I) (fun _ u => ∃ e, u.out = t.out ++ e ∧ (t.hit = true → u.hit = true)) (fun u => ∃ e, u.out = t.out ++ e ∧ (t.hit = true → u.hit = true)) (fun _ h => h) (fun _ _ _ h _ => h) ?_ _ S t rfl ⟨[], by simp, fun h => h⟩
    rintro pc st u ⟨e, h1, h2⟩ _ _
    refine ⟨if (atI I pc).op = 2 then e ++ [pc] else e, ?_, fun h => by simp [visitI, h2 h]⟩
    simp only [visitI]
    split
    · rw [h1, List.append_assoc]
    · exact h1
  refine walk_keep (meets := meets) (long := false) (I := I)
    (fun st t => (t.hit = false ∧ walkI meets true I S S0 = walkI meets true I st t) ∨ (t.hit = true ∧ ∃ e, (walkI meets true I S S0).out = t.out ++ e ∧ (walkI meets true I S S0).hit = true))
    (fun t => ∃ e, (walkI meets true I S S0).out = t.out ++ e ∧ (walkI meets true I S S0).hit = t.hit ∧ (t.hit = false → e = [])) ?_ ?_ ?_ _ S S0 rfl (.inl ⟨h0, rfl⟩)
  · rintro t (⟨h1, h2⟩ | ⟨h1, e, h2, h3⟩)
    · rw [h2, walk_nil]
      exact ⟨[], by simp, rfl, fun _ => rfl⟩
    · exact ⟨e, h2, by rw [h1, h3], fun h => by rw [h1] at h; cases h⟩
  · rintro pc st t (⟨h1, h2⟩ | h) ho
    · rcases ho with ho | ⟨ho, _⟩
      · refine .inl ⟨h1, ?_⟩
        rw [h2, walk_old _ ho]
      · rw [h1] at ho
        cases ho
    · exact .inr h
  · rintro pc st t (⟨h1, h2⟩ | ⟨h1, _⟩) hn hl
    · have h3 := walk_new (meets := meets) (long := true) (I := I) st hn (fun _ => rfl)
      rw [← h2] at h3
      by_cases hm : (atI I pc).op = 1
      · right
        have hv : (visitI pc (atI I pc) t).hit = true := by simp [visitI, hm]
        obtain ⟨e, g1, g2⟩ := grow (nextI meets (atI I pc) ++ st) (visitI pc (atI I pc) t)
        refine ⟨hv, e, ?_, ?_⟩
        · rw [h3, g1]
        · rw [h3]
          exact g2 hv
      · left
        exact ⟨by simp [visitI, hm, h1], h3⟩
    · have := hl h1
      cases this
/-- From what reads alone, each once, nothing else is come to. -/
theorem walk_sets : ∀ (st : List Nat) (s : Wk), (∀ i ∈ st, (atI I i).op = 2 ∧ newI s i = true) → st.Nodup → s.hit = false →
    (walkI meets long I st s).out = s.out ++ st ∧ (walkI meets long I st s).hit = false
  | [], s, _, _, hh => by rw [walk_nil]; simp [hh]
  | pc :: st, s, h, hd, hh => by
    obtain ⟨h1, h2⟩ := h pc (List.mem_cons_self ..)
    have hd' := List.nodup_cons.1 hd
    have hnx : nextI meets (atI I pc) = [] := by simp [nextI, h1]
    rw [walk_new st h2 (fun e => by rw [hh] at e; cases e), hnx, List.nil_append]
    have := walk_sets st (visitI pc (atI I pc) s) (fun i hi => ⟨(h i (List.mem_cons_of_mem _ hi)).1, by
      rw [new_visit, (h i (List.mem_cons_of_mem _ hi)).2]
      have : i ≠ pc := fun e => hd'.1 (e ▸ hi)
      simp [this]⟩) hd'.2 (by simp [visitI, hh, h1])
    rw [this.1, this.2]
    simp [visitI, h1]
end
/-- Closure of what Closure told is that, and no match. -/
theorem close_twice (meets : Int → Bool) (long long' : Bool) (I : List Ins) (pcs : List Nat) :
    (closeI meets long' I (closeI meets long I pcs).out).out = (closeI meets long I pcs).out ∧ (closeI meets long' I (closeI meets long I pcs).out).hit = false := by
  obtain ⟨h1, h2, h3, h4⟩ := fine_walk (meets := meets) (long := long) pcs (wk0 I.length) (fine_zero I)
  have := walk_sets (meets := meets) (long := long') (I := I) (closeI meets long I pcs).out (wk0 I.length) (fun i hi => ?_) h2 rfl
  · refine ⟨?_, this.2⟩
    unfold closeI at this ⊢
    rw [this.1]
    rfl
  · obtain ⟨g1, g2, g3⟩ := (h3 i).1 hi
    exact ⟨g3, by simp [newI, wk0, g1]⟩
/-- Two lists of instructions: what one comes to from both. -/
theorem close_both (meets : Int → Bool) (I : List Ins) (a b : List Nat) :
    (∃ e, (closeI meets true I (a ++ b)).out = (closeI meets true I a).out ++ e) ∧ (closeI meets true I (a ++ b)).out.Nodup ∧
    (∀ i, i ∈ (closeI meets true I (a ++ b)).out ↔ i ∈ (closeI meets true I a).out ∨ i ∈ (closeI meets true I b).out) ∧
    ((closeI meets true I (a ++ b)).hit = ((closeI meets true I a).hit || (closeI meets true I b).hit)) := by
  have F : ∀ st, FineW I (closeI meets true I st) := fun st => fine_walk st _ (fine_zero I)
  have L0 : (wk0 I.length).seen.length = I.length := by simp [wk0]
  have N0 : ∀ i, i < I.length → newI (wk0 I.length) i = true := fun i hi => by simp [newI, wk0, hi]
  have key : ∀ i, i < I.length → (newI (closeI meets true I (a ++ b)) i = false ↔ newI (closeI meets true I a) i = false ∨ newI (closeI meets true I b) i = false) := by
    intro i hi
    have high : ∀ (s : Wk), s.seen.length = I.length → ∀ k, ¬ k < I.length → newI s k = false := fun s hs k hk => by
      simp [newI, List.getElem?_eq_none (show s.seen.length ≤ k by omega)]
    have closed : ∀ st k, newI (closeI meets true I st) k = false → k < I.length → ∀ j ∈ nextI meets (atI I k), newI (closeI meets true I st) j = false := fun st k hk hlt => by
      rcases walk_closed (meets := meets) (I := I) st (wk0 I.length) k hk with h | h
      · rw [N0 k hlt] at h
        cases h
      · exact h
    have nx : ∀ k, ¬ k < I.length → nextI meets (atI I k) = [] := fun k hk => by
      have : atI I k = zeroI := by simp [atI, List.getElem?_eq_none (show I.length ≤ k by omega)]
      rw [this]
      rfl
    constructor
    · intro h
      refine walk_least (meets := meets) (long := true) (I := I) (fun k => newI (closeI meets true I a) k = false ∨ newI (closeI meets true I b) k = false) ?_ (a ++ b) (wk0 I.length) ?_ ?_ i (by rw [L0]; exact hi) h
      · intro k hk j hj
        by_cases hlt : k < I.length
        · rcases hk with hk | hk
          · exact .inl (closed a k hk hlt j hj)
          · exact .inr (closed b k hk hlt j hj)
        · rw [nx k hlt] at hj
          simp at hj
      · intro k hk
        rcases List.mem_append.1 hk with hk | hk
        · exact .inl (walk_all a _ k hk)
        · exact .inr (walk_all b _ k hk)
      · intro k hk hk2
        rw [N0 k (by rw [← L0]; exact hk)] at hk2
        cases hk2
    · have sub : ∀ st, (∀ k ∈ st, k ∈ a ++ b) → newI (closeI meets true I st) i = false → newI (closeI meets true I (a ++ b)) i = false := by
        intro st hst h
        refine walk_least (meets := meets) (long := true) (I := I) (fun k => newI (closeI meets true I (a ++ b)) k = false) ?_ st (wk0 I.length) ?_ ?_ i (by rw [L0]; exact hi) h
        · intro k hk j hj
          by_cases hlt : k < I.length
          · exact closed _ k hk hlt j hj
          · rw [nx k hlt] at hj
            simp at hj
        · intro k hk
          exact walk_all (a ++ b) _ k (hst k hk)
        · intro k hk hk2
          rw [N0 k (by rw [← L0]; exact hk)] at hk2
          cases hk2
      rintro (h | h)
      · exact sub a (fun k hk => List.mem_append_left _ hk) h
      · exact sub b (fun k hk => List.mem_append_right _ hk) h
  refine ⟨?_, (F _).2.1, fun i => ?_, ?_⟩
  · have : closeI meets true I (a ++ b) = walkI meets true I b (closeI meets true I a) := walk_append a b _
    rw [this]
    generalize closeI meets true I a = t
    refine walk_keep (meets := meets) (long := true) (I := I) (fun _ u => ∃ e, u.out = t.out ++ e) (fun u => ∃ e, u.out = t.out ++ e) (fun _ h => h) (fun _ _ _ h _ => h) ?_ _ b t rfl ⟨[], by simp⟩
    rintro pc st u ⟨e, h1⟩ _ _
    refine ⟨if (atI I pc).op = 2 then e ++ [pc] else e, ?_⟩
    simp only [visitI]
    split
    · rw [h1, List.append_assoc]
    · exact h1
  · rw [(F _).2.2.1, (F _).2.2.1, (F _).2.2.1]
    constructor
    · rintro ⟨h1, h2, h3⟩
      rcases (key i h1).1 h2 with h | h
      · exact .inl ⟨h1, h, h3⟩
      · exact .inr ⟨h1, h, h3⟩
    · rintro (⟨h1, h2, h3⟩ | ⟨h1, h2, h3⟩)
      · exact ⟨h1, (key i h1).2 (.inl h2), h3⟩
      · exact ⟨h1, (key i h1).2 (.inr h2), h3⟩
  · rw [Bool.eq_iff_iff, Bool.or_eq_true, (F _).2.2.2, (F _).2.2.2, (F _).2.2.2]
    constructor
    · rintro ⟨i, h1, h2, h3⟩
      rcases (key i h1).1 h2 with h | h
      · exact .inl ⟨i, h1, h, h3⟩
      · exact .inr ⟨i, h1, h, h3⟩
    · rintro (⟨i, h1, h2, h3⟩ | ⟨i, h1, h2, h3⟩)
      · exact ⟨i, h1, (key i h1).2 (.inl h2), h3⟩
      · exact ⟨i, h1, (key i h1).2 (.inr h2), h3⟩
end Go.Proofs.Ytnemacejaiifnaa
/- Plain mathematics of programs that need no choice: what one comes to from some instructions, in order, with the way to each; the walks that find it. No condition. -/
namespace Go.Proofs.Ytnemacejaiifnaa

def nxI (meets : Int → Bool) (I : List Ins) (pc : Nat) : List Nat := nextI meets (atI I pc)
/-- An instruction and the way to it, the nearest first. -/
def kidsI (nx : Nat → List Nat) (x : Nat × List Nat) : List (Nat × List Nat) := (nx x.1).map fun k => (k, x.1 :: x.2)
/-- What one comes to from a stack, in order, wherever that ends. -/
inductive Unf (nx : Nat → List Nat) : List (Nat × List Nat) → List (Nat × List Nat) → Prop
  | nil : Unf nx [] []
  | cons {x : Nat × List Nat} {st l : List (Nat × List Nat)} (h : Unf nx (kidsI nx x ++ st) l) : Unf nx (x :: st) (x :: l)
def placesI (l : List (Nat × List Nat)) : List Nat := l.map (·.1)
section
variable {nx nx' : Nat → List Nat} {st st' l l' a b : List (Nat × List Nat)}
theorem unf_det (h : Unf nx st l) : ∀ {l'}, Unf nx st l' → l = l' := by
  induction h with
  | nil =>
    intro l' h'
    cases h'
    rfl
  | cons _ ih =>
    intro l' h'
    cases h' with
    | cons h2 => rw [ih h2]
theorem unf_split : ∀ {l a b : List (Nat × List Nat)}, Unf nx (a ++ b) l → ∃ l1 l2, l = l1 ++ l2 ∧ Unf nx a l1 ∧ Unf nx b l2
  | l, [], b, h => ⟨[], l, rfl, .nil, h⟩
  | [], x :: a, b, h => by cases h
  | y :: l, x :: a, b, h => by
    rw [List.cons_append] at h
    cases h with
    | cons h2 =>
      rw [← List.append_assoc] at h2
      obtain ⟨l1, l2, e, h3, h4⟩ := unf_split h2
      exact ⟨_ :: l1, l2, by rw [e, List.cons_append], .cons h3, h4⟩
theorem unf_join (h : Unf nx a l) (h' : Unf nx b l') : Unf nx (a ++ b) (l ++ l') := by
  induction h with
  | nil => exact h'
  | cons _ ih =>
    rw [List.cons_append, List.cons_append]
    refine .cons ?_
    rw [← List.append_assoc]
    exact ih
/-- Where less leads on, less is come to, in the same order. -/
theorem unf_sub (hs : ∀ x, (nx' x).Sublist (nx x)) (h : Unf nx st l) : ∀ {st'}, st'.Sublist st → ∃ l', Unf nx' st' l' ∧ l'.Sublist l := by
  induction h with
  | nil =>
    intro st' h'
    rw [List.sublist_nil.1 h']
    exact ⟨[], .nil, List.Sublist.refl _⟩
  | @cons x st l _ ih =>
    intro st' h'
    cases h' with
    | cons _ h2 =>
      obtain ⟨l', h3, h4⟩ := ih (h2.trans (List.sublist_append_right _ _))
      exact ⟨l', h3, h4.cons _⟩
    | cons_cons _ h2 =>
      obtain ⟨l', h3, h4⟩ := ih (List.Sublist.append ((hs x.1).map _) h2)
      exact ⟨x :: l', .cons h3, h4.cons_cons _⟩
/-- All of the stack is come to, and all to which what is come to leads. -/
theorem unf_closed (h : Unf nx st l) : (∀ x ∈ st, x ∈ l) ∧ ∀ x ∈ l, ∀ y ∈ kidsI nx x, y ∈ l := by
  induction h with
  | nil => exact ⟨by simp, by simp⟩
  | @cons x st l _ ih =>
    refine ⟨fun y hy => ?_, fun y hy z hz => ?_⟩
    · rcases List.mem_cons.1 hy with rfl | hy
      · exact List.mem_cons_self ..
      · exact List.mem_cons_of_mem _ (ih.1 y (List.mem_append_right _ hy))
    · rcases List.mem_cons.1 hy with rfl | hy
      · exact List.mem_cons_of_mem _ (ih.1 z (List.mem_append_left _ hz))
      · exact List.mem_cons_of_mem _ (ih.2 y hy z hz)
/-- What holds of the stack and goes on by each step holds of all. -/
theorem unf_all (Q : Nat × List Nat → Prop) (h : Unf nx st l) (hk : ∀ x, x ∈ l → Q x → ∀ y ∈ kidsI nx x, Q y) (h0 : ∀ x ∈ st, Q x) : ∀ x ∈ l, Q x := by
  induction h with
  | nil => simp
  | @cons x st l _ ih =>
    intro y hy
    rcases List.mem_cons.1 hy with rfl | hy
    · exact h0 _ (List.mem_cons_self ..)
    · refine ih (fun z hz => hk z (List.mem_cons_of_mem _ hz)) (fun z hz => ?_) y hy
      rcases List.mem_append.1 hz with hz | hz
      · exact hk x (List.mem_cons_self ..) (h0 x (List.mem_cons_self ..)) z hz
      · exact h0 z (List.mem_cons_of_mem _ hz)
/-- The way to what is come to from one is come to. -/
theorem unf_way {pc : Nat} (h : Unf nx [(pc, [])] l) : ∀ x ∈ l, ∀ p ps, x.2 = p :: ps → (p, ps) ∈ l := by
  refine unf_all (fun x => ∀ p ps, x.2 = p :: ps → (p, ps) ∈ l) h ?_ ?_
  · intro x hx _ y hy p ps e
    obtain ⟨k, hk, rfl⟩ := List.mem_map.1 hy
    simp only [List.cons.injEq] at e
    obtain ⟨rfl, rfl⟩ := e
    exact hx
  · intro x hx p ps e
    obtain rfl : x = (pc, []) := by simpa using hx
    cases e
theorem same_item {l : List (Nat × List Nat)} (hd : (placesI l).Nodup) {x y : Nat × List Nat} (hx : x ∈ l) (hy : y ∈ l) (e : x.1 = y.1) : x = y := by
  induction l with
  | nil => simp at hx
  | cons z l ih =>
    have h2 : z.1 ∉ placesI l ∧ (placesI l).Nodup := List.nodup_cons.1 hd
    have hm : ∀ u ∈ l, u.1 ∈ placesI l := fun u hu => List.mem_map.2 ⟨u, hu, rfl⟩
    rcases List.mem_cons.1 hx with h3 | h3
    · rcases List.mem_cons.1 hy with h4 | h4
      · rw [h3, h4]
      · exact absurd (by rw [← h3, e]; exact hm y h4) h2.1
    · rcases List.mem_cons.1 hy with h4 | h4
      · exact absurd (by rw [← h4, ← e]; exact hm x h3) h2.1
      · exact ih h2.2 h3 h4
theorem way_len {pc : Nat} (h : Unf nx [(pc, [])] l) : ∀ (ps : List Nat) (p a : Nat), (p, ps) ∈ l → a ∈ ps → ∃ as, (a, as) ∈ l ∧ as.length < ps.length
  | [], p, a, _, ha => by simp at ha
  | q :: qs, p, a, hm, ha => by
    have h2 := unf_way h _ hm q qs rfl
    rcases List.mem_cons.1 ha with rfl | ha
    · exact ⟨qs, h2, by simp⟩
    · obtain ⟨as, h3, h4⟩ := way_len h qs q a h2 ha
      exact ⟨as, h3, by simp; omega⟩
/-- Where each is come to once, a way has each once. -/
theorem way_nodup {pc : Nat} (h : Unf nx [(pc, [])] l) (hd : (placesI l).Nodup) : ∀ (ps : List Nat) (p : Nat), (p, ps) ∈ l → (p :: ps).Nodup
  | [], p, _ => by simp
  | q :: qs, p, hm => by
    have h2 := unf_way h _ hm q qs rfl
    refine List.nodup_cons.2 ⟨fun hp => ?_, way_nodup h hd qs q h2⟩
    obtain ⟨as, h3, h4⟩ := way_len h (q :: qs) p p hm hp
    have := same_item hd hm h3 rfl
    simp only [Prod.mk.injEq, true_and] at this
    subst this
    omega
theorem way_mem {pc : Nat} (h : Unf nx [(pc, [])] l) {p : Nat} {ps : List Nat} (hm : (p, ps) ∈ l) : ∀ a ∈ p :: ps, a ∈ placesI l := by
  intro a ha
  rcases List.mem_cons.1 ha with rfl | ha
  · exact List.mem_map.2 ⟨_, hm, rfl⟩
  · obtain ⟨as, h3, _⟩ := way_len h ps p a hm ha
    exact List.mem_map.2 ⟨_, h3, rfl⟩
end

theorem nodupLt : ∀ (n : Nat) (l : List Nat), l.Nodup → (∀ x ∈ l, x < n) → l.length ≤ n
  | 0, l, _, h => by
    cases l with
    | nil => simp
    | cons x l => exact absurd (h x (by simp)) (by omega)
  | n + 1, l, hn, h => by
    have h1 := nodupLt n (l.erase n) (hn.erase n) fun x hx => by
      have h2 := h x (List.mem_of_mem_erase hx)
      have h3 : x ≠ n := fun e => by subst e; exact absurd hx (by rw [hn.mem_erase_iff]; simp)
      omega
    have h4 := List.length_erase (a := n) (l := l)
    split at h4 <;> omega
def newB (seen : List Bool) (pc : Nat) : Bool := !(seen.getD pc true)
theorem newB_count {seen : List Bool} {pc : Nat} (h : newB seen pc = true) : (seen.set pc true).count false + 1 = seen.count false := count_set _ _ (by simpa [newB] using h)
theorem newB_set (seen : List Bool) (pc i : Nat) : newB (seen.set pc true) i = (newB seen i && decide (i ≠ pc)) := new_visit ⟨seen, [], false⟩ pc zeroI i
theorem newB_lt {seen : List Bool} {pc : Nat} (h : newB seen pc = true) : pc < seen.length := new_lt (s := ⟨seen, [], false⟩) h
/-- The document's walk: what was come to; what reads; how many match; was one come to twice? -/
structure Wy where
  seen : List Bool
  out : List Nat
  hits : Nat
  twice : Bool
def visitO (pc : Nat) (x : Ins) (s : Wy) : Wy := ⟨s.seen.set pc true, if x.op = 2 then s.out ++ [pc] else s.out, if x.op = 1 then s.hits + 1 else s.hits, s.twice⟩
theorem nx_two (meets : Int → Bool) (I : List Ins) (pc : Nat) : (nxI meets I pc).length ≤ 2 := next_two _ _
def goO (meets : Int → Bool) (I : List Ins) (st : List Nat) (s : Wy) : Wy :=
  match st with
  | [] => s
  | pc :: st =>
    if h : newB s.seen pc = true then goO meets I (nxI meets I pc ++ st) (visitO pc (atI I pc) s)
    else goO meets I st { s with twice := true }
termination_by 2 * s.seen.count false + st.length
decreasing_by
  · have h1 := newB_count h
    have h2 := nx_two meets I pc
    simp only [List.length_append, List.length_cons, visitO]
    omega
  · simp only [List.length_cons]
    omega
section
variable {meets : Int → Bool} {I : List Ins}
theorem go_nil (s : Wy) : goO meets I [] s = s := by rw [goO]
theorem go_old {s : Wy} {pc : Nat} (st : List Nat) (h : newB s.seen pc = false) : goO meets I (pc :: st) s = goO meets I st { s with twice := true } := by
  rw [goO, dif_neg (by simp [h])]
theorem go_new {s : Wy} {pc : Nat} (st : List Nat) (h : newB s.seen pc = true) : goO meets I (pc :: st) s = goO meets I (nxI meets I pc ++ st) (visitO pc (atI I pc) s) := by
  rw [goO, dif_pos h]
theorem go_keep (Q : List Nat → Wy → Prop) (R : Wy → Prop) (h0 : ∀ s, Q [] s → R s)
    (hold : ∀ pc st s, Q (pc :: st) s → newB s.seen pc = false → Q st { s with twice := true })
    (hnew : ∀ pc st s, Q (pc :: st) s → newB s.seen pc = true → Q (nxI meets I pc ++ st) (visitO pc (atI I pc) s)) :
    ∀ (n : Nat) (st : List Nat) (s : Wy), 2 * s.seen.count false + st.length = n → Q st s → R (goO meets I st s) := by
  intro n
  induction n using Nat.strongRecOn with
  | _ n ih =>
    intro st s hn hq
    rcases st with _ | ⟨pc, st⟩
    · rw [go_nil]
      exact h0 s hq
    · cases h : newB s.seen pc
      · rw [go_old st h]
        refine ih _ ?_ _ _ rfl (hold pc st s hq h)
        subst hn
        simp only [List.length_cons]
        omega
      · rw [go_new st h]
        have h1 := newB_count h
        have h2 := nx_two meets I pc
        refine ih _ ?_ _ _ rfl (hnew pc st s hq h)
        subst hn
        simp only [List.length_append, List.length_cons, visitO]
        omega
theorem go_append (a b : List Nat) (s : Wy) : goO meets I (a ++ b) s = goO meets I b (goO meets I a s) := by
  refine go_keep (meets := meets) (I := I) (fun st t => goO meets I (st ++ b) t = goO meets I (a ++ b) s) (fun t => goO meets I (a ++ b) s = goO meets I b t) ?_ ?_ ?_ _ a s rfl rfl
  · intro t ht
    exact ht.symm
  · intro pc st t ht ho
    rw [← ht, List.cons_append, go_old _ ho]
  · intro pc st t ht hn
    rw [← ht, List.cons_append, go_new _ hn, List.append_assoc]
theorem go_len (st : List Nat) (s : Wy) : (goO meets I st s).seen.length = s.seen.length := by
  refine go_keep (meets := meets) (I := I) (fun _ t => t.seen.length = s.seen.length) (fun t => t.seen.length = s.seen.length) (fun _ h => h) (fun _ _ _ h _ => h) ?_ _ st s rfl rfl
  intro pc st t ht _
  simpa [visitO] using ht
theorem go_left (st : List Nat) (s : Wy) : (goO meets I st s).seen.count false ≤ s.seen.count false := by
  refine go_keep (meets := meets) (I := I) (fun _ t => t.seen.count false ≤ s.seen.count false) (fun t => t.seen.count false ≤ s.seen.count false) (fun _ h => h) (fun _ _ _ h _ => h) ?_ _ st s rfl (Nat.le_refl _)
  intro pc st t ht hn
  have := newB_count hn
  simp only [visitO]
  omega
theorem go_out (st : List Nat) (s : Wy) (h : ∀ k ∈ s.out, k < s.seen.length) : ∀ k ∈ (goO meets I st s).out, k < s.seen.length := by
  refine (go_keep (meets := meets) (I := I) (fun _ t => t.seen.length = s.seen.length ∧ ∀ k ∈ t.out, k < s.seen.length) (fun t => ∀ k ∈ t.out, k < s.seen.length) (fun _ h => h.2) (fun _ _ _ h _ => h) ?_ _ st s rfl ⟨rfl, h⟩)
  rintro pc st t ⟨h1, h2⟩ hn
  refine ⟨by simpa [visitO] using h1, fun k hk => ?_⟩
  simp only [visitO] at hk
  split at hk
  · rcases List.mem_append.1 hk with hk | hk
    · exact h2 k hk
    · obtain rfl : k = pc := by simpa using hk
      have := newB_lt hn
      omega
  · exact h2 k hk
theorem go_twice (st : List Nat) (s : Wy) (h : s.twice = true) : (goO meets I st s).twice = true := by
  refine go_keep (meets := meets) (I := I) (fun _ t => t.twice = true) (fun t => t.twice = true) (fun _ h => h) (fun _ _ _ h _ => rfl) ?_ _ st s rfl h
  intro pc st t ht _
  exact ht
theorem places_kids (nx : Nat → List Nat) (x : Nat × List Nat) (st : List (Nat × List Nat)) : placesI (kidsI nx x ++ st) = nx x.1 ++ placesI st := by
  simp [placesI, kidsI, List.map_map, Function.comp_def]
/-- What is not come to twice is what one comes to. -/
theorem go_unf : ∀ (n : Nat) (it : List (Nat × List Nat)) (s : Wy), 2 * s.seen.count false + it.length = n → (goO meets I (placesI it) s).twice = false →
    s.twice = false ∧ ∃ l, Unf (nxI meets I) it l ∧ (placesI l).Nodup ∧ (∀ x ∈ l, newB s.seen x.1 = true) ∧
      (goO meets I (placesI it) s).out = s.out ++ (placesI l).filter (fun pc => decide ((atI I pc).op = 2)) ∧
      (goO meets I (placesI it) s).hits = s.hits + (placesI l).countP (fun pc => decide ((atI I pc).op = 1)) := by
  intro n
  induction n using Nat.strongRecOn with
  | _ n ih =>
    intro it s hn ht
    rcases it with _ | ⟨x, it⟩
    · rw [show placesI [] = [] from rfl, go_nil] at ht ⊢
      exact ⟨ht, [], .nil, by simp [placesI], by simp, by simp [placesI], by simp [placesI]⟩
    · rw [show placesI (x :: it) = x.1 :: placesI it from rfl] at ht ⊢
      cases h : newB s.seen x.1
      · rw [go_old _ h, go_twice _ _ rfl] at ht
        cases ht
      · rw [go_new _ h, ← places_kids] at ht ⊢
        have h1 := newB_count h
        have h2 := nx_two meets I x.1
        obtain ⟨g1, l, g2, g3, g4, g5, g6⟩ := ih _ (by
          subst hn
          simp only [List.length_append, List.length_cons, visitO, kidsI, List.length_map]
          omega) (kidsI (nxI meets I) x ++ it) (visitO x.1 (atI I x.1) s) rfl ht
        refine ⟨g1, x :: l, .cons g2, ?_, ?_, ?_, ?_⟩
        · refine List.nodup_cons.2 ⟨fun hm => ?_, g3⟩
          obtain ⟨y, hy, e⟩ := List.mem_map.1 hm
          have := g4 y hy
          simp only [visitO] at this
          rw [newB_set, e] at this
          simp at this
        · intro y hy
          rcases List.mem_cons.1 hy with rfl | hy
          · exact h
          · have := g4 y hy
            simp only [visitO] at this
            rw [newB_set, Bool.and_eq_true] at this
            exact this.1
        · rw [g5, show placesI (x :: l) = x.1 :: placesI l from rfl, List.filter_cons]
          simp only [visitO]
          by_cases ho : (atI I x.1).op = 2
          · simp [ho]
          · simp [ho]
        · rw [g6, show placesI (x :: l) = x.1 :: placesI l from rfl, List.countP_cons]
          simp only [visitO]
          by_cases ho : (atI I x.1).op = 1
          · simp [ho]
            omega
          · simp [ho]
theorem unf_go {it l : List (Nat × List Nat)} (h : Unf (nxI meets I) it l) : ∀ (s : Wy), (placesI l).Nodup → (∀ x ∈ l, newB s.seen x.1 = true) → (goO meets I (placesI it) s).twice = s.twice := by
  induction h with
  | nil =>
    intro s _ _
    rw [show placesI [] = [] from rfl, go_nil]
  | @cons x st l _ ih =>
    intro s hd hn
    rw [show placesI (x :: st) = x.1 :: placesI st from rfl, go_new _ (hn x (List.mem_cons_self ..)), ← places_kids]
    have h2 : x.1 ∉ placesI l ∧ (placesI l).Nodup := List.nodup_cons.1 hd
    refine ih (visitO x.1 (atI I x.1) s) h2.2 fun y hy => ?_
    simp only [visitO]
    rw [newB_set, hn y (List.mem_cons_of_mem _ hy)]
    have : y.1 ≠ x.1 := fun e => h2.1 (List.mem_map.2 ⟨y, hy, e⟩)
    simp [this]
end
/-- The program's walk, which ends where one is come to twice: was it so; what was come to. -/
def eachO (meets : Int → Bool) (I : List Ins) (st : List (Nat × List Nat)) (seen : List Bool) (vis : List (Nat × List Nat)) : Bool × List (Nat × List Nat) :=
  match st with
  | [] => (false, vis)
  | x :: st => if h : newB seen x.1 = true then eachO meets I (kidsI (nxI meets I) x ++ st) (seen.set x.1 true) (vis ++ [x]) else (true, vis)
termination_by 2 * seen.count false + st.length
decreasing_by
  have h1 := newB_count h
  have h2 := nx_two meets I x.1
  simp only [List.length_append, List.length_cons, kidsI, List.length_map]
  omega
section
variable {meets : Int → Bool} {I : List Ins}
theorem each_nil (seen : List Bool) (vis : List (Nat × List Nat)) : eachO meets I [] seen vis = (false, vis) := by rw [eachO]
theorem each_old {seen : List Bool} {x : Nat × List Nat} (st vis : List (Nat × List Nat)) (h : newB seen x.1 = false) : eachO meets I (x :: st) seen vis = (true, vis) := by
  rw [eachO, dif_neg (by simp [h])]
theorem each_new {seen : List Bool} {x : Nat × List Nat} (st vis : List (Nat × List Nat)) (h : newB seen x.1 = true) :
    eachO meets I (x :: st) seen vis = eachO meets I (kidsI (nxI meets I) x ++ st) (seen.set x.1 true) (vis ++ [x]) := by
  rw [eachO, dif_pos h]
theorem each_keep (Q : List (Nat × List Nat) → List Bool → List (Nat × List Nat) → Prop) (R : Bool → List (Nat × List Nat) → Prop) (h0 : ∀ seen vis, Q [] seen vis → R false vis)
    (hold : ∀ x st seen vis, Q (x :: st) seen vis → newB seen x.1 = false → R true vis)
    (hnew : ∀ x st seen vis, Q (x :: st) seen vis → newB seen x.1 = true → Q (kidsI (nxI meets I) x ++ st) (seen.set x.1 true) (vis ++ [x])) :
    ∀ (n : Nat) (st : List (Nat × List Nat)) (seen : List Bool) (vis : List (Nat × List Nat)), 2 * seen.count false + st.length = n → Q st seen vis → R (eachO meets I st seen vis).1 (eachO meets I st seen vis).2 := by
  intro n
  induction n using Nat.strongRecOn with
  | _ n ih =>
    intro st seen vis hn hq
    rcases st with _ | ⟨x, st⟩
    · rw [each_nil]
      exact h0 _ _ hq
    · cases h : newB seen x.1
      · rw [each_old _ _ h]
        exact hold x st seen vis hq h
      · rw [each_new _ _ h]
        have h1 := newB_count h
        have h2 := nx_two meets I x.1
        refine ih _ ?_ _ _ _ rfl (hnew x st seen vis hq h)
        subst hn
        simp only [List.length_append, List.length_cons, kidsI, List.length_map]
        omega
/-- What it has come to stays ahead. -/
theorem each_prefix (st : List (Nat × List Nat)) (seen : List Bool) (vis : List (Nat × List Nat)) : ∃ rest, vis ++ rest = (eachO meets I st seen vis).2 := by
  refine each_keep (meets := meets) (I := I) (fun _ _ v => ∃ rest, vis ++ rest = v) (fun _ v => ∃ rest, vis ++ rest = v) (fun _ _ h => h) (fun _ _ _ _ h _ => h) ?_ _ st seen vis rfl ⟨[], by simp⟩
  rintro x st s v ⟨rest, rfl⟩ _
  exact ⟨rest ++ [x], by simp⟩
/-- Where nothing is come to twice, it is what one comes to, each once. -/
theorem each_unf : ∀ (n : Nat) (st : List (Nat × List Nat)) (seen : List Bool) (vis : List (Nat × List Nat)), 2 * seen.count false + st.length = n → (eachO meets I st seen vis).1 = false →
    ∃ l, Unf (nxI meets I) st l ∧ (placesI l).Nodup ∧ (∀ x ∈ l, newB seen x.1 = true) ∧ (eachO meets I st seen vis).2 = vis ++ l := by
  intro n
  induction n using Nat.strongRecOn with
  | _ n ih =>
    intro st seen vis hn ht
    rcases st with _ | ⟨x, st⟩
    · rw [each_nil]
      exact ⟨[], .nil, by simp [placesI], by simp, by simp⟩
    · cases h : newB seen x.1
      · rw [each_old _ _ h] at ht
        cases ht
      · rw [each_new _ _ h] at ht ⊢
        have h1 := newB_count h
        have h2 := nx_two meets I x.1
        obtain ⟨l, g2, g3, g4, g5⟩ := ih _ (by
          subst hn
          simp only [List.length_append, List.length_cons, kidsI, List.length_map]
          omega) (kidsI (nxI meets I) x ++ st) (seen.set x.1 true) (vis ++ [x]) rfl ht
        refine ⟨x :: l, .cons g2, ?_, ?_, by rw [g5]; simp⟩
        · refine List.nodup_cons.2 ⟨fun hm => ?_, g3⟩
          obtain ⟨y, hy, e⟩ := List.mem_map.1 hm
          have := g4 y hy
          rw [newB_set, e] at this
          simp at this
        · intro y hy
          rcases List.mem_cons.1 hy with rfl | hy
          · exact h
          · have := g4 y hy
            rw [newB_set, Bool.and_eq_true] at this
            exact this.1
theorem unf_each {st l : List (Nat × List Nat)} (h : Unf (nxI meets I) st l) : ∀ (seen : List Bool) (vis : List (Nat × List Nat)), (placesI l).Nodup → (∀ x ∈ l, newB seen x.1 = true) → eachO meets I st seen vis = (false, vis ++ l) := by
  induction h with
  | nil =>
    intro seen vis _ _
    rw [each_nil, List.append_nil]
  | @cons x st l _ ih =>
    intro seen vis hd hn
    rw [each_new _ _ (hn x (List.mem_cons_self ..))]
    have h2 : x.1 ∉ placesI l ∧ (placesI l).Nodup := List.nodup_cons.1 hd
    rw [ih (seen.set x.1 true) (vis ++ [x]) h2.2 fun y hy => ?_]
    · simp
    · rw [newB_set, hn y (List.mem_cons_of_mem _ hy)]
      have : y.1 ≠ x.1 := fun e => h2.1 (List.mem_map.2 ⟨y, hy, e⟩)
      simp [this]
/-- What it has come to, each once, and within the program. -/
theorem each_vis (st : List (Nat × List Nat)) (seen : List Bool) : (placesI (eachO meets I st seen []).2).Nodup ∧ ∀ x ∈ (eachO meets I st seen []).2, x.1 < seen.length := by
  refine each_keep (meets := meets) (I := I) (fun _ s vis => s.length = seen.length ∧ (placesI vis).Nodup ∧ (∀ x ∈ vis, x.1 < seen.length) ∧ ∀ x ∈ vis, newB s x.1 = false) (fun _ vis => (placesI vis).Nodup ∧ ∀ x ∈ vis, x.1 < seen.length) (fun _ _ h => ⟨h.2.1, h.2.2.1⟩) (fun _ _ _ _ h _ => ⟨h.2.1, h.2.2.1⟩) ?_ _ st seen [] rfl ⟨rfl, by simp [placesI], by simp, by simp⟩
  rintro x st s vis ⟨h1, h2, h3, h4⟩ hn
  refine ⟨by simpa using h1, ?_, fun y hy => ?_, fun y hy => ?_⟩
  · rw [placesI, List.map_append, List.nodup_append]
    refine ⟨h2, by simp, fun a ha b hb => ?_⟩
    obtain ⟨y, hy, rfl⟩ := List.mem_map.1 ha
    obtain rfl : b = x.1 := by simpa using hb
    intro e
    have := h4 y hy
    rw [e, hn] at this
    cases this
  · rcases List.mem_append.1 hy with hy | hy
    · exact h3 y hy
    · obtain rfl : y = x := by simpa using hy
      have := newB_lt hn
      omega
  · rw [newB_set]
    rcases List.mem_append.1 hy with hy | hy
    · rw [h4 y hy]
      rfl
    · obtain rfl : y = x := by simpa using hy
      simp
end
end Go.Proofs.Ytnemacejaiifnaa
/- Plain mathematics of programs that need no choice: which these are; how they are looked for. No condition. -/
namespace Go.Proofs.Ytnemacejaiifnaa

def allM (_ : Int) : Bool := true
def noB (a : Int) : Bool := decide (a ≠ 1)
def isSet (I : List Ins) (pc : Nat) : Bool := decide ((atI I pc).op = 2)
def isHit (I : List Ins) (pc : Nat) : Bool := decide ((atI I pc).op = 1)
/-- Two sets have no rune in common. -/
def ApartR (a b : List (Int × Int)) : Prop := ∀ c, ¬ (HasR a c ∧ HasR b c)
def ApartI (I : List Ins) (L : List Nat) : Prop := L.Pairwise fun i k => ApartR (atI I i).set (atI I k).set
/-- From an instruction there is no choice. -/
def GoodI (I : List Ins) (pc : Nat) : Prop := ∃ l, Unf (nxI allM I) [(pc, [])] l ∧ (placesI l).Nodup ∧ (placesI l).countP (isHit I) ≤ 1 ∧ ApartI I ((placesI l).filter (isSet I))
/-- One comes to what reads or matches, and not where a text begins. -/
def LooseI (I : List Ins) (pc : Nat) : Prop := ∃ l, Unf (nxI noB I) [(pc, [])] l ∧ ∃ x ∈ l, isHit I x.1 = true ∨ isSet I x.1 = true
inductive ReachI (I : List Ins) (pc0 : Nat) : Nat → Prop
  | start : ReachI I pc0 pc0
  | step {pc : Nat} {l : List (Nat × List Nat)} {k : Nat} (h : ReachI I pc0 pc) (hu : Unf (nxI allM I) [(pc, [])] l) (hk : k ∈ placesI l) (ho : isSet I k = true) : ReachI I pc0 (atI I k).out.toNat
/-- The program is admitted. -/
def OneI (p : Pg) : Prop := RightPg p ∧ ¬ LooseI p.ins p.start.toNat ∧ ∀ pc, ReachI p.ins p.start.toNat pc → GoodI p.ins pc
section
variable {I : List Ins}
theorem nx_part (meets : Int → Bool) (pc : Nat) : (nxI meets I pc).Sublist (nxI allM I pc) := by
  unfold nxI nextI allM
  split
  · exact List.Sublist.refl _
  · split
    · exact List.Sublist.refl _
    · split
      · split
        · exact List.Sublist.refl _
        · exact List.nil_sublist _
      · exact List.Sublist.refl _
/-- Where there is no choice, there is none where less leads on. -/
theorem good_part {pc : Nat} (h : GoodI I pc) (meets : Int → Bool) : ∃ l l0, Unf (nxI meets I) [(pc, [])] l ∧ Unf (nxI allM I) [(pc, [])] l0 ∧ l.Sublist l0 ∧ (placesI l).Nodup ∧ (placesI l0).Nodup ∧ (placesI l0).countP (isHit I) ≤ 1 ∧ ApartI I ((placesI l0).filter (isSet I)) := by
  obtain ⟨l0, h1, h2, h3, h4⟩ := h
  obtain ⟨l, h5, h6⟩ := unf_sub (nx_part meets) h1 (List.Sublist.refl _)
  exact ⟨l, l0, h5, h1, h6, h2.sublist (h6.map _), h2, h3, h4⟩
theorem outs_lt {p : Pg} (hR : RightPg p) {k : Nat} (hk : isSet p.ins k = true) : (atI p.ins k).out.toNat < p.ins.length := by
  unfold isSet at hk
  have ho := of_decide_eq_true hk
  have hlt : k < p.ins.length := by
    rcases Nat.lt_or_ge k p.ins.length with h | h
    · exact h
    · simp [atI, List.getElem?_eq_none h, zeroI] at ho
  have hm : atI p.ins k ∈ p.ins := by
    have : atI p.ins k = p.ins[k] := by simp [atI, hlt]
    rw [this]
    exact List.getElem_mem hlt
  have := hR.2.2.2.2.2.2 _ hm
  unfold SoundI PlaceI at this
  omega
theorem kids_lt {p : Pg} (hR : RightPg p) (meets : Int → Bool) {pc k : Nat} (hk : k ∈ nxI meets p.ins pc) : k < p.ins.length := by
  have hlt : pc < p.ins.length := by
    rcases Nat.lt_or_ge pc p.ins.length with h | h
    · exact h
    · simp [nxI, nextI, atI, List.getElem?_eq_none h, zeroI] at hk
  have hm : atI p.ins pc ∈ p.ins := by
    have : atI p.ins pc = p.ins[pc] := by simp [atI, hlt]
    rw [this]
    exact List.getElem_mem hlt
  have hs := hR.2.2.2.2.2.2 _ hm
  unfold SoundI PlaceI at hs
  unfold nxI nextI at hk
  split at hk
  · rename_i h3
    simp at hk
    omega
  · split at hk
    · simp at hk
      omega
    · split at hk
      · split at hk
        · simp at hk
          omega
        · simp at hk
      · simp at hk
theorem start_lt {p : Pg} (hR : RightPg p) : p.start.toNat < p.ins.length := by
  have := hR.2.2.1
  unfold PlaceI at this
  omega
theorem unf_lt {p : Pg} (hR : RightPg p) {meets : Int → Bool} {pc : Nat} (hpc : pc < p.ins.length) {l : List (Nat × List Nat)} (h : Unf (nxI meets p.ins) [(pc, [])] l) : ∀ x ∈ l, x.1 < p.ins.length := by
  refine unf_all (fun x => x.1 < p.ins.length) h (fun x _ _ y hy => ?_) (by simpa using hpc)
  obtain ⟨k, hk, rfl⟩ := List.mem_map.1 hy
  exact kids_lt hR meets hk
theorem reach_lt {p : Pg} (hR : RightPg p) {pc : Nat} (h : ReachI p.ins p.start.toNat pc) : pc < p.ins.length := by
  cases h with
  | start => exact start_lt hR
  | step h hu hk ho => exact outs_lt hR ho
end
/-- What is still to be looked at: one more. -/
def pushQ (k : Nat) (q : List Bool × List Nat) : List Bool × List Nat := if newB q.1 k = true then (q.1.set k true, q.2 ++ [k]) else q
def pushAll (ks : List Nat) (q : List Bool × List Nat) : List Bool × List Nat := ks.foldl (fun q k => pushQ k q) q
theorem pushAll_app (a b : List Nat) (q : List Bool × List Nat) : pushAll (a ++ b) q = pushAll b (pushAll a q) := List.foldl_append ..
theorem pushAll_cons (k : Nat) (b : List Nat) (q : List Bool × List Nat) : pushAll (k :: b) q = pushAll b (pushQ k q) := rfl
theorem pushQ_len (k : Nat) (q : List Bool × List Nat) : (pushQ k q).1.length = q.1.length := by
  unfold pushQ
  split
  · simp
  · rfl
theorem pushAll_len : ∀ (ks : List Nat) (q : List Bool × List Nat), (pushAll ks q).1.length = q.1.length
  | [], q => rfl
  | k :: ks, q => by rw [pushAll_cons, pushAll_len ks, pushQ_len]
/-- Some more are still to be looked at, and as many fewer are new. -/
theorem pushQ_count (k : Nat) (q : List Bool × List Nat) : (pushQ k q).1.count false + (pushQ k q).2.length = q.1.count false + q.2.length := by
  unfold pushQ
  split
  · rename_i h
    have := newB_count h
    simp only [List.length_append, List.length_cons, List.length_nil]
    omega
  · rfl
theorem pushAll_count : ∀ (ks : List Nat) (q : List Bool × List Nat), (pushAll ks q).1.count false + (pushAll ks q).2.length = q.1.count false + q.2.length
  | [], q => rfl
  | k :: ks, q => by rw [pushAll_cons, pushAll_count ks, pushQ_count]
/-- Which were come to, which of them are still to be looked at. -/
structure QueI (I : List Ins) (pc0 : Nat) (q : List Bool × List Nat) : Prop where
  reach : ∀ i, i < q.1.length → newB q.1 i = false → ReachI I pc0 i
  fine : ∀ i, i < q.1.length → newB q.1 i = false → i ∈ q.2 ∨ (GoodI I i ∧ ∀ l, Unf (nxI allM I) [(i, [])] l → ∀ k ∈ placesI l, isSet I k = true → newB q.1 (atI I k).out.toNat = false)
  start : newB q.1 pc0 = false
  todo : ∀ i ∈ q.2, i < q.1.length ∧ newB q.1 i = false
theorem newB_push {q : List Bool × List Nat} {k i : Nat} (h : newB q.1 i = false) : newB (pushQ k q).1 i = false := by
  unfold pushQ
  split
  · simp only
    rw [newB_set, h]
    rfl
  · exact h
theorem newB_pushAll : ∀ (ks : List Nat) (q : List Bool × List Nat) (i : Nat), newB q.1 i = false → newB (pushAll ks q).1 i = false
  | [], q, i, h => h
  | k :: ks, q, i, h => by
    rw [pushAll_cons]
    exact newB_pushAll ks _ i (newB_push h)
theorem newB_pushed {q : List Bool × List Nat} {k : Nat} : newB (pushQ k q).1 k = false := by
  unfold pushQ
  split
  · simp only
    rw [newB_set]
    simp
  · rename_i h
    simpa using h
theorem mem_push {q : List Bool × List Nat} {k i : Nat} (h : i ∈ q.2) : i ∈ (pushQ k q).2 := by
  unfold pushQ
  split
  · exact List.mem_append_left _ h
  · exact h
theorem mem_pushAll : ∀ (ks : List Nat) (q : List Bool × List Nat) (i : Nat), i ∈ q.2 → i ∈ (pushAll ks q).2
  | [], q, i, h => h
  | k :: ks, q, i, h => by
    rw [pushAll_cons]
    exact mem_pushAll ks _ i (mem_push h)
/-- What is new behind a push was it ahead, or is pushed. -/
theorem push_is {q : List Bool × List Nat} {k i : Nat} (h : newB (pushQ k q).1 i = false) : newB q.1 i = false ∨ (i = k ∧ i ∈ (pushQ k q).2) := by
  unfold pushQ at h ⊢
  split at h
  · rename_i hn
    rw [if_pos hn]
    simp only at h
    rw [newB_set, Bool.and_eq_false_iff] at h
    rcases h with h | h
    · exact .inl h
    · have : i = k := by simpa using h
      exact .inr ⟨this, by simp [this]⟩
  · exact .inl h
theorem pushAll_is : ∀ (ks : List Nat) (q : List Bool × List Nat) (i : Nat), newB (pushAll ks q).1 i = false → newB q.1 i = false ∨ (i ∈ ks ∧ i ∈ (pushAll ks q).2)
  | [], q, i, h => .inl h
  | k :: ks, q, i, h => by
    rw [pushAll_cons] at h ⊢
    rcases pushAll_is ks _ i h with h1 | ⟨h1, h2⟩
    · rcases push_is h1 with h3 | ⟨rfl, h4⟩
      · exact .inl h3
      · exact .inr ⟨List.mem_cons_self .., mem_pushAll ks _ _ h4⟩
    · exact .inr ⟨List.mem_cons_of_mem _ h1, h2⟩
theorem pushAll_new : ∀ (ks : List Nat) (q : List Bool × List Nat) (i : Nat), i ∈ ks → newB (pushAll ks q).1 i = false
  | k :: ks, q, i, h => by
    rw [pushAll_cons]
    rcases List.mem_cons.1 h with rfl | h
    · exact newB_pushAll ks _ _ newB_pushed
    · exact pushAll_new ks _ i h
theorem pushAll_todo : ∀ (ks : List Nat) (q : List Bool × List Nat), (∀ i ∈ q.2, i < q.1.length ∧ newB q.1 i = false) → ∀ i ∈ (pushAll ks q).2, i < (pushAll ks q).1.length ∧ newB (pushAll ks q).1 i = false
  | [], q, h => h
  | k :: ks, q, h => by
    rw [pushAll_cons]
    refine pushAll_todo ks _ fun i hi => ?_
    unfold pushQ at hi ⊢
    split at hi
    · rename_i hn
      rw [if_pos hn]
      simp only [List.length_set]
      rcases List.mem_append.1 hi with hi | hi
      · refine ⟨(h i hi).1, ?_⟩
        rw [newB_set, (h i hi).2]
        rfl
      · obtain rfl : i = k := by simpa using hi
        exact ⟨newB_lt hn, by rw [newB_set]; simp⟩
    · rename_i hn
      rw [if_neg hn]
      exact h i hi
/-- One is looked at, and all that it leads to comes to what is still to be looked at. -/
theorem que_step {I : List Ins} {pc0 pc : Nat} {q : List Bool × List Nat} {todo : List Nat} (h : QueI I pc0 q) (hm : pc ∈ q.2) (h1 : ∀ i ∈ q.2, i = pc ∨ i ∈ todo) (h2 : ∀ i ∈ todo, i ∈ q.2) (hg : GoodI I pc)
    {l : List (Nat × List Nat)} (hl : Unf (nxI allM I) [(pc, [])] l) : QueI I pc0 (pushAll (((placesI l).filter (isSet I)).map fun k => (atI I k).out.toNat) (q.1, todo)) := by
  obtain ⟨a, b, c, d⟩ := h
  obtain ⟨ks, hks⟩ : ∃ ks, ((placesI l).filter (isSet I)).map (fun k => (atI I k).out.toNat) = ks := ⟨_, rfl⟩
  rw [hks]
  have hin : ∀ k ∈ placesI l, isSet I k = true → (atI I k).out.toNat ∈ ks := fun k hk ho => by
    rw [← hks]
    exact List.mem_map.2 ⟨k, List.mem_filter.2 ⟨hk, ho⟩, rfl⟩
  have hpr := a pc (d pc hm).1 (d pc hm).2
  refine ⟨fun i hi hn => ?_, fun i hi hn => ?_, newB_pushAll ks _ _ c, pushAll_todo ks _ fun i hi => d i (h2 i hi)⟩
  · rw [pushAll_len] at hi
    rcases pushAll_is ks _ i hn with h3 | ⟨h3, _⟩
    · exact a i hi h3
    · rw [← hks] at h3
      obtain ⟨k, hk, rfl⟩ := List.mem_map.1 h3
      obtain ⟨hk, ho⟩ := List.mem_filter.1 hk
      exact .step hpr hl hk ho
  · rw [pushAll_len] at hi
    rcases pushAll_is ks _ i hn with h3 | ⟨_, h3⟩
    · rcases b i hi h3 with h4 | ⟨h4, h5⟩
      · rcases h1 i h4 with rfl | h6
        · refine .inr ⟨hg, fun l' hl' k hk ho => ?_⟩
          rw [unf_det hl' hl] at hk
          exact pushAll_new ks _ _ (hin k hk ho)
        · exact .inl (mem_pushAll ks _ _ h6)
      · exact .inr ⟨h4, fun l' hl' k hk ho => newB_pushAll ks _ _ (h5 l' hl' k hk ho)⟩
    · exact .inl h3
/-- Nothing is left: all that is come to is without choice. -/
theorem que_end {p : Pg} (hR : RightPg p) {done : List Bool} (hl : done.length = p.ins.length) (h : QueI p.ins p.start.toNat (done, [])) : ∀ pc, ReachI p.ins p.start.toNat pc → GoodI p.ins pc := by
  have key : ∀ pc, ReachI p.ins p.start.toNat pc → newB done pc = false := by
    intro pc hp
    induction hp with
    | start => exact h.start
    | @step pc l k hp hu hk ho ih =>
      have hlt : pc < done.length := by
        rw [hl]
        exact reach_lt hR hp
      rcases h.fine pc hlt ih with h1 | ⟨_, h1⟩
      · simp at h1
      · exact h1 l hu k hk ho
  intro pc hp
  have hlt : pc < done.length := by
    rw [hl]
    exact reach_lt hR hp
  rcases h.fine pc hlt (key pc hp) with h1 | ⟨h1, _⟩
  · simp at h1
  · exact h1
theorem que_begin {p : Pg} (hR : RightPg p) : QueI p.ins p.start.toNat ((List.replicate p.ins.length false).set p.start.toNat true, [p.start.toNat]) := by
  have hs := start_lt hR
  have hn : ∀ i, i < p.ins.length → newB (List.replicate p.ins.length false) i = true := fun i hi => by simp [newB, hi]
  have key : ∀ i, i < p.ins.length → newB ((List.replicate p.ins.length false).set p.start.toNat true) i = false → i = p.start.toNat := fun i hi h => by
    rw [newB_set, hn i hi] at h
    simpa using h
  have hst : newB ((List.replicate p.ins.length false).set p.start.toNat true) p.start.toNat = false := by
    rw [newB_set]
    simp
  refine ⟨fun i hi h => ?_, fun i hi h => ?_, hst, fun i hi => ?_⟩
  · rw [key i (by simpa using hi) h]
    exact .start
  · rw [key i (by simpa using hi) h]
    exact .inl (by simp)
  · obtain rfl : i = p.start.toNat := by simpa using hi
    exact ⟨by simpa using hs, hst⟩
/-- The document's walk from one instruction: what it says of there being no choice. -/
theorem good_go {p : Pg} (hR : RightPg p) {pc : Nat} (hpc : pc < p.ins.length) (s : Wy) (hs : s = goO allM p.ins [pc] ⟨List.replicate p.ins.length false, [], 0, false⟩) :
    (GoodI p.ins pc ↔ s.twice = false ∧ s.hits ≤ 1 ∧ ApartI p.ins s.out) ∧ (s.twice = false → ∃ l, Unf (nxI allM p.ins) [(pc, [])] l ∧ s.out = (placesI l).filter (isSet p.ins)) := by
  have key : s.twice = false → ∃ l, Unf (nxI allM p.ins) [(pc, [])] l ∧ (placesI l).Nodup ∧ s.out = (placesI l).filter (isSet p.ins) ∧ s.hits = (placesI l).countP (isHit p.ins) := by
    intro h
    subst hs
    obtain ⟨-, l, h1, h2, -, h4, h5⟩ := go_unf (meets := allM) (I := p.ins) _ [(pc, [])] ⟨List.replicate p.ins.length false, [], 0, false⟩ rfl h
    exact ⟨l, h1, h2, h4.trans (List.nil_append _), h5.trans (Nat.zero_add _)⟩
  refine ⟨⟨?_, ?_⟩, fun h => ?_⟩
  · rintro ⟨l, h1, h2, h3, h4⟩
    have ht : s.twice = false := by
      have := unf_go h1 ⟨List.replicate p.ins.length false, [], 0, false⟩ h2 (fun x hx => by have := unf_lt hR hpc h1 x hx; simp [newB, this])
      rw [hs]
      exact this
    obtain ⟨l', g1, -, g3, g4⟩ := key ht
    rw [unf_det g1 h1] at g3 g4
    exact ⟨ht, by rw [g4]; exact h3, by rw [g3]; exact h4⟩
  · rintro ⟨h1, h2, h3⟩
    obtain ⟨l, g1, g2, g3, g4⟩ := key h1
    exact ⟨l, g1, g2, by rw [← g4]; exact h2, by rw [← g3]; exact h3⟩
  · obtain ⟨l, g1, -, g3, -⟩ := key h
    exact ⟨l, g1, g3⟩
/-- The document's walk, not through the beginning. -/
theorem loose_go {p : Pg} (hR : RightPg p) (s : Wy) (hs : s = goO noB p.ins [p.start.toNat] ⟨List.replicate p.ins.length false, [], 0, false⟩) (ht : s.twice = false) : LooseI p.ins p.start.toNat ↔ (0 < s.hits ∨ s.out ≠ []) := by
  subst hs
  obtain ⟨-, l, h1, h2, -, h4, h5⟩ := go_unf (meets := noB) (I := p.ins) _ [(p.start.toNat, [])] ⟨List.replicate p.ins.length false, [], 0, false⟩ rfl ht
  rw [show placesI [(p.start.toNat, ([] : List Nat))] = [p.start.toNat] from rfl] at h4 h5
  rw [h4, h5]
  simp only [List.nil_append, Nat.zero_add]
  rw [List.countP_pos_iff]
  constructor
  · rintro ⟨l', g1, x, hx, g2⟩
    rw [unf_det g1 h1] at hx
    rcases g2 with g2 | g2
    · exact .inl ⟨x.1, List.mem_map.2 ⟨x, hx, rfl⟩, g2⟩
    · right
      intro e
      have : x.1 ∈ (placesI l).filter (fun pc => decide ((atI p.ins pc).op = 2)) := List.mem_filter.2 ⟨List.mem_map.2 ⟨x, hx, rfl⟩, g2⟩
      rw [e] at this
      simp at this
  · intro h
    refine ⟨l, h1, ?_⟩
    rcases h with ⟨k, hk, ho⟩ | h
    · obtain ⟨x, hx, rfl⟩ := List.mem_map.1 hk
      exact ⟨x, hx, .inl ho⟩
    · obtain ⟨k, hk⟩ := List.exists_mem_of_ne_nil _ h
      obtain ⟨hk, ho⟩ := List.mem_filter.1 hk
      obtain ⟨x, hx, rfl⟩ := List.mem_map.1 hk
      exact ⟨x, hx, .inr ho⟩
/-- The program's walk from one instruction. -/
theorem good_each {p : Pg} (hR : RightPg p) {pc : Nat} (hpc : pc < p.ins.length) (t : Bool) (vis : List (Nat × List Nat)) (he : eachO allM p.ins [(pc, [])] (List.replicate p.ins.length false) [] = (t, vis)) :
    (GoodI p.ins pc ↔ t = false ∧ (placesI vis).countP (isHit p.ins) ≤ 1 ∧ ApartI p.ins ((placesI vis).filter (isSet p.ins))) ∧ (t = false → Unf (nxI allM p.ins) [(pc, [])] vis) := by
  have key : t = false → Unf (nxI allM p.ins) [(pc, [])] vis ∧ (placesI vis).Nodup := by
    rintro rfl
    obtain ⟨l, h1, h2, -, h4⟩ := each_unf (meets := allM) (I := p.ins) _ [(pc, [])] (List.replicate p.ins.length false) [] rfl (by rw [he])
    rw [he] at h4
    have h4 : vis = l := h4
    subst h4
    exact ⟨h1, h2⟩
  refine ⟨⟨?_, ?_⟩, fun h => (key h).1⟩
  · rintro ⟨l, h1, h2, h3, h4⟩
    have := unf_each h1 (List.replicate p.ins.length false) [] h2 (fun x hx => by have := unf_lt hR hpc h1 x hx; simp [newB, this])
    rw [this] at he
    injection he with e1 e2
    have e2 : l = vis := e2
    subst e1 e2
    exact ⟨rfl, h3, h4⟩
  · rintro ⟨h1, h2, h3⟩
    exact ⟨vis, (key h1).1, (key h1).2, h2, h3⟩
theorem loose_each {p : Pg} (t : Bool) (vis : List (Nat × List Nat)) (he : eachO noB p.ins [(p.start.toNat, [])] (List.replicate p.ins.length false) [] = (t, vis)) (ht : t = false) :
    LooseI p.ins p.start.toNat ↔ ∃ x ∈ vis, isHit p.ins x.1 = true ∨ isSet p.ins x.1 = true := by
  subst ht
  obtain ⟨l, h1, h2, -, h4⟩ := each_unf (meets := noB) (I := p.ins) _ [(p.start.toNat, [])] (List.replicate p.ins.length false) [] rfl (by rw [he])
  rw [he] at h4
  have h4 : vis = l := h4
  subst h4
  constructor
  · rintro ⟨l', g1, g2⟩
    rw [unf_det g1 h1] at g2
    exact g2
  · exact fun h => ⟨vis, h1, h⟩
/-- Where one is come to twice, not through the beginning, one is so through it. -/
theorem twice_each {p : Pg} (hR : RightPg p) (vis : List (Nat × List Nat)) (he : eachO noB p.ins [(p.start.toNat, [])] (List.replicate p.ins.length false) [] = (true, vis)) : ¬ GoodI p.ins p.start.toNat := by
  intro h
  obtain ⟨l, l0, h1, h2, h3, h4, -⟩ := good_part h noB
  have := unf_each h1 (List.replicate p.ins.length false) [] h4 (fun x hx => by have := unf_lt hR (start_lt hR) h1 x hx; simp [newB, this])
  rw [he] at this
  cases this
theorem twice_go {p : Pg} (hR : RightPg p) (s : Wy) (hs : s = goO noB p.ins [p.start.toNat] ⟨List.replicate p.ins.length false, [], 0, false⟩) (ht : s.twice = true) : ¬ GoodI p.ins p.start.toNat := by
  intro h
  obtain ⟨l, l0, h1, h2, h3, h4, -⟩ := good_part h noB
  have := unf_go h1 ⟨List.replicate p.ins.length false, [], 0, false⟩ h4 (fun x hx => by have := unf_lt hR (start_lt hR) h1 x hx; simp [newB, this])
  have hx : (goO noB p.ins [p.start.toNat] ⟨List.replicate p.ins.length false, [], 0, false⟩).twice = false := this
  rw [← hs, ht] at hx
  cases hx
/-- Ranges in order that don't touch one another. -/
def ApartL (l : List (Int × Int)) : Prop := l.Pairwise fun r s => r.2 < s.1 ∨ s.2 < r.1
theorem apart_perm {l l' : List (Int × Int)} (h : l.Perm l') : ApartL l ↔ ApartL l' := h.pairwise_iff fun h => h.symm
theorem rightFrom_apart : ∀ (l : List (Int × Int)) (lo : Int), RightFrom lo l → (∀ r ∈ l, lo ≤ r.1 ∧ r.1 ≤ r.2 ∧ r.2 ≤ 1114111) ∧ ApartL l
  | [], lo, h => ⟨by simp, List.Pairwise.nil⟩
  | r :: l, lo, ⟨h1, h2, h3, h4⟩ => by
    obtain ⟨g1, g2⟩ := rightFrom_apart l _ h4
    refine ⟨fun s hs => ?_, List.Pairwise.cons (fun s hs => .inl ?_) g2⟩
    · rcases List.mem_cons.1 hs with rfl | hs
      · exact ⟨h1, h2, h3⟩
      · have := g1 s hs
        omega
    · have := g1 s hs
      omega
theorem apartR_iff {a b : List (Int × Int)} (ha : RightR a) (hb : RightR b) : ApartR a b ↔ ∀ r ∈ a, ∀ s ∈ b, r.2 < s.1 ∨ s.2 < r.1 := by
  have fa := (rightFrom_apart a 0 ha).1
  have fb := (rightFrom_apart b 0 hb).1
  constructor
  · intro h r hr s hs
    have h1 := fa r hr
    have h2 := fb s hs
    by_cases hn : r.2 < s.1 ∨ s.2 < r.1
    · exact hn
    · exact absurd ⟨⟨by omega, by omega, r, hr, by omega, by omega⟩, ⟨by omega, by omega, s, hs, by omega, by omega⟩⟩ (h (max r.1 s.1))
  · rintro h c ⟨⟨-, -, r, hr, h1, h2⟩, ⟨-, -, s, hs, h3, h4⟩⟩
    have := h r hr s hs
    omega
/-- The ranges of some sets don't touch one another just where the sets have no rune in common. -/
theorem apart_flat {I : List Ins} {L : List Nat} (hr : ∀ k ∈ L, RightR (atI I k).set) : ApartL (L.flatMap fun k => (atI I k).set) ↔ ApartI I L := by
  unfold ApartL ApartI
  rw [List.pairwise_flatMap]
  constructor
  · rintro ⟨-, h⟩
    exact h.imp_of_mem fun hi hk h => (apartR_iff (hr _ hi) (hr _ hk)).2 h
  · intro h
    exact ⟨fun k hk => (rightFrom_apart _ 0 (hr k hk)).2, h.imp_of_mem fun hi hk h => (apartR_iff (hr _ hi) (hr _ hk)).1 h⟩
/-- In order, it is enough to look at those that stand side by side. -/
theorem apart_sorted : ∀ (l : List (Int × Int)), l.Pairwise (fun r s => r.1 ≤ s.1) → (∀ r ∈ l, r.1 ≤ r.2) → (ApartL l ↔ ∀ i (h : i + 1 < l.length), l[i].2 < l[i + 1].1)
  | [], _, _ => ⟨fun _ i h => by simp at h, fun _ => List.Pairwise.nil⟩
  | [r], _, _ => ⟨fun _ i h => by simp at h, fun _ => List.Pairwise.cons (by simp) List.Pairwise.nil⟩
  | r :: s :: l, hs, hf => by
    have hs' := List.pairwise_cons.1 hs
    have ih := apart_sorted (s :: l) hs'.2 fun x hx => hf x (List.mem_cons_of_mem _ hx)
    have hs2 := List.pairwise_cons.1 hs'.2
    constructor
    · intro h i hi
      have h' := List.pairwise_cons.1 h
      rcases i with _ | i
      · have h1 := h'.1 s (List.mem_cons_self ..)
        have h2 := hs'.1 s (List.mem_cons_self ..)
        have h3 := hf s (by simp)
        simp only [List.getElem_cons_zero, List.getElem_cons_succ]
        omega
      · have := ih.1 h'.2 i (by simpa using hi)
        simpa using this
    · intro h
      refine List.Pairwise.cons (fun x hx => .inl ?_) (ih.2 fun i hi => ?_)
      · have h0 := h 0 (by simp)
        simp only [List.getElem_cons_zero, List.getElem_cons_succ] at h0
        rcases List.mem_cons.1 hx with rfl | hx
        · exact h0
        · have := hs2.1 x hx
          have := hf s (by simp)
          omega
      · have := h (i + 1) (by simpa using hi)
        simpa using this
end Go.Proofs.Ytnemacejaiifnaa
/- Plain mathematics of a walk over a text: the document's, that marks what it came to; what it finds where there is no choice. No condition. -/
namespace Go.Proofs.Ytnemacejaiifnaa

instance (l : List (Int × Int)) (c : Int) : Decidable (HasR l c) := by unfold HasR; infer_instance
def hasB (l : List (Int × Int)) (c : Int) : Bool := decide (HasR l c)
/-- A text as a walk sees it: what each place is, its runes (none behind the last), how many there are. -/
structure Tx where
  at' : Nat → Int
  rn : Nat → Int
  len : Nat
  meets : Int → Int → Bool
  last : ∀ j, len ≤ j → rn j < 0
/-- What was come to at which place; the best match. -/
structure Th where
  seen : List Bool
  best : Option (List Int)
def kidsT (I : List Ins) (T : Tx) (x : Nat × Nat × List Int) : List (Nat × Nat × List Int) :=
  if (atI I x.1).op = 2 then (if hasB (atI I x.1).set (T.rn x.2.1) = true then [((atI I x.1).out.toNat, x.2.1 + 1, x.2.2)] else [])
  else if (atI I x.1).op = 3 then [((atI I x.1).out.toNat, x.2.1, x.2.2), ((atI I x.1).arg.toNat, x.2.1, x.2.2)]
  else if (atI I x.1).op = 4 then [((atI I x.1).out.toNat, x.2.1, x.2.2.set (atI I x.1).arg.toNat (x.2.1 : Int))]
  else if (atI I x.1).op = 5 then (if T.meets (T.at' x.2.1) (atI I x.1).at' = true then [((atI I x.1).out.toNat, x.2.1, x.2.2)] else []) else []
theorem kidsT_two (I : List Ins) (T : Tx) (x : Nat × Nat × List Int) : (kidsT I T x).length ≤ 2 := by
  unfold kidsT
  repeat' split
  all_goals simp
def bestT (j : Nat) (c : List Int) (b : Option (List Int)) : Option (List Int) :=
  match b with
  | none => some (c.set 1 (j : Int))
  | some b => if b.getD 1 0 < (j : Int) then some (c.set 1 (j : Int)) else some b
def visitT (I : List Ins) (x : Nat × Nat × List Int) (s : Th) : Th :=
  ⟨s.seen.set (x.2.1 * I.length + x.1) true, if (atI I x.1).op = 1 then bestT x.2.1 x.2.2 s.best else s.best⟩
def openT (I : List Ins) (to : Int) (long : Bool) (x : Nat × Nat × List Int) (s : Th) : Bool :=
  decide ((x.2.1 : Int) ≤ to) && newB s.seen (x.2.1 * I.length + x.1) && (s.best.isNone || long)
theorem openT_new {I : List Ins} {to : Int} {long : Bool} {x : Nat × Nat × List Int} {s : Th} (h : openT I to long x s = true) : newB s.seen (x.2.1 * I.length + x.1) = true := by
  simp only [openT, Bool.and_eq_true] at h
  exact h.1.2
/-- The document's walk over a text, with a stack. -/
def runT (I : List Ins) (T : Tx) (to : Int) (long : Bool) (st : List (Nat × Nat × List Int)) (s : Th) : Th :=
  match st with
  | [] => s
  | x :: st =>
    if h : openT I to long x s = true then runT I T to long (kidsT I T x ++ st) (visitT I x s)
    else runT I T to long st s
termination_by 2 * s.seen.count false + st.length
decreasing_by
  · have h1 := newB_count (openT_new h)
    have h2 := kidsT_two I T x
    simp only [List.length_append, List.length_cons, visitT]
    omega
  · simp only [List.length_cons]
    omega
section
variable {I : List Ins} {T : Tx} {to : Int} {long : Bool}
theorem runT_nil (s : Th) : runT I T to long [] s = s := by rw [runT]
theorem runT_old {s : Th} {x : Nat × Nat × List Int} (st : List (Nat × Nat × List Int)) (h : openT I to long x s = false) : runT I T to long (x :: st) s = runT I T to long st s := by
  rw [runT, dif_neg (by simp [h])]
theorem runT_new {s : Th} {x : Nat × Nat × List Int} (st : List (Nat × Nat × List Int)) (h : openT I to long x s = true) : runT I T to long (x :: st) s = runT I T to long (kidsT I T x ++ st) (visitT I x s) := by
  rw [runT, dif_pos h]
theorem runT_keep (Q : List (Nat × Nat × List Int) → Th → Prop) (R : Th → Prop) (h0 : ∀ s, Q [] s → R s)
    (hold : ∀ x st s, Q (x :: st) s → openT I to long x s = false → Q st s)
    (hnew : ∀ x st s, Q (x :: st) s → openT I to long x s = true → Q (kidsT I T x ++ st) (visitT I x s)) :
    ∀ (n : Nat) (st : List (Nat × Nat × List Int)) (s : Th), 2 * s.seen.count false + st.length = n → Q st s → R (runT I T to long st s) := by
  intro n
  induction n using Nat.strongRecOn with
  | _ n ih =>
    intro st s hn hq
    rcases st with _ | ⟨x, st⟩
    · rw [runT_nil]
      exact h0 s hq
    · cases h : openT I to long x s
      · rw [runT_old st h]
        refine ih _ ?_ _ _ rfl (hold x st s hq h)
        subst hn
        simp only [List.length_cons]
        omega
      · rw [runT_new st h]
        have h1 := newB_count (openT_new h)
        have h2 := kidsT_two I T x
        refine ih _ ?_ _ _ rfl (hnew x st s hq h)
        subst hn
        simp only [List.length_append, List.length_cons, visitT]
        omega
theorem runT_append (a b : List (Nat × Nat × List Int)) (s : Th) : runT I T to long (a ++ b) s = runT I T to long b (runT I T to long a s) := by
  refine runT_keep (I := I) (T := T) (to := to) (long := long) (fun st t => runT I T to long (st ++ b) t = runT I T to long (a ++ b) s) (fun t => runT I T to long (a ++ b) s = runT I T to long b t) ?_ ?_ ?_ _ a s rfl rfl
  · intro t ht
    exact ht.symm
  · intro x st t ht ho
    rw [← ht, List.cons_append, runT_old _ ho]
  · intro x st t ht hn
    rw [← ht, List.cons_append, runT_new _ hn, List.append_assoc]
theorem runT_len (st : List (Nat × Nat × List Int)) (s : Th) : (runT I T to long st s).seen.length = s.seen.length := by
  refine runT_keep (I := I) (T := T) (to := to) (long := long) (fun _ t => t.seen.length = s.seen.length) (fun t => t.seen.length = s.seen.length) (fun _ h => h) (fun _ _ _ h _ => h) ?_ _ st s rfl rfl
  intro x st t ht _
  simpa [visitT] using ht
theorem runT_left (st : List (Nat × Nat × List Int)) (s : Th) : (runT I T to long st s).seen.count false ≤ s.seen.count false := by
  refine runT_keep (I := I) (T := T) (to := to) (long := long) (fun _ t => t.seen.count false ≤ s.seen.count false) (fun t => t.seen.count false ≤ s.seen.count false) (fun _ h => h) (fun _ _ _ h _ => h) ?_ _ st s rfl (Nat.le_refl _)
  intro x st t ht hn
  have := newB_count (openT_new hn)
  simp only [visitT]
  omega
/-- What lies ahead of all places of the stack is not come to. -/
theorem runT_low (j : Nat) (st : List (Nat × Nat × List Int)) (s : Th) (hI : ∀ x ∈ st, j ≤ x.2.1) (i : Nat) (hi : i < j * I.length) : newB (runT I T to long st s).seen i = newB s.seen i := by
  refine runT_keep (I := I) (T := T) (to := to) (long := long) (fun st t => (∀ x ∈ st, j ≤ x.2.1) ∧ newB t.seen i = newB s.seen i) (fun t => newB t.seen i = newB s.seen i) (fun _ h => h.2) (fun _ _ _ h _ => ⟨fun x hx => h.1 x (List.mem_cons_of_mem _ hx), h.2⟩) ?_ _ st s rfl ⟨hI, rfl⟩
  rintro x st t ⟨h1, h2⟩ hn
  have hx := h1 x (List.mem_cons_self ..)
  refine ⟨fun y hy => ?_, ?_⟩
  · rcases List.mem_append.1 hy with hy | hy
    · unfold kidsT at hy
      repeat' split at hy
      all_goals simp at hy
      all_goals first
        | (subst hy; simp only; omega)
        | (rcases hy with rfl | rfl <;> simp only <;> omega)
    · exact h1 y (List.mem_cons_of_mem _ hy)
  · simp only [visitT]
    rw [newB_set, h2]
    have h3 : j * I.length ≤ x.2.1 * I.length := Nat.mul_le_mul_right _ hx
    have : i ≠ x.2.1 * I.length + x.1 := by omega
    simp [this]
end
/-- Where groups begin and end on a way, the nearest first. -/
def keepI (I : List Ins) (j : Nat) : List Nat → List Int → List Int
  | [], c => c
  | p :: ps, c => keepI I j ps (if (atI I p).op = 4 then c.set (atI I p).arg.toNat (j : Int) else c)
theorem set_swap (c : List Int) (a b : Nat) (j : Int) : (c.set a j).set b j = (c.set b j).set a j := by
  by_cases h : a = b
  · rw [h]
  · exact List.set_comm _ _ h
theorem keepI_set (I : List Ins) (j : Nat) : ∀ (ps : List Nat) (c : List Int) (a : Nat), keepI I j ps (c.set a (j : Int)) = (keepI I j ps c).set a (j : Int)
  | [], c, a => rfl
  | p :: ps, c, a => by
    unfold keepI
    rw [← keepI_set I j ps _ a]
    congr 1
    split
    · rw [set_swap]
    · rfl
theorem keepI_cons (I : List Ins) (j p : Nat) (ps : List Nat) (c : List Int) : keepI I j (p :: ps) c = if (atI I p).op = 4 then (keepI I j ps c).set (atI I p).arg.toNat (j : Int) else keepI I j ps c := by
  show keepI I j ps _ = _
  split
  · rw [keepI_set]
  · rfl
theorem keepI_len (I : List Ins) (j : Nat) : ∀ (ps : List Nat) (c : List Int), (keepI I j ps c).length = c.length
  | [], c => rfl
  | p :: ps, c => by
    show (keepI I j ps _).length = _
    rw [keepI_len I j ps]
    split <;> simp
/-- What one comes to at a place. -/
def closI (meets : Int → Bool) (I : List Ins) (pc : Nat) : List (Nat × List Nat) := (eachO meets I [(pc, [])] (List.replicate I.length false) []).2
def hitOf (I : List Ins) (j : Nat) (c : List Int) (l : List (Nat × List Nat)) : Option (List Int) := (l.find? fun x => isHit I x.1).map fun x => (keepI I j x.2 c).set 1 (j : Int)
def readsI (I : List Ins) (r : Int) (x : Nat × List Nat) : Bool := isSet I x.1 && hasB (atI I x.1).set r
def readOf (I : List Ins) (r : Int) (long : Bool) (l : List (Nat × List Nat)) : Option (Nat × List Nat) := (if long then l else l.takeWhile fun x => !isHit I x.1).find? (readsI I r)
/-- The match of a program without choice, from a place on. -/
def findF (I : List Ins) (T : Tx) (long : Bool) : Nat → Nat → Nat → List Int → Option (List Int)
  | 0, _, _, _ => none
  | d + 1, pc, j, c =>
    match readOf I (T.rn j) long (closI (T.meets (T.at' j)) I pc) with
    | none => hitOf I j c (closI (T.meets (T.at' j)) I pc)
    | some x => (findF I T long d (atI I x.1).out.toNat (j + 1) (keepI I j x.2 c)).or (hitOf I j c (closI (T.meets (T.at' j)) I pc))
section
variable {I : List Ins} {T : Tx} {to : Int} {long : Bool}
theorem findF_end (c0 : Nat) : ∀ (d pc j : Nat) (c : List Int) (b : List Int), 2 ≤ c.length → findF I T long d pc j c = some b → (j : Int) ≤ b.getD 1 0
  | 0, pc, j, c, b, _, h => by cases h
  | d + 1, pc, j, c, b, hc, h => by
    have hh : ∀ b, hitOf I j c (closI (T.meets (T.at' j)) I pc) = some b → (j : Int) ≤ b.getD 1 0 := by
      intro b hb
      unfold hitOf at hb
      obtain ⟨x, -, rfl⟩ := Option.map_eq_some_iff.1 hb
      have : 1 < (keepI I j x.2 c).length := by rw [keepI_len]; omega
      simp [this]
    unfold findF at h
    split at h
    · exact hh b h
    · rename_i x hx
      rcases Option.or_eq_some_iff.1 h with h | ⟨-, h⟩
      · have := findF_end c0 d _ _ _ _ (by rw [keepI_len]; exact hc) h
        omega
      · exact hh b h
/-- What the document does with what it comes to at a place, one behind the other. -/
def goG (I : List Ins) (long : Bool) (j : Nat) (c : List Int) (r : Int) (F : Nat × List Nat → Option (List Int)) : List (Nat × List Nat) → Option (List Int) → Option (List Int)
  | [], b => b
  | x :: l, b =>
    if b.isSome && !long then b
    else if isHit I x.1 = true then goG I long j c r F l (bestT j (keepI I j x.2 c) b)
    else if readsI I r x = true then goG I long j c r F l ((F x).or b)
    else goG I long j c r F l b
variable {j : Nat} {c : List Int} {r : Int} {F : Nat × List Nat → Option (List Int)}
theorem goG_stop (l : List (Nat × List Nat)) {b : Option (List Int)} (h : (b.isSome && !long) = true) : goG I long j c r F l b = b := by
  rcases l with _ | ⟨x, l⟩
  · rfl
  · unfold goG
    rw [if_pos h]
theorem goG_none : ∀ (l : List (Nat × List Nat)) (b : Option (List Int)), (∀ x ∈ l, isHit I x.1 = false) → (∀ x ∈ l, readsI I r x = false) → goG I long j c r F l b = b
  | [], b, _, _ => rfl
  | x :: l, b, h1, h2 => by
    unfold goG
    rw [h1 x (List.mem_cons_self ..), h2 x (List.mem_cons_self ..)]
    simp only [Bool.false_eq_true, if_false]
    split
    · rfl
    · exact goG_none l b (fun y hy => h1 y (List.mem_cons_of_mem _ hy)) fun y hy => h2 y (List.mem_cons_of_mem _ hy)
/-- No match among them. -/
theorem goG_read : ∀ (l : List (Nat × List Nat)) (b : Option (List Int)), (∀ x ∈ l, isHit I x.1 = false) → l.Pairwise (fun x y => ¬ (readsI I r x = true ∧ readsI I r y = true)) → (b.isSome && !long) = false →
    goG I long j c r F l b = (match l.find? (readsI I r) with | none => b | some x => (F x).or b)
  | [], b, _, _, _ => rfl
  | x :: l, b, h1, h2, h3 => by
    have h2' := List.pairwise_cons.1 h2
    unfold goG
    rw [h3, h1 x (List.mem_cons_self ..)]
    simp only [Bool.false_eq_true, if_false]
    cases hx : readsI I r x
    · simp only [Bool.false_eq_true, if_false, List.find?_cons_of_neg (p := readsI I r) (by simp [hx] : ¬ readsI I r x = true)]
      exact goG_read l b (fun y hy => h1 y (List.mem_cons_of_mem _ hy)) h2'.2 h3
    · simp only [if_true, List.find?_cons_of_pos (p := readsI I r) hx]
      refine goG_none l _ (fun y hy => h1 y (List.mem_cons_of_mem _ hy)) fun y hy => ?_
      have := h2'.1 y hy
      cases hy2 : readsI I r y
      · rfl
      · exact absurd ⟨hx, hy2⟩ this
/-- Nothing that reads among them. -/
theorem goG_hit : ∀ (l : List (Nat × List Nat)) (b : Option (List Int)), (∀ x ∈ l, readsI I r x = false) → l.Pairwise (fun x y => ¬ (isHit I x.1 = true ∧ isHit I y.1 = true)) →
    goG I long j c r F l b = (if (b.isSome && !long) = true then b else match l.find? (fun x => isHit I x.1) with | none => b | some x => bestT j (keepI I j x.2 c) b)
  | [], b, _, _ => by
    simp only [List.find?_nil]
    split <;> rfl
  | x :: l, b, h1, h2 => by
    have h2' := List.pairwise_cons.1 h2
    unfold goG
    split
    · rfl
    · rename_i h3
      cases hx : isHit I x.1
      · rw [h1 x (List.mem_cons_self ..), List.find?_cons_of_neg (by simp [hx])]
        simp only [Bool.false_eq_true, if_false]
        rw [goG_hit l b (fun y hy => h1 y (List.mem_cons_of_mem _ hy)) h2'.2, if_neg h3]
      · rw [List.find?_cons_of_pos (by exact hx)]
        simp only [if_true]
        refine goG_none l _ (fun y hy => ?_) fun y hy => h1 y (List.mem_cons_of_mem _ hy)
        have := h2'.1 y hy
        cases hy2 : isHit I y.1
        · rfl
        · exact absurd ⟨hx, hy2⟩ this
theorem bestT_or (m b : Option (List Int)) (cc : List Int) (hb : ∀ x, b = some x → x.getD 1 0 < (j : Int)) : bestT j cc b = (some (cc.set 1 (j : Int))).or b := by
  rcases b with _ | x
  · rfl
  · show (if x.getD 1 0 < (j : Int) then some (cc.set 1 (j : Int)) else some x) = _
    rw [if_pos (hb x rfl)]
    rfl
/-- At most one matches, at most one reads: what the document finds is what the one that reads leads to, else the match, else what there was. -/
theorem goG_is : ∀ (l : List (Nat × List Nat)) (b : Option (List Int)), l.Pairwise (fun x y => ¬ (readsI I r x = true ∧ readsI I r y = true)) → l.Pairwise (fun x y => ¬ (isHit I x.1 = true ∧ isHit I y.1 = true)) →
    (∀ x m, F x = some m → (j : Int) < m.getD 1 0) → (∀ x, b = some x → long = true ∧ x.getD 1 0 < (j : Int)) →
    goG I long j c r F l b = ((match readOf I r long l with | none => hitOf I j c l | some x => (F x).or (hitOf I j c l))).or b
  | [], b, _, _, _, _ => by
    unfold readOf hitOf goG
    simp
  | x :: l, b, h1, h2, hF, hb => by
    have h1' := List.pairwise_cons.1 h1
    have h2' := List.pairwise_cons.1 h2
    have hop : (b.isSome && !long) = false := by
      rcases b with _ | y
      · rfl
      · rw [(hb y rfl).1]
        rfl
    unfold goG
    rw [hop]
    simp only [Bool.false_eq_true, if_false]
    cases hx : isHit I x.1
    · simp only [Bool.false_eq_true, if_false]
      have hh : hitOf I j c (x :: l) = hitOf I j c l := by
        unfold hitOf
        rw [List.find?_cons_of_neg (by simp [hx])]
      rw [hh]
      cases hr : readsI I r x
      · have hrd : readOf I r long (x :: l) = readOf I r long l := by
          unfold readOf
          cases long
          · simp only [Bool.false_eq_true, if_false]
            rw [List.takeWhile_cons_of_pos (by simp [hx]), List.find?_cons_of_neg (by simp [hr])]
          · simp only [if_true]
            rw [List.find?_cons_of_neg (by simp [hr])]
        simp only [Bool.false_eq_true, if_false]
        rw [hrd]
        exact goG_is l b h1'.2 h2'.2 hF hb
      · have hrd : readOf I r long (x :: l) = some x := by
          unfold readOf
          cases long
          · simp only [Bool.false_eq_true, if_false]
            rw [List.takeWhile_cons_of_pos (by simp [hx]), List.find?_cons_of_pos hr]
          · simp only [if_true]
            rw [List.find?_cons_of_pos hr]
        rw [hrd]
        simp only [if_true]
        rw [goG_hit l _ (fun y hy => by
          have := h1'.1 y hy
          cases hy2 : readsI I r y
          · rfl
          · exact absurd ⟨hr, hy2⟩ this) h2'.2]
        have hm : hitOf I j c l = (l.find? fun x => isHit I x.1).map fun x => (keepI I j x.2 c).set 1 (j : Int) := rfl
        rw [hm]
        rcases hfx : F x with _ | f
        · simp only [Option.none_or, hop, Bool.false_eq_true, if_false]
          split
          · rename_i e
            rw [e]
            simp
          · rename_i y e
            rw [e]
            simp only [Option.map_some]
            exact bestT_or none b _ fun z hz => (hb z hz).2
        · have hf := hF x f hfx
          simp only [Option.some_or, Option.isSome_some, Bool.true_and]
          cases long
          · rfl
          · simp only [Bool.not_true, Bool.false_eq_true, if_false]
            split
            · rfl
            · show (if f.getD 1 0 < (j : Int) then _ else some f) = _
              rw [if_neg (by omega)]
    · simp only [if_true]
      have hh : hitOf I j c (x :: l) = some ((keepI I j x.2 c).set 1 (j : Int)) := by
        unfold hitOf
        rw [List.find?_cons_of_pos (by exact hx)]
        rfl
      have hno : readsI I r x = false := by
        unfold readsI isSet
        unfold isHit at hx
        have := of_decide_eq_true hx
        simp [this]
      have hnl : ∀ y ∈ l, isHit I y.1 = false := fun y hy => by
        have := h2'.1 y hy
        cases hy2 : isHit I y.1
        · rfl
        · exact absurd ⟨hx, hy2⟩ this
      rw [hh, bestT_or none b _ fun z hz => (hb z hz).2]
      cases hlong : long
      · have hrd : readOf I r false (x :: l) = none := by
          unfold readOf
          simp only [Bool.false_eq_true, if_false]
          rw [List.takeWhile_cons_of_neg (by simp [hx])]
          rfl
        rw [hrd, goG_stop _ (by simp)]
      · have hrd : readOf I r true (x :: l) = l.find? (readsI I r) := by
          unfold readOf
          simp only [if_true]
          rw [List.find?_cons_of_neg (by simp [hno])]
        rw [hrd, goG_read l _ hnl h1'.2 (by simp)]
        rcases l.find? (readsI I r) with _ | y
        · rfl
        · simp only [Option.or_assoc]
end
end Go.Proofs.Ytnemacejaiifnaa
/- Plain mathematics: where there is no choice, the document's walk and the program's find the same. No condition. -/
namespace Go.Proofs.Ytnemacejaiifnaa

section
variable {p : Pg} {T : Tx} {long : Bool}
/-- All places from j on are still to be come to. -/
def FreshT (p : Pg) (T : Tx) (s : Th) (j : Nat) : Prop := ∀ j' k, j ≤ j' → j' ≤ T.len → k < p.ins.length → newB s.seen (j' * p.ins.length + k) = true
theorem runT_stop {I : List Ins} {to : Int} {s : Th} (h : (s.best.isSome && !long) = true) : ∀ st, runT I T to long st s = s
  | [] => runT_nil s
  | x :: st => by
    rw [runT_old, runT_stop h st]
    simp only [openT]
    have : (s.best.isNone || long) = false := by
      cases hb : s.best <;> simp [hb] at h ⊢
      exact h
    rw [this, Bool.and_false]
def laidT (I : List Ins) (j : Nat) (c : List Int) (x : Nat × List Nat) : Nat × Nat × List Int := (x.1, j, keepI I j x.2 c)
theorem at_ne {N j k j' k' : Nat} (hk : k < N) (hk' : k' < N) (h : j ≠ j' ∨ k ≠ k') : j * N + k ≠ j' * N + k' := by
  intro e
  have h1 : (j * N + k) / N = j := by rw [Nat.mul_comm, Nat.mul_add_div (by omega), Nat.div_eq_of_lt hk]; rfl
  have h2 : (j' * N + k') / N = j' := by rw [Nat.mul_comm, Nat.mul_add_div (by omega), Nat.div_eq_of_lt hk']; rfl
  rw [e] at h1
  have : j = j' := by omega
  subst this
  omega
theorem kids_laid {I : List Ins} {j : Nat} {c : List Int} (x : Nat × List Nat) (h : (atI I x.1).op ≠ 2) : kidsT I T (laidT I j c x) = (kidsI (nxI (T.meets (T.at' j)) I) x).map (laidT I j c) := by
  unfold kidsT kidsI nxI nextI laidT
  simp only
  rw [if_neg h]
  by_cases h3 : (atI I x.1).op = 3
  · rw [if_pos h3, if_pos h3]
    simp only [List.map_cons, List.map_nil]
    rw [keepI_cons, if_neg (by omega)]
  rw [if_neg h3, if_neg h3]
  by_cases h4 : (atI I x.1).op = 4
  · rw [if_pos h4, if_pos h4]
    simp only [List.map_cons, List.map_nil]
    rw [keepI_cons, if_pos h4]
  rw [if_neg h4, if_neg h4]
  by_cases h5 : (atI I x.1).op = 5
  · rw [if_pos h5, if_pos h5]
    split
    · simp only [List.map_cons, List.map_nil]
      rw [keepI_cons, if_neg h4]
    · rfl
  rw [if_neg h5, if_neg h5]
  rfl
/-- What the document finds from what it comes to at one place. -/
theorem runT_place {j : Nat} {c : List Int} {F : Nat × List Nat → Option (List Int)} (hj : j ≤ T.len) {st l : List (Nat × List Nat)} (h : Unf (nxI (T.meets (T.at' j)) p.ins) st l) :
    ∀ (s : Th), (placesI l).Nodup → (∀ x ∈ l, x.1 < p.ins.length) → (∀ x ∈ l, newB s.seen (j * p.ins.length + x.1) = true) → l.Pairwise (fun x y => ¬ (readsI p.ins (T.rn j) x = true ∧ readsI p.ins (T.rn j) y = true)) →
      ((∃ x ∈ l, readsI p.ins (T.rn j) x = true) → FreshT p T s (j + 1) ∧ ∀ b, s.best = some b → b.getD 1 0 < ((j + 1 : Nat) : Int)) →
      (∀ x ∈ l, readsI p.ins (T.rn j) x = true → ∀ s', FreshT p T s' (j + 1) → (∀ b, s'.best = some b → long = true ∧ b.getD 1 0 < ((j + 1 : Nat) : Int)) → (runT p.ins T T.len long [((atI p.ins x.1).out.toNat, j + 1, keepI p.ins j x.2 c)] s').best = (F x).or s'.best) →
      (runT p.ins T T.len long (st.map (laidT p.ins j c)) s).best = goG p.ins long j c (T.rn j) F l s.best := by
  induction h with
  | nil =>
    intro s _ _ _ _ _ _
    rw [List.map_nil, runT_nil]
    rfl
  | @cons x st l hu ih =>
    intro s hd hlt hnew hpw hfr hF
    have hd' : x.1 ∉ placesI l ∧ (placesI l).Nodup := List.nodup_cons.1 hd
    have hpw' := List.pairwise_cons.1 hpw
    have hx := hlt x (List.mem_cons_self ..)
    have hnx := hnew x (List.mem_cons_self ..)
    have hlt' : ∀ y ∈ l, y.1 < p.ins.length := fun y hy => hlt y (List.mem_cons_of_mem _ hy)
    have hne : ∀ y ∈ l, y.1 ≠ x.1 := fun y hy e => hd'.1 (List.mem_map.2 ⟨y, hy, e⟩)
    rw [List.map_cons]
    by_cases hst : (s.best.isSome && !long) = true
    · rw [runT_stop hst, goG_stop _ hst]
    have hst' : (s.best.isSome && !long) = false := by simpa using hst
    have hop : openT p.ins (T.len : Int) long (laidT p.ins j c x) s = true := by
      unfold openT laidT
      simp only
      rw [hnx]
      have h1 : decide ((j : Int) ≤ (T.len : Int)) = true := decide_eq_true (by omega)
      rw [h1]
      cases hb : s.best
      · simp
      · cases hl : long
        · simp [hb, hl] at hst'
        · simp
    rw [runT_new _ hop]
    obtain ⟨s1, hs1⟩ : ∃ s1, visitT p.ins (laidT p.ins j c x) s = s1 := ⟨_, rfl⟩
    have hseen : s1.seen = s.seen.set (j * p.ins.length + x.1) true := by rw [← hs1]; rfl
    have hnew1 : ∀ y ∈ l, newB s1.seen (j * p.ins.length + y.1) = true := fun y hy => by
      rw [hseen, newB_set, hnew y (List.mem_cons_of_mem _ hy)]
      have := hne y hy
      simp [this]
    have hfresh1 : ∀ {j'}, j < j' → FreshT p T s j' → FreshT p T s1 j' := fun {j'} hj' hf i k hi hi2 hk => by
      rw [hseen, newB_set, hf i k hi hi2 hk]
      have := at_ne (j := i) (j' := j) hk hx (.inl (by omega))
      simp [this]
    rw [hs1]
    have hgo : goG p.ins long j c (T.rn j) F (x :: l) s.best = if isHit p.ins x.1 = true then goG p.ins long j c (T.rn j) F l (bestT j (keepI p.ins j x.2 c) s.best)
        else if readsI p.ins (T.rn j) x = true then goG p.ins long j c (T.rn j) F l ((F x).or s.best) else goG p.ins long j c (T.rn j) F l s.best := by
      show (if (s.best.isSome && !long) = true then _ else _) = _
      rw [if_neg hst]
    rw [hgo]
    by_cases h2 : (atI p.ins x.1).op = 2
    · have hb1 : s1.best = s.best := by
        rw [← hs1]
        unfold visitT laidT
        simp only
        rw [if_neg (by omega)]
      have hhit : isHit p.ins x.1 = false := by simp [isHit, h2]
      have hkI : kidsI (nxI (T.meets (T.at' j)) p.ins) x = [] := by simp [kidsI, nxI, nextI, h2]
      have hset : isSet p.ins x.1 = true := by simp [isSet, h2]
      rw [hhit, if_neg (by simp)]
      rw [hkI, List.nil_append] at ih
      cases hr : readsI p.ins (T.rn j) x
      · have hk : kidsT p.ins T (laidT p.ins j c x) = [] := by
          unfold kidsT laidT
          simp only
          rw [if_pos h2, if_neg]
          unfold readsI at hr
          rw [hset, Bool.true_and] at hr
          simp [hr]
        rw [if_neg (by simp), hk, List.nil_append]
        rw [← hb1]
        refine ih s1 hd'.2 hlt' hnew1 hpw'.2 (fun ⟨y, hy, hy2⟩ => ?_) (fun y hy => hF y (List.mem_cons_of_mem _ hy))
        obtain ⟨g1, g2⟩ := hfr ⟨y, List.mem_cons_of_mem _ hy, hy2⟩
        exact ⟨hfresh1 (by omega) g1, by rw [hb1]; exact g2⟩
      · have hk : kidsT p.ins T (laidT p.ins j c x) = [((atI p.ins x.1).out.toNat, j + 1, keepI p.ins j x.2 c)] := by
          unfold kidsT laidT
          simp only
          rw [if_pos h2, if_pos]
          unfold readsI at hr
          rw [hset, Bool.true_and] at hr
          exact hr
        obtain ⟨g1, g2⟩ := hfr ⟨x, List.mem_cons_self .., hr⟩
        have hrun := hF x (List.mem_cons_self ..) hr s1 (hfresh1 (by omega) g1) (fun b hb => ⟨by
          rw [hb1] at hb
          rw [hb] at hst'
          simpa using hst', g2 b (by rw [← hb1]; exact hb)⟩)
        rw [if_pos rfl, hk, runT_append, ← hb1, ← hrun]
        have hno : ∀ y ∈ l, readsI p.ins (T.rn j) y = false := fun y hy => by
          have := hpw'.1 y hy
          cases hy2 : readsI p.ins (T.rn j) y
          · rfl
          · exact absurd ⟨hr, hy2⟩ this
        have hlow : ∀ y ∈ l, newB (runT p.ins T T.len long [((atI p.ins x.1).out.toNat, j + 1, keepI p.ins j x.2 c)] s1).seen (j * p.ins.length + y.1) = true := fun y hy => by
          rw [runT_low (j + 1) _ _ (by simp) _ (by have := hlt' y hy; rw [Nat.add_mul, Nat.one_mul]; omega)]
          exact hnew1 y hy
        exact ih _ hd'.2 hlt' hlow hpw'.2 (fun ⟨y, hy, hy2⟩ => by rw [hno y hy] at hy2; cases hy2) (fun y hy => hF y (List.mem_cons_of_mem _ hy))
    · have hrd : readsI p.ins (T.rn j) x = false := by simp [readsI, isSet, h2]
      rw [hrd, kids_laid x h2, ← List.map_append]
      simp only [Bool.false_eq_true, if_false]
      by_cases h1 : (atI p.ins x.1).op = 1
      · have hb1 : s1.best = bestT j (keepI p.ins j x.2 c) s.best := by
          rw [← hs1]
          unfold visitT laidT
          simp only
          rw [if_pos h1]
        rw [if_pos (by simp [isHit, h1]), ← hb1]
        refine ih s1 hd'.2 hlt' hnew1 hpw'.2 (fun ⟨y, hy, hy2⟩ => ?_) (fun y hy => hF y (List.mem_cons_of_mem _ hy))
        obtain ⟨g1, g2⟩ := hfr ⟨y, List.mem_cons_of_mem _ hy, hy2⟩
        refine ⟨hfresh1 (by omega) g1, fun b hb => ?_⟩
        have hset : ((keepI p.ins j x.2 c).set 1 (j : Int)).getD 1 0 < ((j + 1 : Nat) : Int) := by
          by_cases hl : 1 < (keepI p.ins j x.2 c).length
          · simp [hl]
            omega
          · simp [hl]
        rw [hb1] at hb
        unfold bestT at hb
        split at hb
        · injection hb with hb
          rw [← hb]
          exact hset
        · rename_i b0 hb0
          split at hb
          · injection hb with hb
            rw [← hb]
            exact hset
          · injection hb with hb
            rw [← hb]
            exact g2 b0 hb0
      · have hb1 : s1.best = s.best := by
          rw [← hs1]
          unfold visitT laidT
          simp only
          rw [if_neg h1]
        rw [if_neg (by simp [isHit, h1]), ← hb1]
        refine ih s1 hd'.2 hlt' hnew1 hpw'.2 (fun ⟨y, hy, hy2⟩ => ?_) (fun y hy => hF y (List.mem_cons_of_mem _ hy))
        obtain ⟨g1, g2⟩ := hfr ⟨y, List.mem_cons_of_mem _ hy, hy2⟩
        exact ⟨hfresh1 (by omega) g1, by rw [hb1]; exact g2⟩
theorem hits_apart {I : List Ins} : ∀ {l : List (Nat × List Nat)}, (placesI l).countP (isHit I) ≤ 1 → l.Pairwise fun x y => ¬ (isHit I x.1 = true ∧ isHit I y.1 = true)
  | [], _ => List.Pairwise.nil
  | x :: l, h => by
    rw [show placesI (x :: l) = x.1 :: placesI l from rfl, List.countP_cons] at h
    refine List.Pairwise.cons (fun y hy ⟨h1, h2⟩ => ?_) (hits_apart (by omega))
    rw [if_pos h1] at h
    have : 0 < (placesI l).countP (isHit I) := List.countP_pos_iff.2 ⟨y.1, List.mem_map.2 ⟨y, hy, rfl⟩, h2⟩
    omega
theorem reads_apart {I : List Ins} (r : Int) : ∀ {l : List (Nat × List Nat)}, ApartI I ((placesI l).filter (isSet I)) → l.Pairwise fun x y => ¬ (readsI I r x = true ∧ readsI I r y = true)
  | [], _ => List.Pairwise.nil
  | x :: l, h => by
    rw [show placesI (x :: l) = x.1 :: placesI l from rfl, List.filter_cons] at h
    have hrd : ∀ z : Nat × List Nat, readsI I r z = true → isSet I z.1 = true ∧ HasR (atI I z.1).set r := fun z hz => by
      unfold readsI hasB at hz
      rw [Bool.and_eq_true] at hz
      exact ⟨hz.1, of_decide_eq_true hz.2⟩
    cases hs : isSet I x.1
    · rw [hs, if_neg (by simp)] at h
      refine List.Pairwise.cons (fun y hy ⟨h1, h2⟩ => ?_) (reads_apart r h)
      rw [(hrd x h1).1] at hs
      cases hs
    · rw [hs, if_pos rfl] at h
      have h' := List.pairwise_cons.1 h
      refine List.Pairwise.cons (fun y hy ⟨h1, h2⟩ => ?_) (reads_apart r h'.2)
      exact h'.1 y.1 (List.mem_filter.2 ⟨List.mem_map.2 ⟨y, hy, rfl⟩, (hrd y h2).1⟩) r ⟨(hrd x h1).2, (hrd y h2).2⟩
theorem good_clos {I : List Ins} {pc : Nat} {l : List (Nat × List Nat)} {meets : Int → Bool} (h : Unf (nxI meets I) [(pc, [])] l) (hd : (placesI l).Nodup) (hlt : ∀ x ∈ l, x.1 < I.length) : closI meets I pc = l := by
  unfold closI
  rw [unf_each h (List.replicate I.length false) [] hd fun x hx => by simp [newB, hlt x hx]]
  rfl
/-- The document's walk of a program without choice. -/
theorem runT_find (hR : RightPg p) (hG : ∀ pc, ReachI p.ins p.start.toNat pc → GoodI p.ins pc) : ∀ (d pc j : Nat) (c : List Int) (s : Th), T.len + 1 = j + d → ReachI p.ins p.start.toNat pc → FreshT p T s j → (∀ b, s.best = some b → long = true ∧ b.getD 1 0 < (j : Int)) → 2 ≤ c.length →
    (runT p.ins T T.len long [(pc, j, c)] s).best = (findF p.ins T long d pc j c).or s.best
  | 0, pc, j, c, s, hd, _, _, _, _ => by
    rw [runT_old, runT_nil]
    · rfl
    · unfold openT
      have : decide ((j : Int) ≤ (T.len : Int)) = false := decide_eq_false (by omega)
      simp only
      rw [this]
      rfl
  | d + 1, pc, j, c, s, hd, hr, hf, hb, hc => by
    obtain ⟨l, l0, h1, h2, h3, h4, h5, h6, h7⟩ := good_part (hG pc hr) (T.meets (T.at' j))
    have hpl := reach_lt hR hr
    have hlt := unf_lt hR hpl h1
    have hcl := good_clos h1 h4 hlt
    have hsub : (placesI l).Sublist (placesI l0) := h3.map _
    have hrp := reads_apart (I := p.ins) (T.rn j) (l := l) (h7.sublist (hsub.filter _))
    have hhp := hits_apart (I := p.ins) (l := l) (Nat.le_trans (hsub.countP_le) h6)
    have key := runT_place (long := long) (c := c) (F := fun x => findF p.ins T long d (atI p.ins x.1).out.toNat (j + 1) (keepI p.ins j x.2 c)) (show j ≤ T.len by omega) h1 s h4 hlt (fun x hx => hf j x.1 (Nat.le_refl _) (by omega) (hlt x hx)) hrp
      (fun _ => ⟨fun j' k hj' hj2 hk => hf j' k (by omega) hj2 hk, fun b hb' => by have := (hb b hb').2; omega⟩)
      (fun x hx hrd s' hf' hb' => runT_find hR hG d _ _ _ s' (by omega) (.step hr h2 (hsub.mem (List.mem_map.2 ⟨x, hx, rfl⟩)) (by unfold readsI at hrd; rw [Bool.and_eq_true] at hrd; exact hrd.1)) hf' hb' (by rw [keepI_len]; exact hc))
    rw [show [(pc, ([] : List Nat))].map (laidT p.ins j c) = [(pc, j, c)] from rfl] at key
    rw [key, goG_is l s.best hrp hhp (fun x m hm => by have := findF_end 0 _ _ _ _ _ (by rw [keepI_len]; exact hc) hm; omega) hb]
    rw [findF, hcl]
/-- What the program keeps at a place: steps, the match, what reads, is nothing to be read any more. -/
structure Ps where
  steps : Nat
  got : Option (List Int)
  read : Option (Nat × List Nat)
  over : Bool
def stepP (I : List Ins) (long : Bool) (j : Nat) (r : Int) (fit : List Int) (s : Ps) (x : Nat × List Nat) : Ps :=
  if isHit I x.1 = true then ⟨s.steps + 1 + (fit.length + (x.2.length + 1)), some ((keepI I j x.2 fit).set 1 (j : Int)), s.read, !long⟩
  else ⟨s.steps + 1, s.got, if !s.over && readsI I r x then some x else s.read, s.over⟩
def foldP (I : List Ins) (long : Bool) (j : Nat) (r : Int) (fit : List Int) (s : Ps) (l : List (Nat × List Nat)) : Ps := l.foldl (stepP I long j r fit) s
section
variable {I : List Ins} {j : Nat} {r : Int} {fit : List Int}
theorem fold_over : ∀ (l : List (Nat × List Nat)) (s : Ps), (∀ x ∈ l, isHit I x.1 = false) → (s.over = true ∨ ∀ x ∈ l, readsI I r x = false) →
    (foldP I long j r fit s l).got = s.got ∧ (foldP I long j r fit s l).read = s.read ∧ (foldP I long j r fit s l).steps = s.steps + l.length
  | [], s, _, _ => ⟨rfl, rfl, rfl⟩
  | x :: l, s, h1, h2 => by
    have hst : stepP I long j r fit s x = ⟨s.steps + 1, s.got, s.read, s.over⟩ := by
      unfold stepP
      rw [h1 x (List.mem_cons_self ..)]
      rcases h2 with h2 | h2
      · simp [h2]
      · simp [h2 x (List.mem_cons_self ..)]
    have ih := fold_over l ⟨s.steps + 1, s.got, s.read, s.over⟩ (fun y hy => h1 y (List.mem_cons_of_mem _ hy)) (h2.imp id fun h y hy => h y (List.mem_cons_of_mem _ hy))
    show (foldP I long j r fit (stepP I long j r fit s x) l).got = _ ∧ (foldP I long j r fit (stepP I long j r fit s x) l).read = _ ∧ (foldP I long j r fit (stepP I long j r fit s x) l).steps = _
    rw [hst, ih.1, ih.2.1, ih.2.2]
    refine ⟨rfl, rfl, ?_⟩
    simp only [List.length_cons]
    omega
theorem fold_read : ∀ (l : List (Nat × List Nat)) (s : Ps), (∀ x ∈ l, isHit I x.1 = false) → l.Pairwise (fun x y => ¬ (readsI I r x = true ∧ readsI I r y = true)) → s.over = false →
    (foldP I long j r fit s l).got = s.got ∧ (foldP I long j r fit s l).read = (l.find? (readsI I r)).or s.read ∧ (foldP I long j r fit s l).steps = s.steps + l.length
  | [], s, _, _, _ => ⟨rfl, rfl, rfl⟩
  | x :: l, s, h1, h2, h3 => by
    have h2' := List.pairwise_cons.1 h2
    have hl : ∀ y ∈ l, isHit I y.1 = false := fun y hy => h1 y (List.mem_cons_of_mem _ hy)
    show (foldP I long j r fit (stepP I long j r fit s x) l).got = _ ∧ (foldP I long j r fit (stepP I long j r fit s x) l).read = _ ∧ (foldP I long j r fit (stepP I long j r fit s x) l).steps = _
    cases hx : readsI I r x
    · have hst : stepP I long j r fit s x = ⟨s.steps + 1, s.got, s.read, s.over⟩ := by
        unfold stepP
        rw [h1 x (List.mem_cons_self ..)]
        simp [hx]
      have ih := fold_read l ⟨s.steps + 1, s.got, s.read, s.over⟩ hl h2'.2 h3
      rw [hst, ih.1, ih.2.1, ih.2.2, List.find?_cons_of_neg (by simp [hx])]
      refine ⟨rfl, rfl, ?_⟩
      simp only [List.length_cons]
      omega
    · have hst : stepP I long j r fit s x = ⟨s.steps + 1, s.got, some x, s.over⟩ := by
        unfold stepP
        rw [h1 x (List.mem_cons_self ..)]
        simp [hx, h3]
      have ih := fold_over (long := long) (j := j) (fit := fit) l ⟨s.steps + 1, s.got, some x, s.over⟩ hl (.inr fun y hy => by
        have := h2'.1 y hy
        cases hy2 : readsI I r y
        · rfl
        · exact absurd ⟨hx, hy2⟩ this)
      rw [hst, ih.1, ih.2.1, ih.2.2, List.find?_cons_of_pos hx]
      refine ⟨rfl, rfl, ?_⟩
      simp only [List.length_cons]
      omega
theorem fold_hit (M : Nat) : ∀ (l : List (Nat × List Nat)) (s : Ps), (∀ x ∈ l, readsI I r x = false) → l.Pairwise (fun x y => ¬ (isHit I x.1 = true ∧ isHit I y.1 = true)) → (∀ x ∈ l, x.2.length < M) →
    (foldP I long j r fit s l).got = (hitOf I j fit l).or s.got ∧ (foldP I long j r fit s l).read = s.read ∧ (foldP I long j r fit s l).steps ≤ s.steps + l.length + (fit.length + M)
  | [], s, _, _, _ => ⟨rfl, rfl, Nat.le_add_right _ _⟩
  | x :: l, s, h1, h2, hM => by
    have h2' := List.pairwise_cons.1 h2
    have hl : ∀ y ∈ l, readsI I r y = false := fun y hy => h1 y (List.mem_cons_of_mem _ hy)
    show (foldP I long j r fit (stepP I long j r fit s x) l).got = _ ∧ (foldP I long j r fit (stepP I long j r fit s x) l).read = _ ∧ (foldP I long j r fit (stepP I long j r fit s x) l).steps ≤ _
    cases hx : isHit I x.1
    · have hst : stepP I long j r fit s x = ⟨s.steps + 1, s.got, s.read, s.over⟩ := by
        unfold stepP
        rw [hx]
        simp [h1 x (List.mem_cons_self ..)]
      have hh : hitOf I j fit (x :: l) = hitOf I j fit l := by
        unfold hitOf
        rw [List.find?_cons_of_neg (by simp [hx])]
      have ih := fold_hit M l ⟨s.steps + 1, s.got, s.read, s.over⟩ hl h2'.2 fun y hy => hM y (List.mem_cons_of_mem _ hy)
      rw [hst, hh]
      refine ⟨ih.1, ih.2.1, Nat.le_trans ih.2.2 ?_⟩
      simp only [List.length_cons]
      omega
    · have hst : stepP I long j r fit s x = ⟨s.steps + 1 + (fit.length + (x.2.length + 1)), some ((keepI I j x.2 fit).set 1 (j : Int)), s.read, !long⟩ := by
        unfold stepP
        rw [hx, if_pos rfl]
      have hh : hitOf I j fit (x :: l) = some ((keepI I j x.2 fit).set 1 (j : Int)) := by
        unfold hitOf
        rw [List.find?_cons_of_pos (by exact hx)]
        rfl
      have ih := fold_over (long := long) (j := j) (r := r) (fit := fit) l ⟨s.steps + 1 + (fit.length + (x.2.length + 1)), some ((keepI I j x.2 fit).set 1 (j : Int)), s.read, !long⟩ (fun y hy => by
        have := h2'.1 y hy
        cases hy2 : isHit I y.1
        · rfl
        · exact absurd ⟨hx, hy2⟩ this) (.inr hl)
      have hm := hM x (List.mem_cons_self ..)
      rw [hst, hh]
      refine ⟨ih.1, ih.2.1, ?_⟩
      rw [ih.2.2]
      simp only [List.length_cons]
      omega
/-- At most one matches, at most one reads: what the program has kept behind a place. -/
theorem fold_is (M : Nat) : ∀ (l : List (Nat × List Nat)) (s : Ps), l.Pairwise (fun x y => ¬ (readsI I r x = true ∧ readsI I r y = true)) → l.Pairwise (fun x y => ¬ (isHit I x.1 = true ∧ isHit I y.1 = true)) → (∀ x ∈ l, x.2.length < M) → s.over = false → s.read = none →
    (foldP I long j r fit s l).got = (hitOf I j fit l).or s.got ∧ (foldP I long j r fit s l).read = readOf I r long l ∧ (foldP I long j r fit s l).steps ≤ s.steps + l.length + (fit.length + M)
  | [], s, _, _, _, _, h5 => ⟨rfl, by rw [show foldP I long j r fit s [] = s from rfl, h5]; unfold readOf; simp, Nat.le_add_right _ _⟩
  | x :: l, s, h1, h2, hM, h4, h5 => by
    have h1' := List.pairwise_cons.1 h1
    have h2' := List.pairwise_cons.1 h2
    have hM' : ∀ y ∈ l, y.2.length < M := fun y hy => hM y (List.mem_cons_of_mem _ hy)
    show (foldP I long j r fit (stepP I long j r fit s x) l).got = _ ∧ (foldP I long j r fit (stepP I long j r fit s x) l).read = _ ∧ (foldP I long j r fit (stepP I long j r fit s x) l).steps ≤ _
    cases hx : isHit I x.1
    · have hh : hitOf I j fit (x :: l) = hitOf I j fit l := by
        unfold hitOf
        rw [List.find?_cons_of_neg (by simp [hx])]
      cases hr : readsI I r x
      · have hst : stepP I long j r fit s x = ⟨s.steps + 1, s.got, s.read, s.over⟩ := by
          unfold stepP
          rw [hx]
          simp [hr]
        have hrd : readOf I r long (x :: l) = readOf I r long l := by
          unfold readOf
          cases long
          · simp only [Bool.false_eq_true, if_false]
            rw [List.takeWhile_cons_of_pos (by simp [hx]), List.find?_cons_of_neg (by simp [hr])]
          · simp only [if_true]
            rw [List.find?_cons_of_neg (by simp [hr])]
        have ih := fold_is M l ⟨s.steps + 1, s.got, s.read, s.over⟩ h1'.2 h2'.2 hM' h4 h5
        rw [hst, hh, hrd]
        refine ⟨ih.1, ih.2.1, Nat.le_trans ih.2.2 ?_⟩
        simp only [List.length_cons]
        omega
      · have hst : stepP I long j r fit s x = ⟨s.steps + 1, s.got, some x, s.over⟩ := by
          unfold stepP
          rw [hx]
          simp [hr, h4]
        have hrd : readOf I r long (x :: l) = some x := by
          unfold readOf
          cases long
          · simp only [Bool.false_eq_true, if_false]
            rw [List.takeWhile_cons_of_pos (by simp [hx]), List.find?_cons_of_pos hr]
          · simp only [if_true]
            rw [List.find?_cons_of_pos hr]
        have ih := fold_hit (long := long) (j := j) (fit := fit) M l ⟨s.steps + 1, s.got, some x, s.over⟩ (fun y hy => by
          have := h1'.1 y hy
          cases hy2 : readsI I r y
          · rfl
          · exact absurd ⟨hr, hy2⟩ this) h2'.2 hM'
        rw [hst, hh, hrd]
        refine ⟨ih.1, ih.2.1, Nat.le_trans ih.2.2 ?_⟩
        simp only [List.length_cons]
        omega
    · have hst : stepP I long j r fit s x = ⟨s.steps + 1 + (fit.length + (x.2.length + 1)), some ((keepI I j x.2 fit).set 1 (j : Int)), s.read, !long⟩ := by
        unfold stepP
        rw [hx, if_pos rfl]
      have hh : hitOf I j fit (x :: l) = some ((keepI I j x.2 fit).set 1 (j : Int)) := by
        unfold hitOf
        rw [List.find?_cons_of_pos (by exact hx)]
        rfl
      have hno : readsI I r x = false := by
        unfold readsI isSet
        unfold isHit at hx
        have := of_decide_eq_true hx
        simp [this]
      have hnl : ∀ y ∈ l, isHit I y.1 = false := fun y hy => by
        have := h2'.1 y hy
        cases hy2 : isHit I y.1
        · rfl
        · exact absurd ⟨hx, hy2⟩ this
      have hm := hM x (List.mem_cons_self ..)
      rw [hst, hh]
      cases hlong : long
      · have hrd : readOf I r false (x :: l) = none := by
          unfold readOf
          simp only [Bool.false_eq_true, if_false]
          rw [List.takeWhile_cons_of_neg (by simp [hx])]
          rfl
        have ih := fold_over (long := false) (j := j) (r := r) (fit := fit) l ⟨s.steps + 1 + (fit.length + (x.2.length + 1)), some ((keepI I j x.2 fit).set 1 (j : Int)), s.read, true⟩ hnl (.inl rfl)
        rw [hrd]
        refine ⟨ih.1, ih.2.1.trans h5, ?_⟩
        show (foldP I false j r fit ⟨s.steps + 1 + (fit.length + (x.2.length + 1)), some ((keepI I j x.2 fit).set 1 (j : Int)), s.read, true⟩ l).steps ≤ _
        rw [ih.2.2]
        simp only [List.length_cons]
        omega
      · have hrd : readOf I r true (x :: l) = l.find? (readsI I r) := by
          unfold readOf
          simp only [if_true]
          rw [List.find?_cons_of_neg (by simp [hno])]
        have ih := fold_read (long := true) (j := j) (r := r) (fit := fit) l ⟨s.steps + 1 + (fit.length + (x.2.length + 1)), some ((keepI I j x.2 fit).set 1 (j : Int)), s.read, false⟩ hnl h1'.2 rfl
        rw [hrd]
        refine ⟨ih.1, ih.2.1.trans (by rw [h5, Option.or_none]), ?_⟩
        show (foldP I true j r fit ⟨s.steps + 1 + (fit.length + (x.2.length + 1)), some ((keepI I j x.2 fit).set 1 (j : Int)), s.read, false⟩ l).steps ≤ _
        rw [ih.2.2]
        simp only [List.length_cons]
        omega
end
/-- What the program does at one place on its way. -/
theorem pass_is (hR : RightPg p) (hG : ∀ pc, ReachI p.ins p.start.toNat pc → GoodI p.ins pc) {pc : Nat} (hr : ReachI p.ins p.start.toNat pc) (j : Nat) (fit : List Int) (n0 : Nat) (g0 : Option (List Int)) (d : Nat) (s : Ps)
    (hs : s = foldP p.ins long j (T.rn j) fit ⟨n0, g0, none, false⟩ (closI (T.meets (T.at' j)) p.ins pc)) :
    Unf (nxI (T.meets (T.at' j)) p.ins) [(pc, [])] (closI (T.meets (T.at' j)) p.ins pc) ∧ (placesI (closI (T.meets (T.at' j)) p.ins pc)).Nodup ∧ (closI (T.meets (T.at' j)) p.ins pc).length ≤ p.ins.length ∧ (∀ x ∈ closI (T.meets (T.at' j)) p.ins pc, x.1 < p.ins.length ∧ x.2.length < p.ins.length) ∧
    s.steps ≤ n0 + (2 * p.ins.length + fit.length) ∧
    (s.read = none → (findF p.ins T long (d + 1) pc j fit).or g0 = s.got) ∧
    (∀ x, s.read = some x → x ∈ closI (T.meets (T.at' j)) p.ins pc ∧ readsI p.ins (T.rn j) x = true ∧ j < T.len ∧ ReachI p.ins p.start.toNat (atI p.ins x.1).out.toNat ∧
      (findF p.ins T long (d + 1) pc j fit).or g0 = (findF p.ins T long d (atI p.ins x.1).out.toNat (j + 1) (keepI p.ins j x.2 fit)).or s.got) := by
  obtain ⟨l, l0, h1, h2, h3, h4, h5, h6, h7⟩ := good_part (hG pc hr) (T.meets (T.at' j))
  have hpl := reach_lt hR hr
  have hlt := unf_lt hR hpl h1
  have hcl := good_clos h1 h4 hlt
  have hsub : (placesI l).Sublist (placesI l0) := h3.map _
  have hrp := reads_apart (I := p.ins) (T.rn j) (l := l) (h7.sublist (hsub.filter _))
  have hhp := hits_apart (I := p.ins) (l := l) (Nat.le_trans (hsub.countP_le) h6)
  have hlen : ∀ {ll : List Nat}, ll.Nodup → (∀ a ∈ ll, a < p.ins.length) → ll.length ≤ p.ins.length := fun {ll} hd hl => nodupLt _ ll hd hl
  have hpath : ∀ x ∈ l, x.2.length < p.ins.length := fun x hx => by
    have h8 := way_nodup h1 h4 x.2 x.1 hx
    have h9 := way_mem h1 (p := x.1) (ps := x.2) hx
    have := hlen h8 fun a ha => by
      obtain ⟨y, hy, rfl⟩ := List.mem_map.1 (h9 a ha)
      exact hlt y hy
    simp only [List.length_cons] at this
    omega
  have hll : l.length ≤ p.ins.length := by
    have := hlen h4 fun a ha => by
      obtain ⟨y, hy, rfl⟩ := List.mem_map.1 ha
      exact hlt y hy
    simpa [placesI] using this
  rw [hcl] at hs ⊢
  obtain ⟨k1, k2, k3⟩ := fold_is (long := long) (j := j) (fit := fit) p.ins.length l ⟨n0, g0, none, false⟩ hrp hhp hpath rfl rfl
  rw [← hs] at k1 k2 k3
  refine ⟨h1, h4, hll, fun x hx => ⟨hlt x hx, hpath x hx⟩, by simp only at k3; omega, fun hn => ?_, fun x hx => ?_⟩
  · rw [k1]
    rw [k2] at hn
    unfold findF
    rw [hcl, hn]
  · rw [k2] at hx
    have hm : x ∈ l := by
      unfold readOf at hx
      have h8 := List.mem_of_find?_eq_some hx
      split at h8
      · exact h8
      · exact (List.takeWhile_sublist _).mem h8
    have hrd : readsI p.ins (T.rn j) x = true := by
      unfold readOf at hx
      exact List.find?_some hx
    have hrd' := hrd
    unfold readsI hasB at hrd'
    rw [Bool.and_eq_true] at hrd'
    refine ⟨hm, hrd, ?_, .step hr h2 (hsub.mem (List.mem_map.2 ⟨x, hm, rfl⟩)) hrd'.1, ?_⟩
    · have h8 := (of_decide_eq_true hrd'.2).1
      rcases Nat.lt_or_ge j T.len with h9 | h9
      · exact h9
      · have := T.last j h9
        omega
    · rw [k1]
      have hf : findF p.ins T long (d + 1) pc j fit = (findF p.ins T long d (atI p.ins x.1).out.toNat (j + 1) (keepI p.ins j x.2 fit)).or (hitOf p.ins j fit l) := by
        rw [findF, hcl, hx]
      rw [hf, Option.or_assoc]
end
end Go.Proofs.Ytnemacejaiifnaa
/- Plain mathematics: from which instruction one has come to each, as a table. No condition. -/
namespace Go.Proofs.Ytnemacejaiifnaa

/-- The table B leads along a way, the nearest first, to where it begins. -/
def ChainB (B : List Int) : List Nat → Prop
  | [] => True
  | [p] => B.getD p 0 = -1
  | p :: q :: ps => B.getD p 0 = (q : Int) ∧ ChainB B (q :: ps)
theorem chain_congr {B B' : List Int} : ∀ (l : List Nat), (∀ a ∈ l, B'.getD a 0 = B.getD a 0) → ChainB B l → ChainB B' l
  | [], _, _ => trivial
  | [p], h, hc => (h p (by simp)).trans hc
  | p :: q :: ps, h, hc => ⟨(h p (by simp)).trans hc.1, chain_congr (q :: ps) (fun a ha => h a (List.mem_cons_of_mem _ ha)) hc.2⟩
theorem unf_stack {nx : Nat → List Nat} {st l : List (Nat × List Nat)} (h : Unf nx st l) : st.Sublist l := by
  induction h with
  | nil => exact List.Sublist.refl _
  | cons _ ih => exact ((List.sublist_append_right _ _).trans ih).cons_cons _
/-- Where none is come to twice, the table leads from all that was come to, and from all that is left. -/
structure GoodW (nx : Nat → List Nat) (L : List (Nat × List Nat)) (B : List Int) (st vis : List (Nat × List Nat)) : Prop where
  ex : ∃ l, Unf nx st l ∧ vis ++ l = L ∧ (placesI L).Nodup
  chS : ∀ x ∈ st, ChainB B (x.1 :: x.2)
  chV : ∀ x ∈ vis, ChainB B (x.1 :: x.2)
  memS : ∀ x ∈ st, ∀ a ∈ x.2, a ∈ placesI vis
  memV : ∀ x ∈ vis, ∀ a ∈ x.2, a ∈ placesI vis
theorem mem_places {l : List (Nat × List Nat)} {x : Nat × List Nat} (h : x ∈ l) : x.1 ∈ placesI l := List.mem_map.2 ⟨x, h, rfl⟩
theorem places_app (a b : List (Nat × List Nat)) : placesI (a ++ b) = placesI a ++ placesI b := by simp [placesI]
theorem GoodW.step {nx : Nat → List Nat} {B B' : List Int} {L : List (Nat × List Nat)} {x : Nat × List Nat} {st vis : List (Nat × List Nat)} (h : GoodW nx L B (x :: st) vis) (h1 : ∀ a, a ∉ nx x.1 → B'.getD a 0 = B.getD a 0) (h2 : ∀ k ∈ nx x.1, B'.getD k 0 = (x.1 : Int)) :
    GoodW nx L B' (kidsI nx x ++ st) (vis ++ [x]) := by
  obtain ⟨⟨l, hu, hL, hd⟩, a, b, c, d⟩ := h
  cases hu with
  | @cons _ _ l hu =>
    have hsub := unf_stack hu
    have hsp : (placesI (kidsI nx x ++ st)).Sublist (placesI l) := hsub.map _
    have hdL := hd
    rw [← hL, places_app, show placesI (x :: l) = x.1 :: placesI l from rfl] at hd
    have hd1 := List.nodup_append.1 hd
    have hd2 := List.nodup_cons.1 hd1.2.1
    rw [places_kids] at hsp
    have hd3 := List.nodup_append.1 (hd2.2.sublist hsp)
    have hkl : ∀ k ∈ nx x.1, k ∈ placesI l := fun k hk => hsp.mem (List.mem_append_left _ hk)
    have hkv : ∀ k ∈ nx x.1, k ∉ placesI vis := fun k hk hv => hd1.2.2 k hv k (List.mem_cons_of_mem _ (hkl k hk)) rfl
    have hkx : x.1 ∉ nx x.1 := fun hk => hd2.1 (hkl _ hk)
    have hold : ∀ y : Nat × List Nat, y.1 ∉ nx x.1 → (∀ z ∈ y.2, z ∈ placesI vis) → ChainB B (y.1 :: y.2) → ChainB B' (y.1 :: y.2) := fun y hy hm hc => chain_congr _ (fun z hz => h1 z (by
      rcases List.mem_cons.1 hz with rfl | hz
      · exact hy
      · exact fun hk => hkv z hk (hm z hz))) hc
    have hx := hold x hkx (c x (List.mem_cons_self ..)) (a x (List.mem_cons_self ..))
    have hvx : ∀ z, z ∈ placesI vis → z ∈ placesI (vis ++ [x]) := fun z hz => by rw [places_app]; exact List.mem_append_left _ hz
    have hxx : x.1 ∈ placesI (vis ++ [x]) := by rw [places_app]; exact List.mem_append_right _ (by simp [placesI])
    refine ⟨⟨l, hu, by rw [← hL, List.append_assoc]; rfl, hdL⟩, fun y hy => ?_, fun y hy => ?_, fun y hy z hz => ?_, fun y hy z hz => ?_⟩
    · rcases List.mem_append.1 hy with hy | hy
      · obtain ⟨k, hk, rfl⟩ := List.mem_map.1 hy
        exact ⟨h2 k hk, hx⟩
      · exact hold y (fun hk => hd3.2.2 _ hk _ (mem_places hy) rfl) (c y (List.mem_cons_of_mem _ hy)) (a y (List.mem_cons_of_mem _ hy))
    · rcases List.mem_append.1 hy with hy | hy
      · exact hold y (fun hk => hkv _ hk (mem_places hy)) (d y hy) (b y hy)
      · obtain rfl : y = x := by simpa using hy
        exact hx
    · rcases List.mem_append.1 hy with hy | hy
      · obtain ⟨k, hk, rfl⟩ := List.mem_map.1 hy
        rcases List.mem_cons.1 hz with rfl | hz
        · exact hxx
        · exact hvx z (c x (List.mem_cons_self ..) z hz)
      · exact hvx z (c y (List.mem_cons_of_mem _ hy) z hz)
    · rcases List.mem_append.1 hy with hy | hy
      · exact hvx z (d y hy z hz)
      · obtain rfl : y = x := by simpa using hy
        exact hvx z (c y (List.mem_cons_self ..) z hz)
theorem goodW_begin {nx : Nat → List Nat} {B : List Int} {pc : Nat} {L : List (Nat × List Nat)} (h1 : Unf nx [(pc, [])] L) (h2 : (placesI L).Nodup) (hb : pc < B.length) : GoodW nx L (B.set pc (-1)) [(pc, [])] [] := by
  refine ⟨⟨L, h1, rfl, h2⟩, fun x hx => ?_, by simp, fun x hx a ha => ?_, by simp⟩
  · obtain rfl : x = (pc, []) := by simpa using hx
    show (B.set pc (-1)).getD pc 0 = -1
    simp [hb]
  · obtain rfl : x = (pc, []) := by simpa using hx
    simp at ha
/-- Does a way go on? -/
def tstI (meets : Int → Bool) (x : Ins) : Bool := !(decide (x.op = 5)) || meets x.at'
/-- What was come to in this round. -/
def seenM (r : Int) (M : List Int) : List Bool := M.map fun m => decide (m = r)
theorem seenM_set (r : Int) (M : List Int) (i : Nat) : seenM r (M.set i r) = (seenM r M).set i true := by
  unfold seenM
  rw [List.map_set]
  simp
theorem seenM_new {r : Int} {M : List Int} (h : ∀ x ∈ M, x < r) : seenM r M = List.replicate M.length false := by
  unfold seenM
  rw [List.eq_replicate_iff]
  refine ⟨by simp, fun b hb => ?_⟩
  obtain ⟨m, hm, rfl⟩ := List.mem_map.1 hb
  have := h m hm
  exact decide_eq_false (by omega)
theorem newB_M {r : Int} {M : List Int} {i : Nat} {m : Int} (h : M[i]? = some m) : newB (seenM r M) i = !decide (m = r) := by
  unfold newB seenM
  rw [List.getD_eq_getElem?_getD, List.getElem?_map, h]
  rfl
theorem getD_set_self {l : List Int} {i : Nat} (h : i < l.length) (x : Int) : (l.set i x).getD i 0 = x := by simp [h]
theorem getD_set_ne (l : List Int) {i j : Nat} (h : i ≠ j) (x : Int) : (l.set i x).getD j 0 = l.getD j 0 := by simp [h]
end Go.Proofs.Ytnemacejaiifnaa
