/- Texts merged by program: Sets, PgMath. No condition. -/
import Derived.Tactics
set_option linter.unusedVariables false
/- Plain mathematics of sets of runes as lists of ranges: a set's list is given by its runes; what a list does not have; how many runes. No condition. -/
namespace Go.Proofs.Ytnemacejaiifnaa

/-- The list l (any list) has the rune c. -/
def HasR (l : List (Int × Int)) (c : Int) : Prop := 0 ≤ c ∧ c ≤ 1114111 ∧ ∃ r ∈ l, r.1 ≤ c ∧ c ≤ r.2
/-- A set, all of it from lo on. -/
def RightFrom : Int → List (Int × Int) → Prop
  | _, [] => True
  | lo, r :: l => lo ≤ r.1 ∧ r.1 ≤ r.2 ∧ r.2 ≤ 1114111 ∧ RightFrom (r.2 + 2) l
def RightR (l : List (Int × Int)) : Prop := RightFrom 0 l
/-- Where the next range may begin. -/
def endOf : Int → List (Int × Int) → Int
  | lo, [] => lo
  | _, r :: l => endOf (r.2 + 2) l

theorem RightFrom.le {lo lo' : Int} : ∀ {l : List (Int × Int)}, RightFrom lo l → lo' ≤ lo → RightFrom lo' l
  | [], _, _ => trivial
  | _ :: _, ⟨h1, h2, h3, h4⟩, h => ⟨by omega, h2, h3, h4⟩
theorem right_append : ∀ (a b : List (Int × Int)) (lo : Int), RightFrom lo (a ++ b) ↔ RightFrom lo a ∧ RightFrom (endOf lo a) b
  | [], b, lo => by simp [RightFrom, endOf]
  | r :: a, b, lo => by
    show (_ ∧ _ ∧ _ ∧ RightFrom (r.2 + 2) (a ++ b)) ↔ (_ ∧ _ ∧ _ ∧ RightFrom (r.2 + 2) a) ∧ RightFrom (endOf (r.2 + 2) a) b
    rw [right_append a b (r.2 + 2)]
    constructor
    · rintro ⟨h1, h2, h3, h4, h5⟩
      exact ⟨⟨h1, h2, h3, h4⟩, h5⟩
    · rintro ⟨⟨h1, h2, h3, h4⟩, h5⟩
      exact ⟨h1, h2, h3, h4, h5⟩
theorem right_has_lo : ∀ (l : List (Int × Int)) (lo c : Int), RightFrom lo l → HasR l c → lo ≤ c
  | [], _, _, _, h => by
    obtain ⟨_, _, r, hr, _⟩ := h
    simp at hr
  | r :: l, lo, c, ⟨h1, h2, _, h4⟩, ⟨h5, h6, q, hq, h7, h8⟩ => by
    rcases List.mem_cons.1 hq with rfl | hq
    · omega
    · have := right_has_lo l (r.2 + 2) c h4 ⟨h5, h6, q, hq, h7, h8⟩
      omega
theorem has_cons (r : Int × Int) (l : List (Int × Int)) (c : Int) : HasR (r :: l) c ↔ (0 ≤ c ∧ c ≤ 1114111 ∧ r.1 ≤ c ∧ c ≤ r.2) ∨ HasR l c := by
  unfold HasR
  simp only [List.mem_cons, exists_eq_or_imp]
  constructor
  · rintro ⟨h1, h2, h3 | h3⟩
    · exact .inl ⟨h1, h2, h3⟩
    · exact .inr ⟨h1, h2, h3⟩
  · rintro (⟨h1, h2, h3⟩ | ⟨h1, h2, h3⟩)
    · exact ⟨h1, h2, .inl h3⟩
    · exact ⟨h1, h2, .inr h3⟩
theorem has_append (a b : List (Int × Int)) (c : Int) : HasR (a ++ b) c ↔ HasR a c ∨ HasR b c := by
  induction a with
  | nil => simp [HasR]
  | cons r a ih => rw [List.cons_append, has_cons, has_cons, ih, or_assoc]
theorem has_nil (c : Int) : ¬ HasR [] c := by simp [HasR]

/-- A set's list is given by its runes. -/
theorem right_unique : ∀ (a b : List (Int × Int)) (lo : Int), 0 ≤ lo → RightFrom lo a → RightFrom lo b → (∀ c, lo ≤ c → (HasR a c ↔ HasR b c)) → a = b
  | [], [], _, _, _, _, _ => rfl
  | [], r :: b, lo, h0, _, ⟨h1, h2, h3, _⟩, h => by
    have := (h r.1 h1).2 ((has_cons _ _ _).2 (.inl ⟨by omega, by omega, by omega, h2⟩))
    exact absurd this (has_nil _)
  | r :: a, [], lo, h0, ⟨h1, h2, h3, _⟩, _, h => by
    have := (h r.1 h1).1 ((has_cons _ _ _).2 (.inl ⟨by omega, by omega, by omega, h2⟩))
    exact absurd this (has_nil _)
  | r :: a, q :: b, lo, h0, ⟨h1, h2, h3, h4⟩, ⟨g1, g2, g3, g4⟩, h => by
    have e1 : r.1 = q.1 := by
      rcases Int.lt_trichotomy r.1 q.1 with hlt | he | hlt
      · have := (h r.1 h1).1 ((has_cons _ _ _).2 (.inl ⟨by omega, by omega, by omega, h2⟩))
        rcases (has_cons _ _ _).1 this with h5 | h5
        · omega
        · have := right_has_lo b _ _ g4 h5
          omega
      · exact he
      · have := (h q.1 g1).2 ((has_cons _ _ _).2 (.inl ⟨by omega, by omega, by omega, g2⟩))
        rcases (has_cons _ _ _).1 this with h5 | h5
        · omega
        · have := right_has_lo a _ _ h4 h5
          omega
    have e2 : r.2 = q.2 := by
      rcases Int.lt_trichotomy r.2 q.2 with hlt | he | hlt
      · have := (h (r.2 + 1) (by omega)).2 ((has_cons _ _ _).2 (.inl ⟨by omega, by omega, by omega, by omega⟩))
        rcases (has_cons _ _ _).1 this with h5 | h5
        · omega
        · have := right_has_lo a _ _ h4 h5
          omega
      · exact he
      · have := (h (q.2 + 1) (by omega)).1 ((has_cons _ _ _).2 (.inl ⟨by omega, by omega, by omega, by omega⟩))
        rcases (has_cons _ _ _).1 this with h5 | h5
        · omega
        · have := right_has_lo b _ _ g4 h5
          omega
    have e : r = q := Prod.ext e1 e2
    subst e
    have := right_unique a b (r.2 + 2) (by omega) h4 g4 fun c hc => by
      have := h c (by omega)
      rw [has_cons, has_cons] at this
      constructor
      · intro h5
        rcases this.1 (.inr h5) with h6 | h6
        · omega
        · exact h6
      · intro h5
        rcases this.2 (.inr h5) with h6 | h6
        · omega
        · exact h6
    rw [this]
/-- Two sets with the same runes are the same list. -/
theorem right_eq (a b : List (Int × Int)) (ha : RightR a) (hb : RightR b) (h : ∀ c, HasR a c ↔ HasR b c) : a = b :=
  right_unique a b 0 (Int.le_refl _) ha hb fun c _ => h c

/-- What the list l (a set from f on) does not have from f on. -/
def notFrom : Int → List (Int × Int) → List (Int × Int)
  | f, [] => if f ≤ 1114111 then [(f, 1114111)] else []
  | f, r :: l => (if f < r.1 then [(f, r.1 - 1)] else []) ++ notFrom (r.2 + 1) l
theorem not_right : ∀ (l : List (Int × Int)) (f : Int), RightFrom f l → RightFrom f (notFrom f l)
  | [], f, _ => by
    unfold notFrom
    split
    · exact ⟨Int.le_refl _, by assumption, Int.le_refl _, trivial⟩
    · trivial
  | r :: l, f, ⟨h1, h2, h3, h4⟩ => by
    have ih := not_right l (r.2 + 1) (h4.le (by omega))
    unfold notFrom
    split
    · exact ⟨Int.le_refl _, by omega, by omega, ih.le (by show r.1 - 1 + 2 ≤ _; omega)⟩
    · exact ih.le (by omega)
theorem not_has : ∀ (l : List (Int × Int)) (f c : Int), 0 ≤ f → RightFrom f l → (HasR (notFrom f l) c ↔ f ≤ c ∧ c ≤ 1114111 ∧ ¬ HasR l c)
  | [], f, c, h0, _ => by
    unfold notFrom
    split
    · rw [has_cons]
      have := has_nil c
      constructor
      · rintro (h | h)
        · exact ⟨h.2.2.1, h.2.1, this⟩
        · exact absurd h this
      · rintro ⟨h1, h2, _⟩
        exact .inl ⟨by omega, h2, h1, h2⟩
    · constructor
      · intro h
        exact absurd h (has_nil c)
      · rintro ⟨h1, h2, _⟩
        omega
  | r :: l, f, c, h0, ⟨h1, h2, h3, h4⟩ => by
    have ih := not_has l (r.2 + 1) c (by omega) (h4.le (by omega))
    have hlo : HasR l c → r.2 + 2 ≤ c := right_has_lo l _ _ h4
    unfold notFrom
    rw [has_append, ih, has_cons]
    constructor
    · rintro (h | ⟨h5, h6, h7⟩)
      · split at h
        · rcases (has_cons _ _ _).1 h with h | h
          · refine ⟨h.2.2.1, h.2.1, ?_⟩
            have h8 := h.2.2.2
            simp only at h8
            rintro (h9 | h9)
            · omega
            · have := hlo h9
              omega
          · exact absurd h (has_nil c)
        · exact absurd h (has_nil c)
      · refine ⟨by omega, h6, ?_⟩
        rintro (h9 | h9)
        · omega
        · exact h7 h9
    · rintro ⟨h5, h6, h7⟩
      have h8 : ¬ (0 ≤ c ∧ c ≤ 1114111 ∧ r.1 ≤ c ∧ c ≤ r.2) := fun h => h7 (.inl h)
      by_cases hc : c < r.1
      · left
        rw [if_pos (by omega)]
        exact (has_cons _ _ _).2 (.inl ⟨by omega, h6, h5, by show c ≤ r.1 - 1; omega⟩)
      · right
        exact ⟨by omega, h6, fun h => h7 (.inr h)⟩
def countR : List (Int × Int) → Int
  | [] => 0
  | r :: l => (r.2 - r.1 + 1) + countR l
theorem count_append : ∀ (a b : List (Int × Int)), countR (a ++ b) = countR a + countR b
  | [], b => by simp [countR]
  | r :: a, b => by
    rw [List.cons_append]
    show _ + countR (a ++ b) = _ + countR a + countR b
    rw [count_append a b]
    omega
theorem count_not : ∀ (l : List (Int × Int)) (f : Int), f ≤ 1114112 → RightFrom f l → countR l + countR (notFrom f l) = 1114112 - f
  | [], f, h, _ => by
    unfold notFrom
    split
    · simp [countR]
      omega
    · simp [countR]
      omega
  | r :: l, f, h, ⟨h1, h2, h3, h4⟩ => by
    have ih := count_not l (r.2 + 1) (by omega) (h4.le (by omega))
    unfold notFrom
    rw [count_append]
    show _ + countR l + _ = _
    split
    · simp [countR]
      omega
    · have : f = r.1 := by omega
      simp [countR]
      omega
theorem count_bound : ∀ (l : List (Int × Int)) (f : Int), f ≤ 1114112 → RightFrom f l → 0 ≤ countR l ∧ countR l ≤ 1114112 - f
  | [], f, h, _ => by simp [countR]; omega
  | r :: l, f, h, ⟨h1, h2, h3, h4⟩ => by
    by_cases hr : r.2 + 2 ≤ 1114112
    · have ih := count_bound l (r.2 + 2) hr h4
      show 0 ≤ _ + countR l ∧ _ + countR l ≤ _
      omega
    · have : l = [] := by
        rcases l with _ | ⟨q, l⟩
        · rfl
        · obtain ⟨g1, g2, g3, _⟩ := h4
          omega
      subst this
      simp [countR]
      omega
theorem right_len : ∀ (l : List (Int × Int)) (f : Int), f ≤ 1114112 → RightFrom f l → (l.length : Int) ≤ 1114112 - f
  | [], f, h, _ => by simp; omega
  | r :: l, f, h, ⟨h1, h2, h3, h4⟩ => by
    by_cases hr : r.2 + 2 ≤ 1114112
    · have ih := right_len l (r.2 + 2) hr h4
      simp only [List.length_cons]
      omega
    · have : l = [] := by
        rcases l with _ | ⟨q, l⟩
        · rfl
        · obtain ⟨g1, g2, g3, _⟩ := h4
          omega
      subst this
      simp
      omega
/-- What each range is cut to. -/
def cutR (r : Int × Int) : Int × Int := (max r.1 0, min r.2 1114111)
def Fit (r : Int × Int) : Prop := 0 ≤ r.1 ∧ r.1 ≤ r.2 ∧ r.2 ≤ 1114111
theorem has_one (r : Int × Int) (c : Int) : HasR [r] c ↔ 0 ≤ c ∧ c ≤ 1114111 ∧ r.1 ≤ c ∧ c ≤ r.2 := by
  rw [has_cons]
  exact ⟨fun h => h.resolve_right (has_nil c), .inl⟩
theorem has_cut (r : Int × Int) (c : Int) : HasR [cutR r] c ↔ HasR [r] c := by
  rw [has_one, has_one]
  unfold cutR
  simp only
  omega
theorem has_cut_none (r : Int × Int) (h : (cutR r).2 < (cutR r).1) (c : Int) : ¬ HasR [r] c := by
  rw [← has_cut, has_one]
  omega
theorem fit_cut (r : Int × Int) (h : ¬ (cutR r).2 < (cutR r).1) : Fit (cutR r) := by
  unfold cutR Fit at *
  simp only at *
  omega
/-- Ranges sorted by where they begin, each of runes. -/
def Sorted (s : List (Int × Int)) : Prop := s.Pairwise (fun a b => a.1 ≤ b.1) ∧ ∀ r ∈ s, Fit r
theorem sorted_nil : Sorted [] := ⟨List.Pairwise.nil, by simp⟩
theorem sorted_put (s : List (Int × Int)) (x : Int × Int) (k : Nat) (hs : Sorted s) (hx : Fit x) (hk : k ≤ s.length) (hlo : ∀ j (h : j < s.length), j + 1 = k → s[j].1 ≤ x.1) (hhi : ∀ j (h : j < s.length), k ≤ j → x.1 < s[j].1) :
    Sorted (s.take k ++ x :: s.drop k) := by
  obtain ⟨h1, h2⟩ := hs
  have hp := List.pairwise_iff_getElem.1 h1
  have hT : ∀ a ∈ s.take k, a.1 ≤ x.1 := fun a ha => by
    obtain ⟨j, hj, rfl⟩ := List.mem_iff_getElem.1 ha
    rw [List.length_take] at hj
    rw [List.getElem_take]
    have h3 := hlo (k - 1) (by omega) (by omega)
    rcases Nat.lt_or_ge j (k - 1) with h4 | h4
    · exact Int.le_trans (hp j (k - 1) (by omega) (by omega) h4) h3
    · have : j = k - 1 := by omega
      subst this
      exact h3
  have hD : ∀ b ∈ s.drop k, x.1 < b.1 := fun b hb => by
    obtain ⟨j, hj, rfl⟩ := List.mem_iff_getElem.1 hb
    rw [List.length_drop] at hj
    rw [List.getElem_drop]
    exact hhi (k + j) (by omega) (by omega)
  refine ⟨?_, fun r hr => ?_⟩
  · rw [List.pairwise_append]
    refine ⟨h1.sublist (List.take_sublist _ _), List.pairwise_cons.2 ⟨fun b hb => Int.le_of_lt (hD b hb), h1.sublist (List.drop_sublist _ _)⟩, fun a ha b hb => ?_⟩
    rcases List.mem_cons.1 hb with rfl | hb
    · exact hT a ha
    · exact Int.le_trans (hT a ha) (Int.le_of_lt (hD b hb))
  · rcases List.mem_append.1 hr with hr | hr
    · exact h2 r (List.mem_of_mem_take hr)
    · rcases List.mem_cons.1 hr with rfl | hr
      · exact hx
      · exact h2 r (List.mem_of_mem_drop hr)
theorem has_put (s : List (Int × Int)) (x : Int × Int) (k : Nat) (c : Int) : HasR (s.take k ++ x :: s.drop k) c ↔ HasR s c ∨ HasR [x] c := by
  have h := has_append (s.take k) (s.drop k) c
  rw [List.take_append_drop] at h
  rw [has_append, has_cons, h, has_one]
  constructor
  · rintro (h | h | h)
    · exact .inl (.inl h)
    · exact .inr h
    · exact .inl (.inr h)
  · rintro ((h | h) | h)
    · exact .inl h
    · exact .inr (.inr h)
    · exact .inr (.inl h)
theorem end_append : ∀ (o : List (Int × Int)) (p : Int × Int) (lo : Int), endOf lo (o ++ [p]) = p.2 + 2
  | [], _, _ => rfl
  | r :: o, p, _ => end_append o p (r.2 + 2)
/-- A range that touches the last one is put together with it. -/
theorem join_right (o : List (Int × Int)) (p x : Int × Int) (h : RightR (o ++ [p])) (hx : Fit x) : RightR (o ++ [(p.1, max p.2 x.2)]) := by
  obtain ⟨h1, h2⟩ := (right_append o [p] 0).1 h
  obtain ⟨h3, h4, h5, _⟩ := h2
  refine (right_append _ _ _).2 ⟨h1, ⟨h3, ?_, ?_, trivial⟩⟩
  · show p.1 ≤ max p.2 x.2
    omega
  · have := hx.2.2
    show max p.2 x.2 ≤ 1114111
    omega
theorem join_has (o : List (Int × Int)) (p x : Int × Int) (h1 : p.1 ≤ x.1) (h2 : x.1 ≤ p.2 + 1) (c : Int) :
    HasR (o ++ [(p.1, max p.2 x.2)]) c ↔ HasR (o ++ [p]) c ∨ HasR [x] c := by
  rw [has_append, has_append, has_one, has_one, has_one]
  simp only
  constructor
  · rintro (h | ⟨g1, g2, g3, g4⟩)
    · exact .inl (.inl h)
    · by_cases hc : c ≤ p.2
      · exact .inl (.inr ⟨g1, g2, g3, hc⟩)
      · exact .inr ⟨g1, g2, by omega, by omega⟩
  · rintro ((h | ⟨g1, g2, g3, g4⟩) | ⟨g1, g2, g3, g4⟩)
    · exact .inl h
    · exact .inr ⟨g1, g2, g3, by omega⟩
    · exact .inr ⟨g1, g2, by omega, by omega⟩
/-- A range that doesn't touch the last one stands behind it. -/
theorem put_right (o : List (Int × Int)) (p x : Int × Int) (h : RightR (o ++ [p])) (hx : Fit x) (h2 : p.2 + 1 < x.1) : RightR (o ++ [p] ++ [x]) := by
  refine (right_append _ _ _).2 ⟨h, ?_⟩
  rw [end_append]
  exact ⟨by omega, hx.2.1, hx.2.2, trivial⟩
theorem one_right (x : Int × Int) (hx : Fit x) : RightR [x] := ⟨hx.1, hx.2.1, hx.2.2, trivial⟩
theorem right_fit : ∀ (l : List (Int × Int)) (lo : Int), 0 ≤ lo → RightFrom lo l → ∀ r ∈ l, Fit r
  | [], _, _, _, r, hr => by simp at hr
  | q :: l, lo, h0, ⟨h1, h2, h3, h4⟩, r, hr => by
    rcases List.mem_cons.1 hr with rfl | hr
    · exact ⟨by omega, h2, h3⟩
    · exact right_fit l (q.2 + 2) (by omega) h4 r hr
end Go.Proofs.Ytnemacejaiifnaa
/- Plain mathematics of programs: which instructions are right, and to which one comes from some: a walk with a stack. No condition. -/
namespace Go.Proofs.Ytnemacejaiifnaa

/-- An instruction. -/
structure Ins where
  op : Int
  out : Int
  arg : Int
  set : List (Int × Int)
  at' : Int
/-- A program. -/
structure Pg where
  ins : List Ins
  start : Int
  caps : Int
def PlaceI (n : Nat) (x : Int) : Prop := 0 ≤ x ∧ x < n
def AtOk (x : Int) : Prop := x = 1 ∨ x = 2 ∨ x = 4 ∨ x = 8 ∨ x = 16 ∨ x = 32
instance (n : Nat) (x : Int) : Decidable (PlaceI n x) := inferInstanceAs (Decidable (_ ∧ _))
/-- An instruction of a program is as it must be. -/
def SoundI (n : Nat) (caps : Int) (x : Ins) : Prop :=
  ((x.op = 1 ∨ x.op = 6) ∧ x.out = 0 ∧ x.arg = 0 ∧ x.set = [] ∧ x.at' = 0) ∨
  (x.op = 2 ∧ PlaceI n x.out ∧ x.arg = 0 ∧ (x.set ≠ [] ∧ RightR x.set) ∧ x.at' = 0) ∨
  (x.op = 3 ∧ PlaceI n x.out ∧ PlaceI n x.arg ∧ x.set = [] ∧ x.at' = 0) ∨
  (x.op = 4 ∧ PlaceI n x.out ∧ (2 ≤ x.arg ∧ x.arg < caps) ∧ x.set = [] ∧ x.at' = 0) ∨
  (x.op = 5 ∧ PlaceI n x.out ∧ x.arg = 0 ∧ x.set = [] ∧ AtOk x.at')
def RightPg (p : Pg) : Prop :=
  1 ≤ p.ins.length ∧ p.ins.length ≤ 10000 ∧ PlaceI p.ins.length p.start ∧ 2 ≤ p.caps ∧ p.caps ≤ 4002 ∧ p.caps % 2 = 0 ∧ ∀ x ∈ p.ins, SoundI p.ins.length p.caps x

/-- What has been come to, what reads, is a match come to. -/
structure Wk where
  seen : List Bool
  out : List Nat
  hit : Bool
/-- To which an instruction leads on; meets: is its At in what the place is? -/
def nextI (meets : Int → Bool) (x : Ins) : List Nat :=
  if x.op = 3 then [x.out.toNat, x.arg.toNat] else if x.op = 4 then [x.out.toNat] else if x.op = 5 then (if meets x.at' = true then [x.out.toNat] else []) else []
def visitI (pc : Nat) (x : Ins) (s : Wk) : Wk := ⟨s.seen.set pc true, if x.op = 2 then s.out ++ [pc] else s.out, s.hit || decide (x.op = 1)⟩
def zeroI : Ins := ⟨6, 0, 0, [], 0⟩
def atI (I : List Ins) (pc : Nat) : Ins := I.getD pc zeroI
theorem next_two (meets : Int → Bool) (x : Ins) : (nextI meets x).length ≤ 2 := by
  unfold nextI
  split
  · simp
  · split
    · simp
    · split
      · split <;> simp
      · simp
def newI (s : Wk) (pc : Nat) : Bool := !(s.seen.getD pc true)
def leftI (s : Wk) : Nat := s.seen.count false
theorem count_set : ∀ (l : List Bool) (pc : Nat), l.getD pc true = false → (l.set pc true).count false + 1 = l.count false
  | [], pc, h => by simp at h
  | b :: l, 0, h => by
    simp at h
    subst h
    simp
  | b :: l, pc + 1, h => by
    have ih := count_set l pc (by simpa using h)
    simp only [List.set_cons_succ, List.count_cons]
    omega
theorem left_visit (s : Wk) (pc : Nat) (x : Ins) (h : newI s pc = true) : leftI (visitI pc x s) + 1 = leftI s := by
  unfold leftI visitI
  exact count_set _ _ (by simpa [newI] using h)
/-- The walk: the next one first. -/
def walkI (meets : Int → Bool) (long : Bool) (I : List Ins) (st : List Nat) (s : Wk) : Wk :=
  match st with
  | [] => s
  | pc :: st =>
    if h : newI s pc = true ∧ (s.hit = true → long = true) then walkI meets long I (nextI meets (atI I pc) ++ st) (visitI pc (atI I pc) s)
    else walkI meets long I st s
termination_by 2 * leftI s + st.length
decreasing_by
  · have h1 := left_visit s pc (atI I pc) h.1
    have h2 := next_two meets (atI I pc)
    simp only [List.length_append, List.length_cons]
    omega
  · simp only [List.length_cons]
    omega
section
variable {meets : Int → Bool} {long : Bool} {I : List Ins}
theorem walk_nil (s : Wk) : walkI meets long I [] s = s := by rw [walkI]
theorem walk_old {s : Wk} {pc : Nat} (st : List Nat) (h : newI s pc = false) : walkI meets long I (pc :: st) s = walkI meets long I st s := by
  rw [walkI, dif_neg (by simp [h])]
theorem walk_new {s : Wk} {pc : Nat} (st : List Nat) (h : newI s pc = true) (hl : s.hit = true → long = true) :
    walkI meets long I (pc :: st) s = walkI meets long I (nextI meets (atI I pc) ++ st) (visitI pc (atI I pc) s) := by
  rw [walkI, dif_pos ⟨h, hl⟩]
theorem walk_stop {s : Wk} (hh : s.hit = true) (hl : long = false) : ∀ st : List Nat, walkI meets long I st s = s
  | [] => walk_nil s
  | pc :: st => by
    rw [walkI, dif_neg (by simp [hh, hl])]
    exact walk_stop hh hl st
/-- What holds at the beginning and is kept by each step holds at the end. -/
theorem walk_keep (Q : List Nat → Wk → Prop) (R : Wk → Prop) (h0 : ∀ s, Q [] s → R s)
    (hold : ∀ pc st s, Q (pc :: st) s → (newI s pc = false ∨ (s.hit = true ∧ long = false)) → Q st s)
    (hnew : ∀ pc st s, Q (pc :: st) s → newI s pc = true → (s.hit = true → long = true) → Q (nextI meets (atI I pc) ++ st) (visitI pc (atI I pc) s)) :
    ∀ (n : Nat) (st : List Nat) (s : Wk), 2 * leftI s + st.length = n → Q st s → R (walkI meets long I st s) := by
  intro n
  induction n using Nat.strongRecOn with
  | _ n ih =>
    intro st s hn hq
    rcases st with _ | ⟨pc, st⟩
    · rw [walk_nil]
      exact h0 s hq
    · by_cases h : newI s pc = true ∧ (s.hit = true → long = true)
      · rw [walk_new st h.1 h.2]
        have h1 := left_visit s pc (atI I pc) h.1
        have h2 := next_two meets (atI I pc)
        refine ih _ ?_ _ _ rfl (hnew pc st s hq h.1 h.2)
        subst hn
        simp only [List.length_append, List.length_cons]
        omega
      · rw [walkI, dif_neg h]
        refine ih _ ?_ _ _ rfl (hold pc st s hq ?_)
        · subst hn
          simp only [List.length_cons]
          omega
        · by_cases hb : newI s pc = true
          · right
            have : ¬ (s.hit = true → long = true) := fun hl => h ⟨hb, hl⟩
            by_cases hh : s.hit = true
            · refine ⟨hh, ?_⟩
              cases long
              · rfl
              · exact absurd (fun _ => rfl) this
            · exact absurd (fun hh' => absurd hh' hh) this
          · exact .inl (by simpa using hb)
theorem walk_append (a b : List Nat) (s : Wk) : walkI meets long I (a ++ b) s = walkI meets long I b (walkI meets long I a s) := by
  refine walk_keep (meets := meets) (long := long) (I := I) (fun st t => walkI meets long I (st ++ b) t = walkI meets long I (a ++ b) s) (fun t => walkI meets long I (a ++ b) s = walkI meets long I b t) ?_ ?_ ?_ _ a s rfl rfl
  · intro t ht
    exact ht.symm
  · intro pc st t ht ho
    rw [← ht]
    rcases ho with ho | ⟨h1, h2⟩
    · rw [List.cons_append, walk_old _ ho]
    · rw [walk_stop h1 h2, walk_stop h1 h2]
  · intro pc st t ht hn hl
    rw [← ht, List.cons_append, walk_new _ hn hl, List.append_assoc]
theorem walk_len (st : List Nat) (s : Wk) : (walkI meets long I st s).seen.length = s.seen.length := by
  refine walk_keep (meets := meets) (long := long) (I := I) (fun _ t => t.seen.length = s.seen.length) (fun t => t.seen.length = s.seen.length) (fun _ h => h) (fun _ _ _ h _ => h) ?_ _ st s rfl rfl
  intro pc st t ht _ _
  simpa [visitI] using ht
/-- The beginning: nothing is come to. -/
def wk0 (n : Nat) : Wk := ⟨List.replicate n false, [], false⟩
/-- What some lead to. -/
def closeI (meets : Int → Bool) (long : Bool) (I : List Ins) (pcs : List Nat) : Wk := walkI meets long I pcs (wk0 I.length)
/-- What reads is just what has been come to and is an InstSet, each once; what has been come to lies in the program; a match is come to if one has been. -/
def FineW (I : List Ins) (s : Wk) : Prop :=
  s.seen.length = I.length ∧ s.out.Nodup ∧ (∀ i, i ∈ s.out ↔ i < I.length ∧ newI s i = false ∧ (atI I i).op = 2) ∧ (s.hit = true ↔ ∃ i, i < I.length ∧ newI s i = false ∧ (atI I i).op = 1)
theorem new_visit (s : Wk) (pc : Nat) (x : Ins) (i : Nat) : newI (visitI pc x s) i = (newI s i && decide (i ≠ pc)) := by
  unfold newI visitI
  simp only [List.getD_eq_getElem?_getD, List.getElem?_set]
  by_cases h : pc = i
  · subst h
    simp
    split <;> simp
  · rw [if_neg h]
    have : (i ≠ pc) := fun e => h e.symm
    simp [this]
theorem fine_zero (I : List Ins) : FineW I (wk0 I.length) := by
  refine ⟨by simp [wk0], by simp [wk0], fun i => ?_, ?_⟩
  · simp only [wk0, List.not_mem_nil, false_iff]
    rintro ⟨h1, h2, _⟩
    simp [newI, h1] at h2
  · simp only [wk0, Bool.false_eq_true, false_iff]
    rintro ⟨i, h1, h2, _⟩
    simp [newI, h1] at h2
theorem new_lt {s : Wk} {pc : Nat} (h : newI s pc = true) : pc < s.seen.length := by
  unfold newI at h
  rcases Nat.lt_or_ge pc s.seen.length with h1 | h1
  · exact h1
  · simp [List.getElem?_eq_none h1] at h
theorem fine_visit {I : List Ins} {s : Wk} {pc : Nat} (h : FineW I s) (hn : newI s pc = true) : FineW I (visitI pc (atI I pc) s) := by
  have hlt := new_lt hn
  obtain ⟨h1, h2, h3, h4⟩ := h
  have hno : pc ∉ s.out := fun hm => by
    have := (h3 pc).1 hm
    rw [hn] at this
    simp at this
  refine ⟨by simpa [visitI] using h1, ?_, fun i => ?_, ?_⟩
  · simp only [visitI]
    split
    · rw [List.nodup_append]
      refine ⟨h2, by simp, fun a ha b hb => ?_⟩
      have : b = pc := by simpa using hb
      subst this
      rintro rfl
      exact hno ha
    · exact h2
  · rw [new_visit]
    have h5 := h3 i
    by_cases hi : i = pc
    · subst hi
      simp only [visitI]
      by_cases ho : (atI I i).op = 2
      · rw [if_pos ho]
        simp [ho]
        omega
      · rw [if_neg ho]
        simp [ho, hno]
    · have : (i ∈ (visitI pc (atI I pc) s).out) ↔ i ∈ s.out := by
        simp only [visitI]
        split
        · simp [hi]
        · rfl
      rw [this, h5]
      simp [hi]
  · simp only [visitI, Bool.or_eq_true, decide_eq_true_eq, h4]
    constructor
    · rintro (⟨i, g1, g2, g3⟩ | g)
      · refine ⟨i, g1, ?_, g3⟩
        have := new_visit s pc (atI I pc) i
        rw [show newI { seen := s.seen.set pc true, out := if (atI I pc).op = 2 then s.out ++ [pc] else s.out, hit := s.hit || decide ((atI I pc).op = 1) } i = newI (visitI pc (atI I pc) s) i from rfl, this, g2]
        rfl
      · refine ⟨pc, by omega, ?_, g⟩
        have := new_visit s pc (atI I pc) pc
        rw [show newI { seen := s.seen.set pc true, out := if (atI I pc).op = 2 then s.out ++ [pc] else s.out, hit := s.hit || decide ((atI I pc).op = 1) } pc = newI (visitI pc (atI I pc) s) pc from rfl, this]
        simp
    · rintro ⟨i, g1, g2, g3⟩
      have := new_visit s pc (atI I pc) i
      rw [show newI { seen := s.seen.set pc true, out := if (atI I pc).op = 2 then s.out ++ [pc] else s.out, hit := s.hit || decide ((atI I pc).op = 1) } i = newI (visitI pc (atI I pc) s) i from rfl, this] at g2
      by_cases hi : i = pc
      · subst hi
        exact .inr g3
      · exact .inl ⟨i, g1, by simpa [hi] using g2, g3⟩
theorem fine_walk (st : List Nat) (s : Wk) (h : FineW I s) : FineW I (walkI meets long I st s) :=
  walk_keep (meets := meets) (long := long) (I := I) (fun _ t => FineW I t) (fun t => FineW I t) (fun _ h => h) (fun _ _ _ h _ => h) (fun _ _ _ h hn _ => fine_visit h hn) _ st s rfl h
/-- What has been come to is come to behind. -/
theorem walk_more (st : List Nat) (s : Wk) (i : Nat) (h : newI s i = false) : newI (walkI meets long I st s) i = false :=
  walk_keep (meets := meets) (long := long) (I := I) (fun _ t => newI t i = false) (fun t => newI t i = false) (fun _ h => h) (fun _ _ _ h _ => h) (fun _ _ _ h hn _ => by rw [new_visit, h]; rfl) _ st s rfl h
/-- With longest all from which one goes is come to, and what it leads to. -/
theorem walk_closed (S : List Nat) (S0 : Wk) : ∀ i, newI (walkI meets true I S S0) i = false → newI S0 i = false ∨ ∀ k ∈ nextI meets (atI I i), newI (walkI meets true I S S0) k = false := by
  refine walk_keep (meets := meets) (long := true) (I := I) (fun st t => ∀ i, newI t i = false → newI S0 i = false ∨ ∀ k ∈ nextI meets (atI I i), newI t k = false ∨ k ∈ st) (fun t => ∀ i, newI t i = false → newI S0 i = false ∨ ∀ k ∈ nextI meets (atI I i), newI t k = false) ?_ ?_ ?_ _ S S0 rfl (fun i h => .inl h)
  · intro t h i hi
    rcases h i hi with h1 | h1
    · exact .inl h1
    · exact .inr fun k hk => (h1 k hk).resolve_right (by simp)
  · intro pc st t h ho i hi
    rcases h i hi with h1 | h1
    · exact .inl h1
    · refine .inr fun k hk => ?_
      rcases h1 k hk with h2 | h2
      · exact .inl h2
      · rcases List.mem_cons.1 h2 with rfl | h2
        · rcases ho with ho | ⟨_, ho⟩
          · exact .inl ho
          · simp at ho
        · exact .inr h2
  · intro pc st t h hn hl i hi
    rw [new_visit] at hi
    by_cases e : i = pc
    · subst e
      exact .inr fun k hk => .inr (List.mem_append_left _ hk)
    · have hi' : newI t i = false := by simpa [e] using hi
      rcases h i hi' with h1 | h1
      · exact .inl h1
      · refine .inr fun k hk => ?_
        rcases h1 k hk with h2 | h2
        · left
          rw [new_visit, h2]
          rfl
        · rcases List.mem_cons.1 h2 with rfl | h2
          · left
            rw [new_visit]
            simp
          · exact .inr (List.mem_append_right _ h2)
theorem walk_all (S : List Nat) (S0 : Wk) : ∀ i ∈ S, newI (walkI meets true I S S0) i = false := by
  intro i hi
  refine walk_keep (meets := meets) (long := true) (I := I) (fun st t => newI t i = false ∨ i ∈ st) (fun t => newI t i = false) (fun t h => h.resolve_right (by simp)) ?_ ?_ _ S S0 rfl (.inr hi)
  · intro pc st t h ho
    rcases h with h | h
    · exact .inl h
    · rcases List.mem_cons.1 h with rfl | h
      · rcases ho with ho | ⟨_, ho⟩
        · exact .inl ho
        · simp at ho
      · exact .inr h
  · intro pc st t h hn hl
    rcases h with h | h
    · left
      rw [new_visit, h]
      rfl
    · rcases List.mem_cons.1 h with rfl | h
      · left
        rw [new_visit]
        simp
      · exact .inr (List.mem_append_right _ h)
/-- No more is come to than what is in any set from which nothing leads out. -/
theorem walk_least (M : Nat → Prop) (hM : ∀ i, M i → ∀ k ∈ nextI meets (atI I i), M k) (S : List Nat) (S0 : Wk) (hS : ∀ i ∈ S, M i) (h0 : ∀ i, i < S0.seen.length → newI S0 i = false → M i) :
    ∀ i, i < S0.seen.length → newI (walkI meets long I S S0) i = false → M i := by
  refine walk_keep (meets := meets) (long := long) (I := I) (fun st t => t.seen.length = S0.seen.length ∧ (∀ i ∈ st, M i) ∧ ∀ i, i < S0.seen.length → newI t i = false → M i) (fun t => ∀ i, i < S0.seen.length → newI t i = false → M i) (fun t h => h.2.2) ?_ ?_ _ S S0 rfl ⟨rfl, hS, h0⟩
  · rintro pc st t ⟨h1, h2, h3⟩ _
    exact ⟨h1, fun i hi => h2 i (List.mem_cons_of_mem _ hi), h3⟩
  · rintro pc st t ⟨h1, h2, h3⟩ hn _
    have hp := h2 pc (List.mem_cons_self ..)
    refine ⟨by simpa [visitI] using h1, fun i hi => ?_, fun i hi hi2 => ?_⟩
    · rcases List.mem_append.1 hi with hi | hi
      · exact hM pc hp i hi
      · exact h2 i (List.mem_cons_of_mem _ hi)
    · rw [new_visit] at hi2
      by_cases e : i = pc
      · subst e
        exact hp
      · exact h3 i hi (by simpa [e] using hi2)
/-- Without longest the walk is a beginning of what it is with it. -/
theorem walk_short (S : List Nat) (S0 : Wk) (h0 : S0.hit = false) :
    ∃ e, (walkI meets true I S S0).out = (walkI meets false I S S0).out ++ e ∧ (walkI meets true I S S0).hit = (walkI meets false I S S0).hit ∧ ((walkI meets false I S S0).hit = false → e = []) := by
  have grow : ∀ (S : List Nat) (t : Wk), ∃ e, (walkI meets true I S t).out = t.out ++ e ∧ (t.hit = true → (walkI meets true I S t).hit = true) := by
    intro S t
    refine walk_keep (meets := meets) (long := true) (I := I) (fun _ u => ∃ e, u.out = t.out ++ e ∧ (t.hit = true → u.hit = true)) (fun u => ∃ e, u.out = t.out ++ e ∧ (t.hit = true → u.hit = true)) (fun _ h => h) (fun _ _ _ h _ => h) ?_ _ S t rfl ⟨[], by simp, fun h => h⟩
    rintro pc st u ⟨e, h1, h2⟩ _ _
    refine ⟨if (atI I pc).op = 2 then e ++ [pc] else e, ?_, fun h => by simp [visitI, h2 h]⟩
    simp only [visitI]
    split
    · rw [h1, List.append_assoc]
    · exact h1
  refine walk_keep (meets := meets) (long := false) (I := I)
    (fun st t => (t.hit = false ∧ walkI meets true I S S0 = walkI meets true I st t) ∨ (t.hit = true ∧ ∃ e, (walkI meets true I S S0).out = t.out ++ e ∧ (walkI meets true I S S0).hit = true))
    (fun t => ∃ e, (walkI meets true I S S0).out = t.out ++ e ∧ (walkI meets true I S S0).hit = t.hit ∧ (t.hit = false → e = [])) ?_ ?_ ?_ _ S S0 rfl (.inl ⟨h0, rfl⟩)
  · rintro t (⟨h1, h2⟩ | ⟨h1, e, h2, h3⟩)
    · rw [h2, walk_nil]
      exact ⟨[], by simp, rfl, fun _ => rfl⟩
    · exact ⟨e, h2, by rw [h1, h3], fun h => by rw [h1] at h; cases h⟩
  · rintro pc st t (⟨h1, h2⟩ | h) ho
    · rcases ho with ho | ⟨ho, _⟩
      · refine .inl ⟨h1, ?_⟩
        rw [h2, walk_old _ ho]
      · rw [h1] at ho
        cases ho
    · exact .inr h
  · rintro pc st t (⟨h1, h2⟩ | ⟨h1, _⟩) hn hl
    · have h3 := walk_new (meets := meets) (long := true) (I := I) st hn (fun _ => rfl)
      rw [← h2] at h3
      by_cases hm : (atI I pc).op = 1
      · right
        have hv : (visitI pc (atI I pc) t).hit = true := by simp [visitI, hm]
        obtain ⟨e, g1, g2⟩ := grow (nextI meets (atI I pc) ++ st) (visitI pc (atI I pc) t)
        refine ⟨hv, e, ?_, ?_⟩
        · rw [h3, g1]
        · rw [h3]
          exact g2 hv
      · left
        exact ⟨by simp [visitI, hm, h1], h3⟩
    · have := hl h1
      cases this
/-- From what reads alone, each once, nothing else is come to. -/
theorem walk_sets : ∀ (st : List Nat) (s : Wk), (∀ i ∈ st, (atI I i).op = 2 ∧ newI s i = true) → st.Nodup → s.hit = false →
    (walkI meets long I st s).out = s.out ++ st ∧ (walkI meets long I st s).hit = false
  | [], s, _, _, hh => by rw [walk_nil]; simp [hh]
  | pc :: st, s, h, hd, hh => by
    obtain ⟨h1, h2⟩ := h pc (List.mem_cons_self ..)
    have hd' := List.nodup_cons.1 hd
    have hnx : nextI meets (atI I pc) = [] := by simp [nextI, h1]
    rw [walk_new st h2 (fun e => by rw [hh] at e; cases e), hnx, List.nil_append]
    have := walk_sets st (visitI pc (atI I pc) s) (fun i hi => ⟨(h i (List.mem_cons_of_mem _ hi)).1, by
      rw [new_visit, (h i (List.mem_cons_of_mem _ hi)).2]
      have : i ≠ pc := fun e => hd'.1 (e ▸ hi)
      simp [this]⟩) hd'.2 (by simp [visitI, hh, h1])
    rw [this.1, this.2]
    simp [visitI, h1]
end
/-- Closure of what Closure told is that, and no match. -/
theorem close_twice (meets : Int → Bool) (long long' : Bool) (I : List Ins) (pcs : List Nat) :
    (closeI meets long' I (closeI meets long I pcs).out).out = (closeI meets long I pcs).out ∧ (closeI meets long' I (closeI meets long I pcs).out).hit = false := by
  obtain ⟨h1, h2, h3, h4⟩ := fine_walk (meets := meets) (long := long) pcs (wk0 I.length) (fine_zero I)
  have := walk_sets (meets := meets) (long := long') (I := I) (closeI meets long I pcs).out (wk0 I.length) (fun i hi => ?_) h2 rfl
  · refine ⟨?_, this.2⟩
    unfold closeI at this ⊢
    rw [this.1]
    rfl
  · obtain ⟨g1, g2, g3⟩ := (h3 i).1 hi
    exact ⟨g3, by simp [newI, wk0, g1]⟩
/-- Two lists of instructions: what one comes to from both. -/
theorem close_both (meets : Int → Bool) (I : List Ins) (a b : List Nat) :
    (∃ e, (closeI meets true I (a ++ b)).out = (closeI meets true I a).out ++ e) ∧ (closeI meets true I (a ++ b)).out.Nodup ∧
    (∀ i, i ∈ (closeI meets true I (a ++ b)).out ↔ i ∈ (closeI meets true I a).out ∨ i ∈ (closeI meets true I b).out) ∧
    ((closeI meets true I (a ++ b)).hit = ((closeI meets true I a).hit || (closeI meets true I b).hit)) := by
  have F : ∀ st, FineW I (closeI meets true I st) := fun st => fine_walk st _ (fine_zero I)
  have L0 : (wk0 I.length).seen.length = I.length := by simp [wk0]
  have N0 : ∀ i, i < I.length → newI (wk0 I.length) i = true := fun i hi => by simp [newI, wk0, hi]
  have key : ∀ i, i < I.length → (newI (closeI meets true I (a ++ b)) i = false ↔ newI (closeI meets true I a) i = false ∨ newI (closeI meets true I b) i = false) := by
    intro i hi
    have high : ∀ (s : Wk), s.seen.length = I.length → ∀ k, ¬ k < I.length → newI s k = false := fun s hs k hk => by
      simp [newI, List.getElem?_eq_none (show s.seen.length ≤ k by omega)]
    have closed : ∀ st k, newI (closeI meets true I st) k = false → k < I.length → ∀ j ∈ nextI meets (atI I k), newI (closeI meets true I st) j = false := fun st k hk hlt => by
      rcases walk_closed (meets := meets) (I := I) st (wk0 I.length) k hk with h | h
      · rw [N0 k hlt] at h
        cases h
      · exact h
    have nx : ∀ k, ¬ k < I.length → nextI meets (atI I k) = [] := fun k hk => by
      have : atI I k = zeroI := by simp [atI, List.getElem?_eq_none (show I.length ≤ k by omega)]
      rw [this]
      rfl
    constructor
    · intro h
      refine walk_least (meets := meets) (long := true) (I := I) (fun k => newI (closeI meets true I a) k = false ∨ newI (closeI meets true I b) k = false) ?_ (a ++ b) (wk0 I.length) ?_ ?_ i (by rw [L0]; exact hi) h
      · intro k hk j hj
        by_cases hlt : k < I.length
        · rcases hk with hk | hk
          · exact .inl (closed a k hk hlt j hj)
          · exact .inr (closed b k hk hlt j hj)
        · rw [nx k hlt] at hj
          simp at hj
      · intro k hk
        rcases List.mem_append.1 hk with hk | hk
        · exact .inl (walk_all a _ k hk)
        · exact .inr (walk_all b _ k hk)
      · intro k hk hk2
        rw [N0 k (by rw [← L0]; exact hk)] at hk2
        cases hk2
    · have sub : ∀ st, (∀ k ∈ st, k ∈ a ++ b) → newI (closeI meets true I st) i = false → newI (closeI meets true I (a ++ b)) i = false := by
        intro st hst h
        refine walk_least (meets := meets) (long := true) (I := I) (fun k => newI (closeI meets true I (a ++ b)) k = false) ?_ st (wk0 I.length) ?_ ?_ i (by rw [L0]; exact hi) h
        · intro k hk j hj
          by_cases hlt : k < I.length
          · exact closed _ k hk hlt j hj
          · rw [nx k hlt] at hj
            simp at hj
        · intro k hk
          exact walk_all (a ++ b) _ k (hst k hk)
        · intro k hk hk2
          rw [N0 k (by rw [← L0]; exact hk)] at hk2
          cases hk2
      rintro (h | h)
      · exact sub a (fun k hk => List.mem_append_left _ hk) h
      · exact sub b (fun k hk => List.mem_append_right _ hk) h
  refine ⟨?_, (F _).2.1, fun i => ?_, ?_⟩
  · have : closeI meets true I (a ++ b) = walkI meets true I b (closeI meets true I a) := walk_append a b _
    rw [this]
    generalize closeI meets true I a = t
    refine walk_keep (meets := meets) (long := true) (I := I) (fun _ u => ∃ e, u.out = t.out ++ e) (fun u => ∃ e, u.out = t.out ++ e) (fun _ h => h) (fun _ _ _ h _ => h) ?_ _ b t rfl ⟨[], by simp⟩
    rintro pc st u ⟨e, h1⟩ _ _
    refine ⟨if (atI I pc).op = 2 then e ++ [pc] else e, ?_⟩
    simp only [visitI]
    split
    · rw [h1, List.append_assoc]
    · exact h1
  · rw [(F _).2.2.1, (F _).2.2.1, (F _).2.2.1]
    constructor
    · rintro ⟨h1, h2, h3⟩
      rcases (key i h1).1 h2 with h | h
      · exact .inl ⟨h1, h, h3⟩
      · exact .inr ⟨h1, h, h3⟩
    · rintro (⟨h1, h2, h3⟩ | ⟨h1, h2, h3⟩)
      · exact ⟨h1, (key i h1).2 (.inl h2), h3⟩
      · exact ⟨h1, (key i h1).2 (.inr h2), h3⟩
  · rw [Bool.eq_iff_iff, Bool.or_eq_true, (F _).2.2.2, (F _).2.2.2, (F _).2.2.2]
    constructor
    · rintro ⟨i, h1, h2, h3⟩
      rcases (key i h1).1 h2 with h | h
      · exact .inl ⟨i, h1, h, h3⟩
      · exact .inr ⟨i, h1, h, h3⟩
    · rintro (⟨i, h1, h2, h3⟩ | ⟨i, h1, h2, h3⟩)
      · exact ⟨i, h1, (key i h1).2 (.inl h2), h3⟩
      · exact ⟨i, h1, (key i h1).2 (.inr h2), h3⟩
end Go.Proofs.Ytnemacejaiifnaa
