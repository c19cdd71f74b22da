/- Texts merged by program: CoMath, TrRight, TrTop, TrEmpty, SmSpec, SyParts, SmParts, SmBounds. No condition. -/
import Derived.Test.YthffdmncdoogpaaK1
import Derived.Test.YthffdmncdoogpaaK6
import Derived.Test.YthffdmncdoogpaaK7
import Derived.Test.YthffdmncdoogpaaK5
set_option linter.unusedVariables false
/- Plain mathematics of compile: a tree's code leading to a place, how many instructions it has, and what holds of each of them. No condition. -/
namespace Go.Proofs.Ythffdmncdoogpaa

/-- No counted repeat is in it. -/
def NoRep : Tr → Prop := Tr.para fun t l => t.fld.op ≠ 10 ∧ ∀ p ∈ l, p
theorem noRep_iff (t : Tr) : NoRep t ↔ t.fld.op ≠ 10 ∧ ∀ k ∈ t.kids, NoRep k := by
  unfold NoRep
  rw [Tr.para_eq]
  simp only [List.mem_map, forall_exists_index, and_imp, forall_apply_eq_imp_iff₂]
/-- How many instructions are no Kid's. -/
def ownN (g : Int) (f : Fld) (m : Nat) : Nat :=
  if f.op = 2 ∨ f.op = 11 then 0 else if f.op = 6 then (if f.cap ≤ g then 2 else 0) else if f.op = 12 then m - 1 else 1
def sizeT (g : Int) : Tr → Nat := Tr.para fun t l => ownN g t.fld t.kids.length + l.sum
theorem sizeT_eq (g : Int) (t : Tr) : sizeT g t = ownN g t.fld t.kids.length + (t.kids.map (sizeT g)).sum := Tr.para_eq _ t

/-- How many nodes a tree has. -/
def nodesR : Tr → Nat := Tr.para fun _ l => 1 + l.sum
theorem nodesR_eq (t : Tr) : nodesR t = 1 + (t.kids.map nodesR).sum := Tr.para_eq _ t
theorem nodesR_pos (t : Tr) : 1 ≤ nodesR t := by rw [nodesR_eq]; omega
theorem nodesR_kids (t : Tr) : ∀ k ∈ t.kids, nodesR k + t.kids.length ≤ nodesR t := by
  have h : ∀ l : List Tr, ∀ k ∈ l, nodesR k + l.length ≤ 1 + (l.map nodesR).sum := by
    intro l
    induction l with
    | nil => intro k hk; cases hk
    | cons x l ih =>
      intro k hk
      have hx := nodesR_pos x
      have hl : l.length ≤ (l.map nodesR).sum := by
        clear ih hk
        induction l with
        | nil => simp
        | cons y l ih => have := nodesR_pos y; simp; omega
      simp only [List.map_cons, List.sum_cons, List.length_cons]
      rcases List.mem_cons.1 hk with rfl | hk
      · omega
      · have := ih k hk
        omega
  intro k hk
  rw [nodesR_eq t]
  exact h _ k hk
theorem nodesR_len (t : Tr) : t.kids.length < nodesR t := by
  rw [nodesR_eq t]
  have h : ∀ l : List Tr, l.length ≤ (l.map nodesR).sum := by
    intro l
    induction l with
    | nil => simp
    | cons y l ih => have := nodesR_pos y; simp; omega
  have := h t.kids
  omega
theorem nodesR_parts (t : Tr) : nodesR t ≤ partsR t := by
  refine Tr.ind (P := fun t => nodesR t ≤ partsR t) (fun t ih => ?_) t
  rw [nodesR_eq, partsR_eq]
  have h : ∀ l : List Tr, (∀ k ∈ l, nodesR k ≤ partsR k) → (l.map nodesR).sum ≤ (l.map partsR).sum := by
    intro l
    induction l with
    | nil => intro _; simp
    | cons y l ih =>
      intro h
      have h1 := h y (by simp)
      have h2 := ih fun k hk => h k (by simp [hk])
      simp
      omega
  have := h t.kids ih
  omega
theorem sizeT_kid (g : Int) (t : Tr) : ∀ k ∈ t.kids, sizeT g k ≤ sizeT g t := by
  intro k hk
  rw [sizeT_eq g t]
  have h : ∀ l : List Tr, k ∈ l → sizeT g k ≤ (l.map (sizeT g)).sum := by
    intro l
    induction l with
    | nil => intro h; cases h
    | cons y l ih =>
      intro h
      simp only [List.map_cons, List.sum_cons]
      rcases List.mem_cons.1 h with rfl | h
      · omega
      · have := ih h
        omega
  have := h _ hk
  omega

abbrev Coder := Nat → List Ins → Nat × List Ins
def altI (more stop : Nat) (lazy : Bool) : Ins := ⟨3, if lazy then stop else more, if lazy then more else stop, [], 0⟩
def rowC : List Coder → Coder
  | [], k, L => (k, L)
  | c :: cs, k, L => c (rowC cs k L).1 (rowC cs k L).2
def eachC : List Coder → Nat → List Ins → List Nat × List Ins
  | [], _, L => ([], L)
  | c :: cs, k, L => ((c k L).1 :: (eachC cs k (c k L).2).1, (eachC cs k (c k L).2).2)
def chainC : List Nat → Coder
  | [], e, L => (e, L)
  | x :: xs, e, L => ((chainC xs e L).2.length, (chainC xs e L).2 ++ [⟨3, x, (chainC xs e L).1, [], 0⟩])
def choiceC (cs : List Coder) : Coder := fun k L => chainC (eachC cs k L).1.dropLast ((eachC cs k L).1.getLastD 0) (eachC cs k L).2
def idC : Coder := fun k L => (k, L)
/-- A loop's code, behind its Kid's. -/
def loopC (f : Fld) (c : Coder) : Coder := fun k L =>
  (if f.op = 8 then (c L.length (L ++ [⟨3, 0, 0, [], 0⟩])).1 else L.length, (c L.length (L ++ [⟨3, 0, 0, [], 0⟩])).2.set L.length (altI (c L.length (L ++ [⟨3, 0, 0, [], 0⟩])).1 k f.lazy))
def capC (f : Fld) (c : Coder) : Coder := fun k L =>
  ((c L.length (L ++ [⟨4, k, 2 * f.cap + 1, [], 0⟩])).2.length, (c L.length (L ++ [⟨4, k, 2 * f.cap + 1, [], 0⟩])).2 ++ [⟨4, (c L.length (L ++ [⟨4, k, 2 * f.cap + 1, [], 0⟩])).1, 2 * f.cap, [], 0⟩])
def questC (f : Fld) (c : Coder) : Coder := fun k L => ((c k L).2.length, (c k L).2 ++ [altI (c k L).1 k f.lazy])
def codeN (g : Int) (f : Fld) (cs : List Coder) : Coder := fun k L =>
  if f.op = 1 then (L.length, L ++ [⟨6, 0, 0, [], 0⟩]) else
  if f.op = 3 then (L.length, L ++ [⟨2, k, 0, [(f.rune, f.rune)], 0⟩]) else
  if f.op = 4 then (L.length, L ++ [⟨2, k, 0, f.set, 0⟩]) else
  if f.op = 5 then (L.length, L ++ [⟨5, k, 0, [], f.at'⟩]) else
  if f.op = 6 then (if f.cap ≤ g then capC f (cs.headD idC) k L else cs.headD idC k L) else
  if f.op = 7 ∨ f.op = 8 then loopC f (cs.headD idC) k L else
  if f.op = 9 then questC f (cs.headD idC) k L else
  if f.op = 11 then rowC cs k L else
  if f.op = 12 then choiceC cs k L else (k, L)
def codeT (g : Int) : Tr → Coder := Tr.para fun t cs => codeN g t.fld cs
theorem codeT_eq (g : Int) (t : Tr) : codeT g t = codeN g t.fld (t.kids.map (codeT g)) := Tr.para_eq _ t

/-- What a coder makes: so many more instructions; what stood there stays; where all that it puts is as it must be, so is all. -/
structure CodOk (n N : Nat) (S : Ins → Prop) (c : Coder) : Prop where
  len : ∀ k L, (c k L).2.length = L.length + n
  keep : ∀ k L i, i < L.length → (c k L).2[i]? = L[i]?
  all : ∀ k L, k < N → L.length + n ≤ N → (∀ x ∈ L, S x) → (c k L).1 < N ∧ ∀ x ∈ (c k L).2, S x
/-- What may be put. -/
structure PutOk (g : Int) (t : Tr) (N : Nat) (S : Ins → Prop) : Prop where
  fail : S ⟨6, 0, 0, [], 0⟩
  set : ∀ k s, k < N → RightR s → s ≠ [] → S ⟨2, (k : Nat), 0, s, 0⟩
  at' : ∀ k a, k < N → AtOk a → S ⟨5, (k : Nat), 0, [], a⟩
  alt : ∀ a b, a < N → b < N → S ⟨3, (a : Nat), (b : Nat), [], 0⟩
  cap : ∀ k, k < N → ∀ x ∈ groupsT t, x.fld.cap ≤ g → S ⟨4, (k : Nat), 2 * x.fld.cap, [], 0⟩ ∧ S ⟨4, (k : Nat), 2 * x.fld.cap + 1, [], 0⟩
theorem PutOk.kid {g : Int} {t k : Tr} {N : Nat} {S : Ins → Prop} (h : PutOk g t N S) (hk : k ∈ t.kids) : PutOk g k N S :=
  ⟨h.fail, h.set, h.at', h.alt, fun n hn x hx hc => h.cap n hn x (by
    rw [groupsT_eq, List.mem_append]
    exact .inr (List.mem_flatten.2 ⟨_, List.mem_map_of_mem hk, hx⟩)) hc⟩
theorem one_len {α : Type} (L : List α) (x : α) : (L ++ [x]).length = L.length + 1 := by simp
theorem one_keep {α : Type} (L : List α) (x : α) (i : Nat) (h : i < L.length) : (L ++ [x])[i]? = L[i]? := List.getElem?_append_left h
theorem one_all {S : Ins → Prop} {L : List Ins} {x : Ins} (h : ∀ y ∈ L, S y) (hx : S x) : ∀ y ∈ L ++ [x], S y := by
  intro y hy
  rcases List.mem_append.1 hy with hy | hy
  · exact h y hy
  · obtain rfl : y = x := by simpa using hy
    exact hx
theorem put_ok {N : Nat} {S : Ins → Prop} {x : Nat → Ins} (hx : ∀ k, k < N → S (x k)) : CodOk 1 N S fun k L => (L.length, L ++ [x k]) :=
  ⟨fun k L => one_len _ _, fun k L i hi => one_keep _ _ _ hi, fun k L hk hl h => ⟨by omega, one_all h (hx k hk)⟩⟩
theorem id_ok {N : Nat} {S : Ins → Prop} : CodOk 0 N S idC := ⟨fun k L => rfl, fun k L i hi => rfl, fun k L hk hl h => ⟨hk, h⟩⟩
theorem row_ok {N : Nat} {S : Ins → Prop} (z : Tr → Nat) (c : Tr → Coder) : ∀ (l : List Tr), (∀ x ∈ l, CodOk (z x) N S (c x)) → CodOk ((l.map z).sum) N S (rowC (l.map c))
  | [], _ => id_ok
  | x :: l, h => by
    have ih := row_ok z c l fun y hy => h y (by simp [hy])
    have hx := h x (by simp)
    refine ⟨fun k L => ?_, fun k L i hi => ?_, fun k L hk hl ha => ?_⟩
    · show (c x _ _).2.length = _
      rw [hx.len, ih.len]
      simp
      omega
    · show (c x _ _).2[i]? = _
      rw [hx.keep _ _ _ (by rw [ih.len]; omega), ih.keep _ _ _ hi]
    · have hs : ((x :: l).map z).sum = z x + (l.map z).sum := by simp
      obtain ⟨h1, h2⟩ := ih.all k L hk (by omega) ha
      exact hx.all _ _ h1 (by rw [ih.len]; omega) h2
structure EachOk (n m N : Nat) (S : Ins → Prop) (r : Nat → List Ins → List Nat × List Ins) : Prop where
  len : ∀ k L, (r k L).2.length = L.length + n
  many : ∀ k L, (r k L).1.length = m
  keep : ∀ k L i, i < L.length → (r k L).2[i]? = L[i]?
  all : ∀ k L, k < N → L.length + n ≤ N → (∀ x ∈ L, S x) → (∀ e ∈ (r k L).1, e < N) ∧ ∀ x ∈ (r k L).2, S x
theorem each_ok {N : Nat} {S : Ins → Prop} (z : Tr → Nat) (c : Tr → Coder) : ∀ (l : List Tr), (∀ x ∈ l, CodOk (z x) N S (c x)) → EachOk ((l.map z).sum) l.length N S (eachC (l.map c))
  | [], _ => ⟨fun k L => rfl, fun k L => rfl, fun k L i hi => rfl, fun k L hk hl h => ⟨by simp [eachC], h⟩⟩
  | x :: l, h => by
    have ih := each_ok z c l fun y hy => h y (by simp [hy])
    have hx := h x (by simp)
    have hs : ((x :: l).map z).sum = z x + (l.map z).sum := by simp
    refine ⟨fun k L => ?_, fun k L => ?_, fun k L i hi => ?_, fun k L hk hl ha => ?_⟩
    · show (eachC (l.map c) k (c x k L).2).2.length = _
      rw [ih.len, hx.len]
      omega
    · show ((c x k L).1 :: (eachC (l.map c) k (c x k L).2).1).length = _
      rw [List.length_cons, ih.many]
      rfl
    · show (eachC (l.map c) k (c x k L).2).2[i]? = _
      rw [ih.keep _ _ _ (by rw [hx.len]; omega), hx.keep _ _ _ hi]
    · obtain ⟨h1, h2⟩ := hx.all k L hk (by omega) ha
      obtain ⟨h3, h4⟩ := ih.all k (c x k L).2 hk (by rw [hx.len]; omega) h2
      refine ⟨fun e he => ?_, h4⟩
      rcases List.mem_cons.1 he with rfl | he
      · exact h1
      · exact h3 e he
theorem chain_len : ∀ (es : List Nat) (e : Nat) (L : List Ins), (chainC es e L).2.length = L.length + es.length
  | [], e, L => rfl
  | x :: es, e, L => by
    show ((chainC es e L).2 ++ [_]).length = _
    rw [one_len, chain_len es e L, List.length_cons]
    omega
theorem chain_keep : ∀ (es : List Nat) (e : Nat) (L : List Ins) (i : Nat), i < L.length → (chainC es e L).2[i]? = L[i]?
  | [], e, L, i, h => rfl
  | x :: es, e, L, i, h => by
    show ((chainC es e L).2 ++ [_])[i]? = _
    rw [one_keep _ _ _ (by rw [chain_len]; omega), chain_keep es e L i h]
theorem chain_all {N : Nat} {S : Ins → Prop} (hA : ∀ a b, a < N → b < N → S ⟨3, (a : Nat), (b : Nat), [], 0⟩) : ∀ (es : List Nat) (e : Nat) (L : List Ins), (∀ x ∈ es, x < N) → e < N → L.length + es.length ≤ N → (∀ x ∈ L, S x) → (chainC es e L).1 < N ∧ ∀ x ∈ (chainC es e L).2, S x
  | [], e, L, _, he, _, h => ⟨he, h⟩
  | x :: es, e, L, hs, he, hl, h => by
    rw [List.length_cons] at hl
    obtain ⟨h1, h2⟩ := chain_all hA es e L (fun y hy => hs y (by simp [hy])) he (by omega) h
    exact ⟨by show (chainC es e L).2.length < N; rw [chain_len]; omega, one_all h2 (hA _ _ (hs x (by simp)) h1)⟩
theorem choice_ok {n m N : Nat} {S : Ins → Prop} (hA : ∀ a b, a < N → b < N → S ⟨3, (a : Nat), (b : Nat), [], 0⟩) {cs : List Coder} (h : EachOk n m N S (eachC cs)) (hm : 1 ≤ m) : CodOk (m - 1 + n) N S (choiceC cs) := by
  have hd : ∀ k L, (eachC cs k L).1.dropLast.length = m - 1 := fun k L => by rw [List.length_dropLast, h.many]
  have hne : ∀ k L, (eachC cs k L).1 ≠ [] := fun k L e => by have := h.many k L; rw [e] at this; simp at this; omega
  refine ⟨fun k L => ?_, fun k L i hi => ?_, fun k L hk hl ha => ?_⟩
  · show (chainC _ _ _).2.length = _
    rw [chain_len, h.len, hd]
    omega
  · show (chainC _ _ _).2[i]? = _
    rw [chain_keep _ _ _ _ (by rw [h.len]; omega), h.keep _ _ _ hi]
  · obtain ⟨h1, h2⟩ := h.all k L hk (by omega) ha
    refine chain_all hA _ _ _ (fun x hx => h1 x (List.dropLast_subset _ hx)) ?_ (by rw [h.len, hd]; omega) h2
    rw [List.getLastD_eq_getLast?, List.getLast?_eq_some_getLast (hne k L)]
    exact h1 _ (List.getLast_mem _)
theorem alt_ok {N : Nat} {S : Ins → Prop} (hA : ∀ a b, a < N → b < N → S ⟨3, (a : Nat), (b : Nat), [], 0⟩) (a b : Nat) (z : Bool) (ha : a < N) (hb : b < N) : S (altI a b z) := by
  unfold altI
  cases z
  · exact hA a b ha hb
  · exact hA b a hb ha
theorem questC_ok {n N : Nat} {S : Ins → Prop} (hA : ∀ a b, a < N → b < N → S ⟨3, (a : Nat), (b : Nat), [], 0⟩) (f : Fld) {c : Coder} (h : CodOk n N S c) : CodOk (1 + n) N S (questC f c) := by
  refine ⟨fun k L => ?_, fun k L i hi => ?_, fun k L hk hl ha => ?_⟩
  · show ((c k L).2 ++ [_]).length = _
    rw [one_len, h.len]
    omega
  · show ((c k L).2 ++ [_])[i]? = _
    rw [one_keep _ _ _ (by rw [h.len]; omega), h.keep _ _ _ hi]
  · obtain ⟨h1, h2⟩ := h.all k L hk (by omega) ha
    exact ⟨by show (c k L).2.length < N; rw [h.len]; omega, one_all h2 (alt_ok hA _ _ _ h1 hk)⟩
theorem loop_ok {n N : Nat} {S : Ins → Prop} (hA : ∀ a b, a < N → b < N → S ⟨3, (a : Nat), (b : Nat), [], 0⟩) (f : Fld) {c : Coder} (h : CodOk n N S c) : CodOk (1 + n) N S (loopC f c) := by
  refine ⟨fun k L => ?_, fun k L i hi => ?_, fun k L hk hl ha => ?_⟩
  · show (List.set _ _ _).length = _
    rw [List.length_set, h.len, one_len]
    omega
  · show (List.set _ _ _)[i]? = _
    rw [List.getElem?_set_ne (by omega), h.keep _ _ _ (by rw [one_len]; omega), one_keep _ _ _ hi]
  · have hL : L.length < N := by omega
    obtain ⟨h1, h2⟩ := h.all L.length (L ++ [⟨3, 0, 0, [], 0⟩]) hL (by rw [one_len]; omega) (one_all ha (hA 0 0 (by omega) (by omega)))
    refine ⟨?_, fun x hx => ?_⟩
    · show (if f.op = 8 then _ else _) < N
      split
      · exact h1
      · exact hL
    · rcases List.mem_or_eq_of_mem_set hx with hx | rfl
      · exact h2 x hx
      · exact alt_ok hA _ _ _ h1 hk
theorem cap_ok {n N : Nat} {S : Ins → Prop} (f : Fld) (hC : ∀ k, k < N → S ⟨4, (k : Nat), 2 * f.cap, [], 0⟩ ∧ S ⟨4, (k : Nat), 2 * f.cap + 1, [], 0⟩) {c : Coder} (h : CodOk n N S c) : CodOk (2 + n) N S (capC f c) := by
  refine ⟨fun k L => ?_, fun k L i hi => ?_, fun k L hk hl ha => ?_⟩
  · show ((c _ _).2 ++ [_]).length = _
    rw [one_len, h.len, one_len]
    omega
  · show ((c _ _).2 ++ [_])[i]? = _
    rw [one_keep _ _ _ (by rw [h.len, one_len]; omega), h.keep _ _ _ (by rw [one_len]; omega), one_keep _ _ _ hi]
  · have hL : L.length < N := by omega
    obtain ⟨h1, h2⟩ := h.all L.length (L ++ [⟨4, k, 2 * f.cap + 1, [], 0⟩]) hL (by rw [one_len]; omega) (one_all ha (hC k hk).2)
    exact ⟨by show (c _ _).2.length < N; rw [h.len, one_len]; omega, one_all h2 (hC _ h1).1⟩
theorem head_one {α β : Type} (c : α → β) (d : β) (l : List α) (h : l.length = 1) : ∃ k, l = [k] ∧ (l.map c).headD d = c k := by
  match l, h with
  | [k], _ => exact ⟨k, rfl, rfl⟩
theorem codeT_none {g : Int} {t : Tr} (e : t.fld.op = 1) : codeT g t = fun k L => (L.length, L ++ [⟨6, 0, 0, [], 0⟩]) := by rw [codeT_eq]; funext k L; simp [codeN, e]
theorem codeT_empty {g : Int} {t : Tr} (e : t.fld.op = 2) : codeT g t = idC := by rw [codeT_eq]; funext k L; simp [codeN, e, idC]
theorem codeT_rune {g : Int} {t : Tr} (e : t.fld.op = 3) : codeT g t = fun k L => (L.length, L ++ [⟨2, k, 0, [(t.fld.rune, t.fld.rune)], 0⟩]) := by rw [codeT_eq]; funext k L; simp [codeN, e]
theorem codeT_set {g : Int} {t : Tr} (e : t.fld.op = 4) : codeT g t = fun k L => (L.length, L ++ [⟨2, k, 0, t.fld.set, 0⟩]) := by rw [codeT_eq]; funext k L; simp [codeN, e]
theorem codeT_at {g : Int} {t : Tr} (e : t.fld.op = 5) : codeT g t = fun k L => (L.length, L ++ [⟨5, k, 0, [], t.fld.at'⟩]) := by rw [codeT_eq]; funext k L; simp [codeN, e]
theorem codeT_cap {g : Int} {t k : Tr} (e : t.fld.op = 6) (hk : t.kids = [k]) (hc : t.fld.cap ≤ g) : codeT g t = capC t.fld (codeT g k) := by
  rw [codeT_eq, hk]; funext a L; unfold codeN; simp only [List.map_cons, List.map_nil, List.headD_cons]; simp [e, hc]
theorem codeT_bare {g : Int} {t k : Tr} (e : t.fld.op = 6) (hk : t.kids = [k]) (hc : ¬ t.fld.cap ≤ g) : codeT g t = codeT g k := by
  rw [codeT_eq, hk]; funext a L; unfold codeN; simp only [List.map_cons, List.map_nil, List.headD_cons]; simp [e, hc]
theorem codeT_loop {g : Int} {t k : Tr} (e : t.fld.op = 7 ∨ t.fld.op = 8) (hk : t.kids = [k]) : codeT g t = loopC t.fld (codeT g k) := by
  rw [codeT_eq, hk]; funext a L; unfold codeN; simp only [List.map_cons, List.map_nil, List.headD_cons]
  rw [if_neg (by omega), if_neg (by omega), if_neg (by omega), if_neg (by omega), if_neg (by omega), if_pos e]
theorem codeT_quest {g : Int} {t k : Tr} (e : t.fld.op = 9) (hk : t.kids = [k]) : codeT g t = questC t.fld (codeT g k) := by
  rw [codeT_eq, hk]; funext a L; unfold codeN; simp only [List.map_cons, List.map_nil, List.headD_cons]; simp [e]
theorem codeT_row {g : Int} {t : Tr} (e : t.fld.op = 11) : codeT g t = rowC (t.kids.map (codeT g)) := by rw [codeT_eq]; funext k L; simp [codeN, e]
theorem codeT_choice {g : Int} {t : Tr} (e : t.fld.op = 12) : codeT g t = choiceC (t.kids.map (codeT g)) := by rw [codeT_eq]; funext k L; simp [codeN, e]
theorem one_kid {l : List Tr} (h : l.length = 1) : ∃ k, l = [k] := by
  match l, h with
  | [k], _ => exact ⟨k, rfl⟩
/-- Of a shaped tree without counted repeats. -/
theorem code_ok (g : Int) (N : Nat) (S : Ins → Prop) (t : Tr) : ShapedP t → NoRep t → PutOk g t N S → CodOk (sizeT g t) N S (codeT g t) := by
  refine Tr.ind (P := fun t => ShapedP t → NoRep t → PutOk g t N S → CodOk (sizeT g t) N S (codeT g t)) (fun t ih hs hn hp => ?_) t
  obtain ⟨hf, hk, hc, hks⟩ := (shapedP_iff t).1 hs
  obtain ⟨h10, hns⟩ := (noRep_iff t).1 hn
  have ih' : ∀ k ∈ t.kids, CodOk (sizeT g k) N S (codeT g k) := fun k hk => ih k hk (hks k hk) (hns k hk) (hp.kid hk)
  rw [sizeT_eq]
  obtain ⟨f1, f2, -, -, -, -, -, -, f3, f4, f5, -, -⟩ := hf
  unfold ownN
  have h0 : t.fld.op ≤ 5 → (t.kids.map (sizeT g)).sum = 0 := fun h => by
    have : t.kids.length = 0 := by have := hk.2.2; omega
    rw [List.eq_nil_of_length_eq_zero this]
    rfl
  have h1 : t.fld.op = 6 ∨ t.fld.op = 7 ∨ t.fld.op = 8 ∨ t.fld.op = 9 → ∃ k, t.kids = [k] ∧ CodOk (sizeT g k) N S (codeT g k) ∧ (t.kids.map (sizeT g)).sum = sizeT g k := fun h => by
    obtain ⟨k, e⟩ := one_kid (hk.1 (by omega))
    exact ⟨k, e, ih' k (by simp [e]), by simp [e]⟩
  rcases (by omega : t.fld.op = 1 ∨ t.fld.op = 2 ∨ t.fld.op = 3 ∨ t.fld.op = 4 ∨ t.fld.op = 5 ∨ t.fld.op = 6 ∨ (t.fld.op = 7 ∨ t.fld.op = 8) ∨ t.fld.op = 9 ∨ t.fld.op = 11 ∨ t.fld.op = 12) with e | e | e | e | e | e | e | e | e | e
  · rw [h0 (by omega), codeT_none e, if_neg (by omega), if_neg (by omega), if_neg (by omega)]
    exact put_ok fun _ _ => hp.fail
  · rw [h0 (by omega), codeT_empty e, if_pos (by omega)]
    exact id_ok
  · rw [h0 (by omega), codeT_rune e, if_neg (by omega), if_neg (by omega), if_neg (by omega)]
    exact put_ok fun k hk => hp.set k _ hk ⟨(f3 e).1, Int.le_refl _, (f3 e).2, trivial⟩ (by simp)
  · rw [h0 (by omega), codeT_set e, if_neg (by omega), if_neg (by omega), if_neg (by omega)]
    exact put_ok fun k hk => hp.set k _ hk (f4 e).1 (f4 e).2
  · rw [h0 (by omega), codeT_at e, if_neg (by omega), if_neg (by omega), if_neg (by omega)]
    exact put_ok fun k hk => hp.at' k _ hk (f5 e)
  · obtain ⟨k, e1, hk, e2⟩ := h1 (by omega)
    rw [e2, if_neg (by omega), if_pos e]
    by_cases hcg : t.fld.cap ≤ g
    · rw [if_pos hcg, codeT_cap e e1 hcg]
      exact cap_ok t.fld (fun n hn => hp.cap n hn t (by rw [groupsT_eq]; simp [e]) hcg) hk
    · rw [if_neg hcg, codeT_bare e e1 hcg, Nat.zero_add]
      exact hk
  · obtain ⟨k, e1, hk, e2⟩ := h1 (by omega)
    rw [e2, codeT_loop e e1, if_neg (by omega), if_neg (by omega), if_neg (by omega)]
    exact loop_ok hp.alt t.fld hk
  · obtain ⟨k, e1, hk, e2⟩ := h1 (by omega)
    rw [e2, codeT_quest e e1, if_neg (by omega), if_neg (by omega), if_neg (by omega)]
    exact questC_ok hp.alt t.fld hk
  · rw [codeT_row e, if_pos (by omega), Nat.zero_add]
    exact row_ok (sizeT g) (codeT g) t.kids ih'
  · rw [codeT_choice e, if_neg (by omega), if_neg (by omega), if_pos e]
    exact choice_ok hp.alt (each_ok (sizeT g) (codeT g) t.kids ih') (hk.2.1 e)
/-- A tree has no more instructions than it is heavy. -/
theorem size_weight (g : Int) (t : Tr) : ShapedP t → NoRep t → min (sizeT g t) 4001 ≤ weightR t := by
  refine Tr.ind (P := fun t => ShapedP t → NoRep t → min (sizeT g t) 4001 ≤ weightR t) (fun t ih hs hn => ?_) t
  obtain ⟨hf, hk, hc, hks⟩ := (shapedP_iff t).1 hs
  obtain ⟨h10, hns⟩ := (noRep_iff t).1 hn
  have hsum : ∀ l : List Tr, (∀ k ∈ l, min (sizeT g k) 4001 ≤ weightR k) → min ((l.map (sizeT g)).sum) 4001 ≤ (l.map weightR).sum := by
    intro l
    induction l with
    | nil => intro _; simp
    | cons x l ih =>
      intro h
      have h1 := h x (by simp)
      have h2 := ih fun k hk => h k (by simp [hk])
      simp only [List.map_cons, List.sum_cons]
      omega
  have h := hsum t.kids fun k hk => ih k hk (hks k hk) (hns k hk)
  have f1 := hf.1
  have f2 := hf.2.1
  rw [sizeT_eq, weightR_eq]
  unfold ownN weightN
  have hl := hk.2.1
  have h0 : t.fld.op ≤ 5 → (t.kids.map (sizeT g)).sum = 0 := fun h => by
    have : t.kids.length = 0 := by have := hk.2.2; omega
    rw [List.eq_nil_of_length_eq_zero this]
    rfl
  generalize (t.kids.map (sizeT g)).sum = a at h h0 ⊢
  generalize (t.kids.map weightR).sum = b at h ⊢
  unfold clipR
  have hle : t.fld.op ≤ 5 → a = 0 := fun h => h0 h
  repeat' split
  all_goals first | omega | (have := hle (by omega); omega)
/-- A program of a tree: where it begins, its instructions; what is wrong. -/
def zeroPg : Pg := ⟨[], 0, 0⟩
noncomputable def compT (t : Tr) (g : Int) : Pg × Int :=
  open Classical in
  if ¬ (0 ≤ g ∧ g ≤ 2000 ∧ ShapedP t ∧ NoRep t) then (zeroPg, 51) else
  if 10000 < 1 + sizeT g t then (zeroPg, 2) else (⟨(codeT g t 0 [⟨1, 0, 0, [], 0⟩]).2, (codeT g t 0 [⟨1, 0, 0, [], 0⟩]).1, 2 * g + 2⟩, 0)
end Go.Proofs.Ythffdmncdoogpaa
/- Is a tree right: the document's Right. -/
namespace Go.Proofs.Ythffdmncdoogpaa
open Go Go.RowKit

/-- Groups are numbered in order, and no name stands twice. -/
def CapsFine (g : List Tr) : Prop := ∀ (i : Nat) (h : i < g.length), g[i].fld.cap = (i : Int) + 1 ∧ ∀ (k : Nat) (hk : k < i), ¬ ((g[k]'(by omega)).fld.name.toList = g[i].fld.name.toList ∧ g[i].fld.name.toList ≠ [])
/-- A right tree. -/
def RightT (t : Tr) : Prop := depthR t ≤ 50 ∧ weightR t ≤ 4000 ∧ ShapedP t ∧ CapsFine (groupsT t)
end Go.Proofs.Ythffdmncdoogpaa
/- A tree, turned, if it is right; else the empty one: the document's Turned. -/
namespace Go.Proofs.Ythffdmncdoogpaa
open Go Go.RowKit

/-- The tree, turned, if it is right; else none. -/
def TopOf (t T : Tr) : Prop := (RightT t ∧ T = turnedT t) ∨ (¬ RightT t ∧ T = noTr)
theorem TopOf.one {t T U : Tr} (h : TopOf t T) (g : TopOf t U) : T = U := by
  rcases h with ⟨h, rfl⟩ | ⟨h, rfl⟩ <;> rcases g with ⟨g, rfl⟩ | ⟨g, rfl⟩
  · rfl
  · exact absurd h g
  · exact absurd g h
  · rfl
def TopPost (A : Nat → Prop) (t : Tr) (w : World) (e : Ending) (w' : World) : Prop := ∃ v T, e = .returned v ∧ TopOf t T ∧ TreF (fun b => A b ∨ w.heap.size ≤ b) w' T v ∧ Below w.heap.size w w'
theorem noTr_tre (F : Nat → Prop) (w : World) : TreF F w noTr (.agg #[.int .i64 0, .slice none 0 0, .int .i32 0, .slice none 0 0, .int .i64 0, .int .i64 0, .string ⟨#[]⟩, .int .i64 0, .int .i64 0, .bool false]) := by
  rw [treF_iff]
  refine ⟨.slice none 0 0, .slice none 0 0, rfl, ⟨⟨none, 0, rfl, by simp [noTr, Tr.fld], by unfold maxLen; omega, by simp, .inl rfl, by simp [noTr, Tr.fld]⟩, .inl rfl⟩, by simp [FldOk, I64, I32, noTr, Tr.fld]; decide, none, 0, rfl, by simp [noTr, Tr.kids], by unfold maxLen; omega, by simp [noTr, Tr.kids], by simp, .inl rfl⟩

end Go.Proofs.Ythffdmncdoogpaa
/- May a tree fit nothing: the document's empty. -/
namespace Go.Proofs.Ythffdmncdoogpaa
open Go Go.RowKit

theorem ex_mem_map {α : Type} (l : List α) (f : α → Prop) : (∃ p ∈ l.map f, p) ↔ ∃ k ∈ l, f k := by
  constructor
  · rintro ⟨p, hp, h⟩
    obtain ⟨k, hk, rfl⟩ := List.mem_map.1 hp
    exact ⟨k, hk, h⟩
  · rintro ⟨k, hk, h⟩
    exact ⟨f k, List.mem_map.2 ⟨k, hk, rfl⟩, h⟩
theorem all_mem_map {α : Type} (l : List α) (f : α → Prop) : (∀ p ∈ l.map f, p) ↔ ∀ k ∈ l, f k :=
  ⟨fun h k hk => h (f k) (List.mem_map.2 ⟨k, hk, rfl⟩), fun h p hp => by obtain ⟨k, hk, rfl⟩ := List.mem_map.1 hp; exact h k hk⟩
/-- May a tree fit nothing? -/
def EmptyP : Tr → Prop := Tr.para fun t l => if t.fld.op = 2 ∨ t.fld.op = 5 ∨ t.fld.op = 7 ∨ t.fld.op = 9 then True else if t.fld.op = 1 ∨ t.fld.op = 3 ∨ t.fld.op = 4 then False else if t.fld.op = 10 ∧ t.fld.min = 0 then True else if t.fld.op = 12 then ∃ p ∈ l, p else ∀ p ∈ l, p
theorem emptyP_iff (t : Tr) : EmptyP t ↔ if t.fld.op = 2 ∨ t.fld.op = 5 ∨ t.fld.op = 7 ∨ t.fld.op = 9 then True else if t.fld.op = 1 ∨ t.fld.op = 3 ∨ t.fld.op = 4 then False else if t.fld.op = 10 ∧ t.fld.min = 0 then True else if t.fld.op = 12 then ∃ k ∈ t.kids, EmptyP k else ∀ k ∈ t.kids, EmptyP k := by
  unfold EmptyP
  rw [Tr.para_eq]
  simp only [ex_mem_map, all_mem_map]
/-- Does a tree never fit more? -/
def StillP : Tr → Prop := Tr.para fun t l => ¬ (t.fld.op = 3 ∨ t.fld.op = 4) ∧ ∀ p ∈ l, p
theorem stillP_iff (t : Tr) : StillP t ↔ ¬ (t.fld.op = 3 ∨ t.fld.op = 4) ∧ ∀ k ∈ t.kids, StillP k := by
  unfold StillP
  rw [Tr.para_eq]
  simp only [all_mem_map]
end Go.Proofs.Ythffdmncdoogpaa
/- What Simple makes of a tree, as plain functions; that it is shaped, plain, and not too great. No condition. -/
namespace Go.Proofs.Ythffdmncdoogpaa
open Go Go.RowKit

/-- The fields of a node that has but its Op and whether it is lazy. -/
def opF (o : Int) (z : Bool) : Fld := { op := o, rune := 0, set := [], at' := 0, cap := 0, name := ⟨#[]⟩, min := 0, max := 0, lazy := z }
def emptyT : Tr := .mk (opF 2 false) []
/-- The Kids that stand in the place of one of those that are joined. -/
def spliceT (x : Tr) : List Tr := if x.fld.op = 2 then [] else if x.fld.op = 11 then x.kids else [x]
def spliced (l : List Tr) : List Tr := l.flatMap spliceT
def catT : List Tr → Tr
  | [] => emptyT
  | [x] => x
  | x :: y :: l => .mk (opF 11 false) (x :: y :: l)
def firstNone : List Tr → Option Tr
  | [] => none
  | x :: l => if x.fld.op = 1 then some x else firstNone l
def joinedT (l : List Tr) : Tr := (firstNone l).getD (catT (spliced l))
/-- Is nothing in it that reads a rune? -/
def sStill : Tr → Prop := Tr.para fun t l => ¬ (t.fld.op = 3 ∨ t.fld.op = 4) ∧ ∀ p ∈ l, p
theorem sStill_iff (t : Tr) : sStill t ↔ ¬ (t.fld.op = 3 ∨ t.fld.op = 4) ∧ ∀ k ∈ t.kids, sStill k := by
  unfold sStill
  rw [Tr.para_eq]
  simp only [List.mem_map, forall_exists_index, and_imp, forall_apply_eq_imp_iff₂]
/-- A tree of one plain Kid under a star, a plus, a question mark. -/
noncomputable def loopedT (f : Fld) (x : Tr) : Tr :=
  open Classical in
  if f.op = 7 then (if sStill x then emptyT else .mk f [x]) else
  if f.op = 8 then (if sStill x then x else .mk f [x]) else
  if f.op = 9 then (if x.fld.op = 1 ∨ x.fld.op = 2 then emptyT else .mk f [x]) else .mk f [x]
/-- The rest of a counted repeat, n + 1 times at most. -/
noncomputable def restT (z : Bool) (x : Tr) : Nat → Tr
  | 0 => loopedT (opF 9 z) x
  | n + 1 => loopedT (opF 9 z) (joinedT [x, restT z x n])
noncomputable def repeatedT (f : Fld) (x : Tr) : Tr :=
  if f.max < 0 ∧ f.min = 0 then loopedT (opF 7 f.lazy) x else
  if f.max < 0 then joinedT (List.replicate (f.min - 1).toNat x ++ [loopedT (opF 8 f.lazy) x]) else
  if f.max = f.min then joinedT (List.replicate f.min.toNat x) else
  joinedT (List.replicate f.min.toNat x ++ [restT f.lazy x ((f.max - f.min).toNat - 1)])
def altT (f : Fld) : List Tr → Tr
  | [] => .mk (opF 1 false) []
  | [x] => x
  | x :: y :: l => .mk f (x :: y :: l)
/-- What is made of a tree whose Kids are plain. -/
noncomputable def madeT (f : Fld) (l : List Tr) : Tr :=
  if f.op = 6 then (if (l.headD noTr).fld.op = 1 then l.headD noTr else .mk f l) else
  if f.op = 7 ∨ f.op = 8 ∨ f.op = 9 then loopedT f (l.headD noTr) else
  if f.op = 10 then repeatedT f (l.headD noTr) else
  if f.op = 11 then joinedT l else
  if f.op = 12 then altT f (l.filter fun k => k.fld.op != 1) else .mk f l
noncomputable def simpleT : Tr → Tr := Tr.para fun t l => madeT t.fld l
theorem simpleT_eq (t : Tr) : simpleT t = madeT t.fld (t.kids.map simpleT) := Tr.para_eq _ t

/-- What a node that is plain must be, but for its Kids. -/
def PlainN (t : Tr) : Prop :=
  t.fld.op ≠ 10 ∧ (∀ k ∈ t.kids, k.fld.op ≠ 1) ∧ (t.fld.op = 7 ∨ t.fld.op = 8 → ∀ k ∈ t.kids, ¬ sStill k) ∧ (t.fld.op = 9 → ∀ k ∈ t.kids, k.fld.op ≠ 2) ∧
    (t.fld.op = 11 → 2 ≤ t.kids.length ∧ ∀ k ∈ t.kids, k.fld.op ≠ 2 ∧ k.fld.op ≠ 11) ∧ (t.fld.op = 12 → 2 ≤ t.kids.length)
def PlainT : Tr → Prop := Tr.para fun t l => PlainN t ∧ ∀ p ∈ l, p
theorem plainT_iff (t : Tr) : PlainT t ↔ PlainN t ∧ ∀ k ∈ t.kids, PlainT k := by
  unfold PlainT
  rw [Tr.para_eq]
  simp only [List.mem_map, forall_exists_index, and_imp, forall_apply_eq_imp_iff₂]
/-- Shaped and plain. -/
def Good (t : Tr) : Prop := ShapedP t ∧ PlainT t
theorem good_iff (t : Tr) : Good t ↔ (FieldsOk t.fld ∧ KidsOk t.fld.op t.kids.length ∧ ¬ (t.fld.op = 6 ∧ t.fld.cap < 1)) ∧ PlainN t ∧ ∀ k ∈ t.kids, Good k := by
  unfold Good
  rw [shapedP_iff, plainT_iff]
  exact ⟨fun ⟨⟨a, b, c, d⟩, e, f⟩ => ⟨⟨a, b, c⟩, e, fun k hk => ⟨d k hk, f k hk⟩⟩, fun ⟨⟨a, b, c⟩, e, f⟩ => ⟨⟨a, b, c, fun k hk => (f k hk).1⟩, e, fun k hk => (f k hk).2⟩⟩
theorem fieldsOk_op {o : Int} {z : Bool} (h1 : 1 ≤ o) (h2 : o ≤ 12) (h3 : o ≠ 3) (h4 : o ≠ 4) (h5 : o ≠ 5) (h6 : o ≠ 6) (h10 : o ≠ 10) (hz : z = true → 7 ≤ o ∧ o ≤ 10) : FieldsOk (opF o z) :=
  ⟨h1, h2, fun _ => rfl, fun _ => rfl, fun _ => rfl, fun _ => ⟨rfl, show (⟨#[]⟩ : ByteArray).toList = [] by kernel_rfl⟩, fun _ => ⟨rfl, rfl⟩, hz, fun h => absurd h h3, fun h => absurd h h4, fun h => absurd h h5, fun h => absurd h h6, fun h => absurd h h10⟩
theorem empty_good : Good emptyT := by
  rw [good_iff]
  refine ⟨⟨fieldsOk_op (by omega) (by omega) (by omega) (by omega) (by omega) (by omega) (by omega) (by simp), ⟨by simp [emptyT, Tr.fld, opF], by simp [emptyT, Tr.fld, opF], by simp [emptyT, Tr.kids]⟩, by simp [emptyT, Tr.fld, opF]⟩, ?_, by simp [emptyT, Tr.kids]⟩
  simp [PlainN, emptyT, Tr.fld, Tr.kids, opF]
/-- A shaped tree of Op 1 is still; so one that is not still is none of that Op. -/
theorem none_still {x : Tr} (h : ShapedP x) (h1 : x.fld.op = 1 ∨ x.fld.op = 2) : sStill x := by
  obtain ⟨-, hk, -⟩ := (shapedP_iff x).1 h
  have h0 : x.kids.length = 0 := by
    have := hk.2.2
    omega
  rw [sStill_iff]
  refine ⟨by omega, ?_⟩
  rw [List.eq_nil_of_length_eq_zero h0]
  simp
theorem one_good {f : Fld} {x : Tr} (hf : FieldsOk f) (ho : f.op = 7 ∨ f.op = 8 ∨ f.op = 9) (hx : Good x) (h78 : f.op = 7 ∨ f.op = 8 → ¬ sStill x) (h9 : f.op = 9 → x.fld.op ≠ 1 ∧ x.fld.op ≠ 2) : Good (.mk f [x]) := by
  rw [good_iff]
  refine ⟨⟨hf, ⟨fun _ => rfl, by simp only [Tr.fld]; omega, by simp only [Tr.fld]; omega⟩, by simp only [Tr.fld]; omega⟩, ?_, by simpa [Tr.kids] using hx⟩
  refine ⟨by simp only [Tr.fld]; omega, ?_, ?_, ?_, by simp only [Tr.fld]; omega, by simp only [Tr.fld]; omega⟩
  · intro k hk
    obtain rfl : k = x := by simpa [Tr.kids] using hk
    rcases ho with h | h | h
    · exact fun h1 => h78 (.inl h) (none_still hx.1 (.inl h1))
    · exact fun h1 => h78 (.inr h) (none_still hx.1 (.inl h1))
    · exact (h9 h).1
  · intro h k hk
    obtain rfl : k = x := by simpa [Tr.kids] using hk
    exact h78 h
  · intro h k hk
    obtain rfl : k = x := by simpa [Tr.kids] using hk
    exact (h9 h).2
theorem looped_good {f : Fld} {x : Tr} (hf : FieldsOk f) (ho : f.op = 7 ∨ f.op = 8 ∨ f.op = 9) (hx : Good x) : Good (loopedT f x) := by
  unfold loopedT
  by_cases h7 : f.op = 7
  · rw [if_pos h7]
    split
    · exact empty_good
    · rename_i h
      exact one_good hf ho hx (fun _ => h) (fun h9 => by omega)
  rw [if_neg h7]
  by_cases h8 : f.op = 8
  · rw [if_pos h8]
    split
    · exact hx
    · rename_i h
      exact one_good hf ho hx (fun _ => h) (fun h9 => by omega)
  rw [if_neg h8]
  have h9 : f.op = 9 := by omega
  rw [if_pos h9]
  split
  · exact empty_good
  · rename_i h
    exact one_good hf ho hx (fun h => by omega) (fun _ => ⟨fun h1 => h (.inl h1), fun h2 => h (.inr h2)⟩)
theorem splice_good {x : Tr} (hx : Good x) (h1 : x.fld.op ≠ 1) : ∀ k ∈ spliceT x, Good k ∧ k.fld.op ≠ 1 ∧ k.fld.op ≠ 2 ∧ k.fld.op ≠ 11 := by
  intro k hk
  unfold spliceT at hk
  split at hk
  · cases hk
  · rename_i h2
    split at hk
    · rename_i h11
      obtain ⟨-, ⟨-, p1, -, -, p2, -⟩, hg⟩ := (good_iff x).1 hx
      exact ⟨hg k hk, p1 k hk, ((p2 h11).2 k hk).1, ((p2 h11).2 k hk).2⟩
    · rename_i h11
      obtain rfl : k = x := by simpa using hk
      exact ⟨hx, h1, h2, h11⟩
theorem cat_good {l : List Tr} (h : ∀ k ∈ l, Good k ∧ k.fld.op ≠ 1 ∧ k.fld.op ≠ 2 ∧ k.fld.op ≠ 11) : Good (catT l) := by
  match l with
  | [] => exact empty_good
  | [x] => exact (h x (by simp)).1
  | x :: y :: l =>
    show Good (.mk (opF 11 false) (x :: y :: l))
    rw [good_iff]
    refine ⟨⟨fieldsOk_op (by omega) (by omega) (by omega) (by omega) (by omega) (by omega) (by omega) (by simp), ⟨by simp [Tr.fld, opF], by simp [Tr.fld, opF], by simp [Tr.fld, opF]⟩, by simp [Tr.fld, opF]⟩, ?_, fun k hk => (h k hk).1⟩
    exact ⟨by simp [Tr.fld, opF], fun k hk => (h k hk).2.1, by simp [Tr.fld, opF], by simp [Tr.fld, opF], fun _ => ⟨by simp [Tr.kids], fun k hk => (h k hk).2.2⟩, by simp [Tr.fld, opF]⟩
theorem firstNone_some : ∀ {l : List Tr} {x : Tr}, firstNone l = some x → x ∈ l ∧ x.fld.op = 1
  | y :: l, x, h => by
    unfold firstNone at h
    split at h
    · cases h
      rename_i h1
      exact ⟨by simp, h1⟩
    · have := firstNone_some h
      exact ⟨by simp [this.1], this.2⟩
theorem firstNone_none : ∀ {l : List Tr}, firstNone l = none ↔ ∀ k ∈ l, k.fld.op ≠ 1
  | [] => by simp [firstNone]
  | y :: l => by
    unfold firstNone
    split
    · rename_i h1
      simp [h1]
    · rename_i h1
      rw [firstNone_none]
      simp [h1]
theorem joined_good {l : List Tr} (h : ∀ k ∈ l, Good k) : Good (joinedT l) := by
  unfold joinedT
  cases hn : firstNone l with
  | some x => exact h x (firstNone_some hn).1
  | none =>
    refine cat_good fun k hk => ?_
    obtain ⟨x, hx, hk⟩ := List.mem_flatMap.1 hk
    exact splice_good (h x hx) (firstNone_none.1 hn x hx) k hk
theorem quest_ok (z : Bool) : FieldsOk (opF 9 z) := fieldsOk_op (by omega) (by omega) (by omega) (by omega) (by omega) (by omega) (by omega) (fun _ => by omega)
theorem rest_good (z : Bool) {x : Tr} (hx : Good x) : ∀ n, Good (restT z x n)
  | 0 => looped_good (quest_ok z) (.inr (.inr rfl)) hx
  | n + 1 => looped_good (quest_ok z) (.inr (.inr rfl)) (joined_good fun k hk => by
      rcases List.mem_cons.1 hk with rfl | hk
      · exact hx
      · obtain rfl : k = restT z x n := by simpa using hk
        exact rest_good z hx n)
theorem repeated_good {f : Fld} {x : Tr} (hx : Good x) : Good (repeatedT f x) := by
  have hrep : ∀ n, ∀ k ∈ List.replicate n x, Good k := fun n k hk => by rw [List.eq_of_mem_replicate hk]; exact hx
  have h2 : ∀ n y, Good y → ∀ k ∈ List.replicate n x ++ [y], Good k := fun n y hy k hk => by
    rcases List.mem_append.1 hk with hk | hk
    · exact hrep n k hk
    · obtain rfl : k = y := by simpa using hk
      exact hy
  unfold repeatedT
  split
  · exact looped_good (fieldsOk_op (by omega) (by omega) (by omega) (by omega) (by omega) (by omega) (by omega) (fun _ => by omega)) (.inl rfl) hx
  · split
    · exact joined_good (h2 _ _ (looped_good (fieldsOk_op (by omega) (by omega) (by omega) (by omega) (by omega) (by omega) (by omega) (fun _ => by omega)) (.inr (.inl rfl)) hx))
    · split
      · exact joined_good (hrep _)
      · exact joined_good (h2 _ _ (rest_good _ hx _))
theorem alt_good {f : Fld} {l : List Tr} (hf : FieldsOk f) (h12 : f.op = 12) (h : ∀ k ∈ l, Good k ∧ k.fld.op ≠ 1) : Good (altT f l) := by
  match l with
  | [] =>
    show Good (.mk (opF 1 false) [])
    rw [good_iff]
    refine ⟨⟨fieldsOk_op (by omega) (by omega) (by omega) (by omega) (by omega) (by omega) (by omega) (by simp), ⟨by simp [Tr.fld, opF], by simp [Tr.fld, opF], by simp [Tr.kids]⟩, by simp [Tr.fld, opF]⟩, ?_, by simp [Tr.kids]⟩
    simp [PlainN, Tr.fld, Tr.kids, opF]
  | [x] => exact (h x (by simp)).1
  | x :: y :: l =>
    show Good (.mk f (x :: y :: l))
    rw [good_iff]
    refine ⟨⟨hf, ⟨by simp only [Tr.fld]; omega, by simp [Tr.kids], by simp only [Tr.fld]; omega⟩, by simp only [Tr.fld]; omega⟩, ?_, fun k hk => (h k hk).1⟩
    exact ⟨by simp only [Tr.fld]; omega, fun k hk => (h k hk).2, by simp only [Tr.fld]; omega, by simp only [Tr.fld]; omega, by simp only [Tr.fld]; omega, fun _ => by simp [Tr.kids]⟩
theorem made_good {f : Fld} {l : List Tr} (hf : FieldsOk f) (hk : KidsOk f.op l.length) (hc : ¬ (f.op = 6 ∧ f.cap < 1)) (h : ∀ k ∈ l, Good k) : Good (madeT f l) := by
  have hone : f.op = 6 ∨ f.op = 7 ∨ f.op = 8 ∨ f.op = 9 ∨ f.op = 10 → ∃ x, l = [x] ∧ Good x := fun ho => by
    have h1 := hk.1 ho
    match l, h1 with
    | [x], _ => exact ⟨x, rfl, h x (by simp)⟩
  unfold madeT
  by_cases h6 : f.op = 6
  · rw [if_pos h6]
    obtain ⟨x, rfl, hx⟩ := hone (.inl h6)
    change Good (if x.fld.op = 1 then x else .mk f [x])
    split
    · exact hx
    · rename_i h1
      rw [good_iff]
      refine ⟨⟨hf, hk, hc⟩, ?_, by simpa [Tr.kids] using hx⟩
      exact ⟨by simp only [Tr.fld]; omega, fun k hk => (by rw [List.mem_singleton.1 (show k ∈ [x] from hk)]; exact h1), by simp only [Tr.fld]; omega, by simp only [Tr.fld]; omega, by simp only [Tr.fld]; omega, by simp only [Tr.fld]; omega⟩
  rw [if_neg h6]
  by_cases h7 : f.op = 7 ∨ f.op = 8 ∨ f.op = 9
  · rw [if_pos h7]
    obtain ⟨x, rfl, hx⟩ := hone (by omega)
    exact looped_good hf h7 hx
  rw [if_neg h7]
  by_cases h10 : f.op = 10
  · rw [if_pos h10]
    obtain ⟨x, rfl, hx⟩ := hone (by omega)
    exact repeated_good hx
  rw [if_neg h10]
  by_cases h11 : f.op = 11
  · rw [if_pos h11]
    exact joined_good h
  rw [if_neg h11]
  by_cases h12 : f.op = 12
  · rw [if_pos h12]
    refine alt_good hf h12 fun k hk => ?_
    obtain ⟨h1, h2⟩ := List.mem_filter.1 hk
    exact ⟨h k h1, by simpa using h2⟩
  rw [if_neg h12]
  have h0 : l = [] := List.eq_nil_of_length_eq_zero (by have := hk.2.2; omega)
  subst h0
  rw [good_iff]
  refine ⟨⟨hf, hk, hc⟩, ?_, by simp [Tr.kids]⟩
  exact ⟨by simp only [Tr.fld]; omega, by simp [Tr.kids], by simp [Tr.kids], by simp [Tr.kids], by simp only [Tr.fld]; omega, by simp only [Tr.fld]; omega⟩
/-- What is made of a shaped tree is shaped and plain. -/
theorem simple_good (t : Tr) : ShapedP t → Good (simpleT t) := by
  refine Tr.ind (P := fun t => ShapedP t → Good (simpleT t)) (fun t ih hs => ?_) t
  obtain ⟨h1, h2, h3, h4⟩ := (shapedP_iff t).1 hs
  rw [simpleT_eq]
  refine made_good h1 (by simpa using h2) h3 fun k hk => ?_
  obtain ⟨q, hq, rfl⟩ := List.mem_map.1 hk
  exact ih q hq (h4 q hq)

/-- A node's fields, where its Op has none. -/
theorem fld_bare {f : Fld} (h : FieldsOk f) (h11 : f.op = 11) : f = opF 11 false := by
  obtain ⟨-, -, q3, q4, q5, q6, q7, q8, -⟩ := h
  obtain ⟨o, r, s, a, c, n, mi, ma, z⟩ := f
  simp only at h11 q3 q4 q5 q6 q7 q8
  subst h11
  have hn : n = ⟨#[]⟩ := by
    have h2 := (q6 (by omega)).2
    obtain ⟨⟨l⟩⟩ := n
    have : l = [] := by simpa [ByteArray.toList_eq] using h2
    rw [this]
  have hz : z = false := by
    cases z
    · rfl
    · have := q8 rfl
      omega
  rw [q3 (by omega), q4 (by omega), q5 (by omega), (q6 (by omega)).1, hn, (q7 (by omega)).1, (q7 (by omega)).2, hz]
  rfl
theorem spliced_same : ∀ {l : List Tr}, (∀ k ∈ l, k.fld.op ≠ 2 ∧ k.fld.op ≠ 11) → spliced l = l
  | [], _ => rfl
  | x :: l, h => by
    have h1 := h x (by simp)
    have h2 := spliced_same (l := l) fun k hk => h k (by simp [hk])
    unfold spliced at h2 ⊢
    rw [List.flatMap_cons, h2]
    unfold spliceT
    rw [if_neg h1.1, if_neg h1.2]
    rfl
/-- A plain tree is made plain as it is. -/
theorem good_same (t : Tr) : Good t → simpleT t = t := by
  refine Tr.ind (P := fun t => Good t → simpleT t = t) (fun t ih hg => ?_) t
  obtain ⟨⟨hf, hk, hc⟩, ⟨p10, p1, p78, p9, p11, p12⟩, hkids⟩ := (good_iff t).1 hg
  have hm : t.kids.map simpleT = t.kids := by
    conv => rhs; rw [← List.map_id t.kids]
    exact List.map_congr_left fun k hk => ih k hk (hkids k hk)
  rw [simpleT_eq, hm]
  obtain ⟨f, l⟩ := t
  replace hf : FieldsOk f := hf
  replace hk : KidsOk f.op l.length := hk
  replace p10 : f.op ≠ 10 := p10
  replace p1 : ∀ k ∈ l, k.fld.op ≠ 1 := p1
  replace p78 : f.op = 7 ∨ f.op = 8 → ∀ k ∈ l, ¬ sStill k := p78
  replace p9 : f.op = 9 → ∀ k ∈ l, k.fld.op ≠ 2 := p9
  replace p11 : f.op = 11 → 2 ≤ l.length ∧ ∀ k ∈ l, k.fld.op ≠ 2 ∧ k.fld.op ≠ 11 := p11
  replace p12 : f.op = 12 → 2 ≤ l.length := p12
  change madeT f l = .mk f l
  clear hkids hm hc hg
  have hone : f.op = 6 ∨ f.op = 7 ∨ f.op = 8 ∨ f.op = 9 ∨ f.op = 10 → ∃ x, l = [x] := fun ho => by
    have h1 := hk.1 ho
    match l, h1 with
    | [x], _ => exact ⟨x, rfl⟩
  unfold madeT
  by_cases h6 : f.op = 6
  · rw [if_pos h6]
    obtain ⟨x, rfl⟩ := hone (.inl h6)
    change (if x.fld.op = 1 then x else .mk f [x]) = .mk f [x]
    rw [if_neg (p1 x (by simp))]
  rw [if_neg h6]
  by_cases h7 : f.op = 7 ∨ f.op = 8 ∨ f.op = 9
  · rw [if_pos h7]
    obtain ⟨x, rfl⟩ := hone (by omega)
    change loopedT f x = .mk f [x]
    unfold loopedT
    by_cases h7' : f.op = 7
    · rw [if_pos h7', if_neg (p78 (.inl h7') x (by simp))]
    rw [if_neg h7']
    by_cases h8 : f.op = 8
    · rw [if_pos h8, if_neg (p78 (.inr h8) x (by simp))]
    rw [if_neg h8]
    have h9 : f.op = 9 := by omega
    rw [if_pos h9, if_neg]
    rintro (h | h)
    · exact p1 x (by simp) h
    · exact p9 h9 x (by simp) h
  rw [if_neg h7, if_neg p10]
  by_cases h11 : f.op = 11
  · rw [if_pos h11]
    obtain ⟨h2, hno⟩ := p11 h11
    unfold joinedT
    rw [firstNone_none.2 p1, spliced_same hno, fld_bare hf h11]
    match l, h2 with
    | x :: y :: l, _ => rfl
  rw [if_neg h11]
  by_cases h12 : f.op = 12
  · rw [if_pos h12]
    have hfil : l.filter (fun k => k.fld.op != 1) = l := List.filter_eq_self.2 fun k hk => by simpa using p1 k hk
    rw [hfil]
    have h2 := p12 h12
    match l, h2 with
    | x :: y :: l, _ => rfl
  rw [if_neg h12]
theorem simple_twice {t : Tr} (h : ShapedP t) : simpleT (simpleT t) = simpleT t := good_same _ (simple_good t h)
end Go.Proofs.Ythffdmncdoogpaa
/- A right tree has not too many parts. No condition. -/
namespace Go.Proofs.Ythffdmncdoogpaa
open Go Go.RowKit

theorem sum_parts : ∀ (l : List Tr), (∀ k ∈ l, partsR k ≤ weightR k * 1114114) → (l.map partsR).sum ≤ (l.map weightR).sum * 1114114
  | [], _ => Nat.le_refl _
  | k :: l, h => by
    have h1 := h k (by simp)
    have h2 := sum_parts l fun q hq => h q (by simp [hq])
    rw [List.map_cons, List.map_cons, List.sum_cons, List.sum_cons, Nat.add_mul]
    omega
theorem parts_weight (t : Tr) : ShapedP t → weightR t ≤ 4000 → partsR t ≤ weightR t * 1114114 := by
  refine Tr.ind (P := fun t => ShapedP t → weightR t ≤ 4000 → partsR t ≤ weightR t * 1114114) (fun t ih => ?_) t
  intro hs hw
  obtain ⟨hf, hk, -, hkids⟩ := (shapedP_iff t).1 hs
  have hset : t.fld.set.length ≤ 1114112 ∧ (t.fld.op ≠ 4 → t.fld.set.length = 0) := by
    refine ⟨?_, fun h => by rw [hf.2.2.2.1 h]; rfl⟩
    by_cases h : t.fld.op = 4
    · have hr := (hf.2.2.2.2.2.2.2.2.2.1 h).1
      have := right_len t.fld.set 0 (by omega) hr
      omega
    · rw [hf.2.2.2.1 h]
      exact Nat.zero_le _
  have hkid : ∀ k ∈ t.kids, weightR k ≤ (t.kids.map weightR).sum := fun k hk => sum_mem_le (List.mem_map_of_mem hk)
  obtain ⟨S, hS⟩ : ∃ S, (t.kids.map weightR).sum = S := ⟨_, rfl⟩
  have hsum : S ≤ 4000 → (t.kids.map partsR).sum ≤ S * 1114114 := fun h => by
    rw [← hS]
    exact sum_parts _ fun k hk => ih k hk (hkids k hk) (Nat.le_trans (hkid k hk) (by omega))
  have hwe := weightR_eq t
  rw [hS] at hwe
  rw [partsR_eq]
  unfold weightN at hwe
  by_cases h6 : t.fld.op = 6
  · rw [if_pos h6] at hwe
    have h0 := hset.2 (by omega)
    unfold clipR at hwe
    have := hsum (by omega)
    omega
  rw [if_neg h6] at hwe
  by_cases h7 : t.fld.op = 7 ∨ t.fld.op = 8 ∨ t.fld.op = 9 ∨ t.fld.op = 11
  · rw [if_pos h7] at hwe
    have h0 := hset.2 (by omega)
    unfold clipR at hwe
    have := hsum (by omega)
    omega
  rw [if_neg h7] at hwe
  by_cases h10 : t.fld.op = 10
  · rw [if_pos h10] at hwe
    have h0 := hset.2 (by omega)
    obtain ⟨k, hk⟩ : ∃ k, clipR (max (max t.fld.min t.fld.max) 1).toNat = k := ⟨_, rfl⟩
    have hk1 : 1 ≤ k := by
      rw [← hk]
      unfold clipR
      omega
    rw [hk] at hwe
    have hm : clipR S ≤ k * clipR S := Nat.le_mul_of_pos_left _ hk1
    obtain ⟨m, hmm⟩ : ∃ m, k * clipR S = m := ⟨_, rfl⟩
    rw [hmm] at hwe hm
    unfold clipR at hwe hm
    have := hsum (by omega)
    omega
  rw [if_neg h10] at hwe
  by_cases h12 : t.fld.op = 12
  · rw [if_pos h12] at hwe
    have h0 := hset.2 (by omega)
    have h1 := hk.2.1 h12
    unfold clipR at hwe
    have := hsum (by omega)
    omega
  rw [if_neg h12] at hwe
  have h0 : t.kids.length = 0 := by
    have := hk.2.2
    omega
  have h1 : t.kids = [] := List.eq_nil_of_length_eq_zero h0
  rw [h1, hwe]
  have := hset.1
  simp only [List.map_nil, List.sum_nil]
  omega
theorem right_few {t : Tr} (h : RightT t) : partsR t ≤ 10000000000 := by
  have := parts_weight t h.2.2.1 h.2.1
  have := h.2.1
  omega
end Go.Proofs.Ythffdmncdoogpaa
/- What Simple makes of a right tree has not too many parts; how many runes a counted repeat of a rune becomes. No condition. -/
namespace Go.Proofs.Ythffdmncdoogpaa
open Go Go.RowKit

def sumS (l : List Tr) : Nat := (l.map partsR).sum
theorem sumS_cons (x : Tr) (l : List Tr) : sumS (x :: l) = partsR x + sumS l := by simp [sumS]
theorem sumS_app (a b : List Tr) : sumS (a ++ b) = sumS a + sumS b := by simp [sumS]
theorem sumS_rep (x : Tr) : ∀ n, sumS (List.replicate n x) = n * partsR x
  | 0 => by simp [sumS]
  | n + 1 => by rw [List.replicate_succ, sumS_cons, sumS_rep x n, Nat.add_mul]; omega
theorem partsS_mk (f : Fld) (l : List Tr) : partsR (.mk f l) = 1 + f.set.length + sumS l := partsR_eq _
theorem parts_empty : partsR emptyT = 1 := by rw [emptyT, partsS_mk]; rfl
theorem splice_parts (x : Tr) : sumS (spliceT x) ≤ partsR x := by
  unfold spliceT
  split
  · exact Nat.zero_le _
  · split
    · have := partsR_eq x
      unfold sumS
      omega
    · rw [sumS_cons]
      simp [sumS]
theorem spliced_parts : ∀ l : List Tr, sumS (spliced l) ≤ sumS l
  | [] => Nat.le_refl _
  | x :: l => by
    have h1 := splice_parts x
    have h2 := spliced_parts l
    unfold spliced at h2 ⊢
    rw [List.flatMap_cons, sumS_app, sumS_cons]
    omega
theorem cat_parts (l : List Tr) : partsR (catT l) ≤ 1 + sumS l := by
  match l with
  | [] => rw [catT, parts_empty]; omega
  | [x] => rw [catT, sumS_cons]; omega
  | x :: y :: l => rw [catT, partsS_mk]; simp [opF]
theorem joined_parts (l : List Tr) : partsR (joinedT l) ≤ 1 + sumS l := by
  unfold joinedT
  cases hn : firstNone l with
  | some x =>
    have := sum_mem_le (List.mem_map_of_mem (f := partsR) (firstNone_some hn).1)
    show partsR x ≤ _
    unfold sumS
    omega
  | none =>
    have h1 := cat_parts (spliced l)
    have h2 := spliced_parts l
    show partsR (catT (spliced l)) ≤ _
    omega
theorem looped_parts {f : Fld} (hf : f.set = []) (x : Tr) : partsR (loopedT f x) ≤ 1 + partsR x := by
  have h1 : partsR (.mk f [x]) = 1 + partsR x := by rw [partsS_mk, hf, sumS_cons]; simp [sumS]
  have h2 := parts_empty
  unfold loopedT
  split
  · split <;> omega
  · split
    · split <;> omega
    · split
      · split <;> omega
      · omega
theorem rest_parts (z : Bool) (x : Tr) : ∀ n, partsR (restT z x n) ≤ (n + 1) * (partsR x + 2)
  | 0 => by
    have := looped_parts (f := opF 9 z) rfl x
    unfold restT
    omega
  | n + 1 => by
    have h1 := looped_parts (f := opF 9 z) rfl (joinedT [x, restT z x n])
    have h2 := joined_parts [x, restT z x n]
    have h3 := rest_parts z x n
    rw [sumS_cons, sumS_cons, show sumS [] = 0 from rfl] at h2
    unfold restT
    have h4 : (n + 1 + 1) * (partsR x + 2) = (n + 1) * (partsR x + 2) + (partsR x + 2) := by rw [Nat.add_mul (n + 1)]; omega
    omega
/-- How often a counted repeat counts. -/
def timesR (f : Fld) : Nat := (max (max f.min f.max) 1).toNat
theorem repeated_parts {f : Fld} (x : Tr) (h0 : 0 ≤ f.min) (h1 : f.max = -1 ∨ f.min ≤ f.max) : partsR (repeatedT f x) ≤ timesR f * partsR x + 2 * timesR f + 1 := by
  obtain ⟨p, hp⟩ : ∃ p, partsR x = p := ⟨_, rfl⟩
  have hk : 1 ≤ timesR f := by unfold timesR; omega
  have hkp : p ≤ timesR f * p := Nat.le_mul_of_pos_left _ hk
  unfold repeatedT
  split
  · have := looped_parts (f := opF 7 f.lazy) rfl x
    rw [hp] at this ⊢
    omega
  · rename_i q1
    split
    · rename_i q2
      have g1 := joined_parts (List.replicate (f.min - 1).toNat x ++ [loopedT (opF 8 f.lazy) x])
      have g2 := looped_parts (f := opF 8 f.lazy) rfl x
      rw [sumS_app, sumS_rep, sumS_cons, show sumS [] = 0 from rfl] at g1
      have hm : timesR f = (f.min - 1).toNat + 1 := by unfold timesR; omega
      rw [hm, Nat.add_mul]
      rw [hp] at g1 g2 ⊢
      omega
    · rename_i q2
      have hmx : f.min ≤ f.max := by omega
      split
      · rename_i q3
        have g1 := joined_parts (List.replicate f.min.toNat x)
        rw [sumS_rep] at g1
        have hm : f.min.toNat ≤ timesR f := by unfold timesR; omega
        have := Nat.mul_le_mul_right (partsR x) hm
        omega
      · rename_i q3
        have g1 := joined_parts (List.replicate f.min.toNat x ++ [restT f.lazy x ((f.max - f.min).toNat - 1)])
        have g2 := rest_parts f.lazy x ((f.max - f.min).toNat - 1)
        rw [sumS_app, sumS_rep, sumS_cons, show sumS [] = 0 from rfl] at g1
        have hm : timesR f = f.min.toNat + ((f.max - f.min).toNat - 1 + 1) := by unfold timesR; omega
        rw [hm, Nat.add_mul]
        rw [Nat.mul_add] at g2
        omega
theorem alt_parts {f : Fld} (hf : f.set = []) (l : List Tr) : partsR (altT f l) ≤ 1 + sumS l := by
  match l with
  | [] => rw [altT, partsS_mk]; simp [opF]
  | [x] => rw [altT, sumS_cons]; omega
  | x :: y :: l => rw [altT, partsS_mk, hf]; simp
theorem filter_parts (q : Tr → Bool) : ∀ l : List Tr, sumS (l.filter q) ≤ sumS l
  | [] => Nat.le_refl _
  | x :: l => by
    have := filter_parts q l
    rw [List.filter_cons, sumS_cons]
    split
    · rw [sumS_cons]
      omega
    · omega
theorem sum_simple : ∀ (l : List Tr), (∀ k ∈ l, partsR (simpleT k) ≤ weightR k * 2228228) → sumS (l.map simpleT) ≤ (l.map weightR).sum * 2228228
  | [], _ => Nat.le_refl _
  | k :: l, h => by
    have h1 := h k (by simp)
    have h2 := sum_simple l fun q hq => h q (by simp [hq])
    rw [List.map_cons, List.map_cons, List.sum_cons, sumS_cons, Nat.add_mul]
    omega
theorem simple_weight (t : Tr) : ShapedP t → weightR t ≤ 4000 → partsR (simpleT t) ≤ weightR t * 2228228 := by
  refine Tr.ind (P := fun t => ShapedP t → weightR t ≤ 4000 → partsR (simpleT t) ≤ weightR t * 2228228) (fun t ih => ?_) t
  intro hs hw
  obtain ⟨hf, hk, -, hkids⟩ := (shapedP_iff t).1 hs
  have hset : t.fld.set.length ≤ 1114112 ∧ (t.fld.op ≠ 4 → t.fld.set = []) := by
    refine ⟨?_, fun h => hf.2.2.2.1 h⟩
    by_cases h : t.fld.op = 4
    · have hr := (hf.2.2.2.2.2.2.2.2.2.1 h).1
      have := right_len t.fld.set 0 (by omega) hr
      omega
    · rw [hf.2.2.2.1 h]
      exact Nat.zero_le _
  have hkid : ∀ k ∈ t.kids, weightR k ≤ (t.kids.map weightR).sum := fun k hk => sum_mem_le (List.mem_map_of_mem hk)
  obtain ⟨S, hS⟩ : ∃ S, (t.kids.map weightR).sum = S := ⟨_, rfl⟩
  have hsum : S ≤ 4000 → sumS (t.kids.map simpleT) ≤ S * 2228228 := fun h => by
    rw [← hS]
    exact sum_simple _ fun k hk => ih k hk (hkids k hk) (Nat.le_trans (hkid k hk) (by omega))
  have hwe := weightR_eq t
  rw [hS] at hwe
  rw [simpleT_eq]
  obtain ⟨L, hL⟩ : ∃ L, t.kids.map simpleT = L := ⟨_, rfl⟩
  rw [hL] at hsum ⊢
  have hLn : L.length = t.kids.length := by rw [← hL]; simp
  have hone : t.fld.op = 6 ∨ t.fld.op = 7 ∨ t.fld.op = 8 ∨ t.fld.op = 9 ∨ t.fld.op = 10 → ∃ x, L = [x] ∧ sumS L = partsR x := fun ho => by
    have h1 := hk.1 ho
    rw [← hLn] at h1
    match L, h1 with
    | [x], _ => exact ⟨x, rfl, by simp [sumS]⟩
  unfold weightN at hwe
  unfold madeT
  by_cases h6 : t.fld.op = 6
  · rw [if_pos h6] at hwe ⊢
    have hone := hone (.inl h6)
    obtain ⟨x, e, hx⟩ := hone
    clear hone
    have h0 := hset.2 (by omega)
    unfold clipR at hwe
    have hS4 : S ≤ 4000 := by omega
    have := hsum hS4
    have g : partsR (.mk t.fld L) = 1 + sumS L := by rw [partsS_mk, h0]; rfl
    subst e
    change partsR (if x.fld.op = 1 then x else .mk t.fld [x]) ≤ _
    split <;> omega
  rw [if_neg h6] at hwe ⊢
  by_cases h7 : t.fld.op = 7 ∨ t.fld.op = 8 ∨ t.fld.op = 9
  · rw [if_pos (by omega)] at hwe
    rw [if_pos h7]
    have hone := hone (show t.fld.op = 6 ∨ t.fld.op = 7 ∨ t.fld.op = 8 ∨ t.fld.op = 9 ∨ t.fld.op = 10 by omega)
    obtain ⟨x, e, hx⟩ := hone
    clear hone
    have h0 := hset.2 (by omega)
    unfold clipR at hwe
    have hS4 : S ≤ 4000 := by omega
    have := hsum hS4
    have g := looped_parts h0 x
    subst e
    simp only [List.headD_cons]
    omega
  by_cases h11 : t.fld.op = 11
  · rw [if_pos (by omega)] at hwe
    rw [if_neg h7, if_neg (by omega), if_pos h11]
    unfold clipR at hwe
    have hS4 : S ≤ 4000 := by omega
    have := hsum hS4
    have := joined_parts L
    omega
  rw [if_neg (by omega)] at hwe
  rw [if_neg h7]
  by_cases h10 : t.fld.op = 10
  · rw [if_pos h10] at hwe ⊢
    have hone := hone (show t.fld.op = 6 ∨ t.fld.op = 7 ∨ t.fld.op = 8 ∨ t.fld.op = 9 ∨ t.fld.op = 10 by omega)
    obtain ⟨x, e, hx⟩ := hone
    clear hone
    have hc := hf.2.2.2.2.2.2.2.2.2.2.2.2 h10
    have g := repeated_parts (f := t.fld) x hc.1.1 (by omega)
    have hk1 : 1 ≤ timesR t.fld := by unfold timesR; omega
    have hk0 : timesR t.fld ≤ 1000 := by unfold timesR; omega
    rw [show clipR (max (max t.fld.min t.fld.max) 1).toNat = timesR t.fld by unfold clipR; unfold timesR at hk0 ⊢; omega] at hwe
    obtain ⟨k, hkk⟩ : ∃ k, timesR t.fld = k := ⟨_, rfl⟩
    rw [hkk] at hwe g hk1 hk0
    have hm : clipR S ≤ k * clipR S := Nat.le_mul_of_pos_left _ hk1
    obtain ⟨m, hmm⟩ : ∃ m, k * clipR S = m := ⟨_, rfl⟩
    rw [hmm] at hwe hm
    unfold clipR at hwe hm
    have hS4 : S ≤ 4000 := by omega
    have h9 := hsum hS4
    rw [show clipR S = S by unfold clipR; omega] at hmm
    rw [hx] at h9
    have h10' : k * partsR x ≤ k * (S * 2228228) := Nat.mul_le_mul_left k h9
    rw [← Nat.mul_assoc, hmm] at h10'
    subst e
    simp only [List.headD_cons]
    omega
  rw [if_neg h10] at hwe ⊢
  rw [if_neg h11]
  by_cases h12 : t.fld.op = 12
  · rw [if_pos h12] at hwe ⊢
    have h0 := hset.2 (by omega)
    have h1 := hk.2.1 h12
    unfold clipR at hwe
    have hS4 : S ≤ 4000 := by omega
    have := hsum hS4
    have := alt_parts h0 (L.filter fun k => k.fld.op != 1)
    have := filter_parts (fun k => k.fld.op != 1) L
    omega
  rw [if_neg h12] at hwe ⊢
  have h0 : L = [] := List.eq_nil_of_length_eq_zero (by rw [hLn]; have := hk.2.2; omega)
  rw [h0, hwe, partsS_mk]
  have := hset.1
  simp only [sumS, List.map_nil, List.sum_nil]
  omega
theorem simple_few {t : Tr} (h : RightT t) : partsR (simpleT t) ≤ 10000000000 := by
  have := simple_weight t h.2.2.1 h.2.1
  have := h.2.1
  omega

/-- How many nodes of Op 3 a tree has. -/
def runesN : Tr → Nat := Tr.para fun t l => (if t.fld.op = 3 then 1 else 0) + l.sum
theorem runesN_eq (t : Tr) : runesN t = (if t.fld.op = 3 then 1 else 0) + (t.kids.map runesN).sum := Tr.para_eq _ t
theorem runesN_mk (f : Fld) (l : List Tr) : runesN (.mk f l) = (if f.op = 3 then 1 else 0) + (l.map runesN).sum := runesN_eq _
theorem runesN_parts (t : Tr) : runesN t ≤ partsR t := by
  refine Tr.ind (P := fun t => runesN t ≤ partsR t) (fun t ih => ?_) t
  rw [runesN_eq, partsR_eq]
  have := flat_le (f := runesN) (g := partsR) t.kids ih
  split <;> omega
theorem cat_runes (l : List Tr) : runesN (catT l) = (l.map runesN).sum := by
  match l with
  | [] => rw [catT, emptyT, runesN_mk]; simp [opF]
  | [x] => rw [catT]; simp
  | x :: y :: l => rw [catT, runesN_mk]; simp [opF]
theorem joined_same {l : List Tr} (h : ∀ k ∈ l, k.fld.op ≠ 1 ∧ k.fld.op ≠ 2 ∧ k.fld.op ≠ 11) : joinedT l = catT l := by
  unfold joinedT
  rw [firstNone_none.2 fun k hk => (h k hk).1, spliced_same fun k hk => (h k hk).2]
  rfl
theorem looped_rune {f : Fld} {x : Tr} (h3 : x.fld.op = 3) : loopedT f x = .mk f [x] := by
  have hs : ¬ sStill x := fun h => ((sStill_iff x).1 h).1 (.inl h3)
  unfold loopedT
  rw [if_neg hs, if_neg hs, if_neg (by omega : ¬ (x.fld.op = 1 ∨ x.fld.op = 2))]
  simp only [ite_self]
theorem rest_runes {z : Bool} {x : Tr} (h3 : x.fld.op = 3) (h1 : runesN x = 1) : ∀ n, (restT z x n).fld.op = 9 ∧ runesN (restT z x n) = n + 1
  | 0 => by
    unfold restT
    rw [looped_rune h3]
    exact ⟨rfl, by rw [runesN_mk]; simp [opF, h1]⟩
  | n + 1 => by
    obtain ⟨g1, g2⟩ := rest_runes (z := z) h3 h1 n
    have hj : joinedT [x, restT z x n] = .mk (opF 11 false) [x, restT z x n] := by
      rw [joined_same]
      · rfl
      · intro k hk
        rcases List.mem_cons.1 hk with rfl | hk
        · omega
        · obtain rfl : k = restT z x n := by simpa using hk
          omega
    unfold restT
    rw [hj]
    unfold loopedT
    rw [if_neg (by simp [opF]), if_neg (by simp [opF]), if_pos (by simp [opF]), if_neg (by simp [opF, Tr.fld])]
    refine ⟨rfl, ?_⟩
    rw [runesN_mk]
    simp only [List.map_cons, List.map_nil, List.sum_cons, List.sum_nil, runesN_mk, h1, g2, opF]
    simp
    omega
theorem sum_rep (x : Tr) (h1 : runesN x = 1) : ∀ n, ((List.replicate n x).map runesN).sum = n
  | 0 => rfl
  | n + 1 => by rw [List.replicate_succ, List.map_cons, List.sum_cons, sum_rep x h1 n, h1]; omega
/-- A rune's counted repeat has as many runes as it may fit at most, or, without an end, as at least. -/
theorem repeated_runes {f : Fld} {x : Tr} (h3 : x.fld.op = 3) (h1 : runesN x = 1) (h0 : 0 ≤ f.min) (hm : f.max = -1 ∨ f.min ≤ f.max) : (runesN (repeatedT f x) : Int) = if f.max = -1 then max f.min 1 else f.max := by
  have hrep : ∀ n, ∀ k ∈ List.replicate n x, k.fld.op ≠ 1 ∧ k.fld.op ≠ 2 ∧ k.fld.op ≠ 11 := fun n k hk => by rw [List.eq_of_mem_replicate hk]; omega
  have h2 : ∀ n y, (y.fld.op = 8 ∨ y.fld.op = 9) → ∀ k ∈ List.replicate n x ++ [y], k.fld.op ≠ 1 ∧ k.fld.op ≠ 2 ∧ k.fld.op ≠ 11 := fun n y hy k hk => by
    rcases List.mem_append.1 hk with hk | hk
    · exact hrep n k hk
    · obtain rfl : k = y := by simpa using hk
      omega
  unfold repeatedT
  by_cases q0 : f.max = -1
  · rw [if_pos q0]
    by_cases q1 : f.min = 0
    · rw [if_pos ⟨by omega, q1⟩, looped_rune h3, runesN_mk, q1]
      simp [opF, h1]
      decide
    · rw [if_neg (by omega), if_pos (by omega), joined_same (h2 _ _ (by rw [looped_rune h3]; exact .inl rfl)), cat_runes, List.map_append, List.sum_append, sum_rep x h1, looped_rune h3]
      simp only [List.map_cons, List.map_nil, List.sum_cons, List.sum_nil, runesN_mk, h1, opF]
      simp
      omega
  · rw [if_neg q0, if_neg (by omega), if_neg (by omega)]
    by_cases q1 : f.max = f.min
    · rw [if_pos q1, joined_same (hrep _), cat_runes, sum_rep x h1]
      omega
    · rw [if_neg q1]
      obtain ⟨g1, g2⟩ := rest_runes (z := f.lazy) h3 h1 ((f.max - f.min).toNat - 1)
      rw [joined_same (h2 _ _ (.inr g1)), cat_runes, List.map_append, List.sum_append, sum_rep x h1]
      simp only [List.map_cons, List.map_nil, List.sum_cons, List.sum_nil, g2]
      omega
end Go.Proofs.Ythffdmncdoogpaa
/- How great what is made of a right tree's Kids may be. Written by gen10.py. -/
namespace Go.Proofs.Ythffdmncdoogpaa
open Go Go.RowKit

theorem kid_weight (t : Tr) (hs : ShapedP t) (hw : weightR t ≤ 4000) : (t.kids.map weightR).sum ≤ 4000 := by
  obtain ⟨hf, hk, -, -⟩ := (shapedP_iff t).1 hs
  have hwe := weightR_eq t
  obtain ⟨S, hS⟩ : ∃ S, (t.kids.map weightR).sum = S := ⟨_, rfl⟩
  rw [hS] at hwe ⊢
  unfold weightN at hwe
  by_cases h6 : t.fld.op = 6
  · rw [if_pos h6] at hwe
    unfold clipR at hwe
    omega
  rw [if_neg h6] at hwe
  by_cases h7 : t.fld.op = 7 ∨ t.fld.op = 8 ∨ t.fld.op = 9 ∨ t.fld.op = 11
  · rw [if_pos h7] at hwe
    unfold clipR at hwe
    omega
  rw [if_neg h7] at hwe
  by_cases h10 : t.fld.op = 10
  · rw [if_pos h10] at hwe
    obtain ⟨k, hkk⟩ : ∃ k, clipR (max (max t.fld.min t.fld.max) 1).toNat = k := ⟨_, rfl⟩
    have hk1 : 1 ≤ k := by rw [← hkk]; unfold clipR; omega
    rw [hkk] at hwe
    have hm : clipR S ≤ k * clipR S := Nat.le_mul_of_pos_left _ hk1
    obtain ⟨m, hmm⟩ : ∃ m, k * clipR S = m := ⟨_, rfl⟩
    rw [hmm] at hwe hm
    unfold clipR at hwe hm
    omega
  rw [if_neg h10] at hwe
  by_cases h12 : t.fld.op = 12
  · rw [if_pos h12] at hwe
    unfold clipR at hwe
    omega
  have h0 : t.kids = [] := List.eq_nil_of_length_eq_zero (by have := hk.2.2; omega)
  rw [h0] at hS
  rw [← hS]
  simp
theorem kid_one (t : Tr) (hs : ShapedP t) (hw : weightR t ≤ 4000) (k : Tr) (h : k ∈ t.kids) : weightR k ≤ 4000 := Nat.le_trans (sum_mem_le (List.mem_map_of_mem h)) (kid_weight t hs hw)
theorem kids_made (t : Tr) (hs : ShapedP t) (hw : weightR t ≤ 4000) : sumS (t.kids.map simpleT) ≤ (t.kids.map weightR).sum * 2228228 :=
  sum_simple _ fun k hk => simple_weight k (((shapedP_iff t).1 hs).2.2.2 k hk) (kid_one t hs hw k hk)
theorem kids_few (t : Tr) (hs : ShapedP t) (hw : weightR t ≤ 4000) : (spliced (t.kids.map simpleT)).length ≤ 1172812402961 := by
  have h1 := kids_made t hs hw
  have h2 := kid_weight t hs hw
  have h3 := spliced_parts (t.kids.map simpleT)
  have h4 := length_le_sum (spliced (t.kids.map simpleT))
  unfold sumS at h1 h3
  omega
theorem rep_bound (t : Tr) (hs : ShapedP t) (hw : weightR t ≤ 4000) (h10 : t.fld.op = 10) (x : Tr) (hx : t.kids.map simpleT = [x]) : timesR t.fld * partsR x ≤ 10000000000 := by
  obtain ⟨hf, -⟩ := (shapedP_iff t).1 hs
  have hwe := weightR_eq t
  have h1 := kids_made t hs hw
  have h2 := kid_weight t hs hw
  obtain ⟨S, hS⟩ : ∃ S, (t.kids.map weightR).sum = S := ⟨_, rfl⟩
  rw [hS] at hwe h1 h2
  rw [hx, sumS_cons, show sumS [] = 0 from rfl] at h1
  unfold weightN at hwe
  rw [if_neg (by omega), if_neg (by omega), if_pos h10] at hwe
  have hc := hf.2.2.2.2.2.2.2.2.2.2.2.2 h10
  have hk0 : timesR t.fld ≤ 1000 := by unfold timesR; omega
  rw [show clipR (max (max t.fld.min t.fld.max) 1).toNat = timesR t.fld by unfold clipR; unfold timesR at hk0 ⊢; omega, show clipR S = S by unfold clipR; omega] at hwe
  obtain ⟨m, hmm⟩ : ∃ m, timesR t.fld * S = m := ⟨_, rfl⟩
  rw [hmm] at hwe
  unfold clipR at hwe
  have h3 : timesR t.fld * partsR x ≤ timesR t.fld * (S * 2228228) := Nat.mul_le_mul_left _ (by omega)
  rw [← Nat.mul_assoc, hmm] at h3
  omega
end Go.Proofs.Ythffdmncdoogpaa
