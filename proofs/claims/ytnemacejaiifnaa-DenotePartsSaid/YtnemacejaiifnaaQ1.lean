/- Texts merged by program: DnQ, DnDfs, DnWays, DnGroups, DnReach, DnGone. No condition. -/
set_option linter.unusedVariables false
/- What a tree means, as plain data: core trees with numbered marks, all ways through one, in their order, and the machine that goes them with what it met kept. No condition. -/
namespace Go.Proofs.Ytnemacejaiifnaa

/-- Core trees: a rune, a place are what fits at a place; a mark is what is gone on from once at each place. -/
inductive Q where
  | none
  | eps
  | sym (p : Nat → Bool)
  | look (p : Nat → Bool)
  | cap (g : Nat) (x : Q)
  | seq (x y : Q)
  | altN
  | altC (x r : Q)
  | quest (z : Bool) (x : Q)
  | star (a : Nat) (z : Bool) (x : Q)
  | plus (a b : Nat) (z : Bool) (x : Q)
  | mk (a : Nat) (y : Q)
/-- What is left to do, one thing behind the other. -/
inductive DFr where
  | q (x : Q)
  | capEnd (g : Nat)
  | ask (a b : Nat) (z : Bool) (x : Q)
abbrev Ks := List DFr
/-- A place, and a fit. -/
abbrev Out := Nat × List Int
def ei {α : Type} (z : Bool) (more stop : List α) : List α := if z then stop ++ more else more ++ stop

/-- How many Kids an Alt has. -/
def alen : Q → Nat
  | .altC _ r => alen r + 1
  | .altN => 0
  | _ => 1
/-- All ways, in their order, of what is left to do at a place, with a fit, and what was met there. -/
inductive GW : Nat → Ks → Nat → List Int → List Nat → List Out → Prop where
  | fin {n i c S} : GW (n + 1) [] i c S [(i, c)]
  | none {n K i c S} : GW (n + 1) (.q .none :: K) i c S []
  | eps {n K i c S L} : GW n K i c S L → GW (n + 1) (.q .eps :: K) i c S L
  | symT {n K i c S L p} : p i = true → GW n K (i + 1) c [] L → GW (n + 1) (.q (.sym p) :: K) i c S L
  | symF {n K i c S p} : p i = false → GW (n + 1) (.q (.sym p) :: K) i c S []
  | lookT {n K i c S L p} : p i = true → GW n K i c S L → GW (n + 1) (.q (.look p) :: K) i c S L
  | lookF {n K i c S p} : p i = false → GW (n + 1) (.q (.look p) :: K) i c S []
  | cap {n K i c S L g x} : GW n (.q x :: .capEnd g :: K) i (c.set (2 * g) i) S L → GW (n + 1 + 1) (.q (.cap g x) :: K) i c S L
  | capEnd {n K i c S L g} : GW n K i (c.set (2 * g + 1) i) S L → GW (n + 1 + 1) (.capEnd g :: K) i c S L
  | seq {n K i c S L x y} : GW n (.q x :: .q y :: K) i c S L → GW (n + 1) (.q (.seq x y) :: K) i c S L
  | altN {n K i c S} : GW (n + 1) (.q .altN :: K) i c S []
  | altC {k n m K i c S L1 L2 x r} : GW n (.q x :: K) i c S L1 → GW m (.q r :: K) i c S L2 → n + 1 + alen r ≤ k → m ≤ k → GW k (.q (.altC x r) :: K) i c S (L1 ++ L2)
  | quest {n K i c S L1 L2 z x} : GW n (.q x :: K) i c S L1 → GW n K i c S L2 → GW (n + 1 + 1) (.q (.quest z x) :: K) i c S (ei z L1 L2)
  | mkF {n K i c S a y} : a ∈ S → GW (n + 1) (.q (.mk a y) :: K) i c S []
  | mkT {n K i c S L a y} : a ∉ S → GW n (.q y :: K) i c (a :: S) L → GW (n + 1) (.q (.mk a y) :: K) i c S L
  | starF {n K i c S a z x} : a ∈ S → GW (n + 1) (.q (.star a z x) :: K) i c S []
  | starT {n K i c S L1 L2 a z x} : a ∉ S → GW n (.q x :: .q (.star a z x) :: K) i c (a :: S) L1 → GW n K i c (a :: S) L2 → GW (n + 1 + 1) (.q (.star a z x) :: K) i c S (ei z L1 L2)
  | plusF {n K i c S a b z x} : a ∈ S → GW (n + 1) (.q (.plus a b z x) :: K) i c S []
  | plusT {n K i c S L a b z x} : a ∉ S → GW n (.q x :: .ask a b z x :: K) i c (a :: S) L → GW (n + 1) (.q (.plus a b z x) :: K) i c S L
  | askF {n K i c S a b z x} : b ∈ S → GW (n + 1) (.ask a b z x :: K) i c S []
  | askT {n K i c S L1 L2 a b z x} : b ∉ S → GW n (.q (.plus a b z x) :: K) i c (b :: S) L1 → GW n K i c (b :: S) L2 → GW (n + 1 + 1) (.ask a b z x :: K) i c S (ei z L1 L2)

/-- What stands on the machine's stack. -/
inductive Ent where
  | go (K : Ks) (i : Nat)
  | put (k : Nat) (v : Int)
structure Am where
  V : Nat → Nat → Bool
  fit : List Int
  left : List Ent
  arr : List Out
namespace Am
def push (s : Am) (e : Ent) : Am := { s with left := e :: s.left }
def mark (s : Am) (a i : Nat) : Am := { s with V := fun b j => s.V b j || (b == a && j == i) }
def two (s : Am) (z : Bool) (more stop : Ks) (i : Nat) : Am := if z then (s.push (.go more i)).push (.go stop i) else (s.push (.go stop i)).push (.go more i)
def keep (s : Am) (k : Nat) (i : Nat) : Am := { s with fit := s.fit.set k i, left := .put k (s.fit.getD k 0) :: s.left }
end Am
/-- The Kids of an Alt, as they stand on the stack. -/
def altEnts : Q → Ks → Nat → List Ent
  | .altC x r, K, i => .go (.q x :: K) i :: altEnts r K i
  | .altN, _, _ => []
  | x, K, i => [.go (.q x :: K) i]
/-- One call of a part. -/
def callQ : Q → Ks → Nat → Am → Am
  | .none, _, _, s => s
  | .eps, K, i, s => s.push (.go K i)
  | .sym p, K, i, s => if p i then s.push (.go K (i + 1)) else s
  | .look p, K, i, s => if p i then s.push (.go K i) else s
  | .cap g x, K, i, s => (s.keep (2 * g) i).push (.go (.q x :: .capEnd g :: K) i)
  | .seq x y, K, i, s => callQ x (.q y :: K) i s
  | .altN, _, _, s => s
  | .altC x r, K, i, s => { s with left := .go (.q x :: K) i :: (altEnts r K i ++ s.left) }
  | .quest z x, K, i, s => s.two z (.q x :: K) K i
  | .mk a y, K, i, s => if s.V a i then s else callQ y K i (s.mark a i)
  | .star a z x, K, i, s => if s.V a i then s else (s.mark a i).two z (.q x :: .q (.star a z x) :: K) K i
  | .plus a b z x, K, i, s => if s.V a i then s else callQ x (.ask a b z x :: K) i (s.mark a i)
def call : Ks → Nat → Am → Am
  | [], i, s => { s with arr := s.arr ++ [(i, s.fit)] }
  | .q x :: K, i, s => callQ x K i s
  | .capEnd g :: K, i, s => (s.keep (2 * g + 1) i).push (.go K i)
  | .ask a b z x :: K, i, s => if s.V b i then s else (s.mark b i).two z (.q (.plus a b z x) :: K) K i
def step (s : Am) : Am :=
  match s.left with
  | [] => s
  | .go K i :: l => call K i { s with left := l }
  | .put k v :: l => { s with left := l, fit := s.fit.set k v }
/-- So many steps lead from s to s', and nowhere ahead of each is the stack longer than B. -/
inductive Runs (B : Nat) : Nat → Am → Am → Prop where
  | zero {s} : Runs B 0 s s
  | succ {n s s'} : s.left ≠ [] → s.left.length ≤ B → Runs B n (step s) s' → Runs B (n + 1) s s'
theorem Runs.trans {B m n s t u} (h : Runs B m s t) (k : Runs B n t u) : Runs B (m + n) s u := by
  induction h with
  | zero => rw [Nat.zero_add]; exact k
  | succ h1 h2 _ ih => rw [Nat.add_right_comm]; exact .succ h1 h2 (ih k)
theorem Runs.one {B s e l} (hl : s.left = e :: l) (hb : l.length + 1 ≤ B) : Runs B 1 s (step s) := .succ (by rw [hl]; simp) (by rw [hl]; simpa using hb) .zero

/-- All marks of a tree, each with what is left to do where it stands. -/
def nodesQ : Q → Ks → List (Nat × Ks)
  | .cap g x, K => nodesQ x (.capEnd g :: K)
  | .seq x y, K => nodesQ x (.q y :: K) ++ nodesQ y K
  | .altC x r, K => nodesQ x K ++ nodesQ r K
  | .quest _ x, K => nodesQ x K
  | .mk a y, K => (a, .q (.mk a y) :: K) :: nodesQ y K
  | .star a z x, K => (a, .q (.star a z x) :: K) :: nodesQ x (.q (.star a z x) :: K)
  | .plus a b z x, K => (a, .q (.plus a b z x) :: K) :: (b, .ask a b z x :: K) :: nodesQ x (.ask a b z x :: K)
  | _, _ => []
def nodesK : Ks → List (Nat × Ks)
  | [] => []
  | .q x :: K => nodesQ x K ++ nodesK K
  | .capEnd _ :: K => nodesK K
  | .ask a b z x :: K => nodesQ (.plus a b z x) K ++ nodesK K
/-- The numbers of a tree's marks. -/
def idsQ : Q → List Nat
  | .cap _ x => idsQ x
  | .seq x y => idsQ x ++ idsQ y
  | .altC x r => idsQ x ++ idsQ r
  | .quest _ x => idsQ x
  | .mk a y => a :: idsQ y
  | .star a _ x => a :: idsQ x
  | .plus a b _ x => a :: b :: idsQ x
  | _ => []
theorem nodesQ_ids (x : Q) : ∀ K, (nodesQ x K).map Prod.fst = idsQ x := by
  induction x with
  | none => intro K; rfl
  | eps => intro K; rfl
  | sym p => intro K; rfl
  | look p => intro K; rfl
  | cap g x ih => intro K; exact ih _
  | seq x y ih1 ih2 => intro K; simp only [nodesQ, idsQ, List.map_append, ih1, ih2]
  | altN => intro K; rfl
  | altC x y ih1 ih2 => intro K; simp only [nodesQ, idsQ, List.map_append, ih1, ih2]
  | quest z x ih => intro K; exact ih _
  | star a z x ih => intro K; simp only [nodesQ, idsQ, List.map_cons, ih]
  | plus a b z x ih => intro K; simp only [nodesQ, idsQ, List.map_cons, ih]
  | mk a y ih => intro K; simp only [nodesQ, idsQ, List.map_cons, ih]
/-- What is left to do is of a table of marks. -/
def Val (T : List (Nat × Ks)) (K : Ks) : Prop := ∀ p ∈ nodesK K, p ∈ T
theorem Val.tail {T f K} (h : Val T (f :: K)) : Val T K := fun p hp => h p (by
  cases f <;> simp only [nodesK, List.mem_append] <;> first | exact .inr hp | exact hp)
theorem val_cons {T x K} : Val T (.q x :: K) ↔ (∀ p ∈ nodesQ x K, p ∈ T) ∧ Val T K := by
  unfold Val
  simp only [nodesK, List.mem_append]
  exact ⟨fun h => ⟨fun p hp => h p (.inl hp), fun p hp => h p (.inr hp)⟩, fun h p hp => hp.elim (h.1 p) (h.2 p)⟩
theorem val_end {T g K} : Val T (.capEnd g :: K) ↔ Val T K := Iff.rfl
theorem val_ask {T a b z x K} : Val T (.ask a b z x :: K) ↔ Val T (.q (.plus a b z x) :: K) := Iff.rfl
theorem val_cap {T g x K} (h : Val T (.q (.cap g x) :: K)) : Val T (.q x :: .capEnd g :: K) := by
  rw [val_cons] at h ⊢
  exact h
theorem val_seq {T x y K} (h : Val T (.q (.seq x y) :: K)) : Val T (.q x :: .q y :: K) := by
  rw [val_cons] at h ⊢
  rw [val_cons]
  simp only [nodesQ, List.mem_append] at h
  exact ⟨fun p hp => h.1 p (.inl hp), fun p hp => h.1 p (.inr hp), h.2⟩
theorem val_alt {T x r K} (h : Val T (.q (.altC x r) :: K)) : Val T (.q x :: K) ∧ Val T (.q r :: K) := by
  rw [val_cons] at h ⊢
  rw [val_cons]
  simp only [nodesQ, List.mem_append] at h
  exact ⟨⟨fun p hp => h.1 p (.inl hp), h.2⟩, fun p hp => h.1 p (.inr hp), h.2⟩
theorem val_quest {T z x K} (h : Val T (.q (.quest z x) :: K)) : Val T (.q x :: K) := by
  rw [val_cons] at h ⊢
  exact h
theorem val_mk {T a y K} (h : Val T (.q (.mk a y) :: K)) : (a, .q (.mk a y) :: K) ∈ T ∧ Val T (.q y :: K) := by
  rw [val_cons] at h ⊢
  simp only [nodesQ, List.mem_cons] at h
  exact ⟨h.1 _ (.inl rfl), fun p hp => h.1 p (.inr hp), h.2⟩
theorem val_star {T a z x K} (h : Val T (.q (.star a z x) :: K)) : (a, .q (.star a z x) :: K) ∈ T ∧ Val T (.q x :: .q (.star a z x) :: K) := by
  refine ⟨(val_cons.1 h).1 _ (List.mem_cons_self ..), ?_⟩
  rw [val_cons]
  exact ⟨fun p hp => (val_cons.1 h).1 p (List.mem_cons_of_mem _ hp), h⟩
theorem val_plus {T a b z x K} (h : Val T (.q (.plus a b z x) :: K)) : (a, .q (.plus a b z x) :: K) ∈ T ∧ (b, .ask a b z x :: K) ∈ T ∧ Val T (.q x :: .ask a b z x :: K) := by
  refine ⟨(val_cons.1 h).1 _ (List.mem_cons_self ..), (val_cons.1 h).1 _ (List.mem_cons_of_mem _ (List.mem_cons_self ..)), ?_⟩
  rw [val_cons]
  exact ⟨fun p hp => (val_cons.1 h).1 p (List.mem_cons_of_mem _ (List.mem_cons_of_mem _ hp)), h⟩
end Go.Proofs.Ytnemacejaiifnaa
/- The machine that keeps what it met finds, of all ways in their order, the first one to each place. No condition. -/
namespace Go.Proofs.Ytnemacejaiifnaa

/-- A is L without some of those whose place stands ahead of them, or in P. -/
inductive Thin : List Nat → List Out → List Out → Prop where
  | nil {P} : Thin P [] []
  | keep {P x L A} : Thin (x.1 :: P) L A → Thin P (x :: L) (x :: A)
  | drop {P x L A} : x.1 ∈ P → Thin P L A → Thin P (x :: L) A
theorem Thin.mono {P P' : List Nat} {L A : List Out} (h : Thin P L A) (hp : ∀ x ∈ P, x ∈ P') : Thin P' L A := by
  induction h generalizing P' with
  | nil => exact .nil
  | keep _ ih => exact .keep (ih fun y hy => (List.mem_cons.1 hy).elim (fun e => e ▸ List.mem_cons_self ..) fun h => List.mem_cons_of_mem _ (hp y h))
  | drop h1 _ ih => exact .drop (hp _ h1) (ih hp)
theorem Thin.refl (P : List Nat) : ∀ L : List Out, Thin P L L
  | [] => .nil
  | x :: L => .keep (Thin.refl _ L)
theorem Thin.gone {P : List Nat} : ∀ {L : List Out}, (∀ o ∈ L, o.1 ∈ P) → Thin P L []
  | [], _ => .nil
  | x :: L, h => .drop (h x (List.mem_cons_self ..)) (Thin.gone fun o ho => h o (List.mem_cons_of_mem _ ho))
theorem Thin.append {P : List Nat} {L1 A1 L2 A2 : List Out} (h : Thin P L1 A1) (k : Thin (P ++ A1.map Prod.fst) L2 A2) : Thin P (L1 ++ L2) (A1 ++ A2) := by
  induction h with
  | nil => exact k.mono (by simp)
  | keep _ ih => exact .keep (ih (k.mono fun y hy => by simp only [List.map_cons, List.cons_append, List.mem_append, List.mem_cons] at hy ⊢; grind))
  | drop h1 _ ih => exact .drop h1 (ih k)
/-- The first one of each place alone; of those in P none. -/
def firsts : List Nat → List Out → List Out
  | _, [] => []
  | P, x :: L => if x.1 ∈ P then firsts P L else x :: firsts (x.1 :: P) L
theorem Thin.firsts {P P' : List Nat} {L A : List Out} (h : Thin P L A) (hp : ∀ x ∈ P, x ∈ P') : firsts P' L = firsts P' A := by
  induction h generalizing P' with
  | nil => rfl
  | @keep P x L A _ ih =>
    unfold Go.Proofs.Ytnemacejaiifnaa.firsts
    split
    · rename_i h1
      exact ih fun y hy => (List.mem_cons.1 hy).elim (fun e => e ▸ h1) (hp y)
    · rw [ih fun y hy => (List.mem_cons.1 hy).elim (fun e => e ▸ List.mem_cons_self ..) fun h => List.mem_cons_of_mem _ (hp y h)]
  | drop h1 _ ih =>
    rw [Go.Proofs.Ytnemacejaiifnaa.firsts, if_pos (hp _ h1)]
    exact ih hp

/-- All that can be met next is met: of marks V, of ends P. -/
inductive Clo (V : Nat → Nat → Bool) (P : List Nat) : Ks → Nat → Prop where
  | fin {i} : i ∈ P → Clo V P [] i
  | none {K i} : Clo V P (.q .none :: K) i
  | eps {K i} : Clo V P K i → Clo V P (.q .eps :: K) i
  | sym {K i p} : (p i = true → Clo V P K (i + 1)) → Clo V P (.q (.sym p) :: K) i
  | look {K i p} : (p i = true → Clo V P K i) → Clo V P (.q (.look p) :: K) i
  | cap {K i g x} : Clo V P (.q x :: .capEnd g :: K) i → Clo V P (.q (.cap g x) :: K) i
  | capEnd {K i g} : Clo V P K i → Clo V P (.capEnd g :: K) i
  | seq {K i x y} : Clo V P (.q x :: .q y :: K) i → Clo V P (.q (.seq x y) :: K) i
  | altN {K i} : Clo V P (.q .altN :: K) i
  | altC {K i x r} : Clo V P (.q x :: K) i → Clo V P (.q r :: K) i → Clo V P (.q (.altC x r) :: K) i
  | quest {K i z x} : Clo V P (.q x :: K) i → Clo V P K i → Clo V P (.q (.quest z x) :: K) i
  | mk {K i a y} : V a i = true → Clo V P (.q (.mk a y) :: K) i
  | star {K i a z x} : V a i = true → Clo V P (.q (.star a z x) :: K) i
  | plus {K i a b z x} : V a i = true → Clo V P (.q (.plus a b z x) :: K) i
  | ask {K i a b z x} : V b i = true → Clo V P (.ask a b z x :: K) i
theorem Clo.mono {V V' : Nat → Nat → Bool} {P P' : List Nat} {K : Ks} {i : Nat} (h : Clo V P K i) (hv : ∀ a i, V a i = true → V' a i = true) (hp : ∀ x ∈ P, x ∈ P') : Clo V' P' K i := by
  induction h with
  | fin h => exact .fin (hp _ h)
  | none => exact .none
  | eps _ ih => exact .eps ih
  | sym _ ih => exact .sym ih
  | look _ ih => exact .look ih
  | cap _ ih => exact .cap ih
  | capEnd _ ih => exact .capEnd ih
  | seq _ ih => exact .seq ih
  | altN => exact .altN
  | altC _ _ ih1 ih2 => exact .altC ih1 ih2
  | quest _ _ ih1 ih2 => exact .quest ih1 ih2
  | mk h => exact .mk (hv _ _ h)
  | star h => exact .star (hv _ _ h)
  | plus h => exact .plus (hv _ _ h)
  | ask h => exact .ask (hv _ _ h)
/-- All that a mark leads to is met. -/
def CloB (V : Nat → Nat → Bool) (P : List Nat) : Ks → Nat → Prop
  | .q (.mk _ y) :: K, i => Clo V P (.q y :: K) i
  | .q (.star a z x) :: K, i => Clo V P (.q x :: .q (.star a z x) :: K) i ∧ Clo V P K i
  | .q (.plus a b z x) :: K, i => Clo V P (.q x :: .ask a b z x :: K) i
  | .ask a b z x :: K, i => Clo V P (.q (.plus a b z x) :: K) i ∧ Clo V P K i
  | _, _ => True
theorem CloB.mono {V V' : Nat → Nat → Bool} {P P' : List Nat} {K : Ks} {i : Nat} (h : CloB V P K i) (hv : ∀ a i, V a i = true → V' a i = true) (hp : ∀ x ∈ P, x ∈ P') : CloB V' P' K i := by
  unfold CloB at h ⊢
  split
  · exact h.mono hv hp
  · exact ⟨h.1.mono hv hp, h.2.mono hv hp⟩
  · exact h.mono hv hp
  · exact ⟨h.1.mono hv hp, h.2.mono hv hp⟩
  · trivial
/-- What is met and done with leads to nothing that is not met. -/
def Black (T : List (Nat × Ks)) (V : Nat → Nat → Bool) (P : List Nat) (G : List (Nat × Nat)) : Prop := ∀ a j F, V a j = true → (a, j) ∉ G → (a, F) ∈ T → CloB V P F j
/-- What the way came to itself, at earlier places, or here. -/
def Gray (G : List (Nat × Nat)) (i : Nat) (S : List Nat) : Prop := ∀ a j, (a, j) ∈ G → j < i ∨ (j = i ∧ a ∈ S)
theorem Gray.next {G i S} (h : Gray G i S) : Gray G (i + 1) [] := fun a j hj => .inl (by rcases h a j hj with h | h <;> omega)
theorem Gray.more {G i S} (h : Gray G i S) (a : Nat) : Gray G i (a :: S) := fun b j hj => (h b j hj).imp id fun h => ⟨h.1, List.mem_cons_of_mem _ h.2⟩
theorem Gray.add {G i S} (h : Gray G i S) (a : Nat) : Gray ((a, i) :: G) i (a :: S) := fun b j hj => by
  rcases List.mem_cons.1 hj with e | hj
  · obtain ⟨rfl, rfl⟩ := Prod.mk.inj e
    exact .inr ⟨rfl, List.mem_cons_self ..⟩
  · exact h.more a b j hj
theorem Gray.not {G i S a} (h : Gray G i S) (ha : a ∉ S) : (a, i) ∉ G := fun hg => by
  rcases h a i hg with h | h
  · omega
  · exact ha h.2
theorem mem_ei {o : Out} {z : Bool} {L1 L2 : List Out} (h : o ∈ ei z L1 L2) : o ∈ L1 ∨ o ∈ L2 := by
  unfold ei at h
  split at h
  · exact (List.mem_append.1 h).symm
  · exact List.mem_append.1 h
/-- From what is met all ways end where one ended. -/
theorem black_ends {T : List (Nat × Ks)} {V : Nat → Nat → Bool} {P : List Nat} {G : List (Nat × Nat)} (hB : Black T V P G) {n : Nat} {K : Ks} {i : Nat} {c : List Int} {S : List Nat} {L : List Out} (h : GW n K i c S L) :
    Clo V P K i → Gray G i S → Val T K → ∀ o ∈ L, o.1 ∈ P := by
  induction h with
  | fin => rintro (h | _) _ _ o ho; rw [List.mem_singleton.1 ho]; exact h
  | none => intro _ _ _ o ho; cases ho
  | eps _ ih => rintro (_ | _ | h) hg hv; exact ih h hg hv.tail
  | symT hp _ ih => rintro (_ | _ | _ | h) hg hv; exact ih (h hp) hg.next hv.tail
  | symF => intro _ _ _ o ho; cases ho
  | lookT hp _ ih => intro hc hg hv; cases hc with | look h => exact ih (h hp) hg hv.tail
  | lookF => intro _ _ _ o ho; cases ho
  | cap _ ih => intro hc hg hv; cases hc with | cap h => exact ih h hg (val_cap hv)
  | capEnd _ ih => intro hc hg hv; cases hc with | capEnd h => exact ih h hg hv.tail
  | seq _ ih => intro hc hg hv; cases hc with | seq h => exact ih h hg (val_seq hv)
  | altN => intro _ _ _ o ho; cases ho
  | altC _ _ _ _ ih1 ih2 =>
    intro hc hg hv
    cases hc with
    | altC h1 h2 =>
      intro o ho
      exact (List.mem_append.1 ho).elim (ih1 h1 hg (val_alt hv).1 o) (ih2 h2 hg (val_alt hv).2 o)
  | quest _ _ ih1 ih2 =>
    intro hc hg hv
    cases hc with
    | quest h1 h2 =>
      intro o ho
      rcases mem_ei ho with ho | ho
      · exact ih1 h1 hg (val_quest hv) o ho
      · exact ih2 h2 hg hv.tail o ho
  | mkF => intro _ _ _ o ho; cases ho
  | mkT ha _ ih =>
    intro hc hg hv
    cases hc with
    | mk h => exact ih (hB _ _ _ h (hg.not ha) (val_mk hv).1) (hg.more _) (val_mk hv).2
  | starF => intro _ _ _ o ho; cases ho
  | starT ha _ _ ih1 ih2 =>
    intro hc hg hv
    cases hc with
    | star h =>
      have hb := hB _ _ _ h (hg.not ha) (val_star hv).1
      intro o ho
      rcases mem_ei ho with ho | ho
      · exact ih1 hb.1 (hg.more _) (val_star hv).2 o ho
      · exact ih2 hb.2 (hg.more _) hv.tail o ho
  | plusF => intro _ _ _ o ho; cases ho
  | plusT ha _ ih =>
    intro hc hg hv
    cases hc with
    | plus h => exact ih (hB _ _ _ h (hg.not ha) (val_plus hv).1) (hg.more _) (val_plus hv).2.2
  | askF => intro _ _ _ o ho; cases ho
  | askT ha _ _ ih1 ih2 =>
    intro hc hg hv
    cases hc with
    | ask h =>
      have hb := hB _ _ _ h (hg.not ha) (val_plus (val_ask.1 hv)).2.1
      intro o ho
      rcases mem_ei ho with ho | ho
      · exact ih1 hb.1 (hg.more _) (val_ask.1 hv) o ho
      · exact ih2 hb.2 (hg.more _) hv.tail o ho

theorem altEnts_len (x : Q) (K : Ks) (i : Nat) : (altEnts x K i).length = alen x := by
  induction x <;> simp_all [altEnts, alen]
theorem mark_iff (s : Am) (a i b j : Nat) : (s.mark a i).V b j = true ↔ s.V b j = true ∨ (b = a ∧ j = i) := by
  simp [Am.mark]
/-- What a run from one state to another one leaves, where all ways are L. -/
structure Done (T : List (Nat × Ks)) (G : List (Nat × Nat)) (K : Ks) (i : Nat) (L : List Out) (s s' : Am) : Prop where
  left : s'.left = s.left
  fit : s'.fit = s.fit
  arr : ∃ A, s'.arr = s.arr ++ A ∧ Thin (s.arr.map Prod.fst) L A
  met : ∀ a j, s.V a j = true → s'.V a j = true
  clo : Clo s'.V (s'.arr.map Prod.fst) K i
  black : Black T s'.V (s'.arr.map Prod.fst) G
theorem Done.ends {T G K i L s s'} (h : Done T G K i L s s') : ∀ x ∈ s.arr.map Prod.fst, x ∈ s'.arr.map Prod.fst := by
  obtain ⟨A, e, -⟩ := h.arr
  intro x hx
  rw [e, List.map_append]
  exact List.mem_append_left _ hx
/-- One behind the other. -/
theorem Done.both {T G K1 K2 K i L1 L2 s t u} (h : Done T G K1 i L1 s t) (k : Done T G K2 i L2 t u) (hc : Clo u.V (u.arr.map Prod.fst) K1 i → Clo u.V (u.arr.map Prod.fst) K2 i → Clo u.V (u.arr.map Prod.fst) K i) : Done T G K i (L1 ++ L2) s u := by
  refine ⟨k.left.trans h.left, k.fit.trans h.fit, ?_, fun a j h1 => k.met a j (h.met a j h1), hc (h.clo.mono k.met k.ends) k.clo, k.black⟩
  obtain ⟨A1, e1, t1⟩ := h.arr
  obtain ⟨A2, e2, t2⟩ := k.arr
  refine ⟨A1 ++ A2, by rw [e2, e1, List.append_assoc], t1.append ?_⟩
  rwa [e1, List.map_append] at t2
theorem set_back (l : List Int) (k : Nat) (v : Int) : (l.set k v).set k (l.getD k 0) = l := by
  apply List.ext_getElem?
  intro j
  rw [List.set_set, List.getElem?_set]
  by_cases h : k = j
  · subst h
    rw [if_pos rfl]
    split
    · rename_i h1
      simp [List.getD, List.getElem?_eq_getElem h1]
    · rename_i h1
      rw [List.getElem?_eq_none (by omega)]
  · rw [if_neg h]
abbrev Goes (T : List (Nat × Ks)) (n : Nat) (K : Ks) (i : Nat) (c : List Int) (S : List Nat) (L : List Out) : Prop :=
  ∀ (s : Am) (G : List (Nat × Nat)) (B : Nat), s.fit = c → Gray G i S → (∀ a ∈ S, s.V a i = true) → Black T s.V (s.arr.map Prod.fst) G → Val T K → s.left.length + n ≤ B →
    ∃ m s', Runs B m (call K i s) s' ∧ Done T G K i L s s'
/-- Of what stands on the stack first. -/
theorem goes_pop {T n K i c S L} (h : Goes T n K i c S L) {s : Am} {G B l} (hl : s.left = .go K i :: l) (hf : s.fit = c) (hg : Gray G i S) (hS : ∀ a ∈ S, s.V a i = true) (hB : Black T s.V (s.arr.map Prod.fst) G) (hv : Val T K) (hb : l.length + 1 ≤ B) (hb' : l.length + n ≤ B) :
    ∃ m s', Runs B m s s' ∧ Done T G K i L { s with left := l } s' := by
  obtain ⟨m, s', h1, h2⟩ := h { s with left := l } G B hf hg hS hB hv hb'
  refine ⟨1 + m, s', (Runs.one hl hb).trans ?_, h2⟩
  have : step s = call K i { s with left := l } := by unfold step; rw [hl]
  rw [this]
  exact h1
theorem Done.re {T G K i L s s' t} (h : Done T G K i L s s') (h1 : t.V = s.V) (h2 : t.fit = s.fit) (h3 : t.arr = s.arr) (h4 : s'.left = t.left) : Done T G K i L t s' :=
  ⟨h4, h.fit.trans h2.symm, by rw [h3]; exact h.arr, by rw [h1]; exact h.met, h.clo, h.black⟩
/-- Two on the stack, one of them lazy. -/
theorem goes_two {T n K1 K2 i c S L1 L2} (h : Goes T n K1 i c S L1) (k : Goes T n K2 i c S L2) {K : Ks} (z : Bool) {s : Am} {G B} (hf : s.fit = c) (hg : Gray G i S) (hS : ∀ a ∈ S, s.V a i = true) (hB : Black T s.V (s.arr.map Prod.fst) G) (hv1 : Val T K1) (hv2 : Val T K2) (hb : s.left.length + n + 2 ≤ B)
    (hc : ∀ V P, Clo V P K1 i → Clo V P K2 i → Clo V P K i) : ∃ m s', Runs B m (s.two z K1 K2 i) s' ∧ Done T G K i (ei z L1 L2) s s' := by
  have key : ∀ {Ka Kb La Lb}, Goes T n Ka i c S La → Goes T n Kb i c S Lb → Val T Ka → Val T Kb → (∀ V P, Clo V P Ka i → Clo V P Kb i → Clo V P K i) → ∃ m s', Runs B m ((s.push (.go Kb i)).push (.go Ka i)) s' ∧ Done T G K i (La ++ Lb) s s' := by
    intro Ka Kb La Lb ha hb' hva hvb hcc
    obtain ⟨m, t, r1, d1⟩ := goes_pop (B := B) ha (s := (s.push (.go Kb i)).push (.go Ka i)) (l := .go Kb i :: s.left) rfl hf hg hS hB hva (by simp; omega) (by simp; omega)
    obtain ⟨m2, u, r2, d2⟩ := goes_pop (B := B) hb' (s := t) (l := s.left) d1.left (d1.fit.trans hf) hg (fun a h => d1.met a i (hS a h)) d1.black hvb (by omega) (by omega)
    refine ⟨m + m2, u, r1.trans r2, ?_⟩
    have e1 : Done T G Ka i La s { t with left := s.left } := ⟨rfl, d1.fit, d1.arr, d1.met, d1.clo, d1.black⟩
    exact e1.both d2 (hcc _ _)
  unfold Am.two ei
  cases z
  · exact key h k hv1 hv2 hc
  · exact key k h hv2 hv1 fun V P h1 h2 => hc V P h2 h1
/-- Behind what is handed back a place of the fit is put back. -/
theorem goes_keep {T n K i c S L} {k : Nat} (h : Goes T n K i (c.set k i) S L) {K' : Ks} {s : Am} {G B} (hf : s.fit = c) (hg : Gray G i S) (hS : ∀ a ∈ S, s.V a i = true) (hB : Black T s.V (s.arr.map Prod.fst) G) (hv : Val T K) (hb : s.left.length + n + 2 ≤ B)
    (hc : ∀ V P, Clo V P K i → Clo V P K' i) : ∃ m s', Runs B m ((s.keep k i).push (.go K i)) s' ∧ Done T G K' i L s s' := by
  obtain ⟨m, t, r1, d1⟩ := goes_pop (B := B) h (s := (s.keep k i).push (.go K i)) (l := .put k (s.fit.getD k 0) :: s.left) rfl (show s.fit.set k i = _ by rw [hf]) hg hS hB hv (by simp; omega) (by simp; omega)
  refine ⟨m + 1, step t, r1.trans (Runs.one (l := s.left) d1.left (by omega)), ?_⟩
  have e : step t = { t with left := s.left, fit := t.fit.set k (s.fit.getD k 0) } := by unfold step; rw [d1.left]
  rw [e]
  refine ⟨rfl, ?_, d1.arr, d1.met, hc _ _ d1.clo, d1.black⟩
  show t.fit.set k (s.fit.getD k 0) = s.fit
  rw [d1.fit]
  exact set_back _ _ _
/-- What is come to again leads to nothing new. -/
theorem goes_known {T n K i c S L} (h : GW n K i c S L) {s : Am} {G} (hg : Gray G i S) (hB : Black T s.V (s.arr.map Prod.fst) G) (hv : Val T K) (hc : Clo s.V (s.arr.map Prod.fst) K i) : Done T G K i L s s :=
  ⟨rfl, rfl, ⟨[], by simp, Thin.gone (black_ends hB h hc hg hv)⟩, fun _ _ h => h, hc, hB⟩
/-- Behind a mark that was new. -/
theorem Done.mark {T : List (Nat × Ks)} (hT : (T.map Prod.fst).Nodup) {G K K' i L s s' a F} (h : Done T ((a, i) :: G) K' i L (s.mark a i) s') (hF : (a, F) ∈ T) (hb : CloB s'.V (s'.arr.map Prod.fst) F i) (hc : s'.V a i = true → Clo s'.V (s'.arr.map Prod.fst) K i) : Done T G K i L s s' := by
  have hm : s'.V a i = true := h.met a i ((mark_iff ..).2 (.inr ⟨rfl, rfl⟩))
  refine ⟨h.left, h.fit, h.arr, fun b j hb => h.met b j ((mark_iff ..).2 (.inl hb)), hc hm, fun b j F' h1 h2 h3 => ?_⟩
  by_cases he : (b, j) = (a, i)
  · obtain ⟨rfl, rfl⟩ := Prod.mk.inj he
    have : F' = F := by
      clear h hb hc hm h1 h2 he
      revert hF h3
      induction T with
      | nil => intro hF; cases hF
      | cons p T ih =>
        intro hF h3
        simp only [List.map_cons, List.nodup_cons] at hT
        rcases List.mem_cons.1 hF with e | hF
        · rcases List.mem_cons.1 h3 with e' | h3
          · first | exact (Prod.mk.inj (e'.trans e.symm)).2 | exact (Prod.mk.inj (e.trans e'.symm)).2
          · exact absurd (List.mem_map_of_mem (f := Prod.fst) h3) (by rw [← e] at hT; exact hT.1)
        · rcases List.mem_cons.1 h3 with e' | h3
          · exact absurd (List.mem_map_of_mem (f := Prod.fst) hF) (by rw [← e'] at hT; exact hT.1)
          · exact ih hT.2 hF h3
    rw [this]
    exact hb
  · exact h.black b j F' h1 (fun hm => (List.mem_cons.1 hm).elim he h2) h3
theorem black_mark {T V P G} (h : Black T V P G) (a i : Nat) {V' : Nat → Nat → Bool} (hV : ∀ b j, V' b j = true ↔ V b j = true ∨ (b = a ∧ j = i)) : Black T V' P ((a, i) :: G) := fun b j F h1 h2 h3 => by
  rcases (hV b j).1 h1 with h1 | ⟨rfl, rfl⟩
  · exact (h b j F h1 (fun hm => h2 (List.mem_cons_of_mem _ hm)) h3).mono (fun a i h => (hV a i).2 (.inl h)) fun _ h => h
  · exact absurd (List.mem_cons_self ..) h2
theorem mark_all {s : Am} {S : List Nat} {i : Nat} (h : ∀ a ∈ S, s.V a i = true) (a : Nat) : ∀ b ∈ a :: S, (s.mark a i).V b i = true := fun b hb => (mark_iff ..).2 <| by
  rcases List.mem_cons.1 hb with rfl | hb
  · exact .inr ⟨rfl, rfl⟩
  · exact .inl (h b hb)

set_option maxHeartbeats 1000000 in
/-- The machine, from what is left to do on: of all ways the first one to each place is kept, the stack is as it was. -/
theorem dfs {T : List (Nat × Ks)} (hT : (T.map Prod.fst).Nodup) {n : Nat} {K : Ks} {i : Nat} {c : List Int} {S : List Nat} {L : List Out} (h : GW n K i c S L) : Goes T n K i c S L := by
  induction h with
  | @fin n i c S =>
    intro s G B hf hg hS hB hv hb
    refine ⟨0, _, .zero, rfl, rfl, ⟨[(i, s.fit)], rfl, by rw [hf]; exact Thin.refl _ _⟩, fun _ _ h => h, .fin (by simp [call]), fun a j F h1 h2 h3 => (hB a j F h1 h2 h3).mono (fun _ _ h => h) fun x hx => by simp [call]; exact .inl (by simpa using hx)⟩
  | none => exact fun s G B hf hg hS hB hv hb => ⟨0, s, .zero, goes_known (n := 1) (c := s.fit) .none hg hB hv .none⟩
  | @eps n K i c S L _ ih =>
    intro s G B hf hg hS hB hv hb
    obtain ⟨m, t, r, d⟩ := goes_pop (B := B) ih (s := s.push (.go K i)) (l := s.left) rfl hf hg hS hB hv.tail (by omega) (by omega)
    exact ⟨m, t, r, d.left, d.fit, d.arr, d.met, .eps d.clo, d.black⟩
  | @symT n K i c S L p hp _ ih =>
    intro s G B hf hg hS hB hv hb
    obtain ⟨m, t, r, d⟩ := goes_pop (B := B) ih (s := s.push (.go K (i + 1))) (l := s.left) rfl hf hg.next (fun _ h => by cases h) hB hv.tail (by omega) (by omega)
    refine ⟨m, t, ?_, d.left, d.fit, d.arr, d.met, .sym fun _ => d.clo, d.black⟩
    show Runs B m (callQ (.sym p) K i s) t
    rw [callQ, if_pos hp]
    exact r
  | @symF n K i c S p hp =>
    intro s G B hf hg hS hB hv hb
    refine ⟨0, s, ?_, goes_known (n := 1) (c := s.fit) (.symF hp) hg hB hv (.sym fun h => by rw [hp] at h; cases h)⟩
    show Runs B 0 (callQ (.sym p) K i s) s
    rw [callQ, if_neg (by rw [hp]; decide)]
    exact .zero
  | @lookT n K i c S L p hp _ ih =>
    intro s G B hf hg hS hB hv hb
    obtain ⟨m, t, r, d⟩ := goes_pop (B := B) ih (s := s.push (.go K i)) (l := s.left) rfl hf hg hS hB hv.tail (by omega) (by omega)
    refine ⟨m, t, ?_, d.left, d.fit, d.arr, d.met, .look fun _ => d.clo, d.black⟩
    show Runs B m (callQ (.look p) K i s) t
    rw [callQ, if_pos hp]
    exact r
  | @lookF n K i c S p hp =>
    intro s G B hf hg hS hB hv hb
    refine ⟨0, s, ?_, goes_known (n := 1) (c := s.fit) (.lookF hp) hg hB hv (.look fun h => by rw [hp] at h; cases h)⟩
    show Runs B 0 (callQ (.look p) K i s) s
    rw [callQ, if_neg (by rw [hp]; decide)]
    exact .zero
  | cap _ ih => exact fun s G B hf hg hS hB hv hb => goes_keep ih hf hg hS hB (val_cap hv) (by omega) fun _ _ h => .cap h
  | capEnd _ ih => exact fun s G B hf hg hS hB hv hb => goes_keep ih hf hg hS hB hv.tail (by omega) fun _ _ h => .capEnd h
  | seq _ ih =>
    intro s G B hf hg hS hB hv hb
    obtain ⟨m, t, r, d⟩ := ih s G B hf hg hS hB (val_seq hv) (by omega)
    exact ⟨m, t, r, d.left, d.fit, d.arr, d.met, .seq d.clo, d.black⟩
  | altN => exact fun s G B hf hg hS hB hv hb => ⟨0, s, .zero, goes_known (n := 1) (c := s.fit) .altN hg hB hv .altN⟩
  | @altC k n m' K i c S L1 L2 x r h1 h2 hk hm ih1 ih2 =>
    intro s G B hf hg hS hB hv hb
    obtain ⟨m, t, r1, d1⟩ := goes_pop (B := B) ih1 (s := { s with left := .go (.q x :: K) i :: (altEnts r K i ++ s.left) }) (l := altEnts r K i ++ s.left) rfl hf hg hS hB (val_alt hv).1 (by rw [List.length_append, altEnts_len]; omega) (by rw [List.length_append, altEnts_len]; omega)
    have e1 : Done T G (.q x :: K) i L1 s { t with left := s.left } := ⟨rfl, d1.fit, d1.arr, d1.met, d1.clo, d1.black⟩
    have hrest : ∃ m2 u, Runs B m2 t u ∧ Done T G (.q r :: K) i L2 { t with left := s.left } u := by
      have hd : ∀ (hr : callQ r K i { t with left := s.left } = { t with left := altEnts r K i ++ s.left }), ∃ m2 u, Runs B m2 t u ∧ Done T G (.q r :: K) i L2 { t with left := s.left } u := fun hr => by
        obtain ⟨m2, u, r2, d2⟩ := ih2 { t with left := s.left } G B (d1.fit.trans hf) hg (fun a h => d1.met a i (hS a h)) d1.black (val_alt hv).2 (by show s.left.length + m' ≤ B; omega)
        refine ⟨m2, u, ?_, d2⟩
        have e : call (.q r :: K) i { t with left := s.left } = t := by
          show callQ r K i _ = t
          rw [hr]
          have := d1.left
          cases t
          simp only at this
          rw [this]
        rwa [e] at r2
      have hp : altEnts r K i = [.go (.q r :: K) i] → ∃ m2 u, Runs B m2 t u ∧ Done T G (.q r :: K) i L2 { t with left := s.left } u := fun hr =>
        goes_pop (B := B) ih2 (s := t) (l := s.left) (by rw [d1.left]; show altEnts r K i ++ s.left = _; rw [hr]; rfl) (d1.fit.trans hf) hg (fun a h => d1.met a i (hS a h)) d1.black (val_alt hv).2 (by omega) (by omega)
      cases r with
      | altN => exact hd rfl
      | altC y q => exact hd (by simp [callQ, altEnts])
      | none => exact hp rfl
      | eps => exact hp rfl
      | sym _ => exact hp rfl
      | look _ => exact hp rfl
      | cap _ _ => exact hp rfl
      | seq _ _ => exact hp rfl
      | quest _ _ => exact hp rfl
      | star _ _ _ => exact hp rfl
      | plus _ _ _ _ => exact hp rfl
      | mk _ _ => exact hp rfl
    obtain ⟨m2, u, r2, d2⟩ := hrest
    exact ⟨m + m2, u, r1.trans r2, e1.both d2 fun h1 h2 => .altC h1 h2⟩
  | quest _ _ ih1 ih2 => exact fun s G B hf hg hS hB hv hb => goes_two ih1 ih2 _ hf hg hS hB (val_quest hv) hv.tail (by omega) fun _ _ h1 h2 => .quest h1 h2
  | @mkF n K i c S a y ha =>
    intro s G B hf hg hS hB hv hb
    refine ⟨0, s, ?_, goes_known (n := 1) (c := s.fit) (.mkF ha) hg hB hv (.mk (hS a ha))⟩
    show Runs B 0 (callQ (.mk a y) K i s) s
    rw [callQ, if_pos (hS a ha)]
    exact .zero
  | @mkT n K i c S L a y ha hw ih =>
    intro s G B hf hg hS hB hv hb
    by_cases hm : s.V a i = true
    · refine ⟨0, s, ?_, goes_known (.mkT ha hw) hg hB hv (.mk hm)⟩
      show Runs B 0 (callQ (.mk a y) K i s) s
      rw [callQ, if_pos hm]
      exact .zero
    · obtain ⟨m, t, r, d⟩ := ih (s.mark a i) ((a, i) :: G) B hf (hg.add a) (mark_all hS a) (black_mark hB a i (mark_iff s a i)) (val_mk hv).2 (by show s.left.length + n ≤ B; omega)
      refine ⟨m, t, ?_, d.mark hT (val_mk hv).1 d.clo fun h => .mk h⟩
      show Runs B m (callQ (.mk a y) K i s) t
      rw [callQ, if_neg hm]
      exact r
  | @starF n K i c S a z x ha =>
    intro s G B hf hg hS hB hv hb
    refine ⟨0, s, ?_, goes_known (n := 1) (c := s.fit) (.starF ha) hg hB hv (.star (hS a ha))⟩
    show Runs B 0 (callQ (.star a z x) K i s) s
    rw [callQ, if_pos (hS a ha)]
    exact .zero
  | @starT n K i c S L1 L2 a z x ha hw1 hw2 ih1 ih2 =>
    intro s G B hf hg hS hB hv hb
    by_cases hm : s.V a i = true
    · refine ⟨0, s, ?_, goes_known (.starT ha hw1 hw2) hg hB hv (.star hm)⟩
      show Runs B 0 (callQ (.star a z x) K i s) s
      rw [callQ, if_pos hm]
      exact .zero
    · obtain ⟨m, t, r, d⟩ := goes_two ih1 ih2 (K := .q (.quest z (.seq x (.star a z x))) :: K) z (s := s.mark a i) (G := (a, i) :: G) (B := B) hf (hg.add a) (mark_all hS a) (black_mark hB a i (mark_iff s a i)) (val_star hv).2 hv.tail (by show s.left.length + n + 2 ≤ B; omega) fun _ _ h1 h2 => .quest (.seq h1) h2
      refine ⟨m, t, ?_, d.mark hT (val_star hv).1 ?_ fun h => .star h⟩
      · show Runs B m (callQ (.star a z x) K i s) t
        rw [callQ, if_neg hm]
        exact r
      · cases d.clo with
        | quest h1 h2 => cases h1 with | seq h1 => exact ⟨h1, h2⟩
  | @plusF n K i c S a b z x ha =>
    intro s G B hf hg hS hB hv hb
    refine ⟨0, s, ?_, goes_known (n := 1) (c := s.fit) (.plusF ha) hg hB hv (.plus (hS a ha))⟩
    show Runs B 0 (callQ (.plus a b z x) K i s) s
    rw [callQ, if_pos (hS a ha)]
    exact .zero
  | @plusT n K i c S L a b z x ha hw ih =>
    intro s G B hf hg hS hB hv hb
    by_cases hm : s.V a i = true
    · refine ⟨0, s, ?_, goes_known (.plusT ha hw) hg hB hv (.plus hm)⟩
      show Runs B 0 (callQ (.plus a b z x) K i s) s
      rw [callQ, if_pos hm]
      exact .zero
    · obtain ⟨m, t, r, d⟩ := ih (s.mark a i) ((a, i) :: G) B hf (hg.add a) (mark_all hS a) (black_mark hB a i (mark_iff s a i)) (val_plus hv).2.2 (by show s.left.length + n ≤ B; omega)
      refine ⟨m, t, ?_, d.mark hT (val_plus hv).1 d.clo fun h => .plus h⟩
      show Runs B m (callQ (.plus a b z x) K i s) t
      rw [callQ, if_neg hm]
      exact r
  | @askF n K i c S a b z x ha =>
    intro s G B hf hg hS hB hv hb
    refine ⟨0, s, ?_, goes_known (n := 1) (c := s.fit) (.askF ha) hg hB hv (.ask (hS b ha))⟩
    rw [call, if_pos (hS b ha)]
    exact .zero
  | @askT n K i c S L1 L2 a b z x ha hw1 hw2 ih1 ih2 =>
    intro s G B hf hg hS hB hv hb
    by_cases hm : s.V b i = true
    · refine ⟨0, s, ?_, goes_known (.askT ha hw1 hw2) hg hB hv (.ask hm)⟩
      rw [call, if_pos hm]
      exact .zero
    · obtain ⟨m, t, r, d⟩ := goes_two ih1 ih2 (K := .q (.quest z (.plus a b z x)) :: K) z (s := s.mark b i) (G := (b, i) :: G) (B := B) hf (hg.add b) (mark_all hS b) (black_mark hB b i (mark_iff s b i)) (val_ask.1 hv) hv.tail (by show s.left.length + n + 2 ≤ B; omega) fun _ _ h1 h2 => .quest h1 h2
      refine ⟨m, t, ?_, d.mark hT (val_plus (val_ask.1 hv)).2.1 ?_ fun h => .ask h⟩
      · rw [call, if_neg hm]
        exact r
      · cases d.clo with
        | quest h1 h2 => exact ⟨h1, h2⟩
end Go.Proofs.Ytnemacejaiifnaa
/- All ways of what is left to do are finitely many. Plain mathematics; no condition. -/
namespace Go.Proofs.Ytnemacejaiifnaa

theorem GW.up {n K i c S L} (h : GW n K i c S L) : GW (n + 1) K i c S L := by
  induction h with
  | fin => exact .fin
  | none => exact .none
  | eps _ ih => exact .eps ih
  | symT h _ ih => exact .symT h ih
  | symF h => exact .symF h
  | lookT h _ ih => exact .lookT h ih
  | lookF h => exact .lookF h
  | cap _ ih => exact .cap ih
  | capEnd _ ih => exact .capEnd ih
  | seq _ ih => exact .seq ih
  | altN => exact .altN
  | altC h1 h2 hk hm _ _ => exact .altC h1 h2 (by omega) (by omega)
  | quest _ _ ih1 ih2 => exact .quest ih1 ih2
  | mkF h => exact .mkF h
  | mkT h _ ih => exact .mkT h ih
  | starF h => exact .starF h
  | starT h _ _ ih1 ih2 => exact .starT h ih1 ih2
  | plusF h => exact .plusF h
  | plusT h _ ih => exact .plusT h ih
  | askF h => exact .askF h
  | askT h _ _ ih1 ih2 => exact .askT h ih1 ih2
theorem GW.upto {n K i c S L} (h : GW n K i c S L) {m : Nat} (hm : n ≤ m) : GW m K i c S L := by
  obtain ⟨d, rfl⟩ := Nat.exists_eq_add_of_le hm
  clear hm
  induction d with
  | zero => exact h
  | succ d ih => exact ih.up
def wQ : Q → Nat
  | .cap _ x => wQ x + 4
  | .seq x y => wQ x + wQ y + 1
  | .altC x r => wQ x + wQ r + 1
  | .quest _ x => wQ x + 2
  | _ => 1
def wK : Ks → Nat
  | [] => 1
  | .q x :: K => wQ x + wK K
  | _ :: K => 2 + wK K
theorem wQ_pos (x : Q) : 1 ≤ wQ x := by cases x <;> simp [wQ]
/-- No rune is read behind the last place; no body of a mark is above C. -/
def SymQ (N C : Nat) : Q → Prop
  | .sym p => ∀ i, p i = true → i + 1 ≤ N
  | .cap _ x => SymQ N C x
  | .seq x y => SymQ N C x ∧ SymQ N C y
  | .altC x r => SymQ N C x ∧ SymQ N C r
  | .quest _ x => SymQ N C x
  | .mk _ y => wQ y + 2 ≤ C ∧ SymQ N C y
  | .star _ _ x => wQ x + 2 ≤ C ∧ SymQ N C x
  | .plus _ _ _ x => wQ x + 2 ≤ C ∧ SymQ N C x
  | _ => True
def SymK (N C : Nat) : Ks → Prop
  | [] => True
  | .q x :: K => SymQ N C x ∧ SymK N C K
  | .capEnd _ :: K => SymK N C K
  | .ask _ _ _ x :: K => (wQ x + 2 ≤ C ∧ SymQ N C x) ∧ SymK N C K
def unseen : List Nat → List Nat → Nat
  | [], _ => 0
  | b :: U, S => (if b ∈ S then 0 else 1) + unseen U S
theorem unseen_le (a : Nat) (S : List Nat) : ∀ U, unseen U (a :: S) ≤ unseen U S
  | [] => Nat.le_refl _
  | b :: U => by
    have := unseen_le a S U
    unfold unseen
    by_cases h : b ∈ S
    · rw [if_pos h, if_pos (List.mem_cons_of_mem _ h)]; omega
    · rw [if_neg h]; split <;> omega
theorem unseen_less {a : Nat} {S : List Nat} (hn : a ∉ S) : ∀ U, a ∈ U → unseen U (a :: S) < unseen U S
  | [], h => by cases h
  | b :: U, h => by
    have := unseen_le a S U
    unfold unseen
    by_cases e : b = a
    · subst e
      rw [if_neg hn, if_pos (List.mem_cons_self ..)]; omega
    · have ih := unseen_less hn U ((List.mem_cons.1 h).resolve_left fun h => e h.symm)
      by_cases h : b ∈ S
      · rw [if_pos h, if_pos (List.mem_cons_of_mem _ h)]; omega
      · rw [if_neg h]; split <;> omega
theorem gw_two {n1 n2 : Nat} {K1 K2 : Ks} {i : Nat} {c : List Int} {S : List Nat} {L1 L2 : List Out} (h1 : GW n1 K1 i c S L1) (h2 : GW n2 K2 i c S L2) : ∃ n, GW n K1 i c S L1 ∧ GW n K2 i c S L2 := ⟨n1 + n2, h1.upto (by omega), h2.upto (by omega)⟩
theorem unseen_nil : ∀ U, unseen U [] = U.length
  | [] => rfl
  | b :: U => by
    unfold unseen
    rw [unseen_nil U]
    simp
    omega
theorem alen_le : ∀ x : Q, alen x ≤ wQ x
  | .altC x r => by
    have := alen_le r; have := wQ_pos x
    simp only [alen, wQ]; omega
  | .altN => by simp [alen]
  | .none => by simp [alen, wQ]
  | .eps => by simp [alen, wQ]
  | .sym _ => by simp [alen, wQ]
  | .look _ => by simp [alen, wQ]
  | .cap _ _ => by simp [alen, wQ]
  | .seq _ _ => by simp [alen, wQ]
  | .quest _ _ => by simp [alen, wQ]
  | .mk _ _ => by simp [alen, wQ]
  | .star _ _ _ => by simp [alen, wQ]
  | .plus _ _ _ _ => by simp [alen, wQ]
/-- How long the stack may be. -/
def mu (N C u0 i u w : Nat) : Nat := (N - i) * (C * (u0 + 1)) + C * u + w
theorem mu_less (N C u0 i : Nat) {u' u w w' e : Nat} (h : u' < u) (hw : w' + e ≤ C + w) : mu N C u0 i u' w' + e ≤ mu N C u0 i u w := by
  unfold mu
  have := Nat.mul_le_mul_left C h
  rw [Nat.mul_succ] at this
  omega
/-- There is a list of all ways, and the stack that they want is bounded. -/
theorem gw_all (T : List (Nat × Ks)) (N C : Nat) (hC : 3 ≤ C) : ∀ d u m i S K c, i ≤ N → N - i = d → unseen (T.map Prod.fst) S = u → wK K = m → Val T K → SymK N C K → ∃ L, GW (mu N C (T.map Prod.fst).length i u (wK K)) K i c S L := by
  intro d
  induction d using Nat.strongRecOn with
  | ind d ihd =>
  intro u
  induction u using Nat.strongRecOn with
  | ind u ihu =>
  intro m
  induction m using Nat.strongRecOn with
  | ind m ihm =>
  intro i S K c hi hd hu hm hV hS
  have hmem : ∀ {a : Nat} {K : Ks}, (a, K) ∈ T → a ∈ T.map Prod.fst := fun h => List.mem_map.2 ⟨_, h, rfl⟩
  have hless : ∀ {a : Nat} {K : Ks}, (a, K) ∈ T → a ∉ S → unseen (T.map Prod.fst) (a :: S) < u := fun h hn => by rw [← hu]; exact unseen_less hn _ (hmem h)
  have hone : ∀ w, 1 ≤ w → 0 + 1 ≤ mu N C (T.map Prod.fst).length i u w := fun w hw => by unfold mu; omega
  cases K with
  | nil => exact ⟨_, GW.upto .fin (hone _ (by simp [wK]))⟩
  | cons f K =>
  cases f with
  | capEnd g =>
    obtain ⟨L, h⟩ := ihm (wK K) (by rw [← hm]; simp only [wK]; omega) i S K (c.set (2 * g + 1) i) hi hd hu rfl hV.tail hS
    exact ⟨_, (GW.capEnd h).upto (by simp only [mu, wK]; omega)⟩
  | ask a b z x =>
    by_cases hb : b ∈ S
    · exact ⟨_, GW.upto (.askF hb) (hone _ (by simp only [wK]; omega))⟩
    · have hp := val_plus (val_ask.1 hV)
      have hl := hless hp.2.1 hb
      obtain ⟨L1, k1⟩ := ihu _ hl _ i (b :: S) (.q (.plus a b z x) :: K) c hi hd rfl rfl (val_ask.1 hV) ⟨hS.1, hS.2⟩
      obtain ⟨L2, k2⟩ := ihu _ hl _ i (b :: S) K c hi hd rfl rfl hV.tail hS.2
      have g2 := k2.upto (m := mu N C (T.map Prod.fst).length i (unseen (T.map Prod.fst) (b :: S)) (wK (.q (.plus a b z x) :: K))) (by simp only [mu, wK]; omega)
      exact ⟨_, (GW.askT hb k1 g2).upto (mu_less (e := 2) N C _ i hl (by simp only [wK, wQ]; omega))⟩
  | q x =>
    have hw : ∀ K', wK K' < m → ∀ c', Val T K' → SymK N C K' → ∃ L, GW (mu N C (T.map Prod.fst).length i u (wK K')) K' i c' S L := fun K' hlt c' h1 h2 => ihm _ hlt i S K' c' hi hd hu rfl h1 h2
    have hx := wQ_pos x
    simp only [wK] at hm
    cases x with
    | none => exact ⟨_, GW.upto .none (hone _ (by simp only [wK]; omega))⟩
    | eps =>
      obtain ⟨L, h⟩ := hw K (by simp only [wQ] at hm; omega) c hV.tail hS.2
      exact ⟨_, (GW.eps h).upto (by simp only [mu, wK, wQ]; omega)⟩
    | sym p =>
      cases hp : p i with
      | false => exact ⟨_, GW.upto (.symF hp) (hone _ (by simp only [wK]; omega))⟩
      | true =>
        have hlt := hS.1 i hp
        obtain ⟨L, h⟩ := ihd (N - (i + 1)) (by omega) _ _ (i + 1) [] K c hlt rfl rfl rfl hV.tail hS.2
        refine ⟨_, (GW.symT hp h).upto ?_⟩
        rw [unseen_nil]
        unfold mu
        rw [show N - i = (N - (i + 1)) + 1 by omega, Nat.succ_mul, Nat.mul_succ]
        simp only [wK, wQ]
        omega
    | look p =>
      cases hp : p i with
      | false => exact ⟨_, GW.upto (.lookF hp) (hone _ (by simp only [wK]; omega))⟩
      | true =>
        obtain ⟨L, h⟩ := hw K (by simp only [wQ] at hm; omega) c hV.tail hS.2
        exact ⟨_, (GW.lookT hp h).upto (by simp only [mu, wK, wQ]; omega)⟩
    | cap g y =>
      obtain ⟨L, h⟩ := hw (.q y :: .capEnd g :: K) (by simp only [wQ, wK] at hm ⊢; omega) (c.set (2 * g) i) (val_cap hV) ⟨hS.1, hS.2⟩
      exact ⟨_, (GW.cap h).upto (by simp only [mu, wK, wQ]; omega)⟩
    | seq y y' =>
      obtain ⟨L, h⟩ := hw (.q y :: .q y' :: K) (by simp only [wQ, wK] at hm ⊢; omega) c (val_seq hV) ⟨hS.1.1, hS.1.2, hS.2⟩
      exact ⟨_, (GW.seq h).upto (by simp only [mu, wK, wQ]; omega)⟩
    | altN => exact ⟨_, GW.upto .altN (hone _ (by simp only [wK]; omega))⟩
    | altC y r =>
      have := wQ_pos y; have := wQ_pos r; have := alen_le r
      obtain ⟨L1, k1⟩ := hw (.q y :: K) (by simp only [wQ, wK] at hm ⊢; omega) c (val_alt hV).1 ⟨hS.1.1, hS.2⟩
      obtain ⟨L2, k2⟩ := hw (.q r :: K) (by simp only [wQ, wK] at hm ⊢; omega) c (val_alt hV).2 ⟨hS.1.2, hS.2⟩
      exact ⟨_, .altC k1 k2 (by simp only [mu, wK, wQ]; omega) (by simp only [mu, wK, wQ]; omega)⟩
    | quest z y =>
      have := wQ_pos y
      obtain ⟨L1, k1⟩ := hw (.q y :: K) (by simp only [wQ, wK] at hm ⊢; omega) c (val_quest hV) ⟨hS.1, hS.2⟩
      obtain ⟨L2, k2⟩ := hw K (by simp only [wQ] at hm; omega) c hV.tail hS.2
      have g2 := k2.upto (m := mu N C (T.map Prod.fst).length i u (wK (.q y :: K))) (by simp only [mu, wK]; omega)
      exact ⟨_, (GW.quest k1 g2).upto (by simp only [mu, wK, wQ]; omega)⟩
    | mk a y =>
      by_cases ha : a ∈ S
      · exact ⟨_, GW.upto (.mkF ha) (hone _ (by simp only [wK]; omega))⟩
      · have hl := hless (val_mk hV).1 ha
        obtain ⟨L, h⟩ := ihu _ hl _ i (a :: S) (.q y :: K) c hi hd rfl rfl (val_mk hV).2 ⟨hS.1.2, hS.2⟩
        have := hS.1.1
        exact ⟨_, (GW.mkT ha h).upto (mu_less N C _ i hl (by simp only [wK, wQ]; omega))⟩
    | star a z y =>
      by_cases ha : a ∈ S
      · exact ⟨_, GW.upto (.starF ha) (hone _ (by simp only [wK]; omega))⟩
      · have hl := hless (val_star hV).1 ha
        have := hS.1.1
        obtain ⟨L1, k1⟩ := ihu _ hl _ i (a :: S) (.q y :: .q (.star a z y) :: K) c hi hd rfl rfl (val_star hV).2 ⟨hS.1.2, hS.1, hS.2⟩
        obtain ⟨L2, k2⟩ := ihu _ hl _ i (a :: S) K c hi hd rfl rfl hV.tail hS.2
        have g2 := k2.upto (m := mu N C (T.map Prod.fst).length i (unseen (T.map Prod.fst) (a :: S)) (wK (.q y :: .q (.star a z y) :: K))) (by simp only [mu, wK]; omega)
        exact ⟨_, (GW.starT ha k1 g2).upto (mu_less (e := 2) N C _ i hl (by simp only [wK, wQ]; omega))⟩
    | plus a b z y =>
      by_cases ha : a ∈ S
      · exact ⟨_, GW.upto (.plusF ha) (hone _ (by simp only [wK]; omega))⟩
      · have hl := hless (val_plus hV).1 ha
        have := hS.1.1
        obtain ⟨L, h⟩ := ihu _ hl _ i (a :: S) (.q y :: .ask a b z y :: K) c hi hd rfl rfl (val_plus hV).2.2 ⟨hS.1.2, hS.1, hS.2⟩
        exact ⟨_, (GW.plusT ha h).upto (mu_less N C _ i hl (by simp only [wK, wQ]; omega))⟩
end Go.Proofs.Ytnemacejaiifnaa
/- Where a match ends, and the places of its groups: of all ways through a core tree. No memory. -/
namespace Go.Proofs.Ytnemacejaiifnaa

/-- All groups of a tree are numbered from 1 up to G. -/
def CapQ (G : Nat) : Q → Prop
  | .cap g x => (1 ≤ g ∧ g ≤ G) ∧ CapQ G x
  | .seq x y => CapQ G x ∧ CapQ G y
  | .altC x r => CapQ G x ∧ CapQ G r
  | .quest _ x => CapQ G x
  | .mk _ y => CapQ G y
  | .star _ _ x => CapQ G x
  | .plus _ _ _ x => CapQ G x
  | _ => True
def CapK (G : Nat) : Ks → Prop
  | [] => True
  | .q x :: K => CapQ G x ∧ CapK G K
  | .capEnd g :: K => (1 ≤ g ∧ g ≤ G) ∧ CapK G K
  | .ask _ _ _ x :: K => CapQ G x ∧ CapK G K
/-- Is a group open? -/
def openK (g : Nat) : Ks → Prop
  | [] => False
  | .capEnd h :: K => h = g ∨ openK g K
  | _ :: K => openK g K
def Shut (a : Int) (c : List Int) (g i : Nat) : Prop := (c.getD (2 * g) 0 = -1 ∧ c.getD (2 * g + 1) 0 = -1) ∨ (a ≤ c.getD (2 * g) 0 ∧ c.getD (2 * g) 0 ≤ c.getD (2 * g + 1) 0 ∧ c.getD (2 * g + 1) 0 ≤ i)
def Opened (a : Int) (c : List Int) (g i : Nat) : Prop := a ≤ c.getD (2 * g) 0 ∧ c.getD (2 * g) 0 ≤ i
/-- A fit under way: it began at a; its groups lie between, but for those that are open. -/
structure FitOf (a : Int) (G : Nat) (K : Ks) (i : Nat) (c : List Int) : Prop where
  len : c.length = 2 * (G + 1)
  zero : c.getD 0 0 = a
  low : a ≤ i
  isOpen : ∀ g, 1 ≤ g → g ≤ G → openK g K → Opened a c g i
  shut : ∀ g, 1 ≤ g → g ≤ G → ¬ openK g K → Shut a c g i
section
variable {a : Int} {G N C i : Nat} {K K' : Ks} {c : List Int}
theorem FitOf.same (h : FitOf a G K i c) (e : ∀ g, openK g K' ↔ openK g K) : FitOf a G K' i c := ⟨h.len, h.zero, h.low, fun g h1 h2 ho => h.isOpen g h1 h2 ((e g).1 ho), fun g h1 h2 ho => h.shut g h1 h2 fun k => ho ((e g).2 k)⟩
theorem FitOf.next (h : FitOf a G K i c) : FitOf a G K (i + 1) c := by
  refine ⟨h.len, h.zero, by have := h.low; omega, fun g h1 h2 ho => ?_, fun g h1 h2 ho => ?_⟩
  · have := h.isOpen g h1 h2 ho
    unfold Opened at this ⊢
    omega
  · have := h.shut g h1 h2 ho
    unfold Shut at this ⊢
    omega
theorem getD_set_same (c : List Int) (k : Nat) (v : Int) (h : k < c.length) : (c.set k v).getD k 0 = v := by simp [List.getD, h]
theorem getD_set_other (c : List Int) (k j : Nat) (v : Int) (h : k ≠ j) : (c.set k v).getD j 0 = c.getD j 0 := by simp [List.getD, List.getElem?_set_ne h]
theorem FitOf.begin (h : FitOf a G K i c) {g : Nat} (h1 : 1 ≤ g) (h2 : g ≤ G) : FitOf a G (.capEnd g :: K) i (c.set (2 * g) i) := by
  have hl := h.len
  refine ⟨by simpa using hl, by rw [getD_set_other _ _ _ _ (by omega)]; exact h.zero, h.low, fun k k1 k2 ho => ?_, fun k k1 k2 ho => ?_⟩
  · unfold Opened
    by_cases e : g = k
    · subst e
      rw [getD_set_same _ _ _ (by omega)]
      exact ⟨h.low, Int.le_refl _⟩
    · rw [getD_set_other _ _ _ _ (by omega)]
      exact h.isOpen k k1 k2 (ho.resolve_left e)
  · have hne : g ≠ k := fun e => ho (.inl e)
    have hs := h.shut k k1 k2 fun hk => ho (.inr hk)
    unfold Shut at hs ⊢
    rw [getD_set_other _ _ _ _ (by omega), getD_set_other _ _ _ _ (by omega)]
    exact hs
theorem FitOf.close {g : Nat} (h : FitOf a G (.capEnd g :: K) i c) (h1 : 1 ≤ g) (h2 : g ≤ G) : FitOf a G K i (c.set (2 * g + 1) i) := by
  have hl := h.len
  refine ⟨by simpa using hl, by rw [getD_set_other _ _ _ _ (by omega)]; exact h.zero, h.low, fun k k1 k2 ho => ?_, fun k k1 k2 ho => ?_⟩
  · have := h.isOpen k k1 k2 (.inr ho)
    unfold Opened at this ⊢
    rw [getD_set_other _ _ _ _ (by omega)]
    exact this
  · by_cases e : g = k
    · subst e
      have := h.isOpen g h1 h2 (.inl rfl)
      unfold Opened at this
      unfold Shut
      rw [getD_set_same _ _ _ (by omega), getD_set_other _ _ _ _ (by omega)]
      exact .inr ⟨this.1, this.2, Int.le_refl _⟩
    · have hs := h.shut k k1 k2 fun hk => hk.elim (fun q => e q) ho
      unfold Shut at hs ⊢
      rw [getD_set_other _ _ _ _ (by omega), getD_set_other _ _ _ _ (by omega)]
      exact hs
theorem ei_mem {α : Type} {z : Bool} {A B : List α} {x : α} (h : x ∈ ei z A B) : x ∈ A ∨ x ∈ B := by
  unfold ei at h
  cases z <;> simp at h <;> rcases h with h | h <;> first | exact .inl h | exact .inr h
end
/-- Each way ends at a place, not ahead of where it is, with all its groups shut. -/
theorem gw_groups {a : Int} {G N C n i : Nat} {K : Ks} {c : List Int} {S : List Nat} {L : List Out} (h : GW n K i c S L) : SymK N C K → CapK G K → FitOf a G K i c → i ≤ N → ∀ o ∈ L, FitOf a G [] o.1 o.2 ∧ i ≤ o.1 ∧ o.1 ≤ N := by
  induction h with
  | fin => intro _ _ hf hi o ho; obtain rfl := List.mem_singleton.1 ho; exact ⟨hf, Nat.le_refl _, hi⟩
  | none => intro _ _ _ _ o ho; cases ho
  | eps _ ih => intro h1 h2 hf hi o ho; exact ih h1.2 h2.2 (hf.same fun _ => Iff.rfl) hi o ho
  | symT hp _ ih =>
    intro h1 h2 hf hi o ho
    obtain ⟨q1, q2, q3⟩ := ih h1.2 h2.2 (hf.next.same fun _ => Iff.rfl) (h1.1 _ hp) o ho
    exact ⟨q1, by omega, q3⟩
  | symF => intro _ _ _ _ o ho; cases ho
  | lookT _ _ ih => intro h1 h2 hf hi o ho; exact ih h1.2 h2.2 (hf.same fun _ => Iff.rfl) hi o ho
  | lookF => intro _ _ _ _ o ho; cases ho
  | cap _ ih =>
    intro h1 h2 hf hi o ho
    exact ih ⟨h1.1, h1.2⟩ ⟨h2.1.2, h2.1.1, h2.2⟩ ((hf.begin h2.1.1.1 h2.1.1.2).same fun _ => Iff.rfl) hi o ho
  | capEnd _ ih => intro h1 h2 hf hi o ho; exact ih h1 h2.2 (hf.close h2.1.1 h2.1.2) hi o ho
  | seq _ ih => intro h1 h2 hf hi o ho; exact ih ⟨h1.1.1, h1.1.2, h1.2⟩ ⟨h2.1.1, h2.1.2, h2.2⟩ (hf.same fun _ => Iff.rfl) hi o ho
  | altN => intro _ _ _ _ o ho; cases ho
  | altC _ _ _ _ ih1 ih2 =>
    intro h1 h2 hf hi o ho
    rcases List.mem_append.1 ho with ho | ho
    · exact ih1 ⟨h1.1.1, h1.2⟩ ⟨h2.1.1, h2.2⟩ (hf.same fun _ => Iff.rfl) hi o ho
    · exact ih2 ⟨h1.1.2, h1.2⟩ ⟨h2.1.2, h2.2⟩ (hf.same fun _ => Iff.rfl) hi o ho
  | quest _ _ ih1 ih2 =>
    intro h1 h2 hf hi o ho
    rcases ei_mem ho with ho | ho
    · exact ih1 ⟨h1.1, h1.2⟩ ⟨h2.1, h2.2⟩ (hf.same fun _ => Iff.rfl) hi o ho
    · exact ih2 h1.2 h2.2 (hf.same fun _ => Iff.rfl) hi o ho
  | mkF => intro _ _ _ _ o ho; cases ho
  | mkT _ _ ih => intro h1 h2 hf hi o ho; exact ih ⟨h1.1.2, h1.2⟩ ⟨h2.1, h2.2⟩ (hf.same fun _ => Iff.rfl) hi o ho
  | starF => intro _ _ _ _ o ho; cases ho
  | starT _ _ _ ih1 ih2 =>
    intro h1 h2 hf hi o ho
    rcases ei_mem ho with ho | ho
    · exact ih1 ⟨h1.1.2, h1.1, h1.2⟩ ⟨h2.1, h2.1, h2.2⟩ (hf.same fun _ => Iff.rfl) hi o ho
    · exact ih2 h1.2 h2.2 (hf.same fun _ => Iff.rfl) hi o ho
  | plusF => intro _ _ _ _ o ho; cases ho
  | plusT _ _ ih => intro h1 h2 hf hi o ho; exact ih ⟨h1.1.2, h1.1, h1.2⟩ ⟨h2.1, h2.1, h2.2⟩ (hf.same fun _ => Iff.rfl) hi o ho
  | askF => intro _ _ _ _ o ho; cases ho
  | askT _ _ _ ih1 ih2 =>
    intro h1 h2 hf hi o ho
    rcases ei_mem ho with ho | ho
    · exact ih1 ⟨h1.1, h1.2⟩ ⟨h2.1, h2.2⟩ (hf.same fun _ => Iff.rfl) hi o ho
    · exact ih2 h1.2 h2.2 (hf.same fun _ => Iff.rfl) hi o ho
end Go.Proofs.Ytnemacejaiifnaa
/- Where a core tree may fit: as a relation of places, and that all ways end just there. No memory. -/
namespace Go.Proofs.Ytnemacejaiifnaa

/-- As often as one likes. -/
inductive StarR (r : Nat → Nat → Prop) : Nat → Nat → Prop
  | refl {i} : StarR r i i
  | step {i k j} : r i k → StarR r k j → StarR r i j
theorem StarR.trans {r : Nat → Nat → Prop} {i k j : Nat} (h : StarR r i k) (h2 : StarR r k j) : StarR r i j := by
  induction h with
  | refl => exact h2
  | step h1 _ ih => exact .step h1 (ih h2)
theorem StarR.mono {r s : Nat → Nat → Prop} (h : ∀ i j, r i j → s i j) {i j : Nat} (k : StarR r i j) : StarR s i j := by
  induction k with
  | refl => exact .refl
  | step h1 _ ih => exact .step (h _ _ h1) ih
/-- A core tree may fit from one place to another one. -/
def RQ : Q → Nat → Nat → Prop
  | .none, _, _ => False
  | .eps, i, j => j = i
  | .sym p, i, j => p i = true ∧ j = i + 1
  | .look p, i, j => p i = true ∧ j = i
  | .cap _ x, i, j => RQ x i j
  | .seq x y, i, j => ∃ k, RQ x i k ∧ RQ y k j
  | .altN, _, _ => False
  | .altC x r, i, j => RQ x i j ∨ RQ r i j
  | .quest _ x, i, j => j = i ∨ RQ x i j
  | .star _ _ x, i, j => StarR (RQ x) i j
  | .plus _ _ _ x, i, j => ∃ k, RQ x i k ∧ StarR (RQ x) k j
  | .mk _ y, i, j => RQ y i j
/-- What is left to do may fit from one place to another one. -/
def RK : Ks → Nat → Nat → Prop
  | [], i, j => j = i
  | .q x :: K, i, j => ∃ k, RQ x i k ∧ RK K k j
  | .capEnd _ :: K, i, j => RK K i j
  | .ask _ _ _ x :: K, i, j => ∃ k, StarR (RQ x) i k ∧ RK K k j
/-- Each way ends where what is left to do may fit. -/
theorem gw_sound {n : Nat} {K : Ks} {i : Nat} {c : List Int} {S : List Nat} {L : List Out} (h : GW n K i c S L) : ∀ o ∈ L, RK K i o.1 := by
  induction h with
  | fin => intro o ho; obtain rfl := List.mem_singleton.1 ho; exact rfl
  | none => intro o ho; cases ho
  | eps _ ih => intro o ho; exact ⟨_, rfl, ih o ho⟩
  | symT hp _ ih => intro o ho; exact ⟨_, ⟨hp, rfl⟩, ih o ho⟩
  | symF => intro o ho; cases ho
  | lookT hp _ ih => intro o ho; exact ⟨_, ⟨hp, rfl⟩, ih o ho⟩
  | lookF => intro o ho; cases ho
  | cap _ ih => intro o ho; exact ih o ho
  | capEnd _ ih => intro o ho; exact ih o ho
  | seq _ ih => intro o ho; obtain ⟨k, h1, m, h2, h3⟩ := ih o ho; exact ⟨m, ⟨k, h1, h2⟩, h3⟩
  | altN => intro o ho; cases ho
  | altC _ _ _ _ ih1 ih2 =>
    intro o ho
    rcases List.mem_append.1 ho with ho | ho
    · obtain ⟨k, h1, h2⟩ := ih1 o ho; exact ⟨k, .inl h1, h2⟩
    · obtain ⟨k, h1, h2⟩ := ih2 o ho; exact ⟨k, .inr h1, h2⟩
  | quest _ _ ih1 ih2 =>
    intro o ho
    rcases ei_mem ho with ho | ho
    · obtain ⟨k, h1, h2⟩ := ih1 o ho; exact ⟨k, .inr h1, h2⟩
    · exact ⟨_, .inl rfl, ih2 o ho⟩
  | mkF => intro o ho; cases ho
  | mkT _ _ ih => intro o ho; exact ih o ho
  | starF => intro o ho; cases ho
  | starT _ _ _ ih1 ih2 =>
    intro o ho
    rcases ei_mem ho with ho | ho
    · obtain ⟨k, h1, m, h2, h3⟩ := ih1 o ho; exact ⟨m, .step h1 h2, h3⟩
    · exact ⟨_, .refl, ih2 o ho⟩
  | plusF => intro o ho; cases ho
  | plusT _ _ ih => intro o ho; obtain ⟨k, h1, m, h2, h3⟩ := ih o ho; exact ⟨m, ⟨k, h1, h2⟩, h3⟩
  | askF => intro o ho; cases ho
  | askT _ _ _ ih1 ih2 =>
    intro o ho
    rcases ei_mem ho with ho | ho
    · obtain ⟨k, ⟨m, h1, h2⟩, h3⟩ := ih1 o ho; exact ⟨k, .step h1 h2, h3⟩
    · exact ⟨_, .refl, ih2 o ho⟩

/-- What is left to do comes to j in so many steps. -/
inductive PK : Nat → Ks → Nat → Nat → Prop
  | fin {i} : PK 0 [] i i
  | eps {m K i j} : PK m K i j → PK (m + 1) (.q .eps :: K) i j
  | sym {m K i j p} : p i = true → PK m K (i + 1) j → PK (m + 1) (.q (.sym p) :: K) i j
  | look {m K i j p} : p i = true → PK m K i j → PK (m + 1) (.q (.look p) :: K) i j
  | cap {m K i j g x} : PK m (.q x :: .capEnd g :: K) i j → PK (m + 1) (.q (.cap g x) :: K) i j
  | capEnd {m K i j g} : PK m K i j → PK (m + 1) (.capEnd g :: K) i j
  | seq {m K i j x y} : PK m (.q x :: .q y :: K) i j → PK (m + 1) (.q (.seq x y) :: K) i j
  | altL {m K i j x r} : PK m (.q x :: K) i j → PK (m + 1) (.q (.altC x r) :: K) i j
  | altR {m K i j x r} : PK m (.q r :: K) i j → PK (m + 1) (.q (.altC x r) :: K) i j
  | questM {m K i j z x} : PK m (.q x :: K) i j → PK (m + 1) (.q (.quest z x) :: K) i j
  | questS {m K i j z x} : PK m K i j → PK (m + 1) (.q (.quest z x) :: K) i j
  | mk {m K i j a y} : PK m (.q y :: K) i j → PK (m + 1) (.q (.mk a y) :: K) i j
  | starM {m K i j a z x} : PK m (.q x :: .q (.star a z x) :: K) i j → PK (m + 1) (.q (.star a z x) :: K) i j
  | starS {m K i j a z x} : PK m K i j → PK (m + 1) (.q (.star a z x) :: K) i j
  | plus {m K i j a b z x} : PK m (.q x :: .ask a b z x :: K) i j → PK (m + 1) (.q (.plus a b z x) :: K) i j
  | askM {m K i j a b z x} : PK m (.q (.plus a b z x) :: K) i j → PK (m + 1) (.ask a b z x :: K) i j
  | askS {m K i j a b z x} : PK m K i j → PK (m + 1) (.ask a b z x :: K) i j
theorem pk_q (x : Q) : ∀ (K : Ks) (i k j m : Nat), RQ x i k → PK m K k j → ∃ m', PK m' (.q x :: K) i j := by
  induction x with
  | none => intro K i k j m h; exact h.elim
  | eps => intro K i k j m h hp; obtain rfl := h; exact ⟨_, .eps hp⟩
  | sym p => intro K i k j m h hp; obtain ⟨h1, rfl⟩ := h; exact ⟨_, .sym h1 hp⟩
  | look p => intro K i k j m h hp; obtain ⟨h1, rfl⟩ := h; exact ⟨_, .look h1 hp⟩
  | cap g x ih => intro K i k j m h hp; obtain ⟨m', h1⟩ := ih (.capEnd g :: K) i k j _ h (.capEnd hp); exact ⟨_, .cap h1⟩
  | seq x y ih1 ih2 =>
    intro K i k j m h hp
    obtain ⟨l, h1, h2⟩ := h
    obtain ⟨m1, g1⟩ := ih2 K l k j m h2 hp
    obtain ⟨m2, g2⟩ := ih1 _ i l j m1 h1 g1
    exact ⟨_, .seq g2⟩
  | altN => intro K i k j m h; exact h.elim
  | altC x r ih1 ih2 =>
    intro K i k j m h hp
    rcases h with h | h
    · obtain ⟨m', g⟩ := ih1 K i k j m h hp; exact ⟨_, .altL g⟩
    · obtain ⟨m', g⟩ := ih2 K i k j m h hp; exact ⟨_, .altR g⟩
  | quest z x ih =>
    intro K i k j m h hp
    rcases h with rfl | h
    · exact ⟨_, .questS hp⟩
    · obtain ⟨m', g⟩ := ih K i k j m h hp; exact ⟨_, .questM g⟩
  | mk a y ih => intro K i k j m h hp; obtain ⟨m', g⟩ := ih K i k j m h hp; exact ⟨_, .mk g⟩
  | star a z x ih =>
    intro K i k j m h hp
    have h' : StarR (RQ x) i k := h
    clear h
    induction h' with
    | refl => exact ⟨_, .starS hp⟩
    | step h1 _ ih2 =>
      obtain ⟨m1, g1⟩ := ih2 hp
      obtain ⟨m2, g2⟩ := ih _ _ _ j m1 h1 g1
      exact ⟨_, .starM g2⟩
  | plus a b z x ih =>
    intro K i k j m h hp
    obtain ⟨l, h1, h2⟩ := h
    have key : ∀ i k, StarR (RQ x) i k → PK m K k j → ∃ m', PK m' (.ask a b z x :: K) i j := by
      intro i k hs
      induction hs with
      | refl => intro hp; exact ⟨_, .askS hp⟩
      | step h1 _ ih2 =>
        intro hp
        obtain ⟨m1, g1⟩ := ih2 hp
        obtain ⟨m2, g2⟩ := ih _ _ _ j m1 h1 g1
        exact ⟨_, .askM (.plus g2)⟩
    obtain ⟨m1, g1⟩ := key l k h2 hp
    obtain ⟨m2, g2⟩ := ih _ i l j m1 h1 g1
    exact ⟨_, .plus g2⟩
/-- The shortest way there. -/
def Least (m : Nat) (K : Ks) (i j : Nat) : Prop := PK m K i j ∧ ∀ m', m' < m → ¬ PK m' K i j
theorem least_of {m : Nat} {K : Ks} {i j : Nat} (h : PK m K i j) : ∃ m', Least m' K i j := by
  induction m using Nat.strongRecOn with
  | _ m ih =>
    by_cases hs : ∃ m', m' < m ∧ PK m' K i j
    · obtain ⟨m', h1, h2⟩ := hs
      exact ih m' h1 h2
    · exact ⟨m, h, fun m' h1 h2 => hs ⟨m', h1, h2⟩⟩
theorem Least.next {m : Nat} {K K' : Ks} {i i' j : Nat} (h : Least (m + 1) K i j) (hp : PK m K' i' j) (hs : ∀ m', PK m' K' i' j → PK (m' + 1) K i j) : Least m K' i' j :=
  ⟨hp, fun m' h1 h2 => h.2 (m' + 1) (by omega) (hs m' h2)⟩
theorem ei_of {α : Type} {z : Bool} {A B : List α} {x : α} (h : x ∈ A ∨ x ∈ B) : x ∈ ei z A B := by
  unfold ei
  cases z <;> simp <;> rcases h with h | h <;> simp [h]
/-- The marks met here are of what comes to j by a longer way alone. -/
def Far (T : List (Nat × Ks)) (S : List Nat) (m i j : Nat) : Prop := ∀ a ∈ S, ∃ Ka, (a, Ka) ∈ T ∧ ∀ m', m' ≤ m → ¬ PK m' Ka i j
theorem Far.less {T : List (Nat × Ks)} {S : List Nat} {m m' i j : Nat} (h : Far T S m i j) (hm : m' ≤ m) : Far T S m' i j := fun a ha => by
  obtain ⟨Ka, h1, h2⟩ := h a ha
  exact ⟨Ka, h1, fun k hk => h2 k (by omega)⟩
theorem Far.none {T : List (Nat × Ks)} {m i j : Nat} : Far T [] m i j := fun a ha => by cases ha
theorem Far.more {T : List (Nat × Ks)} {S : List Nat} {m i j : Nat} {a : Nat} {Ka : Ks} (h : Far T S (m + 1) i j) (ha : (a, Ka) ∈ T) (hl : Least (m + 1) Ka i j) : Far T (a :: S) m i j := fun b hb => by
  rcases List.mem_cons.1 hb with rfl | hb
  · exact ⟨Ka, ha, fun k hk => hl.2 k (by omega)⟩
  · exact h.less (by omega) b hb
theorem Far.not {T : List (Nat × Ks)} (hT : ∀ a K K', (a, K) ∈ T → (a, K') ∈ T → K = K') {S : List Nat} {m i j : Nat} {a : Nat} {Ka : Ks} (h : Far T S m i j) (ha : (a, Ka) ∈ T) (hl : PK m Ka i j) : a ∉ S := fun hS => by
  obtain ⟨Kb, h1, h2⟩ := h a hS
  obtain rfl := hT a Ka Kb ha h1
  exact h2 m (Nat.le_refl _) hl
/-- To each place where what is left to do may fit there is a way. -/
theorem gw_complete {T : List (Nat × Ks)} (hT : ∀ a K K', (a, K) ∈ T → (a, K') ∈ T → K = K') {n : Nat} {K : Ks} {i : Nat} {c : List Int} {S : List Nat} {L : List Out} (h : GW n K i c S L) : Val T K → ∀ m j, Least m K i j → Far T S m i j → ∃ o ∈ L, o.1 = j := by
  induction h with
  | fin => intro hv m j hl hf; cases hl.1 with | fin => exact ⟨_, List.mem_singleton.2 rfl, rfl⟩
  | none => intro hv m j hl hf; cases hl.1
  | eps _ ih => intro hv m j hl hf; cases hk : hl.1 with | eps hp => exact ih hv.tail _ j (hl.next hp fun _ => .eps) (hf.less (by omega))
  | symT hq _ ih => intro hv m j hl hf; cases hk : hl.1 with | sym h1 hp => exact ih hv.tail _ j (hl.next hp fun _ => .sym h1) .none
  | symF hq => intro hv m j hl hf; cases hk : hl.1 with | sym h1 hp => rw [hq] at h1; cases h1
  | lookT hq _ ih => intro hv m j hl hf; cases hk : hl.1 with | look h1 hp => exact ih hv.tail _ j (hl.next hp fun _ => .look h1) (hf.less (by omega))
  | lookF hq => intro hv m j hl hf; cases hk : hl.1 with | look h1 hp => rw [hq] at h1; cases h1
  | cap _ ih => intro hv m j hl hf; cases hk : hl.1 with | cap hp => exact ih (val_cap hv) _ j (hl.next hp fun _ => .cap) (hf.less (by omega))
  | capEnd _ ih => intro hv m j hl hf; cases hk : hl.1 with | capEnd hp => exact ih hv.tail _ j (hl.next hp fun _ => .capEnd) (hf.less (by omega))
  | seq _ ih => intro hv m j hl hf; cases hk : hl.1 with | seq hp => exact ih (val_seq hv) _ j (hl.next hp fun _ => .seq) (hf.less (by omega))
  | altN => intro hv m j hl hf; cases hl.1
  | altC _ _ _ _ ih1 ih2 =>
    intro hv m j hl hf
    cases hk : hl.1 with
    | altL hp =>
      obtain ⟨o, h1, h2⟩ := ih1 (val_alt hv).1 _ j (hl.next hp fun _ => .altL) (hf.less (by omega))
      exact ⟨o, List.mem_append.2 (.inl h1), h2⟩
    | altR hp =>
      obtain ⟨o, h1, h2⟩ := ih2 (val_alt hv).2 _ j (hl.next hp fun _ => .altR) (hf.less (by omega))
      exact ⟨o, List.mem_append.2 (.inr h1), h2⟩
  | quest _ _ ih1 ih2 =>
    intro hv m j hl hf
    cases hk : hl.1 with
    | questM hp =>
      obtain ⟨o, h1, h2⟩ := ih1 (val_quest hv) _ j (hl.next hp fun _ => .questM) (hf.less (by omega))
      exact ⟨o, ei_of (.inl h1), h2⟩
    | questS hp =>
      obtain ⟨o, h1, h2⟩ := ih2 hv.tail _ j (hl.next hp fun _ => .questS) (hf.less (by omega))
      exact ⟨o, ei_of (.inr h1), h2⟩
  | mkF ha => intro hv m j hl hf; exact absurd ha (hf.not hT (val_mk hv).1 hl.1)
  | mkT ha _ ih =>
    intro hv m j hl hf
    cases hk : hl.1 with
    | mk hp => exact ih (val_mk hv).2 _ j (hl.next hp fun _ => .mk) (hf.more (val_mk hv).1 hl)
  | starF ha => intro hv m j hl hf; exact absurd ha (hf.not hT (val_star hv).1 hl.1)
  | starT ha _ _ ih1 ih2 =>
    intro hv m j hl hf
    cases hk : hl.1 with
    | starM hp =>
      obtain ⟨o, h1, h2⟩ := ih1 (val_star hv).2 _ j (hl.next hp fun _ => .starM) (hf.more (val_star hv).1 hl)
      exact ⟨o, ei_of (.inl h1), h2⟩
    | starS hp =>
      obtain ⟨o, h1, h2⟩ := ih2 hv.tail _ j (hl.next hp fun _ => .starS) (hf.more (val_star hv).1 hl)
      exact ⟨o, ei_of (.inr h1), h2⟩
  | plusF ha => intro hv m j hl hf; exact absurd ha (hf.not hT (val_plus hv).1 hl.1)
  | plusT ha _ ih =>
    intro hv m j hl hf
    cases hk : hl.1 with
    | plus hp => exact ih (val_plus hv).2.2 _ j (hl.next hp fun _ => .plus) (hf.more (val_plus hv).1 hl)
  | askF ha => intro hv m j hl hf; exact absurd ha (hf.not hT (val_plus (val_ask.1 hv)).2.1 hl.1)
  | askT ha _ _ ih1 ih2 =>
    intro hv m j hl hf
    cases hk : hl.1 with
    | askM hp =>
      obtain ⟨o, h1, h2⟩ := ih1 (val_ask.1 hv) _ j (hl.next hp fun _ => .askM) (hf.more (val_plus (val_ask.1 hv)).2.1 hl)
      exact ⟨o, ei_of (.inl h1), h2⟩
    | askS hp =>
      obtain ⟨o, h1, h2⟩ := ih2 hv.tail _ j (hl.next hp fun _ => .askS) (hf.more (val_plus (val_ask.1 hv)).2.1 hl)
      exact ⟨o, ei_of (.inr h1), h2⟩
/-- All ways through a core tree end just where it may fit. -/
theorem ways_reach {q : Q} (hn : (idsQ q).Nodup) {n i : Nat} {c : List Int} {L : List Out} (h : GW n [.q q] i c [] L) (j : Nat) : (∃ o ∈ L, o.1 = j) ↔ RQ q i j := by
  constructor
  · rintro ⟨o, ho, rfl⟩
    obtain ⟨k, h1, h2⟩ := gw_sound h o ho
    have h2 : o.1 = k := h2
    rw [h2]
    exact h1
  · intro hr
    obtain ⟨m, hp⟩ := pk_q q [] i j j 0 hr .fin
    obtain ⟨m', hl⟩ := least_of hp
    refine gw_complete (T := nodesQ q []) (fun a K K' h1 h2 => ?_) h (val_cons.2 ⟨fun p hp => hp, fun p hp => by cases hp⟩) m' j hl .none
    have hnd : ((nodesQ q []).map Prod.fst).Nodup := by rw [nodesQ_ids]; exact hn
    obtain ⟨x, hx, e1⟩ := List.mem_iff_getElem.1 h1
    obtain ⟨y, hy, e2⟩ := List.mem_iff_getElem.1 h2
    have hxy : x = y := by
      by_cases e : x < y
      · have := List.pairwise_iff_getElem.1 hnd x y (by simpa using hx) (by simpa using hy) e
        simp [e1, e2] at this
      · by_cases e' : y < x
        · have := List.pairwise_iff_getElem.1 hnd y x (by simpa using hy) (by simpa using hx) e'
          simp [e1, e2] at this
        · omega
    subst hxy
    rw [e1] at e2
    injection e2
end Go.Proofs.Ytnemacejaiifnaa
/- From a place the machine goes all ways of a tree and stops; what it keeps is the first way to each place. Plain mathematics; no condition. -/
namespace Go.Proofs.Ytnemacejaiifnaa

theorem runs_all (q : Q) (N C i : Nat) (hC : 3 ≤ C) (hnd : (idsQ q).Nodup) (hS : SymQ N C q) (hi : i ≤ N) (c : List Int) (B : Nat) (hB : mu N C (idsQ q).length i (idsQ q).length (wQ q + 1) ≤ B) :
    ∃ n L m s1, GW n [.q q] i c [] L ∧ Runs B m ⟨fun _ _ => false, c, [.go [.q q] i], []⟩ s1 ∧ s1.left = [] ∧ firsts [] s1.arr = firsts [] L := by
  have hids : (nodesQ q []).map Prod.fst = idsQ q := nodesQ_ids q []
  have hV : Val (nodesQ q []) [.q q] := fun p hp => by simpa [nodesK] using hp
  obtain ⟨L, hL⟩ := gw_all (nodesQ q []) N C hC _ _ _ i [] [.q q] c hi rfl rfl rfl hV ⟨hS, trivial⟩
  have hmu : mu N C ((nodesQ q []).map Prod.fst).length i (unseen ((nodesQ q []).map Prod.fst) []) (wK [.q q]) ≤ B := by
    rw [unseen_nil, hids]
    exact hB
  have h1 : 1 ≤ mu N C (idsQ q).length i (idsQ q).length (wQ q + 1) := by unfold mu; omega
  obtain ⟨m, s1, hr, hd⟩ := goes_pop (B := B) (dfs (by rw [hids]; exact hnd) hL) (s := ⟨fun _ _ => false, c, [.go [.q q] i], []⟩) (G := []) (l := []) rfl rfl (fun a j h => by cases h) (fun a h => by cases h) (fun a j F h => by cases h) hV (by simp; omega) (by simpa using hmu)
  obtain ⟨A, e, ht⟩ := hd.arr
  have e' : s1.arr = A := by simpa using e
  exact ⟨_, L, m, s1, hL, hr, hd.left, by rw [e']; exact (Thin.firsts ht fun x h => h).symm⟩
end Go.Proofs.Ytnemacejaiifnaa
