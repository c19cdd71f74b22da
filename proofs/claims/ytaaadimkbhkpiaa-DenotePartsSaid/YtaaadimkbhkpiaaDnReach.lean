/- Where a core tree may fit: as a relation of places, and that all ways end just there. No memory. -/
import Derived.Test.YtaaadimkbhkpiaaQ1
set_option linter.unusedVariables false
namespace Go.Proofs.Ytaaadimkbhkpiaa

/-- As often as one likes. -/
inductive StarR (r : Nat → Nat → Prop) : Nat → Nat → Prop
  | refl {i} : StarR r i i
  | step {i k j} : r i k → StarR r k j → StarR r i j
theorem StarR.trans {r : Nat → Nat → Prop} {i k j : Nat} (h : StarR r i k) (h2 : StarR r k j) : StarR r i j := by
  induction h with
  | refl => exact h2
  | step h1 _ ih => exact .step h1 (ih h2)
theorem StarR.mono {r s : Nat → Nat → Prop} (h : ∀ i j, r i j → s i j) {i j : Nat} (k : StarR r i j) : StarR s i j := by
  induction k with
  | refl => exact .refl
  | step h1 _ ih => exact .step (h _ _ h1) ih
/-- A core tree may fit from one place to another one. -/
def RQ : Q → Nat → Nat → Prop
  | .none, _, _ => False
  | .eps, i, j => j = i
  | .sym p, i, j => p i = true ∧ j = i + 1
  | .look p, i, j => p i = true ∧ j = i
  | .cap _ x, i, j => RQ x i j
  | .seq x y, i, j => ∃ k, RQ x i k ∧ RQ y k j
  | .altN, _, _ => False
  | .altC x r, i, j => RQ x i j ∨ RQ r i j
  | .quest _ x, i, j => j = i ∨ RQ x i j
  | .star _ _ x, i, j => StarR (RQ x) i j
  | .plus _ _ _ x, i, j => ∃ k, RQ x i k ∧ StarR (RQ x) k j
  | .mk _ y, i, j => RQ y i j
/-- What is left to do may fit from one place to another one. -/
def RK : Ks → Nat → Nat → Prop
  | [], i, j => j = i
  | .q x :: K, i, j => ∃ k, RQ x i k ∧ RK K k j
  | .capEnd _ :: K, i, j => RK K i j
  | .ask _ _ _ x :: K, i, j => ∃ k, StarR (RQ x) i k ∧ RK K k j
/-- Each way ends where what is left to do may fit. -/
theorem gw_sound {n : Nat} {K : Ks} {i : Nat} {c : List Int} {S : List Nat} {L : List Out} (h : GW n K i c S L) : ∀ o ∈ L, RK K i o.1 := by
  induction h with
  | fin => intro o ho; obtain rfl := List.mem_singleton.1 ho; exact rfl
  | none => intro o ho; cases ho
  | eps _ ih => intro o ho; exact ⟨_, rfl, ih o ho⟩
  | symT hp _ ih => intro o ho; exact ⟨_, ⟨hp, rfl⟩, ih o ho⟩
  | symF => intro o ho; cases ho
  | lookT hp _ ih => intro o ho; exact ⟨_, ⟨hp, rfl⟩, ih o ho⟩
  | lookF => intro o ho; cases ho
  | cap _ ih => intro o ho; exact ih o ho
  | capEnd _ ih => intro o ho; exact ih o ho
  | seq _ ih => intro o ho; obtain ⟨k, h1, m, h2, h3⟩ := ih o ho; exact ⟨m, ⟨k, h1, h2⟩, h3⟩
  | altN => intro o ho; cases ho
  | altC _ _ _ _ ih1 ih2 =>
    intro o ho
    rcases List.mem_append.1 ho with ho | ho
    · obtain ⟨k, h1, h2⟩ := ih1 o ho; exact ⟨k, .inl h1, h2⟩
    · obtain ⟨k, h1, h2⟩ := ih2 o ho; exact ⟨k, .inr h1, h2⟩
  | quest _ _ ih1 ih2 =>
    intro o ho
    rcases ei_mem ho with ho | ho
    · obtain ⟨k, h1, h2⟩ := ih1 o ho; exact ⟨k, .inr h1, h2⟩
    · exact ⟨_, .inl rfl, ih2 o ho⟩
  | mkF => intro o ho; cases ho
  | mkT _ _ ih => intro o ho; exact ih o ho
  | starF => intro o ho; cases ho
  | starT _ _ _ ih1 ih2 =>
    intro o ho
    rcases ei_mem ho with ho | ho
    · obtain ⟨k, h1, m, h2, h3⟩ := ih1 o ho; exact ⟨m, .step h1 h2, h3⟩
    · exact ⟨_, .refl, ih2 o ho⟩
  | plusF => intro o ho; cases ho
  | plusT _ _ ih => intro o ho; obtain ⟨k, h1, m, h2, h3⟩ := ih o ho; exact ⟨m, ⟨k, h1, h2⟩, h3⟩
  | askF => intro o ho; cases ho
  | askT _ _ _ ih1 ih2 =>
    intro o ho
    rcases ei_mem ho with ho | ho
    · obtain ⟨k, ⟨m, h1, h2⟩, h3⟩ := ih1 o ho; exact ⟨k, .step h1 h2, h3⟩
    · exact ⟨_, .refl, ih2 o ho⟩

/-- What is left to do comes to j in so many steps. -/
inductive PK : Nat → Ks → Nat → Nat → Prop
  | fin {i} : PK 0 [] i i
  | eps {m K i j} : PK m K i j → PK (m + 1) (.q .eps :: K) i j
  | sym {m K i j p} : p i = true → PK m K (i + 1) j → PK (m + 1) (.q (.sym p) :: K) i j
  | look {m K i j p} : p i = true → PK m K i j → PK (m + 1) (.q (.look p) :: K) i j
  | cap {m K i j g x} : PK m (.q x :: .capEnd g :: K) i j → PK (m + 1) (.q (.cap g x) :: K) i j
  | capEnd {m K i j g} : PK m K i j → PK (m + 1) (.capEnd g :: K) i j
  | seq {m K i j x y} : PK m (.q x :: .q y :: K) i j → PK (m + 1) (.q (.seq x y) :: K) i j
  | altL {m K i j x r} : PK m (.q x :: K) i j → PK (m + 1) (.q (.altC x r) :: K) i j
  | altR {m K i j x r} : PK m (.q r :: K) i j → PK (m + 1) (.q (.altC x r) :: K) i j
  | questM {m K i j z x} : PK m (.q x :: K) i j → PK (m + 1) (.q (.quest z x) :: K) i j
  | questS {m K i j z x} : PK m K i j → PK (m + 1) (.q (.quest z x) :: K) i j
  | mk {m K i j a y} : PK m (.q y :: K) i j → PK (m + 1) (.q (.mk a y) :: K) i j
  | starM {m K i j a z x} : PK m (.q x :: .q (.star a z x) :: K) i j → PK (m + 1) (.q (.star a z x) :: K) i j
  | starS {m K i j a z x} : PK m K i j → PK (m + 1) (.q (.star a z x) :: K) i j
  | plus {m K i j a b z x} : PK m (.q x :: .ask a b z x :: K) i j → PK (m + 1) (.q (.plus a b z x) :: K) i j
  | askM {m K i j a b z x} : PK m (.q (.plus a b z x) :: K) i j → PK (m + 1) (.ask a b z x :: K) i j
  | askS {m K i j a b z x} : PK m K i j → PK (m + 1) (.ask a b z x :: K) i j
theorem pk_q (x : Q) : ∀ (K : Ks) (i k j m : Nat), RQ x i k → PK m K k j → ∃ m', PK m' (.q x :: K) i j := by
  induction x with
  | none => intro K i k j m h; exact h.elim
  | eps => intro K i k j m h hp; obtain rfl := h; exact ⟨_, .eps hp⟩
  | sym p => intro K i k j m h hp; obtain ⟨h1, rfl⟩ := h; exact ⟨_, .sym h1 hp⟩
  | look p => intro K i k j m h hp; obtain ⟨h1, rfl⟩ := h; exact ⟨_, .look h1 hp⟩
  | cap g x ih => intro K i k j m h hp; obtain ⟨m', h1⟩ := ih (.capEnd g :: K) i k j _ h (.capEnd hp); exact ⟨_, .cap h1⟩
  | seq x y ih1 ih2 =>
    intro K i k j m h hp
    obtain ⟨l, h1, h2⟩ := h
    obtain ⟨m1, g1⟩ := ih2 K l k j m h2 hp
    obtain ⟨m2, g2⟩ := ih1 _ i l j m1 h1 g1
    exact ⟨_, .seq g2⟩
  | altN => intro K i k j m h; exact h.elim
  | altC x r ih1 ih2 =>
    intro K i k j m h hp
    rcases h with h | h
    · obtain ⟨m', g⟩ := ih1 K i k j m h hp; exact ⟨_, .altL g⟩
    · obtain ⟨m', g⟩ := ih2 K i k j m h hp; exact ⟨_, .altR g⟩
  | quest z x ih =>
    intro K i k j m h hp
    rcases h with rfl | h
    · exact ⟨_, .questS hp⟩
    · obtain ⟨m', g⟩ := ih K i k j m h hp; exact ⟨_, .questM g⟩
  | mk a y ih => intro K i k j m h hp; obtain ⟨m', g⟩ := ih K i k j m h hp; exact ⟨_, .mk g⟩
  | star a z x ih =>
    intro K i k j m h hp
    have h' : StarR (RQ x) i k := h
    clear h
    induction h' with
    | refl => exact ⟨_, .starS hp⟩
    | step h1 _ ih2 =>
      obtain ⟨m1, g1⟩ := ih2 hp
      obtain ⟨m2, g2⟩ := ih _ _ _ j m1 h1 g1
      exact ⟨_, .starM g2⟩
  | plus a b z x ih =>
    intro K i k j m h hp
    obtain ⟨l, h1, h2⟩ := h
    have key : ∀ i k, StarR (RQ x) i k → PK m K k j → ∃ m', PK m' (.ask a b z x :: K) i j := by
      intro i k hs
      induction hs with
      | refl => intro hp; exact ⟨_, .askS hp⟩
      | step h1 _ ih2 =>
        intro hp
        obtain ⟨m1, g1⟩ := ih2 hp
        obtain ⟨m2, g2⟩ := ih _ _ _ j m1 h1 g1
        exact ⟨_, .askM (.plus g2)⟩
    obtain ⟨m1, g1⟩ := key l k h2 hp
    obtain ⟨m2, g2⟩ := ih _ i l j m1 h1 g1
    exact ⟨_, .plus g2⟩
/-- The shortest way there. -/
def Least (m : Nat) (K : Ks) (i j : Nat) : Prop := PK m K i j ∧ ∀ m', m' < m → ¬ PK m' K i j
theorem least_of {m : Nat} {K : Ks} {i j : Nat} (h : PK m K i j) : ∃ m', Least m' K i j := by
  induction m using Nat.strongRecOn with
  | _ m ih =>
    by_cases hs : ∃ m', m' < m ∧ PK m' K i j
    · obtain ⟨m', h1, h2⟩ := hs
      exact ih m' h1 h2
    · exact ⟨m, h, fun m' h1 h2 => hs ⟨m', h1, h2⟩⟩
theorem Least.next {m : Nat} {K K' : Ks} {i i' j : Nat} (h : Least (m + 1) K i j) (hp : PK m K' i' j) (hs : ∀ m', PK m' K' i' j → PK (m' + 1) K i j) : Least m K' i' j :=
  ⟨hp, fun m' h1 h2 => h.2 (m' + 1) (by omega) (hs m' h2)⟩
theorem ei_of {α : Type} {z : Bool} {A B : List α} {x : α} (h : x ∈ A ∨ x ∈ B) : x ∈ ei z A B := by
  unfold ei
  cases z <;> simp <;> rcases h with h | h <;> simp [h]
/-- The marks met here are of what comes to j by a longer way alone. -/
def Far (T : List (Nat × Ks)) (S : List Nat) (m i j : Nat) : Prop := ∀ a ∈ S, ∃ Ka, (a, Ka) ∈ T ∧ ∀ m', m' ≤ m → ¬ PK m' Ka i j
theorem Far.less {T : List (Nat × Ks)} {S : List Nat} {m m' i j : Nat} (h : Far T S m i j) (hm : m' ≤ m) : Far T S m' i j := fun a ha => by
  obtain ⟨Ka, h1, h2⟩ := h a ha
  exact ⟨Ka, h1, fun k hk => h2 k (by omega)⟩
theorem Far.none {T : List (Nat × Ks)} {m i j : Nat} : Far T [] m i j := fun a ha => by cases ha
theorem Far.more {T : List (Nat × Ks)} {S : List Nat} {m i j : Nat} {a : Nat} {Ka : Ks} (h : Far T S (m + 1) i j) (ha : (a, Ka) ∈ T) (hl : Least (m + 1) Ka i j) : Far T (a :: S) m i j := fun b hb => by
  rcases List.mem_cons.1 hb with rfl | hb
  · exact ⟨Ka, ha, fun k hk => hl.2 k (by omega)⟩
  · exact h.less (by omega) b hb
theorem Far.not {T : List (Nat × Ks)} (hT : ∀ a K K', (a, K) ∈ T → (a, K') ∈ T → K = K') {S : List Nat} {m i j : Nat} {a : Nat} {Ka : Ks} (h : Far T S m i j) (ha : (a, Ka) ∈ T) (hl : PK m Ka i j) : a ∉ S := fun hS => by
  obtain ⟨Kb, h1, h2⟩ := h a hS
  obtain rfl := hT a Ka Kb ha h1
  exact h2 m (Nat.le_refl _) hl
/-- To each place where what is left to do may fit there is a way. -/
theorem gw_complete {T : List (Nat × Ks)} (hT : ∀ a K K', (a, K) ∈ T → (a, K') ∈ T → K = K') {n : Nat} {K : Ks} {i : Nat} {c : List Int} {S : List Nat} {L : List Out} (h : GW n K i c S L) : Val T K → ∀ m j, Least m K i j → Far T S m i j → ∃ o ∈ L, o.1 = j := by
  induction h with
  | fin => intro hv m j hl hf; cases hl.1 with | fin => exact ⟨_, List.mem_singleton.2 rfl, rfl⟩
  | none => intro hv m j hl hf; cases hl.1
  | eps _ ih => intro hv m j hl hf; cases hk : hl.1 with | eps hp => exact ih hv.tail _ j (hl.next hp fun _ => .eps) (hf.less (by omega))
  | symT hq _ ih => intro hv m j hl hf; cases hk : hl.1 with | sym h1 hp => exact ih hv.tail _ j (hl.next hp fun _ => .sym h1) .none
  | symF hq => intro hv m j hl hf; cases hk : hl.1 with | sym h1 hp => rw [hq] at h1; cases h1
  | lookT hq _ ih => intro hv m j hl hf; cases hk : hl.1 with | look h1 hp => exact ih hv.tail _ j (hl.next hp fun _ => .look h1) (hf.less (by omega))
  | lookF hq => intro hv m j hl hf; cases hk : hl.1 with | look h1 hp => rw [hq] at h1; cases h1
  | cap _ ih => intro hv m j hl hf; cases hk : hl.1 with | cap hp => exact ih (val_cap hv) _ j (hl.next hp fun _ => .cap) (hf.less (by omega))
  | capEnd _ ih => intro hv m j hl hf; cases hk : hl.1 with | capEnd hp => exact ih hv.tail _ j (hl.next hp fun _ => .capEnd) (hf.less (by omega))
  | seq _ ih => intro hv m j hl hf; cases hk : hl.1 with | seq hp => exact ih (val_seq hv) _ j (hl.next hp fun _ => .seq) (hf.less (by omega))
  | altN => intro hv m j hl hf; cases hl.1
  | altC _ _ _ _ ih1 ih2 =>
    intro hv m j hl hf
    cases hk : hl.1 with
    | altL hp =>
      obtain ⟨o, h1, h2⟩ := ih1 (val_alt hv).1 _ j (hl.next hp fun _ => .altL) (hf.less (by omega))
      exact ⟨o, List.mem_append.2 (.inl h1), h2⟩
    | altR hp =>
      obtain ⟨o, h1, h2⟩ := ih2 (val_alt hv).2 _ j (hl.next hp fun _ => .altR) (hf.less (by omega))
      exact ⟨o, List.mem_append.2 (.inr h1), h2⟩
  | quest _ _ ih1 ih2 =>
    intro hv m j hl hf
    cases hk : hl.1 with
    | questM hp =>
      obtain ⟨o, h1, h2⟩ := ih1 (val_quest hv) _ j (hl.next hp fun _ => .questM) (hf.less (by omega))
      exact ⟨o, ei_of (.inl h1), h2⟩
    | questS hp =>
      obtain ⟨o, h1, h2⟩ := ih2 hv.tail _ j (hl.next hp fun _ => .questS) (hf.less (by omega))
      exact ⟨o, ei_of (.inr h1), h2⟩
  | mkF ha => intro hv m j hl hf; exact absurd ha (hf.not hT (val_mk hv).1 hl.1)
  | mkT ha _ ih =>
    intro hv m j hl hf
    cases hk : hl.1 with
    | mk hp => exact ih (val_mk hv).2 _ j (hl.next hp fun _ => .mk) (hf.more (val_mk hv).1 hl)
  | starF ha => intro hv m j hl hf; exact absurd ha (hf.not hT (val_star hv).1 hl.1)
  | starT ha _ _ ih1 ih2 =>
    intro hv m j hl hf
    cases hk : hl.1 with
    | starM hp =>
      obtain ⟨o, h1, h2⟩ := ih1 (val_star hv).2 _ j (hl.next hp fun _ => .starM) (hf.more (val_star hv).1 hl)
      exact ⟨o, ei_of (.inl h1), h2⟩
    | starS hp =>
      obtain ⟨o, h1, h2⟩ := ih2 hv.tail _ j (hl.next hp fun _ => .starS) (hf.more (val_star hv).1 hl)
      exact ⟨o, ei_of (.inr h1), h2⟩
  | plusF ha => intro hv m j hl hf; exact absurd ha (hf.not hT (val_plus hv).1 hl.1)
  | plusT ha _ ih =>
    intro hv m j hl hf
    cases hk : hl.1 with
    | plus hp => exact ih (val_plus hv).2.2 _ j (hl.next hp fun _ => .plus) (hf.more (val_plus hv).1 hl)
  | askF ha => intro hv m j hl hf; exact absurd ha (hf.not hT (val_plus (val_ask.1 hv)).2.1 hl.1)
  | askT ha _ _ ih1 ih2 =>
    intro hv m j hl hf
    cases hk : hl.1 with
    | askM hp =>
      obtain ⟨o, h1, h2⟩ := ih1 (val_ask.1 hv) _ j (hl.next hp fun _ => .askM) (hf.more (val_plus (val_ask.1 hv)).2.1 hl)
      exact ⟨o, ei_of (.inl h1), h2⟩
    | askS hp =>
      obtain ⟨o, h1, h2⟩ := ih2 hv.tail _ j (hl.next hp fun _ => .askS) (hf.more (val_plus (val_ask.1 hv)).2.1 hl)
      exact ⟨o, ei_of (.inr h1), h2⟩
/-- All ways through a core tree end just where it may fit. -/
theorem ways_reach {q : Q} (hn : (idsQ q).Nodup) {n i : Nat} {c : List Int} {L : List Out} (h : GW n [.q q] i c [] L) (j : Nat) : (∃ o ∈ L, o.1 = j) ↔ RQ q i j := by
  constructor
  · rintro ⟨o, ho, rfl⟩
    obtain ⟨k, h1, h2⟩ := gw_sound h o ho
    have h2 : o.1 = k := h2
    rw [h2]
    exact h1
  · intro hr
    obtain ⟨m, hp⟩ := pk_q q [] i j j 0 hr .fin
    obtain ⟨m', hl⟩ := least_of hp
    refine gw_complete (T := nodesQ q []) (fun a K K' h1 h2 => ?_) h (val_cons.2 ⟨fun p hp => hp, fun p hp => by cases hp⟩) m' j hl .none
    have hnd : ((nodesQ q []).map Prod.fst).Nodup := by rw [nodesQ_ids]; exact hn
    obtain ⟨x, hx, e1⟩ := List.mem_iff_getElem.1 h1
    obtain ⟨y, hy, e2⟩ := List.mem_iff_getElem.1 h2
    have hxy : x = y := by
      by_cases e : x < y
      · have := List.pairwise_iff_getElem.1 hnd x y (by simpa using hx) (by simpa using hy) e
        simp [e1, e2] at this
      · by_cases e' : y < x
        · have := List.pairwise_iff_getElem.1 hnd y x (by simpa using hy) (by simpa using hx) e'
          simp [e1, e2] at this
        · omega
    subst hxy
    rw [e1] at e2
    injection e2
end Go.Proofs.Ytaaadimkbhkpiaa
