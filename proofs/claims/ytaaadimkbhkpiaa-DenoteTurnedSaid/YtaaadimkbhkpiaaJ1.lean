/- Texts joined by program: DnReach DnTreeR DnPartsM DnEndsP. No condition. -/
import Derived.Test.YtaaadimkbhkpiaaQ1
import Derived.Test.YtaaadimkbhkpiaaQ8
import Derived.Test.YtaaadimkbhkpiaaQ31
import Derived.Test.YtaaadimkbhkpiaaQ6
set_option linter.unusedVariables false
set_option linter.unusedSimpArgs false
/- Where a core tree may fit: as a relation of places, and that all ways end just there. No memory. -/
namespace Go.Proofs.Ytaaadimkbhkpiaa

/-- As often as one likes. -/
inductive StarR (r : Nat → Nat → Prop) : Nat → Nat → Prop
  | refl {i} : StarR r i i
  | step {i k j} : r i k → StarR r k j → StarR r i j
theorem StarR.trans {r : Nat → Nat → Prop} {i k j : Nat} (h : StarR r i k) (h2 : StarR r k j) : StarR r i j := by
  induction h with
  | refl => exact h2
  | step h1 _ ih => exact .step h1 (ih h2)
theorem StarR.mono {r s : Nat → Nat → Prop} (h : ∀ i j, r i j → s i j) {i j : Nat} (k : StarR r i j) : StarR s i j := by
  induction k with
  | refl => exact .refl
  | step h1 _ ih => exact .step (h _ _ h1) ih
/-- A core tree may fit from one place to another one. -/
def RQ : Q → Nat → Nat → Prop
  | .none, _, _ => False
  | .eps, i, j => j = i
  | .sym p, i, j => p i = true ∧ j = i + 1
  | .look p, i, j => p i = true ∧ j = i
  | .cap _ x, i, j => RQ x i j
  | .seq x y, i, j => ∃ k, RQ x i k ∧ RQ y k j
  | .altN, _, _ => False
  | .altC x r, i, j => RQ x i j ∨ RQ r i j
  | .quest _ x, i, j => j = i ∨ RQ x i j
  | .star _ _ x, i, j => StarR (RQ x) i j
  | .plus _ _ _ x, i, j => ∃ k, RQ x i k ∧ StarR (RQ x) k j
  | .mk _ y, i, j => RQ y i j
/-- What is left to do may fit from one place to another one. -/
def RK : Ks → Nat → Nat → Prop
  | [], i, j => j = i
  | .q x :: K, i, j => ∃ k, RQ x i k ∧ RK K k j
  | .capEnd _ :: K, i, j => RK K i j
  | .ask _ _ _ x :: K, i, j => ∃ k, StarR (RQ x) i k ∧ RK K k j
/-- Each way ends where what is left to do may fit. -/
theorem gw_sound {n : Nat} {K : Ks} {i : Nat} {c : List Int} {S : List Nat} {L : List Out} (h : GW n K i c S L) : ∀ o ∈ L, RK K i o.1 := by
  induction h with
  | fin => intro o ho; obtain rfl := List.mem_singleton.1 ho; exact rfl
  | none => intro o ho; cases ho
  | eps _ ih => intro o ho; exact ⟨_, rfl, ih o ho⟩
  | symT hp _ ih => intro o ho; exact ⟨_, ⟨hp, rfl⟩, ih o ho⟩
  | symF => intro o ho; cases ho
  | lookT hp _ ih => intro o ho; exact ⟨_, ⟨hp, rfl⟩, ih o ho⟩
  | lookF => intro o ho; cases ho
  | cap _ ih => intro o ho; exact ih o ho
  | capEnd _ ih => intro o ho; exact ih o ho
  | seq _ ih => intro o ho; obtain ⟨k, h1, m, h2, h3⟩ := ih o ho; exact ⟨m, ⟨k, h1, h2⟩, h3⟩
  | altN => intro o ho; cases ho
  | altC _ _ _ _ ih1 ih2 =>
    intro o ho
    rcases List.mem_append.1 ho with ho | ho
    · obtain ⟨k, h1, h2⟩ := ih1 o ho; exact ⟨k, .inl h1, h2⟩
    · obtain ⟨k, h1, h2⟩ := ih2 o ho; exact ⟨k, .inr h1, h2⟩
  | quest _ _ ih1 ih2 =>
    intro o ho
    rcases ei_mem ho with ho | ho
    · obtain ⟨k, h1, h2⟩ := ih1 o ho; exact ⟨k, .inr h1, h2⟩
    · exact ⟨_, .inl rfl, ih2 o ho⟩
  | mkF => intro o ho; cases ho
  | mkT _ _ ih => intro o ho; exact ih o ho
  | starF => intro o ho; cases ho
  | starT _ _ _ ih1 ih2 =>
    intro o ho
    rcases ei_mem ho with ho | ho
    · obtain ⟨k, h1, m, h2, h3⟩ := ih1 o ho; exact ⟨m, .step h1 h2, h3⟩
    · exact ⟨_, .refl, ih2 o ho⟩
  | plusF => intro o ho; cases ho
  | plusT _ _ ih => intro o ho; obtain ⟨k, h1, m, h2, h3⟩ := ih o ho; exact ⟨m, ⟨k, h1, h2⟩, h3⟩
  | askF => intro o ho; cases ho
  | askT _ _ _ ih1 ih2 =>
    intro o ho
    rcases ei_mem ho with ho | ho
    · obtain ⟨k, ⟨m, h1, h2⟩, h3⟩ := ih1 o ho; exact ⟨k, .step h1 h2, h3⟩
    · exact ⟨_, .refl, ih2 o ho⟩

/-- What is left to do comes to j in so many steps. -/
inductive PK : Nat → Ks → Nat → Nat → Prop
  | fin {i} : PK 0 [] i i
  | eps {m K i j} : PK m K i j → PK (m + 1) (.q .eps :: K) i j
  | sym {m K i j p} : p i = true → PK m K (i + 1) j → PK (m + 1) (.q (.sym p) :: K) i j
  | look {m K i j p} : p i = true → PK m K i j → PK (m + 1) (.q (.look p) :: K) i j
  | cap {m K i j g x} : PK m (.q x :: .capEnd g :: K) i j → PK (m + 1) (.q (.cap g x) :: K) i j
  | capEnd {m K i j g} : PK m K i j → PK (m + 1) (.capEnd g :: K) i j
  | seq {m K i j x y} : PK m (.q x :: .q y :: K) i j → PK (m + 1) (.q (.seq x y) :: K) i j
  | altL {m K i j x r} : PK m (.q x :: K) i j → PK (m + 1) (.q (.altC x r) :: K) i j
  | altR {m K i j x r} : PK m (.q r :: K) i j → PK (m + 1) (.q (.altC x r) :: K) i j
  | questM {m K i j z x} : PK m (.q x :: K) i j → PK (m + 1) (.q (.quest z x) :: K) i j
  | questS {m K i j z x} : PK m K i j → PK (m + 1) (.q (.quest z x) :: K) i j
  | mk {m K i j a y} : PK m (.q y :: K) i j → PK (m + 1) (.q (.mk a y) :: K) i j
  | starM {m K i j a z x} : PK m (.q x :: .q (.star a z x) :: K) i j → PK (m + 1) (.q (.star a z x) :: K) i j
  | starS {m K i j a z x} : PK m K i j → PK (m + 1) (.q (.star a z x) :: K) i j
  | plus {m K i j a b z x} : PK m (.q x :: .ask a b z x :: K) i j → PK (m + 1) (.q (.plus a b z x) :: K) i j
  | askM {m K i j a b z x} : PK m (.q (.plus a b z x) :: K) i j → PK (m + 1) (.ask a b z x :: K) i j
  | askS {m K i j a b z x} : PK m K i j → PK (m + 1) (.ask a b z x :: K) i j
theorem pk_q (x : Q) : ∀ (K : Ks) (i k j m : Nat), RQ x i k → PK m K k j → ∃ m', PK m' (.q x :: K) i j := by
  induction x with
  | none => intro K i k j m h; exact h.elim
  | eps => intro K i k j m h hp; obtain rfl := h; exact ⟨_, .eps hp⟩
  | sym p => intro K i k j m h hp; obtain ⟨h1, rfl⟩ := h; exact ⟨_, .sym h1 hp⟩
  | look p => intro K i k j m h hp; obtain ⟨h1, rfl⟩ := h; exact ⟨_, .look h1 hp⟩
  | cap g x ih => intro K i k j m h hp; obtain ⟨m', h1⟩ := ih (.capEnd g :: K) i k j _ h (.capEnd hp); exact ⟨_, .cap h1⟩
  | seq x y ih1 ih2 =>
    intro K i k j m h hp
    obtain ⟨l, h1, h2⟩ := h
    obtain ⟨m1, g1⟩ := ih2 K l k j m h2 hp
    obtain ⟨m2, g2⟩ := ih1 _ i l j m1 h1 g1
    exact ⟨_, .seq g2⟩
  | altN => intro K i k j m h; exact h.elim
  | altC x r ih1 ih2 =>
    intro K i k j m h hp
    rcases h with h | h
    · obtain ⟨m', g⟩ := ih1 K i k j m h hp; exact ⟨_, .altL g⟩
    · obtain ⟨m', g⟩ := ih2 K i k j m h hp; exact ⟨_, .altR g⟩
  | quest z x ih =>
    intro K i k j m h hp
    rcases h with rfl | h
    · exact ⟨_, .questS hp⟩
    · obtain ⟨m', g⟩ := ih K i k j m h hp; exact ⟨_, .questM g⟩
  | mk a y ih => intro K i k j m h hp; obtain ⟨m', g⟩ := ih K i k j m h hp; exact ⟨_, .mk g⟩
  | star a z x ih =>
    intro K i k j m h hp
    have h' : StarR (RQ x) i k := h
    clear h
    induction h' with
    | refl => exact ⟨_, .starS hp⟩
    | step h1 _ ih2 =>
      obtain ⟨m1, g1⟩ := ih2 hp
      obtain ⟨m2, g2⟩ := ih _ _ _ j m1 h1 g1
      exact ⟨_, .starM g2⟩
  | plus a b z x ih =>
    intro K i k j m h hp
    obtain ⟨l, h1, h2⟩ := h
    have key : ∀ i k, StarR (RQ x) i k → PK m K k j → ∃ m', PK m' (.ask a b z x :: K) i j := by
      intro i k hs
      induction hs with
      | refl => intro hp; exact ⟨_, .askS hp⟩
      | step h1 _ ih2 =>
        intro hp
        obtain ⟨m1, g1⟩ := ih2 hp
        obtain ⟨m2, g2⟩ := ih _ _ _ j m1 h1 g1
        exact ⟨_, .askM (.plus g2)⟩
    obtain ⟨m1, g1⟩ := key l k h2 hp
    obtain ⟨m2, g2⟩ := ih _ i l j m1 h1 g1
    exact ⟨_, .plus g2⟩
/-- The shortest way there. -/
def Least (m : Nat) (K : Ks) (i j : Nat) : Prop := PK m K i j ∧ ∀ m', m' < m → ¬ PK m' K i j
theorem least_of {m : Nat} {K : Ks} {i j : Nat} (h : PK m K i j) : ∃ m', Least m' K i j := by
  induction m using Nat.strongRecOn with
  | _ m ih =>
    by_cases hs : ∃ m', m' < m ∧ PK m' K i j
    · obtain ⟨m', h1, h2⟩ := hs
      exact ih m' h1 h2
    · exact ⟨m, h, fun m' h1 h2 => hs ⟨m', h1, h2⟩⟩
theorem Least.next {m : Nat} {K K' : Ks} {i i' j : Nat} (h : Least (m + 1) K i j) (hp : PK m K' i' j) (hs : ∀ m', PK m' K' i' j → PK (m' + 1) K i j) : Least m K' i' j :=
  ⟨hp, fun m' h1 h2 => h.2 (m' + 1) (by omega) (hs m' h2)⟩
theorem ei_of {α : Type} {z : Bool} {A B : List α} {x : α} (h : x ∈ A ∨ x ∈ B) : x ∈ ei z A B := by
  unfold ei
  cases z <;> simp <;> rcases h with h | h <;> simp [h]
/-- The marks met here are of what comes to j by a longer way alone. -/
def Far (T : List (Nat × Ks)) (S : List Nat) (m i j : Nat) : Prop := ∀ a ∈ S, ∃ Ka, (a, Ka) ∈ T ∧ ∀ m', m' ≤ m → ¬ PK m' Ka i j
theorem Far.less {T : List (Nat × Ks)} {S : List Nat} {m m' i j : Nat} (h : Far T S m i j) (hm : m' ≤ m) : Far T S m' i j := fun a ha => by
  obtain ⟨Ka, h1, h2⟩ := h a ha
  exact ⟨Ka, h1, fun k hk => h2 k (by omega)⟩
theorem Far.none {T : List (Nat × Ks)} {m i j : Nat} : Far T [] m i j := fun a ha => by cases ha
theorem Far.more {T : List (Nat × Ks)} {S : List Nat} {m i j : Nat} {a : Nat} {Ka : Ks} (h : Far T S (m + 1) i j) (ha : (a, Ka) ∈ T) (hl : Least (m + 1) Ka i j) : Far T (a :: S) m i j := fun b hb => by
  rcases List.mem_cons.1 hb with rfl | hb
  · exact ⟨Ka, ha, fun k hk => hl.2 k (by omega)⟩
  · exact h.less (by omega) b hb
theorem Far.not {T : List (Nat × Ks)} (hT : ∀ a K K', (a, K) ∈ T → (a, K') ∈ T → K = K') {S : List Nat} {m i j : Nat} {a : Nat} {Ka : Ks} (h : Far T S m i j) (ha : (a, Ka) ∈ T) (hl : PK m Ka i j) : a ∉ S := fun hS => by
  obtain ⟨Kb, h1, h2⟩ := h a hS
  obtain rfl := hT a Ka Kb ha h1
  exact h2 m (Nat.le_refl _) hl
/-- To each place where what is left to do may fit there is a way. -/
theorem gw_complete {T : List (Nat × Ks)} (hT : ∀ a K K', (a, K) ∈ T → (a, K') ∈ T → K = K') {n : Nat} {K : Ks} {i : Nat} {c : List Int} {S : List Nat} {L : List Out} (h : GW n K i c S L) : Val T K → ∀ m j, Least m K i j → Far T S m i j → ∃ o ∈ L, o.1 = j := by
  induction h with
  | fin => intro hv m j hl hf; cases hl.1 with | fin => exact ⟨_, List.mem_singleton.2 rfl, rfl⟩
  | none => intro hv m j hl hf; cases hl.1
  | eps _ ih => intro hv m j hl hf; cases hk : hl.1 with | eps hp => exact ih hv.tail _ j (hl.next hp fun _ => .eps) (hf.less (by omega))
  | symT hq _ ih => intro hv m j hl hf; cases hk : hl.1 with | sym h1 hp => exact ih hv.tail _ j (hl.next hp fun _ => .sym h1) .none
  | symF hq => intro hv m j hl hf; cases hk : hl.1 with | sym h1 hp => rw [hq] at h1; cases h1
  | lookT hq _ ih => intro hv m j hl hf; cases hk : hl.1 with | look h1 hp => exact ih hv.tail _ j (hl.next hp fun _ => .look h1) (hf.less (by omega))
  | lookF hq => intro hv m j hl hf; cases hk : hl.1 with | look h1 hp => rw [hq] at h1; cases h1
  | cap _ ih => intro hv m j hl hf; cases hk : hl.1 with | cap hp => exact ih (val_cap hv) _ j (hl.next hp fun _ => .cap) (hf.less (by omega))
  | capEnd _ ih => intro hv m j hl hf; cases hk : hl.1 with | capEnd hp => exact ih hv.tail _ j (hl.next hp fun _ => .capEnd) (hf.less (by omega))
  | seq _ ih => intro hv m j hl hf; cases hk : hl.1 with | seq hp => exact ih (val_seq hv) _ j (hl.next hp fun _ => .seq) (hf.less (by omega))
  | altN => intro hv m j hl hf; cases hl.1
  | altC _ _ _ _ ih1 ih2 =>
    intro hv m j hl hf
    cases hk : hl.1 with
    | altL hp =>
      obtain ⟨o, h1, h2⟩ := ih1 (val_alt hv).1 _ j (hl.next hp fun _ => .altL) (hf.less (by omega))
      exact ⟨o, List.mem_append.2 (.inl h1), h2⟩
    | altR hp =>
      obtain ⟨o, h1, h2⟩ := ih2 (val_alt hv).2 _ j (hl.next hp fun _ => .altR) (hf.less (by omega))
      exact ⟨o, List.mem_append.2 (.inr h1), h2⟩
  | quest _ _ ih1 ih2 =>
    intro hv m j hl hf
    cases hk : hl.1 with
    | questM hp =>
      obtain ⟨o, h1, h2⟩ := ih1 (val_quest hv) _ j (hl.next hp fun _ => .questM) (hf.less (by omega))
      exact ⟨o, ei_of (.inl h1), h2⟩
    | questS hp =>
      obtain ⟨o, h1, h2⟩ := ih2 hv.tail _ j (hl.next hp fun _ => .questS) (hf.less (by omega))
      exact ⟨o, ei_of (.inr h1), h2⟩
  | mkF ha => intro hv m j hl hf; exact absurd ha (hf.not hT (val_mk hv).1 hl.1)
  | mkT ha _ ih =>
    intro hv m j hl hf
    cases hk : hl.1 with
    | mk hp => exact ih (val_mk hv).2 _ j (hl.next hp fun _ => .mk) (hf.more (val_mk hv).1 hl)
  | starF ha => intro hv m j hl hf; exact absurd ha (hf.not hT (val_star hv).1 hl.1)
  | starT ha _ _ ih1 ih2 =>
    intro hv m j hl hf
    cases hk : hl.1 with
    | starM hp =>
      obtain ⟨o, h1, h2⟩ := ih1 (val_star hv).2 _ j (hl.next hp fun _ => .starM) (hf.more (val_star hv).1 hl)
      exact ⟨o, ei_of (.inl h1), h2⟩
    | starS hp =>
      obtain ⟨o, h1, h2⟩ := ih2 hv.tail _ j (hl.next hp fun _ => .starS) (hf.more (val_star hv).1 hl)
      exact ⟨o, ei_of (.inr h1), h2⟩
  | plusF ha => intro hv m j hl hf; exact absurd ha (hf.not hT (val_plus hv).1 hl.1)
  | plusT ha _ ih =>
    intro hv m j hl hf
    cases hk : hl.1 with
    | plus hp => exact ih (val_plus hv).2.2 _ j (hl.next hp fun _ => .plus) (hf.more (val_plus hv).1 hl)
  | askF ha => intro hv m j hl hf; exact absurd ha (hf.not hT (val_plus (val_ask.1 hv)).2.1 hl.1)
  | askT ha _ _ ih1 ih2 =>
    intro hv m j hl hf
    cases hk : hl.1 with
    | askM hp =>
      obtain ⟨o, h1, h2⟩ := ih1 (val_ask.1 hv) _ j (hl.next hp fun _ => .askM) (hf.more (val_plus (val_ask.1 hv)).2.1 hl)
      exact ⟨o, ei_of (.inl h1), h2⟩
    | askS hp =>
      obtain ⟨o, h1, h2⟩ := ih2 hv.tail _ j (hl.next hp fun _ => .askS) (hf.more (val_plus (val_ask.1 hv)).2.1 hl)
      exact ⟨o, ei_of (.inr h1), h2⟩
/-- All ways through a core tree end just where it may fit. -/
theorem ways_reach {q : Q} (hn : (idsQ q).Nodup) {n i : Nat} {c : List Int} {L : List Out} (h : GW n [.q q] i c [] L) (j : Nat) : (∃ o ∈ L, o.1 = j) ↔ RQ q i j := by
  constructor
  · rintro ⟨o, ho, rfl⟩
    obtain ⟨k, h1, h2⟩ := gw_sound h o ho
    have h2 : o.1 = k := h2
    rw [h2]
    exact h1
  · intro hr
    obtain ⟨m, hp⟩ := pk_q q [] i j j 0 hr .fin
    obtain ⟨m', hl⟩ := least_of hp
    refine gw_complete (T := nodesQ q []) (fun a K K' h1 h2 => ?_) h (val_cons.2 ⟨fun p hp => hp, fun p hp => by cases hp⟩) m' j hl .none
    have hnd : ((nodesQ q []).map Prod.fst).Nodup := by rw [nodesQ_ids]; exact hn
    obtain ⟨x, hx, e1⟩ := List.mem_iff_getElem.1 h1
    obtain ⟨y, hy, e2⟩ := List.mem_iff_getElem.1 h2
    have hxy : x = y := by
      by_cases e : x < y
      · have := List.pairwise_iff_getElem.1 hnd x y (by simpa using hx) (by simpa using hy) e
        simp [e1, e2] at this
      · by_cases e' : y < x
        · have := List.pairwise_iff_getElem.1 hnd y x (by simpa using hy) (by simpa using hx) e'
          simp [e1, e2] at this
        · omega
    subst hxy
    rw [e1] at e2
    injection e2
end Go.Proofs.Ytaaadimkbhkpiaa

/- Where a tree may fit in a text, as a relation of places; what it is laid as fits just there. No memory. -/
namespace Go.Proofs.Ytaaadimkbhkpiaa
open Go Go.RowKit

abbrev RelN : Type := Nat → Nat → Prop
/-- So often, one behind the other. -/
def PowR (r : RelN) : Nat → RelN
  | 0, i, j => j = i
  | n + 1, i, j => ∃ k, r i k ∧ PowR r n k j
/-- At least l times, at most u times (without an end, if u is below 0). -/
def RepR (r : RelN) (l u : Int) : RelN := fun i j => ∃ n : Nat, l ≤ (n : Int) ∧ (u < 0 ∨ (n : Int) ≤ u) ∧ PowR r n i j
def RowR : List RelN → RelN
  | [], i, j => j = i
  | r :: l, i, j => ∃ k, r i k ∧ RowR l k j
def AltR : List RelN → RelN
  | [], _, _ => False
  | r :: l, i, j => r i j ∨ AltR l i j
def TreeX (R : List Int) (f : Fld) (l : List RelN) : RelN := fun i j =>
  if f.op = 2 then j = i
  else if f.op = 3 then (runeAt R i == f.rune) = true ∧ j = i + 1
  else if f.op = 4 then fitsS f.set (runeAt R i) = true ∧ j = i + 1
  else if f.op = 5 then (bits .and .i64 (atOf R i) f.at' != 0) = true ∧ j = i
  else if f.op = 11 then RowR l i j
  else if f.op = 12 then AltR l i j
  else match l with
    | [r] => if f.op = 6 then r i j else if f.op = 7 then StarR r i j else if f.op = 8 then ∃ k, r i k ∧ StarR r k j else if f.op = 9 then j = i ∨ r i j else if f.op = 10 then RepR r f.min f.max i j else False
    | _ => False
/-- Where the tree t may fit. -/
def TreeR (R : List Int) : Tr → RelN := Tr.para fun t l => TreeX R t.fld l
theorem treeR_eq (R : List Int) (t : Tr) : TreeR R t = TreeX R t.fld (t.kids.map (TreeR R)) := Tr.para_eq _ t
theorem star_pow {r : RelN} {i j : Nat} : StarR r i j ↔ ∃ n, PowR r n i j := by
  constructor
  · intro h
    induction h with
    | refl => exact ⟨0, rfl⟩
    | step h1 _ ih => obtain ⟨n, h2⟩ := ih; exact ⟨n + 1, _, h1, h2⟩
  · rintro ⟨n, h⟩
    induction n generalizing i with
    | zero => obtain rfl := h; exact .refl
    | succ n ih => obtain ⟨k, h1, h2⟩ := h; exact .step h1 (ih h2)
theorem row_reach {R : List Int} {M : Tr → Q → Prop} {ks : List Tr} {q : Q} (h : RowM M ks q) (hk : ∀ k ∈ ks, ∀ x, M k x → ∀ i j, RQ x i j ↔ TreeR R k i j) : ∀ i j, RQ q i j ↔ RowR (ks.map (TreeR R)) i j := by
  induction h with
  | nil => exact fun i j => Iff.rfl
  | @cons k ks x y y' h1 _ h3 ih =>
    have hy := ih fun k hk' => hk k (List.mem_cons_of_mem _ hk')
    have hy' : ∀ i j, RQ y' i j ↔ RQ y i j := fun i j => by rcases h3 with ⟨-, rfl⟩ | ⟨-, a, rfl⟩ <;> exact Iff.rfl
    intro i j
    exact exists_congr fun m => and_congr (hk _ (List.mem_cons_self ..) _ h1 i m) ((hy' m j).trans (hy m j))
theorem alt_reach {R : List Int} {M : Tr → Q → Prop} {ks : List Tr} {q : Q} (h : AltM M ks q) (hk : ∀ k ∈ ks, ∀ x, M k x → ∀ i j, RQ x i j ↔ TreeR R k i j) : ∀ i j, RQ q i j ↔ AltR (ks.map (TreeR R)) i j := by
  induction h with
  | nil => exact fun i j => Iff.rfl
  | cons h1 _ ih => exact fun i j => or_congr (hk _ (List.mem_cons_self ..) _ h1 i j) (ih (fun k hk' => hk k (List.mem_cons_of_mem _ hk')) i j)
theorem rep_reach {r : RelN} {M : Q → Prop} {lf : Prop} {z : Bool} {l u : Int} {q : Q} (h : RepM M lf z l u q) (hk : ∀ x, M x → ∀ i j, RQ x i j ↔ r i j) : 0 ≤ l → (u < 0 ∨ l ≤ u) → ∀ i j, RQ q i j ↔ RepR r l u i j := by
  induction h with
  | done =>
    intro h0 h1 i j
    constructor
    · rintro rfl
      exact ⟨0, by omega, .inr (by omega), rfl⟩
    · rintro ⟨n, h2, h3, h4⟩
      obtain rfl : n = 0 := by omega
      exact h4
  | @star h a x hh hx =>
    intro _ _ i j
    have he : ∀ i j, RQ x i j ↔ r i j := hk x hx
    constructor
    · intro hs
      obtain ⟨n, hn⟩ := star_pow.1 (StarR.mono (fun i j => (he i j).1) hs)
      exact ⟨n, by omega, .inl hh, hn⟩
    · rintro ⟨n, -, -, hn⟩
      exact StarR.mono (fun i j => (he i j).2) (star_pow.2 ⟨n, hn⟩)
  | @plus h a b x hh hx =>
    intro _ _ i j
    have he : ∀ i j, RQ x i j ↔ r i j := hk x hx
    constructor
    · rintro ⟨k, h1, h2⟩
      obtain ⟨n, hn⟩ := star_pow.1 (StarR.mono (fun i j => (he i j).1) h2)
      exact ⟨n + 1, by omega, .inl hh, k, (he i k).1 h1, hn⟩
    · rintro ⟨n, h1, -, hn⟩
      obtain ⟨m, rfl⟩ : ∃ m, n = m + 1 := ⟨n - 1, by omega⟩
      obtain ⟨k, h2, h3⟩ := hn
      exact ⟨k, (he i k).2 h2, StarR.mono (fun i j => (he i j).2) (star_pow.2 ⟨m, h3⟩)⟩
  | @opt h x y y' hh hx _ hb ih =>
    intro _ _ i j
    have he : ∀ i j, RQ x i j ↔ r i j := hk x hx
    have hy' : ∀ i j, RQ y' i j ↔ RQ y i j := fun i j => by rcases hb with ⟨-, rfl⟩ | ⟨-, a, rfl⟩ <;> exact Iff.rfl
    have ih := ih (by omega) (.inr (by omega))
    constructor
    · rintro (rfl | ⟨k, h1, h2⟩)
      · exact ⟨0, by omega, .inr (by omega), rfl⟩
      · obtain ⟨n, g1, g2, g3⟩ := (ih k j).1 ((hy' k j).1 h2)
        exact ⟨n + 1, by omega, .inr (by omega), k, (he i k).1 h1, g3⟩
    · rintro ⟨n, g1, g2, g3⟩
      cases n with
      | zero => exact .inl g3
      | succ n =>
        obtain ⟨k, h2, h3⟩ := g3
        exact .inr ⟨k, (he i k).2 h2, (hy' k j).2 ((ih k j).2 ⟨n, by omega, .inr (by omega), h3⟩)⟩
  | @more l h x y y' hl hh hn hx _ hb ih =>
    intro _ hu i j
    have he : ∀ i j, RQ x i j ↔ r i j := hk x hx
    have hy' : ∀ i j, RQ y' i j ↔ RQ y i j := fun i j => by rcases hb with ⟨-, rfl⟩ | ⟨-, a, rfl⟩ <;> exact Iff.rfl
    have ih := ih (by omega) (by omega)
    constructor
    · rintro ⟨k, h1, h2⟩
      obtain ⟨n, g1, g2, g3⟩ := (ih k j).1 ((hy' k j).1 h2)
      exact ⟨n + 1, by omega, by omega, k, (he i k).1 h1, g3⟩
    · rintro ⟨n, g1, g2, g3⟩
      obtain ⟨m, rfl⟩ : ∃ m, n = m + 1 := ⟨n - 1, by omega⟩
      obtain ⟨k, h2, h3⟩ := g3
      exact ⟨k, (he i k).2 h2, (hy' k j).2 ((ih k j).2 ⟨m, by omega, by omega, h3⟩)⟩
/-- What a tree is laid as fits just where the tree does. -/
theorem mat_reach (R : List Int) (G : Nat) (t : Tr) : ShapedP t → ∀ q, Mat R G t q → ∀ i j, RQ q i j ↔ TreeR R t i j := by
  refine Tr.ind (P := fun t => ShapedP t → ∀ q, Mat R G t q → ∀ i j, RQ q i j ↔ TreeR R t i j) (fun t ih hsh q hq i j => ?_) t
  obtain ⟨hF, hKO, hcap, hks⟩ := (shapedP_iff t).1 hsh
  have IH : ∀ k ∈ t.kids, ∀ x, Mat R G k x → ∀ i j, RQ x i j ↔ TreeR R k i j := fun k hk => ih k hk (hks k hk)
  have one : ∀ {k}, t.kids = [k] → k ∈ t.kids := fun h => by rw [h]; exact List.mem_singleton.2 rfl
  rw [treeR_eq]
  unfold TreeX
  have e0 : t.fld.op < 6 → t.kids.map (TreeR R) = [] := fun h => by
    have : t.kids.length = 0 := by have := hKO.2.2; omega
    rw [List.eq_nil_of_length_eq_zero this]; rfl
  cases (mat_iff R G t q).1 hq with
  | none h => rw [e0 (by omega)]; simp [h, RQ]
  | eps h => simp [h, RQ]
  | rune h => simp [h, RQ]
  | set h => simp [h, RQ]
  | at' h => simp [h, RQ]
  | @cap k x h1 h2 h3 h4 => have := IH _ (one h3) _ h4 i j; simp only [h1, h3, List.map_cons, List.map_nil]; exact this
  | bare h1 h2 h3 h4 => have := IH _ (one h3) _ h4 i j; simp only [h1, h3, List.map_cons, List.map_nil]; exact this
  | star h1 h2 h3 =>
    have he := IH _ (one h2) _ h3
    simp only [h1, h2, List.map_cons, List.map_nil]
    exact ⟨StarR.mono fun i j => (he i j).1, StarR.mono fun i j => (he i j).2⟩
  | plus h1 h2 h3 =>
    have he := IH _ (one h2) _ h3
    simp only [h1, h2, List.map_cons, List.map_nil]
    exact exists_congr fun k => and_congr (he i k) ⟨StarR.mono fun i j => (he i j).1, StarR.mono fun i j => (he i j).2⟩
  | quest h1 h2 h3 =>
    have he := IH _ (one h2) _ h3
    simp only [h1, h2, List.map_cons, List.map_nil]
    exact or_congr Iff.rfl (he i j)
  | rep h1 h2 h3 =>
    have hm := hF.2.2.2.2.2.2.2.2.2.2.2.2 h1
    simp only [h1, h2, List.map_cons, List.map_nil]
    exact rep_reach h3 (IH _ (one h2)) hm.1.1 (by omega) i j
  | cat h1 h2 => simp only [h1]; exact row_reach h2 IH i j
  | alt h1 h2 => simp only [h1]; exact alt_reach h2 IH i j
end Go.Proofs.Ytaaadimkbhkpiaa

/- What trees of one or two Kids are laid as, and where they may fit. No memory but List's. -/
namespace Go.Proofs.Ytaaadimkbhkpiaa
open Go Go.RowKit

/-- All ways are what they are, whatever the stack. -/
theorem gw_det {n : Nat} {K : Ks} {i : Nat} {c : List Int} {S : List Nat} {L : List Out} (h : GW n K i c S L) : ∀ {m : Nat} {L' : List Out}, GW m K i c S L' → L = L' := by
  induction h with
  | fin => intro m L' h; cases h; rfl
  | none => intro m L' h; cases h; rfl
  | eps _ ih => intro m L' h; cases h with | eps h => exact ih h
  | symT hp _ ih => intro m L' h; cases h with | symT _ h => exact ih h | symF hq => rw [hp] at hq; cases hq
  | symF hp => intro m L' h; cases h with | symT hq h => rw [hp] at hq; cases hq | symF hq => rfl
  | lookT hp _ ih => intro m L' h; cases h with | lookT _ h => exact ih h | lookF hq => rw [hp] at hq; cases hq
  | lookF hp => intro m L' h; cases h with | lookT hq h => rw [hp] at hq; cases hq | lookF hq => rfl
  | cap _ ih => intro m L' h; cases h with | cap h => exact ih h
  | capEnd _ ih => intro m L' h; cases h with | capEnd h => exact ih h
  | seq _ ih => intro m L' h; cases h with | seq h => exact ih h
  | altN => intro m L' h; cases h; rfl
  | altC _ _ _ _ ih1 ih2 => intro m L' h; cases h with | altC h1 h2 => rw [ih1 h1, ih2 h2]
  | quest _ _ ih1 ih2 => intro m L' h; cases h with | quest h1 h2 => rw [ih1 h1, ih2 h2]
  | mkF ha => intro m L' h; cases h with | mkF => rfl | mkT hb => exact absurd ha hb
  | mkT ha _ ih => intro m L' h; cases h with | mkF hb => exact absurd hb ha | mkT _ h => exact ih h
  | starF ha => intro m L' h; cases h with | starF => rfl | starT hb => exact absurd ha hb
  | starT ha _ _ ih1 ih2 => intro m L' h; cases h with | starF hb => exact absurd hb ha | starT _ h1 h2 => rw [ih1 h1, ih2 h2]
  | plusF ha => intro m L' h; cases h with | plusF => rfl | plusT hb => exact absurd ha hb
  | plusT ha _ ih => intro m L' h; cases h with | plusF hb => exact absurd hb ha | plusT _ h => exact ih h
  | askF ha => intro m L' h; cases h with | askF => rfl | askT hb => exact absurd ha hb
  | askT ha _ _ ih1 ih2 => intro m L' h; cases h with | askF hb => exact absurd hb ha | askT _ h1 h2 => rw [ih1 h1, ih2 h2]

/-- The ends of a tree that is laid as q. -/
def EndsQ (G : Nat) (q : Q) (a : Nat) (L : List Out) : Prop := ∃ n W, GW n [.q q] a ((List.replicate (2 * (G + 1)) (-1)).set 0 (a : Int)) [] W ∧ L = firsts [] W
theorem firsts_has : ∀ (P : List Nat) (L : List Out) (o : Out), o ∈ L → o.1 ∉ P → ∃ p ∈ firsts P L, p.1 = o.1
  | P, [], o, h, _ => by cases h
  | P, x :: L, o, h, hP => by
    unfold firsts
    rcases List.mem_cons.1 h with rfl | h
    · rw [if_neg hP]; exact ⟨_, List.mem_cons_self .., rfl⟩
    · split
      · exact firsts_has P L o h hP
      · by_cases e : o.1 = x.1
        · exact ⟨x, List.mem_cons_self .., e.symm⟩
        · obtain ⟨p, h1, h2⟩ := firsts_has (x.1 :: P) L o h (by simp [e, hP])
          exact ⟨p, List.mem_cons_of_mem _ h1, h2⟩
/-- They are where the tree may fit. -/
theorem endsQ_reach {R : List Int} {G : Nat} {t : Tr} {q : Q} {a : Nat} {L : List Out} (h : EndsQ G q a L) (hM : Mat R G t q) (hsh : ShapedP t) (hn : (idsQ q).Nodup) (j : Nat) : (∃ o ∈ L, o.1 = j) ↔ TreeR R t a j := by
  obtain ⟨n, W, hW, rfl⟩ := h
  rw [← mat_reach R G t hsh q hM, ← ways_reach hn hW]
  constructor
  · rintro ⟨o, ho, e⟩; exact ⟨o, ((firsts_nodup [] W).2 o ho).1, e⟩
  · rintro ⟨o, ho, rfl⟩; exact firsts_has [] W o ho (by simp)
/-- The first end of an Alt is the first one of its first Kid, if that has any. -/
theorem endsQ_head {G : Nat} {x r : Q} {a : Nat} {L M : List Out} (h : EndsQ G x a L) (k : EndsQ G (.altC x r) a M) (o : Out) (hL : L.head? = some o) : M.head? = some o := by
  obtain ⟨n, W, hW, rfl⟩ := h
  obtain ⟨m, V, hV, rfl⟩ := k
  cases hV with
  | altC h1 h2 =>
    obtain rfl := gw_det hW h1
    cases W with
    | nil => cases hL
    | cons p W =>
      simp only [firsts, List.not_mem_nil, if_false, List.head?_cons] at hL ⊢
      simp only [List.cons_append, firsts, List.not_mem_nil, if_false, List.head?_cons]
      exact hL
/-- List of a tree that is laid as q. -/
theorem list_laid (t : Tr) (v : Value) (ib B : Nat) (kk : Int) (s : ByteArray) (a : Nat) (w : World) (h : Tre w t v) (hin : In w B kk s ib) (hs : s.size ≤ 60) (hp : partsR t ≤ 1000) (ha : a ≤ (runesOf s).length) (hsh : ShapedP t) (q : Q) (hM : Mat (runesOf s) 0 t q) (n : Nat) (hN : Numd (runesOf s).length 4000 n 2000 4000 q) :
    Calls Try.prog 16 #[v, .int .i64 0, ptrV ib, .int .i64 a] w fun e w' => ∃ (ev : Value) (E : Env) (L : List Out), e = .returned ev ∧ w.heap.size ≤ E.fb ∧ EndsAt E w' ev L ∧ Below w.heap.size w w' ∧ EndsQ 0 q a L := by
  have hR : (runesOf s).length ≤ 60 := by have := length_runesOf s; omega
  have hf := hN.few
  have hw := hN.w
  have hmu : mu (runesOf s).length 4000 (idsQ q).length a (idsQ q).length (wQ q + 1) ≤ 4000000000000 := by
    have h1 : ((runesOf s).length - a) * (4000 * ((idsQ q).length + 1)) ≤ 480240000 := Nat.le_trans (Nat.mul_le_mul (show (runesOf s).length - a ≤ 60 by omega) (Nat.mul_le_mul_left 4000 (show (idsQ q).length + 1 ≤ 2001 by omega))) (by decide)
    have h2 : 4000 * (idsQ q).length ≤ 8000000 := by omega
    have e : mu (runesOf s).length 4000 (idsQ q).length a (idsQ q).length (wQ q + 1) = ((runesOf s).length - a) * (4000 * ((idsQ q).length + 1)) + 4000 * (idsQ q).length + (wQ q + 1) := rfl
    omega
  obtain ⟨m, L, h1, h2⟩ := list_ways t (by omega) v 0 ib B kk s a w h hin hsh (by omega) (by omega) ha q hM hN.once (by omega) 4000 (by omega) hN.sym hmu
  refine h2.mono ?_
  rintro e w' ⟨ev, E, rfl, hE, hEnd, hb⟩
  exact ⟨ev, E, _, rfl, hE, hEnd, hb, m, L, h1, rfl⟩
/-- A tree of an Op with Kids is shaped, if they are. -/
theorem opX_shapedP {op : Int} {ks : List Tr} (ho : (op = 7 ∧ ks.length = 1) ∨ (op = 9 ∧ ks.length = 1) ∨ op = 11 ∨ (op = 12 ∧ 2 ≤ ks.length)) (h : ∀ k ∈ ks, ShapedP k) : ShapedP (opX op 0 ks) := by
  rw [shapedP_iff]
  refine ⟨?_, ?_, ?_, h⟩
  · rcases ho with ⟨rfl, -⟩ | ⟨rfl, -⟩ | rfl | ⟨rfl, -⟩ <;> simp [FieldsOk, opX, Tr.fld] <;> decide
  · rcases ho with ⟨rfl, hk⟩ | ⟨rfl, hk⟩ | rfl | ⟨rfl, hk⟩ <;> simp [KidsOk, opX, Tr.fld, Tr.kids] <;> first | exact hk | omega | trivial
  · rcases ho with ⟨rfl, -⟩ | ⟨rfl, -⟩ | rfl | ⟨rfl, -⟩ <;> simp [opX, Tr.fld]
theorem opX_kids (op cap : Int) (ks : List Tr) : (opX op cap ks).kids = ks := rfl
theorem opX_op (op cap : Int) (ks : List Tr) : (opX op cap ks).fld.op = op := rfl
theorem alt_fits (R : List Int) (a b : Tr) (i j : Nat) : TreeR R (opX 12 0 [a, b]) i j ↔ TreeR R a i j ∨ TreeR R b i j := by
  rw [treeR_eq]
  simp [TreeX, opX_kids, opX_op, AltR]
theorem quest_fits (R : List Int) (a : Tr) (i j : Nat) : TreeR R (opX 9 0 [a]) i j ↔ TreeR R a i j ∨ j = i := by
  rw [treeR_eq]
  simp [TreeX, opX_kids, opX_op]
  exact or_comm
theorem star_fits (R : List Int) (a : Tr) (i j : Nat) : TreeR R (opX 7 0 [a]) i j ↔ StarR (TreeR R a) i j := by
  rw [treeR_eq]
  simp [TreeX, opX_kids, opX_op]
theorem cat_fits (R : List Int) (a b : Tr) (i j : Nat) : TreeR R (opX 11 0 [a, b]) i j ↔ ∃ k, TreeR R a i k ∧ TreeR R b k j := by
  rw [treeR_eq]
  simp [TreeX, opX_kids, opX_op, RowR]
/-- What the six trees of the law are laid as. -/
structure Laid6 (R : List Int) (a b : Tr) (qa qb x q s c : Q) : Prop where
  ma : Mat R 0 a qa
  mb : Mat R 0 b qb
  mx : Mat R 0 (opX 12 0 [a, b]) x
  mq : Mat R 0 (opX 9 0 [a]) q
  ms : Mat R 0 (opX 7 0 [a]) s
  mc : Mat R 0 (opX 11 0 [a, b]) c
  na : ∃ n, Numd R.length 4000 n 2000 4000 qa
  nb : ∃ n, Numd R.length 4000 n 2000 4000 qb
  nx : ∃ n, Numd R.length 4000 n 2000 4000 x
  nq : ∃ n, Numd R.length 4000 n 2000 4000 q
  ns : ∃ n, Numd R.length 4000 n 2000 4000 s
  nc : ∃ n, Numd R.length 4000 n 2000 4000 c
  head : ∃ r, x = .altC qa r
theorem weight_opX {op : Int} {ks : List Tr} (h : op = 7 ∨ op = 9 ∨ op = 11) (hw : (ks.map weightR).sum ≤ 301) : weightR (opX op 0 ks) = 1 + (ks.map weightR).sum := by
  rw [weightR_eq]
  rcases h with rfl | rfl | rfl <;> simp [weightN, clipR, opX, Tr.fld, Tr.kids] <;> omega
theorem laid6 (R : List Int) (a b : Tr) (ha : ShapedP a) (hb : ShapedP b) (hw : weightR a + weightR b ≤ 300) : ∃ qa qb x q s c, Laid6 R a b qa qb x q s c := by
  have pa := weight_pos a ha
  have pb := weight_pos b hb
  obtain ⟨qa, m1, n1⟩ := mat_has R 0 4000 a ha (by omega) (by omega) 0
  obtain ⟨qb, m2, n2⟩ := mat_has R 0 4000 b hb (by omega) (by omega) (0 + (3 * weightR a - 1))
  have hs1 : ShapedP (opX 9 0 [a]) := opX_shapedP (.inr (.inl ⟨rfl, rfl⟩)) (by simpa using ha)
  have hs2 : ShapedP (opX 7 0 [a]) := opX_shapedP (.inl ⟨rfl, rfl⟩) (by simpa using ha)
  have hs3 : ShapedP (opX 11 0 [a, b]) := opX_shapedP (.inr (.inr (.inl rfl))) (by simpa using ⟨ha, hb⟩)
  have w1 := weight_opX (op := 9) (ks := [a]) (by simp) (by simp; omega)
  have w2 := weight_opX (op := 7) (ks := [a]) (by simp) (by simp; omega)
  have w3 := weight_opX (op := 11) (ks := [a, b]) (by simp) (by simp; omega)
  simp only [List.map_cons, List.map_nil, List.sum_cons, List.sum_nil] at w1 w2 w3
  obtain ⟨q, m4, n4⟩ := mat_has R 0 4000 _ hs1 (by omega) (by omega) 0
  obtain ⟨s, m5, n5⟩ := mat_has R 0 4000 _ hs2 (by omega) (by omega) 0
  obtain ⟨c, m6, n6⟩ := mat_has R 0 4000 _ hs3 (by omega) (by omega) 0
  have n7 : Numd R.length 4000 (0 + (3 * weightR a - 1) + (3 * weightR b - 1)) 0 1 .altN := .leaf rfl rfl trivial (Nat.le_refl _)
  have n8 := n1.altC (n2.altC n7)
  exact ⟨qa, qb, _, q, s, c, m1, m2, (mat_iff R 0 _ _).2 (.alt rfl (.cons m1 (.cons m2 .nil))), m4, m5, m6, ⟨_, n1.up (by omega) (by omega)⟩, ⟨_, n2.up (by omega) (by omega)⟩, ⟨_, n8.up (by omega) (by omega)⟩, ⟨_, n4.up (by omega) (by omega)⟩, ⟨_, n5.up (by omega) (by omega)⟩, ⟨_, n6.up (by omega) (by omega)⟩, _, rfl⟩
end Go.Proofs.Ytaaadimkbhkpiaa

/- Does one of the ends stand at a place: the law's own question. No condition. -/
namespace Go.Proofs.Ytaaadimkbhkpiaa
open Go Go.RowKit

def hasE (L : List Out) (j : Nat) : Bool := L.any fun o => decide (o.1 = j)
theorem hasE_iff {L : List Out} {j : Nat} : hasE L j = true ↔ ∃ o ∈ L, o.1 = j := by simp [hasE]
/-- Of a tree that is laid as q: each end lies in the text, behind where it begins; its fit has two places. -/
theorem endsQ_fit {R : List Int} {t : Tr} {q : Q} {a n : Nat} {L : List Out} (h : EndsQ 0 q a L) (hM : Mat R 0 t q) (hsh : ShapedP t) (hN : Numd R.length 4000 n 2000 4000 q) (ha : a ≤ R.length) : ∀ o ∈ L, a ≤ o.1 ∧ o.1 ≤ R.length ∧ o.2.length = 2 := by
  obtain ⟨n, W, hW, rfl⟩ := h
  intro o ho
  have hm := ((firsts_nodup [] W).2 o ho).1
  obtain ⟨h1, h2, h3⟩ := gw_groups (a := (a : Int)) (G := 0) (N := R.length) (C := 4000) hW ⟨hN.sym, trivial⟩ ⟨mat_caps R 0 t hsh q hM, trivial⟩ (fit_start 0 a q) ha o hm
  have := h1.len
  exact ⟨by omega, h3, by omega⟩

set_option maxHeartbeats 1600000 in
set_option maxRecDepth 100000 in
theorem ends_any {W : World} {ev : Value} {L : List Out} (h : EndsV W ev L) (hl : ∀ o ∈ L, o.1 ≤ 60 ∧ o.2.length = 2) (j : Nat) (hj : j ≤ 60) : Calls Try.prog 20 #[ev, .int .i64 (j : Int)] W fun e w' => e = .returned (.bool (hasE L j)) ∧ W = w' := by
  obtain ⟨A, c, rfl, hle, hlm⟩ := h.sl
  have HAT := Lib.hid (h.at' A L.length c rfl)
  obtain ⟨N, hN⟩ : ∃ N, L.length = N := ⟨_, rfl⟩
  rw [hN] at hle ⊢
  have HNN := Lib.hid hN; have HL := Lib.hid hl
  have hNb : N ≤ 9223372036854775807 := by unfold maxLen at hlm; omega
  obtain ⟨B, hB⟩ : ∃ B, hasE L j = B := ⟨_, rfl⟩
  have HB := Lib.hid hB
  rw [hB]
  clear h hl hN hlm hB
  go_enter Try.func20, Try.ntmps20
  go_wp2_with fail
  go_loopw [5] (fun i wr => ∃ k : Nat, k ≤ N ∧ i = .int .i64 (k : Int) ∧ wr = W ∧ ∀ p, p < k → L[p]?.map Prod.fst ≠ some j) (fun i _ => N - (intOf i).toNat)
  case atStart => exact ⟨0, by omega, rfl, rfl, fun p hp => by omega⟩
  case round =>
    obtain ⟨k, hk, rfl, rfl, hno⟩ := hrel
    have HNO := Lib.hid hno
    clear hno
    by_cases hkN : k < N
    · have hd : decide ((k : Int) < (N : Int)) = true := decide_eq_true (by omega)
      have hkl : k < L.length := by rw [HNN.out]; exact hkN
      obtain ⟨g, r, rc, rfl, c1, hrc, hrm, hcell⟩ := HAT.out k hkl
      obtain ⟨e1, e2⟩ := HL.out _ (List.getElem_mem hkl)
      rw [e2] at c1 hrc
      have c2 := hcell 1 (by simp [rowOf]; omega)
      rw [show (rowOf L[k])[1]'(by simp [rowOf]; omega) = (L[k].1 : Int) by simp [rowOf]] at c2
      obtain ⟨o1, ho⟩ : ∃ o1, L[k].1 = o1 := ⟨_, rfl⟩
      rw [ho] at c2 e1
      have HO := Lib.hid ho
      clear hcell ho
      by_cases hoj : o1 = j
      · have hoe : ((o1 : Int) == (j : Int)) = true := by rw [hoj]; simp
        obtain rfl : B = true := by rw [← HB.out, hasE_iff]; exact ⟨_, List.getElem_mem hkl, HO.out.trans hoj⟩
        as_aux_lemma =>
          go_wp2_with fail
          go_ret
          exact ⟨rfl, rfl⟩
      · have hoe : ((o1 : Int) == (j : Int)) = false := beq_eq_false_iff_ne.2 (by omega)
        have hnx : ∀ p, p < k + 1 → L[p]?.map Prod.fst ≠ some j := fun p hp => by
          by_cases e : p = k
          · subst e; rw [List.getElem?_eq_getElem hkl]; simp [HO.out, hoj]
          · exact HNO.out p (by omega)
        as_aux_lemma =>
          go_wp2_with fail
          exact ⟨⟨k + 1, by omega, by go_num, (by first | rfl | trivial), hnx⟩, by simp only [intOf]; omega⟩
    · have hd : decide ((k : Int) < (N : Int)) = false := decide_eq_false (by omega)
      obtain rfl : B = false := by
        rw [← HB.out]
        refine Bool.eq_false_iff.2 fun h => ?_
        obtain ⟨o, ho, e⟩ := hasE_iff.1 h
        obtain ⟨p, hp, rfl⟩ := List.mem_iff_getElem.1 ho
        exact HNO.out p (by rw [HNN.out] at hp; omega) (by rw [List.getElem?_eq_getElem hp]; simp [e])
      as_aux_lemma =>
        go_wp2_with fail
        go_ret
        exact ⟨rfl, rfl⟩
theorem ends_row {W : World} {A : Option Addr} {n c : Nat} {L : List Out} (h : EndsV W (.slice A n c) L) (hl : ∀ o ∈ L, o.1 ≤ 60 ∧ o.2.length = 2) (k : Nat) (hk : k < L.length) :
    ∃ g r rc, A = some ⟨g, 0, none⟩ ∧ W.cell? ⟨g, k, none⟩ = some (.slice (some ⟨r, 0, none⟩) 2 rc) ∧ 2 ≤ rc ∧ rc ≤ maxLen ∧ W.cell? ⟨r, 1, none⟩ = some (.int .i64 (L[k].1 : Int)) := by
  obtain ⟨g, r, rc, e, c1, hrc, hrm, hcell⟩ := h.at' A n c rfl k hk
  have e2 := (hl _ (List.getElem_mem hk)).2
  rw [e2] at c1 hrc
  have c2 := hcell 1 (by simp [rowOf]; omega)
  rw [show (rowOf L[k])[1]'(by simp [rowOf]; omega) = (L[k].1 : Int) by simp [rowOf]] at c2
  exact ⟨g, r, rc, e, c1, hrc, hrm, c2⟩
/-- What List tells of a tree that is laid as q. -/
def ListQ (R : List Int) (t : Tr) (q : Q) (a : Nat) (w : World) (e : Ending) (w' : World) : Prop := ∃ (ev : Value) (L : List Out), e = .returned ev ∧ EndsV w' ev L ∧ Below w.heap.size w w' ∧ (∀ o ∈ L, o.1 ≤ R.length ∧ o.2.length = 2) ∧ EndsQ 0 q a L ∧ ∀ j, hasE L j = true ↔ TreeR R t a j
theorem list_q {t : Tr} {v : Value} {ib B : Nat} {kk : Int} {s : ByteArray} {a : Nat} {w : World} (h : Tre w t v) (hin : In w B kk s ib) (hs : s.size ≤ 60) (hp : partsR t ≤ 1000) (ha : a ≤ (runesOf s).length) (hsh : ShapedP t) {q : Q} (hM : Mat (runesOf s) 0 t q) (hN : ∃ n, Numd (runesOf s).length 4000 n 2000 4000 q) :
    Calls Try.prog 16 #[v, .int .i64 0, .pointer (some ⟨ib, 0, none⟩), .int .i64 a] w (ListQ (runesOf s) t q a w) := by
  obtain ⟨n, hN⟩ := hN
  refine (list_laid t v ib B kk s a w h hin hs hp ha hsh q hM n hN).mono ?_
  rintro e w' ⟨ev, E, L, rfl, -, hend, hb, hq⟩
  have hf := endsQ_fit hq hM hsh hN ha
  exact ⟨ev, L, rfl, hend.ev fun o ho => by have := (hf o ho).2.2; omega, hb, fun o ho => (hf o ho).2, hq, fun j => hasE_iff.trans (endsQ_reach hq hM hsh hN.once j)⟩
end Go.Proofs.Ytaaadimkbhkpiaa
