/- Texts merged by program: TrRight, TrTop, TrEmpty, TrStill, TrMath, TrCaps. No condition. -/
import Derived.Test.YtnemacejaiifnaaQ34
import Derived.Test.YtnemacejaiifnaaQ22
import Derived.Test.YtnemacejaiifnaaQ35
import Derived.Laws.MakeOwn
set_option linter.unusedVariables false
/- Is a tree right: the document's Right. -/
namespace Go.Proofs.Ytnemacejaiifnaa
open Go Go.RowKit

/-- Groups are numbered in order, and no name stands twice. -/
def CapsFine (g : List Tr) : Prop := ∀ (i : Nat) (h : i < g.length), g[i].fld.cap = (i : Int) + 1 ∧ ∀ (k : Nat) (hk : k < i), ¬ ((g[k]'(by omega)).fld.name.toList = g[i].fld.name.toList ∧ g[i].fld.name.toList ≠ [])
/-- A right tree. -/
def RightT (t : Tr) : Prop := depthR t ≤ 50 ∧ weightR t ≤ 4000 ∧ ShapedP t ∧ CapsFine (groupsT t)
end Go.Proofs.Ytnemacejaiifnaa
/- A tree, turned, if it is right; else the empty one: the document's Turned. -/
namespace Go.Proofs.Ytnemacejaiifnaa
open Go Go.RowKit

/-- The tree, turned, if it is right; else none. -/
def TopOf (t T : Tr) : Prop := (RightT t ∧ T = turnedT t) ∨ (¬ RightT t ∧ T = noTr)
theorem TopOf.one {t T U : Tr} (h : TopOf t T) (g : TopOf t U) : T = U := by
  rcases h with ⟨h, rfl⟩ | ⟨h, rfl⟩ <;> rcases g with ⟨g, rfl⟩ | ⟨g, rfl⟩
  · rfl
  · exact absurd h g
  · exact absurd g h
  · rfl
def TopPost (A : Nat → Prop) (t : Tr) (w : World) (e : Ending) (w' : World) : Prop := ∃ v T, e = .returned v ∧ TopOf t T ∧ TreF (fun b => A b ∨ w.heap.size ≤ b) w' T v ∧ Below w.heap.size w w'
theorem noTr_tre (F : Nat → Prop) (w : World) : TreF F w noTr (.agg #[.int .i64 0, .slice none 0 0, .int .i32 0, .slice none 0 0, .int .i64 0, .int .i64 0, .string ⟨#[]⟩, .int .i64 0, .int .i64 0, .bool false]) := by
  rw [treF_iff]
  refine ⟨.slice none 0 0, .slice none 0 0, rfl, ⟨⟨none, 0, rfl, by simp [noTr, Tr.fld], by unfold maxLen; omega, by simp, .inl rfl, by simp [noTr, Tr.fld]⟩, .inl rfl⟩, by simp [FldOk, I64, I32, noTr, Tr.fld]; decide, none, 0, rfl, by simp [noTr, Tr.kids], by unfold maxLen; omega, by simp [noTr, Tr.kids], by simp, .inl rfl⟩

end Go.Proofs.Ytnemacejaiifnaa
/- May a tree fit nothing: the document's empty. -/
namespace Go.Proofs.Ytnemacejaiifnaa
open Go Go.RowKit

theorem ex_mem_map {α : Type} (l : List α) (f : α → Prop) : (∃ p ∈ l.map f, p) ↔ ∃ k ∈ l, f k := by
  constructor
  · rintro ⟨p, hp, h⟩
    obtain ⟨k, hk, rfl⟩ := List.mem_map.1 hp
    exact ⟨k, hk, h⟩
  · rintro ⟨k, hk, h⟩
    exact ⟨f k, List.mem_map.2 ⟨k, hk, rfl⟩, h⟩
theorem all_mem_map {α : Type} (l : List α) (f : α → Prop) : (∀ p ∈ l.map f, p) ↔ ∀ k ∈ l, f k :=
  ⟨fun h k hk => h (f k) (List.mem_map.2 ⟨k, hk, rfl⟩), fun h p hp => by obtain ⟨k, hk, rfl⟩ := List.mem_map.1 hp; exact h k hk⟩
/-- May a tree fit nothing? -/
def EmptyP : Tr → Prop := Tr.para fun t l => if t.fld.op = 2 ∨ t.fld.op = 5 ∨ t.fld.op = 7 ∨ t.fld.op = 9 then True else if t.fld.op = 1 ∨ t.fld.op = 3 ∨ t.fld.op = 4 then False else if t.fld.op = 10 ∧ t.fld.min = 0 then True else if t.fld.op = 12 then ∃ p ∈ l, p else ∀ p ∈ l, p
theorem emptyP_iff (t : Tr) : EmptyP t ↔ if t.fld.op = 2 ∨ t.fld.op = 5 ∨ t.fld.op = 7 ∨ t.fld.op = 9 then True else if t.fld.op = 1 ∨ t.fld.op = 3 ∨ t.fld.op = 4 then False else if t.fld.op = 10 ∧ t.fld.min = 0 then True else if t.fld.op = 12 then ∃ k ∈ t.kids, EmptyP k else ∀ k ∈ t.kids, EmptyP k := by
  unfold EmptyP
  rw [Tr.para_eq]
  simp only [ex_mem_map, all_mem_map]
/-- Does a tree never fit more? -/
def StillP : Tr → Prop := Tr.para fun t l => ¬ (t.fld.op = 3 ∨ t.fld.op = 4) ∧ ∀ p ∈ l, p
theorem stillP_iff (t : Tr) : StillP t ↔ ¬ (t.fld.op = 3 ∨ t.fld.op = 4) ∧ ∀ k ∈ t.kids, StillP k := by
  unfold StillP
  rw [Tr.para_eq]
  simp only [all_mem_map]
end Go.Proofs.Ytnemacejaiifnaa
/- Does a tree never fit more: the document's still; and of right trees: Empty, Still. -/
namespace Go.Proofs.Ytnemacejaiifnaa
open Go Go.RowKit

end Go.Proofs.Ytnemacejaiifnaa
/- Plain mathematics of turned trees: turned twice a tree is itself without its groups; it is right, may fit nothing, never fits more, just as the tree. -/
namespace Go.Proofs.Ytnemacejaiifnaa
open Go Go.RowKit

/-- A tree without its groups. -/
def bareT : Tr → Tr := Tr.para fun t l => if t.fld.op = 6 then l.headD noTr else .mk t.fld l
theorem bareT_eq (t : Tr) : bareT t = if t.fld.op = 6 then (t.kids.map bareT).headD noTr else .mk t.fld (t.kids.map bareT) := Tr.para_eq _ t
theorem swap_swap (x : Int) : swapAt (swapAt x) = x := by
  unfold swapAt
  by_cases h1 : x = 1
  · subst h1; decide
  by_cases h2 : x = 2
  · subst h2; decide
  by_cases h4 : x = 4
  · subst h4; decide
  by_cases h8 : x = 8
  · subst h8; decide
  simp [h1, h2, h4, h8]
theorem swap_at {x : Int} (h : x = 1 ∨ x = 2 ∨ x = 4 ∨ x = 8 ∨ x = 16 ∨ x = 32) : swapAt x = 1 ∨ swapAt x = 2 ∨ swapAt x = 4 ∨ swapAt x = 8 ∨ swapAt x = 16 ∨ swapAt x = 32 := by
  rcases h with rfl | rfl | rfl | rfl | rfl | rfl <;> decide
/-- The one Kid of a group. -/
theorem group_kid {t : Tr} (h : ShapedP t) (h6 : t.fld.op = 6) : ∃ k, t.kids = [k] ∧ ShapedP k := by
  obtain ⟨-, hk, -, hs⟩ := (shapedP_iff t).1 h
  have h1 := hk.1 (.inl h6)
  match hq : t.kids, h1 with
  | [k], _ => exact ⟨k, rfl, hs k (by rw [hq]; simp)⟩
theorem turnedT_group {t k : Tr} (h6 : t.fld.op = 6) (hk : t.kids = [k]) : turnedT t = turnedT k := by rw [turnedT_eq, if_pos h6, hk]; rfl
theorem bareT_group {t k : Tr} (h6 : t.fld.op = 6) (hk : t.kids = [k]) : bareT t = bareT k := by rw [bareT_eq, if_pos h6, hk]; rfl
theorem turnedT_fld {t : Tr} (h6 : t.fld.op ≠ 6) : (turnedT t).fld = { t.fld with at' := swapAt t.fld.at' } := by rw [turnedT_else t h6]; rfl
theorem turnedT_kids {t : Tr} (h6 : t.fld.op ≠ 6) : (turnedT t).kids = (turnKids t).map turnedT := by rw [turnedT_else t h6]; rfl
theorem mem_turnKids {t k : Tr} : k ∈ turnKids t ↔ k ∈ t.kids := by unfold turnKids; split <;> simp
theorem turned_twice (t : Tr) : ShapedP t → turnedT (turnedT t) = bareT t := by
  refine Tr.ind (P := fun t => ShapedP t → turnedT (turnedT t) = bareT t) (fun t ih hs => ?_) t
  by_cases h6 : t.fld.op = 6
  · obtain ⟨k, hk, hks⟩ := group_kid hs h6
    rw [turnedT_group h6 hk, bareT_group h6 hk]
    exact ih k (by rw [hk]; simp) hks
  · have hop : (turnedT t).fld.op = t.fld.op := by rw [turnedT_fld h6]
    have hks := ((shapedP_iff t).1 hs).2.2.2
    rw [turnedT_else (turnedT t) (by rw [hop]; exact h6), bareT_eq, if_neg h6]
    have hm : (turnKids (turnedT t)).map turnedT = t.kids.map bareT := by
      have hc : ∀ l : List Tr, (∀ k ∈ l, k ∈ t.kids) → (l.map turnedT).map turnedT = l.map bareT := fun l hl => by
        rw [List.map_map]
        exact List.map_congr_left fun k hk => ih k (hl k hk) (hks k (hl k hk))
      unfold turnKids
      rw [hop, turnedT_kids h6]
      unfold turnKids
      by_cases h11 : t.fld.op = 11
      · rw [if_pos h11, if_pos h11, ← List.map_reverse, List.reverse_reverse]
        exact hc _ fun k hk => hk
      · rw [if_neg h11, if_neg h11]
        exact hc _ fun k hk => hk
    rw [hm, turnedT_fld h6]
    simp only [swap_swap]
/-- What a turned tree is made of is made of turned Kids. -/
theorem turned_ind {P : Tr → Tr → Prop} (hg : ∀ t k, t.fld.op = 6 → t.kids = [k] → P k (turnedT k) → P t (turnedT t)) (he : ∀ t, t.fld.op ≠ 6 → ShapedP t → (∀ k ∈ t.kids, P k (turnedT k)) → P t (turnedT t)) (t : Tr) : ShapedP t → P t (turnedT t) := by
  refine Tr.ind (P := fun t => ShapedP t → P t (turnedT t)) (fun t ih hs => ?_) t
  by_cases h6 : t.fld.op = 6
  · obtain ⟨k, hk, hks⟩ := group_kid hs h6
    exact hg t k h6 hk (ih k (by rw [hk]; simp) hks)
  · exact he t h6 hs fun k hk => ih k hk (((shapedP_iff t).1 hs).2.2.2 k hk)
theorem all_turn {t : Tr} {P Q : Tr → Prop} (h6 : t.fld.op ≠ 6) (h : ∀ k ∈ t.kids, (P (turnedT k) ↔ Q k)) : (∀ k ∈ (turnedT t).kids, P k) ↔ ∀ k ∈ t.kids, Q k := by
  rw [turnedT_kids h6]
  constructor
  · intro g k hk
    exact (h k hk).1 (g _ (List.mem_map_of_mem (mem_turnKids.2 hk)))
  · intro g q hq
    obtain ⟨k, hk, rfl⟩ := List.mem_map.1 hq
    exact (h k (mem_turnKids.1 hk)).2 (g k (mem_turnKids.1 hk))
theorem ex_turn {t : Tr} {P Q : Tr → Prop} (h6 : t.fld.op ≠ 6) (h : ∀ k ∈ t.kids, (P (turnedT k) ↔ Q k)) : (∃ k ∈ (turnedT t).kids, P k) ↔ ∃ k ∈ t.kids, Q k := by
  rw [turnedT_kids h6]
  constructor
  · rintro ⟨q, hq, g⟩
    obtain ⟨k, hk, rfl⟩ := List.mem_map.1 hq
    exact ⟨k, mem_turnKids.1 hk, (h k (mem_turnKids.1 hk)).1 g⟩
  · rintro ⟨k, hk, g⟩
    exact ⟨_, List.mem_map_of_mem (mem_turnKids.2 hk), (h k hk).2 g⟩
theorem still_turned (t : Tr) (hs : ShapedP t) : StillP (turnedT t) ↔ StillP t := by
  refine turned_ind (P := fun t u => StillP u ↔ StillP t) (fun t k h6 hk h => ?_) (fun t h6 _ h => ?_) t hs
  · rw [turnedT_group h6 hk, h, stillP_iff t, hk, h6]
    simp
  · rw [stillP_iff (turnedT t), stillP_iff t, all_turn h6 h, turnedT_fld h6]
theorem empty_turned (t : Tr) (hs : ShapedP t) : EmptyP (turnedT t) ↔ EmptyP t := by
  refine turned_ind (P := fun t u => EmptyP u ↔ EmptyP t) (fun t k h6 hk h => ?_) (fun t h6 _ h => ?_) t hs
  · rw [turnedT_group h6 hk, h, emptyP_iff t, hk, h6]
    simp
  · rw [emptyP_iff (turnedT t), emptyP_iff t, all_turn h6 h, ex_turn h6 h, turnedT_fld h6]
theorem groups_turned (t : Tr) (hs : ShapedP t) : groupsT (turnedT t) = [] := by
  refine turned_ind (P := fun t u => groupsT u = []) (fun t k h6 hk h => ?_) (fun t h6 _ h => ?_) t hs
  · rw [turnedT_group h6 hk]
    exact h
  · rw [groupsT_eq, turnedT_fld h6, if_neg h6, turnedT_kids h6, List.nil_append, List.flatten_eq_nil_iff]
    intro q hq
    obtain ⟨u, hu, rfl⟩ := List.mem_map.1 hq
    obtain ⟨k, hk, rfl⟩ := List.mem_map.1 hu
    exact h k (mem_turnKids.1 hk)
theorem shaped_turned (t : Tr) (hs : ShapedP t) : ShapedP (turnedT t) := by
  refine turned_ind (P := fun t u => ShapedP u) (fun t k h6 hk h => ?_) (fun t h6 hs h => ?_) t hs
  · rw [turnedT_group h6 hk]
    exact h
  · obtain ⟨h1, h2, h3, h4⟩ := (shapedP_iff t).1 hs
    rw [shapedP_iff, turnedT_fld h6]
    refine ⟨?_, ?_, h3, ?_⟩
    · obtain ⟨q1, q2, q3, q4, q5, q6, q7, q8, q9, q10, q11, q12, q13⟩ := h1
      have q11 := fun h => swap_at (q11 h)
      refine ⟨q1, q2, q3, q4, fun h => ?_, q6, q7, q8, q9, q10, q11, q12, q13⟩
      have := q5 h
      show swapAt t.fld.at' = 0
      rw [this]
      decide
    · rw [turnedT_kids h6, List.length_map, turnKids_len]
      exact h2
    · rw [turnedT_kids h6]
      intro q hq
      obtain ⟨k, hk, rfl⟩ := List.mem_map.1 hq
      exact h k (mem_turnKids.1 hk)
theorem le_maxL {x : Nat} : ∀ {l : List Nat}, x ∈ l → x ≤ maxL l
  | y :: l, h => by
    rw [maxL]
    rcases List.mem_cons.1 h with rfl | h
    · omega
    · have := le_maxL h
      omega
theorem depth_turned (t : Tr) (hs : ShapedP t) : depthR (turnedT t) ≤ depthR t := by
  refine turned_ind (P := fun t u => depthR u ≤ depthR t) (fun t k h6 hk h => ?_) (fun t h6 _ h => ?_) t hs
  · rw [turnedT_group h6 hk, depthR_eq t, hk]
    simp only [List.map_cons, List.map_nil, maxL]
    omega
  · rw [depthR_eq (turnedT t), depthR_eq t, turnedT_kids h6]
    refine Nat.succ_le_succ (maxL_le fun x hx => ?_)
    obtain ⟨u, hu, rfl⟩ := List.mem_map.1 hx
    obtain ⟨k, hk, rfl⟩ := List.mem_map.1 hu
    have hk := mem_turnKids.1 hk
    exact Nat.le_trans (h k hk) (le_maxL (List.mem_map_of_mem hk))
theorem weightN_mono (f : Fld) (m : Nat) {n n' : Nat} (h : n ≤ n') : weightN f m n ≤ weightN f m n' := by
  unfold weightN clipR
  split
  · omega
  · split
    · omega
    · split
      · have := Nat.mul_le_mul_left (min (max (max f.min f.max) 1).toNat 4001) h
        omega
      · split <;> omega
theorem clip_mono {n n' : Nat} (h : n ≤ n') : clipR n ≤ clipR n' := by unfold clipR; omega
theorem sum_turnKids (t : Tr) (f : Tr → Nat) : ((turnKids t).map f).sum = (t.kids.map f).sum := by
  unfold turnKids
  split
  · rw [List.map_reverse, List.sum_reverse]
  · rfl
theorem sum_turned {f : Tr → Nat} {t : Tr} (h : ∀ k ∈ t.kids, f (turnedT k) ≤ f k) : (((turnKids t).map turnedT).map f).sum ≤ (t.kids.map f).sum := by
  rw [List.map_map, sum_turnKids]
  exact flat_le _ h
theorem weight_turned (t : Tr) (hs : ShapedP t) : weightR (turnedT t) ≤ weightR t := by
  refine turned_ind (P := fun t u => weightR u ≤ weightR t) (fun t k h6 hk h => ?_) (fun t h6 _ h => ?_) t hs
  · rw [turnedT_group h6 hk, weightR_eq t, hk]
    have := weightR_le k
    simp only [List.map_cons, List.map_nil, List.sum_cons, List.sum_nil, weightN, h6, if_true, clipR]
    omega
  · rw [weightR_eq (turnedT t), weightR_eq t, turnedT_kids h6, turnedT_fld h6, List.length_map, turnKids_len]
    exact weightN_mono t.fld _ (clip_mono (sum_turned h))
theorem parts_turned (t : Tr) (hs : ShapedP t) : partsR (turnedT t) ≤ partsR t := by
  refine turned_ind (P := fun t u => partsR u ≤ partsR t) (fun t k h6 hk h => ?_) (fun t h6 _ h => ?_) t hs
  · rw [turnedT_group h6 hk]
    have := partsR_kid (t := t) (k := k) (by rw [hk]; simp)
    omega
  · rw [partsR_eq (turnedT t), partsR_eq t, turnedT_kids h6, turnedT_fld h6]
    exact Nat.add_le_add_left (sum_turned h) _
/-- A right tree, turned, is right. -/
theorem right_turned {t : Tr} (h : RightT t) : RightT (turnedT t) := by
  obtain ⟨h1, h2, h3, -⟩ := h
  refine ⟨Nat.le_trans (depth_turned t h3) h1, Nat.le_trans (weight_turned t h3) h2, shaped_turned t h3, ?_⟩
  rw [groups_turned t h3]
  intro i hi
  simp at hi
end Go.Proofs.Ytnemacejaiifnaa
/- The names of a right tree's groups: the document's Caps. -/
namespace Go.Proofs.Ytnemacejaiifnaa
open Go Go.RowKit

/-- The values of strings. -/
def litsS (l : List ByteArray) : List Value := l.map Value.string
theorem litsS_append (a b : List ByteArray) : litsS (a ++ b) = litsS a ++ litsS b := by simp [litsS]
theorem litsS_length (l : List ByteArray) : (litsS l).length = l.length := by simp [litsS]
theorem litsS_one (l : List ByteArray) : ∀ u ∈ litsS l, u.oneCell' = true := fun u hu => by
  obtain ⟨x, _, rfl⟩ := List.mem_map.1 hu
  rfl
theorem info_str : (Try.prog.info? 9).map (fun i => (i.zero, i.size, i.bytes)) = some (some (.string ⟨#[]⟩), 1, 16) := by kernel_rfl
theorem own_slice1s {w : World} {base : Nat} {e : TypeId} {n : Nat} {v : Value} {xs : List Value} (h : w.ownsRow base e 1 v n xs) : (v = .slice none 0 0 ∧ n = 0) ∨ ∃ g c, v = .slice (some ⟨g, 0, none⟩) n c ∧ n ≤ c ∧ c ≤ maxLen ∧ base ≤ g := by
  rcases h.2 with h | ⟨q, cap, cur, rfl, hb, _, hn, hm, _⟩
  · exact .inl h
  · exact .inr ⟨_, _, rfl, hn, hm, hb⟩
/-- The value v owns a row of the strings l, among the blocks from B on. -/
def OwnS (w : World) (B : Nat) (v : Value) (l : List ByteArray) : Prop := w.ownsRow B 9 1 v l.length (litsS l)
theorem OwnS.below {w w' : World} {B : Nat} {v : Value} {l : List ByteArray} (h : OwnS w B v l) (hb : Below w.heap.size w w') : OwnS w' B v l :=
  World.ownsRow.kept h (row := none) ⟨hb.os, hb.tape, hb.output, hb.size, fun k hk _ => hb.block k hk⟩ (by cases v.ownBlock <;> simp)
theorem OwnS.mono {w : World} {B B' : Nat} {v : Value} {l : List ByteArray} (h : OwnS w B v l) (hb : B' ≤ B) : OwnS w B' v l := Go.Joins.ownsRow_le h hb
/-- The slice value v holds the strings l. -/
def Srs (w : World) (v : Value) (l : List ByteArray) : Prop := ∃ a c, v = .slice a l.length c ∧ l.length ≤ c ∧ c ≤ maxLen ∧ (l = [] ∨ ∃ b, a = some ⟨b, 0, none⟩ ∧ ∀ i (h : i < l.length), w.cell? ⟨b, i, none⟩ = some (.string l[i]))
theorem Srs.below {w w' : World} {v : Value} {l : List ByteArray} (h : Srs w v l) (hb : Below w.heap.size w w') : Srs w' v l := by
  obtain ⟨a, c, h1, h2, h3, h4⟩ := h
  refine ⟨a, c, h1, h2, h3, h4.imp id ?_⟩
  rintro ⟨b, e, hc⟩
  exact ⟨b, e, fun i hi => (hb.cell (World.block_lt_of_cell? w _ (hc i hi))).trans (hc i hi)⟩
theorem OwnS.srs {w : World} {B : Nat} {v : Value} {l : List ByteArray} (h : OwnS w B v l) : Srs w v l := by
  have h' := h
  rcases own_slice1s h with ⟨rfl, hn⟩ | ⟨g, c, rfl, h1, h2, -⟩
  · exact ⟨none, 0, by rw [hn], by omega, Nat.zero_le _, .inl (List.eq_nil_of_length_eq_zero hn)⟩
  · refine ⟨_, c, rfl, h1, h2, .inr ⟨g, rfl, fun i hi => ?_⟩⟩
    have := World.ownsRow.cells h' (g := g) rfl i (.string l[i]) (by simp [litsS, hi])
    rw [show (⟨g, 0, none⟩ : Addr).add i = ⟨g, 0 + i, none⟩ by unfold Addr.add; split <;> simp_all, Nat.zero_add] at this
    exact this
/-- The names of a right tree's groups. -/
def capsNames (t : Tr) : List ByteArray := ⟨#[]⟩ :: (groupsT t).map fun g => g.fld.name
/-- A fresh list of the names, if the tree is right; else nothing. -/
def CapsPost (t : Tr) (w : World) (e : Ending) (w' : World) : Prop := Below w.heap.size w w' ∧ ((¬ RightT t ∧ e = .returned (.slice none 0 0)) ∨ (RightT t ∧ ∃ v, e = .returned v ∧ OwnS w' w.heap.size v (capsNames t)))

end Go.Proofs.Ytnemacejaiifnaa
