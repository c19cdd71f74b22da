/- Texts joined by program: TrTurned TrTop TrMath. No condition. -/
import Derived.Test.YtaaadimkbhkpiaaQ37
import Derived.Test.YtaaadimkbhkpiaaQ38
import Derived.Test.YtaaadimkbhkpiaaQ24
import Derived.Test.YtaaadimkbhkpiaaQ39
set_option linter.unusedVariables false
set_option linter.unusedSimpArgs false
/- A tree, turned: the document's turned. -/
namespace Go.Proofs.Ytaaadimkbhkpiaa
open Go Go.RowKit

theorem SameOn.mono {F G : Nat → Prop} {w w' : World} (h : SameOn G w w') (hFG : ∀ b, F b → G b) : SameOn F w w' := fun b hb hlt => h b (hFG b hb) hlt
def swapAt (x : Int) : Int := if x = 1 then 2 else if x = 2 then 1 else if x = 4 then 8 else if x = 8 then 4 else x
def noTr : Tr := .mk { op := 0, rune := 0, set := [], at' := 0, cap := 0, name := ⟨#[]⟩, min := 0, max := 0, lazy := false } []
/-- A tree, turned. -/
def turnedT : Tr → Tr := Tr.para fun t l => if t.fld.op = 6 then l.headD noTr else .mk { t.fld with at' := swapAt t.fld.at' } (if t.fld.op = 11 then l.reverse else l)
theorem turnedT_eq (t : Tr) : turnedT t = if t.fld.op = 6 then (t.kids.map turnedT).headD noTr else .mk { t.fld with at' := swapAt t.fld.at' } (if t.fld.op = 11 then (t.kids.map turnedT).reverse else t.kids.map turnedT) := Tr.para_eq _ t
def TurnedPost (A : Nat → Prop) (T : Tr) (w : World) (e : Ending) (w' : World) : Prop := ∃ v, e = .returned v ∧ TreF (fun b => A b ∨ w.heap.size ≤ b) w' T v ∧ Below w.heap.size w w'
/-- The Kids in the order in which they are turned. -/
def turnKids (t : Tr) : List Tr := if t.fld.op = 11 then t.kids.reverse else t.kids
theorem turnKids_len (t : Tr) : (turnKids t).length = t.kids.length := by unfold turnKids; split <;> simp
theorem turnedT_else (t : Tr) (h : t.fld.op ≠ 6) : turnedT t = .mk { t.fld with at' := swapAt t.fld.at' } ((turnKids t).map turnedT) := by
  rw [turnedT_eq, if_neg h]
  unfold turnKids
  split <;> simp
theorem swap_i64 {x : Int} (h : I64 x) : I64 (swapAt x) := by
  unfold swapAt I64 at *
  split
  · omega
  · split
    · omega
    · split
      · omega
      · split <;> omega
/-- A turned tree out of its row of Kids. -/
theorem turned_made {G : Nat → Prop} {w : World} {t : Tr} {ks : List Tr} {kv sv : Value} (hf : FldOk t.fld) (hs : Rgs w sv t.fld.set ∧ Foot G sv t.fld.set) (hk : KdsF G w ks kv) : TreF G w (.mk { t.fld with at' := swapAt t.fld.at' } ks) (.agg #[.int .i64 t.fld.op, kv, .int .i32 t.fld.rune, sv, .int .i64 (swapAt t.fld.at'), .int .i64 t.fld.cap, .string t.fld.name, .int .i64 t.fld.min, .int .i64 t.fld.max, .bool t.fld.lazy]) := by
  rw [treF_iff]
  exact ⟨kv, sv, rfl, hs, ⟨hf.1, hf.2.1, swap_i64 hf.2.2.1, hf.2.2.2.1, hf.2.2.2.2.1, hf.2.2.2.2.2.1, hf.2.2.2.2.2.2.1, hf.2.2.2.2.2.2.2⟩, hk⟩

end Go.Proofs.Ytaaadimkbhkpiaa

/- A tree, turned, if it is right; else the empty one: the document's Turned. -/
namespace Go.Proofs.Ytaaadimkbhkpiaa
open Go Go.RowKit

/-- The tree, turned, if it is right; else none. -/
def TopOf (t T : Tr) : Prop := (RightT t ∧ T = turnedT t) ∨ (¬ RightT t ∧ T = noTr)
theorem TopOf.one {t T U : Tr} (h : TopOf t T) (g : TopOf t U) : T = U := by
  rcases h with ⟨h, rfl⟩ | ⟨h, rfl⟩ <;> rcases g with ⟨g, rfl⟩ | ⟨g, rfl⟩
  · rfl
  · exact absurd h g
  · exact absurd g h
  · rfl
def TopPost (A : Nat → Prop) (t : Tr) (w : World) (e : Ending) (w' : World) : Prop := ∃ v T, e = .returned v ∧ TopOf t T ∧ TreF (fun b => A b ∨ w.heap.size ≤ b) w' T v ∧ Below w.heap.size w w'
theorem noTr_tre (F : Nat → Prop) (w : World) : TreF F w noTr (.agg #[.int .i64 0, .slice none 0 0, .int .i32 0, .slice none 0 0, .int .i64 0, .int .i64 0, .string ⟨#[]⟩, .int .i64 0, .int .i64 0, .bool false]) := by
  rw [treF_iff]
  refine ⟨.slice none 0 0, .slice none 0 0, rfl, ⟨⟨none, 0, rfl, by simp [noTr, Tr.fld], by unfold maxLen; omega, by simp, .inl rfl, by simp [noTr, Tr.fld]⟩, .inl rfl⟩, by simp [FldOk, I64, I32, noTr, Tr.fld]; decide, none, 0, rfl, by simp [noTr, Tr.kids], by unfold maxLen; omega, by simp [noTr, Tr.kids], by simp, .inl rfl⟩

end Go.Proofs.Ytaaadimkbhkpiaa

/- Plain mathematics of turned trees: turned twice a tree is itself without its groups; it is right, may fit nothing, never fits more, just as the tree. -/
namespace Go.Proofs.Ytaaadimkbhkpiaa
open Go Go.RowKit

/-- A tree without its groups. -/
def bareT : Tr → Tr := Tr.para fun t l => if t.fld.op = 6 then l.headD noTr else .mk t.fld l
theorem bareT_eq (t : Tr) : bareT t = if t.fld.op = 6 then (t.kids.map bareT).headD noTr else .mk t.fld (t.kids.map bareT) := Tr.para_eq _ t
theorem swap_swap (x : Int) : swapAt (swapAt x) = x := by
  unfold swapAt
  by_cases h1 : x = 1
  · subst h1; decide
  by_cases h2 : x = 2
  · subst h2; decide
  by_cases h4 : x = 4
  · subst h4; decide
  by_cases h8 : x = 8
  · subst h8; decide
  simp [h1, h2, h4, h8]
theorem swap_at {x : Int} (h : x = 1 ∨ x = 2 ∨ x = 4 ∨ x = 8 ∨ x = 16 ∨ x = 32) : swapAt x = 1 ∨ swapAt x = 2 ∨ swapAt x = 4 ∨ swapAt x = 8 ∨ swapAt x = 16 ∨ swapAt x = 32 := by
  rcases h with rfl | rfl | rfl | rfl | rfl | rfl <;> decide
/-- The one Kid of a group. -/
theorem group_kid {t : Tr} (h : ShapedP t) (h6 : t.fld.op = 6) : ∃ k, t.kids = [k] ∧ ShapedP k := by
  obtain ⟨-, hk, -, hs⟩ := (shapedP_iff t).1 h
  have h1 := hk.1 (.inl h6)
  match hq : t.kids, h1 with
  | [k], _ => exact ⟨k, rfl, hs k (by rw [hq]; simp)⟩
theorem turnedT_group {t k : Tr} (h6 : t.fld.op = 6) (hk : t.kids = [k]) : turnedT t = turnedT k := by rw [turnedT_eq, if_pos h6, hk]; rfl
theorem bareT_group {t k : Tr} (h6 : t.fld.op = 6) (hk : t.kids = [k]) : bareT t = bareT k := by rw [bareT_eq, if_pos h6, hk]; rfl
theorem turnedT_fld {t : Tr} (h6 : t.fld.op ≠ 6) : (turnedT t).fld = { t.fld with at' := swapAt t.fld.at' } := by rw [turnedT_else t h6]; rfl
theorem turnedT_kids {t : Tr} (h6 : t.fld.op ≠ 6) : (turnedT t).kids = (turnKids t).map turnedT := by rw [turnedT_else t h6]; rfl
theorem mem_turnKids {t k : Tr} : k ∈ turnKids t ↔ k ∈ t.kids := by unfold turnKids; split <;> simp
theorem turned_twice (t : Tr) : ShapedP t → turnedT (turnedT t) = bareT t := by
  refine Tr.ind (P := fun t => ShapedP t → turnedT (turnedT t) = bareT t) (fun t ih hs => ?_) t
  by_cases h6 : t.fld.op = 6
  · obtain ⟨k, hk, hks⟩ := group_kid hs h6
    rw [turnedT_group h6 hk, bareT_group h6 hk]
    exact ih k (by rw [hk]; simp) hks
  · have hop : (turnedT t).fld.op = t.fld.op := by rw [turnedT_fld h6]
    have hks := ((shapedP_iff t).1 hs).2.2.2
    rw [turnedT_else (turnedT t) (by rw [hop]; exact h6), bareT_eq, if_neg h6]
    have hm : (turnKids (turnedT t)).map turnedT = t.kids.map bareT := by
      have hc : ∀ l : List Tr, (∀ k ∈ l, k ∈ t.kids) → (l.map turnedT).map turnedT = l.map bareT := fun l hl => by
        rw [List.map_map]
        exact List.map_congr_left fun k hk => ih k (hl k hk) (hks k (hl k hk))
      unfold turnKids
      rw [hop, turnedT_kids h6]
      unfold turnKids
      by_cases h11 : t.fld.op = 11
      · rw [if_pos h11, if_pos h11, ← List.map_reverse, List.reverse_reverse]
        exact hc _ fun k hk => hk
      · rw [if_neg h11, if_neg h11]
        exact hc _ fun k hk => hk
    rw [hm, turnedT_fld h6]
    simp only [swap_swap]
/-- What a turned tree is made of is made of turned Kids. -/
theorem turned_ind {P : Tr → Tr → Prop} (hg : ∀ t k, t.fld.op = 6 → t.kids = [k] → P k (turnedT k) → P t (turnedT t)) (he : ∀ t, t.fld.op ≠ 6 → ShapedP t → (∀ k ∈ t.kids, P k (turnedT k)) → P t (turnedT t)) (t : Tr) : ShapedP t → P t (turnedT t) := by
  refine Tr.ind (P := fun t => ShapedP t → P t (turnedT t)) (fun t ih hs => ?_) t
  by_cases h6 : t.fld.op = 6
  · obtain ⟨k, hk, hks⟩ := group_kid hs h6
    exact hg t k h6 hk (ih k (by rw [hk]; simp) hks)
  · exact he t h6 hs fun k hk => ih k hk (((shapedP_iff t).1 hs).2.2.2 k hk)
theorem all_turn {t : Tr} {P Q : Tr → Prop} (h6 : t.fld.op ≠ 6) (h : ∀ k ∈ t.kids, (P (turnedT k) ↔ Q k)) : (∀ k ∈ (turnedT t).kids, P k) ↔ ∀ k ∈ t.kids, Q k := by
  rw [turnedT_kids h6]
  constructor
  · intro g k hk
    exact (h k hk).1 (g _ (List.mem_map_of_mem (mem_turnKids.2 hk)))
  · intro g q hq
    obtain ⟨k, hk, rfl⟩ := List.mem_map.1 hq
    exact (h k (mem_turnKids.1 hk)).2 (g k (mem_turnKids.1 hk))
theorem ex_turn {t : Tr} {P Q : Tr → Prop} (h6 : t.fld.op ≠ 6) (h : ∀ k ∈ t.kids, (P (turnedT k) ↔ Q k)) : (∃ k ∈ (turnedT t).kids, P k) ↔ ∃ k ∈ t.kids, Q k := by
  rw [turnedT_kids h6]
  constructor
  · rintro ⟨q, hq, g⟩
    obtain ⟨k, hk, rfl⟩ := List.mem_map.1 hq
    exact ⟨k, mem_turnKids.1 hk, (h k (mem_turnKids.1 hk)).1 g⟩
  · rintro ⟨k, hk, g⟩
    exact ⟨_, List.mem_map_of_mem (mem_turnKids.2 hk), (h k hk).2 g⟩
theorem still_turned (t : Tr) (hs : ShapedP t) : StillP (turnedT t) ↔ StillP t := by
  refine turned_ind (P := fun t u => StillP u ↔ StillP t) (fun t k h6 hk h => ?_) (fun t h6 _ h => ?_) t hs
  · rw [turnedT_group h6 hk, h, stillP_iff t, hk, h6]
    simp
  · rw [stillP_iff (turnedT t), stillP_iff t, all_turn h6 h, turnedT_fld h6]
theorem empty_turned (t : Tr) (hs : ShapedP t) : EmptyP (turnedT t) ↔ EmptyP t := by
  refine turned_ind (P := fun t u => EmptyP u ↔ EmptyP t) (fun t k h6 hk h => ?_) (fun t h6 _ h => ?_) t hs
  · rw [turnedT_group h6 hk, h, emptyP_iff t, hk, h6]
    simp
  · rw [emptyP_iff (turnedT t), emptyP_iff t, all_turn h6 h, ex_turn h6 h, turnedT_fld h6]
theorem groups_turned (t : Tr) (hs : ShapedP t) : groupsT (turnedT t) = [] := by
  refine turned_ind (P := fun t u => groupsT u = []) (fun t k h6 hk h => ?_) (fun t h6 _ h => ?_) t hs
  · rw [turnedT_group h6 hk]
    exact h
  · rw [groupsT_eq, turnedT_fld h6, if_neg h6, turnedT_kids h6, List.nil_append, List.flatten_eq_nil_iff]
    intro q hq
    obtain ⟨u, hu, rfl⟩ := List.mem_map.1 hq
    obtain ⟨k, hk, rfl⟩ := List.mem_map.1 hu
    exact h k (mem_turnKids.1 hk)
theorem shaped_turned (t : Tr) (hs : ShapedP t) : ShapedP (turnedT t) := by
  refine turned_ind (P := fun t u => ShapedP u) (fun t k h6 hk h => ?_) (fun t h6 hs h => ?_) t hs
  · rw [turnedT_group h6 hk]
    exact h
  · obtain ⟨h1, h2, h3, h4⟩ := (shapedP_iff t).1 hs
    rw [shapedP_iff, turnedT_fld h6]
    refine ⟨?_, ?_, h3, ?_⟩
    · obtain ⟨q1, q2, q3, q4, q5, q6, q7, q8, q9, q10, q11, q12, q13⟩ := h1
      have q11 := fun h => swap_at (q11 h)
      refine ⟨q1, q2, q3, q4, fun h => ?_, q6, q7, q8, q9, q10, q11, q12, q13⟩
      have := q5 h
      show swapAt t.fld.at' = 0
      rw [this]
      decide
    · rw [turnedT_kids h6, List.length_map, turnKids_len]
      exact h2
    · rw [turnedT_kids h6]
      intro q hq
      obtain ⟨k, hk, rfl⟩ := List.mem_map.1 hq
      exact h k (mem_turnKids.1 hk)
theorem le_maxL {x : Nat} : ∀ {l : List Nat}, x ∈ l → x ≤ maxL l
  | y :: l, h => by
    rw [maxL]
    rcases List.mem_cons.1 h with rfl | h
    · omega
    · have := le_maxL h
      omega
theorem depth_turned (t : Tr) (hs : ShapedP t) : depthR (turnedT t) ≤ depthR t := by
  refine turned_ind (P := fun t u => depthR u ≤ depthR t) (fun t k h6 hk h => ?_) (fun t h6 _ h => ?_) t hs
  · rw [turnedT_group h6 hk, depthR_eq t, hk]
    simp only [List.map_cons, List.map_nil, maxL]
    omega
  · rw [depthR_eq (turnedT t), depthR_eq t, turnedT_kids h6]
    refine Nat.succ_le_succ (maxL_le fun x hx => ?_)
    obtain ⟨u, hu, rfl⟩ := List.mem_map.1 hx
    obtain ⟨k, hk, rfl⟩ := List.mem_map.1 hu
    have hk := mem_turnKids.1 hk
    exact Nat.le_trans (h k hk) (le_maxL (List.mem_map_of_mem hk))
theorem weightN_mono (f : Fld) (m : Nat) {n n' : Nat} (h : n ≤ n') : weightN f m n ≤ weightN f m n' := by
  unfold weightN clipR
  split
  · omega
  · split
    · omega
    · split
      · have := Nat.mul_le_mul_left (min (max (max f.min f.max) 1).toNat 4001) h
        omega
      · split <;> omega
theorem clip_mono {n n' : Nat} (h : n ≤ n') : clipR n ≤ clipR n' := by unfold clipR; omega
theorem sum_turnKids (t : Tr) (f : Tr → Nat) : ((turnKids t).map f).sum = (t.kids.map f).sum := by
  unfold turnKids
  split
  · rw [List.map_reverse, List.sum_reverse]
  · rfl
theorem sum_turned {f : Tr → Nat} {t : Tr} (h : ∀ k ∈ t.kids, f (turnedT k) ≤ f k) : (((turnKids t).map turnedT).map f).sum ≤ (t.kids.map f).sum := by
  rw [List.map_map, sum_turnKids]
  exact flat_le _ h
theorem weight_turned (t : Tr) (hs : ShapedP t) : weightR (turnedT t) ≤ weightR t := by
  refine turned_ind (P := fun t u => weightR u ≤ weightR t) (fun t k h6 hk h => ?_) (fun t h6 _ h => ?_) t hs
  · rw [turnedT_group h6 hk, weightR_eq t, hk]
    have := weightR_le k
    simp only [List.map_cons, List.map_nil, List.sum_cons, List.sum_nil, weightN, h6, if_true, clipR]
    omega
  · rw [weightR_eq (turnedT t), weightR_eq t, turnedT_kids h6, turnedT_fld h6, List.length_map, turnKids_len]
    exact weightN_mono t.fld _ (clip_mono (sum_turned h))
theorem parts_turned (t : Tr) (hs : ShapedP t) : partsR (turnedT t) ≤ partsR t := by
  refine turned_ind (P := fun t u => partsR u ≤ partsR t) (fun t k h6 hk h => ?_) (fun t h6 _ h => ?_) t hs
  · rw [turnedT_group h6 hk]
    have := partsR_kid (t := t) (k := k) (by rw [hk]; simp)
    omega
  · rw [partsR_eq (turnedT t), partsR_eq t, turnedT_kids h6, turnedT_fld h6]
    exact Nat.add_le_add_left (sum_turned h) _
/-- A right tree, turned, is right. -/
theorem right_turned {t : Tr} (h : RightT t) : RightT (turnedT t) := by
  obtain ⟨h1, h2, h3, -⟩ := h
  refine ⟨Nat.le_trans (depth_turned t h3) h1, Nat.le_trans (weight_turned t h3) h2, shaped_turned t h3, ?_⟩
  rw [groups_turned t h3]
  intro i hi
  simp at hi
end Go.Proofs.Ytaaadimkbhkpiaa
