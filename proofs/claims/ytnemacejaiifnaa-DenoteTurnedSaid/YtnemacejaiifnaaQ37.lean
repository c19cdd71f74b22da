/- Texts merged by program: DnTurnM. No condition. -/
import Derived.Test.YtnemacejaiifnaaQ8
import Derived.Test.YtnemacejaiifnaaQ36
import Derived.KernelRfl
set_option linter.unusedVariables false
/- A tree turned fits, in the text turned, just where the tree fits in the text. No memory. -/
namespace Go.Proofs.Ytnemacejaiifnaa
open Go Go.RowKit

def UpR (r : RelN) : Prop := ∀ i j, r i j → i ≤ j
/-- What r fits, r' fits the other way round, in n places. -/
def Mir1 (n : Nat) (r r' : RelN) : Prop := ∀ i j, i ≤ n → j ≤ n → r i j → r' (n - j) (n - i)
theorem up_star {r : RelN} (h : UpR r) : UpR (StarR r) := by
  intro i j k
  induction k with
  | refl => exact Nat.le_refl _
  | step h1 _ ih => exact Nat.le_trans (h _ _ h1) ih
theorem up_pow {r : RelN} (h : UpR r) : ∀ m, UpR (PowR r m)
  | 0, i, j, k => by obtain rfl := k; exact Nat.le_refl _
  | m + 1, i, j, ⟨l, h1, h2⟩ => Nat.le_trans (h _ _ h1) (up_pow h m _ _ h2)
theorem up_row : ∀ {l : List RelN}, (∀ r ∈ l, UpR r) → UpR (RowR l)
  | [], _, i, j, k => by obtain rfl := k; exact Nat.le_refl _
  | r :: l, h, i, j, ⟨m, h1, h2⟩ => Nat.le_trans (h r (List.mem_cons_self ..) _ _ h1) (up_row (fun r hr => h r (List.mem_cons_of_mem _ hr)) _ _ h2)
theorem up_alt : ∀ {l : List RelN}, (∀ r ∈ l, UpR r) → UpR (AltR l)
  | [], _, i, j, k => k.elim
  | r :: l, h, i, j, k => k.elim (h r (List.mem_cons_self ..) i j) (up_alt (fun r hr => h r (List.mem_cons_of_mem _ hr)) i j)
/-- A match ends where it begins, or behind it. -/
theorem treeR_up (R : List Int) (t : Tr) : UpR (TreeR R t) := by
  refine Tr.ind (P := fun t => UpR (TreeR R t)) (fun t ih i j h => ?_) t
  rw [treeR_eq] at h
  have hk : ∀ r ∈ t.kids.map (TreeR R), UpR r := fun r hr => by
    obtain ⟨k, hk, rfl⟩ := List.mem_map.1 hr
    exact ih k hk
  unfold TreeX at h
  generalize t.kids.map (TreeR R) = l at hk h
  split at h
  · omega
  split at h
  · omega
  split at h
  · omega
  split at h
  · omega
  split at h
  · exact up_row hk i j h
  split at h
  · exact up_alt hk i j h
  split at h
  · rename_i r
    have hr := hk r (List.mem_singleton.2 rfl)
    split at h
    · exact hr _ _ h
    split at h
    · exact up_star hr _ _ h
    split at h
    · obtain ⟨k, h1, h2⟩ := h; exact Nat.le_trans (hr _ _ h1) (up_star hr _ _ h2)
    split at h
    · rcases h with rfl | h
      · exact Nat.le_refl _
      · exact hr _ _ h
    split at h
    · obtain ⟨m, -, -, h⟩ := h; exact up_pow hr m _ _ h
    · exact h.elim
  · exact h.elim
section
variable {n : Nat} {r r' : RelN}
theorem mir_star (h : Mir1 n r r') (hu : UpR r) : Mir1 n (StarR r) (StarR r') := by
  intro i j hi hj k
  induction k with
  | refl => exact .refl
  | @step i k j h1 h2 ih =>
    have hk := up_star hu _ _ h2
    exact (ih (by omega) hj).trans (.step (h i k hi (by omega) h1) .refl)
theorem pow_snoc : ∀ {m i k j : Nat}, PowR r m i k → r k j → PowR r (m + 1) i j
  | 0, i, k, j, h, g => by obtain rfl := h; exact ⟨j, g, rfl⟩
  | m + 1, i, k, j, ⟨l, h1, h2⟩, g => ⟨l, h1, pow_snoc h2 g⟩
theorem mir_pow (h : Mir1 n r r') (hu : UpR r) : ∀ m, Mir1 n (PowR r m) (PowR r' m)
  | 0, i, j, hi, hj, k => by obtain rfl := k; exact rfl
  | m + 1, i, j, hi, hj, ⟨k, h1, h2⟩ => by
    have hk := up_pow hu m _ _ h2
    exact pow_snoc (mir_pow h hu m k j (by omega) hj h2) (h i k hi (by omega) h1)
theorem mir_rep (h : Mir1 n r r') (hu : UpR r) (l u : Int) : Mir1 n (RepR r l u) (RepR r' l u) := fun i j hi hj ⟨m, h1, h2, h3⟩ => ⟨m, h1, h2, mir_pow h hu m i j hi hj h3⟩
theorem star_one {i k j : Nat} (h : StarR r i k) (g : r k j) : ∃ m, r i m ∧ StarR r m j := by
  cases h with
  | refl => exact ⟨j, g, .refl⟩
  | step h1 h2 => exact ⟨_, h1, h2.trans (.step g .refl)⟩
theorem mir_plus (h : Mir1 n r r') (hu : UpR r) : Mir1 n (fun i j => ∃ k, r i k ∧ StarR r k j) (fun i j => ∃ k, r' i k ∧ StarR r' k j) := fun i j hi hj ⟨k, h1, h2⟩ => by
  have hk := up_star hu _ _ h2
  exact star_one (mir_star h hu k j (by omega) hj h2) (h i k hi (by omega) h1)
theorem row_append : ∀ {a b : List RelN} {i k j : Nat}, RowR a i k → RowR b k j → RowR (a ++ b) i j
  | [], b, i, k, j, h, g => by obtain rfl := h; exact g
  | r :: a, b, i, k, j, ⟨m, h1, h2⟩, g => ⟨m, h1, row_append h2 g⟩
theorem mir_row {A B : Tr → RelN} : ∀ {ks : List Tr}, (∀ k ∈ ks, Mir1 n (A k) (B k)) → (∀ k ∈ ks, UpR (A k)) → Mir1 n (RowR (ks.map A)) (RowR (ks.reverse.map B))
  | [], _, _, i, j, _, _, k => by obtain rfl := k; exact rfl
  | t :: ks, hm, hu, i, j, hi, hj, ⟨k, h1, h2⟩ => by
    have hk := up_row (l := ks.map A) (fun r hr => by obtain ⟨x, hx, rfl⟩ := List.mem_map.1 hr; exact hu x (List.mem_cons_of_mem _ hx)) _ _ h2
    have h3 := mir_row (fun x hx => hm x (List.mem_cons_of_mem _ hx)) (fun x hx => hu x (List.mem_cons_of_mem _ hx)) k j (by omega) hj h2
    rw [List.reverse_cons, List.map_append]
    exact row_append h3 ⟨n - i, hm t (List.mem_cons_self ..) i k hi (by omega) h1, rfl⟩
theorem mir_alt {A B : Tr → RelN} : ∀ {ks : List Tr}, (∀ k ∈ ks, Mir1 n (A k) (B k)) → Mir1 n (AltR (ks.map A)) (AltR (ks.map B))
  | [], _, i, j, _, _, k => k.elim
  | t :: ks, hm, i, j, hi, hj, k => k.imp (hm t (List.mem_cons_self ..) i j hi hj) (mir_alt (fun x hx => hm x (List.mem_cons_of_mem _ hx)) i j hi hj)
end
/-- The text turned. -/
theorem rev_rune (R : List Int) (x : Int) : runeAt R.reverse ((R.length : Int) - 1 - x) = runeAt R x := by
  unfold runeAt
  by_cases h : 0 ≤ x ∧ x < R.length
  · obtain ⟨k, rfl⟩ : ∃ k : Nat, x = (k : Int) := ⟨x.toNat, by omega⟩
    rw [if_pos ⟨by omega, by simp; omega⟩, if_pos h]
    rw [show ((R.length : Int) - 1 - (k : Int)).toNat = R.length - 1 - k by omega]
    simp only [List.getD, Int.toNat_natCast]
    rw [List.getElem?_reverse (by omega)]
    congr 2
    omega
  · rw [if_neg (by simp; omega), if_neg h]
theorem at_swap (w f l bl el : Bool) (x : Int) (hx : x = 1 ∨ x = 2 ∨ x = 4 ∨ x = 8 ∨ x = 16 ∨ x = 32) : (bits .and .i64 (sumOf w l f el bl) (swapAt x) != 0) = (bits .and .i64 (sumOf w f l bl el) x != 0) := by
  rcases hx with rfl | rfl | rfl | rfl | rfl | rfl <;> cases w <;> cases f <;> cases l <;> cases bl <;> cases el <;> kernel_rfl
theorem rev_at (R : List Int) (i : Nat) (hi : i ≤ R.length) (x : Int) (hx : x = 1 ∨ x = 2 ∨ x = 4 ∨ x = 8 ∨ x = 16 ∨ x = 32) : (bits .and .i64 (atOf R.reverse ((R.length - i : Nat) : Int)) (swapAt x) != 0) = (bits .and .i64 (atOf R (i : Int)) x != 0) := by
  have e0 : ((R.length - i : Nat) : Int) = (R.length : Int) - 1 - ((i : Int) - 1) := by omega
  have e1 : ((R.length - i : Nat) : Int) - 1 = (R.length : Int) - 1 - (i : Int) := by omega
  unfold atOf
  rw [if_pos ⟨by omega, by simp⟩, if_pos ⟨by omega, by omega⟩, e1, rev_rune]
  have e2 : runeAt R.reverse ((R.length - i : Nat) : Int) = runeAt R ((i : Int) - 1) := by rw [e0, rev_rune]
  rw [e2, ← at_swap _ _ _ _ _ x hx]
  have f1 : ((((R.length - i : Nat) : Int)) == 0) = ((i : Int) == (R.length : Int)) := by rw [Bool.eq_iff_iff]; simp; omega
  have f2 : ((((R.length - i : Nat) : Int)) == ((R.reverse.length : Nat) : Int)) = ((i : Int) == 0) := by rw [Bool.eq_iff_iff]; simp; omega
  have f3 : ∀ a b : Bool, (a != b) = (b != a) := by decide
  rw [f1, f2, f3]
theorem treeX_none {R : List Int} {f : Fld} (h : f.op = 1) : TreeX R f [] = fun _ _ => False := by funext i j; simp [TreeX, h]
theorem treeX_eps {R : List Int} {f : Fld} {l : List RelN} (h : f.op = 2) : TreeX R f l = fun i j => j = i := by funext i j; simp [TreeX, h]
theorem treeX_rune {R : List Int} {f : Fld} {l : List RelN} (h : f.op = 3) : TreeX R f l = fun (i j : Nat) => (runeAt R (i : Int) == f.rune) = true ∧ j = i + 1 := by funext i j; simp [TreeX, h]
theorem treeX_set {R : List Int} {f : Fld} {l : List RelN} (h : f.op = 4) : TreeX R f l = fun (i j : Nat) => fitsS f.set (runeAt R (i : Int)) = true ∧ j = i + 1 := by funext i j; simp [TreeX, h]
theorem treeX_at {R : List Int} {f : Fld} {l : List RelN} (h : f.op = 5) : TreeX R f l = fun (i j : Nat) => (bits .and .i64 (atOf R (i : Int)) f.at' != 0) = true ∧ j = i := by funext i j; simp [TreeX, h]
theorem treeX_star {R : List Int} {f : Fld} {r : RelN} (h : f.op = 7) : TreeX R f [r] = StarR r := by funext i j; simp [TreeX, h]
theorem treeX_plus {R : List Int} {f : Fld} {r : RelN} (h : f.op = 8) : TreeX R f [r] = fun i j => ∃ k, r i k ∧ StarR r k j := by funext i j; simp [TreeX, h]
theorem treeX_quest {R : List Int} {f : Fld} {r : RelN} (h : f.op = 9) : TreeX R f [r] = fun i j => j = i ∨ r i j := by funext i j; simp [TreeX, h]
theorem treeX_rep {R : List Int} {f : Fld} {r : RelN} (h : f.op = 10) : TreeX R f [r] = RepR r f.min f.max := by funext i j; simp [TreeX, h]
theorem treeX_row {R : List Int} {f : Fld} {l : List RelN} (h : f.op = 11) : TreeX R f l = RowR l := by funext i j; simp [TreeX, h]
theorem treeX_alt {R : List Int} {f : Fld} {l : List RelN} (h : f.op = 12) : TreeX R f l = AltR l := by funext i j; simp [TreeX, h]
theorem treeX_cap {R : List Int} {f : Fld} {r : RelN} (h : f.op = 6) : TreeX R f [r] = r := by funext i j; simp [TreeX, h]
theorem rune_back (R : List Int) (i : Nat) (hi : i + 1 ≤ R.length) : runeAt R.reverse ((R.length - (i + 1) : Nat) : Int) = runeAt R (i : Int) := by
  rw [← rev_rune R (i : Int)]
  congr 1
  omega
/-- A tree turned fits just where the tree does, the other way round. -/
theorem turned_mir (R : List Int) (t : Tr) : ShapedP t → Mir1 R.length (TreeR R t) (TreeR R.reverse (turnedT t)) ∧ Mir1 R.length (TreeR R.reverse (turnedT t)) (TreeR R t) := by
  refine Tr.ind (P := fun t => ShapedP t → Mir1 R.length (TreeR R t) (TreeR R.reverse (turnedT t)) ∧ Mir1 R.length (TreeR R.reverse (turnedT t)) (TreeR R t)) (fun t ih hsh => ?_) t
  obtain ⟨hF, hKO, hcap, hks⟩ := (shapedP_iff t).1 hsh
  have A := fun k hk => (ih k hk (hks k hk)).1
  have B := fun k hk => (ih k hk (hks k hk)).2
  have UA := fun k (_ : k ∈ t.kids) => treeR_up R k
  have UB := fun k (_ : k ∈ t.kids) => treeR_up R.reverse (turnedT k)
  clear ih hks hsh
  have one : t.kids.length = 1 → ∃ k, t.kids = [k] := fun h => by
    match hk : t.kids, h with
    | [k], _ => exact ⟨k, rfl⟩
  by_cases h6 : t.fld.op = 6
  · obtain ⟨k, hk⟩ := one (hKO.1 (.inl h6))
    have hm : k ∈ t.kids := by rw [hk]; exact List.mem_singleton.2 rfl
    have e1 : TreeR R t = TreeR R k := by rw [treeR_eq, hk]; exact treeX_cap h6
    rw [turnedT_group h6 hk, e1]
    exact ⟨A k hm, B k hm⟩
  have eT : TreeR R.reverse (turnedT t) = TreeX R.reverse { t.fld with at' := swapAt t.fld.at' } ((turnKids t).map fun k => TreeR R.reverse (turnedT k)) := by
    rw [treeR_eq, turnedT_fld h6, turnedT_kids h6, List.map_map]
    rfl
  rw [eT, treeR_eq R t]
  obtain ⟨f1, f2, -, -, -, -, -, -, -, -, f5, -, -⟩ := hF
  by_cases h11 : t.fld.op = 11
  · have hk : turnKids t = t.kids.reverse := by unfold turnKids; rw [if_pos h11]
    rw [treeX_row (f := t.fld) h11, treeX_row (f := { t.fld with at' := swapAt t.fld.at' }) h11, hk]
    refine ⟨mir_row A UA, ?_⟩
    have h := mir_row (ks := t.kids.reverse) (n := R.length) (fun k hk => B k (List.mem_reverse.1 hk)) (fun k hk => UB k (List.mem_reverse.1 hk))
    rw [List.reverse_reverse] at h
    exact h
  have hk : turnKids t = t.kids := by unfold turnKids; rw [if_neg h11]
  rw [hk]
  clear eT hk
  by_cases h12 : t.fld.op = 12
  · rw [treeX_alt (f := t.fld) h12, treeX_alt (f := { t.fld with at' := swapAt t.fld.at' }) h12]
    exact ⟨mir_alt A, mir_alt B⟩
  by_cases h2 : t.fld.op = 2
  · rw [treeX_eps (f := t.fld) h2, treeX_eps (f := { t.fld with at' := swapAt t.fld.at' }) h2]
    exact ⟨fun i j _ _ h => by subst h; rfl, fun i j _ _ h => by subst h; rfl⟩
  by_cases h3 : t.fld.op = 3
  · rw [treeX_rune (f := t.fld) h3, treeX_rune (f := { t.fld with at' := swapAt t.fld.at' }) h3]
    refine ⟨?_, ?_⟩
    · rintro i j hi hj ⟨h, rfl⟩
      exact ⟨by rw [rune_back R i hj]; exact h, by omega⟩
    · rintro i j hi hj ⟨h, rfl⟩
      refine ⟨?_, by omega⟩
      have := rune_back R (R.length - (i + 1)) (by omega)
      rw [show R.length - (R.length - (i + 1) + 1) = i by omega] at this
      rw [← this]; exact h
  by_cases h4 : t.fld.op = 4
  · rw [treeX_set (f := t.fld) h4, treeX_set (f := { t.fld with at' := swapAt t.fld.at' }) h4]
    refine ⟨?_, ?_⟩
    · rintro i j hi hj ⟨h, rfl⟩
      exact ⟨by rw [rune_back R i hj]; exact h, by omega⟩
    · rintro i j hi hj ⟨h, rfl⟩
      refine ⟨?_, by omega⟩
      have := rune_back R (R.length - (i + 1)) (by omega)
      rw [show R.length - (R.length - (i + 1) + 1) = i by omega] at this
      rw [← this]; exact h
  by_cases h5 : t.fld.op = 5
  · rw [treeX_at (f := t.fld) h5, treeX_at (f := { t.fld with at' := swapAt t.fld.at' }) h5]
    refine ⟨?_, ?_⟩
    · rintro i j hi hj ⟨h, rfl⟩
      exact ⟨by rw [rev_at R j hi _ (f5 h5)]; exact h, rfl⟩
    · rintro i j hi hj ⟨h, rfl⟩
      refine ⟨?_, rfl⟩
      have := rev_at R (R.length - j) (by omega) _ (f5 h5)
      rw [show R.length - (R.length - j) = j by omega] at this
      rw [← this]; exact h
  by_cases h1 : t.fld.op = 1
  · have hz : t.kids = [] := List.eq_nil_of_length_eq_zero (by have := hKO.2.2; omega)
    rw [hz]
    simp only [List.map_nil]
    rw [treeX_none (f := t.fld) h1, treeX_none (f := { t.fld with at' := swapAt t.fld.at' }) h1]
    exact ⟨fun i j _ _ h => h, fun i j _ _ h => h⟩
  obtain ⟨k, hk⟩ := one (hKO.1 (by omega))
  have hm : k ∈ t.kids := by rw [hk]; exact List.mem_singleton.2 rfl
  rw [hk]
  simp only [List.map_cons, List.map_nil]
  have a := A k hm; have b := B k hm; have ua := UA k hm; have ub := UB k hm
  by_cases h7 : t.fld.op = 7
  · rw [treeX_star (f := t.fld) h7, treeX_star (f := { t.fld with at' := swapAt t.fld.at' }) h7]
    exact ⟨mir_star a ua, mir_star b ub⟩
  by_cases h8 : t.fld.op = 8
  · rw [treeX_plus (f := t.fld) h8, treeX_plus (f := { t.fld with at' := swapAt t.fld.at' }) h8]
    exact ⟨mir_plus a ua, mir_plus b ub⟩
  by_cases h9 : t.fld.op = 9
  · rw [treeX_quest (f := t.fld) h9, treeX_quest (f := { t.fld with at' := swapAt t.fld.at' }) h9]
    exact ⟨fun i j hi hj h => h.imp (fun e => by subst e; rfl) (a i j hi hj), fun i j hi hj h => h.imp (fun e => by subst e; rfl) (b i j hi hj)⟩
  have h10 : t.fld.op = 10 := by omega
  rw [treeX_rep (f := t.fld) h10, treeX_rep (f := { t.fld with at' := swapAt t.fld.at' }) h10]
  exact ⟨mir_rep a ua _ _, mir_rep b ub _ _⟩
/-- Just where. -/
theorem turned_fits (R : List Int) (t : Tr) (h : ShapedP t) (i j : Nat) (hi : i ≤ R.length) (hj : j ≤ R.length) : TreeR R t i j ↔ TreeR R.reverse (turnedT t) (R.length - j) (R.length - i) := by
  refine ⟨(turned_mir R t h).1 i j hi hj, fun k => ?_⟩
  have := (turned_mir R t h).2 _ _ (by omega) (by omega) k
  rwa [show R.length - (R.length - i) = i by omega, show R.length - (R.length - j) = j by omega] at this
end Go.Proofs.Ytnemacejaiifnaa
