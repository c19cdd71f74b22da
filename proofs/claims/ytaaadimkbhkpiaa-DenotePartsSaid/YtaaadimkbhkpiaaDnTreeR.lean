/- Where a tree may fit in a text, as a relation of places; what it is laid as fits just there. No memory. -/
import Derived.Test.YtaaadimkbhkpiaaDnReach
import Derived.Test.YtaaadimkbhkpiaaQ8
set_option linter.unusedVariables false
namespace Go.Proofs.Ytaaadimkbhkpiaa
open Go Go.RowKit

abbrev RelN : Type := Nat → Nat → Prop
/-- So often, one behind the other. -/
def PowR (r : RelN) : Nat → RelN
  | 0, i, j => j = i
  | n + 1, i, j => ∃ k, r i k ∧ PowR r n k j
/-- At least l times, at most u times (without an end, if u is below 0). -/
def RepR (r : RelN) (l u : Int) : RelN := fun i j => ∃ n : Nat, l ≤ (n : Int) ∧ (u < 0 ∨ (n : Int) ≤ u) ∧ PowR r n i j
def RowR : List RelN → RelN
  | [], i, j => j = i
  | r :: l, i, j => ∃ k, r i k ∧ RowR l k j
def AltR : List RelN → RelN
  | [], _, _ => False
  | r :: l, i, j => r i j ∨ AltR l i j
def TreeX (R : List Int) (f : Fld) (l : List RelN) : RelN := fun i j =>
  if f.op = 2 then j = i
  else if f.op = 3 then (runeAt R i == f.rune) = true ∧ j = i + 1
  else if f.op = 4 then fitsS f.set (runeAt R i) = true ∧ j = i + 1
  else if f.op = 5 then (bits .and .i64 (atOf R i) f.at' != 0) = true ∧ j = i
  else if f.op = 11 then RowR l i j
  else if f.op = 12 then AltR l i j
  else match l with
    | [r] => if f.op = 6 then r i j else if f.op = 7 then StarR r i j else if f.op = 8 then ∃ k, r i k ∧ StarR r k j else if f.op = 9 then j = i ∨ r i j else if f.op = 10 then RepR r f.min f.max i j else False
    | _ => False
/-- Where the tree t may fit. -/
def TreeR (R : List Int) : Tr → RelN := Tr.para fun t l => TreeX R t.fld l
theorem treeR_eq (R : List Int) (t : Tr) : TreeR R t = TreeX R t.fld (t.kids.map (TreeR R)) := Tr.para_eq _ t
theorem star_pow {r : RelN} {i j : Nat} : StarR r i j ↔ ∃ n, PowR r n i j := by
  constructor
  · intro h
    induction h with
    | refl => exact ⟨0, rfl⟩
    | step h1 _ ih => obtain ⟨n, h2⟩ := ih; exact ⟨n + 1, _, h1, h2⟩
  · rintro ⟨n, h⟩
    induction n generalizing i with
    | zero => obtain rfl := h; exact .refl
    | succ n ih => obtain ⟨k, h1, h2⟩ := h; exact .step h1 (ih h2)
theorem row_reach {R : List Int} {M : Tr → Q → Prop} {ks : List Tr} {q : Q} (h : RowM M ks q) (hk : ∀ k ∈ ks, ∀ x, M k x → ∀ i j, RQ x i j ↔ TreeR R k i j) : ∀ i j, RQ q i j ↔ RowR (ks.map (TreeR R)) i j := by
  induction h with
  | nil => exact fun i j => Iff.rfl
  | @cons k ks x y y' h1 _ h3 ih =>
    have hy := ih fun k hk' => hk k (List.mem_cons_of_mem _ hk')
    have hy' : ∀ i j, RQ y' i j ↔ RQ y i j := fun i j => by rcases h3 with ⟨-, rfl⟩ | ⟨-, a, rfl⟩ <;> exact Iff.rfl
    intro i j
    exact exists_congr fun m => and_congr (hk _ (List.mem_cons_self ..) _ h1 i m) ((hy' m j).trans (hy m j))
theorem alt_reach {R : List Int} {M : Tr → Q → Prop} {ks : List Tr} {q : Q} (h : AltM M ks q) (hk : ∀ k ∈ ks, ∀ x, M k x → ∀ i j, RQ x i j ↔ TreeR R k i j) : ∀ i j, RQ q i j ↔ AltR (ks.map (TreeR R)) i j := by
  induction h with
  | nil => exact fun i j => Iff.rfl
  | cons h1 _ ih => exact fun i j => or_congr (hk _ (List.mem_cons_self ..) _ h1 i j) (ih (fun k hk' => hk k (List.mem_cons_of_mem _ hk')) i j)
theorem rep_reach {r : RelN} {M : Q → Prop} {lf : Prop} {z : Bool} {l u : Int} {q : Q} (h : RepM M lf z l u q) (hk : ∀ x, M x → ∀ i j, RQ x i j ↔ r i j) : 0 ≤ l → (u < 0 ∨ l ≤ u) → ∀ i j, RQ q i j ↔ RepR r l u i j := by
  induction h with
  | done =>
    intro h0 h1 i j
    constructor
    · rintro rfl
      exact ⟨0, by omega, .inr (by omega), rfl⟩
    · rintro ⟨n, h2, h3, h4⟩
      obtain rfl : n = 0 := by omega
      exact h4
  | @star h a x hh hx =>
    intro _ _ i j
    have he : ∀ i j, RQ x i j ↔ r i j := hk x hx
    constructor
    · intro hs
      obtain ⟨n, hn⟩ := star_pow.1 (StarR.mono (fun i j => (he i j).1) hs)
      exact ⟨n, by omega, .inl hh, hn⟩
    · rintro ⟨n, -, -, hn⟩
      exact StarR.mono (fun i j => (he i j).2) (star_pow.2 ⟨n, hn⟩)
  | @plus h a b x hh hx =>
    intro _ _ i j
    have he : ∀ i j, RQ x i j ↔ r i j := hk x hx
    constructor
    · rintro ⟨k, h1, h2⟩
      obtain ⟨n, hn⟩ := star_pow.1 (StarR.mono (fun i j => (he i j).1) h2)
      exact ⟨n + 1, by omega, .inl hh, k, (he i k).1 h1, hn⟩
    · rintro ⟨n, h1, -, hn⟩
      obtain ⟨m, rfl⟩ : ∃ m, n = m + 1 := ⟨n - 1, by omega⟩
      obtain ⟨k, h2, h3⟩ := hn
      exact ⟨k, (he i k).2 h2, StarR.mono (fun i j => (he i j).2) (star_pow.2 ⟨m, h3⟩)⟩
  | @opt h x y y' hh hx _ hb ih =>
    intro _ _ i j
    have he : ∀ i j, RQ x i j ↔ r i j := hk x hx
    have hy' : ∀ i j, RQ y' i j ↔ RQ y i j := fun i j => by rcases hb with ⟨-, rfl⟩ | ⟨-, a, rfl⟩ <;> exact Iff.rfl
    have ih := ih (by omega) (.inr (by omega))
    constructor
    · rintro (rfl | ⟨k, h1, h2⟩)
      · exact ⟨0, by omega, .inr (by omega), rfl⟩
      · obtain ⟨n, g1, g2, g3⟩ := (ih k j).1 ((hy' k j).1 h2)
        exact ⟨n + 1, by omega, .inr (by omega), k, (he i k).1 h1, g3⟩
    · rintro ⟨n, g1, g2, g3⟩
      cases n with
      | zero => exact .inl g3
      | succ n =>
        obtain ⟨k, h2, h3⟩ := g3
        exact .inr ⟨k, (he i k).2 h2, (hy' k j).2 ((ih k j).2 ⟨n, by omega, .inr (by omega), h3⟩)⟩
  | @more l h x y y' hl hh hn hx _ hb ih =>
    intro _ hu i j
    have he : ∀ i j, RQ x i j ↔ r i j := hk x hx
    have hy' : ∀ i j, RQ y' i j ↔ RQ y i j := fun i j => by rcases hb with ⟨-, rfl⟩ | ⟨-, a, rfl⟩ <;> exact Iff.rfl
    have ih := ih (by omega) (by omega)
    constructor
    · rintro ⟨k, h1, h2⟩
      obtain ⟨n, g1, g2, g3⟩ := (ih k j).1 ((hy' k j).1 h2)
      exact ⟨n + 1, by omega, by omega, k, (he i k).1 h1, g3⟩
    · rintro ⟨n, g1, g2, g3⟩
      obtain ⟨m, rfl⟩ : ∃ m, n = m + 1 := ⟨n - 1, by omega⟩
      obtain ⟨k, h2, h3⟩ := g3
      exact ⟨k, (he i k).2 h2, (hy' k j).2 ((ih k j).2 ⟨m, by omega, by omega, h3⟩)⟩
/-- What a tree is laid as fits just where the tree does. -/
theorem mat_reach (R : List Int) (G : Nat) (t : Tr) : ShapedP t → ∀ q, Mat R G t q → ∀ i j, RQ q i j ↔ TreeR R t i j := by
  refine Tr.ind (P := fun t => ShapedP t → ∀ q, Mat R G t q → ∀ i j, RQ q i j ↔ TreeR R t i j) (fun t ih hsh q hq i j => ?_) t
  obtain ⟨hF, hKO, hcap, hks⟩ := (shapedP_iff t).1 hsh
  have IH : ∀ k ∈ t.kids, ∀ x, Mat R G k x → ∀ i j, RQ x i j ↔ TreeR R k i j := fun k hk => ih k hk (hks k hk)
  have one : ∀ {k}, t.kids = [k] → k ∈ t.kids := fun h => by rw [h]; exact List.mem_singleton.2 rfl
  rw [treeR_eq]
  unfold TreeX
  have e0 : t.fld.op < 6 → t.kids.map (TreeR R) = [] := fun h => by
    have : t.kids.length = 0 := by have := hKO.2.2; omega
    rw [List.eq_nil_of_length_eq_zero this]; rfl
  cases (mat_iff R G t q).1 hq with
  | none h => rw [e0 (by omega)]; simp [h, RQ]
  | eps h => simp [h, RQ]
  | rune h => simp [h, RQ]
  | set h => simp [h, RQ]
  | at' h => simp [h, RQ]
  | @cap k x h1 h2 h3 h4 => have := IH _ (one h3) _ h4 i j; simp only [h1, h3, List.map_cons, List.map_nil]; exact this
  | bare h1 h2 h3 h4 => have := IH _ (one h3) _ h4 i j; simp only [h1, h3, List.map_cons, List.map_nil]; exact this
  | star h1 h2 h3 =>
    have he := IH _ (one h2) _ h3
    simp only [h1, h2, List.map_cons, List.map_nil]
    exact ⟨StarR.mono fun i j => (he i j).1, StarR.mono fun i j => (he i j).2⟩
  | plus h1 h2 h3 =>
    have he := IH _ (one h2) _ h3
    simp only [h1, h2, List.map_cons, List.map_nil]
    exact exists_congr fun k => and_congr (he i k) ⟨StarR.mono fun i j => (he i j).1, StarR.mono fun i j => (he i j).2⟩
  | quest h1 h2 h3 =>
    have he := IH _ (one h2) _ h3
    simp only [h1, h2, List.map_cons, List.map_nil]
    exact or_congr Iff.rfl (he i j)
  | rep h1 h2 h3 =>
    have hm := hF.2.2.2.2.2.2.2.2.2.2.2.2 h1
    simp only [h1, h2, List.map_cons, List.map_nil]
    exact rep_reach h3 (IH _ (one h2)) hm.1.1 (by omega) i j
  | cat h1 h2 => simp only [h1]; exact row_reach h2 IH i j
  | alt h1 h2 => simp only [h1]; exact alt_reach h2 IH i j
end Go.Proofs.Ytaaadimkbhkpiaa
