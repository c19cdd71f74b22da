/- Texts merged by program: TrRight, TrEmpty, TrStill, TrCaps. No condition. -/
import Derived.Test.YtaaadimkbhkpiaaQ37
import Derived.Test.YtaaadimkbhkpiaaQ22
import Derived.Test.YtaaadimkbhkpiaaQ38
import Derived.Laws.MakeOwn
set_option linter.unusedVariables false
set_option linter.unusedSimpArgs false
/- Is a tree right: the document's Right. -/
namespace Go.Proofs.Ytaaadimkbhkpiaa
open Go Go.RowKit

/-- Groups are numbered in order, and no name stands twice. -/
def CapsFine (g : List Tr) : Prop := ∀ (i : Nat) (h : i < g.length), g[i].fld.cap = (i : Int) + 1 ∧ ∀ (k : Nat) (hk : k < i), ¬ ((g[k]'(by omega)).fld.name.toList = g[i].fld.name.toList ∧ g[i].fld.name.toList ≠ [])
/-- A right tree. -/
def RightT (t : Tr) : Prop := depthR t ≤ 50 ∧ weightR t ≤ 4000 ∧ ShapedP t ∧ CapsFine (groupsT t)
end Go.Proofs.Ytaaadimkbhkpiaa
/- May a tree fit nothing: the document's empty. -/
namespace Go.Proofs.Ytaaadimkbhkpiaa
open Go Go.RowKit

theorem ex_mem_map {α : Type} (l : List α) (f : α → Prop) : (∃ p ∈ l.map f, p) ↔ ∃ k ∈ l, f k := by
  constructor
  · rintro ⟨p, hp, h⟩
    obtain ⟨k, hk, rfl⟩ := List.mem_map.1 hp
    exact ⟨k, hk, h⟩
  · rintro ⟨k, hk, h⟩
    exact ⟨f k, List.mem_map.2 ⟨k, hk, rfl⟩, h⟩
theorem all_mem_map {α : Type} (l : List α) (f : α → Prop) : (∀ p ∈ l.map f, p) ↔ ∀ k ∈ l, f k :=
  ⟨fun h k hk => h (f k) (List.mem_map.2 ⟨k, hk, rfl⟩), fun h p hp => by obtain ⟨k, hk, rfl⟩ := List.mem_map.1 hp; exact h k hk⟩
/-- May a tree fit nothing? -/
def EmptyP : Tr → Prop := Tr.para fun t l => if t.fld.op = 2 ∨ t.fld.op = 5 ∨ t.fld.op = 7 ∨ t.fld.op = 9 then True else if t.fld.op = 1 ∨ t.fld.op = 3 ∨ t.fld.op = 4 then False else if t.fld.op = 10 ∧ t.fld.min = 0 then True else if t.fld.op = 12 then ∃ p ∈ l, p else ∀ p ∈ l, p
theorem emptyP_iff (t : Tr) : EmptyP t ↔ if t.fld.op = 2 ∨ t.fld.op = 5 ∨ t.fld.op = 7 ∨ t.fld.op = 9 then True else if t.fld.op = 1 ∨ t.fld.op = 3 ∨ t.fld.op = 4 then False else if t.fld.op = 10 ∧ t.fld.min = 0 then True else if t.fld.op = 12 then ∃ k ∈ t.kids, EmptyP k else ∀ k ∈ t.kids, EmptyP k := by
  unfold EmptyP
  rw [Tr.para_eq]
  simp only [ex_mem_map, all_mem_map]
/-- Does a tree never fit more? -/
def StillP : Tr → Prop := Tr.para fun t l => ¬ (t.fld.op = 3 ∨ t.fld.op = 4) ∧ ∀ p ∈ l, p
theorem stillP_iff (t : Tr) : StillP t ↔ ¬ (t.fld.op = 3 ∨ t.fld.op = 4) ∧ ∀ k ∈ t.kids, StillP k := by
  unfold StillP
  rw [Tr.para_eq]
  simp only [all_mem_map]
end Go.Proofs.Ytaaadimkbhkpiaa
/- Does a tree never fit more: the document's still; and of right trees: Empty, Still. -/
namespace Go.Proofs.Ytaaadimkbhkpiaa
open Go Go.RowKit

end Go.Proofs.Ytaaadimkbhkpiaa
/- The names of a right tree's groups: the document's Caps. -/
namespace Go.Proofs.Ytaaadimkbhkpiaa
open Go Go.RowKit

/-- The values of strings. -/
def litsS (l : List ByteArray) : List Value := l.map Value.string
theorem litsS_append (a b : List ByteArray) : litsS (a ++ b) = litsS a ++ litsS b := by simp [litsS]
theorem litsS_length (l : List ByteArray) : (litsS l).length = l.length := by simp [litsS]
theorem litsS_one (l : List ByteArray) : ∀ u ∈ litsS l, u.oneCell' = true := fun u hu => by
  obtain ⟨x, _, rfl⟩ := List.mem_map.1 hu
  rfl
theorem info_str : (Try.prog.info? 9).map (fun i => (i.zero, i.size, i.bytes)) = some (some (.string ⟨#[]⟩), 1, 16) := by kernel_rfl
theorem own_slice1s {w : World} {base : Nat} {e : TypeId} {n : Nat} {v : Value} {xs : List Value} (h : w.ownsRow base e 1 v n xs) : (v = .slice none 0 0 ∧ n = 0) ∨ ∃ g c, v = .slice (some ⟨g, 0, none⟩) n c ∧ n ≤ c ∧ c ≤ maxLen ∧ base ≤ g := by
  rcases h.2 with h | ⟨q, cap, cur, rfl, hb, _, hn, hm, _⟩
  · exact .inl h
  · exact .inr ⟨_, _, rfl, hn, hm, hb⟩
/-- The value v owns a row of the strings l, among the blocks from B on. -/
def OwnS (w : World) (B : Nat) (v : Value) (l : List ByteArray) : Prop := w.ownsRow B 9 1 v l.length (litsS l)
theorem OwnS.below {w w' : World} {B : Nat} {v : Value} {l : List ByteArray} (h : OwnS w B v l) (hb : Below w.heap.size w w') : OwnS w' B v l :=
  World.ownsRow.kept h (row := none) ⟨hb.os, hb.tape, hb.output, hb.size, fun k hk _ => hb.block k hk⟩ (by cases v.ownBlock <;> simp)
theorem OwnS.mono {w : World} {B B' : Nat} {v : Value} {l : List ByteArray} (h : OwnS w B v l) (hb : B' ≤ B) : OwnS w B' v l := Go.Joins.ownsRow_le h hb
/-- The slice value v holds the strings l. -/
def Srs (w : World) (v : Value) (l : List ByteArray) : Prop := ∃ a c, v = .slice a l.length c ∧ l.length ≤ c ∧ c ≤ maxLen ∧ (l = [] ∨ ∃ b, a = some ⟨b, 0, none⟩ ∧ ∀ i (h : i < l.length), w.cell? ⟨b, i, none⟩ = some (.string l[i]))
theorem Srs.below {w w' : World} {v : Value} {l : List ByteArray} (h : Srs w v l) (hb : Below w.heap.size w w') : Srs w' v l := by
  obtain ⟨a, c, h1, h2, h3, h4⟩ := h
  refine ⟨a, c, h1, h2, h3, h4.imp id ?_⟩
  rintro ⟨b, e, hc⟩
  exact ⟨b, e, fun i hi => (hb.cell (World.block_lt_of_cell? w _ (hc i hi))).trans (hc i hi)⟩
theorem OwnS.srs {w : World} {B : Nat} {v : Value} {l : List ByteArray} (h : OwnS w B v l) : Srs w v l := by
  have h' := h
  rcases own_slice1s h with ⟨rfl, hn⟩ | ⟨g, c, rfl, h1, h2, -⟩
  · exact ⟨none, 0, by rw [hn], by omega, Nat.zero_le _, .inl (List.eq_nil_of_length_eq_zero hn)⟩
  · refine ⟨_, c, rfl, h1, h2, .inr ⟨g, rfl, fun i hi => ?_⟩⟩
    have := World.ownsRow.cells h' (g := g) rfl i (.string l[i]) (by simp [litsS, hi])
    rw [show (⟨g, 0, none⟩ : Addr).add i = ⟨g, 0 + i, none⟩ by unfold Addr.add; split <;> simp_all, Nat.zero_add] at this
    exact this
/-- The names of a right tree's groups. -/
def capsNames (t : Tr) : List ByteArray := ⟨#[]⟩ :: (groupsT t).map fun g => g.fld.name
/-- A fresh list of the names, if the tree is right; else nothing. -/
def CapsPost (t : Tr) (w : World) (e : Ending) (w' : World) : Prop := Below w.heap.size w w' ∧ ((¬ RightT t ∧ e = .returned (.slice none 0 0)) ∨ (RightT t ∧ ∃ v, e = .returned v ∧ OwnS w' w.heap.size v (capsNames t)))

end Go.Proofs.Ytaaadimkbhkpiaa
