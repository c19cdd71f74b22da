/- Texts merged by program: TrGroups. No condition. -/
import Derived.Test.YtaaadimkbhkpiaaQ24
import Derived.Test.YtaaadimkbhkpiaaQ4
import Derived.Deep.DeepCutAuto
set_option linter.unusedVariables false
set_option linter.unusedSimpArgs false
/- A tree's groups, in a row of the call's own: the document's Groups. -/
namespace Go.Proofs.Ytaaadimkbhkpiaa
open Go Go.RowKit

/-- A tree's groups, in the order in which they begin. -/
def groupsT : Tr → List Tr := Tr.para fun t l => (if t.fld.op = 6 then [t] else []) ++ l.flatten
theorem groupsT_eq (t : Tr) : groupsT t = (if t.fld.op = 6 then [t] else []) ++ (t.kids.map groupsT).flatten := Tr.para_eq _ t
theorem flat_le {f g : Tr → Nat} : ∀ (l : List Tr), (∀ k ∈ l, f k ≤ g k) → (l.map f).sum ≤ (l.map g).sum
  | [], _ => by simp
  | k :: l, h => by
    have h1 := h k (by simp)
    have h2 := flat_le l fun q hq => h q (by simp [hq])
    simp
    omega
theorem groupsT_len (t : Tr) : (groupsT t).length ≤ partsR t := by
  refine Tr.ind (P := fun t => (groupsT t).length ≤ partsR t) (fun t ih => ?_) t
  rw [groupsT_eq, partsR_eq, List.length_append, List.length_flatten, List.map_map]
  have h := flat_le (f := List.length ∘ groupsT) (g := partsR) t.kids ih
  split <;> simp <;> omega
theorem groupsT_take {t : Tr} (k : Nat) : (((t.kids.take k).map groupsT).flatten).length ≤ partsR t := by
  rw [List.length_flatten, List.map_map]
  have h := flat_le (f := List.length ∘ groupsT) (g := partsR) (t.kids.take k) fun q _ => groupsT_len q
  have h2 : ((t.kids.take k).map partsR).sum ≤ (t.kids.map partsR).sum := by
    conv => rhs; rw [← List.take_append_drop k t.kids, List.map_append, List.sum_append]
    omega
  rw [partsR_eq]
  omega
def GroupsPost (A : Nat → Prop) (T : List Tr) (w : World) (e : Ending) (w' : World) : Prop := ∃ v, e = .returned v ∧ OwnT A w' w.heap.size v T ∧ Below w.heap.size w w'
/-- A Kid laid open, with the blocks of what it holds. -/
theorem TreF.kid {F : Nat → Prop} {w : World} {t : Tr} {v : Value} (h : TreF F w t v) (k : Nat) (hk : k < t.kids.length) :
    ∃ (b o : Nat) (c : Nat) (sv : Value) (tk : Tr) (kv' sv' : Value), v = .agg (treC t.fld (.slice (some ⟨b, o, none⟩) t.kids.length c) sv) ∧ t.kids[k] = tk ∧ tk ∈ t.kids ∧
      Kid10 w b (o + k * 10) (.int .i64 tk.fld.op) kv' (.int .i32 tk.fld.rune) sv' (.int .i64 tk.fld.at') (.int .i64 tk.fld.cap) (.string tk.fld.name) (.int .i64 tk.fld.min) (.int .i64 tk.fld.max) (.bool tk.fld.lazy) ∧
      TreF F w tk (.agg #[.int .i64 tk.fld.op, kv', .int .i32 tk.fld.rune, sv', .int .i64 tk.fld.at', .int .i64 tk.fld.cap, .string tk.fld.name, .int .i64 tk.fld.min, .int .i64 tk.fld.max, .bool tk.fld.lazy]) := by
  rw [treF_iff] at h
  obtain ⟨kv, sv, rfl, -, -, A, c, rfl, -, -, -, -, h5⟩ := h
  rcases h5 with h5 | ⟨b, o, rfl, -, hc⟩
  · rw [h5] at hk
    simp at hk
  · obtain ⟨cs, k1, k2⟩ := hc k hk
    obtain ⟨⟨kv', sv', rfl⟩, -⟩ := treF_form k2
    exact ⟨b, o, c, sv, t.kids[k], kv', sv', rfl, rfl, List.getElem_mem hk, k1.ten, k2⟩
theorem treC_inj {f : Fld} {k1 k2 s1 s2 : Value} (h : Value.agg (treC f k1 s1) = .agg (treC f k2 s2)) : k1 = k2 ∧ s1 = s2 := by
  injection h with h
  have h1 := congrArg (fun a : Array Value => a[1]?) h
  have h2 := congrArg (fun a : Array Value => a[3]?) h
  simp [treC] at h1 h2
  exact ⟨h1, h2⟩

end Go.Proofs.Ytaaadimkbhkpiaa
