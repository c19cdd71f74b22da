/- Texts merged by program: TrGroups, TrTurned. No condition. -/
import Derived.Test.YtnemacejaiifnaaQ24
import Derived.Test.YtnemacejaiifnaaQ4
import Derived.Test.YtnemacejaiifnaaQ34
import Derived.Deep.DeepCutAuto
set_option linter.unusedVariables false
/- A tree's groups, in a row of the call's own: the document's Groups. -/
namespace Go.Proofs.Ytnemacejaiifnaa
open Go Go.RowKit

/-- A tree's groups, in the order in which they begin. -/
def groupsT : Tr → List Tr := Tr.para fun t l => (if t.fld.op = 6 then [t] else []) ++ l.flatten
theorem groupsT_eq (t : Tr) : groupsT t = (if t.fld.op = 6 then [t] else []) ++ (t.kids.map groupsT).flatten := Tr.para_eq _ t
theorem flat_le {f g : Tr → Nat} : ∀ (l : List Tr), (∀ k ∈ l, f k ≤ g k) → (l.map f).sum ≤ (l.map g).sum
  | [], _ => by simp
  | k :: l, h => by
    have h1 := h k (by simp)
    have h2 := flat_le l fun q hq => h q (by simp [hq])
    simp
    omega
theorem groupsT_len (t : Tr) : (groupsT t).length ≤ partsR t := by
  refine Tr.ind (P := fun t => (groupsT t).length ≤ partsR t) (fun t ih => ?_) t
  rw [groupsT_eq, partsR_eq, List.length_append, List.length_flatten, List.map_map]
  have h := flat_le (f := List.length ∘ groupsT) (g := partsR) t.kids ih
  split <;> simp <;> omega
theorem groupsT_take {t : Tr} (k : Nat) : (((t.kids.take k).map groupsT).flatten).length ≤ partsR t := by
  rw [List.length_flatten, List.map_map]
  have h := flat_le (f := List.length ∘ groupsT) (g := partsR) (t.kids.take k) fun q _ => groupsT_len q
  have h2 : ((t.kids.take k).map partsR).sum ≤ (t.kids.map partsR).sum := by
    conv => rhs; rw [← List.take_append_drop k t.kids, List.map_append, List.sum_append]
    omega
  rw [partsR_eq]
  omega
def GroupsPost (A : Nat → Prop) (T : List Tr) (w : World) (e : Ending) (w' : World) : Prop := ∃ v, e = .returned v ∧ OwnT A w' w.heap.size v T ∧ Below w.heap.size w w'
/-- A Kid laid open, with the blocks of what it holds. -/
theorem TreF.kid {F : Nat → Prop} {w : World} {t : Tr} {v : Value} (h : TreF F w t v) (k : Nat) (hk : k < t.kids.length) :
    ∃ (b o : Nat) (c : Nat) (sv : Value) (tk : Tr) (kv' sv' : Value), v = .agg (treC t.fld (.slice (some ⟨b, o, none⟩) t.kids.length c) sv) ∧ t.kids[k] = tk ∧ tk ∈ t.kids ∧
      Kid10 w b (o + k * 10) (.int .i64 tk.fld.op) kv' (.int .i32 tk.fld.rune) sv' (.int .i64 tk.fld.at') (.int .i64 tk.fld.cap) (.string tk.fld.name) (.int .i64 tk.fld.min) (.int .i64 tk.fld.max) (.bool tk.fld.lazy) ∧
      TreF F w tk (.agg #[.int .i64 tk.fld.op, kv', .int .i32 tk.fld.rune, sv', .int .i64 tk.fld.at', .int .i64 tk.fld.cap, .string tk.fld.name, .int .i64 tk.fld.min, .int .i64 tk.fld.max, .bool tk.fld.lazy]) := by
  rw [treF_iff] at h
  obtain ⟨kv, sv, rfl, -, -, A, c, rfl, -, -, -, -, h5⟩ := h
  rcases h5 with h5 | ⟨b, o, rfl, -, hc⟩
  · rw [h5] at hk
    simp at hk
  · obtain ⟨cs, k1, k2⟩ := hc k hk
    obtain ⟨⟨kv', sv', rfl⟩, -⟩ := treF_form k2
    exact ⟨b, o, c, sv, t.kids[k], kv', sv', rfl, rfl, List.getElem_mem hk, k1.ten, k2⟩
theorem treC_inj {f : Fld} {k1 k2 s1 s2 : Value} (h : Value.agg (treC f k1 s1) = .agg (treC f k2 s2)) : k1 = k2 ∧ s1 = s2 := by
  injection h with h
  have h1 := congrArg (fun a : Array Value => a[1]?) h
  have h2 := congrArg (fun a : Array Value => a[3]?) h
  simp [treC] at h1 h2
  exact ⟨h1, h2⟩

end Go.Proofs.Ytnemacejaiifnaa
/- A tree, turned: the document's turned. -/
namespace Go.Proofs.Ytnemacejaiifnaa
open Go Go.RowKit

theorem SameOn.mono {F G : Nat → Prop} {w w' : World} (h : SameOn G w w') (hFG : ∀ b, F b → G b) : SameOn F w w' := fun b hb hlt => h b (hFG b hb) hlt
def swapAt (x : Int) : Int := if x = 1 then 2 else if x = 2 then 1 else if x = 4 then 8 else if x = 8 then 4 else x
def noTr : Tr := .mk { op := 0, rune := 0, set := [], at' := 0, cap := 0, name := ⟨#[]⟩, min := 0, max := 0, lazy := false } []
/-- A tree, turned. -/
def turnedT : Tr → Tr := Tr.para fun t l => if t.fld.op = 6 then l.headD noTr else .mk { t.fld with at' := swapAt t.fld.at' } (if t.fld.op = 11 then l.reverse else l)
theorem turnedT_eq (t : Tr) : turnedT t = if t.fld.op = 6 then (t.kids.map turnedT).headD noTr else .mk { t.fld with at' := swapAt t.fld.at' } (if t.fld.op = 11 then (t.kids.map turnedT).reverse else t.kids.map turnedT) := Tr.para_eq _ t
def TurnedPost (A : Nat → Prop) (T : Tr) (w : World) (e : Ending) (w' : World) : Prop := ∃ v, e = .returned v ∧ TreF (fun b => A b ∨ w.heap.size ≤ b) w' T v ∧ Below w.heap.size w w'
/-- The Kids in the order in which they are turned. -/
def turnKids (t : Tr) : List Tr := if t.fld.op = 11 then t.kids.reverse else t.kids
theorem turnKids_len (t : Tr) : (turnKids t).length = t.kids.length := by unfold turnKids; split <;> simp
theorem turnedT_else (t : Tr) (h : t.fld.op ≠ 6) : turnedT t = .mk { t.fld with at' := swapAt t.fld.at' } ((turnKids t).map turnedT) := by
  rw [turnedT_eq, if_neg h]
  unfold turnKids
  split <;> simp
theorem swap_i64 {x : Int} (h : I64 x) : I64 (swapAt x) := by
  unfold swapAt I64 at *
  split
  · omega
  · split
    · omega
    · split
      · omega
      · split <;> omega
/-- A turned tree out of its row of Kids. -/
theorem turned_made {G : Nat → Prop} {w : World} {t : Tr} {ks : List Tr} {kv sv : Value} (hf : FldOk t.fld) (hs : Rgs w sv t.fld.set ∧ Foot G sv t.fld.set) (hk : KdsF G w ks kv) : TreF G w (.mk { t.fld with at' := swapAt t.fld.at' } ks) (.agg #[.int .i64 t.fld.op, kv, .int .i32 t.fld.rune, sv, .int .i64 (swapAt t.fld.at'), .int .i64 t.fld.cap, .string t.fld.name, .int .i64 t.fld.min, .int .i64 t.fld.max, .bool t.fld.lazy]) := by
  rw [treF_iff]
  exact ⟨kv, sv, rfl, hs, ⟨hf.1, hf.2.1, swap_i64 hf.2.2.1, hf.2.2.2.1, hf.2.2.2.2.1, hf.2.2.2.2.2.1, hf.2.2.2.2.2.2.1, hf.2.2.2.2.2.2.2⟩, hk⟩

end Go.Proofs.Ytnemacejaiifnaa
