/- Texts merged by program: PgClose. No condition. -/
import Derived.Test.YtnemacejaiifnaaO7
import Derived.Deep.OwnRows
import Derived.Laws.OwnMore
set_option linter.unusedVariables false
/- The document's Closure. -/
set_option linter.unusedSimpArgs false
namespace Go.Proofs.Ytnemacejaiifnaa
open Go Go.RowKit

/-- Of a right program and places of it. -/
def GoodPg (p : Pg) (pcs : List Int) : Prop := RightPg p ∧ ∀ x ∈ pcs, PlaceI p.ins.length x
def natsI (pcs : List Int) : List Nat := pcs.map Int.toNat
open Classical in
/-- What Closure tells. -/
noncomputable def closeG (p : Pg) (pcs : List Int) (at' : Int) (long : Bool) : List Nat × Bool :=
  if GoodPg p pcs then ((closeI (meetsI at') long p.ins (natsI pcs)).out, (closeI (meetsI at') long p.ins (natsI pcs)).hit) else ([], false)
def ClosePost (c : List Nat × Bool) (w : World) (e : Ending) (w' : World) : Prop := ∃ v, e = .returned (.tuple #[v, .bool c.2]) ∧ OwnZ w' w.heap.size v (natsZ c.1) ∧ Below w.heap.size w w'
theorem close_bad {p : Pg} {pcs : List Int} (at' : Int) (long : Bool) (h : ¬ GoodPg p pcs) : closeG p pcs at' long = ([], false) := if_neg h
theorem close_good {p : Pg} {pcs : List Int} (at' : Int) (long : Bool) (h : GoodPg p pcs) : closeG p pcs at' long = ((closeI (meetsI at') long p.ins (natsI pcs)).out, (closeI (meetsI at') long p.ins (natsI pcs)).hit) := if_pos h
theorem info_bool : (Try.prog.info? 4).map (fun i => (i.zero, i.size, i.bytes)) = some (some (.bool false), 1, 1) := by kernel_rfl
/-- A new row of bools. -/
theorem make_bools (n : Nat) (h : n ≤ 281474976710656) (W : World) : (Instr.makeSlice 105 (.int .i64 (n : Int)) (.int .i64 (n : Int))).run Try.prog W = .ok (.slice (some ⟨W.heap.size, 0, none⟩) n n) (W.alloc (.cells (Array.replicate n (.bool false)) 4)) := by
  have h1 := run_make_row' (P := Try.prog) 105 4 (.bool false) 1 Try.underlying105 info_bool rfl .i64 .i64 n (by omega) (by omega) W
  have e : madeCells #[.bool false] n = Array.replicate n (.bool false) := by
    apply Array.toList_inj.1
    rw [toList_madeCells_one, Array.toList_replicate]
  rw [e] at h1
  exact h1
end Go.Proofs.Ytnemacejaiifnaa
