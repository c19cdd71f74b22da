/- Texts merged by program: OwnB. No condition. -/
import Derived.Test.YthnddabcmhplkaaDoorK12
import Derived.Laws.IdiomStrings
import Derived.Lib.UnsafeStr
import Derived.Lib.ItoaNum
import Derived.Deep.RegionHeld3
import Derived.Laws.AppendOwn
set_option linter.unusedVariables false
/- Rows of bytes that the call makes itself: appends onto them, and the text that they hold. -/
namespace Go.Proofs.YthnddabcmhplkaaDoor
open Go Go.RowKit

theorem info_byte : (Tryd.prog.info? 5).map (fun i => (i.zero, i.size, i.bytes)) = some (some (.int .u8 0), 1, 1) := by kernel_rfl
/-- The value v owns a row of the bytes l, among the blocks from B on. -/
def OwnB (w : World) (B : Nat) (v : Value) (l : List UInt8) : Prop := w.ownsRow B 5 1 v l.length (Lib.byteCells l)
theorem OwnB.below {w w' : World} {B : Nat} {v : Value} {l : List UInt8} (h : OwnB w B v l) (hb : Below w.heap.size w w') : OwnB w' B v l :=
  World.ownsRow.kept (row := none) h ⟨hb.os, hb.tape, hb.output, hb.size, fun k hk _ => hb.block k hk⟩ (by cases v.ownBlock <;> simp)
theorem ownB_none (w : World) (B : Nat) : OwnB w B (.slice none 0 0) [] := World.ownsRow_nil _ _ _ _
theorem OwnB.conv {w : World} {B : Nat} {v : Value} {l : List UInt8} (h : OwnB w B v l) : (convert 62 9 v).run Tryd.prog w = .ok (.string ⟨l.toArray⟩) w := by
  rcases h.2 with ⟨rfl, h1⟩ | ⟨g, cap, cur, rfl, _⟩
  · obtain rfl : l = [] := List.eq_nil_of_length_eq_zero h1
    exact run_convert_bytes_string w 62 9 5 none 0 0 Tryd.underlying62 Tryd.underlying5 Tryd.underlying9
  · refine run_convert_bytes_back w 62 9 5 ⟨g, 0, none⟩ cap l Tryd.underlying62 Tryd.underlying5 Tryd.underlying9 (fun j hj => ?_)
    rw [World.ownsRow.cells (g := g) h rfl j (.int .u8 (l[j].toNat : Int)) (by simp [Lib.byteCells, hj])]
/-- An append of a byte onto a row of the call's own. -/
theorem append_byte {w : World} {ops : Array Oper} {rest : List Oper} {o : Oper} {a : Act} {Q : Exit → Act → World → Prop} (hgd : o.guard = none) (x y : Operand)
    (ho : o.op = .call { callee := .builtin .append, args := #[x, y], argTypes := #[62, 62] })
    (base : Nat) (v : Value) (O : List UInt8) (hs : a.eval x = v) (hown : OwnB w base v O)
    (g : Nat) (c : UInt8) (hx : a.eval y = .slice (some ⟨g, 0, none⟩) 1 1) (hc : w.cell? ⟨g, 0, none⟩ = some (.int .u8 c.toNat)) (hn : O.length + 1 ≤ 140737488355328) (hbase : base ≤ w.heap.size)
    (h : ∀ v' w', OwnB w' base v' (O ++ [c]) → w.grownBy w' v.ownBlock → wpList Tryd.prog ops Q rest (a.put o.dst v') w') : wpList Tryd.prog ops Q (o :: rest) a w := by
  obtain ⟨i, hi, hz, hsize, hby⟩ := info_parts info_byte
  refine wpList_append_own w hgd x y 62 ho base 5 i (.int .u8 0) 1 1 Tryd.underlying62 hi hz hsize hby rfl (by omega) v O.length (Lib.byteCells O) hs hown ⟨g, 0, none⟩ 1 1 (Lib.byteCells [c]) hx rfl ?_ ?_ (by unfold maxLen; omega) (by omega) hbase (fun v' w' g1 g2 _ => h v' w' ?_ g2)
  · intro j u hu
    have hj : j < 1 := (List.getElem?_eq_some_iff.1 hu).1
    obtain rfl : j = 0 := by omega
    have := Option.some.inj hu
    subst this
    rw [addr_of, hc]
  · intro u hu
    obtain rfl : u = .int .u8 c.toNat := by simpa [Lib.byteCells] using hu
    rfl
  · unfold OwnB
    rw [show Lib.byteCells (O ++ [c]) = Lib.byteCells O ++ Lib.byteCells [c] by simp [Lib.byteCells], List.length_append]
    exact g1
/-- The same, at a step of a region that draws its order. -/
theorem step_append_byte {w : World} {ops : Array Oper} {o : Oper} {a : Act} {Kk : Act → World → Prop} {Q : Exit → Act → World → Prop} {E : Prop} (hgd : o.guard = none) (x y : Operand)
    (ho : o.op = .call { callee := .builtin .append, args := #[x, y], argTypes := #[62, 62] })
    (base : Nat) (v : Value) (O : List UInt8) (hs : a.eval x = v) (hown : OwnB w base v O)
    (g : Nat) (c : UInt8) (hx : a.eval y = .slice (some ⟨g, 0, none⟩) 1 1) (hc : w.cell? ⟨g, 0, none⟩ = some (.int .u8 c.toNat)) (hn : O.length + 1 ≤ 140737488355328) (hbase : base ≤ w.heap.size)
    (h : ∀ v' w', OwnB w' base v' (O ++ [c]) → w.grownBy w' v.ownBlock → Kk (a.put o.dst v') w') :
    if Region.wanted o (yielded ops a.tmps) = true then Oper.wp Tryd.prog o a w Kk Q else E := by
  have hw : Region.wanted o (yielded ops a.tmps) = true := by
    unfold Region.wanted
    rw [hgd]
  rw [if_pos hw]
  obtain ⟨i, hi, hz, hsize, hby⟩ := info_parts info_byte
  refine wp_append_own w x y 62 ho base 5 i (.int .u8 0) 1 1 Tryd.underlying62 hi hz hsize hby rfl (by omega) v O.length (Lib.byteCells O) hs hown ⟨g, 0, none⟩ 1 1 (Lib.byteCells [c]) hx rfl ?_ ?_ (by unfold maxLen; omega) (by omega) hbase (fun v' w' g1 g2 _ => h v' w' ?_ g2)
  · intro j u hu
    have hj : j < 1 := (List.getElem?_eq_some_iff.1 hu).1
    obtain rfl : j = 0 := by omega
    have := Option.some.inj hu
    subst this
    rw [addr_of, hc]
  · intro u hu
    obtain rfl : u = .int .u8 c.toNat := by simpa [Lib.byteCells] using hu
    rfl
  · unfold OwnB
    rw [show Lib.byteCells (O ++ [c]) = Lib.byteCells O ++ Lib.byteCells [c] by simp [Lib.byteCells], List.length_append]
    exact g1
end Go.Proofs.YthnddabcmhplkaaDoor
