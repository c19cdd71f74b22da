/- The fixed question that every statement asks first answers true, and leaves what lay as it lay. -/
import Derived.Test.YticghidkbpkefaaDoorAsk
import Derived.Lib.SlBytesConst
import Derived.Lib.SlBytesRow
import Derived.Lib.BufferRead
namespace Go.Proofs.YticghidkbpkefaaDoor
open Go Go.RowKit

def abS : ByteArray := ⟨#[97, 98]⟩
theorem ab_size : abS.size = 2 := rfl
theorem ab_runes : runesOf abS = [97, 98] := by kernel_rfl
theorem ab_offs : offsOf abS = [0, 1, 2] := by kernel_rfl
def HeadPost (w : World) (e : Ending) (w' : World) : Prop := e = .returned (.bool true) ∧ Below w.heap.size w w'

theorem ab_conv (w : World) : (convert 23 9 (.slice (some ⟨w.heap.size, 0, none⟩) abS.size 2)).run Tryd.prog (w.alloc (.cells #[.int .u8 97, .int .u8 98] 5 (2, 3))) = .ok (.string abS) (w.alloc (.cells #[.int .u8 97, .int .u8 98] 5 (2, 3))) :=
  Lib.run_convert_whole _ 23 5 9 Tryd.underlying23 Tryd.underlying5 Tryd.underlying9 w.heap.size 0 abS (fun i hi => by
    have hh := heap_alloc_new w (.cells #[.int .u8 97, .int .u8 98] 5 (2, 3))
    rw [cell_of_row _ w.heap.size (0 + i) _ _ _ hh]
    match i, hi with
    | 0, _ => rfl
    | 1, _ => rfl) 2

set_option maxHeartbeats 400000 in
set_option maxRecDepth 100000 in
theorem head_any (w : World) : Calls Tryd.prog 8 #[] w (HeadPost w) := by
  have kc := fun (w : World) (C : Array Value) (n c : Nat) => Lib.run_convert_bytes_const (P := Tryd.prog) w 23 5 C n c Tryd.underlying23 Tryd.underlying5
  go_enter Tryd.func8, Tryd.ntmps8
  go_wp2_with fail
  refine (new_one 1 (.inl rfl) _ 2 abS _ (by rw [ab_size]; decide) (ab_conv w)).mono ?_
  rintro e w1 ⟨b, rfl, hb, hI, hB⟩
  have hB1 : Below w.heap.size w w1 := ((Below.refl _ w).alloc (Nat.le_refl _) _).trans (hB.mono (by simp))
  have HI := Lib.hid hI; have HB := Lib.hid hB1; clear hI hB hB1
  go_wp2_with fail
  refine (new_bad 0 rfl rfl rfl _ _ _ w1).mono ?_
  rintro e w2 ⟨rfl, rfl⟩
  have cl := len_any HI.out
  have cr := rune_any HI.out 1
  have co := off_any HI.out 2
  rw [ab_runes] at cl cr
  rw [ab_offs] at co
  have HL := Lib.hid cl; have HR := Lib.hid cr; have HO := Lib.hid co; clear cl cr co
  go_wp2_with fail
  refine HL.out.mono ?_
  rintro e w' ⟨rfl, rfl⟩
  go_wp2_with fail
  refine HR.out.mono ?_
  rintro e w' ⟨rfl, rfl⟩
  go_wp2_with fail
  refine HO.out.mono ?_
  rintro e w' ⟨rfl, rfl⟩
  go_wp2
  go_ret
  exact ⟨rfl, HB.out⟩

/-- Of a place's sum each answer is read back. -/
theorem bit1 (W F L P Q : Bool) : (bits BinOp.and IntKind.i64 (sumOf W F L P Q) 1 != 0) = F := by cases W <;> cases F <;> cases L <;> cases P <;> cases Q <;> rfl
theorem bit2 (W F L P Q : Bool) : (bits BinOp.and IntKind.i64 (sumOf W F L P Q) 2 != 0) = L := by cases W <;> cases F <;> cases L <;> cases P <;> cases Q <;> rfl
theorem bit4 (W F L P Q : Bool) : (bits BinOp.and IntKind.i64 (sumOf W F L P Q) 4 != 0) = P := by cases W <;> cases F <;> cases L <;> cases P <;> cases Q <;> rfl
theorem bit8 (W F L P Q : Bool) : (bits BinOp.and IntKind.i64 (sumOf W F L P Q) 8 != 0) = Q := by cases W <;> cases F <;> cases L <;> cases P <;> cases Q <;> rfl
theorem bit16 (W F L P Q : Bool) : (bits BinOp.and IntKind.i64 (sumOf W F L P Q) 16 != 0) = W := by cases W <;> cases F <;> cases L <;> cases P <;> cases Q <;> rfl
theorem bit32 (W F L P Q : Bool) : (bits BinOp.and IntKind.i64 (sumOf W F L P Q) 32 != 0) = !W := by cases W <;> cases F <;> cases L <;> cases P <;> cases Q <;> rfl
end Go.Proofs.YticghidkbpkefaaDoor
