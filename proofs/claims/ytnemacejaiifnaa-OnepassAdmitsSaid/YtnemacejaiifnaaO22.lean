/- Texts merged by program: Head, PxText. No condition. -/
import Derived.Test.YtnemacejaiifnaaO12
import Derived.Test.YtnemacejaiifnaaO21
import Derived.Lib.SlBytesConst
import Derived.Lib.SlBytesRow
import Derived.Lib.BufferRead
set_option linter.unusedVariables false
/- The fixed question that every statement asks first answers true, and leaves what lay as it lay. -/
set_option linter.unusedSimpArgs false
namespace Go.Proofs.Ytnemacejaiifnaa
open Go Go.RowKit

def abS : ByteArray := ⟨#[97, 98]⟩
theorem ab_size : abS.size = 2 := rfl
theorem ab_runes : runesOf abS = [97, 98] := by kernel_rfl
theorem ab_offs : offsOf abS = [0, 1, 2] := by kernel_rfl
def HeadPost (w : World) (e : Ending) (w' : World) : Prop := e = .returned (.bool true) ∧ Below w.heap.size w w'

theorem ab_conv (w : World) : (convert 28 9 (.slice (some ⟨w.heap.size, 0, none⟩) abS.size 2)).run Try.prog (w.alloc (.cells #[.int .u8 97, .int .u8 98] 5 (2, 3))) = .ok (.string abS) (w.alloc (.cells #[.int .u8 97, .int .u8 98] 5 (2, 3))) :=
  Lib.run_convert_whole _ 28 5 9 Try.underlying28 Try.underlying5 Try.underlying9 w.heap.size 0 abS (fun i hi => by
    have hh := heap_alloc_new w (.cells #[.int .u8 97, .int .u8 98] 5 (2, 3))
    rw [cell_of_row _ w.heap.size (0 + i) _ _ _ hh]
    match i, hi with
    | 0, _ => rfl
    | 1, _ => rfl) 2

/-- Of a place's sum each answer is read back. -/
theorem bit1 (W F L P Q : Bool) : (bits BinOp.and IntKind.i64 (sumOf W F L P Q) 1 != 0) = F := by cases W <;> cases F <;> cases L <;> cases P <;> cases Q <;> rfl
theorem bit2 (W F L P Q : Bool) : (bits BinOp.and IntKind.i64 (sumOf W F L P Q) 2 != 0) = L := by cases W <;> cases F <;> cases L <;> cases P <;> cases Q <;> rfl
theorem bit4 (W F L P Q : Bool) : (bits BinOp.and IntKind.i64 (sumOf W F L P Q) 4 != 0) = P := by cases W <;> cases F <;> cases L <;> cases P <;> cases Q <;> rfl
theorem bit8 (W F L P Q : Bool) : (bits BinOp.and IntKind.i64 (sumOf W F L P Q) 8 != 0) = Q := by cases W <;> cases F <;> cases L <;> cases P <;> cases Q <;> rfl
theorem bit16 (W F L P Q : Bool) : (bits BinOp.and IntKind.i64 (sumOf W F L P Q) 16 != 0) = W := by cases W <;> cases F <;> cases L <;> cases P <;> cases Q <;> rfl
theorem bit32 (W F L P Q : Bool) : (bits BinOp.and IntKind.i64 (sumOf W F L P Q) 32 != 0) = !W := by cases W <;> cases F <;> cases L <;> cases P <;> cases Q <;> rfl
end Go.Proofs.Ytnemacejaiifnaa
/- The program's input of a text, as the laws of denote and prefix make it. No condition. -/
namespace Go.Proofs.Ytnemacejaiifnaa
open Go Go.RowKit

/-- An input of the text s; what lay stays. -/
def TextPost (s : ByteArray) (w : World) (e : Ending) (w' : World) : Prop := ∃ b, e = .returned (.pointer (some ⟨b, 0, none⟩)) ∧ In w' w.heap.size 2 s b ∧ Below w.heap.size w w'
set_option maxRecDepth 100000 in
theorem text_ok (A : Option Addr) (c : Nat) (s : ByteArray) (w : World) (hs : (s.size : Int) ≤ 65536) (hconv : (convert 28 9 (.slice A s.size c)).run Try.prog w = .ok (.string s) w) :
    Calls Try.prog 10 #[.slice A s.size c] w (TextPost s w) := by
  have HN := Lib.hid (new_one 2 (.inr (.inl rfl)) A c s w hs hconv)
  clear hs hconv
  go_enter Try.func10, Try.ntmps10
  go_wp2_with fail
  refine HN.out.mono ?_
  rintro e w1 ⟨b, rfl, hb, hI, hB⟩
  have HI := Lib.hid hI; have HB := Lib.hid hB
  clear hb hI hB
  go_wp2_with fail
  go_ret
  exact ⟨b, rfl, HI.out, HB.out⟩
set_option maxRecDepth 100000 in
theorem text_long (A : Option Addr) (n c : Nat) (w : World) (hs : (65536 : Int) < n) :
    Calls Try.prog 10 #[.slice A n c] w fun e w' => e = .returned (.pointer none) ∧ w = w' := by
  have HN := Lib.hid (new_long 2 (.inr (.inl rfl)) A n c w hs)
  clear hs
  go_enter Try.func10, Try.ntmps10
  go_wp2_with fail
  refine HN.out.mono ?_
  rintro e w1 ⟨rfl, rfl⟩
  go_wp2_with fail
  go_ret
  exact ⟨rfl, rfl⟩
/-- Three bytes written out, as a text. -/
theorem lit3_conv (x y z : UInt8) (W : World) (g : Nat)
    (h0 : W.cell? ⟨g, 0, none⟩ = some (.int .u8 (x.toNat : Nat))) (h1 : W.cell? ⟨g, 1, none⟩ = some (.int .u8 (y.toNat : Nat))) (h2 : W.cell? ⟨g, 2, none⟩ = some (.int .u8 (z.toNat : Nat))) :
    (convert 28 9 (.slice (some ⟨g, 0, none⟩) 3 3)).run Try.prog W = .ok (.string ⟨#[x, y, z]⟩) W :=
  Lib.run_convert_whole W 28 5 9 Try.underlying28 Try.underlying5 Try.underlying9 g 0 ⟨#[x, y, z]⟩ (fun i hi => by
    match i, hi with
    | 0, _ => exact h0
    | 1, _ => exact h1
    | 2, _ => exact h2) 3
end Go.Proofs.Ytnemacejaiifnaa
