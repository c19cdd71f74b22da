/- Texts merged by program: SName. No condition. -/
import Derived.Test.YtmaigjdmjmonbaaGreatDoorK2
import Derived.Test.YtmaigjdmjmonbaaGreatDoorK3
set_option linter.unusedVariables false
/- The document's beginning of a named group at a place. -/
namespace Go.Proofs.YtmaigjdmjmonbaaGreatDoor
open Go Go.RowKit

/-- How many bytes stand ahead of the next '>', or of the end. -/
def gtN : List UInt8 → Nat
  | [] => 0
  | c :: t => if c.toNat = 62 then 0 else gtN t + 1
theorem gtN_le : ∀ l : List UInt8, gtN l ≤ l.length
  | [] => Nat.le_refl _
  | c :: t => by
    unfold gtN
    have := gtN_le t
    split <;> simp <;> omega
def endS (s : ByteArray) (i : Nat) : Nat := i + gtN (leftB s i)
theorem endS_le (s : ByteArray) (i : Nat) (h : i ≤ s.size) : endS s i ≤ s.size := by
  have := gtN_le (leftB s i)
  rw [left_length] at this
  unfold endS
  omega
/-- Where the name of a group begins that stands at a place. -/
def fromS (s : ByteArray) (i : Nat) : Option Nat := if preB [40, 63, 80, 60] (leftB s i) = true then some (i + 4) else if preB [40, 63, 60] (leftB s i) = true then some (i + 3) else none
/-- The name, and the place behind. -/
def nameS (s : ByteArray) (i : Nat) : Option (List UInt8 × Nat) :=
  match fromS s i with
  | none => none
  | some f => if endS s i < s.size ∧ f ≤ endS s i ∧ nameB ((leftB s f).take (endS s i - f)) = true then some ((leftB s f).take (endS s i - f), endS s i + 1) else none
def SNamePost (s : ByteArray) (i : Nat) (w : World) (e : Ending) (w' : World) : Prop :=
  Below w.heap.size w w' ∧ ((nameS s i = none ∧ e = .returned (.tuple #[.string ⟨#[]⟩, .int .i64 0, wrongV 64 i (min ((endS s i : Int) + 1) s.size)])) ∨ ∃ n k b, nameS s i = some (n, k) ∧ b.toList = n ∧ e = .returned (.tuple #[.string b, .int .i64 (k : Int), wrongV 0 0 0]))
theorem extract_left (s : ByteArray) (a b : Nat) : (s.extract a b).toList = (leftB s a).take (b - a) := by
  unfold leftB
  rw [Lib.extract_toList, ← Lib.toList_data]

end Go.Proofs.YtmaigjdmjmonbaaGreatDoor
