/- Texts merged by program. No condition. -/
import Derived.Test.YtbclhkogjmmgnaaGreatDoorK2
import Derived.Test.YtbclhkogjmmgnaaGreatDoorK5
set_option linter.unusedVariables false
namespace Go.Proofs.YtbclhkogjmmgnaaGreatDoor
open Go Go.RowKit
def gtN : List UInt8 → Nat
 | [] => 0
 | c :: t => if c.toNat = 62 then 0 else gtN t + 1
theorem gtN_le : ∀ l : List UInt8,gtN l ≤ l.length
 | [] => Nat.le_refl _
 | c :: t => by
  unfold gtN
  have := gtN_le t
  split <;> simp <;> omega
def endS (s : ByteArray) (i : Nat) : Nat := i + gtN (leftB s i)
theorem endS_le (s : ByteArray) (i : Nat) (h : i ≤ s.size) : endS s i ≤ s.size := by
 have := gtN_le (leftB s i)
 rw [left_length] at this
 unfold endS
 omega
def fromS (s : ByteArray) (i : Nat) : Option Nat := if preB [40,63,80,60] (leftB s i) = true then some (i + 4) else if preB [40,63,60] (leftB s i) = true then some (i + 3) else none
def nameS (s : ByteArray) (i : Nat) : Option (List UInt8 × Nat) :=
 match fromS s i with
 | none => none
 | some f => if endS s i < s.size ∧ f ≤ endS s i ∧ nameB ((leftB s f).take (endS s i - f)) = true then some ((leftB s f).take (endS s i - f),endS s i + 1) else none
def SNamePost (s : ByteArray) (i : Nat) (w : World) (e : Ending) (w' : World) : Prop :=
 Below w.heap.size w w' ∧ ((nameS s i = none ∧ e = .returned (.tuple #[.string ⟨#[]⟩,.int .i64 0,wrongV 64 i (min ((endS s i : Int) + 1) s.size)])) ∨ ∃ n k b,nameS s i = some (n,k) ∧ b.toList = n ∧ e = .returned (.tuple #[.string b,.int .i64 (k : Int),wrongV 0 0 0]))
end Go.Proofs.YtbclhkogjmmgnaaGreatDoor
