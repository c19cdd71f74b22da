/- Texts merged by program: R4Head. No condition. -/
import Derived.WalkKit
import Derived.Lib.Strings
set_option linter.unusedVariables false
/- A text's first byte, and the rest. -/
namespace Go.Proofs.YtmaigjdmjmonbaaGreatDoor
open Go Go.RowKit

theorem head_of (s : ByteArray) (h : 0 < s.size) : s.toList.head? = some s[0] := by
  rw [Lib.toList_data]
  obtain ⟨⟨l⟩⟩ := s
  cases l with
  | nil => exact absurd h (by decide)
  | cons x l => rfl
theorem tail_of (s : ByteArray) : (s.extract 1 s.size).toList = s.toList.tail := by
  rw [Lib.extract_toList, Lib.toList_data, Lib.size_eq, List.drop_one]
  exact List.take_of_length_le (by rw [List.length_tail]; exact Nat.le_refl _)
theorem empty_of (s : ByteArray) (h : ¬ 0 < s.size) : s.toList = [] := by
  rw [Lib.toList_data]
  exact List.length_eq_zero_iff.1 (by rw [← Lib.size_eq]; omega)
theorem byte_94 (x : UInt8) : ((x.toNat : Int) == 94) = decide (x = 94) := by
  by_cases h : x = 94
  · subst h
    rfl
  · rw [decide_eq_false h]
    refine beq_eq_false_iff_ne.2 fun e => h (UInt8.toNat_inj.1 ?_)
    show x.toNat = 94
    omega

end Go.Proofs.YtmaigjdmjmonbaaGreatDoor
