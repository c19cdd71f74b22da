/- Texts merged by program: TrWeight. No condition. -/
import Derived.Test.YtaaadimkbhkpiaaDoorK4
import Derived.Laws.Cover1
set_option linter.unusedVariables false
/- How heavy a tree is: the document's Weight. -/
namespace Go.Proofs.YtaaadimkbhkpiaaDoor
open Go Go.RowKit

theorem clip_cast (n : Nat) : (min (n : Int) 4001) = ((clipR n : Nat) : Int) := by unfold clipR; omega
def SumsTo (t : Tr) (k : Nat) : Nat := clipR ((t.kids.take k).map weightR).sum
theorem sums_next {t : Tr} {k : Nat} (h : k < t.kids.length) : SumsTo t (k + 1) = clipR (SumsTo t k + weightR t.kids[k]) := by
  unfold SumsTo
  rw [clipR_add, List.take_succ_eq_append_getElem h, List.map_append, List.sum_append]
  simp
theorem sums_le (t : Tr) (k : Nat) : SumsTo t k ≤ 4001 := by unfold SumsTo clipR; omega
end Go.Proofs.YtaaadimkbhkpiaaDoor
