/- Texts merged by program: PWeight. No condition. -/
import Derived.Test.YtaaadimkbhkpiaaDoorK14
import Derived.Deep.DeepCutAuto
import Derived.Deep.RegionWith
set_option linter.unusedVariables false
/- How heavy a tree is: the program's Weight, at any tree. -/
namespace Go.Proofs.YtaaadimkbhkpiaaDoor
open Go Go.RowKit

/-- A Kid laid open, its two slices, too. -/
theorem Kds.kidS {w : World} {ks : List Tr} {A : Option Addr} {n c : Nat} (h : Kds w ks (.slice A n c)) (k : Nat) (hk : k < ks.length) :
    ∃ (b o : Nat) (tk : Tr) (x1 : Option Addr) (x2 x3 : Nat) (y1 : Option Addr) (y2 y3 : Nat), A = some ⟨b, o, none⟩ ∧ ks[k] = tk ∧ tk ∈ ks ∧
      Kid10 w b (o + k * 10) (.int .i64 tk.fld.op) (.slice x1 x2 x3) (.int .i32 tk.fld.rune) (.slice y1 y2 y3) (.int .i64 tk.fld.at') (.int .i64 tk.fld.cap) (.string tk.fld.name) (.int .i64 tk.fld.min) (.int .i64 tk.fld.max) (.bool tk.fld.lazy) ∧
      Tre w tk (.agg #[.int .i64 tk.fld.op, .slice x1 x2 x3, .int .i32 tk.fld.rune, .slice y1 y2 y3, .int .i64 tk.fld.at', .int .i64 tk.fld.cap, .string tk.fld.name, .int .i64 tk.fld.min, .int .i64 tk.fld.max, .bool tk.fld.lazy]) := by
  obtain ⟨b, o, tk, kv, sv, hA, htk, hm, h10, hT⟩ := h.kid k hk
  obtain ⟨A', n', c', a2, s, c2, -, -, e, -⟩ := hT.opened
  injection e with e
  have h1 := congrArg (fun a : Array Value => a[1]?) e
  have h2 := congrArg (fun a : Array Value => a[3]?) e
  simp at h1 h2
  subst h1 h2
  exact ⟨b, o, tk, A', n', c', a2, s, c2, hA, htk, hm, h10, hT⟩
theorem sum_take_le (l : List Tr) (k : Nat) : ((l.take k).map weightR).sum ≤ (l.map weightR).sum := by
  conv => rhs; rw [← List.take_append_drop k l, List.map_append, List.sum_append]
  omega

end Go.Proofs.YtaaadimkbhkpiaaDoor
