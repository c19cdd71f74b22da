/- The program's orbit of a rune, by its two tables. -/
import Derived.Test.YthfmoodjdokaiaaDoorTTab
import Derived.Test.YthfmoodjdokaiaaDoorOrb
import Derived.Laws.Rows
set_option linter.unusedVariables false
namespace Go.Proofs.YthfmoodjdokaiaaDoor
open Go Go.RowKit

/-- An orbit as the program holds it: how many runes, and three places. -/
def orbA (l : List Int) : Value := .agg #[.int .i64 l.length, .int .i32 (l.getD 0 0), .int .i32 (l.getD 1 0), .int .i32 (l.getD 2 0)]
theorem odd_at (m : Nat) (h : m < 7) : ∃ (n : Nat) (x y z : Int), (∀ w, (Instr.index 55 (.agg ((oddL.map oddCells).flatten.toArray)) (.int .i64 m)).run Tryd.prog w = .ok (.agg #[.int .i64 n, .int .i32 x, .int .i32 y, .int .i32 z]) w) ∧ groupsR[m]? = some ([x, y, z].take n) ∧ n ≤ 3 ∧ orbA ([x, y, z].take n) = .agg #[.int .i64 n, .int .i32 x, .int .i32 y, .int .i32 z] := by
  have hm : m = 0 ∨ m = 1 ∨ m = 2 ∨ m = 3 ∨ m = 4 ∨ m = 5 ∨ m = 6 := by omega
  rcases hm with rfl | rfl | rfl | rfl | rfl | rfl | rfl
  · exact ⟨3, 75, 107, 8490, fun _ => by kernel_rfl, rfl, by decide, rfl⟩
  · exact ⟨3, 83, 115, 383, fun _ => by kernel_rfl, rfl, by decide, rfl⟩
  · exact ⟨3, 197, 229, 8491, fun _ => by kernel_rfl, rfl, by decide, rfl⟩
  · exact ⟨3, 181, 924, 956, fun _ => by kernel_rfl, rfl, by decide, rfl⟩
  · exact ⟨3, 931, 962, 963, fun _ => by kernel_rfl, rfl, by decide, rfl⟩
  · exact ⟨2, 223, 7838, 0, fun _ => by kernel_rfl, rfl, by decide, rfl⟩
  · exact ⟨2, 255, 376, 0, fun _ => by kernel_rfl, rfl, by decide, rfl⟩
theorem great_at (m : Nat) (h : m < 6) : ∃ (x y : Int), (∀ w, (Instr.index 56 (.agg ((greatL.map spanCells).flatten.toArray)) (.int .i64 m)).run Tryd.prog w = .ok (.agg #[.int .i32 x, .int .i32 y]) w) ∧ greatL[m]? = some (x, y) := by
  have hm : m = 0 ∨ m = 1 ∨ m = 2 ∨ m = 3 ∨ m = 4 ∨ m = 5 := by omega
  rcases hm with rfl | rfl | rfl | rfl | rfl | rfl
  · exact ⟨65, 90, fun _ => by kernel_rfl, rfl⟩
  · exact ⟨192, 214, fun _ => by kernel_rfl, rfl⟩
  · exact ⟨216, 222, fun _ => by kernel_rfl, rfl⟩
  · exact ⟨913, 929, fun _ => by kernel_rfl, rfl⟩
  · exact ⟨932, 937, fun _ => by kernel_rfl, rfl⟩
  · exact ⟨1040, 1071, fun _ => by kernel_rfl, rfl⟩

set_option maxHeartbeats 1600000 in
set_option maxRecDepth 100000 in
theorem ohas_any (n : Nat) (hn : n ≤ 3) (x y z c : Int) (w : World) : Calls Tryd.prog 33 #[.agg #[.int .i64 n, .int .i32 x, .int .i32 y, .int .i32 z], .int .i32 c] w fun e w' => e = .returned (.bool (decide (c ∈ [x, y, z].take n))) ∧ Below w.heap.size w w' := by
  obtain ⟨B, hB⟩ : ∃ B, decide (c ∈ [x, y, z].take n) = B := ⟨_, rfl⟩
  rw [hB]
  have HBB := Lib.hid hB
  clear hB
  go_enter Tryd.func33, Tryd.ntmps33
  go_wp2
  go_loop [8] (fun i => ∃ k : Nat, k ≤ n ∧ i = .int .i64 k ∧ c ∉ ([x, y, z].take n).take k) (fun i => n - (intOf i).toNat)
  case atStart => exact ⟨0, Nat.zero_le _, rfl, by simp⟩
  case round =>
    obtain ⟨k, hk, rfl, hN⟩ := hrel
    by_cases hlt : k < n
    · have hkk : k = 0 ∨ k = 1 ∨ k = 2 := by omega
      obtain ⟨d, hd, hsp⟩ : ∃ d, [x, y, z][k]? = some d ∧ ([x, y, z].take n).take (k + 1) = ([x, y, z].take n).take k ++ [d] := by
        have hl : ([x, y, z].take n).length = n := by rw [List.length_take]; simp; omega
        refine ⟨([x, y, z].take n)[k]'(by omega), ?_, List.take_succ_eq_append_getElem (by omega)⟩
        rw [List.getElem_take, List.getElem?_eq_getElem (by simp; omega)]
      have HSP := Lib.hid hsp; have HN := Lib.hid hN
      clear hsp hN
      by_cases hdc : d = c
      · obtain rfl : B = true := by rw [← HBB.out]; exact decide_eq_true (List.mem_of_mem_take (i := k + 1) (by rw [HSP.out, hdc]; simp))
        rcases hkk with rfl | rfl | rfl
        all_goals
          have e : _ = d := Option.some.inj hd
          rw [hdc] at e
          subst e
          clear hd
          go_wp2
          go_ret
          exact ⟨rfl, (Below.refl _ w).alloc (Nat.le_refl _) _⟩
      · rcases hkk with rfl | rfl | rfl
        all_goals
          have e : _ = d := Option.some.inj hd
          subst e
          clear hd
          go_wp2
          go_round
          case rel => exact ⟨_, hlt, by go_num, by rw [HSP.out]; simp only [List.mem_append, List.mem_singleton, not_or]; exact ⟨HN.out, fun h => hdc h.symm⟩⟩
          case measure => simp [intOf]; omega
    · have e : ([x, y, z].take n).take k = [x, y, z].take n := List.take_of_length_le (by rw [List.length_take]; omega)
      rw [e] at hN
      obtain rfl : B = false := by rw [← HBB.out]; exact decide_eq_false hN
      clear hN e
      go_wp2
      go_ret
      exact ⟨rfl, (Below.refl _ w).alloc (Nat.le_refl _) _⟩

set_option maxHeartbeats 400000 in
theorem shas_any (x y c : Int) (w : World) : Calls Tryd.prog 34 #[.agg #[.int .i32 x, .int .i32 y], .int .i32 c] w fun e w' => e = .returned (.bool (decide (x ≤ c ∧ c ≤ y))) ∧ Below w.heap.size w w' := by
  by_cases h1 : x ≤ c
  · by_cases h2 : c ≤ y
    · rw [decide_eq_true ⟨h1, h2⟩]
      go_enter Tryd.func34, Tryd.ntmps34
      go_wp2
      go_ret
      exact ⟨rfl, (Below.refl _ w).alloc (Nat.le_refl _) _⟩
    · rw [decide_eq_false (fun h => h2 h.2)]
      go_enter Tryd.func34, Tryd.ntmps34
      go_wp2
      go_ret
      exact ⟨rfl, (Below.refl _ w).alloc (Nat.le_refl _) _⟩
  · rw [decide_eq_false (fun h => h1 h.1)]
    go_enter Tryd.func34, Tryd.ntmps34
    go_wp2
    go_ret
    exact ⟨rfl, (Below.refl _ w).alloc (Nat.le_refl _) _⟩
end Go.Proofs.YthfmoodjdokaiaaDoor
