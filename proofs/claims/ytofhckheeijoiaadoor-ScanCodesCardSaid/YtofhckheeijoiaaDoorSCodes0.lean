/- Hexadecimal numbers written out are read as they are. -/
import Derived.Test.YtofhckheeijoiaaDoorK37
import Derived.Test.YtofhckheeijoiaaDoorK38
import Derived.Test.YtofhckheeijoiaaDoorK9
import Derived.BigQuiet
set_option linter.unusedVariables false
namespace Go.Proofs.YtofhckheeijoiaaDoor
open Go Go.RowKit

def hexBA (n : Nat) : ByteArray := ⟨(hexL n).toArray⟩
theorem hexBA_list (n : Nat) : (hexBA n).toList = hexL n := by rw [Lib.toList_data]; rfl
theorem hex_piece (d : Nat) (h : d < 16) : ((⟨#[48, 49, 50, 51, 52, 53, 54, 55, 56, 57, 97, 98, 99, 100, 101, 102]⟩ : ByteArray).extract d (d + 1)).toList = [hexD d] := by
  rcases (show d = 0 ∨ d = 1 ∨ d = 2 ∨ d = 3 ∨ d = 4 ∨ d = 5 ∨ d = 6 ∨ d = 7 ∨ d = 8 ∨ d = 9 ∨ d = 10 ∨ d = 11 ∨ d = 12 ∨ d = 13 ∨ d = 14 ∨ d = 15 by omega) with rfl | rfl | rfl | rfl | rfl | rfl | rfl | rfl | rfl | rfl | rfl | rfl | rfl | rfl | rfl | rfl <;> kernel_rfl
set_option maxHeartbeats 3200000 in
set_option maxRecDepth 100000 in
theorem hexS_any : ∀ (n : Nat), n ≤ 1114111 → ∀ w : World, Calls Tryd.prog 19 #[.int .i32 n] w fun e w' => e = .returned (.string (hexBA n)) ∧ ∃ m, w' = w.drewN m := by
  intro n
  induction n using Nat.strongRecOn with
  | _ n ih =>
    intro hn w
    by_cases h : n < 16
    · have x1 : (n : Int) ≤ (n : Int) + 1 := by omega
      have x2 : (n : Int) + 1 ≤ 16 := by omega
      have x3 : ((n : Int) + 1).toNat = n + 1 := by omega
      have hw : IntKind.i32.wrap ((n : Int) + 1) = (n : Int) + 1 := wrap_in32 _ (by omega)
      have HB := Lib.hid (show (⟨#[48, 49, 50, 51, 52, 53, 54, 55, 56, 57, 97, 98, 99, 100, 101, 102]⟩ : ByteArray).extract n (n + 1) = hexBA n from bytes_eq (by rw [hex_piece n h, hexBA_list, hexL, dif_pos h]))
      clear ih
      go_enter Tryd.func19, Tryd.ntmps19
      go_wp2
      go_ret
      exact ⟨congrArg (fun b => Ending.returned (.string b)) HB.out, 0, rfl⟩
    · obtain ⟨q, hq⟩ : ∃ q, n / 16 = q := ⟨_, rfl⟩
      obtain ⟨d, hd⟩ : ∃ d, n % 16 = d := ⟨_, rfl⟩
      have hd16 : d < 16 := by omega
      have hq1 : Int.tdiv (n : Int) 16 = (q : Int) := by rw [Int.tdiv_eq_ediv_of_nonneg (by omega)]; omega
      have hr1 : Int.tmod (n : Int) 16 = (d : Int) := by rw [Int.tmod_eq_emod_of_nonneg (by omega)]; omega
      have x0 : ¬ (n : Int) < 16 := by omega
      have x1 : (d : Int) ≤ (d : Int) + 1 := by omega
      have x2 : (d : Int) + 1 ≤ 16 := by omega
      have x3 : ((d : Int) + 1).toNat = d + 1 := by omega
      have hw : IntKind.i32.wrap ((d : Int) + 1) = (d : Int) + 1 := wrap_in32 _ (by omega)
      have hwq : IntKind.i32.wrap (q : Int) = (q : Int) := wrap_in32 _ (by omega)
      have HB := Lib.hid (show hexBA q ++ (⟨#[48, 49, 50, 51, 52, 53, 54, 55, 56, 57, 97, 98, 99, 100, 101, 102]⟩ : ByteArray).extract d (d + 1) = hexBA n from bytes_eq (by rw [append_list, hex_piece d hd16, hexBA_list, hexBA_list, hexL.eq_1 n, dif_neg h, hq, hd]))
      have hz1 : (hexBA q).size ≤ 1114112 := by
        have := hex_len q
        show (hexL q).toArray.size ≤ _
        rw [List.size_toArray]
        omega
      have cH : ∀ m, Calls Tryd.prog 19 #[.int .i32 (q : Int)] (w.drewN m) fun e w' => e = .returned (.string (hexBA q)) ∧ ∃ k, w' = (w.drewN m).drewN k := fun m => ih q (by omega) (by omega) _
      clear ih hq hd
      go_enter Tryd.func19, Tryd.ntmps19
      go_wp2_with fail
      go_big_quiet (first | (go_at_call 19; with_reducible refine Calls.quiet_of (cH _)))
      go_wp2
      go_ret
      exact ⟨congrArg (fun b => Ending.returned (.string b)) HB.out, _, rfl⟩
end Go.Proofs.YtofhckheeijoiaaDoor
