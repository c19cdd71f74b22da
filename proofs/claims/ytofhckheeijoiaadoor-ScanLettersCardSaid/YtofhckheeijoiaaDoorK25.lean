/- Texts merged by program: TSpan, TSpans. No condition. -/
import Derived.Test.YtofhckheeijoiaaDoorK24
import Derived.Test.YtofhckheeijoiaaDoorK14
import Derived.Shelf.Abstract
import Derived.RangeFuncBox
set_option linter.unusedVariables false
/- The program's spans of a name as sets: asRange, spans, Named. -/
namespace Go.Proofs.YtofhckheeijoiaaDoor
open Go Go.RowKit

set_option maxHeartbeats 400000 in
theorem asRange_any (x y : Int) (w : World) : Calls Tryd.prog 78 #[.agg #[.int .i32 x, .int .i32 y]] w fun e w' => e = .returned (.agg #[.int .i32 x, .int .i32 y]) ∧ Below w.heap.size w w' := by
  go_enter Tryd.func78, Tryd.ntmps78
  go_wp2
  exact bodyPost_ret (v := .agg #[.int .i32 x, .int .i32 y]) (by simp [results, Tryd.results78, go_sem]) rfl ⟨rfl, ((Below.refl _ w).alloc (Nat.le_refl _) _).alloc (by simp) _⟩
end Go.Proofs.YtofhckheeijoiaaDoor
/- The program's spans of a name, and Named: the set of a name, or that there is none. -/
namespace Go.Proofs.YtofhckheeijoiaaDoor
open Go Go.RowKit

/-- A slice of spans as the call makes it: its cells lie in a block of their own. -/
def SpansPost (b : List UInt8) (w : World) (e : Ending) (w' : World) : Prop :=
  Below w.heap.size w w' ∧ ((nameR b = none ∧ e = .returned (.slice none 0 0)) ∨ ∃ l, nameR b = some l ∧ AllI32 l ∧ l.length ≤ 100 ∧ e = .returned (.slice (some ⟨w.heap.size, 0, none⟩) l.length l.length) ∧ w'.heap[w.heap.size]? = some (.cells (cellsR l).toArray 128 (0, 0)))
set_option maxHeartbeats 4000000 in
set_option maxRecDepth 100000 in
theorem spans_any (s : ByteArray) (w : World) : Calls Tryd.prog 77 #[.string s] w (SpansPost s.toList w) := by
  obtain ⟨b, hb⟩ : ∃ b, s.toList = b := ⟨_, rfl⟩
  rw [hb]
  unfold SpansPost
  have HS := Lib.hid hb
  clear hb
  go_enter Tryd.func77, Tryd.ntmps77
  go_upto_if 4 with (fail)
  rw [HS.out]
  by_cases h0 : b = [76, 117]
  · subst h0
    rw [show (([76, 117] : List UInt8) == [76, 117]) = true by rfl]
    go_wp2_with fail
    go_ret
    exact ⟨(Below.refl _ w).alloc (Nat.le_refl _) _, .inr ⟨[(65, 90), (192, 214), (216, 222), (913, 929), (931, 937), (1040, 1071)], rfl, by unfold AllI32 I32; decide, by decide, rfl, heap_alloc_new w _⟩⟩
  rw [show (b == [76, 117]) = false by simpa using h0]
  go_upto_if 13 with (fail)
  rw [HS.out]
  by_cases h1 : b = [76, 108]
  · subst h1
    rw [show (([76, 108] : List UInt8) == [76, 108]) = true by rfl]
    go_wp2_with fail
    go_ret
    exact ⟨(Below.refl _ w).alloc (Nat.le_refl _) _, .inr ⟨[(97, 122), (223, 246), (248, 255), (945, 969), (1072, 1103)], rfl, by unfold AllI32 I32; decide, by decide, rfl, heap_alloc_new w _⟩⟩
  rw [show (b == [76, 108]) = false by simpa using h1]
  go_upto_if 21 with (fail)
  rw [HS.out]
  by_cases h2 : b = [76]
  · subst h2
    rw [show (([76] : List UInt8) == [76]) = true by rfl]
    go_wp2_with fail
    go_ret
    exact ⟨(Below.refl _ w).alloc (Nat.le_refl _) _, .inr ⟨[(65, 90), (97, 122), (170, 170), (186, 186), (192, 214), (216, 246), (248, 255), (913, 929), (931, 937), (945, 969), (1040, 1103), (19968, 40959)], rfl, by unfold AllI32 I32; decide, by decide, rfl, heap_alloc_new w _⟩⟩
  rw [show (b == [76]) = false by simpa using h2]
  go_upto_if 36 with (fail)
  rw [HS.out]
  by_cases h3 : b = [78, 100]
  · subst h3
    rw [show (([78, 100] : List UInt8) == [78, 100]) = true by rfl]
    go_wp2_with fail
    go_ret
    exact ⟨(Below.refl _ w).alloc (Nat.le_refl _) _, .inr ⟨[(48, 57), (1632, 1641)], rfl, by unfold AllI32 I32; decide, by decide, rfl, heap_alloc_new w _⟩⟩
  rw [show (b == [78, 100]) = false by simpa using h3]
  go_upto_if 41 with (fail)
  rw [HS.out]
  by_cases h4 : b = [78]
  · subst h4
    rw [show (([78] : List UInt8) == [78]) = true by rfl]
    go_wp2_with fail
    go_ret
    exact ⟨(Below.refl _ w).alloc (Nat.le_refl _) _, .inr ⟨[(48, 57), (178, 179), (185, 185), (188, 190), (1632, 1641), (8544, 8584)], rfl, by unfold AllI32 I32; decide, by decide, rfl, heap_alloc_new w _⟩⟩
  rw [show (b == [78]) = false by simpa using h4]
  go_upto_if 50 with (fail)
  rw [HS.out]
  by_cases h5 : b = [80]
  · subst h5
    rw [show (([80] : List UInt8) == [80]) = true by rfl]
    go_wp2_with fail
    go_ret
    exact ⟨(Below.refl _ w).alloc (Nat.le_refl _) _, .inr ⟨[(33, 35), (37, 42), (44, 47), (58, 59), (63, 64), (91, 93), (95, 95), (123, 123), (125, 125), (161, 161), (167, 167), (171, 171), (182, 183), (187, 187), (191, 191)], rfl, by unfold AllI32 I32; decide, by decide, rfl, heap_alloc_new w _⟩⟩
  rw [show (b == [80]) = false by simpa using h5]
  go_upto_if 68 with (fail)
  rw [HS.out]
  by_cases h6 : b = [83]
  · subst h6
    rw [show (([83] : List UInt8) == [83]) = true by rfl]
    go_wp2_with fail
    go_ret
    exact ⟨(Below.refl _ w).alloc (Nat.le_refl _) _, .inr ⟨[(36, 36), (43, 43), (60, 62), (94, 94), (96, 96), (124, 124), (126, 126), (162, 166), (168, 169), (172, 172), (174, 177), (180, 180), (184, 184), (215, 215), (247, 247)], rfl, by unfold AllI32 I32; decide, by decide, rfl, heap_alloc_new w _⟩⟩
  rw [show (b == [83]) = false by simpa using h6]
  go_upto_if 86 with (fail)
  rw [HS.out]
  by_cases h7 : b = [90]
  · subst h7
    rw [show (([90] : List UInt8) == [90]) = true by rfl]
    go_wp2_with fail
    go_ret
    exact ⟨(Below.refl _ w).alloc (Nat.le_refl _) _, .inr ⟨[(32, 32), (160, 160), (8192, 8202), (8232, 8233), (8239, 8239), (12288, 12288)], rfl, by unfold AllI32 I32; decide, by decide, rfl, heap_alloc_new w _⟩⟩
  rw [show (b == [90]) = false by simpa using h7]
  go_upto_if 95 with (fail)
  rw [HS.out]
  by_cases h8 : b = [67, 99]
  · subst h8
    rw [show (([67, 99] : List UInt8) == [67, 99]) = true by rfl]
    go_wp2_with fail
    go_ret
    exact ⟨(Below.refl _ w).alloc (Nat.le_refl _) _, .inr ⟨[(0, 31), (127, 159)], rfl, by unfold AllI32 I32; decide, by decide, rfl, heap_alloc_new w _⟩⟩
  rw [show (b == [67, 99]) = false by simpa using h8]
  go_upto_if 100 with (fail)
  rw [HS.out]
  by_cases h9 : b = [76, 97, 116, 105, 110]
  · subst h9
    rw [show (([76, 97, 116, 105, 110] : List UInt8) == [76, 97, 116, 105, 110]) = true by rfl]
    go_wp2_with fail
    go_ret
    exact ⟨(Below.refl _ w).alloc (Nat.le_refl _) _, .inr ⟨[(65, 90), (97, 122), (170, 170), (186, 186), (192, 214), (216, 246), (248, 591), (8490, 8491)], rfl, by unfold AllI32 I32; decide, by decide, rfl, heap_alloc_new w _⟩⟩
  rw [show (b == [76, 97, 116, 105, 110]) = false by simpa using h9]
  go_upto_if 111 with (fail)
  rw [HS.out]
  by_cases h10 : b = [71, 114, 101, 101, 107]
  · subst h10
    rw [show (([71, 114, 101, 101, 107] : List UInt8) == [71, 114, 101, 101, 107]) = true by rfl]
    go_wp2_with fail
    go_ret
    exact ⟨(Below.refl _ w).alloc (Nat.le_refl _) _, .inr ⟨[(880, 883), (885, 887), (890, 893), (895, 895), (900, 900), (902, 902), (904, 906), (908, 908), (910, 929), (931, 993)], rfl, by unfold AllI32 I32; decide, by decide, rfl, heap_alloc_new w _⟩⟩
  rw [show (b == [71, 114, 101, 101, 107]) = false by simpa using h10]
  go_upto_if 124 with (fail)
  rw [HS.out]
  by_cases h11 : b = [67, 121, 114, 105, 108, 108, 105, 99]
  · subst h11
    rw [show (([67, 121, 114, 105, 108, 108, 105, 99] : List UInt8) == [67, 121, 114, 105, 108, 108, 105, 99]) = true by rfl]
    go_wp2_with fail
    go_ret
    exact ⟨(Below.refl _ w).alloc (Nat.le_refl _) _, .inr ⟨[(1024, 1156), (1159, 1327)], rfl, by unfold AllI32 I32; decide, by decide, rfl, heap_alloc_new w _⟩⟩
  rw [show (b == [67, 121, 114, 105, 108, 108, 105, 99]) = false by simpa using h11]
  go_upto_if 129 with (fail)
  rw [HS.out]
  by_cases h12 : b = [72, 97, 110]
  · subst h12
    rw [show (([72, 97, 110] : List UInt8) == [72, 97, 110]) = true by rfl]
    go_wp2_with fail
    go_ret
    exact ⟨(Below.refl _ w).alloc (Nat.le_refl _) _, .inr ⟨[(19968, 40959)], rfl, by unfold AllI32 I32; decide, by decide, rfl, heap_alloc_new w _⟩⟩
  rw [show (b == [72, 97, 110]) = false by simpa using h12]
  go_wp2_with fail
  go_ret
  exact ⟨Below.refl _ _, .inl ⟨by unfold nameR; simp [h0, h1, h2, h3, h4, h5, h6, h7, h8, h9, h10, h11, h12], rfl⟩⟩
end Go.Proofs.YtofhckheeijoiaaDoor
