/- Texts merged by program: SProg, SLaws. No condition. -/
import Derived.Test.YtofhckheeijoiaaGreatDoorK28
import Derived.Test.YtofhckheeijoiaaGreatDoorK11
import Derived.Test.YtofhckheeijoiaaGreatDoorK36
import Derived.Test.YtofhckheeijoiaaGreatDoorK6
set_option linter.unusedVariables false
/- The program's four calls of scan, gathered. -/
/- The fixed question of stage 6; counts, names, flags, escapes as the document says. From the program's contracts pescape_any, pcount_any, pgroup_any, pflags_any. -/
namespace Go.Proofs.YtofhckheeijoiaaGreatDoor
open Go Go.RowKit

/-- The four answers of a count, in letters. -/
theorem count_form {O : Option (Int × Int × Nat)} : ∃ (a b n : Int) (q : Bool), ∀ w e w', CountPost O w e w' → e = .returned (.tuple #[.int .i64 a, .int .i64 b, .int .i64 n, .bool q]) ∧ Below w.heap.size w w' := by
  cases O with
  | none => exact ⟨0, 0, 0, false, fun w e w' ⟨hb, h⟩ => by
      rcases h with ⟨_, rfl⟩ | ⟨a, b, k, h, _⟩
      · exact ⟨rfl, hb⟩
      · cases h⟩
  | some x => obtain ⟨a, b, k⟩ := x; exact ⟨a, b, k, true, fun w e w' ⟨hb, h⟩ => by
      rcases h with ⟨h, _⟩ | ⟨a', b', k', h, rfl⟩
      · cases h
      · cases h
        exact ⟨rfl, hb⟩⟩
theorem bytes_eq {a b : ByteArray} (h : a.toList = b.toList) : a = b := by
  rw [Lib.toList_data, Lib.toList_data] at h
  obtain ⟨⟨a⟩⟩ := a
  obtain ⟨⟨b⟩⟩ := b
  simp only at h
  rw [h]
theorem name_form (s : ByteArray) (i : Nat) : ∃ (b : ByteArray) (n x y z : Int), ∀ w e w', SNamePost s i w e w' → e = .returned (.tuple #[.string b, .int .i64 n, .agg #[.int .i64 x, .int .i64 y, .int .i64 z]]) ∧ Below w.heap.size w w' := by
  cases hO : nameS s i with
  | none => exact ⟨⟨#[]⟩, 0, 64, i, _, fun w e w' ⟨hb, h⟩ => by
      rcases h with ⟨_, rfl⟩ | ⟨a, b, k, h, _⟩
      · exact ⟨rfl, hb⟩
      · rw [hO] at h
        cases h⟩
  | some x => obtain ⟨n, k⟩ := x; exact ⟨⟨n.toArray⟩, k, 0, 0, 0, fun w e w' ⟨hb, h⟩ => by
      rcases h with ⟨h, _⟩ | ⟨n', k', b', h, hbb, rfl⟩
      · rw [hO] at h
        cases h
      · rw [hO] at h
        cases h
        have : b' = ⟨n.toArray⟩ := bytes_eq (by rw [hbb, Lib.toList_data])
        rw [this]
        exact ⟨rfl, hb⟩⟩
theorem flags_form (s : ByteArray) (i : Nat) (R : Option (Int × Bool) × Nat) : ∃ (g : Int) (q : Bool) (n x y z : Int), ∀ w e w', FlagsPost s i R w e w' → e = .returned (.tuple #[.int .i64 g, .bool q, .int .i64 n, .agg #[.int .i64 x, .int .i64 y, .int .i64 z]]) ∧ Below w.heap.size w w' := by
  obtain ⟨O, p⟩ := R
  cases O with
  | none => exact ⟨0, false, 0, 65, i, badTo s p, fun w e w' ⟨hb, h⟩ => by
      rcases h with ⟨_, rfl⟩ | ⟨g, c, h, _⟩
      · exact ⟨rfl, hb⟩
      · cases h⟩
  | some x => obtain ⟨g, c⟩ := x; exact ⟨g, c, p, 0, 0, 0, fun w e w' ⟨hb, h⟩ => by
      rcases h with ⟨h, _⟩ | ⟨g', c', h, rfl⟩
      · cases h
      · cases h
        exact ⟨rfl, hb⟩⟩
theorem esc_form (R : EscR) (i : Nat) : ∃ (k r a n x y z : Int) (l : List (Int × Int)), ∀ w e w', EscPost R i w e w' → ∃ v, e = .returned (.tuple #[.agg #[.int .i64 k, .int .i32 r, v, .int .i64 a], .int .i64 n, .agg #[.int .i64 x, .int .i64 y, .int .i64 z]]) ∧ OwnR w' w.heap.size v l ∧ Below w.heap.size w w' := by
  cases R with
  | esc k r l a n => exact ⟨k, r, a, n, 0, 0, 0, l, fun w e w' ⟨hb, v, h, ho⟩ => ⟨v, h, ho, hb⟩⟩
  | bad c till => exact ⟨0, 0, 0, 0, c, i, till, [], fun w e w' ⟨hb, h⟩ => ⟨.slice none 0 0, h, own_none _ _, hb⟩⟩

theorem head_esc : escS ⟨#[92, 120, 123, 52, 49, 125, 98]⟩ 0 false = .esc 1 65 [] 0 6 := by kernel_rfl
theorem head_count : countS ⟨#[97, 123, 50, 44, 125]⟩ 1 = some (2, -1, 5) := by kernel_rfl

set_option maxHeartbeats 1600000 in
set_option maxRecDepth 100000 in
theorem shead_any (w : World) (hT : Lib.Utf8Tabs 1 2 w) : Calls Tryz.prog 4 #[] w fun e w' => e = .returned (.bool true) ∧ Below w.heap.size w w' := by
  have HE := Lib.hid (pescape_any ⟨#[92, 120, 123, 52, 49, 125, 98]⟩ 0 false w (by decide) (Nat.zero_le _) hT)
  rw [head_esc] at HE
  go_enter Tryz.func4, Tryz.ntmps4
  go_wp2_with fail
  refine HE.out.mono ?_
  intro e w1 hp
  obtain ⟨hb, v, rfl, ho⟩ := hp
  obtain ⟨A, cA, hvs, -⟩ := ho.rgs
  subst hvs
  have HB := Lib.hid hb
  clear hb ho HE
  unfold escV wrongV
  go_wp2_with fail
  refine (pcount_any ⟨#[97, 123, 50, 44, 125]⟩ 1 _ (by decide) (by decide)).mono ?_
  rw [head_count]
  rintro e w2 ⟨hb, ⟨h, _⟩ | ⟨a, b, k, h, rfl⟩⟩
  · cases h
  cases h
  have HB2 := Lib.hid (((HB.out.alloc HB.out.size _).alloc (by simp; have := HB.out.size; omega) _).trans (hb.mono (by simp; have := HB.out.size; omega)))
  have hc1 : ∀ (W : World) (b j : Nat) (v : Value), Below b W w2 → b ≤ W.heap.size → W.cell? ⟨b, j, none⟩ = some v → True := fun _ _ _ _ _ _ _ => trivial
  clear hc1
  have hE := Whole.below (B := w1.heap.size + 2) (Whole.alloc (heap_alloc_new w1 (.cells #[.int .i64 1, .int .i32 65, .slice A 0 cA, .int .i64 0] 37)) (.cells #[.int .i64 0, .int .i64 0, .int .i64 0] 29)) (hb.mono (by simp)) (by omega)
  have hF : Whole w2 (w1.heap.size + 1) 29 #[.int .i64 0, .int .i64 0, .int .i64 0] := Whole.below (B := w1.heap.size + 2) (by
    have := heap_alloc_new (w1.alloc (.cells #[.int .i64 1, .int .i32 65, .slice A 0 cA, .int .i64 0] 37)) (.cells #[.int .i64 0, .int .i64 0, .int .i64 0] 29)
    simpa [Whole] using this) (hb.mono (by simp)) (by omega)
  obtain ⟨e0, e1, e2, e3, -, -, -, -⟩ := hE.four
  obtain ⟨f0, f1, f2, -, -, -⟩ := hF.three
  clear hb hE hF
  go_wp2_with fail
  go_ret
  exact ⟨rfl, HB2.out⟩

/-- A place that is none is not asked about. -/
theorem place_cases (i : Int) (s : ByteArray) : (i < 0 ∨ (s.size : Int) < i) ∨ ∃ j : Nat, i = (j : Int) ∧ j ≤ s.size := by
  by_cases h0 : i < 0
  · exact .inl (.inl h0)
  by_cases h1 : (s.size : Int) < i
  · exact .inl (.inr h1)
  · exact .inr ⟨i.toNat, by omega, by omega⟩

end Go.Proofs.YtofhckheeijoiaaGreatDoor
