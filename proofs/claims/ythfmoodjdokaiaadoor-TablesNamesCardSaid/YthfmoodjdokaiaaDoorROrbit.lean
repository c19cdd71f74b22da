/- The document's orbit of a rune, as a fresh list. -/
import Derived.Test.YthfmoodjdokaiaaDoorRNamed
import Derived.Test.YthfmoodjdokaiaaDoorRns
import Derived.Test.YthfmoodjdokaiaaDoorRHas
set_option linter.unusedVariables false
namespace Go.Proofs.YthfmoodjdokaiaaDoor
open Go Go.RowKit

def groupsR : List (List Int) := [[75, 107, 8490], [83, 115, 383], [197, 229, 8491], [181, 924, 956], [931, 962, 963], [223, 7838], [255, 376]]
def greatL : List (Int × Int) := [(65, 90), (192, 214), (216, 222), (913, 929), (932, 937), (1040, 1071)]
/-- Is c a great letter, whose small one is 32 above it? -/
def greatB (c : Int) : Bool := !(decide (c = 75) || decide (c = 83) || decide (c = 197) || decide (c = 924)) && greatL.any fun r => decide (r.1 ≤ c) && decide (c ≤ r.2)
/-- The orbit of c. -/
def orbR (c : Int) : List Int :=
  if c < 0 ∨ 1114111 < c then [] else
  match groupsR.find? (fun g => g.contains c) with
  | some g => g
  | none => if greatB c then [c, c + 32] else if 32 ≤ c ∧ greatB (c - 32) = true then [c - 32, c] else [c]
theorem greatB_bound {c : Int} (h : greatB c = true) : 65 ≤ c ∧ c ≤ 1071 := by
  unfold greatB greatL at h
  simp at h
  omega
theorem has_great (c : Int) : HasR greatL c ↔ greatL.any (fun r => decide (r.1 ≤ c) && decide (c ≤ r.2)) = true := by
  simp only [List.any_eq_true, Bool.and_eq_true, decide_eq_true_eq]
  constructor
  · rintro ⟨_, _, r, h1, h2⟩
    exact ⟨r, h1, h2⟩
  · rintro ⟨r, h1, h2, h3⟩
    have : 0 ≤ r.1 ∧ r.2 ≤ 1114111 := by
      unfold greatL at h1
      simp at h1
      rcases h1 with rfl | rfl | rfl | rfl | rfl | rfl <;> exact ⟨by decide, by decide⟩
    exact ⟨by omega, by omega, r, h1, h2, h3⟩

set_option maxHeartbeats 1600000 in
set_option maxRecDepth 100000 in
theorem rgreat_any (c : Int) (w : World) : Calls Tryd.prog 26 #[.int .i32 c] w fun e w' => e = .returned (.bool (greatB c)) ∧ Below w.heap.size w w' := by
  go_enter Tryd.func26, Tryd.ntmps26
  by_cases h1 : c = 75
  · subst h1
    rw [show greatB 75 = false by decide]
    go_wp2
    go_ret
    exact ⟨rfl, Below.refl _ _⟩
  by_cases h2 : c = 83
  · subst h2
    rw [show greatB 83 = false by decide]
    go_wp2
    go_ret
    exact ⟨rfl, Below.refl _ _⟩
  by_cases h3 : c = 197
  · subst h3
    rw [show greatB 197 = false by decide]
    go_wp2
    go_ret
    exact ⟨rfl, Below.refl _ _⟩
  by_cases h4 : c = 924
  · subst h4
    rw [show greatB 924 = false by decide]
    go_wp2
    go_ret
    exact ⟨rfl, Below.refl _ _⟩
  go_upto_if 16 with (fail)
  rw [show (c == 75 || c == 83 || c == 197 || c == 924) = false by simp [h1, h2, h3, h4]]
  go_wp2_with fail
  refine (rset_any _ [(65, 90), (192, 214), (216, 222), (913, 929), (932, 937), (1040, 1071)] _ (rgs_lit w 39 _ _ _ rfl (by unfold AllI32 I32; decide) rfl (by unfold maxLen; decide)) (by decide)).mono ?_
  rintro e w1 ⟨v1, rfl, ho, hb⟩
  change OwnR w1 _ v1 greatL at ho
  have HB := Lib.hid ((((Below.refl _ w).alloc (Nat.le_refl _) _).trans (hb.mono (by simp))))
  have HO := Lib.hid ho.rgs
  clear ho hb
  go_wp2_with fail
  refine (rhas_any v1 greatL c w1 HO.out).mono ?_
  rintro e w2 ⟨B, rfl, hq, q, rfl⟩
  have hB : B = greatB c := by
    rw [has_great] at hq
    unfold greatB
    simp only [h1, h2, h3, h4]
    simpa using Bool.eq_iff_iff.2 hq
  subst hB
  have HB2 := Lib.hid (below_drewNr HB.out q)
  clear hq
  go_wp2_with fail
  go_ret
  exact ⟨rfl, HB2.out⟩

theorem rns_lit (w : World) (cs : Array Value) (l : List Int) (n : Nat) (hc : cs.toList = litsN l) (hn : l.length = n) (hm : n ≤ maxLen) (hi : ∀ x ∈ l, I32 x) : Rns (w.alloc (.cells cs 21)) (.slice (some ⟨w.heap.size, 0, none⟩) n n) l :=
  (ownN_lit w 0 (Nat.zero_le _) l n cs hc hn hm hi).rns
set_option maxHeartbeats 1600000 in
set_option maxRecDepth 100000 in
theorem rgroups_any (w : World) : Calls Tryd.prog 24 #[] w fun e w' => ∃ v, e = .returned v ∧ Lns w' v groupsR ∧ Below w.heap.size w w' := by
  go_enter Tryd.func24, Tryd.ntmps24
  go_wp2_with fail
  go_ret
  have k0 := rns_lit w #[.int .i32 75, .int .i32 107, .int .i32 8490] [75, 107, 8490] 3 rfl rfl (by unfold maxLen; decide) (by unfold I32; decide)
  have k1 := rns_lit (w.alloc (.cells #[.int .i32 75, .int .i32 107, .int .i32 8490] 21)) #[.int .i32 83, .int .i32 115, .int .i32 383] [83, 115, 383] 3 rfl rfl (by unfold maxLen; decide) (by unfold I32; decide)
  have k2 := rns_lit ((w.alloc (.cells #[.int .i32 75, .int .i32 107, .int .i32 8490] 21)).alloc (.cells #[.int .i32 83, .int .i32 115, .int .i32 383] 21)) #[.int .i32 197, .int .i32 229, .int .i32 8491] [197, 229, 8491] 3 rfl rfl (by unfold maxLen; decide) (by unfold I32; decide)
  have k3 := rns_lit (((w.alloc (.cells #[.int .i32 75, .int .i32 107, .int .i32 8490] 21)).alloc (.cells #[.int .i32 83, .int .i32 115, .int .i32 383] 21)).alloc (.cells #[.int .i32 197, .int .i32 229, .int .i32 8491] 21)) #[.int .i32 181, .int .i32 924, .int .i32 956] [181, 924, 956] 3 rfl rfl (by unfold maxLen; decide) (by unfold I32; decide)
  have k4 := rns_lit ((((w.alloc (.cells #[.int .i32 75, .int .i32 107, .int .i32 8490] 21)).alloc (.cells #[.int .i32 83, .int .i32 115, .int .i32 383] 21)).alloc (.cells #[.int .i32 197, .int .i32 229, .int .i32 8491] 21)).alloc (.cells #[.int .i32 181, .int .i32 924, .int .i32 956] 21)) #[.int .i32 931, .int .i32 962, .int .i32 963] [931, 962, 963] 3 rfl rfl (by unfold maxLen; decide) (by unfold I32; decide)
  have k5 := rns_lit (((((w.alloc (.cells #[.int .i32 75, .int .i32 107, .int .i32 8490] 21)).alloc (.cells #[.int .i32 83, .int .i32 115, .int .i32 383] 21)).alloc (.cells #[.int .i32 197, .int .i32 229, .int .i32 8491] 21)).alloc (.cells #[.int .i32 181, .int .i32 924, .int .i32 956] 21)).alloc (.cells #[.int .i32 931, .int .i32 962, .int .i32 963] 21)) #[.int .i32 223, .int .i32 7838] [223, 7838] 2 rfl rfl (by unfold maxLen; decide) (by unfold I32; decide)
  have k6 := rns_lit ((((((w.alloc (.cells #[.int .i32 75, .int .i32 107, .int .i32 8490] 21)).alloc (.cells #[.int .i32 83, .int .i32 115, .int .i32 383] 21)).alloc (.cells #[.int .i32 197, .int .i32 229, .int .i32 8491] 21)).alloc (.cells #[.int .i32 181, .int .i32 924, .int .i32 956] 21)).alloc (.cells #[.int .i32 931, .int .i32 962, .int .i32 963] 21)).alloc (.cells #[.int .i32 223, .int .i32 7838] 21)) #[.int .i32 255, .int .i32 376] [255, 376] 2 rfl rfl (by unfold maxLen; decide) (by unfold I32; decide)
  have b0 : Below (w.alloc (.cells #[.int .i32 75, .int .i32 107, .int .i32 8490] 21)).heap.size (w.alloc (.cells #[.int .i32 75, .int .i32 107, .int .i32 8490] 21)) ((((((((w.alloc (.cells #[.int .i32 75, .int .i32 107, .int .i32 8490] 21)).alloc (.cells #[.int .i32 83, .int .i32 115, .int .i32 383] 21)).alloc (.cells #[.int .i32 197, .int .i32 229, .int .i32 8491] 21)).alloc (.cells #[.int .i32 181, .int .i32 924, .int .i32 956] 21)).alloc (.cells #[.int .i32 931, .int .i32 962, .int .i32 963] 21)).alloc (.cells #[.int .i32 223, .int .i32 7838] 21)).alloc (.cells #[.int .i32 255, .int .i32 376] 21)).alloc (.cells #[.slice (some ⟨w.heap.size, 0, none⟩) 3 3, .slice (some ⟨w.heap.size + 1, 0, none⟩) 3 3, .slice (some ⟨w.heap.size + 1 + 1, 0, none⟩) 3 3, .slice (some ⟨w.heap.size + 1 + 1 + 1, 0, none⟩) 3 3, .slice (some ⟨w.heap.size + 1 + 1 + 1 + 1, 0, none⟩) 3 3, .slice (some ⟨w.heap.size + 1 + 1 + 1 + 1 + 1, 0, none⟩) 2 2, .slice (some ⟨w.heap.size + 1 + 1 + 1 + 1 + 1 + 1, 0, none⟩) 2 2] 31)) := ((((((((Below.refl _ _).alloc (by simp) _).alloc (by simp <;> omega) _).alloc (by simp <;> omega) _).alloc (by simp <;> omega) _).alloc (by simp <;> omega) _).alloc (by simp <;> omega) _).alloc (by simp <;> omega) _)
  have b1 : Below ((w.alloc (.cells #[.int .i32 75, .int .i32 107, .int .i32 8490] 21)).alloc (.cells #[.int .i32 83, .int .i32 115, .int .i32 383] 21)).heap.size ((w.alloc (.cells #[.int .i32 75, .int .i32 107, .int .i32 8490] 21)).alloc (.cells #[.int .i32 83, .int .i32 115, .int .i32 383] 21)) ((((((((w.alloc (.cells #[.int .i32 75, .int .i32 107, .int .i32 8490] 21)).alloc (.cells #[.int .i32 83, .int .i32 115, .int .i32 383] 21)).alloc (.cells #[.int .i32 197, .int .i32 229, .int .i32 8491] 21)).alloc (.cells #[.int .i32 181, .int .i32 924, .int .i32 956] 21)).alloc (.cells #[.int .i32 931, .int .i32 962, .int .i32 963] 21)).alloc (.cells #[.int .i32 223, .int .i32 7838] 21)).alloc (.cells #[.int .i32 255, .int .i32 376] 21)).alloc (.cells #[.slice (some ⟨w.heap.size, 0, none⟩) 3 3, .slice (some ⟨w.heap.size + 1, 0, none⟩) 3 3, .slice (some ⟨w.heap.size + 1 + 1, 0, none⟩) 3 3, .slice (some ⟨w.heap.size + 1 + 1 + 1, 0, none⟩) 3 3, .slice (some ⟨w.heap.size + 1 + 1 + 1 + 1, 0, none⟩) 3 3, .slice (some ⟨w.heap.size + 1 + 1 + 1 + 1 + 1, 0, none⟩) 2 2, .slice (some ⟨w.heap.size + 1 + 1 + 1 + 1 + 1 + 1, 0, none⟩) 2 2] 31)) := (((((((Below.refl _ _).alloc (by simp) _).alloc (by simp <;> omega) _).alloc (by simp <;> omega) _).alloc (by simp <;> omega) _).alloc (by simp <;> omega) _).alloc (by simp <;> omega) _)
  have b2 : Below (((w.alloc (.cells #[.int .i32 75, .int .i32 107, .int .i32 8490] 21)).alloc (.cells #[.int .i32 83, .int .i32 115, .int .i32 383] 21)).alloc (.cells #[.int .i32 197, .int .i32 229, .int .i32 8491] 21)).heap.size (((w.alloc (.cells #[.int .i32 75, .int .i32 107, .int .i32 8490] 21)).alloc (.cells #[.int .i32 83, .int .i32 115, .int .i32 383] 21)).alloc (.cells #[.int .i32 197, .int .i32 229, .int .i32 8491] 21)) ((((((((w.alloc (.cells #[.int .i32 75, .int .i32 107, .int .i32 8490] 21)).alloc (.cells #[.int .i32 83, .int .i32 115, .int .i32 383] 21)).alloc (.cells #[.int .i32 197, .int .i32 229, .int .i32 8491] 21)).alloc (.cells #[.int .i32 181, .int .i32 924, .int .i32 956] 21)).alloc (.cells #[.int .i32 931, .int .i32 962, .int .i32 963] 21)).alloc (.cells #[.int .i32 223, .int .i32 7838] 21)).alloc (.cells #[.int .i32 255, .int .i32 376] 21)).alloc (.cells #[.slice (some ⟨w.heap.size, 0, none⟩) 3 3, .slice (some ⟨w.heap.size + 1, 0, none⟩) 3 3, .slice (some ⟨w.heap.size + 1 + 1, 0, none⟩) 3 3, .slice (some ⟨w.heap.size + 1 + 1 + 1, 0, none⟩) 3 3, .slice (some ⟨w.heap.size + 1 + 1 + 1 + 1, 0, none⟩) 3 3, .slice (some ⟨w.heap.size + 1 + 1 + 1 + 1 + 1, 0, none⟩) 2 2, .slice (some ⟨w.heap.size + 1 + 1 + 1 + 1 + 1 + 1, 0, none⟩) 2 2] 31)) := ((((((Below.refl _ _).alloc (by simp) _).alloc (by simp <;> omega) _).alloc (by simp <;> omega) _).alloc (by simp <;> omega) _).alloc (by simp <;> omega) _)
  have b3 : Below ((((w.alloc (.cells #[.int .i32 75, .int .i32 107, .int .i32 8490] 21)).alloc (.cells #[.int .i32 83, .int .i32 115, .int .i32 383] 21)).alloc (.cells #[.int .i32 197, .int .i32 229, .int .i32 8491] 21)).alloc (.cells #[.int .i32 181, .int .i32 924, .int .i32 956] 21)).heap.size ((((w.alloc (.cells #[.int .i32 75, .int .i32 107, .int .i32 8490] 21)).alloc (.cells #[.int .i32 83, .int .i32 115, .int .i32 383] 21)).alloc (.cells #[.int .i32 197, .int .i32 229, .int .i32 8491] 21)).alloc (.cells #[.int .i32 181, .int .i32 924, .int .i32 956] 21)) ((((((((w.alloc (.cells #[.int .i32 75, .int .i32 107, .int .i32 8490] 21)).alloc (.cells #[.int .i32 83, .int .i32 115, .int .i32 383] 21)).alloc (.cells #[.int .i32 197, .int .i32 229, .int .i32 8491] 21)).alloc (.cells #[.int .i32 181, .int .i32 924, .int .i32 956] 21)).alloc (.cells #[.int .i32 931, .int .i32 962, .int .i32 963] 21)).alloc (.cells #[.int .i32 223, .int .i32 7838] 21)).alloc (.cells #[.int .i32 255, .int .i32 376] 21)).alloc (.cells #[.slice (some ⟨w.heap.size, 0, none⟩) 3 3, .slice (some ⟨w.heap.size + 1, 0, none⟩) 3 3, .slice (some ⟨w.heap.size + 1 + 1, 0, none⟩) 3 3, .slice (some ⟨w.heap.size + 1 + 1 + 1, 0, none⟩) 3 3, .slice (some ⟨w.heap.size + 1 + 1 + 1 + 1, 0, none⟩) 3 3, .slice (some ⟨w.heap.size + 1 + 1 + 1 + 1 + 1, 0, none⟩) 2 2, .slice (some ⟨w.heap.size + 1 + 1 + 1 + 1 + 1 + 1, 0, none⟩) 2 2] 31)) := (((((Below.refl _ _).alloc (by simp) _).alloc (by simp <;> omega) _).alloc (by simp <;> omega) _).alloc (by simp <;> omega) _)
  have b4 : Below (((((w.alloc (.cells #[.int .i32 75, .int .i32 107, .int .i32 8490] 21)).alloc (.cells #[.int .i32 83, .int .i32 115, .int .i32 383] 21)).alloc (.cells #[.int .i32 197, .int .i32 229, .int .i32 8491] 21)).alloc (.cells #[.int .i32 181, .int .i32 924, .int .i32 956] 21)).alloc (.cells #[.int .i32 931, .int .i32 962, .int .i32 963] 21)).heap.size (((((w.alloc (.cells #[.int .i32 75, .int .i32 107, .int .i32 8490] 21)).alloc (.cells #[.int .i32 83, .int .i32 115, .int .i32 383] 21)).alloc (.cells #[.int .i32 197, .int .i32 229, .int .i32 8491] 21)).alloc (.cells #[.int .i32 181, .int .i32 924, .int .i32 956] 21)).alloc (.cells #[.int .i32 931, .int .i32 962, .int .i32 963] 21)) ((((((((w.alloc (.cells #[.int .i32 75, .int .i32 107, .int .i32 8490] 21)).alloc (.cells #[.int .i32 83, .int .i32 115, .int .i32 383] 21)).alloc (.cells #[.int .i32 197, .int .i32 229, .int .i32 8491] 21)).alloc (.cells #[.int .i32 181, .int .i32 924, .int .i32 956] 21)).alloc (.cells #[.int .i32 931, .int .i32 962, .int .i32 963] 21)).alloc (.cells #[.int .i32 223, .int .i32 7838] 21)).alloc (.cells #[.int .i32 255, .int .i32 376] 21)).alloc (.cells #[.slice (some ⟨w.heap.size, 0, none⟩) 3 3, .slice (some ⟨w.heap.size + 1, 0, none⟩) 3 3, .slice (some ⟨w.heap.size + 1 + 1, 0, none⟩) 3 3, .slice (some ⟨w.heap.size + 1 + 1 + 1, 0, none⟩) 3 3, .slice (some ⟨w.heap.size + 1 + 1 + 1 + 1, 0, none⟩) 3 3, .slice (some ⟨w.heap.size + 1 + 1 + 1 + 1 + 1, 0, none⟩) 2 2, .slice (some ⟨w.heap.size + 1 + 1 + 1 + 1 + 1 + 1, 0, none⟩) 2 2] 31)) := ((((Below.refl _ _).alloc (by simp) _).alloc (by simp <;> omega) _).alloc (by simp <;> omega) _)
  have b5 : Below ((((((w.alloc (.cells #[.int .i32 75, .int .i32 107, .int .i32 8490] 21)).alloc (.cells #[.int .i32 83, .int .i32 115, .int .i32 383] 21)).alloc (.cells #[.int .i32 197, .int .i32 229, .int .i32 8491] 21)).alloc (.cells #[.int .i32 181, .int .i32 924, .int .i32 956] 21)).alloc (.cells #[.int .i32 931, .int .i32 962, .int .i32 963] 21)).alloc (.cells #[.int .i32 223, .int .i32 7838] 21)).heap.size ((((((w.alloc (.cells #[.int .i32 75, .int .i32 107, .int .i32 8490] 21)).alloc (.cells #[.int .i32 83, .int .i32 115, .int .i32 383] 21)).alloc (.cells #[.int .i32 197, .int .i32 229, .int .i32 8491] 21)).alloc (.cells #[.int .i32 181, .int .i32 924, .int .i32 956] 21)).alloc (.cells #[.int .i32 931, .int .i32 962, .int .i32 963] 21)).alloc (.cells #[.int .i32 223, .int .i32 7838] 21)) ((((((((w.alloc (.cells #[.int .i32 75, .int .i32 107, .int .i32 8490] 21)).alloc (.cells #[.int .i32 83, .int .i32 115, .int .i32 383] 21)).alloc (.cells #[.int .i32 197, .int .i32 229, .int .i32 8491] 21)).alloc (.cells #[.int .i32 181, .int .i32 924, .int .i32 956] 21)).alloc (.cells #[.int .i32 931, .int .i32 962, .int .i32 963] 21)).alloc (.cells #[.int .i32 223, .int .i32 7838] 21)).alloc (.cells #[.int .i32 255, .int .i32 376] 21)).alloc (.cells #[.slice (some ⟨w.heap.size, 0, none⟩) 3 3, .slice (some ⟨w.heap.size + 1, 0, none⟩) 3 3, .slice (some ⟨w.heap.size + 1 + 1, 0, none⟩) 3 3, .slice (some ⟨w.heap.size + 1 + 1 + 1, 0, none⟩) 3 3, .slice (some ⟨w.heap.size + 1 + 1 + 1 + 1, 0, none⟩) 3 3, .slice (some ⟨w.heap.size + 1 + 1 + 1 + 1 + 1, 0, none⟩) 2 2, .slice (some ⟨w.heap.size + 1 + 1 + 1 + 1 + 1 + 1, 0, none⟩) 2 2] 31)) := (((Below.refl _ _).alloc (by simp) _).alloc (by simp <;> omega) _)
  have b6 : Below (((((((w.alloc (.cells #[.int .i32 75, .int .i32 107, .int .i32 8490] 21)).alloc (.cells #[.int .i32 83, .int .i32 115, .int .i32 383] 21)).alloc (.cells #[.int .i32 197, .int .i32 229, .int .i32 8491] 21)).alloc (.cells #[.int .i32 181, .int .i32 924, .int .i32 956] 21)).alloc (.cells #[.int .i32 931, .int .i32 962, .int .i32 963] 21)).alloc (.cells #[.int .i32 223, .int .i32 7838] 21)).alloc (.cells #[.int .i32 255, .int .i32 376] 21)).heap.size (((((((w.alloc (.cells #[.int .i32 75, .int .i32 107, .int .i32 8490] 21)).alloc (.cells #[.int .i32 83, .int .i32 115, .int .i32 383] 21)).alloc (.cells #[.int .i32 197, .int .i32 229, .int .i32 8491] 21)).alloc (.cells #[.int .i32 181, .int .i32 924, .int .i32 956] 21)).alloc (.cells #[.int .i32 931, .int .i32 962, .int .i32 963] 21)).alloc (.cells #[.int .i32 223, .int .i32 7838] 21)).alloc (.cells #[.int .i32 255, .int .i32 376] 21)) ((((((((w.alloc (.cells #[.int .i32 75, .int .i32 107, .int .i32 8490] 21)).alloc (.cells #[.int .i32 83, .int .i32 115, .int .i32 383] 21)).alloc (.cells #[.int .i32 197, .int .i32 229, .int .i32 8491] 21)).alloc (.cells #[.int .i32 181, .int .i32 924, .int .i32 956] 21)).alloc (.cells #[.int .i32 931, .int .i32 962, .int .i32 963] 21)).alloc (.cells #[.int .i32 223, .int .i32 7838] 21)).alloc (.cells #[.int .i32 255, .int .i32 376] 21)).alloc (.cells #[.slice (some ⟨w.heap.size, 0, none⟩) 3 3, .slice (some ⟨w.heap.size + 1, 0, none⟩) 3 3, .slice (some ⟨w.heap.size + 1 + 1, 0, none⟩) 3 3, .slice (some ⟨w.heap.size + 1 + 1 + 1, 0, none⟩) 3 3, .slice (some ⟨w.heap.size + 1 + 1 + 1 + 1, 0, none⟩) 3 3, .slice (some ⟨w.heap.size + 1 + 1 + 1 + 1 + 1, 0, none⟩) 2 2, .slice (some ⟨w.heap.size + 1 + 1 + 1 + 1 + 1 + 1, 0, none⟩) 2 2] 31)) := ((Below.refl _ _).alloc (Nat.le_refl _) _)
  have bw : Below w.heap.size w ((((((((w.alloc (.cells #[.int .i32 75, .int .i32 107, .int .i32 8490] 21)).alloc (.cells #[.int .i32 83, .int .i32 115, .int .i32 383] 21)).alloc (.cells #[.int .i32 197, .int .i32 229, .int .i32 8491] 21)).alloc (.cells #[.int .i32 181, .int .i32 924, .int .i32 956] 21)).alloc (.cells #[.int .i32 931, .int .i32 962, .int .i32 963] 21)).alloc (.cells #[.int .i32 223, .int .i32 7838] 21)).alloc (.cells #[.int .i32 255, .int .i32 376] 21)).alloc (.cells #[.slice (some ⟨w.heap.size, 0, none⟩) 3 3, .slice (some ⟨w.heap.size + 1, 0, none⟩) 3 3, .slice (some ⟨w.heap.size + 1 + 1, 0, none⟩) 3 3, .slice (some ⟨w.heap.size + 1 + 1 + 1, 0, none⟩) 3 3, .slice (some ⟨w.heap.size + 1 + 1 + 1 + 1, 0, none⟩) 3 3, .slice (some ⟨w.heap.size + 1 + 1 + 1 + 1 + 1, 0, none⟩) 2 2, .slice (some ⟨w.heap.size + 1 + 1 + 1 + 1 + 1 + 1, 0, none⟩) 2 2] 31)) := (((((((((Below.refl _ _).alloc (by simp) _).alloc (by simp <;> omega) _).alloc (by simp <;> omega) _).alloc (by simp <;> omega) _).alloc (by simp <;> omega) _).alloc (by simp <;> omega) _).alloc (by simp <;> omega) _).alloc (by simp <;> omega) _)
  have r0 := k0.below b0
  have r1 := k1.below b1
  have r2 := k2.below b2
  have r3 := k3.below b3
  have r4 := k4.below b4
  have r5 := k5.below b5
  have r6 := k6.below b6
  simp only [World.size_alloc] at r1 r2 r3 r4 r5 r6
  refine ⟨_, rfl, ⟨w.heap.size + 1 + 1 + 1 + 1 + 1 + 1 + 1, 7, rfl, by decide, by unfold maxLen; decide, fun i hi => ?_⟩, bw⟩
  have hi' : i < 7 := hi
  have hc : ∀ j, ((((((((w.alloc (.cells #[.int .i32 75, .int .i32 107, .int .i32 8490] 21)).alloc (.cells #[.int .i32 83, .int .i32 115, .int .i32 383] 21)).alloc (.cells #[.int .i32 197, .int .i32 229, .int .i32 8491] 21)).alloc (.cells #[.int .i32 181, .int .i32 924, .int .i32 956] 21)).alloc (.cells #[.int .i32 931, .int .i32 962, .int .i32 963] 21)).alloc (.cells #[.int .i32 223, .int .i32 7838] 21)).alloc (.cells #[.int .i32 255, .int .i32 376] 21)).alloc (.cells #[.slice (some ⟨w.heap.size, 0, none⟩) 3 3, .slice (some ⟨w.heap.size + 1, 0, none⟩) 3 3, .slice (some ⟨w.heap.size + 1 + 1, 0, none⟩) 3 3, .slice (some ⟨w.heap.size + 1 + 1 + 1, 0, none⟩) 3 3, .slice (some ⟨w.heap.size + 1 + 1 + 1 + 1, 0, none⟩) 3 3, .slice (some ⟨w.heap.size + 1 + 1 + 1 + 1 + 1, 0, none⟩) 2 2, .slice (some ⟨w.heap.size + 1 + 1 + 1 + 1 + 1 + 1, 0, none⟩) 2 2] 31)).cell? ⟨w.heap.size + 1 + 1 + 1 + 1 + 1 + 1 + 1, j, none⟩ = (#[.slice (some ⟨w.heap.size, 0, none⟩) 3 3, .slice (some ⟨w.heap.size + 1, 0, none⟩) 3 3, .slice (some ⟨w.heap.size + 1 + 1, 0, none⟩) 3 3, .slice (some ⟨w.heap.size + 1 + 1 + 1, 0, none⟩) 3 3, .slice (some ⟨w.heap.size + 1 + 1 + 1 + 1, 0, none⟩) 3 3, .slice (some ⟨w.heap.size + 1 + 1 + 1 + 1 + 1, 0, none⟩) 2 2, .slice (some ⟨w.heap.size + 1 + 1 + 1 + 1 + 1 + 1, 0, none⟩) 2 2] : Array Value)[j]? := fun j => by rw [World.cell?_alloc_at _ _ _ _ (by simp)]
  match i, hi' with
  | 0, _ => exact ⟨_, hc 0, r0⟩
  | 1, _ => exact ⟨_, hc 1, r1⟩
  | 2, _ => exact ⟨_, hc 2, r2⟩
  | 3, _ => exact ⟨_, hc 3, r3⟩
  | 4, _ => exact ⟨_, hc 4, r4⟩
  | 5, _ => exact ⟨_, hc 5, r5⟩
  | 6, _ => exact ⟨_, hc 6, r6⟩

/-- A list that rises. -/
def RiseN (l : List Int) : Prop := l.Pairwise (· < ·)
set_option maxHeartbeats 1600000 in
set_option maxRecDepth 100000 in
theorem rsorted_any (v : Value) (l : List Int) (w : World) (h : Rns w v l) (hr : RiseN l) (hn : l.length ≤ 1099511627776) :
    Calls Tryd.prog 25 #[v] w fun e w' => ∃ v', e = .returned v' ∧ OwnN w' w.heap.size v' l ∧ Below w.heap.size w w' := by
  have HR := Lib.hid h; have HUP := Lib.hid hr
  obtain ⟨a, c, rfl, h2, h3, h4, h5, h6⟩ := h
  have H6 := Lib.hid h6
  clear h5 h6 h4 h2 h3 hr
  go_enter Tryd.func25, Tryd.ntmps25
  go_wp2_with fail
  go_loopw [3, 4] (fun vs i wr => ∃ m : Nat, m ≤ l.length ∧ i = .int .i64 m ∧ OwnN wr w.heap.size vs (l.take m) ∧ Below w.heap.size w wr ∧ (m = 0 → vs = .slice none 0 0)) (fun _ i _ => l.length - (intOf i).toNat)
  case atStart => exact ⟨0, Nat.zero_le _, rfl, ownN_none _ _, Below.refl _ _, fun _ => rfl⟩
  case round =>
    obtain ⟨m, hm, rfl, hO, hB, hnl⟩ := hrel
    have HO := Lib.hid hO; have HB := Lib.hid hB; have HNL := Lib.hid hnl
    clear hO hB hnl
    by_cases hlt : m < l.length
    · obtain ⟨a', c', e, g2, g3, g4, g5, g6⟩ := HR.out
      injection e with e1 e2 e3
      subst e1 e3
      rcases g5 with g5 | ⟨b, o, rfl, hc⟩
      · rw [g5] at hlt
        simp at hlt
      have hltk : (l.take m).length = m := by rw [List.length_take]; omega
      obtain ⟨x, hx⟩ : ∃ x, l[m] = x := ⟨_, rfl⟩
      have c1w := hc m hlt
      rw [hx] at c1w
      have c1 := (HB.out.cell (World.block_lt_of_cell? w _ c1w)).trans c1w
      have hxi := H6.out l[m] (List.getElem_mem hlt)
      rw [hx] at hxi
      have hsp : l.take (m + 1) = l.take m ++ [x] := by rw [List.take_succ_eq_append_getElem hlt, hx]
      have hlo : ∀ k (h : k < l.length), k < m → l[k] < x := fun k h hk => by
        rw [← hx]
        exact List.pairwise_iff_getElem.1 HUP.out k m h hlt hk
      have HSP := Lib.hid hsp; have HXI := Lib.hid hxi; have HC := Lib.hid c1w; have HLO := Lib.hid hlo
      have hsz := HB.out.size
      clear hsp hxi hc hx hlo g6 c1w
      rcases own_slice1 HO.out.1 with ⟨rfl, h0⟩ | ⟨g, cs, rfl, q1, q2, q3⟩
      · have hm0 : m = 0 := by omega
        subst hm0
        go_wp2_with fail
        go_loopw [5] (fun i wy => i = .int .i64 0 ∧ ∃ q, wy = wr.drewN q) (fun _ _ => 0)
        case atStart => exact ⟨rfl, 0, rfl⟩
        case round =>
          obtain ⟨rfl, q, rfl⟩ := hrel
          go_wp2_with fail
          go_big_quiet (fail)
          obtain ⟨wd, hwd⟩ : ∃ wd, (wr.drewN q).drewN nq = wd := ⟨_, rfl⟩
          have hbd : Below wr.heap.size wr wd := by rw [← hwd]; exact below_drewNr (below_draws wr q) nq
          rw [hwd]
          have HBD := Lib.hid (HB.out.trans (hbd.mono hsz))
          have HOD := Lib.hid (HO.out.below hbd)
          have hszd := HBD.out.size
          have hcd := (HBD.out.cell (World.block_lt_of_cell? w _ HC.out)).trans HC.out
          have HNK := Lib.hid HOD.out.rns
          clear hwd hbd
          go_wp2_with (at_builtin; refine append_rns rfl (.tmp 31) (.tmp 34) rfl w.heap.size _ [] rfl (ownN_lit wd w.heap.size hszd [] 0 #[] rfl rfl (Nat.zero_le _) (by simp)) none 0 0 (l.take 0) rfl (rns_nil _ none 0 (Nat.zero_le _) (fun _ => rfl)) ?b2 ?b3 ?_)
          case b2 => simp <;> omega
          case b3 => simp <;> omega
          intro v1 w1 ho1 hg1
          try simp only [List.nil_append] at ho1
          have HB1 := Lib.hid ((HBD.out.alloc hszd (.cells #[] 21)).grown hg1 (by simp <;> omega) (by simp [Value.ownBlock]; exact hszd))
          have HO1 := Lib.hid ho1
          have hc1 := (HB1.out.cell (World.block_lt_of_cell? w _ HC.out)).trans HC.out
          simp only [Nat.add_zero] at hc1
          have hsz1 := HB1.out.size
          clear ho1 hg1
          go_wp2_with (at_builtin; refine append_rns rfl (.tmp 36) (.tmp 41) rfl w.heap.size v1 (l.take 0) rfl (HO1.out.below ((Below.refl _ w1).alloc (Nat.le_refl _) _)) (some ⟨w1.heap.size, 0, none⟩) 1 1 [x] rfl (rns_new w1 x HXI.out) ?c1 ?c2 ?_)
          case c1 => simp
          case c2 => simp <;> omega
          intro v2 w2 ho2 hg2
          have HB2 := Lib.hid ((HB1.out.alloc hsz1 _).grown hg2 (by simp <;> omega) (fun j hj => (HO1.out.1.lt j hj).1))
          have HO2 := Lib.hid ho2
          have hsz2 := HB2.out.size
          clear ho2 hg2
          go_wp2_with (at_builtin; refine append_rns rfl (.tmp 43) (.tmp 46) rfl w.heap.size v2 (l.take 0 ++ [x]) rfl HO2.out none 0 0 [] rfl (rns_nil _ none 0 (Nat.zero_le _) (fun _ => rfl)) ?d1 ?d2 ?_)
          case d1 => simp <;> omega
          case d2 => exact hsz2
          intro v3 w3 ho3 hg3
          try rw [List.append_nil] at ho3
          have HB3 := Lib.hid (HB2.out.grown hg3 hsz2 (fun j hj => (HO2.out.1.lt j hj).1))
          have HO3 := Lib.hid ho3
          clear ho3 hg3
          go_wp2
          go_roundw
          case rel => exact ⟨1, by omega, by go_num, by rw [show l.take 1 = [x] from HSP.out]; simpa using HO3.out, HB3.out, fun h => absurd h (by omega)⟩
          case measure => simp [intOf]; omega
      · rcases Nat.eq_zero_or_pos m with hm0 | hm0
        · exfalso
          have h1 := HNL.out hm0
          cases h1
        obtain ⟨p, rfl⟩ : ∃ p, m = p + 1 := ⟨m - 1, by omega⟩
        rw [hltk] at q1
        obtain ⟨s1, hs1, c3⟩ : ∃ s1, s1 < x ∧ wr.cell? ⟨g, p, none⟩ = some (.int .i32 s1) := by
          obtain ⟨a2, c2, e2, -, -, -, f5, -⟩ := HO.out.rns
          injection e2 with e2 _ _
          rcases f5 with f5 | ⟨b2, o2, e3, f6⟩
          · rw [f5] at hltk
            simp at hltk
          · rw [← e2] at e3
            injection e3 with e3
            injection e3 with e4 e5
            subst e4 e5
            have hp : p < (l.take (p + 1)).length := by omega
            have := f6 p hp
            refine ⟨l[p], HLO.out p (by omega) (by omega), ?_⟩
            rw [Nat.zero_add] at this
            simpa using this
        have hd : decide (x < s1) = false := decide_eq_false (by omega)
        have hpz : (0 : Int) < (p : Int) + 1 := by omega
        have dp : decide ((0 : Int) < (p : Int) + 1) = true := decide_eq_true hpz
        rw [hltk]
        go_wp2_with fail
        go_loopw [5] (fun i wy => i = .int .i64 ((p + 1 : Nat) : Int) ∧ ∃ q, wy = wr.drewN q) (fun _ _ => 0)
        case atStart => exact ⟨rfl, 0, rfl⟩
        case round =>
          obtain ⟨rfl, q, rfl⟩ := hrel
          go_wp2_with fail
          go_big_quiet (fail)
          clear c3 hd
          have hcz : (p : Int) + 1 ≤ (cs : Int) := by omega
          by_cases hck : cs = p + 1
          · subst hck
            obtain ⟨wd, hwd⟩ : ∃ wd, (wr.drewN q).drewN nq = wd := ⟨_, rfl⟩
            have hbd : Below wr.heap.size wr wd := by rw [← hwd]; exact below_drewNr (below_draws wr q) nq
            rw [hwd]
            have HBD := Lib.hid (HB.out.trans (hbd.mono hsz))
            have HOD := Lib.hid (HO.out.below hbd)
            have hszd := HBD.out.size
            have hcd := (HBD.out.cell (World.block_lt_of_cell? w _ HC.out)).trans HC.out
            have HNK := Lib.hid HOD.out.rns
            clear hwd hbd
            go_wp2_with (at_builtin; refine append_rns rfl (.tmp 31) (.tmp 34) rfl w.heap.size _ [] rfl (ownN_lit wd w.heap.size hszd [] 0 #[] rfl rfl (Nat.zero_le _) (by simp)) (some ⟨g, 0, none⟩) (p + 1) (p + 1) (l.take (p + 1)) rfl (by have := HNK.out; rw [hltk] at this; exact this.below ((Below.refl _ wd).alloc (Nat.le_refl _) _)) ?b2 ?b3 ?_)
            case b2 => simp <;> omega
            case b3 => simp <;> omega
            intro v1 w1 ho1 hg1
            try simp only [List.nil_append] at ho1
            have HB1 := Lib.hid ((HBD.out.alloc hszd (.cells #[] 21)).grown hg1 (by simp <;> omega) (by simp [Value.ownBlock]; exact hszd))
            have HO1 := Lib.hid ho1
            have hc1 := (HB1.out.cell (World.block_lt_of_cell? w _ HC.out)).trans HC.out
            have hsz1 := HB1.out.size
            clear ho1 hg1
            go_wp2_with (at_builtin; refine append_rns rfl (.tmp 36) (.tmp 41) rfl w.heap.size v1 (l.take (p + 1)) rfl (HO1.out.below ((Below.refl _ w1).alloc (Nat.le_refl _) _)) (some ⟨w1.heap.size, 0, none⟩) 1 1 [x] rfl (rns_new w1 x HXI.out) ?c1 ?c2 ?_)
            case c1 => rw [hltk]; (try simp); omega
            case c2 => simp <;> omega
            intro v2 w2 ho2 hg2
            have HB2 := Lib.hid ((HB1.out.alloc hsz1 _).grown hg2 (by simp <;> omega) (fun j hj => (HO1.out.1.lt j hj).1))
            have HO2 := Lib.hid ho2
            have hsz2 := HB2.out.size
            clear ho2 hg2
            go_wp2_with (at_builtin; refine append_rns rfl (.tmp 43) (.tmp 46) rfl w.heap.size v2 (l.take (p + 1) ++ [x]) rfl HO2.out (some ⟨g, 0, none⟩) 0 0 [] rfl (rns_nil _ _ 0 (Nat.zero_le _) (fun e => by cases e)) ?d1 ?d2 ?_)
            case d1 => simp <;> omega
            case d2 => exact hsz2
            intro v3 w3 ho3 hg3
            try rw [List.append_nil] at ho3
            have HB3 := Lib.hid (HB2.out.grown hg3 hsz2 (fun j hj => (HO2.out.1.lt j hj).1))
            have HO3 := Lib.hid ho3
            clear ho3 hg3
            go_wp2
            go_roundw
            case rel => exact ⟨p + 1 + 1, by omega, by go_num, by rw [HSP.out]; exact HO3.out, HB3.out, fun h => absurd h (by omega)⟩
            case measure => simp [intOf]; omega
          · skip
            obtain ⟨wd, hwd⟩ : ∃ wd, (wr.drewN q).drewN nq = wd := ⟨_, rfl⟩
            have hbd : Below wr.heap.size wr wd := by rw [← hwd]; exact below_drewNr (below_draws wr q) nq
            rw [hwd]
            have HBD := Lib.hid (HB.out.trans (hbd.mono hsz))
            have HOD := Lib.hid (HO.out.below hbd)
            have hszd := HBD.out.size
            have hcd := (HBD.out.cell (World.block_lt_of_cell? w _ HC.out)).trans HC.out
            have HNK := Lib.hid HOD.out.rns
            clear hwd hbd
            go_wp2_with (at_builtin; refine append_rns rfl (.tmp 31) (.tmp 34) rfl w.heap.size _ [] rfl (ownN_lit wd w.heap.size hszd [] 0 #[] rfl rfl (Nat.zero_le _) (by simp)) (some ⟨g, 0, none⟩) (p + 1) cs (l.take (p + 1)) rfl (by have := HNK.out; rw [hltk] at this; exact this.below ((Below.refl _ wd).alloc (Nat.le_refl _) _)) ?b2 ?b3 ?_)
            case b2 => simp <;> omega
            case b3 => simp <;> omega
            intro v1 w1 ho1 hg1
            try simp only [List.nil_append] at ho1
            have HB1 := Lib.hid ((HBD.out.alloc hszd (.cells #[] 21)).grown hg1 (by simp <;> omega) (by simp [Value.ownBlock]; exact hszd))
            have HO1 := Lib.hid ho1
            have hc1 := (HB1.out.cell (World.block_lt_of_cell? w _ HC.out)).trans HC.out
            have hsz1 := HB1.out.size
            clear ho1 hg1
            go_wp2_with (at_builtin; refine append_rns rfl (.tmp 36) (.tmp 41) rfl w.heap.size v1 (l.take (p + 1)) rfl (HO1.out.below ((Below.refl _ w1).alloc (Nat.le_refl _) _)) (some ⟨w1.heap.size, 0, none⟩) 1 1 [x] rfl (rns_new w1 x HXI.out) ?c1 ?c2 ?_)
            case c1 => rw [hltk]; (try simp); omega
            case c2 => simp <;> omega
            intro v2 w2 ho2 hg2
            have HB2 := Lib.hid ((HB1.out.alloc hsz1 _).grown hg2 (by simp <;> omega) (fun j hj => (HO1.out.1.lt j hj).1))
            have HO2 := Lib.hid ho2
            have hsz2 := HB2.out.size
            clear ho2 hg2
            go_wp2_with (at_builtin; refine append_rns rfl (.tmp 43) (.tmp 46) rfl w.heap.size v2 (l.take (p + 1) ++ [x]) rfl HO2.out (some ⟨g, p + 1, none⟩) 0 (cs - (p + 1)) [] rfl (rns_nil _ _ _ (by omega) (fun e => by cases e)) ?d1 ?d2 ?_)
            case d1 => simp <;> omega
            case d2 => exact hsz2
            intro v3 w3 ho3 hg3
            try rw [List.append_nil] at ho3
            have HB3 := Lib.hid (HB2.out.grown hg3 hsz2 (fun j hj => (HO2.out.1.lt j hj).1))
            have HO3 := Lib.hid ho3
            clear ho3 hg3
            go_wp2
            go_roundw
            case rel => exact ⟨p + 1 + 1, by omega, by go_num, by rw [HSP.out]; exact HO3.out, HB3.out, fun h => absurd h (by omega)⟩
            case measure => simp [intOf]; omega
    · have e : l.take m = l := List.take_of_length_le (by omega)
      have ho := HO.out
      rw [e] at ho
      have HO' := Lib.hid ho
      clear ho e
      go_wp2
      go_ret
      exact ⟨_, rfl, HO'.out, HB.out⟩

/-- A fresh list of the runes l. -/
def RunesPost (l : List Int) (w : World) (e : Ending) (w' : World) : Prop := ∃ v, e = .returned v ∧ OwnN w' w.heap.size v l ∧ Below w.heap.size w w'
theorem groups_rise : ∀ g ∈ groupsR, RiseN g ∧ g.length ≤ 3 := by unfold groupsR RiseN; decide

theorem find_hit {c : Int} {m : Nat} {g : List Int} (h : groupsR[m]? = some g) (hN : ∀ q ∈ groupsR.take m, c ∉ q) (hc : c ∈ g) : groupsR.find? (fun g => g.contains c) = some g := by
  obtain ⟨hlt, hg⟩ := List.getElem?_eq_some_iff.1 h
  rw [← List.take_append_drop m groupsR, List.find?_append, List.find?_eq_none.2 (fun q hq => by simpa using hN q hq), List.drop_eq_getElem_cons hlt, hg]
  simp [hc]
theorem find_miss {c : Int} (hN : ∀ q ∈ groupsR, c ∉ q) : groupsR.find? (fun g => g.contains c) = none :=
  List.find?_eq_none.2 (fun q hq => by simpa using hN q hq)

set_option maxHeartbeats 1600000 in
set_option maxRecDepth 100000 in
theorem rorbit_any (c : Int) (w : World) (hc : I32 c) : Calls Tryd.prog 14 #[.int .i32 c] w (RunesPost (orbR c) w) := by
  unfold I32 at hc
  go_enter Tryd.func14, Tryd.ntmps14
  by_cases h0 : c < 0
  · have e : orbR c = [] := by unfold orbR; rw [if_pos (.inl h0)]
    rw [e]
    go_wp2
    go_ret
    exact ⟨_, rfl, ownN_none _ _, Below.refl _ _⟩
  by_cases h1 : 1114111 < c
  · have e : orbR c = [] := by unfold orbR; rw [if_pos (.inr h1)]
    rw [e]
    go_wp2
    go_ret
    exact ⟨_, rfl, ownN_none _ _, Below.refl _ _⟩
  have e : orbR c = match groupsR.find? (fun g => g.contains c) with | some g => g | none => if greatB c then [c, c + 32] else if 32 ≤ c ∧ greatB (c - 32) = true then [c - 32, c] else [c] := by
    unfold orbR
    rw [if_neg (by omega)]
  have HE := Lib.hid e
  clear e
  go_wp2_with fail
  refine (rgroups_any w).mono ?_
  rintro e w1 ⟨v, rfl, hL, hB⟩
  have HL := Lib.hid hL; have HB := Lib.hid hB
  obtain ⟨b, cv, rfl, -, -, hu⟩ := hL
  have HU := Lib.hid hu
  clear hB hu
  rw [show groupsR.length = 7 from rfl]
  go_wp2_with fail
  go_loopw [4] (fun i wr => ∃ m : Nat, m ≤ 7 ∧ i = .int .i64 m ∧ wr = w1 ∧ ∀ g ∈ groupsR.take m, c ∉ g) (fun i _ => 7 - (intOf i).toNat)
  case atStart => exact ⟨0, Nat.zero_le _, rfl, rfl, by simp⟩
  case round =>
    obtain ⟨m, hm, rfl, rfl, hN⟩ := hrel
    have HN := Lib.hid hN
    clear hN
    by_cases hlt : m < 7
    · have hlt7 : m < groupsR.length := hlt
      obtain ⟨u, hu, hr⟩ := HU.out m hlt7
      have hgm := groups_rise _ (List.getElem_mem hlt7)
      obtain ⟨g, hg⟩ : ∃ g, groupsR[m] = g := ⟨_, rfl⟩
      rw [hg] at hr hgm
      have HR := Lib.hid hr; have HG := Lib.hid (show groupsR[m]? = some g by rw [List.getElem?_eq_getElem hlt7, hg]); have HGM := Lib.hid hgm
      have hgl := hgm.2
      obtain ⟨a, cg, rfl, -⟩ := hr
      have hmz : (m : Int) < 7 := by omega
      clear hg hgm hlt7
      go_wp2_with fail
      go_loopw [5] (fun i wy => ∃ k : Nat, k ≤ g.length ∧ i = .int .i64 k ∧ wy = wr ∧ c ∉ g.take k) (fun i _ => g.length - (intOf i).toNat)
      case atStart => exact ⟨0, Nat.zero_le _, rfl, rfl, by simp⟩
      case round =>
        obtain ⟨k, hk, rfl, hwy, hNk⟩ := hrel
        subst hwy
        have HNK := Lib.hid hNk
        clear hNk
        by_cases hkl : k < g.length
        · obtain ⟨a', c', e, -, -, -, f5, -⟩ := HR.out
          injection e with e1 e2 e3
          subst e1 e3
          rcases f5 with f5 | ⟨b1, o1, rfl, f6⟩
          · rw [f5] at hkl
            simp at hkl
          have cx := f6 k hkl
          obtain ⟨x, hx⟩ : ∃ x, g[k] = x := ⟨_, rfl⟩
          rw [hx] at cx
          have HX := Lib.hid hx
          clear hx f6
          by_cases hxc : x = c
          · have hcg : c ∈ g := by rw [← hxc, ← HX.out]; exact List.getElem_mem hkl
            have he : orbR c = g := by rw [HE.out, find_hit HG.out HN.out hcg]
            have HO := Lib.hid he
            subst hxc
            clear hcg he
            go_wp2_with fail
            refine (rsorted_any _ g _ HR.out HGM.out.1 (by omega)).mono ?_
            rintro e w2 ⟨v2, rfl, ho, hb⟩
            have H2 := Lib.hid ho; have HB2 := Lib.hid hb
            clear ho hb
            go_wp2_with fail
            go_ret
            exact ⟨_, rfl, by rw [HO.out]; exact H2.out.mono HB.out.size, HB.out.trans (HB2.out.mono HB.out.size)⟩
          · go_wp2_with fail
            go_roundw
            case rel =>
              refine ⟨k + 1, by omega, by go_num, by trivial, ?_⟩
              rw [List.take_succ_eq_append_getElem hkl, HX.out]
              simp only [List.mem_append, List.mem_singleton, not_or]
              exact ⟨HNK.out, fun h => hxc h.symm⟩
            case measure => simp [intOf]; omega
        · have e : g.take k = g := List.take_of_length_le (by omega)
          have hn := HNK.out
          rw [e] at hn
          have HCG := Lib.hid hn
          clear hn e
          go_wp2_with fail
          go_roundw
          case rel =>
            refine ⟨m + 1, by omega, by go_num, by trivial, ?_⟩
            obtain ⟨hl7, hg⟩ := List.getElem?_eq_some_iff.1 HG.out
            rw [List.take_succ_eq_append_getElem hl7, hg]
            intro q hq
            rcases List.mem_append.1 hq with hq | hq
            · exact HN.out q hq
            · have : q = g := by simpa using hq
              rw [this]
              exact HCG.out
          case measure => simp [intOf]; omega
    · have e : groupsR.take m = groupsR := List.take_of_length_le (by show 7 ≤ m; omega)
      have hn := HN.out
      rw [e] at hn
      have he := HE.out
      rw [find_miss hn] at he
      have HO := Lib.hid he
      clear hn e he
      have hms : wr.heap.size = wr.heap.size := rfl
      go_wp2_with fail
      refine (rgreat_any c wr).mono ?_
      rintro e w2 ⟨rfl, hb⟩
      have HB2 := Lib.hid (HB.out.trans (hb.mono HB.out.size))
      have hsz2 := HB2.out.size
      clear hb
      by_cases hg : greatB c = true
      · have hgb := greatB_bound hg
        have he := HO.out
        simp only [hg, if_true] at he
        have HOO := Lib.hid he
        clear he
        rw [hg]
        go_wp2_with fail
        go_ret
        refine ⟨_, rfl, ?_, HB2.out.alloc hsz2 _⟩
        rw [HOO.out]
        exact ownN_lit w2 _ hsz2 [c, c + 32] 2 _ rfl rfl (by unfold maxLen; omega) (by unfold I32; simp; omega)
      · have hgf : greatB c = false := by simpa using hg
        rw [hgf]
        have he := HO.out
        simp only [hgf, Bool.false_eq_true, if_false] at he
        have HOO := Lib.hid he
        clear he
        by_cases h32 : 32 ≤ c
        · go_wp2_with fail
          refine (rgreat_any (c - 32) w2).mono ?_
          rintro e w3 ⟨rfl, hb⟩
          have HB3 := Lib.hid (HB2.out.trans (hb.mono HB2.out.size))
          have hsz3 := HB3.out.size
          clear hb
          by_cases hg2 : greatB (c - 32) = true
          · have he := HOO.out
            simp only [hg2, h32, and_self, if_true] at he
            have HO3 := Lib.hid he
            clear he
            rw [hg2]
            go_wp2_with fail
            go_ret
            refine ⟨_, rfl, ?_, HB3.out.alloc hsz3 _⟩
            rw [HO3.out]
            exact ownN_lit w3 _ hsz3 [c - 32, c] 2 _ rfl rfl (by unfold maxLen; omega) (by unfold I32; simp; omega)
          · have hgf2 : greatB (c - 32) = false := by simpa using hg2
            have he := HOO.out
            simp only [hgf2, Bool.false_eq_true, and_false, if_false] at he
            have HO3 := Lib.hid he
            clear he
            rw [hgf2]
            go_wp2_with fail
            go_ret
            refine ⟨_, rfl, ?_, HB3.out.alloc hsz3 _⟩
            rw [HO3.out]
            exact ownN_lit w3 _ hsz3 [c] 1 _ rfl rfl (by unfold maxLen; omega) (by unfold I32; simp; omega)
        · have he := HOO.out
          simp only [h32, false_and, if_false] at he
          have HO3 := Lib.hid he
          clear he
          go_wp2_with fail
          go_ret
          refine ⟨_, rfl, ?_, HB2.out.alloc hsz2 _⟩
          rw [HO3.out]
          exact ownN_lit w2 _ hsz2 [c] 1 _ rfl rfl (by unfold maxLen; omega) (by unfold I32; simp; omega)
end Go.Proofs.YthfmoodjdokaiaaDoor
