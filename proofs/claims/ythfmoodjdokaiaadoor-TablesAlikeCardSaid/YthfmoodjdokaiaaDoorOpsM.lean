/- The program's Meet: a fresh row of the set of the runes that both of two lists have. -/
import Derived.Test.YthfmoodjdokaiaaDoorOps
set_option linter.unusedVariables false
namespace Go.Proofs.YthfmoodjdokaiaaDoor
open Go Go.RowKit

set_option maxHeartbeats 400000 in
theorem two_any (n : Int) (W : World) : Calls Tryd.prog 37 #[.int .i64 n] W fun e w' => e = .returned (.bool (n == 2)) ∧ w' = W := by
  go_enter Tryd.func37, Tryd.ntmps37
  go_wp2
  go_ret
  exact ⟨rfl, rfl⟩
set_option maxHeartbeats 800000 in
set_option maxRecDepth 100000 in
theorem meet_any (va vb : Value) (a b : List (Int × Int)) (w : World) (ha : Rgs w va a) (hb : Rgs w vb b) (hna : a.length ≤ 134217728) (hnb : b.length ≤ 134217728) :
    Calls Tryd.prog 29 #[va, vb] w (SetPost (fun c => HasR a c ∧ HasR b c) w) := by
  have hl := lss_one ha 23
  have hu := united_any _ [a] _ hl (by simp [totL]; omega)
  have hbl : Below w.heap.size w (w.alloc (.cells #[va] 23)) := (Below.refl _ _).alloc (Nat.le_refl _) _
  have HU := Lib.hid hu; have HB := Lib.hid hbl; have HBB := Lib.hid hb
  obtain ⟨a1, c1, rfl, -⟩ := ha
  obtain ⟨a2, c2, rfl, -⟩ := hb
  clear hu hbl hl
  go_enter Tryd.func29, Tryd.ntmps29
  go_wp2_with fail
  refine HU.out.mono ?_
  rintro e w1 hp
  have hp := (hp.later HB.out).iff (Q := HasR a) (fun c => by simp)
  obtain ⟨v1, K, rfl, hO1, hR1, hP1, hB1⟩ := hp
  have hx := HBB.out.below hB1
  have hl2 := lss_one hx 23
  have hu2 := united_any _ [b] _ hl2 (by simp [totL]; omega)
  have hb2 : Below w1.heap.size w1 (w1.alloc (.cells #[.slice a2 b.length c2] 23)) := (Below.refl _ _).alloc (Nat.le_refl _) _
  have HO1 := Lib.hid hO1; have HR1 := Lib.hid hR1; have HP1 := Lib.hid hP1; have HB1 := Lib.hid hB1; have HU2 := Lib.hid hu2; have HB2 := Lib.hid hb2
  clear hO1 hR1 hP1 hB1 hx hl2 hu2 hb2
  go_wp2_with fail
  refine HU2.out.mono ?_
  rintro e w2 hp
  have hp := (hp.later HB2.out).iff (Q := HasR b) (fun c => by simp)
  obtain ⟨v2, M, rfl, hO2, hR2, hP2, hB2⟩ := hp
  have l1 := right_len K 0 (by omega) HR1.out
  have l2 := right_len M 0 (by omega) hR2
  have hl3 := lss_two (HO1.out.below hB2).rgs hO2.rgs 23
  have hu3 := held_any 37 (fun n => n == 2) (enters_of Tryd.func37 (by kernel_rfl) rfl) two_any _ [K, M] _ hl3 (by simp [totL]; omega)
  have hb3 : Below w2.heap.size w2 (w2.alloc (.cells #[v1, v2] 23)) := (Below.refl _ _).alloc (Nat.le_refl _) _
  have HT := Lib.hid (HB1.out.trans ((hB2.trans (hb3.mono hB2.size)).mono HB1.out.size))
  have hq : ∀ c, (0 ≤ c ∧ c ≤ 1114111 ∧ (fun n : Int => n == 2) (cntE (endsL [K, M]) c) = true) ↔ HasR a c ∧ HasR b c := fun c => by
    have k1 := cnt_right K 0 c HR1.out
    have k2 := cnt_right M 0 c hR2
    constructor
    · rintro ⟨h0, h1, h2⟩
      rw [cntE_endsL _ c h0 h1] at h2
      simp only [List.flatten_cons, List.flatten_nil, List.append_nil, cntR_append, beq_iff_eq] at h2
      exact ⟨(HP1.out c).1 ((has_cnt _ c h0 h1).2 (by omega)), (hP2 c).1 ((has_cnt _ c h0 h1).2 (by omega))⟩
    · rintro ⟨h1, h2⟩
      have h3 := (HP1.out c).2 h1
      have h4 := (hP2 c).2 h2
      have h5 := h3.1
      have h6 := h3.2.1
      refine ⟨h5, h6, ?_⟩
      rw [cntE_endsL _ c h5 h6]
      simp only [List.flatten_cons, List.flatten_nil, List.append_nil, cntR_append, beq_iff_eq]
      have h7 := (has_cnt _ c h5 h6).1 h3
      have h8 := (has_cnt _ c h5 h6).1 h4
      omega
  have HU3 := Lib.hid hu3; have HQ := Lib.hid hq
  obtain ⟨A1, C1, rfl, -⟩ := HO1.out.rgs
  obtain ⟨A2, C2, rfl, -⟩ := hO2.rgs
  clear hO2 hR2 hP2 hB2 hl3 hu3 hb3 hq
  go_wp2_with fail
  refine HU3.out.mono ?_
  rintro e w3 hp
  have hp := (SetPost.later hp HT.out).iff HQ.out
  obtain ⟨v3, N, rfl, hO3, hR3, hP3, hB3⟩ := hp
  go_wp2_with fail
  go_ret
  exact ⟨v3, N, rfl, hO3, hR3, hP3, hB3⟩
end Go.Proofs.YthfmoodjdokaiaaDoor
