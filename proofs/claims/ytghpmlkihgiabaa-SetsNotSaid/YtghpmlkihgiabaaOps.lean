/- The program's Norm, Union, Meet, Not: fresh rows of the sets that the document asks for. -/
import Derived.Test.YtghpmlkihgiabaaHeld
set_option linter.unusedVariables false
namespace Go.Proofs.Ytghpmlkihgiabaa
open Go Go.RowKit

set_option maxHeartbeats 400000 in
theorem pos_any (n : Int) (W : World) : Calls Try.prog 34 #[.int .i64 n] W fun e w' => e = .returned (.bool (decide (0 < n))) ∧ w' = W := by
  go_enter Try.func34, Try.ntmps34
  by_cases h : 0 < n
  · rw [decide_eq_true h]
    go_wp2
    go_ret
    exact ⟨rfl, rfl⟩
  · rw [decide_eq_false h]
    go_wp2
    go_ret
    exact ⟨rfl, rfl⟩
set_option maxHeartbeats 400000 in
theorem two_any (n : Int) (W : World) : Calls Try.prog 32 #[.int .i64 n] W fun e w' => e = .returned (.bool (n == 2)) ∧ w' = W := by
  go_enter Try.func32, Try.ntmps32
  go_wp2
  go_ret
  exact ⟨rfl, rfl⟩
set_option maxHeartbeats 400000 in
theorem nil_any (n : Int) (W : World) : Calls Try.prog 33 #[.int .i64 n] W fun e w' => e = .returned (.bool (n == 0)) ∧ w' = W := by
  go_enter Try.func33, Try.ntmps33
  go_wp2
  go_ret
  exact ⟨rfl, rfl⟩

theorem endsL_flat : ∀ ls : List (List (Int × Int)), endsL ls = endsR ls.flatten
  | [] => rfl
  | l :: ls => by rw [endsL_cons, List.flatten_cons, endsR_append, endsL_flat ls]
theorem cntE_endsL (ls : List (List (Int × Int))) (c : Int) (h0 : 0 ≤ c) (h1 : c ≤ 1114111) : cntE (endsL ls) c = cntR ls.flatten c := by
  rw [endsL_flat, cntE_endsR _ c h0 h1]
theorem SetPost.iff {P Q : Int → Prop} {w : World} {e : Ending} {w' : World} (h : SetPost P w e w') (hpq : ∀ c, P c ↔ Q c) : SetPost Q w e w' := by
  obtain ⟨v, k, h1, h2, h3, h4, h5⟩ := h
  exact ⟨v, k, h1, h2, h3, fun c => (h4 c).trans (hpq c), h5⟩
theorem SetPost.later {P : Int → Prop} {w0 w : World} {e : Ending} {w' : World} (h : SetPost P w e w') (hb : Below w0.heap.size w0 w) : SetPost P w0 e w' := by
  obtain ⟨v, k, h1, h2, h3, h4, h5⟩ := h
  exact ⟨v, k, h1, h2.mono hb.size, h3, h4, hb.trans (h5.mono hb.size)⟩
theorem addr_add (g j : Nat) : (⟨g, 0, none⟩ : Addr).add j = ⟨g, j, none⟩ := by unfold Addr.add; split <;> simp_all
theorem lss_one {w : World} {u : Value} {l : List (Int × Int)} (h : Rgs w u l) (t : TypeId) : Lss (w.alloc (.cells #[u] t)) (.slice (some ⟨w.heap.size, 0, none⟩) 1 1) [l] := by
  have hb : Below w.heap.size w (w.alloc (.cells #[u] t)) := (Below.refl _ _).alloc (Nat.le_refl _) _
  refine ⟨w.heap.size, 0, 1, rfl, by simp, by unfold maxLen; omega, fun i hi => ?_⟩
  have : i = 0 := by simpa using hi
  subst this
  exact ⟨u, by simp, h.below hb⟩
theorem lss_two {w : World} {u v : Value} {l k : List (Int × Int)} (h : Rgs w u l) (g : Rgs w v k) (t : TypeId) : Lss (w.alloc (.cells #[u, v] t)) (.slice (some ⟨w.heap.size, 0, none⟩) 2 2) [l, k] := by
  have hb : Below w.heap.size w (w.alloc (.cells #[u, v] t)) := (Below.refl _ _).alloc (Nat.le_refl _) _
  refine ⟨w.heap.size, 0, 2, rfl, by simp, by unfold maxLen; omega, fun i hi => ?_⟩
  have : i = 0 ∨ i = 1 := by simp at hi; omega
  rcases this with rfl | rfl
  · exact ⟨u, by simp, h.below hb⟩
  · exact ⟨v, by simp, g.below hb⟩

set_option maxHeartbeats 800000 in
set_option maxRecDepth 100000 in
theorem united_any (v : Value) (ls : List (List (Int × Int))) (w : World) (h : Lss w v ls) (htot : totL ls ≤ 536870912) :
    Calls Try.prog 30 #[v] w (SetPost (HasR ls.flatten) w) := by
  have hh := held_any 34 (fun n => decide (0 < n)) (enters_of Try.func34 (by kernel_rfl) rfl) pos_any v ls w h htot
  have hq : ∀ c, (0 ≤ c ∧ c ≤ 1114111 ∧ (fun n => decide (0 < n)) (cntE (endsL ls) c) = true) ↔ HasR ls.flatten c := fun c => by
    constructor
    · rintro ⟨h0, h1, h2⟩
      rw [cntE_endsL ls c h0 h1] at h2
      exact (has_cnt _ c h0 h1).2 (of_decide_eq_true h2)
    · intro hc
      have h0 := hc.1
      have h1 := hc.2.1
      refine ⟨h0, h1, ?_⟩
      rw [cntE_endsL ls c h0 h1]
      exact decide_eq_true ((has_cnt _ c h0 h1).1 hc)
  obtain ⟨b, o, c, rfl, -⟩ := h
  go_enter Try.func30, Try.ntmps30
  go_wp2_with (go_at_call 31; refine hh.mono ?_; rintro e w' hp; obtain ⟨v2, k, rfl, hO, hR, hP, hB⟩ := hp)
  go_ret
  exact ⟨v2, k, rfl, hO, hR, fun c => (hP c).trans (hq c), hB⟩

set_option maxHeartbeats 800000 in
set_option maxRecDepth 100000 in
theorem norm_any (v : Value) (l : List (Int × Int)) (w : World) (h : Rgs w v l) (hn : l.length ≤ 134217728) :
    Calls Try.prog 20 #[v] w (SetPost (HasR l) w) := by
  have hl := lss_one h 22
  have hu := united_any _ [l] _ hl (by simp [totL]; omega)
  have hb : Below w.heap.size w (w.alloc (.cells #[v] 22)) := (Below.refl _ _).alloc (Nat.le_refl _) _
  have HU := Lib.hid hu; have HB := Lib.hid hb
  obtain ⟨a, c, rfl, -⟩ := h
  clear hu hb hl
  go_enter Try.func20, Try.ntmps20
  go_wp2_with (go_at_call 30; refine HU.out.mono ?_; rintro e w' hp; have hp := (hp.later HB.out).iff (Q := HasR l) (fun c => by simp); obtain ⟨v2, k, rfl, hO, hR, hP, hB⟩ := hp)
  go_ret
  exact ⟨v2, k, rfl, hO, hR, hP, hB⟩

set_option maxHeartbeats 800000 in
set_option maxRecDepth 100000 in
theorem union_any (va vb : Value) (a b : List (Int × Int)) (w : World) (ha : Rgs w va a) (hb : Rgs w vb b) (hna : a.length ≤ 134217728) (hnb : b.length ≤ 134217728) :
    Calls Try.prog 22 #[va, vb] w (SetPost (fun c => HasR a c ∨ HasR b c) w) := by
  have hl := lss_two ha hb 22
  have hu := united_any _ [a, b] _ hl (by simp [totL]; omega)
  have hbl : Below w.heap.size w (w.alloc (.cells #[va, vb] 22)) := (Below.refl _ _).alloc (Nat.le_refl _) _
  have HU := Lib.hid hu; have HB := Lib.hid hbl
  obtain ⟨a1, c1, rfl, -⟩ := ha
  obtain ⟨a2, c2, rfl, -⟩ := hb
  clear hu hbl hl
  go_enter Try.func22, Try.ntmps22
  go_wp2_with (go_at_call 30; refine HU.out.mono ?_; rintro e w' hp; have hp := (hp.later HB.out).iff (Q := fun c => HasR a c ∨ HasR b c) (fun c => by simp [has_append]); obtain ⟨v2, k, rfl, hO, hR, hP, hB⟩ := hp)
  go_ret
  exact ⟨v2, k, rfl, hO, hR, hP, hB⟩

set_option maxHeartbeats 800000 in
set_option maxRecDepth 100000 in
theorem not_any (v : Value) (l : List (Int × Int)) (w : World) (h : Rgs w v l) (hn : l.length ≤ 134217728) :
    Calls Try.prog 26 #[v] w (SetPost (fun c => 0 ≤ c ∧ c ≤ 1114111 ∧ ¬ HasR l c) w) := by
  have hl := lss_one h 22
  have hu := held_any 33 (fun n => n == 0) (enters_of Try.func33 (by kernel_rfl) rfl) nil_any _ [l] _ hl (by simp [totL]; omega)
  have hb : Below w.heap.size w (w.alloc (.cells #[v] 22)) := (Below.refl _ _).alloc (Nat.le_refl _) _
  have hq : ∀ c, (0 ≤ c ∧ c ≤ 1114111 ∧ (fun n : Int => n == 0) (cntE (endsL [l]) c) = true) ↔ 0 ≤ c ∧ c ≤ 1114111 ∧ ¬ HasR l c := fun c => by
    constructor
    · rintro ⟨h0, h1, h2⟩
      rw [cntE_endsL _ c h0 h1] at h2
      simp only [List.flatten_cons, List.flatten_nil, List.append_nil, beq_iff_eq] at h2
      refine ⟨h0, h1, fun h => ?_⟩
      have := (has_cnt _ c h0 h1).1 h
      omega
    · rintro ⟨h0, h1, h2⟩
      refine ⟨h0, h1, ?_⟩
      rw [cntE_endsL _ c h0 h1]
      simp only [List.flatten_cons, List.flatten_nil, List.append_nil, beq_iff_eq]
      have h3 := cnt_nonneg l c
      have h4 : ¬ 0 < cntR l c := fun h => h2 ((has_cnt _ c h0 h1).2 h)
      omega
  have HU := Lib.hid hu; have HB := Lib.hid hb; have HQ := Lib.hid hq
  obtain ⟨a, c, rfl, -⟩ := h
  clear hu hb hl hq
  go_enter Try.func26, Try.ntmps26
  go_wp2_with (go_at_call 31; refine HU.out.mono ?_; rintro e w' hp; have hp := (SetPost.later hp HB.out).iff HQ.out; obtain ⟨v2, k, rfl, hO, hR, hP, hB⟩ := hp)
  go_ret
  exact ⟨v2, k, rfl, hO, hR, hP, hB⟩

set_option maxHeartbeats 800000 in
set_option maxRecDepth 100000 in
theorem meet_any (va vb : Value) (a b : List (Int × Int)) (w : World) (ha : Rgs w va a) (hb : Rgs w vb b) (hna : a.length ≤ 134217728) (hnb : b.length ≤ 134217728) :
    Calls Try.prog 24 #[va, vb] w (SetPost (fun c => HasR a c ∧ HasR b c) w) := by
  have hl := lss_one ha 22
  have hu := united_any _ [a] _ hl (by simp [totL]; omega)
  have hbl : Below w.heap.size w (w.alloc (.cells #[va] 22)) := (Below.refl _ _).alloc (Nat.le_refl _) _
  have HU := Lib.hid hu; have HB := Lib.hid hbl; have HBB := Lib.hid hb
  obtain ⟨a1, c1, rfl, -⟩ := ha
  obtain ⟨a2, c2, rfl, -⟩ := hb
  clear hu hbl hl
  go_enter Try.func24, Try.ntmps24
  go_wp2_with fail
  refine HU.out.mono ?_
  rintro e w1 hp
  have hp := (hp.later HB.out).iff (Q := HasR a) (fun c => by simp)
  obtain ⟨v1, K, rfl, hO1, hR1, hP1, hB1⟩ := hp
  have hx := HBB.out.below hB1
  have hl2 := lss_one hx 22
  have hu2 := united_any _ [b] _ hl2 (by simp [totL]; omega)
  have hb2 : Below w1.heap.size w1 (w1.alloc (.cells #[.slice a2 b.length c2] 22)) := (Below.refl _ _).alloc (Nat.le_refl _) _
  have HO1 := Lib.hid hO1; have HR1 := Lib.hid hR1; have HP1 := Lib.hid hP1; have HB1 := Lib.hid hB1; have HU2 := Lib.hid hu2; have HB2 := Lib.hid hb2
  clear hO1 hR1 hP1 hB1 hx hl2 hu2 hb2
  go_wp2_with fail
  refine HU2.out.mono ?_
  rintro e w2 hp
  have hp := (hp.later HB2.out).iff (Q := HasR b) (fun c => by simp)
  obtain ⟨v2, M, rfl, hO2, hR2, hP2, hB2⟩ := hp
  have l1 := right_len K 0 (by omega) HR1.out
  have l2 := right_len M 0 (by omega) hR2
  have hl3 := lss_two (HO1.out.below hB2).rgs hO2.rgs 22
  have hu3 := held_any 32 (fun n => n == 2) (enters_of Try.func32 (by kernel_rfl) rfl) two_any _ [K, M] _ hl3 (by simp [totL]; omega)
  have hb3 : Below w2.heap.size w2 (w2.alloc (.cells #[v1, v2] 22)) := (Below.refl _ _).alloc (Nat.le_refl _) _
  have HT := Lib.hid (HB1.out.trans ((hB2.trans (hb3.mono hB2.size)).mono HB1.out.size))
  have hq : ∀ c, (0 ≤ c ∧ c ≤ 1114111 ∧ (fun n : Int => n == 2) (cntE (endsL [K, M]) c) = true) ↔ HasR a c ∧ HasR b c := fun c => by
    have k1 := cnt_right K 0 c HR1.out
    have k2 := cnt_right M 0 c hR2
    constructor
    · rintro ⟨h0, h1, h2⟩
      rw [cntE_endsL _ c h0 h1] at h2
      simp only [List.flatten_cons, List.flatten_nil, List.append_nil, cntR_append, beq_iff_eq] at h2
      exact ⟨(HP1.out c).1 ((has_cnt _ c h0 h1).2 (by omega)), (hP2 c).1 ((has_cnt _ c h0 h1).2 (by omega))⟩
    · rintro ⟨h1, h2⟩
      have h3 := (HP1.out c).2 h1
      have h4 := (hP2 c).2 h2
      have h5 := h3.1
      have h6 := h3.2.1
      refine ⟨h5, h6, ?_⟩
      rw [cntE_endsL _ c h5 h6]
      simp only [List.flatten_cons, List.flatten_nil, List.append_nil, cntR_append, beq_iff_eq]
      have h7 := (has_cnt _ c h5 h6).1 h3
      have h8 := (has_cnt _ c h5 h6).1 h4
      omega
  have HU3 := Lib.hid hu3; have HQ := Lib.hid hq
  obtain ⟨A1, C1, rfl, -⟩ := HO1.out.rgs
  obtain ⟨A2, C2, rfl, -⟩ := hO2.rgs
  clear hO2 hR2 hP2 hB2 hl3 hu3 hb3 hq
  go_wp2_with fail
  refine HU3.out.mono ?_
  rintro e w3 hp
  have hp := (SetPost.later hp HT.out).iff HQ.out
  obtain ⟨v3, N, rfl, hO3, hR3, hP3, hB3⟩ := hp
  go_wp2_with fail
  go_ret
  exact ⟨v3, N, rfl, hO3, hR3, hP3, hB3⟩
end Go.Proofs.Ytghpmlkihgiabaa
