/- The document's Union, Not, Meet: fresh rows of sets. -/
import Derived.Test.YtghpmlkihgiabaaNorm
set_option linter.unusedVariables false
namespace Go.Proofs.Ytghpmlkihgiabaa
open Go Go.RowKit

set_option maxHeartbeats 800000 in
set_option maxRecDepth 100000 in
theorem runion_any (va vb : Value) (a b : List (Int × Int)) (w : World) (ha : Rgs w va a) (hb : Rgs w vb b) (hn : a.length + b.length ≤ 1099511627776) :
    Calls Try.prog 23 #[va, vb] w (SetPost (fun c => HasR a c ∨ HasR b c) w) := by
  have HA := Lib.hid ha; have HB := Lib.hid hb
  obtain ⟨A, ca, rfl, -⟩ := ha
  obtain ⟨B, cb, rfl, -⟩ := hb
  go_enter Try.func23, Try.ntmps23
  go_wp2_with (at_builtin; refine append_rgs rfl (.tmp 5) (.tmp 6) rfl w.heap.size _ [] rfl (own_lit' w w.heap.size w.heap.size rfl (Nat.le_refl _)) A a.length ca a rfl (HA.out.below ((Below.refl _ w).alloc (Nat.le_refl _) _)) ?b2 ?b3 ?_)
  case b2 => simp <;> omega
  case b3 => simp
  intro v1 w1 ho1 hg1
  try simp only [List.nil_append] at ho1
  have HB1 := Lib.hid (((Below.refl _ w).alloc (Nat.le_refl _) (.cells #[] 33)).grown hg1 (by simp) (by simp [Value.ownBlock]))
  have HO1 := Lib.hid ho1
  clear ho1 hg1
  go_wp2_with (at_builtin; refine append_rgs rfl (.tmp 7) (.tmp 8) rfl w.heap.size v1 a rfl HO1.out B b.length cb b rfl (HB.out.below HB1.out) ?c2 ?c3 ?_)
  case c2 => omega
  case c3 => exact HB1.out.size
  intro v2 w2 ho2 hg2
  have HB2 := Lib.hid (HB1.out.grown hg2 HB1.out.size (fun j hj => (HO1.out.1.lt j hj).1))
  have HO2 := Lib.hid ho2
  clear ho2 hg2
  go_wp2_with fail
  refine (rnorm_any v2 (a ++ b) w2 HO2.out.rgs (by simp; omega)).mono ?_
  rintro e w3 ⟨v3, k, rfl, hO, hR, hP, hB3⟩
  have HO3 := Lib.hid hO; have HR := Lib.hid hR; have HP := Lib.hid hP; have HB3 := Lib.hid hB3
  clear hO hR hP hB3
  go_wp2
  go_ret
  exact ⟨_, k, rfl, HO3.out.mono HB2.out.size, HR.out, fun c => by rw [HP.out, has_append], HB2.out.trans (HB3.out.mono HB2.out.size)⟩

/-- What Not has made behind k ranges. -/
def Loop3 (w1 : World) (K : List (Int × Int)) (k : Nat) (vo : Value) (f : Int) (wz : World) : Prop :=
  ∃ O, OwnR wz w1.heap.size vo O ∧ O ++ notFrom f (K.drop k) = notFrom 0 K ∧ RightFrom f (K.drop k) ∧ 0 ≤ f ∧ f ≤ 1114112 ∧ O.length ≤ k ∧ Below w1.heap.size w1 wz

set_option maxHeartbeats 1600000 in
set_option maxRecDepth 100000 in
theorem rnot_any (v : Value) (l : List (Int × Int)) (w : World) (h : Rgs w v l) (hn : l.length ≤ 1099511627776) :
    Calls Try.prog 27 #[v] w (SetPost (fun c => 0 ≤ c ∧ c ≤ 1114111 ∧ ¬ HasR l c) w) := by
  have HN := Lib.hid (rnorm_any v l w h hn)
  go_enter Try.func27, Try.ntmps27
  go_wp2_with fail
  refine HN.out.mono ?_
  rintro e w1 ⟨v1, K, rfl, hO, hR, hP, hB⟩
  have HO := Lib.hid hO; have HR := Lib.hid hR; have HP := Lib.hid hP; have HB := Lib.hid hB
  have hKl := right_len K 0 (by omega) hR
  clear hO hR hP hB h
  have HRG := Lib.hid HO.out.rgs
  obtain ⟨A, cA, hv1, hc1, hc2, -⟩ := HO.out.rgs
  subst hv1
  go_wp2_with fail
  go_loopw [4, 5, 6] (fun vo vf i wz => ∃ k : Nat, k ≤ K.length ∧ i = .int .i64 k ∧ ∃ f : Int, vf = .int .i32 f ∧ Loop3 w1 K k vo f wz) (fun _ _ i _ => K.length - (intOf i).toNat)
  case atStart => exact ⟨0, Nat.zero_le _, rfl, 0, rfl, [], own_none _ _, by simp, by rw [List.drop_zero]; exact HR.out, by omega, by omega, Nat.le_refl _, Below.refl _ _⟩
  case round =>
    obtain ⟨k, hk, rfl, f, rfl, O, hOO, hEq, hRf, hf0, hf1, hOk, hBz⟩ := hrel
    have HOO := Lib.hid hOO; have HEQ := Lib.hid hEq; have HRF := Lib.hid hRf; have HBZ := Lib.hid hBz
    clear hOO hEq hRf hBz
    by_cases hkl : k < K.length
    · obtain ⟨a1, cq, e, q2, q3, q4, q5, q6⟩ := HRG.out
      injection e with e1 e2 e3
      subst e1 e3
      rcases q5 with q5 | ⟨b, o, rfl, hc⟩
      · rw [q5] at hkl
        simp at hkl
      obtain ⟨x1, x2, hx, hsp, w1c, w2c⟩ := rgs_at hc k hkl
      have c1 := (HBZ.out.cell (World.block_lt_of_cell? w1 _ w1c)).trans w1c
      have c2 := (HBZ.out.cell (World.block_lt_of_cell? w1 _ w2c)).trans w2c
      have hdr : K.drop k = (x1, x2) :: K.drop (k + 1) := by
        rw [List.drop_eq_getElem_cons hkl]
        rw [List.getElem?_eq_getElem hkl] at hx
        rw [Option.some.inj hx]
      have hrf := HRF.out
      rw [hdr] at hrf
      obtain ⟨r1, r2, r3, r4⟩ := hrf
      have r1' : f ≤ x1 := r1
      have r2' : x1 ≤ x2 := r2
      have r3' : x2 ≤ 1114111 := r3
      have hq := HEQ.out
      rw [hdr] at hq
      have HQ := Lib.hid hq; have HR4 := Lib.hid (r4.le (lo' := x2 + 1) (by show x2 + 1 ≤ x2 + 2; omega)); have HW2 := Lib.hid w2c
      clear hx hsp hc hdr hq r4 q6 r1 r2 r3 w1c w2c
      by_cases hfx : f < x1
      · go_wp2_with (at_builtin; refine append_rgs rfl (.tmp 22) (.tmp 31) rfl w1.heap.size _ O rfl (HOO.out.below ((Below.refl _ _).alloc (Nat.le_refl _) _)) (some ⟨wr.heap.size, 0, none⟩) 1 1 [(f, x1 - 1)] rfl (rgs_new wr f (x1 - 1) (by unfold I32; omega) (by unfold I32; omega)) ?c3 ?c4 ?_)
        case c3 => (try simp); omega
        case c4 => (have := HBZ.out.size; (try simp); omega)
        intro v3 w3 ho3 hg3
        have HB3 := Lib.hid ((HBZ.out.alloc HBZ.out.size _).grown hg3 (by have := HBZ.out.size; simp; omega) (fun j hj => (HOO.out.1.lt j hj).1))
        have d2 := (HB3.out.cell (World.block_lt_of_cell? w1 _ HW2.out)).trans HW2.out
        have HO3 := Lib.hid ho3
        clear hg3 ho3 c1 c2
        go_wp2
        go_roundw
        case rel =>
          refine ⟨k + 1, by omega, by go_num, x2 + 1, rfl, O ++ [(f, x1 - 1)], HO3.out, ?_, HR4.out, by omega, by omega, by simp; omega, HB3.out⟩
          rw [← HQ.out, List.append_assoc]
          congr 1
          show _ = (if f < x1 then [(f, x1 - 1)] else []) ++ notFrom (x2 + 1) (K.drop (k + 1))
          rw [if_pos hfx]
        case measure => simp [intOf]; omega
      · go_wp2
        go_roundw
        case rel =>
          refine ⟨k + 1, by omega, by go_num, x2 + 1, rfl, O, HOO.out, ?_, HR4.out, by omega, by omega, by omega, HBZ.out⟩
          rw [← HQ.out]
          congr 1
          show _ = (if f < x1 then [(f, x1 - 1)] else []) ++ notFrom (x2 + 1) (K.drop (k + 1))
          rw [if_neg hfx, List.nil_append]
        case measure => simp [intOf]; omega
    · have hkn : K.drop k = [] := List.drop_eq_nil_of_le (by omega)
      have hq := HEQ.out
      rw [hkn] at hq
      have HQ := Lib.hid hq
      have hall : ∀ c, HasR (notFrom 0 K) c ↔ 0 ≤ c ∧ c ≤ 1114111 ∧ ¬ HasR l c := fun c => by rw [not_has K 0 c (Int.le_refl _) HR.out, HP.out]
      have hrn : RightR (notFrom 0 K) := not_right K 0 HR.out
      have HALL := Lib.hid hall; have HRN := Lib.hid hrn
      clear hkn hq hall hrn
      by_cases hfx : f ≤ 1114111
      · go_wp2_with (at_builtin; refine append_rgs rfl (.tmp 41) (.tmp 44) rfl w1.heap.size _ O rfl (HOO.out.below ((Below.refl _ _).alloc (Nat.le_refl _) _)) (some ⟨wr.heap.size, 0, none⟩) 1 1 [(f, 1114111)] rfl (rgs_new wr f 1114111 (by unfold I32; omega) (by unfold I32; omega)) ?c3 ?c4 ?_)
        case c3 => (try simp); omega
        case c4 => (have := HBZ.out.size; (try simp); omega)
        intro v3 w3 ho3 hg3
        have HB3 := Lib.hid ((HBZ.out.alloc HBZ.out.size _).grown hg3 (by have := HBZ.out.size; simp; omega) (fun j hj => (HOO.out.1.lt j hj).1))
        have HO3 := Lib.hid ho3
        clear hg3 ho3
        have he : O ++ [(f, 1114111)] = notFrom 0 K := by
          rw [← HQ.out]
          congr 1
          show _ = if f ≤ 1114111 then [(f, 1114111)] else []
          rw [if_pos hfx]
        have HE := Lib.hid he
        clear he
        go_wp2
        go_ret
        exact ⟨_, notFrom 0 K, rfl, (HE.out ▸ HO3.out).mono HB.out.size, HRN.out, HALL.out, HB.out.trans (HB3.out.mono HB.out.size)⟩
      · have he : O = notFrom 0 K := by
          rw [← HQ.out]
          show _ = O ++ (if f ≤ 1114111 then [(f, 1114111)] else [])
          rw [if_neg hfx, List.append_nil]
        have HE := Lib.hid he
        clear he
        go_wp2
        go_ret
        exact ⟨_, notFrom 0 K, rfl, (HE.out ▸ HOO.out).mono HB.out.size, HRN.out, HALL.out, HB.out.trans (HBZ.out.mono HB.out.size)⟩

set_option maxHeartbeats 800000 in
set_option maxRecDepth 100000 in
theorem rmeet_any (va vb : Value) (a b : List (Int × Int)) (w : World) (ha : Rgs w va a) (hb : Rgs w vb b) (hna : a.length ≤ 1099511627776) (hnb : b.length ≤ 1099511627776) :
    Calls Try.prog 25 #[va, vb] w (SetPost (fun c => HasR a c ∧ HasR b c) w) := by
  have HA := Lib.hid (rnot_any va a w ha hna)
  have HB := Lib.hid hb
  go_enter Try.func25, Try.ntmps25
  go_wp2_with fail
  refine HA.out.mono ?_
  rintro e w1 ⟨v1, K, rfl, hO, hR, hP, hB1⟩
  have HO1 := Lib.hid hO; have HR1 := Lib.hid hR; have HP1 := Lib.hid hP; have HB1 := Lib.hid hB1
  clear hO hR hP hB1 ha hb
  go_wp2_with fail
  refine (rnot_any vb b w1 (HB.out.below HB1.out) hnb).mono ?_
  rintro e w2 ⟨v2, M, rfl, hO, hR, hP, hB2⟩
  have HO2 := Lib.hid hO; have HR2 := Lib.hid hR; have HP2 := Lib.hid hP; have HB2 := Lib.hid hB2
  clear hO hR hP hB2
  have l1 := right_len K 0 (by omega) HR1.out
  have l2 := right_len M 0 (by omega) HR2.out
  go_wp2_with fail
  refine (runion_any v1 v2 K M w2 (HO1.out.below HB2.out).rgs HO2.out.rgs (by omega)).mono ?_
  rintro e w3 ⟨v3, U, rfl, hO, hR, hP, hB3⟩
  have HO3 := Lib.hid hO; have HR3 := Lib.hid hR; have HP3 := Lib.hid hP; have HB3 := Lib.hid hB3
  clear hO hR hP hB3
  have l3 := right_len U 0 (by omega) HR3.out
  go_wp2_with fail
  refine (rnot_any v3 U w3 HO3.out.rgs (by omega)).mono ?_
  rintro e w4 ⟨v4, N, rfl, hO, hR, hP, hB4⟩
  have HO4 := Lib.hid hO; have HR4 := Lib.hid hR; have HP4 := Lib.hid hP; have HB4 := Lib.hid hB4
  clear hO hR hP hB4
  have HT := Lib.hid (HB1.out.trans ((HB2.out.trans (HB3.out.mono HB2.out.size)).mono HB1.out.size))
  go_wp2
  go_ret
  refine ⟨_, N, rfl, HO4.out.mono HT.out.size, HR4.out, fun c => ?_, HT.out.trans (HB4.out.mono HT.out.size)⟩
  rw [HP4.out, HP3.out, HP1.out, HP2.out]
  constructor
  · rintro ⟨h1, h2, h3⟩
    exact ⟨Classical.byContradiction fun h => h3 (.inl ⟨h1, h2, h⟩), Classical.byContradiction fun h => h3 (.inr ⟨h1, h2, h⟩)⟩
  · rintro ⟨h1, h2⟩
    refine ⟨h1.1, h1.2.1, ?_⟩
    rintro (⟨_, _, h⟩ | ⟨_, _, h⟩)
    · exact h h1
    · exact h h2
end Go.Proofs.Ytghpmlkihgiabaa
