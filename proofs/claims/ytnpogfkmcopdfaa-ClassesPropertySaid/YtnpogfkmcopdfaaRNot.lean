/- The document's Not: a fresh row of a set. -/
import Derived.Test.YtnpogfkmcopdfaaNorm
set_option linter.unusedVariables false
namespace Go.Proofs.Ytnpogfkmcopdfaa
open Go Go.RowKit

/-- What Not has made behind k ranges. -/
def Loop3 (w1 : World) (K : List (Int × Int)) (k : Nat) (vo : Value) (f : Int) (wz : World) : Prop :=
  ∃ O, OwnR wz w1.heap.size vo O ∧ O ++ notFrom f (K.drop k) = notFrom 0 K ∧ RightFrom f (K.drop k) ∧ 0 ≤ f ∧ f ≤ 1114112 ∧ O.length ≤ k ∧ Below w1.heap.size w1 wz

set_option maxHeartbeats 1600000 in
set_option maxRecDepth 100000 in
theorem rnot_any (v : Value) (l : List (Int × Int)) (w : World) (h : Rgs w v l) (hn : l.length ≤ 1099511627776) :
    Calls Try.prog 23 #[v] w (SetPost (fun c => 0 ≤ c ∧ c ≤ 1114111 ∧ ¬ HasR l c) w) := by
  have HN := Lib.hid (rnorm_any v l w h hn)
  go_enter Try.func23, Try.ntmps23
  go_wp2_with fail
  refine HN.out.mono ?_
  rintro e w1 ⟨v1, K, rfl, hO, hR, hP, hB⟩
  have HO := Lib.hid hO; have HR := Lib.hid hR; have HP := Lib.hid hP; have HB := Lib.hid hB
  have hKl := right_len K 0 (by omega) hR
  clear hO hR hP hB h
  have HRG := Lib.hid HO.out.rgs
  obtain ⟨A, cA, hv1, hc1, hc2, -⟩ := HO.out.rgs
  subst hv1
  go_wp2_with fail
  go_loopw [4, 5, 6] (fun vo vf i wz => ∃ k : Nat, k ≤ K.length ∧ i = .int .i64 k ∧ ∃ f : Int, vf = .int .i32 f ∧ Loop3 w1 K k vo f wz) (fun _ _ i _ => K.length - (intOf i).toNat)
  case atStart => exact ⟨0, Nat.zero_le _, rfl, 0, rfl, [], own_none _ _, by simp, by rw [List.drop_zero]; exact HR.out, by omega, by omega, Nat.le_refl _, Below.refl _ _⟩
  case round =>
    obtain ⟨k, hk, rfl, f, rfl, O, hOO, hEq, hRf, hf0, hf1, hOk, hBz⟩ := hrel
    have HOO := Lib.hid hOO; have HEQ := Lib.hid hEq; have HRF := Lib.hid hRf; have HBZ := Lib.hid hBz
    clear hOO hEq hRf hBz
    by_cases hkl : k < K.length
    · obtain ⟨a1, cq, e, q2, q3, q4, q5, q6⟩ := HRG.out
      injection e with e1 e2 e3
      subst e1 e3
      rcases q5 with q5 | ⟨b, o, rfl, hc⟩
      · rw [q5] at hkl
        simp at hkl
      obtain ⟨x1, x2, hx, hsp, w1c, w2c⟩ := rgs_at hc k hkl
      have c1 := (HBZ.out.cell (World.block_lt_of_cell? w1 _ w1c)).trans w1c
      have c2 := (HBZ.out.cell (World.block_lt_of_cell? w1 _ w2c)).trans w2c
      have hdr : K.drop k = (x1, x2) :: K.drop (k + 1) := by
        rw [List.drop_eq_getElem_cons hkl]
        rw [List.getElem?_eq_getElem hkl] at hx
        rw [Option.some.inj hx]
      have hrf := HRF.out
      rw [hdr] at hrf
      obtain ⟨r1, r2, r3, r4⟩ := hrf
      have r1' : f ≤ x1 := r1
      have r2' : x1 ≤ x2 := r2
      have r3' : x2 ≤ 1114111 := r3
      have hq := HEQ.out
      rw [hdr] at hq
      have HQ := Lib.hid hq; have HR4 := Lib.hid (r4.le (lo' := x2 + 1) (by show x2 + 1 ≤ x2 + 2; omega)); have HW2 := Lib.hid w2c
      clear hx hsp hc hdr hq r4 q6 r1 r2 r3 w1c w2c
      by_cases hfx : f < x1
      · go_wp2_with (at_builtin; refine append_rgs rfl (.tmp 22) (.tmp 31) rfl w1.heap.size _ O rfl (HOO.out.below ((Below.refl _ _).alloc (Nat.le_refl _) _)) (some ⟨wr.heap.size, 0, none⟩) 1 1 [(f, x1 - 1)] rfl (rgs_new wr f (x1 - 1) (by unfold I32; omega) (by unfold I32; omega)) ?c3 ?c4 ?_)
        case c3 => (try simp); omega
        case c4 => (have := HBZ.out.size; (try simp); omega)
        intro v3 w3 ho3 hg3
        have HB3 := Lib.hid ((HBZ.out.alloc HBZ.out.size _).grown hg3 (by have := HBZ.out.size; simp; omega) (fun j hj => (HOO.out.1.lt j hj).1))
        have d2 := (HB3.out.cell (World.block_lt_of_cell? w1 _ HW2.out)).trans HW2.out
        have HO3 := Lib.hid ho3
        clear hg3 ho3 c1 c2
        go_wp2
        go_roundw
        case rel =>
          refine ⟨k + 1, by omega, by go_num, x2 + 1, rfl, O ++ [(f, x1 - 1)], HO3.out, ?_, HR4.out, by omega, by omega, by simp; omega, HB3.out⟩
          rw [← HQ.out, List.append_assoc]
          congr 1
          show _ = (if f < x1 then [(f, x1 - 1)] else []) ++ notFrom (x2 + 1) (K.drop (k + 1))
          rw [if_pos hfx]
        case measure => simp [intOf]; omega
      · go_wp2
        go_roundw
        case rel =>
          refine ⟨k + 1, by omega, by go_num, x2 + 1, rfl, O, HOO.out, ?_, HR4.out, by omega, by omega, by omega, HBZ.out⟩
          rw [← HQ.out]
          congr 1
          show _ = (if f < x1 then [(f, x1 - 1)] else []) ++ notFrom (x2 + 1) (K.drop (k + 1))
          rw [if_neg hfx, List.nil_append]
        case measure => simp [intOf]; omega
    · have hkn : K.drop k = [] := List.drop_eq_nil_of_le (by omega)
      have hq := HEQ.out
      rw [hkn] at hq
      have HQ := Lib.hid hq
      have hall : ∀ c, HasR (notFrom 0 K) c ↔ 0 ≤ c ∧ c ≤ 1114111 ∧ ¬ HasR l c := fun c => by rw [not_has K 0 c (Int.le_refl _) HR.out, HP.out]
      have hrn : RightR (notFrom 0 K) := not_right K 0 HR.out
      have HALL := Lib.hid hall; have HRN := Lib.hid hrn
      clear hkn hq hall hrn
      by_cases hfx : f ≤ 1114111
      · go_wp2_with (at_builtin; refine append_rgs rfl (.tmp 41) (.tmp 44) rfl w1.heap.size _ O rfl (HOO.out.below ((Below.refl _ _).alloc (Nat.le_refl _) _)) (some ⟨wr.heap.size, 0, none⟩) 1 1 [(f, 1114111)] rfl (rgs_new wr f 1114111 (by unfold I32; omega) (by unfold I32; omega)) ?c3 ?c4 ?_)
        case c3 => (try simp); omega
        case c4 => (have := HBZ.out.size; (try simp); omega)
        intro v3 w3 ho3 hg3
        have HB3 := Lib.hid ((HBZ.out.alloc HBZ.out.size _).grown hg3 (by have := HBZ.out.size; simp; omega) (fun j hj => (HOO.out.1.lt j hj).1))
        have HO3 := Lib.hid ho3
        clear hg3 ho3
        have he : O ++ [(f, 1114111)] = notFrom 0 K := by
          rw [← HQ.out]
          congr 1
          show _ = if f ≤ 1114111 then [(f, 1114111)] else []
          rw [if_pos hfx]
        have HE := Lib.hid he
        clear he
        go_wp2
        go_ret
        exact ⟨_, notFrom 0 K, rfl, (HE.out ▸ HO3.out).mono HB.out.size, HRN.out, HALL.out, HB.out.trans (HB3.out.mono HB.out.size)⟩
      · have he : O = notFrom 0 K := by
          rw [← HQ.out]
          show _ = O ++ (if f ≤ 1114111 then [(f, 1114111)] else [])
          rw [if_neg hfx, List.append_nil]
        have HE := Lib.hid he
        clear he
        go_wp2
        go_ret
        exact ⟨_, notFrom 0 K, rfl, (HE.out ▸ HOO.out).mono HB.out.size, HRN.out, HALL.out, HB.out.trans (HBZ.out.mono HB.out.size)⟩
end Go.Proofs.Ytnpogfkmcopdfaa
