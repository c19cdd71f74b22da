/- The document's Check, at any program. -/
import Derived.Test.YtlkbdbijlnjjbaaPgInst
import Derived.Deep.RegionHeld3
import Derived.Deep.RegionWith
set_option linter.unusedVariables false
namespace Go.Proofs.Ytlkbdbijlnjjbaa
open Go Go.RowKit

def CheckG (p : Pg) (w : World) (e : Ending) (w' : World) : Prop := ∃ r : Int, e = .returned (.int .i64 r) ∧ (r = 0 ∧ RightPg p ∨ r = 121 ∧ ¬ RightPg p) ∧ Below w.heap.size w w'
set_option maxHeartbeats 1600000 in
set_option maxRecDepth 100000 in
theorem rcheck_any (p : Pg) (v : Value) (w : World) (h : PgV w p v) : Calls Try.prog 12 #[v] w (CheckG p w) := by
  have H0 := Lib.hid h
  obtain ⟨A, n, c, hn, rfl, hI, hs, hc, hnb⟩ := h.opened
  obtain ⟨w1, hw1⟩ : ∃ w1, w.alloc (.cells #[.slice A n c, .int .i64 p.start, .int .i64 p.caps] 24) = w1 := ⟨_, rfl⟩
  obtain ⟨hb1, e0, e1, e2, hz1⟩ := box3_new w _ _ _ _ hw1
  have HIN := Lib.hid fun (x : Ins) (v : Value) (W : World) (hW : Below w.heap.size w W) (hx : InsV W x v) => rinst_any p x _ v W (H0.out.below hW) hx
  have HIS := Lib.hid hI
  obtain ⟨P, hP⟩ : ∃ P, RightPg p = P := ⟨_, rfl⟩
  have HP : Hid (P ↔ 1 ≤ n ∧ n ≤ 10000 ∧ 0 ≤ p.start ∧ p.start < n ∧ 2 ≤ p.caps ∧ p.caps ≤ 4002 ∧ p.caps % 2 = 0 ∧ ∀ x ∈ p.ins, SoundI p.ins.length p.caps x) := Lib.hid (by
    rw [← hP, ← hn]
    unfold RightPg PlaceI
    constructor
    · rintro ⟨h0, h1, ⟨h2, h7⟩, h3, h4, h5, h6⟩
      exact ⟨h0, h1, h2, h7, h3, h4, h5, h6⟩
    · rintro ⟨h0, h1, h2, h7, h3, h4, h5, h6⟩
      exact ⟨h0, h1, ⟨h2, h7⟩, h3, h4, h5, h6⟩)
  unfold CheckG
  rw [hP]
  have HF : Hid (∀ W, Below w1.heap.size w1 W → W.cell? ⟨w.heap.size, 0, none⟩ = some (.slice A n c) ∧ W.cell? ⟨w.heap.size, 1, none⟩ = some (.int .i64 p.start) ∧ W.cell? ⟨w.heap.size, 2, none⟩ = some (.int .i64 p.caps)) := Lib.hid fun W hW => ⟨cell_on hW e0, cell_on hW e1, cell_on hW e2⟩
  have HB1 := Lib.hid hb1; have HW1 := Lib.hid hw1; have HN := Lib.hid hn; have HST := Lib.hid hs; have HCP := Lib.hid hc
  clear h hI hs hc hw1 hb1 hz1 hP hn
  go_enter Try.func12, Try.ntmps12
  go_upto_region 1 with (fail)
  rw [HW1.out]
  by_cases q0 : 1 ≤ n
  rotate_left
  · have d0 : decide ((n : Int) < 1) = true := decide_eq_true (by omega)
    have Q := Lib.hid q0
    clear q0
    go_wp2_with fail
    go_ret
    exact ⟨121, rfl, .inr ⟨rfl, fun h => (by have := (HP.out.1 h).1; have := Q.out; omega)⟩, HB1.out⟩
  have d0 : decide ((n : Int) < 1) = false := decide_eq_false (by omega)
  by_cases q1 : n ≤ 10000
  rotate_left
  · have d1 : decide ((10000 : Int) < (n : Int)) = true := decide_eq_true (by omega)
    have Q := Lib.hid q1; have Q0 := Lib.hid q0
    clear q1 q0
    go_wp2_with fail
    go_ret
    exact ⟨121, rfl, .inr ⟨rfl, fun h => (by have := (HP.out.1 h).2.1; have := Q.out; omega)⟩, HB1.out⟩
  have d1 : decide ((10000 : Int) < (n : Int)) = false := decide_eq_false (by omega)
  have Q0 := Lib.hid q0; have Q1 := Lib.hid q1
  clear q0 q1
  by_cases q2 : 0 ≤ p.start
  rotate_left
  · have d2 : decide (p.start < 0) = true := decide_eq_true (by omega)
    have Q := Lib.hid q2
    clear q2
    go_wp2_with fail
    go_ret
    exact ⟨121, rfl, .inr ⟨rfl, fun h => (by have := (HP.out.1 h).2.2.1; have := Q.out; omega)⟩, HB1.out⟩
  have d2 : decide (p.start < 0) = false := decide_eq_false (by omega)
  have Q2 := Lib.hid q2
  clear q2
  by_cases q3 : p.start < n
  rotate_left
  · have d3 : decide ((n : Int) ≤ p.start) = true := decide_eq_true (by omega)
    have Q := Lib.hid q3
    clear q3
    go_wp2_with fail
    go_ret
    exact ⟨121, rfl, .inr ⟨rfl, fun h => (by have := (HP.out.1 h).2.2.2.1; have := Q.out; omega)⟩, HB1.out⟩
  have d3 : decide ((n : Int) ≤ p.start) = false := decide_eq_false (by omega)
  have Q3 := Lib.hid q3
  clear q3
  by_cases q4 : 2 ≤ p.caps
  rotate_left
  · have d4 : decide (p.caps < 2) = true := decide_eq_true (by omega)
    have Q := Lib.hid q4
    clear q4
    go_wp2_with fail
    go_ret
    exact ⟨121, rfl, .inr ⟨rfl, fun h => (by have := (HP.out.1 h).2.2.2.2.1; have := Q.out; omega)⟩, HB1.out⟩
  have d4 : decide (p.caps < 2) = false := decide_eq_false (by omega)
  by_cases q5 : p.caps ≤ 4002
  rotate_left
  · have d5 : decide (4002 < p.caps) = true := decide_eq_true (by omega)
    have Q := Lib.hid q5; have Q4 := Lib.hid q4
    clear q5 q4
    go_wp2_with fail
    go_ret
    exact ⟨121, rfl, .inr ⟨rfl, fun h => (by have := (HP.out.1 h).2.2.2.2.2.1; have := Q.out; omega)⟩, HB1.out⟩
  have d5 : decide (4002 < p.caps) = false := decide_eq_false (by omega)
  by_cases q6 : p.caps % 2 = 0
  rotate_left
  · have d6 : (p.caps % 2 != 0) = true := by simpa using q6
    have d7 : (p.caps.tmod 2 != 0) = true := by rw [Int.tmod_eq_emod_of_nonneg (by omega)]; exact d6
    have Q := Lib.hid q6; have Q5 := Lib.hid q5; have Q4 := Lib.hid q4
    clear q5 q4 q6
    go_wp2_with fail
    go_ret
    exact ⟨121, rfl, .inr ⟨rfl, fun h => absurd (HP.out.1 h).2.2.2.2.2.2.1 Q.out⟩, HB1.out⟩
  have d6 : (p.caps % 2 != 0) = false := by simpa using q6
  have d7 : (p.caps.tmod 2 != 0) = false := by rw [Int.tmod_eq_emod_of_nonneg (by omega)]; exact d6
  have Q4 := Lib.hid q4; have Q5 := Lib.hid q5; have Q6 := Lib.hid q6
  clear q4 q5 q6
  go_wp2_with fail
  clear d0 d1 d2 d3 d4 d5 d6 d7 e0 e1 e2
  go_loopw [4] (fun i wr => ∃ k : Nat, k ≤ n ∧ i = .int .i64 k ∧ Below w1.heap.size w1 wr ∧ ∀ (j : Nat) (hj : j < p.ins.length), j < k → SoundI p.ins.length p.caps p.ins[j]) (fun i _ => n - (intOf i).toNat)
  case atStart => exact ⟨0, Nat.zero_le _, rfl, Below.refl _ _, fun j hj h => by omega⟩
  case round =>
    obtain ⟨k, hk, rfl, hB, hall⟩ := hrel
    have HB := Lib.hid hB; have HALL := Lib.hid hall
    have hKw := HIS.out.below (below_steps HB1.out hB)
    obtain ⟨e0, e1, e2⟩ := HF.out wr hB
    clear hB hall
    by_cases hkn : k < n
    · have hkl : k < p.ins.length := by rw [HN.out]; exact hkn
      obtain ⟨b, o, x, a2, s, c2, rfl, hx, hm, -, -, ⟨k0, k1, k2, k3, k4⟩, -, -, hIV⟩ := hKw.at' k hkl
      have HI := Lib.hid fun W (hW : Below wr.heap.size wr W) => HIN.out x _ W (below_steps (below_steps HB1.out HB.out) hW) (hIV.below hW)
      have HTK := Lib.hid hx; have HKL := Lib.hid hkl; have HM := Lib.hid hm
      clear hKw hx hm hIV
      go_wp2_with fail
      go_region_with (go_at_call 28; (with_reducible refine (HI.out _ ?_).mono ?_); exact (Below.refl _ _).drew; rintro e w4 ⟨B, rfl, hq, hb⟩; have hb := below_of_drew hb)
      all_goals
        have HB4 : Hid (Below w1.heap.size w1 w4) := Lib.hid (below_steps HB.out hb)
        have HQ := Lib.hid hq
        clear hb hq HI k0 k1 k2 k3 k4 e0 e1 e2
        cases B
        · have Q := Lib.hid (mt HQ.out.2 Bool.false_ne_true)
          clear HQ
          go_wp2_with fail
          go_ret
          exact ⟨121, rfl, .inr ⟨rfl, fun h => Q.out ((HP.out.1 h).2.2.2.2.2.2.2 x HM.out)⟩, below_steps HB1.out HB4.out⟩
        · have Q := Lib.hid (HQ.out.1 rfl)
          clear HQ
          go_wp2_with fail
          go_roundw
          case rel =>
            refine ⟨k + 1, by omega, by go_num, HB4.out, fun j hj hjk => ?_⟩
            by_cases hjk2 : j < k
            · exact HALL.out j hj hjk2
            · obtain rfl : j = k := by omega
              rw [HTK.out]
              exact Q.out
          case measure => simp [intOf]; omega
    · have hall : P := HP.out.2 ⟨Q0.out, Q1.out, Q2.out, Q3.out, Q4.out, Q5.out, Q6.out, fun x hx => by
        obtain ⟨j, hj, rfl⟩ := List.mem_iff_getElem.1 hx
        exact HALL.out j hj (by have := HN.out; omega)⟩
      have HAL := Lib.hid hall
      clear hall hKw
      go_wp2_with fail
      go_ret
      exact ⟨0, rfl, .inl ⟨rfl, HAL.out⟩, below_steps HB1.out HB.out⟩
end Go.Proofs.Ytlkbdbijlnjjbaa
