/- Texts merged by program: TrWeight. No condition. -/
import Derived.Test.YtnemacejaiifnaaQ4
import Derived.Laws.Cover1
set_option linter.unusedVariables false
/- How heavy a tree is: the document's Weight. -/
namespace Go.Proofs.Ytnemacejaiifnaa
open Go Go.RowKit

theorem clip_any (x : Int) (w : World) : Calls Try.prog 58 #[.int .i64 x] w fun e w' => e = .returned (.int .i64 (min x 4001)) ∧ w' = w := by
  by_cases h : 4001 < x
  · rw [Int.min_eq_right (by omega)]
    go_enter Try.func58, Try.ntmps58
    go_wp2
    go_ret
    exact ⟨rfl, rfl⟩
  · rw [Int.min_eq_left (by omega)]
    go_enter Try.func58, Try.ntmps58
    go_wp2
    go_ret
    exact ⟨rfl, rfl⟩
theorem clip_cast (n : Nat) : (min (n : Int) 4001) = ((clipR n : Nat) : Int) := by unfold clipR; omega
def SumsTo (t : Tr) (k : Nat) : Nat := clipR ((t.kids.take k).map weightR).sum
theorem sums_next {t : Tr} {k : Nat} (h : k < t.kids.length) : SumsTo t (k + 1) = clipR (SumsTo t k + weightR t.kids[k]) := by
  unfold SumsTo
  rw [clipR_add, List.take_succ_eq_append_getElem h, List.map_append, List.sum_append]
  simp
theorem sums_le (t : Tr) (k : Nat) : SumsTo t k ≤ 4001 := by unfold SumsTo clipR; omega
def WeightOf (t : Tr) : Prop := ∀ (v : Value) (w : World), Tre w t v → Calls Try.prog 30 #[v] w (SaysN (weightR t) w)

set_option maxHeartbeats 1600000 in
set_option maxRecDepth 100000 in
theorem weight_any (t : Tr) : WeightOf t := by
  refine Tr.ind (P := WeightOf) (fun t ih v w h => ?_) t
  have IH := Lib.hid ih
  obtain ⟨A, n, c, a2, s, c2, hn, hs, rfl, hnb, hsb, hK, hS, hF⟩ := h.opened
  obtain ⟨w1, hw1⟩ : ∃ w1, w.alloc (.cells #[.int .i64 t.fld.op, .slice A n c, .int .i32 t.fld.rune, .slice a2 s c2, .int .i64 t.fld.at', .int .i64 t.fld.cap, .string t.fld.name, .int .i64 t.fld.min, .int .i64 t.fld.max, .bool t.fld.lazy] 27) = w1 := ⟨_, rfl⟩
  have hb1 : Below w.heap.size w w1 := by rw [← hw1]; exact (Below.refl _ _).alloc (Nat.le_refl _) _
  have hE1 : Box10 w1 w.heap.size (.int .i64 t.fld.op) (.slice A n c) (.int .i32 t.fld.rune) (.slice a2 s c2) (.int .i64 t.fld.at') (.int .i64 t.fld.cap) (.string t.fld.name) (.int .i64 t.fld.min) (.int .i64 t.fld.max) (.bool t.fld.lazy) := by rw [← hw1]; exact box10_new w _ _ _ _ _ _ _ _ _ _ _
  have HB1 := Lib.hid hb1; have HE1 := Lib.hid hE1; have HW1 := Lib.hid hw1; have HK := Lib.hid (hK.below hb1); have HS := Lib.hid (hS.below hb1); have HN := Lib.hid hn; have HSL := Lib.hid hs; have HF := Lib.hid hF
  clear hb1 hE1 hw1 hK hS hn hs hF
  have HWQ := Lib.hid (weightR_eq t)
  clear h ih
  go_enter Try.func30, Try.ntmps30
  go_wp2_with fail
  rw [HW1.out]
  go_loopw [3, 4] (fun nn i wr => ∃ k : Nat, k ≤ n ∧ i = .int .i64 k ∧ nn = .int .i64 (SumsTo t k) ∧ Below w1.heap.size w1 wr) (fun _ i _ => n - (intOf i).toNat)
  case atStart => exact ⟨0, Nat.zero_le _, rfl, rfl, Below.refl _ _⟩
  case round =>
    obtain ⟨k, hk, rfl, rfl, hB⟩ := hrel
    have HB := Lib.hid hB
    obtain ⟨d0, d1, -, -, -, -, -, d7, d8, -⟩ := HE1.out.below hB
    have hKw := HK.out.below hB
    have hSle := sums_le t k
    clear hB
    by_cases hkn : k < n
    · have hkl : k < t.kids.length := by rw [HN.out]; exact hkn
      have hnx := sums_next hkl
      obtain ⟨b, o, tk, kv, sv, rfl, htk, hm, ⟨c0, c1, c2', c3, c4, c5, c6, c7, c8, c9⟩, hTk⟩ := hKw.kid k hkl
      have hwk := weightR_le tk
      rw [htk] at hnx
      have HI := Lib.hid (IH.out tk hm _ _ hTk); have HNX := Lib.hid hnx
      obtain ⟨D, hD⟩ : ∃ D, SumsTo t k = D := ⟨_, rfl⟩
      rw [hD] at hSle HNX ⊢
      clear hKw htk hm hTk hnx hD
      go_wp2_with fail
      refine HI.out.mono ?_
      rintro e w2 ⟨rfl, hb2⟩
      have HB2 := Lib.hid (below_two HB.out hb2)
      clear hb2 c0 c1 c2' c3 c4 c5 c6 c7 c8 c9
      obtain ⟨E, hE⟩ : ∃ E, weightR tk = E := ⟨_, rfl⟩
      rw [hE] at hwk HNX ⊢
      clear hE
      go_wp2_with fail
      refine (clip_any ((D : Int) + (E : Int)) w2).mono ?_
      rintro e w3 ⟨rfl, rfl⟩
      have hcc : min ((D : Int) + (E : Int)) 4001 = ((clipR (D + E) : Nat) : Int) := by rw [← clip_cast]; rfl
      rw [hcc]
      clear hcc
      go_wp2_with fail
      go_roundw
      case rel => exact ⟨k + 1, by omega, by go_num, by rw [HNX.out], HB2.out⟩
      case measure => simp [intOf]; omega
    · have hk2 : t.kids.take k = t.kids := List.take_of_length_le (by rw [HN.out]; omega)
      have hwq := HWQ.out
      rw [show clipR (t.kids.map weightR).sum = SumsTo t k by unfold SumsTo; rw [hk2], HN.out] at hwq
      obtain ⟨D, hD⟩ : ∃ D, SumsTo t k = D := ⟨_, rfl⟩
      rw [hD] at hSle hwq ⊢
      have HQ := Lib.hid hwq
      have HBT := Lib.hid (below_two HB1.out HB.out)
      clear hk2 hwq hKw hD
      obtain ⟨op, hop⟩ : ∃ op, t.fld.op = op := ⟨_, rfl⟩
      rw [hop] at d0
      have HOP := Lib.hid hop
      clear hop
      by_cases h6 : op = 6
      · subst h6
        have hv : weightR t = clipR (2 + D) := by rw [HQ.out]; unfold weightN; rw [if_pos HOP.out]
        have HV := Lib.hid hv
        clear hv
        go_wp2_with fail
        refine (clip_any _ _).mono ?_
        rintro e w3 ⟨rfl, rfl⟩
        go_wp2_with fail
        go_ret
        exact ⟨by rw [HV.out, ← clip_cast]; rfl, HBT.out⟩
      by_cases h1 : op = 7 ∨ op = 8 ∨ op = 9 ∨ op = 11
      · have hv : weightR t = clipR (1 + D) := by rw [HQ.out]; unfold weightN; rw [if_neg (by rw [HOP.out]; exact h6), if_pos (by rw [HOP.out]; exact h1)]
        have HV := Lib.hid hv
        clear hv
        rcases h1 with rfl | rfl | rfl | rfl
        all_goals
          clear h6
          go_wp2_with fail
          refine (clip_any _ _).mono ?_
          rintro e w3 ⟨rfl, rfl⟩
          go_wp2_with fail
          go_ret
          exact ⟨by rw [HV.out, ← clip_cast]; rfl, HBT.out⟩
      by_cases h10 : op = 10
      · have hv : weightR t = clipR (clipR (max (max t.fld.min t.fld.max) 1).toNat * D + clipR (max (max t.fld.min t.fld.max) 1).toNat + 1) := by rw [HQ.out]; unfold weightN; rw [if_neg (by rw [HOP.out]; exact h6), if_neg (by rw [HOP.out]; exact h1), if_pos (by rw [HOP.out]; exact h10)]
        have HV := Lib.hid hv
        subst h10
        clear hv h1 h6
        obtain ⟨X, hX⟩ : ∃ X, max (max t.fld.min t.fld.max) 1 = X := ⟨_, rfl⟩
        have hmx : ∀ (ts : Array TypeId) (ty : TypeId) (W : World), (Builtin.max_ ts ty #[.int .i64 t.fld.min, .int .i64 t.fld.max, .int .i64 1]).run Try.prog W = .ok (.int .i64 X) W := fun ts ty W => by
          rw [run_max_int3, ← hX]
          congr 2
          omega
        have hX1 : 1 ≤ X := by omega
        rw [hX] at HV
        obtain ⟨K, hKX⟩ : ∃ K, clipR X.toNat = K := ⟨_, rfl⟩
        have hcK : min X 4001 = (K : Int) := by rw [← hKX, ← clip_cast, Int.toNat_of_nonneg (by omega)]
        have hK1 : K ≤ 4001 := by rw [← hKX]; unfold clipR; omega
        have hKD : K * D ≤ 16008001 := Nat.le_trans (Nat.mul_le_mul hK1 hSle) (by omega)
        obtain ⟨P, hP⟩ : ∃ P, K * D = P := ⟨_, rfl⟩
        have hPz : (K : Int) * (D : Int) = (P : Int) := by rw [← hP]; simp
        rw [hKX, hP] at HV
        rw [hP] at hKD
        have HCK := Lib.hid hcK; have HPZ := Lib.hid hPz
        clear hX hKX hcK hP hPz
        go_wp2_with fail
        refine (clip_any X _).mono ?_
        rintro e w3 ⟨rfl, rfl⟩
        rw [HCK.out]
        have hPz := HPZ.out
        clear hmx
        go_wp2_with fail
        refine (clip_any _ _).mono ?_
        rintro e w4 ⟨rfl, rfl⟩
        clear hPz
        go_wp2_with fail
        go_ret
        exact ⟨by rw [HV.out, ← clip_cast]; rfl, HBT.out⟩
      by_cases h12 : op = 12
      · have hv : weightR t = clipR (D + clipR n) := by rw [HQ.out]; unfold weightN; rw [if_neg (by rw [HOP.out]; exact h6), if_neg (by rw [HOP.out]; exact h1), if_neg (by rw [HOP.out]; exact h10), if_pos (by rw [HOP.out]; exact h12)]
        have HV := Lib.hid hv
        subst h12
        clear hv h1 h6 h10
        go_wp2_with fail
        refine (clip_any _ _).mono ?_
        rintro e w3 ⟨rfl, rfl⟩
        have hcn : min (n : Int) 4001 = ((clipR n : Nat) : Int) := clip_cast n
        have hcb : clipR n ≤ 4001 := by unfold clipR; omega
        obtain ⟨N, hN⟩ : ∃ N, clipR n = N := ⟨_, rfl⟩
        rw [hN] at hcn hcb HV
        rw [hcn]
        clear hcn hN
        go_wp2_with fail
        refine (clip_any _ _).mono ?_
        rintro e w4 ⟨rfl, rfl⟩
        go_wp2_with fail
        go_ret
        exact ⟨by rw [HV.out, ← clip_cast]; rfl, HBT.out⟩
      · have hv : weightR t = 1 := by rw [HQ.out]; unfold weightN; rw [if_neg (by rw [HOP.out]; exact h6), if_neg (by rw [HOP.out]; exact h1), if_neg (by rw [HOP.out]; exact h10), if_neg (by rw [HOP.out]; exact h12)]
        have HV := Lib.hid hv
        have e6 : (op == 6) = false := beq_eq_false_iff_ne.2 h6
        have e7 : (op == 7) = false := beq_eq_false_iff_ne.2 (fun h => h1 (.inl h))
        have e8 : (op == 8) = false := beq_eq_false_iff_ne.2 (fun h => h1 (.inr (.inl h)))
        have e9 : (op == 9) = false := beq_eq_false_iff_ne.2 (fun h => h1 (.inr (.inr (.inl h))))
        have e11 : (op == 11) = false := beq_eq_false_iff_ne.2 (fun h => h1 (.inr (.inr (.inr h))))
        have e10 : (op == 10) = false := beq_eq_false_iff_ne.2 h10
        have e12 : (op == 12) = false := beq_eq_false_iff_ne.2 h12
        clear hv h1 h6 h10 h12
        go_wp2_with fail
        go_ret
        exact ⟨by rw [HV.out]; rfl, HBT.out⟩
end Go.Proofs.Ytnemacejaiifnaa
