/- Texts merged by program: PWeight. No condition. -/
import Derived.Test.YtnemacejaiifnaaQ22
import Derived.Deep.DeepCutAuto
import Derived.Deep.RegionWith
set_option linter.unusedVariables false
/- How heavy a tree is: the program's Weight, at any tree. -/
namespace Go.Proofs.Ytnemacejaiifnaa
open Go Go.RowKit

def PWeightOf (t : Tr) : Prop := ∀ (v : Value) (w : World), Tre w t v → Calls Try.prog 32 #[v] w (SaysN (weightR t) w)
/-- A Kid laid open, its two slices, too. -/
theorem Kds.kidS {w : World} {ks : List Tr} {A : Option Addr} {n c : Nat} (h : Kds w ks (.slice A n c)) (k : Nat) (hk : k < ks.length) :
    ∃ (b o : Nat) (tk : Tr) (x1 : Option Addr) (x2 x3 : Nat) (y1 : Option Addr) (y2 y3 : Nat), A = some ⟨b, o, none⟩ ∧ ks[k] = tk ∧ tk ∈ ks ∧
      Kid10 w b (o + k * 10) (.int .i64 tk.fld.op) (.slice x1 x2 x3) (.int .i32 tk.fld.rune) (.slice y1 y2 y3) (.int .i64 tk.fld.at') (.int .i64 tk.fld.cap) (.string tk.fld.name) (.int .i64 tk.fld.min) (.int .i64 tk.fld.max) (.bool tk.fld.lazy) ∧
      Tre w tk (.agg #[.int .i64 tk.fld.op, .slice x1 x2 x3, .int .i32 tk.fld.rune, .slice y1 y2 y3, .int .i64 tk.fld.at', .int .i64 tk.fld.cap, .string tk.fld.name, .int .i64 tk.fld.min, .int .i64 tk.fld.max, .bool tk.fld.lazy]) := by
  obtain ⟨b, o, tk, kv, sv, hA, htk, hm, h10, hT⟩ := h.kid k hk
  obtain ⟨A', n', c', a2, s, c2, -, -, e, -⟩ := hT.opened
  injection e with e
  have h1 := congrArg (fun a : Array Value => a[1]?) e
  have h2 := congrArg (fun a : Array Value => a[3]?) e
  simp at h1 h2
  subst h1 h2
  exact ⟨b, o, tk, A', n', c', a2, s, c2, hA, htk, hm, h10, hT⟩
theorem sum_take_le (l : List Tr) (k : Nat) : ((l.take k).map weightR).sum ≤ (l.map weightR).sum := by
  conv => rhs; rw [← List.take_append_drop k l, List.map_append, List.sum_append]
  omega

set_option maxHeartbeats 1600000 in
set_option maxRecDepth 100000 in
theorem kidsW_any (t : Tr) (ih : ∀ k ∈ t.kids, PWeightOf k) (v : Value) (w : World) (h : Tre w t v) : Calls Try.prog 59 #[v] w (SaysN (clipR (t.kids.map weightR).sum) w) := by
  have IH := Lib.hid ih
  obtain ⟨A, n, c, a2, s, c2, hn, hs, rfl, hnb, hsb, hK, hS, hF⟩ := h.opened
  obtain ⟨w1, hw1⟩ : ∃ w1, w.alloc (.cells #[.int .i64 t.fld.op, .slice A n c, .int .i32 t.fld.rune, .slice a2 s c2, .int .i64 t.fld.at', .int .i64 t.fld.cap, .string t.fld.name, .int .i64 t.fld.min, .int .i64 t.fld.max, .bool t.fld.lazy] 27) = w1 := ⟨_, rfl⟩
  have hb1 : Below w.heap.size w w1 := by rw [← hw1]; exact (Below.refl _ _).alloc (Nat.le_refl _) _
  have hE1 : Box10 w1 w.heap.size (.int .i64 t.fld.op) (.slice A n c) (.int .i32 t.fld.rune) (.slice a2 s c2) (.int .i64 t.fld.at') (.int .i64 t.fld.cap) (.string t.fld.name) (.int .i64 t.fld.min) (.int .i64 t.fld.max) (.bool t.fld.lazy) := by rw [← hw1]; exact box10_new w _ _ _ _ _ _ _ _ _ _ _
  have HB1 := Lib.hid hb1; have HE1 := Lib.hid hE1; have HW1 := Lib.hid hw1; have HK := Lib.hid (hK.below hb1); have HN := Lib.hid hn
  obtain ⟨S, hS⟩ : ∃ S, (t.kids.map weightR).sum = S := ⟨_, rfl⟩
  have hle : ∀ k, ((t.kids.take k).map weightR).sum ≤ S := fun k => hS ▸ sum_take_le t.kids k
  have HLE := Lib.hid hle; have HSS := Lib.hid hS
  rw [hS]
  obtain ⟨-, d1, -⟩ := hE1
  clear h ih hb1 hw1 hK hS hn hs hF hle
  go_enter Try.func59, Try.ntmps59
  go_wp2_with fail
  rw [HW1.out]
  go_wp2_with fail
  go_loopw [3, 9] (fun nn i wr => ∃ k D : Nat, k ≤ n ∧ i = .int .i64 k ∧ nn = .int .i64 D ∧ ((t.kids.take k).map weightR).sum = D ∧ D ≤ 4000 ∧ Below w1.heap.size w1 wr) (fun _ i _ => n - (intOf i).toNat)
  case atStart => exact ⟨0, 0, Nat.zero_le _, rfl, rfl, by simp, by omega, Below.refl _ _⟩
  case round =>
    obtain ⟨k, D, hk, rfl, rfl, hD, hDb, hB⟩ := hrel
    have HB := Lib.hid hB; have HD := Lib.hid hD
    have hKw := HK.out.below hB
    clear hB hD
    by_cases hkn : k < n
    · have hkl : k < t.kids.length := by rw [HN.out]; exact hkn
      obtain ⟨b, o, tk, x1, x2, x3, y1, y2, y3, rfl, htk, hm, ⟨c0, c1, c2', c3, c4, c5, c6, c7, c8, c9⟩, hTk⟩ := hKw.kidS k hkl
      have hwk := weightR_le tk
      have hnx : ((t.kids.take (k + 1)).map weightR).sum = D + weightR tk := by
        rw [List.take_succ_eq_append_getElem hkl, List.map_append, List.sum_append, HD.out, htk]
        simp
      have HNX := Lib.hid hnx
      obtain ⟨w2, hw2⟩ : ∃ w2, wr.alloc (.cells #[.int .i64 tk.fld.op, .slice x1 x2 x3, .int .i32 tk.fld.rune, .slice y1 y2 y3, .int .i64 tk.fld.at', .int .i64 tk.fld.cap, .string tk.fld.name, .int .i64 tk.fld.min, .int .i64 tk.fld.max, .bool tk.fld.lazy] 27) = w2 := ⟨_, rfl⟩
      have hb2 : Below wr.heap.size wr w2 := by rw [← hw2]; exact (Below.refl _ _).alloc (Nat.le_refl _) _
      have hE2 : Box10 w2 wr.heap.size (.int .i64 tk.fld.op) (.slice x1 x2 x3) (.int .i32 tk.fld.rune) (.slice y1 y2 y3) (.int .i64 tk.fld.at') (.int .i64 tk.fld.cap) (.string tk.fld.name) (.int .i64 tk.fld.min) (.int .i64 tk.fld.max) (.bool tk.fld.lazy) := by rw [← hw2]; exact box10_new wr _ _ _ _ _ _ _ _ _ _ _
      have HI := Lib.hid (IH.out tk hm _ _ (hTk.below hb2)); have HW2 := Lib.hid hw2; have HB2 := Lib.hid (below_two HB.out hb2)
      obtain ⟨e0, e1, e2, e3, e4, e5, e6, e7, e8, e9⟩ := hE2
      clear hKw htk hm hTk hnx hb2 hw2
      go_upto_region 5 with (fail)
      rw [HW2.out]
      clear c0 c1 c2' c3 c4 c5 c6 c7 c8 c9
      go_wp2_with fail
      refine HI.out.mono ?_
      rintro e w3 ⟨rfl, hb3⟩
      have HB3 := Lib.hid (below_two HB2.out hb3)
      clear hb3 e0 e1 e2 e3 e4 e5 e6 e7 e8 e9
      obtain ⟨E, hE⟩ : ∃ E, weightR tk = E := ⟨_, rfl⟩
      rw [hE] at hwk HNX ⊢
      clear hE
      by_cases hDE : 4001 ≤ D + E
      · have hz : (4001 : Int) ≤ (D : Int) + (E : Int) := by omega
        go_wp2_with fail
        go_ret
        refine ⟨?_, below_two HB1.out HB3.out⟩
        have h1 := HLE.out (k + 1)
        rw [HNX.out] at h1
        have : clipR S = 4001 := by unfold clipR; omega
        rw [this]
        rfl
      · have hz : ¬ (4001 : Int) ≤ (D : Int) + (E : Int) := by omega
        go_wp2_with fail
        go_roundw
        case rel => exact ⟨k + 1, D + E, by omega, by go_num, by go_num, HNX.out, by omega, HB3.out⟩
        case measure => simp [intOf]; omega
    · have hk2 : t.kids.take k = t.kids := List.take_of_length_le (by rw [HN.out]; omega)
      have hq := HD.out
      rw [hk2, HSS.out] at hq
      subst hq
      clear hk2 hKw
      go_wp2_with fail
      go_ret
      refine ⟨?_, below_two HB1.out HB.out⟩
      have : clipR S = S := by unfold clipR; omega
      rw [this]
      rfl

set_option maxHeartbeats 1600000 in
set_option maxRecDepth 100000 in
theorem pweight_all (t : Tr) : PWeightOf t := by
  refine Tr.ind (P := PWeightOf) (fun t ih v w h => ?_) t
  have HW := Lib.hid fun w' h' => kidsW_any t ih v w' h'
  have H0 := Lib.hid h
  obtain ⟨A, n, c, a2, s, c2, hn, hs, rfl, hnb, hsb, hK, hS, hF⟩ := h.opened
  obtain ⟨w1, hw1⟩ : ∃ w1, w.alloc (.cells #[.int .i64 t.fld.op, .slice A n c, .int .i32 t.fld.rune, .slice a2 s c2, .int .i64 t.fld.at', .int .i64 t.fld.cap, .string t.fld.name, .int .i64 t.fld.min, .int .i64 t.fld.max, .bool t.fld.lazy] 27) = w1 := ⟨_, rfl⟩
  have hb1 : Below w.heap.size w w1 := by rw [← hw1]; exact (Below.refl _ _).alloc (Nat.le_refl _) _
  have hE1 : Box10 w1 w.heap.size (.int .i64 t.fld.op) (.slice A n c) (.int .i32 t.fld.rune) (.slice a2 s c2) (.int .i64 t.fld.at') (.int .i64 t.fld.cap) (.string t.fld.name) (.int .i64 t.fld.min) (.int .i64 t.fld.max) (.bool t.fld.lazy) := by rw [← hw1]; exact box10_new w _ _ _ _ _ _ _ _ _ _ _
  have HB1 := Lib.hid hb1; have HE1 := Lib.hid hE1; have HW1 := Lib.hid hw1; have HF := Lib.hid hF
  have hwq := weightR_eq t
  rw [hn] at hwq
  have HWQ := Lib.hid hwq
  have HK := Lib.hid (HW.out w1 (H0.out.below HB1.out))
  have HKQ := Lib.hid fun q => HW.out (w1.drewN q) ((H0.out.below HB1.out).below (below_draws w1 q))
  obtain ⟨D, hD⟩ : ∃ D, clipR (t.kids.map weightR).sum = D := ⟨_, rfl⟩
  have hDb : D ≤ 4001 := by rw [← hD]; unfold clipR; omega
  rw [hD] at HWQ HK HKQ
  obtain ⟨d0, d1, d2, d3, d4, d5, d6, d7, d8, d9⟩ := hE1
  obtain ⟨-, -, -, -, hmn, hmx, -⟩ := hF
  unfold I64 at hmn hmx
  clear h ih hb1 hw1 hK hS hn hs hwq hD
  obtain ⟨op, hop⟩ : ∃ op, t.fld.op = op := ⟨_, rfl⟩
  obtain ⟨mn, hmnq⟩ : ∃ x, t.fld.min = x := ⟨_, rfl⟩
  obtain ⟨mx, hmxq⟩ : ∃ x, t.fld.max = x := ⟨_, rfl⟩
  obtain ⟨WR, hWR⟩ : ∃ x, weightR t = x := ⟨_, rfl⟩
  rw [hWR]
  have HV : Hid (WR = weightN { t.fld with op := op, min := mn, max := mx } n D) := Lib.hid (by rw [← hWR, ← hop, ← hmnq, ← hmxq]; exact HWQ.out)
  rw [hop] at d0 HK HKQ HW1
  rw [hmnq] at d7 hmn HK HKQ HW1
  rw [hmxq] at d8 hmx HK HKQ HW1
  obtain ⟨x2, hx2⟩ : ∃ x, t.fld.rune = x := ⟨_, rfl⟩
  rw [hop, hmnq, hmxq]
  clear hop hmnq hmxq hWR HWQ HW H0 HE1 HF hx2
  go_enter Try.func32, Try.ntmps32
  go_upto_region 1 with (fail)
  rw [HW1.out]
  have hmin : ∀ (x y : Int) (ts : Array TypeId) (ty : TypeId) (W : World), min x 4001 = y → (Builtin.min_ ts ty #[.int .i64 x, .int .i64 4001]).run Try.prog W = .ok (.int .i64 y) W := fun x y ts ty W h => by
    rw [run_min_int2, ← h]
    congr 2
    omega
  have HMIN := Lib.hid hmin
  clear hmin
  by_cases h6 : op = 6
  · subst h6
    have hm := fun ts ty W => HMIN.out (2 + (D : Int)) (WR : Int) ts ty W (by rw [HV.out]; unfold weightN; rw [if_pos rfl]; unfold clipR; omega)
    go_wp2_with fail
    refine HK.out.mono ?_
    rintro e w3 ⟨rfl, hb3⟩
    have HB3 := Lib.hid (below_two HB1.out hb3)
    clear hb3 d0 d1 d2 d3 d4 d5 d6 d7 d8 d9
    go_wp2_with fail
    go_ret
    exact ⟨rfl, HB3.out⟩
  by_cases h1 : op = 7 ∨ op = 8 ∨ op = 9 ∨ op = 11
  · have hm := fun ts ty W => HMIN.out (1 + (D : Int)) (WR : Int) ts ty W (by rw [HV.out]; unfold weightN; rw [if_neg h6, if_pos h1]; unfold clipR; omega)
    clear h6
    rcases h1 with rfl | rfl | rfl | rfl
    all_goals
      go_wp2_with fail
      refine HK.out.mono ?_
      rintro e w3 ⟨rfl, hb3⟩
      have HB3 := Lib.hid (below_two HB1.out hb3)
      clear hb3 d0 d1 d2 d3 d4 d5 d6 d7 d8 d9
      go_wp2_with fail
      go_ret
      exact ⟨rfl, HB3.out⟩
  by_cases h10 : op = 10
  · subst h10
    obtain ⟨X, hX⟩ : ∃ X, max (max mn mx) 1 = X := ⟨_, rfl⟩
    have hmx3 : ∀ (ts : Array TypeId) (ty : TypeId) (W : World), (Builtin.max_ ts ty #[.int .i64 mn, .int .i64 mx, .int .i64 1]).run Try.prog W = .ok (.int .i64 X) W := fun ts ty W => by
      rw [run_max_int3, ← hX]
      congr 2
      omega
    have hX1 : 1 ≤ X := by omega
    obtain ⟨K, hKX⟩ : ∃ K, clipR X.toNat = K := ⟨_, rfl⟩
    have hm1 := fun ts ty W => HMIN.out X (K : Int) ts ty W (by rw [← hKX]; unfold clipR; omega)
    have hK1 : K ≤ 4001 := by rw [← hKX]; unfold clipR; omega
    have hKD : K * D ≤ 16008001 := Nat.le_trans (Nat.mul_le_mul hK1 hDb) (by omega)
    obtain ⟨P, hP⟩ : ∃ P, K * D = P := ⟨_, rfl⟩
    have hPz : (K : Int) * (D : Int) = (P : Int) := by rw [← hP]; simp
    have hm2 := fun ts ty W => HMIN.out ((P : Int) + (K : Int) + 1) (WR : Int) ts ty W (by
      rw [HV.out]
      unfold weightN
      rw [if_neg (by simp), if_neg (by simp), if_pos rfl]
      simp only
      rw [hX, hKX, hP]
      unfold clipR
      omega)
    rw [hP] at hKD
    have HPZ := Lib.hid hPz
    clear hX hKX hP h6 h1 hPz HMIN HV hX1
    go_wp2_with fail
    refine HK.out.mono ?_
    rintro e w3 ⟨rfl, hb3⟩
    have HB3 := Lib.hid (below_two HB1.out hb3)
    have hPz := HPZ.out
    clear hb3 d0 d1 d2 d3 d4 d5 d6 d7 d8 d9 hmx3 hm1
    go_wp2_with fail
    go_ret
    exact ⟨rfl, HB3.out⟩
  by_cases h12 : op = 12
  · subst h12
    have hm := fun ts ty W => HMIN.out ((D : Int) + (n : Int)) (WR : Int) ts ty W (by rw [HV.out]; unfold weightN; rw [if_neg (by simp), if_neg (by simp), if_neg (by simp), if_pos rfl]; unfold clipR; omega)
    have hwr : IntKind.i64.wrap ((D : Int) + (n : Int)) = (D : Int) + (n : Int) := by
      unfold IntKind.wrap
      simp [IntKind.bits, IntKind.signed]
      omega
    clear h6 h1 h10
    go_upto_region 13 with (fail)
    go_region_with (go_at_call 59; refine (HKQ.out _).mono ?_; rintro e w3 ⟨rfl, hb3⟩; have d1' := (hb3.cell (p := ⟨w.heap.size, 1, none⟩) (World.block_lt_of_cell? w1 _ d1)).trans d1; have HB3 := Lib.hid (below_two HB1.out ((below_draws w1 _).trans hb3)); clear hb3)
    all_goals
      go_wp2_with fail
      go_ret
      exact ⟨rfl, HB3.out⟩
  · have hv : WR = 1 := by rw [HV.out]; unfold weightN; rw [if_neg h6, if_neg h1, if_neg h10, if_neg h12]
    have e6 : (op == 6) = false := beq_eq_false_iff_ne.2 h6
    have e7 : (op == 7) = false := beq_eq_false_iff_ne.2 (fun h => h1 (.inl h))
    have e8 : (op == 8) = false := beq_eq_false_iff_ne.2 (fun h => h1 (.inr (.inl h)))
    have e9 : (op == 9) = false := beq_eq_false_iff_ne.2 (fun h => h1 (.inr (.inr (.inl h))))
    have e11 : (op == 11) = false := beq_eq_false_iff_ne.2 (fun h => h1 (.inr (.inr (.inr h))))
    have e10 : (op == 10) = false := beq_eq_false_iff_ne.2 h10
    have e12 : (op == 12) = false := beq_eq_false_iff_ne.2 h12
    have HVV := Lib.hid hv
    clear hv h1 h6 h10 h12
    go_wp2_with fail
    go_ret
    exact ⟨by rw [HVV.out]; rfl, HB1.out⟩
theorem pweight_any (t : Tr) (hp : partsR t ≤ 10000000000) (v : Value) (w : World) (h : Tre w t v) : Calls Try.prog 32 #[v] w (SaysN (weightR t) w) := pweight_all t v w h
end Go.Proofs.Ytnemacejaiifnaa
