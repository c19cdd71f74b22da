/- Texts merged by program: TrRight, SyParts. No condition. -/
import Derived.Test.YthnddabcmhplkaaDoorK7
import Derived.Test.YthnddabcmhplkaaDoorK25
import Derived.Test.YthnddabcmhplkaaDoorK11
set_option linter.unusedVariables false
/- Is a tree right: the document's Right. -/
namespace Go.Proofs.YthnddabcmhplkaaDoor
open Go Go.RowKit

/-- Groups are numbered in order, and no name stands twice. -/
def CapsFine (g : List Tr) : Prop := ∀ (i : Nat) (h : i < g.length), g[i].fld.cap = (i : Int) + 1 ∧ ∀ (k : Nat) (hk : k < i), ¬ ((g[k]'(by omega)).fld.name.toList = g[i].fld.name.toList ∧ g[i].fld.name.toList ≠ [])
/-- A right tree. -/
def RightT (t : Tr) : Prop := depthR t ≤ 50 ∧ weightR t ≤ 4000 ∧ ShapedP t ∧ CapsFine (groupsT t)
def RightOf (t : Tr) : Prop := partsR t ≤ 10000000000 → ∀ (v : Value) (w : World), Tre w t v → Calls Tryd.prog 10 #[v] w (SaysB (RightT t) w)

set_option maxHeartbeats 1600000 in
set_option maxRecDepth 100000 in
theorem right_any (t : Tr) : RightOf t := by
  intro hp v w h
  have H0 := Lib.hid h
  obtain ⟨A, n, c, a2, s, c2, hn, hs, rfl, hnb, hsb, hK, hS, hF⟩ := h.opened
  obtain ⟨w1, hw1⟩ : ∃ w1, w.alloc (.cells #[.int .i64 t.fld.op, .slice A n c, .int .i32 t.fld.rune, .slice a2 s c2, .int .i64 t.fld.at', .int .i64 t.fld.cap, .string t.fld.name, .int .i64 t.fld.min, .int .i64 t.fld.max, .bool t.fld.lazy] 27) = w1 := ⟨_, rfl⟩
  have hb1 : Below w.heap.size w w1 := by rw [← hw1]; exact (Below.refl _ _).alloc (Nat.le_refl _) _
  have hE1 : Box10 w1 w.heap.size (.int .i64 t.fld.op) (.slice A n c) (.int .i32 t.fld.rune) (.slice a2 s c2) (.int .i64 t.fld.at') (.int .i64 t.fld.cap) (.string t.fld.name) (.int .i64 t.fld.min) (.int .i64 t.fld.max) (.bool t.fld.lazy) := by rw [← hw1]; exact box10_new w _ _ _ _ _ _ _ _ _ _ _
  have HB1 := Lib.hid hb1; have HE1 := Lib.hid hE1; have HW1 := Lib.hid hw1; have HK := Lib.hid (hK.below hb1); have HS := Lib.hid (hS.below hb1); have HN := Lib.hid hn; have HSL := Lib.hid hs; have HF := Lib.hid hF
  clear hb1 hE1 hw1 hK hS hn hs hF
  have HP : Hid (RightT t ↔ depthR t ≤ 50 ∧ weightR t ≤ 4000 ∧ ShapedP t ∧ CapsFine (groupsT t)) := Lib.hid Iff.rfl
  obtain ⟨P, hP⟩ : ∃ P, RightT t = P := ⟨_, rfl⟩
  rw [hP] at HP ⊢
  clear h hP
  have HD := Lib.hid (depth_any t hp _ w1 (H0.out.below HB1.out))
  have hde := depthR_parts t
  have hwe := weightR_le t
  have hgl := groupsT_len t
  obtain ⟨b0, b1, b2, b3, b4, b5, b6, b7, b8, b9⟩ := HE1.out
  go_enter Tryd.func10, Tryd.ntmps10
  go_wp2_with fail
  rw [HW1.out]
  go_wp2_with fail
  refine HD.out.mono ?_
  rintro e w2 ⟨rfl, hb2⟩
  have HB2 := Lib.hid (below_two HB1.out hb2)
  have HE2 := Lib.hid (HE1.out.below hb2)
  clear hb2 b0 b1 b2 b3 b4 b5 b6 b7 b8 b9 HD
  obtain ⟨b0, b1, b2, b3, b4, b5, b6, b7, b8, b9⟩ := HE2.out
  obtain ⟨D, hD⟩ : ∃ D, depthR t = D := ⟨_, rfl⟩
  rw [hD] at HP hde ⊢
  clear hD
  by_cases hd : 50 < D
  · have hdz : (50 : Int) < (D : Int) := by omega
    go_wp2_with fail
    go_ret
    exact ⟨false, rfl, ⟨fun h => (by cases h), fun h => (by have := (HP.out.1 h).1; omega)⟩, HB2.out⟩
  have hdz : ¬ (50 : Int) < (D : Int) := by omega
  have HD := Lib.hid (weight_any t _ w2 (H0.out.below HB2.out))
  go_wp2_with fail
  refine HD.out.mono ?_
  rintro e w3 ⟨rfl, hb3⟩
  have HB3 := Lib.hid (below_two HB2.out hb3)
  have HE3 := Lib.hid (HE2.out.below hb3)
  clear hb3 b0 b1 b2 b3 b4 b5 b6 b7 b8 b9 HD
  obtain ⟨b0, b1, b2, b3, b4, b5, b6, b7, b8, b9⟩ := HE3.out
  obtain ⟨E, hE⟩ : ∃ E, weightR t = E := ⟨_, rfl⟩
  rw [hE] at HP hwe ⊢
  clear hE
  by_cases hw : 4000 < E
  · have hwz : (4000 : Int) < (E : Int) := by omega
    go_wp2_with fail
    go_ret
    exact ⟨false, rfl, ⟨fun h => (by cases h), fun h => (by have := (HP.out.1 h).2.1; omega)⟩, HB3.out⟩
  have hwz : ¬ (4000 : Int) < (E : Int) := by omega
  have HD := Lib.hid (shaped_any t _ w3 (H0.out.below HB3.out))
  go_wp2_with fail
  refine HD.out.mono ?_
  rintro e w4 ⟨B, rfl, hq, hb4⟩
  have HB4 := Lib.hid (below_two HB3.out hb4)
  have HE4 := Lib.hid (HE3.out.below hb4)
  have HNB : Hid (B = false → ¬ ShapedP t) := Lib.hid fun e g => by rw [hq.2 g] at e; cases e
  have HYB : Hid (B = true → ShapedP t) := Lib.hid hq.1
  clear hb4 hq b0 b1 b2 b3 b4 b5 b6 b7 b8 b9 HD
  obtain ⟨b0, b1, b2, b3, b4, b5, b6, b7, b8, b9⟩ := HE4.out
  cases B
  · have NB := Lib.hid (HNB.out rfl)
    clear HNB HYB
    go_wp2_with fail
    go_ret
    exact ⟨false, rfl, ⟨fun h => (by cases h), fun h => absurd (HP.out.1 h).2.2.1 NB.out⟩, HB4.out⟩
  have YB := Lib.hid (HYB.out rfl)
  have HD := Lib.hid (groups_any t hp (fun b => b < w4.heap.size) _ w4 (fun b h => h) (H0.out.below HB4.out).foot)
  clear HNB HYB
  go_wp2_with fail
  refine HD.out.mono ?_
  rintro e w5 ⟨v5, rfl, ho5, hb5⟩
  have HB5 := Lib.hid (below_two HB4.out hb5)
  have HK5 := Lib.hid (ho5.kds (by omega))
  clear ho5 hb5 b0 b1 b2 b3 b4 b5 b6 b7 b8 b9 HD
  obtain ⟨G, hG⟩ : ∃ G, groupsT t = G := ⟨_, rfl⟩
  rw [hG] at HP HK5 hgl
  clear hG
  obtain ⟨A5, c5, rfl, -⟩ := HK5.out
  go_wp2_with fail
  go_loopw [5] (fun i wr => ∃ m : Nat, m ≤ G.length ∧ i = .int .i64 m ∧ Below w5.heap.size w5 wr ∧ CapsFine (G.take m)) (fun i _ => G.length - (intOf i).toNat)
  case atStart => exact ⟨0, Nat.zero_le _, rfl, Below.refl _ _, fun i h => by simp at h⟩
  case round =>
    obtain ⟨m, hm, rfl, hBr, hC⟩ := hrel
    have HC := Lib.hid hC; have HBR := Lib.hid hBr
    clear hC hBr
    by_cases hlt : m < G.length
    · obtain ⟨b, o, tm, kv, sv, hA5, htm, hmm, ⟨c0, c1, c2', c3, c4, c5', c6, c7, c8, c9⟩, -⟩ := (HK5.out.below HBR.out).kid m hlt
      subst hA5
      have hmz : (m : Int) < (G.length : Int) := by omega
      have HTM := Lib.hid htm
      clear htm hmm c0 c1 c2' c3 c4 c7 c8 c9
      by_cases hcap : tm.fld.cap = (m : Int) + 1
      rotate_left
      · have e1 : (tm.fld.cap == (m : Int) + 1) = false := beq_eq_false_iff_ne.2 hcap
        have e2 : (tm.fld.cap != (m : Int) + 1) = true := bne_iff_ne.2 hcap
        have NC := Lib.hid hcap
        clear hcap
        go_wp2_with fail
        go_ret
        exact ⟨false, rfl, ⟨fun h => (by cases h), fun h => absurd (by have := ((HP.out.1 h).2.2.2 m hlt).1; rw [HTM.out] at this; exact this) NC.out⟩, below_two HB5.out HBR.out⟩
      have e2 : (tm.fld.cap != (m : Int) + 1) = false := by rw [hcap]; simp
      have YC := Lib.hid hcap
      clear hcap
      go_wp2_with fail
      obtain ⟨nm, hnm⟩ : ∃ nm, tm.fld.name = nm := ⟨_, rfl⟩
      rw [hnm] at c6
      have HNM := Lib.hid hnm
      clear hnm e2 c5'
      go_loopw [6] (fun j wy => ∃ k : Nat, k ≤ m ∧ j = .int .i64 k ∧ Below w5.heap.size w5 wy ∧ ∀ (p : Nat) (hp : p < k) (h' : p < G.length), ¬ (G[p].fld.name.toList = nm.toList ∧ nm.toList ≠ [])) (fun j _ => m - (intOf j).toNat)
      case atStart => exact ⟨0, Nat.zero_le _, rfl, HBR.out, fun p hp => by omega⟩
      case round =>
        obtain ⟨k, hk, rfl, hBy, hD⟩ := hrel
        have HDD := Lib.hid hD; have HBY := Lib.hid hBy
        clear hD hBy c6
        obtain ⟨b', o', tm', kv', sv', hA', htm', -, ⟨-, -, -, -, -, -, c6, -, -, -⟩, -⟩ := (HK5.out.below HBY.out).kid m hlt
        injection hA' with hA'
        injection hA' with hb ho
        subst hb ho
        rw [HTM.out] at htm'
        subst htm'
        rw [HNM.out] at c6
        by_cases hkm : k < m
        · have hkl : k < G.length := by omega
          obtain ⟨b', o', tk, kv2, sv2, hA', htk, -, ⟨-, -, -, -, -, -, q6, -, -, -⟩, -⟩ := (HK5.out.below HBY.out).kid k hkl
          injection hA' with hA'
          injection hA' with hb ho
          subst hb ho
          have hkz : (k : Int) < (G.length : Int) := by omega
          obtain ⟨nk, hnk⟩ : ∃ nk, tk.fld.name = nk := ⟨_, rfl⟩
          rw [hnk] at q6
          have HNK : Hid (G[k].fld.name = nk) := Lib.hid (by rw [htk, hnk])
          clear htk hnk
          by_cases heq : nk.toList = nm.toList
          · have e1 : (nk.toList == nm.toList) = true := by rw [heq]; simp
            by_cases hne : nm.toList = []
            · have n1 : nm.toList.isEmpty = true := by rw [hne]; rfl
              have NE := Lib.hid hne
              clear hne heq
              go_wp2_with fail
              go_big_quiet (fail)
              go_wp2_with fail
              go_roundw
              case rel =>
                refine ⟨k + 1, by omega, by go_num, below_drewNr HBY.out _, fun p hp h' hh => ?_⟩
                by_cases hpk : p < k
                · exact HDD.out p hpk h' hh
                · exact hh.2 NE.out
              case measure => simp [intOf]; omega
            · have n1 : nm.toList.isEmpty = false := by simpa using hne
              have NE := Lib.hid hne; have EQ := Lib.hid heq
              clear hne heq
              go_wp2_with fail
              go_big_quiet (fail)
              go_wp2_with fail
              go_ret
              exact ⟨false, rfl, ⟨fun h => (by cases h), fun h => False.elim ((((HP.out.1 h).2.2.2 m hlt).2 k hkm) (by rw [HNK.out, HTM.out, HNM.out]; exact ⟨EQ.out, NE.out⟩))⟩, below_two HB5.out (below_drewNr HBY.out _)⟩
          · have e1 : (nk.toList == nm.toList) = false := by simpa using heq
            have EQ := Lib.hid heq
            clear heq
            go_wp2_with fail
            go_big_quiet (fail)
            go_wp2_with fail
            go_roundw
            case rel =>
              refine ⟨k + 1, by omega, by go_num, below_drewNr HBY.out _, fun p hp h' hh => ?_⟩
              by_cases hpk : p < k
              · exact HDD.out p hpk h' hh
              · obtain rfl : p = k := by omega
                exact EQ.out (by rw [← HNK.out]; exact hh.1)
            case measure => simp [intOf]; omega
        · have hkm' : k = m := by omega
          subst hkm'
          go_wp2_with fail
          go_roundw
          case rel =>
            refine ⟨k + 1, by omega, by go_num, HBY.out, fun i hi => ?_⟩
            have hi' : i < G.length := by simp at hi; omega
            rw [List.getElem_take]
            by_cases hik : i < k
            · have := HC.out i (by simp; omega)
              rw [List.getElem_take] at this
              refine ⟨this.1, fun p hp => ?_⟩
              have h2 := this.2 p hp
              rw [List.getElem_take] at h2 ⊢
              exact h2
            · obtain rfl : i = k := by simp at hi; omega
              rw [HTM.out, HNM.out]
              refine ⟨YC.out, fun p hp => ?_⟩
              rw [List.getElem_take]
              exact HDD.out p hp (by omega)
          case measure => simp [intOf]; omega
    · have hmk : G.take m = G := List.take_of_length_le (by omega)
      have hc := HC.out
      rw [hmk] at hc
      have HC2 := Lib.hid hc
      clear hmk hc
      go_wp2_with fail
      go_ret
      exact ⟨true, rfl, ⟨fun _ => HP.out.2 ⟨by omega, by omega, YB.out, HC2.out⟩, fun _ => rfl⟩, below_two HB5.out HBR.out⟩
end Go.Proofs.YthnddabcmhplkaaDoor
/- A right tree has not too many parts. No condition. -/
namespace Go.Proofs.YthnddabcmhplkaaDoor
open Go Go.RowKit

theorem sum_parts : ∀ (l : List Tr), (∀ k ∈ l, partsR k ≤ weightR k * 1114114) → (l.map partsR).sum ≤ (l.map weightR).sum * 1114114
  | [], _ => Nat.le_refl _
  | k :: l, h => by
    have h1 := h k (by simp)
    have h2 := sum_parts l fun q hq => h q (by simp [hq])
    rw [List.map_cons, List.map_cons, List.sum_cons, List.sum_cons, Nat.add_mul]
    omega
theorem parts_weight (t : Tr) : ShapedP t → weightR t ≤ 4000 → partsR t ≤ weightR t * 1114114 := by
  refine Tr.ind (P := fun t => ShapedP t → weightR t ≤ 4000 → partsR t ≤ weightR t * 1114114) (fun t ih => ?_) t
  intro hs hw
  obtain ⟨hf, hk, -, hkids⟩ := (shapedP_iff t).1 hs
  have hset : t.fld.set.length ≤ 1114112 ∧ (t.fld.op ≠ 4 → t.fld.set.length = 0) := by
    refine ⟨?_, fun h => by rw [hf.2.2.2.1 h]; rfl⟩
    by_cases h : t.fld.op = 4
    · have hr := (hf.2.2.2.2.2.2.2.2.2.1 h).1
      have := right_len t.fld.set 0 (by omega) hr
      omega
    · rw [hf.2.2.2.1 h]
      exact Nat.zero_le _
  have hkid : ∀ k ∈ t.kids, weightR k ≤ (t.kids.map weightR).sum := fun k hk => sum_mem_le (List.mem_map_of_mem hk)
  obtain ⟨S, hS⟩ : ∃ S, (t.kids.map weightR).sum = S := ⟨_, rfl⟩
  have hsum : S ≤ 4000 → (t.kids.map partsR).sum ≤ S * 1114114 := fun h => by
    rw [← hS]
    exact sum_parts _ fun k hk => ih k hk (hkids k hk) (Nat.le_trans (hkid k hk) (by omega))
  have hwe := weightR_eq t
  rw [hS] at hwe
  rw [partsR_eq]
  unfold weightN at hwe
  by_cases h6 : t.fld.op = 6
  · rw [if_pos h6] at hwe
    have h0 := hset.2 (by omega)
    unfold clipR at hwe
    have := hsum (by omega)
    omega
  rw [if_neg h6] at hwe
  by_cases h7 : t.fld.op = 7 ∨ t.fld.op = 8 ∨ t.fld.op = 9 ∨ t.fld.op = 11
  · rw [if_pos h7] at hwe
    have h0 := hset.2 (by omega)
    unfold clipR at hwe
    have := hsum (by omega)
    omega
  rw [if_neg h7] at hwe
  by_cases h10 : t.fld.op = 10
  · rw [if_pos h10] at hwe
    have h0 := hset.2 (by omega)
    obtain ⟨k, hk⟩ : ∃ k, clipR (max (max t.fld.min t.fld.max) 1).toNat = k := ⟨_, rfl⟩
    have hk1 : 1 ≤ k := by
      rw [← hk]
      unfold clipR
      omega
    rw [hk] at hwe
    have hm : clipR S ≤ k * clipR S := Nat.le_mul_of_pos_left _ hk1
    obtain ⟨m, hmm⟩ : ∃ m, k * clipR S = m := ⟨_, rfl⟩
    rw [hmm] at hwe hm
    unfold clipR at hwe hm
    have := hsum (by omega)
    omega
  rw [if_neg h10] at hwe
  by_cases h12 : t.fld.op = 12
  · rw [if_pos h12] at hwe
    have h0 := hset.2 (by omega)
    have h1 := hk.2.1 h12
    unfold clipR at hwe
    have := hsum (by omega)
    omega
  rw [if_neg h12] at hwe
  have h0 : t.kids.length = 0 := by
    have := hk.2.2
    omega
  have h1 : t.kids = [] := List.eq_nil_of_length_eq_zero h0
  rw [h1, hwe]
  have := hset.1
  simp only [List.map_nil, List.sum_nil]
  omega
theorem right_few {t : Tr} (h : RightT t) : partsR t ≤ 10000000000 := by
  have := parts_weight t h.2.2.1 h.2.1
  have := h.2.1
  omega
end Go.Proofs.YthnddabcmhplkaaDoor
