/- May a tree fit nothing, does it never fit more: the program's Empty and Still, at any tree; and the library's search over Kids. -/
import Derived.Test.YthapafaeakgfpaaPRight
import Derived.Test.YthapafaeakgfpaaTrEmpty
set_option linter.unusedVariables false
namespace Go.Proofs.Ythapafaeakgfpaa
open Go Go.RowKit Go.Shelf

def IdxPost (P : Prop) (w : World) (e : Ending) (w' : World) : Prop := ∃ i : Int, e = .returned (.int .i64 i) ∧ (0 ≤ i ↔ P) ∧ -1 ≤ i ∧ Below w.heap.size w w'
set_option maxHeartbeats 1600000 in
set_option maxRecDepth 100000 in
theorem index_any (ks : List Tr) (P : Tr → Prop) (g : Nat) (eg : ∀ args w, (callFunc g args).run Try.prog w = .ok (.enter g args) w) (hg : ∀ k ∈ ks, ∀ (v : Value) (w : World), Tre w k v → Calls Try.prog g #[v] w (SaysB (P k) w)) (v : Value) (w : World) (h : Kds w ks v) :
    Calls Try.prog 64 #[v, .func (.func g) #[] #[]] w (IdxPost (∃ k ∈ ks, P k) w) := by
  have H0 := Lib.hid h
  obtain ⟨A, c, rfl, h1, h2, hnb, -⟩ := h
  obtain ⟨n, hn⟩ : ∃ n, ks.length = n := ⟨_, rfl⟩
  have HG := Lib.hid hg; have HN := Lib.hid hn
  rw [hn] at H0 h1 hnb ⊢
  obtain ⟨Q, hQ⟩ : ∃ Q : Prop, (∃ k ∈ ks, P k) = Q := ⟨_, rfl⟩
  have HQ : Hid (Q ↔ ∃ k ∈ ks, P k) := Lib.hid (by rw [hQ])
  rw [hQ]
  clear hg hn hQ
  go_enter Try.func64, Try.ntmps64
  go_wp2_with fail
  go_loopw [8] (fun i wr => ∃ k : Nat, k ≤ n ∧ i = .int .i64 k ∧ Below w.heap.size w wr ∧ ∀ (j : Nat) (hj : j < ks.length), j < k → ¬ P ks[j]) (fun i _ => n - (intOf i).toNat)
  case atStart => exact ⟨0, Nat.zero_le _, rfl, Below.refl _ _, fun j hj h => by omega⟩
  case round =>
    obtain ⟨k, hk, rfl, hB, hall⟩ := hrel
    have HB := Lib.hid hB; have HALL := Lib.hid hall
    have hKw := H0.out.below hB
    clear hB hall
    by_cases hkn : k < n
    · have hkl : k < ks.length := by rw [HN.out]; exact hkn
      obtain ⟨b, o, tk, x1, x2, x3, y1, y2, y3, rfl, htk, hm, ⟨c0, c1, c2', c3, c4, c5, c6, c7, c8, c9⟩, hTk⟩ := hKw.kidS k hkl
      have HI := Lib.hid (HG.out tk hm _ _ hTk)
      have HTK := Lib.hid htk; have HKL := Lib.hid hkl
      clear hKw htk hm hTk
      go_wp2_with fail
      refine HI.out.mono ?_
      rintro e w3 ⟨B, rfl, hq, hb3⟩
      have HB3 := Lib.hid (below_two HB.out hb3)
      have HNB : Hid (B = false → ¬ P tk) := Lib.hid fun e g => by rw [hq.2 g] at e; cases e
      have HYB : Hid (B = true → P tk) := Lib.hid hq.1
      clear hb3 hq c0 c1 c2' c3 c4 c5 c6 c7 c8 c9 HI
      cases B
      · have NB := Lib.hid (HNB.out rfl)
        clear HNB HYB
        go_wp2_with fail
        go_roundw
        case rel =>
          refine ⟨k + 1, by omega, by go_num, HB3.out, fun j hj hjk => ?_⟩
          by_cases hjk2 : j < k
          · exact HALL.out j hj hjk2
          · obtain rfl : j = k := by omega
            rw [HTK.out]
            exact NB.out
        case measure => simp [intOf]; omega
      · have YB := Lib.hid (HYB.out rfl)
        clear HNB HYB
        go_wp2_with fail
        go_ret
        exact ⟨k, rfl, ⟨fun _ => HQ.out.2 ⟨_, List.getElem_mem HKL.out, by rw [HTK.out]; exact YB.out⟩, fun _ => by omega⟩, by omega, HB3.out⟩
    · have hnone : ¬ Q := fun h => by
        obtain ⟨q, hq, hp⟩ := HQ.out.1 h
        obtain ⟨j, hj, rfl⟩ := List.mem_iff_getElem.1 hq
        exact HALL.out j hj (by have := HN.out; omega) hp
      have HNO := Lib.hid hnone
      clear hnone hKw
      go_wp2_with fail
      go_ret
      exact ⟨-1, rfl, ⟨fun h => (by omega), fun h => absurd h HNO.out⟩, by omega, HB.out⟩
set_option maxHeartbeats 1600000 in
set_option maxRecDepth 100000 in
theorem contains_any (ks : List Tr) (P : Tr → Prop) (g : Nat) (eg : ∀ args w, (callFunc g args).run Try.prog w = .ok (.enter g args) w) (hg : ∀ k ∈ ks, ∀ (v : Value) (w : World), Tre w k v → Calls Try.prog g #[v] w (SaysB (P k) w)) (v : Value) (w : World) (h : Kds w ks v) :
    Calls Try.prog 54 #[v, .func (.func g) #[] #[]] w (SaysB (∃ k ∈ ks, P k) w) := by
  have HI := Lib.hid (index_any ks P g eg hg v w h)
  obtain ⟨A, c, rfl, -⟩ := h
  obtain ⟨Q, hQ⟩ : ∃ Q : Prop, (∃ k ∈ ks, P k) = Q := ⟨_, rfl⟩
  rw [hQ] at HI ⊢
  clear hg hQ eg
  go_enter Try.func54, Try.ntmps54
  go_wp2_with fail
  refine HI.out.mono ?_
  rintro e w' ⟨i, rfl, hq, hi, hb⟩
  have HQ := Lib.hid hq; have HB := Lib.hid hb
  clear hq hb
  by_cases h0 : 0 ≤ i
  · have d0 : decide (0 ≤ i) = true := decide_eq_true h0
    have H0 := Lib.hid h0
    clear h0 hi
    go_wp2_with fail
    go_ret
    exact ⟨true, rfl, ⟨fun _ => HQ.out.1 H0.out, fun _ => rfl⟩, HB.out⟩
  · have d0 : decide (0 ≤ i) = false := decide_eq_false h0
    have H0 := Lib.hid h0
    clear h0 hi
    go_wp2_with fail
    go_ret
    exact ⟨false, rfl, ⟨fun h => (by cases h), fun h => (by have h1 := HQ.out.2 h; have h2 := H0.out; omega)⟩, HB.out⟩

def PEmptyOf (t : Tr) : Prop := ShapedP t → ∀ (v : Value) (w : World), Tre w t v → Calls Try.prog 37 #[v] w (SaysB (EmptyP t) w)
set_option maxHeartbeats 1600000 in
set_option maxRecDepth 100000 in
theorem pempty1_any (t : Tr) (hE : PEmptyOf t) (hsh : ShapedP t) (v : Value) (w : World) (h : Tre w t v) : Calls Try.prog 55 #[v] w (SaysB (¬ EmptyP t) w) := by
  have H0 := Lib.hid h
  obtain ⟨A, n, c, a2, s, c2, hn, hs, rfl, hnb, hsb, hK, hS, hF⟩ := h.opened
  obtain ⟨w1, hw1⟩ : ∃ w1, w.alloc (.cells #[.int .i64 t.fld.op, .slice A n c, .int .i32 t.fld.rune, .slice a2 s c2, .int .i64 t.fld.at', .int .i64 t.fld.cap, .string t.fld.name, .int .i64 t.fld.min, .int .i64 t.fld.max, .bool t.fld.lazy] 27) = w1 := ⟨_, rfl⟩
  have hb1 : Below w.heap.size w w1 := by rw [← hw1]; exact (Below.refl _ _).alloc (Nat.le_refl _) _
  have hE1 := box10_new w 27 (.int .i64 t.fld.op) (.slice A n c) (.int .i32 t.fld.rune) (.slice a2 s c2) (.int .i64 t.fld.at') (.int .i64 t.fld.cap) (.string t.fld.name) (.int .i64 t.fld.min) (.int .i64 t.fld.max) (.bool t.fld.lazy)
  rw [hw1] at hE1
  have HB1 := Lib.hid hb1; have HW1 := Lib.hid hw1
  have HI := Lib.hid (hE hsh _ w1 (H0.out.below hb1))
  obtain ⟨Q, hQ⟩ : ∃ Q : Prop, EmptyP t = Q := ⟨_, rfl⟩
  rw [hQ] at HI ⊢
  obtain ⟨e0, e1, e2, e3, e4, e5, e6, e7, e8, e9⟩ := hE1
  clear h hw1 hb1 hn hs hK hS hF hQ hE
  go_enter Try.func55, Try.ntmps55
  go_upto_region 1 with (fail)
  rw [HW1.out]
  go_wp2_with fail
  refine HI.out.mono ?_
  rintro e w3 ⟨B, rfl, hq, hb3⟩
  have HB3 := Lib.hid (below_two HB1.out hb3); have HQ := Lib.hid hq
  clear hb3 hq e0 e1 e2 e3 e4 e5 e6 e7 e8 e9
  cases B
  · go_wp2_with fail
    go_ret
    exact ⟨true, rfl, ⟨fun _ h => (by have := HQ.out.2 h; cases this), fun _ => rfl⟩, HB3.out⟩
  · go_wp2_with fail
    go_ret
    exact ⟨false, rfl, ⟨fun h => (by cases h), fun h => absurd (HQ.out.1 (by trivial)) h⟩, HB3.out⟩

set_option maxHeartbeats 4000000 in
set_option maxRecDepth 100000 in
theorem pempty_all (t : Tr) : PEmptyOf t := by
  refine Tr.ind (P := PEmptyOf) (fun t ih hsh v w h => ?_) t
  have H0 := Lib.hid h
  obtain ⟨A, n, c, a2, s, c2, hn, hs, rfl, hnb, hsb, hK, hS, hF⟩ := h.opened
  obtain ⟨w1, hw1⟩ : ∃ w1, w.alloc (.cells #[.int .i64 t.fld.op, .slice A n c, .int .i32 t.fld.rune, .slice a2 s c2, .int .i64 t.fld.at', .int .i64 t.fld.cap, .string t.fld.name, .int .i64 t.fld.min, .int .i64 t.fld.max, .bool t.fld.lazy] 27) = w1 := ⟨_, rfl⟩
  have hb1 : Below w.heap.size w w1 := by rw [← hw1]; exact (Below.refl _ _).alloc (Nat.le_refl _) _
  have hE1 := box10_new w 27 (.int .i64 t.fld.op) (.slice A n c) (.int .i32 t.fld.rune) (.slice a2 s c2) (.int .i64 t.fld.at') (.int .i64 t.fld.cap) (.string t.fld.name) (.int .i64 t.fld.min) (.int .i64 t.fld.max) (.bool t.fld.lazy)
  rw [hw1] at hE1
  have hK1 := hK.below hb1
  obtain ⟨hfo, hko, -, hkk⟩ := (shapedP_iff t).1 hsh
  have hop1 := hfo.1
  have hop2 := hfo.2.1
  have heq := emptyP_iff t
  obtain ⟨Q, hQ⟩ : ∃ Q : Prop, EmptyP t = Q := ⟨_, rfl⟩
  rw [hQ] at heq ⊢
  obtain ⟨op, hop⟩ : ∃ op, t.fld.op = op := ⟨_, rfl⟩
  obtain ⟨mn, hmn⟩ : ∃ x, t.fld.min = x := ⟨_, rfl⟩
  rw [hop] at hE1 hw1 heq hop1 hop2 hko
  rw [hmn] at hE1 hw1 heq
  have HB1 := Lib.hid hb1; have HW1 := Lib.hid hw1; have HEQ := Lib.hid heq; have HK1 := Lib.hid hK1
  rw [hn] at hko
  have HKO := Lib.hid hko
  have HKE : Hid (∀ k ∈ t.kids, PEmptyOf k) := Lib.hid ih
  have HKS : Hid (∀ k ∈ t.kids, ShapedP k) := Lib.hid hkk
  have HN := Lib.hid hn
  obtain ⟨e0, e1, e2, e3, e4, e5, e6, e7, e8, e9⟩ := hE1
  rw [hop, hmn]
  clear h hw1 hb1 hn hs hK hS hF hQ heq hko hkk hfo hop hmn hsh ih hK1
  go_enter Try.func37, Try.ntmps37
  go_upto_region 1 with (fail)
  rw [HW1.out]
  by_cases q1 : op = 2 ∨ op = 5 ∨ op = 7 ∨ op = 9
  · have hy : Q := by rw [HEQ.out, if_pos q1]; trivial
    have HY := Lib.hid hy
    clear hy
    rcases q1 with rfl | rfl | rfl | rfl
    all_goals
      go_wp2_with fail
      go_ret
      exact ⟨true, rfl, ⟨fun _ => HY.out, fun _ => rfl⟩, HB1.out⟩
  by_cases q2 : op = 1 ∨ op = 3 ∨ op = 4
  · have hy : ¬ Q := by rw [HEQ.out, if_neg q1, if_pos q2]; exact id
    have HY := Lib.hid hy
    clear hy
    rcases q2 with rfl | rfl | rfl
    all_goals
      go_wp2_with fail
      go_ret
      exact ⟨false, rfl, ⟨fun h => (by cases h), fun h => absurd h HY.out⟩, HB1.out⟩
  by_cases q11 : op = 11
  · subst q11
    have hq : Q ↔ ¬ ∃ k ∈ t.kids, ¬ EmptyP k := by
      rw [HEQ.out, if_neg q1, if_neg q2, if_neg (by simp), if_neg (by simp)]
      constructor
      · rintro h ⟨k, hk, hn⟩
        exact hn (h k hk)
      · exact fun h k hk => Classical.not_not.1 fun hn => h ⟨k, hk, hn⟩
    have HQ := Lib.hid hq
    have HC := Lib.hid (contains_any t.kids (fun k => ¬ EmptyP k) 55 (enters_of Try.func55 (by kernel_rfl) rfl) (fun k hk v w h => pempty1_any k (HKE.out k hk) (HKS.out k hk) v w h) _ w1 HK1.out)
    obtain ⟨X, hX⟩ : ∃ X : Prop, (∃ k ∈ t.kids, ¬ EmptyP k) = X := ⟨_, rfl⟩
    rw [hX] at HC HQ
    clear hX hq q1 q2
    go_wp2_with fail
    refine HC.out.mono ?_
    rintro e w3 ⟨B, rfl, hqb, hb3⟩
    have HB3 := Lib.hid (below_two HB1.out hb3); have HQB := Lib.hid hqb
    clear hb3 hqb e0 e1 e2 e3 e4 e5 e6 e7 e8 e9
    cases B
    · go_wp2_with fail
      go_ret
      exact ⟨true, rfl, ⟨fun _ => HQ.out.2 fun h => (by have := HQB.out.2 h; cases this), fun _ => rfl⟩, HB3.out⟩
    · go_wp2_with fail
      go_ret
      exact ⟨false, rfl, ⟨fun h => (by cases h), fun h => absurd (HQB.out.1 (by trivial)) (HQ.out.1 h)⟩, HB3.out⟩
  by_cases q12 : op = 12
  · subst q12
    have hq : Q ↔ ∃ k ∈ t.kids, EmptyP k := by
      rw [HEQ.out, if_neg q1, if_neg q2, if_neg (by simp), if_pos rfl]
    have HQ := Lib.hid hq
    have HC := Lib.hid (contains_any t.kids (fun k => EmptyP k) 37 (enters_of Try.func37 (by kernel_rfl) rfl) (fun k hk v w h => HKE.out k hk (HKS.out k hk) v w h) _ w1 HK1.out)
    obtain ⟨X, hX⟩ : ∃ X : Prop, (∃ k ∈ t.kids, EmptyP k) = X := ⟨_, rfl⟩
    rw [hX] at HC HQ
    clear hX hq q1 q2 q11
    go_wp2_with fail
    refine HC.out.mono ?_
    rintro e w3 ⟨B, rfl, hqb, hb3⟩
    have HB3 := Lib.hid (below_two HB1.out hb3); have HQB := Lib.hid hqb
    clear hb3 hqb e0 e1 e2 e3 e4 e5 e6 e7 e8 e9
    go_wp2_with fail
    go_ret
    exact ⟨B, rfl, HQB.out.trans HQ.out.symm, HB3.out⟩
  -- one Kid
  have h1 : op = 6 ∨ op = 8 ∨ op = 10 := by omega
  have hn1 : n = 1 := HKO.out.1 (by omega)
  subst hn1
  have hk0 : 0 < t.kids.length := by rw [HN.out]; omega
  obtain ⟨b, o, tk, x1, x2, x3, y1, y2, y3, rfl, htk, hm, ⟨c0, c1, c2', c3, c4, c5, c6, c7, c8, c9⟩, hTk⟩ := HK1.out.kidS 0 hk0
  have hall : (∀ k ∈ t.kids, EmptyP k) ↔ EmptyP tk := by
    constructor
    · exact fun h => h tk hm
    · intro h k hk
      obtain ⟨j, hj, rfl⟩ := List.mem_iff_getElem.1 hk
      have : j = 0 := by have := HN.out; omega
      subst this
      rw [htk]
      exact h
  have HALL := Lib.hid hall
  have HI := Lib.hid (HKE.out tk hm (HKS.out tk hm) _ _ hTk)
  clear htk hm hTk hall hk0
  simp only [Nat.zero_mul, Nat.add_zero] at c0 c1 c2' c3 c4 c5 c6 c7 c8 c9
  by_cases q10 : op = 10 ∧ mn = 0
  · obtain ⟨rfl, rfl⟩ := q10
    have hy : Q := by rw [HEQ.out, if_neg q1, if_neg q2, if_pos ⟨rfl, rfl⟩]; trivial
    have HY := Lib.hid hy
    clear hy q1 q2 q11 q12 h1
    go_wp2_with fail
    go_ret
    exact ⟨true, rfl, ⟨fun _ => HY.out, fun _ => rfl⟩, HB1.out⟩
  have hq : Q ↔ EmptyP tk := by rw [HEQ.out, if_neg q1, if_neg q2, if_neg q10, if_neg q12]; exact HALL.out
  have HQ := Lib.hid hq
  obtain ⟨X, hX⟩ : ∃ X : Prop, EmptyP tk = X := ⟨_, rfl⟩
  rw [hX] at HI HQ
  have hm10 : op = 10 → (mn == 0) = false := fun e => beq_eq_false_iff_ne.2 fun h => q10 ⟨e, h⟩
  have HM10 := Lib.hid hm10
  clear hq hX q1 q2 q11 q12 q10 hm10
  rcases h1 with rfl | rfl | rfl
  · clear HM10
    go_wp2_with fail
    refine HI.out.mono ?_
    rintro e w3 ⟨B, rfl, hqb, hb3⟩
    have HB3 := Lib.hid (below_two HB1.out hb3); have HQB := Lib.hid hqb
    clear hb3 hqb e0 e1 e2 e3 e4 e5 e6 e7 e8 e9 c0 c1 c2' c3 c4 c5 c6 c7 c8 c9
    go_wp2_with fail
    go_ret
    exact ⟨B, rfl, HQB.out.trans HQ.out.symm, HB3.out⟩
  · clear HM10
    go_wp2_with fail
    refine HI.out.mono ?_
    rintro e w3 ⟨B, rfl, hqb, hb3⟩
    have HB3 := Lib.hid (below_two HB1.out hb3); have HQB := Lib.hid hqb
    clear hb3 hqb e0 e1 e2 e3 e4 e5 e6 e7 e8 e9 c0 c1 c2' c3 c4 c5 c6 c7 c8 c9
    go_wp2_with fail
    go_ret
    exact ⟨B, rfl, HQB.out.trans HQ.out.symm, HB3.out⟩
  · have dm := HM10.out rfl
    go_wp2_with fail
    refine HI.out.mono ?_
    rintro e w3 ⟨B, rfl, hqb, hb3⟩
    have HB3 := Lib.hid (below_two HB1.out hb3); have HQB := Lib.hid hqb
    clear hb3 hqb e0 e1 e2 e3 e4 e5 e6 e7 e8 e9 c0 c1 c2' c3 c4 c5 c6 c7 c8 c9
    go_wp2_with fail
    go_ret
    exact ⟨B, rfl, HQB.out.trans HQ.out.symm, HB3.out⟩

set_option maxHeartbeats 1600000 in
set_option maxRecDepth 100000 in
theorem pempty_any (t : Tr) (hp : partsR t ≤ 1000000) (v : Value) (w : World) (h : Tre w t v) : Calls Try.prog 16 #[v] w (SaysB (RightT t ∧ EmptyP t) w) := by
  have H0 := Lib.hid h
  obtain ⟨A, n, c, a2, s, c2, hn, hs, rfl, hnb, hsb, hK, hS, hF⟩ := h.opened
  obtain ⟨w1, hw1⟩ : ∃ w1, w.alloc (.cells #[.int .i64 t.fld.op, .slice A n c, .int .i32 t.fld.rune, .slice a2 s c2, .int .i64 t.fld.at', .int .i64 t.fld.cap, .string t.fld.name, .int .i64 t.fld.min, .int .i64 t.fld.max, .bool t.fld.lazy] 27) = w1 := ⟨_, rfl⟩
  have hb1 : Below w.heap.size w w1 := by rw [← hw1]; exact (Below.refl _ _).alloc (Nat.le_refl _) _
  have hE1 := box10_new w 27 (.int .i64 t.fld.op) (.slice A n c) (.int .i32 t.fld.rune) (.slice a2 s c2) (.int .i64 t.fld.at') (.int .i64 t.fld.cap) (.string t.fld.name) (.int .i64 t.fld.min) (.int .i64 t.fld.max) (.bool t.fld.lazy)
  rw [hw1] at hE1
  have HB1 := Lib.hid hb1; have HW1 := Lib.hid hw1; have HE1 := Lib.hid hE1
  have HRT := Lib.hid (pright_any t hp _ w1 (H0.out.below hb1))
  obtain ⟨e0, e1, e2, e3, e4, e5, e6, e7, e8, e9⟩ := hE1
  clear h hw1 hb1 hn hs hK hS hF
  go_enter Try.func16, Try.ntmps16
  go_upto_region 1 with (fail)
  rw [HW1.out]
  go_wp2_with fail
  refine HRT.out.mono ?_
  rintro e w2 ⟨B, rfl, hq, hb2⟩
  have HB2 := Lib.hid (below_two HB1.out hb2); have HQ := Lib.hid hq
  have HE2 := Lib.hid (HE1.out.below hb2)
  clear hb2 hq e0 e1 e2 e3 e4 e5 e6 e7 e8 e9 HRT
  obtain ⟨e0, e1, e2, e3, e4, e5, e6, e7, e8, e9⟩ := HE2.out
  cases B
  · have HN : Hid (¬ RightT t) := Lib.hid fun h => by have := HQ.out.2 h; cases this
    go_wp2_with fail
    go_ret
    exact ⟨false, rfl, ⟨fun h => (by cases h), fun h => absurd h.1 HN.out⟩, HB2.out⟩
  have HR := Lib.hid (HQ.out.1 rfl)
  have HI := Lib.hid (pempty_all t HR.out.2.2.1 _ w2 (H0.out.below HB2.out))
  clear HQ
  go_wp2_with fail
  refine HI.out.mono ?_
  rintro e w3 ⟨B, rfl, hq, hb3⟩
  have HB3 := Lib.hid (below_two HB2.out hb3); have HQ := Lib.hid hq
  clear hb3 hq e0 e1 e2 e3 e4 e5 e6 e7 e8 e9 HI
  go_wp2_with fail
  go_ret
  exact ⟨B, rfl, ⟨fun h => ⟨HR.out, HQ.out.1 h⟩, fun h => HQ.out.2 h.2⟩, HB3.out⟩

attribute [local go_sem] Oper.semAt_some

theorem still_parts (t : Tr) : ∀ d, StillP t ↔ ∀ q ∈ partsT t d, ¬ (q.1.fld.op = 3 ∨ q.1.fld.op = 4) := by
  refine Tr.ind (P := fun t => ∀ d, StillP t ↔ ∀ q ∈ partsT t d, ¬ (q.1.fld.op = 3 ∨ q.1.fld.op = 4)) (fun t ih d => ?_) t
  rw [stillP_iff, partsT_eq]
  constructor
  · rintro ⟨h1, h4⟩ q hq
    rcases List.mem_cons.1 hq with rfl | hq
    · exact h1
    · obtain ⟨l, hl, hq⟩ := List.mem_flatten.1 hq
      obtain ⟨k, hk, rfl⟩ := List.mem_map.1 hl
      exact (ih k hk (d + 1)).1 (h4 k hk) q hq
  · intro h
    exact ⟨h (t, d) (by simp), fun k hk => (ih k hk (d + 1)).2 fun q hq => h q (List.mem_cons_of_mem _ (List.mem_flatten.2 ⟨_, List.mem_map.2 ⟨k, hk, rfl⟩, hq⟩))⟩

set_option maxHeartbeats 2000000 in
set_option maxRecDepth 100000 in
theorem pstill_any (t : Tr) (hp : partsR t ≤ 1000000) (v : Value) (w : World) (h : Tre w t v) : Calls Try.prog 18 #[v] w (SaysB (RightT t ∧ StillP t) w) := by
  have H0 := Lib.hid h
  obtain ⟨A, m, c, a2, s, c2, hm, hs, rfl, hmb, hsb, hK, hS, hF⟩ := h.opened
  have hsh := still_parts t 1
  obtain ⟨w1, hw1⟩ : ∃ w1, w.alloc (.cells #[.int .i64 t.fld.op, .slice A m c, .int .i32 t.fld.rune, .slice a2 s c2, .int .i64 t.fld.at', .int .i64 t.fld.cap, .string t.fld.name, .int .i64 t.fld.min, .int .i64 t.fld.max, .bool t.fld.lazy] 27) = w1 := ⟨_, rfl⟩
  have hb1 : Below w.heap.size w w1 := by rw [← hw1]; exact (Below.refl _ _).alloc (Nat.le_refl _) _
  have hE1 : Whole w1 w.heap.size 27 #[.int .i64 t.fld.op, .slice A m c, .int .i32 t.fld.rune, .slice a2 s c2, .int .i64 t.fld.at', .int .i64 t.fld.cap, .string t.fld.name, .int .i64 t.fld.min, .int .i64 t.fld.max, .bool t.fld.lazy] := by rw [← hw1]; exact heap_alloc_new w _
  have hs1 : w1.heap.size = w.heap.size + 1 := by rw [← hw1]; simp
  obtain ⟨w2, hw2⟩ : ∃ w2, w1.alloc (.cells #[.bool false] 4) = w2 := ⟨_, rfl⟩
  have hb2 : Below w.heap.size w w2 := by rw [← hw2]; exact hb1.alloc (by omega) _
  have hE2 : Whole w2 w.heap.size 27 _ := hw2 ▸ hE1.alloc _
  have hX2 : Boxed w2 (w.heap.size + 1) 4 (.bool false) := by rw [← hw2, ← hs1]; exact Boxed.new w1 _ _
  have HRT := Lib.hid (pright_any t hp _ w2 (h.below hb2))
  have HW1 := Lib.hid hw1; have HW2 := Lib.hid hw2; have HB2 := Lib.hid hb2; have HX2 := Lib.hid hX2; have HM := Lib.hid hsh; have HE2 := Lib.hid hE2
  obtain ⟨e0, e1, e2, e3, e4, e5, e6, e7, e8, e9⟩ := hE2.ten
  clear hw1 hb1 hE1 hs1 hw2 hb2 hE2 hX2 hsh h hm hs hK hS hF
  refine (callsIn_wide (n := 8)).1 ?_
  refine callsIn_of_wp_marks Try.func18 rfl trivial ?_ rfl
  simp only [Try.ntmps18, List.size_toArray, List.length_cons, List.length_nil, Nat.reduceAdd, Nat.reduceSub, Array.replicate_succ, Array.replicate_zero, List.push_toArray, List.append_toArray, List.nil_append, List.cons_append]
  gi_upto_region 1 with (fail)
  rw [HW1.out, HW2.out]
  gi_wp2_with fail
  refine ⟨trivial, ?_⟩
  gi_at_call 12
  refine (callsIn_wide.2 HRT.out).mono ?_
  rintro e W2 ⟨R, rfl, hq, hb3⟩
  have hE3 : Whole W2 w.heap.size 27 _ := (hb3.block _ HE2.out.lt).trans HE2.out
  have hX3 := whole_boxed HX2.out hb3
  have HB3 := Lib.hid (HB2.out.trans (hb3.mono HB2.out.size)); have HX3 := Lib.hid hX3
  have HNB : Hid (R = false → ¬ RightT t) := Lib.hid fun e g => by rw [hq.2 g] at e; cases e
  have HYB : Hid (R = true → RightT t) := Lib.hid hq.1
  have r1 := hX3.cell
  have g1 := hX3.frozen
  clear e0 e1 e2 e3 e4 e5 e6 e7 e8 e9 hb3 HE2 HB2 HW1 HW2 HRT HX2 hX3 hq
  obtain ⟨e0, e1, e2, e3, e4, e5, e6, e7, e8, e9⟩ := hE3.ten
  cases R
  · have NB := Lib.hid (HNB.out rfl)
    clear HNB HYB
    gi_wp2_with fail
    have hc5 := (HX3.out.set (.bool false)).cell
    refine ⟨.bool false, ?_, false, rfl, ⟨fun h => (by cases h), fun h => absurd h.1 NB.out⟩, HB3.out.setCell (p := ⟨w.heap.size + 1, 0, none⟩) (by simp) _⟩
    simp [results, Try.f18, go_sem, hc5]
  have YB := Lib.hid (HYB.out rfl)
  clear HNB HYB hE3
  gi_wp2_with (refine ⟨trivial, ?_⟩; gi_at_call 32; refine (callsIn_wide.2 (pparts_any _ _ _ _ _ _ _ _ _ _ _)).mono ?_; rintro e W1 ⟨rfl, rfl⟩)
  obtain ⟨q, hq⟩ : ∃ q, W2.heap.size = q := ⟨_, rfl⟩
  obtain ⟨w3, hw3⟩ : ∃ w3, W2.alloc (.cells #[.int .i64 t.fld.op, .slice A m c, .int .i32 t.fld.rune, .slice a2 s c2, .int .i64 t.fld.at', .int .i64 t.fld.cap, .string t.fld.name, .int .i64 t.fld.min, .int .i64 t.fld.max, .bool t.fld.lazy] 27) = w3 := ⟨_, rfl⟩
  have hb3 : Below w.heap.size w w3 := by rw [← hw3]; exact HB3.out.alloc HB3.out.size _
  have hE3 := box10_new W2 27 (.int .i64 t.fld.op) (.slice A m c) (.int .i32 t.fld.rune) (.slice a2 s c2) (.int .i64 t.fld.at') (.int .i64 t.fld.cap) (.string t.fld.name) (.int .i64 t.fld.min) (.int .i64 t.fld.max) (.bool t.fld.lazy)
  have hX4 : Boxed w3 (w.heap.size + 1) 4 (.bool false) := by rw [← hw3]; exact HX3.out.alloc _
  have hs3 : w3.heap.size = q + 1 := by rw [← hw3]; simp [hq]
  have hqw : w.heap.size + 1 < q := by rw [← hq]; exact HX3.out.lt
  rw [hw3, hq] at hE3
  rw [hw3, hq]
  have HB4 := Lib.hid hb3; have HX4 := Lib.hid hX4
  clear e0 e1 e2 e3 e4 e5 e6 e7 e8 e9 hw3 HX3 HB3 r1 g1 hq
  refine wpIn_rangeFunc_ownH rfl (by decide) (gf := 46) (lb := #[.pointer (some ⟨q, 0, none⟩)]) rfl trivial (enters_of Try.func46 (by kernel_rfl) rfl)
    (parts_stops 7 q w t hp _ w3 hb3 H0.out (by intro x0 x1 x2 x3 x4 x5 x6 x7 x8 x9 e; injection e with e; injection e with e; cases e; exact hE3)) KpT.trans
    (fun W l ob ob' hl h1 h2 h3 => ⟨belowK_b (w := w) (Nat.le_refl _) W l ob ob' (by omega) h1 h2 h3, KeepsTr.grown (grownBy_putObj' W l ob') (fun r e cs h => by cases e; rw [h1] at h; cases h; cases h2)⟩) (Below.refl _ _) (fun _ => rfl)
    (fun pre W => (∀ q ∈ keys pre, ¬ (q.1.fld.op = 3 ∨ q.1.fld.op = 4)) ∧ BoxB w false W)
    (fun c pre W => (c = .ret ∧ ∃ q ∈ keys pre, (q.1.fld.op = 3 ∨ q.1.fld.op = 4)) ∧ BoxB w false W)
    (OwnFrom.and (ownFrom_pure _ _) (boxB_own w (by omega) _))
    (fun c => OwnFrom.and (ownFrom_pure _ _) (boxB_own w (by omega) _))
    ⟨by simp [keys], hX4, hb3⟩
    (PartAt (w.heap.size + 2) fun x Bx => { tmps := #[.agg #[.int .i64 t.fld.op, .slice A m c, .int .i32 t.fld.rune, .slice a2 s c2, .int .i64 t.fld.at', .int .i64 t.fld.cap, .string t.fld.name, .int .i64 t.fld.min, .int .i64 t.fld.max, .bool t.fld.lazy], .pointer (some ⟨w.heap.size, 0, none⟩), .pointer (some ⟨w.heap.size + 1, 0, none⟩), .pointer (some ⟨Bx, 0, none⟩), .agg #[.int .i64 t.fld.op, .slice A m c, .int .i32 t.fld.rune, .slice a2 s c2, .int .i64 t.fld.at', .int .i64 t.fld.cap, .string t.fld.name, .int .i64 t.fld.min, .int .i64 t.fld.max, .bool t.fld.lazy], .bool true, .bool false, .agg #[.int .i64 t.fld.op, .slice A m c, .int .i32 t.fld.rune, .slice a2 s c2, .int .i64 t.fld.at', .int .i64 t.fld.cap, .string t.fld.name, .int .i64 t.fld.min, .int .i64 t.fld.max, .bool t.fld.lazy], .func (.func 46) #[] #[.pointer (some ⟨q, 0, none⟩)], x.1.2.1, .int .i64 x.1.2.2, undef, undef, undef, undef, undef, undef, undef, undef], defers := [] })
    partAt_own ?assign ?body ?done ?stop
  case assign =>
    rintro l pre x W K ⟨hq, hX, hB⟩ hK
    obtain ⟨A', n', c', a2', s', c2', hv⟩ := part_opened x
    have hvl : Part.vals x = #[.agg #[.int .i64 x.1.1.fld.op, .slice A' n' c', .int .i32 x.1.1.fld.rune, .slice a2' s' c2', .int .i64 x.1.1.fld.at', .int .i64 x.1.1.fld.cap, .string x.1.1.fld.name, .int .i64 x.1.1.fld.min, .int .i64 x.1.1.fld.max, .bool x.1.1.fld.lazy], .int .i64 x.1.2.2] := by unfold Part.vals; rw [hv]
    rw [hvl]
    have HK := Lib.hid hK; have HX := Lib.hid hX; have HB := Lib.hid hB; have HQ := Lib.hid hq; have HV := Lib.hid hv
    obtain ⟨wn, hwn⟩ : ∃ wn, W.alloc (.cells #[.int .i64 x.1.1.fld.op, .slice A' n' c', .int .i32 x.1.1.fld.rune, .slice a2' s' c2', .int .i64 x.1.1.fld.at', .int .i64 x.1.1.fld.cap, .string x.1.1.fld.name, .int .i64 x.1.1.fld.min, .int .i64 x.1.1.fld.max, .bool x.1.1.fld.lazy] 27) = wn := ⟨_, rfl⟩
    have HWN := Lib.hid hwn
    clear hK hX hB hq hv hwn hvl
    gi_wp2
    rw [HWN.out]
    have hbn : Below W.heap.size W wn := by rw [← HWN.out]; exact (Below.refl _ _).alloc (Nat.le_refl _) _
    refine HK.out _ _ ((others_below hbn).from _) (KpT.below HB.out.size hbn) ⟨HQ.out, whole_boxed HX.out hbn, HB.out.trans (hbn.mono HB.out.size)⟩ ⟨W.heap.size, _, HX.out.lt, HV.out, by rw [← HWN.out]; exact heap_alloc_new W _, by dsimp only; rw [HV.out]⟩
  case body =>
    rintro l pre x a' W hl hr ⟨hq, hX, hB⟩ ⟨Bx, cs, hBx, hv, hC, rfl⟩ hlt
    obtain ⟨A', n', c', a2', s', c2', hv'⟩ := part_opened x
    rw [hv'] at hv
    injection hv with hv
    subst hv
    have hks : keys (pre ++ [x]) = keys pre ++ [(x.1.1, x.1.2.2)] := keys_snoc pre x
    dsimp only
    rw [hv']
    obtain ⟨tk, htk⟩ : ∃ tk, x.1.1 = tk := ⟨_, rfl⟩
    rw [htk] at hks hC ⊢
    have HX := Lib.hid hX; have HB := Lib.hid hB; have HKS := Lib.hid hks; have HQ := Lib.hid hq
    obtain ⟨e0, e1, e2, e3, e4, e5, e6, e7, e8, e9⟩ := Whole.ten hC
    have r1 := hX.cell
    have g1 := hX.frozen
    obtain ⟨op, hop⟩ : ∃ op, tk.fld.op = op := ⟨_, rfl⟩
    rw [hop] at e0
    have HOP := Lib.hid hop
    clear hX hB hks hC hv' hq htk hop
    by_cases h3 : op = 3
    · subst h3
      gi_wp2_with fail
      exact ⟨(KeepsOthers.setCell _ _ _).from _, ⟨rfl, (tk, x.1.2.2), by rw [HKS.out]; simp, .inl HOP.out⟩, HX.out.set _, HB.out.setCell (p := ⟨w.heap.size + 1, 0, none⟩) (by simp) _⟩
    by_cases h4 : op = 4
    · subst h4
      clear h3
      gi_wp2_with fail
      exact ⟨(KeepsOthers.setCell _ _ _).from _, ⟨rfl, (tk, x.1.2.2), by rw [HKS.out]; simp, .inr HOP.out⟩, HX.out.set _, HB.out.setCell (p := ⟨w.heap.size + 1, 0, none⟩) (by simp) _⟩
    have d3 : (op == 3) = false := beq_eq_false_iff_ne.2 h3
    have d4 : (op == 4) = false := beq_eq_false_iff_ne.2 h4
    have hgood : ∀ q ∈ keys (pre ++ [x]), ¬ (q.1.fld.op = 3 ∨ q.1.fld.op = 4) := by
      rw [HKS.out]
      intro y hy
      rcases List.mem_append.1 hy with hy | hy
      · exact HQ.out y hy
      · rw [List.mem_singleton.1 hy]
        simp only
        rw [HOP.out]
        exact fun h => h.elim h3 h4
    have HGOOD := Lib.hid hgood
    clear h3 h4 hgood
    gi_wp2_with fail
    exact ⟨KeepsFrom.refl _ _, ⟨Below.refl _ _, KeepsTr.refl _⟩, HGOOD.out, HX.out, HB.out⟩
  case done =>
    rintro D xs W hD hS ⟨hq, hX, hB⟩ hK
    have hsh : StillP t := HM.out.2 (by rw [← hS]; exact hq)
    have HX := Lib.hid hX; have HB := Lib.hid hB; have HK := Lib.hid hK; have HSH := Lib.hid hsh
    have c2 := hX.cell
    have f2 := hX.frozen
    clear hX hB hK hS hq hsh
    gi_wp2
    have hK' := (KeepsOthers.setCell W ⟨w.heap.size + 1, 0, none⟩ (.bool true)).same D _ HK.out rfl
    refine ⟨by simp, .inl ⟨_, _, rfl, run_takeDeferred hK', ?_⟩⟩
    have hc5 := cell_kept (HX.out.set (.bool true)).cell (grownBy_putObj' _ D (.deferred none)) (fun r e => by cases e; exact ⟨_, hK', rfl⟩)
    refine ⟨.bool true, ?_, true, rfl, ⟨fun _ => ⟨YB.out, HSH.out⟩, fun _ => rfl⟩, (HB.out.setCell (p := ⟨w.heap.size + 1, 0, none⟩) (by simp) _).trans (belowK_b (w := w) (Nat.le_refl _) _ D _ _ (by omega) hK' rfl rfl)⟩
    simp [results, Try.f18, go_sem, hc5]
  case stop =>
    rintro D c pre W hD hpre ⟨⟨rfl, y, hy, hn⟩, hX, hB⟩ hK
    have hsh : ¬ StillP t := fun h => HM.out.1 h y (hpre.subset hy) hn
    have HX := Lib.hid hX; have HB := Lib.hid hB; have HK := Lib.hid hK; have HSH := Lib.hid hsh
    clear hX hB hK hsh hpre hn hy
    gi_wp2
    refine ⟨by simp, .inl ⟨_, _, rfl, run_takeDeferred HK.out, ?_⟩⟩
    have hc5 := cell_kept HX.out.cell (grownBy_putObj' _ D (.deferred none)) (fun r e => by cases e; exact ⟨_, HK.out, rfl⟩)
    refine ⟨.bool false, ?_, false, rfl, ⟨fun h => (by cases h), fun h => absurd h.2 HSH.out⟩, HB.out.trans (belowK_b (w := w) (Nat.le_refl _) W D _ _ (by omega) HK.out rfl rfl)⟩
    simp [results, Try.f18, go_sem, hc5]
end Go.Proofs.Ythapafaeakgfpaa
