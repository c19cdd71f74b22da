/- The library's search over instructions, and over ints, by a closure over a box; are all places instructions' places; is a program right. -/
import Derived.Test.YtlkbdbijlnjjbaaPgSound
set_option linter.unusedVariables false
namespace Go.Proofs.Ytlkbdbijlnjjbaa
open Go Go.RowKit

def IdxG (P : Prop) (w : World) (e : Ending) (w' : World) : Prop := ∃ i : Int, e = .returned (.int .i64 i) ∧ (0 ≤ i ↔ P) ∧ -1 ≤ i ∧ Below w.heap.size w w'

set_option maxHeartbeats 1600000 in
set_option maxRecDepth 100000 in
theorem indexI_any (L : List Ins) (P : Ins → Prop) (g q : Nat) (w0 : World) (eg : ∀ args w, (callFunc g args).run Try.prog w = .ok (.enter g args) w) (hg : ∀ x ∈ L, ∀ (v : Value) (W : World), Below w0.heap.size w0 W → InsV W x v → Calls Try.prog g #[v, .pointer (some ⟨q, 0, none⟩)] W (SaysG (P x) W)) (v : Value) (w : World) (hw : Below w0.heap.size w0 w) (h : Inss w v L) :
    Calls Try.prog 49 #[v, .func (.func g) #[] #[.pointer (some ⟨q, 0, none⟩)]] w (IdxG (∃ x ∈ L, P x) w) := by
  have H0 := Lib.hid h; have HW := Lib.hid hw
  obtain ⟨n, hn⟩ : ∃ n, L.length = n := ⟨_, rfl⟩
  obtain ⟨A, c, rfl, h1, h2, -⟩ := h
  have hnb : L.length ≤ 9223372036854775807 := by unfold maxLen at h2; omega
  have HG := Lib.hid hg; have HN := Lib.hid hn
  rw [hn] at H0 h1 hnb ⊢
  obtain ⟨Q, hQ⟩ : ∃ Q : Prop, (∃ x ∈ L, P x) = Q := ⟨_, rfl⟩
  have HQ : Hid (Q ↔ ∃ x ∈ L, P x) := Lib.hid (by rw [hQ])
  rw [hQ]
  clear hg hn hQ hw h2
  go_enter Try.func49, Try.ntmps49
  go_wp2_with fail
  go_loopw [8] (fun i wr => ∃ k : Nat, k ≤ n ∧ i = .int .i64 k ∧ Below w.heap.size w wr ∧ ∀ (j : Nat) (hj : j < L.length), j < k → ¬ P L[j]) (fun i _ => n - (intOf i).toNat)
  case atStart => exact ⟨0, Nat.zero_le _, rfl, Below.refl _ _, fun j hj h => by omega⟩
  case round =>
    obtain ⟨k, hk, rfl, hB, hall⟩ := hrel
    have HB := Lib.hid hB; have HALL := Lib.hid hall
    have hKw := H0.out.below hB
    have HB1 := Lib.hid (below_steps HW.out hB)
    clear hB hall
    by_cases hkn : k < n
    · have hkl : k < L.length := by rw [HN.out]; exact hkn
      obtain ⟨b, o, x, a2, s, c2, rfl, hx, hm, -, -, ⟨k0, k1, k2, k3, k4⟩, -, -, hIV⟩ := hKw.at' k hkl
      have HI := Lib.hid (HG.out x hm _ wr HB1.out hIV)
      have HTK := Lib.hid hx; have HKL := Lib.hid hkl
      clear hKw hx hm
      go_wp2_with fail
      refine HI.out.mono ?_
      rintro e w3 ⟨B, rfl, hq, hb3⟩
      have HB3 := Lib.hid (below_steps HB.out hb3)
      have HNB : Hid (B = false → ¬ P x) := Lib.hid fun e g => by rw [hq.2 g] at e; cases e
      have HYB : Hid (B = true → P x) := Lib.hid hq.1
      clear hb3 hq k0 k1 k2 k3 k4 hIV HI
      cases B
      · have NB := Lib.hid (HNB.out rfl)
        clear HNB HYB
        go_wp2_with fail
        go_roundw
        case rel =>
          refine ⟨k + 1, by omega, by go_num, HB3.out, fun j hj hjk => ?_⟩
          by_cases hjk2 : j < k
          · exact HALL.out j hj hjk2
          · obtain rfl : j = k := by omega
            rw [HTK.out]
            exact NB.out
        case measure => simp [intOf]; omega
      · have YB := Lib.hid (HYB.out rfl)
        clear HNB HYB
        go_wp2_with fail
        go_ret
        exact ⟨k, rfl, ⟨fun _ => HQ.out.2 ⟨_, List.getElem_mem HKL.out, by rw [HTK.out]; exact YB.out⟩, fun _ => by omega⟩, by omega, HB3.out⟩
    · have hnone : ¬ Q := fun h => by
        obtain ⟨q, hq, hp⟩ := HQ.out.1 h
        obtain ⟨j, hj, rfl⟩ := List.mem_iff_getElem.1 hq
        exact HALL.out j hj (by have := HN.out; omega) hp
      have HNO := Lib.hid hnone
      clear hnone hKw
      go_wp2_with fail
      go_ret
      exact ⟨-1, rfl, ⟨fun h => (by omega), fun h => absurd h HNO.out⟩, by omega, HB.out⟩
set_option maxHeartbeats 1600000 in
set_option maxRecDepth 100000 in
theorem containsI_any (L : List Ins) (P : Ins → Prop) (g q : Nat) (w0 : World) (eg : ∀ args w, (callFunc g args).run Try.prog w = .ok (.enter g args) w) (hg : ∀ x ∈ L, ∀ (v : Value) (W : World), Below w0.heap.size w0 W → InsV W x v → Calls Try.prog g #[v, .pointer (some ⟨q, 0, none⟩)] W (SaysG (P x) W)) (v : Value) (w : World) (hw : Below w0.heap.size w0 w) (h : Inss w v L) :
    Calls Try.prog 38 #[v, .func (.func g) #[] #[.pointer (some ⟨q, 0, none⟩)]] w (SaysG (∃ x ∈ L, P x) w) := by
  have HI := Lib.hid (indexI_any L P g q w0 eg hg v w hw h)
  obtain ⟨A, c, rfl, -⟩ := h
  obtain ⟨Q, hQ⟩ : ∃ Q : Prop, (∃ x ∈ L, P x) = Q := ⟨_, rfl⟩
  rw [hQ] at HI ⊢
  clear hg hQ eg hw
  go_enter Try.func38, Try.ntmps38
  go_wp2_with fail
  refine HI.out.mono ?_
  rintro e w' ⟨i, rfl, hq, hi, hb⟩
  have HQ := Lib.hid hq; have HB := Lib.hid hb
  clear hq hb
  by_cases h0 : 0 ≤ i
  · have d0 : decide (0 ≤ i) = true := decide_eq_true h0
    have H0 := Lib.hid h0
    clear h0 hi
    go_wp2_with fail
    go_ret
    exact ⟨true, rfl, ⟨fun _ => HQ.out.1 H0.out, fun _ => rfl⟩, HB.out⟩
  · have d0 : decide (0 ≤ i) = false := decide_eq_false h0
    have H0 := Lib.hid h0
    clear h0 hi
    go_wp2_with fail
    go_ret
    exact ⟨false, rfl, ⟨fun h => (by cases h), fun h => (by have h1 := HQ.out.2 h; have h2 := H0.out; omega)⟩, HB.out⟩

set_option maxHeartbeats 1600000 in
set_option maxRecDepth 100000 in
theorem indexZ_any (L : List Int) (P : Int → Prop) (g q : Nat) (w0 : World) (eg : ∀ args w, (callFunc g args).run Try.prog w = .ok (.enter g args) w) (hg : ∀ x ∈ L, ∀ (W : World), Below w0.heap.size w0 W → R64 x → Calls Try.prog g #[.int .i64 x, .pointer (some ⟨q, 0, none⟩)] W (SaysG (P x) W)) (v : Value) (w : World) (hw : Below w0.heap.size w0 w) (h : Zs w v L) :
    Calls Try.prog 52 #[v, .func (.func g) #[] #[.pointer (some ⟨q, 0, none⟩)]] w (IdxG (∃ x ∈ L, P x) w) := by
  have H0 := Lib.hid h; have HW := Lib.hid hw
  obtain ⟨n, hn⟩ : ∃ n, L.length = n := ⟨_, rfl⟩
  obtain ⟨A, c, rfl, h1, h2, -⟩ := h
  have hnb : L.length ≤ 9223372036854775807 := by unfold maxLen at h2; omega
  have HG := Lib.hid hg; have HN := Lib.hid hn
  rw [hn] at H0 h1 hnb ⊢
  obtain ⟨Q, hQ⟩ : ∃ Q : Prop, (∃ x ∈ L, P x) = Q := ⟨_, rfl⟩
  have HQ : Hid (Q ↔ ∃ x ∈ L, P x) := Lib.hid (by rw [hQ])
  rw [hQ]
  clear hg hn hQ hw h2
  go_enter Try.func52, Try.ntmps52
  go_wp2_with fail
  go_loopw [8] (fun i wr => ∃ k : Nat, k ≤ n ∧ i = .int .i64 k ∧ Below w.heap.size w wr ∧ ∀ (j : Nat) (hj : j < L.length), j < k → ¬ P L[j]) (fun i _ => n - (intOf i).toNat)
  case atStart => exact ⟨0, Nat.zero_le _, rfl, Below.refl _ _, fun j hj h => by omega⟩
  case round =>
    obtain ⟨k, hk, rfl, hB, hall⟩ := hrel
    have HB := Lib.hid hB; have HALL := Lib.hid hall
    have hKw := H0.out.below hB
    have HB1 := Lib.hid (below_steps HW.out hB)
    clear hB hall
    by_cases hkn : k < n
    · have hkl : k < L.length := by rw [HN.out]; exact hkn
      obtain ⟨b, o, x, rfl, hx, hm, k0, hR⟩ := hKw.at' k hkl
      have HI := Lib.hid (HG.out x hm wr HB1.out hR)
      have HTK := Lib.hid hx; have HKL := Lib.hid hkl
      clear hKw hx hm
      go_wp2_with fail
      refine HI.out.mono ?_
      rintro e w3 ⟨B, rfl, hq, hb3⟩
      have HB3 := Lib.hid (below_steps HB.out hb3)
      have HNB : Hid (B = false → ¬ P x) := Lib.hid fun e g => by rw [hq.2 g] at e; cases e
      have HYB : Hid (B = true → P x) := Lib.hid hq.1
      clear hb3 hq k0 HI
      cases B
      · have NB := Lib.hid (HNB.out rfl)
        clear HNB HYB
        go_wp2_with fail
        go_roundw
        case rel =>
          refine ⟨k + 1, by omega, by go_num, HB3.out, fun j hj hjk => ?_⟩
          by_cases hjk2 : j < k
          · exact HALL.out j hj hjk2
          · obtain rfl : j = k := by omega
            rw [HTK.out]
            exact NB.out
        case measure => simp [intOf]; omega
      · have YB := Lib.hid (HYB.out rfl)
        clear HNB HYB
        go_wp2_with fail
        go_ret
        exact ⟨k, rfl, ⟨fun _ => HQ.out.2 ⟨_, List.getElem_mem HKL.out, by rw [HTK.out]; exact YB.out⟩, fun _ => by omega⟩, by omega, HB3.out⟩
    · have hnone : ¬ Q := fun h => by
        obtain ⟨q, hq, hp⟩ := HQ.out.1 h
        obtain ⟨j, hj, rfl⟩ := List.mem_iff_getElem.1 hq
        exact HALL.out j hj (by have := HN.out; omega) hp
      have HNO := Lib.hid hnone
      clear hnone hKw
      go_wp2_with fail
      go_ret
      exact ⟨-1, rfl, ⟨fun h => (by omega), fun h => absurd h HNO.out⟩, by omega, HB.out⟩
set_option maxHeartbeats 1600000 in
set_option maxRecDepth 100000 in
theorem containsZ_any (L : List Int) (P : Int → Prop) (g q : Nat) (w0 : World) (eg : ∀ args w, (callFunc g args).run Try.prog w = .ok (.enter g args) w) (hg : ∀ x ∈ L, ∀ (W : World), Below w0.heap.size w0 W → R64 x → Calls Try.prog g #[.int .i64 x, .pointer (some ⟨q, 0, none⟩)] W (SaysG (P x) W)) (v : Value) (w : World) (hw : Below w0.heap.size w0 w) (h : Zs w v L) :
    Calls Try.prog 42 #[v, .func (.func g) #[] #[.pointer (some ⟨q, 0, none⟩)]] w (SaysG (∃ x ∈ L, P x) w) := by
  have HI := Lib.hid (indexZ_any L P g q w0 eg hg v w hw h)
  obtain ⟨A, c, rfl, -⟩ := h
  obtain ⟨Q, hQ⟩ : ∃ Q : Prop, (∃ x ∈ L, P x) = Q := ⟨_, rfl⟩
  rw [hQ] at HI ⊢
  clear hg hQ eg hw
  go_enter Try.func42, Try.ntmps42
  go_wp2_with fail
  refine HI.out.mono ?_
  rintro e w' ⟨i, rfl, hq, hi, hb⟩
  have HQ := Lib.hid hq; have HB := Lib.hid hb
  clear hq hb
  by_cases h0 : 0 ≤ i
  · have d0 : decide (0 ≤ i) = true := decide_eq_true h0
    have H0 := Lib.hid h0
    clear h0 hi
    go_wp2_with fail
    go_ret
    exact ⟨true, rfl, ⟨fun _ => HQ.out.1 H0.out, fun _ => rfl⟩, HB.out⟩
  · have d0 : decide (0 ≤ i) = false := decide_eq_false h0
    have H0 := Lib.hid h0
    clear h0 hi
    go_wp2_with fail
    go_ret
    exact ⟨false, rfl, ⟨fun h => (by cases h), fun h => (by have h1 := HQ.out.2 h; have h2 := H0.out; omega)⟩, HB.out⟩

end Go.Proofs.Ytlkbdbijlnjjbaa
