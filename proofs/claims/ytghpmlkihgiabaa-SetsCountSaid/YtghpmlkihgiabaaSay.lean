/- The program's Right, Has and Count: what the document asks, at any list; the fixed question; which lists are long. -/
import Derived.Test.YtghpmlkihgiabaaOps
import Derived.Test.YtghpmlkihgiabaaRCount
set_option linter.unusedVariables false
namespace Go.Proofs.Ytghpmlkihgiabaa
open Go Go.RowKit

/-- A bool that says P; nothing that lay has turned. -/
def SaysB (P : Prop) (w : World) (e : Ending) (w' : World) : Prop := ∃ B : Bool, e = .returned (.bool B) ∧ (B = true ↔ P) ∧ Below w.heap.size w w'
theorem Says.b {P : Prop} {w : World} {e : Ending} {w' : World} (h : Says P w e w') : SaysB P w e w' := by
  obtain ⟨B, h1, h2, q, rfl⟩ := h
  exact ⟨B, h1, h2, below_draws w q⟩

set_option maxHeartbeats 1600000 in
set_option maxRecDepth 100000 in
theorem right_any (v : Value) (l : List (Int × Int)) (w : World) (h : Rgs w v l) :
    Calls Try.prog 15 #[v] w (SaysB (RightR l) w) := by
  have HR := Lib.hid h
  obtain ⟨a, c, rfl, h2, h3, h4, h5, h6⟩ := h
  have hlen : l.length ≤ 9223372036854775807 := by unfold maxLen at h3; omega
  have H6 := Lib.hid h6
  clear h5 h6 h4 h2 h3
  go_enter Try.func15, Try.ntmps15
  go_wp2
  go_loopw [3, 8] (fun u i wr => ∃ m : Nat, m ≤ l.length ∧ i = .int .i64 m ∧ u = .int .i32 (endOf 0 (l.take m)) ∧ Below w.heap.size w wr ∧ RightR (l.take m)) (fun _ i _ => l.length - (intOf i).toNat)
  case atStart => exact ⟨0, Nat.zero_le _, rfl, rfl, Below.refl _ _, by simp [RightR, RightFrom]⟩
  case round =>
    obtain ⟨m, hm, rfl, rfl, hB, hR⟩ := hrel
    have HRT := Lib.hid hR; have HB := Lib.hid hB
    clear hR hB
    by_cases hlt : m < l.length
    · obtain ⟨a', c', e, q2, q3, q4, q5, q6⟩ := HR.out.below HB.out
      injection e with e1 e2 e3
      subst e1 e3
      rcases q5 with q5 | ⟨b, o, rfl, hc⟩
      · rw [q5] at hlt
        simp at hlt
      obtain ⟨c1, c2⟩ := hc m hlt
      have hE := end_take l m (by omega)
      have hi := H6.out _ (List.getElem_mem hlt)
      have hsp := right_split l m hlt
      obtain ⟨x, hx⟩ : ∃ x, l[m] = x := ⟨_, rfl⟩
      rw [hx] at c1 c2 hsp hE hi
      obtain ⟨x1, x2⟩ := x
      obtain ⟨ee, hee⟩ : ∃ ee, endOf 0 (l.take m) = ee := ⟨_, rfl⟩
      rw [hee] at hsp ⊢
      simp only at c1 c2 hsp hE hi
      unfold I32 at hi
      have HS := Lib.hid hsp; have HEE := Lib.hid hee; have HE := Lib.hid hE
      have hB1 : Below w.heap.size w (wr.alloc (.cells #[.int .i32 x1, .int .i32 x2] 33)) := HB.out.alloc HB.out.size _
      have HB1 := Lib.hid hB1
      clear hsp hc hx hee hE hB1 q6
      have bad : ¬ (ee ≤ x1 ∧ x1 ≤ x2 ∧ x2 ≤ 1114111) → ¬ RightR l := fun hb hr => hb (HS.out.1 (right_part l (m + 1) hr)).2
      by_cases q0 : x1 < ee
      · go_wp2
        go_ret
        refine ⟨false, rfl, ?_, HB1.out⟩
        have := bad (by omega)
        simp [this]
      · by_cases q1 : x2 < x1
        · go_wp2
          go_ret
          refine ⟨false, rfl, ?_, HB1.out⟩
          have := bad (by omega)
          simp [this]
        · by_cases q2 : 1114111 < x2
          · go_wp2
            go_ret
            refine ⟨false, rfl, ?_, HB1.out⟩
            have := bad (by omega)
            simp [this]
          · go_wp2
            go_roundw
            case rel => exact ⟨m + 1, by omega, by go_num, by rw [HE.out], HB1.out, HS.out.2 ⟨HRT.out, by omega⟩⟩
            case measure => simp [intOf]; omega
    · have e : l.take m = l := List.take_of_length_le (by omega)
      have hr := HRT.out
      rw [e] at hr
      have HRR := Lib.hid hr
      clear hr e
      go_wp2
      go_ret
      exact ⟨true, rfl, by simp [HRR.out], HB.out⟩

set_option maxHeartbeats 1600000 in
set_option maxRecDepth 100000 in
theorem has_any (v : Value) (l : List (Int × Int)) (x : Int) (w : World) (h : Rgs w v l) :
    Calls Try.prog 17 #[v, .int .i32 x] w (SaysB (HasR l x) w) := by
  have HR := Lib.hid h
  obtain ⟨a, c, rfl, h2, h3, h4, h5, h6⟩ := h
  have hlen : l.length ≤ 9223372036854775807 := by unfold maxLen at h3; omega
  clear h5 h6 h4 h2 h3
  go_enter Try.func17, Try.ntmps17
  by_cases q0 : x < 0
  · go_wp2
    go_ret
    exact ⟨false, rfl, by simp; exact fun h => by have := h.1; omega, Below.refl _ _⟩
  · by_cases q1 : 1114111 < x
    · go_wp2
      go_ret
      exact ⟨false, rfl, by simp; exact fun h => by have := h.2.1; omega, Below.refl _ _⟩
    · go_wp2
      go_loopw [15] (fun i wr => ∃ m : Nat, m ≤ l.length ∧ i = .int .i64 m ∧ Below w.heap.size w wr ∧ ¬ HasR (l.take m) x) (fun i _ => l.length - (intOf i).toNat)
      case atStart => exact ⟨0, Nat.zero_le _, rfl, Below.refl _ _, has_nil x⟩
      case round =>
        obtain ⟨m, hm, rfl, hB, hN⟩ := hrel
        have HN := Lib.hid hN; have HB := Lib.hid hB
        clear hN hB
        by_cases hlt : m < l.length
        · obtain ⟨a', c', e, q2, q3, q4, q5, q6⟩ := HR.out.below HB.out
          injection e with e1 e2 e3
          subst e1 e3
          rcases q5 with q5 | ⟨b, o, rfl, hc⟩
          · rw [q5] at hlt
            simp at hlt
          obtain ⟨c1, c2⟩ := hc m hlt
          have hsp := has_split l m hlt x
          obtain ⟨y, hy⟩ : ∃ y, l[m] = y := ⟨_, rfl⟩
          rw [hy] at c1 c2 hsp
          obtain ⟨y1, y2⟩ := y
          simp only at c1 c2
          have HS := Lib.hid hsp
          have hB1 : Below w.heap.size w (wr.alloc (.cells #[.int .i32 y1, .int .i32 y2] 33)) := HB.out.alloc HB.out.size _
          have HB1 := Lib.hid hB1
          clear hsp hc hy hB1 q6
          by_cases q2 : y1 ≤ x
          · by_cases q3 : x ≤ y2
            · go_wp2
              go_ret
              exact ⟨true, rfl, by simp; exact has_part l (m + 1) x (HS.out.2 (.inr ⟨by omega, by omega, q2, q3⟩)), HB1.out⟩
            · go_wp2
              go_roundw
              case rel => exact ⟨m + 1, by omega, by go_num, HB1.out, fun h => (HS.out.1 h).elim HN.out fun h => by have : x ≤ y2 := h.2.2.2; omega⟩
              case measure => simp [intOf]; omega
          · go_wp2
            go_roundw
            case rel => exact ⟨m + 1, by omega, by go_num, HB1.out, fun h => (HS.out.1 h).elim HN.out fun h => by have : y1 ≤ x := h.2.2.1; omega⟩
            case measure => simp [intOf]; omega
        · have e : l.take m = l := List.take_of_length_le (by omega)
          have hr := HN.out
          rw [e] at hr
          have HRR := Lib.hid hr
          clear hr e
          go_wp2
          go_ret
          exact ⟨false, rfl, by simp [HRR.out], HB.out⟩

set_option maxHeartbeats 1600000 in
set_option maxRecDepth 100000 in
theorem count_any (v : Value) (l : List (Int × Int)) (w : World) (h : Rgs w v l) (hn : l.length ≤ 134217728) :
    Calls Try.prog 28 #[v] w (CountPost l w) := by
  have hl := lss_one h 22
  have hu := united_any _ [l] _ hl (by simp [totL]; omega)
  have hb : Below w.heap.size w (w.alloc (.cells #[v] 22)) := (Below.refl _ _).alloc (Nat.le_refl _) _
  have HU := Lib.hid hu; have HBA := Lib.hid hb
  obtain ⟨a, c, rfl, -⟩ := h
  clear hu hb hl
  go_enter Try.func28, Try.ntmps28
  go_wp2_with fail
  refine HU.out.mono ?_
  rintro e w1 hp
  have hp := (hp.later HBA.out).iff (Q := HasR l) (fun c => by simp)
  obtain ⟨v1, K, rfl, hO, hR, hP, hB⟩ := hp
  have HO := Lib.hid hO; have HR := Lib.hid hR; have HP := Lib.hid hP; have HB := Lib.hid hB
  have hKl := right_len K 0 (by omega) hR
  clear hO hR hP hB
  have HRG := Lib.hid HO.out.rgs
  obtain ⟨A, cA, hv1, hc1, hc2, -⟩ := HO.out.rgs
  subst hv1
  go_wp2_with fail
  go_loopw [3, 10] (fun vn i wz => ∃ k : Nat, k ≤ K.length ∧ i = .int .i64 k ∧ vn = .int .i64 (countR (K.take k)) ∧ Below w1.heap.size w1 wz) (fun _ i _ => K.length - (intOf i).toNat)
  case atStart => exact ⟨0, Nat.zero_le _, rfl, rfl, Below.refl _ _⟩
  case round =>
    obtain ⟨k, hk, rfl, rfl, hBz⟩ := hrel
    have HBZ := Lib.hid hBz
    clear hBz
    by_cases hkl : k < K.length
    · obtain ⟨a1, cq, e, q2, q3, q4, q5, q6⟩ := HRG.out.below HBZ.out
      injection e with e1 e2 e3
      subst e1 e3
      rcases q5 with q5 | ⟨b, o, rfl, hc⟩
      · rw [q5] at hkl
        simp at hkl
      obtain ⟨x1, x2, hx, hsp, c1, c2⟩ := rgs_at hc k hkl
      have hct := count_take K k (x1, x2) hsp
      simp only at hct
      have hf := right_fit K 0 (Int.le_refl _) HR.out (x1, x2) (List.mem_of_getElem? hx)
      unfold Fit at hf
      simp only at hf
      obtain ⟨n, hnn⟩ : ∃ n, countR (K.take k) = n := ⟨_, rfl⟩
      have hbd := count_bound (K.take k) 0 (by omega) (right_part K k HR.out)
      rw [hnn] at hct hbd
      rw [hnn]
      have HCT := Lib.hid hct; have HNN := Lib.hid hnn
      have hB1 : Below w1.heap.size w1 (wr.alloc (.cells #[.int .i32 x1, .int .i32 x2] 33)) := HBZ.out.alloc HBZ.out.size _
      have HB1 := Lib.hid hB1
      clear hx hsp hc hct hnn q6 hB1
      go_wp2
      go_roundw
      case rel => exact ⟨k + 1, by omega, by go_num, by rw [HCT.out]; try (congr 1; omega), HB1.out⟩
      case measure => simp [intOf]; omega
    · have hkn : K.take k = K := List.take_of_length_le (by omega)
      have HK := Lib.hid hkn
      rw [hkn]
      clear hkn
      go_wp2
      go_ret
      exact ⟨K, HR.out, HP.out, rfl, HB.out.trans (HBZ.out.mono HB.out.size)⟩

set_option maxHeartbeats 400000 in
theorem long_any (v : Value) (l : List (Int × Int)) (w : World) (h : Rgs w v l) :
    Calls Try.prog 14 #[v] w fun e w' => e = .returned (.bool (decide (2000 < l.length))) ∧ w' = w := by
  obtain ⟨a, c, rfl, h2, h3, -⟩ := h
  have hlen : l.length ≤ 9223372036854775807 := by unfold maxLen at h3; omega
  go_enter Try.func14, Try.ntmps14
  by_cases h : 2000 < l.length
  · have hz : (2000 : Int) < (l.length : Int) := by omega
    rw [decide_eq_true h]
    go_wp2
    go_ret
    exact ⟨rfl, rfl⟩
  · have hz : ¬ (2000 : Int) < (l.length : Int) := by omega
    rw [decide_eq_false h]
    go_wp2
    go_ret
    exact ⟨rfl, rfl⟩

theorem rgs_nil (w : World) : Rgs w (.slice none 0 0) [] := ⟨none, 0, rfl, Nat.le_refl _, by unfold maxLen; omega, fun _ => rfl, .inl rfl, by simp⟩

set_option maxHeartbeats 1600000 in
set_option maxRecDepth 100000 in
theorem head_any (w : World) : Calls Try.prog 13 #[] w fun e w' => e = .returned (.bool true) ∧ Below w.heap.size w w' := by
  have HN := Lib.hid (not_any (.slice none 0 0) [] w (rgs_nil w) (by simp))
  go_enter Try.func13, Try.ntmps13
  go_wp2_with fail
  refine HN.out.mono ?_
  rintro e w1 ⟨v, k, rfl, hO, hR, hP, hB⟩
  have hk : k = [(0, 1114111)] := by
    refine right_eq k [(0, 1114111)] hR ⟨Int.le_refl _, by decide, Int.le_refl _, trivial⟩ fun c => ?_
    rw [hP, has_one]
    constructor
    · rintro ⟨h1, h2, _⟩
      exact ⟨h1, h2, h1, h2⟩
    · rintro ⟨h1, h2, _, _⟩
      exact ⟨h1, h2, has_nil c⟩
  subst hk
  have hrg := hO.rgs
  have hq := fun W (hb : Below w1.heap.size w1 W) => has_any v [(0, 1114111)] 97 W (hrg.below hb)
  have hr := fun W (hb : Below w1.heap.size w1 W) => right_any v [(0, 1114111)] W (hrg.below hb)
  have hrg' := hrg
  obtain ⟨a, c, rfl, q2, q3, q4, q5, -⟩ := hrg'
  rcases q5 with q5 | ⟨b, o, rfl, hc⟩
  · cases q5
  obtain ⟨c1, c2⟩ := hc 0 (by simp)
  simp only [List.getElem_cons_zero, Nat.zero_mul, Nat.add_zero] at c1 c2
  have HQ := Lib.hid hq; have HR := Lib.hid hr; have HB := Lib.hid hB
  clear hq hr hB hrg hO hR hP hc q4
  go_wp2_with (first | (go_at_call 17; refine (HQ.out _ (Below.refl _ _)).mono ?_; rintro e w2 ⟨B, rfl, hb, hB2⟩; have hbt : B = true := hb.2 ⟨by omega, by omega, (0, 1114111), by simp, by simp, by simp⟩; subst hbt) | (go_at_call 15; refine (HR.out _ hB2).mono ?_; rintro e w3 ⟨B3, rfl, hb3, hB3⟩; have hbt3 : B3 = true := hb3.2 ⟨Int.le_refl _, by decide, Int.le_refl _, trivial⟩; subst hbt3))
  go_ret
  exact ⟨rfl, HB.out.trans ((hB2.trans (hB3.mono hB2.size)).mono HB.out.size)⟩
end Go.Proofs.Ytghpmlkihgiabaa
