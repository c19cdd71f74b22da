/- Texts merged by program: PName. No condition. -/
import Derived.Test.YtnemacejaiifnaaQ6
import Derived.Test.YtnemacejaiifnaaQ4
import Derived.Lib.ConvBytes
import Derived.Deep.DeepCutAuto
import Derived.Deep.RegionWith
set_option linter.unusedVariables false
/- The program's small questions: digits, letters, names, places, counts; and its sets.Right: at any input. -/
namespace Go.Proofs.Ytnemacejaiifnaa
open Go Go.RowKit

set_option maxHeartbeats 1600000 in
set_option maxRecDepth 100000 in
theorem psetright_any (v : Value) (l : List (Int × Int)) (w : World) (h : Rgs w v l) :
    Calls Try.prog 62 #[v] w (SaysB (RightR l) w) := by
  have HR := Lib.hid h
  obtain ⟨a, c, rfl, h2, h3, h4, h5, h6⟩ := h
  have hlen : l.length ≤ 9223372036854775807 := by unfold maxLen at h3; omega
  have H6 := Lib.hid h6
  clear h5 h6 h4 h2 h3
  go_enter Try.func62, Try.ntmps62
  go_wp2
  go_loopw [3, 8] (fun u i wr => ∃ m : Nat, m ≤ l.length ∧ i = .int .i64 m ∧ u = .int .i32 (endOf 0 (l.take m)) ∧ Below w.heap.size w wr ∧ RightR (l.take m)) (fun _ i _ => l.length - (intOf i).toNat)
  case atStart => exact ⟨0, Nat.zero_le _, rfl, rfl, Below.refl _ _, by simp [RightR, RightFrom]⟩
  case round =>
    obtain ⟨m, hm, rfl, rfl, hB, hR⟩ := hrel
    have HRT := Lib.hid hR; have HB := Lib.hid hB
    clear hR hB
    by_cases hlt : m < l.length
    · obtain ⟨a', c', e, q2, q3, q4, q5, q6⟩ := HR.out.below HB.out
      injection e with e1 e2 e3
      subst e1 e3
      rcases q5 with q5 | ⟨b, o, rfl, hc⟩
      · rw [q5] at hlt
        simp at hlt
      obtain ⟨c1, c2⟩ := hc m hlt
      have hE := end_take l m (by omega)
      have hi := H6.out _ (List.getElem_mem hlt)
      have hsp := right_split l m hlt
      obtain ⟨x, hx⟩ : ∃ x, l[m] = x := ⟨_, rfl⟩
      rw [hx] at c1 c2 hsp hE hi
      obtain ⟨x1, x2⟩ := x
      obtain ⟨ee, hee⟩ : ∃ ee, endOf 0 (l.take m) = ee := ⟨_, rfl⟩
      rw [hee] at hsp ⊢
      simp only at c1 c2 hsp hE hi
      unfold I32 at hi
      have HS := Lib.hid hsp; have HEE := Lib.hid hee; have HE := Lib.hid hE
      have hB1 : Below w.heap.size w (wr.alloc (.cells #[.int .i32 x1, .int .i32 x2] 131)) := HB.out.alloc HB.out.size _
      have HB1 := Lib.hid hB1
      clear hsp hc hx hee hE hB1 q6
      have bad : ¬ (ee ≤ x1 ∧ x1 ≤ x2 ∧ x2 ≤ 1114111) → ¬ RightR l := fun hb hr => hb (HS.out.1 (right_part l (m + 1) hr)).2
      by_cases q0 : x1 < ee
      · go_wp2
        go_ret
        refine ⟨false, rfl, ?_, HB1.out⟩
        have := bad (by omega)
        simp [this]
      · by_cases q1 : x2 < x1
        · go_wp2
          go_ret
          refine ⟨false, rfl, ?_, HB1.out⟩
          have := bad (by omega)
          simp [this]
        · by_cases q2 : 1114111 < x2
          · go_wp2
            go_ret
            refine ⟨false, rfl, ?_, HB1.out⟩
            simp
          · go_wp2
            go_roundw
            case rel => exact ⟨m + 1, by omega, by go_num, by rw [HE.out], HB1.out, HS.out.2 ⟨HRT.out, by omega⟩⟩
            case measure => simp [intOf]; omega
    · have e : l.take m = l := List.take_of_length_le (by omega)
      have hr := HRT.out
      rw [e] at hr
      have HRR := Lib.hid hr
      clear hr e
      go_wp2
      go_ret
      exact ⟨true, rfl, by simp [HRR.out], HB.out⟩

set_option maxHeartbeats 1600000 in
theorem pdigit_any (c : UInt8) (w : World) : Calls Try.prog 106 #[.int .u8 c.toNat] w fun e w' => e = .returned (.bool (digitB c)) ∧ w' = w := by
  have hd := digit_iff c
  obtain ⟨n, hn⟩ : ∃ n, c.toNat = n := ⟨_, rfl⟩
  rw [hn] at hd ⊢
  obtain ⟨B, hB⟩ : ∃ B, digitB c = B := ⟨_, rfl⟩
  rw [hB] at hd ⊢
  have HD := Lib.hid hd
  clear hd hB hn
  go_enter Try.func106, Try.ntmps106
  by_cases h1 : 48 ≤ n
  · have d1 : decide ((48 : Int) ≤ (n : Int)) = true := decide_eq_true (by omega)
    by_cases h2 : n ≤ 57
    · obtain rfl : B = true := HD.out.2 ⟨h1, h2⟩
      have d2 : decide ((n : Int) ≤ 57) = true := decide_eq_true (by omega)
      clear h1 h2
      go_wp2
      go_ret
      exact ⟨rfl, rfl⟩
    · obtain rfl : B = false := by
        cases B
        · rfl
        · have := HD.out.1 rfl; omega
      have d2 : decide ((n : Int) ≤ 57) = false := decide_eq_false (by omega)
      clear h1 h2
      go_wp2
      go_ret
      exact ⟨rfl, rfl⟩
  · obtain rfl : B = false := by
      cases B
      · rfl
      · have := HD.out.1 rfl; omega
    have d1 : decide ((48 : Int) ≤ (n : Int)) = false := decide_eq_false (by omega)
    clear h1
    go_wp2
    go_ret
    exact ⟨rfl, rfl⟩

set_option maxHeartbeats 1600000 in
theorem pletter_any (c : UInt8) (w : World) : Calls Try.prog 107 #[.int .u8 c.toNat] w fun e w' => e = .returned (.bool (letterB c)) ∧ w' = w := by
  have hd := letter_iff c
  obtain ⟨n, hn⟩ : ∃ n, c.toNat = n := ⟨_, rfl⟩
  rw [hn] at hd ⊢
  obtain ⟨B, hB⟩ : ∃ B, letterB c = B := ⟨_, rfl⟩
  rw [hB] at hd ⊢
  have HD := Lib.hid hd
  clear hd hB hn
  have tail : (n = 95 ∧ ((n : Int) == 95) = true) ∨ (n ≠ 95 ∧ ((n : Int) == 95) = false) := by
    by_cases h : n = 95
    · exact .inl ⟨h, by rw [h]; rfl⟩
    · exact .inr ⟨h, beq_eq_false_iff_ne.2 (by omega)⟩
  have TAIL := Lib.hid tail
  clear tail
  go_enter Try.func107, Try.ntmps107
  by_cases h1 : 97 ≤ n
  · have d1 : decide ((97 : Int) ≤ (n : Int)) = true := decide_eq_true (by omega)
    by_cases h2 : n ≤ 122
    · obtain rfl : B = true := HD.out.2 (.inl ⟨h1, h2⟩)
      have d2 : decide ((n : Int) ≤ 122) = true := decide_eq_true (by omega)
      clear h1 h2
      go_wp2
      go_ret
      exact ⟨rfl, rfl⟩
    · have d2 : decide ((n : Int) ≤ 122) = false := decide_eq_false (by omega)
      have d3 : decide ((65 : Int) ≤ (n : Int)) = true := decide_eq_true (by omega)
      have d4 : decide ((n : Int) ≤ 90) = false := decide_eq_false (by omega)
      have d5 : ((n : Int) == 95) = false := beq_eq_false_iff_ne.2 (by omega)
      obtain rfl : B = false := by
        cases B
        · rfl
        · have := HD.out.1 rfl; omega
      clear h1 h2
      go_wp2
      go_ret
      exact ⟨rfl, rfl⟩
  · have d1 : decide ((97 : Int) ≤ (n : Int)) = false := decide_eq_false (by omega)
    by_cases h3 : 65 ≤ n
    · have d3 : decide ((65 : Int) ≤ (n : Int)) = true := decide_eq_true (by omega)
      by_cases h4 : n ≤ 90
      · have d4 : decide ((n : Int) ≤ 90) = true := decide_eq_true (by omega)
        obtain rfl : B = true := HD.out.2 (.inr (.inl ⟨h3, h4⟩))
        clear h1 h3 h4
        go_wp2
        go_ret
        exact ⟨rfl, rfl⟩
      · have d4 : decide ((n : Int) ≤ 90) = false := decide_eq_false (by omega)
        rcases TAIL.out with ⟨h5, d5⟩ | ⟨h5, d5⟩
        · obtain rfl : B = true := HD.out.2 (.inr (.inr h5))
          clear h1 h3 h4 h5
          go_wp2
          go_ret
          exact ⟨rfl, rfl⟩
        · obtain rfl : B = false := by
            cases B
            · rfl
            · have := HD.out.1 rfl; omega
          clear h1 h3 h4 h5
          go_wp2
          go_ret
          exact ⟨rfl, rfl⟩
    · have d3 : decide ((65 : Int) ≤ (n : Int)) = false := decide_eq_false (by omega)
      have d5 : ((n : Int) == 95) = false := beq_eq_false_iff_ne.2 (by omega)
      obtain rfl : B = false := by
        cases B
        · rfl
        · have := HD.out.1 rfl; omega
      clear h1 h3
      go_wp2
      go_ret
      exact ⟨rfl, rfl⟩

set_option maxHeartbeats 1600000 in
theorem pisAt_any (x : Int) (w : World) : Calls Try.prog 63 #[.int .i64 x] w (NamePost (x = 1 ∨ x = 2 ∨ x = 4 ∨ x = 8 ∨ x = 16 ∨ x = 32) w) := by
  go_enter Try.func63, Try.ntmps63
  by_cases h : x = 1 ∨ x = 2 ∨ x = 4 ∨ x = 8 ∨ x = 16 ∨ x = 32
  · rcases h with rfl | rfl | rfl | rfl | rfl | rfl
    all_goals
      go_wp2
      go_ret
      exact ⟨true, rfl, by simp, rfl⟩
  · have e1 : (x == 1) = false := beq_eq_false_iff_ne.2 (by omega)
    have e2 : (x == 2) = false := beq_eq_false_iff_ne.2 (by omega)
    have e4 : (x == 4) = false := beq_eq_false_iff_ne.2 (by omega)
    have e8 : (x == 8) = false := beq_eq_false_iff_ne.2 (by omega)
    have e16 : (x == 16) = false := beq_eq_false_iff_ne.2 (by omega)
    have e32 : (x == 32) = false := beq_eq_false_iff_ne.2 (by omega)
    have H := Lib.hid h
    clear h
    go_wp2
    go_ret
    exact ⟨false, rfl, ⟨fun h => (by cases h), fun h => absurd h H.out⟩, rfl⟩

set_option maxHeartbeats 1600000 in
theorem pisCount_any (a b : Int) (w : World) : Calls Try.prog 65 #[.int .i64 a, .int .i64 b] w (NamePost ((0 ≤ a ∧ a ≤ 1000) ∧ (b = -1 ∨ (a ≤ b ∧ b ≤ 1000))) w) := by
  obtain ⟨P, hP⟩ : ∃ P : Prop, ((0 ≤ a ∧ a ≤ 1000) ∧ (b = -1 ∨ (a ≤ b ∧ b ≤ 1000))) = P := ⟨_, rfl⟩
  have HP : Hid (P ↔ ((0 ≤ a ∧ a ≤ 1000) ∧ (b = -1 ∨ (a ≤ b ∧ b ≤ 1000)))) := Lib.hid (by rw [hP])
  rw [hP]
  clear hP
  go_enter Try.func65, Try.ntmps65
  by_cases h1 : a < 0
  · go_wp2
    go_ret
    exact ⟨false, rfl, ⟨fun h => (by cases h), fun h => (by have := HP.out.1 h; omega)⟩, rfl⟩
  by_cases h2 : 1000 < a
  · go_wp2
    go_ret
    exact ⟨false, rfl, ⟨fun h => (by cases h), fun h => (by have := HP.out.1 h; omega)⟩, rfl⟩
  have H1 := Lib.hid h1; have H2 := Lib.hid h2
  have q1 : decide (a < 0) = false := decide_eq_false h1
  have q2 : decide (1000 < a) = false := decide_eq_false h2
  clear h1 h2
  by_cases h3 : b = -1
  · subst h3
    go_wp2
    go_ret
    exact ⟨true, rfl, ⟨fun _ => HP.out.2 ⟨⟨by have := H1.out; have := H2.out; omega, by have := H1.out; have := H2.out; omega⟩, .inl (by trivial)⟩, fun _ => rfl⟩, rfl⟩
  have e3 : (b == -1) = false := beq_eq_false_iff_ne.2 h3
  have H3 := Lib.hid h3
  clear h3
  by_cases h4 : a ≤ b
  · have q4 : decide (a ≤ b) = true := decide_eq_true h4
    by_cases h5 : b ≤ 1000
    · have q5 : decide (b ≤ 1000) = true := decide_eq_true h5
      have H4 := Lib.hid h4; have H5 := Lib.hid h5
      clear h4 h5
      go_wp2
      go_ret
      exact ⟨true, rfl, ⟨fun _ => HP.out.2 ⟨⟨by have := H1.out; have := H2.out; omega, by have := H1.out; have := H2.out; omega⟩, .inr ⟨H4.out, H5.out⟩⟩, fun _ => rfl⟩, rfl⟩
    · have q5 : decide (b ≤ 1000) = false := decide_eq_false h5
      have H5 := Lib.hid h5
      clear h4 h5
      go_wp2
      go_ret
      exact ⟨false, rfl, ⟨fun h => (by cases h), fun h => (by have := HP.out.1 h; have := H3.out; have := H5.out; omega)⟩, rfl⟩
  · have q4 : decide (a ≤ b) = false := decide_eq_false h4
    have H4 := Lib.hid h4
    clear h4
    go_wp2
    go_ret
    exact ⟨false, rfl, ⟨fun h => (by cases h), fun h => (by have := HP.out.1 h; have := H3.out; have := H4.out; omega)⟩, rfl⟩

/-- '[]byte(t)' of a text: its cells. -/
theorem conv_of (W : World) (t : ByteArray) :
    ∃ c W', (convert 9 28 (.string t)).run Try.prog W = .ok (.slice (some ⟨W.heap.size, 0, none⟩) t.size c) W' ∧ Below W.heap.size W W' ∧ ∀ i (h : i < t.size), W'.cell? ⟨W.heap.size, i, none⟩ = some (.int .u8 (t[i].toNat)) := by
  refine ⟨_, _, Lib.run_convert_string_bytes W 9 28 5 t Try.underlying9 Try.underlying28 Try.underlying5, ?_, ?_⟩
  · refine ⟨?_, ?_, ?_, by rw [Lib.bytesWorld_size]; omega, fun k hk => Lib.bytesWorld_at_old W _ t k hk⟩
    all_goals
      unfold Lib.bytesWorld World.freeze
      split <;> rfl
  · intro i hi
    rw [Lib.bytesWorld_cell W _ t i hi]
    have hd : i < t.data.size := hi
    have : t.data.toList.getD i 0 = t[i] := by
      rw [List.getD_eq_getElem?_getD, Array.getElem?_toList, Array.getElem?_eq_getElem hd]
      rfl
    rw [this]

set_option maxHeartbeats 1600000 in
set_option maxRecDepth 100000 in
theorem pname_any (s : ByteArray) (w : World) : Calls Try.prog 64 #[.string s] w (SaysB (nameB s.toList = true) w) := by
  obtain ⟨P, hP⟩ : ∃ P, (nameB s.toList = true) = P := ⟨_, rfl⟩
  have hl : s.toList.length = s.size := by rw [ByteArray.toList_eq]; simp
  have HP : Hid (P ↔ 1 ≤ s.size ∧ s.size ≤ 32 ∧ namedFrom 0 s.toList = true) := Lib.hid (by rw [← hP]; unfold nameB; rw [hl]; simp only [Bool.and_eq_true, decide_eq_true_eq, and_assoc])
  rw [hP]
  have HL := Lib.hid hl
  clear hP hl
  go_enter Try.func64, Try.ntmps64
  by_cases h1 : s.size < 1
  · go_wp2
    go_ret
    exact ⟨false, rfl, ⟨fun h => (by cases h), fun h => (by have := (HP.out.1 h).1; omega)⟩, Below.refl _ _⟩
  by_cases h2 : 32 < s.size
  · go_wp2
    go_ret
    exact ⟨false, rfl, ⟨fun h => (by cases h), fun h => (by have := (HP.out.1 h).2.1; omega)⟩, Below.refl _ _⟩
  have h0 : 0 < s.size := by omega
  have HD0 := Lib.hid (pdigit_any s[0] w)
  obtain ⟨B, hB⟩ : ∃ B, digitB s[0] = B := ⟨_, rfl⟩
  rw [hB] at HD0
  have hfirst : namedFrom 0 s.toList = true → letterB s[0] = true := fun h => by
    have := named_take (k := 1) h
    rw [show (1 : Nat) = 0 + 1 from rfl, take_snoc8 s 0 h0, List.take_zero, List.nil_append, namedFrom, Bool.and_eq_true] at this
    simpa using this.1
  have HF := Lib.hid hfirst; have HB := Lib.hid hB
  clear hfirst hB
  go_wp2_with fail
  refine HD0.out.mono ?_
  rintro e w' ⟨rfl, hw'⟩
  subst hw'
  have hdl : digitB s[0] = true → letterB s[0] = false := fun h => by
    cases hh : letterB s[0]
    · rfl
    · have h1 := (digit_iff _).1 h
      have h2 := (letter_iff _).1 hh
      omega
  have HDL := Lib.hid hdl
  clear hdl
  cases B
  rotate_left
  · go_wp2_with fail
    go_ret
    exact ⟨false, rfl, ⟨fun h => (by cases h), fun h => (by have h1 := HF.out (HP.out.1 h).2.2; rw [HDL.out HB.out] at h1; cases h1)⟩, Below.refl _ _⟩
  obtain ⟨c, W', hconv, hbc, hcell⟩ := conv_of w' s
  have HBC := Lib.hid hbc; have HC := Lib.hid hcell
  clear hbc hcell
  go_wp2_with fail
  go_loopw [21] (fun i wr => ∃ k : Nat, k ≤ s.size ∧ i = .int .i64 k ∧ namedFrom 0 (s.toList.take k) = true ∧ wr = W') (fun i _ => s.size - (intOf i).toNat)
  case atStart => exact ⟨0, Nat.zero_le _, rfl, rfl, rfl⟩
  case round =>
    obtain ⟨k, hk, rfl, hN, rfl⟩ := hrel
    have HN := Lib.hid hN
    clear hN hconv
    by_cases hkn : k < s.size
    · have hsn := take_snoc8 s k hkn
      have hc := HC.out k hkn
      have hkz : (k : Int) < (s.size : Int) := by omega
      have HSN := Lib.hid hsn
      have hlen : (s.toList.take k).length = k := by rw [List.length_take, HL.out]; omega
      have hnx : namedFrom 0 (s.toList.take (k + 1)) = (letterB s[k] || (decide (0 < k) && digitB s[k])) := by
        rw [hsn, named_snoc, HN.out, Bool.true_and, hlen]
      have hbad : letterB s[k] = false → (decide (0 < k) && digitB s[k]) = false → ¬ namedFrom 0 s.toList = true := fun a b h => by
        have := named_take (k := k + 1) h
        rw [hnx, a, b] at this
        cases this
      have h0k : k = 0 → digitB s[k] = false := fun e => by subst e; exact HB.out
      have HD := Lib.hid fun W => pdigit_any s[k] W
      have HT := Lib.hid fun W => pletter_any s[k] W
      obtain ⟨n, hn⟩ : ∃ n, s[k].toNat = n := ⟨_, rfl⟩
      rw [hn] at hc HD HT
      obtain ⟨DB, hDB⟩ : ∃ B, digitB s[k] = B := ⟨_, rfl⟩
      obtain ⟨LB, hLB⟩ : ∃ B, letterB s[k] = B := ⟨_, rfl⟩
      rw [hDB] at hnx hbad h0k HD
      rw [hLB] at hnx hbad HT
      have HNX := Lib.hid hnx; have HBAD := Lib.hid hbad; have H0K := Lib.hid h0k
      clear hsn hnx hbad h0k hlen hn hDB hLB
      go_wp2_with fail
      refine (HD.out _).mono ?_
      rintro e w3 ⟨rfl, hw3⟩
      subst hw3
      cases DB
      rotate_left
      · have hnext : namedFrom 0 (s.toList.take (k + 1)) = true := by
          rw [HNX.out]
          by_cases hk0 : k = 0
          · have := H0K.out hk0; cases this
          · simp; right; omega
        have HNEXT := Lib.hid hnext
        clear hnext
        go_wp2_with fail
        go_roundw
        case rel => exact ⟨k + 1, by omega, by go_num, HNEXT.out, trivial⟩
        case measure => simp [intOf]; omega
      go_wp2_with fail
      refine (HT.out _).mono ?_
      rintro e w3 ⟨rfl, hw3⟩
      subst hw3
      cases LB
      · have hb := HBAD.out rfl (by simp)
        have HBB := Lib.hid hb
        clear hb
        go_wp2_with fail
        go_ret
        exact ⟨false, rfl, ⟨fun h => (by cases h), fun h => absurd (HP.out.1 h).2.2 HBB.out⟩, HBC.out⟩
      · have hnext : namedFrom 0 (s.toList.take (k + 1)) = true := by rw [HNX.out]; rfl
        have HNEXT := Lib.hid hnext
        clear hnext
        go_wp2_with fail
        go_roundw
        case rel => exact ⟨k + 1, by omega, by go_num, HNEXT.out, trivial⟩
        case measure => simp [intOf]; omega
    · have hkz : ¬ (k : Int) < (s.size : Int) := by omega
      have hall : s.toList.take k = s.toList := List.take_of_length_le (by rw [HL.out]; omega)
      have hn := HN.out
      rw [hall] at hn
      have HNN := Lib.hid hn
      clear hall hn
      go_wp2_with fail
      go_ret
      exact ⟨true, rfl, ⟨fun _ => HP.out.2 ⟨by omega, by omega, HNN.out⟩, fun _ => rfl⟩, HBC.out⟩
end Go.Proofs.Ytnemacejaiifnaa
