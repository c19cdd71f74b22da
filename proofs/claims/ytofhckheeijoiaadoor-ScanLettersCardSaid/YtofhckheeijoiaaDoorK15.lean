/- Texts merged by program: SEsc. No condition. -/
import Derived.Test.YtofhckheeijoiaaDoorK14
import Derived.Test.YtofhckheeijoiaaDoorK9
import Derived.Test.YtofhckheeijoiaaDoorK2
import Derived.Deep.RegionHeld3
import Derived.Lib.TrimU
set_option linter.unusedVariables false
/- The document's escape of a text at a place. -/
namespace Go.Proofs.YtofhckheeijoiaaDoor
open Go Go.RowKit

/-- An escape and the place behind it, or what is wrong and how far. -/
inductive EscR where
  | esc (k r : Int) (l : List (Int × Int)) (a : Int) (n : Nat)
  | bad (c : Int) (till : Nat)
/-- Behind a backslash stands the rune c, and behind that the place b. -/
def escC (s : ByteArray) (c : Int) (b : Nat) (p : Bool) : EscR :=
  if signI c = true then .esc 1 c [] 0 b else if 0 ≤ letterI c then .esc 1 (letterI c) [] 0 b else
  if c = 120 then (match numberS s b with
    | none => .bad 61 b
    | some (v, k) => .esc 1 v [] 0 k)
  else if c = 112 ∨ c = 80 then (match propS s b with
    | none => .bad 61 b
    | some (nm, k) => match propR nm (decide (c = 80)) with
      | none => .bad 63 k
      | some l => .esc 2 0 l 0 k)
  else match perlsR c with
    | none => .bad 61 b
    | some (k, l, a) => if p = true then .esc k 0 l a b else .bad 61 b
def escS (s : ByteArray) (i : Nat) (p : Bool) : EscR :=
  if ¬ headI (leftB s i) = 92 then .bad 1 i else if i + 1 = s.size then .bad 62 (i + 1) else escC s ((Utf8.decode s (i + 1)).1 : Nat) (i + 1 + (Utf8.decode s (i + 1)).2) p
def EscPost (R : EscR) (i : Nat) (w : World) (e : Ending) (w' : World) : Prop :=
  Below w.heap.size w w' ∧ match R with
    | .esc k r l a n => ∃ v, e = .returned (.tuple #[escV k r v a, .int .i64 (n : Int), wrongV 0 0 0]) ∧ OwnR w' w.heap.size v l
    | .bad c till => e = .returned (.tuple #[escV 0 0 (.slice none 0 0) 0, .int .i64 0, wrongV c i till])
theorem both_whole {W : World} {a b : Nat} {x0 x1 x2 x3 y0 y1 y2 u0 u1 u2 u3 v0 v1 v2 : Value} (hE : Whole W a 27 #[x0, x1, x2, x3]) (hF : Whole W b 30 #[y0, y1, y2]) (hab : a ≠ b) :
    Whole (set3 (set4 W a u0 u1 u2 u3) b v0 v1 v2) a 27 #[u0, u1, u2, u3] ∧ Whole (set3 (set4 W a u0 u1 u2 u3) b v0 v1 v2) b 30 #[v0, v1, v2] :=
  ⟨(set3_other hab _ _ _).trans (set4_whole hE _ _ _ _), set3_whole ((set4_other (Ne.symm hab) _ _ _ _).trans hF) _ _ _⟩

set_option maxHeartbeats 6400000 in
set_option maxRecDepth 100000 in
theorem rescape6_any (s : ByteArray) (i : Nat) (p : Bool) (w : World) (hs : s.size ≤ 4503599627370496) (hi : i ≤ s.size) (hT : Lib.Utf8Tabs 0 1 w) :
    Calls Tryd.prog 11 #[.string s, .int .i64 i, .bool p] w (EscPost (escS s i p) i w) := by
  obtain ⟨O, hO⟩ : ∃ O, escS s i p = O := ⟨_, rfl⟩
  rw [hO]
  obtain ⟨w1, hw1⟩ : ∃ w1, (w.alloc (.cells #[.int .i64 0, .int .i32 0, .slice none 0 0, .int .i64 0] 27)).alloc (.cells #[.int .i64 0, .int .i64 0, .int .i64 0] 30) = w1 := ⟨_, rfl⟩
  have hE1 : Whole w1 w.heap.size 27 #[.int .i64 0, .int .i32 0, .slice none 0 0, .int .i64 0] := by rw [← hw1]; exact Whole.alloc (heap_alloc_new w _) _
  have hF1 : Whole w1 (w.heap.size + 1) 30 #[.int .i64 0, .int .i64 0, .int .i64 0] := by
    rw [← hw1]
    have := heap_alloc_new (w.alloc (.cells #[.int .i64 0, .int .i32 0, .slice none 0 0, .int .i64 0] 27)) (.cells #[.int .i64 0, .int .i64 0, .int .i64 0] 30)
    simpa [Whole] using this
  have hb1 : Below w.heap.size w w1 := by rw [← hw1]; exact ((Below.refl _ w).alloc (Nat.le_refl _) _).alloc (by simp) _
  have hs1 : w1.heap.size = w.heap.size + 2 := by rw [← hw1]; simp
  have HW1 := Lib.hid hw1; have HE1 := Lib.hid hE1; have HF1 := Lib.hid hF1; have HB1 := Lib.hid hb1; have HS1 := Lib.hid hs1; have HT := Lib.hid hT
  clear hw1 hE1 hF1 hb1 hs1 hT
  have hw1 : IntKind.i64.wrap ((i : Int) + 1) = (i : Int) + 1 := wrap_in _ (by omega)
  by_cases h92 : headI (leftB s i) = 92
  · have hlt : i < s.size := head_in (by omega)
    have b0 : ((s[i].toNat : Int) != 92) = false := ne_false_of ((head_at s i hlt).symm.trans h92)
    have hO2 := hO.symm.trans (if_neg (fun h => h h92))
    clear hO h92
    by_cases hend : i + 1 = s.size
    · have HN := Lib.hid (hO2.trans (if_pos hend))
      have b1 : ((i : Int) + 1 == (s.size : Int)) = true := eq_true_of (by omega)
      clear hO2 hend
      go_enter Tryd.func11, Tryd.ntmps11
      go_upto_region 1 with (fail)
      rw [HW1.out]
      go_wp2_with fail
      refine (rwrong_any 62 i ((i : Int) + 1) _).mono ?_
      rintro e w2 ⟨rfl, hb2⟩
      have HB2 := Lib.hid (HB1.out.trans (hb2.mono HB1.out.size))
      have HS2 := Lib.hid (show w.heap.size + 2 ≤ w2.heap.size from Nat.le_trans (by have := HS1.out; omega) hb2.size)
      have HE2 := Lib.hid (HE1.out.below hb2 (by have := HS1.out; omega))
      have HF2 := Lib.hid (HF1.out.below hb2 (by have := HS1.out; omega))
      obtain ⟨c0, c1, c2, c3, z0, z1, z2, z3⟩ := HE2.out.four
      obtain ⟨d0, d1, d2, y0, y1, y2⟩ := HF2.out.three
      clear hb2
      go_wp2_with fail
      obtain ⟨r1, r2⟩ := both_whole HE2.out HF2.out (a := w.heap.size) (b := w.heap.size + 1) (by omega)
      refine bodyPost_ret (results_etw Tryd.results11 _ rfl r1 rfl rfl r2 rfl) rfl ?_
      unfold EscPost
      rw [HN.out]
      exact ⟨(set3_below (set4_below HB2.out (Nat.le_refl _) _ _ _ _) (by omega) _ _ _), rfl⟩
    have b1 : ((i : Int) + 1 == (s.size : Int)) = false := eq_false_of (by omega)
    have hO3 := hO2.trans (if_neg hend)
    have hlt1 : i + 1 < s.size := by omega
    have hn := decode_width s (i + 1) hlt1
    obtain ⟨⟨r, n⟩, hr⟩ : ∃ r, Utf8.decode s (i + 1) = r := ⟨_, rfl⟩
    have hrle : r ≤ 1114111 := by have := Lib.rune_le s (i + 1); rw [hr] at this; exact this
    rw [hr] at hO3 hn
    simp only at hO3 hn
    have hdec := Tryd.utf8_DecodeRuneInString (s.extract (i + 1) s.size) w1 (Utf8Tabs_below HT.out HB1.out)
    rw [decodeGo_extract s (i + 1) hlt1, hr] at hdec
    simp only at hdec
    obtain ⟨b, hb⟩ : ∃ b, i + 1 + n = b := ⟨_, rfl⟩
    rw [hb] at hO3 hn
    obtain ⟨c, hc⟩ : ∃ c : Int, (r : Int) = c := ⟨_, rfl⟩
    rw [hc] at hO3 hdec
    have hc0 : 0 ≤ c := by omega
    have hc1 : c ≤ 1114111 := by omega
    have HO := Lib.hid hO3; have HD := Lib.hid hdec
    have x1 : (0 : Int) ≤ (i : Int) + 1 := by omega
    have x2 : (i : Int) + 1 ≤ (s.size : Int) := by omega
    have x3 : ((i : Int) + 1).toNat = i + 1 := by omega
    have hw2 : IntKind.i64.wrap ((i : Int) + 1 + (n : Int)) = (b : Int) := by rw [← hb]; exact (wrap_in _ (by omega)).trans (by omega)
    clear hO2 hO3 hr hdec hend hc
    go_enter Tryd.func11, Tryd.ntmps11
    go_upto_region 1 with (fail)
    rw [HW1.out]
    go_wp2_with fail
    refine HD.out.mono ?_
    rintro e w2 ⟨rfl, hb2⟩
    have HB2 := Lib.hid (HB1.out.trans (hb2.mono HB1.out.size))
    have HS2 := Lib.hid (show w.heap.size + 2 ≤ w2.heap.size from Nat.le_trans (by have := HS1.out; omega) hb2.size)
    have HE2 := Lib.hid (HE1.out.below hb2 (by have := HS1.out; omega))
    have HF2 := Lib.hid (HF1.out.below hb2 (by have := HS1.out; omega))
    clear hb2 HD
    go_wp2_with fail
    refine (rwrong_any 61 i (b : Int) _).mono ?_
    rintro e w3 ⟨rfl, hb3⟩
    have hB3 := HB2.out.trans (hb3.mono HB2.out.size)
    have hE3 := HE2.out.below hb3 (by have := HS2.out; omega)
    have hF3 := HF2.out.below hb3 (by have := HS2.out; omega)
    have hS3 : w.heap.size + 2 ≤ w3.heap.size := Nat.le_trans HS2.out hb3.size
    obtain ⟨w4, hw4⟩ : ∃ w4, w3.alloc (.cells #[.int .i64 61, .int .i64 i, .int .i64 (b : Int)] 30) = w4 := ⟨_, rfl⟩
    have HB4 := Lib.hid (show Below w.heap.size w w4 by rw [← hw4]; exact hB3.alloc hB3.size _)
    have HE4 := Lib.hid (show Whole w4 w.heap.size 27 #[.int .i64 0, .int .i32 0, .slice none 0 0, .int .i64 0] by rw [← hw4]; exact hE3.alloc _)
    have HF4 := Lib.hid (show Whole w4 (w.heap.size + 1) 30 #[.int .i64 0, .int .i64 0, .int .i64 0] by rw [← hw4]; exact hF3.alloc _)
    have HQ4 := Lib.hid (show Whole w4 w3.heap.size 30 #[.int .i64 61, .int .i64 i, .int .i64 (b : Int)] by rw [← hw4]; exact heap_alloc_new w3 _)
    have HS4 := Lib.hid (show w.heap.size + 2 ≤ w4.heap.size by rw [← hw4]; simp; omega)
    have HQS := Lib.hid (show w3.heap.size < w4.heap.size by rw [← hw4]; simp)
    have HQ3 := Lib.hid hS3
    have HW4 := Lib.hid hw4
    clear hb3 hB3 hE3 hF3 hw4 HE2 HF2 HS2 HB2 HE1 HF1
    go_upto_region 8 with (fail)
    rw [HW4.out]
    obtain ⟨g, hg⟩ : ∃ g, signI c = g := ⟨_, rfl⟩
    obtain ⟨l, hl⟩ : ∃ l, letterI c = l := ⟨_, rfl⟩
    have HSG : Hid (∀ W, Calls Tryd.prog 20 #[.int .i32 c] W fun e w' => e = .returned (.bool g) ∧ W = w') := Lib.hid (fun W => (rsign_any c W).mono fun e w' h => ⟨hg ▸ h.1, h.2.symm⟩)
    have HLT : Hid (∀ W, Calls Tryd.prog 30 #[.int .i32 c] W fun e w' => e = .returned (.int .i32 l) ∧ W = w') := Lib.hid (fun W => (rletter_any c W).mono fun e w' h => ⟨hl ▸ h.1, h.2.symm⟩)
    cases g
    · have HO1 := Lib.hid (HO.out.trans (if_neg (by rw [hg]; decide)))
      clear HO hg
      by_cases hl0 : 0 ≤ l
      · have HN := Lib.hid (HO1.out.trans ((if_pos (by rw [hl]; exact hl0)).trans (by rw [hl])))
        clear HO1 hl
        obtain ⟨c0, c1, c2, c3, z0, z1, z2, z3⟩ := HE4.out.four
        obtain ⟨d0, d1, d2, y0, y1, y2⟩ := HF4.out.three
        go_wp2_with (first | (go_at_call 20; with_reducible refine (HSG.out _).mono ?_; rintro e w5 ⟨rfl, h5⟩; subst h5) | (go_at_call 30; with_reducible refine (HLT.out _).mono ?_; rintro e w5 ⟨rfl, h5⟩; subst h5))
        obtain ⟨r1, r2⟩ := both_whole HE4.out HF4.out (a := w.heap.size) (b := w.heap.size + 1) (by omega)
        refine bodyPost_ret (results_etw Tryd.results11 _ rfl r1 rfl rfl r2 rfl) rfl ?_
        unfold EscPost
        rw [HN.out]
        exact ⟨(set3_below (set4_below HB4.out (Nat.le_refl _) _ _ _ _) (by omega) _ _ _), ⟨_, rfl, own_none _ _⟩⟩
      have HO2 := Lib.hid (HO1.out.trans (if_neg (by rw [hl]; exact hl0)))
      clear HO1 hl
      by_cases h120 : c = 120
      · have b2 : (c == 120) = true := eq_true_of h120
        have HO3 := Lib.hid (HO2.out.trans (if_pos h120))
        have HM := Lib.hid (rnumber_any s b w4 hs hn)
        clear HO2 h120
        go_wp2_with (first | (go_at_call 20; with_reducible refine (HSG.out _).mono ?_; rintro e w5 ⟨rfl, h5⟩; subst h5) | (go_at_call 30; with_reducible refine (HLT.out _).mono ?_; rintro e w5 ⟨rfl, h5⟩; subst h5))
        refine HM.out.mono ?_
        rintro e w5 ⟨hb5, ⟨hm, rfl⟩ | ⟨v, k, hm, rfl⟩⟩
        · have HN := Lib.hid (show O = .bad 61 b by rw [HO3.out, hm])
          have HB5 := Lib.hid (HB4.out.trans (hb5.mono HB4.out.size))
          have HS5 := Lib.hid (show w.heap.size + 2 ≤ w5.heap.size from Nat.le_trans (by have := HS4.out; omega) hb5.size)
          have HE5 := Lib.hid (HE4.out.below hb5 (by have := HS4.out; omega))
          have HF5 := Lib.hid (HF4.out.below hb5 (by have := HS4.out; omega))
          have HQ5 := Lib.hid (HQ4.out.below hb5 HQS.out)
          clear hb5 hm HO3
          obtain ⟨c0, c1, c2, c3, z0, z1, z2, z3⟩ := HE5.out.four
          obtain ⟨d0, d1, d2, y0, y1, y2⟩ := HF5.out.three
          obtain ⟨q0, q1, q2, -, -, -⟩ := HQ5.out.three
          go_wp2_with fail
          go_region
          go_wp2_with fail
          obtain ⟨r1, r2⟩ := both_whole HE5.out HF5.out (a := w.heap.size) (b := w.heap.size + 1) (by omega)
          refine bodyPost_ret (results_etw Tryd.results11 _ rfl r1.drew rfl rfl r2.drew rfl) rfl ?_
          unfold EscPost
          rw [HN.out]
          exact ⟨Below.drew (set3_below (set4_below HB5.out (Nat.le_refl _) _ _ _ _) (by omega) _ _ _), rfl⟩
        · have HN := Lib.hid (show O = .esc 1 v [] 0 k by rw [HO3.out, hm])
          have HB5 := Lib.hid (HB4.out.trans (hb5.mono HB4.out.size))
          have HS5 := Lib.hid (show w.heap.size + 2 ≤ w5.heap.size from Nat.le_trans (by have := HS4.out; omega) hb5.size)
          have HE5 := Lib.hid (HE4.out.below hb5 (by have := HS4.out; omega))
          have HF5 := Lib.hid (HF4.out.below hb5 (by have := HS4.out; omega))
          clear hb5 hm HO3
          obtain ⟨c0, c1, c2, c3, z0, z1, z2, z3⟩ := HE5.out.four
          obtain ⟨d0, d1, d2, y0, y1, y2⟩ := HF5.out.three
          go_wp2_with fail
          obtain ⟨r1, r2⟩ := both_whole HE5.out HF5.out (a := w.heap.size) (b := w.heap.size + 1) (by omega)
          refine bodyPost_ret (results_etw Tryd.results11 _ rfl r1 rfl rfl r2 rfl) rfl ?_
          unfold EscPost
          rw [HN.out]
          exact ⟨(set3_below (set4_below HB5.out (Nat.le_refl _) _ _ _ _) (by omega) _ _ _), ⟨_, rfl, own_none _ _⟩⟩
      have b2 : (c == 120) = false := eq_false_of h120
      have HO3 := Lib.hid (HO2.out.trans (if_neg h120))
      clear HO2 h120
      by_cases hp : c = 112 ∨ c = 80
      · have HO4 := Lib.hid (HO3.out.trans (if_pos hp))
        have HM := Lib.hid (rproperty6_any s b w4 hs hn (Utf8Tabs_below HT.out HB4.out))
        clear HO3
        rcases hp with hp | hp
        · have hup : decide (c = 80) = false := decide_eq_false (by omega)
          have b3 : (c == 80) = false := eq_false_of (by omega)
          have b4 : (c == 112) = true := eq_true_of (by omega)
          rw [hup] at HO4
          clear hup hp
          go_wp2_with (first | (go_at_call 20; with_reducible refine (HSG.out _).mono ?_; rintro e w5 ⟨rfl, h5⟩; subst h5) | (go_at_call 30; with_reducible refine (HLT.out _).mono ?_; rintro e w5 ⟨rfl, h5⟩; subst h5))
          refine HM.out.mono ?_
          rintro e w5 ⟨hb5, ⟨hm, rfl⟩ | ⟨nm, k, bs, hm, hbs, rfl⟩⟩
          · have HN := Lib.hid (show O = .bad 61 b by rw [HO4.out, hm])
            have HB5 := Lib.hid (HB4.out.trans (hb5.mono HB4.out.size))
            have HS5 := Lib.hid (show w.heap.size + 2 ≤ w5.heap.size from Nat.le_trans (by have := HS4.out; omega) hb5.size)
            have HE5 := Lib.hid (HE4.out.below hb5 (by have := HS4.out; omega))
            have HF5 := Lib.hid (HF4.out.below hb5 (by have := HS4.out; omega))
            have HQ5 := Lib.hid (HQ4.out.below hb5 HQS.out)
            clear hb5 hm HO4
            obtain ⟨c0, c1, c2, c3, z0, z1, z2, z3⟩ := HE5.out.four
            obtain ⟨d0, d1, d2, y0, y1, y2⟩ := HF5.out.three
            obtain ⟨q0, q1, q2, -, -, -⟩ := HQ5.out.three
            go_wp2_with fail
            go_region
            go_wp2_with fail
            obtain ⟨r1, r2⟩ := both_whole HE5.out HF5.out (a := w.heap.size) (b := w.heap.size + 1) (by omega)
            refine bodyPost_ret (results_etw Tryd.results11 _ rfl r1.drew rfl rfl r2.drew rfl) rfl ?_
            unfold EscPost
            rw [HN.out]
            exact ⟨Below.drew (set3_below (set4_below HB5.out (Nat.le_refl _) _ _ _ _) (by omega) _ _ _), rfl⟩
          · have HO5 := Lib.hid (show O = match propR nm false with | none => .bad 63 k | some l => .esc 2 0 l 0 k by rw [HO4.out, hm])
            have HB5 := Lib.hid (HB4.out.trans (hb5.mono HB4.out.size))
            have HS5 := Lib.hid (show w.heap.size + 2 ≤ w5.heap.size from Nat.le_trans (by have := HS4.out; omega) hb5.size)
            have HE5 := Lib.hid (HE4.out.below hb5 (by have := HS4.out; omega))
            have HF5 := Lib.hid (HF4.out.below hb5 (by have := HS4.out; omega))
            have HPR := Lib.hid (rprop_any bs false w5)
            rw [hbs] at HPR
            clear hb5 hm hbs HO4
            go_wp2_with fail
            refine HPR.out.mono ?_
            rintro e w6 ⟨hb6, ⟨hq, rfl⟩ | ⟨v, l, hq, rfl, ho⟩⟩
            · have HN := Lib.hid (show O = .bad 63 k by rw [HO5.out, hq])
              have HB6 := Lib.hid (HB5.out.trans (hb6.mono HB5.out.size))
              have HS6 := Lib.hid (show w.heap.size + 2 ≤ w6.heap.size from Nat.le_trans (by have := HS5.out; omega) hb6.size)
              have HE6 := Lib.hid (HE5.out.below hb6 (by have := HS5.out; omega))
              have HF6 := Lib.hid (HF5.out.below hb6 (by have := HS5.out; omega))
              clear hb6 hq HO5
              go_wp2_with fail
              refine (rwrong_any 63 i (k : Int) _).mono ?_
              rintro e w7 ⟨rfl, hb7⟩
              have HB7 := Lib.hid (HB6.out.trans (hb7.mono HB6.out.size))
              have HS7 := Lib.hid (show w.heap.size + 2 ≤ w7.heap.size from Nat.le_trans (by have := HS6.out; omega) hb7.size)
              have HE7 := Lib.hid (HE6.out.below hb7 (by have := HS6.out; omega))
              have HF7 := Lib.hid (HF6.out.below hb7 (by have := HS6.out; omega))
              clear hb7
              obtain ⟨c0, c1, c2, c3, z0, z1, z2, z3⟩ := HE7.out.four
              obtain ⟨d0, d1, d2, y0, y1, y2⟩ := HF7.out.three
              go_wp2_with fail
              obtain ⟨r1, r2⟩ := both_whole HE7.out HF7.out (a := w.heap.size) (b := w.heap.size + 1) (by omega)
              refine bodyPost_ret (results_etw Tryd.results11 _ rfl r1 rfl rfl r2 rfl) rfl ?_
              unfold EscPost
              rw [HN.out]
              exact ⟨(set3_below (set4_below HB7.out (Nat.le_refl _) _ _ _ _) (by omega) _ _ _), rfl⟩
            · have HN := Lib.hid (show O = .esc 2 0 l 0 k by rw [HO5.out, hq])
              have HB6 := Lib.hid (HB5.out.trans (hb6.mono HB5.out.size))
              have HS6 := Lib.hid (show w.heap.size + 2 ≤ w6.heap.size from Nat.le_trans (by have := HS5.out; omega) hb6.size)
              have HE6 := Lib.hid (HE5.out.below hb6 (by have := HS5.out; omega))
              have HF6 := Lib.hid (HF5.out.below hb6 (by have := HS5.out; omega))
              have HOW := Lib.hid ho
              have HGE := Lib.hid (own_ge ho)
              obtain ⟨A, cA, hvs, -⟩ := ho.rgs
              subst hvs
              clear hb6 hq HO5 ho
              obtain ⟨c0, c1, c2, c3, z0, z1, z2, z3⟩ := HE6.out.four
              obtain ⟨d0, d1, d2, y0, y1, y2⟩ := HF6.out.three
              go_wp2_with fail
              obtain ⟨r1, r2⟩ := both_whole HE6.out HF6.out (a := w.heap.size) (b := w.heap.size + 1) (by omega)
              refine bodyPost_ret (results_etw Tryd.results11 _ rfl r1 rfl rfl r2 rfl) rfl ?_
              unfold EscPost
              rw [HN.out]
              exact ⟨(set3_below (set4_below HB6.out (Nat.le_refl _) _ _ _ _) (by omega) _ _ _), ⟨_, rfl, own_set3 (own_set4 (HOW.out.mono HB5.out.size) (fun g hg => by have := HGE.out g hg; have := HS5.out; omega) _ _ _ _) (fun g hg => by have := HGE.out g hg; have := HS5.out; omega) _ _ _⟩⟩
        · have hup : decide (c = 80) = true := decide_eq_true (by omega)
          have b3 : (c == 80) = true := eq_true_of (by omega)
          have b4 : (c == 112) = false := eq_false_of (by omega)
          rw [hup] at HO4
          clear hup hp
          go_wp2_with (first | (go_at_call 20; with_reducible refine (HSG.out _).mono ?_; rintro e w5 ⟨rfl, h5⟩; subst h5) | (go_at_call 30; with_reducible refine (HLT.out _).mono ?_; rintro e w5 ⟨rfl, h5⟩; subst h5))
          refine HM.out.mono ?_
          rintro e w5 ⟨hb5, ⟨hm, rfl⟩ | ⟨nm, k, bs, hm, hbs, rfl⟩⟩
          · have HN := Lib.hid (show O = .bad 61 b by rw [HO4.out, hm])
            have HB5 := Lib.hid (HB4.out.trans (hb5.mono HB4.out.size))
            have HS5 := Lib.hid (show w.heap.size + 2 ≤ w5.heap.size from Nat.le_trans (by have := HS4.out; omega) hb5.size)
            have HE5 := Lib.hid (HE4.out.below hb5 (by have := HS4.out; omega))
            have HF5 := Lib.hid (HF4.out.below hb5 (by have := HS4.out; omega))
            have HQ5 := Lib.hid (HQ4.out.below hb5 HQS.out)
            clear hb5 hm HO4
            obtain ⟨c0, c1, c2, c3, z0, z1, z2, z3⟩ := HE5.out.four
            obtain ⟨d0, d1, d2, y0, y1, y2⟩ := HF5.out.three
            obtain ⟨q0, q1, q2, -, -, -⟩ := HQ5.out.three
            go_wp2_with fail
            go_region
            go_wp2_with fail
            obtain ⟨r1, r2⟩ := both_whole HE5.out HF5.out (a := w.heap.size) (b := w.heap.size + 1) (by omega)
            refine bodyPost_ret (results_etw Tryd.results11 _ rfl r1.drew rfl rfl r2.drew rfl) rfl ?_
            unfold EscPost
            rw [HN.out]
            exact ⟨Below.drew (set3_below (set4_below HB5.out (Nat.le_refl _) _ _ _ _) (by omega) _ _ _), rfl⟩
          · have HO5 := Lib.hid (show O = match propR nm true with | none => .bad 63 k | some l => .esc 2 0 l 0 k by rw [HO4.out, hm])
            have HB5 := Lib.hid (HB4.out.trans (hb5.mono HB4.out.size))
            have HS5 := Lib.hid (show w.heap.size + 2 ≤ w5.heap.size from Nat.le_trans (by have := HS4.out; omega) hb5.size)
            have HE5 := Lib.hid (HE4.out.below hb5 (by have := HS4.out; omega))
            have HF5 := Lib.hid (HF4.out.below hb5 (by have := HS4.out; omega))
            have HPR := Lib.hid (rprop_any bs true w5)
            rw [hbs] at HPR
            clear hb5 hm hbs HO4
            go_wp2_with fail
            refine HPR.out.mono ?_
            rintro e w6 ⟨hb6, ⟨hq, rfl⟩ | ⟨v, l, hq, rfl, ho⟩⟩
            · have HN := Lib.hid (show O = .bad 63 k by rw [HO5.out, hq])
              have HB6 := Lib.hid (HB5.out.trans (hb6.mono HB5.out.size))
              have HS6 := Lib.hid (show w.heap.size + 2 ≤ w6.heap.size from Nat.le_trans (by have := HS5.out; omega) hb6.size)
              have HE6 := Lib.hid (HE5.out.below hb6 (by have := HS5.out; omega))
              have HF6 := Lib.hid (HF5.out.below hb6 (by have := HS5.out; omega))
              clear hb6 hq HO5
              go_wp2_with fail
              refine (rwrong_any 63 i (k : Int) _).mono ?_
              rintro e w7 ⟨rfl, hb7⟩
              have HB7 := Lib.hid (HB6.out.trans (hb7.mono HB6.out.size))
              have HS7 := Lib.hid (show w.heap.size + 2 ≤ w7.heap.size from Nat.le_trans (by have := HS6.out; omega) hb7.size)
              have HE7 := Lib.hid (HE6.out.below hb7 (by have := HS6.out; omega))
              have HF7 := Lib.hid (HF6.out.below hb7 (by have := HS6.out; omega))
              clear hb7
              obtain ⟨c0, c1, c2, c3, z0, z1, z2, z3⟩ := HE7.out.four
              obtain ⟨d0, d1, d2, y0, y1, y2⟩ := HF7.out.three
              go_wp2_with fail
              obtain ⟨r1, r2⟩ := both_whole HE7.out HF7.out (a := w.heap.size) (b := w.heap.size + 1) (by omega)
              refine bodyPost_ret (results_etw Tryd.results11 _ rfl r1 rfl rfl r2 rfl) rfl ?_
              unfold EscPost
              rw [HN.out]
              exact ⟨(set3_below (set4_below HB7.out (Nat.le_refl _) _ _ _ _) (by omega) _ _ _), rfl⟩
            · have HN := Lib.hid (show O = .esc 2 0 l 0 k by rw [HO5.out, hq])
              have HB6 := Lib.hid (HB5.out.trans (hb6.mono HB5.out.size))
              have HS6 := Lib.hid (show w.heap.size + 2 ≤ w6.heap.size from Nat.le_trans (by have := HS5.out; omega) hb6.size)
              have HE6 := Lib.hid (HE5.out.below hb6 (by have := HS5.out; omega))
              have HF6 := Lib.hid (HF5.out.below hb6 (by have := HS5.out; omega))
              have HOW := Lib.hid ho
              have HGE := Lib.hid (own_ge ho)
              obtain ⟨A, cA, hvs, -⟩ := ho.rgs
              subst hvs
              clear hb6 hq HO5 ho
              obtain ⟨c0, c1, c2, c3, z0, z1, z2, z3⟩ := HE6.out.four
              obtain ⟨d0, d1, d2, y0, y1, y2⟩ := HF6.out.three
              go_wp2_with fail
              obtain ⟨r1, r2⟩ := both_whole HE6.out HF6.out (a := w.heap.size) (b := w.heap.size + 1) (by omega)
              refine bodyPost_ret (results_etw Tryd.results11 _ rfl r1 rfl rfl r2 rfl) rfl ?_
              unfold EscPost
              rw [HN.out]
              exact ⟨(set3_below (set4_below HB6.out (Nat.le_refl _) _ _ _ _) (by omega) _ _ _), ⟨_, rfl, own_set3 (own_set4 (HOW.out.mono HB5.out.size) (fun g hg => by have := HGE.out g hg; have := HS5.out; omega) _ _ _ _) (fun g hg => by have := HGE.out g hg; have := HS5.out; omega) _ _ _⟩⟩
      have b3 : (c == 112) = false := eq_false_of (fun h => hp (.inl h))
      have b4 : (c == 80) = false := eq_false_of (fun h => hp (.inr h))
      have HO4 := Lib.hid (HO3.out.trans (if_neg hp))
      have HM := Lib.hid (rperls6_any c (b : Int) w4 hc0)
      clear HO3 hp
      go_wp2_with (first | (go_at_call 20; with_reducible refine (HSG.out _).mono ?_; rintro e w5 ⟨rfl, h5⟩; subst h5) | (go_at_call 30; with_reducible refine (HLT.out _).mono ?_; rintro e w5 ⟨rfl, h5⟩; subst h5))
      refine HM.out.mono ?_
      rintro e w5 ⟨hb5, ⟨hm, rfl⟩ | ⟨k, l, a, v, hm, rfl, ho⟩⟩
      · have HN := Lib.hid (show O = .bad 61 b by rw [HO4.out, hm])
        have HB5 := Lib.hid (HB4.out.trans (hb5.mono HB4.out.size))
        have HS5 := Lib.hid (show w.heap.size + 2 ≤ w5.heap.size from Nat.le_trans (by have := HS4.out; omega) hb5.size)
        have HE5 := Lib.hid (HE4.out.below hb5 (by have := HS4.out; omega))
        have HF5 := Lib.hid (HF4.out.below hb5 (by have := HS4.out; omega))
        have HQ5 := Lib.hid (HQ4.out.below hb5 HQS.out)
        have HQ9 := Lib.hid (show w3.heap.size < w5.heap.size from Nat.lt_of_lt_of_le HQS.out hb5.size)
        obtain ⟨w6, hw6⟩ : ∃ w6, w5.alloc (.cells #[.int .i64 0, .int .i32 0, .slice none 0 0, .int .i64 0] 27) = w6 := ⟨_, rfl⟩
        have hb6 : Below w5.heap.size w5 w6 := by rw [← hw6]; exact (Below.refl _ w5).alloc (Nat.le_refl _) _
        have HB6 := Lib.hid (HB5.out.trans (hb6.mono HB5.out.size))
        have HS6 := Lib.hid (show w.heap.size + 2 ≤ w6.heap.size from Nat.le_trans (by have := HS5.out; omega) hb6.size)
        have HE6 := Lib.hid (HE5.out.below hb6 (by have := HS5.out; omega))
        have HF6 := Lib.hid (HF5.out.below hb6 (by have := HS5.out; omega))
        have HW6 := Lib.hid hw6
        have HX6 := Lib.hid (show Whole w6 w5.heap.size 27 #[.int .i64 0, .int .i32 0, .slice none 0 0, .int .i64 0] by rw [← hw6]; exact heap_alloc_new w5 _)
        have HQ6 := Lib.hid (HQ5.out.below hb6 HQ9.out)
        clear hb5 hb6 hw6 hm HO4
        unfold escV
        go_upto_region 26 with (fail)
        rw [HW6.out]
        obtain ⟨c0, c1, c2, c3, z0, z1, z2, z3⟩ := HE6.out.four
        obtain ⟨d0, d1, d2, y0, y1, y2⟩ := HF6.out.three
        obtain ⟨q0, q1, q2, -, -, -⟩ := HQ6.out.three
        go_wp2_with fail
        go_region
        go_wp2_with fail
        obtain ⟨r1, r2⟩ := both_whole HE6.out HF6.out (a := w.heap.size) (b := w.heap.size + 1) (by omega)
        refine bodyPost_ret (results_etw Tryd.results11 _ rfl r1.drew rfl rfl r2.drew rfl) rfl ?_
        unfold EscPost
        rw [HN.out]
        exact ⟨Below.drew (set3_below (set4_below HB6.out (Nat.le_refl _) _ _ _ _) (by omega) _ _ _), rfl⟩
      · have HO5 := Lib.hid (show O = if p = true then .esc k 0 l a b else .bad 61 b by rw [HO4.out, hm])
        have HB5 := Lib.hid (HB4.out.trans (hb5.mono HB4.out.size))
        have HS5 := Lib.hid (show w.heap.size + 2 ≤ w5.heap.size from Nat.le_trans (by have := HS4.out; omega) hb5.size)
        have HE5 := Lib.hid (HE4.out.below hb5 (by have := HS4.out; omega))
        have HF5 := Lib.hid (HF4.out.below hb5 (by have := HS4.out; omega))
        obtain ⟨A, n', cA, hvs⟩ : ∃ A n' cA, v = .slice A n' cA := by obtain ⟨A, cA, hvs, -⟩ := ho.rgs; exact ⟨_, _, _, hvs⟩
        have HOW := Lib.hid ho
        have HGE := Lib.hid (own_ge ho)
        subst hvs
        have HQ5 := Lib.hid (HQ4.out.below hb5 HQS.out)
        have HQ9 := Lib.hid (show w3.heap.size < w5.heap.size from Nat.lt_of_lt_of_le HQS.out hb5.size)
        obtain ⟨w6, hw6⟩ : ∃ w6, w5.alloc (.cells #[.int .i64 k, .int .i32 0, .slice A n' cA, .int .i64 a] 27) = w6 := ⟨_, rfl⟩
        have hb6 : Below w5.heap.size w5 w6 := by rw [← hw6]; exact (Below.refl _ w5).alloc (Nat.le_refl _) _
        have HB6 := Lib.hid (HB5.out.trans (hb6.mono HB5.out.size))
        have HS6 := Lib.hid (show w.heap.size + 2 ≤ w6.heap.size from Nat.le_trans (by have := HS5.out; omega) hb6.size)
        have HE6 := Lib.hid (HE5.out.below hb6 (by have := HS5.out; omega))
        have HF6 := Lib.hid (HF5.out.below hb6 (by have := HS5.out; omega))
        have HW6 := Lib.hid hw6
        have HX6 := Lib.hid (show Whole w6 w5.heap.size 27 #[.int .i64 k, .int .i32 0, .slice A n' cA, .int .i64 a] by rw [← hw6]; exact heap_alloc_new w5 _)
        have HQ6 := Lib.hid (HQ5.out.below hb6 HQ9.out)
        have HO6 := Lib.hid (HOW.out.below hb6)
        clear hb5 hb6 hw6 hm HO4 ho HOW
        unfold escV
        go_upto_region 26 with (fail)
        rw [HW6.out]
        cases p
        · have HN := Lib.hid (show O = .bad 61 b from HO5.out)
          clear HO5
          obtain ⟨c0, c1, c2, c3, z0, z1, z2, z3⟩ := HE6.out.four
          obtain ⟨d0, d1, d2, y0, y1, y2⟩ := HF6.out.three
          obtain ⟨q0, q1, q2, -, -, -⟩ := HQ6.out.three
          go_wp2_with fail
          go_region
          go_wp2_with fail
          obtain ⟨r1, r2⟩ := both_whole HE6.out HF6.out (a := w.heap.size) (b := w.heap.size + 1) (by omega)
          refine bodyPost_ret (results_etw Tryd.results11 _ rfl r1.drew rfl rfl r2.drew rfl) rfl ?_
          unfold EscPost
          rw [HN.out]
          exact ⟨Below.drew (set3_below (set4_below HB6.out (Nat.le_refl _) _ _ _ _) (by omega) _ _ _), rfl⟩
        · have HN := Lib.hid (show O = .esc k 0 l a b from HO5.out)
          clear HO5
          obtain ⟨c0, c1, c2, c3, z0, z1, z2, z3⟩ := HE6.out.four
          obtain ⟨d0, d1, d2, y0, y1, y2⟩ := HF6.out.three
          obtain ⟨e0, e1, e2, e3, -, -, -, -⟩ := HX6.out.four
          go_wp2_with fail
          obtain ⟨r1, r2⟩ := both_whole HE6.out HF6.out (a := w.heap.size) (b := w.heap.size + 1) (by omega)
          refine bodyPost_ret (results_etw Tryd.results11 _ rfl r1 rfl rfl r2 rfl) rfl ?_
          unfold EscPost
          rw [HN.out]
          exact ⟨(set3_below (set4_below HB6.out (Nat.le_refl _) _ _ _ _) (by omega) _ _ _), ⟨_, rfl, own_set3 (own_set4 (HO6.out.mono HB4.out.size) (fun g hg => by have := HGE.out g hg; have := HS4.out; omega) _ _ _ _) (fun g hg => by have := HGE.out g hg; have := HS4.out; omega) _ _ _⟩⟩
    · have HN := Lib.hid (HO.out.trans (if_pos (by rw [hg])))
      clear HO hg
      obtain ⟨c0, c1, c2, c3, z0, z1, z2, z3⟩ := HE4.out.four
      obtain ⟨d0, d1, d2, y0, y1, y2⟩ := HF4.out.three
      go_wp2_with (first | (go_at_call 20; with_reducible refine (HSG.out _).mono ?_; rintro e w5 ⟨rfl, h5⟩; subst h5) | (go_at_call 30; with_reducible refine (HLT.out _).mono ?_; rintro e w5 ⟨rfl, h5⟩; subst h5))
      obtain ⟨r1, r2⟩ := both_whole HE4.out HF4.out (a := w.heap.size) (b := w.heap.size + 1) (by omega)
      refine bodyPost_ret (results_etw Tryd.results11 _ rfl r1 rfl rfl r2 rfl) rfl ?_
      unfold EscPost
      rw [HN.out]
      exact ⟨(set3_below (set4_below HB4.out (Nat.le_refl _) _ _ _ _) (by omega) _ _ _), ⟨_, rfl, own_none _ _⟩⟩
  · have HN := Lib.hid (hO.symm.trans (if_pos h92))
    by_cases hlt : i < s.size
    · have b0 : ((s[i].toNat : Int) != 92) = true := ne_true_of (fun h => h92 ((head_at s i hlt).trans h))
      clear hO h92
      go_enter Tryd.func11, Tryd.ntmps11
      go_upto_region 1 with (fail)
      rw [HW1.out]
      go_wp2_with fail
      refine (rwrong_any 1 i i _).mono ?_
      rintro e w2 ⟨rfl, hb2⟩
      have HB2 := Lib.hid (HB1.out.trans (hb2.mono HB1.out.size))
      have HS2 := Lib.hid (show w.heap.size + 2 ≤ w2.heap.size from Nat.le_trans (by have := HS1.out; omega) hb2.size)
      have HE2 := Lib.hid (HE1.out.below hb2 (by have := HS1.out; omega))
      have HF2 := Lib.hid (HF1.out.below hb2 (by have := HS1.out; omega))
      obtain ⟨c0, c1, c2, c3, z0, z1, z2, z3⟩ := HE2.out.four
      obtain ⟨d0, d1, d2, y0, y1, y2⟩ := HF2.out.three
      clear hb2
      go_wp2_with fail
      obtain ⟨r1, r2⟩ := both_whole HE2.out HF2.out (a := w.heap.size) (b := w.heap.size + 1) (by omega)
      refine bodyPost_ret (results_etw Tryd.results11 _ rfl r1 rfl rfl r2 rfl) rfl ?_
      unfold EscPost
      rw [HN.out]
      exact ⟨(set3_below (set4_below HB2.out (Nat.le_refl _) _ _ _ _) (by omega) _ _ _), rfl⟩
    · clear hO h92
      go_enter Tryd.func11, Tryd.ntmps11
      go_upto_region 1 with (fail)
      rw [HW1.out]
      go_wp2_with fail
      refine (rwrong_any 1 i i _).mono ?_
      rintro e w2 ⟨rfl, hb2⟩
      have HB2 := Lib.hid (HB1.out.trans (hb2.mono HB1.out.size))
      have HS2 := Lib.hid (show w.heap.size + 2 ≤ w2.heap.size from Nat.le_trans (by have := HS1.out; omega) hb2.size)
      have HE2 := Lib.hid (HE1.out.below hb2 (by have := HS1.out; omega))
      have HF2 := Lib.hid (HF1.out.below hb2 (by have := HS1.out; omega))
      obtain ⟨c0, c1, c2, c3, z0, z1, z2, z3⟩ := HE2.out.four
      obtain ⟨d0, d1, d2, y0, y1, y2⟩ := HF2.out.three
      clear hb2
      go_wp2_with fail
      obtain ⟨r1, r2⟩ := both_whole HE2.out HF2.out (a := w.heap.size) (b := w.heap.size + 1) (by omega)
      refine bodyPost_ret (results_etw Tryd.results11 _ rfl r1 rfl rfl r2 rfl) rfl ?_
      unfold EscPost
      rw [HN.out]
      exact ⟨(set3_below (set4_below HB2.out (Nat.le_refl _) _ _ _ _) (by omega) _ _ _), rfl⟩
end Go.Proofs.YtofhckheeijoiaaDoor
