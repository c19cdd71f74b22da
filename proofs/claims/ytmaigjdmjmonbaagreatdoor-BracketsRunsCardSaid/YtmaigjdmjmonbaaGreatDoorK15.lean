/- Texts merged by program: SEsc, BrSpec, PbSome, BrOne, BrItem, PbFew, BrClass, BrShift, BrBits. No condition. -/
import Derived.Test.YtmaigjdmjmonbaaGreatDoorK13
import Derived.Test.YtmaigjdmjmonbaaGreatDoorK7
import Derived.Test.YtmaigjdmjmonbaaGreatDoorK2
import Derived.Test.YtmaigjdmjmonbaaGreatDoorK14
import Derived.Test.YtmaigjdmjmonbaaGreatDoorK6
import Derived.Deep.RegionHeld3
import Derived.Lib.TrimU
set_option linter.unusedVariables false
/- The document's escape of a text at a place. -/
namespace Go.Proofs.YtmaigjdmjmonbaaGreatDoor
open Go Go.RowKit

/-- An escape and the place behind it, or what is wrong and how far. -/
inductive EscR where
  | esc (k r : Int) (l : List (Int × Int)) (a : Int) (n : Nat)
  | bad (c : Int) (till : Nat)
/-- Behind a backslash stands the rune c, and behind that the place b. -/
def escC (s : ByteArray) (c : Int) (b : Nat) (p : Bool) : EscR :=
  if signI c = true then .esc 1 c [] 0 b else if 0 ≤ letterI c then .esc 1 (letterI c) [] 0 b else
  if c = 120 then (match numberS s b with
    | none => .bad 61 b
    | some (v, k) => .esc 1 v [] 0 k)
  else if c = 112 ∨ c = 80 then (match propS s b with
    | none => .bad 61 b
    | some (nm, k) => match propR nm (decide (c = 80)) with
      | none => .bad 63 k
      | some l => .esc 2 0 l 0 k)
  else match perlsR c with
    | none => .bad 61 b
    | some (k, l, a) => if p = true then .esc k 0 l a b else .bad 61 b
def escS (s : ByteArray) (i : Nat) (p : Bool) : EscR :=
  if ¬ headI (leftB s i) = 92 then .bad 1 i else if i + 1 = s.size then .bad 62 (i + 1) else escC s ((Utf8.decode s (i + 1)).1 : Nat) (i + 1 + (Utf8.decode s (i + 1)).2) p
def EscPost (R : EscR) (i : Nat) (w : World) (e : Ending) (w' : World) : Prop :=
  Below w.heap.size w w' ∧ match R with
    | .esc k r l a n => ∃ v, e = .returned (.tuple #[escV k r v a, .int .i64 (n : Int), wrongV 0 0 0]) ∧ OwnR w' w.heap.size v l
    | .bad c till => e = .returned (.tuple #[escV 0 0 (.slice none 0 0) 0, .int .i64 0, wrongV c i till])
theorem both_whole {W : World} {a b : Nat} {x0 x1 x2 x3 y0 y1 y2 u0 u1 u2 u3 v0 v1 v2 : Value} (hE : Whole W a 80 #[x0, x1, x2, x3]) (hF : Whole W b 27 #[y0, y1, y2]) (hab : a ≠ b) :
    Whole (set3 (set4 W a u0 u1 u2 u3) b v0 v1 v2) a 80 #[u0, u1, u2, u3] ∧ Whole (set3 (set4 W a u0 u1 u2 u3) b v0 v1 v2) b 27 #[v0, v1, v2] :=
  ⟨(set3_other hab _ _ _).trans (set4_whole hE _ _ _ _), set3_whole ((set4_other (Ne.symm hab) _ _ _ _).trans hF) _ _ _⟩

set_option maxHeartbeats 6400000 in
set_option maxRecDepth 100000 in
theorem rescape6_any (s : ByteArray) (i : Nat) (p : Bool) (w : World) (hs : s.size ≤ 4503599627370496) (hi : i ≤ s.size) (hT : Lib.Utf8Tabs 3 4 w) :
    Calls Tryz.prog 64 #[.string s, .int .i64 i, .bool p] w (EscPost (escS s i p) i w) := by
  obtain ⟨O, hO⟩ : ∃ O, escS s i p = O := ⟨_, rfl⟩
  rw [hO]
  obtain ⟨w1, hw1⟩ : ∃ w1, (w.alloc (.cells #[.int .i64 0, .int .i32 0, .slice none 0 0, .int .i64 0] 80)).alloc (.cells #[.int .i64 0, .int .i64 0, .int .i64 0] 27) = w1 := ⟨_, rfl⟩
  have hE1 : Whole w1 w.heap.size 80 #[.int .i64 0, .int .i32 0, .slice none 0 0, .int .i64 0] := by rw [← hw1]; exact Whole.alloc (heap_alloc_new w _) _
  have hF1 : Whole w1 (w.heap.size + 1) 27 #[.int .i64 0, .int .i64 0, .int .i64 0] := by
    rw [← hw1]
    have := heap_alloc_new (w.alloc (.cells #[.int .i64 0, .int .i32 0, .slice none 0 0, .int .i64 0] 80)) (.cells #[.int .i64 0, .int .i64 0, .int .i64 0] 27)
    simpa [Whole] using this
  have hb1 : Below w.heap.size w w1 := by rw [← hw1]; exact ((Below.refl _ w).alloc (Nat.le_refl _) _).alloc (by simp) _
  have hs1 : w1.heap.size = w.heap.size + 2 := by rw [← hw1]; simp
  have HW1 := Lib.hid hw1; have HE1 := Lib.hid hE1; have HF1 := Lib.hid hF1; have HB1 := Lib.hid hb1; have HS1 := Lib.hid hs1; have HT := Lib.hid hT
  clear hw1 hE1 hF1 hb1 hs1 hT
  have hw1 : IntKind.i64.wrap ((i : Int) + 1) = (i : Int) + 1 := wrap_in _ (by omega)
  by_cases h92 : headI (leftB s i) = 92
  · have hlt : i < s.size := head_in (by omega)
    have b0 : ((s[i].toNat : Int) != 92) = false := ne_false_of ((head_at s i hlt).symm.trans h92)
    have hO2 := hO.symm.trans (if_neg (fun h => h h92))
    clear hO h92
    by_cases hend : i + 1 = s.size
    · have HN := Lib.hid (hO2.trans (if_pos hend))
      have b1 : ((i : Int) + 1 == (s.size : Int)) = true := eq_true_of (by omega)
      clear hO2 hend
      go_enter Tryz.func64, Tryz.ntmps64
      go_upto_region 1 with (fail)
      rw [HW1.out]
      go_wp2_with fail
      refine (rwrong_any 62 i ((i : Int) + 1) _).mono ?_
      rintro e w2 ⟨rfl, hb2⟩
      have HB2 := Lib.hid (HB1.out.trans (hb2.mono HB1.out.size))
      have HS2 := Lib.hid (show w.heap.size + 2 ≤ w2.heap.size from Nat.le_trans (by have := HS1.out; omega) hb2.size)
      have HE2 := Lib.hid (HE1.out.below hb2 (by have := HS1.out; omega))
      have HF2 := Lib.hid (HF1.out.below hb2 (by have := HS1.out; omega))
      obtain ⟨c0, c1, c2, c3, z0, z1, z2, z3⟩ := HE2.out.four
      obtain ⟨d0, d1, d2, y0, y1, y2⟩ := HF2.out.three
      clear hb2
      go_wp2_with fail
      obtain ⟨r1, r2⟩ := both_whole HE2.out HF2.out (a := w.heap.size) (b := w.heap.size + 1) (by omega)
      refine bodyPost_ret (results_etw Tryz.results64 _ rfl r1 rfl rfl r2 rfl) rfl ?_
      unfold EscPost
      rw [HN.out]
      exact ⟨(set3_below (set4_below HB2.out (Nat.le_refl _) _ _ _ _) (by omega) _ _ _), rfl⟩
    have b1 : ((i : Int) + 1 == (s.size : Int)) = false := eq_false_of (by omega)
    have hO3 := hO2.trans (if_neg hend)
    have hlt1 : i + 1 < s.size := by omega
    have hn := decode_width s (i + 1) hlt1
    obtain ⟨⟨r, n⟩, hr⟩ : ∃ r, Utf8.decode s (i + 1) = r := ⟨_, rfl⟩
    have hrle : r ≤ 1114111 := by have := Lib.rune_le s (i + 1); rw [hr] at this; exact this
    rw [hr] at hO3 hn
    simp only at hO3 hn
    have hdec := Tryz.utf8_DecodeRuneInString (s.extract (i + 1) s.size) w1 (Utf8Tabs_below HT.out HB1.out)
    rw [decodeGo_extract s (i + 1) hlt1, hr] at hdec
    simp only at hdec
    obtain ⟨b, hb⟩ : ∃ b, i + 1 + n = b := ⟨_, rfl⟩
    rw [hb] at hO3 hn
    obtain ⟨c, hc⟩ : ∃ c : Int, (r : Int) = c := ⟨_, rfl⟩
    rw [hc] at hO3 hdec
    have hc0 : 0 ≤ c := by omega
    have hc1 : c ≤ 1114111 := by omega
    have HO := Lib.hid hO3; have HD := Lib.hid hdec
    have x1 : (0 : Int) ≤ (i : Int) + 1 := by omega
    have x2 : (i : Int) + 1 ≤ (s.size : Int) := by omega
    have x3 : ((i : Int) + 1).toNat = i + 1 := by omega
    have hw2 : IntKind.i64.wrap ((i : Int) + 1 + (n : Int)) = (b : Int) := by rw [← hb]; exact (wrap_in _ (by omega)).trans (by omega)
    clear hO2 hO3 hr hdec hend hc
    go_enter Tryz.func64, Tryz.ntmps64
    go_upto_region 1 with (fail)
    rw [HW1.out]
    go_wp2_with fail
    refine HD.out.mono ?_
    rintro e w2 ⟨rfl, hb2⟩
    have HB2 := Lib.hid (HB1.out.trans (hb2.mono HB1.out.size))
    have HS2 := Lib.hid (show w.heap.size + 2 ≤ w2.heap.size from Nat.le_trans (by have := HS1.out; omega) hb2.size)
    have HE2 := Lib.hid (HE1.out.below hb2 (by have := HS1.out; omega))
    have HF2 := Lib.hid (HF1.out.below hb2 (by have := HS1.out; omega))
    clear hb2 HD
    go_wp2_with fail
    refine (rwrong_any 61 i (b : Int) _).mono ?_
    rintro e w3 ⟨rfl, hb3⟩
    have hB3 := HB2.out.trans (hb3.mono HB2.out.size)
    have hE3 := HE2.out.below hb3 (by have := HS2.out; omega)
    have hF3 := HF2.out.below hb3 (by have := HS2.out; omega)
    have hS3 : w.heap.size + 2 ≤ w3.heap.size := Nat.le_trans HS2.out hb3.size
    obtain ⟨w4, hw4⟩ : ∃ w4, w3.alloc (.cells #[.int .i64 61, .int .i64 i, .int .i64 (b : Int)] 27) = w4 := ⟨_, rfl⟩
    have HB4 := Lib.hid (show Below w.heap.size w w4 by rw [← hw4]; exact hB3.alloc hB3.size _)
    have HE4 := Lib.hid (show Whole w4 w.heap.size 80 #[.int .i64 0, .int .i32 0, .slice none 0 0, .int .i64 0] by rw [← hw4]; exact hE3.alloc _)
    have HF4 := Lib.hid (show Whole w4 (w.heap.size + 1) 27 #[.int .i64 0, .int .i64 0, .int .i64 0] by rw [← hw4]; exact hF3.alloc _)
    have HQ4 := Lib.hid (show Whole w4 w3.heap.size 27 #[.int .i64 61, .int .i64 i, .int .i64 (b : Int)] by rw [← hw4]; exact heap_alloc_new w3 _)
    have HS4 := Lib.hid (show w.heap.size + 2 ≤ w4.heap.size by rw [← hw4]; simp; omega)
    have HQS := Lib.hid (show w3.heap.size < w4.heap.size by rw [← hw4]; simp)
    have HQ3 := Lib.hid hS3
    have HW4 := Lib.hid hw4
    clear hb3 hB3 hE3 hF3 hw4 HE2 HF2 HS2 HB2 HE1 HF1
    go_upto_region 8 with (fail)
    rw [HW4.out]
    obtain ⟨g, hg⟩ : ∃ g, signI c = g := ⟨_, rfl⟩
    obtain ⟨l, hl⟩ : ∃ l, letterI c = l := ⟨_, rfl⟩
    have HSG : Hid (∀ W, Calls Tryz.prog 82 #[.int .i32 c] W fun e w' => e = .returned (.bool g) ∧ W = w') := Lib.hid (fun W => (rsign_any c W).mono fun e w' h => ⟨hg ▸ h.1, h.2.symm⟩)
    have HLT : Hid (∀ W, Calls Tryz.prog 83 #[.int .i32 c] W fun e w' => e = .returned (.int .i32 l) ∧ W = w') := Lib.hid (fun W => (rletter_any c W).mono fun e w' h => ⟨hl ▸ h.1, h.2.symm⟩)
    cases g
    · have HO1 := Lib.hid (HO.out.trans (if_neg (by rw [hg]; decide)))
      clear HO hg
      by_cases hl0 : 0 ≤ l
      · have HN := Lib.hid (HO1.out.trans ((if_pos (by rw [hl]; exact hl0)).trans (by rw [hl])))
        clear HO1 hl
        obtain ⟨c0, c1, c2, c3, z0, z1, z2, z3⟩ := HE4.out.four
        obtain ⟨d0, d1, d2, y0, y1, y2⟩ := HF4.out.three
        go_wp2_with (first | (go_at_call 82; with_reducible refine (HSG.out _).mono ?_; rintro e w5 ⟨rfl, h5⟩; subst h5) | (go_at_call 83; with_reducible refine (HLT.out _).mono ?_; rintro e w5 ⟨rfl, h5⟩; subst h5))
        obtain ⟨r1, r2⟩ := both_whole HE4.out HF4.out (a := w.heap.size) (b := w.heap.size + 1) (by omega)
        refine bodyPost_ret (results_etw Tryz.results64 _ rfl r1 rfl rfl r2 rfl) rfl ?_
        unfold EscPost
        rw [HN.out]
        exact ⟨(set3_below (set4_below HB4.out (Nat.le_refl _) _ _ _ _) (by omega) _ _ _), ⟨_, rfl, own_none _ _⟩⟩
      have HO2 := Lib.hid (HO1.out.trans (if_neg (by rw [hl]; exact hl0)))
      clear HO1 hl
      by_cases h120 : c = 120
      · have b2 : (c == 120) = true := eq_true_of h120
        have HO3 := Lib.hid (HO2.out.trans (if_pos h120))
        have HM := Lib.hid (rnumber_any s b w4 hs hn)
        clear HO2 h120
        go_wp2_with (first | (go_at_call 82; with_reducible refine (HSG.out _).mono ?_; rintro e w5 ⟨rfl, h5⟩; subst h5) | (go_at_call 83; with_reducible refine (HLT.out _).mono ?_; rintro e w5 ⟨rfl, h5⟩; subst h5))
        refine HM.out.mono ?_
        rintro e w5 ⟨hb5, ⟨hm, rfl⟩ | ⟨v, k, hm, rfl⟩⟩
        · have HN := Lib.hid (show O = .bad 61 b by rw [HO3.out, hm])
          have HB5 := Lib.hid (HB4.out.trans (hb5.mono HB4.out.size))
          have HS5 := Lib.hid (show w.heap.size + 2 ≤ w5.heap.size from Nat.le_trans (by have := HS4.out; omega) hb5.size)
          have HE5 := Lib.hid (HE4.out.below hb5 (by have := HS4.out; omega))
          have HF5 := Lib.hid (HF4.out.below hb5 (by have := HS4.out; omega))
          have HQ5 := Lib.hid (HQ4.out.below hb5 HQS.out)
          clear hb5 hm HO3
          obtain ⟨c0, c1, c2, c3, z0, z1, z2, z3⟩ := HE5.out.four
          obtain ⟨d0, d1, d2, y0, y1, y2⟩ := HF5.out.three
          obtain ⟨q0, q1, q2, -, -, -⟩ := HQ5.out.three
          go_wp2_with fail
          go_region
          go_wp2_with fail
          obtain ⟨r1, r2⟩ := both_whole HE5.out HF5.out (a := w.heap.size) (b := w.heap.size + 1) (by omega)
          refine bodyPost_ret (results_etw Tryz.results64 _ rfl r1.drew rfl rfl r2.drew rfl) rfl ?_
          unfold EscPost
          rw [HN.out]
          exact ⟨Below.drew (set3_below (set4_below HB5.out (Nat.le_refl _) _ _ _ _) (by omega) _ _ _), rfl⟩
        · have HN := Lib.hid (show O = .esc 1 v [] 0 k by rw [HO3.out, hm])
          have HB5 := Lib.hid (HB4.out.trans (hb5.mono HB4.out.size))
          have HS5 := Lib.hid (show w.heap.size + 2 ≤ w5.heap.size from Nat.le_trans (by have := HS4.out; omega) hb5.size)
          have HE5 := Lib.hid (HE4.out.below hb5 (by have := HS4.out; omega))
          have HF5 := Lib.hid (HF4.out.below hb5 (by have := HS4.out; omega))
          clear hb5 hm HO3
          obtain ⟨c0, c1, c2, c3, z0, z1, z2, z3⟩ := HE5.out.four
          obtain ⟨d0, d1, d2, y0, y1, y2⟩ := HF5.out.three
          go_wp2_with fail
          obtain ⟨r1, r2⟩ := both_whole HE5.out HF5.out (a := w.heap.size) (b := w.heap.size + 1) (by omega)
          refine bodyPost_ret (results_etw Tryz.results64 _ rfl r1 rfl rfl r2 rfl) rfl ?_
          unfold EscPost
          rw [HN.out]
          exact ⟨(set3_below (set4_below HB5.out (Nat.le_refl _) _ _ _ _) (by omega) _ _ _), ⟨_, rfl, own_none _ _⟩⟩
      have b2 : (c == 120) = false := eq_false_of h120
      have HO3 := Lib.hid (HO2.out.trans (if_neg h120))
      clear HO2 h120
      by_cases hp : c = 112 ∨ c = 80
      · have HO4 := Lib.hid (HO3.out.trans (if_pos hp))
        have HM := Lib.hid (rproperty6_any s b w4 hs hn (Utf8Tabs_below HT.out HB4.out))
        clear HO3
        rcases hp with hp | hp
        · have hup : decide (c = 80) = false := decide_eq_false (by omega)
          have b3 : (c == 80) = false := eq_false_of (by omega)
          have b4 : (c == 112) = true := eq_true_of (by omega)
          rw [hup] at HO4
          clear hup hp
          go_wp2_with (first | (go_at_call 82; with_reducible refine (HSG.out _).mono ?_; rintro e w5 ⟨rfl, h5⟩; subst h5) | (go_at_call 83; with_reducible refine (HLT.out _).mono ?_; rintro e w5 ⟨rfl, h5⟩; subst h5))
          refine HM.out.mono ?_
          rintro e w5 ⟨hb5, ⟨hm, rfl⟩ | ⟨nm, k, bs, hm, hbs, rfl⟩⟩
          · have HN := Lib.hid (show O = .bad 61 b by rw [HO4.out, hm])
            have HB5 := Lib.hid (HB4.out.trans (hb5.mono HB4.out.size))
            have HS5 := Lib.hid (show w.heap.size + 2 ≤ w5.heap.size from Nat.le_trans (by have := HS4.out; omega) hb5.size)
            have HE5 := Lib.hid (HE4.out.below hb5 (by have := HS4.out; omega))
            have HF5 := Lib.hid (HF4.out.below hb5 (by have := HS4.out; omega))
            have HQ5 := Lib.hid (HQ4.out.below hb5 HQS.out)
            clear hb5 hm HO4
            obtain ⟨c0, c1, c2, c3, z0, z1, z2, z3⟩ := HE5.out.four
            obtain ⟨d0, d1, d2, y0, y1, y2⟩ := HF5.out.three
            obtain ⟨q0, q1, q2, -, -, -⟩ := HQ5.out.three
            go_wp2_with fail
            go_region
            go_wp2_with fail
            obtain ⟨r1, r2⟩ := both_whole HE5.out HF5.out (a := w.heap.size) (b := w.heap.size + 1) (by omega)
            refine bodyPost_ret (results_etw Tryz.results64 _ rfl r1.drew rfl rfl r2.drew rfl) rfl ?_
            unfold EscPost
            rw [HN.out]
            exact ⟨Below.drew (set3_below (set4_below HB5.out (Nat.le_refl _) _ _ _ _) (by omega) _ _ _), rfl⟩
          · have HO5 := Lib.hid (show O = match propR nm false with | none => .bad 63 k | some l => .esc 2 0 l 0 k by rw [HO4.out, hm])
            have HB5 := Lib.hid (HB4.out.trans (hb5.mono HB4.out.size))
            have HS5 := Lib.hid (show w.heap.size + 2 ≤ w5.heap.size from Nat.le_trans (by have := HS4.out; omega) hb5.size)
            have HE5 := Lib.hid (HE4.out.below hb5 (by have := HS4.out; omega))
            have HF5 := Lib.hid (HF4.out.below hb5 (by have := HS4.out; omega))
            have HPR := Lib.hid (rprop_any bs false w5)
            rw [hbs] at HPR
            clear hb5 hm hbs HO4
            go_wp2_with fail
            refine HPR.out.mono ?_
            rintro e w6 ⟨hb6, ⟨hq, rfl⟩ | ⟨v, l, hq, rfl, ho⟩⟩
            · have HN := Lib.hid (show O = .bad 63 k by rw [HO5.out, hq])
              have HB6 := Lib.hid (HB5.out.trans (hb6.mono HB5.out.size))
              have HS6 := Lib.hid (show w.heap.size + 2 ≤ w6.heap.size from Nat.le_trans (by have := HS5.out; omega) hb6.size)
              have HE6 := Lib.hid (HE5.out.below hb6 (by have := HS5.out; omega))
              have HF6 := Lib.hid (HF5.out.below hb6 (by have := HS5.out; omega))
              clear hb6 hq HO5
              go_wp2_with fail
              refine (rwrong_any 63 i (k : Int) _).mono ?_
              rintro e w7 ⟨rfl, hb7⟩
              have HB7 := Lib.hid (HB6.out.trans (hb7.mono HB6.out.size))
              have HS7 := Lib.hid (show w.heap.size + 2 ≤ w7.heap.size from Nat.le_trans (by have := HS6.out; omega) hb7.size)
              have HE7 := Lib.hid (HE6.out.below hb7 (by have := HS6.out; omega))
              have HF7 := Lib.hid (HF6.out.below hb7 (by have := HS6.out; omega))
              clear hb7
              obtain ⟨c0, c1, c2, c3, z0, z1, z2, z3⟩ := HE7.out.four
              obtain ⟨d0, d1, d2, y0, y1, y2⟩ := HF7.out.three
              go_wp2_with fail
              obtain ⟨r1, r2⟩ := both_whole HE7.out HF7.out (a := w.heap.size) (b := w.heap.size + 1) (by omega)
              refine bodyPost_ret (results_etw Tryz.results64 _ rfl r1 rfl rfl r2 rfl) rfl ?_
              unfold EscPost
              rw [HN.out]
              exact ⟨(set3_below (set4_below HB7.out (Nat.le_refl _) _ _ _ _) (by omega) _ _ _), rfl⟩
            · have HN := Lib.hid (show O = .esc 2 0 l 0 k by rw [HO5.out, hq])
              have HB6 := Lib.hid (HB5.out.trans (hb6.mono HB5.out.size))
              have HS6 := Lib.hid (show w.heap.size + 2 ≤ w6.heap.size from Nat.le_trans (by have := HS5.out; omega) hb6.size)
              have HE6 := Lib.hid (HE5.out.below hb6 (by have := HS5.out; omega))
              have HF6 := Lib.hid (HF5.out.below hb6 (by have := HS5.out; omega))
              have HOW := Lib.hid ho
              have HGE := Lib.hid (own_ge ho)
              obtain ⟨A, cA, hvs, -⟩ := ho.rgs
              subst hvs
              clear hb6 hq HO5 ho
              obtain ⟨c0, c1, c2, c3, z0, z1, z2, z3⟩ := HE6.out.four
              obtain ⟨d0, d1, d2, y0, y1, y2⟩ := HF6.out.three
              go_wp2_with fail
              obtain ⟨r1, r2⟩ := both_whole HE6.out HF6.out (a := w.heap.size) (b := w.heap.size + 1) (by omega)
              refine bodyPost_ret (results_etw Tryz.results64 _ rfl r1 rfl rfl r2 rfl) rfl ?_
              unfold EscPost
              rw [HN.out]
              exact ⟨(set3_below (set4_below HB6.out (Nat.le_refl _) _ _ _ _) (by omega) _ _ _), ⟨_, rfl, own_set3 (own_set4 (HOW.out.mono HB5.out.size) (fun g hg => by have := HGE.out g hg; have := HS5.out; omega) _ _ _ _) (fun g hg => by have := HGE.out g hg; have := HS5.out; omega) _ _ _⟩⟩
        · have hup : decide (c = 80) = true := decide_eq_true (by omega)
          have b3 : (c == 80) = true := eq_true_of (by omega)
          have b4 : (c == 112) = false := eq_false_of (by omega)
          rw [hup] at HO4
          clear hup hp
          go_wp2_with (first | (go_at_call 82; with_reducible refine (HSG.out _).mono ?_; rintro e w5 ⟨rfl, h5⟩; subst h5) | (go_at_call 83; with_reducible refine (HLT.out _).mono ?_; rintro e w5 ⟨rfl, h5⟩; subst h5))
          refine HM.out.mono ?_
          rintro e w5 ⟨hb5, ⟨hm, rfl⟩ | ⟨nm, k, bs, hm, hbs, rfl⟩⟩
          · have HN := Lib.hid (show O = .bad 61 b by rw [HO4.out, hm])
            have HB5 := Lib.hid (HB4.out.trans (hb5.mono HB4.out.size))
            have HS5 := Lib.hid (show w.heap.size + 2 ≤ w5.heap.size from Nat.le_trans (by have := HS4.out; omega) hb5.size)
            have HE5 := Lib.hid (HE4.out.below hb5 (by have := HS4.out; omega))
            have HF5 := Lib.hid (HF4.out.below hb5 (by have := HS4.out; omega))
            have HQ5 := Lib.hid (HQ4.out.below hb5 HQS.out)
            clear hb5 hm HO4
            obtain ⟨c0, c1, c2, c3, z0, z1, z2, z3⟩ := HE5.out.four
            obtain ⟨d0, d1, d2, y0, y1, y2⟩ := HF5.out.three
            obtain ⟨q0, q1, q2, -, -, -⟩ := HQ5.out.three
            go_wp2_with fail
            go_region
            go_wp2_with fail
            obtain ⟨r1, r2⟩ := both_whole HE5.out HF5.out (a := w.heap.size) (b := w.heap.size + 1) (by omega)
            refine bodyPost_ret (results_etw Tryz.results64 _ rfl r1.drew rfl rfl r2.drew rfl) rfl ?_
            unfold EscPost
            rw [HN.out]
            exact ⟨Below.drew (set3_below (set4_below HB5.out (Nat.le_refl _) _ _ _ _) (by omega) _ _ _), rfl⟩
          · have HO5 := Lib.hid (show O = match propR nm true with | none => .bad 63 k | some l => .esc 2 0 l 0 k by rw [HO4.out, hm])
            have HB5 := Lib.hid (HB4.out.trans (hb5.mono HB4.out.size))
            have HS5 := Lib.hid (show w.heap.size + 2 ≤ w5.heap.size from Nat.le_trans (by have := HS4.out; omega) hb5.size)
            have HE5 := Lib.hid (HE4.out.below hb5 (by have := HS4.out; omega))
            have HF5 := Lib.hid (HF4.out.below hb5 (by have := HS4.out; omega))
            have HPR := Lib.hid (rprop_any bs true w5)
            rw [hbs] at HPR
            clear hb5 hm hbs HO4
            go_wp2_with fail
            refine HPR.out.mono ?_
            rintro e w6 ⟨hb6, ⟨hq, rfl⟩ | ⟨v, l, hq, rfl, ho⟩⟩
            · have HN := Lib.hid (show O = .bad 63 k by rw [HO5.out, hq])
              have HB6 := Lib.hid (HB5.out.trans (hb6.mono HB5.out.size))
              have HS6 := Lib.hid (show w.heap.size + 2 ≤ w6.heap.size from Nat.le_trans (by have := HS5.out; omega) hb6.size)
              have HE6 := Lib.hid (HE5.out.below hb6 (by have := HS5.out; omega))
              have HF6 := Lib.hid (HF5.out.below hb6 (by have := HS5.out; omega))
              clear hb6 hq HO5
              go_wp2_with fail
              refine (rwrong_any 63 i (k : Int) _).mono ?_
              rintro e w7 ⟨rfl, hb7⟩
              have HB7 := Lib.hid (HB6.out.trans (hb7.mono HB6.out.size))
              have HS7 := Lib.hid (show w.heap.size + 2 ≤ w7.heap.size from Nat.le_trans (by have := HS6.out; omega) hb7.size)
              have HE7 := Lib.hid (HE6.out.below hb7 (by have := HS6.out; omega))
              have HF7 := Lib.hid (HF6.out.below hb7 (by have := HS6.out; omega))
              clear hb7
              obtain ⟨c0, c1, c2, c3, z0, z1, z2, z3⟩ := HE7.out.four
              obtain ⟨d0, d1, d2, y0, y1, y2⟩ := HF7.out.three
              go_wp2_with fail
              obtain ⟨r1, r2⟩ := both_whole HE7.out HF7.out (a := w.heap.size) (b := w.heap.size + 1) (by omega)
              refine bodyPost_ret (results_etw Tryz.results64 _ rfl r1 rfl rfl r2 rfl) rfl ?_
              unfold EscPost
              rw [HN.out]
              exact ⟨(set3_below (set4_below HB7.out (Nat.le_refl _) _ _ _ _) (by omega) _ _ _), rfl⟩
            · have HN := Lib.hid (show O = .esc 2 0 l 0 k by rw [HO5.out, hq])
              have HB6 := Lib.hid (HB5.out.trans (hb6.mono HB5.out.size))
              have HS6 := Lib.hid (show w.heap.size + 2 ≤ w6.heap.size from Nat.le_trans (by have := HS5.out; omega) hb6.size)
              have HE6 := Lib.hid (HE5.out.below hb6 (by have := HS5.out; omega))
              have HF6 := Lib.hid (HF5.out.below hb6 (by have := HS5.out; omega))
              have HOW := Lib.hid ho
              have HGE := Lib.hid (own_ge ho)
              obtain ⟨A, cA, hvs, -⟩ := ho.rgs
              subst hvs
              clear hb6 hq HO5 ho
              obtain ⟨c0, c1, c2, c3, z0, z1, z2, z3⟩ := HE6.out.four
              obtain ⟨d0, d1, d2, y0, y1, y2⟩ := HF6.out.three
              go_wp2_with fail
              obtain ⟨r1, r2⟩ := both_whole HE6.out HF6.out (a := w.heap.size) (b := w.heap.size + 1) (by omega)
              refine bodyPost_ret (results_etw Tryz.results64 _ rfl r1 rfl rfl r2 rfl) rfl ?_
              unfold EscPost
              rw [HN.out]
              exact ⟨(set3_below (set4_below HB6.out (Nat.le_refl _) _ _ _ _) (by omega) _ _ _), ⟨_, rfl, own_set3 (own_set4 (HOW.out.mono HB5.out.size) (fun g hg => by have := HGE.out g hg; have := HS5.out; omega) _ _ _ _) (fun g hg => by have := HGE.out g hg; have := HS5.out; omega) _ _ _⟩⟩
      have b3 : (c == 112) = false := eq_false_of (fun h => hp (.inl h))
      have b4 : (c == 80) = false := eq_false_of (fun h => hp (.inr h))
      have HO4 := Lib.hid (HO3.out.trans (if_neg hp))
      have HM := Lib.hid (rperls6_any c (b : Int) w4 hc0)
      clear HO3 hp
      go_wp2_with (first | (go_at_call 82; with_reducible refine (HSG.out _).mono ?_; rintro e w5 ⟨rfl, h5⟩; subst h5) | (go_at_call 83; with_reducible refine (HLT.out _).mono ?_; rintro e w5 ⟨rfl, h5⟩; subst h5))
      refine HM.out.mono ?_
      rintro e w5 ⟨hb5, ⟨hm, rfl⟩ | ⟨k, l, a, v, hm, rfl, ho⟩⟩
      · have HN := Lib.hid (show O = .bad 61 b by rw [HO4.out, hm])
        have HB5 := Lib.hid (HB4.out.trans (hb5.mono HB4.out.size))
        have HS5 := Lib.hid (show w.heap.size + 2 ≤ w5.heap.size from Nat.le_trans (by have := HS4.out; omega) hb5.size)
        have HE5 := Lib.hid (HE4.out.below hb5 (by have := HS4.out; omega))
        have HF5 := Lib.hid (HF4.out.below hb5 (by have := HS4.out; omega))
        have HQ5 := Lib.hid (HQ4.out.below hb5 HQS.out)
        have HQ9 := Lib.hid (show w3.heap.size < w5.heap.size from Nat.lt_of_lt_of_le HQS.out hb5.size)
        obtain ⟨w6, hw6⟩ : ∃ w6, w5.alloc (.cells #[.int .i64 0, .int .i32 0, .slice none 0 0, .int .i64 0] 80) = w6 := ⟨_, rfl⟩
        have hb6 : Below w5.heap.size w5 w6 := by rw [← hw6]; exact (Below.refl _ w5).alloc (Nat.le_refl _) _
        have HB6 := Lib.hid (HB5.out.trans (hb6.mono HB5.out.size))
        have HS6 := Lib.hid (show w.heap.size + 2 ≤ w6.heap.size from Nat.le_trans (by have := HS5.out; omega) hb6.size)
        have HE6 := Lib.hid (HE5.out.below hb6 (by have := HS5.out; omega))
        have HF6 := Lib.hid (HF5.out.below hb6 (by have := HS5.out; omega))
        have HW6 := Lib.hid hw6
        have HX6 := Lib.hid (show Whole w6 w5.heap.size 80 #[.int .i64 0, .int .i32 0, .slice none 0 0, .int .i64 0] by rw [← hw6]; exact heap_alloc_new w5 _)
        have HQ6 := Lib.hid (HQ5.out.below hb6 HQ9.out)
        clear hb5 hb6 hw6 hm HO4
        unfold escV
        go_upto_region 26 with (fail)
        rw [HW6.out]
        obtain ⟨c0, c1, c2, c3, z0, z1, z2, z3⟩ := HE6.out.four
        obtain ⟨d0, d1, d2, y0, y1, y2⟩ := HF6.out.three
        obtain ⟨q0, q1, q2, -, -, -⟩ := HQ6.out.three
        go_wp2_with fail
        go_region
        go_wp2_with fail
        obtain ⟨r1, r2⟩ := both_whole HE6.out HF6.out (a := w.heap.size) (b := w.heap.size + 1) (by omega)
        refine bodyPost_ret (results_etw Tryz.results64 _ rfl r1.drew rfl rfl r2.drew rfl) rfl ?_
        unfold EscPost
        rw [HN.out]
        exact ⟨Below.drew (set3_below (set4_below HB6.out (Nat.le_refl _) _ _ _ _) (by omega) _ _ _), rfl⟩
      · have HO5 := Lib.hid (show O = if p = true then .esc k 0 l a b else .bad 61 b by rw [HO4.out, hm])
        have HB5 := Lib.hid (HB4.out.trans (hb5.mono HB4.out.size))
        have HS5 := Lib.hid (show w.heap.size + 2 ≤ w5.heap.size from Nat.le_trans (by have := HS4.out; omega) hb5.size)
        have HE5 := Lib.hid (HE4.out.below hb5 (by have := HS4.out; omega))
        have HF5 := Lib.hid (HF4.out.below hb5 (by have := HS4.out; omega))
        obtain ⟨A, n', cA, hvs⟩ : ∃ A n' cA, v = .slice A n' cA := by obtain ⟨A, cA, hvs, -⟩ := ho.rgs; exact ⟨_, _, _, hvs⟩
        have HOW := Lib.hid ho
        have HGE := Lib.hid (own_ge ho)
        subst hvs
        have HQ5 := Lib.hid (HQ4.out.below hb5 HQS.out)
        have HQ9 := Lib.hid (show w3.heap.size < w5.heap.size from Nat.lt_of_lt_of_le HQS.out hb5.size)
        obtain ⟨w6, hw6⟩ : ∃ w6, w5.alloc (.cells #[.int .i64 k, .int .i32 0, .slice A n' cA, .int .i64 a] 80) = w6 := ⟨_, rfl⟩
        have hb6 : Below w5.heap.size w5 w6 := by rw [← hw6]; exact (Below.refl _ w5).alloc (Nat.le_refl _) _
        have HB6 := Lib.hid (HB5.out.trans (hb6.mono HB5.out.size))
        have HS6 := Lib.hid (show w.heap.size + 2 ≤ w6.heap.size from Nat.le_trans (by have := HS5.out; omega) hb6.size)
        have HE6 := Lib.hid (HE5.out.below hb6 (by have := HS5.out; omega))
        have HF6 := Lib.hid (HF5.out.below hb6 (by have := HS5.out; omega))
        have HW6 := Lib.hid hw6
        have HX6 := Lib.hid (show Whole w6 w5.heap.size 80 #[.int .i64 k, .int .i32 0, .slice A n' cA, .int .i64 a] by rw [← hw6]; exact heap_alloc_new w5 _)
        have HQ6 := Lib.hid (HQ5.out.below hb6 HQ9.out)
        have HO6 := Lib.hid (HOW.out.below hb6)
        clear hb5 hb6 hw6 hm HO4 ho HOW
        unfold escV
        go_upto_region 26 with (fail)
        rw [HW6.out]
        cases p
        · have HN := Lib.hid (show O = .bad 61 b from HO5.out)
          clear HO5
          obtain ⟨c0, c1, c2, c3, z0, z1, z2, z3⟩ := HE6.out.four
          obtain ⟨d0, d1, d2, y0, y1, y2⟩ := HF6.out.three
          obtain ⟨q0, q1, q2, -, -, -⟩ := HQ6.out.three
          go_wp2_with fail
          go_region
          go_wp2_with fail
          obtain ⟨r1, r2⟩ := both_whole HE6.out HF6.out (a := w.heap.size) (b := w.heap.size + 1) (by omega)
          refine bodyPost_ret (results_etw Tryz.results64 _ rfl r1.drew rfl rfl r2.drew rfl) rfl ?_
          unfold EscPost
          rw [HN.out]
          exact ⟨Below.drew (set3_below (set4_below HB6.out (Nat.le_refl _) _ _ _ _) (by omega) _ _ _), rfl⟩
        · have HN := Lib.hid (show O = .esc k 0 l a b from HO5.out)
          clear HO5
          obtain ⟨c0, c1, c2, c3, z0, z1, z2, z3⟩ := HE6.out.four
          obtain ⟨d0, d1, d2, y0, y1, y2⟩ := HF6.out.three
          obtain ⟨e0, e1, e2, e3, -, -, -, -⟩ := HX6.out.four
          go_wp2_with fail
          obtain ⟨r1, r2⟩ := both_whole HE6.out HF6.out (a := w.heap.size) (b := w.heap.size + 1) (by omega)
          refine bodyPost_ret (results_etw Tryz.results64 _ rfl r1 rfl rfl r2 rfl) rfl ?_
          unfold EscPost
          rw [HN.out]
          exact ⟨(set3_below (set4_below HB6.out (Nat.le_refl _) _ _ _ _) (by omega) _ _ _), ⟨_, rfl, own_set3 (own_set4 (HO6.out.mono HB4.out.size) (fun g hg => by have := HGE.out g hg; have := HS4.out; omega) _ _ _ _) (fun g hg => by have := HGE.out g hg; have := HS4.out; omega) _ _ _⟩⟩
    · have HN := Lib.hid (HO.out.trans (if_pos (by rw [hg])))
      clear HO hg
      obtain ⟨c0, c1, c2, c3, z0, z1, z2, z3⟩ := HE4.out.four
      obtain ⟨d0, d1, d2, y0, y1, y2⟩ := HF4.out.three
      go_wp2_with (first | (go_at_call 82; with_reducible refine (HSG.out _).mono ?_; rintro e w5 ⟨rfl, h5⟩; subst h5) | (go_at_call 83; with_reducible refine (HLT.out _).mono ?_; rintro e w5 ⟨rfl, h5⟩; subst h5))
      obtain ⟨r1, r2⟩ := both_whole HE4.out HF4.out (a := w.heap.size) (b := w.heap.size + 1) (by omega)
      refine bodyPost_ret (results_etw Tryz.results64 _ rfl r1 rfl rfl r2 rfl) rfl ?_
      unfold EscPost
      rw [HN.out]
      exact ⟨(set3_below (set4_below HB4.out (Nat.le_refl _) _ _ _ _) (by omega) _ _ _), ⟨_, rfl, own_none _ _⟩⟩
  · have HN := Lib.hid (hO.symm.trans (if_pos h92))
    by_cases hlt : i < s.size
    · have b0 : ((s[i].toNat : Int) != 92) = true := ne_true_of (fun h => h92 ((head_at s i hlt).trans h))
      clear hO h92
      go_enter Tryz.func64, Tryz.ntmps64
      go_upto_region 1 with (fail)
      rw [HW1.out]
      go_wp2_with fail
      refine (rwrong_any 1 i i _).mono ?_
      rintro e w2 ⟨rfl, hb2⟩
      have HB2 := Lib.hid (HB1.out.trans (hb2.mono HB1.out.size))
      have HS2 := Lib.hid (show w.heap.size + 2 ≤ w2.heap.size from Nat.le_trans (by have := HS1.out; omega) hb2.size)
      have HE2 := Lib.hid (HE1.out.below hb2 (by have := HS1.out; omega))
      have HF2 := Lib.hid (HF1.out.below hb2 (by have := HS1.out; omega))
      obtain ⟨c0, c1, c2, c3, z0, z1, z2, z3⟩ := HE2.out.four
      obtain ⟨d0, d1, d2, y0, y1, y2⟩ := HF2.out.three
      clear hb2
      go_wp2_with fail
      obtain ⟨r1, r2⟩ := both_whole HE2.out HF2.out (a := w.heap.size) (b := w.heap.size + 1) (by omega)
      refine bodyPost_ret (results_etw Tryz.results64 _ rfl r1 rfl rfl r2 rfl) rfl ?_
      unfold EscPost
      rw [HN.out]
      exact ⟨(set3_below (set4_below HB2.out (Nat.le_refl _) _ _ _ _) (by omega) _ _ _), rfl⟩
    · clear hO h92
      go_enter Tryz.func64, Tryz.ntmps64
      go_upto_region 1 with (fail)
      rw [HW1.out]
      go_wp2_with fail
      refine (rwrong_any 1 i i _).mono ?_
      rintro e w2 ⟨rfl, hb2⟩
      have HB2 := Lib.hid (HB1.out.trans (hb2.mono HB1.out.size))
      have HS2 := Lib.hid (show w.heap.size + 2 ≤ w2.heap.size from Nat.le_trans (by have := HS1.out; omega) hb2.size)
      have HE2 := Lib.hid (HE1.out.below hb2 (by have := HS1.out; omega))
      have HF2 := Lib.hid (HF1.out.below hb2 (by have := HS1.out; omega))
      obtain ⟨c0, c1, c2, c3, z0, z1, z2, z3⟩ := HE2.out.four
      obtain ⟨d0, d1, d2, y0, y1, y2⟩ := HF2.out.three
      clear hb2
      go_wp2_with fail
      obtain ⟨r1, r2⟩ := both_whole HE2.out HF2.out (a := w.heap.size) (b := w.heap.size + 1) (by omega)
      refine bodyPost_ret (results_etw Tryz.results64 _ rfl r1 rfl rfl r2 rfl) rfl ?_
      unfold EscPost
      rw [HN.out]
      exact ⟨(set3_below (set4_below HB2.out (Nat.le_refl _) _ _ _ _) (by omega) _ _ _), rfl⟩
end Go.Proofs.YtmaigjdmjmonbaaGreatDoor
/- What the document says of classes between brackets, as plain functions. No condition. -/
namespace Go.Proofs.YtmaigjdmjmonbaaGreatDoor
open Go Go.RowKit

/-- A rune, or an escape, at a place in the text. -/
def oneS (s : ByteArray) (i : Nat) (p : Bool) : EscR :=
  if headI (leftB s i) = 92 then escS s i p else .esc 1 ((Utf8.decode s i).1 : Nat) [] 0 (i + (Utf8.decode s i).2)
/-- Runes, and the place behind, or what is wrong, and where. -/
inductive ItemR where
  | item (l : List (Int × Int)) (n : Nat)
  | bad (c : Int) (a b : Nat)
/-- Behind a rune: the end of a range, perhaps. -/
def rangeS (s : ByteArray) (i : Nat) (r : Int) (n : Nat) (p : Bool) : ItemR :=
  if headI (leftB s n) = 45 ∧ 0 ≤ headI (leftB s (n + 1)) ∧ headI (leftB s (n + 1)) ≠ 93 then
    match oneS s (n + 1) p with
    | .bad c till => .bad c (n + 1) till
    | .esc k r2 _ _ n2 => if k ≠ 1 ∨ r2 < r then .bad 72 i n2 else .item [(r, r2)] n2
  else .item [(r, r)] n
def itemS (s : ByteArray) (i : Nat) (p : Bool) : ItemR :=
  match colS s i with
  | some k => (match posixR ((leftB s (i + 2)).take (k - (i + 2))) with
    | none => .bad 72 i (k + 2)
    | some l => .item l (k + 2))
  | none => match oneS s i p with
    | .bad c till => .bad c i till
    | .esc k r l a n => if k = 2 then .item l n else if k ≠ 1 then .bad 72 i n else rangeS s i r n p
/-- All items up to the bracket: each takes a byte at least, so as many rounds as there are bytes serve. -/
def itemsS (s : ByteArray) (at' : Nat) (p : Bool) : Nat → Nat → Bool → List (Int × Int) → ItemR
  | 0, _, _, _ => .bad 71 at' s.size
  | m + 1, i, first, all =>
    if s.size ≤ i then .bad 71 at' s.size else
    if headI (leftB s i) = 93 ∧ first = false then .item all (i + 1) else
    match itemS s i p with
    | .bad c a b => .bad c a b
    | .item l n => itemsS s at' p m n false (all ++ l)
def notB (s : ByteArray) (i : Nat) : Bool := decide (headI (leftB s (i + 1)) = 94)
def classS (s : ByteArray) (i : Nat) (p : Bool) : ItemR :=
  if ¬ headI (leftB s i) = 91 then .bad 1 i i else itemsS s i p (s.size + 1) (i + 1 + (if notB s i then 1 else 0)) true []
/-- Has a class this rune, of these items? -/
def FoldHas (fold : Bool) (all : List (Int × Int)) (c : Int) : Prop := if fold = true then ∃ d, HasR all d ∧ c ∈ orbR d else HasR all c
def ClassHas (fold not' : Bool) (all : List (Int × Int)) (c : Int) : Prop := if not' = true then 0 ≤ c ∧ c ≤ 1114111 ∧ ¬ FoldHas fold all c else FoldHas fold all c
theorem number_ok {s : ByteArray} {b k : Nat} {v : Int} (h : numberS s b = some (v, k)) : b < k ∧ k ≤ s.size ∧ 0 ≤ v ∧ v ≤ 1114111 := by
  unfold numberS at h
  split at h
  · rename_i h1
    have h2 : 0 ≤ headI (leftB s (b + 1)) := by
      have := h1.2
      unfold hexI at this
      repeat' split at this
      all_goals omega
    have h3 := head_in h2
    have h4 := hexI_hi (headI (leftB s b))
    have h5 := hexI_hi (headI (leftB s (b + 1)))
    cases h
    omega
  · split at h
    · cases h
    · split at h
      · cases h
      · split at h
        · cases h
        · split at h
          · cases h
          · rename_i h1 h2 h3 h4 h5
            have h6 := hexs_low (leftB s (b + 1)) 0 (by omega)
            have h7 : headI (leftB s (b + 1 + (hexsFrom (leftB s (b + 1)) 0).2)) = 125 := Classical.not_not.1 h4
            have h8 := head_in (s := s) (i := b + 1 + (hexsFrom (leftB s (b + 1)) 0).2) (by omega)
            cases h
            omega
theorem prop_ok {s : ByteArray} {b k : Nat} {nm : List UInt8} (h : propS s b = some (nm, k)) : b < k ∧ k ≤ s.size := by
  unfold propS at h
  split at h
  · cases h
  · rename_i h0
    have hb : b < s.size := by omega
    have h1 := decode_width s b hb
    have h2 := decode_some s b hb
    split at h
    · cases h
      omega
    · split at h
      · cases h
        omega
      · cases h
/-- An escape that is right lies in the text; one that is wrong has an error. -/
def EscOk (s : ByteArray) (i : Nat) : EscR → Prop
  | .esc _ r l _ n => i < n ∧ n ≤ s.size ∧ 0 ≤ r ∧ r ≤ 1114111 ∧ RightR l
  | .bad c _ => 0 < c
theorem escC_ok (s : ByteArray) (i : Nat) (c : Int) (b : Nat) (p : Bool) (hi : i < b) (hb : b ≤ s.size) (h0 : 0 ≤ c) (h1 : c ≤ 1114111) : EscOk s i (escC s c b p) := by
  unfold escC
  split
  · exact ⟨hi, hb, h0, h1, trivial⟩
  split
  · rename_i hl
    refine ⟨hi, hb, hl, ?_, trivial⟩
    unfold letterI
    repeat' split
    all_goals omega
  split
  · split
    · exact (by decide : (0 : Int) < 61)
    · rename_i v k hn
      obtain ⟨a1, a2, a3, a4⟩ := number_ok hn
      exact ⟨by omega, a2, a3, a4, trivial⟩
  split
  · split
    · exact (by decide : (0 : Int) < 61)
    · rename_i nm k hn
      obtain ⟨a1, a2⟩ := prop_ok hn
      split
      · exact (by decide : (0 : Int) < 63)
      · rename_i l hl
        exact ⟨by omega, a2, by decide, by decide, prop_right hl⟩
  split
  · exact (by decide : (0 : Int) < 61)
  · rename_i k l a hl
    split
    · refine ⟨hi, hb, by decide, by decide, ?_⟩
      unfold perlsR at hl
      split at hl
      · cases hl; trivial
      split at hl
      · cases hl; trivial
      split at hl
      · cases hl
      split at hl
      · cases hl
      · rename_i l' hl'
        cases hl
        exact perl_right hl'
    · exact (by decide : (0 : Int) < 61)
theorem escS_ok (s : ByteArray) (i : Nat) (p : Bool) (h : i < s.size) : EscOk s i (escS s i p) := by
  unfold escS
  split
  · exact (by decide : (0 : Int) < 1)
  split
  · exact (by decide : (0 : Int) < 62)
  · have h1 : i + 1 < s.size := by omega
    have h2 := decode_width s (i + 1) h1
    have h3 := Lib.rune_le s (i + 1)
    exact escC_ok s i _ _ p (by omega) h2 (by omega) (by omega)
theorem oneS_ok (s : ByteArray) (i : Nat) (p : Bool) (h : i < s.size) : EscOk s i (oneS s i p) := by
  unfold oneS
  split
  · exact escS_ok s i p h
  · have h2 := decode_width s i h
    have h3 := Lib.rune_le s i
    have h4 := decode_some s i h
    exact ⟨by omega, h2, by omega, by omega, trivial⟩
def ItemOk (s : ByteArray) (i : Nat) : ItemR → Prop
  | .item l n => i < n ∧ n ≤ s.size ∧ RightR l
  | .bad c _ _ => 0 < c
theorem right_one (a b : Int) (h0 : 0 ≤ a) (h1 : a ≤ b) (h2 : b ≤ 1114111) : RightR [(a, b)] := ⟨h0, h1, h2, trivial⟩
theorem rangeS_ok (s : ByteArray) (i : Nat) (r : Int) (n : Nat) (p : Bool) (hi : i < n) (hn : n ≤ s.size) (h0 : 0 ≤ r) (h1 : r ≤ 1114111) : ItemOk s i (rangeS s i r n p) := by
  unfold rangeS
  split
  · rename_i h
    have hlt := head_in h.2.1
    have hk := oneS_ok s (n + 1) p hlt
    split
    · rename_i c till he
      rw [he] at hk
      exact hk
    · rename_i k r2 l a n2 he
      rw [he] at hk
      obtain ⟨a1, a2, a3, a4, -⟩ := hk
      split
      · exact (by decide : (0 : Int) < 72)
      · rename_i hr
        exact ⟨by omega, a2, right_one r r2 h0 (by omega) a4⟩
  · exact ⟨hi, hn, right_one r r h0 (Int.le_refl _) h1⟩
theorem itemS_ok (s : ByteArray) (i : Nat) (p : Bool) (h : i < s.size) : ItemOk s i (itemS s i p) := by
  unfold itemS
  split
  · rename_i k hk
    have := colS_le hk
    split
    · exact (by decide : (0 : Int) < 72)
    · rename_i l hl
      exact ⟨by omega, by omega, posix_right hl⟩
  · have hk := oneS_ok s i p h
    split
    · rename_i c till he
      rw [he] at hk
      exact hk
    · rename_i k r l a n he
      rw [he] at hk
      obtain ⟨a1, a2, a3, a4, a5⟩ := hk
      split
      · exact ⟨a1, a2, a5⟩
      split
      · exact (by decide : (0 : Int) < 72)
      · exact rangeS_ok s i r n p a1 a2 a3 a4
def ClassPost (R : ItemR) (fold not' : Bool) (w : World) (e : Ending) (w' : World) : Prop :=
  Below w.heap.size w w' ∧ match R with
    | .item all n => ∃ v l, e = .returned (.tuple #[v, .int .i64 (n : Int), wrongV 0 0 0]) ∧ OwnR w' w.heap.size v l ∧ RightR l ∧ ∀ c, HasR l c ↔ ClassHas fold not' all c
    | .bad c a b => e = .returned (.tuple #[.slice none 0 0, .int .i64 0, wrongV c a b])
end Go.Proofs.YtmaigjdmjmonbaaGreatDoor
/- The program's reader of a class takes letters; what leads on to the end of a range; what is refused. -/
namespace Go.Proofs.YtmaigjdmjmonbaaGreatDoor
open Go Go.RowKit

/-- The letters that may stand in a name between colons. -/
def letL : List UInt8 := [97, 98, 99, 100, 101, 102, 103, 104, 105, 106, 107, 108, 109, 110, 111, 112, 113, 114, 115, 116, 117, 118, 119, 120, 121, 122, 94]
set_option maxRecDepth 100000 in
theorem let_mem (c : UInt8) : letL.contains c = decide ((97 ≤ c.toNat ∧ c.toNat ≤ 122) ∨ c.toNat = 94) := by
  have h : ∀ n : Fin 256, letL.contains (UInt8.ofFin n) = decide ((97 ≤ n.val ∧ n.val ≤ 122) ∨ n.val = 94) := by decide
  exact h c.toFin
theorem trim_letters : ∀ l : List UInt8, (Lib.trimLeftS l letL).length + colN l = l.length
  | [] => rfl
  | c :: t => by
    have h := trim_letters t
    unfold Lib.trimLeftS at h ⊢
    unfold colN
    rw [List.dropWhile_cons, let_mem]
    by_cases hc : (97 ≤ c.toNat ∧ c.toNat ≤ 122) ∨ c.toNat = 94
    · rw [if_pos hc, decide_eq_true hc, if_pos rfl]
      simp only [List.length_cons]
      omega
    · rw [if_neg hc, decide_eq_false hc, if_neg (by decide)]
      simp
theorem trim_any (u : ByteArray) (w : World) : Calls Tryz.prog 94 #[.string u, .string ⟨#[97, 98, 99, 100, 101, 102, 103, 104, 105, 106, 107, 108, 109, 110, 111, 112, 113, 114, 115, 116, 117, 118, 119, 120, 121, 122, 94]⟩] w
    fun e w' => ∃ x : ByteArray, e = .returned (.string x) ∧ x.size + colN u.toList = u.size ∧ Below w.heap.size w w' := by
  refine (Any.strings_TrimLeft_laid Tryz.lays161 (by kernel_rfl) u ⟨#[97, 98, 99, 100, 101, 102, 103, 104, 105, 106, 107, 108, 109, 110, 111, 112, 113, 114, 115, 116, 117, 118, 119, 120, 121, 122, 94]⟩ w (by decide) (ascii_of_all (by decide))).mono ?_
  rintro e w' ⟨rfl, hb⟩
  refine ⟨_, rfl, ?_, hb⟩
  have h := trim_letters u.data.toList
  rw [Lib.toList_data]
  have h2 : (⟨(Lib.trimLeftS u.data.toList letL).toArray⟩ : ByteArray).size = (Lib.trimLeftS u.data.toList letL).length := by simp [ByteArray.size]
  have h3 : u.data.toList.length = u.size := (Lib.size_eq u).symm
  show (⟨(Lib.trimLeftS u.data.toList letL).toArray⟩ : ByteArray).size + colN u.data.toList = u.size
  omega

def SomePost (q : Nat) (t : TypeId) (r : List Value) (s : ByteArray) (i : Nat) (w : World) (e : Ending) (w' : World) : Prop :=
  ∃ x : ByteArray, e = .returned (.string x) ∧ x.toList = (leftB s i).take (colN (leftB s i)) ∧ Took q t r s (i + colN (leftB s i)) w w'
set_option maxHeartbeats 800000 in
theorem pbSome_any (q : Nat) (t : TypeId) (r : List Value) (s : ByteArray) (i : Nat) (w : World) (hs : s.size ≤ 4503599627370496) (hi : i ≤ s.size) (h : RdIn w q t r s i) :
    Calls Tryz.prog 70 #[.pointer (some ⟨q, 0, none⟩), .string ⟨#[97, 98, 99, 100, 101, 102, 103, 104, 105, 106, 107, 108, 109, 110, 111, 112, 113, 114, 115, 116, 117, 118, 119, 120, 121, 122, 94]⟩] w (SomePost q t r s i w) := by
  have hL := pbLeft_any q t r s i w hi h
  have hn := colN_le (leftB s i)
  have hul := left_length s i
  unfold SomePost
  have hu1 : (s.extract i s.size).toList = leftB s i := extract_whole s i
  obtain ⟨u, hu⟩ : ∃ u, s.extract i s.size = u := ⟨_, rfl⟩
  rw [hu] at hL hu1
  have hus : u.size = s.size - i := by rw [Lib.size_eq, ← Lib.toList_data, hu1]; exact hul
  have hX := trim_any u
  rw [hu1] at hX
  have hx0 : (u.extract 0 (colN (leftB s i))).toList = (leftB s i).take (colN (leftB s i)) := by
    rw [extract_left6]
    unfold leftB
    rw [List.drop_zero, hu1]
    rfl
  obtain ⟨n, hn'⟩ : ∃ n, colN (leftB s i) = n := ⟨_, rfl⟩
  rw [hn'] at hn hX hx0 ⊢
  rw [hul] at hn
  have HL := Lib.hid hL; have HH := Lib.hid h; have HX := Lib.hid hX; have H0 := Lib.hid hx0
  have hsz : (u.extract 0 n).size = n := by simp; omega
  obtain ⟨z, hz⟩ : ∃ z, u.extract 0 n = z := ⟨_, rfl⟩
  rw [hz] at H0 hsz
  have HZ := Lib.hid hz; have HSZ := Lib.hid hsz; have HUS := Lib.hid hus
  clear h hL hX hx0 hz hu hu1 hul hn' hsz hus
  have y2 : (i : Int) ≤ (s.size : Int) := by omega
  have y3 : IntKind.i64.wrap ((i : Int) + (n : Int)) = (i : Int) + (n : Int) := wrap_in _ (by omega)
  go_enter Tryz.func70, Tryz.ntmps70
  go_wp2_with fail
  refine HL.out.mono ?_
  rintro e w1 ⟨rfl, k, rfl⟩
  go_wp2_with fail
  refine (HX.out _).mono ?_
  rintro e w2 ⟨x, rfl, hxs, hb2⟩
  have HR2 := Lib.hid ((HH.out.drewN k).below hb2); have HG2 := Lib.hid (tk_trans (tk_drewN w k (some q)) (tk_below hb2 _)); have c1 := HR2.out.c1; have f1 := HR2.out.f1
  have hus := HUS.out
  have x1 : IntKind.i64.wrap ((u.size : Int) - (x.size : Int)) = (n : Int) := by rw [wrap_in _ (by omega)]; omega
  have x2 : (n : Int) ≤ (u.size : Int) := by omega
  clear hb2 hxs hus
  go_upto_region 3 with (fail)
  rw [HZ.out]
  have hsz2 : (z.size : Int) = (n : Int) := by rw [HSZ.out]
  go_wp2
  go_ret
  exact ⟨z, rfl, H0.out, tk_trans HG2.out (tk_set _ _ _ _), HR2.out.put _ _ (by rfl)⟩

/-- Does a - that leads on stand at a place? -/
def dashB (s : ByteArray) (i : Nat) : Bool := decide (headI (leftB s i) = 45 ∧ 0 ≤ headI (leftB s (i + 1)) ∧ headI (leftB s (i + 1)) ≠ 93)
def DashPost (q : Nat) (t : TypeId) (r : List Value) (s : ByteArray) (i : Nat) (w : World) (e : Ending) (w' : World) : Prop :=
  e = .returned (.bool (dashB s i)) ∧ Took q t r s (if dashB s i = true then i + 1 else i) w w'
/-- What strings.CutPrefix makes of what is left, at a -. -/
theorem cut_dash (s : ByteArray) (i : Nat) (w : World) : Calls Tryz.prog 74 #[.string (s.extract i s.size), .string ⟨#[45]⟩] w
    fun e w' => (∃ x : ByteArray, e = .returned (.tuple #[.string x, .bool (decide (headI (leftB s i) = 45))]) ∧ (headI (leftB s i) = 45 → x.toList = leftB s (i + 1))) ∧ w' = w := by
  refine (Tryz.strings_CutPrefix (s.extract i s.size) ⟨#[45]⟩ w).mono ?_
  rintro e w' ⟨rfl, rfl⟩
  refine ⟨⟨_, by rw [pre_left, show (⟨#[45]⟩ : ByteArray).toList = [45] by kernel_rfl, pre_one]; rfl, fun h => ?_⟩, rfl⟩
  have hp : Lib.hasPrefix (s.extract i s.size).data.toList (⟨#[45]⟩ : ByteArray).data.toList = true := by
    rw [pre_left, show (⟨#[45]⟩ : ByteArray).toList = [45] by kernel_rfl, pre_one, h]
    rfl
  unfold Lib.trimPrefix
  rw [if_pos hp, Lib.toList_data]
  show ((s.extract i s.size).data.toList.drop 1) = _
  rw [← Lib.toList_data, extract_whole, left_drop]

set_option maxHeartbeats 800000 in
theorem pbDash_any (q : Nat) (t : TypeId) (r : List Value) (s : ByteArray) (i : Nat) (w : World) (hs : s.size ≤ 4503599627370496) (hi : i ≤ s.size) (h : RdIn w q t r s i) :
    Calls Tryz.prog 53 #[.pointer (some ⟨q, 0, none⟩)] w (DashPost q t r s i w) := by
  have HL := Lib.hid (pbLeft_any q t r s i w hi h); have HH := Lib.hid h
  have HT := Lib.hid (fun W (h : RdIn W q t r s i) => pbTake_any q t r s ⟨#[45]⟩ i W hs (by decide) hi h)
  have HC := Lib.hid (fun W => cut_dash s i W)
  have hD : dashB s i = dashB s i := rfl
  have hh : decide (headI (leftB s i) = 45) = preB [45] (leftB s i) := (pre_one 45 s i).symm
  clear h
  by_cases h45 : headI (leftB s i) = 45
  · have e1 : decide (headI (leftB s i) = 45) = true := decide_eq_true h45
    have HPR := Lib.hid (show preB (⟨#[45]⟩ : ByteArray).toList (leftB s i) = true by rw [show (⟨#[45]⟩ : ByteArray).toList = [45] by kernel_rfl]; exact hh.symm.trans e1)
    have HX := Lib.hid h45
    by_cases hlt : i + 1 < s.size
    · have g1 := head_at s (i + 1) hlt
      by_cases h93 : (s[i + 1].toNat : Int) = 93
      · have HF := Lib.hid (hD.symm.trans (decide_eq_false (fun h => h.2.2 (g1.trans h93))))
        have HG := Lib.hid (g1.trans h93)
        rw [e1] at HC
        clear hD hh h45 e1 g1 h93
        go_enter Tryz.func53, Tryz.ntmps53
        go_wp2_with fail
        refine HL.out.mono ?_
        rintro e w1 ⟨rfl, k, rfl⟩
        go_wp2_with fail
        refine (HC.out _).mono ?_
        rintro e w2 ⟨⟨x, rfl, hx⟩, rfl⟩
        have hx := hx HX.out
        have hxs : x.size = s.size - (i + 1) := by rw [Lib.size_eq, ← Lib.toList_data, hx]; exact left_length s (i + 1)
        have hx0 : 0 < x.size := by omega
        have g2 := head_at x 0 hx0
        have hl0 : leftB x 0 = leftB s (i + 1) := by unfold leftB; rw [List.drop_zero, hx]; rfl
        rw [hl0, HG.out] at g2
        have b0 := eq_true_of g2.symm
        have hemp : x.toList.isEmpty = false := by
          cases hxx : x.toList with
          | nil => rw [Lib.size_eq, ← Lib.toList_data, hxx] at hx0; simp at hx0
          | cons _ _ => rfl
        clear hx hxs g2 hl0
        go_wp2
        go_ret
        unfold DashPost
        rw [HF.out]
        exact ⟨rfl, tk_drewN _ _ _, HH.out.drewN _⟩
      · have HF := Lib.hid (hD.symm.trans (decide_eq_true ⟨h45, by rw [g1]; omega, by rw [g1]; exact h93⟩))
        have HG := Lib.hid g1
        have HN := Lib.hid h93
        rw [e1] at HC
        clear hD hh h45 e1 g1 h93
        go_enter Tryz.func53, Tryz.ntmps53
        go_wp2_with fail
        refine HL.out.mono ?_
        rintro e w1 ⟨rfl, k, rfl⟩
        go_wp2_with fail
        refine (HC.out _).mono ?_
        rintro e w2 ⟨⟨x, rfl, hx⟩, rfl⟩
        have hx := hx HX.out
        have hxs : x.size = s.size - (i + 1) := by rw [Lib.size_eq, ← Lib.toList_data, hx]; exact left_length s (i + 1)
        have hx0 : 0 < x.size := by omega
        have g2 := head_at x 0 hx0
        have hl0 : leftB x 0 = leftB s (i + 1) := by unfold leftB; rw [List.drop_zero, hx]; rfl
        rw [hl0, HG.out] at g2
        have b0 := eq_false_of (fun e => HN.out (g2.trans e))
        have hemp : x.toList.isEmpty = false := by
          cases hxx : x.toList with
          | nil => rw [Lib.size_eq, ← Lib.toList_data, hxx] at hx0; simp at hx0
          | cons _ _ => rfl
        clear hx hxs g2 hl0
        go_wp2_with fail
        refine (HT.out _ (HH.out.drewN _)).mono ?_
        rintro e w3 ⟨b, hb, rfl, htk⟩
        have hb2 : b = true := hb.symm.trans HPR.out
        subst hb2
        rw [if_pos rfl] at htk
        have HTK := Lib.hid htk
        clear hb htk
        go_wp2
        go_ret
        unfold DashPost
        rw [HF.out, if_pos rfl]
        exact ⟨rfl, tk_trans (tk_drewN _ _ _) HTK.out.1, HTK.out.2⟩
    · have HF := Lib.hid (hD.symm.trans (decide_eq_false (fun h => hlt (head_in h.2.1))))
      rw [e1] at HC
      clear hD hh h45 e1
      go_enter Tryz.func53, Tryz.ntmps53
      go_wp2_with fail
      refine HL.out.mono ?_
      rintro e w1 ⟨rfl, k, rfl⟩
      go_wp2_with fail
      refine (HC.out _).mono ?_
      rintro e w2 ⟨⟨x, rfl, hx⟩, rfl⟩
      have hx := hx HX.out
      have hxs : x.size = s.size - (i + 1) := by rw [Lib.size_eq, ← Lib.toList_data, hx]; exact left_length s (i + 1)
      have hx0 : x = ⟨#[]⟩ := by
        have h0 : x.data.toList.length = 0 := by rw [← Lib.size_eq]; omega
        obtain ⟨⟨l⟩⟩ := x
        simp at h0
        subst h0
        rfl
      subst hx0
      clear hx hxs
      go_wp2
      go_ret
      unfold DashPost
      rw [HF.out]
      exact ⟨rfl, tk_drewN _ _ _, HH.out.drewN _⟩
  · have e1 : decide (headI (leftB s i) = 45) = false := decide_eq_false h45
    have HF := Lib.hid (hD.symm.trans (decide_eq_false (fun h => h45 h.1)))
    rw [e1] at HC
    clear hD hh h45 e1
    go_enter Tryz.func53, Tryz.ntmps53
    go_wp2_with fail
    refine HL.out.mono ?_
    rintro e w1 ⟨rfl, k, rfl⟩
    go_wp2_with fail
    refine (HC.out _).mono ?_
    rintro e w2 ⟨⟨x, rfl, hx⟩, rfl⟩
    clear hx
    go_wp2
    go_ret
    unfold DashPost
    rw [HF.out]
    exact ⟨rfl, tk_drewN _ _ _, HH.out.drewN _⟩

set_option maxHeartbeats 800000 in
/-- An item that is none: from where it begins to what was taken last. -/
theorem pbRefuse_any (q : Nat) (t : TypeId) (r : List Value) (s : ByteArray) (i b : Nat) (w : World) (h : RdIn w q t r s i) :
    Calls Tryz.prog 54 #[.pointer (some ⟨q, 0, none⟩), .int .i64 (b : Int)] w fun e w' => e = thrown (.iface 27 (wrongV 72 b i)) ∧ w' = w := by
  have c1 := h.c1
  clear h
  go_enter Tryz.func54, Tryz.ntmps54
  go_wp2
  exact ⟨rfl, rfl, rfl⟩
end Go.Proofs.YtmaigjdmjmonbaaGreatDoor
/- A rune, or an escape, at a place of the text. -/
namespace Go.Proofs.YtmaigjdmjmonbaaGreatDoor
open Go Go.RowKit

set_option maxHeartbeats 3200000 in
set_option maxRecDepth 100000 in
theorem rone_any (s : ByteArray) (i : Nat) (p : Bool) (w : World) (hs : s.size ≤ 4503599627370496) (hi : i < s.size) (hT : Lib.Utf8Tabs 3 4 w) :
    Calls Tryz.prog 46 #[.string s, .int .i64 i, .bool p] w (EscPost (oneS s i p) i w) := by
  obtain ⟨O, hO⟩ : ∃ O, oneS s i p = O := ⟨_, rfl⟩
  rw [hO]
  obtain ⟨w1, hw1⟩ : ∃ w1, (w.alloc (.cells #[.int .i64 0, .int .i32 0, .slice none 0 0, .int .i64 0] 80)).alloc (.cells #[.int .i64 0, .int .i64 0, .int .i64 0] 27) = w1 := ⟨_, rfl⟩
  have hE1 : Whole w1 w.heap.size 80 #[.int .i64 0, .int .i32 0, .slice none 0 0, .int .i64 0] := by rw [← hw1]; exact Whole.alloc (heap_alloc_new w _) _
  have hF1 : Whole w1 (w.heap.size + 1) 27 #[.int .i64 0, .int .i64 0, .int .i64 0] := by
    rw [← hw1]
    have := heap_alloc_new (w.alloc (.cells #[.int .i64 0, .int .i32 0, .slice none 0 0, .int .i64 0] 80)) (.cells #[.int .i64 0, .int .i64 0, .int .i64 0] 27)
    simpa [Whole] using this
  have hb1 : Below w.heap.size w w1 := by rw [← hw1]; exact ((Below.refl _ w).alloc (Nat.le_refl _) _).alloc (by simp) _
  have hs1 : w1.heap.size = w.heap.size + 2 := by rw [← hw1]; simp
  have HW1 := Lib.hid hw1; have HE1 := Lib.hid hE1; have HF1 := Lib.hid hF1; have HB1 := Lib.hid hb1; have HS1 := Lib.hid hs1; have HT := Lib.hid (Utf8Tabs_below hT hb1)
  clear hw1 hE1 hF1 hb1 hs1 hT
  have g0 := head_at s i hi
  by_cases h92 : (s[i].toNat : Int) = 92
  · have b0 := eq_true_of h92
    have HO := Lib.hid (hO.symm.trans (if_pos (g0.trans h92)))
    have HC := Lib.hid (rescape6_any s i p w1 hs (Nat.le_of_lt hi) HT.out)
    obtain ⟨Q, hQ⟩ : ∃ Q, escS s i p = Q := ⟨_, rfl⟩
    rw [hQ] at HC HO
    clear hO h92 g0 hQ
    go_enter Tryz.func46, Tryz.ntmps46
    go_upto_region 1 with (fail)
    rw [HW1.out]
    go_wp2_with fail
    refine HC.out.mono ?_
    rintro e w2 ⟨hb2, hc⟩
    have HB2 := Lib.hid (HB1.out.trans (hb2.mono HB1.out.size))
    have HS2 := Lib.hid (show w.heap.size + 2 ≤ w2.heap.size from Nat.le_trans (by have := HS1.out; omega) hb2.size)
    have HE2 := Lib.hid (HE1.out.below hb2 (by have := HS1.out; omega))
    have HF2 := Lib.hid (HF1.out.below hb2 (by have := HS1.out; omega))
    obtain ⟨c0, c1, c2, c3, z0, z1, z2, z3⟩ := HE2.out.four
    obtain ⟨d0, d1, d2, y0, y1, y2⟩ := HF2.out.three
    clear hb2 HC
    cases Q with
    | bad c till =>
      replace hc : e = .returned (.tuple #[.agg #[.int .i64 0, .int .i32 0, .slice none 0 0, .int .i64 0], .int .i64 0, .agg #[.int .i64 c, .int .i64 (i : Int), .int .i64 (till : Int)]]) := hc
      subst hc
      go_wp2_with fail
      obtain ⟨r1, r2⟩ := both_whole HE2.out HF2.out (a := w.heap.size) (b := w.heap.size + 1) (by omega)
      refine bodyPost_ret (results_etw Tryz.results46 _ rfl r1 rfl rfl r2 rfl) rfl ?_
      unfold EscPost
      rw [HO.out]
      exact ⟨(set3_below (set4_below HB2.out (Nat.le_refl _) _ _ _ _) (by omega) _ _ _), rfl⟩
    | esc k r l a n =>
      obtain ⟨v, hc, ho⟩ := hc
      replace hc : e = .returned (.tuple #[.agg #[.int .i64 k, .int .i32 r, v, .int .i64 a], .int .i64 (n : Int), .agg #[.int .i64 0, .int .i64 0, .int .i64 0]]) := hc
      subst hc
      have HOW := Lib.hid ho
      have HGE := Lib.hid (own_ge ho)
      obtain ⟨A, cA, hvs, -⟩ := ho.rgs
      subst hvs
      clear ho
      go_wp2_with fail
      obtain ⟨r1, r2⟩ := both_whole HE2.out HF2.out (a := w.heap.size) (b := w.heap.size + 1) (by omega)
      refine bodyPost_ret (results_etw Tryz.results46 _ rfl r1 rfl rfl r2 rfl) rfl ?_
      unfold EscPost
      rw [HO.out]
      exact ⟨(set3_below (set4_below HB2.out (Nat.le_refl _) _ _ _ _) (by omega) _ _ _), ⟨_, rfl, own_set3 (own_set4 (HOW.out.mono HB1.out.size) (fun g hg => by have := HGE.out g hg; have := HS1.out; omega) _ _ _ _) (fun g hg => by have := HGE.out g hg; have := HS1.out; omega) _ _ _⟩⟩
  · have b0 := eq_false_of h92
    have hO2 := hO.symm.trans (if_neg (fun h => h92 (g0.symm.trans h)))
    have hn := decode_width s i hi
    have hdec := Tryz.utf8_DecodeRuneInString (s.extract i s.size) w1 HT.out
    rw [decodeGo_extract s i hi] at hdec
    obtain ⟨⟨r, n⟩, hr⟩ : ∃ r, Utf8.decode s i = r := ⟨_, rfl⟩
    rw [hr] at hO2 hn hdec
    simp only at hO2 hn hdec
    have hw2 : IntKind.i64.wrap ((i : Int) + (n : Int)) = (i : Int) + (n : Int) := wrap_in _ (by omega)
    have HO := Lib.hid hO2; have HD := Lib.hid hdec
    clear hO hO2 h92 g0 hdec hr
    go_enter Tryz.func46, Tryz.ntmps46
    go_upto_region 1 with (fail)
    rw [HW1.out]
    go_wp2_with fail
    refine HD.out.mono ?_
    rintro e w2 ⟨rfl, hb2⟩
    have HB2 := Lib.hid (HB1.out.trans (hb2.mono HB1.out.size))
    have HS2 := Lib.hid (show w.heap.size + 2 ≤ w2.heap.size from Nat.le_trans (by have := HS1.out; omega) hb2.size)
    have HE2 := Lib.hid (HE1.out.below hb2 (by have := HS1.out; omega))
    have HF2 := Lib.hid (HF1.out.below hb2 (by have := HS1.out; omega))
    obtain ⟨c0, c1, c2, c3, z0, z1, z2, z3⟩ := HE2.out.four
    obtain ⟨d0, d1, d2, y0, y1, y2⟩ := HF2.out.three
    clear hb2 HD
    go_wp2_with fail
    obtain ⟨r1, r2⟩ := both_whole HE2.out HF2.out (a := w.heap.size) (b := w.heap.size + 1) (by omega)
    refine bodyPost_ret (results_etw Tryz.results46 _ rfl r1 rfl rfl r2 rfl) rfl ?_
    unfold EscPost
    rw [HO.out]
    exact ⟨(set3_below (set4_below HB2.out (Nat.le_refl _) _ _ _ _) (by omega) _ _ _), ⟨_, by rfl, own_none _ _⟩⟩
end Go.Proofs.YtmaigjdmjmonbaaGreatDoor
/- The runes of an item between brackets. -/
namespace Go.Proofs.YtmaigjdmjmonbaaGreatDoor
open Go Go.RowKit

def ItemPost (R : ItemR) (w : World) (e : Ending) (w' : World) : Prop :=
  Below w.heap.size w w' ∧ match R with
    | .item l n => ∃ v, e = .returned (.tuple #[v, .int .i64 (n : Int), wrongV 0 0 0]) ∧ OwnR w' w.heap.size v l
    | .bad c a b => e = .returned (.tuple #[.slice none 0 0, .int .i64 0, wrongV c a b])

theorem own_lit1 (W : World) (a b : Int) (n : Nat) (hn : W.heap.size = n) (ha : I32 a) (hb : I32 b) : OwnR (W.alloc (.cells #[.int .i32 a, .int .i32 b] 43)) n (.slice (some ⟨n, 0, none⟩) 1 1) [(a, b)] := by
  subst hn
  exact ⟨World.ownsRow_lit W #[.int .i32 a, .int .i32 b] 1 (Nat.le_refl _) (by decide) rfl, by simp [AllI32, ha, hb]⟩
theorem i32_of {a : Int} (h0 : 0 ≤ a) (h1 : a ≤ 1114111) : I32 a := ⟨by omega, by omega⟩
theorem two_boxes {w w3 w4 : World} {xs ys zs : Array Value} (h : (w3.alloc (.cells xs 80)).alloc (.cells ys 27) = w4) (hB : Below w.heap.size w w3) (hS : w.heap.size + 1 ≤ w3.heap.size) (hE : Whole w3 w.heap.size 27 zs) :
    Below w.heap.size w w4 ∧ Below w3.heap.size w3 w4 ∧ Whole w4 w3.heap.size 80 xs ∧ Whole w4 (w3.heap.size + 1) 27 ys ∧ Whole w4 w.heap.size 27 zs ∧ w4.heap.size = w3.heap.size + 2 := by
  subst h
  refine ⟨(hB.alloc hB.size _).alloc (by simp; omega) _, ((Below.refl _ w3).alloc (Nat.le_refl _) _).alloc (by simp) _, Whole.alloc (heap_alloc_new w3 _) _, ?_, (hE.alloc _).alloc _, by simp⟩
  have := heap_alloc_new (w3.alloc (.cells xs 80)) (.cells ys 27)
  simpa [Whole] using this
theorem three_boxes {w w5 w6 : World} {b : Nat} {xs xs2 zs : Array Value} {x0 x1 x2 y0 y1 y2 : Value} (h : set3 (w5.alloc (.cells xs2 80)) (b + 1) x0 x1 x2 = w6) (hB : Below w.heap.size w w5) (hS : b + 2 ≤ w5.heap.size) (hb : w.heap.size + 1 ≤ b)
    (hX : Whole w5 b 80 xs) (hY : Whole w5 (b + 1) 27 #[y0, y1, y2]) (hE : Whole w5 w.heap.size 27 zs) :
    Below w.heap.size w w6 ∧ Whole w6 b 80 xs ∧ Whole w6 (b + 1) 27 #[x0, x1, x2] ∧ Whole w6 w5.heap.size 80 xs2 ∧ Whole w6 w.heap.size 27 zs ∧ w6.heap.size = w5.heap.size + 1 := by
  subst h
  exact ⟨set3_below (hB.alloc hB.size _) (by omega) _ _ _, (set3_other (by omega) _ _ _).trans (hX.alloc _), set3_whole (hY.alloc _) _ _ _, (set3_other (by omega) _ _ _).trans (heap_alloc_new w5 _), (set3_other (by omega) _ _ _).trans (hE.alloc _), by rw [set3_size]; simp⟩

set_option maxHeartbeats 3200000 in
set_option maxRecDepth 100000 in
theorem ritem_any (s : ByteArray) (i : Nat) (p : Bool) (w : World) (hs : s.size ≤ 4503599627370496) (hi : i < s.size) (hT : Lib.Utf8Tabs 3 4 w) :
    Calls Tryz.prog 26 #[.string s, .int .i64 i, .bool p] w (ItemPost (itemS s i p) w) := by
  obtain ⟨O, hO⟩ : ∃ O, itemS s i p = O := ⟨_, rfl⟩
  rw [hO]
  unfold itemS at hO
  obtain ⟨w1, hw1⟩ : ∃ w1, w.alloc (.cells #[.int .i64 0, .int .i64 0, .int .i64 0] 27) = w1 := ⟨_, rfl⟩
  have hE1 : Whole w1 w.heap.size 27 #[.int .i64 0, .int .i64 0, .int .i64 0] := by rw [← hw1]; exact heap_alloc_new w _
  have hb1 : Below w.heap.size w w1 := by rw [← hw1]; exact (Below.refl _ w).alloc (Nat.le_refl _) _
  have hs1 : w1.heap.size = w.heap.size + 1 := by rw [← hw1]; simp
  have HW1 := Lib.hid hw1; have HE1 := Lib.hid hE1; have HB1 := Lib.hid hb1; have HS1 := Lib.hid hs1; have HT := Lib.hid (Utf8Tabs_below hT hb1); have HT0 := Lib.hid hT
  clear hw1 hE1 hb1 hs1 hT
  have HEND := Lib.hid (rend_any s i w1 hs (Nat.le_of_lt hi))
  obtain ⟨K, hK⟩ : ∃ K, colS s i = K := ⟨_, rfl⟩
  rw [hK] at hO HEND
  cases K with
  | some k =>
    have hk := colS_le hK
    have HPX := Lib.hid (rposix_any (s.extract (i + 2) k) w1)
    rw [extract_left6] at HPX
    have hw2 : IntKind.i64.wrap ((i : Int) + 2) = (i : Int) + 2 := wrap_in _ (by omega)
    have hw3 : IntKind.i64.wrap ((k : Int) + 2) = (k : Int) + 2 := wrap_in _ (by omega)
    have x1 : (0 : Int) ≤ (k : Int) := by omega
    have x2 : (0 : Int) ≤ (i : Int) + 2 := by omega
    have x3 : (i : Int) + 2 ≤ (k : Int) := by omega
    have x4 : (k : Int) ≤ (s.size : Int) := by omega
    have x5 : ((i : Int) + 2).toNat = i + 2 := by omega
    have HO := Lib.hid hO
    clear hO hK
    go_enter Tryz.func26, Tryz.ntmps26
    go_upto_region 1 with (fail)
    rw [HW1.out]
    go_wp2_with fail
    refine HEND.out.mono ?_
    rintro e w2 ⟨he, rfl⟩
    replace he : e = .returned (.int .i64 (k : Int)) := he
    subst he
    clear HEND
    go_wp2_with fail
    refine HPX.out.mono ?_
    rintro e w3 ⟨hb3, hc⟩
    have HB3 := Lib.hid (HB1.out.trans (hb3.mono HB1.out.size))
    have HE3 := Lib.hid (HE1.out.below hb3 (by have := HS1.out; omega))
    obtain ⟨c0, c1, c2, z0, z1, z2⟩ := HE3.out.three
    clear hb3 HPX
    rcases hc with ⟨hq, rfl⟩ | ⟨v, l, hq, rfl, ho⟩
    · have HN := Lib.hid (show O = .bad 72 i (k + 2) by rw [← HO.out]; simp only [hq])
      clear hq
      go_wp2_with fail
      refine bodyPost_ret (results_ttw Tryz.results26 _ rfl (set3_whole HE3.out _ _ _) rfl) rfl ?_
      unfold ItemPost
      rw [HN.out]
      exact ⟨set3_below HB3.out (Nat.le_refl _) _ _ _, rfl⟩
    · have HN := Lib.hid (show O = .item l (k + 2) by rw [← HO.out]; simp only [hq])
      have HOW := Lib.hid ho
      have HGE := Lib.hid (own_ge ho)
      obtain ⟨A, cA, hvs, -⟩ := ho.rgs
      subst hvs
      clear hq ho
      go_wp2_with fail
      refine bodyPost_ret (results_ttw Tryz.results26 _ rfl (set3_whole HE3.out _ _ _) rfl) rfl ?_
      unfold ItemPost
      rw [HN.out]
      exact ⟨set3_below HB3.out (Nat.le_refl _) _ _ _, _, rfl, own_set3 (HOW.out.mono HB1.out.size) (fun g hg => by have := HGE.out g hg; have := HS1.out; omega) _ _ _⟩
  | none =>
    have HO := Lib.hid hO
    have HONE := Lib.hid (rone_any s i p w1 hs hi HT.out)
    have HOK := Lib.hid (oneS_ok s i p hi)
    obtain ⟨Q, hQ⟩ : ∃ Q, oneS s i p = Q := ⟨_, rfl⟩
    rw [hQ] at HO HONE HOK
    clear hO hK hQ
    go_enter Tryz.func26, Tryz.ntmps26
    go_upto_region 1 with (fail)
    rw [HW1.out]
    go_wp2_with fail
    refine HEND.out.mono ?_
    rintro e w2 ⟨he, rfl⟩
    replace he : e = .returned (.int .i64 (-1)) := he
    subst he
    clear HEND
    go_wp2_with fail
    refine HONE.out.mono ?_
    rintro e w3 ⟨hb3, hc⟩
    have HB3 := Lib.hid (HB1.out.trans (hb3.mono HB1.out.size))
    have HS3 := Lib.hid (show w.heap.size + 1 ≤ w3.heap.size from Nat.le_trans (by have := HS1.out; omega) hb3.size)
    have HE3 := Lib.hid (HE1.out.below hb3 (by have := HS1.out; omega))
    clear hb3 HONE
    cases Q with
    | bad c till =>
      replace hc : e = .returned (.tuple #[.agg #[.int .i64 0, .int .i32 0, .slice none 0 0, .int .i64 0], .int .i64 0, .agg #[.int .i64 c, .int .i64 (i : Int), .int .i64 (till : Int)]]) := hc
      subst hc
      have b1 : (c != 0) = true := ne_true_of (by have : 0 < c := HOK.out; omega)
      obtain ⟨w4, hw4⟩ : ∃ w4, (w3.alloc (.cells #[.int .i64 0, .int .i32 0, .slice none 0 0, .int .i64 0] 80)).alloc (.cells #[.int .i64 c, .int .i64 (i : Int), .int .i64 (till : Int)] 27) = w4 := ⟨_, rfl⟩
      obtain ⟨hB4, hb4, hX4, hY4, hE4, hS4⟩ := two_boxes hw4 HB3.out HS3.out HE3.out
      have HW4 := Lib.hid hw4; have HB4 := Lib.hid hB4; have Hb4 := Lib.hid hb4; have HX4 := Lib.hid hX4; have HY4 := Lib.hid hY4; have HE4 := Lib.hid hE4; have HS4 := Lib.hid hS4
      clear hw4 hB4 hb4 hX4 hY4 hE4 hS4
      go_upto_region 8 with (fail)
      rw [HW4.out]
      obtain ⟨e0, e1, e2, e3, -, -, -, -⟩ := HX4.out.four
      obtain ⟨f0, f1, f2, n0, n1, n2⟩ := HY4.out.three
      obtain ⟨c0, c1, c2, z0, z1, z2⟩ := HE4.out.three
      go_wp2_with fail
      go_region
      go_wp2_with fail
      refine bodyPost_ret (results_ttw Tryz.results26 _ rfl (set3_whole HE4.out.drew _ _ _) rfl) rfl ?_
      unfold ItemPost
      rw [← HO.out]
      exact ⟨set3_below (Below.drew HB4.out) (Nat.le_refl _) _ _ _, rfl⟩
    | esc k r l a n =>
      obtain ⟨v, hc, ho⟩ := hc
      replace hc : e = .returned (.tuple #[.agg #[.int .i64 k, .int .i32 r, v, .int .i64 a], .int .i64 (n : Int), .agg #[.int .i64 0, .int .i64 0, .int .i64 0]]) := hc
      subst hc
      have HOW := Lib.hid ho
      have HGE := Lib.hid (own_ge ho)
      obtain ⟨A, cA, hvs, -⟩ := ho.rgs
      subst hvs
      clear ho
      obtain ⟨w4, hw4⟩ : ∃ w4, (w3.alloc (.cells #[.int .i64 k, .int .i32 r, .slice A l.length cA, .int .i64 a] 80)).alloc (.cells #[.int .i64 0, .int .i64 0, .int .i64 0] 27) = w4 := ⟨_, rfl⟩
      obtain ⟨hB4, hb4, hX4, hY4, hE4, hS4⟩ := two_boxes hw4 HB3.out HS3.out HE3.out
      have HW4 := Lib.hid hw4; have HB4 := Lib.hid hB4; have Hb4 := Lib.hid hb4; have HX4 := Lib.hid hX4; have HY4 := Lib.hid hY4; have HE4 := Lib.hid hE4; have HS4 := Lib.hid hS4
      clear hw4 hB4 hb4 hX4 hY4 hE4 hS4
      go_upto_region 8 with (fail)
      rw [HW4.out]
      obtain ⟨e0, e1, e2, e3, -, -, -, -⟩ := HX4.out.four
      obtain ⟨f0, f1, f2, n0, n1, n2⟩ := HY4.out.three
      obtain ⟨c0, c1, c2, z0, z1, z2⟩ := HE4.out.three
      by_cases hk2 : k = 2
      · have b2 := eq_true_of hk2
        have HN := Lib.hid (HO.out.symm.trans (if_pos hk2))
        clear hk2
        go_wp2_with fail
        refine bodyPost_ret (results_ttw Tryz.results26 _ rfl (set3_whole HE4.out _ _ _) rfl) rfl ?_
        unfold ItemPost
        rw [HN.out]
        exact ⟨set3_below HB4.out (Nat.le_refl _) _ _ _, _, rfl, own_set3 ((HOW.out.below Hb4.out).mono (by have := HS1.out; omega)) (fun g hg => by have := HGE.out g hg; have := HS1.out; omega) _ _ _⟩
      have b2 := eq_false_of hk2
      have hO4 := HO.out.symm.trans (if_neg hk2)
      clear hk2 HO
      by_cases hk1 : k = 1
      rotate_left
      · have b3 := ne_true_of hk1
        have HN := Lib.hid (hO4.trans (if_pos hk1))
        clear hk1 hO4
        go_wp2_with fail
        refine bodyPost_ret (results_ttw Tryz.results26 _ rfl (set3_whole HE4.out _ _ _) rfl) rfl ?_
        unfold ItemPost
        rw [HN.out]
        exact ⟨set3_below HB4.out (Nat.le_refl _) _ _ _, rfl⟩
      have b3 := ne_false_of hk1
      have hO5 := hO4.trans (if_neg (fun h => h hk1))
      subst hk1
      clear hO4
      obtain ⟨ho1, ho2, ho3, ho4, -⟩ := HOK.out
      unfold rangeS at hO5
      have hwn : IntKind.i64.wrap ((n : Int) + 1) = (n : Int) + 1 := wrap_in _ (by omega)
      by_cases hn1 : n + 1 < s.size
      rotate_left
      · have x1 : (s.size : Int) ≤ (n : Int) + 1 := by omega
        have HN := Lib.hid (hO5.trans (if_neg (fun h => hn1 (head_in h.2.1))))
        clear hO5
        obtain ⟨i0, i1, i2, j0, j1, j2⟩ := (HE4.out.alloc (.cells #[.int .i32 r, .int .i32 r] 43)).three
        go_wp2_with fail
        have hB5 : Below w.heap.size w (w4.alloc (.cells #[.int .i32 r, .int .i32 r] 43)) := HB4.out.alloc HB4.out.size _
        refine bodyPost_ret (results_ttw Tryz.results26 _ rfl (set3_whole (HE4.out.alloc _) _ _ _) rfl) rfl ?_
        unfold ItemPost
        rw [HN.out]
        exact ⟨set3_below hB5 (Nat.le_refl _) _ _ _, _, rfl, own_set3 ((own_lit1 w4 r r _ rfl (i32_of ho3 ho4) (i32_of ho3 ho4)).mono HB4.out.size) (fun g hg => by have := own_ge (own_lit1 w4 r r _ rfl (i32_of ho3 ho4) (i32_of ho3 ho4)) g hg; have := HS4.out; have := HS3.out; omega) _ _ _⟩
      have hnl : n < s.size := by omega
      have g0 := head_at s n hnl
      have g1 := head_at s (n + 1) hn1
      have x1 : ¬ (s.size : Int) ≤ (n : Int) + 1 := by omega
      have x2 : (0 : Int) ≤ (n : Int) + 1 := by omega
      have x3 : (n : Int) + 1 < (s.size : Int) := by omega
      have x4 : ((n : Int) + 1).toNat = n + 1 := by omega
      by_cases h45 : (s[n].toNat : Int) = 45
      rotate_left
      · have b4 := ne_true_of h45
        have HN := Lib.hid (hO5.trans (if_neg (fun h => h45 (g0.symm.trans h.1))))
        clear hO5
        obtain ⟨i0, i1, i2, j0, j1, j2⟩ := (HE4.out.alloc (.cells #[.int .i32 r, .int .i32 r] 43)).three
        go_wp2_with fail
        have hB5 : Below w.heap.size w (w4.alloc (.cells #[.int .i32 r, .int .i32 r] 43)) := HB4.out.alloc HB4.out.size _
        refine bodyPost_ret (results_ttw Tryz.results26 _ rfl (set3_whole (HE4.out.alloc _) _ _ _) rfl) rfl ?_
        unfold ItemPost
        rw [HN.out]
        exact ⟨set3_below hB5 (Nat.le_refl _) _ _ _, _, rfl, own_set3 ((own_lit1 w4 r r _ rfl (i32_of ho3 ho4) (i32_of ho3 ho4)).mono HB4.out.size) (fun g hg => by have := own_ge (own_lit1 w4 r r _ rfl (i32_of ho3 ho4) (i32_of ho3 ho4)) g hg; have := HS4.out; have := HS3.out; omega) _ _ _⟩
      have b4 := ne_false_of h45
      by_cases h93 : (s[n + 1].toNat : Int) = 93
      · have b5 := eq_true_of h93
        have HN := Lib.hid (hO5.trans (if_neg (fun h => h.2.2 (g1.trans h93))))
        clear hO5
        obtain ⟨i0, i1, i2, j0, j1, j2⟩ := (HE4.out.alloc (.cells #[.int .i32 r, .int .i32 r] 43)).three
        go_wp2_with fail
        have hB5 : Below w.heap.size w (w4.alloc (.cells #[.int .i32 r, .int .i32 r] 43)) := HB4.out.alloc HB4.out.size _
        refine bodyPost_ret (results_ttw Tryz.results26 _ rfl (set3_whole (HE4.out.alloc _) _ _ _) rfl) rfl ?_
        unfold ItemPost
        rw [HN.out]
        exact ⟨set3_below hB5 (Nat.le_refl _) _ _ _, _, rfl, own_set3 ((own_lit1 w4 r r _ rfl (i32_of ho3 ho4) (i32_of ho3 ho4)).mono HB4.out.size) (fun g hg => by have := own_ge (own_lit1 w4 r r _ rfl (i32_of ho3 ho4) (i32_of ho3 ho4)) g hg; have := HS4.out; have := HS3.out; omega) _ _ _⟩
      have b5 := eq_false_of h93
      have hO6 := hO5.trans (if_pos ⟨g0.trans h45, by rw [g1]; omega, fun h => h93 (g1.symm.trans h)⟩)
      have HON := Lib.hid (rone_any s (n + 1) p w4 hs hn1 (Utf8Tabs_below HT0.out HB4.out))
      obtain ⟨Q2, hQ2⟩ : ∃ Q, oneS s (n + 1) p = Q := ⟨_, rfl⟩
      have HOK2 := Lib.hid (oneS_ok s (n + 1) p hn1)
      rw [hQ2] at hO6 HON HOK2
      have HO6 := Lib.hid hO6
      clear hO5 hO6 hQ2 h45 h93 g0 g1
      go_wp2_with fail
      refine HON.out.mono ?_
      rintro e w5 ⟨hb5, hc⟩
      have HB5 := Lib.hid (HB4.out.trans (hb5.mono HB4.out.size))
      have HS5 := Lib.hid (show w3.heap.size + 2 ≤ w5.heap.size from Nat.le_trans (by have := HS4.out; omega) hb5.size)
      have HX5 := Lib.hid (HX4.out.below hb5 (by have := HS4.out; omega))
      have HY5 := Lib.hid (HY4.out.below hb5 (by have := HS4.out; omega))
      have HE5 := Lib.hid (HE4.out.below hb5 (by have := HS4.out; have := HS3.out; omega))
      clear hb5 HON
      cases Q2 with
      | bad ce till2 =>
        replace hc : e = .returned (.tuple #[.agg #[.int .i64 0, .int .i32 0, .slice none 0 0, .int .i64 0], .int .i64 0, .agg #[.int .i64 ce, .int .i64 ((n : Int) + 1), .int .i64 (till2 : Int)]]) := hc
        subst hc
        have b6 : (ce != 0) = true := ne_true_of (by have : 0 < ce := HOK2.out; omega)
        have hal := HY5.out.alloc (.cells #[.int .i64 0, .int .i32 0, .slice none 0 0, .int .i64 0] 80)
        obtain ⟨i0, i1, i2, j0, j1, j2⟩ := hal.three
        clear hal
        obtain ⟨w6, hw6⟩ : ∃ w6, set3 (w5.alloc (.cells #[.int .i64 0, .int .i32 0, .slice none 0 0, .int .i64 0] 80)) (w3.heap.size + 1) (.int .i64 ce) (.int .i64 ((n : Int) + 1)) (.int .i64 (till2 : Int)) = w6 := ⟨_, rfl⟩
        obtain ⟨hB6, hX6, hY6, hZ6, hE6, hS6⟩ := three_boxes hw6 HB5.out HS5.out HS3.out HX5.out HY5.out HE5.out
        have HW6 := Lib.hid (show (((w5.alloc (.cells #[.int .i64 0, .int .i32 0, .slice none 0 0, .int .i64 0] 80)).setCell ⟨w3.heap.size + 1, 0, none⟩ (.int .i64 ce)).setCell ⟨w3.heap.size + 1, 1, none⟩ (.int .i64 ((n : Int) + 1))).setCell ⟨w3.heap.size + 1, 2, none⟩ (.int .i64 (till2 : Int)) = w6 from hw6)
        have HB6 := Lib.hid hB6; have HX6 := Lib.hid hX6; have HY6 := Lib.hid hY6; have HZ6 := Lib.hid hZ6; have HE6 := Lib.hid hE6; have HS6 := Lib.hid hS6
        clear hw6 hB6 hX6 hY6 hZ6 hE6 hS6 e0 e1 e2 e3 f0 f1 f2 n0 n1 n2 c0 c1 c2 z0 z1 z2
        go_upto_region 17 with (fail)
        rw [HW6.out]
        clear i0 i1 i2 j0 j1 j2
        obtain ⟨e0, e1, e2, e3, -, -, -, -⟩ := HX6.out.four
        obtain ⟨m0, m1, m2, m3, -, -, -, -⟩ := HZ6.out.four
        obtain ⟨f0, f1, f2, n0, n1, n2⟩ := HY6.out.three
        obtain ⟨c0, c1, c2, z0, z1, z2⟩ := HE6.out.three
        go_wp2_with fail
        go_region
        go_wp2_with fail
        refine bodyPost_ret (results_ttw Tryz.results26 _ rfl (set3_whole HE6.out.drew _ _ _) rfl) rfl ?_
        unfold ItemPost
        rw [HO6.out]
        exact ⟨set3_below (Below.drew HB6.out) (Nat.le_refl _) _ _ _, rfl⟩
      | esc k2 r2 l2 a2 ne =>
        obtain ⟨v2, hc, ho⟩ := hc
        replace hc : e = .returned (.tuple #[.agg #[.int .i64 k2, .int .i32 r2, v2, .int .i64 a2], .int .i64 (ne : Int), .agg #[.int .i64 0, .int .i64 0, .int .i64 0]]) := hc
        subst hc
        obtain ⟨A2, cA2, hvs, -⟩ := ho.rgs
        subst hvs
        clear ho
        have hal := HY5.out.alloc (.cells #[.int .i64 k2, .int .i32 r2, .slice A2 l2.length cA2, .int .i64 a2] 80)
        obtain ⟨i0, i1, i2, j0, j1, j2⟩ := hal.three
        clear hal
        obtain ⟨w6, hw6⟩ : ∃ w6, set3 (w5.alloc (.cells #[.int .i64 k2, .int .i32 r2, .slice A2 l2.length cA2, .int .i64 a2] 80)) (w3.heap.size + 1) (.int .i64 0) (.int .i64 0) (.int .i64 0) = w6 := ⟨_, rfl⟩
        obtain ⟨hB6, hX6, hY6, hZ6, hE6, hS6⟩ := three_boxes hw6 HB5.out HS5.out HS3.out HX5.out HY5.out HE5.out
        have HW6 := Lib.hid (show (((w5.alloc (.cells #[.int .i64 k2, .int .i32 r2, .slice A2 l2.length cA2, .int .i64 a2] 80)).setCell ⟨w3.heap.size + 1, 0, none⟩ (.int .i64 0)).setCell ⟨w3.heap.size + 1, 1, none⟩ (.int .i64 0)).setCell ⟨w3.heap.size + 1, 2, none⟩ (.int .i64 0) = w6 from hw6)
        have HB6 := Lib.hid hB6; have HX6 := Lib.hid hX6; have HY6 := Lib.hid hY6; have HZ6 := Lib.hid hZ6; have HE6 := Lib.hid hE6; have HS6 := Lib.hid hS6
        clear hw6 hB6 hX6 hY6 hZ6 hE6 hS6 e0 e1 e2 e3 f0 f1 f2 n0 n1 n2 c0 c1 c2 z0 z1 z2
        go_upto_region 17 with (fail)
        rw [HW6.out]
        clear i0 i1 i2 j0 j1 j2
        obtain ⟨e0, e1, e2, e3, -, -, -, -⟩ := HX6.out.four
        obtain ⟨m0, m1, m2, m3, -, -, -, -⟩ := HZ6.out.four
        obtain ⟨f0, f1, f2, n0, n1, n2⟩ := HY6.out.three
        obtain ⟨c0, c1, c2, z0, z1, z2⟩ := HE6.out.three
        obtain ⟨hp1, hp2, hp3, hp4, -⟩ := HOK2.out
        by_cases hk1 : k2 = 1
        rotate_left
        · have b7 := ne_true_of hk1
          have HN := Lib.hid (HO6.out.trans (if_pos (.inl hk1)))
          clear hk1
          go_wp2_with fail
          refine bodyPost_ret (results_ttw Tryz.results26 _ rfl (set3_whole HE6.out _ _ _) rfl) rfl ?_
          unfold ItemPost
          rw [HN.out]
          exact ⟨set3_below HB6.out (Nat.le_refl _) _ _ _, rfl⟩
        have b7 := ne_false_of hk1
        by_cases hrr : r2 < r
        · have HN := Lib.hid (HO6.out.trans (if_pos (.inr hrr)))
          clear hk1
          go_wp2_with fail
          refine bodyPost_ret (results_ttw Tryz.results26 _ rfl (set3_whole HE6.out _ _ _) rfl) rfl ?_
          unfold ItemPost
          rw [HN.out]
          exact ⟨set3_below HB6.out (Nat.le_refl _) _ _ _, rfl⟩
        have HN := Lib.hid (HO6.out.trans (if_neg (fun h => h.elim (fun h => h hk1) hrr)))
        subst hk1
        obtain ⟨i0, i1, i2, j0, j1, j2⟩ := (HE6.out.alloc (.cells #[.int .i32 r, .int .i32 r2] 43)).three
        go_wp2_with fail
        have hB7 : Below w.heap.size w (w6.alloc (.cells #[.int .i32 r, .int .i32 r2] 43)) := HB6.out.alloc HB6.out.size _
        refine bodyPost_ret (results_ttw Tryz.results26 _ rfl (set3_whole (HE6.out.alloc _) _ _ _) rfl) rfl ?_
        unfold ItemPost
        rw [HN.out]
        exact ⟨set3_below hB7 (Nat.le_refl _) _ _ _, _, rfl, own_set3 ((own_lit1 w6 r r2 _ rfl (i32_of ho3 ho4) (i32_of hp3 hp4)).mono HB6.out.size) (fun g hg => by have := own_ge (own_lit1 w6 r r2 _ rfl (i32_of ho3 ho4) (i32_of hp3 hp4)) g hg; have := HS6.out; have := HS5.out; have := HS3.out; omega) _ _ _⟩
end Go.Proofs.YtmaigjdmjmonbaaGreatDoor
/- No item of a class has more than a few ranges. No condition. -/
namespace Go.Proofs.YtmaigjdmjmonbaaGreatDoor
open Go Go.RowKit

theorem not_few : ∀ (l : List (Int × Int)) (f : Int), (notFrom f l).length ≤ l.length + 1
  | [], f => by unfold notFrom; split <;> simp
  | r :: l, f => by
    have h := not_few l (r.2 + 1)
    unfold notFrom
    split <;> simp <;> omega
theorem notR_few {l : List (Int × Int)} {n : Nat} (h : l.length ≤ n) : (notR l).length ≤ n + 1 := Nat.le_trans (not_few l 0) (by omega)
theorem if_few {P : Prop} [Decidable P] {k : List (Int × Int)} {o : Option (List (Int × Int))} {l : List (Int × Int)} {n : Nat} (hk : k.length ≤ n) (ho : o = some l → l.length ≤ n) (h : (if P then some k else o) = some l) : l.length ≤ n := by
  by_cases hP : P
  · rw [if_pos hP] at h
    cases h
    exact hk
  · rw [if_neg hP] at h
    exact ho h
theorem some_few {l k : List (Int × Int)} {n : Nat} (hk : k.length ≤ n) (h : some k = some l) : l.length ≤ n := by
  cases h
  exact hk
theorem plain_few {b : List UInt8} {l : List (Int × Int)} (h : plainR b = some l) : l.length ≤ 5 := by
  unfold plainR at h
  revert h
  repeat (refine if_few (by decide) ?_)
  exact fun h => nomatch h
theorem name_few {b : List UInt8} {l : List (Int × Int)} (h : nameR b = some l) : l.length ≤ 15 := by
  unfold nameR at h
  revert h
  repeat (refine if_few (by decide) ?_)
  exact fun h => nomatch h
theorem posix_few {b : List UInt8} {l : List (Int × Int)} (h : posixR b = some l) : l.length ≤ 17 := by
  unfold posixR at h
  split at h
  · obtain ⟨k, hk, rfl⟩ := Option.map_eq_some_iff.1 h
    exact Nat.le_trans (notR_few (plain_few hk)) (by decide)
  · exact Nat.le_trans (plain_few h) (by decide)
theorem property1_few {b : List UInt8} {l : List (Int × Int)} (h : property1 b = some l) : l.length ≤ 15 := by
  unfold property1 at h
  split at h
  · exact some_few (by decide) h
  · exact name_few h
theorem property2_few {b : List UInt8} {n : Bool} {l : List (Int × Int)} (h : property2 b n = some l) : l.length ≤ 16 := by
  unfold property2 at h
  split at h
  · obtain ⟨k, hk, rfl⟩ := Option.map_eq_some_iff.1 h
    exact notR_few (property1_few hk)
  · exact Nat.le_trans (property1_few h) (by decide)
theorem prop_few {b : List UInt8} {n : Bool} {l : List (Int × Int)} (h : propR b n = some l) : l.length ≤ 17 := by
  unfold propR at h
  split at h <;> exact Nat.le_trans (property2_few h) (by decide)
theorem perl_few {c : Int} {l : List (Int × Int)} (h : perlR c = some l) : l.length ≤ 17 := by
  unfold perlR at h
  revert h
  repeat (refine if_few (by decide) ?_)
  exact fun h => nomatch h
theorem perls_few {c k a : Int} {l : List (Int × Int)} (h : perlsR c = some (k, l, a)) : l.length ≤ 17 := by
  unfold perlsR at h
  split at h
  · cases h; decide
  split at h
  · cases h; decide
  split at h
  · cases h
  split at h
  · cases h
  · rename_i l' hl'
    cases h
    exact perl_few hl'
theorem escS_few {s : ByteArray} {i n : Nat} {p : Bool} {k r a : Int} {l : List (Int × Int)} (h : escS s i p = .esc k r l a n) : l.length ≤ 17 := by
  unfold escS at h
  split at h
  · cases h
  split at h
  · cases h
  unfold escC at h
  split at h
  · cases h; decide
  split at h
  · cases h; decide
  split at h
  · split at h
    · cases h
    · cases h; decide
  split at h
  · split at h
    · cases h
    · split at h
      · cases h
      · rename_i hl
        cases h
        exact prop_few hl
  split at h
  · cases h
  · rename_i hl
    split at h
    · cases h
      exact perls_few hl
    · cases h
theorem oneS_few {s : ByteArray} {i n : Nat} {p : Bool} {k r a : Int} {l : List (Int × Int)} (h : oneS s i p = .esc k r l a n) : l.length ≤ 17 := by
  unfold oneS at h
  split at h
  · exact escS_few h
  · cases h; decide
theorem rangeS_few {s : ByteArray} {i n m : Nat} {p : Bool} {r : Int} {l : List (Int × Int)} (h : rangeS s i r n p = .item l m) : l.length ≤ 17 := by
  unfold rangeS at h
  split at h
  · split at h
    · cases h
    · split at h
      · cases h
      · cases h; exact Nat.le_add_left 1 16
  · cases h; exact Nat.le_add_left 1 16
theorem itemS_few {s : ByteArray} {i n : Nat} {p : Bool} {l : List (Int × Int)} (h : itemS s i p = .item l n) : l.length ≤ 17 := by
  unfold itemS at h
  split at h
  · split at h
    · cases h
    · rename_i hl
      cases h
      exact posix_few hl
  · split at h
    · cases h
    · rename_i he
      split at h
      · cases h
        exact oneS_few he
      split at h
      · cases h
      · exact rangeS_few h
end Go.Proofs.YtmaigjdmjmonbaaGreatDoor
/- A class between brackets. -/
namespace Go.Proofs.YtmaigjdmjmonbaaGreatDoor
open Go Go.RowKit

def flagB (f : Int) (k : Int) : Bool := bits .and .i64 f k != 0
theorem fold_same {l k : List (Int × Int)} (h : ∀ c, HasR k c ↔ HasR l c) (c : Int) : FoldP k c ↔ FoldP l c := exists_congr fun d => and_congr_left fun _ => h d

set_option maxHeartbeats 6400000 in
set_option maxRecDepth 100000 in
theorem rclass_any (s : ByteArray) (i : Nat) (f : Int) (w : World) (hs : s.size ≤ 900000) (hi : i ≤ s.size) (hT : Lib.Utf8Tabs 3 4 w) :
    Calls Tryz.prog 9 #[.string s, .int .i64 i, .int .i64 f] w (ClassPost (classS s i (flagB f 32)) (flagB f 1) (notB s i) w) := by
  obtain ⟨p, hp⟩ : ∃ p, (bits .and .i64 f 32 != 0) = p := ⟨_, rfl⟩
  obtain ⟨fo, hfo⟩ : ∃ p, (bits .and .i64 f 1 != 0) = p := ⟨_, rfl⟩
  rw [show flagB f 32 = p from hp, show flagB f 1 = fo from hfo]
  obtain ⟨O, hO⟩ : ∃ O, classS s i p = O := ⟨_, rfl⟩
  rw [hO]
  unfold classS at hO
  obtain ⟨w1, hw1⟩ : ∃ w1, w.alloc (.cells #[.int .i64 0, .int .i64 0, .int .i64 0] 27) = w1 := ⟨_, rfl⟩
  have hE1 : Whole w1 w.heap.size 27 #[.int .i64 0, .int .i64 0, .int .i64 0] := by rw [← hw1]; exact heap_alloc_new w _
  have hb1 : Below w.heap.size w w1 := by rw [← hw1]; exact (Below.refl _ w).alloc (Nat.le_refl _) _
  have hs1 : w1.heap.size = w.heap.size + 1 := by rw [← hw1]; simp
  have HW1 := Lib.hid hw1; have HE1 := Lib.hid hE1; have HB1 := Lib.hid hb1; have HS1 := Lib.hid hs1; have HT := Lib.hid (Utf8Tabs_below hT hb1)
  clear hw1 hE1 hb1 hs1 hT
  have hbig : s.size ≤ 4503599627370496 := by omega
  by_cases hlt0 : i < s.size
  rotate_left
  · have x1 : (s.size : Int) ≤ (i : Int) := by omega
    have HN := Lib.hid (hO.symm.trans (if_pos (fun h => hlt0 (head_in (by omega)))))
    obtain ⟨c0, c1, c2, z0, z1, z2⟩ := HE1.out.three
    go_enter Tryz.func9, Tryz.ntmps9
    go_upto_region 1 with (fail)
    rw [HW1.out]
    go_wp2_with fail
    refine bodyPost_ret (results_ttw Tryz.results9 _ rfl (set3_whole HE1.out _ _ _) rfl) rfl ?_
    unfold ClassPost
    rw [HN.out]
    exact ⟨set3_below HB1.out (Nat.le_refl _) _ _ _, rfl⟩
  have g0 := head_at s i hlt0
  by_cases h91 : (s[i].toNat : Int) = 91
  rotate_left
  · have b0 := ne_true_of h91
    have HN := Lib.hid (hO.symm.trans (if_pos (fun h => h91 (g0.symm.trans h))))
    obtain ⟨c0, c1, c2, z0, z1, z2⟩ := HE1.out.three
    go_enter Tryz.func9, Tryz.ntmps9
    go_upto_region 1 with (fail)
    rw [HW1.out]
    go_wp2_with fail
    refine bodyPost_ret (results_ttw Tryz.results9 _ rfl (set3_whole HE1.out _ _ _) rfl) rfl ?_
    unfold ClassPost
    rw [HN.out]
    exact ⟨set3_below HB1.out (Nat.le_refl _) _ _ _, rfl⟩
  have x0 : decide (s.size ≤ i) = false := decide_eq_false (by omega)
  have b9 := ne_false_of h91
  have hO1 := hO.symm.trans (if_neg (fun h => h (g0.trans h91)))
  clear hO h91 g0
  have hw2 : IntKind.i64.wrap ((i : Int) + 1) = (i : Int) + 1 := wrap_in _ (by omega)
  have hw3 : IntKind.i64.wrap ((i : Int) + 1 + 1) = (i : Int) + 1 + 1 := wrap_in _ (by omega)
  by_cases h1 : i + 1 < s.size
  · have g1 := head_at s (i + 1) h1
    have x1 : (0 : Int) ≤ (i : Int) + 1 := by omega
    have x2 : (i : Int) + 1 < (s.size : Int) := by omega
    have x3 : ((i : Int) + 1).toNat = i + 1 := by omega
    by_cases h94 : (s[i + 1].toNat : Int) = 94
    · have b8 := eq_true_of h94
      have hnb : notB s i = true := decide_eq_true (g1.trans h94)
      rw [hnb]
      have hO2 := hO1.symm
      rw [hnb, if_pos rfl] at hO2
      clear hO1 hnb h94 g1
      have HST := Lib.hid hO2
      clear hO2
      go_enter Tryz.func9, Tryz.ntmps9
      go_upto_region 1 with (fail)
      rw [HW1.out]
      go_wp2_with fail
      go_loopw [9, 11, 12] (fun vj va vf wr => ∃ (j m : Nat) (fi : Bool) (all : List (Int × Int)), vj = .int .i64 j ∧ j ≤ s.size ∧ vf = .bool fi ∧ OwnR wr w1.heap.size va all ∧ all.length ≤ 1114112 * j ∧ s.size < j + m ∧ itemsS s i p m j fi all = O ∧ Below w1.heap.size w1 wr) (fun vj _ _ _ => s.size - (intOf vj).toNat)
      case atStart => exact ⟨i + 2, s.size + 1, true, [], rfl, by omega, rfl, own_none _ _, Nat.zero_le _, by omega, HST.out, Below.refl _ _⟩
      case round =>
        obtain ⟨j, m, fi, all, rfl, hj, rfl, ho, hal, hjm, hit, hbr⟩ := hrel
        have HOW := Lib.hid ho; have HAL := Lib.hid hal; have HJM := Lib.hid hjm; have HBR := Lib.hid hbr
        clear ho hal hbr
        cases m with
        | zero => exact absurd hjm (by omega)
        | succ m =>
          clear hjm
          rw [itemsS] at hit
          by_cases hlt : j < s.size
          rotate_left
          · have HN := Lib.hid (hit.symm.trans (if_pos (by omega)))
            have HE9 := Lib.hid (HE1.out.below HBR.out (by have := HS1.out; omega))
            obtain ⟨c0, c1, c2, z0, z1, z2⟩ := HE9.out.three
            clear hit
            go_wp2_with fail
            refine bodyPost_ret (results_ttw Tryz.results9 _ rfl (set3_whole HE9.out _ _ _) rfl) rfl ?_
            unfold ClassPost
            rw [HN.out]
            exact ⟨set3_below (HB1.out.trans (HBR.out.mono HB1.out.size)) (Nat.le_refl _) _ _ _, rfl⟩
          have g0 := head_at s j hlt
          have hit2 := hit.symm.trans (if_neg (by omega))
          clear hit
          obtain ⟨A0, cA0, hvs0, -⟩ := HOW.out.rgs
          subst hvs0
          by_cases h93 : (s[j].toNat : Int) = 93
          · have b0 := eq_true_of h93
            cases fi with
            | false =>
              have hit3 := hit2.trans (if_pos ⟨g0.trans h93, rfl⟩)
              clear hit2 h93 g0
              have HN0 := Lib.hid (rnorm_any _ all wr HOW.out.rgs (by have := HAL.out; omega))
              have H3 := Lib.hid hit3
              clear hit3
              have HWR := Lib.hid (show w.heap.size + 1 ≤ wr.heap.size from Nat.le_trans (by have := HS1.out; omega) HBR.out.size)
              have hwj : IntKind.i64.wrap ((j : Int) + 1) = (j : Int) + 1 := wrap_in _ (by omega)
              go_wp2_with fail
              refine HN0.out.mono ?_
              rintro e w2 ⟨v2, k2, rfl, ho, hr, hh, hb⟩
              have HO2 := Lib.hid ho; have HR2 := Lib.hid hr; have HH2 := Lib.hid hh; have HB2 := Lib.hid (HBR.out.trans (hb.mono HBR.out.size)); have HZ2 := Lib.hid (show wr.heap.size ≤ w2.heap.size from hb.size)
              have hk2 := right_len k2 0 (by omega) hr
              have HK2 := Lib.hid (show k2.length ≤ 1099511627776 by omega)
              clear ho hr hh hb hk2 HN0
              cases fo
              · go_wp2_with fail
                refine (rnot_any v2 k2 w2 HO2.out.rgs HK2.out).mono ?_
                rintro e w4 ⟨v4, k4, rfl, ho, hr, hh, hb⟩
                have HO4 := Lib.hid (ho.mono (B' := wr.heap.size) (by have := HZ2.out; omega)); have HR4 := Lib.hid hr; have HH4 := Lib.hid hh; have HB4 := Lib.hid (HB2.out.trans (hb.mono HB2.out.size))
                clear ho hr hh hb
                have HE9 := Lib.hid (HE1.out.below HB4.out (by have := HS1.out; omega))
                obtain ⟨c0, c1, c2, z0, z1, z2⟩ := HE9.out.three
                go_wp2_with fail
                refine bodyPost_ret (results_ttw Tryz.results9 _ rfl (set3_whole HE9.out _ _ _) rfl) rfl ?_
                unfold ClassPost
                rw [H3.out]
                refine ⟨set3_below (HB1.out.trans (HB4.out.mono HB1.out.size)) (Nat.le_refl _) _ _ _, v4, k4, rfl, own_set3 (HO4.out.mono (by have := HWR.out; omega)) (fun g hg => by have := own_ge HO4.out g hg; have := HWR.out; have := HZ2.out; omega) _ _ _, HR4.out, fun c => ?_⟩
                rw [HH4.out c]
                unfold ClassHas FoldHas
                rw [if_pos rfl, if_neg (by decide), HH2.out c]
              · go_wp2_with fail
                refine (rfold_any v2 k2 w2 HO2.out.rgs HK2.out).mono ?_
                rintro e w3 ⟨v3, k3, rfl, ho, hr, hh, hb⟩
                have HO3 := Lib.hid (ho.mono (B' := wr.heap.size) (by have := HZ2.out; omega)); have HR3 := Lib.hid hr; have HH3 := Lib.hid hh; have HB3 := Lib.hid (HB2.out.trans (hb.mono HB2.out.size)); have HZ3 := Lib.hid (show wr.heap.size ≤ w3.heap.size from Nat.le_trans HZ2.out hb.size)
                have hk3 := right_len k3 0 (by omega) hr
                have HK3 := Lib.hid (show k3.length ≤ 1099511627776 by omega)
                clear ho hr hh hb hk3
                go_wp2_with fail
                refine (rnot_any v3 k3 w3 HO3.out.rgs HK3.out).mono ?_
                rintro e w4 ⟨v4, k4, rfl, ho, hr, hh, hb⟩
                have HO4 := Lib.hid (ho.mono (B' := wr.heap.size) (by have := HZ3.out; omega)); have HR4 := Lib.hid hr; have HH4 := Lib.hid hh; have HB4 := Lib.hid (HB3.out.trans (hb.mono HB3.out.size))
                clear ho hr hh hb
                have HE9 := Lib.hid (HE1.out.below HB4.out (by have := HS1.out; omega))
                obtain ⟨c0, c1, c2, z0, z1, z2⟩ := HE9.out.three
                go_wp2_with fail
                refine bodyPost_ret (results_ttw Tryz.results9 _ rfl (set3_whole HE9.out _ _ _) rfl) rfl ?_
                unfold ClassPost
                rw [H3.out]
                refine ⟨set3_below (HB1.out.trans (HB4.out.mono HB1.out.size)) (Nat.le_refl _) _ _ _, v4, k4, rfl, own_set3 (HO4.out.mono (by have := HWR.out; omega)) (fun g hg => by have := own_ge HO4.out g hg; have := HWR.out; have := HZ2.out; omega) _ _ _, HR4.out, fun c => ?_⟩
                rw [HH4.out c]
                unfold ClassHas FoldHas
                rw [if_pos rfl, if_pos rfl, HH3.out c, fold_same HH2.out c]
                rfl
            | true =>
              have hit3 := (hit2.trans (if_neg (fun h => by cases h.2))).symm
              clear hit2 h93 g0
              have hTr := Utf8Tabs_below HT.out HBR.out
              have HIT := Lib.hid (ritem_any s j p wr hbig hlt hTr)
              have HOK := Lib.hid (itemS_ok s j p hlt)
              obtain ⟨Q, hQ⟩ : ∃ Q, itemS s j p = Q := ⟨_, rfl⟩
              rw [hQ] at hit3 HIT HOK
              have H3 := Lib.hid hit3
              clear hit3 hTr hQ
              go_wp2_with fail
              refine HIT.out.mono ?_
              rintro e w3 ⟨hb3, hc⟩
              have HB3 := Lib.hid (HBR.out.trans (hb3.mono HBR.out.size))
              have HE3 := Lib.hid (HE1.out.below HB3.out (by have := HS1.out; omega))
              have HS3 := Lib.hid (show wr.heap.size ≤ w3.heap.size from hb3.size)
              have HOW3 := Lib.hid (HOW.out.below hb3)
              clear hb3 HIT
              cases Q with
              | bad c a b =>
                replace hc : e = .returned (.tuple #[.slice none 0 0, .int .i64 0, .agg #[.int .i64 c, .int .i64 (a : Int), .int .i64 (b : Int)]]) := hc
                subst hc
                have b1 : (c != 0) = true := ne_true_of (by have : 0 < c := HOK.out; omega)
                obtain ⟨w4, hw4⟩ : ∃ w4, w3.alloc (.cells #[.int .i64 c, .int .i64 (a : Int), .int .i64 (b : Int)] 27) = w4 := ⟨_, rfl⟩
                have HY4 := Lib.hid (show Whole w4 w3.heap.size 27 #[.int .i64 c, .int .i64 (a : Int), .int .i64 (b : Int)] by rw [← hw4]; exact heap_alloc_new w3 _)
                have HB4 := Lib.hid (show Below w1.heap.size w1 w4 by rw [← hw4]; exact HB3.out.alloc HB3.out.size _)
                have HE4 := Lib.hid (show Whole w4 w.heap.size 27 #[.int .i64 0, .int .i64 0, .int .i64 0] by rw [← hw4]; exact HE3.out.alloc _)
                have Hb4 := Lib.hid (show Below w3.heap.size w3 w4 by rw [← hw4]; exact (Below.refl _ w3).alloc (Nat.le_refl _) _)
                have HW4 := Lib.hid hw4
                clear hw4
                go_upto_region 14 with (fail)
                rw [HW4.out]
                obtain ⟨f0, f1, f2, -, -, -⟩ := HY4.out.three
                obtain ⟨c0, c1, c2, z0, z1, z2⟩ := HE4.out.three
                go_wp2_with fail
                go_region
                go_wp2_with fail
                refine bodyPost_ret (results_ttw Tryz.results9 _ rfl (set3_whole HE4.out.drew _ _ _) rfl) rfl ?_
                unfold ClassPost
                rw [← H3.out]
                exact ⟨set3_below (Below.drew (HB1.out.trans (HB4.out.mono HB1.out.size))) (Nat.le_refl _) _ _ _, rfl⟩
              | item l n =>
                obtain ⟨v, hc, ho⟩ := hc
                replace hc : e = .returned (.tuple #[v, .int .i64 (n : Int), .agg #[.int .i64 0, .int .i64 0, .int .i64 0]]) := hc
                subst hc
                have HOL := Lib.hid ho
                obtain ⟨A, cA, hvs, -⟩ := ho.rgs
                subst hvs
                clear ho
                obtain ⟨ho1, ho2, ho3⟩ := HOK.out
                have hll := right_len l 0 (by omega) ho3
                have HLL := Lib.hid (show l.length ≤ 1114112 by omega)
                clear hll ho3
                obtain ⟨w4, hw4⟩ : ∃ w4, w3.alloc (.cells #[.int .i64 0, .int .i64 0, .int .i64 0] 27) = w4 := ⟨_, rfl⟩
                have HY4 := Lib.hid (show Whole w4 w3.heap.size 27 #[.int .i64 0, .int .i64 0, .int .i64 0] by rw [← hw4]; exact heap_alloc_new w3 _)
                have HB4 := Lib.hid (show Below w1.heap.size w1 w4 by rw [← hw4]; exact HB3.out.alloc HB3.out.size _)
                have HE4 := Lib.hid (show Whole w4 w.heap.size 27 #[.int .i64 0, .int .i64 0, .int .i64 0] by rw [← hw4]; exact HE3.out.alloc _)
                have Hb4 := Lib.hid (show Below w3.heap.size w3 w4 by rw [← hw4]; exact (Below.refl _ w3).alloc (Nat.le_refl _) _)
                have HW4 := Lib.hid hw4
                clear hw4
                go_upto_region 14 with (fail)
                rw [HW4.out]
                obtain ⟨f0, f1, f2, -, -, -⟩ := HY4.out.three
                obtain ⟨c0, c1, c2, z0, z1, z2⟩ := HE4.out.three
                go_wp2_with (at_builtin; refine append_rgs rfl (.tmp 75) (.tmp 76) rfl w1.heap.size (.slice A0 all.length cA0) all rfl (HOW3.out.below Hb4.out) A l.length cA l rfl (HOL.out.rgs.below Hb4.out) ?b2 ?b3 ?_)
                case b2 => have := HLL.out; have := HAL.out; omega
                case b3 => exact HB4.out.size
                intro v5 w5 ho5 hg5
                have HB5 := Lib.hid (HB4.out.grown hg5 HB4.out.size (fun q hq => own_ge HOW.out q hq))
                have HO5 := Lib.hid ho5
                clear ho5 hg5
                go_wp2
                exact ⟨⟨n, m, false, all ++ l, rfl, ho2, rfl, HO5.out, by have := HLL.out; have := HAL.out; simp only [List.length_append]; omega, by have := HJM.out; omega, H3.out, HB5.out⟩, by simp only [intOf]; omega⟩
          · have b0 := eq_false_of h93
            have hit3 := (hit2.trans (if_neg (fun h => h93 (g0.symm.trans h.1)))).symm
            clear hit2 h93 g0
            have hTr := Utf8Tabs_below HT.out HBR.out
            have HIT := Lib.hid (ritem_any s j p wr hbig hlt hTr)
            have HOK := Lib.hid (itemS_ok s j p hlt)
            obtain ⟨Q, hQ⟩ : ∃ Q, itemS s j p = Q := ⟨_, rfl⟩
            rw [hQ] at hit3 HIT HOK
            have H3 := Lib.hid hit3
            clear hit3 hTr hQ
            go_wp2_with fail
            refine HIT.out.mono ?_
            rintro e w3 ⟨hb3, hc⟩
            have HB3 := Lib.hid (HBR.out.trans (hb3.mono HBR.out.size))
            have HE3 := Lib.hid (HE1.out.below HB3.out (by have := HS1.out; omega))
            have HS3 := Lib.hid (show wr.heap.size ≤ w3.heap.size from hb3.size)
            have HOW3 := Lib.hid (HOW.out.below hb3)
            clear hb3 HIT
            cases Q with
            | bad c a b =>
              replace hc : e = .returned (.tuple #[.slice none 0 0, .int .i64 0, .agg #[.int .i64 c, .int .i64 (a : Int), .int .i64 (b : Int)]]) := hc
              subst hc
              have b1 : (c != 0) = true := ne_true_of (by have : 0 < c := HOK.out; omega)
              obtain ⟨w4, hw4⟩ : ∃ w4, w3.alloc (.cells #[.int .i64 c, .int .i64 (a : Int), .int .i64 (b : Int)] 27) = w4 := ⟨_, rfl⟩
              have HY4 := Lib.hid (show Whole w4 w3.heap.size 27 #[.int .i64 c, .int .i64 (a : Int), .int .i64 (b : Int)] by rw [← hw4]; exact heap_alloc_new w3 _)
              have HB4 := Lib.hid (show Below w1.heap.size w1 w4 by rw [← hw4]; exact HB3.out.alloc HB3.out.size _)
              have HE4 := Lib.hid (show Whole w4 w.heap.size 27 #[.int .i64 0, .int .i64 0, .int .i64 0] by rw [← hw4]; exact HE3.out.alloc _)
              have Hb4 := Lib.hid (show Below w3.heap.size w3 w4 by rw [← hw4]; exact (Below.refl _ w3).alloc (Nat.le_refl _) _)
              have HW4 := Lib.hid hw4
              clear hw4
              go_upto_region 14 with (fail)
              rw [HW4.out]
              obtain ⟨f0, f1, f2, -, -, -⟩ := HY4.out.three
              obtain ⟨c0, c1, c2, z0, z1, z2⟩ := HE4.out.three
              go_wp2_with fail
              go_region
              go_wp2_with fail
              refine bodyPost_ret (results_ttw Tryz.results9 _ rfl (set3_whole HE4.out.drew _ _ _) rfl) rfl ?_
              unfold ClassPost
              rw [← H3.out]
              exact ⟨set3_below (Below.drew (HB1.out.trans (HB4.out.mono HB1.out.size))) (Nat.le_refl _) _ _ _, rfl⟩
            | item l n =>
              obtain ⟨v, hc, ho⟩ := hc
              replace hc : e = .returned (.tuple #[v, .int .i64 (n : Int), .agg #[.int .i64 0, .int .i64 0, .int .i64 0]]) := hc
              subst hc
              have HOL := Lib.hid ho
              obtain ⟨A, cA, hvs, -⟩ := ho.rgs
              subst hvs
              clear ho
              obtain ⟨ho1, ho2, ho3⟩ := HOK.out
              have hll := right_len l 0 (by omega) ho3
              have HLL := Lib.hid (show l.length ≤ 1114112 by omega)
              clear hll ho3
              obtain ⟨w4, hw4⟩ : ∃ w4, w3.alloc (.cells #[.int .i64 0, .int .i64 0, .int .i64 0] 27) = w4 := ⟨_, rfl⟩
              have HY4 := Lib.hid (show Whole w4 w3.heap.size 27 #[.int .i64 0, .int .i64 0, .int .i64 0] by rw [← hw4]; exact heap_alloc_new w3 _)
              have HB4 := Lib.hid (show Below w1.heap.size w1 w4 by rw [← hw4]; exact HB3.out.alloc HB3.out.size _)
              have HE4 := Lib.hid (show Whole w4 w.heap.size 27 #[.int .i64 0, .int .i64 0, .int .i64 0] by rw [← hw4]; exact HE3.out.alloc _)
              have Hb4 := Lib.hid (show Below w3.heap.size w3 w4 by rw [← hw4]; exact (Below.refl _ w3).alloc (Nat.le_refl _) _)
              have HW4 := Lib.hid hw4
              clear hw4
              go_upto_region 14 with (fail)
              rw [HW4.out]
              obtain ⟨f0, f1, f2, -, -, -⟩ := HY4.out.three
              obtain ⟨c0, c1, c2, z0, z1, z2⟩ := HE4.out.three
              go_wp2_with (at_builtin; refine append_rgs rfl (.tmp 75) (.tmp 76) rfl w1.heap.size (.slice A0 all.length cA0) all rfl (HOW3.out.below Hb4.out) A l.length cA l rfl (HOL.out.rgs.below Hb4.out) ?b2 ?b3 ?_)
              case b2 => have := HLL.out; have := HAL.out; omega
              case b3 => exact HB4.out.size
              intro v5 w5 ho5 hg5
              have HB5 := Lib.hid (HB4.out.grown hg5 HB4.out.size (fun q hq => own_ge HOW.out q hq))
              have HO5 := Lib.hid ho5
              clear ho5 hg5
              go_wp2
              exact ⟨⟨n, m, false, all ++ l, rfl, ho2, rfl, HO5.out, by have := HLL.out; have := HAL.out; simp only [List.length_append]; omega, by have := HJM.out; omega, H3.out, HB5.out⟩, by simp only [intOf]; omega⟩
    · have b8 := eq_false_of h94
      have hnb : notB s i = false := decide_eq_false (fun h => h94 (g1.symm.trans h))
      rw [hnb]
      have hO2 := hO1.symm
      rw [hnb, if_neg (by decide)] at hO2
      clear hO1 hnb h94 g1
      have HST := Lib.hid hO2
      clear hO2
      go_enter Tryz.func9, Tryz.ntmps9
      go_upto_region 1 with (fail)
      rw [HW1.out]
      go_wp2_with fail
      go_loopw [9, 11, 12] (fun vj va vf wr => ∃ (j m : Nat) (fi : Bool) (all : List (Int × Int)), vj = .int .i64 j ∧ j ≤ s.size ∧ vf = .bool fi ∧ OwnR wr w1.heap.size va all ∧ all.length ≤ 1114112 * j ∧ s.size < j + m ∧ itemsS s i p m j fi all = O ∧ Below w1.heap.size w1 wr) (fun vj _ _ _ => s.size - (intOf vj).toNat)
      case atStart => exact ⟨i + 1, s.size + 1, true, [], rfl, by omega, rfl, own_none _ _, Nat.zero_le _, by omega, HST.out, Below.refl _ _⟩
      case round =>
        obtain ⟨j, m, fi, all, rfl, hj, rfl, ho, hal, hjm, hit, hbr⟩ := hrel
        have HOW := Lib.hid ho; have HAL := Lib.hid hal; have HJM := Lib.hid hjm; have HBR := Lib.hid hbr
        clear ho hal hbr
        cases m with
        | zero => exact absurd hjm (by omega)
        | succ m =>
          clear hjm
          rw [itemsS] at hit
          by_cases hlt : j < s.size
          rotate_left
          · have HN := Lib.hid (hit.symm.trans (if_pos (by omega)))
            have HE9 := Lib.hid (HE1.out.below HBR.out (by have := HS1.out; omega))
            obtain ⟨c0, c1, c2, z0, z1, z2⟩ := HE9.out.three
            clear hit
            go_wp2_with fail
            refine bodyPost_ret (results_ttw Tryz.results9 _ rfl (set3_whole HE9.out _ _ _) rfl) rfl ?_
            unfold ClassPost
            rw [HN.out]
            exact ⟨set3_below (HB1.out.trans (HBR.out.mono HB1.out.size)) (Nat.le_refl _) _ _ _, rfl⟩
          have g0 := head_at s j hlt
          have hit2 := hit.symm.trans (if_neg (by omega))
          clear hit
          obtain ⟨A0, cA0, hvs0, -⟩ := HOW.out.rgs
          subst hvs0
          by_cases h93 : (s[j].toNat : Int) = 93
          · have b0 := eq_true_of h93
            cases fi with
            | false =>
              have hit3 := hit2.trans (if_pos ⟨g0.trans h93, rfl⟩)
              clear hit2 h93 g0
              have HN0 := Lib.hid (rnorm_any _ all wr HOW.out.rgs (by have := HAL.out; omega))
              have H3 := Lib.hid hit3
              clear hit3
              have HWR := Lib.hid (show w.heap.size + 1 ≤ wr.heap.size from Nat.le_trans (by have := HS1.out; omega) HBR.out.size)
              have hwj : IntKind.i64.wrap ((j : Int) + 1) = (j : Int) + 1 := wrap_in _ (by omega)
              go_wp2_with fail
              refine HN0.out.mono ?_
              rintro e w2 ⟨v2, k2, rfl, ho, hr, hh, hb⟩
              have HO2 := Lib.hid ho; have HR2 := Lib.hid hr; have HH2 := Lib.hid hh; have HB2 := Lib.hid (HBR.out.trans (hb.mono HBR.out.size)); have HZ2 := Lib.hid (show wr.heap.size ≤ w2.heap.size from hb.size)
              have hk2 := right_len k2 0 (by omega) hr
              have HK2 := Lib.hid (show k2.length ≤ 1099511627776 by omega)
              clear ho hr hh hb hk2 HN0
              cases fo
              · skip
                have HE9 := Lib.hid (HE1.out.below HB2.out (by have := HS1.out; omega))
                obtain ⟨c0, c1, c2, z0, z1, z2⟩ := HE9.out.three
                go_wp2_with fail
                refine bodyPost_ret (results_ttw Tryz.results9 _ rfl (set3_whole HE9.out _ _ _) rfl) rfl ?_
                unfold ClassPost
                rw [H3.out]
                refine ⟨set3_below (HB1.out.trans (HB2.out.mono HB1.out.size)) (Nat.le_refl _) _ _ _, v2, k2, rfl, own_set3 (HO2.out.mono (by have := HWR.out; omega)) (fun g hg => by have := own_ge HO2.out g hg; have := HWR.out; omega) _ _ _, HR2.out, fun c => ?_⟩
                rw [HH2.out c]
                unfold ClassHas FoldHas
                rw [if_neg (by decide), if_neg (by decide)]
              · go_wp2_with fail
                refine (rfold_any v2 k2 w2 HO2.out.rgs HK2.out).mono ?_
                rintro e w3 ⟨v3, k3, rfl, ho, hr, hh, hb⟩
                have HO3 := Lib.hid (ho.mono (B' := wr.heap.size) (by have := HZ2.out; omega)); have HR3 := Lib.hid hr; have HH3 := Lib.hid hh; have HB3 := Lib.hid (HB2.out.trans (hb.mono HB2.out.size)); have HZ3 := Lib.hid (show wr.heap.size ≤ w3.heap.size from Nat.le_trans HZ2.out hb.size)
                have hk3 := right_len k3 0 (by omega) hr
                have HK3 := Lib.hid (show k3.length ≤ 1099511627776 by omega)
                clear ho hr hh hb hk3
                have HE9 := Lib.hid (HE1.out.below HB3.out (by have := HS1.out; omega))
                obtain ⟨c0, c1, c2, z0, z1, z2⟩ := HE9.out.three
                go_wp2_with fail
                refine bodyPost_ret (results_ttw Tryz.results9 _ rfl (set3_whole HE9.out _ _ _) rfl) rfl ?_
                unfold ClassPost
                rw [H3.out]
                refine ⟨set3_below (HB1.out.trans (HB3.out.mono HB1.out.size)) (Nat.le_refl _) _ _ _, v3, k3, rfl, own_set3 (HO3.out.mono (by have := HWR.out; omega)) (fun g hg => by have := own_ge HO3.out g hg; have := HWR.out; have := HZ2.out; omega) _ _ _, HR3.out, fun c => ?_⟩
                rw [HH3.out c, fold_same HH2.out c]
                unfold ClassHas FoldHas
                rw [if_neg (by decide), if_pos rfl]
                rfl
            | true =>
              have hit3 := (hit2.trans (if_neg (fun h => by cases h.2))).symm
              clear hit2 h93 g0
              have hTr := Utf8Tabs_below HT.out HBR.out
              have HIT := Lib.hid (ritem_any s j p wr hbig hlt hTr)
              have HOK := Lib.hid (itemS_ok s j p hlt)
              obtain ⟨Q, hQ⟩ : ∃ Q, itemS s j p = Q := ⟨_, rfl⟩
              rw [hQ] at hit3 HIT HOK
              have H3 := Lib.hid hit3
              clear hit3 hTr hQ
              go_wp2_with fail
              refine HIT.out.mono ?_
              rintro e w3 ⟨hb3, hc⟩
              have HB3 := Lib.hid (HBR.out.trans (hb3.mono HBR.out.size))
              have HE3 := Lib.hid (HE1.out.below HB3.out (by have := HS1.out; omega))
              have HS3 := Lib.hid (show wr.heap.size ≤ w3.heap.size from hb3.size)
              have HOW3 := Lib.hid (HOW.out.below hb3)
              clear hb3 HIT
              cases Q with
              | bad c a b =>
                replace hc : e = .returned (.tuple #[.slice none 0 0, .int .i64 0, .agg #[.int .i64 c, .int .i64 (a : Int), .int .i64 (b : Int)]]) := hc
                subst hc
                have b1 : (c != 0) = true := ne_true_of (by have : 0 < c := HOK.out; omega)
                obtain ⟨w4, hw4⟩ : ∃ w4, w3.alloc (.cells #[.int .i64 c, .int .i64 (a : Int), .int .i64 (b : Int)] 27) = w4 := ⟨_, rfl⟩
                have HY4 := Lib.hid (show Whole w4 w3.heap.size 27 #[.int .i64 c, .int .i64 (a : Int), .int .i64 (b : Int)] by rw [← hw4]; exact heap_alloc_new w3 _)
                have HB4 := Lib.hid (show Below w1.heap.size w1 w4 by rw [← hw4]; exact HB3.out.alloc HB3.out.size _)
                have HE4 := Lib.hid (show Whole w4 w.heap.size 27 #[.int .i64 0, .int .i64 0, .int .i64 0] by rw [← hw4]; exact HE3.out.alloc _)
                have Hb4 := Lib.hid (show Below w3.heap.size w3 w4 by rw [← hw4]; exact (Below.refl _ w3).alloc (Nat.le_refl _) _)
                have HW4 := Lib.hid hw4
                clear hw4
                go_upto_region 14 with (fail)
                rw [HW4.out]
                obtain ⟨f0, f1, f2, -, -, -⟩ := HY4.out.three
                obtain ⟨c0, c1, c2, z0, z1, z2⟩ := HE4.out.three
                go_wp2_with fail
                go_region
                go_wp2_with fail
                refine bodyPost_ret (results_ttw Tryz.results9 _ rfl (set3_whole HE4.out.drew _ _ _) rfl) rfl ?_
                unfold ClassPost
                rw [← H3.out]
                exact ⟨set3_below (Below.drew (HB1.out.trans (HB4.out.mono HB1.out.size))) (Nat.le_refl _) _ _ _, rfl⟩
              | item l n =>
                obtain ⟨v, hc, ho⟩ := hc
                replace hc : e = .returned (.tuple #[v, .int .i64 (n : Int), .agg #[.int .i64 0, .int .i64 0, .int .i64 0]]) := hc
                subst hc
                have HOL := Lib.hid ho
                obtain ⟨A, cA, hvs, -⟩ := ho.rgs
                subst hvs
                clear ho
                obtain ⟨ho1, ho2, ho3⟩ := HOK.out
                have hll := right_len l 0 (by omega) ho3
                have HLL := Lib.hid (show l.length ≤ 1114112 by omega)
                clear hll ho3
                obtain ⟨w4, hw4⟩ : ∃ w4, w3.alloc (.cells #[.int .i64 0, .int .i64 0, .int .i64 0] 27) = w4 := ⟨_, rfl⟩
                have HY4 := Lib.hid (show Whole w4 w3.heap.size 27 #[.int .i64 0, .int .i64 0, .int .i64 0] by rw [← hw4]; exact heap_alloc_new w3 _)
                have HB4 := Lib.hid (show Below w1.heap.size w1 w4 by rw [← hw4]; exact HB3.out.alloc HB3.out.size _)
                have HE4 := Lib.hid (show Whole w4 w.heap.size 27 #[.int .i64 0, .int .i64 0, .int .i64 0] by rw [← hw4]; exact HE3.out.alloc _)
                have Hb4 := Lib.hid (show Below w3.heap.size w3 w4 by rw [← hw4]; exact (Below.refl _ w3).alloc (Nat.le_refl _) _)
                have HW4 := Lib.hid hw4
                clear hw4
                go_upto_region 14 with (fail)
                rw [HW4.out]
                obtain ⟨f0, f1, f2, -, -, -⟩ := HY4.out.three
                obtain ⟨c0, c1, c2, z0, z1, z2⟩ := HE4.out.three
                go_wp2_with (at_builtin; refine append_rgs rfl (.tmp 75) (.tmp 76) rfl w1.heap.size (.slice A0 all.length cA0) all rfl (HOW3.out.below Hb4.out) A l.length cA l rfl (HOL.out.rgs.below Hb4.out) ?b2 ?b3 ?_)
                case b2 => have := HLL.out; have := HAL.out; omega
                case b3 => exact HB4.out.size
                intro v5 w5 ho5 hg5
                have HB5 := Lib.hid (HB4.out.grown hg5 HB4.out.size (fun q hq => own_ge HOW.out q hq))
                have HO5 := Lib.hid ho5
                clear ho5 hg5
                go_wp2
                exact ⟨⟨n, m, false, all ++ l, rfl, ho2, rfl, HO5.out, by have := HLL.out; have := HAL.out; simp only [List.length_append]; omega, by have := HJM.out; omega, H3.out, HB5.out⟩, by simp only [intOf]; omega⟩
          · have b0 := eq_false_of h93
            have hit3 := (hit2.trans (if_neg (fun h => h93 (g0.symm.trans h.1)))).symm
            clear hit2 h93 g0
            have hTr := Utf8Tabs_below HT.out HBR.out
            have HIT := Lib.hid (ritem_any s j p wr hbig hlt hTr)
            have HOK := Lib.hid (itemS_ok s j p hlt)
            obtain ⟨Q, hQ⟩ : ∃ Q, itemS s j p = Q := ⟨_, rfl⟩
            rw [hQ] at hit3 HIT HOK
            have H3 := Lib.hid hit3
            clear hit3 hTr hQ
            go_wp2_with fail
            refine HIT.out.mono ?_
            rintro e w3 ⟨hb3, hc⟩
            have HB3 := Lib.hid (HBR.out.trans (hb3.mono HBR.out.size))
            have HE3 := Lib.hid (HE1.out.below HB3.out (by have := HS1.out; omega))
            have HS3 := Lib.hid (show wr.heap.size ≤ w3.heap.size from hb3.size)
            have HOW3 := Lib.hid (HOW.out.below hb3)
            clear hb3 HIT
            cases Q with
            | bad c a b =>
              replace hc : e = .returned (.tuple #[.slice none 0 0, .int .i64 0, .agg #[.int .i64 c, .int .i64 (a : Int), .int .i64 (b : Int)]]) := hc
              subst hc
              have b1 : (c != 0) = true := ne_true_of (by have : 0 < c := HOK.out; omega)
              obtain ⟨w4, hw4⟩ : ∃ w4, w3.alloc (.cells #[.int .i64 c, .int .i64 (a : Int), .int .i64 (b : Int)] 27) = w4 := ⟨_, rfl⟩
              have HY4 := Lib.hid (show Whole w4 w3.heap.size 27 #[.int .i64 c, .int .i64 (a : Int), .int .i64 (b : Int)] by rw [← hw4]; exact heap_alloc_new w3 _)
              have HB4 := Lib.hid (show Below w1.heap.size w1 w4 by rw [← hw4]; exact HB3.out.alloc HB3.out.size _)
              have HE4 := Lib.hid (show Whole w4 w.heap.size 27 #[.int .i64 0, .int .i64 0, .int .i64 0] by rw [← hw4]; exact HE3.out.alloc _)
              have Hb4 := Lib.hid (show Below w3.heap.size w3 w4 by rw [← hw4]; exact (Below.refl _ w3).alloc (Nat.le_refl _) _)
              have HW4 := Lib.hid hw4
              clear hw4
              go_upto_region 14 with (fail)
              rw [HW4.out]
              obtain ⟨f0, f1, f2, -, -, -⟩ := HY4.out.three
              obtain ⟨c0, c1, c2, z0, z1, z2⟩ := HE4.out.three
              go_wp2_with fail
              go_region
              go_wp2_with fail
              refine bodyPost_ret (results_ttw Tryz.results9 _ rfl (set3_whole HE4.out.drew _ _ _) rfl) rfl ?_
              unfold ClassPost
              rw [← H3.out]
              exact ⟨set3_below (Below.drew (HB1.out.trans (HB4.out.mono HB1.out.size))) (Nat.le_refl _) _ _ _, rfl⟩
            | item l n =>
              obtain ⟨v, hc, ho⟩ := hc
              replace hc : e = .returned (.tuple #[v, .int .i64 (n : Int), .agg #[.int .i64 0, .int .i64 0, .int .i64 0]]) := hc
              subst hc
              have HOL := Lib.hid ho
              obtain ⟨A, cA, hvs, -⟩ := ho.rgs
              subst hvs
              clear ho
              obtain ⟨ho1, ho2, ho3⟩ := HOK.out
              have hll := right_len l 0 (by omega) ho3
              have HLL := Lib.hid (show l.length ≤ 1114112 by omega)
              clear hll ho3
              obtain ⟨w4, hw4⟩ : ∃ w4, w3.alloc (.cells #[.int .i64 0, .int .i64 0, .int .i64 0] 27) = w4 := ⟨_, rfl⟩
              have HY4 := Lib.hid (show Whole w4 w3.heap.size 27 #[.int .i64 0, .int .i64 0, .int .i64 0] by rw [← hw4]; exact heap_alloc_new w3 _)
              have HB4 := Lib.hid (show Below w1.heap.size w1 w4 by rw [← hw4]; exact HB3.out.alloc HB3.out.size _)
              have HE4 := Lib.hid (show Whole w4 w.heap.size 27 #[.int .i64 0, .int .i64 0, .int .i64 0] by rw [← hw4]; exact HE3.out.alloc _)
              have Hb4 := Lib.hid (show Below w3.heap.size w3 w4 by rw [← hw4]; exact (Below.refl _ w3).alloc (Nat.le_refl _) _)
              have HW4 := Lib.hid hw4
              clear hw4
              go_upto_region 14 with (fail)
              rw [HW4.out]
              obtain ⟨f0, f1, f2, -, -, -⟩ := HY4.out.three
              obtain ⟨c0, c1, c2, z0, z1, z2⟩ := HE4.out.three
              go_wp2_with (at_builtin; refine append_rgs rfl (.tmp 75) (.tmp 76) rfl w1.heap.size (.slice A0 all.length cA0) all rfl (HOW3.out.below Hb4.out) A l.length cA l rfl (HOL.out.rgs.below Hb4.out) ?b2 ?b3 ?_)
              case b2 => have := HLL.out; have := HAL.out; omega
              case b3 => exact HB4.out.size
              intro v5 w5 ho5 hg5
              have HB5 := Lib.hid (HB4.out.grown hg5 HB4.out.size (fun q hq => own_ge HOW.out q hq))
              have HO5 := Lib.hid ho5
              clear ho5 hg5
              go_wp2
              exact ⟨⟨n, m, false, all ++ l, rfl, ho2, rfl, HO5.out, by have := HLL.out; have := HAL.out; simp only [List.length_append]; omega, by have := HJM.out; omega, H3.out, HB5.out⟩, by simp only [intOf]; omega⟩
  · have x2 : ¬ (i : Int) + 1 < (s.size : Int) := by omega
    have hnb : notB s i = false := decide_eq_false (fun h => h1 (head_in (by omega)))
    rw [hnb]
    have hO2 := hO1.symm
    rw [hnb, if_neg (by decide)] at hO2
    clear hO1 hnb
    have HST := Lib.hid hO2
    clear hO2
    go_enter Tryz.func9, Tryz.ntmps9
    go_upto_region 1 with (fail)
    rw [HW1.out]
    go_wp2_with fail
    go_loopw [9, 11, 12] (fun vj va vf wr => ∃ (j m : Nat) (fi : Bool) (all : List (Int × Int)), vj = .int .i64 j ∧ j ≤ s.size ∧ vf = .bool fi ∧ OwnR wr w1.heap.size va all ∧ all.length ≤ 1114112 * j ∧ s.size < j + m ∧ itemsS s i p m j fi all = O ∧ Below w1.heap.size w1 wr) (fun vj _ _ _ => s.size - (intOf vj).toNat)
    case atStart => exact ⟨i + 1, s.size + 1, true, [], rfl, by omega, rfl, own_none _ _, Nat.zero_le _, by omega, HST.out, Below.refl _ _⟩
    case round =>
      obtain ⟨j, m, fi, all, rfl, hj, rfl, ho, hal, hjm, hit, hbr⟩ := hrel
      have HOW := Lib.hid ho; have HAL := Lib.hid hal; have HJM := Lib.hid hjm; have HBR := Lib.hid hbr
      clear ho hal hbr
      cases m with
      | zero => exact absurd hjm (by omega)
      | succ m =>
        clear hjm
        rw [itemsS] at hit
        by_cases hlt : j < s.size
        rotate_left
        · have HN := Lib.hid (hit.symm.trans (if_pos (by omega)))
          have HE9 := Lib.hid (HE1.out.below HBR.out (by have := HS1.out; omega))
          obtain ⟨c0, c1, c2, z0, z1, z2⟩ := HE9.out.three
          clear hit
          go_wp2_with fail
          refine bodyPost_ret (results_ttw Tryz.results9 _ rfl (set3_whole HE9.out _ _ _) rfl) rfl ?_
          unfold ClassPost
          rw [HN.out]
          exact ⟨set3_below (HB1.out.trans (HBR.out.mono HB1.out.size)) (Nat.le_refl _) _ _ _, rfl⟩
        have g0 := head_at s j hlt
        have hit2 := hit.symm.trans (if_neg (by omega))
        clear hit
        obtain ⟨A0, cA0, hvs0, -⟩ := HOW.out.rgs
        subst hvs0
        by_cases h93 : (s[j].toNat : Int) = 93
        · have b0 := eq_true_of h93
          cases fi with
          | false =>
            have hit3 := hit2.trans (if_pos ⟨g0.trans h93, rfl⟩)
            clear hit2 h93 g0
            have HN0 := Lib.hid (rnorm_any _ all wr HOW.out.rgs (by have := HAL.out; omega))
            have H3 := Lib.hid hit3
            clear hit3
            have HWR := Lib.hid (show w.heap.size + 1 ≤ wr.heap.size from Nat.le_trans (by have := HS1.out; omega) HBR.out.size)
            have hwj : IntKind.i64.wrap ((j : Int) + 1) = (j : Int) + 1 := wrap_in _ (by omega)
            go_wp2_with fail
            refine HN0.out.mono ?_
            rintro e w2 ⟨v2, k2, rfl, ho, hr, hh, hb⟩
            have HO2 := Lib.hid ho; have HR2 := Lib.hid hr; have HH2 := Lib.hid hh; have HB2 := Lib.hid (HBR.out.trans (hb.mono HBR.out.size)); have HZ2 := Lib.hid (show wr.heap.size ≤ w2.heap.size from hb.size)
            have hk2 := right_len k2 0 (by omega) hr
            have HK2 := Lib.hid (show k2.length ≤ 1099511627776 by omega)
            clear ho hr hh hb hk2 HN0
            cases fo
            · skip
              have HE9 := Lib.hid (HE1.out.below HB2.out (by have := HS1.out; omega))
              obtain ⟨c0, c1, c2, z0, z1, z2⟩ := HE9.out.three
              go_wp2_with fail
              refine bodyPost_ret (results_ttw Tryz.results9 _ rfl (set3_whole HE9.out _ _ _) rfl) rfl ?_
              unfold ClassPost
              rw [H3.out]
              refine ⟨set3_below (HB1.out.trans (HB2.out.mono HB1.out.size)) (Nat.le_refl _) _ _ _, v2, k2, rfl, own_set3 (HO2.out.mono (by have := HWR.out; omega)) (fun g hg => by have := own_ge HO2.out g hg; have := HWR.out; omega) _ _ _, HR2.out, fun c => ?_⟩
              rw [HH2.out c]
              unfold ClassHas FoldHas
              rw [if_neg (by decide), if_neg (by decide)]
            · go_wp2_with fail
              refine (rfold_any v2 k2 w2 HO2.out.rgs HK2.out).mono ?_
              rintro e w3 ⟨v3, k3, rfl, ho, hr, hh, hb⟩
              have HO3 := Lib.hid (ho.mono (B' := wr.heap.size) (by have := HZ2.out; omega)); have HR3 := Lib.hid hr; have HH3 := Lib.hid hh; have HB3 := Lib.hid (HB2.out.trans (hb.mono HB2.out.size)); have HZ3 := Lib.hid (show wr.heap.size ≤ w3.heap.size from Nat.le_trans HZ2.out hb.size)
              have hk3 := right_len k3 0 (by omega) hr
              have HK3 := Lib.hid (show k3.length ≤ 1099511627776 by omega)
              clear ho hr hh hb hk3
              have HE9 := Lib.hid (HE1.out.below HB3.out (by have := HS1.out; omega))
              obtain ⟨c0, c1, c2, z0, z1, z2⟩ := HE9.out.three
              go_wp2_with fail
              refine bodyPost_ret (results_ttw Tryz.results9 _ rfl (set3_whole HE9.out _ _ _) rfl) rfl ?_
              unfold ClassPost
              rw [H3.out]
              refine ⟨set3_below (HB1.out.trans (HB3.out.mono HB1.out.size)) (Nat.le_refl _) _ _ _, v3, k3, rfl, own_set3 (HO3.out.mono (by have := HWR.out; omega)) (fun g hg => by have := own_ge HO3.out g hg; have := HWR.out; have := HZ2.out; omega) _ _ _, HR3.out, fun c => ?_⟩
              rw [HH3.out c, fold_same HH2.out c]
              unfold ClassHas FoldHas
              rw [if_neg (by decide), if_pos rfl]
              rfl
          | true =>
            have hit3 := (hit2.trans (if_neg (fun h => by cases h.2))).symm
            clear hit2 h93 g0
            have hTr := Utf8Tabs_below HT.out HBR.out
            have HIT := Lib.hid (ritem_any s j p wr hbig hlt hTr)
            have HOK := Lib.hid (itemS_ok s j p hlt)
            obtain ⟨Q, hQ⟩ : ∃ Q, itemS s j p = Q := ⟨_, rfl⟩
            rw [hQ] at hit3 HIT HOK
            have H3 := Lib.hid hit3
            clear hit3 hTr hQ
            go_wp2_with fail
            refine HIT.out.mono ?_
            rintro e w3 ⟨hb3, hc⟩
            have HB3 := Lib.hid (HBR.out.trans (hb3.mono HBR.out.size))
            have HE3 := Lib.hid (HE1.out.below HB3.out (by have := HS1.out; omega))
            have HS3 := Lib.hid (show wr.heap.size ≤ w3.heap.size from hb3.size)
            have HOW3 := Lib.hid (HOW.out.below hb3)
            clear hb3 HIT
            cases Q with
            | bad c a b =>
              replace hc : e = .returned (.tuple #[.slice none 0 0, .int .i64 0, .agg #[.int .i64 c, .int .i64 (a : Int), .int .i64 (b : Int)]]) := hc
              subst hc
              have b1 : (c != 0) = true := ne_true_of (by have : 0 < c := HOK.out; omega)
              obtain ⟨w4, hw4⟩ : ∃ w4, w3.alloc (.cells #[.int .i64 c, .int .i64 (a : Int), .int .i64 (b : Int)] 27) = w4 := ⟨_, rfl⟩
              have HY4 := Lib.hid (show Whole w4 w3.heap.size 27 #[.int .i64 c, .int .i64 (a : Int), .int .i64 (b : Int)] by rw [← hw4]; exact heap_alloc_new w3 _)
              have HB4 := Lib.hid (show Below w1.heap.size w1 w4 by rw [← hw4]; exact HB3.out.alloc HB3.out.size _)
              have HE4 := Lib.hid (show Whole w4 w.heap.size 27 #[.int .i64 0, .int .i64 0, .int .i64 0] by rw [← hw4]; exact HE3.out.alloc _)
              have Hb4 := Lib.hid (show Below w3.heap.size w3 w4 by rw [← hw4]; exact (Below.refl _ w3).alloc (Nat.le_refl _) _)
              have HW4 := Lib.hid hw4
              clear hw4
              go_upto_region 14 with (fail)
              rw [HW4.out]
              obtain ⟨f0, f1, f2, -, -, -⟩ := HY4.out.three
              obtain ⟨c0, c1, c2, z0, z1, z2⟩ := HE4.out.three
              go_wp2_with fail
              go_region
              go_wp2_with fail
              refine bodyPost_ret (results_ttw Tryz.results9 _ rfl (set3_whole HE4.out.drew _ _ _) rfl) rfl ?_
              unfold ClassPost
              rw [← H3.out]
              exact ⟨set3_below (Below.drew (HB1.out.trans (HB4.out.mono HB1.out.size))) (Nat.le_refl _) _ _ _, rfl⟩
            | item l n =>
              obtain ⟨v, hc, ho⟩ := hc
              replace hc : e = .returned (.tuple #[v, .int .i64 (n : Int), .agg #[.int .i64 0, .int .i64 0, .int .i64 0]]) := hc
              subst hc
              have HOL := Lib.hid ho
              obtain ⟨A, cA, hvs, -⟩ := ho.rgs
              subst hvs
              clear ho
              obtain ⟨ho1, ho2, ho3⟩ := HOK.out
              have hll := right_len l 0 (by omega) ho3
              have HLL := Lib.hid (show l.length ≤ 1114112 by omega)
              clear hll ho3
              obtain ⟨w4, hw4⟩ : ∃ w4, w3.alloc (.cells #[.int .i64 0, .int .i64 0, .int .i64 0] 27) = w4 := ⟨_, rfl⟩
              have HY4 := Lib.hid (show Whole w4 w3.heap.size 27 #[.int .i64 0, .int .i64 0, .int .i64 0] by rw [← hw4]; exact heap_alloc_new w3 _)
              have HB4 := Lib.hid (show Below w1.heap.size w1 w4 by rw [← hw4]; exact HB3.out.alloc HB3.out.size _)
              have HE4 := Lib.hid (show Whole w4 w.heap.size 27 #[.int .i64 0, .int .i64 0, .int .i64 0] by rw [← hw4]; exact HE3.out.alloc _)
              have Hb4 := Lib.hid (show Below w3.heap.size w3 w4 by rw [← hw4]; exact (Below.refl _ w3).alloc (Nat.le_refl _) _)
              have HW4 := Lib.hid hw4
              clear hw4
              go_upto_region 14 with (fail)
              rw [HW4.out]
              obtain ⟨f0, f1, f2, -, -, -⟩ := HY4.out.three
              obtain ⟨c0, c1, c2, z0, z1, z2⟩ := HE4.out.three
              go_wp2_with (at_builtin; refine append_rgs rfl (.tmp 75) (.tmp 76) rfl w1.heap.size (.slice A0 all.length cA0) all rfl (HOW3.out.below Hb4.out) A l.length cA l rfl (HOL.out.rgs.below Hb4.out) ?b2 ?b3 ?_)
              case b2 => have := HLL.out; have := HAL.out; omega
              case b3 => exact HB4.out.size
              intro v5 w5 ho5 hg5
              have HB5 := Lib.hid (HB4.out.grown hg5 HB4.out.size (fun q hq => own_ge HOW.out q hq))
              have HO5 := Lib.hid ho5
              clear ho5 hg5
              go_wp2
              exact ⟨⟨n, m, false, all ++ l, rfl, ho2, rfl, HO5.out, by have := HLL.out; have := HAL.out; simp only [List.length_append]; omega, by have := HJM.out; omega, H3.out, HB5.out⟩, by simp only [intOf]; omega⟩
        · have b0 := eq_false_of h93
          have hit3 := (hit2.trans (if_neg (fun h => h93 (g0.symm.trans h.1)))).symm
          clear hit2 h93 g0
          have hTr := Utf8Tabs_below HT.out HBR.out
          have HIT := Lib.hid (ritem_any s j p wr hbig hlt hTr)
          have HOK := Lib.hid (itemS_ok s j p hlt)
          obtain ⟨Q, hQ⟩ : ∃ Q, itemS s j p = Q := ⟨_, rfl⟩
          rw [hQ] at hit3 HIT HOK
          have H3 := Lib.hid hit3
          clear hit3 hTr hQ
          go_wp2_with fail
          refine HIT.out.mono ?_
          rintro e w3 ⟨hb3, hc⟩
          have HB3 := Lib.hid (HBR.out.trans (hb3.mono HBR.out.size))
          have HE3 := Lib.hid (HE1.out.below HB3.out (by have := HS1.out; omega))
          have HS3 := Lib.hid (show wr.heap.size ≤ w3.heap.size from hb3.size)
          have HOW3 := Lib.hid (HOW.out.below hb3)
          clear hb3 HIT
          cases Q with
          | bad c a b =>
            replace hc : e = .returned (.tuple #[.slice none 0 0, .int .i64 0, .agg #[.int .i64 c, .int .i64 (a : Int), .int .i64 (b : Int)]]) := hc
            subst hc
            have b1 : (c != 0) = true := ne_true_of (by have : 0 < c := HOK.out; omega)
            obtain ⟨w4, hw4⟩ : ∃ w4, w3.alloc (.cells #[.int .i64 c, .int .i64 (a : Int), .int .i64 (b : Int)] 27) = w4 := ⟨_, rfl⟩
            have HY4 := Lib.hid (show Whole w4 w3.heap.size 27 #[.int .i64 c, .int .i64 (a : Int), .int .i64 (b : Int)] by rw [← hw4]; exact heap_alloc_new w3 _)
            have HB4 := Lib.hid (show Below w1.heap.size w1 w4 by rw [← hw4]; exact HB3.out.alloc HB3.out.size _)
            have HE4 := Lib.hid (show Whole w4 w.heap.size 27 #[.int .i64 0, .int .i64 0, .int .i64 0] by rw [← hw4]; exact HE3.out.alloc _)
            have Hb4 := Lib.hid (show Below w3.heap.size w3 w4 by rw [← hw4]; exact (Below.refl _ w3).alloc (Nat.le_refl _) _)
            have HW4 := Lib.hid hw4
            clear hw4
            go_upto_region 14 with (fail)
            rw [HW4.out]
            obtain ⟨f0, f1, f2, -, -, -⟩ := HY4.out.three
            obtain ⟨c0, c1, c2, z0, z1, z2⟩ := HE4.out.three
            go_wp2_with fail
            go_region
            go_wp2_with fail
            refine bodyPost_ret (results_ttw Tryz.results9 _ rfl (set3_whole HE4.out.drew _ _ _) rfl) rfl ?_
            unfold ClassPost
            rw [← H3.out]
            exact ⟨set3_below (Below.drew (HB1.out.trans (HB4.out.mono HB1.out.size))) (Nat.le_refl _) _ _ _, rfl⟩
          | item l n =>
            obtain ⟨v, hc, ho⟩ := hc
            replace hc : e = .returned (.tuple #[v, .int .i64 (n : Int), .agg #[.int .i64 0, .int .i64 0, .int .i64 0]]) := hc
            subst hc
            have HOL := Lib.hid ho
            obtain ⟨A, cA, hvs, -⟩ := ho.rgs
            subst hvs
            clear ho
            obtain ⟨ho1, ho2, ho3⟩ := HOK.out
            have hll := right_len l 0 (by omega) ho3
            have HLL := Lib.hid (show l.length ≤ 1114112 by omega)
            clear hll ho3
            obtain ⟨w4, hw4⟩ : ∃ w4, w3.alloc (.cells #[.int .i64 0, .int .i64 0, .int .i64 0] 27) = w4 := ⟨_, rfl⟩
            have HY4 := Lib.hid (show Whole w4 w3.heap.size 27 #[.int .i64 0, .int .i64 0, .int .i64 0] by rw [← hw4]; exact heap_alloc_new w3 _)
            have HB4 := Lib.hid (show Below w1.heap.size w1 w4 by rw [← hw4]; exact HB3.out.alloc HB3.out.size _)
            have HE4 := Lib.hid (show Whole w4 w.heap.size 27 #[.int .i64 0, .int .i64 0, .int .i64 0] by rw [← hw4]; exact HE3.out.alloc _)
            have Hb4 := Lib.hid (show Below w3.heap.size w3 w4 by rw [← hw4]; exact (Below.refl _ w3).alloc (Nat.le_refl _) _)
            have HW4 := Lib.hid hw4
            clear hw4
            go_upto_region 14 with (fail)
            rw [HW4.out]
            obtain ⟨f0, f1, f2, -, -, -⟩ := HY4.out.three
            obtain ⟨c0, c1, c2, z0, z1, z2⟩ := HE4.out.three
            go_wp2_with (at_builtin; refine append_rgs rfl (.tmp 75) (.tmp 76) rfl w1.heap.size (.slice A0 all.length cA0) all rfl (HOW3.out.below Hb4.out) A l.length cA l rfl (HOL.out.rgs.below Hb4.out) ?b2 ?b3 ?_)
            case b2 => have := HLL.out; have := HAL.out; omega
            case b3 => exact HB4.out.size
            intro v5 w5 ho5 hg5
            have HB5 := Lib.hid (HB4.out.grown hg5 HB4.out.size (fun q hq => own_ge HOW.out q hq))
            have HO5 := Lib.hid ho5
            clear ho5 hg5
            go_wp2
            exact ⟨⟨n, m, false, all ++ l, rfl, ho2, rfl, HO5.out, by have := HLL.out; have := HAL.out; simp only [List.length_append]; omega, by have := HJM.out; omega, H3.out, HB5.out⟩, by simp only [intOf]; omega⟩
end Go.Proofs.YtmaigjdmjmonbaaGreatDoor
/- A class reads alike wherever it stands: what is told from a place on hangs on what is left there alone. Plain side. -/
namespace Go.Proofs.YtmaigjdmjmonbaaGreatDoor
open Go Go.RowKit

/-- From i0 on, s stands in t, d places later. -/
structure Shift (s t : ByteArray) (d i0 : Nat) : Prop where
  left : ∀ i, i0 ≤ i → leftB t (i + d) = leftB s i
  size : t.size = s.size + d
variable {s t : ByteArray} {d i0 : Nat}
theorem Shift.at1 (h : Shift s t d i0) (i : Nat) (hi : i0 ≤ i) : leftB t (i + d + 1) = leftB s (i + 1) := by
  rw [show i + d + 1 = i + 1 + d by omega]
  exact h.left _ (by omega)
theorem Shift.plus (h : Shift s t d i0) (i k : Nat) (hi : i0 ≤ i) : leftB t (i + d + k) = leftB s (i + k) := by
  rw [show i + d + k = i + k + d by omega]
  exact h.left _ (by omega)
theorem Shift.plus2 (h : Shift s t d i0) (i k j : Nat) (hi : i0 ≤ i) : leftB t (i + d + k + j) = leftB s (i + k + j) := by
  rw [show i + d + k + j = i + k + j + d by omega]
  exact h.left _ (by omega)
theorem bytes_same {a b : ByteArray} (h : a.toList = b.toList) : a = b := by
  rw [Lib.toList_data, Lib.toList_data] at h
  obtain ⟨⟨a⟩⟩ := a
  obtain ⟨⟨b⟩⟩ := b
  simp only at h
  rw [h]
theorem Shift.decode (h : Shift s t d i0) (i : Nat) (hi : i0 ≤ i) (hs : i < s.size) : Utf8.decode t (i + d) = Utf8.decode s i := by
  rw [← decodeGo_extract t (i + d) (by rw [h.size]; omega), ← decodeGo_extract s i hs]
  congr 1
  refine bytes_same ?_
  rw [extract_left6, extract_left6, h.left i hi, h.size, show s.size + d - (i + d) = s.size - i by omega]
theorem colN_shift (h : Shift s t d i0) (i : Nat) (hi : i0 ≤ i) : colS t (i + d) = (colS s i).map (· + d) := by
  unfold colS
  rw [h.left i hi, h.at1 i hi, h.plus i 2 hi, h.plus2 i 2 _ hi, show i + d + 2 + colN (leftB s (i + 2)) + 1 = i + d + 2 + (colN (leftB s (i + 2)) + 1) by omega, h.plus2 i 2 _ hi]
  rw [show i + 2 + (colN (leftB s (i + 2)) + 1) = i + 2 + colN (leftB s (i + 2)) + 1 by omega]
  split
  · rfl
  split
  · simp only [Option.map_some]
    congr 1
    omega
  · rfl
theorem number_shift (h : Shift s t d i0) (i : Nat) (hi : i0 ≤ i) : numberS t (i + d) = (numberS s i).map (fun q => (q.1, q.2 + d)) := by
  unfold numberS
  rw [h.left i hi, h.at1 i hi]
  rw [show i + d + 1 + (hexsFrom (leftB s (i + 1)) 0).2 = i + d + (1 + (hexsFrom (leftB s (i + 1)) 0).2) by omega, h.plus i _ hi]
  rw [show i + (1 + (hexsFrom (leftB s (i + 1)) 0).2) = i + 1 + (hexsFrom (leftB s (i + 1)) 0).2 by omega]
  split
  · simp only [Option.map_some]
    congr 2
    omega
  split
  · rfl
  split
  · rfl
  split
  · rfl
  split
  · rfl
  · simp only [Option.map_some]
    congr 2
    omega
theorem prop_shift (h : Shift s t d i0) (i : Nat) (hi : i0 ≤ i) : propS t (i + d) = (propS s i).map (fun q => (q.1, q.2 + d)) := by
  unfold propS
  by_cases hs : i < s.size
  · rw [if_neg (show ¬ t.size ≤ i + d by rw [h.size]; omega), if_neg (show ¬ s.size ≤ i by omega), h.left i hi, h.at1 i hi, h.decode i hi hs, h.size]
    split
    · simp only [Option.map_some]
      congr 2
      omega
    · by_cases hq : i + 1 + brN (leftB s (i + 1)) < s.size
      · rw [if_pos (show i + d + 1 + brN (leftB s (i + 1)) < s.size + d by omega), if_pos hq]
        simp only [Option.map_some]
        congr 2
        omega
      · rw [if_neg (show ¬ i + d + 1 + brN (leftB s (i + 1)) < s.size + d by omega), if_neg hq]
        rfl
  · rw [if_pos (show t.size ≤ i + d by rw [h.size]; omega), if_pos (show s.size ≤ i by omega)]
    rfl
/-- The same escape, d places later; or the same fault, wherever. -/
def EscLike (d : Nat) : EscR → EscR → Prop
  | .esc k r l a n, R => R = .esc k r l a (n + d)
  | .bad c _, R => ∃ b, R = .bad c b
theorem escC_shift (h : Shift s t d i0) (c : Int) (b : Nat) (p : Bool) (hb : i0 ≤ b) : EscLike d (escC s c b p) (escC t c (b + d) p) := by
  unfold escC
  split
  · rfl
  split
  · rfl
  split
  · rw [number_shift h b hb]
    cases numberS s b with
    | none => exact ⟨_, rfl⟩
    | some q => rfl
  split
  · rw [prop_shift h b hb]
    cases propS s b with
    | none => exact ⟨_, rfl⟩
    | some q =>
      simp only [Option.map_some]
      cases propR q.1 (decide (c = 80)) with
      | none => exact ⟨_, rfl⟩
      | some l => rfl
  cases perlsR c with
  | none => exact ⟨_, rfl⟩
  | some q =>
    cases p
    · exact ⟨_, rfl⟩
    · rfl
theorem escS_shift (h : Shift s t d i0) (i : Nat) (p : Bool) (hi : i0 ≤ i) : EscLike d (escS s i p) (escS t (i + d) p) := by
  unfold escS
  rw [h.left i hi, h.size]
  by_cases h92 : headI (leftB s i) = 92
  · have hlt := head_in (s := s) (i := i) (by omega)
    simp only [h92, not_true_eq_false, if_false]
    by_cases he : i + 1 = s.size
    · rw [if_pos he, if_pos (show i + d + 1 = s.size + d by omega)]
      exact ⟨_, rfl⟩
    · rw [if_neg he, if_neg (show ¬ i + d + 1 = s.size + d by omega), show i + d + 1 = i + 1 + d by omega, h.decode (i + 1) (by omega) (by omega)]
      rw [show i + 1 + d + (Utf8.decode s (i + 1)).2 = i + 1 + (Utf8.decode s (i + 1)).2 + d by omega]
      exact escC_shift h _ _ p (by omega)
  · rw [if_pos h92, if_pos h92]
    exact ⟨_, rfl⟩
theorem oneS_shift (h : Shift s t d i0) (i : Nat) (p : Bool) (hi : i0 ≤ i) (hs : i < s.size) : EscLike d (oneS s i p) (oneS t (i + d) p) := by
  unfold oneS
  rw [h.left i hi]
  split
  · exact escS_shift h i p hi
  · rw [h.decode i hi hs, show i + d + (Utf8.decode s i).2 = i + (Utf8.decode s i).2 + d by omega]
    rfl
def ItemLike (d : Nat) : ItemR → ItemR → Prop
  | .item l n, R => R = .item l (n + d)
  | .bad c _ _, R => ∃ a b, R = .bad c a b
theorem rangeS_shift (h : Shift s t d i0) (i i' : Nat) (r : Int) (n : Nat) (p : Bool) (hn : i0 ≤ n) : ItemLike d (rangeS s i r n p) (rangeS t i' r (n + d) p) := by
  unfold rangeS
  rw [h.left n hn, h.at1 n hn]
  split
  · rename_i hc
    have hlt := head_in hc.2.1
    have := oneS_shift h (n + 1) p (by omega) hlt
    rw [show n + 1 + d = n + d + 1 by omega] at this
    revert this
    cases oneS s (n + 1) p with
    | bad c b => rintro ⟨b', hb⟩; rw [hb]; exact ⟨_, _, rfl⟩
    | esc k r2 l a n2 =>
      intro hb
      replace hb : oneS t (n + d + 1) p = .esc k r2 l a (n2 + d) := hb
      rw [hb]
      simp only
      split
      · exact ⟨_, _, rfl⟩
      · rfl
  · rfl
theorem itemS_shift (h : Shift s t d i0) (i : Nat) (p : Bool) (hi : i0 ≤ i) (hs : i < s.size) : ItemLike d (itemS s i p) (itemS t (i + d) p) := by
  unfold itemS
  rw [colN_shift h i hi, h.plus i 2 hi]
  cases hk : colS s i with
  | some k =>
    have hk2 := colS_le hk
    simp only [Option.map_some]
    rw [show k + d - (i + d + 2) = k - (i + 2) by omega]
    cases posixR ((leftB s (i + 2)).take (k - (i + 2))) with
    | none => exact ⟨_, _, rfl⟩
    | some l => exact (show ItemR.item l (k + d + 2) = ItemR.item l (k + 2 + d) by congr 1; omega)
  | none =>
    have := oneS_shift h i p hi hs
    have hok := oneS_ok s i p hs
    revert this hok
    simp only [Option.map_none]
    cases oneS s i p with
    | bad c b => rintro ⟨b', hb⟩ -; rw [hb]; exact ⟨_, _, rfl⟩
    | esc k r l a n =>
      intro hb hok
      replace hb : oneS t (i + d) p = .esc k r l a (n + d) := hb
      rw [hb]
      simp only
      obtain ⟨h1, -⟩ := hok
      split
      · rfl
      split
      · exact ⟨_, _, rfl⟩
      · exact rangeS_shift h i (i + d) r n p (by omega)
theorem itemsS_shift (h : Shift s t d i0) (a a' : Nat) (p : Bool) : ∀ (m m' i : Nat) (fi : Bool) (all : List (Int × Int)), i0 ≤ i → s.size < i + m → s.size < i + m' → ItemLike d (itemsS s a p m i fi all) (itemsS t a' p m' (i + d) fi all)
  | 0, m', i, fi, all, hi, hm, hm' => by
    have hlt : s.size ≤ i := by omega
    cases m' with
    | zero => exact ⟨_, _, rfl⟩
    | succ m' =>
      rw [itemsS, itemsS, if_pos (show t.size ≤ i + d by rw [h.size]; omega)]
      exact ⟨_, _, rfl⟩
  | m + 1, m', i, fi, all, hi, hm, hm' => by
    by_cases hlt : i < s.size
    · cases m' with
      | zero => omega
      | succ m' =>
        rw [itemsS, itemsS, if_neg (show ¬ s.size ≤ i by omega), if_neg (show ¬ t.size ≤ i + d by rw [h.size]; omega), h.left i hi]
        split
        · exact (show ItemR.item all (i + d + 1) = ItemR.item all (i + 1 + d) by congr 1; omega)
        · have := itemS_shift h i p hi hlt
          have hok := itemS_ok s i p hlt
          revert this hok
          cases itemS s i p with
          | bad c x y => rintro ⟨x', y', hb⟩ -; rw [hb]; exact ⟨_, _, rfl⟩
          | item l n =>
            intro hb hok
            replace hb : itemS t (i + d) p = .item l (n + d) := hb
            rw [hb]
            obtain ⟨h1, -⟩ := hok
            exact itemsS_shift h a a' p m m' n false (all ++ l) (by omega) (by omega) (by omega)
    · rw [itemsS, if_pos (show s.size ≤ i by omega)]
      cases m' with
      | zero => exact ⟨_, _, rfl⟩
      | succ m' =>
        rw [itemsS, if_pos (show t.size ≤ i + d by rw [h.size]; omega)]
        exact ⟨_, _, rfl⟩
end Go.Proofs.YtmaigjdmjmonbaaGreatDoor
/- Flags told by bits; a class and the one with ^ read alike. Plain side. -/
namespace Go.Proofs.YtmaigjdmjmonbaaGreatDoor
open Go Go.RowKit

theorem ofInt_wrap (n : Int) : BitVec.ofInt 64 (IntKind.i64.wrap n) = BitVec.ofInt 64 n := by
  apply BitVec.eq_of_toNat_eq
  rw [BitVec.toNat_ofInt, BitVec.toNat_ofInt]
  unfold IntKind.wrap
  simp only [IntKind.bits, IntKind.signed]
  congr 1
  try omega
theorem and_one (a : BitVec 64) : (a ||| 1#64) &&& 1#64 = 1#64 := by
  apply BitVec.eq_of_getLsbD_eq
  intro i hi
  rw [BitVec.getLsbD_and, BitVec.getLsbD_or]
  cases a.getLsbD i <;> cases (1#64).getLsbD i <;> rfl
theorem and_high (a : BitVec 64) : (a ||| 1#64) &&& 32#64 = a &&& 32#64 := by
  apply BitVec.eq_of_getLsbD_eq
  intro i hi
  have : (1#64 &&& 32#64) = 0#64 := by decide
  have h2 : ((1#64).getLsbD i && (32#64).getLsbD i) = false := by rw [← BitVec.getLsbD_and, this]; simp
  rw [BitVec.getLsbD_and, BitVec.getLsbD_and, BitVec.getLsbD_or]
  revert h2
  cases a.getLsbD i <;> cases (1#64).getLsbD i <;> cases (32#64).getLsbD i <;> simp
theorem flag_high (f : Int) : flagB (bits .or .i64 f 1) 32 = flagB f 32 := by
  show (IntKind.i64.wrap ((BitVec.ofInt 64 (IntKind.i64.wrap ((BitVec.ofInt 64 f ||| 1#64).toNat : Int)) &&& 32#64).toNat : Int) != 0) = (IntKind.i64.wrap ((BitVec.ofInt 64 f &&& 32#64).toNat : Int) != 0)
  rw [ofInt_wrap, BitVec.ofInt_natCast, BitVec.ofNat_toNat, BitVec.setWidth_eq, and_high]
theorem flag_fold (f : Int) : flagB (bits .or .i64 f 1) 1 = true := by
  show (IntKind.i64.wrap ((BitVec.ofInt 64 (IntKind.i64.wrap ((BitVec.ofInt 64 f ||| 1#64).toNat : Int)) &&& 1#64).toNat : Int) != 0) = true
  rw [ofInt_wrap, BitVec.ofInt_natCast, BitVec.ofNat_toNat, BitVec.setWidth_eq, and_one]
  rfl
def ItemPos (s : ByteArray) : ItemR → Prop
  | .item _ n => n ≤ s.size
  | .bad c _ _ => 0 < c
theorem items_ok (s : ByteArray) (a : Nat) (p : Bool) : ∀ (m i : Nat) (fi : Bool) (all : List (Int × Int)), ItemPos s (itemsS s a p m i fi all)
  | 0, i, fi, all => (by decide : (0 : Int) < 71)
  | m + 1, i, fi, all => by
    rw [itemsS]
    split
    · exact (by decide : (0 : Int) < 71)
    rename_i hlt
    split
    · exact (show i + 1 ≤ s.size by omega)
    have hok := itemS_ok s i p (by omega)
    revert hok
    cases itemS s i p with
    | bad c x y => intro hok; exact hok
    | item l n => intro _; exact items_ok s a p m n false (all ++ l)
theorem class_ok (s : ByteArray) (i : Nat) (p : Bool) : ItemPos s (classS s i p) := by
  unfold classS
  split
  · exact (by decide : (0 : Int) < 1)
  · exact items_ok _ _ _ _ _ _ _
def openB (it : ByteArray) : ByteArray := ⟨#[91]⟩ ++ it ++ ⟨#[93]⟩
def openN (it : ByteArray) : ByteArray := ⟨#[91, 94]⟩ ++ it ++ ⟨#[93]⟩
theorem append_list7 (a b : ByteArray) : (a ++ b).toList = a.toList ++ b.toList := by rw [Lib.toList_data, Lib.toList_data, Lib.toList_data, Joins.data_append]
theorem size_list7 (b : ByteArray) : b.size = b.toList.length := by rw [Lib.toList_data, ← Lib.size_eq]
theorem openB_list (it : ByteArray) : (openB it).toList = 91 :: (it.toList ++ [93]) := by
  unfold openB
  rw [append_list7, append_list7, show (⟨#[91]⟩ : ByteArray).toList = [91] by kernel_rfl, show (⟨#[93]⟩ : ByteArray).toList = [93] by kernel_rfl]
  rfl
theorem openN_list (it : ByteArray) : (openN it).toList = 91 :: 94 :: (it.toList ++ [93]) := by
  unfold openN
  rw [append_list7, append_list7, show (⟨#[91, 94]⟩ : ByteArray).toList = [91, 94] by kernel_rfl, show (⟨#[93]⟩ : ByteArray).toList = [93] by kernel_rfl]
  rfl
theorem openB_size (it : ByteArray) : (openB it).size = it.size + 2 := by rw [size_list7, openB_list, size_list7]; simp
theorem openN_size (it : ByteArray) : (openN it).size = it.size + 3 := by rw [size_list7, openN_list, size_list7]; simp
theorem open_shift (it : ByteArray) : Shift (openB it) (openN it) 1 1 := by
  refine ⟨fun i hi => ?_, by rw [openB_size, openN_size]⟩
  unfold leftB
  rw [openB_list, openN_list]
  obtain ⟨k, rfl⟩ : ∃ k, i = k + 1 := ⟨i - 1, by omega⟩
  simp only [List.drop_succ_cons]
theorem open_like (it : ByteArray) (p : Bool) (h : it.toList.head? ≠ some 94) : notB (openB it) 0 = false ∧ notB (openN it) 0 = true ∧ ItemLike 1 (classS (openB it) 0 p) (classS (openN it) 0 p) := by
  have hb : notB (openB it) 0 = false := by
    unfold notB leftB
    rw [openB_list]
    refine decide_eq_false fun e => ?_
    simp only [Nat.zero_add, List.drop_succ_cons, List.drop_zero] at e
    cases hl : it.toList with
    | nil => rw [hl] at e; simp [headI] at e
    | cons c t =>
      rw [hl] at e h
      simp only [List.cons_append, headI] at e
      refine h (congrArg some ?_)
      exact UInt8.toNat_inj.1 (by rw [show (94 : UInt8).toNat = 94 from rfl]; omega)
  have hn : notB (openN it) 0 = true := by
    unfold notB leftB
    rw [openN_list]
    exact decide_eq_true rfl
  refine ⟨hb, hn, ?_⟩
  have e1 : headI (leftB (openB it) 0) = 91 := by unfold leftB; rw [openB_list]; rfl
  have e2 : headI (leftB (openN it) 0) = 91 := by unfold leftB; rw [openN_list]; rfl
  unfold classS
  simp only [hb, hn, e1, e2, not_true_eq_false, if_false, if_true, Bool.false_eq_true, Nat.zero_add, Nat.add_zero]
  exact itemsS_shift (open_shift it) 0 0 p _ _ 1 true [] (Nat.le_refl _) (by omega) (by rw [openN_size, openB_size]; omega)
end Go.Proofs.YtmaigjdmjmonbaaGreatDoor
