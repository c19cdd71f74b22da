/- Texts merged by program: PsAlone, PsEscSt, PsEscape. No condition. -/
import Derived.Test.YtofhckheeijoiaaDoorK11
import Derived.Test.YtofhckheeijoiaaDoorK15
import Derived.Test.YtofhckheeijoiaaDoorK27
import Derived.Test.YtofhckheeijoiaaDoorK10
set_option linter.unusedVariables false
/- The program's letters of the flavour; what a rune behind a backslash is by itself. -/
namespace Go.Proofs.YtofhckheeijoiaaDoor
open Go Go.RowKit

/-- An escape and a result. -/
theorem results_et {fn : Func} {p q : Tmp} (h : fn.results = #[.cell p 27, .tmp q]) (tmps : Array Value) {w : World} {a : Nat} {es : Array Value} (ha : tmps.getD p undef = .pointer (some ⟨a, 0, none⟩)) (hE : Whole w a 27 es) (he : es.size = 4) :
    (results fn tmps).run Tryd.prog w = .ok (.tuple #[.agg es, tmps.getD q undef]) w := by
  have ha' : tmps[p]?.getD undef = .pointer (some ⟨a, 0, none⟩) := by simpa using ha
  simp [results, h, ha', asAddr, run_esc hE he]
def LetterPost (o : Option (Int × List (Int × Int) × Int)) (w : World) (e : Ending) (w' : World) : Prop :=
  Below w.heap.size w w' ∧ ((o = none ∧ e = .returned (.tuple #[escV 0 0 (.slice none 0 0) 0, .bool false])) ∨ ∃ k l a v, o = some (k, l, a) ∧ e = .returned (.tuple #[escV k 0 v a, .bool true]) ∧ OwnR w' w.heap.size v l)
set_option maxHeartbeats 1600000 in
set_option maxRecDepth 100000 in
theorem psletter_any (c : Int) (w : World) : Calls Tryd.prog 49 #[.int .i32 c] w (LetterPost (perlsR c) w) := by
  obtain ⟨O, hO⟩ : ∃ O, perlsR c = O := ⟨_, rfl⟩
  rw [hO]
  obtain ⟨w1, hw1⟩ : ∃ w1, w.alloc (.cells #[.int .i64 0, .int .i32 0, .slice none 0 0, .int .i64 0] 27) = w1 := ⟨_, rfl⟩
  have hE1 : Whole w1 w.heap.size 27 #[.int .i64 0, .int .i32 0, .slice none 0 0, .int .i64 0] := by rw [← hw1]; exact heap_alloc_new w _
  have hb1 : Below w.heap.size w w1 := by rw [← hw1]; exact (Below.refl _ w).alloc (Nat.le_refl _) _
  have hs1 : w1.heap.size = w.heap.size + 1 := by rw [← hw1]; simp
  have HW1 := Lib.hid hw1; have HE1 := Lib.hid hE1; have HB1 := Lib.hid hb1; have HS1 := Lib.hid hs1
  obtain ⟨c0, c1, c2, c3, z0, z1, z2, z3⟩ := HE1.out.four
  clear hw1 hE1 hb1 hs1
  unfold LetterPost
  by_cases h100 : c = 100
  · subst h100
    have HO := Lib.hid (show O = match perlR 100 with | none => none | some l => some (2, l, 0) by rw [← hO]; rfl)
    clear hO
    go_enter Tryd.func49, Tryd.ntmps49
    go_upto_region 1 with (fail)
    rw [HW1.out]
    go_wp2_with fail
    refine (perl_any 100 _).mono ?_
    rintro e w2 ⟨hb, ⟨hn, rfl⟩ | ⟨v, l, hn, rfl, ho⟩⟩
    · have HN := Lib.hid (show O = none by rw [HO.out, hn])
      have HB2 := Lib.hid (HB1.out.trans (hb.mono HB1.out.size))
      have hE2 := HE1.out.below hb (by have := HS1.out; omega)
      have HE2 := Lib.hid hE2
      clear c0 c1 c2 c3 z0 z1 z2 z3
      obtain ⟨c0, c1, c2, c3, z0, z1, z2, z3⟩ := hE2.four
      exact absurd hn (by decide)
    · have HN := Lib.hid (show O = some (2, l, 0) by rw [HO.out, hn])
      have HB2 := Lib.hid (HB1.out.trans (hb.mono HB1.out.size))
      have hE2 := HE1.out.below hb (by have := HS1.out; omega)
      have HE2 := Lib.hid hE2; have HOW := Lib.hid ho
      clear c0 c1 c2 c3 z0 z1 z2 z3
      obtain ⟨c0, c1, c2, c3, z0, z1, z2, z3⟩ := hE2.four
      obtain ⟨A, cA, hvs, -⟩ := ho.rgs
      subst hvs
      clear hb hn hE2 ho
      go_wp2_with fail
      refine bodyPost_ret (results_et Tryd.results49 _ rfl (set4_whole HE2.out _ _ _ _) rfl) rfl ?_
      exact ⟨set4_below HB2.out (Nat.le_refl _) _ _ _ _, .inr ⟨2, l, 0, _, HN.out, rfl, own_set4 (HOW.out.mono HB1.out.size) (fun g hg => by have := own_ge HOW.out g hg; have := HS1.out; omega) _ _ _ _⟩⟩
  have g100 := eq_false_of h100
  by_cases h115 : c = 115
  · subst h115
    have HO := Lib.hid (show O = match perlR 115 with | none => none | some l => some (2, l, 0) by rw [← hO]; rfl)
    clear hO
    go_enter Tryd.func49, Tryd.ntmps49
    go_upto_region 1 with (fail)
    rw [HW1.out]
    go_wp2_with fail
    refine (perl_any 115 _).mono ?_
    rintro e w2 ⟨hb, ⟨hn, rfl⟩ | ⟨v, l, hn, rfl, ho⟩⟩
    · have HN := Lib.hid (show O = none by rw [HO.out, hn])
      have HB2 := Lib.hid (HB1.out.trans (hb.mono HB1.out.size))
      have hE2 := HE1.out.below hb (by have := HS1.out; omega)
      have HE2 := Lib.hid hE2
      clear c0 c1 c2 c3 z0 z1 z2 z3
      obtain ⟨c0, c1, c2, c3, z0, z1, z2, z3⟩ := hE2.four
      exact absurd hn (by decide)
    · have HN := Lib.hid (show O = some (2, l, 0) by rw [HO.out, hn])
      have HB2 := Lib.hid (HB1.out.trans (hb.mono HB1.out.size))
      have hE2 := HE1.out.below hb (by have := HS1.out; omega)
      have HE2 := Lib.hid hE2; have HOW := Lib.hid ho
      clear c0 c1 c2 c3 z0 z1 z2 z3
      obtain ⟨c0, c1, c2, c3, z0, z1, z2, z3⟩ := hE2.four
      obtain ⟨A, cA, hvs, -⟩ := ho.rgs
      subst hvs
      clear hb hn hE2 ho
      go_wp2_with fail
      refine bodyPost_ret (results_et Tryd.results49 _ rfl (set4_whole HE2.out _ _ _ _) rfl) rfl ?_
      exact ⟨set4_below HB2.out (Nat.le_refl _) _ _ _ _, .inr ⟨2, l, 0, _, HN.out, rfl, own_set4 (HOW.out.mono HB1.out.size) (fun g hg => by have := own_ge HOW.out g hg; have := HS1.out; omega) _ _ _ _⟩⟩
  have g115 := eq_false_of h115
  by_cases h119 : c = 119
  · subst h119
    have HO := Lib.hid (show O = match perlR 119 with | none => none | some l => some (2, l, 0) by rw [← hO]; rfl)
    clear hO
    go_enter Tryd.func49, Tryd.ntmps49
    go_upto_region 1 with (fail)
    rw [HW1.out]
    go_wp2_with fail
    refine (perl_any 119 _).mono ?_
    rintro e w2 ⟨hb, ⟨hn, rfl⟩ | ⟨v, l, hn, rfl, ho⟩⟩
    · have HN := Lib.hid (show O = none by rw [HO.out, hn])
      have HB2 := Lib.hid (HB1.out.trans (hb.mono HB1.out.size))
      have hE2 := HE1.out.below hb (by have := HS1.out; omega)
      have HE2 := Lib.hid hE2
      clear c0 c1 c2 c3 z0 z1 z2 z3
      obtain ⟨c0, c1, c2, c3, z0, z1, z2, z3⟩ := hE2.four
      exact absurd hn (by decide)
    · have HN := Lib.hid (show O = some (2, l, 0) by rw [HO.out, hn])
      have HB2 := Lib.hid (HB1.out.trans (hb.mono HB1.out.size))
      have hE2 := HE1.out.below hb (by have := HS1.out; omega)
      have HE2 := Lib.hid hE2; have HOW := Lib.hid ho
      clear c0 c1 c2 c3 z0 z1 z2 z3
      obtain ⟨c0, c1, c2, c3, z0, z1, z2, z3⟩ := hE2.four
      obtain ⟨A, cA, hvs, -⟩ := ho.rgs
      subst hvs
      clear hb hn hE2 ho
      go_wp2_with fail
      refine bodyPost_ret (results_et Tryd.results49 _ rfl (set4_whole HE2.out _ _ _ _) rfl) rfl ?_
      exact ⟨set4_below HB2.out (Nat.le_refl _) _ _ _ _, .inr ⟨2, l, 0, _, HN.out, rfl, own_set4 (HOW.out.mono HB1.out.size) (fun g hg => by have := own_ge HOW.out g hg; have := HS1.out; omega) _ _ _ _⟩⟩
  have g119 := eq_false_of h119
  by_cases h68 : c = 68
  · subst h68
    have HO := Lib.hid (show O = match perlR 68 with | none => none | some l => some (2, l, 0) by rw [← hO]; rfl)
    clear hO
    go_enter Tryd.func49, Tryd.ntmps49
    go_upto_region 1 with (fail)
    rw [HW1.out]
    go_wp2_with fail
    refine (perl_any 68 _).mono ?_
    rintro e w2 ⟨hb, ⟨hn, rfl⟩ | ⟨v, l, hn, rfl, ho⟩⟩
    · have HN := Lib.hid (show O = none by rw [HO.out, hn])
      have HB2 := Lib.hid (HB1.out.trans (hb.mono HB1.out.size))
      have hE2 := HE1.out.below hb (by have := HS1.out; omega)
      have HE2 := Lib.hid hE2
      clear c0 c1 c2 c3 z0 z1 z2 z3
      obtain ⟨c0, c1, c2, c3, z0, z1, z2, z3⟩ := hE2.four
      exact absurd hn (by decide)
    · have HN := Lib.hid (show O = some (2, l, 0) by rw [HO.out, hn])
      have HB2 := Lib.hid (HB1.out.trans (hb.mono HB1.out.size))
      have hE2 := HE1.out.below hb (by have := HS1.out; omega)
      have HE2 := Lib.hid hE2; have HOW := Lib.hid ho
      clear c0 c1 c2 c3 z0 z1 z2 z3
      obtain ⟨c0, c1, c2, c3, z0, z1, z2, z3⟩ := hE2.four
      obtain ⟨A, cA, hvs, -⟩ := ho.rgs
      subst hvs
      clear hb hn hE2 ho
      go_wp2_with fail
      refine bodyPost_ret (results_et Tryd.results49 _ rfl (set4_whole HE2.out _ _ _ _) rfl) rfl ?_
      exact ⟨set4_below HB2.out (Nat.le_refl _) _ _ _ _, .inr ⟨2, l, 0, _, HN.out, rfl, own_set4 (HOW.out.mono HB1.out.size) (fun g hg => by have := own_ge HOW.out g hg; have := HS1.out; omega) _ _ _ _⟩⟩
  have g68 := eq_false_of h68
  by_cases h83 : c = 83
  · subst h83
    have HO := Lib.hid (show O = match perlR 83 with | none => none | some l => some (2, l, 0) by rw [← hO]; rfl)
    clear hO
    go_enter Tryd.func49, Tryd.ntmps49
    go_upto_region 1 with (fail)
    rw [HW1.out]
    go_wp2_with fail
    refine (perl_any 83 _).mono ?_
    rintro e w2 ⟨hb, ⟨hn, rfl⟩ | ⟨v, l, hn, rfl, ho⟩⟩
    · have HN := Lib.hid (show O = none by rw [HO.out, hn])
      have HB2 := Lib.hid (HB1.out.trans (hb.mono HB1.out.size))
      have hE2 := HE1.out.below hb (by have := HS1.out; omega)
      have HE2 := Lib.hid hE2
      clear c0 c1 c2 c3 z0 z1 z2 z3
      obtain ⟨c0, c1, c2, c3, z0, z1, z2, z3⟩ := hE2.four
      exact absurd hn (by decide)
    · have HN := Lib.hid (show O = some (2, l, 0) by rw [HO.out, hn])
      have HB2 := Lib.hid (HB1.out.trans (hb.mono HB1.out.size))
      have hE2 := HE1.out.below hb (by have := HS1.out; omega)
      have HE2 := Lib.hid hE2; have HOW := Lib.hid ho
      clear c0 c1 c2 c3 z0 z1 z2 z3
      obtain ⟨c0, c1, c2, c3, z0, z1, z2, z3⟩ := hE2.four
      obtain ⟨A, cA, hvs, -⟩ := ho.rgs
      subst hvs
      clear hb hn hE2 ho
      go_wp2_with fail
      refine bodyPost_ret (results_et Tryd.results49 _ rfl (set4_whole HE2.out _ _ _ _) rfl) rfl ?_
      exact ⟨set4_below HB2.out (Nat.le_refl _) _ _ _ _, .inr ⟨2, l, 0, _, HN.out, rfl, own_set4 (HOW.out.mono HB1.out.size) (fun g hg => by have := own_ge HOW.out g hg; have := HS1.out; omega) _ _ _ _⟩⟩
  have g83 := eq_false_of h83
  by_cases h87 : c = 87
  · subst h87
    have HO := Lib.hid (show O = match perlR 87 with | none => none | some l => some (2, l, 0) by rw [← hO]; rfl)
    clear hO
    go_enter Tryd.func49, Tryd.ntmps49
    go_upto_region 1 with (fail)
    rw [HW1.out]
    go_wp2_with fail
    refine (perl_any 87 _).mono ?_
    rintro e w2 ⟨hb, ⟨hn, rfl⟩ | ⟨v, l, hn, rfl, ho⟩⟩
    · have HN := Lib.hid (show O = none by rw [HO.out, hn])
      have HB2 := Lib.hid (HB1.out.trans (hb.mono HB1.out.size))
      have hE2 := HE1.out.below hb (by have := HS1.out; omega)
      have HE2 := Lib.hid hE2
      clear c0 c1 c2 c3 z0 z1 z2 z3
      obtain ⟨c0, c1, c2, c3, z0, z1, z2, z3⟩ := hE2.four
      exact absurd hn (by decide)
    · have HN := Lib.hid (show O = some (2, l, 0) by rw [HO.out, hn])
      have HB2 := Lib.hid (HB1.out.trans (hb.mono HB1.out.size))
      have hE2 := HE1.out.below hb (by have := HS1.out; omega)
      have HE2 := Lib.hid hE2; have HOW := Lib.hid ho
      clear c0 c1 c2 c3 z0 z1 z2 z3
      obtain ⟨c0, c1, c2, c3, z0, z1, z2, z3⟩ := hE2.four
      obtain ⟨A, cA, hvs, -⟩ := ho.rgs
      subst hvs
      clear hb hn hE2 ho
      go_wp2_with fail
      refine bodyPost_ret (results_et Tryd.results49 _ rfl (set4_whole HE2.out _ _ _ _) rfl) rfl ?_
      exact ⟨set4_below HB2.out (Nat.le_refl _) _ _ _ _, .inr ⟨2, l, 0, _, HN.out, rfl, own_set4 (HOW.out.mono HB1.out.size) (fun g hg => by have := own_ge HOW.out g hg; have := HS1.out; omega) _ _ _ _⟩⟩
  have g87 := eq_false_of h87
  by_cases h65 : c = 65
  · subst h65
    have HO := Lib.hid (show O = some (3, [], 1) by rw [← hO]; rfl)
    clear hO
    go_enter Tryd.func49, Tryd.ntmps49
    go_upto_region 1 with (fail)
    rw [HW1.out]
    go_wp2_with fail
    refine bodyPost_ret (results_et Tryd.results49 _ rfl (set4_whole HE1.out _ _ _ _) rfl) rfl ?_
    exact ⟨set4_below HB1.out (Nat.le_refl _) _ _ _ _, .inr ⟨3, [], 1, .slice none 0 0, HO.out, rfl, own_none _ _⟩⟩
  have g65 := eq_false_of h65
  by_cases h122 : c = 122
  · subst h122
    have HO := Lib.hid (show O = some (3, [], 2) by rw [← hO]; rfl)
    clear hO
    go_enter Tryd.func49, Tryd.ntmps49
    go_upto_region 1 with (fail)
    rw [HW1.out]
    go_wp2_with fail
    refine bodyPost_ret (results_et Tryd.results49 _ rfl (set4_whole HE1.out _ _ _ _) rfl) rfl ?_
    exact ⟨set4_below HB1.out (Nat.le_refl _) _ _ _ _, .inr ⟨3, [], 2, .slice none 0 0, HO.out, rfl, own_none _ _⟩⟩
  have g122 := eq_false_of h122
  by_cases h98 : c = 98
  · subst h98
    have HO := Lib.hid (show O = some (3, [], 16) by rw [← hO]; rfl)
    clear hO
    go_enter Tryd.func49, Tryd.ntmps49
    go_upto_region 1 with (fail)
    rw [HW1.out]
    go_wp2_with fail
    refine bodyPost_ret (results_et Tryd.results49 _ rfl (set4_whole HE1.out _ _ _ _) rfl) rfl ?_
    exact ⟨set4_below HB1.out (Nat.le_refl _) _ _ _ _, .inr ⟨3, [], 16, .slice none 0 0, HO.out, rfl, own_none _ _⟩⟩
  have g98 := eq_false_of h98
  by_cases h66 : c = 66
  · subst h66
    have HO := Lib.hid (show O = some (3, [], 32) by rw [← hO]; rfl)
    clear hO
    go_enter Tryd.func49, Tryd.ntmps49
    go_upto_region 1 with (fail)
    rw [HW1.out]
    go_wp2_with fail
    refine bodyPost_ret (results_et Tryd.results49 _ rfl (set4_whole HE1.out _ _ _ _) rfl) rfl ?_
    exact ⟨set4_below HB1.out (Nat.le_refl _) _ _ _ _, .inr ⟨3, [], 32, .slice none 0 0, HO.out, rfl, own_none _ _⟩⟩
  have g66 := eq_false_of h66
  by_cases h81 : c = 81
  · subst h81
    have HO := Lib.hid (show O = some (4, [], 0) by rw [← hO]; rfl)
    clear hO
    go_enter Tryd.func49, Tryd.ntmps49
    go_upto_region 1 with (fail)
    rw [HW1.out]
    go_wp2_with fail
    refine bodyPost_ret (results_et Tryd.results49 _ rfl (set4_whole HE1.out _ _ _ _) rfl) rfl ?_
    exact ⟨set4_below HB1.out (Nat.le_refl _) _ _ _ _, .inr ⟨4, [], 0, .slice none 0 0, HO.out, rfl, own_none _ _⟩⟩
  have g81 := eq_false_of h81
  have HO := Lib.hid (show O = none by
    rw [← hO]
    unfold perlsR placeI perlR
    rw [if_neg h65, if_neg h122, if_neg h98, if_neg h66, if_neg (fun h => h rfl), if_neg h81]
    split
    · rfl
    · first | rfl | rw [if_neg h100, if_neg h115, if_neg h119, if_neg h68, if_neg h83, if_neg h87])
  clear hO h100 h115 h119 h68 h83 h87 h65 h122 h98 h66 h81
  go_enter Tryd.func49, Tryd.ntmps49
  go_upto_region 1 with (fail)
  rw [HW1.out]
  go_wp2_with fail
  refine bodyPost_ret (results_et Tryd.results49 _ rfl (set4_whole HE1.out _ _ _ _) rfl) rfl ?_
  exact ⟨set4_below HB1.out (Nat.le_refl _) _ _ _ _, .inl ⟨HO.out, rfl⟩⟩

/-- What a rune behind a backslash is by itself. -/
def aloneS (c : Int) (p : Bool) : Option (Int × Int × List (Int × Int) × Int) :=
  if (oneP c).2 = true then some (1, (oneP c).1, [], 0) else if p = true then (match perlsR c with | none => none | some (k, l, a) => some (k, 0, l, a)) else none
theorem sign_letter {c : Int} (h : 0 ≤ letterI c) : signI c = false := by
  unfold letterI at h
  have : c = 97 ∨ c = 102 ∨ c = 110 ∨ c = 114 ∨ c = 116 ∨ c = 118 := by
    revert h
    repeat' split
    all_goals first | (intro _; simp_all) | (intro h; exact absurd h (by decide))
  rcases this with rfl | rfl | rfl | rfl | rfl | rfl <;> rfl
/-- The document's escape of such a rune. -/
theorem alone_esc (s : ByteArray) (c : Int) (b : Nat) (p : Bool) (h1 : ¬ c = 120) (h2 : ¬ (c = 112 ∨ c = 80)) : escC s c b p = match aloneS c p with | none => .bad 61 b | some (k, r, l, a) => .esc k r l a b := by
  by_cases hl : 0 ≤ letterI c
  · have ho : oneP c = (letterI c, true) := by unfold oneP; rw [if_pos hl]
    unfold escC aloneS
    rw [ho, if_neg (by rw [sign_letter hl]; decide), if_pos hl]
    rfl
  · have ho : oneP c = (c, signI c) := by unfold oneP; rw [if_neg hl]
    unfold escC aloneS
    rw [ho]
    cases hs : signI c
    · rw [if_neg (by decide), if_neg hl, if_neg h1, if_neg h2]
      cases perlsR c with
      | none => cases p <;> rfl
      | some x => obtain ⟨k, l, a⟩ := x; cases p <;> rfl
    · rw [if_pos rfl]
      rfl
def AlonePost (o : Option (Int × Int × List (Int × Int) × Int)) (w : World) (e : Ending) (w' : World) : Prop :=
  Below w.heap.size w w' ∧ ((o = none ∧ e = .returned (.tuple #[escV 0 0 (.slice none 0 0) 0, .bool false])) ∨ ∃ k r l a v, o = some (k, r, l, a) ∧ e = .returned (.tuple #[escV k r v a, .bool true]) ∧ OwnR w' w.heap.size v l)
set_option maxHeartbeats 1600000 in
set_option maxRecDepth 100000 in
theorem palone_any (q : Nat) (c : Int) (p : Bool) (w : World) (hc : w.cell? ⟨q, 2, none⟩ = some (.bool p)) : Calls Tryd.prog 27 #[.pointer (some ⟨q, 0, none⟩), .int .i32 c] w (AlonePost (aloneS c p) w) := by
  obtain ⟨O, hO⟩ : ∃ O, aloneS c p = O := ⟨_, rfl⟩
  rw [hO]
  unfold aloneS at hO
  obtain ⟨w1, hw1⟩ : ∃ w1, w.alloc (.cells #[.int .i64 0, .int .i32 0, .slice none 0 0, .int .i64 0] 27) = w1 := ⟨_, rfl⟩
  have hE1 : Whole w1 w.heap.size 27 #[.int .i64 0, .int .i32 0, .slice none 0 0, .int .i64 0] := by rw [← hw1]; exact heap_alloc_new w _
  have hb1 : Below w.heap.size w w1 := by rw [← hw1]; exact (Below.refl _ w).alloc (Nat.le_refl _) _
  have hs1 : w1.heap.size = w.heap.size + 1 := by rw [← hw1]; simp
  have hc1 : w1.cell? ⟨q, 2, none⟩ = some (.bool p) := (hb1.cell (World.block_lt_of_cell? w _ hc)).trans hc
  have HW1 := Lib.hid hw1; have HE1 := Lib.hid hE1; have HB1 := Lib.hid hb1; have HS1 := Lib.hid hs1
  have H1 := Lib.hid (pone_any c w1)
  obtain ⟨⟨m, is⟩, hm⟩ : ∃ x, oneP c = x := ⟨_, rfl⟩
  rw [hm] at H1 hO
  dsimp only at H1 hO
  have HO := Lib.hid hO
  obtain ⟨c0, c1, c2, c3, z0, z1, z2, z3⟩ := HE1.out.four
  clear hw1 hE1 hb1 hs1 hc hm hO
  unfold AlonePost
  go_enter Tryd.func27, Tryd.ntmps27
  go_upto_region 1 with (fail)
  rw [HW1.out]
  go_wp2_with fail
  refine H1.out.mono ?_
  rintro e w2 ⟨rfl, rfl⟩
  cases is
  · cases p
    · have HN := Lib.hid (show O = none from HO.out.symm)
      go_wp2_with fail
      refine bodyPost_ret (results_et Tryd.results27 _ rfl (set4_whole HE1.out _ _ _ _) rfl) rfl ?_
      exact ⟨set4_below HB1.out (Nat.le_refl _) _ _ _ _, .inl ⟨HN.out, rfl⟩⟩
    · have HN := Lib.hid (show O = match perlsR c with | none => none | some (k, l, a) => some (k, 0, l, a) from HO.out.symm)
      have HL := Lib.hid (psletter_any c w2)
      clear HO
      go_wp2_with fail
      refine HL.out.mono ?_
      rintro e w3 ⟨hb, ⟨hn, rfl⟩ | ⟨k, l, a, v, hn, rfl, ho⟩⟩
      · have HX := Lib.hid (show O = none by rw [HN.out, hn])
        have HB2 := Lib.hid (HB1.out.trans (hb.mono HB1.out.size))
        have hE2 := HE1.out.below hb (by have := HS1.out; omega)
        have HE2 := Lib.hid hE2
        clear c0 c1 c2 c3 z0 z1 z2 z3
        obtain ⟨c0, c1, c2, c3, z0, z1, z2, z3⟩ := hE2.four
        clear hb hn hE2
        unfold escV
        go_wp2_with fail
        refine bodyPost_ret (results_et Tryd.results27 _ rfl (set4_whole HE2.out _ _ _ _) rfl) rfl ?_
        exact ⟨set4_below HB2.out (Nat.le_refl _) _ _ _ _, .inl ⟨HX.out, rfl⟩⟩
      · have HX := Lib.hid (show O = some (k, 0, l, a) by rw [HN.out, hn])
        have HB2 := Lib.hid (HB1.out.trans (hb.mono HB1.out.size))
        have hE2 := HE1.out.below hb (by have := HS1.out; omega)
        have HE2 := Lib.hid hE2; have HOW := Lib.hid ho
        clear c0 c1 c2 c3 z0 z1 z2 z3
        obtain ⟨c0, c1, c2, c3, z0, z1, z2, z3⟩ := hE2.four
        obtain ⟨A, cA, hvs, -⟩ := ho.rgs
        subst hvs
        clear hb hn hE2 ho
        unfold escV
        go_wp2_with fail
        refine bodyPost_ret (results_et Tryd.results27 _ rfl (set4_whole HE2.out _ _ _ _) rfl) rfl ?_
        exact ⟨set4_below HB2.out (Nat.le_refl _) _ _ _ _, .inr ⟨k, 0, l, a, _, HX.out, rfl, own_set4 (HOW.out.mono HB1.out.size) (fun g hg => by have := own_ge HOW.out g hg; have := HS1.out; omega) _ _ _ _⟩⟩
  · have HN := Lib.hid (show O = some (1, m, [], 0) from HO.out.symm)
    go_wp2_with fail
    refine bodyPost_ret (results_et Tryd.results27 _ rfl (set4_whole HE1.out _ _ _ _) rfl) rfl ?_
    exact ⟨set4_below HB1.out (Nat.le_refl _) _ _ _ _, .inr ⟨1, m, [], 0, .slice none 0 0, HN.out, rfl, own_none _ _⟩⟩
end Go.Proofs.YtofhckheeijoiaaDoor
/- What stands in memory while the program reads an escape: the results, the reader, the escape and what is wrong. -/
namespace Go.Proofs.YtofhckheeijoiaaDoor
open Go Go.RowKit

structure EscSt (w : World) (q : Nat) (s : ByteArray) (p : Bool) (j : Nat) (xs ys : Array Value) (W : World) : Prop where
  bl : Below w.heap.size w W
  a : Whole W w.heap.size 27 #[.int .i64 0, .int .i32 0, .slice none 0 0, .int .i64 0]
  b : Whole W (w.heap.size + 1) 30 #[.int .i64 0, .int .i64 0, .int .i64 0]
  r : RdIn W q 53 [.bool p] s j
  x : Whole W (q + 1) 27 xs
  y : Whole W (q + 1 + 1) 30 ys
  lt : w.heap.size + 1 < q
section
variable {w : World} {q : Nat} {s : ByteArray} {p : Bool} {j : Nat} {xs ys : Array Value} {W W' : World}
theorem EscSt.took (h : EscSt w q s p j xs ys W) {k : Nat} (ht : Took q 53 [.bool p] s k W W') : EscSt w q s p k xs ys W' := by
  have := h.lt
  exact ⟨ht.below h.bl h.bl.size (by omega), ht.whole h.a (by omega), ht.whole h.b (by omega), ht.2, ht.whole h.x (by omega), ht.whole h.y (by omega), h.lt⟩
theorem EscSt.below (h : EscSt w q s p j xs ys W) (hb : Below W.heap.size W W') : EscSt w q s p j xs ys W' :=
  ⟨h.bl.trans (hb.mono h.bl.size), h.a.below hb h.a.lt, h.b.below hb h.b.lt, h.r.below hb, h.x.below hb h.x.lt, h.y.below hb h.y.lt, h.lt⟩
theorem EscSt.drew (h : EscSt w q s p j xs ys W) : EscSt w q s p j xs ys W.drew := h.below (Below.refl _ _).drew
theorem EscSt.putX (h : EscSt w q s p j xs ys W) (i : Nat) (u : Value) : EscSt w q s p j (xs.setIfInBounds i u) ys (W.setCell ⟨q + 1, i, none⟩ u) := by
  have := h.lt
  exact ⟨h.bl.setCell (p := ⟨q + 1, i, none⟩) (by simp; omega) u, h.a.far (by omega) i u, h.b.far (by omega) i u, Whole.far h.r (by omega) i u, h.x.store i u, h.y.far (by omega) i u, h.lt⟩
theorem EscSt.putY (h : EscSt w q s p j xs ys W) (i : Nat) (u : Value) : EscSt w q s p j xs (ys.setIfInBounds i u) (W.setCell ⟨q + 1 + 1, i, none⟩ u) := by
  have := h.lt
  exact ⟨h.bl.setCell (p := ⟨q + 1 + 1, i, none⟩) (by simp; omega) u, h.a.far (by omega) i u, h.b.far (by omega) i u, Whole.far h.r (by omega) i u, h.x.far (by omega) i u, h.y.store i u, h.lt⟩
end
theorem EscSt.y02 {w : World} {q : Nat} {s : ByteArray} {p : Bool} {j : Nat} {xs : Array Value} {y0 y1 y2 : Value} {W : World} (h : EscSt w q s p j xs #[y0, y1, y2] W) (u v : Value) : EscSt w q s p j xs #[u, y1, v] (((W.setCell ⟨q + 1 + 1, 0, none⟩ u).setCell ⟨q + 1 + 1, 2, none⟩ v)) := by
  have := (h.putY 0 u).putY 2 v
  simp only [List.setIfInBounds_toArray, List.set_cons_zero, List.set_cons_succ] at this
  exact this
theorem EscSt.x0 {w : World} {q : Nat} {s : ByteArray} {p : Bool} {j : Nat} {ys : Array Value} {x0 x1 x2 x3 : Value} {W : World} (h : EscSt w q s p j #[x0, x1, x2, x3] ys W) (u : Value) : EscSt w q s p j #[u, x1, x2, x3] ys (W.setCell ⟨q + 1, 0, none⟩ u) := by
  have := h.putX 0 u
  simp only [List.setIfInBounds_toArray, List.set_cons_zero] at this
  exact this
theorem EscSt.x1 {w : World} {q : Nat} {s : ByteArray} {p : Bool} {j : Nat} {ys : Array Value} {x0 x1 x2 x3 : Value} {W : World} (h : EscSt w q s p j #[x0, x1, x2, x3] ys W) (u : Value) : EscSt w q s p j #[x0, u, x2, x3] ys (W.setCell ⟨q + 1, 1, none⟩ u) := by
  have := h.putX 1 u
  simp only [List.setIfInBounds_toArray, List.set_cons_zero, List.set_cons_succ] at this
  exact this
theorem EscSt.x2 {w : World} {q : Nat} {s : ByteArray} {p : Bool} {j : Nat} {ys : Array Value} {x0 x1 x2 x3 : Value} {W : World} (h : EscSt w q s p j #[x0, x1, x2, x3] ys W) (u : Value) : EscSt w q s p j #[x0, x1, u, x3] ys (W.setCell ⟨q + 1, 2, none⟩ u) := by
  have := h.putX 2 u
  simp only [List.setIfInBounds_toArray, List.set_cons_zero, List.set_cons_succ] at this
  exact this
theorem EscSt.x4 {w : World} {q : Nat} {s : ByteArray} {p : Bool} {j : Nat} {ys : Array Value} {x0 x1 x2 x3 : Value} {W : World} (h : EscSt w q s p j #[x0, x1, x2, x3] ys W) (u0 u1 u2 u3 : Value) : EscSt w q s p j #[u0, u1, u2, u3] ys ((((W.setCell ⟨q + 1, 0, none⟩ u0).setCell ⟨q + 1, 1, none⟩ u1).setCell ⟨q + 1, 2, none⟩ u2).setCell ⟨q + 1, 3, none⟩ u3) := by
  have := (((h.putX 0 u0).putX 1 u1).putX 2 u2).putX 3 u3
  simp only [List.setIfInBounds_toArray, List.set_cons_zero, List.set_cons_succ] at this
  exact this
theorem own_put {w : World} {B b : Nat} {v : Value} {l : List (Int × Int)} (h : OwnR w B v l) (hB : ∀ g, v.ownBlock = some g → g ≠ b) (k : Nat) (u : Value) : OwnR (w.setCell ⟨b, k, none⟩ u) B v l := by
  refine ⟨?_, h.2⟩
  rcases h.1.2 with ⟨rfl, h0⟩ | ⟨q, cap, cur, rfl, h1, hh, h2⟩
  · exact ⟨h.1.1, .inl ⟨rfl, h0⟩⟩
  · refine ⟨h.1.1, .inr ⟨q, cap, cur, rfl, h1, ?_, h2⟩⟩
    rw [Below.heap_setCell _ _ _ _ (hB q (by simp [Value.ownBlock]))]
    exact hh
end Go.Proofs.YtofhckheeijoiaaDoor
/- The program's escape of a text at a place. -/
namespace Go.Proofs.YtofhckheeijoiaaDoor
open Go Go.RowKit
attribute [local go_sem] jump_ret jump_normal jump_exit jump_goto

theorem own_drew {w : World} {B : Nat} {v : Value} {l : List (Int × Int)} (h : OwnR w B v l) : OwnR w.drew B v l := h
set_option maxHeartbeats 12800000 in
set_option maxRecDepth 100000 in
theorem pescape_any (s : ByteArray) (i : Nat) (p : Bool) (w : World) (hs : s.size ≤ 4503599627370496) (hi : i ≤ s.size) (hT : Lib.Utf8Tabs 0 1 w) :
    Calls Tryd.prog 10 #[.string s, .int .i64 i, .bool p] w (EscPost (escS s i p) i w) := by
  obtain ⟨O, hO⟩ : ∃ O, escS s i p = O := ⟨_, rfl⟩
  rw [hO]
  obtain ⟨w1, hw1⟩ : ∃ w1, (w.alloc (.cells #[.int .i64 0, .int .i32 0, .slice none 0 0, .int .i64 0] 27)).alloc (.cells #[.int .i64 0, .int .i64 0, .int .i64 0] 30) = w1 := ⟨_, rfl⟩
  have hE1 : Whole w1 w.heap.size 27 #[.int .i64 0, .int .i32 0, .slice none 0 0, .int .i64 0] := by rw [← hw1]; exact Whole.alloc (heap_alloc_new w _) _
  have hF1 : Whole w1 (w.heap.size + 1) 30 #[.int .i64 0, .int .i64 0, .int .i64 0] := by
    rw [← hw1]
    have := heap_alloc_new (w.alloc (.cells #[.int .i64 0, .int .i32 0, .slice none 0 0, .int .i64 0] 27)) (.cells #[.int .i64 0, .int .i64 0, .int .i64 0] 30)
    simpa [Whole] using this
  have hb1 : Below w.heap.size w w1 := by rw [← hw1]; exact ((Below.refl _ w).alloc (Nat.le_refl _) _).alloc (by simp) _
  have hs1 : w1.heap.size = w.heap.size + 2 := by rw [← hw1]; simp
  have hl3 : 0 < w.heap.size := World.block_lt_of_cell? w ⟨_, 0, none⟩ (hT.1 0 (by decide))
  have hl4 : 1 < w.heap.size := World.block_lt_of_cell? w ⟨_, 2 * 0, none⟩ (hT.2 0 (by decide)).1
  have HW1 := Lib.hid hw1; have HE1 := Lib.hid hE1; have HF1 := Lib.hid hF1; have HB1 := Lib.hid hb1; have HS1 := Lib.hid hs1; have HT := Lib.hid hT; have HO := Lib.hid hO; have HL3 := Lib.hid hl3; have HL4 := Lib.hid hl4
  clear hw1 hE1 hF1 hb1 hs1 hT hO hl3 hl4
  go_enter Tryd.func10, Tryd.ntmps10
  go_upto_region 1 with (fail)
  rw [HW1.out]
  refine wp_scope_fwd 0 rfl ?_
  go_wp2_with fail
  refine (preader_any s i _ hs hi).mono ?_
  rintro e w2 ⟨rfl, hb2⟩
  obtain ⟨w3, hw3⟩ : ∃ w3, ((w2.alloc (.cells #[.string s, .int .i64 i, .bool p] 53)).alloc (.cells #[.int .i64 0, .int .i32 0, .slice none 0 0, .int .i64 0] 27)).alloc (.cells #[.int .i64 1, .int .i64 i, .int .i64 i] 30) = w3 := ⟨_, rfl⟩
  have hS3 : EscSt w w2.heap.size s p i #[.int .i64 0, .int .i32 0, .slice none 0 0, .int .i64 0] #[.int .i64 1, .int .i64 i, .int .i64 i] w3 := by
    have hbb := HB1.out.trans (hb2.mono HB1.out.size)
    have hlt : w.heap.size + 1 < w2.heap.size := Nat.lt_of_lt_of_le (by have := HS1.out; omega) hb2.size
    have e1 := HE1.out.below hb2 (by have := HS1.out; omega)
    have f1 := HF1.out.below hb2 (by have := HS1.out; omega)
    rw [← hw3]
    refine ⟨((hbb.alloc hbb.size _).alloc (by simp; omega) _).alloc (by simp; omega) _, ((e1.alloc _).alloc _).alloc _, ((f1.alloc _).alloc _).alloc _, Whole.alloc (Whole.alloc (heap_alloc_new w2 _) _) _, ?_, ?_, hlt⟩
    · have := Whole.alloc (heap_alloc_new (w2.alloc (.cells #[.string s, .int .i64 i, .bool p] 53)) (.cells #[.int .i64 0, .int .i32 0, .slice none 0 0, .int .i64 0] 27)) (.cells #[.int .i64 1, .int .i64 i, .int .i64 i] 30)
      simpa [Whole] using this
    · have := heap_alloc_new ((w2.alloc (.cells #[.string s, .int .i64 i, .bool p] 53)).alloc (.cells #[.int .i64 0, .int .i32 0, .slice none 0 0, .int .i64 0] 27)) (.cells #[.int .i64 1, .int .i64 i, .int .i64 i] 30)
      simpa [Whole] using this
  have HW3 := Lib.hid hw3; have HS3 := Lib.hid hS3
  clear hw3 hS3 hb2 HW1 HB1 HE1 HF1 HS1
  go_upto_region 7 with (fail)
  rw [HW3.out]
  generalize w2.heap.size = q at HS3 ⊢
  have hq := HS3.out.lt
  clear HW3
  by_cases h92 : headI (leftB s i) = 92
  · have hlt : i + 1 ≤ s.size := head_in (by omega)
    have HP := Lib.hid (ptake_yes q _ _ s 92 i w3 hs hi HS3.out.r 92 rfl h92)
    have HO2 := Lib.hid (HO.out.symm.trans (if_neg (fun h => h h92)))
    clear h92 HO
    go_wp2_with fail
    refine HP.out.mono ?_
    rintro e w4 ⟨rfl, ht4⟩
    have HS4 := Lib.hid (HS3.out.took ht4)
    clear ht4 HP
    obtain ⟨y0, y1, y2, f0, f1, f2⟩ := HS4.out.y.three
    have r1 := HS4.out.r.c1
    go_wp2_with fail
    go_region
    clear y0 y1 y2 f0 f1 f2 r1
    have hS5 := (HS4.out.y02 (.int .i64 62) (.int .i64 ((i : Int) + 1))).drew
    generalize ((w4.setCell ⟨q + 1 + 1, 0, none⟩ (.int .i64 62)).setCell ⟨q + 1 + 1, 2, none⟩ (.int .i64 ((i : Int) + 1))).drew = w5 at hS5 ⊢
    have HS5 := Lib.hid hS5
    clear hS5
    obtain ⟨⟨cn, n⟩, hr⟩ : ∃ x, runeP s (i + 1) = x := ⟨_, rfl⟩
    have HU := Lib.hid (ptakeRune_any q _ _ s (i + 1) w5 hs hlt HS5.out.r (Utf8Tabs_below HT.out HS5.out.bl))
    have hfit := runeP_fit hlt
    unfold RunePost at HU
    rw [hr] at HU hfit
    dsimp only at HU hfit
    obtain ⟨b, hb⟩ : ∃ b, i + 1 + n = b := ⟨_, rfl⟩
    rw [hb] at HU hfit
    by_cases hend : i + 1 = s.size
    · have hn : n = 0 := by
        have : runeP s (i + 1) = (65533, 0) := by unfold runeP; rw [if_neg (by omega)]
        rw [this] at hr
        exact (congrArg Prod.snd hr).symm
      have HX := Lib.hid (HO2.out.trans (if_pos hend))
      rw [show decide (0 < n) = false from decide_eq_false (by omega)] at HU
      clear hr hb hend HO2
      go_wp2_with fail
      refine HU.out.mono ?_
      rintro e w6 ⟨rfl, ht6⟩
      have HS6 := Lib.hid (HS5.out.took ht6)
      clear ht6 HU
      go_wp2_with fail
      go_step3
      refine ⟨rfl, ?_⟩
      obtain ⟨a0, a1, a2, a3, e0, e1, e2, e3⟩ := HS6.out.a.four
      obtain ⟨b0, b1, b2, g0, g1, g2⟩ := HS6.out.b.three
      obtain ⟨y0, y1, y2, -, -, -⟩ := HS6.out.y.three
      go_wp2_with fail
      go_region
      go_wp2_with fail
      rw [Exit.noGoto_ret]
      obtain ⟨r1, r2⟩ := both_whole HS6.out.a HS6.out.b (by omega)
      refine bodyPost_ret (results_etw Tryd.results10 _ rfl r1.drew rfl rfl r2.drew rfl) rfl ?_
      unfold EscPost
      rw [HX.out]
      exact ⟨Below.drew (set3_below (set4_below HS6.out.bl (Nat.le_refl _) _ _ _ _) (Nat.le_succ _) _ _ _), rfl⟩
    have hlt1 : i + 1 < s.size := by omega
    have hr1 : Utf8.decode s (i + 1) = (cn, n) := by
      rw [← hr]
      unfold runeP
      rw [if_pos hlt1]
    have hn0 := decode_some s (i + 1) hlt1
    have HO3 := Lib.hid (HO2.out.trans (if_neg hend))
    rw [hr1] at HO3 hn0
    dsimp only at HO3 hn0
    rw [hb] at HO3
    rw [show decide (0 < n) = true from decide_eq_true hn0] at HU
    obtain ⟨c, hc⟩ : ∃ c : Int, (cn : Int) = c := ⟨_, rfl⟩
    rw [hc] at HO3 HU
    clear hr hr1 hn0 hb hend HO2 hc
    go_wp2_with fail
    refine HU.out.mono ?_
    rintro e w6 ⟨rfl, ht6⟩
    have HS6 := Lib.hid (HS5.out.took ht6)
    clear ht6 HU
    obtain ⟨y0, y1, y2, f0, f1, f2⟩ := HS6.out.y.three
    have r1 := HS6.out.r.c1
    go_wp2_with fail
    go_region
    clear y0 y1 y2 f0 f1 f2 r1
    have hS7 := (HS6.out.y02 (.int .i64 61) (.int .i64 (b : Int))).drew
    generalize ((w6.setCell ⟨q + 1 + 1, 0, none⟩ (.int .i64 61)).setCell ⟨q + 1 + 1, 2, none⟩ (.int .i64 (b : Int))).drew = w7 at hS7 ⊢
    have HS7 := Lib.hid hS7
    clear hS7
    by_cases h120 : c = 120
    · subst h120
      have HO4 := Lib.hid (show O = match numberS s b with | none => .bad 61 b | some (v, k) => .esc 1 v [] 0 k from HO3.out)
      clear HO3
      obtain ⟨x0, x1, x2, x3, e0, e1, e2, e3⟩ := HS7.out.x.four
      go_upto_region 17 with (fail)
      clear x0 x1 x2 x3 e0 e1 e2 e3
      have hS8 := HS7.out.x0 (.int .i64 1)
      generalize w7.setCell ⟨q + 1, 0, none⟩ (.int .i64 1) = w8 at hS8 ⊢
      have HS8 := Lib.hid hS8
      clear hS8
      have HM := Lib.hid (phex_any q _ _ s b w8 hs hfit HS8.out.r)
      go_wp2_with fail
      refine HM.out.mono ?_
      rintro e w9 (⟨v, k, hm, rfl, ht9⟩ | ⟨hm, v, k, hks, rfl, ht9⟩)
      · have HX := Lib.hid (show O = .esc 1 v [] 0 k by rw [HO4.out, hm])
        have HS9 := Lib.hid (HS8.out.took ht9)
        clear hm ht9 HO4 HM
        obtain ⟨x0, x1, x2, x3, e0, e1, e2, e3⟩ := HS9.out.x.four
        go_upto_region 18 with (fail)
        clear x0 x1 x2 x3 e0 e1 e2 e3
        have hS10 := HS9.out.x1 (.int .i32 v)
        generalize w9.setCell ⟨q + 1, 1, none⟩ (.int .i32 v) = w10 at hS10 ⊢
        have HS10 := Lib.hid hS10
        clear hS10
        obtain ⟨a0, a1, a2, a3, e0, e1, e2, e3⟩ := HS10.out.a.four
        obtain ⟨b0, b1, b2, g0, g1, g2⟩ := HS10.out.b.three
        obtain ⟨x0, x1, x2, x3, -, -, -, -⟩ := HS10.out.x.four
        have r1 := HS10.out.r.c1
        go_wp2_with fail
        go_region
        go_wp2_with fail
        rw [jump_ret]
        obtain ⟨r1, r2⟩ := both_whole HS10.out.a HS10.out.b (by omega)
        refine bodyPost_ret (results_etw Tryd.results10 _ rfl r1.drew rfl rfl r2.drew rfl) rfl ?_
        unfold EscPost
        rw [HX.out]
        refine ⟨Below.drew (set3_below (set4_below HS10.out.bl (Nat.le_refl _) _ _ _ _) (Nat.le_succ _) _ _ _), ⟨.slice none 0 0, rfl, ?_⟩⟩
        exact own_none _ _
      · have HX := Lib.hid (show O = .bad 61 b by rw [HO4.out, hm])
        have HS9 := Lib.hid (HS8.out.took ht9)
        clear hm ht9 HO4 HM
        obtain ⟨x0, x1, x2, x3, e0, e1, e2, e3⟩ := HS9.out.x.four
        go_upto_region 18 with (fail)
        clear x0 x1 x2 x3 e0 e1 e2 e3
        have hS10 := HS9.out.x1 (.int .i32 v)
        generalize w9.setCell ⟨q + 1, 1, none⟩ (.int .i32 v) = w10 at hS10 ⊢
        have HS10 := Lib.hid hS10
        clear hS10
        go_wp2_with fail
        go_step3
        refine ⟨rfl, ?_⟩
        obtain ⟨a0, a1, a2, a3, e0, e1, e2, e3⟩ := HS10.out.a.four
        obtain ⟨b0, b1, b2, g0, g1, g2⟩ := HS10.out.b.three
        obtain ⟨y0, y1, y2, -, -, -⟩ := HS10.out.y.three
        go_wp2_with fail
        go_region
        go_wp2_with fail
        rw [Exit.noGoto_ret]
        obtain ⟨r1, r2⟩ := both_whole HS10.out.a HS10.out.b (by omega)
        refine bodyPost_ret (results_etw Tryd.results10 _ rfl r1.drew rfl rfl r2.drew rfl) rfl ?_
        unfold EscPost
        rw [HX.out]
        exact ⟨Below.drew (set3_below (set4_below HS10.out.bl (Nat.le_refl _) _ _ _ _) (Nat.le_succ _) _ _ _), rfl⟩
    have b120 := eq_false_of h120
    by_cases hp : c = 112 ∨ c = 80
    · have HM := Lib.hid (pprop6_any q _ _ s b w7 hs hfit HS7.out.r (Utf8Tabs_below HT.out HS7.out.bl) (fun e => by have := HL3.out; omega) (fun e => by have := HL4.out; omega))
      obtain ⟨up, hup⟩ : ∃ up, decide (c = 80) = up := ⟨_, rfl⟩
      have HO4 := Lib.hid (show O = match propS s b with | none => .bad 61 b | some (nm, k) => match propR nm up with | none => .bad 63 k | some l => .esc 2 0 l 0 k by
        rw [HO3.out, ← hup]
        rcases hp with rfl | rfl <;> rfl)
      have hb80 : (c == 80) = up := by
        rw [← hup]
        by_cases h : c = 80
        · rw [decide_eq_true h, eq_true_of h]
        · rw [decide_eq_false h, eq_false_of h]
      have hor : (c == 112) = true ∨ c = 80 := by
        rcases hp with h | h
        · exact .inl (eq_true_of h)
        · exact .inr h
      have HB80 := Lib.hid hb80
      clear hup hp HO3 h120 hb80
      rcases hor with b112 | h80
      · have b80 := HB80.out
        go_wp2_with fail
        refine HM.out.mono ?_
        rintro e w8 (⟨nm, k, nb, hm, hnb, hks, rfl, ht8⟩ | ⟨hm, nb, k, hks, rfl, ht8⟩)
        · have HO5 := Lib.hid (show O = match propR nm up with | none => .bad 63 k | some l => .esc 2 0 l 0 k by rw [HO4.out, hm])
          have HS8 := Lib.hid (HS7.out.took ht8)
          clear hm ht8 HO4 HM
          obtain ⟨y0, y1, y2, f0, f1, f2⟩ := HS8.out.y.three
          have r1 := HS8.out.r.c1
          go_wp2_with fail
          go_region
          clear y0 y1 y2 f0 f1 f2 r1
          have hS9 := (HS8.out.y02 (.int .i64 63) (.int .i64 (k : Int))).drew
          generalize ((w8.setCell ⟨q + 1 + 1, 0, none⟩ (.int .i64 63)).setCell ⟨q + 1 + 1, 2, none⟩ (.int .i64 (k : Int))).drew = w9 at hS9 ⊢
          have HS9 := Lib.hid hS9
          clear hS9
          obtain ⟨x0, x1, x2, x3, e0, e1, e2, e3⟩ := HS9.out.x.four
          go_upto_region 25 with (fail)
          clear x0 x1 x2 x3 e0 e1 e2 e3
          have hS10 := HS9.out.x0 (.int .i64 2)
          generalize w9.setCell ⟨q + 1, 0, none⟩ (.int .i64 2) = w10 at hS10 ⊢
          have HS10 := Lib.hid hS10
          clear hS10
          have HPR := Lib.hid (prop_any nb up w10)
          rw [hnb] at HPR
          have hsz := HS10.out.y.lt
          clear hnb
          go_wp2_with fail
          refine HPR.out.mono ?_
          rintro e w11 ⟨hb11, ⟨hq2, rfl⟩ | ⟨v, l, hq2, rfl, ho⟩⟩
          · have HX := Lib.hid (show O = .bad 63 k by rw [HO5.out, hq2])
            have HS11 := Lib.hid (HS10.out.below hb11)
            clear hq2 hb11 HPR HO5
            obtain ⟨x0, x1, x2, x3, e0, e1, e2, e3⟩ := HS11.out.x.four
            go_upto_region 26 with (fail)
            clear x0 x1 x2 x3 e0 e1 e2 e3
            have hS12 := HS11.out.x2 (.slice none 0 0)
            generalize w11.setCell ⟨q + 1, 2, none⟩ (.slice none 0 0) = w12 at hS12 ⊢
            have HS12 := Lib.hid hS12
            clear hS12
            go_wp2_with fail
            go_step3
            refine ⟨rfl, ?_⟩
            obtain ⟨a0, a1, a2, a3, e0, e1, e2, e3⟩ := HS12.out.a.four
            obtain ⟨b0, b1, b2, g0, g1, g2⟩ := HS12.out.b.three
            obtain ⟨y0, y1, y2, -, -, -⟩ := HS12.out.y.three
            go_wp2_with fail
            go_region
            go_wp2_with fail
            rw [Exit.noGoto_ret]
            obtain ⟨r1, r2⟩ := both_whole HS12.out.a HS12.out.b (by omega)
            refine bodyPost_ret (results_etw Tryd.results10 _ rfl r1.drew rfl rfl r2.drew rfl) rfl ?_
            unfold EscPost
            rw [HX.out]
            exact ⟨Below.drew (set3_below (set4_below HS12.out.bl (Nat.le_refl _) _ _ _ _) (Nat.le_succ _) _ _ _), rfl⟩
          · have HX := Lib.hid (show O = .esc 2 0 l 0 k by rw [HO5.out, hq2])
            have HS11 := Lib.hid (HS10.out.below hb11)
            have HOW := Lib.hid ho; have HGE := Lib.hid (own_ge ho)
            obtain ⟨A, cA, hvs, -⟩ := ho.rgs
            subst hvs
            clear hq2 hb11 HPR HO5 ho
            obtain ⟨x0, x1, x2, x3, e0, e1, e2, e3⟩ := HS11.out.x.four
            go_upto_region 26 with (fail)
            clear x0 x1 x2 x3 e0 e1 e2 e3
            have hS12 := HS11.out.x2 (.slice A l.length cA)
            have hO12 := own_put (b := q + 1) HOW.out (fun g hg => by have := HGE.out g hg; omega) 2 (.slice A l.length cA)
            generalize w11.setCell ⟨q + 1, 2, none⟩ (.slice A l.length cA) = w12 at hS12 hO12 ⊢
            have HS12 := Lib.hid hS12; have HOX := Lib.hid hO12
            clear hS12 hO12
            obtain ⟨a0, a1, a2, a3, e0, e1, e2, e3⟩ := HS12.out.a.four
            obtain ⟨b0, b1, b2, g0, g1, g2⟩ := HS12.out.b.three
            obtain ⟨x0, x1, x2, x3, -, -, -, -⟩ := HS12.out.x.four
            have r1 := HS12.out.r.c1
            go_wp2_with fail
            go_region
            go_wp2_with fail
            rw [jump_ret]
            obtain ⟨r1, r2⟩ := both_whole HS12.out.a HS12.out.b (by omega)
            refine bodyPost_ret (results_etw Tryd.results10 _ rfl r1.drew rfl rfl r2.drew rfl) rfl ?_
            unfold EscPost
            rw [HX.out]
            refine ⟨Below.drew (set3_below (set4_below HS12.out.bl (Nat.le_refl _) _ _ _ _) (Nat.le_succ _) _ _ _), ⟨.slice A l.length cA, rfl, ?_⟩⟩
            have hlo := HS10.out.bl.size
            have hlt9 := HS10.out.lt
            refine own_drew ?_
            refine own_set3 ?_ (fun g hg => by have := HGE.out g hg; omega) _ _ _
            exact own_set4 (HOX.out.mono hlo) (fun g hg => by have := HGE.out g hg; omega) _ _ _ _
        · have HX := Lib.hid (show O = .bad 61 b by rw [HO4.out, hm])
          have HS8 := Lib.hid (HS7.out.took ht8)
          clear hm ht8 HO4 HM
          go_wp2_with fail
          go_step3
          refine ⟨rfl, ?_⟩
          obtain ⟨a0, a1, a2, a3, e0, e1, e2, e3⟩ := HS8.out.a.four
          obtain ⟨b0, b1, b2, g0, g1, g2⟩ := HS8.out.b.three
          obtain ⟨y0, y1, y2, -, -, -⟩ := HS8.out.y.three
          go_wp2_with fail
          go_region
          go_wp2_with fail
          rw [Exit.noGoto_ret]
          obtain ⟨r1, r2⟩ := both_whole HS8.out.a HS8.out.b (by omega)
          refine bodyPost_ret (results_etw Tryd.results10 _ rfl r1.drew rfl rfl r2.drew rfl) rfl ?_
          unfold EscPost
          rw [HX.out]
          exact ⟨Below.drew (set3_below (set4_below HS8.out.bl (Nat.le_refl _) _ _ _ _) (Nat.le_succ _) _ _ _), rfl⟩
      · subst h80
        obtain rfl : true = up := HB80.out
        clear b120 HB80
        go_wp2_with fail
        refine HM.out.mono ?_
        rintro e w8 (⟨nm, k, nb, hm, hnb, hks, rfl, ht8⟩ | ⟨hm, nb, k, hks, rfl, ht8⟩)
        · have HO5 := Lib.hid (show O = match propR nm true with | none => .bad 63 k | some l => .esc 2 0 l 0 k by rw [HO4.out, hm])
          have HS8 := Lib.hid (HS7.out.took ht8)
          clear hm ht8 HO4 HM
          obtain ⟨y0, y1, y2, f0, f1, f2⟩ := HS8.out.y.three
          have r1 := HS8.out.r.c1
          go_wp2_with fail
          go_region
          clear y0 y1 y2 f0 f1 f2 r1
          have hS9 := (HS8.out.y02 (.int .i64 63) (.int .i64 (k : Int))).drew
          generalize ((w8.setCell ⟨q + 1 + 1, 0, none⟩ (.int .i64 63)).setCell ⟨q + 1 + 1, 2, none⟩ (.int .i64 (k : Int))).drew = w9 at hS9 ⊢
          have HS9 := Lib.hid hS9
          clear hS9
          obtain ⟨x0, x1, x2, x3, e0, e1, e2, e3⟩ := HS9.out.x.four
          go_upto_region 25 with (fail)
          clear x0 x1 x2 x3 e0 e1 e2 e3
          have hS10 := HS9.out.x0 (.int .i64 2)
          generalize w9.setCell ⟨q + 1, 0, none⟩ (.int .i64 2) = w10 at hS10 ⊢
          have HS10 := Lib.hid hS10
          clear hS10
          have HPR := Lib.hid (prop_any nb true w10)
          rw [hnb] at HPR
          have hsz := HS10.out.y.lt
          clear hnb
          go_wp2_with fail
          refine HPR.out.mono ?_
          rintro e w11 ⟨hb11, ⟨hq2, rfl⟩ | ⟨v, l, hq2, rfl, ho⟩⟩
          · have HX := Lib.hid (show O = .bad 63 k by rw [HO5.out, hq2])
            have HS11 := Lib.hid (HS10.out.below hb11)
            clear hq2 hb11 HPR HO5
            obtain ⟨x0, x1, x2, x3, e0, e1, e2, e3⟩ := HS11.out.x.four
            go_upto_region 26 with (fail)
            clear x0 x1 x2 x3 e0 e1 e2 e3
            have hS12 := HS11.out.x2 (.slice none 0 0)
            generalize w11.setCell ⟨q + 1, 2, none⟩ (.slice none 0 0) = w12 at hS12 ⊢
            have HS12 := Lib.hid hS12
            clear hS12
            go_wp2_with fail
            go_step3
            refine ⟨rfl, ?_⟩
            obtain ⟨a0, a1, a2, a3, e0, e1, e2, e3⟩ := HS12.out.a.four
            obtain ⟨b0, b1, b2, g0, g1, g2⟩ := HS12.out.b.three
            obtain ⟨y0, y1, y2, -, -, -⟩ := HS12.out.y.three
            go_wp2_with fail
            go_region
            go_wp2_with fail
            rw [Exit.noGoto_ret]
            obtain ⟨r1, r2⟩ := both_whole HS12.out.a HS12.out.b (by omega)
            refine bodyPost_ret (results_etw Tryd.results10 _ rfl r1.drew rfl rfl r2.drew rfl) rfl ?_
            unfold EscPost
            rw [HX.out]
            exact ⟨Below.drew (set3_below (set4_below HS12.out.bl (Nat.le_refl _) _ _ _ _) (Nat.le_succ _) _ _ _), rfl⟩
          · have HX := Lib.hid (show O = .esc 2 0 l 0 k by rw [HO5.out, hq2])
            have HS11 := Lib.hid (HS10.out.below hb11)
            have HOW := Lib.hid ho; have HGE := Lib.hid (own_ge ho)
            obtain ⟨A, cA, hvs, -⟩ := ho.rgs
            subst hvs
            clear hq2 hb11 HPR HO5 ho
            obtain ⟨x0, x1, x2, x3, e0, e1, e2, e3⟩ := HS11.out.x.four
            go_upto_region 26 with (fail)
            clear x0 x1 x2 x3 e0 e1 e2 e3
            have hS12 := HS11.out.x2 (.slice A l.length cA)
            have hO12 := own_put (b := q + 1) HOW.out (fun g hg => by have := HGE.out g hg; omega) 2 (.slice A l.length cA)
            generalize w11.setCell ⟨q + 1, 2, none⟩ (.slice A l.length cA) = w12 at hS12 hO12 ⊢
            have HS12 := Lib.hid hS12; have HOX := Lib.hid hO12
            clear hS12 hO12
            obtain ⟨a0, a1, a2, a3, e0, e1, e2, e3⟩ := HS12.out.a.four
            obtain ⟨b0, b1, b2, g0, g1, g2⟩ := HS12.out.b.three
            obtain ⟨x0, x1, x2, x3, -, -, -, -⟩ := HS12.out.x.four
            have r1 := HS12.out.r.c1
            go_wp2_with fail
            go_region
            go_wp2_with fail
            rw [jump_ret]
            obtain ⟨r1, r2⟩ := both_whole HS12.out.a HS12.out.b (by omega)
            refine bodyPost_ret (results_etw Tryd.results10 _ rfl r1.drew rfl rfl r2.drew rfl) rfl ?_
            unfold EscPost
            rw [HX.out]
            refine ⟨Below.drew (set3_below (set4_below HS12.out.bl (Nat.le_refl _) _ _ _ _) (Nat.le_succ _) _ _ _), ⟨.slice A l.length cA, rfl, ?_⟩⟩
            have hlo := HS10.out.bl.size
            have hlt9 := HS10.out.lt
            refine own_drew ?_
            refine own_set3 ?_ (fun g hg => by have := HGE.out g hg; omega) _ _ _
            exact own_set4 (HOX.out.mono hlo) (fun g hg => by have := HGE.out g hg; omega) _ _ _ _
        · have HX := Lib.hid (show O = .bad 61 b by rw [HO4.out, hm])
          have HS8 := Lib.hid (HS7.out.took ht8)
          clear hm ht8 HO4 HM
          go_wp2_with fail
          go_step3
          refine ⟨rfl, ?_⟩
          obtain ⟨a0, a1, a2, a3, e0, e1, e2, e3⟩ := HS8.out.a.four
          obtain ⟨b0, b1, b2, g0, g1, g2⟩ := HS8.out.b.three
          obtain ⟨y0, y1, y2, -, -, -⟩ := HS8.out.y.three
          go_wp2_with fail
          go_region
          go_wp2_with fail
          rw [Exit.noGoto_ret]
          obtain ⟨r1, r2⟩ := both_whole HS8.out.a HS8.out.b (by omega)
          refine bodyPost_ret (results_etw Tryd.results10 _ rfl r1.drew rfl rfl r2.drew rfl) rfl ?_
          unfold EscPost
          rw [HX.out]
          exact ⟨Below.drew (set3_below (set4_below HS8.out.bl (Nat.le_refl _) _ _ _ _) (Nat.le_succ _) _ _ _), rfl⟩
    have b112 := eq_false_of (fun h => hp (.inl h))
    have b80 := eq_false_of (fun h => hp (.inr h))
    have HO4 := Lib.hid (HO3.out.trans (alone_esc s c b p h120 hp))
    have HM := Lib.hid (palone_any q c p w7 (Whole.cell HS7.out.r 2))
    clear HO3 h120 hp
    go_wp2_with fail
    refine HM.out.mono ?_
    rintro e w8 ⟨hb8, ⟨hm, rfl⟩ | ⟨k, r, l, a, v, hm, rfl, ho⟩⟩
    · have HX := Lib.hid (show O = .bad 61 b by rw [HO4.out, hm])
      have HS8 := Lib.hid (HS7.out.below hb8)
      clear hm hb8 HO4 HM
      obtain ⟨x0, x1, x2, x3, e0, e1, e2, e3⟩ := HS8.out.x.four
      unfold escV
      go_upto_region 14 with (fail)
      clear x0 x1 x2 x3 e0 e1 e2 e3
      have hS9 := HS8.out.x4 (.int .i64 0) (.int .i32 0) (.slice none 0 0) (.int .i64 0)
      generalize ((((w8.setCell ⟨q + 1, 0, none⟩ (.int .i64 0)).setCell ⟨q + 1, 1, none⟩ (.int .i32 0)).setCell ⟨q + 1, 2, none⟩ (.slice none 0 0)).setCell ⟨q + 1, 3, none⟩ (.int .i64 0)) = w9 at hS9  ⊢
      have HS9 := Lib.hid hS9
      clear hS9 
      go_wp2_with fail
      go_step3
      refine ⟨rfl, ?_⟩
      obtain ⟨a0, a1, a2, a3, e0, e1, e2, e3⟩ := HS9.out.a.four
      obtain ⟨b0, b1, b2, g0, g1, g2⟩ := HS9.out.b.three
      obtain ⟨y0, y1, y2, -, -, -⟩ := HS9.out.y.three
      go_wp2_with fail
      go_region
      go_wp2_with fail
      rw [Exit.noGoto_ret]
      obtain ⟨r1, r2⟩ := both_whole HS9.out.a HS9.out.b (by omega)
      refine bodyPost_ret (results_etw Tryd.results10 _ rfl r1.drew rfl rfl r2.drew rfl) rfl ?_
      unfold EscPost
      rw [HX.out]
      exact ⟨Below.drew (set3_below (set4_below HS9.out.bl (Nat.le_refl _) _ _ _ _) (Nat.le_succ _) _ _ _), rfl⟩
    · have HX := Lib.hid (show O = .esc k r l a b by rw [HO4.out, hm])
      have HS8 := Lib.hid (HS7.out.below hb8)
      have hsz := HS7.out.y.lt
      have HOW := Lib.hid ho; have HGE := Lib.hid (own_ge ho)
      obtain ⟨A, cA, hvs, -⟩ := ho.rgs
      subst hvs
      clear hm hb8 HO4 HM ho
      obtain ⟨x0, x1, x2, x3, e0, e1, e2, e3⟩ := HS8.out.x.four
      unfold escV
      go_upto_region 14 with (fail)
      clear x0 x1 x2 x3 e0 e1 e2 e3
      have hS9 := HS8.out.x4 (.int .i64 k) (.int .i32 r) (.slice A l.length cA) (.int .i64 a)
      have hO9 := (own_put (b := q + 1) (own_put (b := q + 1) (own_put (b := q + 1) (own_put (b := q + 1) HOW.out (fun g hg => by have := HGE.out g hg; omega) 0 (.int .i64 k)) (fun g hg => by have := HGE.out g hg; omega) 1 (.int .i32 r)) (fun g hg => by have := HGE.out g hg; omega) 2 (.slice A l.length cA)) (fun g hg => by have := HGE.out g hg; omega) 3 (.int .i64 a))
      generalize ((((w8.setCell ⟨q + 1, 0, none⟩ (.int .i64 k)).setCell ⟨q + 1, 1, none⟩ (.int .i32 r)).setCell ⟨q + 1, 2, none⟩ (.slice A l.length cA)).setCell ⟨q + 1, 3, none⟩ (.int .i64 a)) = w9 at hS9 hO9 ⊢
      have HS9 := Lib.hid hS9; have HOX := Lib.hid hO9
      clear hS9 hO9
      obtain ⟨a0, a1, a2, a3, e0, e1, e2, e3⟩ := HS9.out.a.four
      obtain ⟨b0, b1, b2, g0, g1, g2⟩ := HS9.out.b.three
      obtain ⟨x0, x1, x2, x3, -, -, -, -⟩ := HS9.out.x.four
      have r1 := HS9.out.r.c1
      go_wp2_with fail
      go_region
      go_wp2_with fail
      rw [jump_ret]
      obtain ⟨r1, r2⟩ := both_whole HS9.out.a HS9.out.b (by omega)
      refine bodyPost_ret (results_etw Tryd.results10 _ rfl r1.drew rfl rfl r2.drew rfl) rfl ?_
      unfold EscPost
      rw [HX.out]
      refine ⟨Below.drew (set3_below (set4_below HS9.out.bl (Nat.le_refl _) _ _ _ _) (Nat.le_succ _) _ _ _), ⟨.slice A l.length cA, rfl, ?_⟩⟩
      have hlo := HS7.out.bl.size
      have hlt9 := HS7.out.lt
      refine own_drew ?_
      refine own_set3 ?_ (fun g hg => by have := HGE.out g hg; omega) _ _ _
      exact own_set4 (HOX.out.mono hlo) (fun g hg => by have := HGE.out g hg; omega) _ _ _ _
  · have HX := Lib.hid (HO.out.symm.trans (if_pos h92))
    have HP := Lib.hid (ptake_no q _ _ s 92 i w3 hs hi HS3.out.r 92 rfl h92)
    clear h92 HO
    go_wp2_with fail
    refine HP.out.mono ?_
    rintro e w4 ⟨rfl, ht4⟩
    have HS4 := Lib.hid (HS3.out.took ht4)
    clear ht4 HP
    go_wp2_with fail
    go_step3
    refine ⟨rfl, ?_⟩
    obtain ⟨a0, a1, a2, a3, e0, e1, e2, e3⟩ := HS4.out.a.four
    obtain ⟨b0, b1, b2, g0, g1, g2⟩ := HS4.out.b.three
    obtain ⟨y0, y1, y2, -, -, -⟩ := HS4.out.y.three
    go_wp2_with fail
    go_region
    go_wp2_with fail
    rw [Exit.noGoto_ret]
    obtain ⟨r1, r2⟩ := both_whole HS4.out.a HS4.out.b (by omega)
    refine bodyPost_ret (results_etw Tryd.results10 _ rfl r1.drew rfl rfl r2.drew rfl) rfl ?_
    unfold EscPost
    rw [HX.out]
    exact ⟨Below.drew (set3_below (set4_below HS4.out.bl (Nat.le_refl _) _ _ _ _) (Nat.le_succ _) _ _ _), rfl⟩
end Go.Proofs.YtofhckheeijoiaaDoor
