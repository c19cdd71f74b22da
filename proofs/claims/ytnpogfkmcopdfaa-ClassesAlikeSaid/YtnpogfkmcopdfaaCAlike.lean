/- Names that mean the same have the same sets. From the program's contracts. -/
import Derived.Test.YtnpogfkmcopdfaaCLaws
set_option linter.unusedVariables false
namespace Go.Proofs.Ytnpogfkmcopdfaa
open Go Go.RowKit

theorem posix_lit (s : ByteArray) (l : List (Int × Int)) (w : World) (h : posixR s.toList = some l) : Calls Try.prog 12 #[.string s] w fun e w' => ∃ v, e = .returned (.tuple #[v, .bool true]) ∧ Rgs w' v l ∧ Below w.heap.size w w' := by
  refine (posix_any s w).mono ?_
  intro e w' hp
  rw [h] at hp
  obtain ⟨v, rfl, ho, hb⟩ := post2_form hp
  exact ⟨v, rfl, ho.rgs, hb⟩
theorem perl_lit (c : Int) (l : List (Int × Int)) (w : World) (h : perlR c = some l) : Calls Try.prog 9 #[.int .u8 c] w fun e w' => ∃ v, e = .returned (.tuple #[v, .bool true]) ∧ Rgs w' v l ∧ Below w.heap.size w w' := by
  refine (perl_any c w).mono ?_
  intro e w' hp
  rw [h] at hp
  obtain ⟨v, rfl, ho, hb⟩ := post2_form hp
  exact ⟨v, rfl, ho.rgs, hb⟩
theorem has_at {w : World} {v : Value} {l : List (Int × Int)} {B : Bool} {c : Int} (h : Rgs w v l) (hB : B = true ↔ HasR l c) (q : Nat) : Calls Try.prog 19 #[v, .int .i32 c] (w.drewN q) fun e w' => ∃ q', e = .returned (.bool B) ∧ w' = w.drewN q' := by
  refine (rhas_any v l c _ (h.below (below_drewNr (Below.refl _ _) q))).mono ?_
  rintro e w' ⟨B', rfl, hq, q', rfl⟩
  refine ⟨q + q', ?_, World.drewN_drewN _ _ _⟩
  have : B' = B := by
    cases B' <;> cases B <;> simp_all
  rw [this]
theorem has_t {w : World} {v : Value} {l : List (Int × Int)} {c : Int} (h : Rgs w v l) (hB : HasR l c) (q : Nat) : Calls Try.prog 19 #[v, .int .i32 c] (w.drewN q) fun e w' => ∃ q', e = .returned (.bool true) ∧ w' = w.drewN q' :=
  has_at h ⟨fun _ => hB, fun _ => rfl⟩ q
theorem has_f {w : World} {v : Value} {l : List (Int × Int)} {c : Int} (h : Rgs w v l) (hB : ¬ HasR l c) (q : Nat) : Calls Try.prog 19 #[v, .int .i32 c] (w.drewN q) fun e w' => ∃ q', e = .returned (.bool false) ∧ w' = w.drewN q' :=
  has_at h ⟨fun e => (by cases e), fun e => absurd e hB⟩ q
theorem same_at {w : World} {v u : Value} {l : List (Int × Int)} (h : Rgs w v l) (g : Rgs w u l) (q : Nat) : Calls Try.prog 11 #[v, u] (w.drewN q) fun e w' => ∃ q', e = .returned (.bool true) ∧ w' = w.drewN q' := by
  refine (rsame_any v u l l _ (h.below (below_drewNr (Below.refl _ _) q)) (g.below (below_drewNr (Below.refl _ _) q))).mono ?_
  rintro e w' ⟨B', rfl, hq, q', rfl⟩
  obtain rfl : B' = true := hq.2 rfl
  exact ⟨q + q', rfl, World.drewN_drewN _ _ _⟩
theorem bool_of (P : Prop) : ∃ b : Bool, b = true ↔ P := by
  by_cases h : P
  · exact ⟨true, by simp [h]⟩
  · exact ⟨false, by simp [h]⟩
def alR : List (Int × Int) := [(48, 57), (65, 90), (97, 122)]
def apR : List (Int × Int) := [(65, 90), (97, 122)]
def grR : List (Int × Int) := [(33, 126)]
def puR : List (Int × Int) := [(33, 47), (58, 64), (91, 96), (123, 126)]
theorem al_is (c : Int) : HasR alR c ↔ HasR apR c ∨ HasR dR c := by
  simp only [HasR, alR, apR, dR, List.mem_cons, List.not_mem_nil, or_false, exists_eq_or_imp, exists_eq_left]
  omega
theorem gr_is (c : Int) : HasR grR c ↔ HasR alR c ∨ HasR puR c := by
  simp only [HasR, alR, grR, puR, List.mem_cons, List.not_mem_nil, or_false, exists_eq_or_imp, exists_eq_left]
  omega
theorem wo_is (c : Int) : HasR wR c ↔ HasR alR c ∨ c = 95 := by
  simp only [HasR, alR, wR, List.mem_cons, List.not_mem_nil, or_false, exists_eq_or_imp, exists_eq_left]
  omega
set_option maxHeartbeats 8000000 in
set_option maxRecDepth 100000 in
theorem calike_any (w : World) (c : Int) : Calls Try.prog 7 #[.int .i32 c] w fun e w' => e = .returned (.bool true) ∧ Below w.heap.size w w' := by
  obtain ⟨ba, hba⟩ : ∃ b : Bool, b = true ↔ HasR apR c := bool_of _
  obtain ⟨bd, hbd⟩ : ∃ b : Bool, b = true ↔ HasR dR c := bool_of _
  obtain ⟨bp, hbp⟩ : ∃ b : Bool, b = true ↔ HasR puR c := bool_of _
  obtain ⟨bu, hbu⟩ : ∃ b : Bool, (c == 95) = b := ⟨_, rfl⟩
  have hal : (ba || bd) = true ↔ HasR alR c := by rw [al_is, Bool.or_eq_true, hba, hbd]
  have hgr : ((ba || bd) || bp) = true ↔ HasR grR c := by rw [gr_is, Bool.or_eq_true, hal, hbp]
  have hwo : ((ba || bd) || bu) = true ↔ HasR wR c := by rw [wo_is, Bool.or_eq_true, hal, ← hbu, beq_iff_eq]
  have HAP := Lib.hid hba; have HD := Lib.hid hbd; have HPU := Lib.hid hbp; have HAL := Lib.hid hal; have HGR := Lib.hid hgr; have HWO := Lib.hid hwo
  clear hba hbd hbp hal hgr hwo
  go_enter Try.func7, Try.ntmps7
  go_wp2_with fail
  refine (chead_any w).mono ?_
  rintro e w1 ⟨rfl, hb⟩
  have HT := Lib.hid hb
  clear hb
  go_wp2_with fail
  refine (perl_lit 119 wR _ rfl).mono ?_
  rintro e w_w ⟨v_w, rfl, hr, hb⟩
  have R_w := Lib.hid hr
  replace HT := Lib.hid (HT.out.trans (hb.mono HT.out.size))
  clear hr hb
  go_wp2_with fail
  refine (posix_lit ⟨#[119, 111, 114, 100]⟩ wR _ (by rw [show (⟨#[119, 111, 114, 100]⟩ : ByteArray).toList = [119, 111, 114, 100] by kernel_rfl]; rfl)).mono ?_
  rintro e w_word ⟨v_word, rfl, hr, hb⟩
  replace R_w := Lib.hid (R_w.out.below hb)
  have R_word := Lib.hid hr
  replace HT := Lib.hid (HT.out.trans (hb.mono HT.out.size))
  clear hr hb
  go_wp2_with fail
  refine (perl_lit 100 dR _ rfl).mono ?_
  rintro e w_d ⟨v_d, rfl, hr, hb⟩
  replace R_w := Lib.hid (R_w.out.below hb)
  replace R_word := Lib.hid (R_word.out.below hb)
  have R_d := Lib.hid hr
  replace HT := Lib.hid (HT.out.trans (hb.mono HT.out.size))
  clear hr hb
  go_wp2_with fail
  refine (posix_lit ⟨#[100, 105, 103, 105, 116]⟩ dR _ (by rw [show (⟨#[100, 105, 103, 105, 116]⟩ : ByteArray).toList = [100, 105, 103, 105, 116] by kernel_rfl]; rfl)).mono ?_
  rintro e w_digit ⟨v_digit, rfl, hr, hb⟩
  replace R_w := Lib.hid (R_w.out.below hb)
  replace R_word := Lib.hid (R_word.out.below hb)
  replace R_d := Lib.hid (R_d.out.below hb)
  have R_digit := Lib.hid hr
  replace HT := Lib.hid (HT.out.trans (hb.mono HT.out.size))
  clear hr hb
  go_wp2_with fail
  refine (posix_lit ⟨#[97, 108, 110, 117, 109]⟩ alR _ (by rw [show (⟨#[97, 108, 110, 117, 109]⟩ : ByteArray).toList = [97, 108, 110, 117, 109] by kernel_rfl]; rfl)).mono ?_
  rintro e w_alnum ⟨v_alnum, rfl, hr, hb⟩
  replace R_w := Lib.hid (R_w.out.below hb)
  replace R_word := Lib.hid (R_word.out.below hb)
  replace R_d := Lib.hid (R_d.out.below hb)
  replace R_digit := Lib.hid (R_digit.out.below hb)
  have R_alnum := Lib.hid hr
  replace HT := Lib.hid (HT.out.trans (hb.mono HT.out.size))
  clear hr hb
  go_wp2_with fail
  refine (posix_lit ⟨#[97, 108, 112, 104, 97]⟩ apR _ (by rw [show (⟨#[97, 108, 112, 104, 97]⟩ : ByteArray).toList = [97, 108, 112, 104, 97] by kernel_rfl]; rfl)).mono ?_
  rintro e w_alpha ⟨v_alpha, rfl, hr, hb⟩
  replace R_w := Lib.hid (R_w.out.below hb)
  replace R_word := Lib.hid (R_word.out.below hb)
  replace R_d := Lib.hid (R_d.out.below hb)
  replace R_digit := Lib.hid (R_digit.out.below hb)
  replace R_alnum := Lib.hid (R_alnum.out.below hb)
  have R_alpha := Lib.hid hr
  replace HT := Lib.hid (HT.out.trans (hb.mono HT.out.size))
  clear hr hb
  go_wp2_with fail
  refine (posix_lit ⟨#[103, 114, 97, 112, 104]⟩ grR _ (by rw [show (⟨#[103, 114, 97, 112, 104]⟩ : ByteArray).toList = [103, 114, 97, 112, 104] by kernel_rfl]; rfl)).mono ?_
  rintro e w_graph ⟨v_graph, rfl, hr, hb⟩
  replace R_w := Lib.hid (R_w.out.below hb)
  replace R_word := Lib.hid (R_word.out.below hb)
  replace R_d := Lib.hid (R_d.out.below hb)
  replace R_digit := Lib.hid (R_digit.out.below hb)
  replace R_alnum := Lib.hid (R_alnum.out.below hb)
  replace R_alpha := Lib.hid (R_alpha.out.below hb)
  have R_graph := Lib.hid hr
  replace HT := Lib.hid (HT.out.trans (hb.mono HT.out.size))
  clear hr hb
  go_wp2_with fail
  refine (posix_lit ⟨#[112, 117, 110, 99, 116]⟩ puR _ (by rw [show (⟨#[112, 117, 110, 99, 116]⟩ : ByteArray).toList = [112, 117, 110, 99, 116] by kernel_rfl]; rfl)).mono ?_
  rintro e w_punct ⟨v_punct, rfl, hr, hb⟩
  replace R_w := Lib.hid (R_w.out.below hb)
  replace R_word := Lib.hid (R_word.out.below hb)
  replace R_d := Lib.hid (R_d.out.below hb)
  replace R_digit := Lib.hid (R_digit.out.below hb)
  replace R_alnum := Lib.hid (R_alnum.out.below hb)
  replace R_alpha := Lib.hid (R_alpha.out.below hb)
  replace R_graph := Lib.hid (R_graph.out.below hb)
  have R_punct := Lib.hid hr
  replace HT := Lib.hid (HT.out.trans (hb.mono HT.out.size))
  clear hr hb
  go_wp2_with fail
  refine (rsame_any v_w v_word _ _ _ R_w.out R_word.out).mono ?_
  rintro e wq ⟨B, rfl, hq, q, rfl⟩
  obtain rfl : B = true := hq.2 rfl
  clear hq
  go_wp2_with fail
  refine (same_at R_d.out R_digit.out _).mono ?_
  rintro e wq ⟨q1, rfl, rfl⟩
  cases ba
  · cases bd
    · cases bp
      · cases bu
        · as_aux_lemma =>
            replace HAP := Lib.hid (show ¬ HasR apR c from fun h => absurd (HAP.out.2 h) (by decide))
            replace HD := Lib.hid (show ¬ HasR dR c from fun h => absurd (HD.out.2 h) (by decide))
            replace HPU := Lib.hid (show ¬ HasR puR c from fun h => absurd (HPU.out.2 h) (by decide))
            replace HAL := Lib.hid (show ¬ HasR alR c from fun h => absurd (HAL.out.2 h) (by decide))
            replace HGR := Lib.hid (show ¬ HasR grR c from fun h => absurd (HGR.out.2 h) (by decide))
            replace HWO := Lib.hid (show ¬ HasR wR c from fun h => absurd (HWO.out.2 h) (by decide))
            go_wp2_with fail
            refine (has_f R_alnum.out HAL.out _).mono ?_
            rintro e wq ⟨q1, rfl, rfl⟩
            go_wp2_with fail
            refine (has_f R_alpha.out HAP.out _).mono ?_
            rintro e wq ⟨q1, rfl, rfl⟩
            go_wp2_with fail
            refine (has_f R_digit.out HD.out _).mono ?_
            rintro e wq ⟨q1, rfl, rfl⟩
            go_wp2_with fail
            refine (has_f R_graph.out HGR.out _).mono ?_
            rintro e wq ⟨q1, rfl, rfl⟩
            go_wp2_with fail
            refine (has_f R_alnum.out HAL.out _).mono ?_
            rintro e wq ⟨q1, rfl, rfl⟩
            go_wp2_with fail
            refine (has_f R_punct.out HPU.out _).mono ?_
            rintro e wq ⟨q1, rfl, rfl⟩
            go_wp2_with fail
            refine (has_f R_word.out HWO.out _).mono ?_
            rintro e wq ⟨q1, rfl, rfl⟩
            go_wp2_with fail
            refine (has_f R_alnum.out HAL.out _).mono ?_
            rintro e wq ⟨q1, rfl, rfl⟩
            have HT2 := Lib.hid (below_drewNr HT.out q1)
            go_wp2_with fail
            go_ret
            exact ⟨rfl, HT2.out⟩
        · as_aux_lemma =>
            replace HAP := Lib.hid (show ¬ HasR apR c from fun h => absurd (HAP.out.2 h) (by decide))
            replace HD := Lib.hid (show ¬ HasR dR c from fun h => absurd (HD.out.2 h) (by decide))
            replace HPU := Lib.hid (show ¬ HasR puR c from fun h => absurd (HPU.out.2 h) (by decide))
            replace HAL := Lib.hid (show ¬ HasR alR c from fun h => absurd (HAL.out.2 h) (by decide))
            replace HGR := Lib.hid (show ¬ HasR grR c from fun h => absurd (HGR.out.2 h) (by decide))
            replace HWO := Lib.hid (HWO.out.1 rfl)
            go_wp2_with fail
            refine (has_f R_alnum.out HAL.out _).mono ?_
            rintro e wq ⟨q1, rfl, rfl⟩
            go_wp2_with fail
            refine (has_f R_alpha.out HAP.out _).mono ?_
            rintro e wq ⟨q1, rfl, rfl⟩
            go_wp2_with fail
            refine (has_f R_digit.out HD.out _).mono ?_
            rintro e wq ⟨q1, rfl, rfl⟩
            go_wp2_with fail
            refine (has_f R_graph.out HGR.out _).mono ?_
            rintro e wq ⟨q1, rfl, rfl⟩
            go_wp2_with fail
            refine (has_f R_alnum.out HAL.out _).mono ?_
            rintro e wq ⟨q1, rfl, rfl⟩
            go_wp2_with fail
            refine (has_f R_punct.out HPU.out _).mono ?_
            rintro e wq ⟨q1, rfl, rfl⟩
            go_wp2_with fail
            refine (has_t R_word.out HWO.out _).mono ?_
            rintro e wq ⟨q1, rfl, rfl⟩
            go_wp2_with fail
            refine (has_f R_alnum.out HAL.out _).mono ?_
            rintro e wq ⟨q1, rfl, rfl⟩
            have HT2 := Lib.hid (below_drewNr HT.out q1)
            go_wp2_with fail
            go_ret
            exact ⟨rfl, HT2.out⟩
      · cases bu
        · as_aux_lemma =>
            replace HAP := Lib.hid (show ¬ HasR apR c from fun h => absurd (HAP.out.2 h) (by decide))
            replace HD := Lib.hid (show ¬ HasR dR c from fun h => absurd (HD.out.2 h) (by decide))
            replace HPU := Lib.hid (HPU.out.1 rfl)
            replace HAL := Lib.hid (show ¬ HasR alR c from fun h => absurd (HAL.out.2 h) (by decide))
            replace HGR := Lib.hid (HGR.out.1 rfl)
            replace HWO := Lib.hid (show ¬ HasR wR c from fun h => absurd (HWO.out.2 h) (by decide))
            go_wp2_with fail
            refine (has_f R_alnum.out HAL.out _).mono ?_
            rintro e wq ⟨q1, rfl, rfl⟩
            go_wp2_with fail
            refine (has_f R_alpha.out HAP.out _).mono ?_
            rintro e wq ⟨q1, rfl, rfl⟩
            go_wp2_with fail
            refine (has_f R_digit.out HD.out _).mono ?_
            rintro e wq ⟨q1, rfl, rfl⟩
            go_wp2_with fail
            refine (has_t R_graph.out HGR.out _).mono ?_
            rintro e wq ⟨q1, rfl, rfl⟩
            go_wp2_with fail
            refine (has_f R_alnum.out HAL.out _).mono ?_
            rintro e wq ⟨q1, rfl, rfl⟩
            go_wp2_with fail
            refine (has_t R_punct.out HPU.out _).mono ?_
            rintro e wq ⟨q1, rfl, rfl⟩
            go_wp2_with fail
            refine (has_f R_word.out HWO.out _).mono ?_
            rintro e wq ⟨q1, rfl, rfl⟩
            go_wp2_with fail
            refine (has_f R_alnum.out HAL.out _).mono ?_
            rintro e wq ⟨q1, rfl, rfl⟩
            have HT2 := Lib.hid (below_drewNr HT.out q1)
            go_wp2_with fail
            go_ret
            exact ⟨rfl, HT2.out⟩
        · as_aux_lemma =>
            replace HAP := Lib.hid (show ¬ HasR apR c from fun h => absurd (HAP.out.2 h) (by decide))
            replace HD := Lib.hid (show ¬ HasR dR c from fun h => absurd (HD.out.2 h) (by decide))
            replace HPU := Lib.hid (HPU.out.1 rfl)
            replace HAL := Lib.hid (show ¬ HasR alR c from fun h => absurd (HAL.out.2 h) (by decide))
            replace HGR := Lib.hid (HGR.out.1 rfl)
            replace HWO := Lib.hid (HWO.out.1 rfl)
            go_wp2_with fail
            refine (has_f R_alnum.out HAL.out _).mono ?_
            rintro e wq ⟨q1, rfl, rfl⟩
            go_wp2_with fail
            refine (has_f R_alpha.out HAP.out _).mono ?_
            rintro e wq ⟨q1, rfl, rfl⟩
            go_wp2_with fail
            refine (has_f R_digit.out HD.out _).mono ?_
            rintro e wq ⟨q1, rfl, rfl⟩
            go_wp2_with fail
            refine (has_t R_graph.out HGR.out _).mono ?_
            rintro e wq ⟨q1, rfl, rfl⟩
            go_wp2_with fail
            refine (has_f R_alnum.out HAL.out _).mono ?_
            rintro e wq ⟨q1, rfl, rfl⟩
            go_wp2_with fail
            refine (has_t R_punct.out HPU.out _).mono ?_
            rintro e wq ⟨q1, rfl, rfl⟩
            go_wp2_with fail
            refine (has_t R_word.out HWO.out _).mono ?_
            rintro e wq ⟨q1, rfl, rfl⟩
            go_wp2_with fail
            refine (has_f R_alnum.out HAL.out _).mono ?_
            rintro e wq ⟨q1, rfl, rfl⟩
            have HT2 := Lib.hid (below_drewNr HT.out q1)
            go_wp2_with fail
            go_ret
            exact ⟨rfl, HT2.out⟩
    · cases bp
      · cases bu
        · as_aux_lemma =>
            replace HAP := Lib.hid (show ¬ HasR apR c from fun h => absurd (HAP.out.2 h) (by decide))
            replace HD := Lib.hid (HD.out.1 rfl)
            replace HPU := Lib.hid (show ¬ HasR puR c from fun h => absurd (HPU.out.2 h) (by decide))
            replace HAL := Lib.hid (HAL.out.1 rfl)
            replace HGR := Lib.hid (HGR.out.1 rfl)
            replace HWO := Lib.hid (HWO.out.1 rfl)
            go_wp2_with fail
            refine (has_t R_alnum.out HAL.out _).mono ?_
            rintro e wq ⟨q1, rfl, rfl⟩
            go_wp2_with fail
            refine (has_f R_alpha.out HAP.out _).mono ?_
            rintro e wq ⟨q1, rfl, rfl⟩
            go_wp2_with fail
            refine (has_t R_digit.out HD.out _).mono ?_
            rintro e wq ⟨q1, rfl, rfl⟩
            go_wp2_with fail
            refine (has_t R_graph.out HGR.out _).mono ?_
            rintro e wq ⟨q1, rfl, rfl⟩
            go_wp2_with fail
            refine (has_t R_alnum.out HAL.out _).mono ?_
            rintro e wq ⟨q1, rfl, rfl⟩
            go_wp2_with fail
            refine (has_t R_word.out HWO.out _).mono ?_
            rintro e wq ⟨q1, rfl, rfl⟩
            go_wp2_with fail
            refine (has_t R_alnum.out HAL.out _).mono ?_
            rintro e wq ⟨q1, rfl, rfl⟩
            have HT2 := Lib.hid (below_drewNr HT.out q1)
            go_wp2_with fail
            go_ret
            exact ⟨rfl, HT2.out⟩
        · as_aux_lemma =>
            replace HAP := Lib.hid (show ¬ HasR apR c from fun h => absurd (HAP.out.2 h) (by decide))
            replace HD := Lib.hid (HD.out.1 rfl)
            replace HPU := Lib.hid (show ¬ HasR puR c from fun h => absurd (HPU.out.2 h) (by decide))
            replace HAL := Lib.hid (HAL.out.1 rfl)
            replace HGR := Lib.hid (HGR.out.1 rfl)
            replace HWO := Lib.hid (HWO.out.1 rfl)
            go_wp2_with fail
            refine (has_t R_alnum.out HAL.out _).mono ?_
            rintro e wq ⟨q1, rfl, rfl⟩
            go_wp2_with fail
            refine (has_f R_alpha.out HAP.out _).mono ?_
            rintro e wq ⟨q1, rfl, rfl⟩
            go_wp2_with fail
            refine (has_t R_digit.out HD.out _).mono ?_
            rintro e wq ⟨q1, rfl, rfl⟩
            go_wp2_with fail
            refine (has_t R_graph.out HGR.out _).mono ?_
            rintro e wq ⟨q1, rfl, rfl⟩
            go_wp2_with fail
            refine (has_t R_alnum.out HAL.out _).mono ?_
            rintro e wq ⟨q1, rfl, rfl⟩
            go_wp2_with fail
            refine (has_t R_word.out HWO.out _).mono ?_
            rintro e wq ⟨q1, rfl, rfl⟩
            go_wp2_with fail
            refine (has_t R_alnum.out HAL.out _).mono ?_
            rintro e wq ⟨q1, rfl, rfl⟩
            have HT2 := Lib.hid (below_drewNr HT.out q1)
            go_wp2_with fail
            go_ret
            exact ⟨rfl, HT2.out⟩
      · cases bu
        · as_aux_lemma =>
            replace HAP := Lib.hid (show ¬ HasR apR c from fun h => absurd (HAP.out.2 h) (by decide))
            replace HD := Lib.hid (HD.out.1 rfl)
            replace HPU := Lib.hid (HPU.out.1 rfl)
            replace HAL := Lib.hid (HAL.out.1 rfl)
            replace HGR := Lib.hid (HGR.out.1 rfl)
            replace HWO := Lib.hid (HWO.out.1 rfl)
            go_wp2_with fail
            refine (has_t R_alnum.out HAL.out _).mono ?_
            rintro e wq ⟨q1, rfl, rfl⟩
            go_wp2_with fail
            refine (has_f R_alpha.out HAP.out _).mono ?_
            rintro e wq ⟨q1, rfl, rfl⟩
            go_wp2_with fail
            refine (has_t R_digit.out HD.out _).mono ?_
            rintro e wq ⟨q1, rfl, rfl⟩
            go_wp2_with fail
            refine (has_t R_graph.out HGR.out _).mono ?_
            rintro e wq ⟨q1, rfl, rfl⟩
            go_wp2_with fail
            refine (has_t R_alnum.out HAL.out _).mono ?_
            rintro e wq ⟨q1, rfl, rfl⟩
            go_wp2_with fail
            refine (has_t R_word.out HWO.out _).mono ?_
            rintro e wq ⟨q1, rfl, rfl⟩
            go_wp2_with fail
            refine (has_t R_alnum.out HAL.out _).mono ?_
            rintro e wq ⟨q1, rfl, rfl⟩
            have HT2 := Lib.hid (below_drewNr HT.out q1)
            go_wp2_with fail
            go_ret
            exact ⟨rfl, HT2.out⟩
        · as_aux_lemma =>
            replace HAP := Lib.hid (show ¬ HasR apR c from fun h => absurd (HAP.out.2 h) (by decide))
            replace HD := Lib.hid (HD.out.1 rfl)
            replace HPU := Lib.hid (HPU.out.1 rfl)
            replace HAL := Lib.hid (HAL.out.1 rfl)
            replace HGR := Lib.hid (HGR.out.1 rfl)
            replace HWO := Lib.hid (HWO.out.1 rfl)
            go_wp2_with fail
            refine (has_t R_alnum.out HAL.out _).mono ?_
            rintro e wq ⟨q1, rfl, rfl⟩
            go_wp2_with fail
            refine (has_f R_alpha.out HAP.out _).mono ?_
            rintro e wq ⟨q1, rfl, rfl⟩
            go_wp2_with fail
            refine (has_t R_digit.out HD.out _).mono ?_
            rintro e wq ⟨q1, rfl, rfl⟩
            go_wp2_with fail
            refine (has_t R_graph.out HGR.out _).mono ?_
            rintro e wq ⟨q1, rfl, rfl⟩
            go_wp2_with fail
            refine (has_t R_alnum.out HAL.out _).mono ?_
            rintro e wq ⟨q1, rfl, rfl⟩
            go_wp2_with fail
            refine (has_t R_word.out HWO.out _).mono ?_
            rintro e wq ⟨q1, rfl, rfl⟩
            go_wp2_with fail
            refine (has_t R_alnum.out HAL.out _).mono ?_
            rintro e wq ⟨q1, rfl, rfl⟩
            have HT2 := Lib.hid (below_drewNr HT.out q1)
            go_wp2_with fail
            go_ret
            exact ⟨rfl, HT2.out⟩
  · cases bd
    · cases bp
      · cases bu
        · as_aux_lemma =>
            replace HAP := Lib.hid (HAP.out.1 rfl)
            replace HD := Lib.hid (show ¬ HasR dR c from fun h => absurd (HD.out.2 h) (by decide))
            replace HPU := Lib.hid (show ¬ HasR puR c from fun h => absurd (HPU.out.2 h) (by decide))
            replace HAL := Lib.hid (HAL.out.1 rfl)
            replace HGR := Lib.hid (HGR.out.1 rfl)
            replace HWO := Lib.hid (HWO.out.1 rfl)
            go_wp2_with fail
            refine (has_t R_alnum.out HAL.out _).mono ?_
            rintro e wq ⟨q1, rfl, rfl⟩
            go_wp2_with fail
            refine (has_t R_alpha.out HAP.out _).mono ?_
            rintro e wq ⟨q1, rfl, rfl⟩
            go_wp2_with fail
            refine (has_t R_graph.out HGR.out _).mono ?_
            rintro e wq ⟨q1, rfl, rfl⟩
            go_wp2_with fail
            refine (has_t R_alnum.out HAL.out _).mono ?_
            rintro e wq ⟨q1, rfl, rfl⟩
            go_wp2_with fail
            refine (has_t R_word.out HWO.out _).mono ?_
            rintro e wq ⟨q1, rfl, rfl⟩
            go_wp2_with fail
            refine (has_t R_alnum.out HAL.out _).mono ?_
            rintro e wq ⟨q1, rfl, rfl⟩
            have HT2 := Lib.hid (below_drewNr HT.out q1)
            go_wp2_with fail
            go_ret
            exact ⟨rfl, HT2.out⟩
        · as_aux_lemma =>
            replace HAP := Lib.hid (HAP.out.1 rfl)
            replace HD := Lib.hid (show ¬ HasR dR c from fun h => absurd (HD.out.2 h) (by decide))
            replace HPU := Lib.hid (show ¬ HasR puR c from fun h => absurd (HPU.out.2 h) (by decide))
            replace HAL := Lib.hid (HAL.out.1 rfl)
            replace HGR := Lib.hid (HGR.out.1 rfl)
            replace HWO := Lib.hid (HWO.out.1 rfl)
            go_wp2_with fail
            refine (has_t R_alnum.out HAL.out _).mono ?_
            rintro e wq ⟨q1, rfl, rfl⟩
            go_wp2_with fail
            refine (has_t R_alpha.out HAP.out _).mono ?_
            rintro e wq ⟨q1, rfl, rfl⟩
            go_wp2_with fail
            refine (has_t R_graph.out HGR.out _).mono ?_
            rintro e wq ⟨q1, rfl, rfl⟩
            go_wp2_with fail
            refine (has_t R_alnum.out HAL.out _).mono ?_
            rintro e wq ⟨q1, rfl, rfl⟩
            go_wp2_with fail
            refine (has_t R_word.out HWO.out _).mono ?_
            rintro e wq ⟨q1, rfl, rfl⟩
            go_wp2_with fail
            refine (has_t R_alnum.out HAL.out _).mono ?_
            rintro e wq ⟨q1, rfl, rfl⟩
            have HT2 := Lib.hid (below_drewNr HT.out q1)
            go_wp2_with fail
            go_ret
            exact ⟨rfl, HT2.out⟩
      · cases bu
        · as_aux_lemma =>
            replace HAP := Lib.hid (HAP.out.1 rfl)
            replace HD := Lib.hid (show ¬ HasR dR c from fun h => absurd (HD.out.2 h) (by decide))
            replace HPU := Lib.hid (HPU.out.1 rfl)
            replace HAL := Lib.hid (HAL.out.1 rfl)
            replace HGR := Lib.hid (HGR.out.1 rfl)
            replace HWO := Lib.hid (HWO.out.1 rfl)
            go_wp2_with fail
            refine (has_t R_alnum.out HAL.out _).mono ?_
            rintro e wq ⟨q1, rfl, rfl⟩
            go_wp2_with fail
            refine (has_t R_alpha.out HAP.out _).mono ?_
            rintro e wq ⟨q1, rfl, rfl⟩
            go_wp2_with fail
            refine (has_t R_graph.out HGR.out _).mono ?_
            rintro e wq ⟨q1, rfl, rfl⟩
            go_wp2_with fail
            refine (has_t R_alnum.out HAL.out _).mono ?_
            rintro e wq ⟨q1, rfl, rfl⟩
            go_wp2_with fail
            refine (has_t R_word.out HWO.out _).mono ?_
            rintro e wq ⟨q1, rfl, rfl⟩
            go_wp2_with fail
            refine (has_t R_alnum.out HAL.out _).mono ?_
            rintro e wq ⟨q1, rfl, rfl⟩
            have HT2 := Lib.hid (below_drewNr HT.out q1)
            go_wp2_with fail
            go_ret
            exact ⟨rfl, HT2.out⟩
        · as_aux_lemma =>
            replace HAP := Lib.hid (HAP.out.1 rfl)
            replace HD := Lib.hid (show ¬ HasR dR c from fun h => absurd (HD.out.2 h) (by decide))
            replace HPU := Lib.hid (HPU.out.1 rfl)
            replace HAL := Lib.hid (HAL.out.1 rfl)
            replace HGR := Lib.hid (HGR.out.1 rfl)
            replace HWO := Lib.hid (HWO.out.1 rfl)
            go_wp2_with fail
            refine (has_t R_alnum.out HAL.out _).mono ?_
            rintro e wq ⟨q1, rfl, rfl⟩
            go_wp2_with fail
            refine (has_t R_alpha.out HAP.out _).mono ?_
            rintro e wq ⟨q1, rfl, rfl⟩
            go_wp2_with fail
            refine (has_t R_graph.out HGR.out _).mono ?_
            rintro e wq ⟨q1, rfl, rfl⟩
            go_wp2_with fail
            refine (has_t R_alnum.out HAL.out _).mono ?_
            rintro e wq ⟨q1, rfl, rfl⟩
            go_wp2_with fail
            refine (has_t R_word.out HWO.out _).mono ?_
            rintro e wq ⟨q1, rfl, rfl⟩
            go_wp2_with fail
            refine (has_t R_alnum.out HAL.out _).mono ?_
            rintro e wq ⟨q1, rfl, rfl⟩
            have HT2 := Lib.hid (below_drewNr HT.out q1)
            go_wp2_with fail
            go_ret
            exact ⟨rfl, HT2.out⟩
    · cases bp
      · cases bu
        · as_aux_lemma =>
            replace HAP := Lib.hid (HAP.out.1 rfl)
            replace HD := Lib.hid (HD.out.1 rfl)
            replace HPU := Lib.hid (show ¬ HasR puR c from fun h => absurd (HPU.out.2 h) (by decide))
            replace HAL := Lib.hid (HAL.out.1 rfl)
            replace HGR := Lib.hid (HGR.out.1 rfl)
            replace HWO := Lib.hid (HWO.out.1 rfl)
            go_wp2_with fail
            refine (has_t R_alnum.out HAL.out _).mono ?_
            rintro e wq ⟨q1, rfl, rfl⟩
            go_wp2_with fail
            refine (has_t R_alpha.out HAP.out _).mono ?_
            rintro e wq ⟨q1, rfl, rfl⟩
            go_wp2_with fail
            refine (has_t R_graph.out HGR.out _).mono ?_
            rintro e wq ⟨q1, rfl, rfl⟩
            go_wp2_with fail
            refine (has_t R_alnum.out HAL.out _).mono ?_
            rintro e wq ⟨q1, rfl, rfl⟩
            go_wp2_with fail
            refine (has_t R_word.out HWO.out _).mono ?_
            rintro e wq ⟨q1, rfl, rfl⟩
            go_wp2_with fail
            refine (has_t R_alnum.out HAL.out _).mono ?_
            rintro e wq ⟨q1, rfl, rfl⟩
            have HT2 := Lib.hid (below_drewNr HT.out q1)
            go_wp2_with fail
            go_ret
            exact ⟨rfl, HT2.out⟩
        · as_aux_lemma =>
            replace HAP := Lib.hid (HAP.out.1 rfl)
            replace HD := Lib.hid (HD.out.1 rfl)
            replace HPU := Lib.hid (show ¬ HasR puR c from fun h => absurd (HPU.out.2 h) (by decide))
            replace HAL := Lib.hid (HAL.out.1 rfl)
            replace HGR := Lib.hid (HGR.out.1 rfl)
            replace HWO := Lib.hid (HWO.out.1 rfl)
            go_wp2_with fail
            refine (has_t R_alnum.out HAL.out _).mono ?_
            rintro e wq ⟨q1, rfl, rfl⟩
            go_wp2_with fail
            refine (has_t R_alpha.out HAP.out _).mono ?_
            rintro e wq ⟨q1, rfl, rfl⟩
            go_wp2_with fail
            refine (has_t R_graph.out HGR.out _).mono ?_
            rintro e wq ⟨q1, rfl, rfl⟩
            go_wp2_with fail
            refine (has_t R_alnum.out HAL.out _).mono ?_
            rintro e wq ⟨q1, rfl, rfl⟩
            go_wp2_with fail
            refine (has_t R_word.out HWO.out _).mono ?_
            rintro e wq ⟨q1, rfl, rfl⟩
            go_wp2_with fail
            refine (has_t R_alnum.out HAL.out _).mono ?_
            rintro e wq ⟨q1, rfl, rfl⟩
            have HT2 := Lib.hid (below_drewNr HT.out q1)
            go_wp2_with fail
            go_ret
            exact ⟨rfl, HT2.out⟩
      · cases bu
        · as_aux_lemma =>
            replace HAP := Lib.hid (HAP.out.1 rfl)
            replace HD := Lib.hid (HD.out.1 rfl)
            replace HPU := Lib.hid (HPU.out.1 rfl)
            replace HAL := Lib.hid (HAL.out.1 rfl)
            replace HGR := Lib.hid (HGR.out.1 rfl)
            replace HWO := Lib.hid (HWO.out.1 rfl)
            go_wp2_with fail
            refine (has_t R_alnum.out HAL.out _).mono ?_
            rintro e wq ⟨q1, rfl, rfl⟩
            go_wp2_with fail
            refine (has_t R_alpha.out HAP.out _).mono ?_
            rintro e wq ⟨q1, rfl, rfl⟩
            go_wp2_with fail
            refine (has_t R_graph.out HGR.out _).mono ?_
            rintro e wq ⟨q1, rfl, rfl⟩
            go_wp2_with fail
            refine (has_t R_alnum.out HAL.out _).mono ?_
            rintro e wq ⟨q1, rfl, rfl⟩
            go_wp2_with fail
            refine (has_t R_word.out HWO.out _).mono ?_
            rintro e wq ⟨q1, rfl, rfl⟩
            go_wp2_with fail
            refine (has_t R_alnum.out HAL.out _).mono ?_
            rintro e wq ⟨q1, rfl, rfl⟩
            have HT2 := Lib.hid (below_drewNr HT.out q1)
            go_wp2_with fail
            go_ret
            exact ⟨rfl, HT2.out⟩
        · as_aux_lemma =>
            replace HAP := Lib.hid (HAP.out.1 rfl)
            replace HD := Lib.hid (HD.out.1 rfl)
            replace HPU := Lib.hid (HPU.out.1 rfl)
            replace HAL := Lib.hid (HAL.out.1 rfl)
            replace HGR := Lib.hid (HGR.out.1 rfl)
            replace HWO := Lib.hid (HWO.out.1 rfl)
            go_wp2_with fail
            refine (has_t R_alnum.out HAL.out _).mono ?_
            rintro e wq ⟨q1, rfl, rfl⟩
            go_wp2_with fail
            refine (has_t R_alpha.out HAP.out _).mono ?_
            rintro e wq ⟨q1, rfl, rfl⟩
            go_wp2_with fail
            refine (has_t R_graph.out HGR.out _).mono ?_
            rintro e wq ⟨q1, rfl, rfl⟩
            go_wp2_with fail
            refine (has_t R_alnum.out HAL.out _).mono ?_
            rintro e wq ⟨q1, rfl, rfl⟩
            go_wp2_with fail
            refine (has_t R_word.out HWO.out _).mono ?_
            rintro e wq ⟨q1, rfl, rfl⟩
            go_wp2_with fail
            refine (has_t R_alnum.out HAL.out _).mono ?_
            rintro e wq ⟨q1, rfl, rfl⟩
            have HT2 := Lib.hid (below_drewNr HT.out q1)
            go_wp2_with fail
            go_ret
            exact ⟨rfl, HT2.out⟩
end Go.Proofs.Ytnpogfkmcopdfaa
