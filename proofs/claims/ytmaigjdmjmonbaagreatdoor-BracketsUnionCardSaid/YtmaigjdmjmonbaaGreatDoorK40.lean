/- Texts merged by program: BrUnion. No condition. -/
import Derived.Test.YtmaigjdmjmonbaaGreatDoorK39
import Derived.Test.YtmaigjdmjmonbaaGreatDoorK34
import Derived.Test.YtmaigjdmjmonbaaGreatDoorK13
set_option linter.unusedVariables false
/- Two lists of runes by their numbers in one class: what both have. From the program's contract pclass7_any. -/
namespace Go.Proofs.YtmaigjdmjmonbaaGreatDoor
open Go Go.RowKit

theorem has_both {a b : List (Int × Int)} {c : Int} : HasR (a ++ b) c ↔ HasR a c ∨ HasR b c := by
  unfold HasR
  constructor
  · rintro ⟨h0, h1, r, hr, h2⟩
    rcases List.mem_append.1 hr with hr | hr
    · exact .inl ⟨h0, h1, r, hr, h2⟩
    · exact .inr ⟨h0, h1, r, hr, h2⟩
  · rintro (⟨h0, h1, r, hr, h2⟩ | ⟨h0, h1, r, hr, h2⟩)
    · exact ⟨h0, h1, r, List.mem_append.2 (.inl hr), h2⟩
    · exact ⟨h0, h1, r, List.mem_append.2 (.inr hr), h2⟩
theorem class_both {fo : Bool} {a b : List (Int × Int)} {c : Int} : ClassHas fo false (a ++ b) c ↔ ClassHas fo false a c ∨ ClassHas fo false b c := by
  unfold ClassHas FoldHas
  cases fo
  · simp only [Bool.false_eq_true, if_false]
    exact has_both
  · simp only [Bool.false_eq_true, if_false, if_true]
    constructor
    · rintro ⟨d, h1, h2⟩
      rcases has_both.1 h1 with h1 | h1
      · exact .inl ⟨d, h1, h2⟩
      · exact .inr ⟨d, h1, h2⟩
    · rintro (⟨d, h1, h2⟩ | ⟨d, h1, h2⟩)
      · exact ⟨d, has_both.2 (.inl h1), h2⟩
      · exact ⟨d, has_both.2 (.inr h1), h2⟩
theorem fits_both {a b : List (Int × Int)} (ha : Fits a) (hb : Fits b) : Fits (a ++ b) := fun r hr => (List.mem_append.1 hr).elim (ha r) (hb r)
theorem fits4 {l : List (Int × Int)} (h : Fits l) : ∀ r ∈ l, 0 ≤ r.1 ∧ r.1 ≤ 1114111 ∧ 0 ≤ r.2 ∧ r.2 ≤ 1114111 := fun r hr => by
  have := h r hr
  omega
/-- What a class of runes by their numbers has. -/
def SetOf (fo : Bool) (all : List (Int × Int)) (w : World) (e : Ending) (w' : World) : Prop :=
  ∃ v n l, e = .returned (.tuple #[v, .int .i64 n, .agg #[.int .i64 0, .int .i64 0, .int .i64 0]]) ∧ Rgs w' v l ∧ RightR l ∧ (∀ c, HasR l c ↔ ClassHas fo false all c) ∧ Below w.heap.size w w'
theorem setof_any {S : ByteArray} {l : List (Int × Int)} (f : Int) (fo : Bool) (hfo : flagB f 1 = fo) (hl : Fits l) (h0 : l ≠ []) (hlen : l.length ≤ 100) (hS : S.toList = 91 :: (codesL l ++ [93])) (W : World) (hT : Tabs7 W) :
    Calls Tryz.prog 8 #[.string S, .int .i64 0, .int .i64 f] W (SetOf fo l W) := by
  have hsz : S.size ≤ 900000 := by
    rw [size_list7, hS]
    have := codes_short l (fits4 hl)
    simp
    omega
  obtain ⟨n, h1, h2⟩ := class_codes (S := S) (flagB f 32) hl h0 hS
  have hp := pclass7_any S 0 f W hsz (Nat.zero_le _) hT
  rw [h1, h2, hfo] at hp
  refine hp.mono ?_
  rintro e w' ⟨hb, v, k, rfl, ho, hr, hh⟩
  exact ⟨v, n, k, rfl, ho.rgs, hr, hh, hb⟩
set_option maxHeartbeats 6400000 in
set_option maxRecDepth 100000 in
theorem bunion_any (w : World) (va vb : Value) (la lb : List (Int × Int)) (f : Int) (ga : Rgs w va la) (gb : Rgs w vb lb) (hT : Tabs7 w) (hd : De64 w) :
    Calls Tryz.prog 6 #[va, vb, .int .i64 f] w fun e w' => e = .returned (.bool true) ∧ Below w.heap.size w w' := by
  have GA := Lib.hid ga; have GB := Lib.hid gb; have HT := Lib.hid hT; have HD := Lib.hid hd
  have HH := Lib.hid (bhead_any w hT)
  obtain ⟨fo, hfo⟩ : ∃ fo, flagB f 1 = fo := ⟨_, rfl⟩
  have HFO := Lib.hid hfo
  have hfb : (bits .and .i64 f 1 != 0) = fo := hfo
  obtain ⟨A, cA, rfl, ha2, ha3, -⟩ := ga
  obtain ⟨B, cB, rfl, hb2, hb3, -⟩ := gb
  have hla : la.length ≤ 9223372036854775807 := by unfold maxLen at ha3; omega
  have hlb : lb.length ≤ 9223372036854775807 := by unfold maxLen at hb3; omega
  clear hT hd hfo ha2 ha3 hb2 hb3
  go_enter Tryz.func6, Tryz.ntmps6
  go_wp2_with fail
  refine HH.out.mono ?_
  rintro e w1 ⟨rfl, hb⟩
  have HB1 := Lib.hid hb
  replace GA := Lib.hid (GA.out.below hb); replace GB := Lib.hid (GB.out.below hb)
  clear hb HH
  by_cases hbig : 50 < la.length
  · have k0 : (50 : Int) < (la.length : Int) := by omega
    go_wp2_with fail
    go_ret
    exact ⟨rfl, HB1.out⟩
  have k0 : ¬ (50 : Int) < (la.length : Int) := by omega
  by_cases hbig2 : 50 < lb.length
  · have k1 : (50 : Int) < (lb.length : Int) := by omega
    go_wp2_with fail
    go_ret
    exact ⟨rfl, HB1.out⟩
  have k1 : ¬ (50 : Int) < (lb.length : Int) := by omega
  go_wp2_with fail
  refine (rnorm_any _ la w1 GA.out (by omega)).mono ?_
  rintro e w2 ⟨v1, s1, rfl, ho, hr, hh, hb⟩
  have HB2 := Lib.hid (HB1.out.trans (hb.mono HB1.out.size))
  replace GB := Lib.hid (GB.out.below hb)
  have G1 := Lib.hid ho.rgs; have R1 := Lib.hid hr
  have h1s : s1.length ≤ 50 := Nat.le_trans (set_short hr hh) (by omega)
  obtain ⟨A1, c1, hv, -⟩ := ho.rgs
  subst hv
  clear ho hr hh hb
  go_wp2_with fail
  refine (rnorm_any _ lb w2 GB.out (by omega)).mono ?_
  rintro e w3 ⟨v2, s2, rfl, ho, hr, hh, hb⟩
  have HB3 := Lib.hid (HB2.out.trans (hb.mono HB2.out.size))
  replace G1 := Lib.hid (G1.out.below hb)
  have G2 := Lib.hid ho.rgs; have R2 := Lib.hid hr
  have h2s : s2.length ≤ 50 := Nat.le_trans (set_short hr hh) (by omega)
  obtain ⟨A2, c2, hv, -⟩ := ho.rgs
  subst hv
  clear ho hr hh hb GA GB hbig hbig2
  by_cases hz1 : s1.length = 0
  · have b0 : ((s1.length : Int) == 0) = true := eq_true_of (by omega)
    go_wp2_with fail
    go_ret
    exact ⟨rfl, HB3.out⟩
  have b0 : ((s1.length : Int) == 0) = false := eq_false_of (by omega)
  by_cases hz2 : s2.length = 0
  · have b1 : ((s2.length : Int) == 0) = true := eq_true_of (by omega)
    go_wp2_with fail
    go_ret
    exact ⟨rfl, HB3.out⟩
  have b1 : ((s2.length : Int) == 0) = false := eq_false_of (by omega)
  have n1 : s1 ≠ [] := fun e => hz1 (by rw [e]; rfl)
  have n2 : s2 ≠ [] := fun e => hz2 (by rw [e]; rfl)
  have N1 := Lib.hid n1; have N2 := Lib.hid n2
  clear n1 n2 hz1 hz2
  go_wp2_with fail
  refine (codes_any _ s1 w3 G1.out (by omega) (fits4 (fits_of R1.out)) (HD.out.below HB3.out)).mono ?_
  rintro e w4 ⟨S, rfl, hS, hb⟩
  have HB4 := Lib.hid (HB3.out.trans (hb.mono HB3.out.size))
  replace G1 := Lib.hid (G1.out.below hb); replace G2 := Lib.hid (G2.out.below hb)
  have HS := Lib.hid hS
  clear hS hb
  go_wp2_with fail
  refine (codes_any _ s2 w4 G2.out (by omega) (fits4 (fits_of R2.out)) (HD.out.below HB4.out)).mono ?_
  rintro e w5 ⟨T, rfl, hS, hb⟩
  have HB5 := Lib.hid (HB4.out.trans (hb.mono HB4.out.size))
  replace G1 := Lib.hid (G1.out.below hb); replace G2 := Lib.hid (G2.out.below hb)
  have HST := Lib.hid hS
  clear hS hb
  have hSz : S.size ≤ 1200 := by rw [size_list7, HS.out]; have := codes_short s1 (fits4 (fits_of R1.out)); omega
  have hTz : T.size ≤ 1200 := by rw [size_list7, HST.out]; have := codes_short s2 (fits4 (fits_of R2.out)); omega
  have q1 := cat2 ⟨#[91]⟩ S (by show 1 + S.size ≤ _; omega)
  have q2 := cat2 (⟨#[91]⟩ ++ S) ⟨#[93]⟩ (by rw [ByteArray.size_append]; show 1 + S.size + 1 ≤ _; omega)
  have q3 := cat2 ⟨#[91]⟩ T (by show 1 + T.size ≤ _; omega)
  have q4 := cat2 (⟨#[91]⟩ ++ T) ⟨#[93]⟩ (by rw [ByteArray.size_append]; show 1 + T.size + 1 ≤ _; omega)
  have q5 := cat2 (⟨#[91]⟩ ++ S) T (by rw [ByteArray.size_append]; show 1 + S.size + T.size ≤ _; omega)
  have q6 := cat2 (⟨#[91]⟩ ++ S ++ T) ⟨#[93]⟩ (by rw [ByteArray.size_append, ByteArray.size_append]; show 1 + S.size + T.size + 1 ≤ _; omega)
  have l91 : (⟨#[91]⟩ : ByteArray).toList = [91] := by kernel_rfl
  have l93 : (⟨#[93]⟩ : ByteArray).toList = [93] := by kernel_rfl
  have HP1 := Lib.hid (setof_any (S := ⟨#[91]⟩ ++ S ++ ⟨#[93]⟩) f fo HFO.out (fits_of R1.out) N1.out (by omega) (by rw [append_list7, append_list7, l91, l93, HS.out]; rfl))
  have HP2 := Lib.hid (setof_any (S := ⟨#[91]⟩ ++ T ++ ⟨#[93]⟩) f fo HFO.out (fits_of R2.out) N2.out (by omega) (by rw [append_list7, append_list7, l91, l93, HST.out]; rfl))
  have HP3 := Lib.hid (setof_any (S := ⟨#[91]⟩ ++ S ++ T ++ ⟨#[93]⟩) (l := s1 ++ s2) f fo HFO.out (fits_both (fits_of R1.out) (fits_of R2.out)) (fun e => N1.out (List.append_eq_nil_iff.1 e).1) (by rw [List.length_append]; omega) (by simp only [append_list7, l91, l93, HS.out, HST.out, codesL_append, List.append_assoc, List.cons_append, List.nil_append]))
  clear l91 l93 HS HST
  go_wp2_with fail
  refine (HP1.out _ (Tabs7.below HT.out HB5.out)).mono ?_
  rintro e wa6 ⟨v6, m6, k6, rfl, hg, hr, hh, hb⟩
  have HBa6 := Lib.hid (HB5.out.trans (hb.mono HB5.out.size))
  replace G1 := Lib.hid (G1.out.below hb)
  have RA6 := Lib.hid hg; have RR6 := Lib.hid hr; have HA6 := Lib.hid hh
  obtain ⟨AA6, cc6, hv, -⟩ := hg
  subst hv
  clear hb hr hh
  obtain ⟨wb6, hw⟩ : ∃ W, wa6.alloc (.cells #[.int .i64 0, .int .i64 0, .int .i64 0] 27) = W := ⟨_, rfl⟩
  have hb : Below wa6.heap.size wa6 wb6 := by rw [← hw]; exact (Below.refl _ wa6).alloc (Nat.le_refl _) _
  have HB6 := Lib.hid (HBa6.out.trans (hb.mono HBa6.out.size))
  have HX6 := Lib.hid (show Whole wb6 wa6.heap.size 27 #[.int .i64 0, .int .i64 0, .int .i64 0] by rw [← hw]; exact heap_alloc_new wa6 _)
  replace G1 := Lib.hid (G1.out.below hb)
  replace RA6 := Lib.hid (RA6.out.below hb)
  have HW6 := Lib.hid hw
  clear hb hw
  go_upto_region 11 with (fail)
  rw [HW6.out]
  go_wp2_with fail
  refine (HP2.out _ (Tabs7.below HT.out HB6.out)).mono ?_
  rintro e wa7 ⟨v7, m7, k7, rfl, hg, hr, hh, hb⟩
  have HBa7 := Lib.hid (HB6.out.trans (hb.mono HB6.out.size))
  replace G1 := Lib.hid (G1.out.below hb)
  replace RA6 := Lib.hid (RA6.out.below hb)
  replace HX6 := Lib.hid (HX6.out.below hb (World.block_lt_of_cell? _ ⟨wa6.heap.size, 0, none⟩ HX6.out.three.1))
  have RA7 := Lib.hid hg; have RR7 := Lib.hid hr; have HA7 := Lib.hid hh
  obtain ⟨AA7, cc7, hv, -⟩ := hg
  subst hv
  clear hb hr hh
  obtain ⟨wb7, hw⟩ : ∃ W, wa7.alloc (.cells #[.int .i64 0, .int .i64 0, .int .i64 0] 27) = W := ⟨_, rfl⟩
  have hb : Below wa7.heap.size wa7 wb7 := by rw [← hw]; exact (Below.refl _ wa7).alloc (Nat.le_refl _) _
  have HB7 := Lib.hid (HBa7.out.trans (hb.mono HBa7.out.size))
  have HX7 := Lib.hid (show Whole wb7 wa7.heap.size 27 #[.int .i64 0, .int .i64 0, .int .i64 0] by rw [← hw]; exact heap_alloc_new wa7 _)
  replace G1 := Lib.hid (G1.out.below hb)
  replace RA6 := Lib.hid (RA6.out.below hb)
  replace HX6 := Lib.hid (HX6.out.below hb (World.block_lt_of_cell? _ ⟨wa6.heap.size, 0, none⟩ HX6.out.three.1))
  replace RA7 := Lib.hid (RA7.out.below hb)
  have HW7 := Lib.hid hw
  clear hb hw
  go_upto_region 12 with (fail)
  rw [HW7.out]
  go_wp2_with fail
  refine (HP3.out _ (Tabs7.below HT.out HB7.out)).mono ?_
  rintro e wa8 ⟨v8, m8, k8, rfl, hg, hr, hh, hb⟩
  have HBa8 := Lib.hid (HB7.out.trans (hb.mono HB7.out.size))
  replace G1 := Lib.hid (G1.out.below hb)
  replace RA6 := Lib.hid (RA6.out.below hb)
  replace RA7 := Lib.hid (RA7.out.below hb)
  replace HX6 := Lib.hid (HX6.out.below hb (World.block_lt_of_cell? _ ⟨wa6.heap.size, 0, none⟩ HX6.out.three.1))
  replace HX7 := Lib.hid (HX7.out.below hb (World.block_lt_of_cell? _ ⟨wa7.heap.size, 0, none⟩ HX7.out.three.1))
  have RA8 := Lib.hid hg; have RR8 := Lib.hid hr; have HA8 := Lib.hid hh
  obtain ⟨AA8, cc8, hv, -⟩ := hg
  subst hv
  clear hb hr hh
  obtain ⟨wb8, hw⟩ : ∃ W, wa8.alloc (.cells #[.int .i64 0, .int .i64 0, .int .i64 0] 27) = W := ⟨_, rfl⟩
  have hb : Below wa8.heap.size wa8 wb8 := by rw [← hw]; exact (Below.refl _ wa8).alloc (Nat.le_refl _) _
  have HB8 := Lib.hid (HBa8.out.trans (hb.mono HBa8.out.size))
  have HX8 := Lib.hid (show Whole wb8 wa8.heap.size 27 #[.int .i64 0, .int .i64 0, .int .i64 0] by rw [← hw]; exact heap_alloc_new wa8 _)
  replace G1 := Lib.hid (G1.out.below hb)
  replace RA6 := Lib.hid (RA6.out.below hb)
  replace RA7 := Lib.hid (RA7.out.below hb)
  replace HX6 := Lib.hid (HX6.out.below hb (World.block_lt_of_cell? _ ⟨wa6.heap.size, 0, none⟩ HX6.out.three.1))
  replace HX7 := Lib.hid (HX7.out.below hb (World.block_lt_of_cell? _ ⟨wa7.heap.size, 0, none⟩ HX7.out.three.1))
  replace RA8 := Lib.hid (RA8.out.below hb)
  have HW8 := Lib.hid hw
  clear hb hw
  go_upto_region 13 with (fail)
  rw [HW8.out]
  obtain ⟨e0, -, -, -, -, -⟩ := HX6.out.three
  obtain ⟨e1, -, -, -, -, -⟩ := HX7.out.three
  obtain ⟨e2, -, -, -, -, -⟩ := HX8.out.three
  have h6 := right_len k6 0 (by omega) RR6.out
  have h7 := right_len k7 0 (by omega) RR7.out
  clear HP1 HP2 HP3
  go_wp2_with fail
  refine (runion_any _ _ k6 k7 _ RA6.out RA7.out (by omega)).mono ?_
  rintro e w9 ⟨v9, k9, rfl, ho, hr, hh, hb⟩
  have HB9 := Lib.hid (HB8.out.trans (hb.mono HB8.out.size))
  have hk : k8 = k9 := right_eq _ _ RR8.out hr fun c => (HA8.out c).trans (class_both.trans ((or_congr (HA6.out c).symm (HA7.out c).symm).trans (hh c).symm))
  subst hk
  have HSM := Lib.hid (rsame_any _ _ k8 k8 w9 (RA8.out.below hb) ho.rgs)
  replace G1 := Lib.hid (G1.out.below hb); replace RA6 := Lib.hid (RA6.out.below hb)
  obtain ⟨A9, c9, hv, -⟩ := ho.rgs
  subst hv
  clear ho hr hh hb h6 h7
  go_wp2_with fail
  refine HSM.out.mono ?_
  rintro e w10 ⟨b, rfl, hbb, q, rfl⟩
  have hbt : b = true := hbb.2 (by first | trivial | rfl)
  subst hbt
  clear hbb HSM
  cases fo
  · have hk : k6 = s1 := right_eq _ _ RR6.out R1.out fun c => by
      rw [HA6.out]
      unfold ClassHas FoldHas
      simp only [Bool.false_eq_true, if_false]
    subst hk
    have HSM := Lib.hid (rsame_any _ _ k6 k6 (w9.drewN q) (RA6.out.below (drewN_below w9 q)) (G1.out.below (drewN_below w9 q)))
    go_wp2_with fail
    refine HSM.out.mono ?_
    rintro e w11 ⟨b, rfl, hbb, q2, rfl⟩
    have hbt : b = true := hbb.2 (by first | trivial | rfl)
    subst hbt
    clear hbb HSM
    go_wp2_with fail
    go_ret
    exact ⟨rfl, below_drewNr HB9.out (q + q2)⟩
  · go_wp2_with fail
    go_ret
    exact ⟨rfl, below_drewNr HB9.out q⟩
end Go.Proofs.YtmaigjdmjmonbaaGreatDoor
