/- Texts merged by program: BrRuns. No condition. -/
import Derived.Test.YtmaigjdmjmonbaaGreatDoorK34
import Derived.Test.YtmaigjdmjmonbaaGreatDoorK37
import Derived.Test.YtmaigjdmjmonbaaGreatDoorK10
set_option linter.unusedVariables false
/- A class of two runes with a - between. From the program's contract pclass7_any. -/
namespace Go.Proofs.YtmaigjdmjmonbaaGreatDoor
open Go Go.RowKit

def PlainPost (c : Int) (w : World) (e : Ending) (w' : World) : Prop := ∃ B : Bool, e = .returned (.bool B) ∧ (B = true ↔ PlainI c) ∧ w = w'
theorem plain_no {c : Int} {w : World} (h : ¬ PlainI c) : PlainPost c w (.returned (.bool false)) w := ⟨false, rfl, ⟨(fun h => by cases h), (fun q => absurd q h)⟩, rfl⟩
theorem plain_yes {c : Int} {w : World} (h : PlainI c) : PlainPost c w (.returned (.bool true)) w := ⟨true, rfl, ⟨(fun _ => h), (fun _ => rfl)⟩, rfl⟩
set_option maxHeartbeats 1600000 in
theorem plain7_any (c : Int) (w : World) : Calls Tryz.prog 14 #[.int .i32 c] w (PlainPost c w) := by
  go_enter Tryz.func14, Tryz.ntmps14
  by_cases h0 : 32 < c
  rotate_left
  · go_wp2
    go_ret
    exact plain_no (fun h => absurd h.1 (by omega))
  by_cases h1 : c = 92
  · subst h1
    go_wp2
    go_ret
    exact plain_no (fun h => h.2.1 rfl)
  have b1 := ne_true_of h1
  by_cases h2 : c = 93
  · subst h2
    go_wp2
    go_ret
    exact plain_no (fun h => h.2.2.1 rfl)
  have b2 := ne_true_of h2
  by_cases h3 : c = 91
  · subst h3
    go_wp2
    go_ret
    exact plain_no (fun h => h.2.2.2.1 rfl)
  have b3 := ne_true_of h3
  by_cases h4 : c = 65533
  · subst h4
    go_wp2
    go_ret
    exact plain_no (fun h => h.2.2.2.2.1 rfl)
  have b4 := ne_true_of h4
  have HP := Lib.hid (show c ≠ 92 ∧ c ≠ 93 ∧ c ≠ 91 ∧ c ≠ 65533 from ⟨h1, h2, h3, h4⟩)
  clear h1 h2 h3 h4
  by_cases h5 : c < 55296
  · have h6 : c ≤ 1114111 := by omega
    go_wp2
    go_ret
    exact plain_yes ⟨h0, HP.out.1, HP.out.2.1, HP.out.2.2.1, HP.out.2.2.2, .inl h5, h6⟩
  by_cases h7 : 57343 < c
  · by_cases h6 : c ≤ 1114111
    · go_wp2
      go_ret
      exact plain_yes ⟨h0, HP.out.1, HP.out.2.1, HP.out.2.2.1, HP.out.2.2.2, .inr h7, h6⟩
    · go_wp2
      go_ret
      exact plain_no (fun h => absurd h.2.2.2.2.2.2 (by omega))
  · go_wp2
    go_ret
    exact plain_no (fun h => absurd h.2.2.2.2.2.1 (by omega))

set_option maxHeartbeats 3200000 in
set_option maxRecDepth 100000 in
theorem bruns_any (w : World) (a b c : Int) (hc : I32 c) (hT : Tabs7 w) : Calls Tryz.prog 5 #[.int .i32 a, .int .i32 b, .int .i32 c] w fun e w' => e = .returned (.bool true) ∧ Below w.heap.size w w' := by
  have HT := Lib.hid hT; have HC := Lib.hid hc
  have HH := Lib.hid (bhead_any w hT)
  clear hT hc
  go_enter Tryz.func5, Tryz.ntmps5
  go_wp2_with fail
  refine HH.out.mono ?_
  rintro e w1 ⟨rfl, hb⟩
  have HB := Lib.hid hb
  clear hb HH
  go_wp2_with fail
  refine (plain7_any a _).mono ?_
  rintro e w2 ⟨B1, rfl, h1, rfl⟩
  have H1 := Lib.hid h1
  clear h1
  cases B1
  · go_wp2_with fail
    go_ret
    exact ⟨rfl, HB.out⟩
  go_wp2_with fail
  refine (plain7_any b _).mono ?_
  rintro e w3 ⟨B2, rfl, h2, rfl⟩
  have H2 := Lib.hid h2
  clear h2
  cases B2
  · go_wp2_with fail
    go_ret
    exact ⟨rfl, HB.out⟩
  by_cases h94 : a = 94
  · have b0 := eq_true_of h94
    go_wp2_with fail
    go_ret
    exact ⟨rfl, HB.out⟩
  have b0 := eq_false_of h94
  have pa := H1.out.1 (by trivial)
  have pb := H2.out.1 (by trivial)
  obtain ⟨Ea, hEa⟩ : ∃ E, Utf8.encode a = E := ⟨_, rfl⟩
  obtain ⟨Eb, hEb⟩ : ∃ E, Utf8.encode b = E := ⟨_, rfl⟩
  have za : Ea.size ≤ 4 := by rw [size_list7, ← hEa, encode_list a pa.rune]; unfold Lib.encodeRune; rw [List.length_map]; exact (Lib.encodeRuneZ_length a).2
  have zb : Eb.size ≤ 4 := by rw [size_list7, ← hEb, encode_list b pb.rune]; unfold Lib.encodeRune; rw [List.length_map]; exact (Lib.encodeRuneZ_length b).2
  have hca : ∀ W : World, (convert 21 9 (.int .i32 a)).run Tryz.prog W = .ok (.string Ea) W := fun W => by
    rw [← hEa]
    exact run_convert_int_string W _ _ .i32 a (by rw [Tryz.underlying21]; rfl) Tryz.underlying9
  have hcb : ∀ W : World, (convert 21 9 (.int .i32 b)).run Tryz.prog W = .ok (.string Eb) W := fun W => by
    rw [← hEb]
    exact run_convert_int_string W _ _ .i32 b (by rw [Tryz.underlying21]; rfl) Tryz.underlying9
  obtain ⟨hnb, hsz, hup, hdn⟩ := runs_read (S := ⟨#[91]⟩ ++ Ea ++ ⟨#[45]⟩ ++ Eb ++ ⟨#[93]⟩) (a := a) (b := b) false pa h94 pb (by
    rw [append_list7, append_list7, append_list7, append_list7, ← hEa, ← hEb, encode_list a pa.rune, encode_list b pb.rune, show (⟨#[91]⟩ : ByteArray).toList = [91] by kernel_rfl, show (⟨#[93]⟩ : ByteArray).toList = [93] by kernel_rfl, show (⟨#[45]⟩ : ByteArray).toList = [45] by kernel_rfl]
    simp)
  have hp := fun W hW => pclass7_any (⟨#[91]⟩ ++ Ea ++ ⟨#[45]⟩ ++ Eb ++ ⟨#[93]⟩) 0 0 W hsz (Nat.zero_le _) hW
  rw [flag_none 32 (.inr rfl), flag_none 1 (.inl rfl), hnb] at hp
  have HPA := Lib.hid pa; have HPB := Lib.hid pb
  by_cases hab : a ≤ b
  · obtain ⟨n, hn⟩ := hup hab
    rw [hn] at hp
    have HP := Lib.hid hp
    clear hp hup hdn hn hnb hsz pa pb H1 H2 hEa hEb h94
    have q0 : ¬ b < a := by omega
    go_wp2_with fail
    refine (HP.out _ (Tabs7.below HT.out HB.out)).mono ?_
    rintro e w4 ⟨hb, v, l, he, ho, hr, hh⟩
    replace he : e = .returned (.tuple #[v, .int .i64 (n : Int), .agg #[.int .i64 0, .int .i64 0, .int .i64 0]]) := he
    subst he
    have hlc : HasR l c ↔ (a ≤ c ∧ c ≤ b) := by
      rw [hh]
      unfold ClassHas FoldHas HasR
      have g1 := HPA.out.1
      have g2 : b ≤ 1114111 := HPB.out.2.2.2.2.2.2
      simp only [Bool.false_eq_true, if_false, List.mem_singleton]
      constructor
      · rintro ⟨_, _, r, rfl, h3, h4⟩
        exact ⟨h3, h4⟩
      · rintro ⟨h3, h4⟩
        exact ⟨by omega, by omega, _, rfl, h3, h4⟩
    obtain ⟨A, cA, hvs, -⟩ := ho.rgs
    subst hvs
    have HL := Lib.hid hlc
    have HB4 := Lib.hid (HB.out.trans (hb.mono HB.out.size))
    have G4 := Lib.hid ho.rgs
    clear hb ho hr hh hlc HP
    obtain ⟨w5, hw5⟩ : ∃ W, w4.alloc (.cells #[.int .i64 0, .int .i64 0, .int .i64 0] 27) = W := ⟨_, rfl⟩
    have hb5 : Below w4.heap.size w4 w5 := by rw [← hw5]; exact (Below.refl _ w4).alloc (Nat.le_refl _) _
    have HB5 := Lib.hid (HB4.out.trans (hb5.mono HB4.out.size))
    have hX5 : Whole w5 w4.heap.size 27 #[.int .i64 0, .int .i64 0, .int .i64 0] := by rw [← hw5]; exact heap_alloc_new w4 _
    have HHAS := Lib.hid (rhas_any _ l c w5 (G4.out.below hb5))
    have HW5 := Lib.hid hw5
    obtain ⟨f0, f1, f2, -, -, -⟩ := hX5.three
    clear hw5 hb5 hX5
    go_upto_region 5 with (fail)
    rw [HW5.out]
    go_wp2_with fail
    refine HHAS.out.mono ?_
    rintro e w6 ⟨B, rfl, h3, q, rfl⟩
    have H3 := Lib.hid (h3.trans HL.out)
    clear h3
    by_cases c0 : a ≤ c
    · by_cases c1 : c ≤ b
      · have : B = true := H3.out.2 ⟨c0, c1⟩
        subst this
        go_wp2_with fail
        go_ret
        exact ⟨rfl, below_drewNr HB5.out _⟩
      · have : B = false := Bool.eq_false_iff.2 fun h => c1 (H3.out.1 h).2
        subst this
        have c2 := decide_eq_false c1
        go_wp2_with fail
        go_ret
        first
          | exact ⟨rfl, below_drewNr HB5.out _⟩
          | exact ⟨(by show Ending.returned (.bool (!decide (c ≤ b))) = _; rw [c2]; rfl), below_drewNr HB5.out _⟩
    · have : B = false := Bool.eq_false_iff.2 fun h => c0 (H3.out.1 h).1
      subst this
      go_wp2_with fail
      go_ret
      exact ⟨rfl, below_drewNr HB5.out _⟩
  · obtain ⟨n, hn⟩ := hdn (by omega)
    rw [hn] at hp
    have HP := Lib.hid hp
    clear hp hup hdn hn hnb hsz pa pb H1 H2 hEa hEb h94
    have q0 : b < a := by omega
    go_wp2_with fail
    refine (HP.out _ (Tabs7.below HT.out HB.out)).mono ?_
    rintro e w4 ⟨hb, he⟩
    replace he : e = .returned (.tuple #[.slice none 0 0, .int .i64 0, .agg #[.int .i64 72, .int .i64 1, .int .i64 (n : Int)]]) := he
    subst he
    have HB4 := Lib.hid (HB.out.trans (hb.mono HB.out.size))
    clear hb HP
    obtain ⟨w5, hw5⟩ : ∃ W, w4.alloc (.cells #[.int .i64 72, .int .i64 1, .int .i64 (n : Int)] 27) = W := ⟨_, rfl⟩
    have hb5 : Below w4.heap.size w4 w5 := by rw [← hw5]; exact (Below.refl _ w4).alloc (Nat.le_refl _) _
    have HB5 := Lib.hid (HB4.out.trans (hb5.mono HB4.out.size))
    have hX5 : Whole w5 w4.heap.size 27 #[.int .i64 72, .int .i64 1, .int .i64 (n : Int)] := by rw [← hw5]; exact heap_alloc_new w4 _
    have HW5 := Lib.hid hw5
    obtain ⟨f0, f1, f2, -, -, -⟩ := hX5.three
    clear hw5 hb5 hX5
    go_upto_region 5 with (fail)
    rw [HW5.out]
    go_wp2_with fail
    go_ret
    exact ⟨rfl, HB5.out⟩
end Go.Proofs.YtmaigjdmjmonbaaGreatDoor
