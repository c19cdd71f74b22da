/- Texts merged by program: SName, SSame. No condition. -/
import Derived.Test.YtofhckheeijoiaaDoorK2
import Derived.Test.YtofhckheeijoiaaDoorK5
import Derived.Test.YtofhckheeijoiaaDoorK4
import Derived.Deep.DeepCutAuto
import Derived.BigQuiet
set_option linter.unusedVariables false
/- The document's beginning of a named group at a place. -/
namespace Go.Proofs.YtofhckheeijoiaaDoor
open Go Go.RowKit

/-- How many bytes stand ahead of the next '>', or of the end. -/
def gtN : List UInt8 → Nat
  | [] => 0
  | c :: t => if c.toNat = 62 then 0 else gtN t + 1
theorem gtN_le : ∀ l : List UInt8, gtN l ≤ l.length
  | [] => Nat.le_refl _
  | c :: t => by
    unfold gtN
    have := gtN_le t
    split <;> simp <;> omega
def endS (s : ByteArray) (i : Nat) : Nat := i + gtN (leftB s i)
theorem endS_le (s : ByteArray) (i : Nat) (h : i ≤ s.size) : endS s i ≤ s.size := by
  have := gtN_le (leftB s i)
  rw [left_length] at this
  unfold endS
  omega
/-- Where the name of a group begins that stands at a place. -/
def fromS (s : ByteArray) (i : Nat) : Option Nat := if preB [40, 63, 80, 60] (leftB s i) = true then some (i + 4) else if preB [40, 63, 60] (leftB s i) = true then some (i + 3) else none
/-- The name, and the place behind. -/
def nameS (s : ByteArray) (i : Nat) : Option (List UInt8 × Nat) :=
  match fromS s i with
  | none => none
  | some f => if endS s i < s.size ∧ f ≤ endS s i ∧ nameB ((leftB s f).take (endS s i - f)) = true then some ((leftB s f).take (endS s i - f), endS s i + 1) else none
def SNamePost (s : ByteArray) (i : Nat) (w : World) (e : Ending) (w' : World) : Prop :=
  Below w.heap.size w w' ∧ ((nameS s i = none ∧ e = .returned (.tuple #[.string ⟨#[]⟩, .int .i64 0, wrongV 64 i (min ((endS s i : Int) + 1) s.size)])) ∨ ∃ n k b, nameS s i = some (n, k) ∧ b.toList = n ∧ e = .returned (.tuple #[.string b, .int .i64 (k : Int), wrongV 0 0 0]))
theorem extract_left (s : ByteArray) (a b : Nat) : (s.extract a b).toList = (leftB s a).take (b - a) := by
  unfold leftB
  rw [Lib.extract_toList, ← Lib.toList_data]

set_option maxHeartbeats 1600000 in
theorem rname6_any (s : ByteArray) (i : Nat) (w : World) (hs : s.size ≤ 4503599627370496) (hi : i ≤ s.size) :
    Calls Tryd.prog 16 #[.string s, .int .i64 i] w (SNamePost s i w) := by
  obtain ⟨w1, hw1⟩ : ∃ w1, w.alloc (.cells #[.int .i64 0, .int .i64 0, .int .i64 0] 30) = w1 := ⟨_, rfl⟩
  have hE1 : Whole w1 w.heap.size 30 #[.int .i64 0, .int .i64 0, .int .i64 0] := by rw [← hw1]; exact heap_alloc_new w _
  have hb1 : Below w.heap.size w w1 := by rw [← hw1]; exact (Below.refl _ w).alloc (Nat.le_refl _) _
  have hs1 : w1.heap.size = w.heap.size + 1 := by rw [← hw1]; simp
  have HW1 := Lib.hid hw1; have HE1 := Lib.hid hE1; have HB1 := Lib.hid hb1; have HS1 := Lib.hid hs1
  clear hw1 hE1 hb1 hs1
  obtain ⟨E, hE⟩ : ∃ E, endS s i = E := ⟨_, rfl⟩
  have hEs : E ≤ s.size := by rw [← hE]; exact endS_le s i hi
  unfold SNamePost
  rw [hE]
  have HE := Lib.hid hE
  clear hE
  go_enter Tryd.func16, Tryd.ntmps16
  go_upto_region 1 with (fail)
  rw [HW1.out]
  go_wp2_with fail
  go_loopw [7] (fun vj wr => ∃ j : Nat, i ≤ j ∧ j ≤ s.size ∧ vj = .int .i64 j ∧ E = j + gtN (leftB s j) ∧ wr = w1) (fun vj _ => s.size - (intOf vj).toNat)
  case atStart => exact ⟨i, Nat.le_refl _, hi, rfl, HE.out.symm, rfl⟩
  case round =>
    obtain ⟨j, hij, hj, rfl, hg, rfl⟩ := hrel
    have HG := Lib.hid hg
    clear hg
    by_cases hlt : j < s.size
    · have hw2 : IntKind.i64.wrap ((j : Int) + 1) = (j : Int) + 1 := wrap_in _ (by omega)
      by_cases h62 : s[j].toNat = 62
      · have hjE : E = j := by
          have := HG.out
          rw [left_cons s j hlt, gtN, if_pos h62] at this
          exact this
        have b0 : ((s[j].toNat : Int) != 62) = false := ne_false_of (by omega)
        subst hjE
        clear h62 HG
        have y1 : ¬ (s.size : Int) < (E : Int) + 1 := by omega
        have hw3 : IntKind.i64.wrap ((i : Int) + 3) = (i : Int) + 3 := wrap_in _ (by omega)
        have hw4 : IntKind.i64.wrap ((i : Int) + 4) = (i : Int) + 4 := wrap_in _ (by omega)
        have HH := Lib.hid (rhas6_any s ⟨#[40, 63, 80, 60]⟩ i wr hs (by decide) hi)
        rw [show (⟨#[40, 63, 80, 60]⟩ : ByteArray).toList = [40, 63, 80, 60] by kernel_rfl] at HH
        obtain ⟨p4, hp4⟩ : ∃ b, preB [40, 63, 80, 60] (leftB s i) = b := ⟨_, rfl⟩
        rw [hp4] at HH
        go_wp2_with fail
        refine HH.out.mono ?_
        rintro e w2 ⟨rfl, rfl⟩
        have HP4 := Lib.hid hp4
        clear HH hp4
        cases p4
        · have HH := Lib.hid (rhas6_any s ⟨#[40, 63, 60]⟩ i w2 hs (by decide) hi)
          rw [show (⟨#[40, 63, 60]⟩ : ByteArray).toList = [40, 63, 60] by kernel_rfl] at HH
          obtain ⟨p3, hp3⟩ : ∃ b, preB [40, 63, 60] (leftB s i) = b := ⟨_, rfl⟩
          rw [hp3] at HH
          go_wp2_with fail
          refine HH.out.mono ?_
          rintro e w4 ⟨rfl, rfl⟩
          have HP3 := Lib.hid hp3
          clear HH hp3
          cases p3
          · go_wp2_with fail
            refine (rwrong_any 64 i ((E : Int) + 1) _).mono ?_
            rintro e w3 ⟨rfl, hb3⟩
            have HB3 := Lib.hid (HB1.out.trans (hb3.mono HB1.out.size))
            have hE3 : Whole w3 w.heap.size 30 #[.int .i64 0, .int .i64 0, .int .i64 0] := HE1.out.below hb3 (by have := HS1.out; omega)
            have HE3 := Lib.hid hE3
            obtain ⟨c0, c1, c2, z0, z1, z2⟩ := hE3.three
            clear hb3 hE3
            go_wp2_with fail
            refine bodyPost_ret (results_ttw Tryd.results16 _ rfl (set3_whole HE3.out _ _ _) rfl) rfl ?_
            exact ⟨set3_below HB3.out (Nat.le_refl _) _ _ _, .inl ⟨by unfold nameS fromS; rw [HP4.out, HP3.out]; rfl, congrArg (fun x => Ending.returned (.tuple #[.string ⟨#[]⟩, .int .i64 0, wrongV 64 i x])) (by omega)⟩⟩
          · have hf : fromS s i = some (i + 3) := by unfold fromS; rw [HP4.out, HP3.out]; rfl
            have HF := Lib.hid hf
            clear hf
            have hwf : IntKind.i64.wrap ((i : Int) + 3) = (i : Int) + 3 := wrap_in _ (by omega)
            by_cases hfe : (i + 3) ≤ E
            · have x1 : ¬ (E : Int) < (i : Int) + 3 := by omega
              have x2 : (i : Int) + 3 ≤ (E : Int) := by omega
              have x3 : (0 : Int) ≤ (i : Int) + 3 := by omega
              have x4 : ((i : Int) + 3).toNat = i + 3 := by omega
              have HN := Lib.hid (name_any (s.extract (i + 3) E) w4)
              rw [extract_left] at HN
              go_wp2_with fail
              refine HN.out.mono ?_
              rintro e w5 ⟨B, rfl, hB, rfl⟩
              have HNB := Lib.hid hB
              clear hB HN
              cases B
              · go_wp2_with fail
                refine (rwrong_any 64 i ((E : Int) + 1) _).mono ?_
                rintro e w3 ⟨rfl, hb3⟩
                have HB3 := Lib.hid (HB1.out.trans (hb3.mono HB1.out.size))
                have hE3 : Whole w3 w.heap.size 30 #[.int .i64 0, .int .i64 0, .int .i64 0] := HE1.out.below hb3 (by have := HS1.out; omega)
                have HE3 := Lib.hid hE3
                obtain ⟨c0, c1, c2, z0, z1, z2⟩ := hE3.three
                clear hb3 hE3
                go_wp2_with fail
                refine bodyPost_ret (results_ttw Tryd.results16 _ rfl (set3_whole HE3.out _ _ _) rfl) rfl ?_
                exact ⟨set3_below HB3.out (Nat.le_refl _) _ _ _, .inl ⟨by unfold nameS; rw [HF.out, HE.out]; simp only []; rw [if_neg (fun h => by have := HNB.out.2 h.2.2; cases this)], congrArg (fun x => Ending.returned (.tuple #[.string ⟨#[]⟩, .int .i64 0, wrongV 64 i x])) (by omega)⟩⟩
              · obtain ⟨c0, c1, c2, z0, z1, z2⟩ := HE1.out.three
                go_wp2_with fail
                refine bodyPost_ret (results_ttw Tryd.results16 _ rfl (set3_whole HE1.out _ _ _) rfl) rfl ?_
                exact ⟨set3_below HB1.out (Nat.le_refl _) _ _ _, .inr ⟨_, _, _, by unfold nameS; rw [HF.out, HE.out]; simp only []; rw [if_pos ⟨hlt, hfe, HNB.out.1 (by trivial)⟩], extract_left s (i + 3) E, rfl⟩⟩
            · have x1 : (E : Int) < (i : Int) + 3 := by omega
              go_wp2_with fail
              refine (rwrong_any 64 i ((E : Int) + 1) _).mono ?_
              rintro e w3 ⟨rfl, hb3⟩
              have HB3 := Lib.hid (HB1.out.trans (hb3.mono HB1.out.size))
              have hE3 : Whole w3 w.heap.size 30 #[.int .i64 0, .int .i64 0, .int .i64 0] := HE1.out.below hb3 (by have := HS1.out; omega)
              have HE3 := Lib.hid hE3
              obtain ⟨c0, c1, c2, z0, z1, z2⟩ := hE3.three
              clear hb3 hE3
              go_wp2_with fail
              refine bodyPost_ret (results_ttw Tryd.results16 _ rfl (set3_whole HE3.out _ _ _) rfl) rfl ?_
              exact ⟨set3_below HB3.out (Nat.le_refl _) _ _ _, .inl ⟨by unfold nameS; rw [HF.out, HE.out]; simp only []; rw [if_neg (fun h => hfe h.2.1)], congrArg (fun x => Ending.returned (.tuple #[.string ⟨#[]⟩, .int .i64 0, wrongV 64 i x])) (by omega)⟩⟩
        · have hf : fromS s i = some (i + 4) := by unfold fromS; rw [HP4.out]; rfl
          have HF := Lib.hid hf
          clear hf
          have hwf : IntKind.i64.wrap ((i : Int) + 4) = (i : Int) + 4 := wrap_in _ (by omega)
          by_cases hfe : (i + 4) ≤ E
          · have x1 : ¬ (E : Int) < (i : Int) + 4 := by omega
            have x2 : (i : Int) + 4 ≤ (E : Int) := by omega
            have x3 : (0 : Int) ≤ (i : Int) + 4 := by omega
            have x4 : ((i : Int) + 4).toNat = i + 4 := by omega
            have HN := Lib.hid (name_any (s.extract (i + 4) E) w2)
            rw [extract_left] at HN
            go_wp2_with fail
            refine HN.out.mono ?_
            rintro e w5 ⟨B, rfl, hB, rfl⟩
            have HNB := Lib.hid hB
            clear hB HN
            cases B
            · go_wp2_with fail
              refine (rwrong_any 64 i ((E : Int) + 1) _).mono ?_
              rintro e w3 ⟨rfl, hb3⟩
              have HB3 := Lib.hid (HB1.out.trans (hb3.mono HB1.out.size))
              have hE3 : Whole w3 w.heap.size 30 #[.int .i64 0, .int .i64 0, .int .i64 0] := HE1.out.below hb3 (by have := HS1.out; omega)
              have HE3 := Lib.hid hE3
              obtain ⟨c0, c1, c2, z0, z1, z2⟩ := hE3.three
              clear hb3 hE3
              go_wp2_with fail
              refine bodyPost_ret (results_ttw Tryd.results16 _ rfl (set3_whole HE3.out _ _ _) rfl) rfl ?_
              exact ⟨set3_below HB3.out (Nat.le_refl _) _ _ _, .inl ⟨by unfold nameS; rw [HF.out, HE.out]; simp only []; rw [if_neg (fun h => by have := HNB.out.2 h.2.2; cases this)], congrArg (fun x => Ending.returned (.tuple #[.string ⟨#[]⟩, .int .i64 0, wrongV 64 i x])) (by omega)⟩⟩
            · obtain ⟨c0, c1, c2, z0, z1, z2⟩ := HE1.out.three
              go_wp2_with fail
              refine bodyPost_ret (results_ttw Tryd.results16 _ rfl (set3_whole HE1.out _ _ _) rfl) rfl ?_
              exact ⟨set3_below HB1.out (Nat.le_refl _) _ _ _, .inr ⟨_, _, _, by unfold nameS; rw [HF.out, HE.out]; simp only []; rw [if_pos ⟨hlt, hfe, HNB.out.1 (by trivial)⟩], extract_left s (i + 4) E, rfl⟩⟩
          · have x1 : (E : Int) < (i : Int) + 4 := by omega
            go_wp2_with fail
            refine (rwrong_any 64 i ((E : Int) + 1) _).mono ?_
            rintro e w3 ⟨rfl, hb3⟩
            have HB3 := Lib.hid (HB1.out.trans (hb3.mono HB1.out.size))
            have hE3 : Whole w3 w.heap.size 30 #[.int .i64 0, .int .i64 0, .int .i64 0] := HE1.out.below hb3 (by have := HS1.out; omega)
            have HE3 := Lib.hid hE3
            obtain ⟨c0, c1, c2, z0, z1, z2⟩ := hE3.three
            clear hb3 hE3
            go_wp2_with fail
            refine bodyPost_ret (results_ttw Tryd.results16 _ rfl (set3_whole HE3.out _ _ _) rfl) rfl ?_
            exact ⟨set3_below HB3.out (Nat.le_refl _) _ _ _, .inl ⟨by unfold nameS; rw [HF.out, HE.out]; simp only []; rw [if_neg (fun h => hfe h.2.1)], congrArg (fun x => Ending.returned (.tuple #[.string ⟨#[]⟩, .int .i64 0, wrongV 64 i x])) (by omega)⟩⟩
      · have hg2 : E = j + 1 + gtN (leftB s (j + 1)) := by
          have := HG.out
          rw [left_cons s j hlt, gtN, if_neg h62] at this
          omega
        have HG2 := Lib.hid hg2
        have b0 : ((s[j].toNat : Int) != 62) = true := ne_true_of (by omega)
        clear h62 HG hg2
        go_wp2
        exact ⟨⟨j + 1, by omega, hlt, rfl, HG2.out, trivial⟩, by simp only [intOf]; omega⟩
    · have hjE : E = j := by
        have := HG.out
        rw [left_nil s j (by omega), gtN] at this
        exact this
      subst hjE
      clear HG
      have y1 : (s.size : Int) < (E : Int) + 1 := by omega
      have hw2 : IntKind.i64.wrap ((E : Int) + 1) = (E : Int) + 1 := wrap_in _ (by omega)
      have hw3 : IntKind.i64.wrap ((i : Int) + 3) = (i : Int) + 3 := wrap_in _ (by omega)
      have hw4 : IntKind.i64.wrap ((i : Int) + 4) = (i : Int) + 4 := wrap_in _ (by omega)
      have HH := Lib.hid (rhas6_any s ⟨#[40, 63, 80, 60]⟩ i wr hs (by decide) hi)
      rw [show (⟨#[40, 63, 80, 60]⟩ : ByteArray).toList = [40, 63, 80, 60] by kernel_rfl] at HH
      obtain ⟨p4, hp4⟩ : ∃ b, preB [40, 63, 80, 60] (leftB s i) = b := ⟨_, rfl⟩
      rw [hp4] at HH
      go_wp2_with fail
      refine HH.out.mono ?_
      rintro e w2 ⟨rfl, rfl⟩
      have HP4 := Lib.hid hp4
      clear HH hp4
      cases p4
      · have HH := Lib.hid (rhas6_any s ⟨#[40, 63, 60]⟩ i w2 hs (by decide) hi)
        rw [show (⟨#[40, 63, 60]⟩ : ByteArray).toList = [40, 63, 60] by kernel_rfl] at HH
        obtain ⟨p3, hp3⟩ : ∃ b, preB [40, 63, 60] (leftB s i) = b := ⟨_, rfl⟩
        rw [hp3] at HH
        go_wp2_with fail
        refine HH.out.mono ?_
        rintro e w4 ⟨rfl, rfl⟩
        have HP3 := Lib.hid hp3
        clear HH hp3
        cases p3
        · go_wp2_with fail
          refine (rwrong_any 64 i (s.size : Int) _).mono ?_
          rintro e w3 ⟨rfl, hb3⟩
          have HB3 := Lib.hid (HB1.out.trans (hb3.mono HB1.out.size))
          have hE3 : Whole w3 w.heap.size 30 #[.int .i64 0, .int .i64 0, .int .i64 0] := HE1.out.below hb3 (by have := HS1.out; omega)
          have HE3 := Lib.hid hE3
          obtain ⟨c0, c1, c2, z0, z1, z2⟩ := hE3.three
          clear hb3 hE3
          go_wp2_with fail
          refine bodyPost_ret (results_ttw Tryd.results16 _ rfl (set3_whole HE3.out _ _ _) rfl) rfl ?_
          exact ⟨set3_below HB3.out (Nat.le_refl _) _ _ _, .inl ⟨by unfold nameS fromS; rw [HP4.out, HP3.out]; rfl, congrArg (fun x => Ending.returned (.tuple #[.string ⟨#[]⟩, .int .i64 0, wrongV 64 i x])) (by omega)⟩⟩
        · have hf : fromS s i = some (i + 3) := by unfold fromS; rw [HP4.out, HP3.out]; rfl
          have HF := Lib.hid hf
          clear hf
          go_wp2_with fail
          refine (rwrong_any 64 i (s.size : Int) _).mono ?_
          rintro e w3 ⟨rfl, hb3⟩
          have HB3 := Lib.hid (HB1.out.trans (hb3.mono HB1.out.size))
          have hE3 : Whole w3 w.heap.size 30 #[.int .i64 0, .int .i64 0, .int .i64 0] := HE1.out.below hb3 (by have := HS1.out; omega)
          have HE3 := Lib.hid hE3
          obtain ⟨c0, c1, c2, z0, z1, z2⟩ := hE3.three
          clear hb3 hE3
          go_wp2_with fail
          refine bodyPost_ret (results_ttw Tryd.results16 _ rfl (set3_whole HE3.out _ _ _) rfl) rfl ?_
          exact ⟨set3_below HB3.out (Nat.le_refl _) _ _ _, .inl ⟨by unfold nameS; rw [HF.out, HE.out]; simp only []; rw [if_neg (by omega)], congrArg (fun x => Ending.returned (.tuple #[.string ⟨#[]⟩, .int .i64 0, wrongV 64 i x])) (by omega)⟩⟩
      · have hf : fromS s i = some (i + 4) := by unfold fromS; rw [HP4.out]; rfl
        have HF := Lib.hid hf
        clear hf
        go_wp2_with fail
        refine (rwrong_any 64 i (s.size : Int) _).mono ?_
        rintro e w3 ⟨rfl, hb3⟩
        have HB3 := Lib.hid (HB1.out.trans (hb3.mono HB1.out.size))
        have hE3 : Whole w3 w.heap.size 30 #[.int .i64 0, .int .i64 0, .int .i64 0] := HE1.out.below hb3 (by have := HS1.out; omega)
        have HE3 := Lib.hid hE3
        obtain ⟨c0, c1, c2, z0, z1, z2⟩ := hE3.three
        clear hb3 hE3
        go_wp2_with fail
        refine bodyPost_ret (results_ttw Tryd.results16 _ rfl (set3_whole HE3.out _ _ _) rfl) rfl ?_
        exact ⟨set3_below HB3.out (Nat.le_refl _) _ _ _, .inl ⟨by unfold nameS; rw [HF.out, HE.out]; simp only []; rw [if_neg (by omega)], congrArg (fun x => Ending.returned (.tuple #[.string ⟨#[]⟩, .int .i64 0, wrongV 64 i x])) (by omega)⟩⟩
end Go.Proofs.YtofhckheeijoiaaDoor
/- The document's SameEsc, of two that are alike. -/
namespace Go.Proofs.YtofhckheeijoiaaDoor
open Go Go.RowKit

set_option maxHeartbeats 1600000 in
set_option maxRecDepth 100000 in
theorem rsameesc_any (k r a : Int) (v u : Value) (l : List (Int × Int)) (w : World) (h : Rgs w v l) (g : Rgs w u l) :
    Calls Tryd.prog 12 #[.agg #[.int .i64 k, .int .i32 r, v, .int .i64 a], .agg #[.int .i64 k, .int .i32 r, u, .int .i64 a]] w fun e w' => e = .returned (.bool true) ∧ Below w.heap.size w w' := by
  obtain ⟨A, c, rfl, h2, h3, h4, h5, h6⟩ := h
  obtain ⟨B, d, rfl, g2, g3, g4, g5, g6⟩ := g
  have hlen : l.length ≤ 9223372036854775807 := by unfold maxLen at h3; omega
  obtain ⟨w1, hw1⟩ : ∃ w1, (w.alloc (.cells #[.int .i64 k, .int .i32 r, .slice A l.length c, .int .i64 a] 27)).alloc (.cells #[.int .i64 k, .int .i32 r, .slice B l.length d, .int .i64 a] 27) = w1 := ⟨_, rfl⟩
  have hE1 : Whole w1 w.heap.size 27 #[.int .i64 k, .int .i32 r, .slice A l.length c, .int .i64 a] := by rw [← hw1]; exact Whole.alloc (heap_alloc_new w _) _
  have hF1 : Whole w1 (w.heap.size + 1) 27 #[.int .i64 k, .int .i32 r, .slice B l.length d, .int .i64 a] := by
    rw [← hw1]
    have := heap_alloc_new (w.alloc (.cells #[.int .i64 k, .int .i32 r, .slice A l.length c, .int .i64 a] 27)) (.cells #[.int .i64 k, .int .i32 r, .slice B l.length d, .int .i64 a] 27)
    simpa [Whole] using this
  have hb1 : Below w.heap.size w w1 := by rw [← hw1]; exact ((Below.refl _ w).alloc (Nat.le_refl _) _).alloc (by simp) _
  have HW1 := Lib.hid hw1; have HB1 := Lib.hid hb1
  have H5 := Lib.hid h5; have G5 := Lib.hid g5
  obtain ⟨e0, e1, e2, e3, -, -, -, -⟩ := hE1.four
  obtain ⟨f0, f1, f2, f3, -, -, -, -⟩ := hF1.four
  clear hw1 hE1 hF1 hb1 h5 h6 h4 h2 h3 g5 g6 g4 g2 g3
  go_enter Tryd.func12, Tryd.ntmps12
  go_upto_region 1 with (fail)
  rw [HW1.out]
  go_wp2_with fail
  go_loopw [5] (fun i wr => ∃ m : Nat, m ≤ l.length ∧ i = .int .i64 m ∧ ∃ q, wr = w1.drewN q) (fun i _ => l.length - (intOf i).toNat)
  case atStart => exact ⟨0, Nat.zero_le _, rfl, 0, rfl⟩
  case round =>
    obtain ⟨m, hm, rfl, q, rfl⟩ := hrel
    by_cases hlt : m < l.length
    · rcases H5.out with h5 | ⟨b, o, rfl, hc⟩
      · rw [h5] at hlt
        simp at hlt
      rcases G5.out with g5 | ⟨b', o', rfl, hc'⟩
      · rw [g5] at hlt
        simp at hlt
      obtain ⟨y1, y2, hy, hsp, c1w, c2w⟩ := rgs_at hc m hlt
      obtain ⟨z1, z2, hz, hsk, d1w, d2w⟩ := rgs_at hc' m hlt
      rw [hy] at hz
      injection hz with hz
      injection hz with hz1 hz2
      subst hz1 hz2
      have c1 := (HB1.out.cell (World.block_lt_of_cell? w _ c1w)).trans c1w
      have c2 := (HB1.out.cell (World.block_lt_of_cell? w _ c2w)).trans c2w
      have d1 := (HB1.out.cell (World.block_lt_of_cell? w _ d1w)).trans d1w
      have d2 := (HB1.out.cell (World.block_lt_of_cell? w _ d2w)).trans d2w
      clear hsp hsk hc hc' hy c1w c2w d1w d2w
      have hltz : (m : Int) < (l.length : Int) := by omega
      go_wp2_with fail
      go_big_quiet (fail)
      go_wp2
      go_roundw
      case rel => exact ⟨m + 1, by omega, by go_num, ⟨_, by first | with_reducible rfl | exact World.drewN_drewN _ _ _⟩⟩
      case measure => simp [intOf]; omega
    · go_wp2
      go_ret
      refine ⟨rfl, ?_⟩
      have hd : ∀ n, Below w1.heap.size w1 (w1.drewN n) := fun n => by
        induction n with
        | zero => exact Below.refl _ _
        | succ n ih => exact ih.drew
      exact HB1.out.trans ((hd q).mono HB1.out.size)
end Go.Proofs.YtofhckheeijoiaaDoor
