/- The fixed question of stage 3; the orbits of any runes, the sets of any names, folding any list: as the document says; what is alike. From the contracts of the program's Named, Orbit and Fold (named_any, orbit_any, fold_any). -/
import Derived.Test.YthfmoodjdokaiaaDoorTProgOrbit
import Derived.Test.YthfmoodjdokaiaaDoorTNamed
import Derived.Test.YthfmoodjdokaiaaDoorTFold
import Derived.Test.YthfmoodjdokaiaaDoorNSame
import Derived.Test.YthfmoodjdokaiaaDoorRSame
import Derived.Test.YthfmoodjdokaiaaDoorRHas
set_option linter.unusedVariables false
namespace Go.Proofs.YthfmoodjdokaiaaDoor
open Go Go.RowKit

set_option maxHeartbeats 1600000 in
set_option maxRecDepth 100000 in
theorem thead_any (w : World) (hT0 : TabsT w) : Calls Tryd.prog 8 #[] w fun e w' => e = .returned (.bool true) ∧ Below w.heap.size w w' := by
  have HO := Lib.hid (orbit_any 97 w (by unfold I32; decide) hT0)
  go_enter Tryd.func8, Tryd.ntmps8
  go_wp2_with fail
  refine HO.out.mono ?_
  rintro e w1 ⟨v, rfl, ho, hb⟩
  rw [show orbR 97 = [65, 97] by decide] at ho
  have HN := Lib.hid (named_any ⟨#[76, 117]⟩ w1)
  have HR := Lib.hid ho.rns
  have HB := Lib.hid hb
  clear ho hb
  go_wp2_with fail
  refine HN.out.mono ?_
  rintro e w2 ⟨hb, ⟨hn, rfl⟩ | ⟨u, l, hn, rfl, ho⟩⟩
  · rw [show (⟨#[76, 117]⟩ : ByteArray).toList = [76, 117] by kernel_rfl] at hn
    exact absurd hn (by decide)
  · obtain ⟨a, c, rfl, -, -, -, f5, -⟩ := HR.out.below hb
    rcases f5 with f5 | ⟨b, o, rfl, hc⟩
    · cases f5
    have c1 := hc 0 (by simp)
    have c2 := hc 1 (by simp)
    simp only [List.getElem_cons_zero, List.getElem_cons_succ, Nat.add_zero] at c1 c2
    have HB2 := Lib.hid (HB.out.trans (hb.mono HB.out.size))
    clear hc ho hb hn
    go_wp2_with fail
    go_ret
    exact ⟨rfl, HB2.out⟩

set_option maxHeartbeats 1600000 in
set_option maxRecDepth 100000 in
/-- The orbit of any rune, and of what is none, is the document's. -/
theorem torbits_any (w : World) (c : Int) (hc : I32 c) (hT0 : TabsT w) : Calls Tryd.prog 4 #[.int .i32 c] w fun e w' => e = .returned (.bool true) ∧ Below w.heap.size w w' := by
  have H0 := Lib.hid hT0
  clear hT0
  go_enter Tryd.func4, Tryd.ntmps4
  go_wp2_with fail
  refine (thead_any w H0.out).mono ?_
  rintro e w1 ⟨rfl, hb⟩
  have HT := Lib.hid hb
  clear hb
  go_wp2_with fail
  refine (orbit_any c w1 hc (H0.out.below HT.out)).mono ?_
  rintro e w2 ⟨v2, rfl, ho, hb⟩
  have R2 := Lib.hid ho.rns
  replace HT := Lib.hid (HT.out.trans (hb.mono HT.out.size))
  clear ho hb
  go_wp2_with fail
  refine (rorbit_any c w2 hc).mono ?_
  rintro e w3 ⟨v3, rfl, ho, hb⟩
  replace R2 := Lib.hid (R2.out.below hb)
  have R3 := Lib.hid ho.rns
  replace HT := Lib.hid (HT.out.trans (hb.mono HT.out.size))
  clear ho hb
  go_wp2_with fail
  refine (nsame_any v2 v3 _ _ w3 R2.out R3.out).mono ?_
  rintro e w4 ⟨B, rfl, hq, q, rfl⟩
  obtain rfl : B = true := hq.2 rfl
  have HT2 := Lib.hid (below_drewNr HT.out q)
  clear hq
  go_wp2_with fail
  go_ret
  exact ⟨rfl, HT2.out⟩

set_option maxHeartbeats 1600000 in
set_option maxRecDepth 100000 in
/-- A set of any list, with all that is alike, is the document's. -/
theorem tfolds_any (w : World) (v : Value) (l : List (Int × Int)) (g : Rgs w v l) (hT0 : TabsT w) : Calls Tryd.prog 5 #[v] w fun e w' => e = .returned (.bool true) ∧ Below w.heap.size w w' := by
  have H0 := Lib.hid hT0
  clear hT0
  have R_l := Lib.hid g
  obtain ⟨a, c, rfl, h2, h3, -⟩ := g
  have hlen : l.length ≤ 9223372036854775807 := by unfold maxLen at h3; omega
  clear h2 h3
  go_enter Tryd.func5, Tryd.ntmps5
  go_wp2_with fail
  refine (thead_any w H0.out).mono ?_
  rintro e w1 ⟨rfl, hb⟩
  have HT := Lib.hid hb
  replace R_l := Lib.hid (R_l.out.below hb)
  clear hb
  by_cases hl : 500 < l.length
  · have hz : (500 : Int) < (l.length : Int) := by omega
    go_wp2_with fail
    go_ret
    exact ⟨rfl, HT.out⟩
  · have hz : ¬ (500 : Int) < (l.length : Int) := by omega
    go_wp2_with fail
    refine (fold_any _ l w1 R_l.out (by omega) (H0.out.below HT.out)).mono ?_
    rintro e w2 ⟨v2, k2, rfl, hO, hR, hP, hb⟩
    have Q2 := Lib.hid hR; have P2 := Lib.hid hP; have R2 := Lib.hid hO.rgs
    replace R_l := Lib.hid (R_l.out.below hb)
    replace HT := Lib.hid (HT.out.trans (hb.mono HT.out.size))
    clear hO hR hP hb
    go_wp2_with fail
    refine (rfold_any _ l w2 R_l.out (by omega)).mono ?_
    rintro e w3 ⟨v3, k3, rfl, hO, hR, hP, hb⟩
    have Q3 := Lib.hid hR; have P3 := Lib.hid hP; have R3 := Lib.hid hO.rgs
    replace R2 := Lib.hid (R2.out.below hb)
    replace HT := Lib.hid (HT.out.trans (hb.mono HT.out.size))
    clear hO hR hP hb
    go_wp2_with fail
    refine (rsame_any _ _ k2 k3 w3 R2.out R3.out).mono ?_
    rintro e w4 ⟨B, rfl, hq, q, rfl⟩
    obtain rfl : B = true := hq.2 (right_eq k2 k3 Q2.out Q3.out fun c => (P2.out c).trans (P3.out c).symm)
    have HT2 := Lib.hid (below_drewNr HT.out q)
    clear hq
    go_wp2_with fail
    go_ret
    exact ⟨rfl, HT2.out⟩
end Go.Proofs.YthfmoodjdokaiaaDoor
