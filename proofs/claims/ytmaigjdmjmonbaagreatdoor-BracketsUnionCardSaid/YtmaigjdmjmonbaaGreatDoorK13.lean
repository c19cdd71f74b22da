/- Texts merged by program: Norm, OwnE, RSet, RNamed, RNot, R4Set, R4Cls, R4NotR, R4Perl, SPerls, R4Prop, ROrbit, Orb, CRuns, R4Plain, R4Posix, R4Dot, Union, RFold, TTab, TOrbit, TOrbitOf. No condition. -/
import Derived.Test.YtmaigjdmjmonbaaGreatDoorK11
import Derived.Test.YtmaigjdmjmonbaaGreatDoorK9
import Derived.Test.YtmaigjdmjmonbaaGreatDoorK2
import Derived.Test.YtmaigjdmjmonbaaGreatDoorK12
import Derived.Test.YtmaigjdmjmonbaaGreatDoorK10
import Derived.Deep.DeepCutAuto
import Derived.Deep.RegionHeld3
import Derived.Outline
import Derived.Laws.Rows
set_option linter.unusedVariables false
/- The document's Norm: the set of any list, in a fresh row. -/
namespace Go.Proofs.YtmaigjdmjmonbaaGreatDoor
open Go Go.RowKit

theorem own_lit' (W : World) (B n : Nat) (h : W.heap.size = n) (hB : B ≤ n) : OwnR (W.alloc (.cells #[] 43)) B (.slice (some ⟨n, 0, none⟩) 0 0) [] := by
  subst h
  exact ⟨World.ownsRow_lit W #[] 0 hB (Nat.zero_le _) rfl, by simp [AllI32]⟩
theorem wrap_nat (n : Nat) (h : n < 9223372036854775808) : IntKind.i64.wrap (n : Int) = (n : Int) := by
  have hm : (n : Int) % 18446744073709551616 = n := by omega
  unfold IntKind.wrap
  simp [IntKind.bits, IntKind.signed, hm]
  omega
theorem put_split (S : List (Int × Int)) (x : Int × Int) (k : Nat) : S.take k ++ [x] ++ S.drop k = S.take k ++ x :: S.drop k := by simp
theorem cut_letters (x1 x2 y1 y2 : Int) (h1 : (if x1 < 0 then 0 else x1) = y1) (h2 : (if 1114111 < x2 then 1114111 else x2) = y2) : cutR (x1, x2) = (y1, y2) := by
  unfold cutR
  simp only
  rw [← h1, ← h2]
  congr 1
  · split <;> omega
  · split <;> omega
/-- A fresh row of the set of the runes for which P holds. -/
def SetPost (P : Int → Prop) (w : World) (e : Ending) (w' : World) : Prop :=
  ∃ v k, e = .returned v ∧ OwnR w' w.heap.size v k ∧ RightR k ∧ (∀ c, HasR k c ↔ P c) ∧ Below w.heap.size w w'
def Loop1 (w : World) (l : List (Int × Int)) (m : Nat) (vs : Value) (wr : World) : Prop :=
  ∃ S, OwnR wr w.heap.size vs S ∧ Sorted S ∧ (∀ c, HasR S c ↔ HasR (l.take m) c) ∧ S.length ≤ m ∧ Below w.heap.size w wr

def Loop2 (wr : World) (S : List (Int × Int)) (k : Nat) (vo : Value) (wz : World) : Prop :=
  ∃ O, OwnR wz wr.heap.size vo O ∧ RightR O ∧ (∀ c, HasR O c ↔ HasR (S.take k) c) ∧ O.length ≤ k ∧ (∀ o p, O = o ++ [p] → ∀ j (h : j < S.length), k ≤ j → p.1 ≤ S[j].1) ∧ Below wr.heap.size wr wz
theorem sorted_le {S : List (Int × Int)} (h : Sorted S) (i j : Nat) (hj : j < S.length) (hi : i ≤ j) : (S[i]'(by omega)).1 ≤ S[j].1 := by
  rcases Nat.lt_or_ge i j with h1 | h1
  · exact List.pairwise_iff_getElem.1 h.1 i j (by omega) hj h1
  · have : i = j := by omega
    subst this
    exact Int.le_refl _

set_option maxHeartbeats 1600000 in
set_option maxRecDepth 100000 in
theorem rnorm_any (v : Value) (l : List (Int × Int)) (w : World) (h : Rgs w v l) (hn : l.length ≤ 1099511627776) :
    Calls Tryz.prog 15 #[v] w (SetPost (HasR l) w) := by
  have hrg := h
  obtain ⟨a, c, rfl, h2, h3, h4, h5, h6⟩ := h
  have HRG := Lib.hid hrg; have H6 := Lib.hid h6
  clear h5 h6 h4 h2 h3 hrg
  go_enter Tryz.func15, Tryz.ntmps15
  go_wp2_with fail
  go_loopw [3, 4] (fun vs i wr => ∃ m : Nat, m ≤ l.length ∧ i = .int .i64 m ∧ Loop1 w l m vs wr) (fun _ i _ => l.length - (intOf i).toNat)
  case atStart => exact ⟨0, Nat.zero_le _, rfl, [], own_none _ _, sorted_nil, fun c => by simp [HasR], Nat.le_refl _, Below.refl _ _⟩
  case round =>
    obtain ⟨m, hm, rfl, S, hO, hS, hP, hSm, hB⟩ := hrel
    have HO := Lib.hid hO; have HS := Lib.hid hS; have HP := Lib.hid hP; have HB := Lib.hid hB
    clear hO hS hP hB
    by_cases hlt : m < l.length
    · obtain ⟨a', c', e, g2, g3, g4, g5, g6⟩ := HRG.out.below HB.out
      injection e with e1 e2 e3
      subst e1 e3
      rcases g5 with g5 | ⟨b, o, rfl, hc⟩
      · rw [g5] at hlt
        simp at hlt
      obtain ⟨x1, x2, hx, hsp, c1, c2⟩ := rgs_at hc m hlt
      have HSP := Lib.hid hsp; have HX := Lib.hid hx
      clear hsp hx hc g6
      obtain ⟨y1, hy1⟩ : ∃ y1 : Int, (if x1 < 0 then 0 else x1) = y1 := ⟨_, rfl⟩
      obtain ⟨y2, hy2⟩ : ∃ y2 : Int, (if 1114111 < x2 then 1114111 else x2) = y2 := ⟨_, rfl⟩
      go_upto_region 5 with (fail)
      go_cut [5] (fun s5 wx => ∃ bx, s5 = .pointer (some ⟨bx, 0, none⟩) ∧ Whole wx bx 43 #[.int .i32 y1, .int .i32 y2] ∧ wr.heap.size ≤ bx ∧ Below wr.heap.size wr wx)
      case first =>
        go_region_held3 (fun w' => w'.cell? ⟨b, o + m * 2, none⟩ = some (.int .i32 x1) ∧ w'.cell? ⟨b, o + m * 2 + 1, none⟩ = some (.int .i32 x2)) (first | go_keep | exact ⟨c1, c2⟩) (fail)
        all_goals
          go_wp2
          go_meet
          exact ⟨wr.heap.size, rfl, heap_alloc_new wr _, Nat.le_refl _, ((Below.refl _ wr).alloc (Nat.le_refl _) _).drew⟩
      case rest =>
        obtain ⟨bx, rfl, hW, hbx, hBx⟩ := hcut
        have k1 := hW.cell 0
        have k2 := hW.cell 1
        simp only [List.getElem?_toArray, List.getElem?_cons_succ, List.getElem?_cons_zero] at k1 k2
        have HW := Lib.hid hW; have HBX := Lib.hid hBx
        have HY1 := Lib.hid hy1; have HY2 := Lib.hid hy2
        clear hW hBx c1 c2 hy1 hy2
        have HI := Lib.hid (show I32 y1 ∧ I32 y2 from by
          have e := H6.out (x1, x2) (List.mem_of_getElem? HX.out)
          have e1 := HY1.out
          have e2 := HY2.out
          unfold I32 at *
          simp only at e
          split at e1 <;> split at e2 <;> omega)
        have HBX' := Lib.hid (HB.out.trans (HBX.out.mono HB.out.size))
        have HBC := Lib.hid (show w.heap.size ≤ wc.heap.size from (HB.out.trans (HBX.out.mono HB.out.size)).size)
        have HOC := Lib.hid (HO.out.below HBX.out)
        by_cases hxy : y2 < y1
        · have hd : decide (y2 < y1) = true := decide_eq_true hxy
          go_wp2
          go_roundw
          case rel =>
            have hcx := cut_letters x1 x2 y1 y2 HY1.out HY2.out
            refine ⟨m + 1, by omega, by go_num, S, HOC.out, HS.out, fun c => ?_, by omega, HBX'.out⟩
            have := has_cut_none (x1, x2) (by rw [hcx]; exact hxy) c
            rw [HP.out, HSP.out, has_append]
            exact ⟨.inl, fun h => h.resolve_right this⟩
          case measure => simp [intOf]; omega
        · have hd : decide (y2 < y1) = false := decide_eq_false hxy
          rcases own_slice2 HO.out.1 with ⟨rfl, hS0⟩ | ⟨g, cs, rfl, hSc, hcm, hBg⟩
          · have HRS := Lib.hid (show Rgs wc (.slice none 0 0) S from HOC.out.rgs)
            have hn0 : S = [] := List.eq_nil_of_length_eq_zero hS0
            go_wp2_with fail
            go_loopw [6] (fun i wy => i = .int .i64 0 ∧ Below wc.heap.size wc wy ∧ wy.heap.size = wc.heap.size) (fun _ _ => 0)
            case atStart => exact ⟨rfl, Below.refl _ _, rfl⟩
            case round =>
              obtain ⟨rfl, hBy, hsz⟩ := hrel
              have HBY := Lib.hid hBy; have HSZ := Lib.hid hsz
              clear hBy hsz
              have hlo : ∀ j (h : j < S.length), j + 1 = 0 → S[j].1 ≤ y1 := fun j h e => by omega
              have hhi : ∀ j (h : j < S.length), 0 ≤ j → y1 < S[j].1 := fun j h e => by omega
              go_wp2_with fail
              go_big_quiet (fail)
              have HN0 := Lib.hid hn0
              clear hn0
              have hkS : 0 ≤ S.length := by omega
              have hSl : (S.take 0).length ≤ 1099511627776 := by rw [List.length_take]; omega
              have HLO := Lib.hid hlo; have HHI := Lib.hid hhi
              clear hlo hhi
              go_wp2_with (at_builtin; refine append_rgs rfl (.tmp 52) (.tmp 55) rfl wc.heap.size _ [] rfl (own_lit' (wr.drewN nq) wc.heap.size wr.heap.size (by simp) (by have := HSZ.out; omega)) none 0 0 (S.take 0) rfl ((rgs_take HRS.out 0 (by omega)).below ((below_drewNr HBY.out _).alloc (by simp; have := HSZ.out; omega) _)) ?b2 ?b3 ?_)
              case b2 => simp <;> omega
              case b3 => simp; have := HSZ.out; omega
              intro v1 w1 ho1 hg1
              try simp only [List.nil_append] at ho1
              have hB1 := ((below_drewNr HBY.out nq).alloc (by simp; have := HSZ.out; omega) (.cells #[] 43)).grown hg1 (by simp; have := HSZ.out; omega) (by have := HSZ.out; simp [Value.ownBlock]; omega)
              have hw1 := HW.out.below hB1 HW.out.lt
              have k1 := hw1.cell 0
              have k2 := hw1.cell 1
              simp only [List.getElem?_toArray, List.getElem?_cons_succ, List.getElem?_cons_zero] at k1 k2
              have HO1 := Lib.hid ho1; have HB1 := Lib.hid hB1
              clear ho1 hB1 hg1 hw1
              go_wp2_with (at_builtin; refine append_rgs rfl (.tmp 57) (.tmp 59) rfl wc.heap.size v1 (S.take 0) rfl (HO1.out.below ((Below.refl _ w1).alloc (Nat.le_refl _) _)) (some ⟨w1.heap.size, 0, none⟩) 1 1 [(y1, y2)] rfl (rgs_new w1 y1 y2 HI.out.1 HI.out.2) ?c1 ?c2 ?_)
              case c1 => simp only [List.length_cons, List.length_nil]; omega
              case c2 => have := HB1.out.size; simp; omega
              intro v2 w2 ho2 hg2
              have HB2 := Lib.hid ((HB1.out.alloc HB1.out.size _).grown hg2 (by have := HB1.out.size; simp; omega) (fun j hj => (HO1.out.1.lt j hj).1))
              have HO2 := Lib.hid ho2
              have HD := Lib.hid (show Rgs w2 (.slice none 0 0) (S.drop 0) from by rw [List.drop_zero]; exact HRS.out.below HB2.out)
              clear ho2 hg2
              go_wp2_with (at_builtin; refine append_rgs rfl (.tmp 61) (.tmp 64) rfl wc.heap.size v2 (S.take 0 ++ [(y1, y2)]) rfl HO2.out _ _ _ (S.drop 0) rfl HD.out ?d1 ?d2 ?_)
              case d1 => simp <;> omega
              case d2 => exact HB2.out.size
              intro v3 w3 ho3 hg3
              have hB3 := HB2.out.grown hg3 HB2.out.size (fun j hj => (HO2.out.1.lt j hj).1)
              go_wp2
              go_roundw
              case rel =>
                have ho3' : OwnR w3 wc.heap.size v3 (S.take 0 ++ (y1, y2) :: S.drop 0) := by simpa using ho3
                have hcx := cut_letters x1 x2 y1 y2 HY1.out HY2.out
                have hfit : Fit (y1, y2) := by
                  rw [← hcx]
                  exact fit_cut _ (by rw [hcx]; show ¬ y2 < y1; omega)
                refine ⟨m + 1, by omega, by go_num, _, ho3'.mono HBC.out, sorted_put S (y1, y2) 0 HS.out hfit hkS HLO.out HHI.out, fun c => ?_, by simp; omega, HBX'.out.trans (hB3.mono HBC.out)⟩
                rw [has_put, HP.out, HSP.out, has_append, ← has_cut (x1, x2), hcx]
              case measure => simp [intOf]; omega
          · have HRS := Lib.hid (show Rgs wc (.slice (some ⟨g, 0, none⟩) S.length cs) S from HOC.out.rgs)
            go_wp2_with fail
            go_loopw [6] (fun i wy => ∃ k : Nat, k ≤ S.length ∧ i = .int .i64 k ∧ (Below wc.heap.size wc wy ∧ wy.heap.size = wc.heap.size) ∧ ∀ j (h : j < S.length), k ≤ j → y1 < S[j].1) (fun i _ => (intOf i).toNat)
            case atStart => exact ⟨S.length, Nat.le_refl _, rfl, ⟨Below.refl _ _, rfl⟩, fun j h1 h2 => by omega⟩
            case round =>
              obtain ⟨k, hk, rfl, ⟨hBy, hsz⟩, hhi⟩ := hrel
              have HBY := Lib.hid hBy; have HSZ := Lib.hid hsz
              clear hBy hsz
              by_cases hk0 : k = 0
              · subst hk0
                have hlo : ∀ j (h : j < S.length), j + 1 = 0 → S[j].1 ≤ y1 := fun j h e => by omega
                go_wp2_with fail
                go_big_quiet (fail)
                have hkS : 0 ≤ S.length := by omega
                have hSl : (S.take 0).length ≤ 1099511627776 := by rw [List.length_take]; omega
                have HLO := Lib.hid hlo; have HHI := Lib.hid hhi
                clear hlo hhi
                go_wp2_with (at_builtin; refine append_rgs rfl (.tmp 52) (.tmp 55) rfl wc.heap.size _ [] rfl (own_lit' (wr.drewN nq) wc.heap.size wr.heap.size (by simp) (by have := HSZ.out; omega)) (some ⟨g, 0, none⟩) 0 cs (S.take 0) rfl ((rgs_take HRS.out (0) (by omega)).below ((below_drewNr HBY.out _).alloc (by simp; have := HSZ.out; omega) _)) ?b2 ?b3 ?_)
                case b2 => simp <;> omega
                case b3 => simp; have := HSZ.out; omega
                intro v1 w1 ho1 hg1
                try simp only [List.nil_append] at ho1
                have hB1 := ((below_drewNr HBY.out nq).alloc (by simp; have := HSZ.out; omega) (.cells #[] 43)).grown hg1 (by simp; have := HSZ.out; omega) (by have := HSZ.out; simp [Value.ownBlock]; omega)
                have hw1 := HW.out.below hB1 HW.out.lt
                have k1 := hw1.cell 0
                have k2 := hw1.cell 1
                simp only [List.getElem?_toArray, List.getElem?_cons_succ, List.getElem?_cons_zero] at k1 k2
                have HO1 := Lib.hid ho1; have HB1 := Lib.hid hB1
                clear ho1 hB1 hg1 hw1
                go_wp2_with (at_builtin; refine append_rgs rfl (.tmp 57) (.tmp 59) rfl wc.heap.size v1 (S.take 0) rfl (HO1.out.below ((Below.refl _ w1).alloc (Nat.le_refl _) _)) (some ⟨w1.heap.size, 0, none⟩) 1 1 [(y1, y2)] rfl (rgs_new w1 y1 y2 HI.out.1 HI.out.2) ?c1 ?c2 ?_)
                case c1 => simp only [List.length_cons, List.length_nil]; omega
                case c2 => have := HB1.out.size; simp; omega
                intro v2 w2 ho2 hg2
                have HB2 := Lib.hid ((HB1.out.alloc HB1.out.size _).grown hg2 (by have := HB1.out.size; simp; omega) (fun j hj => (HO1.out.1.lt j hj).1))
                have HO2 := Lib.hid ho2
                have HD := Lib.hid (show Rgs w2 (.slice (some ⟨g, 0, none⟩) S.length cs) (S.drop 0) from by rw [List.drop_zero]; exact HRS.out.below HB2.out)
                clear ho2 hg2
                go_wp2_with (at_builtin; refine append_rgs rfl (.tmp 61) (.tmp 64) rfl wc.heap.size v2 (S.take 0 ++ [(y1, y2)]) rfl HO2.out _ _ _ (S.drop 0) rfl HD.out ?d1 ?d2 ?_)
                case d1 => simp <;> omega
                case d2 => exact HB2.out.size
                intro v3 w3 ho3 hg3
                have hB3 := HB2.out.grown hg3 HB2.out.size (fun j hj => (HO2.out.1.lt j hj).1)
                go_wp2
                go_roundw
                case rel =>
                  have ho3' : OwnR w3 wc.heap.size v3 (S.take 0 ++ (y1, y2) :: S.drop 0) := by simpa using ho3
                  have hcx := cut_letters x1 x2 y1 y2 HY1.out HY2.out
                  have hfit : Fit (y1, y2) := by
                    rw [← hcx]
                    exact fit_cut _ (by rw [hcx]; show ¬ y2 < y1; omega)
                  refine ⟨m + 1, by omega, by go_num, _, ho3'.mono HBC.out, sorted_put S (y1, y2) 0 HS.out hfit hkS HLO.out HHI.out, fun c => ?_, by simp; omega, HBX'.out.trans (hB3.mono HBC.out)⟩
                  rw [has_put, HP.out, HSP.out, has_append, ← has_cut (x1, x2), hcx]
                case measure => simp [intOf]; omega
              · obtain ⟨p, rfl⟩ : ∃ p, k = p + 1 := ⟨k - 1, by omega⟩
                have hp : p < S.length := by omega
                have hpz : (0 : Int) < (p : Int) + 1 := by omega
                have dp : decide ((0 : Int) < (p : Int) + 1) = true := decide_eq_true hpz
                have hcells : ∃ s1 s2, S[p]? = some (s1, s2) ∧ wr.cell? ⟨g, p * 2, none⟩ = some (.int .i32 s1) := by
                  obtain ⟨a1, c1, q1, q2, q3, q4, q5, q6⟩ := HRS.out.below HBY.out
                  injection q1 with q1 _ _
                  subst q1
                  rcases q5 with q5 | ⟨b1, o1, q7, q8⟩
                  · rw [q5] at hp
                    simp at hp
                  · injection q7 with q7
                    injection q7 with q9 q10
                    subst q9 q10
                    obtain ⟨s1, s2, r1, _, r3, _⟩ := rgs_at q8 p hp
                    exact ⟨s1, s2, r1, by simpa using r3⟩
                obtain ⟨s1, s2, hs1, hsc⟩ := hcells
                have hbxc := HW.out.below HBY.out HW.out.lt
                have z1 := hbxc.cell 0
                simp only [List.getElem?_toArray, List.getElem?_cons_zero] at z1
                have HS1 := Lib.hid hs1
                clear hs1 hbxc
                by_cases hsy : y1 < s1
                · have dsy : decide (y1 < s1) = true := decide_eq_true hsy
                  go_wp2_with fail
                  go_big_quiet (fail)
                  go_wp2
                  go_roundw
                  case rel =>
                    refine ⟨p, by omega, by go_num, ⟨below_drewNr HBY.out nq, by simpa using HSZ.out⟩, fun j h1 h2 => ?_⟩
                    by_cases hj : j = p
                    · subst hj
                      have := HS1.out
                      rw [List.getElem?_eq_getElem h1] at this
                      rw [Option.some.inj this]
                      exact hsy
                    · exact hhi j h1 (by omega)
                  case measure => simp [intOf]
                · have dsy : decide (y1 < s1) = false := decide_eq_false hsy
                  have hlo : ∀ j (h : j < S.length), j + 1 = p + 1 → S[j].1 ≤ y1 := fun j h1 h2 => by
                    obtain rfl : j = p := by omega
                    have := HS1.out
                    rw [List.getElem?_eq_getElem h1] at this
                    rw [Option.some.inj this]
                    show s1 ≤ y1
                    omega
                  go_wp2_with fail
                  go_big_quiet (fail)
                  clear hsc z1
                  have hkz : (p : Int) + 1 ≤ (S.length : Int) := by omega
                  have hcz : (p : Int) + 1 ≤ (cs : Int) := by omega
                  by_cases hck : cs = p + 1
                  · have HCK := Lib.hid hck
                    clear hck
                    have hkS : (p + 1) ≤ S.length := by omega
                    have hSl : (S.take (p + 1)).length ≤ 1099511627776 := by rw [List.length_take]; omega
                    have HLO := Lib.hid hlo; have HHI := Lib.hid hhi
                    clear hlo hhi
                    go_wp2_with (at_builtin; refine append_rgs rfl (.tmp 52) (.tmp 55) rfl wc.heap.size _ [] rfl (own_lit' (wr.drewN nq) wc.heap.size wr.heap.size (by simp) (by have := HSZ.out; omega)) (some ⟨g, 0, none⟩) (p + 1) cs (S.take (p + 1)) rfl ((rgs_take HRS.out ((p + 1)) (by omega)).below ((below_drewNr HBY.out _).alloc (by simp; have := HSZ.out; omega) _)) ?b2 ?b3 ?_)
                    case b2 => simp <;> omega
                    case b3 => simp; have := HSZ.out; omega
                    intro v1 w1 ho1 hg1
                    try simp only [List.nil_append] at ho1
                    have hB1 := ((below_drewNr HBY.out nq).alloc (by simp; have := HSZ.out; omega) (.cells #[] 43)).grown hg1 (by simp; have := HSZ.out; omega) (by have := HSZ.out; simp [Value.ownBlock]; omega)
                    have hw1 := HW.out.below hB1 HW.out.lt
                    have k1 := hw1.cell 0
                    have k2 := hw1.cell 1
                    simp only [List.getElem?_toArray, List.getElem?_cons_succ, List.getElem?_cons_zero] at k1 k2
                    have HO1 := Lib.hid ho1; have HB1 := Lib.hid hB1
                    clear ho1 hB1 hg1 hw1
                    go_wp2_with (at_builtin; refine append_rgs rfl (.tmp 57) (.tmp 59) rfl wc.heap.size v1 (S.take (p + 1)) rfl (HO1.out.below ((Below.refl _ w1).alloc (Nat.le_refl _) _)) (some ⟨w1.heap.size, 0, none⟩) 1 1 [(y1, y2)] rfl (rgs_new w1 y1 y2 HI.out.1 HI.out.2) ?c1 ?c2 ?_)
                    case c1 => simp only [List.length_cons, List.length_nil]; omega
                    case c2 => have := HB1.out.size; simp; omega
                    intro v2 w2 ho2 hg2
                    have HB2 := Lib.hid ((HB1.out.alloc HB1.out.size _).grown hg2 (by have := HB1.out.size; simp; omega) (fun j hj => (HO1.out.1.lt j hj).1))
                    have HO2 := Lib.hid ho2
                    have HD := Lib.hid (show Rgs w2 (.slice (some ⟨g, 0, none⟩) 0 0) (S.drop (p + 1)) from by have := rgs_drop (HRS.out.below HB2.out) (p + 1) hkS; have hc1 := HCK.out; rw [if_pos hc1, show S.length - (p + 1) = 0 by omega, show cs - (p + 1) = 0 by omega] at this; exact this)
                    have hck := HCK.out
                    have hsl : S.length = p + 1 := by omega
                    clear ho2 hg2
                    go_wp2_with (at_builtin; refine append_rgs rfl (.tmp 61) (.tmp 64) rfl wc.heap.size v2 (S.take (p + 1) ++ [(y1, y2)]) rfl HO2.out _ _ _ (S.drop (p + 1)) rfl HD.out ?d1 ?d2 ?_)
                    case d1 => simp <;> omega
                    case d2 => exact HB2.out.size
                    intro v3 w3 ho3 hg3
                    have hB3 := HB2.out.grown hg3 HB2.out.size (fun j hj => (HO2.out.1.lt j hj).1)
                    go_wp2
                    go_roundw
                    case rel =>
                      have ho3' : OwnR w3 wc.heap.size v3 (S.take (p + 1) ++ (y1, y2) :: S.drop (p + 1)) := by simpa using ho3
                      have hcx := cut_letters x1 x2 y1 y2 HY1.out HY2.out
                      have hfit : Fit (y1, y2) := by
                        rw [← hcx]
                        exact fit_cut _ (by rw [hcx]; show ¬ y2 < y1; omega)
                      refine ⟨m + 1, by omega, by go_num, _, ho3'.mono HBC.out, sorted_put S (y1, y2) (p + 1) HS.out hfit hkS HLO.out HHI.out, fun c => ?_, by simp; omega, HBX'.out.trans (hB3.mono HBC.out)⟩
                      rw [has_put, HP.out, HSP.out, has_append, ← has_cut (x1, x2), hcx]
                    case measure => simp [intOf]; omega
                  · have hkS : (p + 1) ≤ S.length := by omega
                    have hSl : (S.take (p + 1)).length ≤ 1099511627776 := by rw [List.length_take]; omega
                    have HLO := Lib.hid hlo; have HHI := Lib.hid hhi
                    clear hlo hhi
                    go_wp2_with (at_builtin; refine append_rgs rfl (.tmp 52) (.tmp 55) rfl wc.heap.size _ [] rfl (own_lit' (wr.drewN nq) wc.heap.size wr.heap.size (by simp) (by have := HSZ.out; omega)) (some ⟨g, 0, none⟩) (p + 1) cs (S.take (p + 1)) rfl ((rgs_take HRS.out ((p + 1)) (by omega)).below ((below_drewNr HBY.out _).alloc (by simp; have := HSZ.out; omega) _)) ?b2 ?b3 ?_)
                    case b2 => simp <;> omega
                    case b3 => simp; have := HSZ.out; omega
                    intro v1 w1 ho1 hg1
                    try simp only [List.nil_append] at ho1
                    have hB1 := ((below_drewNr HBY.out nq).alloc (by simp; have := HSZ.out; omega) (.cells #[] 43)).grown hg1 (by simp; have := HSZ.out; omega) (by have := HSZ.out; simp [Value.ownBlock]; omega)
                    have hw1 := HW.out.below hB1 HW.out.lt
                    have k1 := hw1.cell 0
                    have k2 := hw1.cell 1
                    simp only [List.getElem?_toArray, List.getElem?_cons_succ, List.getElem?_cons_zero] at k1 k2
                    have HO1 := Lib.hid ho1; have HB1 := Lib.hid hB1
                    clear ho1 hB1 hg1 hw1
                    go_wp2_with (at_builtin; refine append_rgs rfl (.tmp 57) (.tmp 59) rfl wc.heap.size v1 (S.take (p + 1)) rfl (HO1.out.below ((Below.refl _ w1).alloc (Nat.le_refl _) _)) (some ⟨w1.heap.size, 0, none⟩) 1 1 [(y1, y2)] rfl (rgs_new w1 y1 y2 HI.out.1 HI.out.2) ?c1 ?c2 ?_)
                    case c1 => simp only [List.length_cons, List.length_nil]; omega
                    case c2 => have := HB1.out.size; simp; omega
                    intro v2 w2 ho2 hg2
                    have HB2 := Lib.hid ((HB1.out.alloc HB1.out.size _).grown hg2 (by have := HB1.out.size; simp; omega) (fun j hj => (HO1.out.1.lt j hj).1))
                    have HO2 := Lib.hid ho2
                    have HD := Lib.hid (show Rgs w2 (.slice (some ⟨g, (p + 1) * 2, none⟩) (S.length - (p + 1)) (cs - (p + 1))) (S.drop (p + 1)) from by have := rgs_drop (HRS.out.below HB2.out) (p + 1) hkS; rw [if_neg hck, Nat.zero_add] at this; exact this)
                    clear ho2 hg2
                    go_wp2_with (at_builtin; refine append_rgs rfl (.tmp 61) (.tmp 64) rfl wc.heap.size v2 (S.take (p + 1) ++ [(y1, y2)]) rfl HO2.out _ _ _ (S.drop (p + 1)) rfl HD.out ?d1 ?d2 ?_)
                    case d1 => simp <;> omega
                    case d2 => exact HB2.out.size
                    intro v3 w3 ho3 hg3
                    have hB3 := HB2.out.grown hg3 HB2.out.size (fun j hj => (HO2.out.1.lt j hj).1)
                    go_wp2
                    go_roundw
                    case rel =>
                      have ho3' : OwnR w3 wc.heap.size v3 (S.take (p + 1) ++ (y1, y2) :: S.drop (p + 1)) := by simpa using ho3
                      have hcx := cut_letters x1 x2 y1 y2 HY1.out HY2.out
                      have hfit : Fit (y1, y2) := by
                        rw [← hcx]
                        exact fit_cut _ (by rw [hcx]; show ¬ y2 < y1; omega)
                      refine ⟨m + 1, by omega, by go_num, _, ho3'.mono HBC.out, sorted_put S (y1, y2) (p + 1) HS.out hfit hkS HLO.out HHI.out, fun c => ?_, by simp; omega, HBX'.out.trans (hB3.mono HBC.out)⟩
                      rw [has_put, HP.out, HSP.out, has_append, ← has_cut (x1, x2), hcx]
                    case measure => simp [intOf]; omega
    · obtain ⟨wm, hwm⟩ : ∃ wm, wm = wr := ⟨_, rfl⟩
      subst hwm
      have hmn : m = l.length := by omega
      have HPL := Lib.hid (show ∀ c, HasR S c ↔ HasR l c from by have h1 := HP.out; rw [hmn, List.take_length] at h1; exact h1)
      clear hmn
      rcases own_slice2 HO.out.1 with ⟨rfl, hS0⟩ | ⟨g, cs, rfl, hSc, hcm, hBg⟩
      · have HE := Lib.hid (show S = [] from List.eq_nil_of_length_eq_zero hS0)
        go_wp2_with fail
        go_loopw [8, 9] (fun vo i wz => vo = .slice none 0 0 ∧ i = .int .i64 0 ∧ wz = wm) (fun _ _ _ => 0)
        case atStart => exact ⟨rfl, rfl, rfl⟩
        case round =>
          obtain ⟨rfl, rfl, rfl⟩ := hrel
          go_wp2
          go_ret
          exact ⟨_, [], rfl, own_none _ _, trivial, fun c => by rw [← HPL.out c, HE.out], HB.out⟩
      · have HRS := Lib.hid (show Rgs wm (.slice (some ⟨g, 0, none⟩) S.length cs) S from HO.out.rgs)
        have HBL := Lib.hid HB.out.size
        go_wp2_with fail
        go_loopw [8, 9] (fun vo i wz => ∃ k : Nat, k ≤ S.length ∧ i = .int .i64 k ∧ Loop2 wm S k vo wz) (fun _ i _ => S.length - (intOf i).toNat)
        case atStart => exact ⟨0, Nat.zero_le _, rfl, [], own_none _ _, trivial, fun c => by simp [HasR], Nat.le_refl _, fun o p e => by simp at e, Below.refl _ _⟩
        case round =>
          obtain ⟨k, hk, rfl, O, hOO, hRO, hPO, hOk, hLO, hBz⟩ := hrel
          have HOO := Lib.hid hOO; have HRO := Lib.hid hRO; have HPO := Lib.hid hPO; have HLO := Lib.hid hLO; have HBZ := Lib.hid hBz
          clear hOO hRO hPO hLO hBz
          by_cases hkl : k < S.length
          · have hxs : ∃ x1 x2, S[k]? = some (x1, x2) ∧ S.take (k + 1) = S.take k ++ [(x1, x2)] ∧ wr.cell? ⟨g, k * 2, none⟩ = some (.int .i32 x1) ∧ wr.cell? ⟨g, k * 2 + 1, none⟩ = some (.int .i32 x2) := by
              obtain ⟨a1, c1, q1, q2, q3, q4, q5, q6⟩ := HRS.out.below HBZ.out
              injection q1 with q1 _ _
              subst q1
              rcases q5 with q5 | ⟨b1, o1, q7, q8⟩
              · rw [q5] at hkl
                simp at hkl
              · injection q7 with q7
                injection q7 with q9 q10
                subst q9 q10
                obtain ⟨s1, s2, r1, r2, r3, r4⟩ := rgs_at q8 k hkl
                exact ⟨s1, s2, r1, r2, by simpa using r3, by simpa using r4⟩
            obtain ⟨x1, x2, hx, hsp, c1, c2⟩ := hxs
            have hxe : S[k]'hkl = (x1, x2) := by
              rw [List.getElem?_eq_getElem hkl] at hx
              exact Option.some.inj hx
            have hfit := HS.out.2 (x1, x2) (List.mem_of_getElem? hx)
            have HI := Lib.hid (show I32 x1 ∧ I32 x2 from by
              have e := HRS.out
              obtain ⟨_, _, _, _, _, _, _, q6⟩ := e
              exact q6 (x1, x2) (List.mem_of_getElem? hx))
            have HX := Lib.hid hx; have HSP := Lib.hid hsp; have HXE := Lib.hid hxe; have HF := Lib.hid hfit
            clear hx hsp hxe hfit
            by_cases hO0 : O = []
            · have hl0 : O.length = 0 := by rw [hO0]; rfl
              have HO0 := Lib.hid hO0
              clear hO0
              rcases own_slice2 HOO.out.1 with ⟨rfl, _⟩ | ⟨go, co, rfl, hOc, hom, hBgo⟩
              · go_wp2_with fail
                go_big_quiet (fail)
                go_wp2_with (at_builtin; refine append_rgs rfl (.tmp 108) (.tmp 113) rfl wm.heap.size _ O rfl ((HOO.out.below (below_drewNr (Below.refl _ wr) _)).below ((Below.refl _ _).alloc (Nat.le_refl _) _)) (some ⟨(wr.drewN nq).heap.size, 0, none⟩) 1 1 [(x1, x2)] (by simp; rfl) (rgs_new (wr.drewN nq) x1 x2 HI.out.1 HI.out.2) ?c1 ?c2 ?_)
                case c1 => simp; omega
                case c2 => have := HBZ.out.size; simp; omega
                intro v3 w3 ho3 hg3
                have hB3 := ((below_drewNr HBZ.out nq).alloc (by have := HBZ.out.size; simp; omega) _).grown hg3 (by have := HBZ.out.size; simp; omega) (fun j hj => (HOO.out.1.lt j hj).1)
                go_wp2
                go_roundw
                case rel =>
                  refine ⟨k + 1, by omega, by go_num, O ++ [(x1, x2)], ho3, ?_, fun c => ?_, by simp; omega, fun o p e j h1 h2 => ?_, hB3⟩
                  · rw [HO0.out]; exact one_right (x1, x2) HF.out
                  · rw [has_append, HPO.out, HSP.out, has_append]
                  · have e2 := (List.append_inj_right' e rfl)
                    have e3 : (x1, x2) = p := by simpa using e2
                    rw [← e3]
                    have h3 := sorted_le HS.out k j h1 (by omega)
                    rw [HXE.out] at h3
                    exact h3
                case measure => simp [intOf]; omega
              · go_wp2_with fail
                go_big_quiet (fail)
                go_wp2_with (at_builtin; refine append_rgs rfl (.tmp 108) (.tmp 113) rfl wm.heap.size _ O rfl ((HOO.out.below (below_drewNr (Below.refl _ wr) _)).below ((Below.refl _ _).alloc (Nat.le_refl _) _)) (some ⟨(wr.drewN nq).heap.size, 0, none⟩) 1 1 [(x1, x2)] (by simp; rfl) (rgs_new (wr.drewN nq) x1 x2 HI.out.1 HI.out.2) ?c1 ?c2 ?_)
                case c1 => simp; omega
                case c2 => have := HBZ.out.size; simp; omega
                intro v3 w3 ho3 hg3
                have hB3 := ((below_drewNr HBZ.out nq).alloc (by have := HBZ.out.size; simp; omega) _).grown hg3 (by have := HBZ.out.size; simp; omega) (fun j hj => (HOO.out.1.lt j hj).1)
                go_wp2
                go_roundw
                case rel =>
                  refine ⟨k + 1, by omega, by go_num, O ++ [(x1, x2)], ho3, ?_, fun c => ?_, by simp; omega, fun o p e j h1 h2 => ?_, hB3⟩
                  · rw [HO0.out]; exact one_right (x1, x2) HF.out
                  · rw [has_append, HPO.out, HSP.out, has_append]
                  · have e2 := (List.append_inj_right' e rfl)
                    have e3 : (x1, x2) = p := by simpa using e2
                    rw [← e3]
                    have h3 := sorted_le HS.out k j h1 (by omega)
                    rw [HXE.out] at h3
                    exact h3
                case measure => simp [intOf]; omega
            · obtain ⟨o, p, hop⟩ : ∃ o p, O = o ++ [p] := by
                rcases List.eq_nil_or_concat O with h1 | ⟨o, p, h1⟩
                · exact absurd h1 hO0
                · exact ⟨o, p, by rw [h1]; simp⟩
              obtain ⟨p1, p2⟩ := p
              have hfp := right_fit O 0 (Int.le_refl _) HRO.out (p1, p2) (by rw [hop]; simp)
              have hle := HLO.out o (p1, p2) hop k hkl (Nat.le_refl _)
              rw [HXE.out] at hle
              simp only at hle
              have hol : O.length = o.length + 1 := by rw [hop]; simp
              have HOP := Lib.hid hop
              unfold Fit at hfp
              simp only at hfp
              rcases own_slice2 HOO.out.1 with ⟨rfl, h0⟩ | ⟨go, co, rfl, hOc, hom, hBgo⟩
              · omega
              obtain ⟨q, hq⟩ : ∃ q, o.length = q := ⟨_, rfl⟩
              rw [hq] at hol
              have HQ := Lib.hid hq
              have HOO' := Lib.hid (show OwnR wr wm.heap.size (.slice (some ⟨go, 0, none⟩) (q + 1) co) O from by rw [← hol]; exact HOO.out)
              have hpc : wr.cell? ⟨go, q * 2 + 1, none⟩ = some (.int .i32 p2) := by
                have h1 := (cellsR_at O q (by omega)).2
                have h2 : O[q]? = some (p1, p2) := by rw [hop, ← hq]; simp
                rw [List.getElem?_eq_getElem (by omega)] at h2
                rw [Option.some.inj h2] at h1
                have h3 := HOO.out.1.cells (g := go) rfl _ _ h1
                have a1 : ∀ j, (⟨go, 0, none⟩ : Addr).add j = ⟨go, 0 + j, none⟩ := fun j => by unfold Addr.add; split <;> simp_all
                rw [a1, Nat.zero_add] at h3
                exact h3
              have hfr := HOO.out.1.frozenAt (q * 2 + 1)
              have hst := HOO.out.1.stored (q * 2 + 1) (.int .i32 (max p2 x2))
              have HST := Lib.hid hst
              clear hop hq hO0 hst
              have hqz : (0 : Int) < (q : Int) + 1 := by omega
              have dqz : decide ((0 : Int) < (q : Int) + 1) = true := decide_eq_true hqz
              by_cases hjx : x1 ≤ p2 + 1
              · have djx : decide (x1 ≤ p2 + 1) = true := decide_eq_true hjx
                obtain ⟨z, hz⟩ : ∃ z : Int, (if p2 < x2 then x2 else p2) = z := ⟨_, rfl⟩
                have hb0 : (0 : Int) ≤ (q : Int) := by omega
                have hb1 : (q : Int) < (q : Int) + 1 := by omega
                have hb2 : (0 : Int) ≤ (k : Int) := by omega
                have hb3 : (k : Int) < (S.length : Int) := by omega
                have hb4 : ¬ ((q : Int) + 1 ≤ (q : Int)) := by omega
                have hb5 : ¬ ((S.length : Int) ≤ (k : Int)) := by omega
                have hb6 : IntKind.i64.wrap (q : Int) = (q : Int) := wrap_nat q (by omega)
                go_wp2_with fail
                go_big_quiet (fail)
                go_wp2_with fail
                go_region
                all_goals
                  go_wp2
                  go_roundw
                  case rel =>
                    have hz' : z = max p2 x2 := by rw [← hz]; split <;> omega
                    have hown := ((HOO.out.below (below_drewNr (Below.refl _ wr) (nq + 1))).1.stored (q * 2 + 1) (.int .i32 z)).1
                    have hcs := cellsR_set o (p1, p2) z
                    rw [HQ.out, ← HOP.out] at hcs
                    rw [hcs, hol] at hown
                    have hO2 : OwnR ((wr.drewN (nq + 1)).setCell ⟨go, q * 2 + 1, none⟩ (.int .i32 z)) wm.heap.size (.slice (some ⟨go, 0, none⟩) (q + 1) co) (o ++ [(p1, z)]) := by
                      refine ⟨?_, fun r hr => ?_⟩
                      · have hl2 : (o ++ [(p1, z)]).length = q + 1 := by rw [List.length_append, HQ.out]; rfl
                        rw [hl2]
                        exact hown
                      · rcases List.mem_append.1 hr with hr | hr
                        · exact HOO.out.2 r (by rw [HOP.out]; exact List.mem_append_left _ hr)
                        · rw [List.mem_singleton.1 hr]
                          have h1 := HOO.out.2 (p1, p2) (by rw [HOP.out]; simp)
                          have h2 := HI.out
                          unfold I32 at *
                          simp only at *
                          omega
                    have h1 := HRO.out
                    rw [HOP.out] at h1
                    refine ⟨k + 1, by omega, by go_num, o ++ [(p1, z)], hO2, ?_, fun c => ?_, by rw [List.length_append, HQ.out]; simp; omega, fun o2 p2' e j h2 h3 => ?_, ?_⟩
                    · rw [hz']
                      exact join_right o (p1, p2) (x1, x2) h1 HF.out
                    · have hj := join_has o (p1, p2) (x1, x2) hle hjx c
                      rw [hz', hj, ← HOP.out, HPO.out, HSP.out, has_append]
                    · have e2 := (List.append_inj_right' e rfl)
                      have e3 : (p1, z) = p2' := by simpa using e2
                      rw [← e3]
                      exact HLO.out o (p1, p2) HOP.out j h2 (by omega)
                    · exact (below_drewNr HBZ.out (nq + 1)).setCell hBgo _
                  case measure => simp [intOf]; omega
              · have djx : decide (x1 ≤ p2 + 1) = false := decide_eq_false hjx
                go_wp2_with fail
                go_big_quiet (fail)
                clear hpc hfr dqz
                go_wp2_with (at_builtin; refine append_rgs rfl (.tmp 108) (.tmp 113) rfl wm.heap.size _ O rfl ((HOO'.out.below (below_drewNr (Below.refl _ wr) _)).below ((Below.refl _ _).alloc (Nat.le_refl _) _)) (some ⟨(wr.drewN nq).heap.size, 0, none⟩) 1 1 [(x1, x2)] (by simp; rfl) (rgs_new (wr.drewN nq) x1 x2 HI.out.1 HI.out.2) ?c1 ?c2 ?_)
                case c1 => simp; omega
                case c2 => have := HBZ.out.size; simp; omega
                intro v3 w3 ho3 hg3
                have hB3 := ((below_drewNr HBZ.out nq).alloc (by have := HBZ.out.size; simp; omega) _).grown hg3 (by have := HBZ.out.size; simp; omega) (fun j hj => (HOO'.out.1.lt j hj).1)
                go_wp2
                go_roundw
                case rel =>
                  refine ⟨k + 1, by omega, by go_num, O ++ [(x1, x2)], ho3, ?_, fun c => ?_, by simp; omega, fun o p e j h1 h2 => ?_, hB3⟩
                  · rw [HOP.out]
                    have h1 := HRO.out
                    rw [HOP.out] at h1
                    exact put_right o (p1, p2) (x1, x2) h1 HF.out (by show p2 + 1 < x1; omega)
                  · rw [has_append, HPO.out, HSP.out, has_append]
                  · have e2 := (List.append_inj_right' e rfl)
                    have e3 : (x1, x2) = p := by simpa using e2
                    rw [← e3]
                    have h3 := sorted_le HS.out k j h1 (by omega)
                    rw [HXE.out] at h3
                    exact h3
                case measure => simp [intOf]; omega
          · have hkn : S.take k = S := List.take_of_length_le (by omega)
            have HK := Lib.hid hkn
            clear hkn
            go_wp2
            go_ret
            exact ⟨_, O, rfl, HOO.out.mono HBL.out, HRO.out, fun c => by rw [HPO.out, HK.out, HPL.out], HB.out.trans (HBZ.out.mono HBL.out)⟩
end Go.Proofs.YtmaigjdmjmonbaaGreatDoor
/- Rows of edges that the call makes itself, lists of lists in memory, and what ends answers: the edges of all ranges, in a fresh row. -/
namespace Go.Proofs.YtmaigjdmjmonbaaGreatDoor
open Go Go.RowKit

def cellsE (k : List (Int × Int)) : List Value := k.flatMap fun r => [.int .i32 r.1, .int .i64 r.2]
theorem cellsE_append (a b : List (Int × Int)) : cellsE (a ++ b) = cellsE a ++ cellsE b := by simp [cellsE]
theorem cellsE_length : ∀ k : List (Int × Int), (cellsE k).length = k.length * 2
  | [] => rfl
  | r :: k => by
    have h := cellsE_length k
    have e : cellsE (r :: k) = [.int .i32 r.1, .int .i64 r.2] ++ cellsE k := rfl
    rw [e, List.length_append, h]
    simp
    omega
theorem cellsE_at : ∀ (k : List (Int × Int)) (i : Nat) (h : i < k.length), (cellsE k)[i * 2]? = some (.int .i32 k[i].1) ∧ (cellsE k)[i * 2 + 1]? = some (.int .i64 k[i].2)
  | [], i, h => by simp at h
  | r :: k, 0, h => ⟨rfl, rfl⟩
  | r :: k, i + 1, h => by
    have e : cellsE (r :: k) = .int .i32 r.1 :: .int .i64 r.2 :: cellsE k := rfl
    have h' := cellsE_at k i (by simpa using h)
    rw [e, show (i + 1) * 2 = i * 2 + 1 + 1 by omega]
    simpa using h'
theorem cellsE_get (k : List (Int × Int)) (j : Nat) (u : Value) (h : (cellsE k)[j]? = some u) : ∃ i, ∃ hi : i < k.length, (j = i * 2 ∧ u = .int .i32 k[i].1) ∨ (j = i * 2 + 1 ∧ u = .int .i64 k[i].2) := by
  have hl := (List.getElem?_eq_some_iff.1 h).1
  rw [cellsE_length] at hl
  have hi : j / 2 < k.length := by omega
  obtain ⟨h1, h2⟩ := cellsE_at k (j / 2) hi
  refine ⟨j / 2, hi, ?_⟩
  by_cases hj : j % 2 = 0
  · left
    have e : j = j / 2 * 2 := by omega
    refine ⟨e, ?_⟩
    rw [← e, h] at h1
    exact Option.some.inj h1
  · right
    have e : j = j / 2 * 2 + 1 := by omega
    refine ⟨e, ?_⟩
    rw [← e, h] at h2
    exact Option.some.inj h2
theorem cellsE_one (k : List (Int × Int)) : ∀ u ∈ cellsE k, u.oneCell' = true := fun u hu => by
  obtain ⟨j, hj⟩ := List.getElem?_of_mem hu
  obtain ⟨i, _, ⟨_, rfl⟩ | ⟨_, rfl⟩⟩ := cellsE_get k j u hj
  · rfl
  · rfl
theorem info_edge : (Tryz.prog.info? 117).map (fun i => (i.zero, i.size, i.bytes)) = some (some (.agg #[.int .i32 0, .int .i64 0]), 2, 16) := by kernel_rfl
/-- The value v owns a row of the edges k, among the blocks from B on. -/
def OwnE (w : World) (B : Nat) (v : Value) (k : List (Int × Int)) : Prop := w.ownsRow B 117 2 v k.length (cellsE k)
theorem OwnE.below {w w' : World} {B : Nat} {v : Value} {k : List (Int × Int)} (h : OwnE w B v k) (hb : Below w.heap.size w w') : OwnE w' B v k :=
  World.ownsRow.kept h (row := none) ⟨hb.os, hb.tape, hb.output, hb.size, fun k hk _ => hb.block k hk⟩ (by cases v.ownBlock <;> simp)
theorem owne_none (w : World) (B : Nat) : OwnE w B (.slice none 0 0) [] := World.ownsRow_nil _ _ _ _

/-- Two edges in a block of their own. -/
def Two (w : World) (g : Nat) (x y : Int × Int) : Prop := Whole w g 117 #[.int .i32 x.1, .int .i64 x.2, .int .i32 y.1, .int .i64 y.2]
theorem append_two {w : World} {ops : Array Oper} {rest : List Oper} {o : Oper} {a : Act} {Q : Exit → Act → World → Prop} (hgd : o.guard = none) (x y : Operand)
    (ho : o.op = .call { callee := .builtin .append, args := #[x, y], argTypes := #[113, 113] })
    (base : Nat) (v : Value) (O : List (Int × Int)) (hs : a.eval x = v) (hown : OwnE w base v O)
    (g : Nat) (e1 e2 : Int × Int) (hx : a.eval y = .slice (some ⟨g, 0, none⟩) 2 2) (ht : Two w g e1 e2) (hn : O.length + 2 ≤ 8796093022208) (hbase : base ≤ w.heap.size)
    (h : ∀ v' w', OwnE w' base v' (O ++ [e1, e2]) → w.grownBy w' v.ownBlock → wpList Tryz.prog ops Q rest (a.put o.dst v') w') : wpList Tryz.prog ops Q (o :: rest) a w := by
  obtain ⟨i, hi, hz, hsize, hby⟩ := info_parts info_edge
  refine wpList_append_own w hgd x y 113 ho base 117 i (.agg #[.int .i32 0, .int .i64 0]) 2 16 Tryz.underlying113 hi hz hsize hby rfl (by omega) v O.length (cellsE O) hs hown ⟨g, 0, none⟩ 2 2 (cellsE [e1, e2]) hx (by rw [cellsE_length]; rfl) ?_ (cellsE_one _) (by unfold maxLen; omega) (by omega) hbase (fun v' w' g1 g2 _ => h v' w' ?_ g2)
  · intro j u hu
    have hadd : (⟨g, 0, none⟩ : Addr).add j = ⟨g, j, none⟩ := by unfold Addr.add; split <;> simp_all
    rw [hadd, ht.cell]
    obtain ⟨e11, e12⟩ := e1
    obtain ⟨e21, e22⟩ := e2
    simpa [cellsE] using hu
  · unfold OwnE
    rw [cellsE_append, List.length_append]
    exact g1

/-- The slice value v holds the lists ls, each of ranges. -/
def Lss (w : World) (v : Value) (ls : List (List (Int × Int))) : Prop :=
  ∃ b o c, v = .slice (some ⟨b, o, none⟩) ls.length c ∧ ls.length ≤ c ∧ c ≤ maxLen ∧ ∀ i (h : i < ls.length), ∃ u, w.cell? ⟨b, o + i, none⟩ = some u ∧ Rgs w u ls[i]
theorem Lss.below {w w' : World} {v : Value} {ls : List (List (Int × Int))} (h : Lss w v ls) (hb : Below w.heap.size w w') : Lss w' v ls := by
  obtain ⟨b, o, c, h1, h2, h3, h4⟩ := h
  refine ⟨b, o, c, h1, h2, h3, fun i hi => ?_⟩
  obtain ⟨u, hu, hr⟩ := h4 i hi
  exact ⟨u, (hb.cell (World.block_lt_of_cell? w _ hu)).trans hu, hr.below hb⟩
/-- How many ranges in all. -/
def totL (ls : List (List (Int × Int))) : Nat := (ls.map List.length).sum
theorem endsL_length : ∀ ls : List (List (Int × Int)), (endsL ls).length ≤ 2 * totL ls
  | [] => Nat.le_refl _
  | l :: ls => by
    have h1 := endsR_length l
    have h2 := endsL_length ls
    rw [endsL_cons, List.length_append]
    unfold totL at *
    rw [List.map_cons, List.sum_cons]
    omega
theorem endsL_take (ls : List (List (Int × Int))) (m : Nat) (h : m < ls.length) : endsL (ls.take (m + 1)) = endsL (ls.take m) ++ endsR ls[m] := by
  rw [List.take_succ_eq_append_getElem h, endsL_append]
  simp [endsL]
theorem endsR_take (l : List (Int × Int)) (m : Nat) (x : Int × Int) (h : l.take (m + 1) = l.take m ++ [x]) : endsR (l.take (m + 1)) = endsR (l.take m) ++ endR x := by
  rw [h, endsR_append]
  simp [endsR]
theorem totL_take (ls : List (List (Int × Int))) (m : Nat) (h : m < ls.length) : totL (ls.take m) + ls[m].length ≤ totL ls := by
  unfold totL
  have e : ls = ls.take m ++ ls[m] :: ls.drop (m + 1) := by
    rw [List.getElem_cons_drop, List.take_append_drop]
  have e2 : ((ls.take m ++ ls[m] :: ls.drop (m + 1)).map List.length).sum = ((ls.take m).map List.length).sum + (ls[m].length + ((ls.drop (m + 1)).map List.length).sum) := by
    rw [List.map_append, List.sum_append, List.map_cons, List.sum_cons]
  rw [← e] at e2
  omega
def EndsPost (ls : List (List (Int × Int))) (w : World) (e : Ending) (w' : World) : Prop := ∃ v, e = .returned v ∧ OwnE w' w.heap.size v (endsL ls) ∧ Below w.heap.size w w'

theorem two_new (w : World) (x1 x2 y1 y2 : Int) : Two (w.alloc (.cells #[.int .i32 x1, .int .i64 x2, .int .i32 y1, .int .i64 y2] 117)) w.heap.size (x1, x2) (y1, y2) := heap_alloc_new w _

set_option maxHeartbeats 1600000 in
set_option maxRecDepth 100000 in
theorem ends_any (v : Value) (ls : List (List (Int × Int))) (w : World) (h : Lss w v ls) (hn : totL ls ≤ 1099511627776) :
    Calls Tryz.prog 76 #[v] w (EndsPost ls w) := by
  have HL := Lib.hid h
  obtain ⟨b, o, c, rfl, h2, h3, -⟩ := h
  have hlen : ls.length ≤ 9223372036854775807 := by unfold maxLen at h3; omega
  clear h2 h3
  go_enter Tryz.func76, Tryz.ntmps76
  go_wp2_with fail
  go_loopw [3, 12] (fun vs i wr => ∃ m : Nat, m ≤ ls.length ∧ i = .int .i64 m ∧ OwnE wr w.heap.size vs (endsL (ls.take m)) ∧ Below w.heap.size w wr) (fun _ i _ => ls.length - (intOf i).toNat)
  case atStart => exact ⟨0, Nat.zero_le _, rfl, owne_none _ _, Below.refl _ _⟩
  case round =>
    obtain ⟨m, hm, rfl, hO, hB⟩ := hrel
    have HO := Lib.hid hO; have HB := Lib.hid hB
    clear hO hB
    by_cases hlt : m < ls.length
    · obtain ⟨b', o', c', e, -, -, hc⟩ := HL.out
      injection e with e1 e2 e3
      injection e1 with e1
      injection e1 with e1 e4
      subst e1 e4 e3
      obtain ⟨u, hu0, hr⟩ := hc m hlt
      have hu := (HB.out.cell (World.block_lt_of_cell? w _ hu0)).trans hu0
      clear hu0
      have hEL := endsL_take ls m hlt
      have hTL := totL_take ls m hlt
      have hEn := endsL_length (ls.take m)
      obtain ⟨l, hl⟩ : ∃ l, ls[m] = l := ⟨_, rfl⟩
      rw [hl] at hr hEL hTL
      have HR := Lib.hid hr; have HEL := Lib.hid hEL
      obtain ⟨a, cl, rfl, g2, g3, -⟩ := hr
      have hll : l.length ≤ 9223372036854775807 := by unfold maxLen at g3; omega
      clear hl hc hEL g2 g3
      go_wp2_with fail
      go_loopw [3, 18] (fun vs i wy => ∃ k : Nat, k ≤ l.length ∧ i = .int .i64 k ∧ OwnE wy w.heap.size vs (endsL (ls.take m) ++ endsR (l.take k)) ∧ Below w.heap.size w wy) (fun _ i _ => l.length - (intOf i).toNat)
      case atStart => exact ⟨0, Nat.zero_le _, rfl, by rw [List.take_zero]; simpa [endsR] using HO.out, HB.out⟩
      case round =>
        obtain ⟨k, hk, rfl, hO2, hB2⟩ := hrel
        have HO2 := Lib.hid hO2; have HB2 := Lib.hid hB2
        clear hO2 hB2
        by_cases hkl : k < l.length
        · obtain ⟨a', cq, e, q2, q3, q4, q5, q6⟩ := HR.out.below HB2.out
          injection e with e1 e2 e3
          subst e1 e3
          rcases q5 with q5 | ⟨b1, o1, rfl, hc⟩
          · rw [q5] at hkl
            simp at hkl
          obtain ⟨x1, x2, hx, hsp, c1, c2⟩ := rgs_at hc k hkl
          have hsE := endsR_take l k (x1, x2) hsp
          have HSE := Lib.hid hsE
          have hkn := endsR_length (l.take k)
          rw [List.length_take] at hkn
          clear hx hsp hc hsE q6
          go_upto_region 8 with (fail)
          go_big_quiet (fail)
          have hBn : Below wr.heap.size wr (((wr.alloc (.cells #[.int .i32 x1, .int .i32 x2] 43)).drewN nq)) := below_drewNr ((Below.refl _ _).alloc (Nat.le_refl _) _) nq
          obtain ⟨wn, hwn⟩ : ∃ wn, ((wr.alloc (.cells #[.int .i32 x1, .int .i32 x2] 43)).drewN nq) = wn := ⟨_, rfl⟩
          obtain ⟨y1, hy1⟩ : ∃ y1 : Int, (if x1 < 0 then 0 else x1) = y1 := ⟨_, rfl⟩
          obtain ⟨y2, hy2⟩ : ∃ y2 : Int, (if 1114111 < x2 then 1114111 else x2) = y2 := ⟨_, rfl⟩
          rw [hwn] at hBn ⊢
          rw [hy1, hy2]
          have hER : endR (x1, x2) = if y1 ≤ y2 then [(y1, 1), (y2 + 1, -1)] else [] := by
            unfold endR
            simp only
            rw [show max x1 0 = y1 by split at hy1 <;> omega, show min x2 1114111 = y2 by split at hy2 <;> omega]
          have HER := Lib.hid hER
          have hb2 : y2 ≤ 1114111 := by split at hy2 <;> omega
          have hb1 : 0 ≤ y1 := by split at hy1 <;> omega
          have HB3 := Lib.hid (HB2.out.trans (hBn.mono HB2.out.size))
          have hsz0 := HB2.out.size
          have HO3 := Lib.hid (HO2.out.below hBn)
          have hsz := HB3.out.size
          have hOl : (endsL (ls.take m) ++ endsR (l.take k)).length + 2 ≤ 8796093022208 := by rw [List.length_append]; omega
          have HOL := Lib.hid hOl
          clear hwn hy1 hy2 hER hBn c1 c2 hOl
          by_cases hxy : y1 ≤ y2
          · go_wp2_with (at_builtin; refine append_two rfl (.tmp 31) (.tmp 37) rfl w.heap.size _ _ rfl (HO3.out.below ((Below.refl _ _).alloc (Nat.le_refl _) _)) wn.heap.size (y1, 1) (y2 + 1, -1) rfl (two_new wn y1 1 (y2 + 1) (-1)) HOL.out ?c1 ?_)
            case c1 => first | omega | (simp; omega)
            intro v3 w3 ho3 hg3
            have HB4 := Lib.hid ((HB3.out.alloc HB3.out.size _).grown hg3 (by simp; omega) (fun j hj => (World.ownsRow.lt HO3.out j hj).1))
            have HO4 := Lib.hid ho3
            clear ho3 hg3
            go_wp2
            go_roundw
            case rel => exact ⟨k + 1, by omega, by go_num, by rw [HSE.out, HER.out, if_pos hxy]; first | exact HO4.out | (rw [← List.append_assoc]; exact HO4.out), HB4.out⟩
            case measure => simp [intOf]; omega
          · go_wp2
            go_roundw
            case rel => exact ⟨k + 1, by omega, by go_num, by rw [HSE.out, HER.out, if_neg hxy, List.append_nil]; exact HO3.out, HB3.out⟩
            case measure => simp [intOf]; omega
        · have e : l.take k = l := List.take_of_length_le (by omega)
          go_wp2
          go_roundw
          case rel => exact ⟨m + 1, by omega, by go_num, by rw [HEL.out]; have := HO2.out; rw [e] at this; exact this, HB2.out⟩
          case measure => simp [intOf]; omega
    · have e : ls.take m = ls := List.take_of_length_le (by omega)
      have ho := HO.out
      rw [e] at ho
      have HO' := Lib.hid ho
      clear ho e
      go_wp2
      go_ret
      exact ⟨_, rfl, HO'.out, HB.out⟩
end Go.Proofs.YtmaigjdmjmonbaaGreatDoor
/- The document's sets with names: a literal of pairs as a fresh row of ranges. -/
namespace Go.Proofs.YtmaigjdmjmonbaaGreatDoor
open Go Go.RowKit

/-- An append of one range onto a row of the call's own, at a step of a region that draws its order. -/
theorem step_append_rgs {w : World} {ops : Array Oper} {o : Oper} {a : Act} {Kk : Act → World → Prop} {Q : Exit → Act → World → Prop} {E : Prop} (hgd : o.guard = none) (x y : Operand)
    (ho : o.op = .call { callee := .builtin .append, args := #[x, y], argTypes := #[24, 24] })
    (base : Nat) (v : Value) (O : List (Int × Int)) (hs : a.eval x = v) (hown : OwnR w base v O)
    (g : Nat) (x1 x2 : Int) (hx : a.eval y = .slice (some ⟨g, 0, none⟩) 1 1) (ht : Rgs w (.slice (some ⟨g, 0, none⟩) 1 1) [(x1, x2)]) (hn : O.length + 1 ≤ 17592186044416) (hbase : base ≤ w.heap.size)
    (h : ∀ v' w', OwnR w' base v' (O ++ [(x1, x2)]) → w.grownBy w' v.ownBlock → Kk (a.put o.dst v') w') :
    if Region.wanted o (yielded ops a.tmps) = true then Oper.wp Tryz.prog o a w Kk Q else E := by
  have hw : Region.wanted o (yielded ops a.tmps) = true := by
    unfold Region.wanted
    rw [hgd]
  rw [if_pos hw]
  obtain ⟨i, hi, hz, hsize, hby⟩ := info_parts info_range
  obtain ⟨A', c', h1, h2, h3, h4, h5, h6⟩ := ht
  have hall : AllI32 (O ++ [(x1, x2)]) := fun r hr => (List.mem_append.1 hr).elim (hown.2 r) (h6 r)
  injection h1 with e1 e2 e3
  subst e1 e3
  refine wp_append_own w x y 24 ho base 43 i (.agg #[.int .i32 0, .int .i32 0]) 2 8 Tryz.underlying24 hi hz hsize hby rfl (by omega) v O.length (cellsR O) hs hown.1 ⟨g, 0, none⟩ 1 1 (cellsR [(x1, x2)]) hx (by rw [cellsR_length]; rfl) ?_ (cellsR_one _) (by unfold maxLen; omega) (by omega) hbase (fun v' w' g1 g2 _ => h v' w' ⟨?_, hall⟩ g2)
  · intro j u hu
    obtain ⟨q, hq, hh⟩ := cellsR_get [(x1, x2)] j u hu
    rcases h5 with h5 | ⟨b, off, e, hc⟩
    · cases h5
    · have e := Option.some.inj e
      have e' := congrArg Addr.off e
      replace e := congrArg Addr.block e
      dsimp only at e e'
      subst e e'
      rw [addr_plus]
      rcases hh with ⟨rfl, rfl⟩ | ⟨rfl, rfl⟩
      · exact (hc q hq).1
      · have := (hc q hq).2
        rw [show 0 + (q * 2 + 1) = 0 + q * 2 + 1 by omega]
        exact this
  · rw [cellsR_append, List.length_append]
    exact g1

set_option maxHeartbeats 1600000 in
set_option maxRecDepth 100000 in
/-- A list of pairs, as a fresh row of ranges. -/
theorem rset_any (v : Value) (l : List (Int × Int)) (w : World) (h : Rgs w v l) (hn : l.length ≤ 1099511627776) :
    Calls Tryz.prog 47 #[v] w fun e w' => ∃ v', e = .returned v' ∧ OwnR w' w.heap.size v' l ∧ Below w.heap.size w w' := by
  have HR := Lib.hid h
  obtain ⟨a, c, rfl, h2, h3, h4, h5, h6⟩ := h
  have H6 := Lib.hid h6
  clear h5 h6 h4 h2 h3
  go_enter Tryz.func47, Tryz.ntmps47
  go_wp2_with fail
  go_loopw [3, 4] (fun vs i wr => ∃ m : Nat, m ≤ l.length ∧ i = .int .i64 m ∧ OwnR wr w.heap.size vs (l.take m) ∧ Below w.heap.size w wr) (fun _ i _ => l.length - (intOf i).toNat)
  case atStart => exact ⟨0, Nat.zero_le _, rfl, own_none _ _, Below.refl _ _⟩
  case round =>
    obtain ⟨m, hm, rfl, hO, hB⟩ := hrel
    have HO := Lib.hid hO; have HB := Lib.hid hB
    clear hO hB
    by_cases hlt : m < l.length
    · obtain ⟨a', c', e, g2, g3, g4, g5, g6⟩ := HR.out
      injection e with e1 e2 e3
      subst e1 e3
      rcases g5 with g5 | ⟨b, o, rfl, hc⟩
      · rw [g5] at hlt
        simp at hlt
      obtain ⟨x1, x2, hx, hsp, c1w, c2w⟩ := rgs_at hc m hlt
      have c1 := (HB.out.cell (World.block_lt_of_cell? w _ c1w)).trans c1w
      have c2 := (HB.out.cell (World.block_lt_of_cell? w _ c2w)).trans c2w
      have C1 := Lib.hid c1w; have C2 := Lib.hid c2w
      have hxi := H6.out (x1, x2) (List.mem_of_getElem? hx)
      have HSP := Lib.hid hsp; have HXI := Lib.hid hxi
      have hsz := HB.out.size
      clear hsp hx hc g6 hxi c1w c2w
      go_upto_region 5 with (fail)
      go_region_held3 (fun w' => w'.cell? ⟨b, o + m * 2, none⟩ = some (.int .i32 x1) ∧ w'.cell? ⟨b, o + m * 2 + 1, none⟩ = some (.int .i32 x2)) (first | go_keep | exact ⟨c1, c2⟩ | (constructor <;> assumption)) (first | (refine step_append_rgs rfl (.tmp 11) (.tmp 23) rfl w.heap.size _ (l.take m) rfl (HO.out.below ((Below.refl _ wr).alloc (Nat.le_refl _) _).drew) wr.heap.size x1 x2 rfl ((rgs_new wr x1 x2 HXI.out.1 HXI.out.2).below (Below.refl _ _).drew) (by rw [List.length_take]; omega) (by simp; omega) ?_; intro v3 w3 ho3 hg3; have hB3 := Lib.hid (((HB.out.alloc HB.out.size _).drew).grown hg3 (by simp; omega) (fun j hj => (HO.out.1.lt j hj).1)); have k1 := (hB3.out.cell (World.block_lt_of_cell? w _ C1.out)).trans C1.out; have k2 := (hB3.out.cell (World.block_lt_of_cell? w _ C2.out)).trans C2.out))
      have HO3 := Lib.hid ho3
      clear ho3 hg3 k1 k2 c1 c2
      go_wp2
      go_roundw
      case rel => exact ⟨m + 1, by omega, by go_num, by rw [HSP.out]; exact HO3.out, hB3.out⟩
      case measure => simp [intOf]; omega
    · have e : l.take m = l := List.take_of_length_le (by omega)
      have ho := HO.out
      rw [e] at ho
      have HO' := Lib.hid ho
      clear ho e
      go_wp2
      go_ret
      exact ⟨_, rfl, HO'.out, HB.out⟩
end Go.Proofs.YtmaigjdmjmonbaaGreatDoor
/- The document's set of a name, or that there is none. -/
namespace Go.Proofs.YtmaigjdmjmonbaaGreatDoor
open Go Go.RowKit

theorem rgs_lit (w : World) (t : TypeId) (cs : Array Value) (l : List (Int × Int)) (n : Nat) (h : cs.toList = cellsR l) (hi : AllI32 l) (hn : l.length = n) (hm : n ≤ maxLen) : Rgs (w.alloc (.cells cs t)) (.slice (some ⟨w.heap.size, 0, none⟩) n n) l := by
  subst hn
  refine ⟨_, _, rfl, Nat.le_refl _, hm, fun e => (by cases e), .inr ⟨w.heap.size, 0, rfl, fun i hi' => ?_⟩, hi⟩
  obtain ⟨h1, h2⟩ := cellsR_at l i hi'
  have hc : ∀ j, (w.alloc (.cells cs t)).cell? ⟨w.heap.size, j, none⟩ = cs[j]? := fun j => by rw [World.cell?_alloc_at _ _ _ _ rfl]
  rw [Nat.zero_add, hc, hc, ← Array.getElem?_toList, ← Array.getElem?_toList, h]
  exact ⟨h1, h2⟩

/-- The sets of names. -/
def nameR (b : List UInt8) : Option (List (Int × Int)) :=
  if b = [76, 117] then some [(65, 90), (192, 214), (216, 222), (913, 929), (931, 937), (1040, 1071)] else
  if b = [76, 108] then some [(97, 122), (223, 246), (248, 255), (945, 969), (1072, 1103)] else
  if b = [76] then some [(65, 90), (97, 122), (170, 170), (186, 186), (192, 214), (216, 246), (248, 255), (913, 929), (931, 937), (945, 969), (1040, 1103), (19968, 40959)] else
  if b = [78, 100] then some [(48, 57), (1632, 1641)] else
  if b = [78] then some [(48, 57), (178, 179), (185, 185), (188, 190), (1632, 1641), (8544, 8584)] else
  if b = [80] then some [(33, 35), (37, 42), (44, 47), (58, 59), (63, 64), (91, 93), (95, 95), (123, 123), (125, 125), (161, 161), (167, 167), (171, 171), (182, 183), (187, 187), (191, 191)] else
  if b = [83] then some [(36, 36), (43, 43), (60, 62), (94, 94), (96, 96), (124, 124), (126, 126), (162, 166), (168, 169), (172, 172), (174, 177), (180, 180), (184, 184), (215, 215), (247, 247)] else
  if b = [90] then some [(32, 32), (160, 160), (8192, 8202), (8232, 8233), (8239, 8239), (12288, 12288)] else
  if b = [67, 99] then some [(0, 31), (127, 159)] else
  if b = [76, 97, 116, 105, 110] then some [(65, 90), (97, 122), (170, 170), (186, 186), (192, 214), (216, 246), (248, 591), (8490, 8491)] else
  if b = [71, 114, 101, 101, 107] then some [(880, 883), (885, 887), (890, 893), (895, 895), (900, 900), (902, 902), (904, 906), (908, 908), (910, 929), (931, 993)] else
  if b = [67, 121, 114, 105, 108, 108, 105, 99] then some [(1024, 1156), (1159, 1327)] else
  if b = [72, 97, 110] then some [(19968, 40959)] else
  none
def NamedPost (s : ByteArray) (w : World) (e : Ending) (w' : World) : Prop :=
  Below w.heap.size w w' ∧ ((nameR s.toList = none ∧ e = .returned (.tuple #[.slice none 0 0, .bool false])) ∨ ∃ v l, nameR s.toList = some l ∧ e = .returned (.tuple #[v, .bool true]) ∧ OwnR w' w.heap.size v l)

set_option maxHeartbeats 4000000 in
set_option maxRecDepth 100000 in
theorem rnamed_any (s : ByteArray) (w : World) : Calls Tryz.prog 109 #[.string s] w (NamedPost s w) := by
  obtain ⟨b, hb⟩ : ∃ b, s.toList = b := ⟨_, rfl⟩
  unfold NamedPost
  rw [hb]
  have HS := Lib.hid hb
  clear hb
  go_enter Tryz.func109, Tryz.ntmps109
  go_upto_if 5 with (fail)
  rw [HS.out]
  by_cases h0 : b = [76, 117]
  · subst h0
    rw [show (([76, 117] : List UInt8) == [76, 117]) = true by rfl]
    go_wp2_with fail
    refine (rset_any _ [(65, 90), (192, 214), (216, 222), (913, 929), (931, 937), (1040, 1071)] _ (rgs_lit w 84 _ _ _ rfl (by unfold AllI32 I32; decide) rfl (by unfold maxLen; decide)) (by decide)).mono ?_
    rintro e w1 ⟨v1, rfl, ho, hb⟩
    have HB := Lib.hid ((((Below.refl _ w).alloc (Nat.le_refl _) _).trans (hb.mono (by simp))))
    have HO := Lib.hid (ho.mono (B' := w.heap.size) (by simp))
    clear ho hb
    go_wp2_with fail
    go_ret2
    exact ⟨HB.out, .inr ⟨v1, _, rfl, rfl, HO.out⟩⟩
  rw [show (b == [76, 117]) = false by simpa using h0]
  go_upto_if 15 with (fail)
  rw [HS.out]
  by_cases h1 : b = [76, 108]
  · subst h1
    rw [show (([76, 108] : List UInt8) == [76, 108]) = true by rfl]
    go_wp2_with fail
    refine (rset_any _ [(97, 122), (223, 246), (248, 255), (945, 969), (1072, 1103)] _ (rgs_lit w 84 _ _ _ rfl (by unfold AllI32 I32; decide) rfl (by unfold maxLen; decide)) (by decide)).mono ?_
    rintro e w1 ⟨v1, rfl, ho, hb⟩
    have HB := Lib.hid ((((Below.refl _ w).alloc (Nat.le_refl _) _).trans (hb.mono (by simp))))
    have HO := Lib.hid (ho.mono (B' := w.heap.size) (by simp))
    clear ho hb
    go_wp2_with fail
    go_ret2
    exact ⟨HB.out, .inr ⟨v1, _, rfl, rfl, HO.out⟩⟩
  rw [show (b == [76, 108]) = false by simpa using h1]
  go_upto_if 24 with (fail)
  rw [HS.out]
  by_cases h2 : b = [76]
  · subst h2
    rw [show (([76] : List UInt8) == [76]) = true by rfl]
    go_wp2_with fail
    refine (rset_any _ [(65, 90), (97, 122), (170, 170), (186, 186), (192, 214), (216, 246), (248, 255), (913, 929), (931, 937), (945, 969), (1040, 1103), (19968, 40959)] _ (rgs_lit w 84 _ _ _ rfl (by unfold AllI32 I32; decide) rfl (by unfold maxLen; decide)) (by decide)).mono ?_
    rintro e w1 ⟨v1, rfl, ho, hb⟩
    have HB := Lib.hid ((((Below.refl _ w).alloc (Nat.le_refl _) _).trans (hb.mono (by simp))))
    have HO := Lib.hid (ho.mono (B' := w.heap.size) (by simp))
    clear ho hb
    go_wp2_with fail
    go_ret2
    exact ⟨HB.out, .inr ⟨v1, _, rfl, rfl, HO.out⟩⟩
  rw [show (b == [76]) = false by simpa using h2]
  go_upto_if 40 with (fail)
  rw [HS.out]
  by_cases h3 : b = [78, 100]
  · subst h3
    rw [show (([78, 100] : List UInt8) == [78, 100]) = true by rfl]
    go_wp2_with fail
    refine (rset_any _ [(48, 57), (1632, 1641)] _ (rgs_lit w 84 _ _ _ rfl (by unfold AllI32 I32; decide) rfl (by unfold maxLen; decide)) (by decide)).mono ?_
    rintro e w1 ⟨v1, rfl, ho, hb⟩
    have HB := Lib.hid ((((Below.refl _ w).alloc (Nat.le_refl _) _).trans (hb.mono (by simp))))
    have HO := Lib.hid (ho.mono (B' := w.heap.size) (by simp))
    clear ho hb
    go_wp2_with fail
    go_ret2
    exact ⟨HB.out, .inr ⟨v1, _, rfl, rfl, HO.out⟩⟩
  rw [show (b == [78, 100]) = false by simpa using h3]
  go_upto_if 46 with (fail)
  rw [HS.out]
  by_cases h4 : b = [78]
  · subst h4
    rw [show (([78] : List UInt8) == [78]) = true by rfl]
    go_wp2_with fail
    refine (rset_any _ [(48, 57), (178, 179), (185, 185), (188, 190), (1632, 1641), (8544, 8584)] _ (rgs_lit w 84 _ _ _ rfl (by unfold AllI32 I32; decide) rfl (by unfold maxLen; decide)) (by decide)).mono ?_
    rintro e w1 ⟨v1, rfl, ho, hb⟩
    have HB := Lib.hid ((((Below.refl _ w).alloc (Nat.le_refl _) _).trans (hb.mono (by simp))))
    have HO := Lib.hid (ho.mono (B' := w.heap.size) (by simp))
    clear ho hb
    go_wp2_with fail
    go_ret2
    exact ⟨HB.out, .inr ⟨v1, _, rfl, rfl, HO.out⟩⟩
  rw [show (b == [78]) = false by simpa using h4]
  go_upto_if 56 with (fail)
  rw [HS.out]
  by_cases h5 : b = [80]
  · subst h5
    rw [show (([80] : List UInt8) == [80]) = true by rfl]
    go_wp2_with fail
    refine (rset_any _ [(33, 35), (37, 42), (44, 47), (58, 59), (63, 64), (91, 93), (95, 95), (123, 123), (125, 125), (161, 161), (167, 167), (171, 171), (182, 183), (187, 187), (191, 191)] _ (rgs_lit w 84 _ _ _ rfl (by unfold AllI32 I32; decide) rfl (by unfold maxLen; decide)) (by decide)).mono ?_
    rintro e w1 ⟨v1, rfl, ho, hb⟩
    have HB := Lib.hid ((((Below.refl _ w).alloc (Nat.le_refl _) _).trans (hb.mono (by simp))))
    have HO := Lib.hid (ho.mono (B' := w.heap.size) (by simp))
    clear ho hb
    go_wp2_with fail
    go_ret2
    exact ⟨HB.out, .inr ⟨v1, _, rfl, rfl, HO.out⟩⟩
  rw [show (b == [80]) = false by simpa using h5]
  go_upto_if 75 with (fail)
  rw [HS.out]
  by_cases h6 : b = [83]
  · subst h6
    rw [show (([83] : List UInt8) == [83]) = true by rfl]
    go_wp2_with fail
    refine (rset_any _ [(36, 36), (43, 43), (60, 62), (94, 94), (96, 96), (124, 124), (126, 126), (162, 166), (168, 169), (172, 172), (174, 177), (180, 180), (184, 184), (215, 215), (247, 247)] _ (rgs_lit w 84 _ _ _ rfl (by unfold AllI32 I32; decide) rfl (by unfold maxLen; decide)) (by decide)).mono ?_
    rintro e w1 ⟨v1, rfl, ho, hb⟩
    have HB := Lib.hid ((((Below.refl _ w).alloc (Nat.le_refl _) _).trans (hb.mono (by simp))))
    have HO := Lib.hid (ho.mono (B' := w.heap.size) (by simp))
    clear ho hb
    go_wp2_with fail
    go_ret2
    exact ⟨HB.out, .inr ⟨v1, _, rfl, rfl, HO.out⟩⟩
  rw [show (b == [83]) = false by simpa using h6]
  go_upto_if 94 with (fail)
  rw [HS.out]
  by_cases h7 : b = [90]
  · subst h7
    rw [show (([90] : List UInt8) == [90]) = true by rfl]
    go_wp2_with fail
    refine (rset_any _ [(32, 32), (160, 160), (8192, 8202), (8232, 8233), (8239, 8239), (12288, 12288)] _ (rgs_lit w 84 _ _ _ rfl (by unfold AllI32 I32; decide) rfl (by unfold maxLen; decide)) (by decide)).mono ?_
    rintro e w1 ⟨v1, rfl, ho, hb⟩
    have HB := Lib.hid ((((Below.refl _ w).alloc (Nat.le_refl _) _).trans (hb.mono (by simp))))
    have HO := Lib.hid (ho.mono (B' := w.heap.size) (by simp))
    clear ho hb
    go_wp2_with fail
    go_ret2
    exact ⟨HB.out, .inr ⟨v1, _, rfl, rfl, HO.out⟩⟩
  rw [show (b == [90]) = false by simpa using h7]
  go_upto_if 104 with (fail)
  rw [HS.out]
  by_cases h8 : b = [67, 99]
  · subst h8
    rw [show (([67, 99] : List UInt8) == [67, 99]) = true by rfl]
    go_wp2_with fail
    refine (rset_any _ [(0, 31), (127, 159)] _ (rgs_lit w 84 _ _ _ rfl (by unfold AllI32 I32; decide) rfl (by unfold maxLen; decide)) (by decide)).mono ?_
    rintro e w1 ⟨v1, rfl, ho, hb⟩
    have HB := Lib.hid ((((Below.refl _ w).alloc (Nat.le_refl _) _).trans (hb.mono (by simp))))
    have HO := Lib.hid (ho.mono (B' := w.heap.size) (by simp))
    clear ho hb
    go_wp2_with fail
    go_ret2
    exact ⟨HB.out, .inr ⟨v1, _, rfl, rfl, HO.out⟩⟩
  rw [show (b == [67, 99]) = false by simpa using h8]
  go_upto_if 110 with (fail)
  rw [HS.out]
  by_cases h9 : b = [76, 97, 116, 105, 110]
  · subst h9
    rw [show (([76, 97, 116, 105, 110] : List UInt8) == [76, 97, 116, 105, 110]) = true by rfl]
    go_wp2_with fail
    refine (rset_any _ [(65, 90), (97, 122), (170, 170), (186, 186), (192, 214), (216, 246), (248, 591), (8490, 8491)] _ (rgs_lit w 84 _ _ _ rfl (by unfold AllI32 I32; decide) rfl (by unfold maxLen; decide)) (by decide)).mono ?_
    rintro e w1 ⟨v1, rfl, ho, hb⟩
    have HB := Lib.hid ((((Below.refl _ w).alloc (Nat.le_refl _) _).trans (hb.mono (by simp))))
    have HO := Lib.hid (ho.mono (B' := w.heap.size) (by simp))
    clear ho hb
    go_wp2_with fail
    go_ret2
    exact ⟨HB.out, .inr ⟨v1, _, rfl, rfl, HO.out⟩⟩
  rw [show (b == [76, 97, 116, 105, 110]) = false by simpa using h9]
  go_upto_if 122 with (fail)
  rw [HS.out]
  by_cases h10 : b = [71, 114, 101, 101, 107]
  · subst h10
    rw [show (([71, 114, 101, 101, 107] : List UInt8) == [71, 114, 101, 101, 107]) = true by rfl]
    go_wp2_with fail
    refine (rset_any _ [(880, 883), (885, 887), (890, 893), (895, 895), (900, 900), (902, 902), (904, 906), (908, 908), (910, 929), (931, 993)] _ (rgs_lit w 84 _ _ _ rfl (by unfold AllI32 I32; decide) rfl (by unfold maxLen; decide)) (by decide)).mono ?_
    rintro e w1 ⟨v1, rfl, ho, hb⟩
    have HB := Lib.hid ((((Below.refl _ w).alloc (Nat.le_refl _) _).trans (hb.mono (by simp))))
    have HO := Lib.hid (ho.mono (B' := w.heap.size) (by simp))
    clear ho hb
    go_wp2_with fail
    go_ret2
    exact ⟨HB.out, .inr ⟨v1, _, rfl, rfl, HO.out⟩⟩
  rw [show (b == [71, 114, 101, 101, 107]) = false by simpa using h10]
  go_upto_if 136 with (fail)
  rw [HS.out]
  by_cases h11 : b = [67, 121, 114, 105, 108, 108, 105, 99]
  · subst h11
    rw [show (([67, 121, 114, 105, 108, 108, 105, 99] : List UInt8) == [67, 121, 114, 105, 108, 108, 105, 99]) = true by rfl]
    go_wp2_with fail
    refine (rset_any _ [(1024, 1156), (1159, 1327)] _ (rgs_lit w 84 _ _ _ rfl (by unfold AllI32 I32; decide) rfl (by unfold maxLen; decide)) (by decide)).mono ?_
    rintro e w1 ⟨v1, rfl, ho, hb⟩
    have HB := Lib.hid ((((Below.refl _ w).alloc (Nat.le_refl _) _).trans (hb.mono (by simp))))
    have HO := Lib.hid (ho.mono (B' := w.heap.size) (by simp))
    clear ho hb
    go_wp2_with fail
    go_ret2
    exact ⟨HB.out, .inr ⟨v1, _, rfl, rfl, HO.out⟩⟩
  rw [show (b == [67, 121, 114, 105, 108, 108, 105, 99]) = false by simpa using h11]
  go_upto_if 142 with (fail)
  rw [HS.out]
  by_cases h12 : b = [72, 97, 110]
  · subst h12
    rw [show (([72, 97, 110] : List UInt8) == [72, 97, 110]) = true by rfl]
    go_wp2_with fail
    refine (rset_any _ [(19968, 40959)] _ (rgs_lit w 84 _ _ _ rfl (by unfold AllI32 I32; decide) rfl (by unfold maxLen; decide)) (by decide)).mono ?_
    rintro e w1 ⟨v1, rfl, ho, hb⟩
    have HB := Lib.hid ((((Below.refl _ w).alloc (Nat.le_refl _) _).trans (hb.mono (by simp))))
    have HO := Lib.hid (ho.mono (B' := w.heap.size) (by simp))
    clear ho hb
    go_wp2_with fail
    go_ret2
    exact ⟨HB.out, .inr ⟨v1, _, rfl, rfl, HO.out⟩⟩
  rw [show (b == [72, 97, 110]) = false by simpa using h12]
  go_wp2_with fail
  go_ret2
  exact ⟨Below.refl _ _, .inl ⟨by unfold nameR; simp [h0, h1, h2, h3, h4, h5, h6, h7, h8, h9, h10, h11, h12], rfl⟩⟩
end Go.Proofs.YtmaigjdmjmonbaaGreatDoor
/- The document's Not: a fresh row of a set. -/
namespace Go.Proofs.YtmaigjdmjmonbaaGreatDoor
open Go Go.RowKit

/-- What Not has made behind k ranges. -/
def Loop3 (w1 : World) (K : List (Int × Int)) (k : Nat) (vo : Value) (f : Int) (wz : World) : Prop :=
  ∃ O, OwnR wz w1.heap.size vo O ∧ O ++ notFrom f (K.drop k) = notFrom 0 K ∧ RightFrom f (K.drop k) ∧ 0 ≤ f ∧ f ≤ 1114112 ∧ O.length ≤ k ∧ Below w1.heap.size w1 wz

set_option maxHeartbeats 1600000 in
set_option maxRecDepth 100000 in
theorem rnot_any (v : Value) (l : List (Int × Int)) (w : World) (h : Rgs w v l) (hn : l.length ≤ 1099511627776) :
    Calls Tryz.prog 11 #[v] w (SetPost (fun c => 0 ≤ c ∧ c ≤ 1114111 ∧ ¬ HasR l c) w) := by
  have HN := Lib.hid (rnorm_any v l w h hn)
  go_enter Tryz.func11, Tryz.ntmps11
  go_wp2_with fail
  refine HN.out.mono ?_
  rintro e w1 ⟨v1, K, rfl, hO, hR, hP, hB⟩
  have HO := Lib.hid hO; have HR := Lib.hid hR; have HP := Lib.hid hP; have HB := Lib.hid hB
  have hKl := right_len K 0 (by omega) hR
  clear hO hR hP hB h
  have HRG := Lib.hid HO.out.rgs
  obtain ⟨A, cA, hv1, hc1, hc2, -⟩ := HO.out.rgs
  subst hv1
  go_wp2_with fail
  go_loopw [4, 5, 6] (fun vo vf i wz => ∃ k : Nat, k ≤ K.length ∧ i = .int .i64 k ∧ ∃ f : Int, vf = .int .i32 f ∧ Loop3 w1 K k vo f wz) (fun _ _ i _ => K.length - (intOf i).toNat)
  case atStart => exact ⟨0, Nat.zero_le _, rfl, 0, rfl, [], own_none _ _, by simp, by rw [List.drop_zero]; exact HR.out, by omega, by omega, Nat.le_refl _, Below.refl _ _⟩
  case round =>
    obtain ⟨k, hk, rfl, f, rfl, O, hOO, hEq, hRf, hf0, hf1, hOk, hBz⟩ := hrel
    have HOO := Lib.hid hOO; have HEQ := Lib.hid hEq; have HRF := Lib.hid hRf; have HBZ := Lib.hid hBz
    clear hOO hEq hRf hBz
    by_cases hkl : k < K.length
    · obtain ⟨a1, cq, e, q2, q3, q4, q5, q6⟩ := HRG.out
      injection e with e1 e2 e3
      subst e1 e3
      rcases q5 with q5 | ⟨b, o, rfl, hc⟩
      · rw [q5] at hkl
        simp at hkl
      obtain ⟨x1, x2, hx, hsp, w1c, w2c⟩ := rgs_at hc k hkl
      have c1 := (HBZ.out.cell (World.block_lt_of_cell? w1 _ w1c)).trans w1c
      have c2 := (HBZ.out.cell (World.block_lt_of_cell? w1 _ w2c)).trans w2c
      have hdr : K.drop k = (x1, x2) :: K.drop (k + 1) := by
        rw [List.drop_eq_getElem_cons hkl]
        rw [List.getElem?_eq_getElem hkl] at hx
        rw [Option.some.inj hx]
      have hrf := HRF.out
      rw [hdr] at hrf
      obtain ⟨r1, r2, r3, r4⟩ := hrf
      have r1' : f ≤ x1 := r1
      have r2' : x1 ≤ x2 := r2
      have r3' : x2 ≤ 1114111 := r3
      have hq := HEQ.out
      rw [hdr] at hq
      have HQ := Lib.hid hq; have HR4 := Lib.hid (r4.le (lo' := x2 + 1) (by show x2 + 1 ≤ x2 + 2; omega)); have HW2 := Lib.hid w2c
      clear hx hsp hc hdr hq r4 q6 r1 r2 r3 w1c w2c
      by_cases hfx : f < x1
      · go_wp2_with (at_builtin; refine append_rgs rfl (.tmp 22) (.tmp 31) rfl w1.heap.size _ O rfl (HOO.out.below ((Below.refl _ _).alloc (Nat.le_refl _) _)) (some ⟨wr.heap.size, 0, none⟩) 1 1 [(f, x1 - 1)] rfl (rgs_new wr f (x1 - 1) (by unfold I32; omega) (by unfold I32; omega)) ?c3 ?c4 ?_)
        case c3 => (try simp); omega
        case c4 => (have := HBZ.out.size; (try simp); omega)
        intro v3 w3 ho3 hg3
        have HB3 := Lib.hid ((HBZ.out.alloc HBZ.out.size _).grown hg3 (by have := HBZ.out.size; simp; omega) (fun j hj => (HOO.out.1.lt j hj).1))
        have d2 := (HB3.out.cell (World.block_lt_of_cell? w1 _ HW2.out)).trans HW2.out
        have HO3 := Lib.hid ho3
        clear hg3 ho3 c1 c2
        go_wp2
        go_roundw
        case rel =>
          refine ⟨k + 1, by omega, by go_num, x2 + 1, rfl, O ++ [(f, x1 - 1)], HO3.out, ?_, HR4.out, by omega, by omega, by simp; omega, HB3.out⟩
          rw [← HQ.out, List.append_assoc]
          congr 1
          show _ = (if f < x1 then [(f, x1 - 1)] else []) ++ notFrom (x2 + 1) (K.drop (k + 1))
          rw [if_pos hfx]
        case measure => simp [intOf]; omega
      · go_wp2
        go_roundw
        case rel =>
          refine ⟨k + 1, by omega, by go_num, x2 + 1, rfl, O, HOO.out, ?_, HR4.out, by omega, by omega, by omega, HBZ.out⟩
          rw [← HQ.out]
          congr 1
          show _ = (if f < x1 then [(f, x1 - 1)] else []) ++ notFrom (x2 + 1) (K.drop (k + 1))
          rw [if_neg hfx, List.nil_append]
        case measure => simp [intOf]; omega
    · have hkn : K.drop k = [] := List.drop_eq_nil_of_le (by omega)
      have hq := HEQ.out
      rw [hkn] at hq
      have HQ := Lib.hid hq
      have hall : ∀ c, HasR (notFrom 0 K) c ↔ 0 ≤ c ∧ c ≤ 1114111 ∧ ¬ HasR l c := fun c => by rw [not_has K 0 c (Int.le_refl _) HR.out, HP.out]
      have hrn : RightR (notFrom 0 K) := not_right K 0 HR.out
      have HALL := Lib.hid hall; have HRN := Lib.hid hrn
      clear hkn hq hall hrn
      by_cases hfx : f ≤ 1114111
      · go_wp2_with (at_builtin; refine append_rgs rfl (.tmp 41) (.tmp 44) rfl w1.heap.size _ O rfl (HOO.out.below ((Below.refl _ _).alloc (Nat.le_refl _) _)) (some ⟨wr.heap.size, 0, none⟩) 1 1 [(f, 1114111)] rfl (rgs_new wr f 1114111 (by unfold I32; omega) (by unfold I32; omega)) ?c3 ?c4 ?_)
        case c3 => (try simp); omega
        case c4 => (have := HBZ.out.size; (try simp); omega)
        intro v3 w3 ho3 hg3
        have HB3 := Lib.hid ((HBZ.out.alloc HBZ.out.size _).grown hg3 (by have := HBZ.out.size; simp; omega) (fun j hj => (HOO.out.1.lt j hj).1))
        have HO3 := Lib.hid ho3
        clear hg3 ho3
        have he : O ++ [(f, 1114111)] = notFrom 0 K := by
          rw [← HQ.out]
          congr 1
          show _ = if f ≤ 1114111 then [(f, 1114111)] else []
          rw [if_pos hfx]
        have HE := Lib.hid he
        clear he
        go_wp2
        go_ret
        exact ⟨_, notFrom 0 K, rfl, (HE.out ▸ HO3.out).mono HB.out.size, HRN.out, HALL.out, HB.out.trans (HB3.out.mono HB.out.size)⟩
      · have he : O = notFrom 0 K := by
          rw [← HQ.out]
          show _ = O ++ (if f ≤ 1114111 then [(f, 1114111)] else [])
          rw [if_neg hfx, List.append_nil]
        have HE := Lib.hid he
        clear he
        go_wp2
        go_ret
        exact ⟨_, notFrom 0 K, rfl, (HE.out ▸ HOO.out).mono HB.out.size, HRN.out, HALL.out, HB.out.trans (HBZ.out.mono HB.out.size)⟩
end Go.Proofs.YtmaigjdmjmonbaaGreatDoor
/- The document's sets of classes: a literal of pairs as a fresh row of ranges. -/
namespace Go.Proofs.YtmaigjdmjmonbaaGreatDoor
open Go Go.RowKit

set_option maxHeartbeats 1600000 in
set_option maxRecDepth 100000 in
/-- A list of pairs, as a fresh row of ranges. -/
theorem rset4_any (v : Value) (l : List (Int × Int)) (w : World) (h : Rgs w v l) (hn : l.length ≤ 1099511627776) :
    Calls Tryz.prog 80 #[v] w fun e w' => ∃ v', e = .returned v' ∧ OwnR w' w.heap.size v' l ∧ Below w.heap.size w w' := by
  have HR := Lib.hid h
  obtain ⟨a, c, rfl, h2, h3, h4, h5, h6⟩ := h
  have H6 := Lib.hid h6
  clear h5 h6 h4 h2 h3
  go_enter Tryz.func80, Tryz.ntmps80
  go_wp2_with fail
  go_loopw [3, 4] (fun vs i wr => ∃ m : Nat, m ≤ l.length ∧ i = .int .i64 m ∧ OwnR wr w.heap.size vs (l.take m) ∧ Below w.heap.size w wr) (fun _ i _ => l.length - (intOf i).toNat)
  case atStart => exact ⟨0, Nat.zero_le _, rfl, own_none _ _, Below.refl _ _⟩
  case round =>
    obtain ⟨m, hm, rfl, hO, hB⟩ := hrel
    have HO := Lib.hid hO; have HB := Lib.hid hB
    clear hO hB
    by_cases hlt : m < l.length
    · obtain ⟨a', c', e, g2, g3, g4, g5, g6⟩ := HR.out
      injection e with e1 e2 e3
      subst e1 e3
      rcases g5 with g5 | ⟨b, o, rfl, hc⟩
      · rw [g5] at hlt
        simp at hlt
      obtain ⟨x1, x2, hx, hsp, c1w, c2w⟩ := rgs_at hc m hlt
      have c1 := (HB.out.cell (World.block_lt_of_cell? w _ c1w)).trans c1w
      have c2 := (HB.out.cell (World.block_lt_of_cell? w _ c2w)).trans c2w
      have C1 := Lib.hid c1w; have C2 := Lib.hid c2w
      have hxi := H6.out (x1, x2) (List.mem_of_getElem? hx)
      have HSP := Lib.hid hsp; have HXI := Lib.hid hxi
      have hsz := HB.out.size
      clear hsp hx hc g6 hxi c1w c2w
      go_upto_region 5 with (fail)
      go_region_held3 (fun w' => w'.cell? ⟨b, o + m * 2, none⟩ = some (.int .i32 x1) ∧ w'.cell? ⟨b, o + m * 2 + 1, none⟩ = some (.int .i32 x2)) (first | go_keep | exact ⟨c1, c2⟩ | (constructor <;> assumption)) (first | (refine step_append_rgs rfl (.tmp 11) (.tmp 23) rfl w.heap.size _ (l.take m) rfl (HO.out.below ((Below.refl _ wr).alloc (Nat.le_refl _) _).drew) wr.heap.size x1 x2 rfl ((rgs_new wr x1 x2 HXI.out.1 HXI.out.2).below (Below.refl _ _).drew) (by rw [List.length_take]; omega) (by simp; omega) ?_; intro v3 w3 ho3 hg3; have hB3 := Lib.hid (((HB.out.alloc HB.out.size _).drew).grown hg3 (by simp; omega) (fun j hj => (HO.out.1.lt j hj).1)); have k1 := (hB3.out.cell (World.block_lt_of_cell? w _ C1.out)).trans C1.out; have k2 := (hB3.out.cell (World.block_lt_of_cell? w _ C2.out)).trans C2.out))
      have HO3 := Lib.hid ho3
      clear ho3 hg3 k1 k2 c1 c2
      go_wp2
      go_roundw
      case rel => exact ⟨m + 1, by omega, by go_num, by rw [HSP.out]; exact HO3.out, hB3.out⟩
      case measure => simp [intOf]; omega
    · have e : l.take m = l := List.take_of_length_le (by omega)
      have ho := HO.out
      rw [e] at ho
      have HO' := Lib.hid ho
      clear ho e
      go_wp2
      go_ret
      exact ⟨_, rfl, HO'.out, HB.out⟩
end Go.Proofs.YtmaigjdmjmonbaaGreatDoor
/- The document's sets with names: what they are. -/
namespace Go.Proofs.YtmaigjdmjmonbaaGreatDoor
open Go Go.RowKit

/-- A set and true, or none and false. -/
def Post2 (o : Option (List (Int × Int))) (w : World) (e : Ending) (w' : World) : Prop :=
  Below w.heap.size w w' ∧ ((o = none ∧ e = .returned (.tuple #[.slice none 0 0, .bool false])) ∨ ∃ v l, o = some l ∧ e = .returned (.tuple #[v, .bool true]) ∧ OwnR w' w.heap.size v l)
/-- What a list does not have. -/
def notR (l : List (Int × Int)) : List (Int × Int) := notFrom 0 l
theorem notR_right {l : List (Int × Int)} (h : RightR l) : RightR (notR l) := not_right l 0 h
theorem notR_has {l : List (Int × Int)} (h : RightR l) (c : Int) : HasR (notR l) c ↔ 0 ≤ c ∧ c ≤ 1114111 ∧ ¬ HasR l c := not_has l 0 c (Int.le_refl _) h
theorem notR_is {l k : List (Int × Int)} (h : RightR l) (hk : RightR k) (hP : ∀ c, HasR k c ↔ (0 ≤ c ∧ c ≤ 1114111 ∧ ¬ HasR l c)) : k = notR l :=
  right_eq _ _ hk (notR_right h) fun c => by rw [hP, notR_has h]
theorem notR_twice {l : List (Int × Int)} (h : RightR l) : notR (notR l) = l :=
  right_eq _ _ (notR_right (notR_right h)) h fun c => by
    rw [notR_has (notR_right h), notR_has h]
    constructor
    · rintro ⟨h0, h1, h2⟩
      exact Classical.byContradiction fun hh => h2 ⟨h0, h1, hh⟩
    · intro hh
      exact ⟨hh.1, hh.2.1, fun x => x.2.2 hh⟩
def dR : List (Int × Int) := [(48, 57)]
def sR : List (Int × Int) := [(9, 10), (12, 13), (32, 32)]
def wR : List (Int × Int) := [(48, 57), (65, 90), (95, 95), (97, 122)]
def perlR (c : Int) : Option (List (Int × Int)) :=
  if c = 100 then some dR else if c = 115 then some sR else if c = 119 then some wR else if c = 68 then some (notR dR) else if c = 83 then some (notR sR) else if c = 87 then some (notR wR) else none
def plainR (b : List UInt8) : Option (List (Int × Int)) :=
  if b = [97, 108, 110, 117, 109] then some [(48, 57), (65, 90), (97, 122)] else
  if b = [97, 108, 112, 104, 97] then some [(65, 90), (97, 122)] else
  if b = [97, 115, 99, 105, 105] then some [(0, 127)] else
  if b = [98, 108, 97, 110, 107] then some [(9, 9), (32, 32)] else
  if b = [99, 110, 116, 114, 108] then some [(0, 31), (127, 127)] else
  if b = [100, 105, 103, 105, 116] then some [(48, 57)] else
  if b = [103, 114, 97, 112, 104] then some [(33, 126)] else
  if b = [108, 111, 119, 101, 114] then some [(97, 122)] else
  if b = [112, 114, 105, 110, 116] then some [(32, 126)] else
  if b = [112, 117, 110, 99, 116] then some [(33, 47), (58, 64), (91, 96), (123, 126)] else
  if b = [115, 112, 97, 99, 101] then some [(9, 13), (32, 32)] else
  if b = [117, 112, 112, 101, 114] then some [(65, 90)] else
  if b = [119, 111, 114, 100] then some [(48, 57), (65, 90), (95, 95), (97, 122)] else
  if b = [120, 100, 105, 103, 105, 116] then some [(48, 57), (65, 70), (97, 102)] else
  none
def posixR (b : List UInt8) : Option (List (Int × Int)) := if b.head? = some 94 then (plainR b.tail).map notR else plainR b
def property1 (b : List UInt8) : Option (List (Int × Int)) := if b = [65, 110, 121] then some (notR []) else nameR b
def property2 (b : List UInt8) (n : Bool) : Option (List (Int × Int)) := if n then (property1 b).map notR else property1 b
def propR (b : List UInt8) (n : Bool) : Option (List (Int × Int)) := if b.head? = some 94 then property2 b.tail (!n) else property2 b n
def dotR (all : Bool) : List (Int × Int) := if all then notR [] else notR [(10, 10)]
theorem plain_right {b : List UInt8} {l : List (Int × Int)} (h : plainR b = some l) : RightR l := by
  unfold plainR at h
  by_cases h0 : b = [97, 108, 110, 117, 109]
  · rw [if_pos h0] at h
    injection h with h
    rw [← h]
    simp [RightR, RightFrom]
  rw [if_neg h0] at h
  by_cases h1 : b = [97, 108, 112, 104, 97]
  · rw [if_pos h1] at h
    injection h with h
    rw [← h]
    simp [RightR, RightFrom]
  rw [if_neg h1] at h
  by_cases h2 : b = [97, 115, 99, 105, 105]
  · rw [if_pos h2] at h
    injection h with h
    rw [← h]
    simp [RightR, RightFrom]
  rw [if_neg h2] at h
  by_cases h3 : b = [98, 108, 97, 110, 107]
  · rw [if_pos h3] at h
    injection h with h
    rw [← h]
    simp [RightR, RightFrom]
  rw [if_neg h3] at h
  by_cases h4 : b = [99, 110, 116, 114, 108]
  · rw [if_pos h4] at h
    injection h with h
    rw [← h]
    simp [RightR, RightFrom]
  rw [if_neg h4] at h
  by_cases h5 : b = [100, 105, 103, 105, 116]
  · rw [if_pos h5] at h
    injection h with h
    rw [← h]
    simp [RightR, RightFrom]
  rw [if_neg h5] at h
  by_cases h6 : b = [103, 114, 97, 112, 104]
  · rw [if_pos h6] at h
    injection h with h
    rw [← h]
    simp [RightR, RightFrom]
  rw [if_neg h6] at h
  by_cases h7 : b = [108, 111, 119, 101, 114]
  · rw [if_pos h7] at h
    injection h with h
    rw [← h]
    simp [RightR, RightFrom]
  rw [if_neg h7] at h
  by_cases h8 : b = [112, 114, 105, 110, 116]
  · rw [if_pos h8] at h
    injection h with h
    rw [← h]
    simp [RightR, RightFrom]
  rw [if_neg h8] at h
  by_cases h9 : b = [112, 117, 110, 99, 116]
  · rw [if_pos h9] at h
    injection h with h
    rw [← h]
    simp [RightR, RightFrom]
  rw [if_neg h9] at h
  by_cases h10 : b = [115, 112, 97, 99, 101]
  · rw [if_pos h10] at h
    injection h with h
    rw [← h]
    simp [RightR, RightFrom]
  rw [if_neg h10] at h
  by_cases h11 : b = [117, 112, 112, 101, 114]
  · rw [if_pos h11] at h
    injection h with h
    rw [← h]
    simp [RightR, RightFrom]
  rw [if_neg h11] at h
  by_cases h12 : b = [119, 111, 114, 100]
  · rw [if_pos h12] at h
    injection h with h
    rw [← h]
    simp [RightR, RightFrom]
  rw [if_neg h12] at h
  by_cases h13 : b = [120, 100, 105, 103, 105, 116]
  · rw [if_pos h13] at h
    injection h with h
    rw [← h]
    simp [RightR, RightFrom]
  rw [if_neg h13] at h
  cases h
theorem name_right {b : List UInt8} {l : List (Int × Int)} (h : nameR b = some l) : RightR l := by
  unfold nameR at h
  by_cases h0 : b = [76, 117]
  · rw [if_pos h0] at h
    injection h with h
    rw [← h]
    simp [RightR, RightFrom]
  rw [if_neg h0] at h
  by_cases h1 : b = [76, 108]
  · rw [if_pos h1] at h
    injection h with h
    rw [← h]
    simp [RightR, RightFrom]
  rw [if_neg h1] at h
  by_cases h2 : b = [76]
  · rw [if_pos h2] at h
    injection h with h
    rw [← h]
    simp [RightR, RightFrom]
  rw [if_neg h2] at h
  by_cases h3 : b = [78, 100]
  · rw [if_pos h3] at h
    injection h with h
    rw [← h]
    simp [RightR, RightFrom]
  rw [if_neg h3] at h
  by_cases h4 : b = [78]
  · rw [if_pos h4] at h
    injection h with h
    rw [← h]
    simp [RightR, RightFrom]
  rw [if_neg h4] at h
  by_cases h5 : b = [80]
  · rw [if_pos h5] at h
    injection h with h
    rw [← h]
    simp [RightR, RightFrom]
  rw [if_neg h5] at h
  by_cases h6 : b = [83]
  · rw [if_pos h6] at h
    injection h with h
    rw [← h]
    simp [RightR, RightFrom]
  rw [if_neg h6] at h
  by_cases h7 : b = [90]
  · rw [if_pos h7] at h
    injection h with h
    rw [← h]
    simp [RightR, RightFrom]
  rw [if_neg h7] at h
  by_cases h8 : b = [67, 99]
  · rw [if_pos h8] at h
    injection h with h
    rw [← h]
    simp [RightR, RightFrom]
  rw [if_neg h8] at h
  by_cases h9 : b = [76, 97, 116, 105, 110]
  · rw [if_pos h9] at h
    injection h with h
    rw [← h]
    simp [RightR, RightFrom]
  rw [if_neg h9] at h
  by_cases h10 : b = [71, 114, 101, 101, 107]
  · rw [if_pos h10] at h
    injection h with h
    rw [← h]
    simp [RightR, RightFrom]
  rw [if_neg h10] at h
  by_cases h11 : b = [67, 121, 114, 105, 108, 108, 105, 99]
  · rw [if_pos h11] at h
    injection h with h
    rw [← h]
    simp [RightR, RightFrom]
  rw [if_neg h11] at h
  by_cases h12 : b = [72, 97, 110]
  · rw [if_pos h12] at h
    injection h with h
    rw [← h]
    simp [RightR, RightFrom]
  rw [if_neg h12] at h
  cases h
theorem nil_right : RightR [] := trivial
theorem property1_right {b : List UInt8} {l : List (Int × Int)} (h : property1 b = some l) : RightR l := by
  unfold property1 at h
  split at h
  · injection h with h
    subst h
    exact notR_right nil_right
  · exact name_right h
theorem property2_right {b : List UInt8} {n : Bool} {l : List (Int × Int)} (h : property2 b n = some l) : RightR l := by
  unfold property2 at h
  split at h
  · obtain ⟨k, hk, rfl⟩ := Option.map_eq_some_iff.1 h
    exact notR_right (property1_right hk)
  · exact property1_right h
theorem prop_right {b : List UInt8} {n : Bool} {l : List (Int × Int)} (h : propR b n = some l) : RightR l := by
  unfold propR at h
  split at h <;> exact property2_right h
theorem posix_right {b : List UInt8} {l : List (Int × Int)} (h : posixR b = some l) : RightR l := by
  unfold posixR at h
  split at h
  · obtain ⟨k, hk, rfl⟩ := Option.map_eq_some_iff.1 h
    exact notR_right (plain_right hk)
  · exact plain_right h
theorem perl_right {c : Int} {l : List (Int × Int)} (h : perlR c = some l) : RightR l := by
  have hd : RightR dR := by simp [dR, RightR, RightFrom]
  have hs : RightR sR := by simp [sR, RightR, RightFrom]
  have hw : RightR wR := by simp [wR, RightR, RightFrom]
  unfold perlR at h
  by_cases e1 : c = 100
  · rw [if_pos e1] at h; injection h with h; rw [← h]; exact hd
  rw [if_neg e1] at h
  by_cases e2 : c = 115
  · rw [if_pos e2] at h; injection h with h; rw [← h]; exact hs
  rw [if_neg e2] at h
  by_cases e3 : c = 119
  · rw [if_pos e3] at h; injection h with h; rw [← h]; exact hw
  rw [if_neg e3] at h
  by_cases e4 : c = 68
  · rw [if_pos e4] at h; injection h with h; rw [← h]; exact notR_right hd
  rw [if_neg e4] at h
  by_cases e5 : c = 83
  · rw [if_pos e5] at h; injection h with h; rw [← h]; exact notR_right hs
  rw [if_neg e5] at h
  by_cases e6 : c = 87
  · rw [if_pos e6] at h; injection h with h; rw [← h]; exact notR_right hw
  rw [if_neg e6] at h
  cases h
theorem property2_turn (b : List UInt8) (n : Bool) : property2 b (!n) = (property2 b n).map notR := by
  cases n
  · simp [property2]
  · simp only [property2, Bool.not_true, Bool.false_eq_true, if_false, if_true]
    rcases hq : property1 b with _ | k
    · rfl
    · simp [notR_twice (property1_right hq)]
theorem prop_turn (b : List UInt8) (n : Bool) : propR b (!n) = (propR b n).map notR := by
  unfold propR
  split <;> exact property2_turn _ _
theorem prop_hat (b : List UInt8) (n : Bool) (h : b.head? ≠ some 94) : propR (94 :: b) n = propR b (!n) := by
  unfold propR
  rw [if_neg h]
  simp
theorem posix_hat (b : List UInt8) (h : b.head? ≠ some 94) : posixR (94 :: b) = (posixR b).map notR := by
  unfold posixR
  rw [if_neg h]
  simp
theorem perl_turn (c : Int) (h0 : 97 ≤ c) (h1 : c ≤ 122) : perlR (c - 32) = (perlR c).map notR := by
  unfold perlR
  by_cases e1 : c = 100
  · subst e1; rfl
  by_cases e2 : c = 115
  · subst e2; rfl
  by_cases e3 : c = 119
  · subst e3; rfl
  rw [if_neg (by omega), if_neg (by omega), if_neg (by omega), if_neg (by omega), if_neg (by omega), if_neg (by omega), if_neg e1, if_neg e2, if_neg e3, if_neg (by omega), if_neg (by omega), if_neg (by omega)]
  rfl
end Go.Proofs.YtmaigjdmjmonbaaGreatDoor
/- The document's Not of a set, by name. -/
namespace Go.Proofs.YtmaigjdmjmonbaaGreatDoor
open Go Go.RowKit

/-- Not of a set, by name. -/
theorem rnotR_any (v : Value) (l : List (Int × Int)) (w : World) (h : Rgs w v l) (hr : RightR l) (hn : l.length ≤ 1099511627776) :
    Calls Tryz.prog 11 #[v] w fun e w' => ∃ v', e = .returned v' ∧ OwnR w' w.heap.size v' (notR l) ∧ Below w.heap.size w w' := by
  refine (rnot_any v l w h hn).mono ?_
  rintro e w1 ⟨v1, k, rfl, hO, hR, hP, hB⟩
  exact ⟨v1, rfl, (notR_is hr hR hP) ▸ hO, hB⟩

end Go.Proofs.YtmaigjdmjmonbaaGreatDoor
/- The document's set of a letter. -/
namespace Go.Proofs.YtmaigjdmjmonbaaGreatDoor
open Go Go.RowKit

set_option maxHeartbeats 1600000 in
set_option maxRecDepth 100000 in
theorem rperl_low (c : Int) (w : World) (hc : c = 100 ∨ c = 115 ∨ c = 119) : Calls Tryz.prog 111 #[.int .u8 c] w (Post2 (perlR c) w) := by
  unfold Post2
  rcases hc with rfl | rfl | rfl
  · go_enter Tryz.func111, Tryz.ntmps111
    go_wp2_with fail
    refine (rset4_any _ dR _ (rgs_lit w 84 _ _ _ rfl (by unfold AllI32 I32; decide) rfl (by unfold maxLen; decide)) (by decide)).mono ?_
    rintro e w1 ⟨v1, rfl, ho, hb⟩
    have HB := Lib.hid ((((Below.refl _ w).alloc (Nat.le_refl _) _).trans (hb.mono (by simp))))
    have HO := Lib.hid (ho.mono (B' := w.heap.size) (by simp))
    clear ho hb
    go_wp2_with fail
    go_ret2
    exact ⟨HB.out, .inr ⟨v1, _, rfl, rfl, HO.out⟩⟩
  · go_enter Tryz.func111, Tryz.ntmps111
    go_wp2_with fail
    refine (rset4_any _ sR _ (rgs_lit w 84 _ _ _ rfl (by unfold AllI32 I32; decide) rfl (by unfold maxLen; decide)) (by decide)).mono ?_
    rintro e w1 ⟨v1, rfl, ho, hb⟩
    have HB := Lib.hid ((((Below.refl _ w).alloc (Nat.le_refl _) _).trans (hb.mono (by simp))))
    have HO := Lib.hid (ho.mono (B' := w.heap.size) (by simp))
    clear ho hb
    go_wp2_with fail
    go_ret2
    exact ⟨HB.out, .inr ⟨v1, _, rfl, rfl, HO.out⟩⟩
  · go_enter Tryz.func111, Tryz.ntmps111
    go_wp2_with fail
    refine (rset4_any _ wR _ (rgs_lit w 84 _ _ _ rfl (by unfold AllI32 I32; decide) rfl (by unfold maxLen; decide)) (by decide)).mono ?_
    rintro e w1 ⟨v1, rfl, ho, hb⟩
    have HB := Lib.hid ((((Below.refl _ w).alloc (Nat.le_refl _) _).trans (hb.mono (by simp))))
    have HO := Lib.hid (ho.mono (B' := w.heap.size) (by simp))
    clear ho hb
    go_wp2_with fail
    go_ret2
    exact ⟨HB.out, .inr ⟨v1, _, rfl, rfl, HO.out⟩⟩

/-- A great letter, by the small one. -/
theorem rperl_great (c d : Int) (l : List (Int × Int)) (w : World) (hcd : (c = 68 ∧ d = 100 ∧ l = dR) ∨ (c = 83 ∧ d = 115 ∧ l = sR) ∨ (c = 87 ∧ d = 119 ∧ l = wR)) : Calls Tryz.prog 111 #[.int .u8 c] w (Post2 (perlR c) w) := by
  have hl : perlR d = some l := by rcases hcd with ⟨rfl, rfl, rfl⟩ | ⟨rfl, rfl, rfl⟩ | ⟨rfl, rfl, rfl⟩ <;> rfl
  have hk : perlR c = some (notR l) := by rcases hcd with ⟨rfl, rfl, rfl⟩ | ⟨rfl, rfl, rfl⟩ | ⟨rfl, rfl, rfl⟩ <;> rfl
  have hlen : l.length ≤ 4 := by rcases hcd with ⟨rfl, rfl, rfl⟩ | ⟨rfl, rfl, rfl⟩ | ⟨rfl, rfl, rfl⟩ <;> decide
  have HL := Lib.hid hl; have HK := Lib.hid hk; have HN := Lib.hid hlen
  have HP := Lib.hid (rperl_low d w (by omega))
  clear hl hk hlen
  unfold Post2
  rcases hcd with ⟨rfl, rfl, -⟩ | ⟨rfl, rfl, -⟩ | ⟨rfl, rfl, -⟩ <;>
  · go_enter Tryz.func111, Tryz.ntmps111
    go_wp2_with fail
    refine HP.out.mono ?_
    rintro e w1 ⟨hb, ⟨hx, -⟩ | ⟨v, k, hx, rfl, ho⟩⟩
    · rw [HL.out] at hx
      cases hx
    rw [HL.out] at hx
    injection hx with hx
    have HX := Lib.hid hx; have HB := Lib.hid hb; have HO := Lib.hid (hx.symm ▸ ho)
    clear hx hb ho
    go_wp2_with fail
    refine (rnotR_any v l w1 HO.out.rgs (perl_right HL.out) (by have := HN.out; omega)).mono ?_
    rintro e w2 ⟨v2, rfl, ho, hb⟩
    have HB2 := Lib.hid (HB.out.trans (hb.mono HB.out.size)); have HO2 := Lib.hid (ho.mono HB.out.size)
    clear ho hb
    go_wp2_with fail
    go_ret2
    exact ⟨HB2.out, .inr ⟨v2, _, HK.out, rfl, HO2.out⟩⟩

set_option maxHeartbeats 1600000 in
theorem rperl_any (c : Int) (w : World) : Calls Tryz.prog 111 #[.int .u8 c] w (Post2 (perlR c) w) := by
  by_cases k0 : c = 100 ∨ c = 115 ∨ c = 119
  · exact rperl_low c w k0
  by_cases k1 : c = 68
  · exact rperl_great c 100 dR w (.inl ⟨k1, rfl, rfl⟩)
  by_cases k2 : c = 83
  · exact rperl_great c 115 sR w (.inr (.inl ⟨k2, rfl, rfl⟩))
  by_cases k3 : c = 87
  · exact rperl_great c 119 wR w (.inr (.inr ⟨k3, rfl, rfl⟩))
  have hn : perlR c = none := by
    unfold perlR
    rw [if_neg (by omega), if_neg (by omega), if_neg (by omega), if_neg k1, if_neg k2, if_neg k3]
  have HN := Lib.hid hn
  have q0 : (c == 100) = false := beq_eq_false_iff_ne.2 (by omega)
  have q1 : (c == 115) = false := beq_eq_false_iff_ne.2 (by omega)
  have q2 : (c == 119) = false := beq_eq_false_iff_ne.2 (by omega)
  have q3 : (c == 68) = false := beq_eq_false_iff_ne.2 (by omega)
  have q4 : (c == 83) = false := beq_eq_false_iff_ne.2 (by omega)
  have q5 : (c == 87) = false := beq_eq_false_iff_ne.2 (by omega)
  clear hn k0 k1 k2 k3
  unfold Post2
  go_enter Tryz.func111, Tryz.ntmps111
  go_wp2_with fail
  go_ret2
  exact ⟨Below.refl _ _, .inl ⟨HN.out, rfl⟩⟩

end Go.Proofs.YtmaigjdmjmonbaaGreatDoor
/- The document's escapes of the flavour: letters behind a backslash. -/
namespace Go.Proofs.YtmaigjdmjmonbaaGreatDoor
open Go Go.RowKit

/-- What a letter of the flavour stands for: a kind, a set, a place. -/
def perlsR (c : Int) : Option (Int × List (Int × Int) × Int) :=
  if ¬ placeI c = 0 then some (3, [], placeI c) else if c = 81 then some (4, [], 0) else if 127 < c then none else
  match perlR c with
  | none => none
  | some l => some (2, l, 0)
def escV (k r : Int) (v : Value) (a : Int) : Value := .agg #[.int .i64 k, .int .i32 r, v, .int .i64 a]
def PerlsPost (o : Option (Int × List (Int × Int) × Int)) (behind : Int) (w : World) (e : Ending) (w' : World) : Prop :=
  Below w.heap.size w w' ∧ ((o = none ∧ e = .returned (.tuple #[escV 0 0 (.slice none 0 0) 0, .int .i64 0, .bool false])) ∨ ∃ k l a v, o = some (k, l, a) ∧ e = .returned (.tuple #[escV k 0 v a, .int .i64 behind, .bool true]) ∧ OwnR w' w.heap.size v l)
theorem own_set4 {w : World} {B b : Nat} {v : Value} {l : List (Int × Int)} (h : OwnR w B v l) (hB : ∀ g, v.ownBlock = some g → g ≠ b) (x0 x1 x2 x3 : Value) : OwnR (set4 w b x0 x1 x2 x3) B v l := by
  refine ⟨?_, h.2⟩
  rcases h.1.2 with ⟨rfl, h0⟩ | ⟨q, cap, cur, rfl, h1, hh, h2⟩
  · exact ⟨h.1.1, .inl ⟨rfl, h0⟩⟩
  · refine ⟨h.1.1, .inr ⟨q, cap, cur, rfl, h1, ?_, h2⟩⟩
    rw [set4_other (hB q (by simp [Value.ownBlock]))]
    exact hh
theorem own_set3 {w : World} {B b : Nat} {v : Value} {l : List (Int × Int)} (h : OwnR w B v l) (hB : ∀ g, v.ownBlock = some g → g ≠ b) (x0 x1 x2 : Value) : OwnR (set3 w b x0 x1 x2) B v l := by
  refine ⟨?_, h.2⟩
  rcases h.1.2 with ⟨rfl, h0⟩ | ⟨q, cap, cur, rfl, h1, hh, h2⟩
  · exact ⟨h.1.1, .inl ⟨rfl, h0⟩⟩
  · refine ⟨h.1.1, .inr ⟨q, cap, cur, rfl, h1, ?_, h2⟩⟩
    rw [set3_other (hB q (by simp [Value.ownBlock]))]
    exact hh
theorem own_ge {w : World} {B : Nat} {v : Value} {l : List (Int × Int)} (h : OwnR w B v l) : ∀ g, v.ownBlock = some g → B ≤ g := fun g hg => by
  rcases h.1.2 with ⟨rfl, _⟩ | ⟨q, cap, cur, rfl, h1, _⟩
  · simp [Value.ownBlock] at hg
  · simp [Value.ownBlock] at hg
    omega

set_option maxHeartbeats 1600000 in
set_option maxRecDepth 100000 in
theorem rperls6_any (c behind : Int) (w : World) (h0 : 0 ≤ c) : Calls Tryz.prog 87 #[.int .i32 c, .int .i64 behind] w (PerlsPost (perlsR c) behind w) := by
  obtain ⟨O, hO⟩ : ∃ O, perlsR c = O := ⟨_, rfl⟩
  rw [hO]
  obtain ⟨w1, hw1⟩ : ∃ w1, w.alloc (.cells #[.int .i64 0, .int .i32 0, .slice none 0 0, .int .i64 0] 80) = w1 := ⟨_, rfl⟩
  have hE1 : Whole w1 w.heap.size 80 #[.int .i64 0, .int .i32 0, .slice none 0 0, .int .i64 0] := by rw [← hw1]; exact heap_alloc_new w _
  have hb1 : Below w.heap.size w w1 := by rw [← hw1]; exact (Below.refl _ w).alloc (Nat.le_refl _) _
  have hs1 : w1.heap.size = w.heap.size + 1 := by rw [← hw1]; simp
  have HW1 := Lib.hid hw1; have HE1 := Lib.hid hE1; have HB1 := Lib.hid hb1; have HS1 := Lib.hid hs1
  clear hw1 hE1 hb1 hs1
  obtain ⟨p, hp⟩ : ∃ p, placeI c = p := ⟨_, rfl⟩
  have HP : Hid (∀ W, Calls Tryz.prog 110 #[.int .i32 c] W fun e w' => e = .returned (.int .i64 p) ∧ w' = W) := Lib.hid (fun W => hp ▸ rplace_any c W)
  unfold PerlsPost
  obtain ⟨c0, c1, c2, c3, z0, z1, z2, z3⟩ := HE1.out.four
  by_cases hp0 : p = 0
  · have b0 : (p != 0) = false := ne_false_of hp0
    have HO := Lib.hid (hO.symm.trans (if_neg (fun h => h (hp.trans hp0))))
    clear hO hp hp0
    by_cases h81 : c = 81
    · have b1 : (c == 81) = true := eq_true_of h81
      have HN := Lib.hid (HO.out.trans (if_pos h81))
      clear HO h81
      go_enter Tryz.func87, Tryz.ntmps87
      go_upto_region 1 with (fail)
      rw [HW1.out]
      go_wp2_with (go_at_call 110; with_reducible refine (HP.out _).mono ?_; rintro e w5 ⟨rfl, rfl⟩)
      refine bodyPost_ret (results_ett Tryz.results87 _ rfl (set4_whole HE1.out _ _ _ _) rfl) rfl ?_
      exact ⟨set4_below HB1.out (Nat.le_refl _) _ _ _ _, .inr ⟨4, [], 0, .slice none 0 0, HN.out, rfl, own_none _ _⟩⟩
    have b1 : (c == 81) = false := eq_false_of h81
    by_cases h127 : 127 < c
    · have HN := Lib.hid ((HO.out.trans (if_neg h81)).trans (if_pos h127))
      clear HO h81
      go_enter Tryz.func87, Tryz.ntmps87
      go_upto_region 1 with (fail)
      rw [HW1.out]
      go_wp2_with (go_at_call 110; with_reducible refine (HP.out _).mono ?_; rintro e w5 ⟨rfl, rfl⟩)
      refine bodyPost_ret (results_ett Tryz.results87 _ rfl (set4_whole HE1.out _ _ _ _) rfl) rfl ?_
      exact ⟨set4_below HB1.out (Nat.le_refl _) _ _ _ _, .inl ⟨HN.out, rfl⟩⟩
    · have HO2 := Lib.hid ((HO.out.trans (if_neg h81)).trans (if_neg h127))
      clear HO h81
      go_enter Tryz.func87, Tryz.ntmps87
      go_upto_region 1 with (fail)
      rw [HW1.out]
      go_wp2_with (go_at_call 110; with_reducible refine (HP.out _).mono ?_; rintro e w5 ⟨rfl, rfl⟩)
      refine (rperl_any c _).mono ?_
      rintro e w2 ⟨hb, ⟨hn, rfl⟩ | ⟨v, l, hn, rfl, ho⟩⟩
      · have HN := Lib.hid (show O = none by rw [HO2.out, hn])
        have HB2 := Lib.hid (HB1.out.trans (hb.mono HB1.out.size))
        have hE2 := HE1.out.below hb (by have := HS1.out; omega)
        have HE2 := Lib.hid hE2
        clear c0 c1 c2 c3 z0 z1 z2 z3
        obtain ⟨c0, c1, c2, c3, z0, z1, z2, z3⟩ := hE2.four
        clear hb hn hE2
        go_wp2_with fail
        refine bodyPost_ret (results_ett Tryz.results87 _ rfl (set4_whole HE2.out _ _ _ _) rfl) rfl ?_
        exact ⟨set4_below HB2.out (Nat.le_refl _) _ _ _ _, .inl ⟨HN.out, rfl⟩⟩
      · have HN := Lib.hid (show O = some (2, l, 0) by rw [HO2.out, hn])
        have HB2 := Lib.hid (HB1.out.trans (hb.mono HB1.out.size))
        have hE2 := HE1.out.below hb (by have := HS1.out; omega)
        have HE2 := Lib.hid hE2; have HOW := Lib.hid ho
        clear c0 c1 c2 c3 z0 z1 z2 z3
        obtain ⟨c0, c1, c2, c3, z0, z1, z2, z3⟩ := hE2.four
        obtain ⟨A, cA, hvs, -⟩ := ho.rgs
        subst hvs
        clear hb hn hE2 ho
        go_wp2_with fail
        refine bodyPost_ret (results_ett Tryz.results87 _ rfl (set4_whole HE2.out _ _ _ _) rfl) rfl ?_
        exact ⟨set4_below HB2.out (Nat.le_refl _) _ _ _ _, .inr ⟨2, l, 0, _, HN.out, rfl, own_set4 (HOW.out.mono HB1.out.size) (fun g hg => by have := own_ge HOW.out g hg; have := HS1.out; omega) _ _ _ _⟩⟩
  · have b0 : (p != 0) = true := ne_true_of hp0
    have HN := Lib.hid ((hO.symm.trans (if_pos (fun h => hp0 (hp.symm.trans h)))).trans (by rw [hp]))
    clear hO hp hp0
    go_enter Tryz.func87, Tryz.ntmps87
    go_upto_region 1 with (fail)
    rw [HW1.out]
    go_wp2_with (go_at_call 110; with_reducible refine (HP.out _).mono ?_; rintro e w5 ⟨rfl, rfl⟩)
    refine bodyPost_ret (results_ett Tryz.results87 _ rfl (set4_whole HE1.out _ _ _ _) rfl) rfl ?_
    exact ⟨set4_below HB1.out (Nat.le_refl _) _ _ _ _, .inr ⟨3, [], p, .slice none 0 0, HN.out, rfl, own_none _ _⟩⟩
end Go.Proofs.YtmaigjdmjmonbaaGreatDoor
/- The document's set of a property's name. -/
namespace Go.Proofs.YtmaigjdmjmonbaaGreatDoor
open Go Go.RowKit

theorem any_right : RightR (notR []) := notR_right nil_right
theorem name_len {b : List UInt8} {l : List (Int × Int)} (h : nameR b = some l) : l.length ≤ 1099511627776 := by have := right_len l 0 (by omega) (name_right h); omega

set_option maxHeartbeats 1600000 in
theorem rprop_any (s : ByteArray) (n : Bool) (w : World) : Calls Tryz.prog 86 #[.string s, .bool n] w (Post2 (propR s.toList n) w) := by
  unfold Post2
  by_cases h0 : 0 < s.size
  · have hb := byte_94 s[0]
    by_cases hx : s[0] = 94
    · rw [decide_eq_true hx] at hb
      have hp : propR s.toList n = property2 (s.extract 1 s.size).toList (!n) := by
        unfold propR
        rw [head_of s h0, hx, if_pos rfl, tail_of]
      have HP := Lib.hid hp; have HR := Lib.hid (rnamed_any (s.extract 1 s.size) w)
      clear hx hp
      cases n
      · as_aux_lemma =>
          go_enter Tryz.func86, Tryz.ntmps86
          go_wp2_with fail
          refine HR.out.mono ?_
          rintro e w1 ⟨hb, hc⟩
          have HB := Lib.hid hb
          clear hb
          by_cases ha : (s.extract 1 s.size).toList = [65, 110, 121]
          · have q1 : ((s.extract 1 s.size).toList == [65, 110, 121]) = true := by rw [ha]; rfl
            have hq : property1 (s.extract 1 s.size).toList = some (notR []) := by unfold property1; rw [if_pos ha]
            have HQ := Lib.hid hq
            have HCC := Lib.hid hc
            clear ha hq hc
            have hc : ∃ v i, e = .returned (.tuple #[v, .bool i]) := by
              rcases HCC.out with ⟨-, rfl⟩ | ⟨v, l, -, rfl, -⟩
              · exact ⟨_, _, rfl⟩
              · exact ⟨_, _, rfl⟩
            obtain ⟨v, i, rfl⟩ := hc
            clear HCC
            go_wp2_with fail
            refine (rnotR_any _ [] _ (own_none w1 w1.heap.size).rgs nil_right (by decide)).mono ?_
            rintro e w2 ⟨v2, rfl, ho, hb⟩
            have HB2 := Lib.hid (HB.out.trans (hb.mono HB.out.size)); have HO2 := Lib.hid (ho.mono HB.out.size)
            clear ho hb
            go_wp2_with fail
            refine (rnotR_any v2 (notR []) w2 HO2.out.rgs any_right (by decide)).mono ?_
            rintro e w3 ⟨v3, rfl, ho, hb⟩
            have HB3 := Lib.hid (HB2.out.trans (hb.mono HB2.out.size)); have HO3 := Lib.hid (ho.mono HB2.out.size)
            clear ho hb
            go_wp2_with fail
            go_ret2
            exact ⟨HB3.out, .inr ⟨v3, _, by rw [HP.out]; simp [property2, HQ.out], rfl, HO3.out⟩⟩
          · have q1 : ((s.extract 1 s.size).toList == [65, 110, 121]) = false := by simpa using ha
            have hq : property1 (s.extract 1 s.size).toList = nameR (s.extract 1 s.size).toList := by unfold property1; rw [if_neg ha]
            have HQ := Lib.hid hq
            clear ha hq
            rcases hc with ⟨hx, rfl⟩ | ⟨v, k, hx, rfl, ho⟩
            · have HX := Lib.hid hx
              clear hx
              go_wp2_with fail
              go_ret2
              exact ⟨HB.out, .inl ⟨by rw [HP.out]; simp [property2, HQ.out, HX.out], rfl⟩⟩
            · have HX := Lib.hid hx; have HO := Lib.hid ho
              clear hx ho
              go_wp2_with fail
              refine (rnotR_any v k w1 HO.out.rgs (name_right HX.out) (name_len HX.out)).mono ?_
              rintro e w3 ⟨v3, rfl, ho, hb⟩
              have HB3 := Lib.hid (HB.out.trans (hb.mono HB.out.size)); have HO3 := Lib.hid (ho.mono HB.out.size)
              clear ho hb
              go_wp2_with fail
              go_ret2
              exact ⟨HB3.out, .inr ⟨v3, _, by rw [HP.out]; simp [property2, HQ.out, HX.out], rfl, HO3.out⟩⟩
      · as_aux_lemma =>
          go_enter Tryz.func86, Tryz.ntmps86
          go_wp2_with fail
          refine HR.out.mono ?_
          rintro e w1 ⟨hb, hc⟩
          have HB := Lib.hid hb
          clear hb
          by_cases ha : (s.extract 1 s.size).toList = [65, 110, 121]
          · have q1 : ((s.extract 1 s.size).toList == [65, 110, 121]) = true := by rw [ha]; rfl
            have hq : property1 (s.extract 1 s.size).toList = some (notR []) := by unfold property1; rw [if_pos ha]
            have HQ := Lib.hid hq
            have HCC := Lib.hid hc
            clear ha hq hc
            have hc : ∃ v i, e = .returned (.tuple #[v, .bool i]) := by
              rcases HCC.out with ⟨-, rfl⟩ | ⟨v, l, -, rfl, -⟩
              · exact ⟨_, _, rfl⟩
              · exact ⟨_, _, rfl⟩
            obtain ⟨v, i, rfl⟩ := hc
            clear HCC
            go_wp2_with fail
            refine (rnotR_any _ [] _ (own_none w1 w1.heap.size).rgs nil_right (by decide)).mono ?_
            rintro e w2 ⟨v2, rfl, ho, hb⟩
            have HB2 := Lib.hid (HB.out.trans (hb.mono HB.out.size)); have HO2 := Lib.hid (ho.mono HB.out.size)
            clear ho hb
            go_wp2_with fail
            go_ret2
            exact ⟨HB2.out, .inr ⟨v2, _, by rw [HP.out]; simp [property2, HQ.out], rfl, HO2.out⟩⟩
          · have q1 : ((s.extract 1 s.size).toList == [65, 110, 121]) = false := by simpa using ha
            have hq : property1 (s.extract 1 s.size).toList = nameR (s.extract 1 s.size).toList := by unfold property1; rw [if_neg ha]
            have HQ := Lib.hid hq
            clear ha hq
            rcases hc with ⟨hx, rfl⟩ | ⟨v, k, hx, rfl, ho⟩
            · have HX := Lib.hid hx
              clear hx
              go_wp2_with fail
              go_ret2
              exact ⟨HB.out, .inl ⟨by rw [HP.out]; simp [property2, HQ.out, HX.out], rfl⟩⟩
            · have HX := Lib.hid hx; have HO := Lib.hid ho
              clear hx ho
              go_wp2_with fail
              go_ret2
              exact ⟨HB.out, .inr ⟨v, k, by rw [HP.out]; simp [property2, HQ.out, HX.out], rfl, HO.out⟩⟩
    · rw [decide_eq_false hx] at hb
      have hp : propR s.toList n = property2 s.toList n := by
        unfold propR
        rw [head_of s h0, if_neg (fun e => hx (Option.some.inj e))]
      have HP := Lib.hid hp; have HR := Lib.hid (rnamed_any s w)
      clear hx hp
      cases n
      · as_aux_lemma =>
          go_enter Tryz.func86, Tryz.ntmps86
          go_wp2_with fail
          refine HR.out.mono ?_
          rintro e w1 ⟨hb, hc⟩
          have HB := Lib.hid hb
          clear hb
          by_cases ha : s.toList = [65, 110, 121]
          · have q1 : (s.toList == [65, 110, 121]) = true := by rw [ha]; rfl
            have hq : property1 s.toList = some (notR []) := by unfold property1; rw [if_pos ha]
            have HQ := Lib.hid hq
            have HCC := Lib.hid hc
            clear ha hq hc
            have hc : ∃ v i, e = .returned (.tuple #[v, .bool i]) := by
              rcases HCC.out with ⟨-, rfl⟩ | ⟨v, l, -, rfl, -⟩
              · exact ⟨_, _, rfl⟩
              · exact ⟨_, _, rfl⟩
            obtain ⟨v, i, rfl⟩ := hc
            clear HCC
            go_wp2_with fail
            refine (rnotR_any _ [] _ (own_none w1 w1.heap.size).rgs nil_right (by decide)).mono ?_
            rintro e w2 ⟨v2, rfl, ho, hb⟩
            have HB2 := Lib.hid (HB.out.trans (hb.mono HB.out.size)); have HO2 := Lib.hid (ho.mono HB.out.size)
            clear ho hb
            go_wp2_with fail
            go_ret2
            exact ⟨HB2.out, .inr ⟨v2, _, by rw [HP.out]; simp [property2, HQ.out], rfl, HO2.out⟩⟩
          · have q1 : (s.toList == [65, 110, 121]) = false := by simpa using ha
            have hq : property1 s.toList = nameR s.toList := by unfold property1; rw [if_neg ha]
            have HQ := Lib.hid hq
            clear ha hq
            rcases hc with ⟨hx, rfl⟩ | ⟨v, k, hx, rfl, ho⟩
            · have HX := Lib.hid hx
              clear hx
              go_wp2_with fail
              go_ret2
              exact ⟨HB.out, .inl ⟨by rw [HP.out]; simp [property2, HQ.out, HX.out], rfl⟩⟩
            · have HX := Lib.hid hx; have HO := Lib.hid ho
              clear hx ho
              go_wp2_with fail
              go_ret2
              exact ⟨HB.out, .inr ⟨v, k, by rw [HP.out]; simp [property2, HQ.out, HX.out], rfl, HO.out⟩⟩
      · as_aux_lemma =>
          go_enter Tryz.func86, Tryz.ntmps86
          go_wp2_with fail
          refine HR.out.mono ?_
          rintro e w1 ⟨hb, hc⟩
          have HB := Lib.hid hb
          clear hb
          by_cases ha : s.toList = [65, 110, 121]
          · have q1 : (s.toList == [65, 110, 121]) = true := by rw [ha]; rfl
            have hq : property1 s.toList = some (notR []) := by unfold property1; rw [if_pos ha]
            have HQ := Lib.hid hq
            have HCC := Lib.hid hc
            clear ha hq hc
            have hc : ∃ v i, e = .returned (.tuple #[v, .bool i]) := by
              rcases HCC.out with ⟨-, rfl⟩ | ⟨v, l, -, rfl, -⟩
              · exact ⟨_, _, rfl⟩
              · exact ⟨_, _, rfl⟩
            obtain ⟨v, i, rfl⟩ := hc
            clear HCC
            go_wp2_with fail
            refine (rnotR_any _ [] _ (own_none w1 w1.heap.size).rgs nil_right (by decide)).mono ?_
            rintro e w2 ⟨v2, rfl, ho, hb⟩
            have HB2 := Lib.hid (HB.out.trans (hb.mono HB.out.size)); have HO2 := Lib.hid (ho.mono HB.out.size)
            clear ho hb
            go_wp2_with fail
            refine (rnotR_any v2 (notR []) w2 HO2.out.rgs any_right (by decide)).mono ?_
            rintro e w3 ⟨v3, rfl, ho, hb⟩
            have HB3 := Lib.hid (HB2.out.trans (hb.mono HB2.out.size)); have HO3 := Lib.hid (ho.mono HB2.out.size)
            clear ho hb
            go_wp2_with fail
            go_ret2
            exact ⟨HB3.out, .inr ⟨v3, _, by rw [HP.out]; simp [property2, HQ.out], rfl, HO3.out⟩⟩
          · have q1 : (s.toList == [65, 110, 121]) = false := by simpa using ha
            have hq : property1 s.toList = nameR s.toList := by unfold property1; rw [if_neg ha]
            have HQ := Lib.hid hq
            clear ha hq
            rcases hc with ⟨hx, rfl⟩ | ⟨v, k, hx, rfl, ho⟩
            · have HX := Lib.hid hx
              clear hx
              go_wp2_with fail
              go_ret2
              exact ⟨HB.out, .inl ⟨by rw [HP.out]; simp [property2, HQ.out, HX.out], rfl⟩⟩
            · have HX := Lib.hid hx; have HO := Lib.hid ho
              clear hx ho
              go_wp2_with fail
              refine (rnotR_any v k w1 HO.out.rgs (name_right HX.out) (name_len HX.out)).mono ?_
              rintro e w3 ⟨v3, rfl, ho, hb⟩
              have HB3 := Lib.hid (HB.out.trans (hb.mono HB.out.size)); have HO3 := Lib.hid (ho.mono HB.out.size)
              clear ho hb
              go_wp2_with fail
              go_ret2
              exact ⟨HB3.out, .inr ⟨v3, _, by rw [HP.out]; simp [property2, HQ.out, HX.out], rfl, HO3.out⟩⟩
  · have hz : s.size = 0 := by omega
    have hp : propR s.toList n = property2 s.toList n := by
      unfold propR
      rw [empty_of s h0]
      rfl
    have HP := Lib.hid hp; have HR := Lib.hid (rnamed_any s w)
    clear hp
    cases n
    · as_aux_lemma =>
        go_enter Tryz.func86, Tryz.ntmps86
        go_wp2_with fail
        refine HR.out.mono ?_
        rintro e w1 ⟨hb, hc⟩
        have HB := Lib.hid hb
        clear hb
        by_cases ha : s.toList = [65, 110, 121]
        · have q1 : (s.toList == [65, 110, 121]) = true := by rw [ha]; rfl
          have hq : property1 s.toList = some (notR []) := by unfold property1; rw [if_pos ha]
          have HQ := Lib.hid hq
          have HCC := Lib.hid hc
          clear ha hq hc
          have hc : ∃ v i, e = .returned (.tuple #[v, .bool i]) := by
            rcases HCC.out with ⟨-, rfl⟩ | ⟨v, l, -, rfl, -⟩
            · exact ⟨_, _, rfl⟩
            · exact ⟨_, _, rfl⟩
          obtain ⟨v, i, rfl⟩ := hc
          clear HCC
          go_wp2_with fail
          refine (rnotR_any _ [] _ (own_none w1 w1.heap.size).rgs nil_right (by decide)).mono ?_
          rintro e w2 ⟨v2, rfl, ho, hb⟩
          have HB2 := Lib.hid (HB.out.trans (hb.mono HB.out.size)); have HO2 := Lib.hid (ho.mono HB.out.size)
          clear ho hb
          go_wp2_with fail
          go_ret2
          exact ⟨HB2.out, .inr ⟨v2, _, by rw [HP.out]; simp [property2, HQ.out], rfl, HO2.out⟩⟩
        · have q1 : (s.toList == [65, 110, 121]) = false := by simpa using ha
          have hq : property1 s.toList = nameR s.toList := by unfold property1; rw [if_neg ha]
          have HQ := Lib.hid hq
          clear ha hq
          rcases hc with ⟨hx, rfl⟩ | ⟨v, k, hx, rfl, ho⟩
          · have HX := Lib.hid hx
            clear hx
            go_wp2_with fail
            go_ret2
            exact ⟨HB.out, .inl ⟨by rw [HP.out]; simp [property2, HQ.out, HX.out], rfl⟩⟩
          · have HX := Lib.hid hx; have HO := Lib.hid ho
            clear hx ho
            go_wp2_with fail
            go_ret2
            exact ⟨HB.out, .inr ⟨v, k, by rw [HP.out]; simp [property2, HQ.out, HX.out], rfl, HO.out⟩⟩
    · as_aux_lemma =>
        go_enter Tryz.func86, Tryz.ntmps86
        go_wp2_with fail
        refine HR.out.mono ?_
        rintro e w1 ⟨hb, hc⟩
        have HB := Lib.hid hb
        clear hb
        by_cases ha : s.toList = [65, 110, 121]
        · have q1 : (s.toList == [65, 110, 121]) = true := by rw [ha]; rfl
          have hq : property1 s.toList = some (notR []) := by unfold property1; rw [if_pos ha]
          have HQ := Lib.hid hq
          have HCC := Lib.hid hc
          clear ha hq hc
          have hc : ∃ v i, e = .returned (.tuple #[v, .bool i]) := by
            rcases HCC.out with ⟨-, rfl⟩ | ⟨v, l, -, rfl, -⟩
            · exact ⟨_, _, rfl⟩
            · exact ⟨_, _, rfl⟩
          obtain ⟨v, i, rfl⟩ := hc
          clear HCC
          go_wp2_with fail
          refine (rnotR_any _ [] _ (own_none w1 w1.heap.size).rgs nil_right (by decide)).mono ?_
          rintro e w2 ⟨v2, rfl, ho, hb⟩
          have HB2 := Lib.hid (HB.out.trans (hb.mono HB.out.size)); have HO2 := Lib.hid (ho.mono HB.out.size)
          clear ho hb
          go_wp2_with fail
          refine (rnotR_any v2 (notR []) w2 HO2.out.rgs any_right (by decide)).mono ?_
          rintro e w3 ⟨v3, rfl, ho, hb⟩
          have HB3 := Lib.hid (HB2.out.trans (hb.mono HB2.out.size)); have HO3 := Lib.hid (ho.mono HB2.out.size)
          clear ho hb
          go_wp2_with fail
          go_ret2
          exact ⟨HB3.out, .inr ⟨v3, _, by rw [HP.out]; simp [property2, HQ.out], rfl, HO3.out⟩⟩
        · have q1 : (s.toList == [65, 110, 121]) = false := by simpa using ha
          have hq : property1 s.toList = nameR s.toList := by unfold property1; rw [if_neg ha]
          have HQ := Lib.hid hq
          clear ha hq
          rcases hc with ⟨hx, rfl⟩ | ⟨v, k, hx, rfl, ho⟩
          · have HX := Lib.hid hx
            clear hx
            go_wp2_with fail
            go_ret2
            exact ⟨HB.out, .inl ⟨by rw [HP.out]; simp [property2, HQ.out, HX.out], rfl⟩⟩
          · have HX := Lib.hid hx; have HO := Lib.hid ho
            clear hx ho
            go_wp2_with fail
            refine (rnotR_any v k w1 HO.out.rgs (name_right HX.out) (name_len HX.out)).mono ?_
            rintro e w3 ⟨v3, rfl, ho, hb⟩
            have HB3 := Lib.hid (HB.out.trans (hb.mono HB.out.size)); have HO3 := Lib.hid (ho.mono HB.out.size)
            clear ho hb
            go_wp2_with fail
            go_ret2
            exact ⟨HB3.out, .inr ⟨v3, _, by rw [HP.out]; simp [property2, HQ.out, HX.out], rfl, HO3.out⟩⟩
end Go.Proofs.YtmaigjdmjmonbaaGreatDoor
/- The document's orbit of a rune, as a fresh list. -/
namespace Go.Proofs.YtmaigjdmjmonbaaGreatDoor
open Go Go.RowKit

def groupsR : List (List Int) := [[75, 107, 8490], [83, 115, 383], [197, 229, 8491], [181, 924, 956], [931, 962, 963], [223, 7838], [255, 376]]
def greatL : List (Int × Int) := [(65, 90), (192, 214), (216, 222), (913, 929), (932, 937), (1040, 1071)]
/-- Is c a great letter, whose small one is 32 above it? -/
def greatB (c : Int) : Bool := !(decide (c = 75) || decide (c = 83) || decide (c = 197) || decide (c = 924)) && greatL.any fun r => decide (r.1 ≤ c) && decide (c ≤ r.2)
/-- The orbit of c. -/
def orbR (c : Int) : List Int :=
  if c < 0 ∨ 1114111 < c then [] else
  match groupsR.find? (fun g => g.contains c) with
  | some g => g
  | none => if greatB c then [c, c + 32] else if 32 ≤ c ∧ greatB (c - 32) = true then [c - 32, c] else [c]
theorem greatB_bound {c : Int} (h : greatB c = true) : 65 ≤ c ∧ c ≤ 1071 := by
  unfold greatB greatL at h
  simp at h
  omega
theorem has_great (c : Int) : HasR greatL c ↔ greatL.any (fun r => decide (r.1 ≤ c) && decide (c ≤ r.2)) = true := by
  simp only [List.any_eq_true, Bool.and_eq_true, decide_eq_true_eq]
  constructor
  · rintro ⟨_, _, r, h1, h2⟩
    exact ⟨r, h1, h2⟩
  · rintro ⟨r, h1, h2, h3⟩
    have : 0 ≤ r.1 ∧ r.2 ≤ 1114111 := by
      unfold greatL at h1
      simp at h1
      rcases h1 with rfl | rfl | rfl | rfl | rfl | rfl <;> exact ⟨by decide, by decide⟩
    exact ⟨by omega, by omega, r, h1, h2, h3⟩

set_option maxHeartbeats 1600000 in
set_option maxRecDepth 100000 in
theorem rgreat_any (c : Int) (w : World) : Calls Tryz.prog 30 #[.int .i32 c] w fun e w' => e = .returned (.bool (greatB c)) ∧ Below w.heap.size w w' := by
  go_enter Tryz.func30, Tryz.ntmps30
  by_cases h1 : c = 75
  · subst h1
    rw [show greatB 75 = false by decide]
    go_wp2
    go_ret
    exact ⟨rfl, Below.refl _ _⟩
  by_cases h2 : c = 83
  · subst h2
    rw [show greatB 83 = false by decide]
    go_wp2
    go_ret
    exact ⟨rfl, Below.refl _ _⟩
  by_cases h3 : c = 197
  · subst h3
    rw [show greatB 197 = false by decide]
    go_wp2
    go_ret
    exact ⟨rfl, Below.refl _ _⟩
  by_cases h4 : c = 924
  · subst h4
    rw [show greatB 924 = false by decide]
    go_wp2
    go_ret
    exact ⟨rfl, Below.refl _ _⟩
  go_upto_if 16 with (fail)
  rw [show (c == 75 || c == 83 || c == 197 || c == 924) = false by simp [h1, h2, h3, h4]]
  go_wp2_with fail
  refine (rset_any _ [(65, 90), (192, 214), (216, 222), (913, 929), (932, 937), (1040, 1071)] _ (rgs_lit w 84 _ _ _ rfl (by unfold AllI32 I32; decide) rfl (by unfold maxLen; decide)) (by decide)).mono ?_
  rintro e w1 ⟨v1, rfl, ho, hb⟩
  change OwnR w1 _ v1 greatL at ho
  have HB := Lib.hid ((((Below.refl _ w).alloc (Nat.le_refl _) _).trans (hb.mono (by simp))))
  have HO := Lib.hid ho.rgs
  clear ho hb
  go_wp2_with fail
  refine (rhas_any v1 greatL c w1 HO.out).mono ?_
  rintro e w2 ⟨B, rfl, hq, q, rfl⟩
  have hB : B = greatB c := by
    rw [has_great] at hq
    unfold greatB
    simp only [h1, h2, h3, h4]
    simpa using Bool.eq_iff_iff.2 hq
  subst hB
  have HB2 := Lib.hid (below_drewNr HB.out q)
  clear hq
  go_wp2_with fail
  go_ret
  exact ⟨rfl, HB2.out⟩

theorem rns_lit (w : World) (cs : Array Value) (l : List Int) (n : Nat) (hc : cs.toList = litsN l) (hn : l.length = n) (hm : n ≤ maxLen) (hi : ∀ x ∈ l, I32 x) : Rns (w.alloc (.cells cs 21)) (.slice (some ⟨w.heap.size, 0, none⟩) n n) l :=
  (ownN_lit w 0 (Nat.zero_le _) l n cs hc hn hm hi).rns
set_option maxHeartbeats 1600000 in
set_option maxRecDepth 100000 in
theorem rgroups_any (w : World) : Calls Tryz.prog 28 #[] w fun e w' => ∃ v, e = .returned v ∧ Lns w' v groupsR ∧ Below w.heap.size w w' := by
  go_enter Tryz.func28, Tryz.ntmps28
  go_wp2_with fail
  go_ret
  have k0 := rns_lit w #[.int .i32 75, .int .i32 107, .int .i32 8490] [75, 107, 8490] 3 rfl rfl (by unfold maxLen; decide) (by unfold I32; decide)
  have k1 := rns_lit (w.alloc (.cells #[.int .i32 75, .int .i32 107, .int .i32 8490] 21)) #[.int .i32 83, .int .i32 115, .int .i32 383] [83, 115, 383] 3 rfl rfl (by unfold maxLen; decide) (by unfold I32; decide)
  have k2 := rns_lit ((w.alloc (.cells #[.int .i32 75, .int .i32 107, .int .i32 8490] 21)).alloc (.cells #[.int .i32 83, .int .i32 115, .int .i32 383] 21)) #[.int .i32 197, .int .i32 229, .int .i32 8491] [197, 229, 8491] 3 rfl rfl (by unfold maxLen; decide) (by unfold I32; decide)
  have k3 := rns_lit (((w.alloc (.cells #[.int .i32 75, .int .i32 107, .int .i32 8490] 21)).alloc (.cells #[.int .i32 83, .int .i32 115, .int .i32 383] 21)).alloc (.cells #[.int .i32 197, .int .i32 229, .int .i32 8491] 21)) #[.int .i32 181, .int .i32 924, .int .i32 956] [181, 924, 956] 3 rfl rfl (by unfold maxLen; decide) (by unfold I32; decide)
  have k4 := rns_lit ((((w.alloc (.cells #[.int .i32 75, .int .i32 107, .int .i32 8490] 21)).alloc (.cells #[.int .i32 83, .int .i32 115, .int .i32 383] 21)).alloc (.cells #[.int .i32 197, .int .i32 229, .int .i32 8491] 21)).alloc (.cells #[.int .i32 181, .int .i32 924, .int .i32 956] 21)) #[.int .i32 931, .int .i32 962, .int .i32 963] [931, 962, 963] 3 rfl rfl (by unfold maxLen; decide) (by unfold I32; decide)
  have k5 := rns_lit (((((w.alloc (.cells #[.int .i32 75, .int .i32 107, .int .i32 8490] 21)).alloc (.cells #[.int .i32 83, .int .i32 115, .int .i32 383] 21)).alloc (.cells #[.int .i32 197, .int .i32 229, .int .i32 8491] 21)).alloc (.cells #[.int .i32 181, .int .i32 924, .int .i32 956] 21)).alloc (.cells #[.int .i32 931, .int .i32 962, .int .i32 963] 21)) #[.int .i32 223, .int .i32 7838] [223, 7838] 2 rfl rfl (by unfold maxLen; decide) (by unfold I32; decide)
  have k6 := rns_lit ((((((w.alloc (.cells #[.int .i32 75, .int .i32 107, .int .i32 8490] 21)).alloc (.cells #[.int .i32 83, .int .i32 115, .int .i32 383] 21)).alloc (.cells #[.int .i32 197, .int .i32 229, .int .i32 8491] 21)).alloc (.cells #[.int .i32 181, .int .i32 924, .int .i32 956] 21)).alloc (.cells #[.int .i32 931, .int .i32 962, .int .i32 963] 21)).alloc (.cells #[.int .i32 223, .int .i32 7838] 21)) #[.int .i32 255, .int .i32 376] [255, 376] 2 rfl rfl (by unfold maxLen; decide) (by unfold I32; decide)
  have b0 : Below (w.alloc (.cells #[.int .i32 75, .int .i32 107, .int .i32 8490] 21)).heap.size (w.alloc (.cells #[.int .i32 75, .int .i32 107, .int .i32 8490] 21)) ((((((((w.alloc (.cells #[.int .i32 75, .int .i32 107, .int .i32 8490] 21)).alloc (.cells #[.int .i32 83, .int .i32 115, .int .i32 383] 21)).alloc (.cells #[.int .i32 197, .int .i32 229, .int .i32 8491] 21)).alloc (.cells #[.int .i32 181, .int .i32 924, .int .i32 956] 21)).alloc (.cells #[.int .i32 931, .int .i32 962, .int .i32 963] 21)).alloc (.cells #[.int .i32 223, .int .i32 7838] 21)).alloc (.cells #[.int .i32 255, .int .i32 376] 21)).alloc (.cells #[.slice (some ⟨w.heap.size, 0, none⟩) 3 3, .slice (some ⟨w.heap.size + 1, 0, none⟩) 3 3, .slice (some ⟨w.heap.size + 1 + 1, 0, none⟩) 3 3, .slice (some ⟨w.heap.size + 1 + 1 + 1, 0, none⟩) 3 3, .slice (some ⟨w.heap.size + 1 + 1 + 1 + 1, 0, none⟩) 3 3, .slice (some ⟨w.heap.size + 1 + 1 + 1 + 1 + 1, 0, none⟩) 2 2, .slice (some ⟨w.heap.size + 1 + 1 + 1 + 1 + 1 + 1, 0, none⟩) 2 2] 33)) := ((((((((Below.refl _ _).alloc (by simp) _).alloc (by simp <;> omega) _).alloc (by simp <;> omega) _).alloc (by simp <;> omega) _).alloc (by simp <;> omega) _).alloc (by simp <;> omega) _).alloc (by simp <;> omega) _)
  have b1 : Below ((w.alloc (.cells #[.int .i32 75, .int .i32 107, .int .i32 8490] 21)).alloc (.cells #[.int .i32 83, .int .i32 115, .int .i32 383] 21)).heap.size ((w.alloc (.cells #[.int .i32 75, .int .i32 107, .int .i32 8490] 21)).alloc (.cells #[.int .i32 83, .int .i32 115, .int .i32 383] 21)) ((((((((w.alloc (.cells #[.int .i32 75, .int .i32 107, .int .i32 8490] 21)).alloc (.cells #[.int .i32 83, .int .i32 115, .int .i32 383] 21)).alloc (.cells #[.int .i32 197, .int .i32 229, .int .i32 8491] 21)).alloc (.cells #[.int .i32 181, .int .i32 924, .int .i32 956] 21)).alloc (.cells #[.int .i32 931, .int .i32 962, .int .i32 963] 21)).alloc (.cells #[.int .i32 223, .int .i32 7838] 21)).alloc (.cells #[.int .i32 255, .int .i32 376] 21)).alloc (.cells #[.slice (some ⟨w.heap.size, 0, none⟩) 3 3, .slice (some ⟨w.heap.size + 1, 0, none⟩) 3 3, .slice (some ⟨w.heap.size + 1 + 1, 0, none⟩) 3 3, .slice (some ⟨w.heap.size + 1 + 1 + 1, 0, none⟩) 3 3, .slice (some ⟨w.heap.size + 1 + 1 + 1 + 1, 0, none⟩) 3 3, .slice (some ⟨w.heap.size + 1 + 1 + 1 + 1 + 1, 0, none⟩) 2 2, .slice (some ⟨w.heap.size + 1 + 1 + 1 + 1 + 1 + 1, 0, none⟩) 2 2] 33)) := (((((((Below.refl _ _).alloc (by simp) _).alloc (by simp <;> omega) _).alloc (by simp <;> omega) _).alloc (by simp <;> omega) _).alloc (by simp <;> omega) _).alloc (by simp <;> omega) _)
  have b2 : Below (((w.alloc (.cells #[.int .i32 75, .int .i32 107, .int .i32 8490] 21)).alloc (.cells #[.int .i32 83, .int .i32 115, .int .i32 383] 21)).alloc (.cells #[.int .i32 197, .int .i32 229, .int .i32 8491] 21)).heap.size (((w.alloc (.cells #[.int .i32 75, .int .i32 107, .int .i32 8490] 21)).alloc (.cells #[.int .i32 83, .int .i32 115, .int .i32 383] 21)).alloc (.cells #[.int .i32 197, .int .i32 229, .int .i32 8491] 21)) ((((((((w.alloc (.cells #[.int .i32 75, .int .i32 107, .int .i32 8490] 21)).alloc (.cells #[.int .i32 83, .int .i32 115, .int .i32 383] 21)).alloc (.cells #[.int .i32 197, .int .i32 229, .int .i32 8491] 21)).alloc (.cells #[.int .i32 181, .int .i32 924, .int .i32 956] 21)).alloc (.cells #[.int .i32 931, .int .i32 962, .int .i32 963] 21)).alloc (.cells #[.int .i32 223, .int .i32 7838] 21)).alloc (.cells #[.int .i32 255, .int .i32 376] 21)).alloc (.cells #[.slice (some ⟨w.heap.size, 0, none⟩) 3 3, .slice (some ⟨w.heap.size + 1, 0, none⟩) 3 3, .slice (some ⟨w.heap.size + 1 + 1, 0, none⟩) 3 3, .slice (some ⟨w.heap.size + 1 + 1 + 1, 0, none⟩) 3 3, .slice (some ⟨w.heap.size + 1 + 1 + 1 + 1, 0, none⟩) 3 3, .slice (some ⟨w.heap.size + 1 + 1 + 1 + 1 + 1, 0, none⟩) 2 2, .slice (some ⟨w.heap.size + 1 + 1 + 1 + 1 + 1 + 1, 0, none⟩) 2 2] 33)) := ((((((Below.refl _ _).alloc (by simp) _).alloc (by simp <;> omega) _).alloc (by simp <;> omega) _).alloc (by simp <;> omega) _).alloc (by simp <;> omega) _)
  have b3 : Below ((((w.alloc (.cells #[.int .i32 75, .int .i32 107, .int .i32 8490] 21)).alloc (.cells #[.int .i32 83, .int .i32 115, .int .i32 383] 21)).alloc (.cells #[.int .i32 197, .int .i32 229, .int .i32 8491] 21)).alloc (.cells #[.int .i32 181, .int .i32 924, .int .i32 956] 21)).heap.size ((((w.alloc (.cells #[.int .i32 75, .int .i32 107, .int .i32 8490] 21)).alloc (.cells #[.int .i32 83, .int .i32 115, .int .i32 383] 21)).alloc (.cells #[.int .i32 197, .int .i32 229, .int .i32 8491] 21)).alloc (.cells #[.int .i32 181, .int .i32 924, .int .i32 956] 21)) ((((((((w.alloc (.cells #[.int .i32 75, .int .i32 107, .int .i32 8490] 21)).alloc (.cells #[.int .i32 83, .int .i32 115, .int .i32 383] 21)).alloc (.cells #[.int .i32 197, .int .i32 229, .int .i32 8491] 21)).alloc (.cells #[.int .i32 181, .int .i32 924, .int .i32 956] 21)).alloc (.cells #[.int .i32 931, .int .i32 962, .int .i32 963] 21)).alloc (.cells #[.int .i32 223, .int .i32 7838] 21)).alloc (.cells #[.int .i32 255, .int .i32 376] 21)).alloc (.cells #[.slice (some ⟨w.heap.size, 0, none⟩) 3 3, .slice (some ⟨w.heap.size + 1, 0, none⟩) 3 3, .slice (some ⟨w.heap.size + 1 + 1, 0, none⟩) 3 3, .slice (some ⟨w.heap.size + 1 + 1 + 1, 0, none⟩) 3 3, .slice (some ⟨w.heap.size + 1 + 1 + 1 + 1, 0, none⟩) 3 3, .slice (some ⟨w.heap.size + 1 + 1 + 1 + 1 + 1, 0, none⟩) 2 2, .slice (some ⟨w.heap.size + 1 + 1 + 1 + 1 + 1 + 1, 0, none⟩) 2 2] 33)) := (((((Below.refl _ _).alloc (by simp) _).alloc (by simp <;> omega) _).alloc (by simp <;> omega) _).alloc (by simp <;> omega) _)
  have b4 : Below (((((w.alloc (.cells #[.int .i32 75, .int .i32 107, .int .i32 8490] 21)).alloc (.cells #[.int .i32 83, .int .i32 115, .int .i32 383] 21)).alloc (.cells #[.int .i32 197, .int .i32 229, .int .i32 8491] 21)).alloc (.cells #[.int .i32 181, .int .i32 924, .int .i32 956] 21)).alloc (.cells #[.int .i32 931, .int .i32 962, .int .i32 963] 21)).heap.size (((((w.alloc (.cells #[.int .i32 75, .int .i32 107, .int .i32 8490] 21)).alloc (.cells #[.int .i32 83, .int .i32 115, .int .i32 383] 21)).alloc (.cells #[.int .i32 197, .int .i32 229, .int .i32 8491] 21)).alloc (.cells #[.int .i32 181, .int .i32 924, .int .i32 956] 21)).alloc (.cells #[.int .i32 931, .int .i32 962, .int .i32 963] 21)) ((((((((w.alloc (.cells #[.int .i32 75, .int .i32 107, .int .i32 8490] 21)).alloc (.cells #[.int .i32 83, .int .i32 115, .int .i32 383] 21)).alloc (.cells #[.int .i32 197, .int .i32 229, .int .i32 8491] 21)).alloc (.cells #[.int .i32 181, .int .i32 924, .int .i32 956] 21)).alloc (.cells #[.int .i32 931, .int .i32 962, .int .i32 963] 21)).alloc (.cells #[.int .i32 223, .int .i32 7838] 21)).alloc (.cells #[.int .i32 255, .int .i32 376] 21)).alloc (.cells #[.slice (some ⟨w.heap.size, 0, none⟩) 3 3, .slice (some ⟨w.heap.size + 1, 0, none⟩) 3 3, .slice (some ⟨w.heap.size + 1 + 1, 0, none⟩) 3 3, .slice (some ⟨w.heap.size + 1 + 1 + 1, 0, none⟩) 3 3, .slice (some ⟨w.heap.size + 1 + 1 + 1 + 1, 0, none⟩) 3 3, .slice (some ⟨w.heap.size + 1 + 1 + 1 + 1 + 1, 0, none⟩) 2 2, .slice (some ⟨w.heap.size + 1 + 1 + 1 + 1 + 1 + 1, 0, none⟩) 2 2] 33)) := ((((Below.refl _ _).alloc (by simp) _).alloc (by simp <;> omega) _).alloc (by simp <;> omega) _)
  have b5 : Below ((((((w.alloc (.cells #[.int .i32 75, .int .i32 107, .int .i32 8490] 21)).alloc (.cells #[.int .i32 83, .int .i32 115, .int .i32 383] 21)).alloc (.cells #[.int .i32 197, .int .i32 229, .int .i32 8491] 21)).alloc (.cells #[.int .i32 181, .int .i32 924, .int .i32 956] 21)).alloc (.cells #[.int .i32 931, .int .i32 962, .int .i32 963] 21)).alloc (.cells #[.int .i32 223, .int .i32 7838] 21)).heap.size ((((((w.alloc (.cells #[.int .i32 75, .int .i32 107, .int .i32 8490] 21)).alloc (.cells #[.int .i32 83, .int .i32 115, .int .i32 383] 21)).alloc (.cells #[.int .i32 197, .int .i32 229, .int .i32 8491] 21)).alloc (.cells #[.int .i32 181, .int .i32 924, .int .i32 956] 21)).alloc (.cells #[.int .i32 931, .int .i32 962, .int .i32 963] 21)).alloc (.cells #[.int .i32 223, .int .i32 7838] 21)) ((((((((w.alloc (.cells #[.int .i32 75, .int .i32 107, .int .i32 8490] 21)).alloc (.cells #[.int .i32 83, .int .i32 115, .int .i32 383] 21)).alloc (.cells #[.int .i32 197, .int .i32 229, .int .i32 8491] 21)).alloc (.cells #[.int .i32 181, .int .i32 924, .int .i32 956] 21)).alloc (.cells #[.int .i32 931, .int .i32 962, .int .i32 963] 21)).alloc (.cells #[.int .i32 223, .int .i32 7838] 21)).alloc (.cells #[.int .i32 255, .int .i32 376] 21)).alloc (.cells #[.slice (some ⟨w.heap.size, 0, none⟩) 3 3, .slice (some ⟨w.heap.size + 1, 0, none⟩) 3 3, .slice (some ⟨w.heap.size + 1 + 1, 0, none⟩) 3 3, .slice (some ⟨w.heap.size + 1 + 1 + 1, 0, none⟩) 3 3, .slice (some ⟨w.heap.size + 1 + 1 + 1 + 1, 0, none⟩) 3 3, .slice (some ⟨w.heap.size + 1 + 1 + 1 + 1 + 1, 0, none⟩) 2 2, .slice (some ⟨w.heap.size + 1 + 1 + 1 + 1 + 1 + 1, 0, none⟩) 2 2] 33)) := (((Below.refl _ _).alloc (by simp) _).alloc (by simp <;> omega) _)
  have b6 : Below (((((((w.alloc (.cells #[.int .i32 75, .int .i32 107, .int .i32 8490] 21)).alloc (.cells #[.int .i32 83, .int .i32 115, .int .i32 383] 21)).alloc (.cells #[.int .i32 197, .int .i32 229, .int .i32 8491] 21)).alloc (.cells #[.int .i32 181, .int .i32 924, .int .i32 956] 21)).alloc (.cells #[.int .i32 931, .int .i32 962, .int .i32 963] 21)).alloc (.cells #[.int .i32 223, .int .i32 7838] 21)).alloc (.cells #[.int .i32 255, .int .i32 376] 21)).heap.size (((((((w.alloc (.cells #[.int .i32 75, .int .i32 107, .int .i32 8490] 21)).alloc (.cells #[.int .i32 83, .int .i32 115, .int .i32 383] 21)).alloc (.cells #[.int .i32 197, .int .i32 229, .int .i32 8491] 21)).alloc (.cells #[.int .i32 181, .int .i32 924, .int .i32 956] 21)).alloc (.cells #[.int .i32 931, .int .i32 962, .int .i32 963] 21)).alloc (.cells #[.int .i32 223, .int .i32 7838] 21)).alloc (.cells #[.int .i32 255, .int .i32 376] 21)) ((((((((w.alloc (.cells #[.int .i32 75, .int .i32 107, .int .i32 8490] 21)).alloc (.cells #[.int .i32 83, .int .i32 115, .int .i32 383] 21)).alloc (.cells #[.int .i32 197, .int .i32 229, .int .i32 8491] 21)).alloc (.cells #[.int .i32 181, .int .i32 924, .int .i32 956] 21)).alloc (.cells #[.int .i32 931, .int .i32 962, .int .i32 963] 21)).alloc (.cells #[.int .i32 223, .int .i32 7838] 21)).alloc (.cells #[.int .i32 255, .int .i32 376] 21)).alloc (.cells #[.slice (some ⟨w.heap.size, 0, none⟩) 3 3, .slice (some ⟨w.heap.size + 1, 0, none⟩) 3 3, .slice (some ⟨w.heap.size + 1 + 1, 0, none⟩) 3 3, .slice (some ⟨w.heap.size + 1 + 1 + 1, 0, none⟩) 3 3, .slice (some ⟨w.heap.size + 1 + 1 + 1 + 1, 0, none⟩) 3 3, .slice (some ⟨w.heap.size + 1 + 1 + 1 + 1 + 1, 0, none⟩) 2 2, .slice (some ⟨w.heap.size + 1 + 1 + 1 + 1 + 1 + 1, 0, none⟩) 2 2] 33)) := ((Below.refl _ _).alloc (Nat.le_refl _) _)
  have bw : Below w.heap.size w ((((((((w.alloc (.cells #[.int .i32 75, .int .i32 107, .int .i32 8490] 21)).alloc (.cells #[.int .i32 83, .int .i32 115, .int .i32 383] 21)).alloc (.cells #[.int .i32 197, .int .i32 229, .int .i32 8491] 21)).alloc (.cells #[.int .i32 181, .int .i32 924, .int .i32 956] 21)).alloc (.cells #[.int .i32 931, .int .i32 962, .int .i32 963] 21)).alloc (.cells #[.int .i32 223, .int .i32 7838] 21)).alloc (.cells #[.int .i32 255, .int .i32 376] 21)).alloc (.cells #[.slice (some ⟨w.heap.size, 0, none⟩) 3 3, .slice (some ⟨w.heap.size + 1, 0, none⟩) 3 3, .slice (some ⟨w.heap.size + 1 + 1, 0, none⟩) 3 3, .slice (some ⟨w.heap.size + 1 + 1 + 1, 0, none⟩) 3 3, .slice (some ⟨w.heap.size + 1 + 1 + 1 + 1, 0, none⟩) 3 3, .slice (some ⟨w.heap.size + 1 + 1 + 1 + 1 + 1, 0, none⟩) 2 2, .slice (some ⟨w.heap.size + 1 + 1 + 1 + 1 + 1 + 1, 0, none⟩) 2 2] 33)) := (((((((((Below.refl _ _).alloc (by simp) _).alloc (by simp <;> omega) _).alloc (by simp <;> omega) _).alloc (by simp <;> omega) _).alloc (by simp <;> omega) _).alloc (by simp <;> omega) _).alloc (by simp <;> omega) _).alloc (by simp <;> omega) _)
  have r0 := k0.below b0
  have r1 := k1.below b1
  have r2 := k2.below b2
  have r3 := k3.below b3
  have r4 := k4.below b4
  have r5 := k5.below b5
  have r6 := k6.below b6
  simp only [World.size_alloc] at r1 r2 r3 r4 r5 r6
  refine ⟨_, rfl, ⟨w.heap.size + 1 + 1 + 1 + 1 + 1 + 1 + 1, 7, rfl, by decide, by unfold maxLen; decide, fun i hi => ?_⟩, bw⟩
  have hi' : i < 7 := hi
  have hc : ∀ j, ((((((((w.alloc (.cells #[.int .i32 75, .int .i32 107, .int .i32 8490] 21)).alloc (.cells #[.int .i32 83, .int .i32 115, .int .i32 383] 21)).alloc (.cells #[.int .i32 197, .int .i32 229, .int .i32 8491] 21)).alloc (.cells #[.int .i32 181, .int .i32 924, .int .i32 956] 21)).alloc (.cells #[.int .i32 931, .int .i32 962, .int .i32 963] 21)).alloc (.cells #[.int .i32 223, .int .i32 7838] 21)).alloc (.cells #[.int .i32 255, .int .i32 376] 21)).alloc (.cells #[.slice (some ⟨w.heap.size, 0, none⟩) 3 3, .slice (some ⟨w.heap.size + 1, 0, none⟩) 3 3, .slice (some ⟨w.heap.size + 1 + 1, 0, none⟩) 3 3, .slice (some ⟨w.heap.size + 1 + 1 + 1, 0, none⟩) 3 3, .slice (some ⟨w.heap.size + 1 + 1 + 1 + 1, 0, none⟩) 3 3, .slice (some ⟨w.heap.size + 1 + 1 + 1 + 1 + 1, 0, none⟩) 2 2, .slice (some ⟨w.heap.size + 1 + 1 + 1 + 1 + 1 + 1, 0, none⟩) 2 2] 33)).cell? ⟨w.heap.size + 1 + 1 + 1 + 1 + 1 + 1 + 1, j, none⟩ = (#[.slice (some ⟨w.heap.size, 0, none⟩) 3 3, .slice (some ⟨w.heap.size + 1, 0, none⟩) 3 3, .slice (some ⟨w.heap.size + 1 + 1, 0, none⟩) 3 3, .slice (some ⟨w.heap.size + 1 + 1 + 1, 0, none⟩) 3 3, .slice (some ⟨w.heap.size + 1 + 1 + 1 + 1, 0, none⟩) 3 3, .slice (some ⟨w.heap.size + 1 + 1 + 1 + 1 + 1, 0, none⟩) 2 2, .slice (some ⟨w.heap.size + 1 + 1 + 1 + 1 + 1 + 1, 0, none⟩) 2 2] : Array Value)[j]? := fun j => by rw [World.cell?_alloc_at _ _ _ _ (by simp)]
  match i, hi' with
  | 0, _ => exact ⟨_, hc 0, r0⟩
  | 1, _ => exact ⟨_, hc 1, r1⟩
  | 2, _ => exact ⟨_, hc 2, r2⟩
  | 3, _ => exact ⟨_, hc 3, r3⟩
  | 4, _ => exact ⟨_, hc 4, r4⟩
  | 5, _ => exact ⟨_, hc 5, r5⟩
  | 6, _ => exact ⟨_, hc 6, r6⟩

/-- A list that rises. -/
def RiseN (l : List Int) : Prop := l.Pairwise (· < ·)
set_option maxHeartbeats 1600000 in
set_option maxRecDepth 100000 in
theorem rsorted_any (v : Value) (l : List Int) (w : World) (h : Rns w v l) (hr : RiseN l) (hn : l.length ≤ 1099511627776) :
    Calls Tryz.prog 29 #[v] w fun e w' => ∃ v', e = .returned v' ∧ OwnN w' w.heap.size v' l ∧ Below w.heap.size w w' := by
  have HR := Lib.hid h; have HUP := Lib.hid hr
  obtain ⟨a, c, rfl, h2, h3, h4, h5, h6⟩ := h
  have H6 := Lib.hid h6
  clear h5 h6 h4 h2 h3 hr
  go_enter Tryz.func29, Tryz.ntmps29
  go_wp2_with fail
  go_loopw [3, 4] (fun vs i wr => ∃ m : Nat, m ≤ l.length ∧ i = .int .i64 m ∧ OwnN wr w.heap.size vs (l.take m) ∧ Below w.heap.size w wr ∧ (m = 0 → vs = .slice none 0 0)) (fun _ i _ => l.length - (intOf i).toNat)
  case atStart => exact ⟨0, Nat.zero_le _, rfl, ownN_none _ _, Below.refl _ _, fun _ => rfl⟩
  case round =>
    obtain ⟨m, hm, rfl, hO, hB, hnl⟩ := hrel
    have HO := Lib.hid hO; have HB := Lib.hid hB; have HNL := Lib.hid hnl
    clear hO hB hnl
    by_cases hlt : m < l.length
    · obtain ⟨a', c', e, g2, g3, g4, g5, g6⟩ := HR.out
      injection e with e1 e2 e3
      subst e1 e3
      rcases g5 with g5 | ⟨b, o, rfl, hc⟩
      · rw [g5] at hlt
        simp at hlt
      have hltk : (l.take m).length = m := by rw [List.length_take]; omega
      obtain ⟨x, hx⟩ : ∃ x, l[m] = x := ⟨_, rfl⟩
      have c1w := hc m hlt
      rw [hx] at c1w
      have c1 := (HB.out.cell (World.block_lt_of_cell? w _ c1w)).trans c1w
      have hxi := H6.out l[m] (List.getElem_mem hlt)
      rw [hx] at hxi
      have hsp : l.take (m + 1) = l.take m ++ [x] := by rw [List.take_succ_eq_append_getElem hlt, hx]
      have hlo : ∀ k (h : k < l.length), k < m → l[k] < x := fun k h hk => by
        rw [← hx]
        exact List.pairwise_iff_getElem.1 HUP.out k m h hlt hk
      have HSP := Lib.hid hsp; have HXI := Lib.hid hxi; have HC := Lib.hid c1w; have HLO := Lib.hid hlo
      have hsz := HB.out.size
      clear hsp hxi hc hx hlo g6 c1w
      rcases own_slice1 HO.out.1 with ⟨rfl, h0⟩ | ⟨g, cs, rfl, q1, q2, q3⟩
      · have hm0 : m = 0 := by omega
        subst hm0
        go_wp2_with fail
        go_loopw [5] (fun i wy => i = .int .i64 0 ∧ ∃ q, wy = wr.drewN q) (fun _ _ => 0)
        case atStart => exact ⟨rfl, 0, rfl⟩
        case round =>
          obtain ⟨rfl, q, rfl⟩ := hrel
          go_wp2_with fail
          go_big_quiet (fail)
          obtain ⟨wd, hwd⟩ : ∃ wd, (wr.drewN q).drewN nq = wd := ⟨_, rfl⟩
          have hbd : Below wr.heap.size wr wd := by rw [← hwd]; exact below_drewNr (below_draws wr q) nq
          rw [hwd]
          have HBD := Lib.hid (HB.out.trans (hbd.mono hsz))
          have HOD := Lib.hid (HO.out.below hbd)
          have hszd := HBD.out.size
          have hcd := (HBD.out.cell (World.block_lt_of_cell? w _ HC.out)).trans HC.out
          have HNK := Lib.hid HOD.out.rns
          clear hwd hbd
          go_wp2_with (at_builtin; refine append_rns rfl (.tmp 31) (.tmp 34) rfl w.heap.size _ [] rfl (ownN_lit wd w.heap.size hszd [] 0 #[] rfl rfl (Nat.zero_le _) (by simp)) none 0 0 (l.take 0) rfl (rns_nil _ none 0 (Nat.zero_le _) (fun _ => rfl)) ?b2 ?b3 ?_)
          case b2 => simp <;> omega
          case b3 => simp <;> omega
          intro v1 w1 ho1 hg1
          try simp only [List.nil_append] at ho1
          have HB1 := Lib.hid ((HBD.out.alloc hszd (.cells #[] 21)).grown hg1 (by simp <;> omega) (by simp [Value.ownBlock]; exact hszd))
          have HO1 := Lib.hid ho1
          have hc1 := (HB1.out.cell (World.block_lt_of_cell? w _ HC.out)).trans HC.out
          simp only [Nat.add_zero] at hc1
          have hsz1 := HB1.out.size
          clear ho1 hg1
          go_wp2_with (at_builtin; refine append_rns rfl (.tmp 36) (.tmp 41) rfl w.heap.size v1 (l.take 0) rfl (HO1.out.below ((Below.refl _ w1).alloc (Nat.le_refl _) _)) (some ⟨w1.heap.size, 0, none⟩) 1 1 [x] rfl (rns_new w1 x HXI.out) ?c1 ?c2 ?_)
          case c1 => simp
          case c2 => simp <;> omega
          intro v2 w2 ho2 hg2
          have HB2 := Lib.hid ((HB1.out.alloc hsz1 _).grown hg2 (by simp <;> omega) (fun j hj => (HO1.out.1.lt j hj).1))
          have HO2 := Lib.hid ho2
          have hsz2 := HB2.out.size
          clear ho2 hg2
          go_wp2_with (at_builtin; refine append_rns rfl (.tmp 43) (.tmp 46) rfl w.heap.size v2 (l.take 0 ++ [x]) rfl HO2.out none 0 0 [] rfl (rns_nil _ none 0 (Nat.zero_le _) (fun _ => rfl)) ?d1 ?d2 ?_)
          case d1 => simp <;> omega
          case d2 => exact hsz2
          intro v3 w3 ho3 hg3
          try rw [List.append_nil] at ho3
          have HB3 := Lib.hid (HB2.out.grown hg3 hsz2 (fun j hj => (HO2.out.1.lt j hj).1))
          have HO3 := Lib.hid ho3
          clear ho3 hg3
          go_wp2
          go_roundw
          case rel => exact ⟨1, by omega, by go_num, by rw [show l.take 1 = [x] from HSP.out]; simpa using HO3.out, HB3.out, fun h => absurd h (by omega)⟩
          case measure => simp [intOf]; omega
      · rcases Nat.eq_zero_or_pos m with hm0 | hm0
        · exfalso
          have h1 := HNL.out hm0
          cases h1
        obtain ⟨p, rfl⟩ : ∃ p, m = p + 1 := ⟨m - 1, by omega⟩
        rw [hltk] at q1
        obtain ⟨s1, hs1, c3⟩ : ∃ s1, s1 < x ∧ wr.cell? ⟨g, p, none⟩ = some (.int .i32 s1) := by
          obtain ⟨a2, c2, e2, -, -, -, f5, -⟩ := HO.out.rns
          injection e2 with e2 _ _
          rcases f5 with f5 | ⟨b2, o2, e3, f6⟩
          · rw [f5] at hltk
            simp at hltk
          · rw [← e2] at e3
            injection e3 with e3
            injection e3 with e4 e5
            subst e4 e5
            have hp : p < (l.take (p + 1)).length := by omega
            have := f6 p hp
            refine ⟨l[p], HLO.out p (by omega) (by omega), ?_⟩
            rw [Nat.zero_add] at this
            simpa using this
        have hd : decide (x < s1) = false := decide_eq_false (by omega)
        have hpz : (0 : Int) < (p : Int) + 1 := by omega
        have dp : decide ((0 : Int) < (p : Int) + 1) = true := decide_eq_true hpz
        rw [hltk]
        go_wp2_with fail
        go_loopw [5] (fun i wy => i = .int .i64 ((p + 1 : Nat) : Int) ∧ ∃ q, wy = wr.drewN q) (fun _ _ => 0)
        case atStart => exact ⟨rfl, 0, rfl⟩
        case round =>
          obtain ⟨rfl, q, rfl⟩ := hrel
          go_wp2_with fail
          go_big_quiet (fail)
          clear c3 hd
          have hcz : (p : Int) + 1 ≤ (cs : Int) := by omega
          by_cases hck : cs = p + 1
          · subst hck
            obtain ⟨wd, hwd⟩ : ∃ wd, (wr.drewN q).drewN nq = wd := ⟨_, rfl⟩
            have hbd : Below wr.heap.size wr wd := by rw [← hwd]; exact below_drewNr (below_draws wr q) nq
            rw [hwd]
            have HBD := Lib.hid (HB.out.trans (hbd.mono hsz))
            have HOD := Lib.hid (HO.out.below hbd)
            have hszd := HBD.out.size
            have hcd := (HBD.out.cell (World.block_lt_of_cell? w _ HC.out)).trans HC.out
            have HNK := Lib.hid HOD.out.rns
            clear hwd hbd
            go_wp2_with (at_builtin; refine append_rns rfl (.tmp 31) (.tmp 34) rfl w.heap.size _ [] rfl (ownN_lit wd w.heap.size hszd [] 0 #[] rfl rfl (Nat.zero_le _) (by simp)) (some ⟨g, 0, none⟩) (p + 1) (p + 1) (l.take (p + 1)) rfl (by have := HNK.out; rw [hltk] at this; exact this.below ((Below.refl _ wd).alloc (Nat.le_refl _) _)) ?b2 ?b3 ?_)
            case b2 => simp <;> omega
            case b3 => simp <;> omega
            intro v1 w1 ho1 hg1
            try simp only [List.nil_append] at ho1
            have HB1 := Lib.hid ((HBD.out.alloc hszd (.cells #[] 21)).grown hg1 (by simp <;> omega) (by simp [Value.ownBlock]; exact hszd))
            have HO1 := Lib.hid ho1
            have hc1 := (HB1.out.cell (World.block_lt_of_cell? w _ HC.out)).trans HC.out
            have hsz1 := HB1.out.size
            clear ho1 hg1
            go_wp2_with (at_builtin; refine append_rns rfl (.tmp 36) (.tmp 41) rfl w.heap.size v1 (l.take (p + 1)) rfl (HO1.out.below ((Below.refl _ w1).alloc (Nat.le_refl _) _)) (some ⟨w1.heap.size, 0, none⟩) 1 1 [x] rfl (rns_new w1 x HXI.out) ?c1 ?c2 ?_)
            case c1 => rw [hltk]; (try simp); omega
            case c2 => simp <;> omega
            intro v2 w2 ho2 hg2
            have HB2 := Lib.hid ((HB1.out.alloc hsz1 _).grown hg2 (by simp <;> omega) (fun j hj => (HO1.out.1.lt j hj).1))
            have HO2 := Lib.hid ho2
            have hsz2 := HB2.out.size
            clear ho2 hg2
            go_wp2_with (at_builtin; refine append_rns rfl (.tmp 43) (.tmp 46) rfl w.heap.size v2 (l.take (p + 1) ++ [x]) rfl HO2.out (some ⟨g, 0, none⟩) 0 0 [] rfl (rns_nil _ _ 0 (Nat.zero_le _) (fun e => by cases e)) ?d1 ?d2 ?_)
            case d1 => simp <;> omega
            case d2 => exact hsz2
            intro v3 w3 ho3 hg3
            try rw [List.append_nil] at ho3
            have HB3 := Lib.hid (HB2.out.grown hg3 hsz2 (fun j hj => (HO2.out.1.lt j hj).1))
            have HO3 := Lib.hid ho3
            clear ho3 hg3
            go_wp2
            go_roundw
            case rel => exact ⟨p + 1 + 1, by omega, by go_num, by rw [HSP.out]; exact HO3.out, HB3.out, fun h => absurd h (by omega)⟩
            case measure => simp [intOf]; omega
          · skip
            obtain ⟨wd, hwd⟩ : ∃ wd, (wr.drewN q).drewN nq = wd := ⟨_, rfl⟩
            have hbd : Below wr.heap.size wr wd := by rw [← hwd]; exact below_drewNr (below_draws wr q) nq
            rw [hwd]
            have HBD := Lib.hid (HB.out.trans (hbd.mono hsz))
            have HOD := Lib.hid (HO.out.below hbd)
            have hszd := HBD.out.size
            have hcd := (HBD.out.cell (World.block_lt_of_cell? w _ HC.out)).trans HC.out
            have HNK := Lib.hid HOD.out.rns
            clear hwd hbd
            go_wp2_with (at_builtin; refine append_rns rfl (.tmp 31) (.tmp 34) rfl w.heap.size _ [] rfl (ownN_lit wd w.heap.size hszd [] 0 #[] rfl rfl (Nat.zero_le _) (by simp)) (some ⟨g, 0, none⟩) (p + 1) cs (l.take (p + 1)) rfl (by have := HNK.out; rw [hltk] at this; exact this.below ((Below.refl _ wd).alloc (Nat.le_refl _) _)) ?b2 ?b3 ?_)
            case b2 => simp <;> omega
            case b3 => simp <;> omega
            intro v1 w1 ho1 hg1
            try simp only [List.nil_append] at ho1
            have HB1 := Lib.hid ((HBD.out.alloc hszd (.cells #[] 21)).grown hg1 (by simp <;> omega) (by simp [Value.ownBlock]; exact hszd))
            have HO1 := Lib.hid ho1
            have hc1 := (HB1.out.cell (World.block_lt_of_cell? w _ HC.out)).trans HC.out
            have hsz1 := HB1.out.size
            clear ho1 hg1
            go_wp2_with (at_builtin; refine append_rns rfl (.tmp 36) (.tmp 41) rfl w.heap.size v1 (l.take (p + 1)) rfl (HO1.out.below ((Below.refl _ w1).alloc (Nat.le_refl _) _)) (some ⟨w1.heap.size, 0, none⟩) 1 1 [x] rfl (rns_new w1 x HXI.out) ?c1 ?c2 ?_)
            case c1 => rw [hltk]; (try simp); omega
            case c2 => simp <;> omega
            intro v2 w2 ho2 hg2
            have HB2 := Lib.hid ((HB1.out.alloc hsz1 _).grown hg2 (by simp <;> omega) (fun j hj => (HO1.out.1.lt j hj).1))
            have HO2 := Lib.hid ho2
            have hsz2 := HB2.out.size
            clear ho2 hg2
            go_wp2_with (at_builtin; refine append_rns rfl (.tmp 43) (.tmp 46) rfl w.heap.size v2 (l.take (p + 1) ++ [x]) rfl HO2.out (some ⟨g, p + 1, none⟩) 0 (cs - (p + 1)) [] rfl (rns_nil _ _ _ (by omega) (fun e => by cases e)) ?d1 ?d2 ?_)
            case d1 => simp <;> omega
            case d2 => exact hsz2
            intro v3 w3 ho3 hg3
            try rw [List.append_nil] at ho3
            have HB3 := Lib.hid (HB2.out.grown hg3 hsz2 (fun j hj => (HO2.out.1.lt j hj).1))
            have HO3 := Lib.hid ho3
            clear ho3 hg3
            go_wp2
            go_roundw
            case rel => exact ⟨p + 1 + 1, by omega, by go_num, by rw [HSP.out]; exact HO3.out, HB3.out, fun h => absurd h (by omega)⟩
            case measure => simp [intOf]; omega
    · have e : l.take m = l := List.take_of_length_le (by omega)
      have ho := HO.out
      rw [e] at ho
      have HO' := Lib.hid ho
      clear ho e
      go_wp2
      go_ret
      exact ⟨_, rfl, HO'.out, HB.out⟩

/-- A fresh list of the runes l. -/
def RunesPost (l : List Int) (w : World) (e : Ending) (w' : World) : Prop := ∃ v, e = .returned v ∧ OwnN w' w.heap.size v l ∧ Below w.heap.size w w'
theorem groups_rise : ∀ g ∈ groupsR, RiseN g ∧ g.length ≤ 3 := by unfold groupsR RiseN; decide

theorem find_hit {c : Int} {m : Nat} {g : List Int} (h : groupsR[m]? = some g) (hN : ∀ q ∈ groupsR.take m, c ∉ q) (hc : c ∈ g) : groupsR.find? (fun g => g.contains c) = some g := by
  obtain ⟨hlt, hg⟩ := List.getElem?_eq_some_iff.1 h
  rw [← List.take_append_drop m groupsR, List.find?_append, List.find?_eq_none.2 (fun q hq => by simpa using hN q hq), List.drop_eq_getElem_cons hlt, hg]
  simp [hc]
theorem find_miss {c : Int} (hN : ∀ q ∈ groupsR, c ∉ q) : groupsR.find? (fun g => g.contains c) = none :=
  List.find?_eq_none.2 (fun q hq => by simpa using hN q hq)

set_option maxHeartbeats 1600000 in
set_option maxRecDepth 100000 in
theorem rorbit_any (c : Int) (w : World) (hc : I32 c) : Calls Tryz.prog 12 #[.int .i32 c] w (RunesPost (orbR c) w) := by
  unfold I32 at hc
  go_enter Tryz.func12, Tryz.ntmps12
  by_cases h0 : c < 0
  · have e : orbR c = [] := by unfold orbR; rw [if_pos (.inl h0)]
    rw [e]
    go_wp2
    go_ret
    exact ⟨_, rfl, ownN_none _ _, Below.refl _ _⟩
  by_cases h1 : 1114111 < c
  · have e : orbR c = [] := by unfold orbR; rw [if_pos (.inr h1)]
    rw [e]
    go_wp2
    go_ret
    exact ⟨_, rfl, ownN_none _ _, Below.refl _ _⟩
  have e : orbR c = match groupsR.find? (fun g => g.contains c) with | some g => g | none => if greatB c then [c, c + 32] else if 32 ≤ c ∧ greatB (c - 32) = true then [c - 32, c] else [c] := by
    unfold orbR
    rw [if_neg (by omega)]
  have HE := Lib.hid e
  clear e
  go_wp2_with fail
  refine (rgroups_any w).mono ?_
  rintro e w1 ⟨v, rfl, hL, hB⟩
  have HL := Lib.hid hL; have HB := Lib.hid hB
  obtain ⟨b, cv, rfl, -, -, hu⟩ := hL
  have HU := Lib.hid hu
  clear hB hu
  rw [show groupsR.length = 7 from rfl]
  go_wp2_with fail
  go_loopw [4] (fun i wr => ∃ m : Nat, m ≤ 7 ∧ i = .int .i64 m ∧ wr = w1 ∧ ∀ g ∈ groupsR.take m, c ∉ g) (fun i _ => 7 - (intOf i).toNat)
  case atStart => exact ⟨0, Nat.zero_le _, rfl, rfl, by simp⟩
  case round =>
    obtain ⟨m, hm, rfl, rfl, hN⟩ := hrel
    have HN := Lib.hid hN
    clear hN
    by_cases hlt : m < 7
    · have hlt7 : m < groupsR.length := hlt
      obtain ⟨u, hu, hr⟩ := HU.out m hlt7
      have hgm := groups_rise _ (List.getElem_mem hlt7)
      obtain ⟨g, hg⟩ : ∃ g, groupsR[m] = g := ⟨_, rfl⟩
      rw [hg] at hr hgm
      have HR := Lib.hid hr; have HG := Lib.hid (show groupsR[m]? = some g by rw [List.getElem?_eq_getElem hlt7, hg]); have HGM := Lib.hid hgm
      have hgl := hgm.2
      obtain ⟨a, cg, rfl, -⟩ := hr
      have hmz : (m : Int) < 7 := by omega
      clear hg hgm hlt7
      go_wp2_with fail
      go_loopw [5] (fun i wy => ∃ k : Nat, k ≤ g.length ∧ i = .int .i64 k ∧ wy = wr ∧ c ∉ g.take k) (fun i _ => g.length - (intOf i).toNat)
      case atStart => exact ⟨0, Nat.zero_le _, rfl, rfl, by simp⟩
      case round =>
        obtain ⟨k, hk, rfl, hwy, hNk⟩ := hrel
        subst hwy
        have HNK := Lib.hid hNk
        clear hNk
        by_cases hkl : k < g.length
        · obtain ⟨a', c', e, -, -, -, f5, -⟩ := HR.out
          injection e with e1 e2 e3
          subst e1 e3
          rcases f5 with f5 | ⟨b1, o1, rfl, f6⟩
          · rw [f5] at hkl
            simp at hkl
          have cx := f6 k hkl
          obtain ⟨x, hx⟩ : ∃ x, g[k] = x := ⟨_, rfl⟩
          rw [hx] at cx
          have HX := Lib.hid hx
          clear hx f6
          by_cases hxc : x = c
          · have hcg : c ∈ g := by rw [← hxc, ← HX.out]; exact List.getElem_mem hkl
            have he : orbR c = g := by rw [HE.out, find_hit HG.out HN.out hcg]
            have HO := Lib.hid he
            subst hxc
            clear hcg he
            go_wp2_with fail
            refine (rsorted_any _ g _ HR.out HGM.out.1 (by omega)).mono ?_
            rintro e w2 ⟨v2, rfl, ho, hb⟩
            have H2 := Lib.hid ho; have HB2 := Lib.hid hb
            clear ho hb
            go_wp2_with fail
            go_ret
            exact ⟨_, rfl, by rw [HO.out]; exact H2.out.mono HB.out.size, HB.out.trans (HB2.out.mono HB.out.size)⟩
          · go_wp2_with fail
            go_roundw
            case rel =>
              refine ⟨k + 1, by omega, by go_num, by trivial, ?_⟩
              rw [List.take_succ_eq_append_getElem hkl, HX.out]
              simp only [List.mem_append, List.mem_singleton, not_or]
              exact ⟨HNK.out, fun h => hxc h.symm⟩
            case measure => simp [intOf]; omega
        · have e : g.take k = g := List.take_of_length_le (by omega)
          have hn := HNK.out
          rw [e] at hn
          have HCG := Lib.hid hn
          clear hn e
          go_wp2_with fail
          go_roundw
          case rel =>
            refine ⟨m + 1, by omega, by go_num, by trivial, ?_⟩
            obtain ⟨hl7, hg⟩ := List.getElem?_eq_some_iff.1 HG.out
            rw [List.take_succ_eq_append_getElem hl7, hg]
            intro q hq
            rcases List.mem_append.1 hq with hq | hq
            · exact HN.out q hq
            · have : q = g := by simpa using hq
              rw [this]
              exact HCG.out
          case measure => simp [intOf]; omega
    · have e : groupsR.take m = groupsR := List.take_of_length_le (by show 7 ≤ m; omega)
      have hn := HN.out
      rw [e] at hn
      have he := HE.out
      rw [find_miss hn] at he
      have HO := Lib.hid he
      clear hn e he
      have hms : wr.heap.size = wr.heap.size := rfl
      go_wp2_with fail
      refine (rgreat_any c wr).mono ?_
      rintro e w2 ⟨rfl, hb⟩
      have HB2 := Lib.hid (HB.out.trans (hb.mono HB.out.size))
      have hsz2 := HB2.out.size
      clear hb
      by_cases hg : greatB c = true
      · have hgb := greatB_bound hg
        have he := HO.out
        simp only [hg, if_true] at he
        have HOO := Lib.hid he
        clear he
        rw [hg]
        go_wp2_with fail
        go_ret
        refine ⟨_, rfl, ?_, HB2.out.alloc hsz2 _⟩
        rw [HOO.out]
        exact ownN_lit w2 _ hsz2 [c, c + 32] 2 _ rfl rfl (by unfold maxLen; omega) (by unfold I32; simp; omega)
      · have hgf : greatB c = false := by simpa using hg
        rw [hgf]
        have he := HO.out
        simp only [hgf, Bool.false_eq_true, if_false] at he
        have HOO := Lib.hid he
        clear he
        by_cases h32 : 32 ≤ c
        · go_wp2_with fail
          refine (rgreat_any (c - 32) w2).mono ?_
          rintro e w3 ⟨rfl, hb⟩
          have HB3 := Lib.hid (HB2.out.trans (hb.mono HB2.out.size))
          have hsz3 := HB3.out.size
          clear hb
          by_cases hg2 : greatB (c - 32) = true
          · have he := HOO.out
            simp only [hg2, h32, and_self, if_true] at he
            have HO3 := Lib.hid he
            clear he
            rw [hg2]
            go_wp2_with fail
            go_ret
            refine ⟨_, rfl, ?_, HB3.out.alloc hsz3 _⟩
            rw [HO3.out]
            exact ownN_lit w3 _ hsz3 [c - 32, c] 2 _ rfl rfl (by unfold maxLen; omega) (by unfold I32; simp; omega)
          · have hgf2 : greatB (c - 32) = false := by simpa using hg2
            have he := HOO.out
            simp only [hgf2, Bool.false_eq_true, and_false, if_false] at he
            have HO3 := Lib.hid he
            clear he
            rw [hgf2]
            go_wp2_with fail
            go_ret
            refine ⟨_, rfl, ?_, HB3.out.alloc hsz3 _⟩
            rw [HO3.out]
            exact ownN_lit w3 _ hsz3 [c] 1 _ rfl rfl (by unfold maxLen; omega) (by unfold I32; simp; omega)
        · have he := HOO.out
          simp only [h32, false_and, if_false] at he
          have HO3 := Lib.hid he
          clear he
          go_wp2_with fail
          go_ret
          refine ⟨_, rfl, ?_, HB2.out.alloc hsz2 _⟩
          rw [HO3.out]
          exact ownN_lit w2 _ hsz2 [c] 1 _ rfl rfl (by unfold maxLen; omega) (by unfold I32; simp; omega)
end Go.Proofs.YtmaigjdmjmonbaaGreatDoor
/- Plain mathematics of orbits: who is in one, all of an orbit have the same one; what folding adds. No condition. -/
namespace Go.Proofs.YtmaigjdmjmonbaaGreatDoor

theorem great_iff (c : Int) : greatB c = true ↔ (¬ (c = 75 ∨ c = 83 ∨ c = 197 ∨ c = 924)) ∧ ((65 ≤ c ∧ c ≤ 90) ∨ (192 ≤ c ∧ c ≤ 214) ∨ (216 ≤ c ∧ c ≤ 222) ∨ (913 ≤ c ∧ c ≤ 929) ∨ (932 ≤ c ∧ c ≤ 937) ∨ (1040 ≤ c ∧ c ≤ 1071)) := by
  unfold greatB greatL
  simp only [List.any_cons, List.any_nil, Bool.or_false, Bool.and_eq_true, Bool.or_eq_true, decide_eq_true_eq, Bool.not_eq_true', Bool.or_eq_false_iff, decide_eq_false_iff_not]
  omega
/-- The runes that are alike with more than one, or with one not 32 away. -/
def InG (c : Int) : Prop := c = 75 ∨ c = 107 ∨ c = 8490 ∨ c = 83 ∨ c = 115 ∨ c = 383 ∨ c = 197 ∨ c = 229 ∨ c = 8491 ∨ c = 181 ∨ c = 924 ∨ c = 956 ∨ c = 931 ∨ c = 962 ∨ c = 963 ∨ c = 223 ∨ c = 7838 ∨ c = 255 ∨ c = 376
theorem inG_of {c : Int} {g : List Int} (hg : g ∈ groupsR) (hc : c ∈ g) : InG c := by
  unfold groupsR at hg
  simp only [List.mem_cons, List.not_mem_nil, or_false] at hg
  unfold InG
  rcases hg with rfl | rfl | rfl | rfl | rfl | rfl | rfl <;> simp at hc <;> omega
theorem find_of_inG {c : Int} (h : InG c) : ∃ g ∈ groupsR, c ∈ g := by
  unfold InG at h
  rcases h with rfl | rfl | rfl | rfl | rfl | rfl | rfl | rfl | rfl | rfl | rfl | rfl | rfl | rfl | rfl | rfl | rfl | rfl | rfl <;> decide
theorem find_none {c : Int} (h : ¬ InG c) : groupsR.find? (fun g => g.contains c) = none := find_miss fun q hq hc => h (inG_of hq hc)
theorem group_find : ∀ g ∈ groupsR, ∀ c ∈ g, groupsR.find? (fun g => g.contains c) = some g := by unfold groupsR; decide
theorem orb_none {c : Int} (h : c < 0 ∨ 1114111 < c) : orbR c = [] := by unfold orbR; rw [if_pos h]
theorem orb_group {c : Int} {g : List Int} (hg : g ∈ groupsR) (hc : c ∈ g) : orbR c = g := by
  have hb := inG_of hg hc
  unfold InG at hb
  unfold orbR
  rw [if_neg (by omega), group_find g hg c hc]
theorem orb_plain {c : Int} (h0 : 0 ≤ c) (h1 : c ≤ 1114111) (h : ¬ InG c) : orbR c = if greatB c then [c, c + 32] else if 32 ≤ c ∧ greatB (c - 32) = true then [c - 32, c] else [c] := by
  unfold orbR
  rw [if_neg (by omega), find_none h]
/-- What an orbit is. -/
theorem orb_cases (c : Int) (h0 : 0 ≤ c) (h1 : c ≤ 1114111) :
    (∃ g ∈ groupsR, c ∈ g ∧ orbR c = g) ∨ (¬ InG c ∧ greatB c = true ∧ orbR c = [c, c + 32]) ∨ (¬ InG c ∧ greatB c = false ∧ 32 ≤ c ∧ greatB (c - 32) = true ∧ orbR c = [c - 32, c]) ∨ (¬ InG c ∧ greatB c = false ∧ ¬ (32 ≤ c ∧ greatB (c - 32) = true) ∧ orbR c = [c]) := by
  by_cases hG : InG c
  · obtain ⟨g, hg, hc⟩ := find_of_inG hG
    exact .inl ⟨g, hg, hc, orb_group hg hc⟩
  · have hp := orb_plain h0 h1 hG
    by_cases hg : greatB c = true
    · rw [if_pos hg] at hp
      exact .inr (.inl ⟨hG, hg, hp⟩)
    · rw [if_neg hg] at hp
      have hg' : greatB c = false := by simpa using hg
      by_cases hs : 32 ≤ c ∧ greatB (c - 32) = true
      · rw [if_pos hs] at hp
        exact .inr (.inr (.inl ⟨hG, hg', hs.1, hs.2, hp⟩))
      · rw [if_neg hs] at hp
        exact .inr (.inr (.inr ⟨hG, hg', hs, hp⟩))
theorem orb_self (c : Int) (h0 : 0 ≤ c) (h1 : c ≤ 1114111) : c ∈ orbR c := by
  rcases orb_cases c h0 h1 with ⟨g, _, hc, e⟩ | ⟨_, _, e⟩ | ⟨_, _, _, _, e⟩ | ⟨_, _, _, e⟩ <;> rw [e] <;> first | exact hc | simp
theorem orb_rune (c : Int) (h0 : 0 ≤ c) (h1 : c ≤ 1114111) : ∀ d ∈ orbR c, 0 ≤ d ∧ d ≤ 1114111 := by
  intro d hd
  rcases orb_cases c h0 h1 with ⟨g, hg, hc, e⟩ | ⟨_, hg, e⟩ | ⟨_, _, h32, hg, e⟩ | ⟨_, _, _, e⟩ <;> rw [e] at hd
  · have := inG_of hg hd
    unfold InG at this
    omega
  · have := greatB_bound hg
    simp at hd
    omega
  · have := greatB_bound hg
    simp at hd
    omega
  · simp at hd
    omega
theorem orb_len (c : Int) : (orbR c).length ≤ 3 := by
  by_cases h : 0 ≤ c ∧ c ≤ 1114111
  · rcases orb_cases c h.1 h.2 with ⟨g, hg, hc, e⟩ | ⟨_, hg, e⟩ | ⟨_, _, h32, hg, e⟩ | ⟨_, _, _, e⟩ <;> rw [e]
    · exact (groups_rise g hg).2
    · simp
    · simp
    · simp
  · rw [orb_none (by omega)]
    simp
theorem orb_high (c : Int) (h0 : 12288 ≤ c) (h1 : c ≤ 1114111) : orbR c = [c] := by
  rcases orb_cases c (by omega) h1 with ⟨g, hg, hc, e⟩ | ⟨_, hg, e⟩ | ⟨_, _, h32, hg, e⟩ | ⟨_, _, _, e⟩
  · have := inG_of hg hc
    unfold InG at this
    omega
  · have := greatB_bound hg
    omega
  · have := greatB_bound hg
    omega
  · exact e
/-- All of an orbit have the same one. -/
theorem orb_same (c d : Int) (h : d ∈ orbR c) : orbR d = orbR c := by
  by_cases hc : 0 ≤ c ∧ c ≤ 1114111
  · rcases orb_cases c hc.1 hc.2 with ⟨g, hg, hcg, e⟩ | ⟨hi, hg, e⟩ | ⟨hi, hgf, h32, hg, e⟩ | ⟨_, _, _, e⟩ <;> rw [e] at h ⊢
    · exact orb_group hg h
    · have hb := greatB_bound hg
      have hgi := (great_iff c).1 hg
      simp at h
      rcases h with rfl | rfl
      · exact e
      · have hn : ¬ InG (c + 32) := by
          unfold InG at hi ⊢
          omega
        have hng : greatB (c + 32) = false := by
          cases h : greatB (c + 32)
          · rfl
          · have := (great_iff _).1 h
            omega
        have hs : c + 32 - 32 = c := by omega
        rw [orb_plain (by omega) (by omega) hn, hng, hs, hg]
        simp
        omega
    · have hb := greatB_bound hg
      have hgi := (great_iff _).1 hg
      simp at h
      rcases h with rfl | rfl
      · have hn : ¬ InG (c - 32) := by
          unfold InG at hi ⊢
          omega
        have hs : c - 32 + 32 = c := by omega
        rw [orb_plain (by omega) (by omega) hn, hg, hs]
        simp
      · exact e
    · simp at h
      rw [h]
      exact e
  · rw [orb_none (by omega)] at h
    simp at h
theorem orb_rise (c : Int) : RiseN (orbR c) := by
  by_cases h : 0 ≤ c ∧ c ≤ 1114111
  · rcases orb_cases c h.1 h.2 with ⟨g, hg, hc, e⟩ | ⟨_, hg, e⟩ | ⟨_, _, h32, hg, e⟩ | ⟨_, _, _, e⟩ <;> rw [e]
    · exact (groups_rise g hg).1
    · simp [RiseN]
      omega
    · simp [RiseN]
      omega
    · simp [RiseN]
  · rw [orb_none (by omega)]
    exact List.Pairwise.nil
/-- The runes of the orbits of all that l has. -/
def FoldP (l : List (Int × Int)) (c : Int) : Prop := ∃ d, HasR l d ∧ c ∈ orbR d
theorem fold_split (l : List (Int × Int)) (c : Int) : FoldP l c ↔ HasR l c ∨ ∃ d, HasR l d ∧ d < 12288 ∧ c ∈ orbR d := by
  constructor
  · rintro ⟨d, hd, hc⟩
    by_cases h : d < 12288
    · exact .inr ⟨d, hd, h, hc⟩
    · rw [orb_high d (by omega) hd.2.1] at hc
      have : c = d := by simpa using hc
      rw [this]
      exact .inl hd
  · rintro (h | ⟨d, hd, _, hc⟩)
    · exact ⟨c, h, orb_self c h.1 h.2.1⟩
    · exact ⟨d, hd, hc⟩
/-- Folding twice is folding once. -/
theorem fold_twice (l k : List (Int × Int)) (h : ∀ c, HasR k c ↔ FoldP l c) (c : Int) : FoldP k c ↔ FoldP l c := by
  constructor
  · rintro ⟨d, hd, hc⟩
    obtain ⟨e, he, hd'⟩ := (h d).1 hd
    exact ⟨e, he, by rw [← orb_same e d hd']; exact hc⟩
  · rintro ⟨d, hd, hc⟩
    exact ⟨c, (h c).2 ⟨d, hd, hc⟩, by have := orb_rune d hd.1 hd.2.1 c hc; exact orb_self c this.1 this.2⟩
end Go.Proofs.YtmaigjdmjmonbaaGreatDoor
/- The program's runs: a literal of runes, two by two, as a fresh row of ranges. -/
namespace Go.Proofs.YtmaigjdmjmonbaaGreatDoor
open Go Go.RowKit

/-- The slice value v holds the ends of the ranges l, one behind the other. -/
def Ends2 (w : World) (v : Value) (l : List (Int × Int)) : Prop :=
  ∃ b, v = .slice (some ⟨b, 0, none⟩) (l.length * 2) (l.length * 2) ∧ (∀ i (h : i < l.length), w.cell? ⟨b, i * 2, none⟩ = some (.int .i32 l[i].1) ∧ w.cell? ⟨b, i * 2 + 1, none⟩ = some (.int .i32 l[i].2)) ∧ AllI32 l
theorem ends2_lit (w : World) (l : List (Int × Int)) (n : Nat) (cs : Array Value) (hc : cs.toList = cellsR l) (hn : l.length * 2 = n) (hi : AllI32 l) : Ends2 (w.alloc (.cells cs 21)) (.slice (some ⟨w.heap.size, 0, none⟩) n n) l := by
  subst hn
  refine ⟨w.heap.size, rfl, fun i h => ?_, hi⟩
  obtain ⟨h1, h2⟩ := cellsR_at l i h
  rw [cell_of_row _ _ _ _ _ _ (heap_alloc_new w _), cell_of_row _ _ _ _ _ _ (heap_alloc_new w _), ← Array.getElem?_toList, ← Array.getElem?_toList, hc]
  exact ⟨h1, h2⟩
theorem Ends2.below {w w' : World} {v : Value} {l : List (Int × Int)} (h : Ends2 w v l) (hb : Below w.heap.size w w') : Ends2 w' v l := by
  obtain ⟨b, h1, h2, h3⟩ := h
  exact ⟨b, h1, fun i hi => ⟨(hb.cell (World.block_lt_of_cell? w _ (h2 i hi).1)).trans (h2 i hi).1, (hb.cell (World.block_lt_of_cell? w _ (h2 i hi).2)).trans (h2 i hi).2⟩, h3⟩

/-- make([]api.Range, 0, c): a row of the call's own that holds nothing yet. -/
theorem make_runs (c : Nat) (hc : c ≤ 1000000) :
    ∃ C : Array Value, C.size = c * 2 ∧ ∀ W : World, (Instr.makeSlice 24 (.int .i64 0) (.int .i64 (c : Int))).run Tryz.prog W = .ok (.slice (some ⟨W.heap.size, 0, none⟩) 0 c) (W.alloc (.cells C 43)) := by
  obtain ⟨i, hi, h0, h1, h2⟩ := info_parts info_range
  refine ⟨madeCells (Value.agg #[.int .i32 0, .int .i32 0]).cells (c * 2), by rw [size_madeCells], fun W => ?_⟩
  have hr := run_make (P := Tryz.prog) W 24 43 i _ Tryz.underlying24 hi h0 .i64 .i64 0 c (Int.le_refl _) (by omega) (by rw [h2]; omega) (by omega)
  simp only [Int.toNat_zero, Int.toNat_natCast, h1] at hr
  exact hr
theorem own_runs (W : World) (B c : Nat) (C : Array Value) (hB : B ≤ W.heap.size) (hC : C.size = c * 2) (hc : c ≤ 1000000) : OwnR (W.alloc (.cells C 43)) B (.slice (some ⟨W.heap.size, 0, none⟩) 0 c) [] :=
  ⟨⟨rfl, .inr ⟨W.heap.size, c, C, rfl, hB, heap_alloc_new W _, Nat.zero_le _, by unfold maxLen; omega, hC, by simp [cellsR]⟩⟩, by simp [AllI32]⟩

set_option maxHeartbeats 1600000 in
set_option maxRecDepth 100000 in
theorem runs_any (v : Value) (l : List (Int × Int)) (w : World) (h : Ends2 w v l) (hn : l.length ≤ 1000) :
    Calls Tryz.prog 136 #[v] w fun e w' => ∃ v', e = .returned v' ∧ OwnR w' w.heap.size v' l ∧ Below w.heap.size w w' := by
  obtain ⟨b, rfl, h2, h3⟩ := h
  obtain ⟨n, hl⟩ : ∃ n, l.length * 2 = n := ⟨_, rfl⟩
  rw [hl]
  have H3 := Lib.hid h3; have H2 := Lib.hid h2; have HL := Lib.hid hl
  clear h2 h3
  obtain ⟨C, hC, mk⟩ := make_runs l.length (by omega)
  have HO0 := Lib.hid (own_runs w w.heap.size l.length C (Nat.le_refl _) hC (by omega))
  have hq : Int.tdiv (n : Int) 2 = (l.length : Int) := by
    rw [show (n : Int) = (l.length : Int) * 2 by omega]
    exact Int.mul_tdiv_cancel _ (by decide)
  clear hC hl
  go_enter Tryz.func136, Tryz.ntmps136
  go_wp2_with fail
  go_loopw [3, 4] (fun vs i wr => ∃ m k : Nat, m ≤ l.length ∧ m * 2 = k ∧ i = .int .i64 k ∧ OwnR wr w.heap.size vs (l.take m) ∧ Below w.heap.size w wr) (fun _ i _ => n - (intOf i).toNat)
  case atStart => exact ⟨0, 0, Nat.zero_le _, rfl, rfl, HO0.out, (Below.refl _ _).alloc (Nat.le_refl _) _⟩
  case round =>
    obtain ⟨m, k, hm, hk, rfl, hO, hB⟩ := hrel
    have HO := Lib.hid hO; have HB := Lib.hid hB
    have hl := HL.out
    clear hO hB
    by_cases hlt : m < l.length
    · obtain ⟨c1w, c2w⟩ := H2.out m hlt
      obtain ⟨⟨x1, x2⟩, hx⟩ : ∃ x, l[m] = x := ⟨_, rfl⟩
      rw [hx, hk] at c1w c2w
      have hsp : l.take (m + 1) = l.take m ++ [(x1, x2)] := by rw [List.take_succ_eq_append_getElem hlt, hx]
      have hxi := H3.out (x1, x2) (by rw [← hx]; exact List.getElem_mem hlt)
      have c1 := (HB.out.cell (World.block_lt_of_cell? w _ c1w)).trans c1w
      have c2 := (HB.out.cell (World.block_lt_of_cell? w _ c2w)).trans c2w
      have C1 := Lib.hid c1w; have C2 := Lib.hid c2w
      have HSP := Lib.hid hsp; have HXI := Lib.hid hxi; have HK := Lib.hid hk
      have hsz := HB.out.size
      have kn : k < n := by omega
      have kn1 : k + 1 < n := by omega
      have i0 : (0 : Int) ≤ (k : Int) := by omega
      have i1 : (k : Int) < (n : Int) := by omega
      have i2 : (0 : Int) ≤ (k : Int) + 1 := by omega
      have i3 : (k : Int) + 1 < (n : Int) := by omega
      have hw1 : IntKind.i64.wrap ((k : Int) + 1) = (k : Int) + 1 := by rw [show (k : Int) + 1 = ((k + 1 : Nat) : Int) by omega]; exact wrap_nat _ (by omega)
      have e2 : ((k : Int) + 1).toNat = k + 1 := by omega
      clear hsp hx hxi c1w c2w hk hl
      go_upto_region 5 with (fail)
      go_region_held3 (fun w' => w'.cell? ⟨b, k, none⟩ = some (.int .i32 x1) ∧ w'.cell? ⟨b, k + 1, none⟩ = some (.int .i32 x2)) (first | go_keep | exact ⟨c1, c2⟩ | (constructor <;> assumption)) (first | (refine step_append_rgs rfl (.tmp 15) (.tmp 26) rfl w.heap.size _ (l.take m) rfl (HO.out.below ((Below.refl _ wr).alloc (Nat.le_refl _) _).drew) wr.heap.size x1 x2 rfl ((rgs_new wr x1 x2 HXI.out.1 HXI.out.2).below (Below.refl _ _).drew) (by rw [List.length_take]; omega) (by simp; omega) ?_; intro v3 w3 ho3 hg3; have hB3 := Lib.hid (((HB.out.alloc HB.out.size _).drew).grown hg3 (by simp; omega) (fun j hj => (HO.out.1.lt j hj).1)); have k1 := (hB3.out.cell (World.block_lt_of_cell? w _ C1.out)).trans C1.out; have k2 := (hB3.out.cell (World.block_lt_of_cell? w _ C2.out)).trans C2.out))
      have HO3 := Lib.hid ho3
      clear ho3 hg3 k1 k2 c1 c2
      have hw2 : IntKind.i64.wrap ((k : Int) + 2) = (k : Int) + 2 := by rw [show (k : Int) + 2 = ((k + 2 : Nat) : Int) by omega]; exact wrap_nat _ (by have hl := HL.out; omega)
      go_wp2
      go_roundw
      case rel =>
        have hl := HL.out
        exact ⟨m + 1, k + 2, by omega, by have := HK.out; omega, rfl, by rw [HSP.out]; exact HO3.out, hB3.out⟩
      case measure =>
        have hl := HL.out
        simp only [intOf]
        omega
    · have e : l.take m = l := List.take_of_length_le (by omega)
      have ho := HO.out
      rw [e] at ho
      have HO' := Lib.hid ho
      have i1 : ¬ (k : Int) < (n : Int) := by omega
      clear ho e hk hl
      go_wp2
      go_ret
      exact ⟨_, rfl, HO'.out, HB.out⟩
end Go.Proofs.YtmaigjdmjmonbaaGreatDoor
/- The document's set of a name between colons, without a sign ahead. -/
namespace Go.Proofs.YtmaigjdmjmonbaaGreatDoor
open Go Go.RowKit

set_option maxHeartbeats 4000000 in
set_option maxRecDepth 100000 in
theorem rplain_any (s : ByteArray) (w : World) : Calls Tryz.prog 63 #[.string s] w (Post2 (plainR s.toList) w) := by
  obtain ⟨b, hb⟩ : ∃ b, s.toList = b := ⟨_, rfl⟩
  unfold Post2
  rw [hb]
  have HS := Lib.hid hb
  clear hb
  go_enter Tryz.func63, Tryz.ntmps63
  go_upto_if 5 with (fail)
  rw [HS.out]
  by_cases h0 : b = [97, 108, 110, 117, 109]
  · subst h0
    rw [show (([97, 108, 110, 117, 109] : List UInt8) == [97, 108, 110, 117, 109]) = true by rfl]
    go_wp2_with fail
    refine (rset4_any _ [(48, 57), (65, 90), (97, 122)] _ (rgs_lit w 84 _ _ _ rfl (by unfold AllI32 I32; decide) rfl (by unfold maxLen; decide)) (by decide)).mono ?_
    rintro e w1 ⟨v1, rfl, ho, hb⟩
    have HB := Lib.hid ((((Below.refl _ w).alloc (Nat.le_refl _) _).trans (hb.mono (by simp))))
    have HO := Lib.hid (ho.mono (B' := w.heap.size) (by simp))
    clear ho hb
    go_wp2_with fail
    go_ret2
    exact ⟨HB.out, .inr ⟨v1, _, rfl, rfl, HO.out⟩⟩
  rw [show (b == [97, 108, 110, 117, 109]) = false by simpa using h0]
  go_upto_if 12 with (fail)
  rw [HS.out]
  by_cases h1 : b = [97, 108, 112, 104, 97]
  · subst h1
    rw [show (([97, 108, 112, 104, 97] : List UInt8) == [97, 108, 112, 104, 97]) = true by rfl]
    go_wp2_with fail
    refine (rset4_any _ [(65, 90), (97, 122)] _ (rgs_lit w 84 _ _ _ rfl (by unfold AllI32 I32; decide) rfl (by unfold maxLen; decide)) (by decide)).mono ?_
    rintro e w1 ⟨v1, rfl, ho, hb⟩
    have HB := Lib.hid ((((Below.refl _ w).alloc (Nat.le_refl _) _).trans (hb.mono (by simp))))
    have HO := Lib.hid (ho.mono (B' := w.heap.size) (by simp))
    clear ho hb
    go_wp2_with fail
    go_ret2
    exact ⟨HB.out, .inr ⟨v1, _, rfl, rfl, HO.out⟩⟩
  rw [show (b == [97, 108, 112, 104, 97]) = false by simpa using h1]
  go_upto_if 18 with (fail)
  rw [HS.out]
  by_cases h2 : b = [97, 115, 99, 105, 105]
  · subst h2
    rw [show (([97, 115, 99, 105, 105] : List UInt8) == [97, 115, 99, 105, 105]) = true by rfl]
    go_wp2_with fail
    refine (rset4_any _ [(0, 127)] _ (rgs_lit w 84 _ _ _ rfl (by unfold AllI32 I32; decide) rfl (by unfold maxLen; decide)) (by decide)).mono ?_
    rintro e w1 ⟨v1, rfl, ho, hb⟩
    have HB := Lib.hid ((((Below.refl _ w).alloc (Nat.le_refl _) _).trans (hb.mono (by simp))))
    have HO := Lib.hid (ho.mono (B' := w.heap.size) (by simp))
    clear ho hb
    go_wp2_with fail
    go_ret2
    exact ⟨HB.out, .inr ⟨v1, _, rfl, rfl, HO.out⟩⟩
  rw [show (b == [97, 115, 99, 105, 105]) = false by simpa using h2]
  go_upto_if 23 with (fail)
  rw [HS.out]
  by_cases h3 : b = [98, 108, 97, 110, 107]
  · subst h3
    rw [show (([98, 108, 97, 110, 107] : List UInt8) == [98, 108, 97, 110, 107]) = true by rfl]
    go_wp2_with fail
    refine (rset4_any _ [(9, 9), (32, 32)] _ (rgs_lit w 84 _ _ _ rfl (by unfold AllI32 I32; decide) rfl (by unfold maxLen; decide)) (by decide)).mono ?_
    rintro e w1 ⟨v1, rfl, ho, hb⟩
    have HB := Lib.hid ((((Below.refl _ w).alloc (Nat.le_refl _) _).trans (hb.mono (by simp))))
    have HO := Lib.hid (ho.mono (B' := w.heap.size) (by simp))
    clear ho hb
    go_wp2_with fail
    go_ret2
    exact ⟨HB.out, .inr ⟨v1, _, rfl, rfl, HO.out⟩⟩
  rw [show (b == [98, 108, 97, 110, 107]) = false by simpa using h3]
  go_upto_if 29 with (fail)
  rw [HS.out]
  by_cases h4 : b = [99, 110, 116, 114, 108]
  · subst h4
    rw [show (([99, 110, 116, 114, 108] : List UInt8) == [99, 110, 116, 114, 108]) = true by rfl]
    go_wp2_with fail
    refine (rset4_any _ [(0, 31), (127, 127)] _ (rgs_lit w 84 _ _ _ rfl (by unfold AllI32 I32; decide) rfl (by unfold maxLen; decide)) (by decide)).mono ?_
    rintro e w1 ⟨v1, rfl, ho, hb⟩
    have HB := Lib.hid ((((Below.refl _ w).alloc (Nat.le_refl _) _).trans (hb.mono (by simp))))
    have HO := Lib.hid (ho.mono (B' := w.heap.size) (by simp))
    clear ho hb
    go_wp2_with fail
    go_ret2
    exact ⟨HB.out, .inr ⟨v1, _, rfl, rfl, HO.out⟩⟩
  rw [show (b == [99, 110, 116, 114, 108]) = false by simpa using h4]
  go_upto_if 35 with (fail)
  rw [HS.out]
  by_cases h5 : b = [100, 105, 103, 105, 116]
  · subst h5
    rw [show (([100, 105, 103, 105, 116] : List UInt8) == [100, 105, 103, 105, 116]) = true by rfl]
    go_wp2_with fail
    refine (rset4_any _ [(48, 57)] _ (rgs_lit w 84 _ _ _ rfl (by unfold AllI32 I32; decide) rfl (by unfold maxLen; decide)) (by decide)).mono ?_
    rintro e w1 ⟨v1, rfl, ho, hb⟩
    have HB := Lib.hid ((((Below.refl _ w).alloc (Nat.le_refl _) _).trans (hb.mono (by simp))))
    have HO := Lib.hid (ho.mono (B' := w.heap.size) (by simp))
    clear ho hb
    go_wp2_with fail
    go_ret2
    exact ⟨HB.out, .inr ⟨v1, _, rfl, rfl, HO.out⟩⟩
  rw [show (b == [100, 105, 103, 105, 116]) = false by simpa using h5]
  go_upto_if 40 with (fail)
  rw [HS.out]
  by_cases h6 : b = [103, 114, 97, 112, 104]
  · subst h6
    rw [show (([103, 114, 97, 112, 104] : List UInt8) == [103, 114, 97, 112, 104]) = true by rfl]
    go_wp2_with fail
    refine (rset4_any _ [(33, 126)] _ (rgs_lit w 84 _ _ _ rfl (by unfold AllI32 I32; decide) rfl (by unfold maxLen; decide)) (by decide)).mono ?_
    rintro e w1 ⟨v1, rfl, ho, hb⟩
    have HB := Lib.hid ((((Below.refl _ w).alloc (Nat.le_refl _) _).trans (hb.mono (by simp))))
    have HO := Lib.hid (ho.mono (B' := w.heap.size) (by simp))
    clear ho hb
    go_wp2_with fail
    go_ret2
    exact ⟨HB.out, .inr ⟨v1, _, rfl, rfl, HO.out⟩⟩
  rw [show (b == [103, 114, 97, 112, 104]) = false by simpa using h6]
  go_upto_if 45 with (fail)
  rw [HS.out]
  by_cases h7 : b = [108, 111, 119, 101, 114]
  · subst h7
    rw [show (([108, 111, 119, 101, 114] : List UInt8) == [108, 111, 119, 101, 114]) = true by rfl]
    go_wp2_with fail
    refine (rset4_any _ [(97, 122)] _ (rgs_lit w 84 _ _ _ rfl (by unfold AllI32 I32; decide) rfl (by unfold maxLen; decide)) (by decide)).mono ?_
    rintro e w1 ⟨v1, rfl, ho, hb⟩
    have HB := Lib.hid ((((Below.refl _ w).alloc (Nat.le_refl _) _).trans (hb.mono (by simp))))
    have HO := Lib.hid (ho.mono (B' := w.heap.size) (by simp))
    clear ho hb
    go_wp2_with fail
    go_ret2
    exact ⟨HB.out, .inr ⟨v1, _, rfl, rfl, HO.out⟩⟩
  rw [show (b == [108, 111, 119, 101, 114]) = false by simpa using h7]
  go_upto_if 50 with (fail)
  rw [HS.out]
  by_cases h8 : b = [112, 114, 105, 110, 116]
  · subst h8
    rw [show (([112, 114, 105, 110, 116] : List UInt8) == [112, 114, 105, 110, 116]) = true by rfl]
    go_wp2_with fail
    refine (rset4_any _ [(32, 126)] _ (rgs_lit w 84 _ _ _ rfl (by unfold AllI32 I32; decide) rfl (by unfold maxLen; decide)) (by decide)).mono ?_
    rintro e w1 ⟨v1, rfl, ho, hb⟩
    have HB := Lib.hid ((((Below.refl _ w).alloc (Nat.le_refl _) _).trans (hb.mono (by simp))))
    have HO := Lib.hid (ho.mono (B' := w.heap.size) (by simp))
    clear ho hb
    go_wp2_with fail
    go_ret2
    exact ⟨HB.out, .inr ⟨v1, _, rfl, rfl, HO.out⟩⟩
  rw [show (b == [112, 114, 105, 110, 116]) = false by simpa using h8]
  go_upto_if 55 with (fail)
  rw [HS.out]
  by_cases h9 : b = [112, 117, 110, 99, 116]
  · subst h9
    rw [show (([112, 117, 110, 99, 116] : List UInt8) == [112, 117, 110, 99, 116]) = true by rfl]
    go_wp2_with fail
    refine (rset4_any _ [(33, 47), (58, 64), (91, 96), (123, 126)] _ (rgs_lit w 84 _ _ _ rfl (by unfold AllI32 I32; decide) rfl (by unfold maxLen; decide)) (by decide)).mono ?_
    rintro e w1 ⟨v1, rfl, ho, hb⟩
    have HB := Lib.hid ((((Below.refl _ w).alloc (Nat.le_refl _) _).trans (hb.mono (by simp))))
    have HO := Lib.hid (ho.mono (B' := w.heap.size) (by simp))
    clear ho hb
    go_wp2_with fail
    go_ret2
    exact ⟨HB.out, .inr ⟨v1, _, rfl, rfl, HO.out⟩⟩
  rw [show (b == [112, 117, 110, 99, 116]) = false by simpa using h9]
  go_upto_if 63 with (fail)
  rw [HS.out]
  by_cases h10 : b = [115, 112, 97, 99, 101]
  · subst h10
    rw [show (([115, 112, 97, 99, 101] : List UInt8) == [115, 112, 97, 99, 101]) = true by rfl]
    go_wp2_with fail
    refine (rset4_any _ [(9, 13), (32, 32)] _ (rgs_lit w 84 _ _ _ rfl (by unfold AllI32 I32; decide) rfl (by unfold maxLen; decide)) (by decide)).mono ?_
    rintro e w1 ⟨v1, rfl, ho, hb⟩
    have HB := Lib.hid ((((Below.refl _ w).alloc (Nat.le_refl _) _).trans (hb.mono (by simp))))
    have HO := Lib.hid (ho.mono (B' := w.heap.size) (by simp))
    clear ho hb
    go_wp2_with fail
    go_ret2
    exact ⟨HB.out, .inr ⟨v1, _, rfl, rfl, HO.out⟩⟩
  rw [show (b == [115, 112, 97, 99, 101]) = false by simpa using h10]
  go_upto_if 69 with (fail)
  rw [HS.out]
  by_cases h11 : b = [117, 112, 112, 101, 114]
  · subst h11
    rw [show (([117, 112, 112, 101, 114] : List UInt8) == [117, 112, 112, 101, 114]) = true by rfl]
    go_wp2_with fail
    refine (rset4_any _ [(65, 90)] _ (rgs_lit w 84 _ _ _ rfl (by unfold AllI32 I32; decide) rfl (by unfold maxLen; decide)) (by decide)).mono ?_
    rintro e w1 ⟨v1, rfl, ho, hb⟩
    have HB := Lib.hid ((((Below.refl _ w).alloc (Nat.le_refl _) _).trans (hb.mono (by simp))))
    have HO := Lib.hid (ho.mono (B' := w.heap.size) (by simp))
    clear ho hb
    go_wp2_with fail
    go_ret2
    exact ⟨HB.out, .inr ⟨v1, _, rfl, rfl, HO.out⟩⟩
  rw [show (b == [117, 112, 112, 101, 114]) = false by simpa using h11]
  go_upto_if 74 with (fail)
  rw [HS.out]
  by_cases h12 : b = [119, 111, 114, 100]
  · subst h12
    rw [show (([119, 111, 114, 100] : List UInt8) == [119, 111, 114, 100]) = true by rfl]
    go_wp2_with fail
    refine (rset4_any _ [(48, 57), (65, 90), (95, 95), (97, 122)] _ (rgs_lit w 84 _ _ _ rfl (by unfold AllI32 I32; decide) rfl (by unfold maxLen; decide)) (by decide)).mono ?_
    rintro e w1 ⟨v1, rfl, ho, hb⟩
    have HB := Lib.hid ((((Below.refl _ w).alloc (Nat.le_refl _) _).trans (hb.mono (by simp))))
    have HO := Lib.hid (ho.mono (B' := w.heap.size) (by simp))
    clear ho hb
    go_wp2_with fail
    go_ret2
    exact ⟨HB.out, .inr ⟨v1, _, rfl, rfl, HO.out⟩⟩
  rw [show (b == [119, 111, 114, 100]) = false by simpa using h12]
  go_upto_if 82 with (fail)
  rw [HS.out]
  by_cases h13 : b = [120, 100, 105, 103, 105, 116]
  · subst h13
    rw [show (([120, 100, 105, 103, 105, 116] : List UInt8) == [120, 100, 105, 103, 105, 116]) = true by rfl]
    go_wp2_with fail
    refine (rset4_any _ [(48, 57), (65, 70), (97, 102)] _ (rgs_lit w 84 _ _ _ rfl (by unfold AllI32 I32; decide) rfl (by unfold maxLen; decide)) (by decide)).mono ?_
    rintro e w1 ⟨v1, rfl, ho, hb⟩
    have HB := Lib.hid ((((Below.refl _ w).alloc (Nat.le_refl _) _).trans (hb.mono (by simp))))
    have HO := Lib.hid (ho.mono (B' := w.heap.size) (by simp))
    clear ho hb
    go_wp2_with fail
    go_ret2
    exact ⟨HB.out, .inr ⟨v1, _, rfl, rfl, HO.out⟩⟩
  rw [show (b == [120, 100, 105, 103, 105, 116]) = false by simpa using h13]
  go_wp2_with fail
  go_ret2
  exact ⟨Below.refl _ _, .inl ⟨by unfold plainR; simp [h0, h1, h2, h3, h4, h5, h6, h7, h8, h9, h10, h11, h12, h13], rfl⟩⟩
end Go.Proofs.YtmaigjdmjmonbaaGreatDoor
/- The document's set of a name between colons. -/
namespace Go.Proofs.YtmaigjdmjmonbaaGreatDoor
open Go Go.RowKit

set_option maxHeartbeats 1600000 in
theorem rposix_any (s : ByteArray) (w : World) : Calls Tryz.prog 45 #[.string s] w (Post2 (posixR s.toList) w) := by
  unfold Post2
  by_cases h0 : 0 < s.size
  · have hb := byte_94 s[0]
    by_cases hx : s[0] = 94
    · rw [decide_eq_true hx] at hb
      have hp : posixR s.toList = (plainR (s.extract 1 s.size).toList).map notR := by
        unfold posixR
        rw [head_of s h0, hx, if_pos rfl, tail_of]
      have HP := Lib.hid hp; have HR := Lib.hid (rplain_any (s.extract 1 s.size) w)
      clear hx hp
      go_enter Tryz.func45, Tryz.ntmps45
      go_wp2_with fail
      refine HR.out.mono ?_
      rintro e w1 ⟨hb, ⟨hx, rfl⟩ | ⟨v, k, hx, rfl, ho⟩⟩
      · have HX := Lib.hid hx; have HB := Lib.hid hb
        clear hx hb
        go_wp2_with fail
        go_ret2
        exact ⟨HB.out, .inl ⟨by rw [HP.out, HX.out]; rfl, rfl⟩⟩
      · have HX := Lib.hid hx; have HB := Lib.hid hb; have HO := Lib.hid ho
        have hlen : k.length ≤ 1099511627776 := by have := right_len k 0 (by omega) (plain_right hx); omega
        have HL := Lib.hid hlen
        clear hx hb ho hlen
        go_wp2_with fail
        refine (rnotR_any v k w1 HO.out.rgs (plain_right HX.out) HL.out).mono ?_
        rintro e w2 ⟨v2, rfl, ho, hb⟩
        have HB2 := Lib.hid (HB.out.trans (hb.mono HB.out.size)); have HO2 := Lib.hid (ho.mono HB.out.size)
        clear ho hb
        go_wp2_with fail
        go_ret2
        exact ⟨HB2.out, .inr ⟨v2, _, by rw [HP.out, HX.out]; rfl, rfl, HO2.out⟩⟩
    · rw [decide_eq_false hx] at hb
      have hp : posixR s.toList = plainR s.toList := by
        unfold posixR
        rw [head_of s h0, if_neg (fun e => hx (Option.some.inj e))]
      have HP := Lib.hid hp; have HR := Lib.hid (rplain_any s w)
      clear hx hp
      go_enter Tryz.func45, Tryz.ntmps45
      go_wp2_with fail
      refine HR.out.mono ?_
      rintro e w1 ⟨hb, ⟨hx, rfl⟩ | ⟨v, k, hx, rfl, ho⟩⟩
      · have HX := Lib.hid hx; have HB := Lib.hid hb
        clear hx hb
        go_wp2_with fail
        go_ret2
        exact ⟨HB.out, .inl ⟨by rw [HP.out, HX.out], rfl⟩⟩
      · have HX := Lib.hid hx; have HB := Lib.hid hb; have HO := Lib.hid ho
        clear hx hb ho
        go_wp2_with fail
        go_ret2
        exact ⟨HB.out, .inr ⟨v, k, by rw [HP.out, HX.out], rfl, HO.out⟩⟩
  · have hz : s.size = 0 := by omega
    have hp : posixR s.toList = plainR s.toList := by
      unfold posixR
      rw [empty_of s h0]
      rfl
    have HP := Lib.hid hp; have HR := Lib.hid (rplain_any s w)
    clear hp
    go_enter Tryz.func45, Tryz.ntmps45
    go_wp2_with fail
    refine HR.out.mono ?_
    rintro e w1 ⟨hb, ⟨hx, rfl⟩ | ⟨v, k, hx, rfl, ho⟩⟩
    · have HX := Lib.hid hx; have HB := Lib.hid hb
      clear hx hb
      go_wp2_with fail
      go_ret2
      exact ⟨HB.out, .inl ⟨by rw [HP.out, HX.out], rfl⟩⟩
    · have HX := Lib.hid hx; have HB := Lib.hid hb; have HO := Lib.hid ho
      clear hx hb ho
      go_wp2_with fail
      go_ret2
      exact ⟨HB.out, .inr ⟨v, k, by rw [HP.out, HX.out], rfl, HO.out⟩⟩
end Go.Proofs.YtmaigjdmjmonbaaGreatDoor
/- What a dot stands for. -/
namespace Go.Proofs.YtmaigjdmjmonbaaGreatDoor
open Go Go.RowKit

end Go.Proofs.YtmaigjdmjmonbaaGreatDoor
/- The document's Union: a fresh row of a set. -/
namespace Go.Proofs.YtmaigjdmjmonbaaGreatDoor
open Go Go.RowKit

set_option maxHeartbeats 800000 in
set_option maxRecDepth 100000 in
theorem runion_any (va vb : Value) (a b : List (Int × Int)) (w : World) (ha : Rgs w va a) (hb : Rgs w vb b) (hn : a.length + b.length ≤ 1099511627776) :
    Calls Tryz.prog 17 #[va, vb] w (SetPost (fun c => HasR a c ∨ HasR b c) w) := by
  have HA := Lib.hid ha; have HB := Lib.hid hb
  obtain ⟨A, ca, rfl, -⟩ := ha
  obtain ⟨B, cb, rfl, -⟩ := hb
  go_enter Tryz.func17, Tryz.ntmps17
  go_wp2_with (at_builtin; refine append_rgs rfl (.tmp 5) (.tmp 6) rfl w.heap.size _ [] rfl (own_lit' w w.heap.size w.heap.size rfl (Nat.le_refl _)) A a.length ca a rfl (HA.out.below ((Below.refl _ w).alloc (Nat.le_refl _) _)) ?b2 ?b3 ?_)
  case b2 => simp <;> omega
  case b3 => simp
  intro v1 w1 ho1 hg1
  try simp only [List.nil_append] at ho1
  have HB1 := Lib.hid (((Below.refl _ w).alloc (Nat.le_refl _) (.cells #[] 43)).grown hg1 (by simp) (by simp [Value.ownBlock]))
  have HO1 := Lib.hid ho1
  clear ho1 hg1
  go_wp2_with (at_builtin; refine append_rgs rfl (.tmp 7) (.tmp 8) rfl w.heap.size v1 a rfl HO1.out B b.length cb b rfl (HB.out.below HB1.out) ?c2 ?c3 ?_)
  case c2 => omega
  case c3 => exact HB1.out.size
  intro v2 w2 ho2 hg2
  have HB2 := Lib.hid (HB1.out.grown hg2 HB1.out.size (fun j hj => (HO1.out.1.lt j hj).1))
  have HO2 := Lib.hid ho2
  clear ho2 hg2
  go_wp2_with fail
  refine (rnorm_any v2 (a ++ b) w2 HO2.out.rgs (by simp; omega)).mono ?_
  rintro e w3 ⟨v3, k, rfl, hO, hR, hP, hB3⟩
  have HO3 := Lib.hid hO; have HR := Lib.hid hR; have HP := Lib.hid hP; have HB3 := Lib.hid hB3
  clear hO hR hP hB3
  go_wp2
  go_ret
  exact ⟨_, k, rfl, HO3.out.mono HB2.out.size, HR.out, fun c => by rw [HP.out, has_append], HB2.out.trans (HB3.out.mono HB2.out.size)⟩

end Go.Proofs.YtmaigjdmjmonbaaGreatDoor
/- The document's Fold: a fresh row of the set of all orbits. -/
namespace Go.Proofs.YtmaigjdmjmonbaaGreatDoor
open Go Go.RowKit

/-- What is gathered behind the ranges T and the runes from x up to f. -/
def More (T : List (Int × Int)) (x f : Int) (M : List (Int × Int)) : Prop :=
  (∀ c, HasR M c ↔ (∃ d, HasR T d ∧ d < 12288 ∧ c ∈ orbR d) ∨ ∃ d, x ≤ d ∧ d < f ∧ c ∈ orbR d) ∧ (M.length : Int) ≤ 3 * f
theorem more_next {T : List (Int × Int)} {x f : Int} {M : List (Int × Int)} (h : More T x f M) (hx : x ≤ f) (h0 : 0 ≤ f) (h1 : f ≤ 1114111) : More T x (f + 1) (M ++ (orbR f).map fun c => (c, c)) := by
  obtain ⟨h2, h3⟩ := h
  refine ⟨fun c => ?_, ?_⟩
  · have hm : HasR ((orbR f).map fun c => (c, c)) c ↔ c ∈ orbR f := by
      constructor
      · rintro ⟨_, _, r, hr, h4, h5⟩
        obtain ⟨y, hy, rfl⟩ := List.mem_map.1 hr
        have : c = y := by simp only at h4 h5; omega
        rw [this]
        exact hy
      · intro hc
        have hb := orb_rune f h0 h1 c hc
        exact ⟨hb.1, hb.2, (c, c), List.mem_map.2 ⟨c, hc, rfl⟩, Int.le_refl _, Int.le_refl _⟩
    rw [has_append, h2, hm]
    constructor
    · rintro ((h | ⟨d, h4, h5, h6⟩) | h)
      · exact .inl h
      · exact .inr ⟨d, h4, by omega, h6⟩
      · exact .inr ⟨f, hx, by omega, h⟩
    · rintro (h | ⟨d, h4, h5, h6⟩)
      · exact .inl (.inl h)
      · by_cases hd : d = f
        · subst hd
          exact .inr h6
        · exact .inl (.inr ⟨d, h4, by omega, h6⟩)
  · have := orb_len f
    rw [List.length_append, List.length_map]
    omega
theorem more_end {T : List (Int × Int)} {x y f : Int} {M : List (Int × Int)} (h : More T x f M) (hx0 : 0 ≤ x) (hy : y ≤ 1114111) (hxy : x ≤ y) (hf : f ≤ y + 1) (hstop : f = y + 1 ∨ 12288 ≤ f) (hlow : f ≤ 12288 ∨ f = x) (g : Int) (hg : y + 2 ≤ g) (hxf : x ≤ f) : More (T ++ [(x, y)]) g g M := by
  obtain ⟨h2, h3⟩ := h
  refine ⟨fun c => ?_, by omega⟩
  rw [h2]
  constructor
  · rintro (⟨d, h4, h5, h6⟩ | ⟨d, h4, h5, h6⟩)
    · exact .inl ⟨d, (has_append _ _ _).2 (.inl h4), h5, h6⟩
    · exact .inl ⟨d, (has_append _ _ _).2 (.inr ((has_one _ _).2 ⟨by omega, by omega, h4, by show d ≤ y; omega⟩)), by omega, h6⟩
  · rintro (⟨d, h4, h5, h6⟩ | ⟨d, h4, h5, h6⟩)
    · rcases (has_append _ _ _).1 h4 with h7 | h7
      · exact .inl ⟨d, h7, h5, h6⟩
      · obtain ⟨_, _, h8, h9⟩ := (has_one _ _).1 h7
        have h8' : x ≤ d := h8
        have h9' : d ≤ y := h9
        exact .inr ⟨d, h8', by omega, h6⟩
    · omega

theorem own_ne {w : World} {base base' : Nat} {e e' : TypeId} {s s' n n' : Nat} {v v' : Value} {xs xs' : List Value} (h : w.ownsRow base e s v n xs) (h' : w.ownsRow base' e' s' v' n' xs') (hne : e ≠ e') : v.ownBlock = none ∨ v.ownBlock ≠ v'.ownBlock := by
  rcases h.2 with ⟨rfl, _⟩ | ⟨q, cap, cur, rfl, _, hh, _⟩
  · exact .inl rfl
  · refine .inr fun he => ?_
    rcases h'.2 with ⟨rfl, _⟩ | ⟨q', cap', cur', rfl, _, hh', _⟩
    · simp [Value.ownBlock] at he
    · obtain rfl : q = q' := by simpa [Value.ownBlock] using he
      rw [hh] at hh'
      injection hh' with h1
      injection h1 with _ h2
      exact hne h2
/-- A list of runes is as it was behind an append onto a row of ranges. -/
theorem OwnN.append {w w1 : World} {B B' : Nat} {v u : Value} {l : List Int} {O : List (Int × Int)} {tmp : Obj} (h : OwnN w B v l) (ho : OwnR w B' u O) (hg : ((w.alloc tmp).drew).grownBy w1 u.ownBlock) : OwnN w1 B v l := by
  have hb : Below w.heap.size w ((w.alloc tmp).drew) := ((Below.refl _ w).alloc (Nat.le_refl _) _).drew
  have h1 := h.below hb
  have h2 := ho.below hb
  exact ⟨h1.1.kept hg (own_ne h1.1 h2.1 (by decide)), h1.2⟩

def lenOf : Value → Nat
  | .slice _ n _ => n
  | _ => 0
theorem rgs_none (w : World) : Rgs w (.slice none 0 0) [] := ⟨none, 0, rfl, Nat.le_refl _, by unfold maxLen; omega, fun _ => rfl, .inl rfl, by simp⟩
theorem end_bound : ∀ (l : List (Int × Int)) (lo : Int), lo ≤ 1114113 → RightFrom lo l → endOf lo l ≤ 1114113
  | [], _, h, _ => h
  | r :: l, lo, h, ⟨h1, h2, h3, h4⟩ => end_bound l (r.2 + 2) (by omega) h4

def FoldLoop (w1 : World) (K : List (Int × Int)) (m : Nat) (vm : Value) (wr : World) : Prop :=
  ∃ M, OwnR wr w1.heap.size vm M ∧ More (K.take m) (endOf 0 (K.take m)) (endOf 0 (K.take m)) M ∧ Below w1.heap.size w1 wr

set_option maxHeartbeats 4000000 in
set_option maxRecDepth 100000 in
theorem rfold_any (v : Value) (l : List (Int × Int)) (w : World) (h : Rgs w v l) (hn : l.length ≤ 1099511627776) :
    Calls Tryz.prog 27 #[v] w (SetPost (FoldP l) w) := by
  have HN := Lib.hid (rnorm_any v l w h hn)
  go_enter Tryz.func27, Tryz.ntmps27
  go_wp2_with fail
  refine HN.out.mono ?_
  rintro e w1 ⟨v1, K, rfl, hO, hR, hP, hB⟩
  have HO := Lib.hid hO; have HR := Lib.hid hR; have HP := Lib.hid hP; have HB := Lib.hid hB
  have hKl := right_len K 0 (by omega) hR
  have HRG := Lib.hid hO.rgs
  clear hO hR hP hB h
  obtain ⟨A, cA, hv1, hc1, hc2, -⟩ := HRG.out
  subst hv1
  go_wp2_with fail
  go_loopw [4, 5] (fun vm i wr => ∃ m : Nat, m ≤ K.length ∧ i = .int .i64 m ∧ FoldLoop w1 K m vm wr) (fun _ i _ => K.length - (intOf i).toNat)
  case atStart => exact ⟨0, Nat.zero_le _, rfl, [], own_none _ _, ⟨fun c => by simp [HasR, endOf]; intros; omega, by simp [endOf]⟩, Below.refl _ _⟩
  case round =>
    obtain ⟨m, hm, rfl, M, hOM, hMo, hBr⟩ := hrel
    have HOM := Lib.hid hOM; have HMO := Lib.hid hMo; have HBR := Lib.hid hBr
    clear hOM hMo hBr
    by_cases hlt : m < K.length
    · obtain ⟨a', c', e, g2, g3, g4, g5, g6⟩ := HRG.out
      injection e with e1 e2 e3
      subst e1 e3
      rcases g5 with g5 | ⟨b, o, rfl, hc⟩
      · rw [g5] at hlt
        simp at hlt
      obtain ⟨x1, x2, hx, hsp, c1w, c2w⟩ := rgs_at hc m hlt
      have hfit := right_fit K 0 (Int.le_refl _) HR.out (x1, x2) (List.mem_of_getElem? hx)
      unfold Fit at hfit
      simp only at hfit
      have hsR := (right_split K m hlt).1 (right_part K (m + 1) HR.out)
      have hxx : K[m] = (x1, x2) := by
        rw [List.getElem?_eq_getElem hlt] at hx
        exact Option.some.inj hx
      rw [hxx] at hsR
      have hEx : endOf 0 (K.take m) ≤ x1 := hsR.2.1
      have hE2 : endOf 0 (K.take (m + 1)) = x2 + 2 := by rw [end_take K m (by omega), hxx]
      have c1 := (HBR.out.cell (World.block_lt_of_cell? w1 _ c1w)).trans c1w
      have hM0 : More (K.take m) x1 x1 M := by
        obtain ⟨h1, h2⟩ := HMO.out
        refine ⟨fun c => ?_, by omega⟩
        rw [h1]
        constructor
        · rintro (h | ⟨d, h3, h4, h5⟩)
          · exact .inl h
          · omega
        · rintro (h | ⟨d, h3, h4, h5⟩)
          · exact .inl h
          · omega
      have HM0 := Lib.hid hM0; have HSP := Lib.hid hsp; have HE2 := Lib.hid hE2; have C2 := Lib.hid c2w
      clear hx hsp hxx hsR hM0 hE2 hc g6 c1w c2w
      go_wp2_with fail
      go_loopw [4, 6] (fun vm cc wy => ∃ f : Int, cc = .int .i32 f ∧ x1 ≤ f ∧ f ≤ x2 + 1 ∧ (f ≤ 12288 ∨ f = x1) ∧ ∃ M, OwnR wy w1.heap.size vm M ∧ More (K.take m) x1 f M ∧ Below w1.heap.size w1 wy) (fun _ cc _ => (x2 + 1 - intOf cc).toNat)
      case atStart => exact ⟨x1, rfl, Int.le_refl _, by omega, .inr rfl, M, HOM.out, HM0.out, HBR.out⟩
      case round =>
        obtain ⟨f, rfl, hf1, hf2, hf3, M1, hO1, hM1, hB1⟩ := hrel
        have HO1 := Lib.hid hO1; have HM1 := Lib.hid hM1; have HB1 := Lib.hid hB1
        have c2 := (hB1.cell (World.block_lt_of_cell? w1 _ C2.out)).trans C2.out
        clear hO1 hM1 hB1
        by_cases hfx : f ≤ x2
        · by_cases hfl : f < 12288
          · have hszy := HB1.out.size
            go_wp2_with fail
            refine (rorbit_any f _ (by unfold I32; omega)).mono ?_
            rintro e w2 ⟨vo, rfl, ho, hb⟩
            have hol := orb_len f
            obtain ⟨og, hog⟩ : ∃ og, orbR f = og := ⟨_, rfl⟩
            rw [hog] at ho hol
            have HOG := Lib.hid hog
            have HON := Lib.hid (ho.mono (B' := w1.heap.size) HB1.out.size)
            have HB2 := Lib.hid (HB1.out.trans (hb.mono HB1.out.size))
            have HO2 := Lib.hid (HO1.out.below hb)
            have hMl : (M1.length : Int) ≤ 3 * f := HM1.out.2
            have hsz2 := HB2.out.size
            clear ho hb hog
            obtain ⟨ao, co, hvo, -⟩ := HON.out.rns
            subst hvo
            go_wp2_with fail
            go_loopw [4, 8] (fun vm i wz => ∃ k : Nat, k ≤ og.length ∧ i = .int .i64 k ∧ OwnR wz w1.heap.size vm (M1 ++ (og.take k).map fun c => (c, c)) ∧ Below w1.heap.size w1 wz ∧ OwnN wz w1.heap.size (.slice ao og.length co) og) (fun _ i _ => og.length - (intOf i).toNat)
            case atStart => exact ⟨0, Nat.zero_le _, rfl, by simpa using HO2.out, HB2.out, HON.out⟩
            case round =>
              obtain ⟨k, hk, rfl, hO3, hB3, hN3⟩ := hrel
              have HO3 := Lib.hid hO3; have HB3 := Lib.hid hB3; have HN3 := Lib.hid hN3
              have hsz3 := hB3.size
              clear hO3 hB3
              by_cases hkl : k < og.length
              · rcases own_slice1 hN3.1 with ⟨hnl, h0⟩ | ⟨g3, c3, hnl, -, -, -⟩
                · rw [h0] at hkl
                  exact absurd hkl (Nat.not_lt_zero _)
                injection hnl with e1 e2 e3
                subst e1 e3
                clear e2
                obtain ⟨a4, c4, e, -, -, -, f5, f6⟩ := hN3.rns
                injection e with e1 e2 e3
                subst e1 e3
                rcases f5 with f5 | ⟨b3, o3, f8, f7⟩
                · rw [f5] at hkl
                  simp at hkl
                injection f8 with f8
                injection f8 with f8 f9
                subst f8 f9
                obtain ⟨y, hy⟩ : ∃ y, og[k] = y := ⟨_, rfl⟩
                have cy := f7 k hkl
                rw [hy, Nat.zero_add] at cy
                have hyi := f6 og[k] (List.getElem_mem hkl)
                rw [hy] at hyi
                have hsp3 : (og.take (k + 1)).map (fun c => (c, c)) = (og.take k).map (fun c => (c, c)) ++ [(y, y)] := by rw [List.take_succ_eq_append_getElem hkl, hy]; simp
                have hl3 : (M1 ++ (og.take k).map fun c => (c, c)).length + 1 ≤ 17592186044416 := by
                  rw [List.length_append, List.length_map, List.length_take]
                  omega
                have HY := Lib.hid hy; have HYI := Lib.hid hyi; have HSP3 := Lib.hid hsp3; have HL3 := Lib.hid hl3
                clear hy hyi f7 f6 hsp3 hl3 hN3 e2
                go_upto_region 13 with (fail)
                go_region_held3 (fun w' => w'.cell? ⟨g3, k, none⟩ = some (.int .i32 y)) (first | go_keep | exact cy | assumption) (first | (refine step_append_rgs rfl (.tmp 44) (.tmp 54) rfl w1.heap.size _ (M1 ++ (og.take k).map fun c => (c, c)) rfl (HO3.out.below ((Below.refl _ wr).alloc (Nat.le_refl _) _).drew) wr.heap.size y y rfl ((rgs_new wr y y HYI.out HYI.out).below (Below.refl _ _).drew) HL3.out (by simp; omega) ?_; intro v3 w3 ho3 hg3; have hB4 := Lib.hid (((HB3.out.alloc hsz3 _).drew).grown hg3 (by simp; omega) (fun j hj => (HO3.out.1.lt j hj).1)); have hN4 := Lib.hid (HN3.out.append HO3.out hg3); have k1 : w3.cell? ⟨g3, k, none⟩ = some (.int .i32 y) := (by have := hN4.out.1.cells (g := g3) rfl _ _ (litsN_get og k hkl); rw [addr_of, Nat.zero_add, HY.out] at this; exact this)))
                have HO4 := Lib.hid ho3
                clear ho3 hg3 k1 cy
                go_wp2
                go_roundw
                case rel => exact ⟨k + 1, by omega, by go_num, by rw [HSP3.out, ← List.append_assoc]; exact HO4.out, hB4.out, hN4.out⟩
                case measure => simp [intOf]; omega
              · have e : og.take k = og := List.take_of_length_le (by omega)
                have ho := HO3.out
                rw [e] at ho
                have HO4 := Lib.hid ho
                have hmn := more_next HM1.out hf1 (by omega) (by omega)
                rw [HOG.out] at hmn
                have HMN := Lib.hid hmn
                clear ho e hmn hN3
                go_wp2
                go_roundw
                case rel => exact ⟨f + 1, by go_num, by omega, by omega, .inl (by omega), _, HO4.out, HMN.out, HB3.out⟩
                case measure => simp [intOf]; omega
          · have hend := more_end HM1.out (by omega) hfit.2.2 hfit.2.1 hf2 (.inr (by omega)) hf3 (endOf 0 (K.take (m + 1))) (by rw [HE2.out]; omega) hf1
            rw [← HSP.out] at hend
            have HEND := Lib.hid hend
            clear hend
            go_wp2
            go_roundw
            case rel => exact ⟨m + 1, by omega, by go_num, _, HO1.out, HEND.out, HB1.out⟩
            case measure => simp [intOf]; omega
        · have hend := more_end HM1.out (by omega) hfit.2.2 hfit.2.1 hf2 (.inl (by omega)) hf3 (endOf 0 (K.take (m + 1))) (by rw [HE2.out]; omega) hf1
          rw [← HSP.out] at hend
          have HEND := Lib.hid hend
          clear hend
          go_wp2
          go_roundw
          case rel => exact ⟨m + 1, by omega, by go_num, _, HO1.out, HEND.out, HB1.out⟩
          case measure => simp [intOf]; omega
    · have e : K.take m = K := List.take_of_length_le (by omega)
      have hmo := HMO.out
      rw [e] at hmo
      have hE : endOf 0 K ≤ 1114113 := end_bound K 0 (by omega) HR.out
      obtain ⟨q1, q2⟩ := hmo
      have hq : ∀ c, HasR M c ↔ ∃ d, HasR K d ∧ d < 12288 ∧ c ∈ orbR d := fun c => by
        rw [q1]
        constructor
        · rintro (h | ⟨d, h3, h4, _⟩)
          · exact h
          · omega
        · exact .inl
      have HQ := Lib.hid hq
      have hMl : M.length ≤ 3342339 := by omega
      have HRM := Lib.hid HOM.out.rgs
      clear q1 q2 e hq
      obtain ⟨aM, cM, hvm, -⟩ := HRM.out
      subst hvm
      go_wp2_with fail
      go_loopw [4, 9] (fun vm vo wz => ∃ (a : Option Addr) (c : Nat) (R Out : List (Int × Int)), vm = .slice a R.length c ∧ Rgs wz (.slice a R.length c) R ∧ Rgs wz vo Out ∧ (∀ x, (HasR Out x ∨ HasR R x) ↔ HasR M x) ∧ RightR Out ∧ R.length ≤ 3342339 ∧ Below w1.heap.size w1 wz) (fun vm _ _ => lenOf vm)
      case atStart => exact ⟨aM, cM, M, [], rfl, HRM.out, rgs_none _, fun x => by simp [has_nil], trivial, hMl, HBR.out⟩
      case round =>
        obtain ⟨a, c, R, Out, rfl, hR1, hR2, hHas, hRO, hRl, hB2⟩ := hrel
        have HR1 := Lib.hid hR1; have HR2 := Lib.hid hR2; have HH := Lib.hid hHas; have HRO := Lib.hid hRO; have HB2 := Lib.hid hB2
        have hOl := right_len Out 0 (by omega) hRO
        have hsz := hB2.size
        clear hR2 hHas hRO hB2
        by_cases hlong : 500 < R.length
        · obtain ⟨a', c', e, g2, g3, g4, g5, -⟩ := hR1
          injection e with e1 e2 e3
          subst e1 e3
          rcases g5 with g5 | ⟨b, o, rfl, -⟩
          · rw [g5] at hlong
            simp at hlong
          have hne : ¬ c = 500 := by omega
          have hz : (500 : Int) < (R.length : Int) := by omega
          have hcz : (500 : Int) ≤ (c : Int) := by omega
          clear e2 g4
          go_wp2_with fail
          refine (runion_any _ _ Out (R.take 500) _ HR2.out (rgs_take HR1.out 500 (by omega)) (by rw [List.length_take]; omega)).mono ?_
          rintro e w2 ⟨v2, k2, rfl, hO2, hRR2, hP2, hb⟩
          have HO2 := Lib.hid hO2.rgs; have HRR2 := Lib.hid hRR2; have HP2 := Lib.hid hP2
          have HB3 := Lib.hid (HB2.out.trans (hb.mono hsz))
          have HD := Lib.hid (rgs_drop (HR1.out.below hb) 500 (by omega))
          clear hO2 hRR2 hP2 hb
          go_wp2_with fail
          go_roundw
          case rel =>
            have hd := HD.out
            rw [if_neg hne] at hd
            have hl : (R.drop 500).length = R.length - 500 := List.length_drop
            refine ⟨some ⟨b, o + 500 * 2, none⟩, c - 500, R.drop 500, k2, ?_, ?_, HO2.out, fun x => ?_, HRR2.out, by omega, HB3.out⟩
            · rw [hl]
              try simp [hne]
            · rw [hl]
              exact hd
            · have h1 := HH.out x
              have h2 := has_append (R.take 500) (R.drop 500) x
              rw [List.take_append_drop] at h2
              rw [h2] at h1
              rw [HP2.out, ← h1, or_assoc]
          case measure => simp [lenOf]; omega
        · have hz : ¬ (500 : Int) < (R.length : Int) := by omega
          clear hR1
          go_wp2_with fail
          refine (runion_any _ _ Out R _ HR2.out HR1.out (by omega)).mono ?_
          rintro e w2 ⟨v2, k2, rfl, hO2, hRR2, hP2, hb⟩
          have HO2 := Lib.hid hO2.rgs; have HP2 := Lib.hid hP2
          have n2 := right_len k2 0 (by omega) hRR2
          have HB3 := Lib.hid (HB2.out.trans (hb.mono hsz))
          have hsz3 := HB3.out.size
          have HK := Lib.hid (HRG.out.below HB3.out)
          clear hO2 hRR2 hP2 hb
          go_wp2_with fail
          refine (runion_any _ v2 K k2 w2 HK.out HO2.out (by omega)).mono ?_
          rintro e w3 ⟨v3, k3, rfl, hO3, hRR3, hP3, hb⟩
          have HO3 := Lib.hid hO3; have HRR3 := Lib.hid hRR3; have HP3 := Lib.hid hP3
          have HB4 := Lib.hid (HB3.out.trans (hb.mono hsz3))
          clear hO3 hRR3 hP3 hb
          go_wp2_with fail
          go_ret
          refine ⟨v3, k3, rfl, HO3.out.mono (Nat.le_trans HB.out.size hsz3), HRR3.out, fun x => ?_, HB.out.trans (HB4.out.mono HB.out.size)⟩
          rw [HP3.out, HP2.out, HH.out, HQ.out, fold_split, HP.out]
          constructor
          · rintro (h | ⟨d, h1, h2, h3⟩)
            · exact .inl h
            · exact .inr ⟨d, (HP.out d).1 h1, h2, h3⟩
          · rintro (h | ⟨d, h1, h2, h3⟩)
            · exact .inl h
            · exact .inr ⟨d, (HP.out d).2 h1, h2, h3⟩
end Go.Proofs.YtmaigjdmjmonbaaGreatDoor
/- The program's two tables of letters, as their variables hold them. No condition. -/
namespace Go.Proofs.YtmaigjdmjmonbaaGreatDoor
open Go Go.RowKit

/-- The orbits that are told one by one: how many runes, and three places. -/
def oddL : List (Int × List Int) := [(3, [75, 107, 8490]), (3, [83, 115, 383]), (3, [197, 229, 8491]), (3, [181, 924, 956]), (3, [931, 962, 963]), (2, [223, 7838, 0]), (2, [255, 376, 0])]
def oddCells (p : Int × List Int) : List Value := .int .i64 p.1 :: p.2.map (Value.int .i32)
def spanCells (p : Int × Int) : List Value := [.int .i32 p.1, .int .i32 p.2]
/-- Both variables hold what their text lays. -/
def TabsT (w : World) : Prop :=
  (∃ t fr, w.heap[0]? = some (.cells ((oddL.map oddCells).flatten.toArray) t fr)) ∧ ∃ t fr, w.heap[1]? = some (.cells ((greatL.map spanCells).flatten.toArray) t fr)
theorem TabsT.below {w w' : World} (h : TabsT w) (hb : Below w.heap.size w w') : TabsT w' := by
  obtain ⟨⟨t, fr, h1⟩, t', fr', h2⟩ := h
  exact ⟨⟨t, fr, (hb.block _ (Array.getElem?_eq_some_iff.1 h1).1).trans h1⟩, t', fr', (hb.block _ (Array.getElem?_eq_some_iff.1 h2).1).trans h2⟩
end Go.Proofs.YtmaigjdmjmonbaaGreatDoor
/- The program's orbit of a rune, by its two tables. -/
namespace Go.Proofs.YtmaigjdmjmonbaaGreatDoor
open Go Go.RowKit

/-- An orbit as the program holds it: how many runes, and three places. -/
def orbA (l : List Int) : Value := .agg #[.int .i64 l.length, .int .i32 (l.getD 0 0), .int .i32 (l.getD 1 0), .int .i32 (l.getD 2 0)]
theorem odd_at (m : Nat) (h : m < 7) : ∃ (n : Nat) (x y z : Int), (∀ w, (Instr.index 93 (.agg ((oddL.map oddCells).flatten.toArray)) (.int .i64 m)).run Tryz.prog w = .ok (.agg #[.int .i64 n, .int .i32 x, .int .i32 y, .int .i32 z]) w) ∧ groupsR[m]? = some ([x, y, z].take n) ∧ n ≤ 3 ∧ orbA ([x, y, z].take n) = .agg #[.int .i64 n, .int .i32 x, .int .i32 y, .int .i32 z] := by
  have hm : m = 0 ∨ m = 1 ∨ m = 2 ∨ m = 3 ∨ m = 4 ∨ m = 5 ∨ m = 6 := by omega
  rcases hm with rfl | rfl | rfl | rfl | rfl | rfl | rfl
  · exact ⟨3, 75, 107, 8490, fun _ => by kernel_rfl, rfl, by decide, rfl⟩
  · exact ⟨3, 83, 115, 383, fun _ => by kernel_rfl, rfl, by decide, rfl⟩
  · exact ⟨3, 197, 229, 8491, fun _ => by kernel_rfl, rfl, by decide, rfl⟩
  · exact ⟨3, 181, 924, 956, fun _ => by kernel_rfl, rfl, by decide, rfl⟩
  · exact ⟨3, 931, 962, 963, fun _ => by kernel_rfl, rfl, by decide, rfl⟩
  · exact ⟨2, 223, 7838, 0, fun _ => by kernel_rfl, rfl, by decide, rfl⟩
  · exact ⟨2, 255, 376, 0, fun _ => by kernel_rfl, rfl, by decide, rfl⟩
theorem great_at (m : Nat) (h : m < 6) : ∃ (x y : Int), (∀ w, (Instr.index 94 (.agg ((greatL.map spanCells).flatten.toArray)) (.int .i64 m)).run Tryz.prog w = .ok (.agg #[.int .i32 x, .int .i32 y]) w) ∧ greatL[m]? = some (x, y) := by
  have hm : m = 0 ∨ m = 1 ∨ m = 2 ∨ m = 3 ∨ m = 4 ∨ m = 5 := by omega
  rcases hm with rfl | rfl | rfl | rfl | rfl | rfl
  · exact ⟨65, 90, fun _ => by kernel_rfl, rfl⟩
  · exact ⟨192, 214, fun _ => by kernel_rfl, rfl⟩
  · exact ⟨216, 222, fun _ => by kernel_rfl, rfl⟩
  · exact ⟨913, 929, fun _ => by kernel_rfl, rfl⟩
  · exact ⟨932, 937, fun _ => by kernel_rfl, rfl⟩
  · exact ⟨1040, 1071, fun _ => by kernel_rfl, rfl⟩

set_option maxHeartbeats 1600000 in
set_option maxRecDepth 100000 in
theorem ohas_any (n : Nat) (hn : n ≤ 3) (x y z c : Int) (w : World) : Calls Tryz.prog 60 #[.agg #[.int .i64 n, .int .i32 x, .int .i32 y, .int .i32 z], .int .i32 c] w fun e w' => e = .returned (.bool (decide (c ∈ [x, y, z].take n))) ∧ Below w.heap.size w w' := by
  obtain ⟨B, hB⟩ : ∃ B, decide (c ∈ [x, y, z].take n) = B := ⟨_, rfl⟩
  rw [hB]
  have HBB := Lib.hid hB
  clear hB
  go_enter Tryz.func60, Tryz.ntmps60
  go_wp2
  go_loop [8] (fun i => ∃ k : Nat, k ≤ n ∧ i = .int .i64 k ∧ c ∉ ([x, y, z].take n).take k) (fun i => n - (intOf i).toNat)
  case atStart => exact ⟨0, Nat.zero_le _, rfl, by simp⟩
  case round =>
    obtain ⟨k, hk, rfl, hN⟩ := hrel
    by_cases hlt : k < n
    · have hkk : k = 0 ∨ k = 1 ∨ k = 2 := by omega
      obtain ⟨d, hd, hsp⟩ : ∃ d, [x, y, z][k]? = some d ∧ ([x, y, z].take n).take (k + 1) = ([x, y, z].take n).take k ++ [d] := by
        have hl : ([x, y, z].take n).length = n := by rw [List.length_take]; simp; omega
        refine ⟨([x, y, z].take n)[k]'(by omega), ?_, List.take_succ_eq_append_getElem (by omega)⟩
        rw [List.getElem_take, List.getElem?_eq_getElem (by simp; omega)]
      have HSP := Lib.hid hsp; have HN := Lib.hid hN
      clear hsp hN
      by_cases hdc : d = c
      · obtain rfl : B = true := by rw [← HBB.out]; exact decide_eq_true (List.mem_of_mem_take (i := k + 1) (by rw [HSP.out, hdc]; simp))
        rcases hkk with rfl | rfl | rfl
        all_goals
          have e : _ = d := Option.some.inj hd
          rw [hdc] at e
          subst e
          clear hd
          go_wp2
          go_ret
          exact ⟨rfl, (Below.refl _ w).alloc (Nat.le_refl _) _⟩
      · rcases hkk with rfl | rfl | rfl
        all_goals
          have e : _ = d := Option.some.inj hd
          subst e
          clear hd
          go_wp2
          go_round
          case rel => exact ⟨_, hlt, by go_num, by rw [HSP.out]; simp only [List.mem_append, List.mem_singleton, not_or]; exact ⟨HN.out, fun h => hdc h.symm⟩⟩
          case measure => simp [intOf]; omega
    · have e : ([x, y, z].take n).take k = [x, y, z].take n := List.take_of_length_le (by rw [List.length_take]; omega)
      rw [e] at hN
      obtain rfl : B = false := by rw [← HBB.out]; exact decide_eq_false hN
      clear hN e
      go_wp2
      go_ret
      exact ⟨rfl, (Below.refl _ w).alloc (Nat.le_refl _) _⟩

set_option maxHeartbeats 400000 in
theorem shas_any (x y c : Int) (w : World) : Calls Tryz.prog 61 #[.agg #[.int .i32 x, .int .i32 y], .int .i32 c] w fun e w' => e = .returned (.bool (decide (x ≤ c ∧ c ≤ y))) ∧ Below w.heap.size w w' := by
  by_cases h1 : x ≤ c
  · by_cases h2 : c ≤ y
    · rw [decide_eq_true ⟨h1, h2⟩]
      go_enter Tryz.func61, Tryz.ntmps61
      go_wp2
      go_ret
      exact ⟨rfl, (Below.refl _ w).alloc (Nat.le_refl _) _⟩
    · rw [decide_eq_false (fun h => h2 h.2)]
      go_enter Tryz.func61, Tryz.ntmps61
      go_wp2
      go_ret
      exact ⟨rfl, (Below.refl _ w).alloc (Nat.le_refl _) _⟩
  · rw [decide_eq_false (fun h => h1 h.1)]
    go_enter Tryz.func61, Tryz.ntmps61
    go_wp2
    go_ret
    exact ⟨rfl, (Below.refl _ w).alloc (Nat.le_refl _) _⟩
end Go.Proofs.YtmaigjdmjmonbaaGreatDoor
/- The program's orbit of a rune, by its two tables: what the document's is. -/
namespace Go.Proofs.YtmaigjdmjmonbaaGreatDoor
open Go Go.RowKit

def OrbPost (c : Int) (w : World) (e : Ending) (w' : World) : Prop := e = .returned (orbA (orbR c)) ∧ Below w.heap.size w w'
theorem groups_take {m : Nat} {g : List Int} (h : groupsR[m]? = some g) : groupsR.take (m + 1) = groupsR.take m ++ [g] := by
  obtain ⟨hl, hg⟩ := List.getElem?_eq_some_iff.1 h
  rw [List.take_succ_eq_append_getElem hl, hg]
theorem orb_great {c : Int} (h0 : 0 ≤ c) (h1 : c ≤ 1114111) (hN : ∀ g ∈ groupsR, c ∉ g) {x y : Int} (hs : (x, y) ∈ greatL) (hx : x ≤ c) (hy : c ≤ y) : orbR c = [c, c + 32] ∧ I32 (c + 32) := by
  have hI : ¬ InG c := fun h => by obtain ⟨g, hg, hc⟩ := find_of_inG h; exact hN g hg hc
  have hg : greatB c = true := by
    rw [great_iff]
    unfold InG at hI
    unfold greatL at hs
    simp only [List.mem_cons, Prod.mk.injEq, List.not_mem_nil, or_false] at hs
    omega
  rw [orb_plain h0 h1 hI, if_pos hg]
  exact ⟨rfl, by unfold I32; omega⟩
theorem orb_small {c : Int} (h0 : 0 ≤ c) (h1 : c ≤ 1114111) (hN : ∀ g ∈ groupsR, c ∉ g) {x y : Int} (hs : (x, y) ∈ greatL) (hx : x ≤ c - 32) (hy : c - 32 ≤ y) : orbR c = [c - 32, c] := by
  have hI : ¬ InG c := fun h => by obtain ⟨g, hg, hc⟩ := find_of_inG h; exact hN g hg hc
  have hg : greatB c = false := by
    cases h : greatB c
    · rfl
    · rw [great_iff] at h
      unfold greatL at hs
      simp only [List.mem_cons, Prod.mk.injEq, List.not_mem_nil, or_false] at hs
      omega
  have hg2 : greatB (c - 32) = true := by
    rw [great_iff]
    unfold InG at hI
    unfold greatL at hs
    simp only [List.mem_cons, Prod.mk.injEq, List.not_mem_nil, or_false] at hs
    omega
  have h32 : 32 ≤ c := by have := greatB_bound hg2; omega
  rw [orb_plain h0 h1 hI, hg, if_neg (by decide), if_pos ⟨h32, hg2⟩]
theorem orb_alone {c : Int} (h0 : 0 ≤ c) (h1 : c ≤ 1114111) (hN : ∀ g ∈ groupsR, c ∉ g) (hG : ∀ s ∈ greatL, ¬ (s.1 ≤ c ∧ c ≤ s.2) ∧ ¬ (s.1 ≤ c - 32 ∧ c - 32 ≤ s.2)) : orbR c = [c] := by
  have hI : ¬ InG c := fun h => by obtain ⟨g, hg, hc⟩ := find_of_inG h; exact hN g hg hc
  have hg : ∀ d, (∀ s ∈ greatL, ¬ (s.1 ≤ d ∧ d ≤ s.2)) → greatB d = false := fun d hd => by
    cases h : greatB d
    · rfl
    · rw [great_iff] at h
      have e := fun s hs => hd s hs
      unfold greatL at e
      simp only [List.mem_cons, List.not_mem_nil, or_false, forall_eq_or_imp, forall_eq] at e
      omega
  rw [orb_plain h0 h1 hI, hg c (fun s hs => (hG s hs).1), if_neg (by decide), if_neg]
  rintro ⟨_, h⟩
  rw [hg (c - 32) (fun s hs => (hG s hs).2)] at h
  cases h
theorem great_take {m : Nat} {x y : Int} (h : greatL[m]? = some (x, y)) : greatL.take (m + 1) = greatL.take m ++ [(x, y)] := by
  obtain ⟨hl, hg⟩ := List.getElem?_eq_some_iff.1 h
  rw [List.take_succ_eq_append_getElem hl, hg]
theorem orb_in {c : Int} {m : Nat} {g : List Int} (h : groupsR[m]? = some g) (hN : ∀ g ∈ groupsR.take m, c ∉ g) (hc : c ∈ g) : orbR c = g := orb_group (List.mem_of_getElem? h) hc

theorem orb_ret {c : Int} {w w2 : World} {tmps : Array Value} (n x y z : Int) (hp : tmps.getD 2 undef = .pointer (some ⟨w.heap.size, 0, none⟩)) (hR : Whole w2 w.heap.size 69 #[.int .i64 0, .int .i32 0, .int .i32 0, .int .i32 0]) (hB : Below w.heap.size w w2)
    (he : orbA (orbR c) = .agg #[.int .i64 n, .int .i32 x, .int .i32 y, .int .i32 z]) : bodyPost Tryz.prog Tryz.f40 (OrbPost c w) Exit.ret { tmps := tmps, defers := [] }
      ((((w2.setCell ⟨w.heap.size, 0, none⟩ (.int .i64 n)).setCell ⟨w.heap.size, 1, none⟩ (.int .i32 x)).setCell ⟨w.heap.size, 2, none⟩ (.int .i32 y)).setCell ⟨w.heap.size, 3, none⟩ (.int .i32 z)) := by
  have h4 := (((hR.store 0 (.int .i64 n)).store 1 (.int .i32 x)).store 2 (.int .i32 y)).store 3 (.int .i32 z)
  refine bodyPost_ret (v := .agg #[.int .i64 n, .int .i32 x, .int .i32 y, .int .i32 z]) (results_cell_row Tryz.results40 tmps _ w.heap.size 69 _ (0, 0) _ hp h4 Tryz.underlying69 rfl (by kernel_rfl)) rfl ⟨by rw [he], ?_⟩
  exact (((hB.setCell (p := ⟨w.heap.size, 0, none⟩) (Nat.le_refl _) _).setCell (p := ⟨w.heap.size, 1, none⟩) (Nat.le_refl _) _).setCell (p := ⟨w.heap.size, 2, none⟩) (Nat.le_refl _) _).setCell (p := ⟨w.heap.size, 3, none⟩) (Nat.le_refl _) _

set_option maxHeartbeats 1600000 in
set_option maxRecDepth 100000 in
theorem orbitOf_any (c : Int) (h0 : 0 ≤ c) (h1 : c ≤ 1114111) (w : World) (hT : TabsT w) : Calls Tryz.prog 40 #[.int .i32 c] w (OrbPost c w) := by
  obtain ⟨OA, hOA⟩ : ∃ OA : Array Value, (oddL.map oddCells).flatten.toArray = OA := ⟨_, rfl⟩
  obtain ⟨GA, hGA⟩ : ∃ GA : Array Value, (greatL.map spanCells).flatten.toArray = GA := ⟨_, rfl⟩
  have hodd := odd_at
  have hgreat := great_at
  have hOs : OA.size = 28 := by rw [← hOA]; rfl
  have hGs : GA.size = 12 := by rw [← hGA]; rfl
  obtain ⟨⟨t1, fr1, g1⟩, t2, fr2, g2⟩ := hT
  rw [hOA] at hodd g1
  rw [hGA] at hgreat g2
  have HODD := Lib.hid hodd; have HGREAT := Lib.hid hgreat; have G1 := Lib.hid g1; have G2 := Lib.hid g2; have HOS := Lib.hid hOs; have HGS := Lib.hid hGs
  clear hOA hGA hodd hgreat g1 g2 hOs hGs
  obtain ⟨w1, hw1⟩ : ∃ w1, w.alloc (.cells #[.int .i64 0, .int .i32 0, .int .i32 0, .int .i32 0] 69) = w1 := ⟨_, rfl⟩
  have hb1 : Below w.heap.size w w1 := by rw [← hw1]; exact (Below.refl _ w).alloc (Nat.le_refl _) _
  have hWh : Whole w1 w.heap.size 69 #[.int .i64 0, .int .i32 0, .int .i32 0, .int .i32 0] := by rw [← hw1]; exact heap_alloc_new w _
  have hs1 : w1.heap.size = w.heap.size + 1 := by rw [← hw1]; simp
  have HB1 := Lib.hid hb1; have HWH := Lib.hid hWh; have HS1 := Lib.hid hs1; have HW1 := Lib.hid hw1
  clear hb1 hWh hs1 hw1
  have hlt1 : 0 < w.heap.size := (Array.getElem?_eq_some_iff.1 G1.out).1
  have hlt2 : 1 < w.heap.size := (Array.getElem?_eq_some_iff.1 G2.out).1
  go_enter Tryz.func40, Tryz.ntmps40
  go_wp2_with (refine wpList_load_row rfl 93 (.global 0) rfl 0 rfl t1 OA fr1 _ (by rw [HW1.out]; exact (HB1.out.block _ hlt1).trans G1.out) Tryz.underlying93 rfl (by rw [HOS.out]; kernel_rfl) ?_)
  rw [HW1.out]
  go_loopw [8] (fun i wr => ∃ m : Nat, m ≤ 7 ∧ i = .int .i64 m ∧ Below w1.heap.size w1 wr ∧ ∀ g ∈ groupsR.take m, c ∉ g) (fun i _ => 7 - (intOf i).toNat)
  case atStart => exact ⟨0, Nat.zero_le _, rfl, Below.refl _ _, by simp⟩
  case round =>
    obtain ⟨m, hm, rfl, hB, hN⟩ := hrel
    have HB := Lib.hid hB; have HN := Lib.hid hN
    clear hB hN
    by_cases hlt : m < 7
    · obtain ⟨n, x, y, z, hi, hg, hn, ho⟩ := HODD.out m hlt
      have HG := Lib.hid hg; have HO := Lib.hid ho
      have hmz : (m : Int) < 7 := by omega
      have hsz := HB.out.size
      clear hg ho
      go_wp2_with fail
      refine (ohas_any n hn x y z c _).mono ?_
      rintro e w2 ⟨rfl, hb⟩
      have hB2 : Below w1.heap.size w1 w2 := (HB.out.alloc hsz _).trans (hb.mono (by simp; omega))
      have hE : Whole w2 wr.heap.size 69 #[.int .i64 n, .int .i32 x, .int .i32 y, .int .i32 z] := (hb.block _ (by simp)).trans (heap_alloc_new wr _)
      have HB2 := Lib.hid hB2
      have r0 := hE.cell 0; have r1 := hE.cell 1; have r2 := hE.cell 2; have r3 := hE.cell 3
      have hR : Whole w2 w.heap.size 69 #[.int .i64 0, .int .i32 0, .int .i32 0, .int .i32 0] := (hB2.block _ (by rw [HS1.out]; omega)).trans HWH.out
      have HR := Lib.hid hR
      have q0 := hR.cell 0; have q1 := hR.cell 1; have q2 := hR.cell 2; have q3 := hR.cell 3
      have p0 := hR.free 0; have p1 := hR.free 1; have p2 := hR.free 2; have p3 := hR.free 3
      simp at r0 r1 r2 r3 q0 q1 q2 q3
      clear hb hE hB2 hR
      by_cases hin : c ∈ [x, y, z].take n
      · have he : orbR c = [x, y, z].take n := orb_in HG.out HN.out hin
        have HE := Lib.hid he
        rw [decide_eq_true hin]
        clear he hin
        go_wp2_with fail
        exact orb_ret n x y z rfl HR.out (HB1.out.trans (HB2.out.mono (by rw [HS1.out]; omega))) (by rw [HE.out, HO.out])
      · rw [decide_eq_false hin]
        have HIN := Lib.hid hin
        clear hin
        go_wp2_with fail
        go_roundw
        case rel =>
          refine ⟨m + 1, hlt, by go_num, HB2.out, fun g hg => ?_⟩
          rw [groups_take HG.out] at hg
          rcases List.mem_append.1 hg with hg | hg
          · exact HN.out g hg
          · rw [List.mem_singleton.1 hg]
            exact HIN.out
        case measure => simp [intOf]; omega
    · have hn7 : ∀ g ∈ groupsR, c ∉ g := by
        have e : groupsR.take m = groupsR := List.take_of_length_le (by show 7 ≤ m; omega)
        have := HN.out
        rwa [e] at this
      have HN7 := Lib.hid hn7
      clear hn7
      have hmz : ¬ (m : Int) < 7 := by omega
      go_wp2_with (refine wpList_load_row rfl 94 (.global 1) rfl 1 rfl t2 GA fr2 _ ((HB.out.block _ (by rw [HS1.out]; omega)).trans ((HB1.out.block _ hlt2).trans G2.out)) Tryz.underlying94 rfl (by rw [HGS.out]; kernel_rfl) ?_)
      go_loopw [17] (fun i wy => ∃ k : Nat, k ≤ 6 ∧ i = .int .i64 k ∧ Below w1.heap.size w1 wy ∧ ∀ s ∈ greatL.take k, ¬ (s.1 ≤ c ∧ c ≤ s.2) ∧ ¬ (s.1 ≤ c - 32 ∧ c - 32 ≤ s.2)) (fun i _ => 6 - (intOf i).toNat)
      case atStart => exact ⟨0, Nat.zero_le _, rfl, HB.out, by simp⟩
      case round =>
        obtain ⟨k, hk, rfl, hBy, hS⟩ := hrel
        have HBY := Lib.hid hBy; have HSS := Lib.hid hS
        clear hBy hS
        by_cases hkl : k < 6
        · obtain ⟨x, y, hi, hg⟩ := HGREAT.out k hkl
          have HG := Lib.hid hg
          have hkz : (k : Int) < 6 := by omega
          have hsz := HBY.out.size
          clear hg
          go_wp2_with fail
          refine (shas_any x y c _).mono ?_
          rintro e w2 ⟨rfl, hb⟩
          have hB2 : Below w1.heap.size w1 w2 := (HBY.out.alloc hsz _).trans (hb.mono (by simp; omega))
          have hE : Whole w2 _ 90 #[.int .i32 x, .int .i32 y] := (hb.block _ (by simp)).trans (heap_alloc_new _ _)
          have HB2 := Lib.hid hB2
          have hszy := hB2.size
          have r0 := hE.cell 0; have r1 := hE.cell 1
          have hR : Whole w2 w.heap.size 69 #[.int .i64 0, .int .i32 0, .int .i32 0, .int .i32 0] := (hB2.block _ (by rw [HS1.out]; omega)).trans HWH.out
          have HR := Lib.hid hR
          have q0 := hR.cell 0; have q1 := hR.cell 1; have q2 := hR.cell 2; have q3 := hR.cell 3
          have p0 := hR.free 0; have p1 := hR.free 1; have p2 := hR.free 2; have p3 := hR.free 3
          simp at r0 r1 q0 q1 q2 q3
          clear hb hE hB2 hR
          by_cases hin : x ≤ c ∧ c ≤ y
          · obtain ⟨he, hi32⟩ := orb_great h0 h1 HN7.out (List.mem_of_getElem? HG.out) hin.1 hin.2
            have HE := Lib.hid he
            unfold I32 at hi32
            rw [decide_eq_true hin]
            clear he hin
            go_wp2_with fail
            exact orb_ret 2 c (c + 32) 0 rfl HR.out (HB1.out.trans (HB2.out.mono (by rw [HS1.out]; omega))) (by rw [HE.out]; rfl)
          · rw [decide_eq_false hin]
            have HIN := Lib.hid hin
            clear hin
            go_wp2_with fail
            refine (shas_any x y (c - 32) _).mono ?_
            rintro e w3 ⟨rfl, hb⟩
            have hB3 : Below w1.heap.size w1 w3 := HB2.out.trans (hb.mono hszy)
            have HB3 := Lib.hid hB3
            have hR : Whole w3 w.heap.size 69 #[.int .i64 0, .int .i32 0, .int .i32 0, .int .i32 0] := (hB3.block _ (by rw [HS1.out]; omega)).trans HWH.out
            have HR3 := Lib.hid hR
            have u0 := hR.cell 0; have u1 := hR.cell 1; have u2 := hR.cell 2; have u3 := hR.cell 3
            have v0 := hR.free 0; have v1 := hR.free 1; have v2 := hR.free 2; have v3 := hR.free 3
            simp at u0 u1 u2 u3
            clear hb hB3 hR q0 q1 q2 q3 p0 p1 p2 p3 r0 r1
            by_cases hin : x ≤ c - 32 ∧ c - 32 ≤ y
            · have he := orb_small h0 h1 HN7.out (List.mem_of_getElem? HG.out) hin.1 hin.2
              have HE := Lib.hid he
              rw [decide_eq_true hin]
              clear he hin
              go_wp2_with fail
              exact orb_ret 2 (c - 32) c 0 rfl HR3.out (HB1.out.trans (HB3.out.mono (by rw [HS1.out]; omega))) (by rw [HE.out]; rfl)
            · rw [decide_eq_false hin]
              have HIN2 := Lib.hid hin
              clear hin
              go_wp2_with fail
              go_roundw
              case rel =>
                refine ⟨k + 1, hkl, by go_num, HB3.out, fun s hs => ?_⟩
                rw [great_take HG.out] at hs
                rcases List.mem_append.1 hs with hs | hs
                · exact HSS.out s hs
                · rw [List.mem_singleton.1 hs]
                  exact ⟨HIN.out, HIN2.out⟩
              case measure => simp [intOf]; omega
        · have hn6 : ∀ s ∈ greatL, ¬ (s.1 ≤ c ∧ c ≤ s.2) ∧ ¬ (s.1 ≤ c - 32 ∧ c - 32 ≤ s.2) := by
            have e : greatL.take k = greatL := List.take_of_length_le (by show 6 ≤ k; omega)
            have := HSS.out
            rwa [e] at this
          have he := orb_alone h0 h1 HN7.out hn6
          have HE := Lib.hid he
          have hkz : ¬ (k : Int) < 6 := by omega
          have hR : Whole _ w.heap.size 69 #[.int .i64 0, .int .i32 0, .int .i32 0, .int .i32 0] := (HBY.out.block _ (by rw [HS1.out]; omega)).trans HWH.out
          have HR := Lib.hid hR
          have q0 := hR.cell 0; have q1 := hR.cell 1; have q2 := hR.cell 2; have q3 := hR.cell 3
          have p0 := hR.free 0; have p1 := hR.free 1; have p2 := hR.free 2; have p3 := hR.free 3
          simp at q0 q1 q2 q3
          clear hn6 he hR
          go_wp2_with fail
          exact orb_ret 1 c 0 0 rfl HR.out (HB1.out.trans (HBY.out.mono (by rw [HS1.out]; omega))) (by rw [HE.out]; rfl)
end Go.Proofs.YtmaigjdmjmonbaaGreatDoor
