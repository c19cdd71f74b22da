/- Texts merged by program: Norm, RSet, RNamed, RNot, R4Set, R4Cls, R4NotR, R4Perl, SPerls, R4Prop, CRuns, OwnE, R4Plain, R4Posix, R4Dot. No condition. -/
import Derived.Test.YtofhckheeijoiaaDoorK12
import Derived.Test.YtofhckheeijoiaaDoorK2
import Derived.Test.YtofhckheeijoiaaDoorK13
import Derived.Test.YtofhckheeijoiaaDoorK3
import Derived.Deep.DeepCutAuto
import Derived.Deep.RegionHeld3
import Derived.Outline
set_option linter.unusedVariables false
/- The document's Norm: the set of any list, in a fresh row. -/
namespace Go.Proofs.YtofhckheeijoiaaDoor
open Go Go.RowKit

theorem own_lit' (W : World) (B n : Nat) (h : W.heap.size = n) (hB : B ≤ n) : OwnR (W.alloc (.cells #[] 74)) B (.slice (some ⟨n, 0, none⟩) 0 0) [] := by
  subst h
  exact ⟨World.ownsRow_lit W #[] 0 hB (Nat.zero_le _) rfl, by simp [AllI32]⟩
theorem wrap_nat (n : Nat) (h : n < 9223372036854775808) : IntKind.i64.wrap (n : Int) = (n : Int) := by
  have hm : (n : Int) % 18446744073709551616 = n := by omega
  unfold IntKind.wrap
  simp [IntKind.bits, IntKind.signed, hm]
  omega
theorem put_split (S : List (Int × Int)) (x : Int × Int) (k : Nat) : S.take k ++ [x] ++ S.drop k = S.take k ++ x :: S.drop k := by simp
theorem cut_letters (x1 x2 y1 y2 : Int) (h1 : (if x1 < 0 then 0 else x1) = y1) (h2 : (if 1114111 < x2 then 1114111 else x2) = y2) : cutR (x1, x2) = (y1, y2) := by
  unfold cutR
  simp only
  rw [← h1, ← h2]
  congr 1
  · split <;> omega
  · split <;> omega
/-- A fresh row of the set of the runes for which P holds. -/
def SetPost (P : Int → Prop) (w : World) (e : Ending) (w' : World) : Prop :=
  ∃ v k, e = .returned v ∧ OwnR w' w.heap.size v k ∧ RightR k ∧ (∀ c, HasR k c ↔ P c) ∧ Below w.heap.size w w'
def Loop1 (w : World) (l : List (Int × Int)) (m : Nat) (vs : Value) (wr : World) : Prop :=
  ∃ S, OwnR wr w.heap.size vs S ∧ Sorted S ∧ (∀ c, HasR S c ↔ HasR (l.take m) c) ∧ S.length ≤ m ∧ Below w.heap.size w wr

def Loop2 (wr : World) (S : List (Int × Int)) (k : Nat) (vo : Value) (wz : World) : Prop :=
  ∃ O, OwnR wz wr.heap.size vo O ∧ RightR O ∧ (∀ c, HasR O c ↔ HasR (S.take k) c) ∧ O.length ≤ k ∧ (∀ o p, O = o ++ [p] → ∀ j (h : j < S.length), k ≤ j → p.1 ≤ S[j].1) ∧ Below wr.heap.size wr wz
theorem sorted_le {S : List (Int × Int)} (h : Sorted S) (i j : Nat) (hj : j < S.length) (hi : i ≤ j) : (S[i]'(by omega)).1 ≤ S[j].1 := by
  rcases Nat.lt_or_ge i j with h1 | h1
  · exact List.pairwise_iff_getElem.1 h.1 i j (by omega) hj h1
  · have : i = j := by omega
    subst this
    exact Int.le_refl _

set_option maxHeartbeats 1600000 in
set_option maxRecDepth 100000 in
theorem rnorm_any (v : Value) (l : List (Int × Int)) (w : World) (h : Rgs w v l) (hn : l.length ≤ 1099511627776) :
    Calls Tryd.prog 69 #[v] w (SetPost (HasR l) w) := by
  have hrg := h
  obtain ⟨a, c, rfl, h2, h3, h4, h5, h6⟩ := h
  have HRG := Lib.hid hrg; have H6 := Lib.hid h6
  clear h5 h6 h4 h2 h3 hrg
  go_enter Tryd.func69, Tryd.ntmps69
  go_wp2_with fail
  go_loopw [3, 4] (fun vs i wr => ∃ m : Nat, m ≤ l.length ∧ i = .int .i64 m ∧ Loop1 w l m vs wr) (fun _ i _ => l.length - (intOf i).toNat)
  case atStart => exact ⟨0, Nat.zero_le _, rfl, [], own_none _ _, sorted_nil, fun c => by simp [HasR], Nat.le_refl _, Below.refl _ _⟩
  case round =>
    obtain ⟨m, hm, rfl, S, hO, hS, hP, hSm, hB⟩ := hrel
    have HO := Lib.hid hO; have HS := Lib.hid hS; have HP := Lib.hid hP; have HB := Lib.hid hB
    clear hO hS hP hB
    by_cases hlt : m < l.length
    · obtain ⟨a', c', e, g2, g3, g4, g5, g6⟩ := HRG.out.below HB.out
      injection e with e1 e2 e3
      subst e1 e3
      rcases g5 with g5 | ⟨b, o, rfl, hc⟩
      · rw [g5] at hlt
        simp at hlt
      obtain ⟨x1, x2, hx, hsp, c1, c2⟩ := rgs_at hc m hlt
      have HSP := Lib.hid hsp; have HX := Lib.hid hx
      clear hsp hx hc g6
      obtain ⟨y1, hy1⟩ : ∃ y1 : Int, (if x1 < 0 then 0 else x1) = y1 := ⟨_, rfl⟩
      obtain ⟨y2, hy2⟩ : ∃ y2 : Int, (if 1114111 < x2 then 1114111 else x2) = y2 := ⟨_, rfl⟩
      go_upto_region 5 with (fail)
      go_cut [5] (fun s5 wx => ∃ bx, s5 = .pointer (some ⟨bx, 0, none⟩) ∧ Whole wx bx 74 #[.int .i32 y1, .int .i32 y2] ∧ wr.heap.size ≤ bx ∧ Below wr.heap.size wr wx)
      case first =>
        go_region_held3 (fun w' => w'.cell? ⟨b, o + m * 2, none⟩ = some (.int .i32 x1) ∧ w'.cell? ⟨b, o + m * 2 + 1, none⟩ = some (.int .i32 x2)) (first | go_keep | exact ⟨c1, c2⟩) (fail)
        all_goals
          go_wp2
          go_meet
          exact ⟨wr.heap.size, rfl, heap_alloc_new wr _, Nat.le_refl _, ((Below.refl _ wr).alloc (Nat.le_refl _) _).drew⟩
      case rest =>
        obtain ⟨bx, rfl, hW, hbx, hBx⟩ := hcut
        have k1 := hW.cell 0
        have k2 := hW.cell 1
        simp only [List.getElem?_toArray, List.getElem?_cons_succ, List.getElem?_cons_zero] at k1 k2
        have HW := Lib.hid hW; have HBX := Lib.hid hBx
        have HY1 := Lib.hid hy1; have HY2 := Lib.hid hy2
        clear hW hBx c1 c2 hy1 hy2
        have HI := Lib.hid (show I32 y1 ∧ I32 y2 from by
          have e := H6.out (x1, x2) (List.mem_of_getElem? HX.out)
          have e1 := HY1.out
          have e2 := HY2.out
          unfold I32 at *
          simp only at e
          split at e1 <;> split at e2 <;> omega)
        have HBX' := Lib.hid (HB.out.trans (HBX.out.mono HB.out.size))
        have HBC := Lib.hid (show w.heap.size ≤ wc.heap.size from (HB.out.trans (HBX.out.mono HB.out.size)).size)
        have HOC := Lib.hid (HO.out.below HBX.out)
        by_cases hxy : y2 < y1
        · have hd : decide (y2 < y1) = true := decide_eq_true hxy
          go_wp2
          go_roundw
          case rel =>
            have hcx := cut_letters x1 x2 y1 y2 HY1.out HY2.out
            refine ⟨m + 1, by omega, by go_num, S, HOC.out, HS.out, fun c => ?_, by omega, HBX'.out⟩
            have := has_cut_none (x1, x2) (by rw [hcx]; exact hxy) c
            rw [HP.out, HSP.out, has_append]
            exact ⟨.inl, fun h => h.resolve_right this⟩
          case measure => simp [intOf]; omega
        · have hd : decide (y2 < y1) = false := decide_eq_false hxy
          rcases own_slice2 HO.out.1 with ⟨rfl, hS0⟩ | ⟨g, cs, rfl, hSc, hcm, hBg⟩
          · have HRS := Lib.hid (show Rgs wc (.slice none 0 0) S from HOC.out.rgs)
            have hn0 : S = [] := List.eq_nil_of_length_eq_zero hS0
            go_wp2_with fail
            go_loopw [6] (fun i wy => i = .int .i64 0 ∧ Below wc.heap.size wc wy ∧ wy.heap.size = wc.heap.size) (fun _ _ => 0)
            case atStart => exact ⟨rfl, Below.refl _ _, rfl⟩
            case round =>
              obtain ⟨rfl, hBy, hsz⟩ := hrel
              have HBY := Lib.hid hBy; have HSZ := Lib.hid hsz
              clear hBy hsz
              have hlo : ∀ j (h : j < S.length), j + 1 = 0 → S[j].1 ≤ y1 := fun j h e => by omega
              have hhi : ∀ j (h : j < S.length), 0 ≤ j → y1 < S[j].1 := fun j h e => by omega
              go_wp2_with fail
              go_big_quiet (fail)
              have HN0 := Lib.hid hn0
              clear hn0
              have hkS : 0 ≤ S.length := by omega
              have hSl : (S.take 0).length ≤ 1099511627776 := by rw [List.length_take]; omega
              have HLO := Lib.hid hlo; have HHI := Lib.hid hhi
              clear hlo hhi
              go_wp2_with (at_builtin; refine append_rgs rfl (.tmp 52) (.tmp 55) rfl wc.heap.size _ [] rfl (own_lit' (wr.drewN nq) wc.heap.size wr.heap.size (by simp) (by have := HSZ.out; omega)) none 0 0 (S.take 0) rfl ((rgs_take HRS.out 0 (by omega)).below ((below_drewNr HBY.out _).alloc (by simp; have := HSZ.out; omega) _)) ?b2 ?b3 ?_)
              case b2 => simp <;> omega
              case b3 => simp; have := HSZ.out; omega
              intro v1 w1 ho1 hg1
              try simp only [List.nil_append] at ho1
              have hB1 := ((below_drewNr HBY.out nq).alloc (by simp; have := HSZ.out; omega) (.cells #[] 74)).grown hg1 (by simp; have := HSZ.out; omega) (by have := HSZ.out; simp [Value.ownBlock]; omega)
              have hw1 := HW.out.below hB1 HW.out.lt
              have k1 := hw1.cell 0
              have k2 := hw1.cell 1
              simp only [List.getElem?_toArray, List.getElem?_cons_succ, List.getElem?_cons_zero] at k1 k2
              have HO1 := Lib.hid ho1; have HB1 := Lib.hid hB1
              clear ho1 hB1 hg1 hw1
              go_wp2_with (at_builtin; refine append_rgs rfl (.tmp 57) (.tmp 59) rfl wc.heap.size v1 (S.take 0) rfl (HO1.out.below ((Below.refl _ w1).alloc (Nat.le_refl _) _)) (some ⟨w1.heap.size, 0, none⟩) 1 1 [(y1, y2)] rfl (rgs_new w1 y1 y2 HI.out.1 HI.out.2) ?c1 ?c2 ?_)
              case c1 => simp only [List.length_cons, List.length_nil]; omega
              case c2 => have := HB1.out.size; simp; omega
              intro v2 w2 ho2 hg2
              have HB2 := Lib.hid ((HB1.out.alloc HB1.out.size _).grown hg2 (by have := HB1.out.size; simp; omega) (fun j hj => (HO1.out.1.lt j hj).1))
              have HO2 := Lib.hid ho2
              have HD := Lib.hid (show Rgs w2 (.slice none 0 0) (S.drop 0) from by rw [List.drop_zero]; exact HRS.out.below HB2.out)
              clear ho2 hg2
              go_wp2_with (at_builtin; refine append_rgs rfl (.tmp 61) (.tmp 64) rfl wc.heap.size v2 (S.take 0 ++ [(y1, y2)]) rfl HO2.out _ _ _ (S.drop 0) rfl HD.out ?d1 ?d2 ?_)
              case d1 => simp <;> omega
              case d2 => exact HB2.out.size
              intro v3 w3 ho3 hg3
              have hB3 := HB2.out.grown hg3 HB2.out.size (fun j hj => (HO2.out.1.lt j hj).1)
              go_wp2
              go_roundw
              case rel =>
                have ho3' : OwnR w3 wc.heap.size v3 (S.take 0 ++ (y1, y2) :: S.drop 0) := by simpa using ho3
                have hcx := cut_letters x1 x2 y1 y2 HY1.out HY2.out
                have hfit : Fit (y1, y2) := by
                  rw [← hcx]
                  exact fit_cut _ (by rw [hcx]; show ¬ y2 < y1; omega)
                refine ⟨m + 1, by omega, by go_num, _, ho3'.mono HBC.out, sorted_put S (y1, y2) 0 HS.out hfit hkS HLO.out HHI.out, fun c => ?_, by simp; omega, HBX'.out.trans (hB3.mono HBC.out)⟩
                rw [has_put, HP.out, HSP.out, has_append, ← has_cut (x1, x2), hcx]
              case measure => simp [intOf]; omega
          · have HRS := Lib.hid (show Rgs wc (.slice (some ⟨g, 0, none⟩) S.length cs) S from HOC.out.rgs)
            go_wp2_with fail
            go_loopw [6] (fun i wy => ∃ k : Nat, k ≤ S.length ∧ i = .int .i64 k ∧ (Below wc.heap.size wc wy ∧ wy.heap.size = wc.heap.size) ∧ ∀ j (h : j < S.length), k ≤ j → y1 < S[j].1) (fun i _ => (intOf i).toNat)
            case atStart => exact ⟨S.length, Nat.le_refl _, rfl, ⟨Below.refl _ _, rfl⟩, fun j h1 h2 => by omega⟩
            case round =>
              obtain ⟨k, hk, rfl, ⟨hBy, hsz⟩, hhi⟩ := hrel
              have HBY := Lib.hid hBy; have HSZ := Lib.hid hsz
              clear hBy hsz
              by_cases hk0 : k = 0
              · subst hk0
                have hlo : ∀ j (h : j < S.length), j + 1 = 0 → S[j].1 ≤ y1 := fun j h e => by omega
                go_wp2_with fail
                go_big_quiet (fail)
                have hkS : 0 ≤ S.length := by omega
                have hSl : (S.take 0).length ≤ 1099511627776 := by rw [List.length_take]; omega
                have HLO := Lib.hid hlo; have HHI := Lib.hid hhi
                clear hlo hhi
                go_wp2_with (at_builtin; refine append_rgs rfl (.tmp 52) (.tmp 55) rfl wc.heap.size _ [] rfl (own_lit' (wr.drewN nq) wc.heap.size wr.heap.size (by simp) (by have := HSZ.out; omega)) (some ⟨g, 0, none⟩) 0 cs (S.take 0) rfl ((rgs_take HRS.out (0) (by omega)).below ((below_drewNr HBY.out _).alloc (by simp; have := HSZ.out; omega) _)) ?b2 ?b3 ?_)
                case b2 => simp <;> omega
                case b3 => simp; have := HSZ.out; omega
                intro v1 w1 ho1 hg1
                try simp only [List.nil_append] at ho1
                have hB1 := ((below_drewNr HBY.out nq).alloc (by simp; have := HSZ.out; omega) (.cells #[] 74)).grown hg1 (by simp; have := HSZ.out; omega) (by have := HSZ.out; simp [Value.ownBlock]; omega)
                have hw1 := HW.out.below hB1 HW.out.lt
                have k1 := hw1.cell 0
                have k2 := hw1.cell 1
                simp only [List.getElem?_toArray, List.getElem?_cons_succ, List.getElem?_cons_zero] at k1 k2
                have HO1 := Lib.hid ho1; have HB1 := Lib.hid hB1
                clear ho1 hB1 hg1 hw1
                go_wp2_with (at_builtin; refine append_rgs rfl (.tmp 57) (.tmp 59) rfl wc.heap.size v1 (S.take 0) rfl (HO1.out.below ((Below.refl _ w1).alloc (Nat.le_refl _) _)) (some ⟨w1.heap.size, 0, none⟩) 1 1 [(y1, y2)] rfl (rgs_new w1 y1 y2 HI.out.1 HI.out.2) ?c1 ?c2 ?_)
                case c1 => simp only [List.length_cons, List.length_nil]; omega
                case c2 => have := HB1.out.size; simp; omega
                intro v2 w2 ho2 hg2
                have HB2 := Lib.hid ((HB1.out.alloc HB1.out.size _).grown hg2 (by have := HB1.out.size; simp; omega) (fun j hj => (HO1.out.1.lt j hj).1))
                have HO2 := Lib.hid ho2
                have HD := Lib.hid (show Rgs w2 (.slice (some ⟨g, 0, none⟩) S.length cs) (S.drop 0) from by rw [List.drop_zero]; exact HRS.out.below HB2.out)
                clear ho2 hg2
                go_wp2_with (at_builtin; refine append_rgs rfl (.tmp 61) (.tmp 64) rfl wc.heap.size v2 (S.take 0 ++ [(y1, y2)]) rfl HO2.out _ _ _ (S.drop 0) rfl HD.out ?d1 ?d2 ?_)
                case d1 => simp <;> omega
                case d2 => exact HB2.out.size
                intro v3 w3 ho3 hg3
                have hB3 := HB2.out.grown hg3 HB2.out.size (fun j hj => (HO2.out.1.lt j hj).1)
                go_wp2
                go_roundw
                case rel =>
                  have ho3' : OwnR w3 wc.heap.size v3 (S.take 0 ++ (y1, y2) :: S.drop 0) := by simpa using ho3
                  have hcx := cut_letters x1 x2 y1 y2 HY1.out HY2.out
                  have hfit : Fit (y1, y2) := by
                    rw [← hcx]
                    exact fit_cut _ (by rw [hcx]; show ¬ y2 < y1; omega)
                  refine ⟨m + 1, by omega, by go_num, _, ho3'.mono HBC.out, sorted_put S (y1, y2) 0 HS.out hfit hkS HLO.out HHI.out, fun c => ?_, by simp; omega, HBX'.out.trans (hB3.mono HBC.out)⟩
                  rw [has_put, HP.out, HSP.out, has_append, ← has_cut (x1, x2), hcx]
                case measure => simp [intOf]; omega
              · obtain ⟨p, rfl⟩ : ∃ p, k = p + 1 := ⟨k - 1, by omega⟩
                have hp : p < S.length := by omega
                have hpz : (0 : Int) < (p : Int) + 1 := by omega
                have dp : decide ((0 : Int) < (p : Int) + 1) = true := decide_eq_true hpz
                have hcells : ∃ s1 s2, S[p]? = some (s1, s2) ∧ wr.cell? ⟨g, p * 2, none⟩ = some (.int .i32 s1) := by
                  obtain ⟨a1, c1, q1, q2, q3, q4, q5, q6⟩ := HRS.out.below HBY.out
                  injection q1 with q1 _ _
                  subst q1
                  rcases q5 with q5 | ⟨b1, o1, q7, q8⟩
                  · rw [q5] at hp
                    simp at hp
                  · injection q7 with q7
                    injection q7 with q9 q10
                    subst q9 q10
                    obtain ⟨s1, s2, r1, _, r3, _⟩ := rgs_at q8 p hp
                    exact ⟨s1, s2, r1, by simpa using r3⟩
                obtain ⟨s1, s2, hs1, hsc⟩ := hcells
                have hbxc := HW.out.below HBY.out HW.out.lt
                have z1 := hbxc.cell 0
                simp only [List.getElem?_toArray, List.getElem?_cons_zero] at z1
                have HS1 := Lib.hid hs1
                clear hs1 hbxc
                by_cases hsy : y1 < s1
                · have dsy : decide (y1 < s1) = true := decide_eq_true hsy
                  go_wp2_with fail
                  go_big_quiet (fail)
                  go_wp2
                  go_roundw
                  case rel =>
                    refine ⟨p, by omega, by go_num, ⟨below_drewNr HBY.out nq, by simpa using HSZ.out⟩, fun j h1 h2 => ?_⟩
                    by_cases hj : j = p
                    · subst hj
                      have := HS1.out
                      rw [List.getElem?_eq_getElem h1] at this
                      rw [Option.some.inj this]
                      exact hsy
                    · exact hhi j h1 (by omega)
                  case measure => simp [intOf]
                · have dsy : decide (y1 < s1) = false := decide_eq_false hsy
                  have hlo : ∀ j (h : j < S.length), j + 1 = p + 1 → S[j].1 ≤ y1 := fun j h1 h2 => by
                    obtain rfl : j = p := by omega
                    have := HS1.out
                    rw [List.getElem?_eq_getElem h1] at this
                    rw [Option.some.inj this]
                    show s1 ≤ y1
                    omega
                  go_wp2_with fail
                  go_big_quiet (fail)
                  clear hsc z1
                  have hkz : (p : Int) + 1 ≤ (S.length : Int) := by omega
                  have hcz : (p : Int) + 1 ≤ (cs : Int) := by omega
                  by_cases hck : cs = p + 1
                  · have HCK := Lib.hid hck
                    clear hck
                    have hkS : (p + 1) ≤ S.length := by omega
                    have hSl : (S.take (p + 1)).length ≤ 1099511627776 := by rw [List.length_take]; omega
                    have HLO := Lib.hid hlo; have HHI := Lib.hid hhi
                    clear hlo hhi
                    go_wp2_with (at_builtin; refine append_rgs rfl (.tmp 52) (.tmp 55) rfl wc.heap.size _ [] rfl (own_lit' (wr.drewN nq) wc.heap.size wr.heap.size (by simp) (by have := HSZ.out; omega)) (some ⟨g, 0, none⟩) (p + 1) cs (S.take (p + 1)) rfl ((rgs_take HRS.out ((p + 1)) (by omega)).below ((below_drewNr HBY.out _).alloc (by simp; have := HSZ.out; omega) _)) ?b2 ?b3 ?_)
                    case b2 => simp <;> omega
                    case b3 => simp; have := HSZ.out; omega
                    intro v1 w1 ho1 hg1
                    try simp only [List.nil_append] at ho1
                    have hB1 := ((below_drewNr HBY.out nq).alloc (by simp; have := HSZ.out; omega) (.cells #[] 74)).grown hg1 (by simp; have := HSZ.out; omega) (by have := HSZ.out; simp [Value.ownBlock]; omega)
                    have hw1 := HW.out.below hB1 HW.out.lt
                    have k1 := hw1.cell 0
                    have k2 := hw1.cell 1
                    simp only [List.getElem?_toArray, List.getElem?_cons_succ, List.getElem?_cons_zero] at k1 k2
                    have HO1 := Lib.hid ho1; have HB1 := Lib.hid hB1
                    clear ho1 hB1 hg1 hw1
                    go_wp2_with (at_builtin; refine append_rgs rfl (.tmp 57) (.tmp 59) rfl wc.heap.size v1 (S.take (p + 1)) rfl (HO1.out.below ((Below.refl _ w1).alloc (Nat.le_refl _) _)) (some ⟨w1.heap.size, 0, none⟩) 1 1 [(y1, y2)] rfl (rgs_new w1 y1 y2 HI.out.1 HI.out.2) ?c1 ?c2 ?_)
                    case c1 => simp only [List.length_cons, List.length_nil]; omega
                    case c2 => have := HB1.out.size; simp; omega
                    intro v2 w2 ho2 hg2
                    have HB2 := Lib.hid ((HB1.out.alloc HB1.out.size _).grown hg2 (by have := HB1.out.size; simp; omega) (fun j hj => (HO1.out.1.lt j hj).1))
                    have HO2 := Lib.hid ho2
                    have HD := Lib.hid (show Rgs w2 (.slice (some ⟨g, 0, none⟩) 0 0) (S.drop (p + 1)) from by have := rgs_drop (HRS.out.below HB2.out) (p + 1) hkS; have hc1 := HCK.out; rw [if_pos hc1, show S.length - (p + 1) = 0 by omega, show cs - (p + 1) = 0 by omega] at this; exact this)
                    have hck := HCK.out
                    have hsl : S.length = p + 1 := by omega
                    clear ho2 hg2
                    go_wp2_with (at_builtin; refine append_rgs rfl (.tmp 61) (.tmp 64) rfl wc.heap.size v2 (S.take (p + 1) ++ [(y1, y2)]) rfl HO2.out _ _ _ (S.drop (p + 1)) rfl HD.out ?d1 ?d2 ?_)
                    case d1 => simp <;> omega
                    case d2 => exact HB2.out.size
                    intro v3 w3 ho3 hg3
                    have hB3 := HB2.out.grown hg3 HB2.out.size (fun j hj => (HO2.out.1.lt j hj).1)
                    go_wp2
                    go_roundw
                    case rel =>
                      have ho3' : OwnR w3 wc.heap.size v3 (S.take (p + 1) ++ (y1, y2) :: S.drop (p + 1)) := by simpa using ho3
                      have hcx := cut_letters x1 x2 y1 y2 HY1.out HY2.out
                      have hfit : Fit (y1, y2) := by
                        rw [← hcx]
                        exact fit_cut _ (by rw [hcx]; show ¬ y2 < y1; omega)
                      refine ⟨m + 1, by omega, by go_num, _, ho3'.mono HBC.out, sorted_put S (y1, y2) (p + 1) HS.out hfit hkS HLO.out HHI.out, fun c => ?_, by simp; omega, HBX'.out.trans (hB3.mono HBC.out)⟩
                      rw [has_put, HP.out, HSP.out, has_append, ← has_cut (x1, x2), hcx]
                    case measure => simp [intOf]; omega
                  · have hkS : (p + 1) ≤ S.length := by omega
                    have hSl : (S.take (p + 1)).length ≤ 1099511627776 := by rw [List.length_take]; omega
                    have HLO := Lib.hid hlo; have HHI := Lib.hid hhi
                    clear hlo hhi
                    go_wp2_with (at_builtin; refine append_rgs rfl (.tmp 52) (.tmp 55) rfl wc.heap.size _ [] rfl (own_lit' (wr.drewN nq) wc.heap.size wr.heap.size (by simp) (by have := HSZ.out; omega)) (some ⟨g, 0, none⟩) (p + 1) cs (S.take (p + 1)) rfl ((rgs_take HRS.out ((p + 1)) (by omega)).below ((below_drewNr HBY.out _).alloc (by simp; have := HSZ.out; omega) _)) ?b2 ?b3 ?_)
                    case b2 => simp <;> omega
                    case b3 => simp; have := HSZ.out; omega
                    intro v1 w1 ho1 hg1
                    try simp only [List.nil_append] at ho1
                    have hB1 := ((below_drewNr HBY.out nq).alloc (by simp; have := HSZ.out; omega) (.cells #[] 74)).grown hg1 (by simp; have := HSZ.out; omega) (by have := HSZ.out; simp [Value.ownBlock]; omega)
                    have hw1 := HW.out.below hB1 HW.out.lt
                    have k1 := hw1.cell 0
                    have k2 := hw1.cell 1
                    simp only [List.getElem?_toArray, List.getElem?_cons_succ, List.getElem?_cons_zero] at k1 k2
                    have HO1 := Lib.hid ho1; have HB1 := Lib.hid hB1
                    clear ho1 hB1 hg1 hw1
                    go_wp2_with (at_builtin; refine append_rgs rfl (.tmp 57) (.tmp 59) rfl wc.heap.size v1 (S.take (p + 1)) rfl (HO1.out.below ((Below.refl _ w1).alloc (Nat.le_refl _) _)) (some ⟨w1.heap.size, 0, none⟩) 1 1 [(y1, y2)] rfl (rgs_new w1 y1 y2 HI.out.1 HI.out.2) ?c1 ?c2 ?_)
                    case c1 => simp only [List.length_cons, List.length_nil]; omega
                    case c2 => have := HB1.out.size; simp; omega
                    intro v2 w2 ho2 hg2
                    have HB2 := Lib.hid ((HB1.out.alloc HB1.out.size _).grown hg2 (by have := HB1.out.size; simp; omega) (fun j hj => (HO1.out.1.lt j hj).1))
                    have HO2 := Lib.hid ho2
                    have HD := Lib.hid (show Rgs w2 (.slice (some ⟨g, (p + 1) * 2, none⟩) (S.length - (p + 1)) (cs - (p + 1))) (S.drop (p + 1)) from by have := rgs_drop (HRS.out.below HB2.out) (p + 1) hkS; rw [if_neg hck, Nat.zero_add] at this; exact this)
                    clear ho2 hg2
                    go_wp2_with (at_builtin; refine append_rgs rfl (.tmp 61) (.tmp 64) rfl wc.heap.size v2 (S.take (p + 1) ++ [(y1, y2)]) rfl HO2.out _ _ _ (S.drop (p + 1)) rfl HD.out ?d1 ?d2 ?_)
                    case d1 => simp <;> omega
                    case d2 => exact HB2.out.size
                    intro v3 w3 ho3 hg3
                    have hB3 := HB2.out.grown hg3 HB2.out.size (fun j hj => (HO2.out.1.lt j hj).1)
                    go_wp2
                    go_roundw
                    case rel =>
                      have ho3' : OwnR w3 wc.heap.size v3 (S.take (p + 1) ++ (y1, y2) :: S.drop (p + 1)) := by simpa using ho3
                      have hcx := cut_letters x1 x2 y1 y2 HY1.out HY2.out
                      have hfit : Fit (y1, y2) := by
                        rw [← hcx]
                        exact fit_cut _ (by rw [hcx]; show ¬ y2 < y1; omega)
                      refine ⟨m + 1, by omega, by go_num, _, ho3'.mono HBC.out, sorted_put S (y1, y2) (p + 1) HS.out hfit hkS HLO.out HHI.out, fun c => ?_, by simp; omega, HBX'.out.trans (hB3.mono HBC.out)⟩
                      rw [has_put, HP.out, HSP.out, has_append, ← has_cut (x1, x2), hcx]
                    case measure => simp [intOf]; omega
    · obtain ⟨wm, hwm⟩ : ∃ wm, wm = wr := ⟨_, rfl⟩
      subst hwm
      have hmn : m = l.length := by omega
      have HPL := Lib.hid (show ∀ c, HasR S c ↔ HasR l c from by have h1 := HP.out; rw [hmn, List.take_length] at h1; exact h1)
      clear hmn
      rcases own_slice2 HO.out.1 with ⟨rfl, hS0⟩ | ⟨g, cs, rfl, hSc, hcm, hBg⟩
      · have HE := Lib.hid (show S = [] from List.eq_nil_of_length_eq_zero hS0)
        go_wp2_with fail
        go_loopw [8, 9] (fun vo i wz => vo = .slice none 0 0 ∧ i = .int .i64 0 ∧ wz = wm) (fun _ _ _ => 0)
        case atStart => exact ⟨rfl, rfl, rfl⟩
        case round =>
          obtain ⟨rfl, rfl, rfl⟩ := hrel
          go_wp2
          go_ret
          exact ⟨_, [], rfl, own_none _ _, trivial, fun c => by rw [← HPL.out c, HE.out], HB.out⟩
      · have HRS := Lib.hid (show Rgs wm (.slice (some ⟨g, 0, none⟩) S.length cs) S from HO.out.rgs)
        have HBL := Lib.hid HB.out.size
        go_wp2_with fail
        go_loopw [8, 9] (fun vo i wz => ∃ k : Nat, k ≤ S.length ∧ i = .int .i64 k ∧ Loop2 wm S k vo wz) (fun _ i _ => S.length - (intOf i).toNat)
        case atStart => exact ⟨0, Nat.zero_le _, rfl, [], own_none _ _, trivial, fun c => by simp [HasR], Nat.le_refl _, fun o p e => by simp at e, Below.refl _ _⟩
        case round =>
          obtain ⟨k, hk, rfl, O, hOO, hRO, hPO, hOk, hLO, hBz⟩ := hrel
          have HOO := Lib.hid hOO; have HRO := Lib.hid hRO; have HPO := Lib.hid hPO; have HLO := Lib.hid hLO; have HBZ := Lib.hid hBz
          clear hOO hRO hPO hLO hBz
          by_cases hkl : k < S.length
          · have hxs : ∃ x1 x2, S[k]? = some (x1, x2) ∧ S.take (k + 1) = S.take k ++ [(x1, x2)] ∧ wr.cell? ⟨g, k * 2, none⟩ = some (.int .i32 x1) ∧ wr.cell? ⟨g, k * 2 + 1, none⟩ = some (.int .i32 x2) := by
              obtain ⟨a1, c1, q1, q2, q3, q4, q5, q6⟩ := HRS.out.below HBZ.out
              injection q1 with q1 _ _
              subst q1
              rcases q5 with q5 | ⟨b1, o1, q7, q8⟩
              · rw [q5] at hkl
                simp at hkl
              · injection q7 with q7
                injection q7 with q9 q10
                subst q9 q10
                obtain ⟨s1, s2, r1, r2, r3, r4⟩ := rgs_at q8 k hkl
                exact ⟨s1, s2, r1, r2, by simpa using r3, by simpa using r4⟩
            obtain ⟨x1, x2, hx, hsp, c1, c2⟩ := hxs
            have hxe : S[k]'hkl = (x1, x2) := by
              rw [List.getElem?_eq_getElem hkl] at hx
              exact Option.some.inj hx
            have hfit := HS.out.2 (x1, x2) (List.mem_of_getElem? hx)
            have HI := Lib.hid (show I32 x1 ∧ I32 x2 from by
              have e := HRS.out
              obtain ⟨_, _, _, _, _, _, _, q6⟩ := e
              exact q6 (x1, x2) (List.mem_of_getElem? hx))
            have HX := Lib.hid hx; have HSP := Lib.hid hsp; have HXE := Lib.hid hxe; have HF := Lib.hid hfit
            clear hx hsp hxe hfit
            by_cases hO0 : O = []
            · have hl0 : O.length = 0 := by rw [hO0]; rfl
              have HO0 := Lib.hid hO0
              clear hO0
              rcases own_slice2 HOO.out.1 with ⟨rfl, _⟩ | ⟨go, co, rfl, hOc, hom, hBgo⟩
              · go_wp2_with fail
                go_big_quiet (fail)
                go_wp2_with (at_builtin; refine append_rgs rfl (.tmp 108) (.tmp 113) rfl wm.heap.size _ O rfl ((HOO.out.below (below_drewNr (Below.refl _ wr) _)).below ((Below.refl _ _).alloc (Nat.le_refl _) _)) (some ⟨(wr.drewN nq).heap.size, 0, none⟩) 1 1 [(x1, x2)] (by simp; rfl) (rgs_new (wr.drewN nq) x1 x2 HI.out.1 HI.out.2) ?c1 ?c2 ?_)
                case c1 => simp; omega
                case c2 => have := HBZ.out.size; simp; omega
                intro v3 w3 ho3 hg3
                have hB3 := ((below_drewNr HBZ.out nq).alloc (by have := HBZ.out.size; simp; omega) _).grown hg3 (by have := HBZ.out.size; simp; omega) (fun j hj => (HOO.out.1.lt j hj).1)
                go_wp2
                go_roundw
                case rel =>
                  refine ⟨k + 1, by omega, by go_num, O ++ [(x1, x2)], ho3, ?_, fun c => ?_, by simp; omega, fun o p e j h1 h2 => ?_, hB3⟩
                  · rw [HO0.out]; exact one_right (x1, x2) HF.out
                  · rw [has_append, HPO.out, HSP.out, has_append]
                  · have e2 := (List.append_inj_right' e rfl)
                    have e3 : (x1, x2) = p := by simpa using e2
                    rw [← e3]
                    have h3 := sorted_le HS.out k j h1 (by omega)
                    rw [HXE.out] at h3
                    exact h3
                case measure => simp [intOf]; omega
              · go_wp2_with fail
                go_big_quiet (fail)
                go_wp2_with (at_builtin; refine append_rgs rfl (.tmp 108) (.tmp 113) rfl wm.heap.size _ O rfl ((HOO.out.below (below_drewNr (Below.refl _ wr) _)).below ((Below.refl _ _).alloc (Nat.le_refl _) _)) (some ⟨(wr.drewN nq).heap.size, 0, none⟩) 1 1 [(x1, x2)] (by simp; rfl) (rgs_new (wr.drewN nq) x1 x2 HI.out.1 HI.out.2) ?c1 ?c2 ?_)
                case c1 => simp; omega
                case c2 => have := HBZ.out.size; simp; omega
                intro v3 w3 ho3 hg3
                have hB3 := ((below_drewNr HBZ.out nq).alloc (by have := HBZ.out.size; simp; omega) _).grown hg3 (by have := HBZ.out.size; simp; omega) (fun j hj => (HOO.out.1.lt j hj).1)
                go_wp2
                go_roundw
                case rel =>
                  refine ⟨k + 1, by omega, by go_num, O ++ [(x1, x2)], ho3, ?_, fun c => ?_, by simp; omega, fun o p e j h1 h2 => ?_, hB3⟩
                  · rw [HO0.out]; exact one_right (x1, x2) HF.out
                  · rw [has_append, HPO.out, HSP.out, has_append]
                  · have e2 := (List.append_inj_right' e rfl)
                    have e3 : (x1, x2) = p := by simpa using e2
                    rw [← e3]
                    have h3 := sorted_le HS.out k j h1 (by omega)
                    rw [HXE.out] at h3
                    exact h3
                case measure => simp [intOf]; omega
            · obtain ⟨o, p, hop⟩ : ∃ o p, O = o ++ [p] := by
                rcases List.eq_nil_or_concat O with h1 | ⟨o, p, h1⟩
                · exact absurd h1 hO0
                · exact ⟨o, p, by rw [h1]; simp⟩
              obtain ⟨p1, p2⟩ := p
              have hfp := right_fit O 0 (Int.le_refl _) HRO.out (p1, p2) (by rw [hop]; simp)
              have hle := HLO.out o (p1, p2) hop k hkl (Nat.le_refl _)
              rw [HXE.out] at hle
              simp only at hle
              have hol : O.length = o.length + 1 := by rw [hop]; simp
              have HOP := Lib.hid hop
              unfold Fit at hfp
              simp only at hfp
              rcases own_slice2 HOO.out.1 with ⟨rfl, h0⟩ | ⟨go, co, rfl, hOc, hom, hBgo⟩
              · omega
              obtain ⟨q, hq⟩ : ∃ q, o.length = q := ⟨_, rfl⟩
              rw [hq] at hol
              have HQ := Lib.hid hq
              have HOO' := Lib.hid (show OwnR wr wm.heap.size (.slice (some ⟨go, 0, none⟩) (q + 1) co) O from by rw [← hol]; exact HOO.out)
              have hpc : wr.cell? ⟨go, q * 2 + 1, none⟩ = some (.int .i32 p2) := by
                have h1 := (cellsR_at O q (by omega)).2
                have h2 : O[q]? = some (p1, p2) := by rw [hop, ← hq]; simp
                rw [List.getElem?_eq_getElem (by omega)] at h2
                rw [Option.some.inj h2] at h1
                have h3 := HOO.out.1.cells (g := go) rfl _ _ h1
                have a1 : ∀ j, (⟨go, 0, none⟩ : Addr).add j = ⟨go, 0 + j, none⟩ := fun j => by unfold Addr.add; split <;> simp_all
                rw [a1, Nat.zero_add] at h3
                exact h3
              have hfr := HOO.out.1.frozenAt (q * 2 + 1)
              have hst := HOO.out.1.stored (q * 2 + 1) (.int .i32 (max p2 x2))
              have HST := Lib.hid hst
              clear hop hq hO0 hst
              have hqz : (0 : Int) < (q : Int) + 1 := by omega
              have dqz : decide ((0 : Int) < (q : Int) + 1) = true := decide_eq_true hqz
              by_cases hjx : x1 ≤ p2 + 1
              · have djx : decide (x1 ≤ p2 + 1) = true := decide_eq_true hjx
                obtain ⟨z, hz⟩ : ∃ z : Int, (if p2 < x2 then x2 else p2) = z := ⟨_, rfl⟩
                have hb0 : (0 : Int) ≤ (q : Int) := by omega
                have hb1 : (q : Int) < (q : Int) + 1 := by omega
                have hb2 : (0 : Int) ≤ (k : Int) := by omega
                have hb3 : (k : Int) < (S.length : Int) := by omega
                have hb4 : ¬ ((q : Int) + 1 ≤ (q : Int)) := by omega
                have hb5 : ¬ ((S.length : Int) ≤ (k : Int)) := by omega
                have hb6 : IntKind.i64.wrap (q : Int) = (q : Int) := wrap_nat q (by omega)
                go_wp2_with fail
                go_big_quiet (fail)
                go_wp2_with fail
                go_region
                all_goals
                  go_wp2
                  go_roundw
                  case rel =>
                    have hz' : z = max p2 x2 := by rw [← hz]; split <;> omega
                    have hown := ((HOO.out.below (below_drewNr (Below.refl _ wr) (nq + 1))).1.stored (q * 2 + 1) (.int .i32 z)).1
                    have hcs := cellsR_set o (p1, p2) z
                    rw [HQ.out, ← HOP.out] at hcs
                    rw [hcs, hol] at hown
                    have hO2 : OwnR ((wr.drewN (nq + 1)).setCell ⟨go, q * 2 + 1, none⟩ (.int .i32 z)) wm.heap.size (.slice (some ⟨go, 0, none⟩) (q + 1) co) (o ++ [(p1, z)]) := by
                      refine ⟨?_, fun r hr => ?_⟩
                      · have hl2 : (o ++ [(p1, z)]).length = q + 1 := by rw [List.length_append, HQ.out]; rfl
                        rw [hl2]
                        exact hown
                      · rcases List.mem_append.1 hr with hr | hr
                        · exact HOO.out.2 r (by rw [HOP.out]; exact List.mem_append_left _ hr)
                        · rw [List.mem_singleton.1 hr]
                          have h1 := HOO.out.2 (p1, p2) (by rw [HOP.out]; simp)
                          have h2 := HI.out
                          unfold I32 at *
                          simp only at *
                          omega
                    have h1 := HRO.out
                    rw [HOP.out] at h1
                    refine ⟨k + 1, by omega, by go_num, o ++ [(p1, z)], hO2, ?_, fun c => ?_, by rw [List.length_append, HQ.out]; simp; omega, fun o2 p2' e j h2 h3 => ?_, ?_⟩
                    · rw [hz']
                      exact join_right o (p1, p2) (x1, x2) h1 HF.out
                    · have hj := join_has o (p1, p2) (x1, x2) hle hjx c
                      rw [hz', hj, ← HOP.out, HPO.out, HSP.out, has_append]
                    · have e2 := (List.append_inj_right' e rfl)
                      have e3 : (p1, z) = p2' := by simpa using e2
                      rw [← e3]
                      exact HLO.out o (p1, p2) HOP.out j h2 (by omega)
                    · exact (below_drewNr HBZ.out (nq + 1)).setCell hBgo _
                  case measure => simp [intOf]; omega
              · have djx : decide (x1 ≤ p2 + 1) = false := decide_eq_false hjx
                go_wp2_with fail
                go_big_quiet (fail)
                clear hpc hfr dqz
                go_wp2_with (at_builtin; refine append_rgs rfl (.tmp 108) (.tmp 113) rfl wm.heap.size _ O rfl ((HOO'.out.below (below_drewNr (Below.refl _ wr) _)).below ((Below.refl _ _).alloc (Nat.le_refl _) _)) (some ⟨(wr.drewN nq).heap.size, 0, none⟩) 1 1 [(x1, x2)] (by simp; rfl) (rgs_new (wr.drewN nq) x1 x2 HI.out.1 HI.out.2) ?c1 ?c2 ?_)
                case c1 => simp; omega
                case c2 => have := HBZ.out.size; simp; omega
                intro v3 w3 ho3 hg3
                have hB3 := ((below_drewNr HBZ.out nq).alloc (by have := HBZ.out.size; simp; omega) _).grown hg3 (by have := HBZ.out.size; simp; omega) (fun j hj => (HOO'.out.1.lt j hj).1)
                go_wp2
                go_roundw
                case rel =>
                  refine ⟨k + 1, by omega, by go_num, O ++ [(x1, x2)], ho3, ?_, fun c => ?_, by simp; omega, fun o p e j h1 h2 => ?_, hB3⟩
                  · rw [HOP.out]
                    have h1 := HRO.out
                    rw [HOP.out] at h1
                    exact put_right o (p1, p2) (x1, x2) h1 HF.out (by show p2 + 1 < x1; omega)
                  · rw [has_append, HPO.out, HSP.out, has_append]
                  · have e2 := (List.append_inj_right' e rfl)
                    have e3 : (x1, x2) = p := by simpa using e2
                    rw [← e3]
                    have h3 := sorted_le HS.out k j h1 (by omega)
                    rw [HXE.out] at h3
                    exact h3
                case measure => simp [intOf]; omega
          · have hkn : S.take k = S := List.take_of_length_le (by omega)
            have HK := Lib.hid hkn
            clear hkn
            go_wp2
            go_ret
            exact ⟨_, O, rfl, HOO.out.mono HBL.out, HRO.out, fun c => by rw [HPO.out, HK.out, HPL.out], HB.out.trans (HBZ.out.mono HBL.out)⟩
end Go.Proofs.YtofhckheeijoiaaDoor
/- The document's sets with names: a literal of pairs as a fresh row of ranges. -/
namespace Go.Proofs.YtofhckheeijoiaaDoor
open Go Go.RowKit

/-- An append of one range onto a row of the call's own, at a step of a region that draws its order. -/
theorem step_append_rgs {w : World} {ops : Array Oper} {o : Oper} {a : Act} {Kk : Act → World → Prop} {Q : Exit → Act → World → Prop} {E : Prop} (hgd : o.guard = none) (x y : Operand)
    (ho : o.op = .call { callee := .builtin .append, args := #[x, y], argTypes := #[24, 24] })
    (base : Nat) (v : Value) (O : List (Int × Int)) (hs : a.eval x = v) (hown : OwnR w base v O)
    (g : Nat) (x1 x2 : Int) (hx : a.eval y = .slice (some ⟨g, 0, none⟩) 1 1) (ht : Rgs w (.slice (some ⟨g, 0, none⟩) 1 1) [(x1, x2)]) (hn : O.length + 1 ≤ 17592186044416) (hbase : base ≤ w.heap.size)
    (h : ∀ v' w', OwnR w' base v' (O ++ [(x1, x2)]) → w.grownBy w' v.ownBlock → Kk (a.put o.dst v') w') :
    if Region.wanted o (yielded ops a.tmps) = true then Oper.wp Tryd.prog o a w Kk Q else E := by
  have hw : Region.wanted o (yielded ops a.tmps) = true := by
    unfold Region.wanted
    rw [hgd]
  rw [if_pos hw]
  obtain ⟨i, hi, hz, hsize, hby⟩ := info_parts info_range
  obtain ⟨A', c', h1, h2, h3, h4, h5, h6⟩ := ht
  have hall : AllI32 (O ++ [(x1, x2)]) := fun r hr => (List.mem_append.1 hr).elim (hown.2 r) (h6 r)
  injection h1 with e1 e2 e3
  subst e1 e3
  refine wp_append_own w x y 24 ho base 74 i (.agg #[.int .i32 0, .int .i32 0]) 2 8 Tryd.underlying24 hi hz hsize hby rfl (by omega) v O.length (cellsR O) hs hown.1 ⟨g, 0, none⟩ 1 1 (cellsR [(x1, x2)]) hx (by rw [cellsR_length]; rfl) ?_ (cellsR_one _) (by unfold maxLen; omega) (by omega) hbase (fun v' w' g1 g2 _ => h v' w' ⟨?_, hall⟩ g2)
  · intro j u hu
    obtain ⟨q, hq, hh⟩ := cellsR_get [(x1, x2)] j u hu
    rcases h5 with h5 | ⟨b, off, e, hc⟩
    · cases h5
    · have e := Option.some.inj e
      have e' := congrArg Addr.off e
      replace e := congrArg Addr.block e
      dsimp only at e e'
      subst e e'
      rw [addr_plus]
      rcases hh with ⟨rfl, rfl⟩ | ⟨rfl, rfl⟩
      · exact (hc q hq).1
      · have := (hc q hq).2
        rw [show 0 + (q * 2 + 1) = 0 + q * 2 + 1 by omega]
        exact this
  · rw [cellsR_append, List.length_append]
    exact g1

set_option maxHeartbeats 1600000 in
set_option maxRecDepth 100000 in
/-- A list of pairs, as a fresh row of ranges. -/
theorem rset_any (v : Value) (l : List (Int × Int)) (w : World) (h : Rgs w v l) (hn : l.length ≤ 1099511627776) :
    Calls Tryd.prog 68 #[v] w fun e w' => ∃ v', e = .returned v' ∧ OwnR w' w.heap.size v' l ∧ Below w.heap.size w w' := by
  have HR := Lib.hid h
  obtain ⟨a, c, rfl, h2, h3, h4, h5, h6⟩ := h
  have H6 := Lib.hid h6
  clear h5 h6 h4 h2 h3
  go_enter Tryd.func68, Tryd.ntmps68
  go_wp2_with fail
  go_loopw [3, 4] (fun vs i wr => ∃ m : Nat, m ≤ l.length ∧ i = .int .i64 m ∧ OwnR wr w.heap.size vs (l.take m) ∧ Below w.heap.size w wr) (fun _ i _ => l.length - (intOf i).toNat)
  case atStart => exact ⟨0, Nat.zero_le _, rfl, own_none _ _, Below.refl _ _⟩
  case round =>
    obtain ⟨m, hm, rfl, hO, hB⟩ := hrel
    have HO := Lib.hid hO; have HB := Lib.hid hB
    clear hO hB
    by_cases hlt : m < l.length
    · obtain ⟨a', c', e, g2, g3, g4, g5, g6⟩ := HR.out
      injection e with e1 e2 e3
      subst e1 e3
      rcases g5 with g5 | ⟨b, o, rfl, hc⟩
      · rw [g5] at hlt
        simp at hlt
      obtain ⟨x1, x2, hx, hsp, c1w, c2w⟩ := rgs_at hc m hlt
      have c1 := (HB.out.cell (World.block_lt_of_cell? w _ c1w)).trans c1w
      have c2 := (HB.out.cell (World.block_lt_of_cell? w _ c2w)).trans c2w
      have C1 := Lib.hid c1w; have C2 := Lib.hid c2w
      have hxi := H6.out (x1, x2) (List.mem_of_getElem? hx)
      have HSP := Lib.hid hsp; have HXI := Lib.hid hxi
      have hsz := HB.out.size
      clear hsp hx hc g6 hxi c1w c2w
      go_upto_region 5 with (fail)
      go_region_held3 (fun w' => w'.cell? ⟨b, o + m * 2, none⟩ = some (.int .i32 x1) ∧ w'.cell? ⟨b, o + m * 2 + 1, none⟩ = some (.int .i32 x2)) (first | go_keep | exact ⟨c1, c2⟩ | (constructor <;> assumption)) (first | (refine step_append_rgs rfl (.tmp 11) (.tmp 23) rfl w.heap.size _ (l.take m) rfl (HO.out.below ((Below.refl _ wr).alloc (Nat.le_refl _) _).drew) wr.heap.size x1 x2 rfl ((rgs_new wr x1 x2 HXI.out.1 HXI.out.2).below (Below.refl _ _).drew) (by rw [List.length_take]; omega) (by simp; omega) ?_; intro v3 w3 ho3 hg3; have hB3 := Lib.hid (((HB.out.alloc HB.out.size _).drew).grown hg3 (by simp; omega) (fun j hj => (HO.out.1.lt j hj).1)); have k1 := (hB3.out.cell (World.block_lt_of_cell? w _ C1.out)).trans C1.out; have k2 := (hB3.out.cell (World.block_lt_of_cell? w _ C2.out)).trans C2.out))
      have HO3 := Lib.hid ho3
      clear ho3 hg3 k1 k2 c1 c2
      go_wp2
      go_roundw
      case rel => exact ⟨m + 1, by omega, by go_num, by rw [HSP.out]; exact HO3.out, hB3.out⟩
      case measure => simp [intOf]; omega
    · have e : l.take m = l := List.take_of_length_le (by omega)
      have ho := HO.out
      rw [e] at ho
      have HO' := Lib.hid ho
      clear ho e
      go_wp2
      go_ret
      exact ⟨_, rfl, HO'.out, HB.out⟩
end Go.Proofs.YtofhckheeijoiaaDoor
/- The document's set of a name, or that there is none. -/
namespace Go.Proofs.YtofhckheeijoiaaDoor
open Go Go.RowKit

theorem rgs_lit (w : World) (t : TypeId) (cs : Array Value) (l : List (Int × Int)) (n : Nat) (h : cs.toList = cellsR l) (hi : AllI32 l) (hn : l.length = n) (hm : n ≤ maxLen) : Rgs (w.alloc (.cells cs t)) (.slice (some ⟨w.heap.size, 0, none⟩) n n) l := by
  subst hn
  refine ⟨_, _, rfl, Nat.le_refl _, hm, fun e => (by cases e), .inr ⟨w.heap.size, 0, rfl, fun i hi' => ?_⟩, hi⟩
  obtain ⟨h1, h2⟩ := cellsR_at l i hi'
  have hc : ∀ j, (w.alloc (.cells cs t)).cell? ⟨w.heap.size, j, none⟩ = cs[j]? := fun j => by rw [World.cell?_alloc_at _ _ _ _ rfl]
  rw [Nat.zero_add, hc, hc, ← Array.getElem?_toList, ← Array.getElem?_toList, h]
  exact ⟨h1, h2⟩

/-- The sets of names. -/
def nameR (b : List UInt8) : Option (List (Int × Int)) :=
  if b = [76, 117] then some [(65, 90), (192, 214), (216, 222), (913, 929), (931, 937), (1040, 1071)] else
  if b = [76, 108] then some [(97, 122), (223, 246), (248, 255), (945, 969), (1072, 1103)] else
  if b = [76] then some [(65, 90), (97, 122), (170, 170), (186, 186), (192, 214), (216, 246), (248, 255), (913, 929), (931, 937), (945, 969), (1040, 1103), (19968, 40959)] else
  if b = [78, 100] then some [(48, 57), (1632, 1641)] else
  if b = [78] then some [(48, 57), (178, 179), (185, 185), (188, 190), (1632, 1641), (8544, 8584)] else
  if b = [80] then some [(33, 35), (37, 42), (44, 47), (58, 59), (63, 64), (91, 93), (95, 95), (123, 123), (125, 125), (161, 161), (167, 167), (171, 171), (182, 183), (187, 187), (191, 191)] else
  if b = [83] then some [(36, 36), (43, 43), (60, 62), (94, 94), (96, 96), (124, 124), (126, 126), (162, 166), (168, 169), (172, 172), (174, 177), (180, 180), (184, 184), (215, 215), (247, 247)] else
  if b = [90] then some [(32, 32), (160, 160), (8192, 8202), (8232, 8233), (8239, 8239), (12288, 12288)] else
  if b = [67, 99] then some [(0, 31), (127, 159)] else
  if b = [76, 97, 116, 105, 110] then some [(65, 90), (97, 122), (170, 170), (186, 186), (192, 214), (216, 246), (248, 591), (8490, 8491)] else
  if b = [71, 114, 101, 101, 107] then some [(880, 883), (885, 887), (890, 893), (895, 895), (900, 900), (902, 902), (904, 906), (908, 908), (910, 929), (931, 993)] else
  if b = [67, 121, 114, 105, 108, 108, 105, 99] then some [(1024, 1156), (1159, 1327)] else
  if b = [72, 97, 110] then some [(19968, 40959)] else
  none
def NamedPost (s : ByteArray) (w : World) (e : Ending) (w' : World) : Prop :=
  Below w.heap.size w w' ∧ ((nameR s.toList = none ∧ e = .returned (.tuple #[.slice none 0 0, .bool false])) ∨ ∃ v l, nameR s.toList = some l ∧ e = .returned (.tuple #[v, .bool true]) ∧ OwnR w' w.heap.size v l)

set_option maxHeartbeats 4000000 in
set_option maxRecDepth 100000 in
theorem rnamed_any (s : ByteArray) (w : World) : Calls Tryd.prog 52 #[.string s] w (NamedPost s w) := by
  obtain ⟨b, hb⟩ : ∃ b, s.toList = b := ⟨_, rfl⟩
  unfold NamedPost
  rw [hb]
  have HS := Lib.hid hb
  clear hb
  go_enter Tryd.func52, Tryd.ntmps52
  go_upto_if 5 with (fail)
  rw [HS.out]
  by_cases h0 : b = [76, 117]
  · subst h0
    rw [show (([76, 117] : List UInt8) == [76, 117]) = true by rfl]
    go_wp2_with fail
    refine (rset_any _ [(65, 90), (192, 214), (216, 222), (913, 929), (931, 937), (1040, 1071)] _ (rgs_lit w 118 _ _ _ rfl (by unfold AllI32 I32; decide) rfl (by unfold maxLen; decide)) (by decide)).mono ?_
    rintro e w1 ⟨v1, rfl, ho, hb⟩
    have HB := Lib.hid ((((Below.refl _ w).alloc (Nat.le_refl _) _).trans (hb.mono (by simp))))
    have HO := Lib.hid (ho.mono (B' := w.heap.size) (by simp))
    clear ho hb
    go_wp2_with fail
    go_ret2
    exact ⟨HB.out, .inr ⟨v1, _, rfl, rfl, HO.out⟩⟩
  rw [show (b == [76, 117]) = false by simpa using h0]
  go_upto_if 15 with (fail)
  rw [HS.out]
  by_cases h1 : b = [76, 108]
  · subst h1
    rw [show (([76, 108] : List UInt8) == [76, 108]) = true by rfl]
    go_wp2_with fail
    refine (rset_any _ [(97, 122), (223, 246), (248, 255), (945, 969), (1072, 1103)] _ (rgs_lit w 118 _ _ _ rfl (by unfold AllI32 I32; decide) rfl (by unfold maxLen; decide)) (by decide)).mono ?_
    rintro e w1 ⟨v1, rfl, ho, hb⟩
    have HB := Lib.hid ((((Below.refl _ w).alloc (Nat.le_refl _) _).trans (hb.mono (by simp))))
    have HO := Lib.hid (ho.mono (B' := w.heap.size) (by simp))
    clear ho hb
    go_wp2_with fail
    go_ret2
    exact ⟨HB.out, .inr ⟨v1, _, rfl, rfl, HO.out⟩⟩
  rw [show (b == [76, 108]) = false by simpa using h1]
  go_upto_if 24 with (fail)
  rw [HS.out]
  by_cases h2 : b = [76]
  · subst h2
    rw [show (([76] : List UInt8) == [76]) = true by rfl]
    go_wp2_with fail
    refine (rset_any _ [(65, 90), (97, 122), (170, 170), (186, 186), (192, 214), (216, 246), (248, 255), (913, 929), (931, 937), (945, 969), (1040, 1103), (19968, 40959)] _ (rgs_lit w 118 _ _ _ rfl (by unfold AllI32 I32; decide) rfl (by unfold maxLen; decide)) (by decide)).mono ?_
    rintro e w1 ⟨v1, rfl, ho, hb⟩
    have HB := Lib.hid ((((Below.refl _ w).alloc (Nat.le_refl _) _).trans (hb.mono (by simp))))
    have HO := Lib.hid (ho.mono (B' := w.heap.size) (by simp))
    clear ho hb
    go_wp2_with fail
    go_ret2
    exact ⟨HB.out, .inr ⟨v1, _, rfl, rfl, HO.out⟩⟩
  rw [show (b == [76]) = false by simpa using h2]
  go_upto_if 40 with (fail)
  rw [HS.out]
  by_cases h3 : b = [78, 100]
  · subst h3
    rw [show (([78, 100] : List UInt8) == [78, 100]) = true by rfl]
    go_wp2_with fail
    refine (rset_any _ [(48, 57), (1632, 1641)] _ (rgs_lit w 118 _ _ _ rfl (by unfold AllI32 I32; decide) rfl (by unfold maxLen; decide)) (by decide)).mono ?_
    rintro e w1 ⟨v1, rfl, ho, hb⟩
    have HB := Lib.hid ((((Below.refl _ w).alloc (Nat.le_refl _) _).trans (hb.mono (by simp))))
    have HO := Lib.hid (ho.mono (B' := w.heap.size) (by simp))
    clear ho hb
    go_wp2_with fail
    go_ret2
    exact ⟨HB.out, .inr ⟨v1, _, rfl, rfl, HO.out⟩⟩
  rw [show (b == [78, 100]) = false by simpa using h3]
  go_upto_if 46 with (fail)
  rw [HS.out]
  by_cases h4 : b = [78]
  · subst h4
    rw [show (([78] : List UInt8) == [78]) = true by rfl]
    go_wp2_with fail
    refine (rset_any _ [(48, 57), (178, 179), (185, 185), (188, 190), (1632, 1641), (8544, 8584)] _ (rgs_lit w 118 _ _ _ rfl (by unfold AllI32 I32; decide) rfl (by unfold maxLen; decide)) (by decide)).mono ?_
    rintro e w1 ⟨v1, rfl, ho, hb⟩
    have HB := Lib.hid ((((Below.refl _ w).alloc (Nat.le_refl _) _).trans (hb.mono (by simp))))
    have HO := Lib.hid (ho.mono (B' := w.heap.size) (by simp))
    clear ho hb
    go_wp2_with fail
    go_ret2
    exact ⟨HB.out, .inr ⟨v1, _, rfl, rfl, HO.out⟩⟩
  rw [show (b == [78]) = false by simpa using h4]
  go_upto_if 56 with (fail)
  rw [HS.out]
  by_cases h5 : b = [80]
  · subst h5
    rw [show (([80] : List UInt8) == [80]) = true by rfl]
    go_wp2_with fail
    refine (rset_any _ [(33, 35), (37, 42), (44, 47), (58, 59), (63, 64), (91, 93), (95, 95), (123, 123), (125, 125), (161, 161), (167, 167), (171, 171), (182, 183), (187, 187), (191, 191)] _ (rgs_lit w 118 _ _ _ rfl (by unfold AllI32 I32; decide) rfl (by unfold maxLen; decide)) (by decide)).mono ?_
    rintro e w1 ⟨v1, rfl, ho, hb⟩
    have HB := Lib.hid ((((Below.refl _ w).alloc (Nat.le_refl _) _).trans (hb.mono (by simp))))
    have HO := Lib.hid (ho.mono (B' := w.heap.size) (by simp))
    clear ho hb
    go_wp2_with fail
    go_ret2
    exact ⟨HB.out, .inr ⟨v1, _, rfl, rfl, HO.out⟩⟩
  rw [show (b == [80]) = false by simpa using h5]
  go_upto_if 75 with (fail)
  rw [HS.out]
  by_cases h6 : b = [83]
  · subst h6
    rw [show (([83] : List UInt8) == [83]) = true by rfl]
    go_wp2_with fail
    refine (rset_any _ [(36, 36), (43, 43), (60, 62), (94, 94), (96, 96), (124, 124), (126, 126), (162, 166), (168, 169), (172, 172), (174, 177), (180, 180), (184, 184), (215, 215), (247, 247)] _ (rgs_lit w 118 _ _ _ rfl (by unfold AllI32 I32; decide) rfl (by unfold maxLen; decide)) (by decide)).mono ?_
    rintro e w1 ⟨v1, rfl, ho, hb⟩
    have HB := Lib.hid ((((Below.refl _ w).alloc (Nat.le_refl _) _).trans (hb.mono (by simp))))
    have HO := Lib.hid (ho.mono (B' := w.heap.size) (by simp))
    clear ho hb
    go_wp2_with fail
    go_ret2
    exact ⟨HB.out, .inr ⟨v1, _, rfl, rfl, HO.out⟩⟩
  rw [show (b == [83]) = false by simpa using h6]
  go_upto_if 94 with (fail)
  rw [HS.out]
  by_cases h7 : b = [90]
  · subst h7
    rw [show (([90] : List UInt8) == [90]) = true by rfl]
    go_wp2_with fail
    refine (rset_any _ [(32, 32), (160, 160), (8192, 8202), (8232, 8233), (8239, 8239), (12288, 12288)] _ (rgs_lit w 118 _ _ _ rfl (by unfold AllI32 I32; decide) rfl (by unfold maxLen; decide)) (by decide)).mono ?_
    rintro e w1 ⟨v1, rfl, ho, hb⟩
    have HB := Lib.hid ((((Below.refl _ w).alloc (Nat.le_refl _) _).trans (hb.mono (by simp))))
    have HO := Lib.hid (ho.mono (B' := w.heap.size) (by simp))
    clear ho hb
    go_wp2_with fail
    go_ret2
    exact ⟨HB.out, .inr ⟨v1, _, rfl, rfl, HO.out⟩⟩
  rw [show (b == [90]) = false by simpa using h7]
  go_upto_if 104 with (fail)
  rw [HS.out]
  by_cases h8 : b = [67, 99]
  · subst h8
    rw [show (([67, 99] : List UInt8) == [67, 99]) = true by rfl]
    go_wp2_with fail
    refine (rset_any _ [(0, 31), (127, 159)] _ (rgs_lit w 118 _ _ _ rfl (by unfold AllI32 I32; decide) rfl (by unfold maxLen; decide)) (by decide)).mono ?_
    rintro e w1 ⟨v1, rfl, ho, hb⟩
    have HB := Lib.hid ((((Below.refl _ w).alloc (Nat.le_refl _) _).trans (hb.mono (by simp))))
    have HO := Lib.hid (ho.mono (B' := w.heap.size) (by simp))
    clear ho hb
    go_wp2_with fail
    go_ret2
    exact ⟨HB.out, .inr ⟨v1, _, rfl, rfl, HO.out⟩⟩
  rw [show (b == [67, 99]) = false by simpa using h8]
  go_upto_if 110 with (fail)
  rw [HS.out]
  by_cases h9 : b = [76, 97, 116, 105, 110]
  · subst h9
    rw [show (([76, 97, 116, 105, 110] : List UInt8) == [76, 97, 116, 105, 110]) = true by rfl]
    go_wp2_with fail
    refine (rset_any _ [(65, 90), (97, 122), (170, 170), (186, 186), (192, 214), (216, 246), (248, 591), (8490, 8491)] _ (rgs_lit w 118 _ _ _ rfl (by unfold AllI32 I32; decide) rfl (by unfold maxLen; decide)) (by decide)).mono ?_
    rintro e w1 ⟨v1, rfl, ho, hb⟩
    have HB := Lib.hid ((((Below.refl _ w).alloc (Nat.le_refl _) _).trans (hb.mono (by simp))))
    have HO := Lib.hid (ho.mono (B' := w.heap.size) (by simp))
    clear ho hb
    go_wp2_with fail
    go_ret2
    exact ⟨HB.out, .inr ⟨v1, _, rfl, rfl, HO.out⟩⟩
  rw [show (b == [76, 97, 116, 105, 110]) = false by simpa using h9]
  go_upto_if 122 with (fail)
  rw [HS.out]
  by_cases h10 : b = [71, 114, 101, 101, 107]
  · subst h10
    rw [show (([71, 114, 101, 101, 107] : List UInt8) == [71, 114, 101, 101, 107]) = true by rfl]
    go_wp2_with fail
    refine (rset_any _ [(880, 883), (885, 887), (890, 893), (895, 895), (900, 900), (902, 902), (904, 906), (908, 908), (910, 929), (931, 993)] _ (rgs_lit w 118 _ _ _ rfl (by unfold AllI32 I32; decide) rfl (by unfold maxLen; decide)) (by decide)).mono ?_
    rintro e w1 ⟨v1, rfl, ho, hb⟩
    have HB := Lib.hid ((((Below.refl _ w).alloc (Nat.le_refl _) _).trans (hb.mono (by simp))))
    have HO := Lib.hid (ho.mono (B' := w.heap.size) (by simp))
    clear ho hb
    go_wp2_with fail
    go_ret2
    exact ⟨HB.out, .inr ⟨v1, _, rfl, rfl, HO.out⟩⟩
  rw [show (b == [71, 114, 101, 101, 107]) = false by simpa using h10]
  go_upto_if 136 with (fail)
  rw [HS.out]
  by_cases h11 : b = [67, 121, 114, 105, 108, 108, 105, 99]
  · subst h11
    rw [show (([67, 121, 114, 105, 108, 108, 105, 99] : List UInt8) == [67, 121, 114, 105, 108, 108, 105, 99]) = true by rfl]
    go_wp2_with fail
    refine (rset_any _ [(1024, 1156), (1159, 1327)] _ (rgs_lit w 118 _ _ _ rfl (by unfold AllI32 I32; decide) rfl (by unfold maxLen; decide)) (by decide)).mono ?_
    rintro e w1 ⟨v1, rfl, ho, hb⟩
    have HB := Lib.hid ((((Below.refl _ w).alloc (Nat.le_refl _) _).trans (hb.mono (by simp))))
    have HO := Lib.hid (ho.mono (B' := w.heap.size) (by simp))
    clear ho hb
    go_wp2_with fail
    go_ret2
    exact ⟨HB.out, .inr ⟨v1, _, rfl, rfl, HO.out⟩⟩
  rw [show (b == [67, 121, 114, 105, 108, 108, 105, 99]) = false by simpa using h11]
  go_upto_if 142 with (fail)
  rw [HS.out]
  by_cases h12 : b = [72, 97, 110]
  · subst h12
    rw [show (([72, 97, 110] : List UInt8) == [72, 97, 110]) = true by rfl]
    go_wp2_with fail
    refine (rset_any _ [(19968, 40959)] _ (rgs_lit w 118 _ _ _ rfl (by unfold AllI32 I32; decide) rfl (by unfold maxLen; decide)) (by decide)).mono ?_
    rintro e w1 ⟨v1, rfl, ho, hb⟩
    have HB := Lib.hid ((((Below.refl _ w).alloc (Nat.le_refl _) _).trans (hb.mono (by simp))))
    have HO := Lib.hid (ho.mono (B' := w.heap.size) (by simp))
    clear ho hb
    go_wp2_with fail
    go_ret2
    exact ⟨HB.out, .inr ⟨v1, _, rfl, rfl, HO.out⟩⟩
  rw [show (b == [72, 97, 110]) = false by simpa using h12]
  go_wp2_with fail
  go_ret2
  exact ⟨Below.refl _ _, .inl ⟨by unfold nameR; simp [h0, h1, h2, h3, h4, h5, h6, h7, h8, h9, h10, h11, h12], rfl⟩⟩
end Go.Proofs.YtofhckheeijoiaaDoor
/- The document's Not: a fresh row of a set. -/
namespace Go.Proofs.YtofhckheeijoiaaDoor
open Go Go.RowKit

/-- What Not has made behind k ranges. -/
def Loop3 (w1 : World) (K : List (Int × Int)) (k : Nat) (vo : Value) (f : Int) (wz : World) : Prop :=
  ∃ O, OwnR wz w1.heap.size vo O ∧ O ++ notFrom f (K.drop k) = notFrom 0 K ∧ RightFrom f (K.drop k) ∧ 0 ≤ f ∧ f ≤ 1114112 ∧ O.length ≤ k ∧ Below w1.heap.size w1 wz

set_option maxHeartbeats 1600000 in
set_option maxRecDepth 100000 in
theorem rnot_any (v : Value) (l : List (Int × Int)) (w : World) (h : Rgs w v l) (hn : l.length ≤ 1099511627776) :
    Calls Tryd.prog 53 #[v] w (SetPost (fun c => 0 ≤ c ∧ c ≤ 1114111 ∧ ¬ HasR l c) w) := by
  have HN := Lib.hid (rnorm_any v l w h hn)
  go_enter Tryd.func53, Tryd.ntmps53
  go_wp2_with fail
  refine HN.out.mono ?_
  rintro e w1 ⟨v1, K, rfl, hO, hR, hP, hB⟩
  have HO := Lib.hid hO; have HR := Lib.hid hR; have HP := Lib.hid hP; have HB := Lib.hid hB
  have hKl := right_len K 0 (by omega) hR
  clear hO hR hP hB h
  have HRG := Lib.hid HO.out.rgs
  obtain ⟨A, cA, hv1, hc1, hc2, -⟩ := HO.out.rgs
  subst hv1
  go_wp2_with fail
  go_loopw [4, 5, 6] (fun vo vf i wz => ∃ k : Nat, k ≤ K.length ∧ i = .int .i64 k ∧ ∃ f : Int, vf = .int .i32 f ∧ Loop3 w1 K k vo f wz) (fun _ _ i _ => K.length - (intOf i).toNat)
  case atStart => exact ⟨0, Nat.zero_le _, rfl, 0, rfl, [], own_none _ _, by simp, by rw [List.drop_zero]; exact HR.out, by omega, by omega, Nat.le_refl _, Below.refl _ _⟩
  case round =>
    obtain ⟨k, hk, rfl, f, rfl, O, hOO, hEq, hRf, hf0, hf1, hOk, hBz⟩ := hrel
    have HOO := Lib.hid hOO; have HEQ := Lib.hid hEq; have HRF := Lib.hid hRf; have HBZ := Lib.hid hBz
    clear hOO hEq hRf hBz
    by_cases hkl : k < K.length
    · obtain ⟨a1, cq, e, q2, q3, q4, q5, q6⟩ := HRG.out
      injection e with e1 e2 e3
      subst e1 e3
      rcases q5 with q5 | ⟨b, o, rfl, hc⟩
      · rw [q5] at hkl
        simp at hkl
      obtain ⟨x1, x2, hx, hsp, w1c, w2c⟩ := rgs_at hc k hkl
      have c1 := (HBZ.out.cell (World.block_lt_of_cell? w1 _ w1c)).trans w1c
      have c2 := (HBZ.out.cell (World.block_lt_of_cell? w1 _ w2c)).trans w2c
      have hdr : K.drop k = (x1, x2) :: K.drop (k + 1) := by
        rw [List.drop_eq_getElem_cons hkl]
        rw [List.getElem?_eq_getElem hkl] at hx
        rw [Option.some.inj hx]
      have hrf := HRF.out
      rw [hdr] at hrf
      obtain ⟨r1, r2, r3, r4⟩ := hrf
      have r1' : f ≤ x1 := r1
      have r2' : x1 ≤ x2 := r2
      have r3' : x2 ≤ 1114111 := r3
      have hq := HEQ.out
      rw [hdr] at hq
      have HQ := Lib.hid hq; have HR4 := Lib.hid (r4.le (lo' := x2 + 1) (by show x2 + 1 ≤ x2 + 2; omega)); have HW2 := Lib.hid w2c
      clear hx hsp hc hdr hq r4 q6 r1 r2 r3 w1c w2c
      by_cases hfx : f < x1
      · go_wp2_with (at_builtin; refine append_rgs rfl (.tmp 22) (.tmp 31) rfl w1.heap.size _ O rfl (HOO.out.below ((Below.refl _ _).alloc (Nat.le_refl _) _)) (some ⟨wr.heap.size, 0, none⟩) 1 1 [(f, x1 - 1)] rfl (rgs_new wr f (x1 - 1) (by unfold I32; omega) (by unfold I32; omega)) ?c3 ?c4 ?_)
        case c3 => (try simp); omega
        case c4 => (have := HBZ.out.size; (try simp); omega)
        intro v3 w3 ho3 hg3
        have HB3 := Lib.hid ((HBZ.out.alloc HBZ.out.size _).grown hg3 (by have := HBZ.out.size; simp; omega) (fun j hj => (HOO.out.1.lt j hj).1))
        have d2 := (HB3.out.cell (World.block_lt_of_cell? w1 _ HW2.out)).trans HW2.out
        have HO3 := Lib.hid ho3
        clear hg3 ho3 c1 c2
        go_wp2
        go_roundw
        case rel =>
          refine ⟨k + 1, by omega, by go_num, x2 + 1, rfl, O ++ [(f, x1 - 1)], HO3.out, ?_, HR4.out, by omega, by omega, by simp; omega, HB3.out⟩
          rw [← HQ.out, List.append_assoc]
          congr 1
          show _ = (if f < x1 then [(f, x1 - 1)] else []) ++ notFrom (x2 + 1) (K.drop (k + 1))
          rw [if_pos hfx]
        case measure => simp [intOf]; omega
      · go_wp2
        go_roundw
        case rel =>
          refine ⟨k + 1, by omega, by go_num, x2 + 1, rfl, O, HOO.out, ?_, HR4.out, by omega, by omega, by omega, HBZ.out⟩
          rw [← HQ.out]
          congr 1
          show _ = (if f < x1 then [(f, x1 - 1)] else []) ++ notFrom (x2 + 1) (K.drop (k + 1))
          rw [if_neg hfx, List.nil_append]
        case measure => simp [intOf]; omega
    · have hkn : K.drop k = [] := List.drop_eq_nil_of_le (by omega)
      have hq := HEQ.out
      rw [hkn] at hq
      have HQ := Lib.hid hq
      have hall : ∀ c, HasR (notFrom 0 K) c ↔ 0 ≤ c ∧ c ≤ 1114111 ∧ ¬ HasR l c := fun c => by rw [not_has K 0 c (Int.le_refl _) HR.out, HP.out]
      have hrn : RightR (notFrom 0 K) := not_right K 0 HR.out
      have HALL := Lib.hid hall; have HRN := Lib.hid hrn
      clear hkn hq hall hrn
      by_cases hfx : f ≤ 1114111
      · go_wp2_with (at_builtin; refine append_rgs rfl (.tmp 41) (.tmp 44) rfl w1.heap.size _ O rfl (HOO.out.below ((Below.refl _ _).alloc (Nat.le_refl _) _)) (some ⟨wr.heap.size, 0, none⟩) 1 1 [(f, 1114111)] rfl (rgs_new wr f 1114111 (by unfold I32; omega) (by unfold I32; omega)) ?c3 ?c4 ?_)
        case c3 => (try simp); omega
        case c4 => (have := HBZ.out.size; (try simp); omega)
        intro v3 w3 ho3 hg3
        have HB3 := Lib.hid ((HBZ.out.alloc HBZ.out.size _).grown hg3 (by have := HBZ.out.size; simp; omega) (fun j hj => (HOO.out.1.lt j hj).1))
        have HO3 := Lib.hid ho3
        clear hg3 ho3
        have he : O ++ [(f, 1114111)] = notFrom 0 K := by
          rw [← HQ.out]
          congr 1
          show _ = if f ≤ 1114111 then [(f, 1114111)] else []
          rw [if_pos hfx]
        have HE := Lib.hid he
        clear he
        go_wp2
        go_ret
        exact ⟨_, notFrom 0 K, rfl, (HE.out ▸ HO3.out).mono HB.out.size, HRN.out, HALL.out, HB.out.trans (HB3.out.mono HB.out.size)⟩
      · have he : O = notFrom 0 K := by
          rw [← HQ.out]
          show _ = O ++ (if f ≤ 1114111 then [(f, 1114111)] else [])
          rw [if_neg hfx, List.append_nil]
        have HE := Lib.hid he
        clear he
        go_wp2
        go_ret
        exact ⟨_, notFrom 0 K, rfl, (HE.out ▸ HOO.out).mono HB.out.size, HRN.out, HALL.out, HB.out.trans (HBZ.out.mono HB.out.size)⟩
end Go.Proofs.YtofhckheeijoiaaDoor
/- The document's sets of classes: a literal of pairs as a fresh row of ranges. -/
namespace Go.Proofs.YtofhckheeijoiaaDoor
open Go Go.RowKit

set_option maxHeartbeats 1600000 in
set_option maxRecDepth 100000 in
/-- A list of pairs, as a fresh row of ranges. -/
theorem rset4_any (v : Value) (l : List (Int × Int)) (w : World) (h : Rgs w v l) (hn : l.length ≤ 1099511627776) :
    Calls Tryd.prog 70 #[v] w fun e w' => ∃ v', e = .returned v' ∧ OwnR w' w.heap.size v' l ∧ Below w.heap.size w w' := by
  have HR := Lib.hid h
  obtain ⟨a, c, rfl, h2, h3, h4, h5, h6⟩ := h
  have H6 := Lib.hid h6
  clear h5 h6 h4 h2 h3
  go_enter Tryd.func70, Tryd.ntmps70
  go_wp2_with fail
  go_loopw [3, 4] (fun vs i wr => ∃ m : Nat, m ≤ l.length ∧ i = .int .i64 m ∧ OwnR wr w.heap.size vs (l.take m) ∧ Below w.heap.size w wr) (fun _ i _ => l.length - (intOf i).toNat)
  case atStart => exact ⟨0, Nat.zero_le _, rfl, own_none _ _, Below.refl _ _⟩
  case round =>
    obtain ⟨m, hm, rfl, hO, hB⟩ := hrel
    have HO := Lib.hid hO; have HB := Lib.hid hB
    clear hO hB
    by_cases hlt : m < l.length
    · obtain ⟨a', c', e, g2, g3, g4, g5, g6⟩ := HR.out
      injection e with e1 e2 e3
      subst e1 e3
      rcases g5 with g5 | ⟨b, o, rfl, hc⟩
      · rw [g5] at hlt
        simp at hlt
      obtain ⟨x1, x2, hx, hsp, c1w, c2w⟩ := rgs_at hc m hlt
      have c1 := (HB.out.cell (World.block_lt_of_cell? w _ c1w)).trans c1w
      have c2 := (HB.out.cell (World.block_lt_of_cell? w _ c2w)).trans c2w
      have C1 := Lib.hid c1w; have C2 := Lib.hid c2w
      have hxi := H6.out (x1, x2) (List.mem_of_getElem? hx)
      have HSP := Lib.hid hsp; have HXI := Lib.hid hxi
      have hsz := HB.out.size
      clear hsp hx hc g6 hxi c1w c2w
      go_upto_region 5 with (fail)
      go_region_held3 (fun w' => w'.cell? ⟨b, o + m * 2, none⟩ = some (.int .i32 x1) ∧ w'.cell? ⟨b, o + m * 2 + 1, none⟩ = some (.int .i32 x2)) (first | go_keep | exact ⟨c1, c2⟩ | (constructor <;> assumption)) (first | (refine step_append_rgs rfl (.tmp 11) (.tmp 23) rfl w.heap.size _ (l.take m) rfl (HO.out.below ((Below.refl _ wr).alloc (Nat.le_refl _) _).drew) wr.heap.size x1 x2 rfl ((rgs_new wr x1 x2 HXI.out.1 HXI.out.2).below (Below.refl _ _).drew) (by rw [List.length_take]; omega) (by simp; omega) ?_; intro v3 w3 ho3 hg3; have hB3 := Lib.hid (((HB.out.alloc HB.out.size _).drew).grown hg3 (by simp; omega) (fun j hj => (HO.out.1.lt j hj).1)); have k1 := (hB3.out.cell (World.block_lt_of_cell? w _ C1.out)).trans C1.out; have k2 := (hB3.out.cell (World.block_lt_of_cell? w _ C2.out)).trans C2.out))
      have HO3 := Lib.hid ho3
      clear ho3 hg3 k1 k2 c1 c2
      go_wp2
      go_roundw
      case rel => exact ⟨m + 1, by omega, by go_num, by rw [HSP.out]; exact HO3.out, hB3.out⟩
      case measure => simp [intOf]; omega
    · have e : l.take m = l := List.take_of_length_le (by omega)
      have ho := HO.out
      rw [e] at ho
      have HO' := Lib.hid ho
      clear ho e
      go_wp2
      go_ret
      exact ⟨_, rfl, HO'.out, HB.out⟩
end Go.Proofs.YtofhckheeijoiaaDoor
/- The document's sets with names: what they are. -/
namespace Go.Proofs.YtofhckheeijoiaaDoor
open Go Go.RowKit

/-- A set and true, or none and false. -/
def Post2 (o : Option (List (Int × Int))) (w : World) (e : Ending) (w' : World) : Prop :=
  Below w.heap.size w w' ∧ ((o = none ∧ e = .returned (.tuple #[.slice none 0 0, .bool false])) ∨ ∃ v l, o = some l ∧ e = .returned (.tuple #[v, .bool true]) ∧ OwnR w' w.heap.size v l)
/-- What a list does not have. -/
def notR (l : List (Int × Int)) : List (Int × Int) := notFrom 0 l
theorem notR_right {l : List (Int × Int)} (h : RightR l) : RightR (notR l) := not_right l 0 h
theorem notR_has {l : List (Int × Int)} (h : RightR l) (c : Int) : HasR (notR l) c ↔ 0 ≤ c ∧ c ≤ 1114111 ∧ ¬ HasR l c := not_has l 0 c (Int.le_refl _) h
theorem notR_is {l k : List (Int × Int)} (h : RightR l) (hk : RightR k) (hP : ∀ c, HasR k c ↔ (0 ≤ c ∧ c ≤ 1114111 ∧ ¬ HasR l c)) : k = notR l :=
  right_eq _ _ hk (notR_right h) fun c => by rw [hP, notR_has h]
theorem notR_twice {l : List (Int × Int)} (h : RightR l) : notR (notR l) = l :=
  right_eq _ _ (notR_right (notR_right h)) h fun c => by
    rw [notR_has (notR_right h), notR_has h]
    constructor
    · rintro ⟨h0, h1, h2⟩
      exact Classical.byContradiction fun hh => h2 ⟨h0, h1, hh⟩
    · intro hh
      exact ⟨hh.1, hh.2.1, fun x => x.2.2 hh⟩
def dR : List (Int × Int) := [(48, 57)]
def sR : List (Int × Int) := [(9, 10), (12, 13), (32, 32)]
def wR : List (Int × Int) := [(48, 57), (65, 90), (95, 95), (97, 122)]
def perlR (c : Int) : Option (List (Int × Int)) :=
  if c = 100 then some dR else if c = 115 then some sR else if c = 119 then some wR else if c = 68 then some (notR dR) else if c = 83 then some (notR sR) else if c = 87 then some (notR wR) else none
def plainR (b : List UInt8) : Option (List (Int × Int)) :=
  if b = [97, 108, 110, 117, 109] then some [(48, 57), (65, 90), (97, 122)] else
  if b = [97, 108, 112, 104, 97] then some [(65, 90), (97, 122)] else
  if b = [97, 115, 99, 105, 105] then some [(0, 127)] else
  if b = [98, 108, 97, 110, 107] then some [(9, 9), (32, 32)] else
  if b = [99, 110, 116, 114, 108] then some [(0, 31), (127, 127)] else
  if b = [100, 105, 103, 105, 116] then some [(48, 57)] else
  if b = [103, 114, 97, 112, 104] then some [(33, 126)] else
  if b = [108, 111, 119, 101, 114] then some [(97, 122)] else
  if b = [112, 114, 105, 110, 116] then some [(32, 126)] else
  if b = [112, 117, 110, 99, 116] then some [(33, 47), (58, 64), (91, 96), (123, 126)] else
  if b = [115, 112, 97, 99, 101] then some [(9, 13), (32, 32)] else
  if b = [117, 112, 112, 101, 114] then some [(65, 90)] else
  if b = [119, 111, 114, 100] then some [(48, 57), (65, 90), (95, 95), (97, 122)] else
  if b = [120, 100, 105, 103, 105, 116] then some [(48, 57), (65, 70), (97, 102)] else
  none
def posixR (b : List UInt8) : Option (List (Int × Int)) := if b.head? = some 94 then (plainR b.tail).map notR else plainR b
def property1 (b : List UInt8) : Option (List (Int × Int)) := if b = [65, 110, 121] then some (notR []) else nameR b
def property2 (b : List UInt8) (n : Bool) : Option (List (Int × Int)) := if n then (property1 b).map notR else property1 b
def propR (b : List UInt8) (n : Bool) : Option (List (Int × Int)) := if b.head? = some 94 then property2 b.tail (!n) else property2 b n
def dotR (all : Bool) : List (Int × Int) := if all then notR [] else notR [(10, 10)]
theorem plain_right {b : List UInt8} {l : List (Int × Int)} (h : plainR b = some l) : RightR l := by
  unfold plainR at h
  by_cases h0 : b = [97, 108, 110, 117, 109]
  · rw [if_pos h0] at h
    injection h with h
    rw [← h]
    simp [RightR, RightFrom]
  rw [if_neg h0] at h
  by_cases h1 : b = [97, 108, 112, 104, 97]
  · rw [if_pos h1] at h
    injection h with h
    rw [← h]
    simp [RightR, RightFrom]
  rw [if_neg h1] at h
  by_cases h2 : b = [97, 115, 99, 105, 105]
  · rw [if_pos h2] at h
    injection h with h
    rw [← h]
    simp [RightR, RightFrom]
  rw [if_neg h2] at h
  by_cases h3 : b = [98, 108, 97, 110, 107]
  · rw [if_pos h3] at h
    injection h with h
    rw [← h]
    simp [RightR, RightFrom]
  rw [if_neg h3] at h
  by_cases h4 : b = [99, 110, 116, 114, 108]
  · rw [if_pos h4] at h
    injection h with h
    rw [← h]
    simp [RightR, RightFrom]
  rw [if_neg h4] at h
  by_cases h5 : b = [100, 105, 103, 105, 116]
  · rw [if_pos h5] at h
    injection h with h
    rw [← h]
    simp [RightR, RightFrom]
  rw [if_neg h5] at h
  by_cases h6 : b = [103, 114, 97, 112, 104]
  · rw [if_pos h6] at h
    injection h with h
    rw [← h]
    simp [RightR, RightFrom]
  rw [if_neg h6] at h
  by_cases h7 : b = [108, 111, 119, 101, 114]
  · rw [if_pos h7] at h
    injection h with h
    rw [← h]
    simp [RightR, RightFrom]
  rw [if_neg h7] at h
  by_cases h8 : b = [112, 114, 105, 110, 116]
  · rw [if_pos h8] at h
    injection h with h
    rw [← h]
    simp [RightR, RightFrom]
  rw [if_neg h8] at h
  by_cases h9 : b = [112, 117, 110, 99, 116]
  · rw [if_pos h9] at h
    injection h with h
    rw [← h]
    simp [RightR, RightFrom]
  rw [if_neg h9] at h
  by_cases h10 : b = [115, 112, 97, 99, 101]
  · rw [if_pos h10] at h
    injection h with h
    rw [← h]
    simp [RightR, RightFrom]
  rw [if_neg h10] at h
  by_cases h11 : b = [117, 112, 112, 101, 114]
  · rw [if_pos h11] at h
    injection h with h
    rw [← h]
    simp [RightR, RightFrom]
  rw [if_neg h11] at h
  by_cases h12 : b = [119, 111, 114, 100]
  · rw [if_pos h12] at h
    injection h with h
    rw [← h]
    simp [RightR, RightFrom]
  rw [if_neg h12] at h
  by_cases h13 : b = [120, 100, 105, 103, 105, 116]
  · rw [if_pos h13] at h
    injection h with h
    rw [← h]
    simp [RightR, RightFrom]
  rw [if_neg h13] at h
  cases h
theorem name_right {b : List UInt8} {l : List (Int × Int)} (h : nameR b = some l) : RightR l := by
  unfold nameR at h
  by_cases h0 : b = [76, 117]
  · rw [if_pos h0] at h
    injection h with h
    rw [← h]
    simp [RightR, RightFrom]
  rw [if_neg h0] at h
  by_cases h1 : b = [76, 108]
  · rw [if_pos h1] at h
    injection h with h
    rw [← h]
    simp [RightR, RightFrom]
  rw [if_neg h1] at h
  by_cases h2 : b = [76]
  · rw [if_pos h2] at h
    injection h with h
    rw [← h]
    simp [RightR, RightFrom]
  rw [if_neg h2] at h
  by_cases h3 : b = [78, 100]
  · rw [if_pos h3] at h
    injection h with h
    rw [← h]
    simp [RightR, RightFrom]
  rw [if_neg h3] at h
  by_cases h4 : b = [78]
  · rw [if_pos h4] at h
    injection h with h
    rw [← h]
    simp [RightR, RightFrom]
  rw [if_neg h4] at h
  by_cases h5 : b = [80]
  · rw [if_pos h5] at h
    injection h with h
    rw [← h]
    simp [RightR, RightFrom]
  rw [if_neg h5] at h
  by_cases h6 : b = [83]
  · rw [if_pos h6] at h
    injection h with h
    rw [← h]
    simp [RightR, RightFrom]
  rw [if_neg h6] at h
  by_cases h7 : b = [90]
  · rw [if_pos h7] at h
    injection h with h
    rw [← h]
    simp [RightR, RightFrom]
  rw [if_neg h7] at h
  by_cases h8 : b = [67, 99]
  · rw [if_pos h8] at h
    injection h with h
    rw [← h]
    simp [RightR, RightFrom]
  rw [if_neg h8] at h
  by_cases h9 : b = [76, 97, 116, 105, 110]
  · rw [if_pos h9] at h
    injection h with h
    rw [← h]
    simp [RightR, RightFrom]
  rw [if_neg h9] at h
  by_cases h10 : b = [71, 114, 101, 101, 107]
  · rw [if_pos h10] at h
    injection h with h
    rw [← h]
    simp [RightR, RightFrom]
  rw [if_neg h10] at h
  by_cases h11 : b = [67, 121, 114, 105, 108, 108, 105, 99]
  · rw [if_pos h11] at h
    injection h with h
    rw [← h]
    simp [RightR, RightFrom]
  rw [if_neg h11] at h
  by_cases h12 : b = [72, 97, 110]
  · rw [if_pos h12] at h
    injection h with h
    rw [← h]
    simp [RightR, RightFrom]
  rw [if_neg h12] at h
  cases h
theorem nil_right : RightR [] := trivial
theorem property1_right {b : List UInt8} {l : List (Int × Int)} (h : property1 b = some l) : RightR l := by
  unfold property1 at h
  split at h
  · injection h with h
    subst h
    exact notR_right nil_right
  · exact name_right h
theorem property2_right {b : List UInt8} {n : Bool} {l : List (Int × Int)} (h : property2 b n = some l) : RightR l := by
  unfold property2 at h
  split at h
  · obtain ⟨k, hk, rfl⟩ := Option.map_eq_some_iff.1 h
    exact notR_right (property1_right hk)
  · exact property1_right h
theorem prop_right {b : List UInt8} {n : Bool} {l : List (Int × Int)} (h : propR b n = some l) : RightR l := by
  unfold propR at h
  split at h <;> exact property2_right h
theorem posix_right {b : List UInt8} {l : List (Int × Int)} (h : posixR b = some l) : RightR l := by
  unfold posixR at h
  split at h
  · obtain ⟨k, hk, rfl⟩ := Option.map_eq_some_iff.1 h
    exact notR_right (plain_right hk)
  · exact plain_right h
theorem perl_right {c : Int} {l : List (Int × Int)} (h : perlR c = some l) : RightR l := by
  have hd : RightR dR := by simp [dR, RightR, RightFrom]
  have hs : RightR sR := by simp [sR, RightR, RightFrom]
  have hw : RightR wR := by simp [wR, RightR, RightFrom]
  unfold perlR at h
  by_cases e1 : c = 100
  · rw [if_pos e1] at h; injection h with h; rw [← h]; exact hd
  rw [if_neg e1] at h
  by_cases e2 : c = 115
  · rw [if_pos e2] at h; injection h with h; rw [← h]; exact hs
  rw [if_neg e2] at h
  by_cases e3 : c = 119
  · rw [if_pos e3] at h; injection h with h; rw [← h]; exact hw
  rw [if_neg e3] at h
  by_cases e4 : c = 68
  · rw [if_pos e4] at h; injection h with h; rw [← h]; exact notR_right hd
  rw [if_neg e4] at h
  by_cases e5 : c = 83
  · rw [if_pos e5] at h; injection h with h; rw [← h]; exact notR_right hs
  rw [if_neg e5] at h
  by_cases e6 : c = 87
  · rw [if_pos e6] at h; injection h with h; rw [← h]; exact notR_right hw
  rw [if_neg e6] at h
  cases h
theorem property2_turn (b : List UInt8) (n : Bool) : property2 b (!n) = (property2 b n).map notR := by
  cases n
  · simp [property2]
  · simp only [property2, Bool.not_true, Bool.false_eq_true, if_false, if_true]
    rcases hq : property1 b with _ | k
    · rfl
    · simp [notR_twice (property1_right hq)]
theorem prop_turn (b : List UInt8) (n : Bool) : propR b (!n) = (propR b n).map notR := by
  unfold propR
  split <;> exact property2_turn _ _
theorem prop_hat (b : List UInt8) (n : Bool) (h : b.head? ≠ some 94) : propR (94 :: b) n = propR b (!n) := by
  unfold propR
  rw [if_neg h]
  simp
theorem posix_hat (b : List UInt8) (h : b.head? ≠ some 94) : posixR (94 :: b) = (posixR b).map notR := by
  unfold posixR
  rw [if_neg h]
  simp
theorem perl_turn (c : Int) (h0 : 97 ≤ c) (h1 : c ≤ 122) : perlR (c - 32) = (perlR c).map notR := by
  unfold perlR
  by_cases e1 : c = 100
  · subst e1; rfl
  by_cases e2 : c = 115
  · subst e2; rfl
  by_cases e3 : c = 119
  · subst e3; rfl
  rw [if_neg (by omega), if_neg (by omega), if_neg (by omega), if_neg (by omega), if_neg (by omega), if_neg (by omega), if_neg e1, if_neg e2, if_neg e3, if_neg (by omega), if_neg (by omega), if_neg (by omega)]
  rfl
end Go.Proofs.YtofhckheeijoiaaDoor
/- The document's Not of a set, by name. -/
namespace Go.Proofs.YtofhckheeijoiaaDoor
open Go Go.RowKit

/-- Not of a set, by name. -/
theorem rnotR_any (v : Value) (l : List (Int × Int)) (w : World) (h : Rgs w v l) (hr : RightR l) (hn : l.length ≤ 1099511627776) :
    Calls Tryd.prog 53 #[v] w fun e w' => ∃ v', e = .returned v' ∧ OwnR w' w.heap.size v' (notR l) ∧ Below w.heap.size w w' := by
  refine (rnot_any v l w h hn).mono ?_
  rintro e w1 ⟨v1, k, rfl, hO, hR, hP, hB⟩
  exact ⟨v1, rfl, (notR_is hr hR hP) ▸ hO, hB⟩

end Go.Proofs.YtofhckheeijoiaaDoor
/- The document's set of a letter. -/
namespace Go.Proofs.YtofhckheeijoiaaDoor
open Go Go.RowKit

set_option maxHeartbeats 1600000 in
set_option maxRecDepth 100000 in
theorem rperl_low (c : Int) (w : World) (hc : c = 100 ∨ c = 115 ∨ c = 119) : Calls Tryd.prog 55 #[.int .u8 c] w (Post2 (perlR c) w) := by
  unfold Post2
  rcases hc with rfl | rfl | rfl
  · go_enter Tryd.func55, Tryd.ntmps55
    go_wp2_with fail
    refine (rset4_any _ dR _ (rgs_lit w 118 _ _ _ rfl (by unfold AllI32 I32; decide) rfl (by unfold maxLen; decide)) (by decide)).mono ?_
    rintro e w1 ⟨v1, rfl, ho, hb⟩
    have HB := Lib.hid ((((Below.refl _ w).alloc (Nat.le_refl _) _).trans (hb.mono (by simp))))
    have HO := Lib.hid (ho.mono (B' := w.heap.size) (by simp))
    clear ho hb
    go_wp2_with fail
    go_ret2
    exact ⟨HB.out, .inr ⟨v1, _, rfl, rfl, HO.out⟩⟩
  · go_enter Tryd.func55, Tryd.ntmps55
    go_wp2_with fail
    refine (rset4_any _ sR _ (rgs_lit w 118 _ _ _ rfl (by unfold AllI32 I32; decide) rfl (by unfold maxLen; decide)) (by decide)).mono ?_
    rintro e w1 ⟨v1, rfl, ho, hb⟩
    have HB := Lib.hid ((((Below.refl _ w).alloc (Nat.le_refl _) _).trans (hb.mono (by simp))))
    have HO := Lib.hid (ho.mono (B' := w.heap.size) (by simp))
    clear ho hb
    go_wp2_with fail
    go_ret2
    exact ⟨HB.out, .inr ⟨v1, _, rfl, rfl, HO.out⟩⟩
  · go_enter Tryd.func55, Tryd.ntmps55
    go_wp2_with fail
    refine (rset4_any _ wR _ (rgs_lit w 118 _ _ _ rfl (by unfold AllI32 I32; decide) rfl (by unfold maxLen; decide)) (by decide)).mono ?_
    rintro e w1 ⟨v1, rfl, ho, hb⟩
    have HB := Lib.hid ((((Below.refl _ w).alloc (Nat.le_refl _) _).trans (hb.mono (by simp))))
    have HO := Lib.hid (ho.mono (B' := w.heap.size) (by simp))
    clear ho hb
    go_wp2_with fail
    go_ret2
    exact ⟨HB.out, .inr ⟨v1, _, rfl, rfl, HO.out⟩⟩

/-- A great letter, by the small one. -/
theorem rperl_great (c d : Int) (l : List (Int × Int)) (w : World) (hcd : (c = 68 ∧ d = 100 ∧ l = dR) ∨ (c = 83 ∧ d = 115 ∧ l = sR) ∨ (c = 87 ∧ d = 119 ∧ l = wR)) : Calls Tryd.prog 55 #[.int .u8 c] w (Post2 (perlR c) w) := by
  have hl : perlR d = some l := by rcases hcd with ⟨rfl, rfl, rfl⟩ | ⟨rfl, rfl, rfl⟩ | ⟨rfl, rfl, rfl⟩ <;> rfl
  have hk : perlR c = some (notR l) := by rcases hcd with ⟨rfl, rfl, rfl⟩ | ⟨rfl, rfl, rfl⟩ | ⟨rfl, rfl, rfl⟩ <;> rfl
  have hlen : l.length ≤ 4 := by rcases hcd with ⟨rfl, rfl, rfl⟩ | ⟨rfl, rfl, rfl⟩ | ⟨rfl, rfl, rfl⟩ <;> decide
  have HL := Lib.hid hl; have HK := Lib.hid hk; have HN := Lib.hid hlen
  have HP := Lib.hid (rperl_low d w (by omega))
  clear hl hk hlen
  unfold Post2
  rcases hcd with ⟨rfl, rfl, -⟩ | ⟨rfl, rfl, -⟩ | ⟨rfl, rfl, -⟩ <;>
  · go_enter Tryd.func55, Tryd.ntmps55
    go_wp2_with fail
    refine HP.out.mono ?_
    rintro e w1 ⟨hb, ⟨hx, -⟩ | ⟨v, k, hx, rfl, ho⟩⟩
    · rw [HL.out] at hx
      cases hx
    rw [HL.out] at hx
    injection hx with hx
    have HX := Lib.hid hx; have HB := Lib.hid hb; have HO := Lib.hid (hx.symm ▸ ho)
    clear hx hb ho
    go_wp2_with fail
    refine (rnotR_any v l w1 HO.out.rgs (perl_right HL.out) (by have := HN.out; omega)).mono ?_
    rintro e w2 ⟨v2, rfl, ho, hb⟩
    have HB2 := Lib.hid (HB.out.trans (hb.mono HB.out.size)); have HO2 := Lib.hid (ho.mono HB.out.size)
    clear ho hb
    go_wp2_with fail
    go_ret2
    exact ⟨HB2.out, .inr ⟨v2, _, HK.out, rfl, HO2.out⟩⟩

set_option maxHeartbeats 1600000 in
theorem rperl_any (c : Int) (w : World) : Calls Tryd.prog 55 #[.int .u8 c] w (Post2 (perlR c) w) := by
  by_cases k0 : c = 100 ∨ c = 115 ∨ c = 119
  · exact rperl_low c w k0
  by_cases k1 : c = 68
  · exact rperl_great c 100 dR w (.inl ⟨k1, rfl, rfl⟩)
  by_cases k2 : c = 83
  · exact rperl_great c 115 sR w (.inr (.inl ⟨k2, rfl, rfl⟩))
  by_cases k3 : c = 87
  · exact rperl_great c 119 wR w (.inr (.inr ⟨k3, rfl, rfl⟩))
  have hn : perlR c = none := by
    unfold perlR
    rw [if_neg (by omega), if_neg (by omega), if_neg (by omega), if_neg k1, if_neg k2, if_neg k3]
  have HN := Lib.hid hn
  have q0 : (c == 100) = false := beq_eq_false_iff_ne.2 (by omega)
  have q1 : (c == 115) = false := beq_eq_false_iff_ne.2 (by omega)
  have q2 : (c == 119) = false := beq_eq_false_iff_ne.2 (by omega)
  have q3 : (c == 68) = false := beq_eq_false_iff_ne.2 (by omega)
  have q4 : (c == 83) = false := beq_eq_false_iff_ne.2 (by omega)
  have q5 : (c == 87) = false := beq_eq_false_iff_ne.2 (by omega)
  clear hn k0 k1 k2 k3
  unfold Post2
  go_enter Tryd.func55, Tryd.ntmps55
  go_wp2_with fail
  go_ret2
  exact ⟨Below.refl _ _, .inl ⟨HN.out, rfl⟩⟩

end Go.Proofs.YtofhckheeijoiaaDoor
/- The document's escapes of the flavour: letters behind a backslash. -/
namespace Go.Proofs.YtofhckheeijoiaaDoor
open Go Go.RowKit

/-- What a letter of the flavour stands for: a kind, a set, a place. -/
def perlsR (c : Int) : Option (Int × List (Int × Int) × Int) :=
  if ¬ placeI c = 0 then some (3, [], placeI c) else if c = 81 then some (4, [], 0) else if 127 < c then none else
  match perlR c with
  | none => none
  | some l => some (2, l, 0)
def escV (k r : Int) (v : Value) (a : Int) : Value := .agg #[.int .i64 k, .int .i32 r, v, .int .i64 a]
def PerlsPost (o : Option (Int × List (Int × Int) × Int)) (behind : Int) (w : World) (e : Ending) (w' : World) : Prop :=
  Below w.heap.size w w' ∧ ((o = none ∧ e = .returned (.tuple #[escV 0 0 (.slice none 0 0) 0, .int .i64 0, .bool false])) ∨ ∃ k l a v, o = some (k, l, a) ∧ e = .returned (.tuple #[escV k 0 v a, .int .i64 behind, .bool true]) ∧ OwnR w' w.heap.size v l)
theorem own_set4 {w : World} {B b : Nat} {v : Value} {l : List (Int × Int)} (h : OwnR w B v l) (hB : ∀ g, v.ownBlock = some g → g ≠ b) (x0 x1 x2 x3 : Value) : OwnR (set4 w b x0 x1 x2 x3) B v l := by
  refine ⟨?_, h.2⟩
  rcases h.1.2 with ⟨rfl, h0⟩ | ⟨q, cap, cur, rfl, h1, hh, h2⟩
  · exact ⟨h.1.1, .inl ⟨rfl, h0⟩⟩
  · refine ⟨h.1.1, .inr ⟨q, cap, cur, rfl, h1, ?_, h2⟩⟩
    rw [set4_other (hB q (by simp [Value.ownBlock]))]
    exact hh
theorem own_set3 {w : World} {B b : Nat} {v : Value} {l : List (Int × Int)} (h : OwnR w B v l) (hB : ∀ g, v.ownBlock = some g → g ≠ b) (x0 x1 x2 : Value) : OwnR (set3 w b x0 x1 x2) B v l := by
  refine ⟨?_, h.2⟩
  rcases h.1.2 with ⟨rfl, h0⟩ | ⟨q, cap, cur, rfl, h1, hh, h2⟩
  · exact ⟨h.1.1, .inl ⟨rfl, h0⟩⟩
  · refine ⟨h.1.1, .inr ⟨q, cap, cur, rfl, h1, ?_, h2⟩⟩
    rw [set3_other (hB q (by simp [Value.ownBlock]))]
    exact hh
theorem own_ge {w : World} {B : Nat} {v : Value} {l : List (Int × Int)} (h : OwnR w B v l) : ∀ g, v.ownBlock = some g → B ≤ g := fun g hg => by
  rcases h.1.2 with ⟨rfl, _⟩ | ⟨q, cap, cur, rfl, h1, _⟩
  · simp [Value.ownBlock] at hg
  · simp [Value.ownBlock] at hg
    omega

set_option maxHeartbeats 1600000 in
set_option maxRecDepth 100000 in
theorem rperls6_any (c behind : Int) (w : World) (h0 : 0 ≤ c) : Calls Tryd.prog 34 #[.int .i32 c, .int .i64 behind] w (PerlsPost (perlsR c) behind w) := by
  obtain ⟨O, hO⟩ : ∃ O, perlsR c = O := ⟨_, rfl⟩
  rw [hO]
  obtain ⟨w1, hw1⟩ : ∃ w1, w.alloc (.cells #[.int .i64 0, .int .i32 0, .slice none 0 0, .int .i64 0] 27) = w1 := ⟨_, rfl⟩
  have hE1 : Whole w1 w.heap.size 27 #[.int .i64 0, .int .i32 0, .slice none 0 0, .int .i64 0] := by rw [← hw1]; exact heap_alloc_new w _
  have hb1 : Below w.heap.size w w1 := by rw [← hw1]; exact (Below.refl _ w).alloc (Nat.le_refl _) _
  have hs1 : w1.heap.size = w.heap.size + 1 := by rw [← hw1]; simp
  have HW1 := Lib.hid hw1; have HE1 := Lib.hid hE1; have HB1 := Lib.hid hb1; have HS1 := Lib.hid hs1
  clear hw1 hE1 hb1 hs1
  obtain ⟨p, hp⟩ : ∃ p, placeI c = p := ⟨_, rfl⟩
  have HP : Hid (∀ W, Calls Tryd.prog 54 #[.int .i32 c] W fun e w' => e = .returned (.int .i64 p) ∧ w' = W) := Lib.hid (fun W => hp ▸ rplace_any c W)
  unfold PerlsPost
  obtain ⟨c0, c1, c2, c3, z0, z1, z2, z3⟩ := HE1.out.four
  by_cases hp0 : p = 0
  · have b0 : (p != 0) = false := ne_false_of hp0
    have HO := Lib.hid (hO.symm.trans (if_neg (fun h => h (hp.trans hp0))))
    clear hO hp hp0
    by_cases h81 : c = 81
    · have b1 : (c == 81) = true := eq_true_of h81
      have HN := Lib.hid (HO.out.trans (if_pos h81))
      clear HO h81
      go_enter Tryd.func34, Tryd.ntmps34
      go_upto_region 1 with (fail)
      rw [HW1.out]
      go_wp2_with (go_at_call 54; with_reducible refine (HP.out _).mono ?_; rintro e w5 ⟨rfl, rfl⟩)
      refine bodyPost_ret (results_ett Tryd.results34 _ rfl (set4_whole HE1.out _ _ _ _) rfl) rfl ?_
      exact ⟨set4_below HB1.out (Nat.le_refl _) _ _ _ _, .inr ⟨4, [], 0, .slice none 0 0, HN.out, rfl, own_none _ _⟩⟩
    have b1 : (c == 81) = false := eq_false_of h81
    by_cases h127 : 127 < c
    · have HN := Lib.hid ((HO.out.trans (if_neg h81)).trans (if_pos h127))
      clear HO h81
      go_enter Tryd.func34, Tryd.ntmps34
      go_upto_region 1 with (fail)
      rw [HW1.out]
      go_wp2_with (go_at_call 54; with_reducible refine (HP.out _).mono ?_; rintro e w5 ⟨rfl, rfl⟩)
      refine bodyPost_ret (results_ett Tryd.results34 _ rfl (set4_whole HE1.out _ _ _ _) rfl) rfl ?_
      exact ⟨set4_below HB1.out (Nat.le_refl _) _ _ _ _, .inl ⟨HN.out, rfl⟩⟩
    · have HO2 := Lib.hid ((HO.out.trans (if_neg h81)).trans (if_neg h127))
      clear HO h81
      go_enter Tryd.func34, Tryd.ntmps34
      go_upto_region 1 with (fail)
      rw [HW1.out]
      go_wp2_with (go_at_call 54; with_reducible refine (HP.out _).mono ?_; rintro e w5 ⟨rfl, rfl⟩)
      refine (rperl_any c _).mono ?_
      rintro e w2 ⟨hb, ⟨hn, rfl⟩ | ⟨v, l, hn, rfl, ho⟩⟩
      · have HN := Lib.hid (show O = none by rw [HO2.out, hn])
        have HB2 := Lib.hid (HB1.out.trans (hb.mono HB1.out.size))
        have hE2 := HE1.out.below hb (by have := HS1.out; omega)
        have HE2 := Lib.hid hE2
        clear c0 c1 c2 c3 z0 z1 z2 z3
        obtain ⟨c0, c1, c2, c3, z0, z1, z2, z3⟩ := hE2.four
        clear hb hn hE2
        go_wp2_with fail
        refine bodyPost_ret (results_ett Tryd.results34 _ rfl (set4_whole HE2.out _ _ _ _) rfl) rfl ?_
        exact ⟨set4_below HB2.out (Nat.le_refl _) _ _ _ _, .inl ⟨HN.out, rfl⟩⟩
      · have HN := Lib.hid (show O = some (2, l, 0) by rw [HO2.out, hn])
        have HB2 := Lib.hid (HB1.out.trans (hb.mono HB1.out.size))
        have hE2 := HE1.out.below hb (by have := HS1.out; omega)
        have HE2 := Lib.hid hE2; have HOW := Lib.hid ho
        clear c0 c1 c2 c3 z0 z1 z2 z3
        obtain ⟨c0, c1, c2, c3, z0, z1, z2, z3⟩ := hE2.four
        obtain ⟨A, cA, hvs, -⟩ := ho.rgs
        subst hvs
        clear hb hn hE2 ho
        go_wp2_with fail
        refine bodyPost_ret (results_ett Tryd.results34 _ rfl (set4_whole HE2.out _ _ _ _) rfl) rfl ?_
        exact ⟨set4_below HB2.out (Nat.le_refl _) _ _ _ _, .inr ⟨2, l, 0, _, HN.out, rfl, own_set4 (HOW.out.mono HB1.out.size) (fun g hg => by have := own_ge HOW.out g hg; have := HS1.out; omega) _ _ _ _⟩⟩
  · have b0 : (p != 0) = true := ne_true_of hp0
    have HN := Lib.hid ((hO.symm.trans (if_pos (fun h => hp0 (hp.symm.trans h)))).trans (by rw [hp]))
    clear hO hp hp0
    go_enter Tryd.func34, Tryd.ntmps34
    go_upto_region 1 with (fail)
    rw [HW1.out]
    go_wp2_with (go_at_call 54; with_reducible refine (HP.out _).mono ?_; rintro e w5 ⟨rfl, rfl⟩)
    refine bodyPost_ret (results_ett Tryd.results34 _ rfl (set4_whole HE1.out _ _ _ _) rfl) rfl ?_
    exact ⟨set4_below HB1.out (Nat.le_refl _) _ _ _ _, .inr ⟨3, [], p, .slice none 0 0, HN.out, rfl, own_none _ _⟩⟩
end Go.Proofs.YtofhckheeijoiaaDoor
/- The document's set of a property's name. -/
namespace Go.Proofs.YtofhckheeijoiaaDoor
open Go Go.RowKit

theorem any_right : RightR (notR []) := notR_right nil_right
theorem name_len {b : List UInt8} {l : List (Int × Int)} (h : nameR b = some l) : l.length ≤ 1099511627776 := by have := right_len l 0 (by omega) (name_right h); omega

set_option maxHeartbeats 1600000 in
theorem rprop_any (s : ByteArray) (n : Bool) (w : World) : Calls Tryd.prog 33 #[.string s, .bool n] w (Post2 (propR s.toList n) w) := by
  unfold Post2
  by_cases h0 : 0 < s.size
  · have hb := byte_94 s[0]
    by_cases hx : s[0] = 94
    · rw [decide_eq_true hx] at hb
      have hp : propR s.toList n = property2 (s.extract 1 s.size).toList (!n) := by
        unfold propR
        rw [head_of s h0, hx, if_pos rfl, tail_of]
      have HP := Lib.hid hp; have HR := Lib.hid (rnamed_any (s.extract 1 s.size) w)
      clear hx hp
      cases n
      · as_aux_lemma =>
          go_enter Tryd.func33, Tryd.ntmps33
          go_wp2_with fail
          refine HR.out.mono ?_
          rintro e w1 ⟨hb, hc⟩
          have HB := Lib.hid hb
          clear hb
          by_cases ha : (s.extract 1 s.size).toList = [65, 110, 121]
          · have q1 : ((s.extract 1 s.size).toList == [65, 110, 121]) = true := by rw [ha]; rfl
            have hq : property1 (s.extract 1 s.size).toList = some (notR []) := by unfold property1; rw [if_pos ha]
            have HQ := Lib.hid hq
            have HCC := Lib.hid hc
            clear ha hq hc
            have hc : ∃ v i, e = .returned (.tuple #[v, .bool i]) := by
              rcases HCC.out with ⟨-, rfl⟩ | ⟨v, l, -, rfl, -⟩
              · exact ⟨_, _, rfl⟩
              · exact ⟨_, _, rfl⟩
            obtain ⟨v, i, rfl⟩ := hc
            clear HCC
            go_wp2_with fail
            refine (rnotR_any _ [] _ (own_none w1 w1.heap.size).rgs nil_right (by decide)).mono ?_
            rintro e w2 ⟨v2, rfl, ho, hb⟩
            have HB2 := Lib.hid (HB.out.trans (hb.mono HB.out.size)); have HO2 := Lib.hid (ho.mono HB.out.size)
            clear ho hb
            go_wp2_with fail
            refine (rnotR_any v2 (notR []) w2 HO2.out.rgs any_right (by decide)).mono ?_
            rintro e w3 ⟨v3, rfl, ho, hb⟩
            have HB3 := Lib.hid (HB2.out.trans (hb.mono HB2.out.size)); have HO3 := Lib.hid (ho.mono HB2.out.size)
            clear ho hb
            go_wp2_with fail
            go_ret2
            exact ⟨HB3.out, .inr ⟨v3, _, by rw [HP.out]; simp [property2, HQ.out], rfl, HO3.out⟩⟩
          · have q1 : ((s.extract 1 s.size).toList == [65, 110, 121]) = false := by simpa using ha
            have hq : property1 (s.extract 1 s.size).toList = nameR (s.extract 1 s.size).toList := by unfold property1; rw [if_neg ha]
            have HQ := Lib.hid hq
            clear ha hq
            rcases hc with ⟨hx, rfl⟩ | ⟨v, k, hx, rfl, ho⟩
            · have HX := Lib.hid hx
              clear hx
              go_wp2_with fail
              go_ret2
              exact ⟨HB.out, .inl ⟨by rw [HP.out]; simp [property2, HQ.out, HX.out], rfl⟩⟩
            · have HX := Lib.hid hx; have HO := Lib.hid ho
              clear hx ho
              go_wp2_with fail
              refine (rnotR_any v k w1 HO.out.rgs (name_right HX.out) (name_len HX.out)).mono ?_
              rintro e w3 ⟨v3, rfl, ho, hb⟩
              have HB3 := Lib.hid (HB.out.trans (hb.mono HB.out.size)); have HO3 := Lib.hid (ho.mono HB.out.size)
              clear ho hb
              go_wp2_with fail
              go_ret2
              exact ⟨HB3.out, .inr ⟨v3, _, by rw [HP.out]; simp [property2, HQ.out, HX.out], rfl, HO3.out⟩⟩
      · as_aux_lemma =>
          go_enter Tryd.func33, Tryd.ntmps33
          go_wp2_with fail
          refine HR.out.mono ?_
          rintro e w1 ⟨hb, hc⟩
          have HB := Lib.hid hb
          clear hb
          by_cases ha : (s.extract 1 s.size).toList = [65, 110, 121]
          · have q1 : ((s.extract 1 s.size).toList == [65, 110, 121]) = true := by rw [ha]; rfl
            have hq : property1 (s.extract 1 s.size).toList = some (notR []) := by unfold property1; rw [if_pos ha]
            have HQ := Lib.hid hq
            have HCC := Lib.hid hc
            clear ha hq hc
            have hc : ∃ v i, e = .returned (.tuple #[v, .bool i]) := by
              rcases HCC.out with ⟨-, rfl⟩ | ⟨v, l, -, rfl, -⟩
              · exact ⟨_, _, rfl⟩
              · exact ⟨_, _, rfl⟩
            obtain ⟨v, i, rfl⟩ := hc
            clear HCC
            go_wp2_with fail
            refine (rnotR_any _ [] _ (own_none w1 w1.heap.size).rgs nil_right (by decide)).mono ?_
            rintro e w2 ⟨v2, rfl, ho, hb⟩
            have HB2 := Lib.hid (HB.out.trans (hb.mono HB.out.size)); have HO2 := Lib.hid (ho.mono HB.out.size)
            clear ho hb
            go_wp2_with fail
            go_ret2
            exact ⟨HB2.out, .inr ⟨v2, _, by rw [HP.out]; simp [property2, HQ.out], rfl, HO2.out⟩⟩
          · have q1 : ((s.extract 1 s.size).toList == [65, 110, 121]) = false := by simpa using ha
            have hq : property1 (s.extract 1 s.size).toList = nameR (s.extract 1 s.size).toList := by unfold property1; rw [if_neg ha]
            have HQ := Lib.hid hq
            clear ha hq
            rcases hc with ⟨hx, rfl⟩ | ⟨v, k, hx, rfl, ho⟩
            · have HX := Lib.hid hx
              clear hx
              go_wp2_with fail
              go_ret2
              exact ⟨HB.out, .inl ⟨by rw [HP.out]; simp [property2, HQ.out, HX.out], rfl⟩⟩
            · have HX := Lib.hid hx; have HO := Lib.hid ho
              clear hx ho
              go_wp2_with fail
              go_ret2
              exact ⟨HB.out, .inr ⟨v, k, by rw [HP.out]; simp [property2, HQ.out, HX.out], rfl, HO.out⟩⟩
    · rw [decide_eq_false hx] at hb
      have hp : propR s.toList n = property2 s.toList n := by
        unfold propR
        rw [head_of s h0, if_neg (fun e => hx (Option.some.inj e))]
      have HP := Lib.hid hp; have HR := Lib.hid (rnamed_any s w)
      clear hx hp
      cases n
      · as_aux_lemma =>
          go_enter Tryd.func33, Tryd.ntmps33
          go_wp2_with fail
          refine HR.out.mono ?_
          rintro e w1 ⟨hb, hc⟩
          have HB := Lib.hid hb
          clear hb
          by_cases ha : s.toList = [65, 110, 121]
          · have q1 : (s.toList == [65, 110, 121]) = true := by rw [ha]; rfl
            have hq : property1 s.toList = some (notR []) := by unfold property1; rw [if_pos ha]
            have HQ := Lib.hid hq
            have HCC := Lib.hid hc
            clear ha hq hc
            have hc : ∃ v i, e = .returned (.tuple #[v, .bool i]) := by
              rcases HCC.out with ⟨-, rfl⟩ | ⟨v, l, -, rfl, -⟩
              · exact ⟨_, _, rfl⟩
              · exact ⟨_, _, rfl⟩
            obtain ⟨v, i, rfl⟩ := hc
            clear HCC
            go_wp2_with fail
            refine (rnotR_any _ [] _ (own_none w1 w1.heap.size).rgs nil_right (by decide)).mono ?_
            rintro e w2 ⟨v2, rfl, ho, hb⟩
            have HB2 := Lib.hid (HB.out.trans (hb.mono HB.out.size)); have HO2 := Lib.hid (ho.mono HB.out.size)
            clear ho hb
            go_wp2_with fail
            go_ret2
            exact ⟨HB2.out, .inr ⟨v2, _, by rw [HP.out]; simp [property2, HQ.out], rfl, HO2.out⟩⟩
          · have q1 : (s.toList == [65, 110, 121]) = false := by simpa using ha
            have hq : property1 s.toList = nameR s.toList := by unfold property1; rw [if_neg ha]
            have HQ := Lib.hid hq
            clear ha hq
            rcases hc with ⟨hx, rfl⟩ | ⟨v, k, hx, rfl, ho⟩
            · have HX := Lib.hid hx
              clear hx
              go_wp2_with fail
              go_ret2
              exact ⟨HB.out, .inl ⟨by rw [HP.out]; simp [property2, HQ.out, HX.out], rfl⟩⟩
            · have HX := Lib.hid hx; have HO := Lib.hid ho
              clear hx ho
              go_wp2_with fail
              go_ret2
              exact ⟨HB.out, .inr ⟨v, k, by rw [HP.out]; simp [property2, HQ.out, HX.out], rfl, HO.out⟩⟩
      · as_aux_lemma =>
          go_enter Tryd.func33, Tryd.ntmps33
          go_wp2_with fail
          refine HR.out.mono ?_
          rintro e w1 ⟨hb, hc⟩
          have HB := Lib.hid hb
          clear hb
          by_cases ha : s.toList = [65, 110, 121]
          · have q1 : (s.toList == [65, 110, 121]) = true := by rw [ha]; rfl
            have hq : property1 s.toList = some (notR []) := by unfold property1; rw [if_pos ha]
            have HQ := Lib.hid hq
            have HCC := Lib.hid hc
            clear ha hq hc
            have hc : ∃ v i, e = .returned (.tuple #[v, .bool i]) := by
              rcases HCC.out with ⟨-, rfl⟩ | ⟨v, l, -, rfl, -⟩
              · exact ⟨_, _, rfl⟩
              · exact ⟨_, _, rfl⟩
            obtain ⟨v, i, rfl⟩ := hc
            clear HCC
            go_wp2_with fail
            refine (rnotR_any _ [] _ (own_none w1 w1.heap.size).rgs nil_right (by decide)).mono ?_
            rintro e w2 ⟨v2, rfl, ho, hb⟩
            have HB2 := Lib.hid (HB.out.trans (hb.mono HB.out.size)); have HO2 := Lib.hid (ho.mono HB.out.size)
            clear ho hb
            go_wp2_with fail
            refine (rnotR_any v2 (notR []) w2 HO2.out.rgs any_right (by decide)).mono ?_
            rintro e w3 ⟨v3, rfl, ho, hb⟩
            have HB3 := Lib.hid (HB2.out.trans (hb.mono HB2.out.size)); have HO3 := Lib.hid (ho.mono HB2.out.size)
            clear ho hb
            go_wp2_with fail
            go_ret2
            exact ⟨HB3.out, .inr ⟨v3, _, by rw [HP.out]; simp [property2, HQ.out], rfl, HO3.out⟩⟩
          · have q1 : (s.toList == [65, 110, 121]) = false := by simpa using ha
            have hq : property1 s.toList = nameR s.toList := by unfold property1; rw [if_neg ha]
            have HQ := Lib.hid hq
            clear ha hq
            rcases hc with ⟨hx, rfl⟩ | ⟨v, k, hx, rfl, ho⟩
            · have HX := Lib.hid hx
              clear hx
              go_wp2_with fail
              go_ret2
              exact ⟨HB.out, .inl ⟨by rw [HP.out]; simp [property2, HQ.out, HX.out], rfl⟩⟩
            · have HX := Lib.hid hx; have HO := Lib.hid ho
              clear hx ho
              go_wp2_with fail
              refine (rnotR_any v k w1 HO.out.rgs (name_right HX.out) (name_len HX.out)).mono ?_
              rintro e w3 ⟨v3, rfl, ho, hb⟩
              have HB3 := Lib.hid (HB.out.trans (hb.mono HB.out.size)); have HO3 := Lib.hid (ho.mono HB.out.size)
              clear ho hb
              go_wp2_with fail
              go_ret2
              exact ⟨HB3.out, .inr ⟨v3, _, by rw [HP.out]; simp [property2, HQ.out, HX.out], rfl, HO3.out⟩⟩
  · have hz : s.size = 0 := by omega
    have hp : propR s.toList n = property2 s.toList n := by
      unfold propR
      rw [empty_of s h0]
      rfl
    have HP := Lib.hid hp; have HR := Lib.hid (rnamed_any s w)
    clear hp
    cases n
    · as_aux_lemma =>
        go_enter Tryd.func33, Tryd.ntmps33
        go_wp2_with fail
        refine HR.out.mono ?_
        rintro e w1 ⟨hb, hc⟩
        have HB := Lib.hid hb
        clear hb
        by_cases ha : s.toList = [65, 110, 121]
        · have q1 : (s.toList == [65, 110, 121]) = true := by rw [ha]; rfl
          have hq : property1 s.toList = some (notR []) := by unfold property1; rw [if_pos ha]
          have HQ := Lib.hid hq
          have HCC := Lib.hid hc
          clear ha hq hc
          have hc : ∃ v i, e = .returned (.tuple #[v, .bool i]) := by
            rcases HCC.out with ⟨-, rfl⟩ | ⟨v, l, -, rfl, -⟩
            · exact ⟨_, _, rfl⟩
            · exact ⟨_, _, rfl⟩
          obtain ⟨v, i, rfl⟩ := hc
          clear HCC
          go_wp2_with fail
          refine (rnotR_any _ [] _ (own_none w1 w1.heap.size).rgs nil_right (by decide)).mono ?_
          rintro e w2 ⟨v2, rfl, ho, hb⟩
          have HB2 := Lib.hid (HB.out.trans (hb.mono HB.out.size)); have HO2 := Lib.hid (ho.mono HB.out.size)
          clear ho hb
          go_wp2_with fail
          go_ret2
          exact ⟨HB2.out, .inr ⟨v2, _, by rw [HP.out]; simp [property2, HQ.out], rfl, HO2.out⟩⟩
        · have q1 : (s.toList == [65, 110, 121]) = false := by simpa using ha
          have hq : property1 s.toList = nameR s.toList := by unfold property1; rw [if_neg ha]
          have HQ := Lib.hid hq
          clear ha hq
          rcases hc with ⟨hx, rfl⟩ | ⟨v, k, hx, rfl, ho⟩
          · have HX := Lib.hid hx
            clear hx
            go_wp2_with fail
            go_ret2
            exact ⟨HB.out, .inl ⟨by rw [HP.out]; simp [property2, HQ.out, HX.out], rfl⟩⟩
          · have HX := Lib.hid hx; have HO := Lib.hid ho
            clear hx ho
            go_wp2_with fail
            go_ret2
            exact ⟨HB.out, .inr ⟨v, k, by rw [HP.out]; simp [property2, HQ.out, HX.out], rfl, HO.out⟩⟩
    · as_aux_lemma =>
        go_enter Tryd.func33, Tryd.ntmps33
        go_wp2_with fail
        refine HR.out.mono ?_
        rintro e w1 ⟨hb, hc⟩
        have HB := Lib.hid hb
        clear hb
        by_cases ha : s.toList = [65, 110, 121]
        · have q1 : (s.toList == [65, 110, 121]) = true := by rw [ha]; rfl
          have hq : property1 s.toList = some (notR []) := by unfold property1; rw [if_pos ha]
          have HQ := Lib.hid hq
          have HCC := Lib.hid hc
          clear ha hq hc
          have hc : ∃ v i, e = .returned (.tuple #[v, .bool i]) := by
            rcases HCC.out with ⟨-, rfl⟩ | ⟨v, l, -, rfl, -⟩
            · exact ⟨_, _, rfl⟩
            · exact ⟨_, _, rfl⟩
          obtain ⟨v, i, rfl⟩ := hc
          clear HCC
          go_wp2_with fail
          refine (rnotR_any _ [] _ (own_none w1 w1.heap.size).rgs nil_right (by decide)).mono ?_
          rintro e w2 ⟨v2, rfl, ho, hb⟩
          have HB2 := Lib.hid (HB.out.trans (hb.mono HB.out.size)); have HO2 := Lib.hid (ho.mono HB.out.size)
          clear ho hb
          go_wp2_with fail
          refine (rnotR_any v2 (notR []) w2 HO2.out.rgs any_right (by decide)).mono ?_
          rintro e w3 ⟨v3, rfl, ho, hb⟩
          have HB3 := Lib.hid (HB2.out.trans (hb.mono HB2.out.size)); have HO3 := Lib.hid (ho.mono HB2.out.size)
          clear ho hb
          go_wp2_with fail
          go_ret2
          exact ⟨HB3.out, .inr ⟨v3, _, by rw [HP.out]; simp [property2, HQ.out], rfl, HO3.out⟩⟩
        · have q1 : (s.toList == [65, 110, 121]) = false := by simpa using ha
          have hq : property1 s.toList = nameR s.toList := by unfold property1; rw [if_neg ha]
          have HQ := Lib.hid hq
          clear ha hq
          rcases hc with ⟨hx, rfl⟩ | ⟨v, k, hx, rfl, ho⟩
          · have HX := Lib.hid hx
            clear hx
            go_wp2_with fail
            go_ret2
            exact ⟨HB.out, .inl ⟨by rw [HP.out]; simp [property2, HQ.out, HX.out], rfl⟩⟩
          · have HX := Lib.hid hx; have HO := Lib.hid ho
            clear hx ho
            go_wp2_with fail
            refine (rnotR_any v k w1 HO.out.rgs (name_right HX.out) (name_len HX.out)).mono ?_
            rintro e w3 ⟨v3, rfl, ho, hb⟩
            have HB3 := Lib.hid (HB.out.trans (hb.mono HB.out.size)); have HO3 := Lib.hid (ho.mono HB.out.size)
            clear ho hb
            go_wp2_with fail
            go_ret2
            exact ⟨HB3.out, .inr ⟨v3, _, by rw [HP.out]; simp [property2, HQ.out, HX.out], rfl, HO3.out⟩⟩
end Go.Proofs.YtofhckheeijoiaaDoor
/- The program's runs: a literal of runes, two by two, as a fresh row of ranges. -/
namespace Go.Proofs.YtofhckheeijoiaaDoor
open Go Go.RowKit

/-- The slice value v holds the ends of the ranges l, one behind the other. -/
def Ends2 (w : World) (v : Value) (l : List (Int × Int)) : Prop :=
  ∃ b, v = .slice (some ⟨b, 0, none⟩) (l.length * 2) (l.length * 2) ∧ (∀ i (h : i < l.length), w.cell? ⟨b, i * 2, none⟩ = some (.int .i32 l[i].1) ∧ w.cell? ⟨b, i * 2 + 1, none⟩ = some (.int .i32 l[i].2)) ∧ AllI32 l
theorem ends2_lit (w : World) (l : List (Int × Int)) (n : Nat) (cs : Array Value) (hc : cs.toList = cellsR l) (hn : l.length * 2 = n) (hi : AllI32 l) : Ends2 (w.alloc (.cells cs 21)) (.slice (some ⟨w.heap.size, 0, none⟩) n n) l := by
  subst hn
  refine ⟨w.heap.size, rfl, fun i h => ?_, hi⟩
  obtain ⟨h1, h2⟩ := cellsR_at l i h
  rw [cell_of_row _ _ _ _ _ _ (heap_alloc_new w _), cell_of_row _ _ _ _ _ _ (heap_alloc_new w _), ← Array.getElem?_toList, ← Array.getElem?_toList, hc]
  exact ⟨h1, h2⟩
theorem Ends2.below {w w' : World} {v : Value} {l : List (Int × Int)} (h : Ends2 w v l) (hb : Below w.heap.size w w') : Ends2 w' v l := by
  obtain ⟨b, h1, h2, h3⟩ := h
  exact ⟨b, h1, fun i hi => ⟨(hb.cell (World.block_lt_of_cell? w _ (h2 i hi).1)).trans (h2 i hi).1, (hb.cell (World.block_lt_of_cell? w _ (h2 i hi).2)).trans (h2 i hi).2⟩, h3⟩

/-- make([]api.Range, 0, c): a row of the call's own that holds nothing yet. -/
theorem make_runs (c : Nat) (hc : c ≤ 1000000) :
    ∃ C : Array Value, C.size = c * 2 ∧ ∀ W : World, (Instr.makeSlice 24 (.int .i64 0) (.int .i64 (c : Int))).run Tryd.prog W = .ok (.slice (some ⟨W.heap.size, 0, none⟩) 0 c) (W.alloc (.cells C 74)) := by
  obtain ⟨i, hi, h0, h1, h2⟩ := info_parts info_range
  refine ⟨madeCells (Value.agg #[.int .i32 0, .int .i32 0]).cells (c * 2), by rw [size_madeCells], fun W => ?_⟩
  have hr := run_make (P := Tryd.prog) W 24 74 i _ Tryd.underlying24 hi h0 .i64 .i64 0 c (Int.le_refl _) (by omega) (by rw [h2]; omega) (by omega)
  simp only [Int.toNat_zero, Int.toNat_natCast, h1] at hr
  exact hr
theorem own_runs (W : World) (B c : Nat) (C : Array Value) (hB : B ≤ W.heap.size) (hC : C.size = c * 2) (hc : c ≤ 1000000) : OwnR (W.alloc (.cells C 74)) B (.slice (some ⟨W.heap.size, 0, none⟩) 0 c) [] :=
  ⟨⟨rfl, .inr ⟨W.heap.size, c, C, rfl, hB, heap_alloc_new W _, Nat.zero_le _, by unfold maxLen; omega, hC, by simp [cellsR]⟩⟩, by simp [AllI32]⟩

set_option maxHeartbeats 1600000 in
set_option maxRecDepth 100000 in
theorem runs_any (v : Value) (l : List (Int × Int)) (w : World) (h : Ends2 w v l) (hn : l.length ≤ 1000) :
    Calls Tryd.prog 76 #[v] w fun e w' => ∃ v', e = .returned v' ∧ OwnR w' w.heap.size v' l ∧ Below w.heap.size w w' := by
  obtain ⟨b, rfl, h2, h3⟩ := h
  obtain ⟨n, hl⟩ : ∃ n, l.length * 2 = n := ⟨_, rfl⟩
  rw [hl]
  have H3 := Lib.hid h3; have H2 := Lib.hid h2; have HL := Lib.hid hl
  clear h2 h3
  obtain ⟨C, hC, mk⟩ := make_runs l.length (by omega)
  have HO0 := Lib.hid (own_runs w w.heap.size l.length C (Nat.le_refl _) hC (by omega))
  have hq : Int.tdiv (n : Int) 2 = (l.length : Int) := by
    rw [show (n : Int) = (l.length : Int) * 2 by omega]
    exact Int.mul_tdiv_cancel _ (by decide)
  clear hC hl
  go_enter Tryd.func76, Tryd.ntmps76
  go_wp2_with fail
  go_loopw [3, 4] (fun vs i wr => ∃ m k : Nat, m ≤ l.length ∧ m * 2 = k ∧ i = .int .i64 k ∧ OwnR wr w.heap.size vs (l.take m) ∧ Below w.heap.size w wr) (fun _ i _ => n - (intOf i).toNat)
  case atStart => exact ⟨0, 0, Nat.zero_le _, rfl, rfl, HO0.out, (Below.refl _ _).alloc (Nat.le_refl _) _⟩
  case round =>
    obtain ⟨m, k, hm, hk, rfl, hO, hB⟩ := hrel
    have HO := Lib.hid hO; have HB := Lib.hid hB
    have hl := HL.out
    clear hO hB
    by_cases hlt : m < l.length
    · obtain ⟨c1w, c2w⟩ := H2.out m hlt
      obtain ⟨⟨x1, x2⟩, hx⟩ : ∃ x, l[m] = x := ⟨_, rfl⟩
      rw [hx, hk] at c1w c2w
      have hsp : l.take (m + 1) = l.take m ++ [(x1, x2)] := by rw [List.take_succ_eq_append_getElem hlt, hx]
      have hxi := H3.out (x1, x2) (by rw [← hx]; exact List.getElem_mem hlt)
      have c1 := (HB.out.cell (World.block_lt_of_cell? w _ c1w)).trans c1w
      have c2 := (HB.out.cell (World.block_lt_of_cell? w _ c2w)).trans c2w
      have C1 := Lib.hid c1w; have C2 := Lib.hid c2w
      have HSP := Lib.hid hsp; have HXI := Lib.hid hxi; have HK := Lib.hid hk
      have hsz := HB.out.size
      have kn : k < n := by omega
      have kn1 : k + 1 < n := by omega
      have i0 : (0 : Int) ≤ (k : Int) := by omega
      have i1 : (k : Int) < (n : Int) := by omega
      have i2 : (0 : Int) ≤ (k : Int) + 1 := by omega
      have i3 : (k : Int) + 1 < (n : Int) := by omega
      have hw1 : IntKind.i64.wrap ((k : Int) + 1) = (k : Int) + 1 := by rw [show (k : Int) + 1 = ((k + 1 : Nat) : Int) by omega]; exact wrap_nat _ (by omega)
      have e2 : ((k : Int) + 1).toNat = k + 1 := by omega
      clear hsp hx hxi c1w c2w hk hl
      go_upto_region 5 with (fail)
      go_region_held3 (fun w' => w'.cell? ⟨b, k, none⟩ = some (.int .i32 x1) ∧ w'.cell? ⟨b, k + 1, none⟩ = some (.int .i32 x2)) (first | go_keep | exact ⟨c1, c2⟩ | (constructor <;> assumption)) (first | (refine step_append_rgs rfl (.tmp 15) (.tmp 26) rfl w.heap.size _ (l.take m) rfl (HO.out.below ((Below.refl _ wr).alloc (Nat.le_refl _) _).drew) wr.heap.size x1 x2 rfl ((rgs_new wr x1 x2 HXI.out.1 HXI.out.2).below (Below.refl _ _).drew) (by rw [List.length_take]; omega) (by simp; omega) ?_; intro v3 w3 ho3 hg3; have hB3 := Lib.hid (((HB.out.alloc HB.out.size _).drew).grown hg3 (by simp; omega) (fun j hj => (HO.out.1.lt j hj).1)); have k1 := (hB3.out.cell (World.block_lt_of_cell? w _ C1.out)).trans C1.out; have k2 := (hB3.out.cell (World.block_lt_of_cell? w _ C2.out)).trans C2.out))
      have HO3 := Lib.hid ho3
      clear ho3 hg3 k1 k2 c1 c2
      have hw2 : IntKind.i64.wrap ((k : Int) + 2) = (k : Int) + 2 := by rw [show (k : Int) + 2 = ((k + 2 : Nat) : Int) by omega]; exact wrap_nat _ (by have hl := HL.out; omega)
      go_wp2
      go_roundw
      case rel =>
        have hl := HL.out
        exact ⟨m + 1, k + 2, by omega, by have := HK.out; omega, rfl, by rw [HSP.out]; exact HO3.out, hB3.out⟩
      case measure =>
        have hl := HL.out
        simp only [intOf]
        omega
    · have e : l.take m = l := List.take_of_length_le (by omega)
      have ho := HO.out
      rw [e] at ho
      have HO' := Lib.hid ho
      have i1 : ¬ (k : Int) < (n : Int) := by omega
      clear ho e hk hl
      go_wp2
      go_ret
      exact ⟨_, rfl, HO'.out, HB.out⟩
end Go.Proofs.YtofhckheeijoiaaDoor
/- Rows of edges that the call makes itself, lists of lists in memory, and what ends answers: the edges of all ranges, in a fresh row. -/
namespace Go.Proofs.YtofhckheeijoiaaDoor
open Go Go.RowKit

def cellsE (k : List (Int × Int)) : List Value := k.flatMap fun r => [.int .i32 r.1, .int .i64 r.2]
theorem cellsE_append (a b : List (Int × Int)) : cellsE (a ++ b) = cellsE a ++ cellsE b := by simp [cellsE]
theorem cellsE_length : ∀ k : List (Int × Int), (cellsE k).length = k.length * 2
  | [] => rfl
  | r :: k => by
    have h := cellsE_length k
    have e : cellsE (r :: k) = [.int .i32 r.1, .int .i64 r.2] ++ cellsE k := rfl
    rw [e, List.length_append, h]
    simp
    omega
theorem cellsE_at : ∀ (k : List (Int × Int)) (i : Nat) (h : i < k.length), (cellsE k)[i * 2]? = some (.int .i32 k[i].1) ∧ (cellsE k)[i * 2 + 1]? = some (.int .i64 k[i].2)
  | [], i, h => by simp at h
  | r :: k, 0, h => ⟨rfl, rfl⟩
  | r :: k, i + 1, h => by
    have e : cellsE (r :: k) = .int .i32 r.1 :: .int .i64 r.2 :: cellsE k := rfl
    have h' := cellsE_at k i (by simpa using h)
    rw [e, show (i + 1) * 2 = i * 2 + 1 + 1 by omega]
    simpa using h'
theorem cellsE_get (k : List (Int × Int)) (j : Nat) (u : Value) (h : (cellsE k)[j]? = some u) : ∃ i, ∃ hi : i < k.length, (j = i * 2 ∧ u = .int .i32 k[i].1) ∨ (j = i * 2 + 1 ∧ u = .int .i64 k[i].2) := by
  have hl := (List.getElem?_eq_some_iff.1 h).1
  rw [cellsE_length] at hl
  have hi : j / 2 < k.length := by omega
  obtain ⟨h1, h2⟩ := cellsE_at k (j / 2) hi
  refine ⟨j / 2, hi, ?_⟩
  by_cases hj : j % 2 = 0
  · left
    have e : j = j / 2 * 2 := by omega
    refine ⟨e, ?_⟩
    rw [← e, h] at h1
    exact Option.some.inj h1
  · right
    have e : j = j / 2 * 2 + 1 := by omega
    refine ⟨e, ?_⟩
    rw [← e, h] at h2
    exact Option.some.inj h2
theorem cellsE_one (k : List (Int × Int)) : ∀ u ∈ cellsE k, u.oneCell' = true := fun u hu => by
  obtain ⟨j, hj⟩ := List.getElem?_of_mem hu
  obtain ⟨i, _, ⟨_, rfl⟩ | ⟨_, rfl⟩⟩ := cellsE_get k j u hj
  · rfl
  · rfl
theorem info_edge : (Tryd.prog.info? 147).map (fun i => (i.zero, i.size, i.bytes)) = some (some (.agg #[.int .i32 0, .int .i64 0]), 2, 16) := by kernel_rfl
/-- The value v owns a row of the edges k, among the blocks from B on. -/
def OwnE (w : World) (B : Nat) (v : Value) (k : List (Int × Int)) : Prop := w.ownsRow B 147 2 v k.length (cellsE k)
theorem OwnE.below {w w' : World} {B : Nat} {v : Value} {k : List (Int × Int)} (h : OwnE w B v k) (hb : Below w.heap.size w w') : OwnE w' B v k :=
  World.ownsRow.kept h (row := none) ⟨hb.os, hb.tape, hb.output, hb.size, fun k hk _ => hb.block k hk⟩ (by cases v.ownBlock <;> simp)
theorem owne_none (w : World) (B : Nat) : OwnE w B (.slice none 0 0) [] := World.ownsRow_nil _ _ _ _

/-- Two edges in a block of their own. -/
def Two (w : World) (g : Nat) (x y : Int × Int) : Prop := Whole w g 147 #[.int .i32 x.1, .int .i64 x.2, .int .i32 y.1, .int .i64 y.2]
theorem append_two {w : World} {ops : Array Oper} {rest : List Oper} {o : Oper} {a : Act} {Q : Exit → Act → World → Prop} (hgd : o.guard = none) (x y : Operand)
    (ho : o.op = .call { callee := .builtin .append, args := #[x, y], argTypes := #[143, 143] })
    (base : Nat) (v : Value) (O : List (Int × Int)) (hs : a.eval x = v) (hown : OwnE w base v O)
    (g : Nat) (e1 e2 : Int × Int) (hx : a.eval y = .slice (some ⟨g, 0, none⟩) 2 2) (ht : Two w g e1 e2) (hn : O.length + 2 ≤ 8796093022208) (hbase : base ≤ w.heap.size)
    (h : ∀ v' w', OwnE w' base v' (O ++ [e1, e2]) → w.grownBy w' v.ownBlock → wpList Tryd.prog ops Q rest (a.put o.dst v') w') : wpList Tryd.prog ops Q (o :: rest) a w := by
  obtain ⟨i, hi, hz, hsize, hby⟩ := info_parts info_edge
  refine wpList_append_own w hgd x y 143 ho base 147 i (.agg #[.int .i32 0, .int .i64 0]) 2 16 Tryd.underlying143 hi hz hsize hby rfl (by omega) v O.length (cellsE O) hs hown ⟨g, 0, none⟩ 2 2 (cellsE [e1, e2]) hx (by rw [cellsE_length]; rfl) ?_ (cellsE_one _) (by unfold maxLen; omega) (by omega) hbase (fun v' w' g1 g2 _ => h v' w' ?_ g2)
  · intro j u hu
    have hadd : (⟨g, 0, none⟩ : Addr).add j = ⟨g, j, none⟩ := by unfold Addr.add; split <;> simp_all
    rw [hadd, ht.cell]
    obtain ⟨e11, e12⟩ := e1
    obtain ⟨e21, e22⟩ := e2
    simpa [cellsE] using hu
  · unfold OwnE
    rw [cellsE_append, List.length_append]
    exact g1

/-- The slice value v holds the lists ls, each of ranges. -/
def Lss (w : World) (v : Value) (ls : List (List (Int × Int))) : Prop :=
  ∃ b o c, v = .slice (some ⟨b, o, none⟩) ls.length c ∧ ls.length ≤ c ∧ c ≤ maxLen ∧ ∀ i (h : i < ls.length), ∃ u, w.cell? ⟨b, o + i, none⟩ = some u ∧ Rgs w u ls[i]
theorem Lss.below {w w' : World} {v : Value} {ls : List (List (Int × Int))} (h : Lss w v ls) (hb : Below w.heap.size w w') : Lss w' v ls := by
  obtain ⟨b, o, c, h1, h2, h3, h4⟩ := h
  refine ⟨b, o, c, h1, h2, h3, fun i hi => ?_⟩
  obtain ⟨u, hu, hr⟩ := h4 i hi
  exact ⟨u, (hb.cell (World.block_lt_of_cell? w _ hu)).trans hu, hr.below hb⟩
/-- How many ranges in all. -/
def totL (ls : List (List (Int × Int))) : Nat := (ls.map List.length).sum
theorem endsL_length : ∀ ls : List (List (Int × Int)), (endsL ls).length ≤ 2 * totL ls
  | [] => Nat.le_refl _
  | l :: ls => by
    have h1 := endsR_length l
    have h2 := endsL_length ls
    rw [endsL_cons, List.length_append]
    unfold totL at *
    rw [List.map_cons, List.sum_cons]
    omega
theorem endsL_take (ls : List (List (Int × Int))) (m : Nat) (h : m < ls.length) : endsL (ls.take (m + 1)) = endsL (ls.take m) ++ endsR ls[m] := by
  rw [List.take_succ_eq_append_getElem h, endsL_append]
  simp [endsL]
theorem endsR_take (l : List (Int × Int)) (m : Nat) (x : Int × Int) (h : l.take (m + 1) = l.take m ++ [x]) : endsR (l.take (m + 1)) = endsR (l.take m) ++ endR x := by
  rw [h, endsR_append]
  simp [endsR]
theorem totL_take (ls : List (List (Int × Int))) (m : Nat) (h : m < ls.length) : totL (ls.take m) + ls[m].length ≤ totL ls := by
  unfold totL
  have e : ls = ls.take m ++ ls[m] :: ls.drop (m + 1) := by
    rw [List.getElem_cons_drop, List.take_append_drop]
  have e2 : ((ls.take m ++ ls[m] :: ls.drop (m + 1)).map List.length).sum = ((ls.take m).map List.length).sum + (ls[m].length + ((ls.drop (m + 1)).map List.length).sum) := by
    rw [List.map_append, List.sum_append, List.map_cons, List.sum_cons]
  rw [← e] at e2
  omega
def EndsPost (ls : List (List (Int × Int))) (w : World) (e : Ending) (w' : World) : Prop := ∃ v, e = .returned v ∧ OwnE w' w.heap.size v (endsL ls) ∧ Below w.heap.size w w'

theorem two_new (w : World) (x1 x2 y1 y2 : Int) : Two (w.alloc (.cells #[.int .i32 x1, .int .i64 x2, .int .i32 y1, .int .i64 y2] 147)) w.heap.size (x1, x2) (y1, y2) := heap_alloc_new w _

set_option maxHeartbeats 1600000 in
set_option maxRecDepth 100000 in
theorem ends_any (v : Value) (ls : List (List (Int × Int))) (w : World) (h : Lss w v ls) (hn : totL ls ≤ 1099511627776) :
    Calls Tryd.prog 91 #[v] w (EndsPost ls w) := by
  have HL := Lib.hid h
  obtain ⟨b, o, c, rfl, h2, h3, -⟩ := h
  have hlen : ls.length ≤ 9223372036854775807 := by unfold maxLen at h3; omega
  clear h2 h3
  go_enter Tryd.func91, Tryd.ntmps91
  go_wp2_with fail
  go_loopw [3, 12] (fun vs i wr => ∃ m : Nat, m ≤ ls.length ∧ i = .int .i64 m ∧ OwnE wr w.heap.size vs (endsL (ls.take m)) ∧ Below w.heap.size w wr) (fun _ i _ => ls.length - (intOf i).toNat)
  case atStart => exact ⟨0, Nat.zero_le _, rfl, owne_none _ _, Below.refl _ _⟩
  case round =>
    obtain ⟨m, hm, rfl, hO, hB⟩ := hrel
    have HO := Lib.hid hO; have HB := Lib.hid hB
    clear hO hB
    by_cases hlt : m < ls.length
    · obtain ⟨b', o', c', e, -, -, hc⟩ := HL.out
      injection e with e1 e2 e3
      injection e1 with e1
      injection e1 with e1 e4
      subst e1 e4 e3
      obtain ⟨u, hu0, hr⟩ := hc m hlt
      have hu := (HB.out.cell (World.block_lt_of_cell? w _ hu0)).trans hu0
      clear hu0
      have hEL := endsL_take ls m hlt
      have hTL := totL_take ls m hlt
      have hEn := endsL_length (ls.take m)
      obtain ⟨l, hl⟩ : ∃ l, ls[m] = l := ⟨_, rfl⟩
      rw [hl] at hr hEL hTL
      have HR := Lib.hid hr; have HEL := Lib.hid hEL
      obtain ⟨a, cl, rfl, g2, g3, -⟩ := hr
      have hll : l.length ≤ 9223372036854775807 := by unfold maxLen at g3; omega
      clear hl hc hEL g2 g3
      go_wp2_with fail
      go_loopw [3, 18] (fun vs i wy => ∃ k : Nat, k ≤ l.length ∧ i = .int .i64 k ∧ OwnE wy w.heap.size vs (endsL (ls.take m) ++ endsR (l.take k)) ∧ Below w.heap.size w wy) (fun _ i _ => l.length - (intOf i).toNat)
      case atStart => exact ⟨0, Nat.zero_le _, rfl, by rw [List.take_zero]; simpa [endsR] using HO.out, HB.out⟩
      case round =>
        obtain ⟨k, hk, rfl, hO2, hB2⟩ := hrel
        have HO2 := Lib.hid hO2; have HB2 := Lib.hid hB2
        clear hO2 hB2
        by_cases hkl : k < l.length
        · obtain ⟨a', cq, e, q2, q3, q4, q5, q6⟩ := HR.out.below HB2.out
          injection e with e1 e2 e3
          subst e1 e3
          rcases q5 with q5 | ⟨b1, o1, rfl, hc⟩
          · rw [q5] at hkl
            simp at hkl
          obtain ⟨x1, x2, hx, hsp, c1, c2⟩ := rgs_at hc k hkl
          have hsE := endsR_take l k (x1, x2) hsp
          have HSE := Lib.hid hsE
          have hkn := endsR_length (l.take k)
          rw [List.length_take] at hkn
          clear hx hsp hc hsE q6
          go_upto_region 8 with (fail)
          go_big_quiet (fail)
          have hBn : Below wr.heap.size wr (((wr.alloc (.cells #[.int .i32 x1, .int .i32 x2] 74)).drewN nq)) := below_drewNr ((Below.refl _ _).alloc (Nat.le_refl _) _) nq
          obtain ⟨wn, hwn⟩ : ∃ wn, ((wr.alloc (.cells #[.int .i32 x1, .int .i32 x2] 74)).drewN nq) = wn := ⟨_, rfl⟩
          obtain ⟨y1, hy1⟩ : ∃ y1 : Int, (if x1 < 0 then 0 else x1) = y1 := ⟨_, rfl⟩
          obtain ⟨y2, hy2⟩ : ∃ y2 : Int, (if 1114111 < x2 then 1114111 else x2) = y2 := ⟨_, rfl⟩
          rw [hwn] at hBn ⊢
          rw [hy1, hy2]
          have hER : endR (x1, x2) = if y1 ≤ y2 then [(y1, 1), (y2 + 1, -1)] else [] := by
            unfold endR
            simp only
            rw [show max x1 0 = y1 by split at hy1 <;> omega, show min x2 1114111 = y2 by split at hy2 <;> omega]
          have HER := Lib.hid hER
          have hb2 : y2 ≤ 1114111 := by split at hy2 <;> omega
          have hb1 : 0 ≤ y1 := by split at hy1 <;> omega
          have HB3 := Lib.hid (HB2.out.trans (hBn.mono HB2.out.size))
          have hsz0 := HB2.out.size
          have HO3 := Lib.hid (HO2.out.below hBn)
          have hsz := HB3.out.size
          have hOl : (endsL (ls.take m) ++ endsR (l.take k)).length + 2 ≤ 8796093022208 := by rw [List.length_append]; omega
          have HOL := Lib.hid hOl
          clear hwn hy1 hy2 hER hBn c1 c2 hOl
          by_cases hxy : y1 ≤ y2
          · go_wp2_with (at_builtin; refine append_two rfl (.tmp 31) (.tmp 37) rfl w.heap.size _ _ rfl (HO3.out.below ((Below.refl _ _).alloc (Nat.le_refl _) _)) wn.heap.size (y1, 1) (y2 + 1, -1) rfl (two_new wn y1 1 (y2 + 1) (-1)) HOL.out ?c1 ?_)
            case c1 => first | omega | (simp; omega)
            intro v3 w3 ho3 hg3
            have HB4 := Lib.hid ((HB3.out.alloc HB3.out.size _).grown hg3 (by simp; omega) (fun j hj => (World.ownsRow.lt HO3.out j hj).1))
            have HO4 := Lib.hid ho3
            clear ho3 hg3
            go_wp2
            go_roundw
            case rel => exact ⟨k + 1, by omega, by go_num, by rw [HSE.out, HER.out, if_pos hxy]; first | exact HO4.out | (rw [← List.append_assoc]; exact HO4.out), HB4.out⟩
            case measure => simp [intOf]; omega
          · go_wp2
            go_roundw
            case rel => exact ⟨k + 1, by omega, by go_num, by rw [HSE.out, HER.out, if_neg hxy, List.append_nil]; exact HO3.out, HB3.out⟩
            case measure => simp [intOf]; omega
        · have e : l.take k = l := List.take_of_length_le (by omega)
          go_wp2
          go_roundw
          case rel => exact ⟨m + 1, by omega, by go_num, by rw [HEL.out]; have := HO2.out; rw [e] at this; exact this, HB2.out⟩
          case measure => simp [intOf]; omega
    · have e : ls.take m = ls := List.take_of_length_le (by omega)
      have ho := HO.out
      rw [e] at ho
      have HO' := Lib.hid ho
      clear ho e
      go_wp2
      go_ret
      exact ⟨_, rfl, HO'.out, HB.out⟩
end Go.Proofs.YtofhckheeijoiaaDoor
/- The document's set of a name between colons, without a sign ahead. -/
namespace Go.Proofs.YtofhckheeijoiaaDoor
open Go Go.RowKit

end Go.Proofs.YtofhckheeijoiaaDoor
/- The document's set of a name between colons. -/
namespace Go.Proofs.YtofhckheeijoiaaDoor
open Go Go.RowKit

end Go.Proofs.YtofhckheeijoiaaDoor
/- What a dot stands for. -/
namespace Go.Proofs.YtofhckheeijoiaaDoor
open Go Go.RowKit

end Go.Proofs.YtofhckheeijoiaaDoor
