/- Texts merged by program: Norm, Union, RNot, RMeet. No condition. -/
import Derived.Test.YtnemacejaiifnaaO4
import Derived.Deep.DeepCutAuto
import Derived.Deep.RegionHeld3
import Derived.Outline
set_option linter.unusedVariables false
/- The document's Norm: the set of any list, in a fresh row. -/
set_option linter.unusedSimpArgs false
namespace Go.Proofs.Ytnemacejaiifnaa
open Go Go.RowKit

theorem own_lit' (W : World) (B n : Nat) (h : W.heap.size = n) (hB : B ≤ n) : OwnR (W.alloc (.cells #[] 131)) B (.slice (some ⟨n, 0, none⟩) 0 0) [] := by
  subst h
  exact ⟨World.ownsRow_lit W #[] 0 hB (Nat.zero_le _) rfl, by simp [AllI32]⟩
theorem wrap_nat (n : Nat) (h : n < 9223372036854775808) : IntKind.i64.wrap (n : Int) = (n : Int) := by
  have hm : (n : Int) % 18446744073709551616 = n := by omega
  unfold IntKind.wrap
  simp [IntKind.bits, IntKind.signed, hm]
  omega
theorem put_split (S : List (Int × Int)) (x : Int × Int) (k : Nat) : S.take k ++ [x] ++ S.drop k = S.take k ++ x :: S.drop k := by simp
theorem cut_letters (x1 x2 y1 y2 : Int) (h1 : (if x1 < 0 then 0 else x1) = y1) (h2 : (if 1114111 < x2 then 1114111 else x2) = y2) : cutR (x1, x2) = (y1, y2) := by
  unfold cutR
  simp only
  rw [← h1, ← h2]
  congr 1
  · split <;> omega
  · split <;> omega
/-- A fresh row of the set of the runes for which P holds. -/
def SetPost (P : Int → Prop) (w : World) (e : Ending) (w' : World) : Prop :=
  ∃ v k, e = .returned v ∧ OwnR w' w.heap.size v k ∧ RightR k ∧ (∀ c, HasR k c ↔ P c) ∧ Below w.heap.size w w'
def Loop1 (w : World) (l : List (Int × Int)) (m : Nat) (vs : Value) (wr : World) : Prop :=
  ∃ S, OwnR wr w.heap.size vs S ∧ Sorted S ∧ (∀ c, HasR S c ↔ HasR (l.take m) c) ∧ S.length ≤ m ∧ Below w.heap.size w wr

def Loop2 (wr : World) (S : List (Int × Int)) (k : Nat) (vo : Value) (wz : World) : Prop :=
  ∃ O, OwnR wz wr.heap.size vo O ∧ RightR O ∧ (∀ c, HasR O c ↔ HasR (S.take k) c) ∧ O.length ≤ k ∧ (∀ o p, O = o ++ [p] → ∀ j (h : j < S.length), k ≤ j → p.1 ≤ S[j].1) ∧ Below wr.heap.size wr wz
theorem sorted_le {S : List (Int × Int)} (h : Sorted S) (i j : Nat) (hj : j < S.length) (hi : i ≤ j) : (S[i]'(by omega)).1 ≤ S[j].1 := by
  rcases Nat.lt_or_ge i j with h1 | h1
  · exact List.pairwise_iff_getElem.1 h.1 i j (by omega) hj h1
  · have : i = j := by omega
    subst this
    exact Int.le_refl _

set_option maxHeartbeats 1600000 in
set_option maxRecDepth 100000 in
theorem rnorm_any (v : Value) (l : List (Int × Int)) (w : World) (h : Rgs w v l) (hn : l.length ≤ 1099511627776) :
    Calls Try.prog 154 #[v] w (SetPost (HasR l) w) := by
  have hrg := h
  obtain ⟨a, c, rfl, h2, h3, h4, h5, h6⟩ := h
  have HRG := Lib.hid hrg; have H6 := Lib.hid h6
  clear h5 h6 h4 h2 h3 hrg
  go_enter Try.func154, Try.ntmps154
  go_wp2_with fail
  go_loopw [3, 4] (fun vs i wr => ∃ m : Nat, m ≤ l.length ∧ i = .int .i64 m ∧ Loop1 w l m vs wr) (fun _ i _ => l.length - (intOf i).toNat)
  case atStart => exact ⟨0, Nat.zero_le _, rfl, [], own_none _ _, sorted_nil, fun c => by simp [HasR], Nat.le_refl _, Below.refl _ _⟩
  case round =>
    obtain ⟨m, hm, rfl, S, hO, hS, hP, hSm, hB⟩ := hrel
    have HO := Lib.hid hO; have HS := Lib.hid hS; have HP := Lib.hid hP; have HB := Lib.hid hB
    clear hO hS hP hB
    by_cases hlt : m < l.length
    · obtain ⟨a', c', e, g2, g3, g4, g5, g6⟩ := HRG.out.below HB.out
      injection e with e1 e2 e3
      subst e1 e3
      rcases g5 with g5 | ⟨b, o, rfl, hc⟩
      · rw [g5] at hlt
        simp at hlt
      obtain ⟨x1, x2, hx, hsp, c1, c2⟩ := rgs_at hc m hlt
      have HSP := Lib.hid hsp; have HX := Lib.hid hx
      clear hsp hx hc g6
      obtain ⟨y1, hy1⟩ : ∃ y1 : Int, (if x1 < 0 then 0 else x1) = y1 := ⟨_, rfl⟩
      obtain ⟨y2, hy2⟩ : ∃ y2 : Int, (if 1114111 < x2 then 1114111 else x2) = y2 := ⟨_, rfl⟩
      go_upto_region 5 with (fail)
      go_cut [5] (fun s5 wx => ∃ bx, s5 = .pointer (some ⟨bx, 0, none⟩) ∧ Whole wx bx 131 #[.int .i32 y1, .int .i32 y2] ∧ wr.heap.size ≤ bx ∧ Below wr.heap.size wr wx)
      case first =>
        go_region_held3 (fun w' => w'.cell? ⟨b, o + m * 2, none⟩ = some (.int .i32 x1) ∧ w'.cell? ⟨b, o + m * 2 + 1, none⟩ = some (.int .i32 x2)) (first | go_keep | exact ⟨c1, c2⟩) (fail)
        all_goals
          go_wp2
          go_meet
          exact ⟨wr.heap.size, rfl, heap_alloc_new wr _, Nat.le_refl _, ((Below.refl _ wr).alloc (Nat.le_refl _) _).drew⟩
      case rest =>
        obtain ⟨bx, rfl, hW, hbx, hBx⟩ := hcut
        have k1 := hW.cell 0
        have k2 := hW.cell 1
        simp only [List.getElem?_toArray, List.getElem?_cons_succ, List.getElem?_cons_zero] at k1 k2
        have HW := Lib.hid hW; have HBX := Lib.hid hBx
        have HY1 := Lib.hid hy1; have HY2 := Lib.hid hy2
        clear hW hBx c1 c2 hy1 hy2
        have HI := Lib.hid (show I32 y1 ∧ I32 y2 from by
          have e := H6.out (x1, x2) (List.mem_of_getElem? HX.out)
          have e1 := HY1.out
          have e2 := HY2.out
          unfold I32 at *
          simp only at e
          split at e1 <;> split at e2 <;> omega)
        have HBX' := Lib.hid (HB.out.trans (HBX.out.mono HB.out.size))
        have HBC := Lib.hid (show w.heap.size ≤ wc.heap.size from (HB.out.trans (HBX.out.mono HB.out.size)).size)
        have HOC := Lib.hid (HO.out.below HBX.out)
        by_cases hxy : y2 < y1
        · have hd : decide (y2 < y1) = true := decide_eq_true hxy
          go_wp2
          go_roundw
          case rel =>
            have hcx := cut_letters x1 x2 y1 y2 HY1.out HY2.out
            refine ⟨m + 1, by omega, by go_num, S, HOC.out, HS.out, fun c => ?_, by omega, HBX'.out⟩
            have := has_cut_none (x1, x2) (by rw [hcx]; exact hxy) c
            rw [HP.out, HSP.out, has_append]
            exact ⟨.inl, fun h => h.resolve_right this⟩
          case measure => simp [intOf]; omega
        · have hd : decide (y2 < y1) = false := decide_eq_false hxy
          rcases own_slice2 HO.out.1 with ⟨rfl, hS0⟩ | ⟨g, cs, rfl, hSc, hcm, hBg⟩
          · have HRS := Lib.hid (show Rgs wc (.slice none 0 0) S from HOC.out.rgs)
            have hn0 : S = [] := List.eq_nil_of_length_eq_zero hS0
            go_wp2_with fail
            go_loopw [6] (fun i wy => i = .int .i64 0 ∧ Below wc.heap.size wc wy ∧ wy.heap.size = wc.heap.size) (fun _ _ => 0)
            case atStart => exact ⟨rfl, Below.refl _ _, rfl⟩
            case round =>
              obtain ⟨rfl, hBy, hsz⟩ := hrel
              have HBY := Lib.hid hBy; have HSZ := Lib.hid hsz
              clear hBy hsz
              have hlo : ∀ j (h : j < S.length), j + 1 = 0 → S[j].1 ≤ y1 := fun j h e => by omega
              have hhi : ∀ j (h : j < S.length), 0 ≤ j → y1 < S[j].1 := fun j h e => by omega
              go_wp2_with fail
              go_big_quiet (fail)
              have HN0 := Lib.hid hn0
              clear hn0
              have hkS : 0 ≤ S.length := by omega
              have hSl : (S.take 0).length ≤ 1099511627776 := by rw [List.length_take]; omega
              have HLO := Lib.hid hlo; have HHI := Lib.hid hhi
              clear hlo hhi
              go_wp2_with (at_builtin; refine append_rgs rfl (.tmp 52) (.tmp 55) rfl wc.heap.size _ [] rfl (own_lit' (wr.drewN nq) wc.heap.size wr.heap.size (by simp) (by have := HSZ.out; omega)) none 0 0 (S.take 0) rfl ((rgs_take HRS.out 0 (by omega)).below ((below_drewNr HBY.out _).alloc (by simp; have := HSZ.out; omega) _)) ?b2 ?b3 ?_)
              case b2 => simp <;> omega
              case b3 => simp; have := HSZ.out; omega
              intro v1 w1 ho1 hg1
              try simp only [List.nil_append] at ho1
              have hB1 := ((below_drewNr HBY.out nq).alloc (by simp; have := HSZ.out; omega) (.cells #[] 131)).grown hg1 (by simp; have := HSZ.out; omega) (by have := HSZ.out; simp [Value.ownBlock]; omega)
              have hw1 := HW.out.below hB1 HW.out.lt
              have k1 := hw1.cell 0
              have k2 := hw1.cell 1
              simp only [List.getElem?_toArray, List.getElem?_cons_succ, List.getElem?_cons_zero] at k1 k2
              have HO1 := Lib.hid ho1; have HB1 := Lib.hid hB1
              clear ho1 hB1 hg1 hw1
              go_wp2_with (at_builtin; refine append_rgs rfl (.tmp 57) (.tmp 59) rfl wc.heap.size v1 (S.take 0) rfl (HO1.out.below ((Below.refl _ w1).alloc (Nat.le_refl _) _)) (some ⟨w1.heap.size, 0, none⟩) 1 1 [(y1, y2)] rfl (rgs_new w1 y1 y2 HI.out.1 HI.out.2) ?c1 ?c2 ?_)
              case c1 => simp only [List.length_cons, List.length_nil]; omega
              case c2 => have := HB1.out.size; simp; omega
              intro v2 w2 ho2 hg2
              have HB2 := Lib.hid ((HB1.out.alloc HB1.out.size _).grown hg2 (by have := HB1.out.size; simp; omega) (fun j hj => (HO1.out.1.lt j hj).1))
              have HO2 := Lib.hid ho2
              have HD := Lib.hid (show Rgs w2 (.slice none 0 0) (S.drop 0) from by rw [List.drop_zero]; exact HRS.out.below HB2.out)
              clear ho2 hg2
              go_wp2_with (at_builtin; refine append_rgs rfl (.tmp 61) (.tmp 64) rfl wc.heap.size v2 (S.take 0 ++ [(y1, y2)]) rfl HO2.out _ _ _ (S.drop 0) rfl HD.out ?d1 ?d2 ?_)
              case d1 => simp <;> omega
              case d2 => exact HB2.out.size
              intro v3 w3 ho3 hg3
              have hB3 := HB2.out.grown hg3 HB2.out.size (fun j hj => (HO2.out.1.lt j hj).1)
              go_wp2
              go_roundw
              case rel =>
                have ho3' : OwnR w3 wc.heap.size v3 (S.take 0 ++ (y1, y2) :: S.drop 0) := by simpa using ho3
                have hcx := cut_letters x1 x2 y1 y2 HY1.out HY2.out
                have hfit : Fit (y1, y2) := by
                  rw [← hcx]
                  exact fit_cut _ (by rw [hcx]; show ¬ y2 < y1; omega)
                refine ⟨m + 1, by omega, by go_num, _, ho3'.mono HBC.out, sorted_put S (y1, y2) 0 HS.out hfit hkS HLO.out HHI.out, fun c => ?_, by simp; omega, HBX'.out.trans (hB3.mono HBC.out)⟩
                rw [has_put, HP.out, HSP.out, has_append, ← has_cut (x1, x2), hcx]
              case measure => simp [intOf]; omega
          · have HRS := Lib.hid (show Rgs wc (.slice (some ⟨g, 0, none⟩) S.length cs) S from HOC.out.rgs)
            go_wp2_with fail
            go_loopw [6] (fun i wy => ∃ k : Nat, k ≤ S.length ∧ i = .int .i64 k ∧ (Below wc.heap.size wc wy ∧ wy.heap.size = wc.heap.size) ∧ ∀ j (h : j < S.length), k ≤ j → y1 < S[j].1) (fun i _ => (intOf i).toNat)
            case atStart => exact ⟨S.length, Nat.le_refl _, rfl, ⟨Below.refl _ _, rfl⟩, fun j h1 h2 => by omega⟩
            case round =>
              obtain ⟨k, hk, rfl, ⟨hBy, hsz⟩, hhi⟩ := hrel
              have HBY := Lib.hid hBy; have HSZ := Lib.hid hsz
              clear hBy hsz
              by_cases hk0 : k = 0
              · subst hk0
                have hlo : ∀ j (h : j < S.length), j + 1 = 0 → S[j].1 ≤ y1 := fun j h e => by omega
                go_wp2_with fail
                go_big_quiet (fail)
                have hkS : 0 ≤ S.length := by omega
                have hSl : (S.take 0).length ≤ 1099511627776 := by rw [List.length_take]; omega
                have HLO := Lib.hid hlo; have HHI := Lib.hid hhi
                clear hlo hhi
                go_wp2_with (at_builtin; refine append_rgs rfl (.tmp 52) (.tmp 55) rfl wc.heap.size _ [] rfl (own_lit' (wr.drewN nq) wc.heap.size wr.heap.size (by simp) (by have := HSZ.out; omega)) (some ⟨g, 0, none⟩) 0 cs (S.take 0) rfl ((rgs_take HRS.out (0) (by omega)).below ((below_drewNr HBY.out _).alloc (by simp; have := HSZ.out; omega) _)) ?b2 ?b3 ?_)
                case b2 => simp <;> omega
                case b3 => simp; have := HSZ.out; omega
                intro v1 w1 ho1 hg1
                try simp only [List.nil_append] at ho1
                have hB1 := ((below_drewNr HBY.out nq).alloc (by simp; have := HSZ.out; omega) (.cells #[] 131)).grown hg1 (by simp; have := HSZ.out; omega) (by have := HSZ.out; simp [Value.ownBlock]; omega)
                have hw1 := HW.out.below hB1 HW.out.lt
                have k1 := hw1.cell 0
                have k2 := hw1.cell 1
                simp only [List.getElem?_toArray, List.getElem?_cons_succ, List.getElem?_cons_zero] at k1 k2
                have HO1 := Lib.hid ho1; have HB1 := Lib.hid hB1
                clear ho1 hB1 hg1 hw1
                go_wp2_with (at_builtin; refine append_rgs rfl (.tmp 57) (.tmp 59) rfl wc.heap.size v1 (S.take 0) rfl (HO1.out.below ((Below.refl _ w1).alloc (Nat.le_refl _) _)) (some ⟨w1.heap.size, 0, none⟩) 1 1 [(y1, y2)] rfl (rgs_new w1 y1 y2 HI.out.1 HI.out.2) ?c1 ?c2 ?_)
                case c1 => simp only [List.length_cons, List.length_nil]; omega
                case c2 => have := HB1.out.size; simp; omega
                intro v2 w2 ho2 hg2
                have HB2 := Lib.hid ((HB1.out.alloc HB1.out.size _).grown hg2 (by have := HB1.out.size; simp; omega) (fun j hj => (HO1.out.1.lt j hj).1))
                have HO2 := Lib.hid ho2
                have HD := Lib.hid (show Rgs w2 (.slice (some ⟨g, 0, none⟩) S.length cs) (S.drop 0) from by rw [List.drop_zero]; exact HRS.out.below HB2.out)
                clear ho2 hg2
                go_wp2_with (at_builtin; refine append_rgs rfl (.tmp 61) (.tmp 64) rfl wc.heap.size v2 (S.take 0 ++ [(y1, y2)]) rfl HO2.out _ _ _ (S.drop 0) rfl HD.out ?d1 ?d2 ?_)
                case d1 => simp <;> omega
                case d2 => exact HB2.out.size
                intro v3 w3 ho3 hg3
                have hB3 := HB2.out.grown hg3 HB2.out.size (fun j hj => (HO2.out.1.lt j hj).1)
                go_wp2
                go_roundw
                case rel =>
                  have ho3' : OwnR w3 wc.heap.size v3 (S.take 0 ++ (y1, y2) :: S.drop 0) := by simpa using ho3
                  have hcx := cut_letters x1 x2 y1 y2 HY1.out HY2.out
                  have hfit : Fit (y1, y2) := by
                    rw [← hcx]
                    exact fit_cut _ (by rw [hcx]; show ¬ y2 < y1; omega)
                  refine ⟨m + 1, by omega, by go_num, _, ho3'.mono HBC.out, sorted_put S (y1, y2) 0 HS.out hfit hkS HLO.out HHI.out, fun c => ?_, by simp; omega, HBX'.out.trans (hB3.mono HBC.out)⟩
                  rw [has_put, HP.out, HSP.out, has_append, ← has_cut (x1, x2), hcx]
                case measure => simp [intOf]; omega
              · obtain ⟨p, rfl⟩ : ∃ p, k = p + 1 := ⟨k - 1, by omega⟩
                have hp : p < S.length := by omega
                have hpz : (0 : Int) < (p : Int) + 1 := by omega
                have dp : decide ((0 : Int) < (p : Int) + 1) = true := decide_eq_true hpz
                have hcells : ∃ s1 s2, S[p]? = some (s1, s2) ∧ wr.cell? ⟨g, p * 2, none⟩ = some (.int .i32 s1) := by
                  obtain ⟨a1, c1, q1, q2, q3, q4, q5, q6⟩ := HRS.out.below HBY.out
                  injection q1 with q1 _ _
                  subst q1
                  rcases q5 with q5 | ⟨b1, o1, q7, q8⟩
                  · rw [q5] at hp
                    simp at hp
                  · injection q7 with q7
                    injection q7 with q9 q10
                    subst q9 q10
                    obtain ⟨s1, s2, r1, _, r3, _⟩ := rgs_at q8 p hp
                    exact ⟨s1, s2, r1, by simpa using r3⟩
                obtain ⟨s1, s2, hs1, hsc⟩ := hcells
                have hbxc := HW.out.below HBY.out HW.out.lt
                have z1 := hbxc.cell 0
                simp only [List.getElem?_toArray, List.getElem?_cons_zero] at z1
                have HS1 := Lib.hid hs1
                clear hs1 hbxc
                by_cases hsy : y1 < s1
                · have dsy : decide (y1 < s1) = true := decide_eq_true hsy
                  go_wp2_with fail
                  go_big_quiet (fail)
                  go_wp2
                  go_roundw
                  case rel =>
                    refine ⟨p, by omega, by go_num, ⟨below_drewNr HBY.out nq, by simpa using HSZ.out⟩, fun j h1 h2 => ?_⟩
                    by_cases hj : j = p
                    · subst hj
                      have := HS1.out
                      rw [List.getElem?_eq_getElem h1] at this
                      rw [Option.some.inj this]
                      exact hsy
                    · exact hhi j h1 (by omega)
                  case measure => simp [intOf]
                · have dsy : decide (y1 < s1) = false := decide_eq_false hsy
                  have hlo : ∀ j (h : j < S.length), j + 1 = p + 1 → S[j].1 ≤ y1 := fun j h1 h2 => by
                    obtain rfl : j = p := by omega
                    have := HS1.out
                    rw [List.getElem?_eq_getElem h1] at this
                    rw [Option.some.inj this]
                    show s1 ≤ y1
                    omega
                  go_wp2_with fail
                  go_big_quiet (fail)
                  clear hsc z1
                  have hkz : (p : Int) + 1 ≤ (S.length : Int) := by omega
                  have hcz : (p : Int) + 1 ≤ (cs : Int) := by omega
                  by_cases hck : cs = p + 1
                  · have HCK := Lib.hid hck
                    clear hck
                    have hkS : (p + 1) ≤ S.length := by omega
                    have hSl : (S.take (p + 1)).length ≤ 1099511627776 := by rw [List.length_take]; omega
                    have HLO := Lib.hid hlo; have HHI := Lib.hid hhi
                    clear hlo hhi
                    go_wp2_with (at_builtin; refine append_rgs rfl (.tmp 52) (.tmp 55) rfl wc.heap.size _ [] rfl (own_lit' (wr.drewN nq) wc.heap.size wr.heap.size (by simp) (by have := HSZ.out; omega)) (some ⟨g, 0, none⟩) (p + 1) cs (S.take (p + 1)) rfl ((rgs_take HRS.out ((p + 1)) (by omega)).below ((below_drewNr HBY.out _).alloc (by simp; have := HSZ.out; omega) _)) ?b2 ?b3 ?_)
                    case b2 => simp <;> omega
                    case b3 => simp; have := HSZ.out; omega
                    intro v1 w1 ho1 hg1
                    try simp only [List.nil_append] at ho1
                    have hB1 := ((below_drewNr HBY.out nq).alloc (by simp; have := HSZ.out; omega) (.cells #[] 131)).grown hg1 (by simp; have := HSZ.out; omega) (by have := HSZ.out; simp [Value.ownBlock]; omega)
                    have hw1 := HW.out.below hB1 HW.out.lt
                    have k1 := hw1.cell 0
                    have k2 := hw1.cell 1
                    simp only [List.getElem?_toArray, List.getElem?_cons_succ, List.getElem?_cons_zero] at k1 k2
                    have HO1 := Lib.hid ho1; have HB1 := Lib.hid hB1
                    clear ho1 hB1 hg1 hw1
                    go_wp2_with (at_builtin; refine append_rgs rfl (.tmp 57) (.tmp 59) rfl wc.heap.size v1 (S.take (p + 1)) rfl (HO1.out.below ((Below.refl _ w1).alloc (Nat.le_refl _) _)) (some ⟨w1.heap.size, 0, none⟩) 1 1 [(y1, y2)] rfl (rgs_new w1 y1 y2 HI.out.1 HI.out.2) ?c1 ?c2 ?_)
                    case c1 => simp only [List.length_cons, List.length_nil]; omega
                    case c2 => have := HB1.out.size; simp; omega
                    intro v2 w2 ho2 hg2
                    have HB2 := Lib.hid ((HB1.out.alloc HB1.out.size _).grown hg2 (by have := HB1.out.size; simp; omega) (fun j hj => (HO1.out.1.lt j hj).1))
                    have HO2 := Lib.hid ho2
                    have HD := Lib.hid (show Rgs w2 (.slice (some ⟨g, 0, none⟩) 0 0) (S.drop (p + 1)) from by have := rgs_drop (HRS.out.below HB2.out) (p + 1) hkS; have hc1 := HCK.out; rw [if_pos hc1, show S.length - (p + 1) = 0 by omega, show cs - (p + 1) = 0 by omega] at this; exact this)
                    have hck := HCK.out
                    have hsl : S.length = p + 1 := by omega
                    clear ho2 hg2
                    go_wp2_with (at_builtin; refine append_rgs rfl (.tmp 61) (.tmp 64) rfl wc.heap.size v2 (S.take (p + 1) ++ [(y1, y2)]) rfl HO2.out _ _ _ (S.drop (p + 1)) rfl HD.out ?d1 ?d2 ?_)
                    case d1 => simp <;> omega
                    case d2 => exact HB2.out.size
                    intro v3 w3 ho3 hg3
                    have hB3 := HB2.out.grown hg3 HB2.out.size (fun j hj => (HO2.out.1.lt j hj).1)
                    go_wp2
                    go_roundw
                    case rel =>
                      have ho3' : OwnR w3 wc.heap.size v3 (S.take (p + 1) ++ (y1, y2) :: S.drop (p + 1)) := by simpa using ho3
                      have hcx := cut_letters x1 x2 y1 y2 HY1.out HY2.out
                      have hfit : Fit (y1, y2) := by
                        rw [← hcx]
                        exact fit_cut _ (by rw [hcx]; show ¬ y2 < y1; omega)
                      refine ⟨m + 1, by omega, by go_num, _, ho3'.mono HBC.out, sorted_put S (y1, y2) (p + 1) HS.out hfit hkS HLO.out HHI.out, fun c => ?_, by simp; omega, HBX'.out.trans (hB3.mono HBC.out)⟩
                      rw [has_put, HP.out, HSP.out, has_append, ← has_cut (x1, x2), hcx]
                    case measure => simp [intOf]; omega
                  · have hkS : (p + 1) ≤ S.length := by omega
                    have hSl : (S.take (p + 1)).length ≤ 1099511627776 := by rw [List.length_take]; omega
                    have HLO := Lib.hid hlo; have HHI := Lib.hid hhi
                    clear hlo hhi
                    go_wp2_with (at_builtin; refine append_rgs rfl (.tmp 52) (.tmp 55) rfl wc.heap.size _ [] rfl (own_lit' (wr.drewN nq) wc.heap.size wr.heap.size (by simp) (by have := HSZ.out; omega)) (some ⟨g, 0, none⟩) (p + 1) cs (S.take (p + 1)) rfl ((rgs_take HRS.out ((p + 1)) (by omega)).below ((below_drewNr HBY.out _).alloc (by simp; have := HSZ.out; omega) _)) ?b2 ?b3 ?_)
                    case b2 => simp <;> omega
                    case b3 => simp; have := HSZ.out; omega
                    intro v1 w1 ho1 hg1
                    try simp only [List.nil_append] at ho1
                    have hB1 := ((below_drewNr HBY.out nq).alloc (by simp; have := HSZ.out; omega) (.cells #[] 131)).grown hg1 (by simp; have := HSZ.out; omega) (by have := HSZ.out; simp [Value.ownBlock]; omega)
                    have hw1 := HW.out.below hB1 HW.out.lt
                    have k1 := hw1.cell 0
                    have k2 := hw1.cell 1
                    simp only [List.getElem?_toArray, List.getElem?_cons_succ, List.getElem?_cons_zero] at k1 k2
                    have HO1 := Lib.hid ho1; have HB1 := Lib.hid hB1
                    clear ho1 hB1 hg1 hw1
                    go_wp2_with (at_builtin; refine append_rgs rfl (.tmp 57) (.tmp 59) rfl wc.heap.size v1 (S.take (p + 1)) rfl (HO1.out.below ((Below.refl _ w1).alloc (Nat.le_refl _) _)) (some ⟨w1.heap.size, 0, none⟩) 1 1 [(y1, y2)] rfl (rgs_new w1 y1 y2 HI.out.1 HI.out.2) ?c1 ?c2 ?_)
                    case c1 => simp only [List.length_cons, List.length_nil]; omega
                    case c2 => have := HB1.out.size; simp; omega
                    intro v2 w2 ho2 hg2
                    have HB2 := Lib.hid ((HB1.out.alloc HB1.out.size _).grown hg2 (by have := HB1.out.size; simp; omega) (fun j hj => (HO1.out.1.lt j hj).1))
                    have HO2 := Lib.hid ho2
                    have HD := Lib.hid (show Rgs w2 (.slice (some ⟨g, (p + 1) * 2, none⟩) (S.length - (p + 1)) (cs - (p + 1))) (S.drop (p + 1)) from by have := rgs_drop (HRS.out.below HB2.out) (p + 1) hkS; rw [if_neg hck, Nat.zero_add] at this; exact this)
                    clear ho2 hg2
                    go_wp2_with (at_builtin; refine append_rgs rfl (.tmp 61) (.tmp 64) rfl wc.heap.size v2 (S.take (p + 1) ++ [(y1, y2)]) rfl HO2.out _ _ _ (S.drop (p + 1)) rfl HD.out ?d1 ?d2 ?_)
                    case d1 => simp <;> omega
                    case d2 => exact HB2.out.size
                    intro v3 w3 ho3 hg3
                    have hB3 := HB2.out.grown hg3 HB2.out.size (fun j hj => (HO2.out.1.lt j hj).1)
                    go_wp2
                    go_roundw
                    case rel =>
                      have ho3' : OwnR w3 wc.heap.size v3 (S.take (p + 1) ++ (y1, y2) :: S.drop (p + 1)) := by simpa using ho3
                      have hcx := cut_letters x1 x2 y1 y2 HY1.out HY2.out
                      have hfit : Fit (y1, y2) := by
                        rw [← hcx]
                        exact fit_cut _ (by rw [hcx]; show ¬ y2 < y1; omega)
                      refine ⟨m + 1, by omega, by go_num, _, ho3'.mono HBC.out, sorted_put S (y1, y2) (p + 1) HS.out hfit hkS HLO.out HHI.out, fun c => ?_, by simp; omega, HBX'.out.trans (hB3.mono HBC.out)⟩
                      rw [has_put, HP.out, HSP.out, has_append, ← has_cut (x1, x2), hcx]
                    case measure => simp [intOf]; omega
    · obtain ⟨wm, hwm⟩ : ∃ wm, wm = wr := ⟨_, rfl⟩
      subst hwm
      have hmn : m = l.length := by omega
      have HPL := Lib.hid (show ∀ c, HasR S c ↔ HasR l c from by have h1 := HP.out; rw [hmn, List.take_length] at h1; exact h1)
      clear hmn
      rcases own_slice2 HO.out.1 with ⟨rfl, hS0⟩ | ⟨g, cs, rfl, hSc, hcm, hBg⟩
      · have HE := Lib.hid (show S = [] from List.eq_nil_of_length_eq_zero hS0)
        go_wp2_with fail
        go_loopw [8, 9] (fun vo i wz => vo = .slice none 0 0 ∧ i = .int .i64 0 ∧ wz = wm) (fun _ _ _ => 0)
        case atStart => exact ⟨rfl, rfl, rfl⟩
        case round =>
          obtain ⟨rfl, rfl, rfl⟩ := hrel
          go_wp2
          go_ret
          exact ⟨_, [], rfl, own_none _ _, trivial, fun c => by rw [← HPL.out c, HE.out], HB.out⟩
      · have HRS := Lib.hid (show Rgs wm (.slice (some ⟨g, 0, none⟩) S.length cs) S from HO.out.rgs)
        have HBL := Lib.hid HB.out.size
        go_wp2_with fail
        go_loopw [8, 9] (fun vo i wz => ∃ k : Nat, k ≤ S.length ∧ i = .int .i64 k ∧ Loop2 wm S k vo wz) (fun _ i _ => S.length - (intOf i).toNat)
        case atStart => exact ⟨0, Nat.zero_le _, rfl, [], own_none _ _, trivial, fun c => by simp [HasR], Nat.le_refl _, fun o p e => by simp at e, Below.refl _ _⟩
        case round =>
          obtain ⟨k, hk, rfl, O, hOO, hRO, hPO, hOk, hLO, hBz⟩ := hrel
          have HOO := Lib.hid hOO; have HRO := Lib.hid hRO; have HPO := Lib.hid hPO; have HLO := Lib.hid hLO; have HBZ := Lib.hid hBz
          clear hOO hRO hPO hLO hBz
          by_cases hkl : k < S.length
          · have hxs : ∃ x1 x2, S[k]? = some (x1, x2) ∧ S.take (k + 1) = S.take k ++ [(x1, x2)] ∧ wr.cell? ⟨g, k * 2, none⟩ = some (.int .i32 x1) ∧ wr.cell? ⟨g, k * 2 + 1, none⟩ = some (.int .i32 x2) := by
              obtain ⟨a1, c1, q1, q2, q3, q4, q5, q6⟩ := HRS.out.below HBZ.out
              injection q1 with q1 _ _
              subst q1
              rcases q5 with q5 | ⟨b1, o1, q7, q8⟩
              · rw [q5] at hkl
                simp at hkl
              · injection q7 with q7
                injection q7 with q9 q10
                subst q9 q10
                obtain ⟨s1, s2, r1, r2, r3, r4⟩ := rgs_at q8 k hkl
                exact ⟨s1, s2, r1, r2, by simpa using r3, by simpa using r4⟩
            obtain ⟨x1, x2, hx, hsp, c1, c2⟩ := hxs
            have hxe : S[k]'hkl = (x1, x2) := by
              rw [List.getElem?_eq_getElem hkl] at hx
              exact Option.some.inj hx
            have hfit := HS.out.2 (x1, x2) (List.mem_of_getElem? hx)
            have HI := Lib.hid (show I32 x1 ∧ I32 x2 from by
              have e := HRS.out
              obtain ⟨_, _, _, _, _, _, _, q6⟩ := e
              exact q6 (x1, x2) (List.mem_of_getElem? hx))
            have HX := Lib.hid hx; have HSP := Lib.hid hsp; have HXE := Lib.hid hxe; have HF := Lib.hid hfit
            clear hx hsp hxe hfit
            by_cases hO0 : O = []
            · have hl0 : O.length = 0 := by rw [hO0]; rfl
              have HO0 := Lib.hid hO0
              clear hO0
              rcases own_slice2 HOO.out.1 with ⟨rfl, _⟩ | ⟨go, co, rfl, hOc, hom, hBgo⟩
              · go_wp2_with fail
                go_big_quiet (fail)
                go_wp2_with (at_builtin; refine append_rgs rfl (.tmp 108) (.tmp 113) rfl wm.heap.size _ O rfl ((HOO.out.below (below_drewNr (Below.refl _ wr) _)).below ((Below.refl _ _).alloc (Nat.le_refl _) _)) (some ⟨(wr.drewN nq).heap.size, 0, none⟩) 1 1 [(x1, x2)] (by simp; rfl) (rgs_new (wr.drewN nq) x1 x2 HI.out.1 HI.out.2) ?c1 ?c2 ?_)
                case c1 => simp; omega
                case c2 => have := HBZ.out.size; simp; omega
                intro v3 w3 ho3 hg3
                have hB3 := ((below_drewNr HBZ.out nq).alloc (by have := HBZ.out.size; simp; omega) _).grown hg3 (by have := HBZ.out.size; simp; omega) (fun j hj => (HOO.out.1.lt j hj).1)
                go_wp2
                go_roundw
                case rel =>
                  refine ⟨k + 1, by omega, by go_num, O ++ [(x1, x2)], ho3, ?_, fun c => ?_, by simp; omega, fun o p e j h1 h2 => ?_, hB3⟩
                  · rw [HO0.out]; exact one_right (x1, x2) HF.out
                  · rw [has_append, HPO.out, HSP.out, has_append]
                  · have e2 := (List.append_inj_right' e rfl)
                    have e3 : (x1, x2) = p := by simpa using e2
                    rw [← e3]
                    have h3 := sorted_le HS.out k j h1 (by omega)
                    rw [HXE.out] at h3
                    exact h3
                case measure => simp [intOf]; omega
              · go_wp2_with fail
                go_big_quiet (fail)
                go_wp2_with (at_builtin; refine append_rgs rfl (.tmp 108) (.tmp 113) rfl wm.heap.size _ O rfl ((HOO.out.below (below_drewNr (Below.refl _ wr) _)).below ((Below.refl _ _).alloc (Nat.le_refl _) _)) (some ⟨(wr.drewN nq).heap.size, 0, none⟩) 1 1 [(x1, x2)] (by simp; rfl) (rgs_new (wr.drewN nq) x1 x2 HI.out.1 HI.out.2) ?c1 ?c2 ?_)
                case c1 => simp; omega
                case c2 => have := HBZ.out.size; simp; omega
                intro v3 w3 ho3 hg3
                have hB3 := ((below_drewNr HBZ.out nq).alloc (by have := HBZ.out.size; simp; omega) _).grown hg3 (by have := HBZ.out.size; simp; omega) (fun j hj => (HOO.out.1.lt j hj).1)
                go_wp2
                go_roundw
                case rel =>
                  refine ⟨k + 1, by omega, by go_num, O ++ [(x1, x2)], ho3, ?_, fun c => ?_, by simp; omega, fun o p e j h1 h2 => ?_, hB3⟩
                  · rw [HO0.out]; exact one_right (x1, x2) HF.out
                  · rw [has_append, HPO.out, HSP.out, has_append]
                  · have e2 := (List.append_inj_right' e rfl)
                    have e3 : (x1, x2) = p := by simpa using e2
                    rw [← e3]
                    have h3 := sorted_le HS.out k j h1 (by omega)
                    rw [HXE.out] at h3
                    exact h3
                case measure => simp [intOf]; omega
            · obtain ⟨o, p, hop⟩ : ∃ o p, O = o ++ [p] := by
                rcases List.eq_nil_or_concat O with h1 | ⟨o, p, h1⟩
                · exact absurd h1 hO0
                · exact ⟨o, p, by rw [h1]; simp⟩
              obtain ⟨p1, p2⟩ := p
              have hfp := right_fit O 0 (Int.le_refl _) HRO.out (p1, p2) (by rw [hop]; simp)
              have hle := HLO.out o (p1, p2) hop k hkl (Nat.le_refl _)
              rw [HXE.out] at hle
              simp only at hle
              have hol : O.length = o.length + 1 := by rw [hop]; simp
              have HOP := Lib.hid hop
              unfold Fit at hfp
              simp only at hfp
              rcases own_slice2 HOO.out.1 with ⟨rfl, h0⟩ | ⟨go, co, rfl, hOc, hom, hBgo⟩
              · omega
              obtain ⟨q, hq⟩ : ∃ q, o.length = q := ⟨_, rfl⟩
              rw [hq] at hol
              have HQ := Lib.hid hq
              have HOO' := Lib.hid (show OwnR wr wm.heap.size (.slice (some ⟨go, 0, none⟩) (q + 1) co) O from by rw [← hol]; exact HOO.out)
              have hpc : wr.cell? ⟨go, q * 2 + 1, none⟩ = some (.int .i32 p2) := by
                have h1 := (cellsR_at O q (by omega)).2
                have h2 : O[q]? = some (p1, p2) := by rw [hop, ← hq]; simp
                rw [List.getElem?_eq_getElem (by omega)] at h2
                rw [Option.some.inj h2] at h1
                have h3 := HOO.out.1.cells (g := go) rfl _ _ h1
                have a1 : ∀ j, (⟨go, 0, none⟩ : Addr).add j = ⟨go, 0 + j, none⟩ := fun j => by unfold Addr.add; split <;> simp_all
                rw [a1, Nat.zero_add] at h3
                exact h3
              have hfr := HOO.out.1.frozenAt (q * 2 + 1)
              have hst := HOO.out.1.stored (q * 2 + 1) (.int .i32 (max p2 x2))
              have HST := Lib.hid hst
              clear hop hq hO0 hst
              have hqz : (0 : Int) < (q : Int) + 1 := by omega
              have dqz : decide ((0 : Int) < (q : Int) + 1) = true := decide_eq_true hqz
              by_cases hjx : x1 ≤ p2 + 1
              · have djx : decide (x1 ≤ p2 + 1) = true := decide_eq_true hjx
                obtain ⟨z, hz⟩ : ∃ z : Int, (if p2 < x2 then x2 else p2) = z := ⟨_, rfl⟩
                have hb0 : (0 : Int) ≤ (q : Int) := by omega
                have hb1 : (q : Int) < (q : Int) + 1 := by omega
                have hb2 : (0 : Int) ≤ (k : Int) := by omega
                have hb3 : (k : Int) < (S.length : Int) := by omega
                have hb4 : ¬ ((q : Int) + 1 ≤ (q : Int)) := by omega
                have hb5 : ¬ ((S.length : Int) ≤ (k : Int)) := by omega
                have hb6 : IntKind.i64.wrap (q : Int) = (q : Int) := wrap_nat q (by omega)
                go_wp2_with fail
                go_big_quiet (fail)
                go_wp2_with fail
                go_region
                all_goals
                  go_wp2
                  go_roundw
                  case rel =>
                    have hz' : z = max p2 x2 := by rw [← hz]; split <;> omega
                    have hown := ((HOO.out.below (below_drewNr (Below.refl _ wr) (nq + 1))).1.stored (q * 2 + 1) (.int .i32 z)).1
                    have hcs := cellsR_set o (p1, p2) z
                    rw [HQ.out, ← HOP.out] at hcs
                    rw [hcs, hol] at hown
                    have hO2 : OwnR ((wr.drewN (nq + 1)).setCell ⟨go, q * 2 + 1, none⟩ (.int .i32 z)) wm.heap.size (.slice (some ⟨go, 0, none⟩) (q + 1) co) (o ++ [(p1, z)]) := by
                      refine ⟨?_, fun r hr => ?_⟩
                      · have hl2 : (o ++ [(p1, z)]).length = q + 1 := by rw [List.length_append, HQ.out]; rfl
                        rw [hl2]
                        exact hown
                      · rcases List.mem_append.1 hr with hr | hr
                        · exact HOO.out.2 r (by rw [HOP.out]; exact List.mem_append_left _ hr)
                        · rw [List.mem_singleton.1 hr]
                          have h1 := HOO.out.2 (p1, p2) (by rw [HOP.out]; simp)
                          have h2 := HI.out
                          unfold I32 at *
                          simp only at *
                          omega
                    have h1 := HRO.out
                    rw [HOP.out] at h1
                    refine ⟨k + 1, by omega, by go_num, o ++ [(p1, z)], hO2, ?_, fun c => ?_, by rw [List.length_append, HQ.out]; simp; omega, fun o2 p2' e j h2 h3 => ?_, ?_⟩
                    · rw [hz']
                      exact join_right o (p1, p2) (x1, x2) h1 HF.out
                    · have hj := join_has o (p1, p2) (x1, x2) hle hjx c
                      rw [hz', hj, ← HOP.out, HPO.out, HSP.out, has_append]
                    · have e2 := (List.append_inj_right' e rfl)
                      have e3 : (p1, z) = p2' := by simpa using e2
                      rw [← e3]
                      exact HLO.out o (p1, p2) HOP.out j h2 (by omega)
                    · exact (below_drewNr HBZ.out (nq + 1)).setCell hBgo _
                  case measure => simp [intOf]; omega
              · have djx : decide (x1 ≤ p2 + 1) = false := decide_eq_false hjx
                go_wp2_with fail
                go_big_quiet (fail)
                clear hpc hfr dqz
                go_wp2_with (at_builtin; refine append_rgs rfl (.tmp 108) (.tmp 113) rfl wm.heap.size _ O rfl ((HOO'.out.below (below_drewNr (Below.refl _ wr) _)).below ((Below.refl _ _).alloc (Nat.le_refl _) _)) (some ⟨(wr.drewN nq).heap.size, 0, none⟩) 1 1 [(x1, x2)] (by simp; rfl) (rgs_new (wr.drewN nq) x1 x2 HI.out.1 HI.out.2) ?c1 ?c2 ?_)
                case c1 => simp; omega
                case c2 => have := HBZ.out.size; simp; omega
                intro v3 w3 ho3 hg3
                have hB3 := ((below_drewNr HBZ.out nq).alloc (by have := HBZ.out.size; simp; omega) _).grown hg3 (by have := HBZ.out.size; simp; omega) (fun j hj => (HOO'.out.1.lt j hj).1)
                go_wp2
                go_roundw
                case rel =>
                  refine ⟨k + 1, by omega, by go_num, O ++ [(x1, x2)], ho3, ?_, fun c => ?_, by simp; omega, fun o p e j h1 h2 => ?_, hB3⟩
                  · rw [HOP.out]
                    have h1 := HRO.out
                    rw [HOP.out] at h1
                    exact put_right o (p1, p2) (x1, x2) h1 HF.out (by show p2 + 1 < x1; omega)
                  · rw [has_append, HPO.out, HSP.out, has_append]
                  · have e2 := (List.append_inj_right' e rfl)
                    have e3 : (x1, x2) = p := by simpa using e2
                    rw [← e3]
                    have h3 := sorted_le HS.out k j h1 (by omega)
                    rw [HXE.out] at h3
                    exact h3
                case measure => simp [intOf]; omega
          · have hkn : S.take k = S := List.take_of_length_le (by omega)
            have HK := Lib.hid hkn
            clear hkn
            go_wp2
            go_ret
            exact ⟨_, O, rfl, HOO.out.mono HBL.out, HRO.out, fun c => by rw [HPO.out, HK.out, HPL.out], HB.out.trans (HBZ.out.mono HBL.out)⟩
end Go.Proofs.Ytnemacejaiifnaa
/- The document's Union: a fresh row of a set. -/
namespace Go.Proofs.Ytnemacejaiifnaa
open Go Go.RowKit

set_option maxHeartbeats 800000 in
set_option maxRecDepth 100000 in
theorem runion_any (va vb : Value) (a b : List (Int × Int)) (w : World) (ha : Rgs w va a) (hb : Rgs w vb b) (hn : a.length + b.length ≤ 1099511627776) :
    Calls Try.prog 139 #[va, vb] w (SetPost (fun c => HasR a c ∨ HasR b c) w) := by
  have HA := Lib.hid ha; have HB := Lib.hid hb
  obtain ⟨A, ca, rfl, -⟩ := ha
  obtain ⟨B, cb, rfl, -⟩ := hb
  go_enter Try.func139, Try.ntmps139
  go_wp2_with (at_builtin; refine append_rgs rfl (.tmp 5) (.tmp 6) rfl w.heap.size _ [] rfl (own_lit' w w.heap.size w.heap.size rfl (Nat.le_refl _)) A a.length ca a rfl (HA.out.below ((Below.refl _ w).alloc (Nat.le_refl _) _)) ?b2 ?b3 ?_)
  case b2 => simp <;> omega
  case b3 => simp
  intro v1 w1 ho1 hg1
  try simp only [List.nil_append] at ho1
  have HB1 := Lib.hid (((Below.refl _ w).alloc (Nat.le_refl _) (.cells #[] 131)).grown hg1 (by simp) (by simp [Value.ownBlock]))
  have HO1 := Lib.hid ho1
  clear ho1 hg1
  go_wp2_with (at_builtin; refine append_rgs rfl (.tmp 7) (.tmp 8) rfl w.heap.size v1 a rfl HO1.out B b.length cb b rfl (HB.out.below HB1.out) ?c2 ?c3 ?_)
  case c2 => omega
  case c3 => exact HB1.out.size
  intro v2 w2 ho2 hg2
  have HB2 := Lib.hid (HB1.out.grown hg2 HB1.out.size (fun j hj => (HO1.out.1.lt j hj).1))
  have HO2 := Lib.hid ho2
  clear ho2 hg2
  go_wp2_with fail
  refine (rnorm_any v2 (a ++ b) w2 HO2.out.rgs (by simp; omega)).mono ?_
  rintro e w3 ⟨v3, k, rfl, hO, hR, hP, hB3⟩
  have HO3 := Lib.hid hO; have HR := Lib.hid hR; have HP := Lib.hid hP; have HB3 := Lib.hid hB3
  clear hO hR hP hB3
  go_wp2
  go_ret
  exact ⟨_, k, rfl, HO3.out.mono HB2.out.size, HR.out, fun c => by rw [HP.out, has_append], HB2.out.trans (HB3.out.mono HB2.out.size)⟩

end Go.Proofs.Ytnemacejaiifnaa
/- The document's Not: a fresh row of a set. -/
namespace Go.Proofs.Ytnemacejaiifnaa
open Go Go.RowKit

/-- What Not has made behind k ranges. -/
def Loop3 (w1 : World) (K : List (Int × Int)) (k : Nat) (vo : Value) (f : Int) (wz : World) : Prop :=
  ∃ O, OwnR wz w1.heap.size vo O ∧ O ++ notFrom f (K.drop k) = notFrom 0 K ∧ RightFrom f (K.drop k) ∧ 0 ≤ f ∧ f ≤ 1114112 ∧ O.length ≤ k ∧ Below w1.heap.size w1 wz

set_option maxHeartbeats 1600000 in
set_option maxRecDepth 100000 in
theorem rnot_any (v : Value) (l : List (Int × Int)) (w : World) (h : Rgs w v l) (hn : l.length ≤ 1099511627776) :
    Calls Try.prog 138 #[v] w (SetPost (fun c => 0 ≤ c ∧ c ≤ 1114111 ∧ ¬ HasR l c) w) := by
  have HN := Lib.hid (rnorm_any v l w h hn)
  go_enter Try.func138, Try.ntmps138
  go_wp2_with fail
  refine HN.out.mono ?_
  rintro e w1 ⟨v1, K, rfl, hO, hR, hP, hB⟩
  have HO := Lib.hid hO; have HR := Lib.hid hR; have HP := Lib.hid hP; have HB := Lib.hid hB
  have hKl := right_len K 0 (by omega) hR
  clear hO hR hP hB h
  have HRG := Lib.hid HO.out.rgs
  obtain ⟨A, cA, hv1, hc1, hc2, -⟩ := HO.out.rgs
  subst hv1
  go_wp2_with fail
  go_loopw [4, 5, 6] (fun vo vf i wz => ∃ k : Nat, k ≤ K.length ∧ i = .int .i64 k ∧ ∃ f : Int, vf = .int .i32 f ∧ Loop3 w1 K k vo f wz) (fun _ _ i _ => K.length - (intOf i).toNat)
  case atStart => exact ⟨0, Nat.zero_le _, rfl, 0, rfl, [], own_none _ _, by simp, by rw [List.drop_zero]; exact HR.out, by omega, by omega, Nat.le_refl _, Below.refl _ _⟩
  case round =>
    obtain ⟨k, hk, rfl, f, rfl, O, hOO, hEq, hRf, hf0, hf1, hOk, hBz⟩ := hrel
    have HOO := Lib.hid hOO; have HEQ := Lib.hid hEq; have HRF := Lib.hid hRf; have HBZ := Lib.hid hBz
    clear hOO hEq hRf hBz
    by_cases hkl : k < K.length
    · obtain ⟨a1, cq, e, q2, q3, q4, q5, q6⟩ := HRG.out
      injection e with e1 e2 e3
      subst e1 e3
      rcases q5 with q5 | ⟨b, o, rfl, hc⟩
      · rw [q5] at hkl
        simp at hkl
      obtain ⟨x1, x2, hx, hsp, w1c, w2c⟩ := rgs_at hc k hkl
      have c1 := (HBZ.out.cell (World.block_lt_of_cell? w1 _ w1c)).trans w1c
      have c2 := (HBZ.out.cell (World.block_lt_of_cell? w1 _ w2c)).trans w2c
      have hdr : K.drop k = (x1, x2) :: K.drop (k + 1) := by
        rw [List.drop_eq_getElem_cons hkl]
        rw [List.getElem?_eq_getElem hkl] at hx
        rw [Option.some.inj hx]
      have hrf := HRF.out
      rw [hdr] at hrf
      obtain ⟨r1, r2, r3, r4⟩ := hrf
      have r1' : f ≤ x1 := r1
      have r2' : x1 ≤ x2 := r2
      have r3' : x2 ≤ 1114111 := r3
      have hq := HEQ.out
      rw [hdr] at hq
      have HQ := Lib.hid hq; have HR4 := Lib.hid (r4.le (lo' := x2 + 1) (by show x2 + 1 ≤ x2 + 2; omega)); have HW2 := Lib.hid w2c
      clear hx hsp hc hdr hq r4 q6 r1 r2 r3 w1c w2c
      by_cases hfx : f < x1
      · go_wp2_with (at_builtin; refine append_rgs rfl (.tmp 22) (.tmp 31) rfl w1.heap.size _ O rfl (HOO.out.below ((Below.refl _ _).alloc (Nat.le_refl _) _)) (some ⟨wr.heap.size, 0, none⟩) 1 1 [(f, x1 - 1)] rfl (rgs_new wr f (x1 - 1) (by unfold I32; omega) (by unfold I32; omega)) ?c3 ?c4 ?_)
        case c3 => (try simp); omega
        case c4 => (have := HBZ.out.size; (try simp); omega)
        intro v3 w3 ho3 hg3
        have HB3 := Lib.hid ((HBZ.out.alloc HBZ.out.size _).grown hg3 (by have := HBZ.out.size; simp; omega) (fun j hj => (HOO.out.1.lt j hj).1))
        have d2 := (HB3.out.cell (World.block_lt_of_cell? w1 _ HW2.out)).trans HW2.out
        have HO3 := Lib.hid ho3
        clear hg3 ho3 c1 c2
        go_wp2
        go_roundw
        case rel =>
          refine ⟨k + 1, by omega, by go_num, x2 + 1, rfl, O ++ [(f, x1 - 1)], HO3.out, ?_, HR4.out, by omega, by omega, by simp; omega, HB3.out⟩
          rw [← HQ.out, List.append_assoc]
          congr 1
          show _ = (if f < x1 then [(f, x1 - 1)] else []) ++ notFrom (x2 + 1) (K.drop (k + 1))
          rw [if_pos hfx]
        case measure => simp [intOf]; omega
      · go_wp2
        go_roundw
        case rel =>
          refine ⟨k + 1, by omega, by go_num, x2 + 1, rfl, O, HOO.out, ?_, HR4.out, by omega, by omega, by omega, HBZ.out⟩
          rw [← HQ.out]
          congr 1
          show _ = (if f < x1 then [(f, x1 - 1)] else []) ++ notFrom (x2 + 1) (K.drop (k + 1))
          rw [if_neg hfx, List.nil_append]
        case measure => simp [intOf]; omega
    · have hkn : K.drop k = [] := List.drop_eq_nil_of_le (by omega)
      have hq := HEQ.out
      rw [hkn] at hq
      have HQ := Lib.hid hq
      have hall : ∀ c, HasR (notFrom 0 K) c ↔ 0 ≤ c ∧ c ≤ 1114111 ∧ ¬ HasR l c := fun c => by rw [not_has K 0 c (Int.le_refl _) HR.out, HP.out]
      have hrn : RightR (notFrom 0 K) := not_right K 0 HR.out
      have HALL := Lib.hid hall; have HRN := Lib.hid hrn
      clear hkn hq hall hrn
      by_cases hfx : f ≤ 1114111
      · go_wp2_with (at_builtin; refine append_rgs rfl (.tmp 41) (.tmp 44) rfl w1.heap.size _ O rfl (HOO.out.below ((Below.refl _ _).alloc (Nat.le_refl _) _)) (some ⟨wr.heap.size, 0, none⟩) 1 1 [(f, 1114111)] rfl (rgs_new wr f 1114111 (by unfold I32; omega) (by unfold I32; omega)) ?c3 ?c4 ?_)
        case c3 => (try simp); omega
        case c4 => (have := HBZ.out.size; (try simp); omega)
        intro v3 w3 ho3 hg3
        have HB3 := Lib.hid ((HBZ.out.alloc HBZ.out.size _).grown hg3 (by have := HBZ.out.size; simp; omega) (fun j hj => (HOO.out.1.lt j hj).1))
        have HO3 := Lib.hid ho3
        clear hg3 ho3
        have he : O ++ [(f, 1114111)] = notFrom 0 K := by
          rw [← HQ.out]
          congr 1
          show _ = if f ≤ 1114111 then [(f, 1114111)] else []
          rw [if_pos hfx]
        have HE := Lib.hid he
        clear he
        go_wp2
        go_ret
        exact ⟨_, notFrom 0 K, rfl, (HE.out ▸ HO3.out).mono HB.out.size, HRN.out, HALL.out, HB.out.trans (HB3.out.mono HB.out.size)⟩
      · have he : O = notFrom 0 K := by
          rw [← HQ.out]
          show _ = O ++ (if f ≤ 1114111 then [(f, 1114111)] else [])
          rw [if_neg hfx, List.append_nil]
        have HE := Lib.hid he
        clear he
        go_wp2
        go_ret
        exact ⟨_, notFrom 0 K, rfl, (HE.out ▸ HOO.out).mono HB.out.size, HRN.out, HALL.out, HB.out.trans (HBZ.out.mono HB.out.size)⟩
end Go.Proofs.Ytnemacejaiifnaa
/- The document's Meet: a fresh row of a set. -/
namespace Go.Proofs.Ytnemacejaiifnaa
open Go Go.RowKit

set_option maxHeartbeats 800000 in
set_option maxRecDepth 100000 in
theorem rmeet_any (va vb : Value) (a b : List (Int × Int)) (w : World) (ha : Rgs w va a) (hb : Rgs w vb b) (hna : a.length ≤ 1099511627776) (hnb : b.length ≤ 1099511627776) :
    Calls Try.prog 105 #[va, vb] w (SetPost (fun c => HasR a c ∧ HasR b c) w) := by
  have HA := Lib.hid (rnot_any va a w ha hna)
  have HB := Lib.hid hb
  go_enter Try.func105, Try.ntmps105
  go_wp2_with fail
  refine HA.out.mono ?_
  rintro e w1 ⟨v1, K, rfl, hO, hR, hP, hB1⟩
  have HO1 := Lib.hid hO; have HR1 := Lib.hid hR; have HP1 := Lib.hid hP; have HB1 := Lib.hid hB1
  clear hO hR hP hB1 ha hb
  go_wp2_with fail
  refine (rnot_any vb b w1 (HB.out.below HB1.out) hnb).mono ?_
  rintro e w2 ⟨v2, M, rfl, hO, hR, hP, hB2⟩
  have HO2 := Lib.hid hO; have HR2 := Lib.hid hR; have HP2 := Lib.hid hP; have HB2 := Lib.hid hB2
  clear hO hR hP hB2
  have l1 := right_len K 0 (by omega) HR1.out
  have l2 := right_len M 0 (by omega) HR2.out
  go_wp2_with fail
  refine (runion_any v1 v2 K M w2 (HO1.out.below HB2.out).rgs HO2.out.rgs (by omega)).mono ?_
  rintro e w3 ⟨v3, U, rfl, hO, hR, hP, hB3⟩
  have HO3 := Lib.hid hO; have HR3 := Lib.hid hR; have HP3 := Lib.hid hP; have HB3 := Lib.hid hB3
  clear hO hR hP hB3
  have l3 := right_len U 0 (by omega) HR3.out
  go_wp2_with fail
  refine (rnot_any v3 U w3 HO3.out.rgs (by omega)).mono ?_
  rintro e w4 ⟨v4, N, rfl, hO, hR, hP, hB4⟩
  have HO4 := Lib.hid hO; have HR4 := Lib.hid hR; have HP4 := Lib.hid hP; have HB4 := Lib.hid hB4
  clear hO hR hP hB4
  have HT := Lib.hid (HB1.out.trans ((HB2.out.trans (HB3.out.mono HB2.out.size)).mono HB1.out.size))
  go_wp2
  go_ret
  refine ⟨_, N, rfl, HO4.out.mono HT.out.size, HR4.out, fun c => ?_, HT.out.trans (HB4.out.mono HT.out.size)⟩
  rw [HP4.out, HP3.out, HP1.out, HP2.out]
  constructor
  · rintro ⟨h1, h2, h3⟩
    exact ⟨Classical.byContradiction fun h => h3 (.inl ⟨h1, h2, h⟩), Classical.byContradiction fun h => h3 (.inr ⟨h1, h2, h⟩)⟩
  · rintro ⟨h1, h2⟩
    refine ⟨h1.1, h1.2.1, ?_⟩
    rintro (⟨_, _, h⟩ | ⟨_, _, h⟩)
    · exact h h1
    · exact h h2
end Go.Proofs.Ytnemacejaiifnaa
