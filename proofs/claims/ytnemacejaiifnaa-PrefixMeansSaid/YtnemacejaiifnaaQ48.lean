/- Texts merged by program: DnLoops, DnGreat. No condition. -/
import Derived.Test.YtnemacejaiifnaaQ22
import Derived.Test.YtnemacejaiifnaaQ4
import Derived.Deep.RegionLaw
import Derived.BigQuiet
import Derived.Deep.Cut
set_option linter.unusedVariables false
/- How many repeats lie within one another: the laws' loops. No condition. -/
namespace Go.Proofs.Ytnemacejaiifnaa
open Go Go.RowKit

/-- Is it a repeat that is counted? -/
def isLoop (op : Int) : Nat := if 7 ≤ op ∧ op ≤ 10 ∧ op ≠ 9 then 1 else 0
def loopsR : Tr → Nat := Tr.para fun t l => maxL l + isLoop t.fld.op
theorem loopsR_eq (t : Tr) : loopsR t = maxL (t.kids.map loopsR) + isLoop t.fld.op := Tr.para_eq _ t
theorem loopsR_parts (t : Tr) : loopsR t ≤ partsR t := by
  refine Tr.ind (P := fun t => loopsR t ≤ partsR t) (fun t ih => ?_) t
  rw [loopsR_eq, partsR_eq]
  have h1 : maxL (t.kids.map loopsR) ≤ (t.kids.map partsR).sum := maxL_le fun x hx => by
    obtain ⟨k, hk, rfl⟩ := List.mem_map.1 hx
    exact Nat.le_trans (ih k hk) (sum_mem_le (List.mem_map_of_mem hk))
  have h2 : isLoop t.fld.op ≤ 1 := by unfold isLoop; split <;> omega
  omega
def LoopsOf (t : Tr) : Prop := partsR t ≤ 10000000000 → ∀ (v : Value) (w : World), Tre w t v → Calls Try.prog 31 #[v] w (SaysN (loopsR t) w)
theorem maxL_take {l : List Nat} {k : Nat} (hk : k < l.length) : maxL (l.take (k + 1)) = max (maxL (l.take k)) l[k] := by
  rw [List.take_succ_eq_append_getElem hk, maxL_append]
  simp [maxL]

set_option maxHeartbeats 1600000 in
set_option maxRecDepth 100000 in
theorem loops_any (t : Tr) : LoopsOf t := by
  refine Tr.ind (P := LoopsOf) (fun t ih hp v w h => ?_) t
  have IH : Hid (∀ k ∈ t.kids, ∀ (v : Value) (w : World), Tre w k v → Calls Try.prog 31 #[v] w (SaysN (loopsR k) w)) := Lib.hid fun k hk => ih k hk (by have := partsR_kid hk; omega)
  have HBD : Hid (∀ k ∈ t.kids, loopsR k ≤ 10000000000) := Lib.hid fun k hk => by have := partsR_kid hk; have := loopsR_parts k; omega
  have HBT : Hid (∀ k, maxL ((t.kids.map loopsR).take k) ≤ 10000000000) := Lib.hid fun k => maxL_le fun x hx => by
    obtain ⟨y, hy, rfl⟩ := List.mem_map.1 (List.mem_of_mem_take hx)
    exact HBD.out y hy
  have HLE := Lib.hid (loopsR_eq t)
  obtain ⟨A, n, c, a2, s, c2, hn, hs, rfl, hnb, hsb, hK, hS, hF⟩ := h.opened
  obtain ⟨w1, hw1⟩ : ∃ w1, w.alloc (.cells #[.int .i64 t.fld.op, .slice A n c, .int .i32 t.fld.rune, .slice a2 s c2, .int .i64 t.fld.at', .int .i64 t.fld.cap, .string t.fld.name, .int .i64 t.fld.min, .int .i64 t.fld.max, .bool t.fld.lazy] 27) = w1 := ⟨_, rfl⟩
  have hb1 : Below w.heap.size w w1 := by rw [← hw1]; exact (Below.refl _ _).alloc (Nat.le_refl _) _
  have hE1 : Box10 w1 w.heap.size (.int .i64 t.fld.op) (.slice A n c) (.int .i32 t.fld.rune) (.slice a2 s c2) (.int .i64 t.fld.at') (.int .i64 t.fld.cap) (.string t.fld.name) (.int .i64 t.fld.min) (.int .i64 t.fld.max) (.bool t.fld.lazy) := by rw [← hw1]; exact box10_new w _ _ _ _ _ _ _ _ _ _ _
  have HB1 := Lib.hid hb1; have HE1 := Lib.hid hE1; have HW1 := Lib.hid hw1; have HK := Lib.hid (hK.below hb1); have HN := Lib.hid hn
  obtain ⟨op, hop⟩ : ∃ o, t.fld.op = o := ⟨_, rfl⟩
  rw [hop] at HE1 HW1 HLE ⊢
  clear hb1 hE1 hw1 hK hS hn hs hF h ih hp hop
  go_enter Try.func31, Try.ntmps31
  go_upto_region 1 with (fail)
  rw [HW1.out]
  go_wp2_with fail
  go_loopw [3, 4] (fun nn i wr => ∃ k : Nat, k ≤ n ∧ i = .int .i64 k ∧ nn = .int .i64 (maxL ((t.kids.map loopsR).take k) : Nat) ∧ Below w1.heap.size w1 wr) (fun _ i _ => n - (intOf i).toNat)
  case atStart => exact ⟨0, Nat.zero_le _, rfl, rfl, Below.refl _ _⟩
  case round =>
    obtain ⟨k, hk, rfl, rfl, hB⟩ := hrel
    have HB := Lib.hid hB
    obtain ⟨d0, d1, -, -, -, -, -, d7, d8, -⟩ := HE1.out.below hB
    have hKw := HK.out.below hB
    have hSle := HBT.out k
    clear hB
    by_cases hkn : k < n
    · have hkl : k < t.kids.length := by rw [HN.out]; exact hkn
      have hnx := maxL_take (l := t.kids.map loopsR) (k := k) (by simpa using hkl)
      rw [List.getElem_map] at hnx
      obtain ⟨b, o, tk, kv, sv, rfl, htk, hm, ⟨c0, c1, c2', c3, c4, c5, c6, c7, c8, c9⟩, hTk⟩ := hKw.kid k hkl
      have hwk := HBD.out tk hm
      rw [htk] at hnx
      have HI := Lib.hid (IH.out tk hm _ _ hTk); have HNX := Lib.hid hnx
      obtain ⟨D, hD⟩ : ∃ D, maxL ((t.kids.map loopsR).take k) = D := ⟨_, rfl⟩
      rw [hD] at hSle HNX ⊢
      clear hKw htk hm hTk hnx hD
      go_wp2_with fail
      refine HI.out.mono ?_
      rintro e w2 ⟨rfl, hb2⟩
      have HB2 := Lib.hid (below_two HB.out hb2)
      clear hb2 c0 c1 c2' c3 c4 c5 c6 c7 c8 c9
      obtain ⟨E, hE⟩ : ∃ E, loopsR tk = E := ⟨_, rfl⟩
      rw [hE] at hwk HNX ⊢
      clear hE
      by_cases hDE : D ≤ E
      · have e1 : max D E = E := by omega
        have e2 : max (D : Int) (E : Int) = (E : Int) := by omega
        have e3 : ((D : Int) ≤ (E : Int)) := by omega
        go_wp2_with fail
        all_goals exact ⟨⟨k + 1, by omega, by go_num, by rw [HNX.out]; first | rfl | (congr 2; omega), HB2.out⟩, by simp only [intOf]; omega⟩
      · have e1 : max D E = D := by omega
        have e2 : max (D : Int) (E : Int) = (D : Int) := by omega
        have e3 : ¬ ((D : Int) ≤ (E : Int)) := by omega
        go_wp2_with fail
        all_goals exact ⟨⟨k + 1, by omega, by go_num, by rw [HNX.out]; first | rfl | (congr 2; omega), HB2.out⟩, by simp only [intOf]; omega⟩
    · have hk2 : (t.kids.map loopsR).take k = t.kids.map loopsR := List.take_of_length_le (by rw [List.length_map, HN.out]; omega)
      have hle := HLE.out
      rw [← hk2] at hle
      obtain ⟨D, hD⟩ : ∃ D, maxL ((t.kids.map loopsR).take k) = D := ⟨_, rfl⟩
      rw [hD] at hle hSle ⊢
      have HQ := Lib.hid hle
      have HBT := Lib.hid (below_two HB1.out HB.out)
      clear hk2 hle hKw hD
      by_cases h7 : op < 7
      · have hl : isLoop op = 0 := by unfold isLoop; rw [if_neg (by omega)]
        have e1 : decide (7 ≤ op) = false := decide_eq_false (by omega)
        have HL := Lib.hid hl
        clear hl
        go_wp2_with fail
        go_ret
        exact ⟨by rw [HQ.out, HL.out]; rfl, HBT.out⟩
      have e1 : decide (7 ≤ op) = true := decide_eq_true (by omega)
      by_cases h10 : 10 < op
      · have hl : isLoop op = 0 := by unfold isLoop; rw [if_neg (by omega)]
        have e2 : decide (op ≤ 10) = false := decide_eq_false (by omega)
        have HL := Lib.hid hl
        clear hl
        go_wp2_with fail
        go_ret
        exact ⟨by rw [HQ.out, HL.out]; rfl, HBT.out⟩
      have e2 : decide (op ≤ 10) = true := decide_eq_true (by omega)
      by_cases h9 : op = 9
      · have HL : Hid (isLoop op = 0) := Lib.hid (by unfold isLoop; rw [if_neg (by omega)])
        subst h9
        go_wp2_with fail
        go_ret
        exact ⟨by rw [HQ.out, HL.out]; rfl, HBT.out⟩
      · have HL : Hid (isLoop op = 1) := Lib.hid (by unfold isLoop; rw [if_pos (by omega)])
        have e3 : (op != 9) = true := by simp [h9]
        go_wp2_with fail
        go_ret
        exact ⟨by rw [HQ.out, HL.out]; first | rfl | (congr 2; omega), HBT.out⟩
end Go.Proofs.Ytnemacejaiifnaa
/- Is a tree, over a text, so great that the laws leave it out? No condition. -/
namespace Go.Proofs.Ytnemacejaiifnaa
open Go Go.RowKit

/-- Great answers; no: then the text, the tree, its weight are small. -/
def GreatPost (n : Nat) (t : Tr) (w : World) (e : Ending) (w' : World) : Prop := ∃ B : Bool, e = .returned (.bool B) ∧ (B = false → n ≤ 60 ∧ partsR t ≤ 120 ∧ weightR t ≤ 300) ∧ Below w.heap.size w w'

set_option maxHeartbeats 1600000 in
set_option maxRecDepth 100000 in
theorem great_any (w : World) (v : Value) (t : Tr) (h : Tre w t v) (A : Option Addr) (n c : Nat) (hnc : n ≤ 9223372036854775807) : Calls Try.prog 11 #[v, .slice A n c] w (GreatPost n t w) := by
  have h0 := h
  obtain ⟨A1, n1, c1, a2, s, c2, hn, hs, rfl, hnb, hsb, hK, hS, hF⟩ := h.opened
  obtain ⟨w1, hw1⟩ : ∃ w1, w.alloc (.cells #[.int .i64 t.fld.op, .slice A1 n1 c1, .int .i32 t.fld.rune, .slice a2 s c2, .int .i64 t.fld.at', .int .i64 t.fld.cap, .string t.fld.name, .int .i64 t.fld.min, .int .i64 t.fld.max, .bool t.fld.lazy] 27) = w1 := ⟨_, rfl⟩
  have hb1 : Below w.heap.size w w1 := by rw [← hw1]; exact (Below.refl _ _).alloc (Nat.le_refl _) _
  have hE1 : Box10 w1 w.heap.size (.int .i64 t.fld.op) (.slice A1 n1 c1) (.int .i32 t.fld.rune) (.slice a2 s c2) (.int .i64 t.fld.at') (.int .i64 t.fld.cap) (.string t.fld.name) (.int .i64 t.fld.min) (.int .i64 t.fld.max) (.bool t.fld.lazy) := by rw [← hw1]; exact box10_new w _ _ _ _ _ _ _ _ _ _ _
  have HW1 := Lib.hid hw1; have HT := Lib.hid hb1; have HE := Lib.hid hE1; have H0 := Lib.hid (h0.below hb1)
  obtain ⟨f, hf⟩ : ∃ f, t.fld = f := ⟨_, rfl⟩
  rw [hf] at HW1 HE H0 ⊢
  clear hb1 hE1 hw1 hK hS hn hs hF h h0 hf
  go_enter Try.func11, Try.ntmps11
  go_upto_region 1 with (fail)
  rw [HW1.out]
  clear HW1
  by_cases h60 : 60 < n
  · have hz : decide ((60 : Int) < (n : Int)) = true := decide_eq_true (by omega)
    go_wp2_with fail
    go_ret
    exact ⟨true, rfl, fun e => by simp at e, HT.out⟩
  have hz : decide ((60 : Int) < (n : Int)) = false := decide_eq_false (by omega)
  obtain ⟨b0, b1, b2, b3, b4, b5, b6, b7, b8, b9⟩ := HE.out
  have HPA := Lib.hid (parts_any 120 (by omega) t _ w1 H0.out)
  by_cases hpp : 120 < partsR t
  · go_wp2_with fail
    refine HPA.out.mono ?_
    rintro e w2 ⟨r, rfl, hr1, hr2, hr3, hb⟩
    replace HT := Lib.hid (HT.out.trans (hb.mono HT.out.size))
    have hr : 120 < r := hr2 hpp
    have hz2 : decide ((120 : Int) < (r : Int)) = true := decide_eq_true (by omega)
    clear hb hr1 hr2 hr3 b0 b1 b2 b3 b4 b5 b6 b7 b8 b9
    go_wp2_with fail
    go_ret
    exact ⟨true, rfl, fun e => by simp at e, HT.out⟩
  have HPP := Lib.hid hpp
  have HWE : Hid (∀ W, Below w1.heap.size w1 W → Calls Try.prog 30 #[.agg #[.int .i64 f.op, .slice A1 n1 c1, .int .i32 f.rune, .slice a2 s c2, .int .i64 f.at', .int .i64 f.cap, .string f.name, .int .i64 f.min, .int .i64 f.max, .bool f.lazy]] W (SaysN (weightR t) W)) := Lib.hid fun W hW => weight_any t _ W (H0.out.below hW)
  have HLO : Hid (∀ W, Below w1.heap.size w1 W → Calls Try.prog 31 #[.agg #[.int .i64 f.op, .slice A1 n1 c1, .int .i32 f.rune, .slice a2 s c2, .int .i64 f.at', .int .i64 f.cap, .string f.name, .int .i64 f.min, .int .i64 f.max, .bool f.lazy]] W (SaysN (loopsR t) W)) := Lib.hid fun W hW => loops_any t (by omega) _ W (H0.out.below hW)
  have hll : loopsR t ≤ 120 := Nat.le_trans (loopsR_parts t) (by omega)
  obtain ⟨L, hL⟩ : ∃ L, loopsR t = L := ⟨_, rfl⟩
  have hwl := weightN_le t.fld t.kids.length (clipR (t.kids.map weightR).sum)
  rw [← weightR_eq] at hwl
  obtain ⟨G, hG⟩ : ∃ G, weightR t = G := ⟨_, rfl⟩
  have HGG := Lib.hid hG
  rw [hL] at HLO hll
  rw [hG] at HWE hwl
  clear hL hG hpp
  have step1 : Hid (∀ (r : Nat), (120 < partsR t → 120 < r) → (partsR t ≤ 120 → r = partsR t) → r ≤ 120) := Lib.hid fun r _ h2 => by have := HPP.out; have := h2 (by omega); omega
  go_wp2_with fail
  refine HPA.out.mono ?_
  rintro e w2 ⟨r, rfl, hr1, hr2, hr3, hb⟩
  have hr : r ≤ 120 := step1.out r hr2 hr1
  have hz2 : decide ((120 : Int) < (r : Int)) = false := decide_eq_false (by omega)
  have HB2 := Lib.hid hb
  replace HE := Lib.hid (HE.out.below hb)
  clear hr1 hr2 hr3 hb b0 b1 b2 b3 b4 b5 b6 b7 b8 b9
  obtain ⟨b0, b1, b2, b3, b4, b5, b6, b7, b8, b9⟩ := HE.out
  go_wp2_with fail
  refine (HWE.out w2 HB2.out).mono ?_
  rintro e w3 ⟨rfl, hb⟩
  have HB3 := Lib.hid (HB2.out.trans (hb.mono HB2.out.size))
  replace HE := Lib.hid (HE.out.below hb)
  clear hb b0 b1 b2 b3 b4 b5 b6 b7 b8 b9
  by_cases h300 : 300 < G
  · have hz3 : decide ((300 : Int) < (G : Int)) = true := decide_eq_true (by omega)
    go_wp2_with fail
    go_ret
    exact ⟨true, rfl, fun e => by simp at e, HT.out.trans (HB3.out.mono HT.out.size)⟩
  have hz3 : decide ((300 : Int) < (G : Int)) = false := decide_eq_false (by omega)
  have HSM : Hid (n ≤ 60 ∧ partsR t ≤ 120 ∧ weightR t ≤ 300) := Lib.hid ⟨by omega, by have := HPP.out; omega, by rw [HGG.out]; omega⟩
  have hn60 : n ≤ 60 := by omega
  clear hz hz2 h300 h60 hr hwl HPA HWE step1
  go_wp2_with fail
  clear hz3
  go_loopw [5, 6] (fun x i wr => ∃ (k d : Nat), k ≤ L ∧ i = .int .i64 (k : Int) ∧ x = .int .i64 (d : Int) ∧ d ≤ 400000 ∧ Below w3.heap.size w3 wr) (fun _ i _ => L - (intOf i).toNat)
  case atStart => exact ⟨0, 1, by omega, rfl, rfl, by omega, Below.refl _ _⟩
  case round =>
    obtain ⟨k, d, hk, rfl, rfl, hd, hbr⟩ := hrel
    have HBR := Lib.hid hbr
    obtain ⟨b0, b1, b2, b3, b4, b5, b6, b7, b8, b9⟩ := HE.out.below hbr
    have HLC := Lib.hid (HLO.out wr (HB3.out.trans (hbr.mono HB3.out.size)))
    clear hbr
    by_cases hkL : k < L ∧ d < 200000
    · have hz1 : decide ((k : Int) < (L : Int)) = true := decide_eq_true (by omega)
      have hz2 : decide ((d : Int) < 200000) = true := decide_eq_true (by omega)
      have hkl := hkL.1
      clear hkL
      go_wp2_with fail
      refine HLC.out.mono ?_
      rintro e w4 ⟨rfl, hb4⟩
      have HB4 := Lib.hid (HBR.out.trans (hb4.mono HBR.out.size))
      clear hb4 b0 b1 b2 b3 b4 b5 b6 b7 b8 b9
      go_wp2_with fail
      go_loopw [5, 7] (fun x i wr => ∃ (m d : Nat), m ≤ n ∧ i = .int .i64 (m : Int) ∧ x = .int .i64 (d : Int) ∧ d ≤ 400000 ∧ wr = w4) (fun _ i _ => n - (intOf i).toNat)
      case atStart => exact ⟨0, d, by omega, rfl, rfl, by omega, rfl⟩
      case round =>
        obtain ⟨m, d, hm, rfl, rfl, hd, rfl⟩ := hrel
        by_cases hmn : m < n ∧ d < 200000
        · have hy1 : decide ((m : Int) < (n : Int)) = true := decide_eq_true (by omega)
          have hy2 : decide ((d : Int) < 200000) = true := decide_eq_true (by omega)
          have hml := hmn.1
          have hdl := hmn.2
          clear hmn
          go_wp2_with fail
          exact ⟨⟨m + 1, d * 2, by omega, by go_num, by go_num, by omega, by first | rfl | trivial⟩, by simp only [intOf]; omega⟩
        · by_cases hm1 : m < n
          · have hy1 : decide ((m : Int) < (n : Int)) = true := decide_eq_true (by omega)
            have hy2 : decide ((d : Int) < 200000) = false := decide_eq_false (by omega)
            clear hmn
            go_wp2_with fail
            exact ⟨⟨k + 1, d, by omega, by go_num, rfl, hd, HB4.out⟩, by simp only [intOf]; omega⟩
          · have hy1 : decide ((m : Int) < (n : Int)) = false := decide_eq_false (by omega)
            clear hmn
            go_wp2_with fail
            exact ⟨⟨k + 1, d, by omega, by go_num, rfl, hd, HB4.out⟩, by simp only [intOf]; omega⟩
    · by_cases hk1 : k < L
      · have hz1 : decide ((k : Int) < (L : Int)) = true := decide_eq_true (by omega)
        have hz2 : decide ((d : Int) < 200000) = false := decide_eq_false (by omega)
        clear hkL
        go_wp2_with fail
        refine HLC.out.mono ?_
        rintro e w4 ⟨rfl, hb4⟩
        have HB4 := Lib.hid (HT.out.trans ((HB3.out.trans ((HBR.out.trans (hb4.mono HBR.out.size)).mono HB3.out.size)).mono HT.out.size))
        clear hb4 b0 b1 b2 b3 b4 b5 b6 b7 b8 b9
        go_wp2_with fail
        go_ret
        exact ⟨_, rfl, fun _ => HSM.out, HB4.out⟩
      · have hz1 : decide ((k : Int) < (L : Int)) = false := decide_eq_false (by omega)
        clear hkL
        go_wp2_with fail
        refine HLC.out.mono ?_
        rintro e w4 ⟨rfl, hb4⟩
        have HB4 := Lib.hid (HT.out.trans ((HB3.out.trans ((HBR.out.trans (hb4.mono HBR.out.size)).mono HB3.out.size)).mono HT.out.size))
        clear hb4 b0 b1 b2 b3 b4 b5 b6 b7 b8 b9
        go_wp2_with fail
        go_ret
        exact ⟨_, rfl, fun _ => HSM.out, HB4.out⟩
end Go.Proofs.Ytnemacejaiifnaa
