/- Are two lists of ints, of runes, the same; has a program too many instructions. -/
import Derived.Test.YtlkbdbijlnjjbaaPgIn
import Derived.Deep.QuietTactic
import Derived.BigQuiet
import Derived.Deep.DeepCutAuto
import Derived.Deep.RegionHeld3
import Derived.Deep.RegionWith
set_option linter.unusedVariables false
namespace Go.Proofs.Ytlkbdbijlnjjbaa
open Go Go.RowKit

set_option maxHeartbeats 1600000 in
set_option maxRecDepth 100000 in
theorem zsame_any (v u : Value) (l k : List Int) (w : World) (h : Zs w v l) (g : Zs w u k) :
    Calls Try.prog 16 #[v, u] w (Says (l = k) w) := by
  obtain ⟨a, c, rfl, h2, h3, h4, h5, h6⟩ := h
  obtain ⟨a', c', rfl, g2, g3, g4, g5, g6⟩ := g
  have hlen : l.length ≤ 9223372036854775807 := by unfold maxLen at h3; omega
  have hlen' : k.length ≤ 9223372036854775807 := by unfold maxLen at g3; omega
  have H5 := Lib.hid h5; have G5 := Lib.hid g5
  clear h5 h6 h4 h2 h3 g5 g6 g4 g2 g3
  go_enter Try.func16, Try.ntmps16
  by_cases hk : l.length = k.length
  · have HK := Lib.hid hk
    rw [← hk]
    clear hk
    go_wp2
    go_loopw [5] (fun i wr => ∃ m : Nat, m ≤ l.length ∧ i = .int .i64 m ∧ (∃ q, wr = w.drewN q) ∧ l.take m = k.take m) (fun i _ => l.length - (intOf i).toNat)
    case atStart => exact ⟨0, Nat.zero_le _, rfl, ⟨0, rfl⟩, rfl⟩
    case round =>
      obtain ⟨m, hm, rfl, ⟨q, rfl⟩, hR⟩ := hrel
      have HR := Lib.hid hR
      clear hR
      by_cases hlt : m < l.length
      · have hltk : m < k.length := by rw [← HK.out]; exact hlt
        rcases H5.out with h5 | ⟨b, o, rfl, hc⟩
        · rw [h5] at hlt
          simp at hlt
        rcases G5.out with g5 | ⟨b', o', rfl, hc'⟩
        · rw [g5] at hltk
          simp at hltk
        obtain ⟨y1, hy⟩ : ∃ y, l[m] = y := ⟨_, rfl⟩
        obtain ⟨z1, hz⟩ : ∃ y, k[m] = y := ⟨_, rfl⟩
        have c1 := hc m hlt
        have d1 := hc' m hltk
        rw [hy] at c1
        rw [hz] at d1
        have hsp : l.take (m + 1) = l.take m ++ [y1] := by rw [List.take_succ_eq_append_getElem hlt, hy]
        have hsk : k.take (m + 1) = k.take m ++ [z1] := by rw [List.take_succ_eq_append_getElem hltk, hz]
        have hne : y1 ≠ z1 → l ≠ k := fun h e => h (by subst e; rw [← hy, ← hz])
        have HS := Lib.hid hsp; have HT := Lib.hid hsk; have HN := Lib.hid hne
        clear hsp hsk hne hc hc' hy hz hltk
        have hltz : (m : Int) < (l.length : Int) := by omega
        by_cases q1 : y1 = z1
        · subst q1
          go_wp2_with fail
          go_big_quiet (fail)
          go_wp2
          go_roundw
          case rel => exact ⟨m + 1, by omega, by go_num, ⟨_, by first | with_reducible rfl | exact World.drewN_drewN _ _ _⟩, by rw [HS.out, HT.out, HR.out]⟩
          case measure => simp [intOf]; omega
        · go_wp2_with fail
          go_big_quiet (fail)
          go_wp2
          go_ret
          refine ⟨false, rfl, ?_, ⟨_, World.drewN_drewN _ _ _⟩⟩
          have := HN.out (by simp [q1])
          simp [this]
      · have e : l.take m = l := List.take_of_length_le (by omega)
        have e' : k.take m = k := List.take_of_length_le (by rw [← HK.out]; omega)
        have hr := HR.out
        rw [e, e'] at hr
        have HRR := Lib.hid hr
        clear hr e e'
        go_wp2
        go_ret
        exact ⟨true, rfl, by simp [HRR.out], q, rfl⟩
  · have hkz : ((l.length : Int) != (k.length : Int)) = true := by simp; omega
    have hkn : (l.length != k.length) = true := by simp; exact hk
    have hkb : (l.length == k.length) = false := by simp; exact hk
    have hkd : decide (l.length = k.length) = false := decide_eq_false hk
    go_wp2
    go_ret
    exact ⟨false, rfl, by simp; intro e; exact hk (by rw [e]), 0, rfl⟩

/-- The law's: too many instructions and ranges. -/
def totI (L : List Ins) : Nat := L.length + (L.map fun x => x.set.length).sum
def LongPg (p : Pg) : Prop := 2000 < totI p.ins
/-- How many have been counted behind the first k. -/
def cntI (L : List Ins) (k : Nat) : Nat := L.length + ((L.take k).map fun x => x.set.length).sum
theorem cnt_le (L : List Ins) (k : Nat) : cntI L k ≤ totI L := by
  unfold cntI totI
  have h : L.map (fun x => x.set.length) = (L.take k).map (fun x => x.set.length) ++ (L.drop k).map (fun x => x.set.length) := by rw [← List.map_append, List.take_append_drop]
  rw [h, List.sum_append]
  omega
theorem cnt_next (L : List Ins) (k : Nat) (h : k < L.length) : cntI L (k + 1) = cntI L k + L[k].set.length := by
  unfold cntI
  rw [List.take_succ_eq_append_getElem h, List.map_append, List.sum_append]
  simp only [List.map_cons, List.map_nil, List.sum_cons, List.sum_nil]
  omega
theorem cnt_end (L : List Ins) (k : Nat) (h : L.length ≤ k) : cntI L k = totI L := by
  unfold cntI totI
  rw [List.take_of_length_le h]
theorem wrap64_nat (m : Nat) (h : m ≤ 9223372036854775807) : IntKind.i64.wrap (m : Int) = (m : Int) := by
  unfold IntKind.wrap
  simp [IntKind.bits, IntKind.signed]
  omega
set_option maxHeartbeats 1600000 in
set_option maxRecDepth 100000 in
theorem long12_any (p : Pg) (v : Value) (w : World) (h : PgV w p v) : Calls Try.prog 13 #[v] w (SaysG (LongPg p) w) := by
  have H0 := Lib.hid h
  obtain ⟨A, n, c, hn, rfl, hI, hs, hc, hnb⟩ := h.opened
  obtain ⟨w1, hw1⟩ : ∃ w1, w.alloc (.cells #[.slice A n c, .int .i64 p.start, .int .i64 p.caps] 24) = w1 := ⟨_, rfl⟩
  obtain ⟨hb1, e0, e1, e2, hz1⟩ := box3_new w _ _ _ _ hw1
  obtain ⟨P, hP⟩ : ∃ P, LongPg p = P := ⟨_, rfl⟩
  have HP : Hid (P ↔ 2000 < totI p.ins) := Lib.hid (by rw [← hP]; rfl)
  have HIS := Lib.hid (hI.below hb1)
  rw [hP]
  have HB1 := Lib.hid hb1; have HW1 := Lib.hid hw1; have HN := Lib.hid hn
  clear h hI hs hc hw1 hb1 hz1 hP hn H0
  go_enter Try.func13, Try.ntmps13
  go_upto_region 1 with (fail)
  rw [HW1.out]
  go_wp2_with fail
  go_loopw [3, 4] (fun m i wr => ∃ k : Nat, k ≤ n ∧ i = .int .i64 k ∧ m = .int .i64 (cntI p.ins k) ∧ wr = w1 ∧ cntI p.ins k ≤ 2000 + 17592186044416 + n) (fun _ i _ => n - (intOf i).toNat)
  case atStart => exact ⟨0, Nat.zero_le _, rfl, by have := HN.out; simp [cntI, this], rfl, by have := HN.out; simp [cntI, this]⟩
  case round =>
    obtain ⟨k, hk, rfl, rfl, rfl, hbd⟩ := hrel
    obtain ⟨m, hm⟩ : ∃ m, cntI p.ins k = m := ⟨_, rfl⟩
    rw [hm] at hbd ⊢
    have HM := Lib.hid hm; have HBD := Lib.hid hbd
    clear hm hbd
    by_cases hkn : k < n
    · have hkz : decide (k < n) = true := decide_eq_true hkn
      by_cases hmm : m ≤ 2000
      · have hkl : k < p.ins.length := by rw [HN.out]; exact hkn
        obtain ⟨b, o, x, a2, s, c2, rfl, hx, hmem, hs, -, ⟨k0, k1, k2, k3, k4⟩, -, ⟨-, -, -, -, hsl⟩, -⟩ := HIS.out.at' k hkl
        have hnx := cnt_next p.ins k hkl
        rw [hx, hs, HM.out] at hnx
        rw [hs] at hsl
        have HNX := Lib.hid hnx
        have hsum : IntKind.i64.wrap ((m : Int) + (s : Int)) = ((m + s : Nat) : Int) := by rw [← Int.natCast_add]; exact wrap64_nat _ (by omega)
        have HSL := Lib.hid hsl; have HMM := Lib.hid hmm
        have d2 : decide ((m : Int) ≤ 2000) = true := decide_eq_true (by omega)
        clear hx hmem hs hnx hsl
        go_wp2_with fail
        go_roundw
        case rel => exact ⟨k + 1, by omega, by go_num, by rw [HNX.out]; simp, by trivial, by rw [HNX.out]; have := HSL.out; have := HMM.out; omega⟩
        case measure => simp [intOf]; omega
      · have d2 : decide ((m : Int) ≤ 2000) = false := decide_eq_false (by omega)
        have d3 : decide ((2000 : Int) < (m : Int)) = true := decide_eq_true (by omega)
        have hP : P := HP.out.2 (by have := cnt_le p.ins k; have := HM.out; omega)
        have HPP := Lib.hid hP
        clear hP hmm
        go_wp2_with fail
        go_ret
        exact ⟨true, rfl, ⟨fun _ => HPP.out, fun _ => rfl⟩, HB1.out⟩
    · have hkz : decide (k < n) = false := decide_eq_false hkn
      have he := cnt_end p.ins k (by have := HN.out; omega)
      rw [HM.out] at he
      have HE := Lib.hid he
      clear he
      by_cases hmm : m ≤ 2000
      · have d3 : decide ((2000 : Int) < (m : Int)) = false := decide_eq_false (by omega)
        have hP : ¬ P := fun h => by have := HP.out.1 h; have := HE.out; omega
        have HPP := Lib.hid hP
        clear hP hmm
        go_wp2_with fail
        go_ret
        exact ⟨false, rfl, ⟨fun h => (by cases h), fun h => absurd h HPP.out⟩, HB1.out⟩
      · have d3 : decide ((2000 : Int) < (m : Int)) = true := decide_eq_true (by omega)
        have hP : P := HP.out.2 (by have := HE.out; omega)
        have HPP := Lib.hid hP
        clear hP hmm
        go_wp2_with fail
        go_ret
        exact ⟨true, rfl, ⟨fun _ => HPP.out, fun _ => rfl⟩, HB1.out⟩
end Go.Proofs.Ytlkbdbijlnjjbaa
