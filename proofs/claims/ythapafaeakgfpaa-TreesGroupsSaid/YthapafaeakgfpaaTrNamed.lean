/- How many groups a tree has, and whether each has the name of its number: the law's caps and named. -/
import Derived.Test.YthapafaeakgfpaaTrCaps
import Derived.Deep.QuietTactic
import Derived.BigQuiet
set_option linter.unusedVariables false
namespace Go.Proofs.Ythapafaeakgfpaa
open Go Go.RowKit

def CapsOf (t : Tr) : Prop := partsR t ≤ 1000000 → ∀ (v : Value) (w : World), Tre w t v → Calls Try.prog 27 #[v] w (SaysN (groupsT t).length w)
/-- Of the groups in the first k Kids. -/
def grpTake (t : Tr) (k : Nat) : Nat := ((if t.fld.op = 6 then [t] else []) ++ ((t.kids.take k).map groupsT).flatten).length
theorem grpTake_zero (t : Tr) : grpTake t 0 = if t.fld.op = 6 then 1 else 0 := by unfold grpTake; split <;> simp
theorem grpTake_next (t : Tr) (k : Nat) (h : k < t.kids.length) : grpTake t (k + 1) = grpTake t k + (groupsT t.kids[k]).length := by
  unfold grpTake
  rw [List.take_succ_eq_append_getElem h, List.map_append, List.flatten_append]
  simp
  omega
theorem grpTake_all (t : Tr) (k : Nat) (h : t.kids.take k = t.kids) : grpTake t k = (groupsT t).length := by
  unfold grpTake
  rw [h, groupsT_eq]
theorem grpTake_le (t : Tr) (k : Nat) : grpTake t k ≤ partsR t + 1 := by
  unfold grpTake
  rw [List.length_append]
  have := groupsT_take (t := t) k
  split <;> simp only [List.length_cons, List.length_nil] <;> omega

set_option maxHeartbeats 1600000 in
set_option maxRecDepth 100000 in
theorem caps_any (t : Tr) : CapsOf t := by
  refine Tr.ind (P := CapsOf) (fun t ih hp v w h => ?_) t
  have IH := Lib.hid ih
  obtain ⟨A, n, c, a2, s, c2, hn, hs, rfl, hnb, hsb, hK, hS, hF⟩ := h.opened
  obtain ⟨w1, hw1⟩ : ∃ w1, w.alloc (.cells #[.int .i64 t.fld.op, .slice A n c, .int .i32 t.fld.rune, .slice a2 s c2, .int .i64 t.fld.at', .int .i64 t.fld.cap, .string t.fld.name, .int .i64 t.fld.min, .int .i64 t.fld.max, .bool t.fld.lazy] 27) = w1 := ⟨_, rfl⟩
  have hb1 : Below w.heap.size w w1 := by rw [← hw1]; exact (Below.refl _ _).alloc (Nat.le_refl _) _
  have hE1 : Box10 w1 w.heap.size (.int .i64 t.fld.op) (.slice A n c) (.int .i32 t.fld.rune) (.slice a2 s c2) (.int .i64 t.fld.at') (.int .i64 t.fld.cap) (.string t.fld.name) (.int .i64 t.fld.min) (.int .i64 t.fld.max) (.bool t.fld.lazy) := by rw [← hw1]; exact box10_new w _ _ _ _ _ _ _ _ _ _ _
  have HB1 := Lib.hid hb1; have HE1 := Lib.hid hE1; have HW1 := Lib.hid hw1; have HK := Lib.hid (hK.below hb1); have HN := Lib.hid hn
  clear h ih hb1 hE1 hw1 hK hS hn hs hF
  obtain ⟨op, hop⟩ : ∃ op, t.fld.op = op := ⟨_, rfl⟩
  have hz0 := grpTake_zero t
  rw [hop] at hz0
  have HZ0 := Lib.hid hz0
  rw [hop] at HE1
  obtain ⟨b0, b1, b2, b3, b4, b5, b6, b7, b8, b9⟩ := HE1.out
  clear hop hz0
  go_enter Try.func27, Try.ntmps27
  go_upto_region 2 with (fail)
  rw [HW1.out]
  by_cases q6 : op = 6
  · subst q6
    have HZ := Lib.hid (show grpTake t 0 = 1 from by rw [HZ0.out]; rfl)
    go_wp2_with fail
    go_loopw [3, 4] (fun nn i wr => ∃ k : Nat, k ≤ n ∧ i = .int .i64 k ∧ nn = .int .i64 (grpTake t k) ∧ Below w1.heap.size w1 wr) (fun _ i _ => n - (intOf i).toNat)
    case atStart => exact ⟨0, Nat.zero_le _, rfl, by rw [HZ.out]; rfl, Below.refl _ _⟩
    case round =>
      obtain ⟨k, hk, rfl, rfl, hB⟩ := hrel
      have HB := Lib.hid hB
      obtain ⟨-, d1, -⟩ := HE1.out.below hB
      have hKw := HK.out.below hB
      have hDb := grpTake_le t k
      obtain ⟨D, hD⟩ : ∃ D, grpTake t k = D := ⟨_, rfl⟩
      rw [hD] at hDb
      rw [hD]
      have HD := Lib.hid hD
      clear hB hD
      by_cases hkn : k < n
      · have hkl : k < t.kids.length := by rw [HN.out]; exact hkn
        have hts := grpTake_next t k hkl
        obtain ⟨b, o, tk, kv, sv, rfl, htk, hm, ⟨c0, c1, c2', c3, c4, c5, c6, c7, c8, c9⟩, hTk⟩ := hKw.kid k hkl
        have hpk := partsR_kid hm
        have hdk := groupsT_len tk
        rw [htk, HD.out] at hts
        have HI := Lib.hid (IH.out tk hm (by omega) _ _ hTk); have HTS := Lib.hid hts
        clear hKw htk hm hTk hts
        go_wp2_with fail
        refine HI.out.mono ?_
        rintro e w2 ⟨rfl, hb2⟩
        have HB2 := Lib.hid (below_two HB.out hb2)
        clear hb2 c0 c1 c2' c3 c4 c5 c6 c7 c8 c9
        obtain ⟨E, hE⟩ : ∃ E, (groupsT tk).length = E := ⟨_, rfl⟩
        rw [hE] at hdk HTS ⊢
        clear hE
        go_wp2_with fail
        go_roundw
        case rel => exact ⟨k + 1, by omega, by go_num, by rw [HTS.out]; go_num, HB2.out⟩
        case measure => simp [intOf]; omega
      · have hk2 : t.kids.take k = t.kids := List.take_of_length_le (by rw [HN.out]; omega)
        have hq := grpTake_all t k hk2
        rw [HD.out] at hq
        have HQ := Lib.hid hq
        clear hk2 hq hKw
        go_wp2_with fail
        go_ret
        exact ⟨by rw [HQ.out]; simp, below_two HB1.out HB.out⟩
  · have e6 : (op == 6) = false := beq_eq_false_iff_ne.2 q6
    rw [if_neg q6] at HZ0
    clear q6
    have HZ := Lib.hid (show grpTake t 0 = 0 from by rw [HZ0.out])
    go_wp2_with fail
    go_loopw [3, 4] (fun nn i wr => ∃ k : Nat, k ≤ n ∧ i = .int .i64 k ∧ nn = .int .i64 (grpTake t k) ∧ Below w1.heap.size w1 wr) (fun _ i _ => n - (intOf i).toNat)
    case atStart => exact ⟨0, Nat.zero_le _, rfl, by rw [HZ.out]; rfl, Below.refl _ _⟩
    case round =>
      obtain ⟨k, hk, rfl, rfl, hB⟩ := hrel
      have HB := Lib.hid hB
      obtain ⟨-, d1, -⟩ := HE1.out.below hB
      have hKw := HK.out.below hB
      have hDb := grpTake_le t k
      obtain ⟨D, hD⟩ : ∃ D, grpTake t k = D := ⟨_, rfl⟩
      rw [hD] at hDb
      rw [hD]
      have HD := Lib.hid hD
      clear hB hD
      by_cases hkn : k < n
      · have hkl : k < t.kids.length := by rw [HN.out]; exact hkn
        have hts := grpTake_next t k hkl
        obtain ⟨b, o, tk, kv, sv, rfl, htk, hm, ⟨c0, c1, c2', c3, c4, c5, c6, c7, c8, c9⟩, hTk⟩ := hKw.kid k hkl
        have hpk := partsR_kid hm
        have hdk := groupsT_len tk
        rw [htk, HD.out] at hts
        have HI := Lib.hid (IH.out tk hm (by omega) _ _ hTk); have HTS := Lib.hid hts
        clear hKw htk hm hTk hts
        go_wp2_with fail
        refine HI.out.mono ?_
        rintro e w2 ⟨rfl, hb2⟩
        have HB2 := Lib.hid (below_two HB.out hb2)
        clear hb2 c0 c1 c2' c3 c4 c5 c6 c7 c8 c9
        obtain ⟨E, hE⟩ : ∃ E, (groupsT tk).length = E := ⟨_, rfl⟩
        rw [hE] at hdk HTS ⊢
        clear hE
        go_wp2_with fail
        go_roundw
        case rel => exact ⟨k + 1, by omega, by go_num, by rw [HTS.out]; go_num, HB2.out⟩
        case measure => simp [intOf]; omega
      · have hk2 : t.kids.take k = t.kids := List.take_of_length_le (by rw [HN.out]; omega)
        have hq := grpTake_all t k hk2
        rw [HD.out] at hq
        have HQ := Lib.hid hq
        clear hk2 hq hKw
        go_wp2_with fail
        go_ret
        exact ⟨by rw [HQ.out]; simp, below_two HB1.out HB.out⟩

/-- Each group of a tree has the name of its number. -/
def NamedT (t : Tr) (l : List ByteArray) : Prop := ∀ g ∈ groupsT t, ∃ i : Nat, g.fld.cap = (i : Int) ∧ 1 ≤ i ∧ ∃ h : i < l.length, l[i] = g.fld.name
theorem namedT_kid {t k : Tr} {l : List ByteArray} (h : NamedT t l) (hk : k ∈ t.kids) : NamedT k l := fun g hg => h g (by
  rw [groupsT_eq]
  exact List.mem_append_right _ (List.mem_flatten.2 ⟨_, List.mem_map_of_mem hk, hg⟩))
theorem namedT_self {t : Tr} {l : List ByteArray} (h : NamedT t l) (h6 : t.fld.op = 6) : ∃ i : Nat, t.fld.cap = (i : Int) ∧ 1 ≤ i ∧ ∃ h : i < l.length, l[i] = t.fld.name := h t (by
  rw [groupsT_eq, if_pos h6]
  simp)
def NamedOf (l : List ByteArray) (t : Tr) : Prop := NamedT t l → ∀ (v u : Value) (w : World), Tre w t v → Srs w u l → Calls Try.prog 28 #[v, u] w fun e w' => e = .returned (.bool true) ∧ Below w.heap.size w w'

set_option maxHeartbeats 1600000 in
set_option maxRecDepth 100000 in
theorem named_any (l : List ByteArray) (hll : l.length ≤ 1000001) (t : Tr) : NamedOf l t := by
  refine Tr.ind (P := NamedOf l) (fun t ih hnm v u w h hu => ?_) t
  have IH := Lib.hid ih
  obtain ⟨A, n, c, a2, s, c2, hn, hs, rfl, hnb, hsb, hK, hS, hF⟩ := h.opened
  obtain ⟨w1, hw1⟩ : ∃ w1, w.alloc (.cells #[.int .i64 t.fld.op, .slice A n c, .int .i32 t.fld.rune, .slice a2 s c2, .int .i64 t.fld.at', .int .i64 t.fld.cap, .string t.fld.name, .int .i64 t.fld.min, .int .i64 t.fld.max, .bool t.fld.lazy] 27) = w1 := ⟨_, rfl⟩
  have hb1 : Below w.heap.size w w1 := by rw [← hw1]; exact (Below.refl _ _).alloc (Nat.le_refl _) _
  have hE1 : Box10 w1 w.heap.size (.int .i64 t.fld.op) (.slice A n c) (.int .i32 t.fld.rune) (.slice a2 s c2) (.int .i64 t.fld.at') (.int .i64 t.fld.cap) (.string t.fld.name) (.int .i64 t.fld.min) (.int .i64 t.fld.max) (.bool t.fld.lazy) := by rw [← hw1]; exact box10_new w _ _ _ _ _ _ _ _ _ _ _
  have HB1 := Lib.hid hb1; have HE1 := Lib.hid hE1; have HW1 := Lib.hid hw1; have HK := Lib.hid (hK.below hb1); have HN := Lib.hid hn
  have HU := Lib.hid (hu.below hb1); have HNM := Lib.hid hnm
  clear h ih hb1 hE1 hw1 hK hS hn hs hF hu hnm
  obtain ⟨ua, uc, rfl, hu1, hu2, hu3⟩ := HU.out
  clear hu1 hu2
  have HE0 := HE1
  obtain ⟨op, hop⟩ : ∃ op, t.fld.op = op := ⟨_, rfl⟩
  rw [hop] at HE1
  have HOP := Lib.hid hop
  clear hop HE0
  obtain ⟨b0, b1, b2, b3, b4, b5, b6, b7, b8, b9⟩ := HE1.out
  have HU3 := Lib.hid hu3
  clear hu3
  go_enter Try.func28, Try.ntmps28
  go_wp2_with fail
  rw [HW1.out]
  by_cases q6 : op = 6
  · subst q6
    obtain ⟨i, hi, hi1, hi2, hi3⟩ := namedT_self HNM.out HOP.out
    rcases HU3.out with hu | ⟨g, rfl, hc⟩
    · rw [hu] at hi2
      simp at hi2
    have c1 := hc i hi2
    rw [hi3] at c1
    obtain ⟨nm, hnm⟩ : ∃ nm, t.fld.name = nm := ⟨_, rfl⟩
    rw [hnm] at c1 b6 HE1
    rw [hi] at b5 HE1
    have z1 : ¬ (i : Int) < 1 := by omega
    have z2 : (i : Int) < (l.length : Int) := by omega
    have z3 : ¬ (l.length : Int) ≤ (i : Int) := by omega
    clear hc hi hi3 hnm
    go_big_quiet (fail)
    clear z1 z2 z3 c1 hi1 hi2 b0 b1 b2 b3 b4 b5 b6 b7 b8 b9
    go_wp2_with fail
    go_loopw [5] (fun i wr => ∃ k : Nat, k ≤ n ∧ i = .int .i64 k ∧ Below w1.heap.size w1 wr) (fun i _ => n - (intOf i).toNat)
    case atStart => exact ⟨0, Nat.zero_le _, rfl, below_drewNr (Below.refl _ _) _⟩
    case round =>
      obtain ⟨k, hk, rfl, hB⟩ := hrel
      have HB := Lib.hid hB
      obtain ⟨-, d1, -⟩ := HE1.out.below hB
      have hKw := HK.out.below hB
      clear hB
      by_cases hkn : k < n
      · have hkl : k < t.kids.length := by rw [HN.out]; exact hkn
        obtain ⟨b, o, tk, kv, sv, rfl, htk, hm, ⟨c0, c1, c2', c3, c4, c5, c6, c7, c8, c9⟩, hTk⟩ := hKw.kid k hkl
        have HI := Lib.hid (IH.out tk hm (namedT_kid HNM.out hm) _ _ _ hTk (HU.out.below HB.out))
        clear hKw htk hm hTk
        go_wp2_with fail
        refine HI.out.mono ?_
        rintro e w2 ⟨rfl, hb2⟩
        have HB2 := Lib.hid (below_two HB.out hb2)
        clear hb2 c0 c1 c2' c3 c4 c5 c6 c7 c8 c9
        go_wp2_with fail
        go_roundw
        case rel => exact ⟨k + 1, by omega, by go_num, HB2.out⟩
        case measure => simp [intOf]; omega
      · clear hKw
        go_wp2_with fail
        go_ret
        exact ⟨rfl, below_two HB1.out HB.out⟩
  · have e6 : (op == 6) = false := beq_eq_false_iff_ne.2 q6
    clear q6
    go_big_quiet (fail)
    clear b0 b1 b2 b3 b4 b5 b6 b7 b8 b9
    go_wp2_with fail
    go_loopw [5] (fun i wr => ∃ k : Nat, k ≤ n ∧ i = .int .i64 k ∧ Below w1.heap.size w1 wr) (fun i _ => n - (intOf i).toNat)
    case atStart => exact ⟨0, Nat.zero_le _, rfl, below_drewNr (Below.refl _ _) _⟩
    case round =>
      obtain ⟨k, hk, rfl, hB⟩ := hrel
      have HB := Lib.hid hB
      obtain ⟨-, d1, -⟩ := HE1.out.below hB
      have hKw := HK.out.below hB
      clear hB
      by_cases hkn : k < n
      · have hkl : k < t.kids.length := by rw [HN.out]; exact hkn
        obtain ⟨b, o, tk, kv, sv, rfl, htk, hm, ⟨c0, c1, c2', c3, c4, c5, c6, c7, c8, c9⟩, hTk⟩ := hKw.kid k hkl
        have HI := Lib.hid (IH.out tk hm (namedT_kid HNM.out hm) _ _ _ hTk (HU.out.below HB.out))
        clear hKw htk hm hTk
        go_wp2_with fail
        refine HI.out.mono ?_
        rintro e w2 ⟨rfl, hb2⟩
        have HB2 := Lib.hid (below_two HB.out hb2)
        clear hb2 c0 c1 c2' c3 c4 c5 c6 c7 c8 c9
        go_wp2_with fail
        go_roundw
        case rel => exact ⟨k + 1, by omega, by go_num, HB2.out⟩
        case measure => simp [intOf]; omega
      · clear hKw
        go_wp2_with fail
        go_ret
        exact ⟨rfl, below_two HB1.out HB.out⟩
end Go.Proofs.Ythapafaeakgfpaa
