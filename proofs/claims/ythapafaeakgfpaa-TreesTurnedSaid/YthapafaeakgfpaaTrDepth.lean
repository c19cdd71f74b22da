/- How deep, how heavy a tree is: the document's Depth, Weight. -/
import Derived.Test.YthapafaeakgfpaaTrSpec
set_option linter.unusedVariables false
namespace Go.Proofs.Ythapafaeakgfpaa
open Go Go.RowKit

/-- An integer that says n; nothing that lay has turned. -/
def SaysN (n : Nat) (w : World) (e : Ending) (w' : World) : Prop := e = .returned (.int .i64 n) ∧ Below w.heap.size w w'
def DepthOf (t : Tr) : Prop := partsR t ≤ 1000000 → ∀ (v : Value) (w : World), Tre w t v → Calls Try.prog 34 #[v] w (SaysN (depthR t) w)
theorem take_max {l : List Tr} {k : Nat} (h : k < l.length) : maxL ((l.take (k + 1)).map depthR) = max (maxL ((l.take k).map depthR)) (depthR l[k]) := by
  rw [List.take_succ_eq_append_getElem h, List.map_append, maxL_append]
  simp [maxL]

set_option maxHeartbeats 1600000 in
set_option maxRecDepth 100000 in
theorem depth_any (t : Tr) : DepthOf t := by
  refine Tr.ind (P := DepthOf) (fun t ih hp v w h => ?_) t
  have IH := Lib.hid ih
  obtain ⟨A, n, c, a2, s, c2, hn, hs, rfl, hnb, hsb, hK, hS, hF⟩ := h.opened
  obtain ⟨w1, hw1⟩ : ∃ w1, w.alloc (.cells #[.int .i64 t.fld.op, .slice A n c, .int .i32 t.fld.rune, .slice a2 s c2, .int .i64 t.fld.at', .int .i64 t.fld.cap, .string t.fld.name, .int .i64 t.fld.min, .int .i64 t.fld.max, .bool t.fld.lazy] 27) = w1 := ⟨_, rfl⟩
  have hb1 : Below w.heap.size w w1 := by rw [← hw1]; exact (Below.refl _ _).alloc (Nat.le_refl _) _
  have hE1 : Box10 w1 w.heap.size (.int .i64 t.fld.op) (.slice A n c) (.int .i32 t.fld.rune) (.slice a2 s c2) (.int .i64 t.fld.at') (.int .i64 t.fld.cap) (.string t.fld.name) (.int .i64 t.fld.min) (.int .i64 t.fld.max) (.bool t.fld.lazy) := by rw [← hw1]; exact box10_new w _ _ _ _ _ _ _ _ _ _ _
  have HB1 := Lib.hid hb1; have HE1 := Lib.hid hE1; have HW1 := Lib.hid hw1; have HK := Lib.hid (hK.below hb1); have HN := Lib.hid hn
  have hde := depthR_parts t
  have hdq := depthR_eq t
  have HDQ := Lib.hid hdq
  clear h ih hb1 hE1 hw1 hK hS hn hs hF hdq
  go_enter Try.func34, Try.ntmps34
  go_wp2_with fail
  rw [HW1.out]
  go_loopw [3, 4] (fun nn i wr => ∃ k : Nat, k ≤ n ∧ i = .int .i64 k ∧ nn = .int .i64 (maxL ((t.kids.take k).map depthR)) ∧ Below w1.heap.size w1 wr) (fun _ i _ => n - (intOf i).toNat)
  case atStart => exact ⟨0, Nat.zero_le _, rfl, rfl, Below.refl _ _⟩
  case round =>
    obtain ⟨k, hk, rfl, rfl, hB⟩ := hrel
    have HB := Lib.hid hB
    obtain ⟨-, d1, -⟩ := HE1.out.below hB
    have hKw := HK.out.below hB
    obtain ⟨D, hD⟩ : ∃ D, maxL ((t.kids.take k).map depthR) = D := ⟨_, rfl⟩
    have hDb : D ≤ 1000000 := by
      rw [← hD]
      refine maxL_le fun x hx => ?_
      obtain ⟨q, hq, rfl⟩ := List.mem_map.1 hx
      have h1 := depthR_parts q
      have h2 := partsR_kid (List.mem_of_mem_take hq)
      omega
    rw [hD]
    have HD := Lib.hid hD
    clear hB hD
    by_cases hkn : k < n
    · have hkl : k < t.kids.length := by rw [HN.out]; exact hkn
      have hts := take_max hkl
      obtain ⟨b, o, tk, kv, sv, rfl, htk, hm, ⟨c0, c1, c2', c3, c4, c5, c6, c7, c8, c9⟩, hTk⟩ := hKw.kid k hkl
      have hpk := partsR_kid hm
      have hdk := depthR_parts tk
      rw [htk, HD.out] at hts
      have HI := Lib.hid (IH.out tk hm (by omega) _ _ hTk); have HTS := Lib.hid hts
      clear hKw htk hm hTk hts
      go_wp2_with fail
      refine HI.out.mono ?_
      rintro e w2 ⟨rfl, hb2⟩
      have HB2 := Lib.hid (below_two HB.out hb2)
      clear hb2 c0 c1 c2' c3 c4 c5 c6 c7 c8 c9
      obtain ⟨E, hE⟩ : ∃ E, depthR tk = E := ⟨_, rfl⟩
      rw [hE] at hdk HTS ⊢
      clear hE
      by_cases hDE : D < E
      · go_wp2_with fail
        go_roundw
        case rel => exact ⟨k + 1, by omega, by go_num, by rw [HTS.out, Nat.max_eq_right (by omega)], HB2.out⟩
        case measure => simp [intOf]; omega
      · go_wp2_with fail
        go_roundw
        case rel => exact ⟨k + 1, by omega, by go_num, by rw [HTS.out, Nat.max_eq_left (by omega)], HB2.out⟩
        case measure => simp [intOf]; omega
    · have hk2 : t.kids.take k = t.kids := List.take_of_length_le (by rw [HN.out]; omega)
      have hq := HDQ.out
      rw [← hk2, HD.out] at hq
      have HQ := Lib.hid hq
      clear hk2 hq hKw
      go_wp2_with fail
      go_ret
      exact ⟨by rw [HQ.out]; simp, below_two HB1.out HB.out⟩
end Go.Proofs.Ythapafaeakgfpaa
