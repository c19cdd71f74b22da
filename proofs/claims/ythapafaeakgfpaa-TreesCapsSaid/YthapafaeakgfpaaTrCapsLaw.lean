/- TreesCaps. -/
import Derived.Test.YthapafaeakgfpaaTrHead
import Derived.Deep.QuietTactic
import Derived.BigQuiet
set_option linter.unusedVariables false
namespace Go.Proofs.Ythapafaeakgfpaa
open Go Go.RowKit

/-- The names, or none. -/
def capsL (t : Tr) (l : List ByteArray) : Prop := (¬ RightT t ∧ l = []) ∨ (RightT t ∧ l = capsNames t)
theorem caps_form {t : Tr} {w w' : World} {e : Ending} (hp : partsR t ≤ 1000000) (h : CapsPost t w e w') : ∃ v l, e = .returned v ∧ capsL t l ∧ Srs w' v l ∧ l.length ≤ 1000001 ∧ Below w.heap.size w w' := by
  obtain ⟨hb, ⟨hn, rfl⟩ | ⟨hn, v, rfl, ho⟩⟩ := h
  · exact ⟨_, [], rfl, .inl ⟨hn, rfl⟩, ⟨none, 0, rfl, by simp, by unfold maxLen; omega, .inl rfl⟩, by simp, hb⟩
  · exact ⟨_, _, rfl, .inr ⟨hn, rfl⟩, ho.srs, by unfold capsNames; rw [List.length_cons, List.length_map]; have := groupsT_len t; omega, hb⟩
theorem capsL_one {t : Tr} {l k : List ByteArray} (h : capsL t l) (g : capsL t k) : l = k := by
  rcases h with ⟨h, rfl⟩ | ⟨h, rfl⟩ <;> rcases g with ⟨g, rfl⟩ | ⟨g, rfl⟩
  · rfl
  · exact absurd g h
  · exact absurd h g
  · rfl

set_option maxHeartbeats 1600000 in
set_option maxRecDepth 100000 in
theorem treesCaps_any (w : World) (v : Value) (t : Tr) (h : Tre w t v) : Calls Try.prog 4 #[v] w fun e w' => e = .returned (.bool true) ∧ Below w.heap.size w w' := by
  have h0 := h
  obtain ⟨A, n, c, a2, s, c2, hn, hs, rfl, hnb, hsb, hK, hS, hF⟩ := h.opened
  obtain ⟨w1, hw1⟩ : ∃ w1, w.alloc (.cells #[.int .i64 t.fld.op, .slice A n c, .int .i32 t.fld.rune, .slice a2 s c2, .int .i64 t.fld.at', .int .i64 t.fld.cap, .string t.fld.name, .int .i64 t.fld.min, .int .i64 t.fld.max, .bool t.fld.lazy] 27) = w1 := ⟨_, rfl⟩
  have hb1 : Below w.heap.size w w1 := by rw [← hw1]; exact (Below.refl _ _).alloc (Nat.le_refl _) _
  have hE1 : Box10 w1 w.heap.size (.int .i64 t.fld.op) (.slice A n c) (.int .i32 t.fld.rune) (.slice a2 s c2) (.int .i64 t.fld.at') (.int .i64 t.fld.cap) (.string t.fld.name) (.int .i64 t.fld.min) (.int .i64 t.fld.max) (.bool t.fld.lazy) := by rw [← hw1]; exact box10_new w _ _ _ _ _ _ _ _ _ _ _
  have HW1 := Lib.hid hw1; have HT := Lib.hid hb1; have HE := Lib.hid hE1; have H0 := Lib.hid (h0.below hb1)
  clear hb1 hE1 hw1 hK hS hn hs hF h h0
  obtain ⟨v, hv⟩ : ∃ v, Value.agg #[.int .i64 t.fld.op, .slice A n c, .int .i32 t.fld.rune, .slice a2 s c2, .int .i64 t.fld.at', .int .i64 t.fld.cap, .string t.fld.name, .int .i64 t.fld.min, .int .i64 t.fld.max, .bool t.fld.lazy] = v := ⟨_, rfl⟩
  rw [hv] at H0
  have HV := Lib.hid hv
  clear hv
  go_enter Try.func4, Try.ntmps4
  go_wp2_with fail
  rw [HW1.out]
  clear HW1
  go_wp2_with fail
  refine (thead_any w1).mono ?_
  rintro e w2 ⟨rfl, hb⟩
  replace H0 := Lib.hid (H0.out.below hb); replace HE := Lib.hid (HE.out.below hb)
  replace HT := Lib.hid (HT.out.trans (hb.mono HT.out.size))
  clear hb
  obtain ⟨b0, b1, b2, b3, b4, b5, b6, b7, b8, b9⟩ := HE.out
  go_wp2_with fail
  rw [HV.out]
  refine (great_any t _ w2 H0.out).mono ?_
  rintro e w3 ⟨G, rfl, hg, hb⟩
  replace H0 := Lib.hid (H0.out.below hb); replace HE := Lib.hid (HE.out.below hb)
  replace HT := Lib.hid (HT.out.trans (hb.mono HT.out.size))
  clear hb b0 b1 b2 b3 b4 b5 b6 b7 b8 b9
  have HG := Lib.hid hg
  clear hg
  rcases G with _ | _
  rotate_left
  · clear HG
    go_wp2_with fail
    go_ret
    exact ⟨rfl, HT.out⟩
  have hp : partsR t ≤ 1000000 := by
    have := mt HG.out.2 (by decide)
    omega
  clear HG
  obtain ⟨b0, b1, b2, b3, b4, b5, b6, b7, b8, b9⟩ := HE.out
  go_wp2_with fail
  rw [HV.out]
  refine (pcaps_any t hp _ w3 H0.out).mono ?_
  intro e w4 hpost
  obtain ⟨va, l, rfl, hl, hr, hll, hb⟩ := caps_form hp hpost
  clear hpost
  replace H0 := Lib.hid (H0.out.below hb); replace HE := Lib.hid (HE.out.below hb)
  replace HT := Lib.hid (HT.out.trans (hb.mono HT.out.size))
  clear hb b0 b1 b2 b3 b4 b5 b6 b7 b8 b9
  have HL := Lib.hid hl; have RA := Lib.hid hr
  clear hl hr
  obtain ⟨b0, b1, b2, b3, b4, b5, b6, b7, b8, b9⟩ := HE.out
  go_wp2_with fail
  rw [HV.out]
  refine (rcaps_any t hp _ w4 H0.out).mono ?_
  intro e w5 hpost
  obtain ⟨vb, l', rfl, hl, hr, -, hb⟩ := caps_form hp hpost
  obtain rfl : l = l' := capsL_one HL.out hl
  clear hpost hl HL
  replace H0 := Lib.hid (H0.out.below hb); replace HE := Lib.hid (HE.out.below hb)
  replace RA := Lib.hid (RA.out.below hb)
  replace HT := Lib.hid (HT.out.trans (hb.mono HT.out.size))
  clear hb b0 b1 b2 b3 b4 b5 b6 b7 b8 b9
  have RB := Lib.hid hr
  clear hr
  clear HE HV H0
  obtain ⟨a, c, rfl, -, -, h4⟩ := RA.out
  obtain ⟨a', c', rfl, -, -, g4⟩ := RB.out
  have H4 := Lib.hid h4; have G4 := Lib.hid g4
  clear h4 g4 RA RB
  go_wp2_with fail
  go_loopw [6] (fun i wr => ∃ m : Nat, m ≤ l.length ∧ i = .int .i64 m ∧ ∃ q, wr = w5.drewN q) (fun i _ => l.length - (intOf i).toNat)
  case atStart => exact ⟨0, Nat.zero_le _, rfl, 0, rfl⟩
  case round =>
    obtain ⟨m, hm, rfl, q, rfl⟩ := hrel
    by_cases hlt : m < l.length
    · rcases H4.out with h4 | ⟨b, rfl, hc⟩
      · rw [h4] at hlt
        simp at hlt
      rcases G4.out with g4 | ⟨b', rfl, hc'⟩
      · rw [g4] at hlt
        simp at hlt
      obtain ⟨y, hy⟩ : ∃ y, l[m] = y := ⟨_, rfl⟩
      have c1 := hc m hlt
      have d1 := hc' m hlt
      rw [hy] at c1 d1
      have hltz : (m : Int) < (l.length : Int) := by omega
      clear hc hc' hy H4 G4
      go_wp2_with fail
      go_big_quiet (fail)
      go_wp2
      go_roundw
      case rel => exact ⟨m + 1, by omega, by go_num, _, by first | with_reducible rfl | exact World.drewN_drewN _ _ _⟩
      case measure => simp [intOf]; omega
    · go_wp2_with fail
      go_ret
      exact ⟨rfl, below_drewNr HT.out q⟩
end Go.Proofs.Ythapafaeakgfpaa
