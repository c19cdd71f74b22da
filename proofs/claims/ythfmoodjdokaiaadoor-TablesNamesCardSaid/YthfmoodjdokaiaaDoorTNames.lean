/- The set of any name, or that there is none, is the document's; what is told may be changed. From named_any. -/
import Derived.Test.YthfmoodjdokaiaaDoorTLaws
import Derived.RangeFuncBox
set_option linter.unusedVariables false
namespace Go.Proofs.YthfmoodjdokaiaaDoor
open Go Go.RowKit

/-- A row of ranges that may be changed: block g, n ranges. -/
def Mut (w : World) (g n : Nat) : Prop := ∃ cur, Whole w g 28 cur ∧ ∀ i, i < n → ∃ x : Int, cur[i * 2]? = some (.int .i32 x)
theorem Mut.store {w : World} {g n : Nat} (h : Mut w g n) (k : Nat) (y : Int) : Mut (w.setCell ⟨g, k * 2, none⟩ (.int .i32 y)) g n := by
  obtain ⟨cur, hw, hc⟩ := h
  refine ⟨_, hw.store (k * 2) _, fun i hi => ?_⟩
  obtain ⟨x, hx⟩ := hc i hi
  by_cases e : k * 2 = i * 2
  · refine ⟨y, ?_⟩
    rw [← e, Array.getElem?_setIfInBounds_self, if_pos]
    have := (Array.getElem?_eq_some_iff.1 hx).1
    omega
  · exact ⟨x, by rw [Array.getElem?_setIfInBounds_ne e]; exact hx⟩
theorem mut_of {w : World} {B : Nat} {g c : Nat} {l : List (Int × Int)} (h : OwnR w B (.slice (some ⟨g, 0, none⟩) l.length c) l) : Mut w g l.length := by
  rcases h.1.2 with ⟨h1, _⟩ | ⟨q, cap, cur, h1, _, hh, _, _, _, ht⟩
  · cases h1
  · injection h1 with h1
    injection h1 with h1
    injection h1 with h1
    subst h1
    refine ⟨cur, hh, fun i hi => ?_⟩
    have h2 := (cellsR_at l i hi).1
    rw [← ht, List.getElem?_take_of_lt (by omega), Array.getElem?_toList] at h2
    exact ⟨_, h2⟩
theorem ownR_far {w : World} {B g k : Nat} {v u : Value} {l : List (Int × Int)} (h : OwnR w B v l) (hg : g < B) : OwnR (w.setCell ⟨g, k, none⟩ u) B v l := by
  refine ⟨World.ownsRow.kept h.1 (row := some g) ⟨rfl, rfl, rfl, by simp [World.setCell], fun j _ hj => Below.heap_setCell _ _ _ j (fun e => hj (by rw [e]))⟩ ?_, h.2⟩
  rcases own_slice2 h.1 with ⟨rfl, _⟩ | ⟨q, c, rfl, _, _, hq⟩
  · exact .inl rfl
  · refine .inr fun e => ?_
    have : q = g := by simpa [Value.ownBlock] using e
    omega

theorem nameR_ne {b : List UInt8} {l : List (Int × Int)} (h : nameR b = some l) : l ≠ [] := by
  unfold nameR at h
  by_cases h0 : b = [76, 117]
  · rw [if_pos h0] at h
    injection h with h
    rw [← h]
    exact List.cons_ne_nil _ _
  rw [if_neg h0] at h
  by_cases h1 : b = [76, 108]
  · rw [if_pos h1] at h
    injection h with h
    rw [← h]
    exact List.cons_ne_nil _ _
  rw [if_neg h1] at h
  by_cases h2 : b = [76]
  · rw [if_pos h2] at h
    injection h with h
    rw [← h]
    exact List.cons_ne_nil _ _
  rw [if_neg h2] at h
  by_cases h3 : b = [78, 100]
  · rw [if_pos h3] at h
    injection h with h
    rw [← h]
    exact List.cons_ne_nil _ _
  rw [if_neg h3] at h
  by_cases h4 : b = [78]
  · rw [if_pos h4] at h
    injection h with h
    rw [← h]
    exact List.cons_ne_nil _ _
  rw [if_neg h4] at h
  by_cases h5 : b = [80]
  · rw [if_pos h5] at h
    injection h with h
    rw [← h]
    exact List.cons_ne_nil _ _
  rw [if_neg h5] at h
  by_cases h6 : b = [83]
  · rw [if_pos h6] at h
    injection h with h
    rw [← h]
    exact List.cons_ne_nil _ _
  rw [if_neg h6] at h
  by_cases h7 : b = [90]
  · rw [if_pos h7] at h
    injection h with h
    rw [← h]
    exact List.cons_ne_nil _ _
  rw [if_neg h7] at h
  by_cases h8 : b = [67, 99]
  · rw [if_pos h8] at h
    injection h with h
    rw [← h]
    exact List.cons_ne_nil _ _
  rw [if_neg h8] at h
  by_cases h9 : b = [76, 97, 116, 105, 110]
  · rw [if_pos h9] at h
    injection h with h
    rw [← h]
    exact List.cons_ne_nil _ _
  rw [if_neg h9] at h
  by_cases h10 : b = [71, 114, 101, 101, 107]
  · rw [if_pos h10] at h
    injection h with h
    rw [← h]
    exact List.cons_ne_nil _ _
  rw [if_neg h10] at h
  by_cases h11 : b = [67, 121, 114, 105, 108, 108, 105, 99]
  · rw [if_pos h11] at h
    injection h with h
    rw [← h]
    exact List.cons_ne_nil _ _
  rw [if_neg h11] at h
  by_cases h12 : b = [72, 97, 110]
  · rw [if_pos h12] at h
    injection h with h
    rw [← h]
    exact List.cons_ne_nil _ _
  rw [if_neg h12] at h
  cases h

set_option maxHeartbeats 4000000 in
set_option maxRecDepth 100000 in
theorem tnames_any (w : World) (s : ByteArray) (hT0 : TabsT w) : Calls Tryd.prog 3 #[.string s] w fun e w' => e = .returned (.bool true) ∧ Below w.heap.size w w' := by
  have H0 := Lib.hid hT0
  clear hT0
  have HT := Lib.hid (Below.refl w.heap.size w)
  go_enter Tryd.func3, Tryd.ntmps3
  go_wp2_with fail
  refine (thead_any w H0.out).mono ?_
  rintro e w1 ⟨rfl, hb⟩
  replace HT := Lib.hid (HT.out.trans (hb.mono HT.out.size))
  clear hb
  go_wp2_with fail
  refine (named_any s w1).mono ?_
  rintro e w2 ⟨hb, ⟨hn, rfl⟩ | ⟨va, l, hn, rfl, ho⟩⟩
  · have HN := Lib.hid hn
    replace HT := Lib.hid (HT.out.trans (hb.mono HT.out.size))
    clear hb hn
    go_wp2_with fail
    refine (rnamed_any s w2).mono ?_
    rintro e w3 ⟨hb, ⟨hn, rfl⟩ | ⟨vb, l, hn, rfl, ho⟩⟩
    · replace HT := Lib.hid (HT.out.trans (hb.mono HT.out.size))
      clear hb hn
      go_wp2_with fail
      refine (rsame_any _ _ [] [] w3 (rgs_none _) (rgs_none _)).mono ?_
      rintro e w4 hs
      obtain ⟨B, rfl, hq, q, rfl⟩ := hs
      obtain rfl : B = true := hq.2 rfl
      have hb := below_draws w3 q
      replace HT := Lib.hid (HT.out.trans (hb.mono HT.out.size))
      clear hb hq
      obtain ⟨w5, hw5⟩ : ∃ w5, w3.drewN q = w5 := ⟨_, rfl⟩
      rw [hw5] at HT ⊢
      clear hw5
      go_wp2_with fail
      go_loopw [9] (fun i wz => i = .int .i64 0 ∧ wz = w5) (fun _ _ => 0)
      case atStart => exact ⟨rfl, rfl⟩
      case round =>
        obtain ⟨rfl, rfl⟩ := hrel
        go_wp2_with fail
        refine (named_any s _).mono ?_
        rintro e w6 ⟨hb, ⟨hn, rfl⟩ | ⟨vb, l, hn, rfl, ho⟩⟩
        · replace HT := Lib.hid (HT.out.trans (hb.mono HT.out.size))
          clear hb hn
          go_wp2_with fail
          refine (rsame_any _ _ [] [] w6 (rgs_none _) (rgs_none _)).mono ?_
          rintro e w7 hs
          obtain ⟨B, rfl, hq, q2, rfl⟩ := hs
          obtain rfl : B = true := hq.2 rfl
          have hb := below_draws w6 q2
          replace HT := Lib.hid (HT.out.trans (hb.mono HT.out.size))
          clear hb hq
          go_wp2_with fail
          go_ret
          exact ⟨rfl, HT.out⟩
        · rw [HN.out] at hn
          cases hn
    · rw [HN.out] at hn
      cases hn
  · have HN := Lib.hid hn
    have HO := Lib.hid (ho.mono (HT.out.size))
    have hbs := Lib.hid hb
    replace HT := Lib.hid (HT.out.trans (hb.mono HT.out.size))
    clear hb hn ho
    go_wp2_with fail
    refine (rnamed_any s w2).mono ?_
    rintro e w3 ⟨hb, ⟨hn, rfl⟩ | ⟨vb, l', hn, rfl, ho⟩⟩
    · rw [HN.out] at hn
      cases hn
    · obtain rfl : l = l' := by
        rw [HN.out] at hn
        exact Option.some.inj hn
      have RB := Lib.hid ho
      have hga := HO.out.1.lt
      have h23 := hb.size
      replace HO := Lib.hid (HO.out.below hb)
      replace HT := Lib.hid (HT.out.trans (hb.mono HT.out.size))
      clear hb hn ho
      go_wp2_with fail
      refine (rsame_any _ _ l l w3 HO.out.rgs RB.out.rgs).mono ?_
      rintro e w4 hs
      obtain ⟨B, rfl, hq, q, rfl⟩ := hs
      obtain rfl : B = true := hq.2 rfl
      have hb := below_draws w3 q
      replace HT := Lib.hid (HT.out.trans (hb.mono HT.out.size))
      replace HO := Lib.hid (HO.out.below hb)
      replace RB := Lib.hid (RB.out.below hb)
      clear hb hq
      obtain ⟨w5, hw5⟩ : ∃ w5, w3.drewN q = w5 := ⟨_, rfl⟩
      rw [hw5] at HT HO RB ⊢
      clear hw5
      have hll : l.length ≤ 9223372036854775807 := by
        obtain ⟨_, _, _, _, h3, _⟩ := RB.out.rgs
        unfold maxLen at h3
        omega
      rcases own_slice2 HO.out.1 with ⟨rfl, h0⟩ | ⟨g, c, rfl, -, -, hBg⟩
      · exact absurd (List.eq_nil_of_length_eq_zero h0) (nameR_ne HN.out)
      · have hgB := hga g rfl
        have HM := Lib.hid (mut_of HO.out)
        go_wp2_with fail
        go_loopw [9] (fun i wz => ∃ k : Nat, k ≤ l.length ∧ i = .int .i64 k ∧ Mut wz g l.length ∧ OwnR wz w2.heap.size vb l ∧ Below w.heap.size w wz) (fun i _ => l.length - (intOf i).toNat)
        case atStart => exact ⟨0, Nat.zero_le _, rfl, HM.out, RB.out, HT.out⟩
        case round =>
          obtain ⟨k, hk, rfl, hM, hOb, hBz⟩ := hrel
          have HOB := Lib.hid hOb; have HBZ := Lib.hid hBz; have HMM := Lib.hid hM
          clear hOb hBz
          by_cases hkl : k < l.length
          · obtain ⟨cur, hW, hcc⟩ := hM
            obtain ⟨x, hx⟩ := hcc k hkl
            have c1 := hW.cell (k * 2)
            rw [hx] at c1
            have f1 := hW.free (k * 2)
            clear hcc hx hW
            go_wp2_with fail
            go_roundw
            case rel => exact ⟨k + 1, by omega, by go_num, HMM.out.store k _, ownR_far HOB.out hgB.2, HBZ.out.setCell (p := ⟨g, k * 2, none⟩) hBg _⟩
            case measure => simp [intOf]; omega
          · clear hM
            have hszz := HBZ.out.size
            go_wp2_with fail
            refine (named_any s _).mono ?_
            rintro e w6 ⟨hb, ⟨hn, rfl⟩ | ⟨vc, l', hn, rfl, ho⟩⟩
            · rw [HN.out] at hn
              cases hn
            · obtain rfl : l = l' := by
                rw [HN.out] at hn
                exact Option.some.inj hn
              have RC := Lib.hid ho.rgs
              have RB2 := Lib.hid (HOB.out.rgs.below hb)
              have HT2 := Lib.hid (HBZ.out.trans (hb.mono hszz))
              clear hb hn ho
              go_wp2_with fail
              refine (rsame_any _ _ l l w6 RC.out RB2.out).mono ?_
              rintro e w7 hs
              obtain ⟨B, rfl, hq, q2, rfl⟩ := hs
              obtain rfl : B = true := hq.2 rfl
              have HT3 := Lib.hid (below_drewNr HT2.out q2)
              clear hq
              go_wp2_with fail
              go_ret
              exact ⟨rfl, HT3.out⟩
end Go.Proofs.YthfmoodjdokaiaaDoor
