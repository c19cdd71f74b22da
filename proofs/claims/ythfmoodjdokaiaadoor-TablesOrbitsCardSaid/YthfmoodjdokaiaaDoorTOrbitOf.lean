/- The program's orbit of a rune, by its two tables: what the document's is. -/
import Derived.Test.YthfmoodjdokaiaaDoorTOrbit
set_option linter.unusedVariables false
namespace Go.Proofs.YthfmoodjdokaiaaDoor
open Go Go.RowKit

def OrbPost (c : Int) (w : World) (e : Ending) (w' : World) : Prop := e = .returned (orbA (orbR c)) ∧ Below w.heap.size w w'
theorem groups_take {m : Nat} {g : List Int} (h : groupsR[m]? = some g) : groupsR.take (m + 1) = groupsR.take m ++ [g] := by
  obtain ⟨hl, hg⟩ := List.getElem?_eq_some_iff.1 h
  rw [List.take_succ_eq_append_getElem hl, hg]
theorem orb_great {c : Int} (h0 : 0 ≤ c) (h1 : c ≤ 1114111) (hN : ∀ g ∈ groupsR, c ∉ g) {x y : Int} (hs : (x, y) ∈ greatL) (hx : x ≤ c) (hy : c ≤ y) : orbR c = [c, c + 32] ∧ I32 (c + 32) := by
  have hI : ¬ InG c := fun h => by obtain ⟨g, hg, hc⟩ := find_of_inG h; exact hN g hg hc
  have hg : greatB c = true := by
    rw [great_iff]
    unfold InG at hI
    unfold greatL at hs
    simp only [List.mem_cons, Prod.mk.injEq, List.not_mem_nil, or_false] at hs
    omega
  rw [orb_plain h0 h1 hI, if_pos hg]
  exact ⟨rfl, by unfold I32; omega⟩
theorem orb_small {c : Int} (h0 : 0 ≤ c) (h1 : c ≤ 1114111) (hN : ∀ g ∈ groupsR, c ∉ g) {x y : Int} (hs : (x, y) ∈ greatL) (hx : x ≤ c - 32) (hy : c - 32 ≤ y) : orbR c = [c - 32, c] := by
  have hI : ¬ InG c := fun h => by obtain ⟨g, hg, hc⟩ := find_of_inG h; exact hN g hg hc
  have hg : greatB c = false := by
    cases h : greatB c
    · rfl
    · rw [great_iff] at h
      unfold greatL at hs
      simp only [List.mem_cons, Prod.mk.injEq, List.not_mem_nil, or_false] at hs
      omega
  have hg2 : greatB (c - 32) = true := by
    rw [great_iff]
    unfold InG at hI
    unfold greatL at hs
    simp only [List.mem_cons, Prod.mk.injEq, List.not_mem_nil, or_false] at hs
    omega
  have h32 : 32 ≤ c := by have := greatB_bound hg2; omega
  rw [orb_plain h0 h1 hI, hg, if_neg (by decide), if_pos ⟨h32, hg2⟩]
theorem orb_alone {c : Int} (h0 : 0 ≤ c) (h1 : c ≤ 1114111) (hN : ∀ g ∈ groupsR, c ∉ g) (hG : ∀ s ∈ greatL, ¬ (s.1 ≤ c ∧ c ≤ s.2) ∧ ¬ (s.1 ≤ c - 32 ∧ c - 32 ≤ s.2)) : orbR c = [c] := by
  have hI : ¬ InG c := fun h => by obtain ⟨g, hg, hc⟩ := find_of_inG h; exact hN g hg hc
  have hg : ∀ d, (∀ s ∈ greatL, ¬ (s.1 ≤ d ∧ d ≤ s.2)) → greatB d = false := fun d hd => by
    cases h : greatB d
    · rfl
    · rw [great_iff] at h
      have e := fun s hs => hd s hs
      unfold greatL at e
      simp only [List.mem_cons, List.not_mem_nil, or_false, forall_eq_or_imp, forall_eq] at e
      omega
  rw [orb_plain h0 h1 hI, hg c (fun s hs => (hG s hs).1), if_neg (by decide), if_neg]
  rintro ⟨_, h⟩
  rw [hg (c - 32) (fun s hs => (hG s hs).2)] at h
  cases h
theorem great_take {m : Nat} {x y : Int} (h : greatL[m]? = some (x, y)) : greatL.take (m + 1) = greatL.take m ++ [(x, y)] := by
  obtain ⟨hl, hg⟩ := List.getElem?_eq_some_iff.1 h
  rw [List.take_succ_eq_append_getElem hl, hg]
theorem orb_in {c : Int} {m : Nat} {g : List Int} (h : groupsR[m]? = some g) (hN : ∀ g ∈ groupsR.take m, c ∉ g) (hc : c ∈ g) : orbR c = g := orb_group (List.mem_of_getElem? h) hc

theorem orb_ret {c : Int} {w w2 : World} {tmps : Array Value} (n x y z : Int) (hp : tmps.getD 2 undef = .pointer (some ⟨w.heap.size, 0, none⟩)) (hR : Whole w2 w.heap.size 46 #[.int .i64 0, .int .i32 0, .int .i32 0, .int .i32 0]) (hB : Below w.heap.size w w2)
    (he : orbA (orbR c) = .agg #[.int .i64 n, .int .i32 x, .int .i32 y, .int .i32 z]) : bodyPost Tryd.prog Tryd.f21 (OrbPost c w) Exit.ret { tmps := tmps, defers := [] }
      ((((w2.setCell ⟨w.heap.size, 0, none⟩ (.int .i64 n)).setCell ⟨w.heap.size, 1, none⟩ (.int .i32 x)).setCell ⟨w.heap.size, 2, none⟩ (.int .i32 y)).setCell ⟨w.heap.size, 3, none⟩ (.int .i32 z)) := by
  have h4 := (((hR.store 0 (.int .i64 n)).store 1 (.int .i32 x)).store 2 (.int .i32 y)).store 3 (.int .i32 z)
  refine bodyPost_ret (v := .agg #[.int .i64 n, .int .i32 x, .int .i32 y, .int .i32 z]) (results_cell_row Tryd.results21 tmps _ w.heap.size 46 _ (0, 0) _ hp h4 Tryd.underlying46 rfl (by kernel_rfl)) rfl ⟨by rw [he], ?_⟩
  exact (((hB.setCell (p := ⟨w.heap.size, 0, none⟩) (Nat.le_refl _) _).setCell (p := ⟨w.heap.size, 1, none⟩) (Nat.le_refl _) _).setCell (p := ⟨w.heap.size, 2, none⟩) (Nat.le_refl _) _).setCell (p := ⟨w.heap.size, 3, none⟩) (Nat.le_refl _) _

set_option maxHeartbeats 1600000 in
set_option maxRecDepth 100000 in
theorem orbitOf_any (c : Int) (h0 : 0 ≤ c) (h1 : c ≤ 1114111) (w : World) (hT : TabsT w) : Calls Tryd.prog 21 #[.int .i32 c] w (OrbPost c w) := by
  obtain ⟨OA, hOA⟩ : ∃ OA : Array Value, (oddL.map oddCells).flatten.toArray = OA := ⟨_, rfl⟩
  obtain ⟨GA, hGA⟩ : ∃ GA : Array Value, (greatL.map spanCells).flatten.toArray = GA := ⟨_, rfl⟩
  have hodd := odd_at
  have hgreat := great_at
  have hOs : OA.size = 28 := by rw [← hOA]; rfl
  have hGs : GA.size = 12 := by rw [← hGA]; rfl
  obtain ⟨⟨t1, fr1, g1⟩, t2, fr2, g2⟩ := hT
  rw [hOA] at hodd g1
  rw [hGA] at hgreat g2
  have HODD := Lib.hid hodd; have HGREAT := Lib.hid hgreat; have G1 := Lib.hid g1; have G2 := Lib.hid g2; have HOS := Lib.hid hOs; have HGS := Lib.hid hGs
  clear hOA hGA hodd hgreat g1 g2 hOs hGs
  obtain ⟨w1, hw1⟩ : ∃ w1, w.alloc (.cells #[.int .i64 0, .int .i32 0, .int .i32 0, .int .i32 0] 46) = w1 := ⟨_, rfl⟩
  have hb1 : Below w.heap.size w w1 := by rw [← hw1]; exact (Below.refl _ w).alloc (Nat.le_refl _) _
  have hWh : Whole w1 w.heap.size 46 #[.int .i64 0, .int .i32 0, .int .i32 0, .int .i32 0] := by rw [← hw1]; exact heap_alloc_new w _
  have hs1 : w1.heap.size = w.heap.size + 1 := by rw [← hw1]; simp
  have HB1 := Lib.hid hb1; have HWH := Lib.hid hWh; have HS1 := Lib.hid hs1; have HW1 := Lib.hid hw1
  clear hb1 hWh hs1 hw1
  have hlt1 : 0 < w.heap.size := (Array.getElem?_eq_some_iff.1 G1.out).1
  have hlt2 : 1 < w.heap.size := (Array.getElem?_eq_some_iff.1 G2.out).1
  go_enter Tryd.func21, Tryd.ntmps21
  go_wp2_with (refine wpList_load_row rfl 55 (.global 0) rfl 0 rfl t1 OA fr1 _ (by rw [HW1.out]; exact (HB1.out.block _ hlt1).trans G1.out) Tryd.underlying55 rfl (by rw [HOS.out]; kernel_rfl) ?_)
  rw [HW1.out]
  go_loopw [8] (fun i wr => ∃ m : Nat, m ≤ 7 ∧ i = .int .i64 m ∧ Below w1.heap.size w1 wr ∧ ∀ g ∈ groupsR.take m, c ∉ g) (fun i _ => 7 - (intOf i).toNat)
  case atStart => exact ⟨0, Nat.zero_le _, rfl, Below.refl _ _, by simp⟩
  case round =>
    obtain ⟨m, hm, rfl, hB, hN⟩ := hrel
    have HB := Lib.hid hB; have HN := Lib.hid hN
    clear hB hN
    by_cases hlt : m < 7
    · obtain ⟨n, x, y, z, hi, hg, hn, ho⟩ := HODD.out m hlt
      have HG := Lib.hid hg; have HO := Lib.hid ho
      have hmz : (m : Int) < 7 := by omega
      have hsz := HB.out.size
      clear hg ho
      go_wp2_with fail
      refine (ohas_any n hn x y z c _).mono ?_
      rintro e w2 ⟨rfl, hb⟩
      have hB2 : Below w1.heap.size w1 w2 := (HB.out.alloc hsz _).trans (hb.mono (by simp; omega))
      have hE : Whole w2 wr.heap.size 46 #[.int .i64 n, .int .i32 x, .int .i32 y, .int .i32 z] := (hb.block _ (by simp)).trans (heap_alloc_new wr _)
      have HB2 := Lib.hid hB2
      have r0 := hE.cell 0; have r1 := hE.cell 1; have r2 := hE.cell 2; have r3 := hE.cell 3
      have hR : Whole w2 w.heap.size 46 #[.int .i64 0, .int .i32 0, .int .i32 0, .int .i32 0] := (hB2.block _ (by rw [HS1.out]; omega)).trans HWH.out
      have HR := Lib.hid hR
      have q0 := hR.cell 0; have q1 := hR.cell 1; have q2 := hR.cell 2; have q3 := hR.cell 3
      have p0 := hR.free 0; have p1 := hR.free 1; have p2 := hR.free 2; have p3 := hR.free 3
      simp at r0 r1 r2 r3 q0 q1 q2 q3
      clear hb hE hB2 hR
      by_cases hin : c ∈ [x, y, z].take n
      · have he : orbR c = [x, y, z].take n := orb_in HG.out HN.out hin
        have HE := Lib.hid he
        rw [decide_eq_true hin]
        clear he hin
        go_wp2_with fail
        exact orb_ret n x y z rfl HR.out (HB1.out.trans (HB2.out.mono (by rw [HS1.out]; omega))) (by rw [HE.out, HO.out])
      · rw [decide_eq_false hin]
        have HIN := Lib.hid hin
        clear hin
        go_wp2_with fail
        go_roundw
        case rel =>
          refine ⟨m + 1, hlt, by go_num, HB2.out, fun g hg => ?_⟩
          rw [groups_take HG.out] at hg
          rcases List.mem_append.1 hg with hg | hg
          · exact HN.out g hg
          · rw [List.mem_singleton.1 hg]
            exact HIN.out
        case measure => simp [intOf]; omega
    · have hn7 : ∀ g ∈ groupsR, c ∉ g := by
        have e : groupsR.take m = groupsR := List.take_of_length_le (by show 7 ≤ m; omega)
        have := HN.out
        rwa [e] at this
      have HN7 := Lib.hid hn7
      clear hn7
      have hmz : ¬ (m : Int) < 7 := by omega
      go_wp2_with (refine wpList_load_row rfl 56 (.global 1) rfl 1 rfl t2 GA fr2 _ ((HB.out.block _ (by rw [HS1.out]; omega)).trans ((HB1.out.block _ hlt2).trans G2.out)) Tryd.underlying56 rfl (by rw [HGS.out]; kernel_rfl) ?_)
      go_loopw [17] (fun i wy => ∃ k : Nat, k ≤ 6 ∧ i = .int .i64 k ∧ Below w1.heap.size w1 wy ∧ ∀ s ∈ greatL.take k, ¬ (s.1 ≤ c ∧ c ≤ s.2) ∧ ¬ (s.1 ≤ c - 32 ∧ c - 32 ≤ s.2)) (fun i _ => 6 - (intOf i).toNat)
      case atStart => exact ⟨0, Nat.zero_le _, rfl, HB.out, by simp⟩
      case round =>
        obtain ⟨k, hk, rfl, hBy, hS⟩ := hrel
        have HBY := Lib.hid hBy; have HSS := Lib.hid hS
        clear hBy hS
        by_cases hkl : k < 6
        · obtain ⟨x, y, hi, hg⟩ := HGREAT.out k hkl
          have HG := Lib.hid hg
          have hkz : (k : Int) < 6 := by omega
          have hsz := HBY.out.size
          clear hg
          go_wp2_with fail
          refine (shas_any x y c _).mono ?_
          rintro e w2 ⟨rfl, hb⟩
          have hB2 : Below w1.heap.size w1 w2 := (HBY.out.alloc hsz _).trans (hb.mono (by simp; omega))
          have hE : Whole w2 _ 40 #[.int .i32 x, .int .i32 y] := (hb.block _ (by simp)).trans (heap_alloc_new _ _)
          have HB2 := Lib.hid hB2
          have hszy := hB2.size
          have r0 := hE.cell 0; have r1 := hE.cell 1
          have hR : Whole w2 w.heap.size 46 #[.int .i64 0, .int .i32 0, .int .i32 0, .int .i32 0] := (hB2.block _ (by rw [HS1.out]; omega)).trans HWH.out
          have HR := Lib.hid hR
          have q0 := hR.cell 0; have q1 := hR.cell 1; have q2 := hR.cell 2; have q3 := hR.cell 3
          have p0 := hR.free 0; have p1 := hR.free 1; have p2 := hR.free 2; have p3 := hR.free 3
          simp at r0 r1 q0 q1 q2 q3
          clear hb hE hB2 hR
          by_cases hin : x ≤ c ∧ c ≤ y
          · obtain ⟨he, hi32⟩ := orb_great h0 h1 HN7.out (List.mem_of_getElem? HG.out) hin.1 hin.2
            have HE := Lib.hid he
            unfold I32 at hi32
            rw [decide_eq_true hin]
            clear he hin
            go_wp2_with fail
            exact orb_ret 2 c (c + 32) 0 rfl HR.out (HB1.out.trans (HB2.out.mono (by rw [HS1.out]; omega))) (by rw [HE.out]; rfl)
          · rw [decide_eq_false hin]
            have HIN := Lib.hid hin
            clear hin
            go_wp2_with fail
            refine (shas_any x y (c - 32) _).mono ?_
            rintro e w3 ⟨rfl, hb⟩
            have hB3 : Below w1.heap.size w1 w3 := HB2.out.trans (hb.mono hszy)
            have HB3 := Lib.hid hB3
            have hR : Whole w3 w.heap.size 46 #[.int .i64 0, .int .i32 0, .int .i32 0, .int .i32 0] := (hB3.block _ (by rw [HS1.out]; omega)).trans HWH.out
            have HR3 := Lib.hid hR
            have u0 := hR.cell 0; have u1 := hR.cell 1; have u2 := hR.cell 2; have u3 := hR.cell 3
            have v0 := hR.free 0; have v1 := hR.free 1; have v2 := hR.free 2; have v3 := hR.free 3
            simp at u0 u1 u2 u3
            clear hb hB3 hR q0 q1 q2 q3 p0 p1 p2 p3 r0 r1
            by_cases hin : x ≤ c - 32 ∧ c - 32 ≤ y
            · have he := orb_small h0 h1 HN7.out (List.mem_of_getElem? HG.out) hin.1 hin.2
              have HE := Lib.hid he
              rw [decide_eq_true hin]
              clear he hin
              go_wp2_with fail
              exact orb_ret 2 (c - 32) c 0 rfl HR3.out (HB1.out.trans (HB3.out.mono (by rw [HS1.out]; omega))) (by rw [HE.out]; rfl)
            · rw [decide_eq_false hin]
              have HIN2 := Lib.hid hin
              clear hin
              go_wp2_with fail
              go_roundw
              case rel =>
                refine ⟨k + 1, hkl, by go_num, HB3.out, fun s hs => ?_⟩
                rw [great_take HG.out] at hs
                rcases List.mem_append.1 hs with hs | hs
                · exact HSS.out s hs
                · rw [List.mem_singleton.1 hs]
                  exact ⟨HIN.out, HIN2.out⟩
              case measure => simp [intOf]; omega
        · have hn6 : ∀ s ∈ greatL, ¬ (s.1 ≤ c ∧ c ≤ s.2) ∧ ¬ (s.1 ≤ c - 32 ∧ c - 32 ≤ s.2) := by
            have e : greatL.take k = greatL := List.take_of_length_le (by show 6 ≤ k; omega)
            have := HSS.out
            rwa [e] at this
          have he := orb_alone h0 h1 HN7.out hn6
          have HE := Lib.hid he
          have hkz : ¬ (k : Int) < 6 := by omega
          have hR : Whole _ w.heap.size 46 #[.int .i64 0, .int .i32 0, .int .i32 0, .int .i32 0] := (HBY.out.block _ (by rw [HS1.out]; omega)).trans HWH.out
          have HR := Lib.hid hR
          have q0 := hR.cell 0; have q1 := hR.cell 1; have q2 := hR.cell 2; have q3 := hR.cell 3
          have p0 := hR.free 0; have p1 := hR.free 1; have p2 := hR.free 2; have p3 := hR.free 3
          simp at q0 q1 q2 q3
          clear hn6 he hR
          go_wp2_with fail
          exact orb_ret 1 c 0 0 rfl HR.out (HB1.out.trans (HBY.out.mono (by rw [HS1.out]; omega))) (by rw [HE.out]; rfl)
end Go.Proofs.YthfmoodjdokaiaaDoor
