/- How many parts a tree has, up to a bound: the document's Parts. -/
import Derived.Test.YthapafaeakgfpaaTrSpec
set_option linter.unusedVariables false
namespace Go.Proofs.Ythapafaeakgfpaa
open Go Go.RowKit

/-- Parts' answer: the parts, if they are within the bound; else more than it. -/
def PartsPost (m : Nat) (t : Tr) (w : World) (e : Ending) (w' : World) : Prop :=
  ∃ r : Nat, e = .returned (.int .i64 r) ∧ (partsR t ≤ m → r = partsR t) ∧ (m < partsR t → m < r) ∧ r ≤ m + 1 + 17592186044416 ∧ Below w.heap.size w w'
theorem take_sum {l : List Tr} {k : Nat} (h : k < l.length) : ((l.take (k + 1)).map partsR).sum = ((l.take k).map partsR).sum + partsR l[k] := by
  rw [List.take_succ_eq_append_getElem h, List.map_append, List.sum_append]
  simp
theorem take_sum_le (l : List Tr) (k : Nat) : ((l.take k).map partsR).sum ≤ (l.map partsR).sum := by
  conv => rhs; rw [← List.take_append_drop k l, List.map_append, List.sum_append]
  omega

set_option maxHeartbeats 1600000 in
set_option maxRecDepth 100000 in
theorem parts_any (m : Nat) : ∀ (hm : m ≤ 1000000) (t : Tr) (v : Value) (w : World) (h : Tre w t v), Calls Try.prog 31 #[v, .int .i64 m] w (PartsPost m t w) := by
  induction m using Nat.strongRecOn with
  | _ m ih =>
  intro hm t v w h
  have IH := Lib.hid ih
  obtain ⟨kv, sv, rfl, hS, hF, hK⟩ := h.parts
  have hsl : t.fld.set.length ≤ 17592186044416 := hF.2.2.2.2.2.2.2
  obtain ⟨A, c, rfl, -, -, hk1, -⟩ := hK
  obtain ⟨a2, c2, rfl, -⟩ := hS
  have HT := Lib.hid h
  obtain ⟨w1, hw1⟩ : ∃ w1, w.alloc (.cells (treC t.fld (.slice A t.kids.length c) (.slice a2 t.fld.set.length c2)) 27) = w1 := ⟨_, rfl⟩
  have hb1 : Below w.heap.size w w1 := by rw [← hw1]; exact (Below.refl _ _).alloc (Nat.le_refl _) _
  have hE1 : CellsAt w1 w.heap.size 0 (treC t.fld (.slice A t.kids.length c) (.slice a2 t.fld.set.length c2)) := by rw [← hw1]; exact cellsAt_new w _ _
  have HB1 := Lib.hid hb1; have HE1 := Lib.hid hE1; have HW1 := Lib.hid hw1
  obtain ⟨e0, e1, e2, e3, -⟩ := hE1.ten
  simp only [Nat.zero_add] at e1 e3
  have hs1 := hb1.size
  have he := partsR_eq t
  obtain ⟨M, hM⟩ : ∃ M, (t.kids.map partsR).sum = M := ⟨_, rfl⟩
  rw [hM] at he
  have HM := Lib.hid hM
  clear h hb1 hE1 hw1 ih hM
  unfold treC at HW1
  obtain ⟨s, hs⟩ : ∃ s, t.fld.set.length = s := ⟨_, rfl⟩
  obtain ⟨n, hn⟩ : ∃ n, t.kids.length = n := ⟨_, rfl⟩
  rw [hs] at hsl e3 HW1 HT HE1 he
  rw [hn] at hk1 e1 HW1 HT HE1
  have HN := Lib.hid hn; have HSS := Lib.hid hs; have HE := Lib.hid he
  rw [hs, hn]
  clear hs hn he
  unfold treC at *
  go_enter Try.func31, Try.ntmps31
  go_wp2_with fail
  rw [HW1.out]
  go_loopw [5, 6] (fun nn i wr => ∃ k r : Nat, k ≤ n ∧ i = .int .i64 k ∧ nn = .int .i64 r ∧ Below w1.heap.size w1 wr ∧ (1 + s + ((t.kids.take k).map partsR).sum ≤ m → r = 1 + s + ((t.kids.take k).map partsR).sum) ∧ (m < 1 + s + ((t.kids.take k).map partsR).sum → m < r) ∧ 1 ≤ r ∧ r ≤ m + 1 + 17592186044416) (fun _ i _ => n - (intOf i).toNat)
  case atStart => exact ⟨0, 1 + s, Nat.zero_le _, rfl, by simp, Below.refl _ _, by simp, by simp, by omega, by omega⟩
  case round =>
    obtain ⟨k, r, hk, rfl, rfl, hB, h1, h2, h3, h4⟩ := hrel
    have HB := Lib.hid hB
    have d1 := (hB.cell (p := ⟨w.heap.size, 1, none⟩) (World.block_lt_of_cell? w1 _ e1)).trans e1
    obtain ⟨S, hS⟩ : ∃ S, ((t.kids.take k).map partsR).sum = S := ⟨_, rfl⟩
    rw [hS] at h1 h2
    have HSM := Lib.hid hS
    have hSle : S ≤ M := by rw [← hS, ← HM.out]; exact take_sum_le _ _
    have H1 := Lib.hid h1; have H2 := Lib.hid h2
    clear hB hS h1 h2
    by_cases hkn : k < n
    · by_cases hrm : r ≤ m
      · have hr1 : r = 1 + s + S := by
          by_cases h : 1 + s + S ≤ m
          · exact H1.out h
          · have := H2.out (by omega); omega
        have hkl : k < t.kids.length := by rw [HN.out]; exact hkn
        have hKw : Kds wr t.kids (.slice A t.kids.length c) := by
          have := ((HT.out.below HB1.out).below HB.out).parts
          obtain ⟨kv, sv, e, -, -, hK⟩ := this
          injection e with e
          unfold treC at e
          have e' := congrArg (fun a : Array Value => a[1]?) e
          simp at e'
          rw [HN.out]
          rw [← e'] at hK
          exact hK
        obtain ⟨b, o, hA, -, kv, sv, hC, hTk⟩ := hKw.at' k hkl
        have ha := partsR_kid (List.getElem_mem hkl)
        have hts := take_sum hkl
        obtain ⟨tk, htk⟩ : ∃ tk, t.kids[k] = tk := ⟨_, rfl⟩
        rw [htk] at hC hTk ha hts
        obtain ⟨c0, c1, c2', c3, c4, c5, c6, c7, c8, c9⟩ := hC.ten
        have HI := Lib.hid (IH.out (m - r) (by omega) (by omega) tk (.agg (treC tk.fld kv sv)) wr hTk)
        unfold treC at HI
        rw [show ((m - r : Nat) : Int) = (m : Int) - (r : Int) by omega] at HI
        have HA := Lib.hid hA; have HTS := Lib.hid hts; have HR1 := Lib.hid hr1
        clear hr1 hKw hA hC hTk htk ha hts
        rw [HA.out] at d1
        clear HT
        go_wp2_with fail
        refine HI.out.mono ?_
        rintro e w2 ⟨r2, rfl, q1, q2, q3, q4⟩
        have HB2 := Lib.hid (HB.out.trans (q4.mono HB.out.size)); have Q1 := Lib.hid q1; have Q2 := Lib.hid q2
        clear q1 q2 q4 c0 c1 c2' c3 c4 c5 c6 c7 c8 c9
        go_wp2_with fail
        go_roundw
        case rel =>
          refine ⟨k + 1, r + r2, by omega, by go_num, by go_num, HB2.out, ?_, ?_, by omega, by omega⟩
          · rw [HTS.out, HSM.out]
            intro h
            have hr1 := HR1.out
            have := Q1.out (by omega)
            omega
          · rw [HTS.out, HSM.out]
            intro h
            have hr1 := HR1.out
            have := Q2.out (by omega)
            omega
        case measure => simp [intOf]; omega
      · have hf : decide ((r : Int) ≤ (m : Int)) = false := decide_eq_false (by omega)
        have hnm : ¬ (r : Int) ≤ (m : Int) := by omega
        go_wp2_with fail
        go_ret
        refine ⟨r, rfl, fun h => ?_, fun _ => by omega, by omega, HB1.out.trans (HB.out.mono HB1.out.size)⟩
        exfalso
        have e1 := HE.out
        have := H1.out (by omega)
        omega
    · have hk2 : t.kids.take k = t.kids := List.take_of_length_le (by rw [HN.out]; omega)
      have hSM : S = M := by rw [← HSM.out, hk2, HM.out]
      have HQ := Lib.hid hSM
      clear hk2 hSM
      go_wp2_with fail
      go_ret
      refine ⟨r, rfl, fun h => ?_, fun h => ?_, by omega, HB1.out.trans (HB.out.mono HB1.out.size)⟩
      · have e1 := HE.out
        have e2 := HQ.out
        have := H1.out (by omega)
        omega
      · have e1 := HE.out
        have e2 := HQ.out
        exact H2.out (by omega)
end Go.Proofs.Ythapafaeakgfpaa
