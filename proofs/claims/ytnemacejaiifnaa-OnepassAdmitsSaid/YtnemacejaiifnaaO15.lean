/- Texts merged by program: OeRepeat. No condition. -/
import Derived.Test.YtnemacejaiifnaaO9
import Derived.Test.YtnemacejaiifnaaO14
import Derived.Laws.MakeOwn
import Derived.Laws.CopyOwn
import Derived.Deep.RegionLaw
set_option linter.unusedVariables false
/- The library's Repeat of a list of one number, as 'through' asks it. No condition. -/
set_option linter.unusedSimpArgs false
namespace Go.Proofs.Ytnemacejaiifnaa
open Go Go.RowKit

def fitCO (c : List Int) : Array Value := (litsZ c).toArray
section
variable {P : Program}
theorem drun_copyNO (w : World) (dT sT ty elem : TypeId) (z g o dLen dCap : Nat) (a : Addr) (sLen sCap : Nat) (cur : Array Value) (t : TypeId) (m : Nat) (cs : List Value)
    (hu : P.underlying dT = some (.slice elem)) (hs : (P.info? elem).map (·.size) = some z)
    (hg : w.heap[g]? = some (.cells cur t (0, 0))) (hm : Nat.min sLen dLen = m) (hn : cs.length = m * z)
    (hsrc : ∀ j v, cs[j]? = some v → w.cell? (a.add j) = some v) (hfit : o + cs.length ≤ cur.size) (h1 : ∀ v ∈ cs, v.oneCell' = true) :
    (Builtin.copy_ #[dT, sT] ty #[.slice (some ⟨g, o, none⟩) dLen dCap, .slice (some a) sLen sCap]).run P w =
      .ok (goInt m) (w.setRow g (cur.toList.take o ++ cs ++ cur.toList.drop (o + cs.length)).toArray) := by
  have hl := run_loadCells_list (P := P) w a cs hsrc
  have hst := run_storeCells_at P g o t cs 0 cur w hg (by simpa using hfit) h1
  cases hq : P.info? elem with
  | none => simp [hq] at hs
  | some i =>
    have hi : i.size = z := by simpa [hq] using hs
    simp [Builtin.copy_, run_underlying hu, Builtin.lenOf, Builtin.firstCells, sizeOf, typeInfo, hq, hi, hm, ← hn, hl, hst]
theorem dwpList_copyNO {w : World} {ops : Array Oper} {rest : List Oper} {o : Oper} {a : Act} {Q : Exit → Act → World → Prop} (hgd : o.guard = none) (d s : Operand) (dT sT : TypeId)
    (ho : o.op = .call { callee := .builtin .copy, args := #[d, s], argTypes := #[dT, sT] }) (elem : TypeId) (z : Nat) (hu : P.underlying dT = some (.slice elem)) (hsz : (P.info? elem).map (·.size) = some z)
    (g off dLen dCap : Nat) (ad : Addr) (sLen sCap : Nat) (hd : a.eval d = .slice (some ⟨g, off, none⟩) dLen dCap) (hs : a.eval s = .slice (some ad) sLen sCap)
    (cur : Array Value) (t : TypeId) (hg : w.heap[g]? = some (.cells cur t (0, 0))) (m : Nat) (hm : Nat.min sLen dLen = m) (cs : List Value) (hn : cs.length = m * z)
    (hsrc : ∀ j v, cs[j]? = some v → w.cell? (ad.add j) = some v) (hfit : off + cs.length ≤ cur.size) (h1 : ∀ v ∈ cs, v.oneCell' = true)
    (h : ∀ w', w' = w.setRow g (cur.toList.take off ++ cs ++ cur.toList.drop (off + cs.length)).toArray → wpList P ops Q rest (a.put o.dst (goInt m)) w') : wpList P ops Q (o :: rest) a w := by
  refine wpList_plain hgd fun K hK => ?_
  have hrun := drun_copyNO (P := P) w dT sT o.type elem z g off dLen dCap ad sLen sCap cur t m cs hu hsz hg hm hn hsrc hfit h1
  unfold Oper.wp
  simp only [execOp, ho, resolve, invoke, builtin, Sem.run_bind, Sem.run_pure, Result.andThen_ok, List.map_toArray, List.map_cons, List.map_nil, hd, hs, hrun]
  exact hK _ _ (h _ rfl)
theorem dstep_copyNO {ops : Array Oper} {o : Oper} {a : Act} {w : World} {Kk : Act → World → Prop} {Q : Exit → Act → World → Prop} {E : Prop} (hgd : o.guard = none) (d s : Operand) (dT sT : TypeId)
    (ho : o.op = .call { callee := .builtin .copy, args := #[d, s], argTypes := #[dT, sT] }) (elem : TypeId) (z : Nat) (hu : P.underlying dT = some (.slice elem)) (hsz : (P.info? elem).map (·.size) = some z)
    (g off dLen dCap : Nat) (ad : Addr) (sLen sCap : Nat) (hd : a.eval d = .slice (some ⟨g, off, none⟩) dLen dCap) (hs : a.eval s = .slice (some ad) sLen sCap)
    (cur : Array Value) (t : TypeId) (hg : w.heap[g]? = some (.cells cur t (0, 0))) (m : Nat) (hm : Nat.min sLen dLen = m) (cs : List Value) (hn : cs.length = m * z)
    (hsrc : ∀ j v, cs[j]? = some v → w.cell? (ad.add j) = some v) (hfit : off + cs.length ≤ cur.size) (h1 : ∀ v ∈ cs, v.oneCell' = true)
    (h : ∀ w', w' = w.setRow g (cur.toList.take off ++ cs ++ cur.toList.drop (off + cs.length)).toArray → Kk (a.put o.dst (goInt m)) w') :
    if Region.wanted o (yielded ops a.tmps) = true then Oper.wp P o a w Kk Q else E := by
  have hw : Region.wanted o (yielded ops a.tmps) = true := by
    unfold Region.wanted
    rw [hgd]
  rw [if_pos hw]
  have hrun := drun_copyNO (P := P) w dT sT o.type elem z g off dLen dCap ad sLen sCap cur t m cs hu hsz hg hm hn hsrc hfit h1
  unfold Oper.wp
  simp only [execOp, ho, resolve, invoke, builtin, Sem.run_bind, Sem.run_pure, Result.andThen_ok, List.map_toArray, List.map_cons, List.map_nil, hd, hs, hrun]
  exact h _ rfl
end
/-- A row whose first m cells are X's one. -/
def RepIO (X : List Value) (cs : Array Value) (n m : Nat) : Prop := cs.size = n * 1 ∧ ∀ j, j < m * 1 → cs[j]? = X[j % 1]?
theorem repI_copiedO {X : List Value} {cs : Array Value} {n m k : Nat} (h : RepIO X cs n m) (hk : k ≤ m) (hmn : m + k ≤ n) : RepIO X (cs.toList.take (m * 1) ++ cs.toList.take (k * 1) ++ cs.toList.drop (m * 1 + (cs.toList.take (k * 1)).length)).toArray n (m + k) := by
  obtain ⟨h1, h2⟩ := h
  have hl : (cs.toList.take (k * 1)).length = k * 1 := by rw [List.length_take, Array.length_toList, h1]; omega
  have hl2 : (cs.toList.take (m * 1)).length = m * 1 := by rw [List.length_take, Array.length_toList, h1]; omega
  refine ⟨?_, fun j hj => ?_⟩
  · rw [hl]
    simp only [List.size_toArray, List.length_append, List.length_drop, Array.length_toList, hl, hl2, h1]
    omega
  · rw [List.getElem?_toArray]
    by_cases hjm : j < m * 1
    · rw [List.append_assoc, List.getElem?_append_left (by omega), List.getElem?_take_of_lt hjm, Array.getElem?_toList]
      exact h2 j hjm
    · rw [List.getElem?_append_left (by rw [List.length_append]; omega), List.getElem?_append_right (by omega), hl2, List.getElem?_take_of_lt (by omega), Array.getElem?_toList, h2 _ (by omega)]
      congr 1
      omega
theorem repI_firstO {X : List Value} {cs : Array Value} {n : Nat} (hX : X.length = 1) (hn : 1 ≤ n) (hc : cs.size = n * 1) : RepIO X (cs.toList.take 0 ++ X ++ cs.toList.drop (0 + X.length)).toArray n 1 := by
  refine ⟨?_, fun j hj => ?_⟩
  · simp only [List.size_toArray, List.length_append, List.length_drop, List.length_take, Array.length_toList, hX, hc]
    omega
  · rw [List.getElem?_toArray, List.take_zero, List.nil_append, List.getElem?_append_left (by omega)]
    congr 1
    omega
theorem repI_allO {cs : Array Value} {n : Nat} (h : RepIO (#[Value.int .i64 (-1)] : Array Value).toList cs n n) : cs = fitCO (List.replicate n (-1)) := by
  refine Array.ext_getElem? fun j => ?_
  by_cases hj : j < n
  · rw [h.2 j (by omega)]
    simp [fitCO, litsZ, hj, Nat.mod_one]
  · rw [Array.getElem?_eq_none (by rw [h.1]; omega)]
    simp [fitCO, litsZ, hj]
theorem dinfo_intNO : (Try.prog.info? 3).map (·.size) = some 1 := by kernel_rfl
theorem dmake_intsO (n : Nat) (hn : n ≤ 5000) : ∃ C : Array Value, C.size = n * 1 ∧ ∀ W : World, (Instr.makeSlice 38 (.int .i64 (n : Int)) (.int .i64 (n : Int))).run Try.prog W = .ok (.slice (some ⟨W.heap.size, 0, none⟩) n n) (W.alloc (.cells C 3)) := by
  obtain ⟨i, hi, hz, hsize, hby⟩ := info_parts info_int15
  refine ⟨madeCells (Value.int .i64 0).cells (n * i.size), by rw [size_madeCells, hsize], fun W => ?_⟩
  have h := run_make (P := Try.prog) W 38 3 i _ Try.underlying38 hi hz .i64 .i64 (n : Int) (n : Int) (by omega) (Int.le_refl _) (by rw [hby]; omega) (by omega)
  simpa using h
set_option maxHeartbeats 4000000 in
set_option maxRecDepth 100000 in
theorem drepeat_anyO (n : Nat) (hn : n ≤ 5000) (b : Nat) (w : World) (hc : Whole w b 3 #[.int .i64 (-1)]) :
    Calls Try.prog 68 #[.slice (some ⟨b, 0, none⟩) 1 1, .int .i64 n] w fun e w' => ∃ g, e = .returned (.slice (some ⟨g, 0, none⟩) n n) ∧ w.heap.size ≤ g ∧ Whole w' g 3 (fitCO (List.replicate n (-1))) ∧ Below w.heap.size w w' := by
  obtain ⟨X, hXe⟩ : ∃ X : Array Value, #[Value.int .i64 (-1)] = X := ⟨_, rfl⟩
  have hX : X.size = 1 ∧ ∀ v ∈ X.toList, v.oneCell' = true := by subst hXe; exact ⟨rfl, fun v hv => by rw [List.mem_singleton.1 hv]; rfl⟩
  have HXE := Lib.hid hXe
  rw [hXe] at hc
  have HM : Hid (∀ W : World, Calls Try.prog 109 #[.int .u64 1, .int .u64 (n : Int)] W fun e w' => e = .returned (.tuple #[.int .u64 0, .int .u64 (n : Int)]) ∧ w' = W) := Lib.hid fun W => by
    have h := Try.bits_Mul 1 n (by omega) (by omega) W
    rw [show 1 * n / 18446744073709551616 = 0 by omega, show 1 * n % 18446744073709551616 = n by omega] at h
    exact h
  obtain ⟨C, hC, hmk⟩ := dmake_intsO n hn
  obtain ⟨w1, hw1⟩ : ∃ w1, w.alloc (.cells C 3) = w1 := ⟨_, rfl⟩
  have hE1 : Whole w1 w.heap.size 3 C := by rw [← hw1]; exact heap_alloc_new w _
  have hB1 : Below w.heap.size w w1 := by rw [← hw1]; exact (Below.refl _ w).alloc (Nat.le_refl _) _
  have HX := Lib.hid hX; have HC := Lib.hid hC; have HW1 := Lib.hid hw1; have HE1 := Lib.hid hE1; have HB1 := Lib.hid hB1; have HCC := Lib.hid hc
  have uw : IntKind.u64.wrap (n : Int) = (n : Int) := by
    unfold IntKind.wrap
    simp only [IntKind.bits, IntKind.signed]
    simp
    omega
  have iw : IntKind.i64.wrap (n : Int) = (n : Int) := (IntWalk.i64_left _).trans (IntWalk.wrap64_in _ (by omega))
  have z0 : ¬ (n : Int) < 0 := by omega
  have z1 : ¬ (9223372036854775807 : Int) < (n : Int) := by omega
  clear hX hC hw1 hE1 hB1 hc hXe
  go_enter Try.func68, Try.ntmps68
  go_wp2_with fail
  refine (HM.out w).mono ?_
  rintro e w' ⟨rfl, rfl⟩
  go_upto_region 7 with (fail)
  rw [HW1.out]
  clear hmk
  have HD : Hid (∀ (cs : Array Value), RepIO X.toList cs n n → cs = fitCO (List.replicate n (-1))) := Lib.hid fun cs hR => by rw [← HXE.out] at hR; exact repI_allO hR
  have HXL := Lib.hid (show X.toList.length = 1 by rw [Array.length_toList]; exact HX.out.1)
  have hcell : ∀ W, Below w'.heap.size w' W → ∀ j v, X.toList[j]? = some v → W.cell? ((⟨b, 0, none⟩ : Addr).add j) = some v := fun W hB j v hv => by
    have hj : j < X.size := by
      have := (List.getElem?_eq_some_iff.1 hv).1
      rwa [Array.length_toList] at this
    rw [Array.getElem?_toList, Array.getElem?_eq_getElem hj] at hv
    rw [show (⟨b, 0, none⟩ : Addr).add j = ⟨b, 0 + j, none⟩ by unfold Addr.add; split <;> simp_all]
    rw [← Option.some.inj hv]
    rw [Nat.zero_add, (HCC.out.below hB HCC.out.lt).cell, Array.getElem?_eq_getElem hj]
  by_cases hn0 : n = 0
  · subst hn0
    go_wp2_with (refine dwpList_copyNO (o := ⟨some 33, _, _, _, _, _⟩) rfl (.tmp 31) (.tmp 32) 38 38 rfl 3 1 Try.underlying38 dinfo_intNO w'.heap.size 0 0 0 ⟨b, 0, none⟩ 1 1 rfl rfl C 3 HE1.out 0 rfl [] rfl (by simp) (by simp) (by simp) ?_; intro w2 hw2; have HW2 := Lib.hid hw2; clear hw2)
    have hE2 : Whole w2 w'.heap.size 3 (C.toList.take 0 ++ [] ++ C.toList.drop (0 + ([] : List Value).length)).toArray := by rw [HW2.out]; exact setRow_heap w1 _ _ _ _ _ HE1.out
    have hB2 : Below w'.heap.size w' w2 := by rw [HW2.out]; exact below_setRow HB1.out (Nat.le_refl _) _
    have HK := Lib.hid (show Whole w2 w'.heap.size 3 (fitCO (List.replicate 0 (-1))) by rw [← HD.out _ ⟨by simpa using HC.out, fun j hj => by omega⟩]; exact hE2)
    have HB2 := Lib.hid hB2
    clear hE2 hB2
    go_loopw [8] (fun i wr => i = .int .i64 0 ∧ wr = w2) (fun _ _ => 0)
    case atStart => exact ⟨rfl, rfl⟩
    case round =>
      obtain ⟨rfl, rfl⟩ := hrel
      go_wp2_with fail
      go_ret
      exact ⟨_, rfl, Nat.le_refl _, HK.out, HB2.out⟩
  · go_wp2_with (refine dwpList_copyNO (o := ⟨some 33, _, _, _, _, _⟩) rfl (.tmp 31) (.tmp 32) 38 38 rfl 3 1 Try.underlying38 dinfo_intNO w'.heap.size 0 n n ⟨b, 0, none⟩ 1 1 rfl rfl C 3 HE1.out 1 (by show min 1 n = 1; omega) X.toList (by rw [HXL.out]) (hcell _ HB1.out) (by rw [HXL.out, HC.out]; omega) HX.out.2 ?_; intro w2 hw2; have HW2 := Lib.hid hw2; clear hw2)
    have hn1 : 1 ≤ n := by omega
    have hE2 : Whole w2 w'.heap.size 3 (C.toList.take 0 ++ X.toList ++ C.toList.drop (0 + X.toList.length)).toArray := by rw [HW2.out]; exact setRow_heap w1 _ _ _ _ _ HE1.out
    have hB2 : Below w'.heap.size w' w2 := by rw [HW2.out]; exact below_setRow HB1.out (Nat.le_refl _) _
    have hR2 := repI_firstO (cs := C) HXL.out hn1 HC.out
    obtain ⟨C2, hC2⟩ : ∃ C2, (C.toList.take 0 ++ X.toList ++ C.toList.drop (0 + X.toList.length)).toArray = C2 := ⟨_, rfl⟩
    rw [hC2] at hE2 hR2
    have HE2 := Lib.hid hE2; have HB2 := Lib.hid hB2; have HR2 := Lib.hid hR2
    clear hE2 hB2 hR2 hC2
    go_loopw [8] (fun i wr => ∃ (m : Nat) (cs : Array Value), 1 ≤ m ∧ m ≤ n ∧ i = .int .i64 m ∧ Whole wr w'.heap.size 3 cs ∧ RepIO X.toList cs n m ∧ Below w'.heap.size w' wr) (fun i _ => n - (intOf i).toNat)
    case atStart => exact ⟨1, C2, Nat.le_refl _, hn1, rfl, HE2.out, HR2.out, HB2.out⟩
    case round =>
      obtain ⟨m, cs, hm1, hmn, rfl, hE, hR, hB⟩ := hrel
      have HE := Lib.hid hE; have HR := Lib.hid hR; have HB := Lib.hid hB
      clear hE hR hB
      by_cases hlt : m < n
      · obtain ⟨k, hk⟩ : ∃ k, min m (n - m) = k := ⟨_, rfl⟩
        have hkm : k ≤ m := by omega
        have hmk : m + k ≤ n := by omega
        have hk0 : 0 < k := by omega
        have hcl : (cs.toList.take (k * 1)).length = k * 1 := by rw [List.length_take, Array.length_toList, HR.out.1]; omega
        obtain ⟨Y, hY⟩ : ∃ Y, cs.toList.take (k * 1) = Y := ⟨_, rfl⟩
        have hsrc : ∀ j v, Y[j]? = some v → wr.cell? ((⟨w'.heap.size, 0, none⟩ : Addr).add j) = some v := fun j v hv => by
          have hj := (List.getElem?_eq_some_iff.1 hv).1
          rw [← hY, List.getElem?_take_of_lt (by rw [← hY, hcl] at hj; exact hj), Array.getElem?_toList] at hv
          rw [show (⟨w'.heap.size, 0, none⟩ : Addr).add j = ⟨w'.heap.size, 0 + j, none⟩ by unfold Addr.add; split <;> simp_all, Nat.zero_add, HE.out.cell]
          exact hv
        have hone : ∀ v ∈ Y, v.oneCell' = true := fun v hv => by
          rw [← hY] at hv
          obtain ⟨j, hj, rfl⟩ := List.mem_iff_getElem.1 hv
          have h1 : (cs.toList.take (k * 1))[j]? = X[j % 1]? := by
            rw [List.getElem?_take_of_lt (by omega), Array.getElem?_toList, HR.out.2 j (by omega), Array.getElem?_toList]
          rw [List.getElem?_eq_getElem hj] at h1
          have hx : j % 1 < X.size := by have := HX.out.1; omega
          rw [Array.getElem?_eq_getElem hx] at h1
          rw [Option.some.inj h1]
          exact HX.out.2 _ (by simp)
        have hR3 := repI_copiedO HR.out hkm hmk
        rw [hY] at hR3 hcl
        have HSRC := Lib.hid hsrc; have HONE := Lib.hid hone; have HR3 := Lib.hid hR3; have HCL := Lib.hid hcl; have HK := Lib.hid hk
        have hfit : m * 1 + Y.length ≤ cs.size := by rw [hcl, HR.out.1]; omega
        have HFIT := Lib.hid hfit
        have q1 : ((n : Int) - (m : Int)) = ((n - m : Nat) : Int) := by omega
        have hnm : ¬ n = m := by omega
        have mkw : IntKind.i64.wrap ((m : Int) + (k : Int)) = ((m + k : Nat) : Int) := (IntWalk.i64_left _).trans ((IntWalk.wrap64_in _ (by omega)).trans (by omega))
        clear hsrc hone hR3 hcl hfit hY
        go_wp2_with fail
        go_region_law (refine dstep_copyNO (o := ⟨some 45, _, _, _, _, _⟩) rfl (.tmp 41) (.tmp 44) 38 38 rfl 3 1 Try.underlying38 dinfo_intNO w'.heap.size (m * 1) (n - m) (n - m) ⟨w'.heap.size, 0, none⟩ m n (by go_simp) (by go_simp) cs 3 HE.out k HK.out Y HCL.out HSRC.out HFIT.out HONE.out ?_; intro w3 hw3; have HW3 := Lib.hid hw3; clear hw3)
        all_goals
          have hE3 : Whole w3 w'.heap.size 3 (cs.toList.take (m * 1) ++ Y ++ cs.toList.drop (m * 1 + Y.length)).toArray := by rw [HW3.out]; exact setRow_heap wr.drew _ _ _ _ _ HE.out
          have hB3 : Below w'.heap.size w' w3 := by rw [HW3.out]; exact below_setRow HB.out.drew (Nat.le_refl _) _
          have HE3 := Lib.hid hE3; have HB3 := Lib.hid hB3
          clear hE3 hB3
          go_wp2_with fail
          simp only [Act.put, List.setIfInBounds_toArray]
          go_roundw
          case rel =>
            refine ⟨_, _, _, _, _, _, _, _, _, _, _, _, _, _, ?_, rfl⟩
            exact ⟨m + k, _, by omega, by omega, by go_num, HE3.out, HR3.out, HB3.out⟩
          case measure => simp [intOf]; omega
      · obtain rfl : m = n := by omega
        have HKD := Lib.hid (show Whole wr w'.heap.size 3 (fitCO (List.replicate m (-1))) by rw [← HD.out cs HR.out]; exact HE.out)
        clear hlt
        go_wp2_with fail
        go_ret
        exact ⟨_, rfl, Nat.le_refl _, HKD.out, HB.out⟩
end Go.Proofs.Ytnemacejaiifnaa
