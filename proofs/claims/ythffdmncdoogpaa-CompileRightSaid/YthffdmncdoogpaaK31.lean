/- Texts merged by program: SmRepeat, SmCopies, SmRep. No condition. -/
import Derived.Test.YthffdmncdoogpaaK29
import Derived.Test.YthffdmncdoogpaaK30
import Derived.Laws.MakeOwn
import Derived.Laws.CopyOwn
import Derived.Deep.RegionLaw
set_option linter.unusedVariables false
/- The library's Repeat of a list of one tree; and the program's copies. Written by gen10.py. -/
namespace Go.Proofs.Ythffdmncdoogpaa
open Go Go.RowKit

section
variable {P : Program}
theorem run_copyN (w : World) (dT sT ty elem : TypeId) (z g o dLen dCap : Nat) (a : Addr) (sLen sCap : Nat) (cur : Array Value) (t : TypeId) (m : Nat) (cs : List Value)
    (hu : P.underlying dT = some (.slice elem)) (hs : (P.info? elem).map (·.size) = some z)
    (hg : w.heap[g]? = some (.cells cur t (0, 0))) (hm : Nat.min sLen dLen = m) (hn : cs.length = m * z)
    (hsrc : ∀ j v, cs[j]? = some v → w.cell? (a.add j) = some v) (hfit : o + cs.length ≤ cur.size) (h1 : ∀ v ∈ cs, v.oneCell' = true) :
    (Builtin.copy_ #[dT, sT] ty #[.slice (some ⟨g, o, none⟩) dLen dCap, .slice (some a) sLen sCap]).run P w =
      .ok (goInt m) (w.setRow g (cur.toList.take o ++ cs ++ cur.toList.drop (o + cs.length)).toArray) := by
  have hl := run_loadCells_list (P := P) w a cs hsrc
  have hst := run_storeCells_at P g o t cs 0 cur w hg (by simpa using hfit) h1
  cases hq : P.info? elem with
  | none => simp [hq] at hs
  | some i =>
    have hi : i.size = z := by simpa [hq] using hs
    simp [Builtin.copy_, run_underlying hu, Builtin.lenOf, Builtin.firstCells, sizeOf, typeInfo, hq, hi, hm, ← hn, hl, hst]
theorem wpList_copyN {w : World} {ops : Array Oper} {rest : List Oper} {o : Oper} {a : Act} {Q : Exit → Act → World → Prop} (hgd : o.guard = none) (d s : Operand) (dT sT : TypeId)
    (ho : o.op = .call { callee := .builtin .copy, args := #[d, s], argTypes := #[dT, sT] }) (elem : TypeId) (z : Nat) (hu : P.underlying dT = some (.slice elem)) (hsz : (P.info? elem).map (·.size) = some z)
    (g off dLen dCap : Nat) (ad : Addr) (sLen sCap : Nat) (hd : a.eval d = .slice (some ⟨g, off, none⟩) dLen dCap) (hs : a.eval s = .slice (some ad) sLen sCap)
    (cur : Array Value) (t : TypeId) (hg : w.heap[g]? = some (.cells cur t (0, 0))) (m : Nat) (hm : Nat.min sLen dLen = m) (cs : List Value) (hn : cs.length = m * z)
    (hsrc : ∀ j v, cs[j]? = some v → w.cell? (ad.add j) = some v) (hfit : off + cs.length ≤ cur.size) (h1 : ∀ v ∈ cs, v.oneCell' = true)
    (h : ∀ w', w' = w.setRow g (cur.toList.take off ++ cs ++ cur.toList.drop (off + cs.length)).toArray → wpList P ops Q rest (a.put o.dst (goInt m)) w') : wpList P ops Q (o :: rest) a w := by
  refine wpList_plain hgd fun K hK => ?_
  have hrun := run_copyN (P := P) w dT sT o.type elem z g off dLen dCap ad sLen sCap cur t m cs hu hsz hg hm hn hsrc hfit h1
  unfold Oper.wp
  simp only [execOp, ho, resolve, invoke, builtin, Sem.run_bind, Sem.run_pure, Result.andThen_ok, List.map_toArray, List.map_cons, List.map_nil, hd, hs, hrun]
  exact hK _ _ (h _ rfl)
theorem step_copyN {ops : Array Oper} {o : Oper} {a : Act} {w : World} {Kk : Act → World → Prop} {Q : Exit → Act → World → Prop} {E : Prop} (hgd : o.guard = none) (d s : Operand) (dT sT : TypeId)
    (ho : o.op = .call { callee := .builtin .copy, args := #[d, s], argTypes := #[dT, sT] }) (elem : TypeId) (z : Nat) (hu : P.underlying dT = some (.slice elem)) (hsz : (P.info? elem).map (·.size) = some z)
    (g off dLen dCap : Nat) (ad : Addr) (sLen sCap : Nat) (hd : a.eval d = .slice (some ⟨g, off, none⟩) dLen dCap) (hs : a.eval s = .slice (some ad) sLen sCap)
    (cur : Array Value) (t : TypeId) (hg : w.heap[g]? = some (.cells cur t (0, 0))) (m : Nat) (hm : Nat.min sLen dLen = m) (cs : List Value) (hn : cs.length = m * z)
    (hsrc : ∀ j v, cs[j]? = some v → w.cell? (ad.add j) = some v) (hfit : off + cs.length ≤ cur.size) (h1 : ∀ v ∈ cs, v.oneCell' = true)
    (h : ∀ w', w' = w.setRow g (cur.toList.take off ++ cs ++ cur.toList.drop (off + cs.length)).toArray → Kk (a.put o.dst (goInt m)) w') :
    if Region.wanted o (yielded ops a.tmps) = true then Oper.wp P o a w Kk Q else E := by
  have hw : Region.wanted o (yielded ops a.tmps) = true := by
    unfold Region.wanted
    rw [hgd]
  rw [if_pos hw]
  have hrun := run_copyN (P := P) w dT sT o.type elem z g off dLen dCap ad sLen sCap cur t m cs hu hsz hg hm hn hsrc hfit h1
  unfold Oper.wp
  simp only [execOp, ho, resolve, invoke, builtin, Sem.run_bind, Sem.run_pure, Result.andThen_ok, List.map_toArray, List.map_cons, List.map_nil, hd, hs, hrun]
  exact h _ rfl
end
/-- A row whose first m trees are the ten cells X. -/
def RepOf (X : List Value) (cs : Array Value) (n m : Nat) : Prop := cs.size = n * 10 ∧ ∀ j, j < m * 10 → cs[j]? = X[j % 10]?
theorem rep_copied {X : List Value} {cs : Array Value} {n m k : Nat} (h : RepOf X cs n m) (hk : k ≤ m) (hmn : m + k ≤ n) : RepOf X (cs.toList.take (m * 10) ++ cs.toList.take (k * 10) ++ cs.toList.drop (m * 10 + (cs.toList.take (k * 10)).length)).toArray n (m + k) := by
  obtain ⟨h1, h2⟩ := h
  have hl : (cs.toList.take (k * 10)).length = k * 10 := by rw [List.length_take, Array.length_toList, h1]; omega
  have hl2 : (cs.toList.take (m * 10)).length = m * 10 := by rw [List.length_take, Array.length_toList, h1]; omega
  refine ⟨?_, fun j hj => ?_⟩
  · rw [hl]
    simp only [List.size_toArray, List.length_append, List.length_drop, Array.length_toList, hl, hl2, h1]
    omega
  · rw [List.getElem?_toArray]
    by_cases hjm : j < m * 10
    · rw [List.append_assoc, List.getElem?_append_left (by omega), List.getElem?_take_of_lt hjm, Array.getElem?_toList]
      exact h2 j hjm
    · rw [List.getElem?_append_left (by rw [List.length_append]; omega), List.getElem?_append_right (by omega), hl2, List.getElem?_take_of_lt (by omega), Array.getElem?_toList, h2 _ (by omega)]
      congr 1
      omega
theorem rep_first {X : List Value} {cs : Array Value} {n : Nat} (hX : X.length = 10) (hn : 1 ≤ n) (hc : cs.size = n * 10) : RepOf X (cs.toList.take 0 ++ X ++ cs.toList.drop (0 + X.length)).toArray n 1 := by
  refine ⟨?_, fun j hj => ?_⟩
  · simp only [List.size_toArray, List.length_append, List.length_drop, List.length_take, Array.length_toList, hX, hc]
    omega
  · rw [List.getElem?_toArray, List.take_zero, List.nil_append, List.getElem?_append_left (by omega)]
    congr 1
    omega
theorem info_treeN : (Try.prog.info? 45).map (·.size) = some 10 := by kernel_rfl
theorem make_trees (n : Nat) (hn : n ≤ 1000) : ∃ C : Array Value, C.size = n * 10 ∧ ∀ W : World, (Instr.makeSlice 43 (.int .i64 (n : Int)) (.int .i64 (n : Int))).run Try.prog W = .ok (.slice (some ⟨W.heap.size, 0, none⟩) n n) (W.alloc (.cells C 45)) := by
  obtain ⟨i, hi, hz, hsize, hby⟩ := info_parts info_tree
  refine ⟨madeCells (Value.agg #[.int .i64 0, .slice none 0 0, .int .i32 0, .slice none 0 0, .int .i64 0, .int .i64 0, .string ⟨#[]⟩, .int .i64 0, .int .i64 0, .bool false]).cells (n * i.size), by rw [size_madeCells, hsize], fun W => ?_⟩
  have h := run_make (P := Try.prog) W 43 45 i _ Try.underlying43 hi hz .i64 .i64 (n : Int) (n : Int) (by omega) (Int.le_refl _) (by rw [hby]; omega) (by omega)
  simpa using h
def ListPost (AF : Nat → Prop) (T : List Tr) (w : World) (e : Ending) (w' : World) : Prop := ∃ v, e = .returned v ∧ KdsE AF w' T v ∧ Below w.heap.size w w'
theorem rep_list {AF : Nat → Prop} {w : World} {x : Tr} {X : Array Value} {cs : Array Value} {g n : Nat} (hT : TreF AF w x (.agg X)) (hE : Whole w g 45 cs) (hR : RepOf X.toList cs n n) (hn : n ≤ 1000) : KdsE AF w (List.replicate n x) (.slice (some ⟨g, 0, none⟩) n n) := by
  refine ⟨_, n, by rw [List.length_replicate], by rw [List.length_replicate]; exact Nat.le_refl _, by unfold maxLen; omega, by rw [List.length_replicate]; omega, fun e => (by cases e), ?_⟩
  by_cases h0 : n = 0
  · subst h0
    exact .inl rfl
  · refine .inr ⟨g, 0, rfl, fun i hi => ⟨X, fun j hj => ?_, by rw [List.getElem_replicate]; exact hT⟩⟩
    rw [List.length_replicate] at hi
    have hX := (treF_form hT).2.1
    rw [Nat.zero_add, hE.cell, hR.2 _ (by omega), Array.getElem?_toList, show (i * 10 + j) % 10 = j by omega, Array.getElem?_eq_getElem hj]

set_option maxHeartbeats 4000000 in
set_option maxRecDepth 100000 in
theorem smRepeat_any (x : Tr) (n : Nat) (hn : n ≤ 1000) (AF : Nat → Prop) (b : Nat) (X : Array Value) (w : World) (hA : ∀ b, AF b → b < w.heap.size) (hc : CellsAt w b 0 X) (hT : TreF AF w x (.agg X)) :
    Calls Try.prog 108 #[.slice (some ⟨b, 0, none⟩) 1 1, .int .i64 n] w (ListPost AF (List.replicate n x) w) := by
  have hX := (treF_form hT).2
  have HM : Hid (∀ W : World, Calls Try.prog 116 #[.int .u64 1, .int .u64 (n : Int)] W fun e w' => e = .returned (.tuple #[.int .u64 0, .int .u64 (n : Int)]) ∧ w' = W) := Lib.hid fun W => by
    have h := Try.bits_Mul 1 n (by omega) (by omega) W
    rw [show 1 * n / 18446744073709551616 = 0 by omega, show 1 * n % 18446744073709551616 = n by omega] at h
    exact h
  obtain ⟨C, hC, hmk⟩ := make_trees n hn
  obtain ⟨w1, hw1⟩ : ∃ w1, w.alloc (.cells C 45) = w1 := ⟨_, rfl⟩
  have hE1 : Whole w1 w.heap.size 45 C := by rw [← hw1]; exact heap_alloc_new w _
  have hB1 : Below w.heap.size w w1 := by rw [← hw1]; exact (Below.refl _ w).alloc (Nat.le_refl _) _
  have HX := Lib.hid hX; have HC := Lib.hid hC; have HW1 := Lib.hid hw1; have HE1 := Lib.hid hE1; have HB1 := Lib.hid hB1; have HT := Lib.hid hT; have HCC := Lib.hid hc; have HA := Lib.hid hA
  have uw : IntKind.u64.wrap (n : Int) = (n : Int) := by
    unfold IntKind.wrap
    simp only [IntKind.bits, IntKind.signed]
    simp
    omega
  have iw : IntKind.i64.wrap (n : Int) = (n : Int) := (IntWalk.i64_left _).trans (IntWalk.wrap64_in _ (by omega))
  have z0 : ¬ (n : Int) < 0 := by omega
  have z1 : ¬ (9223372036854775807 : Int) < (n : Int) := by omega
  clear hX hC hw1 hE1 hB1 hT hc hA
  go_enter Try.func108, Try.ntmps108
  go_wp2_with fail
  refine (HM.out w).mono ?_
  rintro e w' ⟨rfl, rfl⟩
  go_upto_region 7 with (fail)
  rw [HW1.out]
  clear hmk
  have HD : Hid (∀ (cs : Array Value) (W : World), Whole W w'.heap.size 45 cs → RepOf X.toList cs n n → Below w'.heap.size w' W → KdsE AF W (List.replicate n x) (.slice (some ⟨w'.heap.size, 0, none⟩) n n)) := Lib.hid fun cs W hE hR hB => rep_list (HT.out.same (same_below hB) fun _ h _ => h) hE hR hn
  have HXL := Lib.hid (show X.toList.length = 10 by rw [Array.length_toList]; exact HX.out.1)
  have hcell : ∀ W, Below w'.heap.size w' W → ∀ j v, X.toList[j]? = some v → W.cell? ((⟨b, 0, none⟩ : Addr).add j) = some v := fun W hB j v hv => by
    have hj : j < X.size := by
      have := (List.getElem?_eq_some_iff.1 hv).1
      rwa [Array.length_toList] at this
    rw [Array.getElem?_toList, Array.getElem?_eq_getElem hj] at hv
    rw [show (⟨b, 0, none⟩ : Addr).add j = ⟨b, 0 + j, none⟩ by unfold Addr.add; split <;> simp_all]
    rw [← Option.some.inj hv]
    exact (HCC.out.below hB) j hj
  by_cases hn0 : n = 0
  · subst hn0
    go_wp2_with (refine wpList_copyN (o := ⟨some 33, _, _, _, _, _⟩) rfl (.tmp 31) (.tmp 32) 43 43 rfl 45 10 Try.underlying43 info_treeN w'.heap.size 0 0 0 ⟨b, 0, none⟩ 1 1 rfl rfl C 45 HE1.out 0 rfl [] rfl (by simp) (by simp) (by simp) ?_; intro w2 hw2; have HW2 := Lib.hid hw2; clear hw2)
    have hE2 : Whole w2 w'.heap.size 45 (C.toList.take 0 ++ [] ++ C.toList.drop (0 + ([] : List Value).length)).toArray := by rw [HW2.out]; exact setRow_heap w1 _ _ _ _ _ HE1.out
    have hB2 : Below w'.heap.size w' w2 := by rw [HW2.out]; exact below_setRow HB1.out (Nat.le_refl _) _
    have HK := Lib.hid (HD.out _ w2 hE2 ⟨by simpa using HC.out, fun j hj => by omega⟩ hB2)
    have HB2 := Lib.hid hB2
    clear hE2 hB2
    go_loopw [8] (fun i wr => i = .int .i64 0 ∧ wr = w2) (fun _ _ => 0)
    case atStart => exact ⟨rfl, rfl⟩
    case round =>
      obtain ⟨rfl, rfl⟩ := hrel
      go_wp2_with fail
      go_ret
      exact ⟨_, rfl, HK.out, HB2.out⟩
  · go_wp2_with (refine wpList_copyN (o := ⟨some 33, _, _, _, _, _⟩) rfl (.tmp 31) (.tmp 32) 43 43 rfl 45 10 Try.underlying43 info_treeN w'.heap.size 0 n n ⟨b, 0, none⟩ 1 1 rfl rfl C 45 HE1.out 1 (by show min 1 n = 1; omega) X.toList (by rw [HXL.out]) (hcell _ HB1.out) (by rw [HXL.out, HC.out]; omega) HX.out.2 ?_; intro w2 hw2; have HW2 := Lib.hid hw2; clear hw2)
    have hn1 : 1 ≤ n := by omega
    have hE2 : Whole w2 w'.heap.size 45 (C.toList.take 0 ++ X.toList ++ C.toList.drop (0 + X.toList.length)).toArray := by rw [HW2.out]; exact setRow_heap w1 _ _ _ _ _ HE1.out
    have hB2 : Below w'.heap.size w' w2 := by rw [HW2.out]; exact below_setRow HB1.out (Nat.le_refl _) _
    have hR2 := rep_first (cs := C) HXL.out hn1 HC.out
    obtain ⟨C2, hC2⟩ : ∃ C2, (C.toList.take 0 ++ X.toList ++ C.toList.drop (0 + X.toList.length)).toArray = C2 := ⟨_, rfl⟩
    rw [hC2] at hE2 hR2
    have HE2 := Lib.hid hE2; have HB2 := Lib.hid hB2; have HR2 := Lib.hid hR2
    clear hE2 hB2 hR2 hC2
    go_loopw [8] (fun i wr => ∃ (m : Nat) (cs : Array Value), 1 ≤ m ∧ m ≤ n ∧ i = .int .i64 m ∧ Whole wr w'.heap.size 45 cs ∧ RepOf X.toList cs n m ∧ Below w'.heap.size w' wr) (fun i _ => n - (intOf i).toNat)
    case atStart => exact ⟨1, C2, Nat.le_refl _, hn1, rfl, HE2.out, HR2.out, HB2.out⟩
    case round =>
      obtain ⟨m, cs, hm1, hmn, rfl, hE, hR, hB⟩ := hrel
      have HE := Lib.hid hE; have HR := Lib.hid hR; have HB := Lib.hid hB
      clear hE hR hB
      by_cases hlt : m < n
      · obtain ⟨k, hk⟩ : ∃ k, min m (n - m) = k := ⟨_, rfl⟩
        have hkm : k ≤ m := by omega
        have hmk : m + k ≤ n := by omega
        have hk0 : 0 < k := by omega
        have hcl : (cs.toList.take (k * 10)).length = k * 10 := by rw [List.length_take, Array.length_toList, HR.out.1]; omega
        obtain ⟨Y, hY⟩ : ∃ Y, cs.toList.take (k * 10) = Y := ⟨_, rfl⟩
        have hsrc : ∀ j v, Y[j]? = some v → wr.cell? ((⟨w'.heap.size, 0, none⟩ : Addr).add j) = some v := fun j v hv => by
          have hj := (List.getElem?_eq_some_iff.1 hv).1
          rw [← hY, List.getElem?_take_of_lt (by rw [← hY, hcl] at hj; exact hj), Array.getElem?_toList] at hv
          rw [show (⟨w'.heap.size, 0, none⟩ : Addr).add j = ⟨w'.heap.size, 0 + j, none⟩ by unfold Addr.add; split <;> simp_all, Nat.zero_add, HE.out.cell]
          exact hv
        have hone : ∀ v ∈ Y, v.oneCell' = true := fun v hv => by
          rw [← hY] at hv
          obtain ⟨j, hj, rfl⟩ := List.mem_iff_getElem.1 hv
          have h1 : (cs.toList.take (k * 10))[j]? = X[j % 10]? := by
            rw [List.getElem?_take_of_lt (by omega), Array.getElem?_toList, HR.out.2 j (by omega), Array.getElem?_toList]
          rw [List.getElem?_eq_getElem hj] at h1
          have hx : j % 10 < X.size := by have := HX.out.1; omega
          rw [Array.getElem?_eq_getElem hx] at h1
          rw [Option.some.inj h1]
          exact HX.out.2 _ (by simp)
        have hR3 := rep_copied HR.out hkm hmk
        rw [hY] at hR3 hcl
        have HSRC := Lib.hid hsrc; have HONE := Lib.hid hone; have HR3 := Lib.hid hR3; have HCL := Lib.hid hcl; have HK := Lib.hid hk
        have hfit : m * 10 + Y.length ≤ cs.size := by rw [hcl, HR.out.1]; omega
        have HFIT := Lib.hid hfit
        have q1 : ((n : Int) - (m : Int)) = ((n - m : Nat) : Int) := by omega
        have hnm : ¬ n = m := by omega
        have mkw : IntKind.i64.wrap ((m : Int) + (k : Int)) = ((m + k : Nat) : Int) := (IntWalk.i64_left _).trans ((IntWalk.wrap64_in _ (by omega)).trans (by omega))
        clear hsrc hone hR3 hcl hfit hY
        go_wp2_with fail
        go_region_law (refine step_copyN (o := ⟨some 45, _, _, _, _, _⟩) rfl (.tmp 41) (.tmp 44) 43 43 rfl 45 10 Try.underlying43 info_treeN w'.heap.size (m * 10) (n - m) (n - m) ⟨w'.heap.size, 0, none⟩ m n (by go_simp) (by go_simp) cs 45 HE.out k HK.out Y HCL.out HSRC.out HFIT.out HONE.out ?_; intro w3 hw3; have HW3 := Lib.hid hw3; clear hw3)
        all_goals
          have hE3 : Whole w3 w'.heap.size 45 (cs.toList.take (m * 10) ++ Y ++ cs.toList.drop (m * 10 + Y.length)).toArray := by rw [HW3.out]; exact setRow_heap wr.drew _ _ _ _ _ HE.out
          have hB3 : Below w'.heap.size w' w3 := by rw [HW3.out]; exact below_setRow HB.out.drew (Nat.le_refl _) _
          have HE3 := Lib.hid hE3; have HB3 := Lib.hid hB3
          clear hE3 hB3
          go_wp2_with fail
          simp only [Act.put, List.setIfInBounds_toArray]
          go_roundw
          case rel =>
            refine ⟨_, _, _, _, _, _, _, _, _, _, _, _, _, _, ?_, rfl⟩
            exact ⟨m + k, _, by omega, by omega, by go_num, HE3.out, HR3.out, HB3.out⟩
          case measure => simp [intOf]; omega
      · obtain rfl : m = n := by omega
        have HKD := Lib.hid (HD.out cs wr HE.out HR.out HB.out)
        clear hlt
        go_wp2_with fail
        go_ret
        exact ⟨_, rfl, HKD.out, HB.out⟩
end Go.Proofs.Ythffdmncdoogpaa
/- The same tree n times, none of which shares a list with another one: the program's copies. Written by gen10.py. -/
namespace Go.Proofs.Ythffdmncdoogpaa
open Go Go.RowKit

set_option maxHeartbeats 4000000 in
set_option maxRecDepth 100000 in
theorem smCopies_any (x : Tr) (n : Nat) (hn : n ≤ 1000) (AF : Nat → Prop) (v : Value) (w : World) (hA : ∀ b, AF b → b < w.heap.size) (h0 : TreF AF w x v) :
    Calls Try.prog 90 #[.int .i64 n, v] w (RowPost AF (List.replicate n x) w) := by
  obtain ⟨kv, sv, rfl, ⟨m1, m2, m3, rfl⟩, ⟨p1, p2, p3, rfl⟩⟩ := h0.ten
  obtain ⟨w1, hw1⟩ : ∃ w1, w.alloc (.cells #[.int .i64 x.fld.op, .slice m1 m2 m3, .int .i32 x.fld.rune, .slice p1 p2 p3, .int .i64 x.fld.at', .int .i64 x.fld.cap, .string x.fld.name, .int .i64 x.fld.min, .int .i64 x.fld.max, .bool x.fld.lazy] 45) = w1 := ⟨_, rfl⟩
  have hb1 : Below w.heap.size w w1 := by rw [← hw1]; exact (Below.refl _ w).alloc (Nat.le_refl _) _
  have hE1 : Box10 w1 w.heap.size (.int .i64 x.fld.op) (.slice m1 m2 m3) (.int .i32 x.fld.rune) (.slice p1 p2 p3) (.int .i64 x.fld.at') (.int .i64 x.fld.cap) (.string x.fld.name) (.int .i64 x.fld.min) (.int .i64 x.fld.max) (.bool x.fld.lazy) := by rw [← hw1]; exact box10_new w _ _ _ _ _ _ _ _ _ _ _
  obtain ⟨w2, hw2⟩ : ∃ w2, w1.alloc (.cells #[.int .i64 x.fld.op, .slice m1 m2 m3, .int .i32 x.fld.rune, .slice p1 p2 p3, .int .i64 x.fld.at', .int .i64 x.fld.cap, .string x.fld.name, .int .i64 x.fld.min, .int .i64 x.fld.max, .bool x.fld.lazy] 45) = w2 := ⟨_, rfl⟩
  have hb2 : Below w.heap.size w w2 := by rw [← hw2]; exact hb1.alloc hb1.size _
  have hc2 : CellsAt w2 w1.heap.size 0 #[.int .i64 x.fld.op, .slice m1 m2 m3, .int .i32 x.fld.rune, .slice p1 p2 p3, .int .i64 x.fld.at', .int .i64 x.fld.cap, .string x.fld.name, .int .i64 x.fld.min, .int .i64 x.fld.max, .bool x.fld.lazy] := by rw [← hw2]; exact cellsAt_new w1 _ _
  have hT2 : TreF AF w2 x (.agg #[.int .i64 x.fld.op, .slice m1 m2 m3, .int .i32 x.fld.rune, .slice p1 p2 p3, .int .i64 x.fld.at', .int .i64 x.fld.cap, .string x.fld.name, .int .i64 x.fld.min, .int .i64 x.fld.max, .bool x.fld.lazy]) := h0.same (same_below hb2) fun _ h _ => h
  have HR := Lib.hid (smRepeat_any x n hn AF w1.heap.size _ w2 (fun b hb => Nat.lt_of_lt_of_le (hA b hb) hb2.size) hc2 hT2)
  have HB2 := Lib.hid hb2; have HW1 := Lib.hid hw1; have HW2 := Lib.hid hw2; have HA := Lib.hid hA; have HN := Lib.hid hn
  obtain ⟨b0, b1, b2, b3, b4, b5, b6, b7, b8, b9⟩ := hE1
  clear hw1 hw2 hb1 hb2 hc2 hT2 h0 hA
  go_enter Try.func90, Try.ntmps90
  go_upto_region 1 with (fail)
  rw [HW1.out]
  go_wp2_with fail
  rw [HW2.out]
  refine HR.out.mono ?_
  rintro e w3 ⟨v3, rfl, hk3, hb3⟩
  have HB3 := Lib.hid (HB2.out.trans (hb3.mono HB2.out.size))
  have HE := Lib.hid (smEach_any 109 (fun t => t) (enters_of Try.func109 (by kernel_rfl) rfl) (List.replicate n x) (fun k _ => smCopied_any k) AF v3 w3 (fun b hb => Nat.lt_of_lt_of_le (HA.out b hb) HB3.out.size) hk3)
  clear hk3 hb3 b0 b1 b2 b3 b4 b5 b6 b7 b8 b9
  go_wp2_with fail
  refine HE.out.mono ?_
  rintro e w4 ⟨v4, rfl, ho4, hb4⟩
  have HB4 := Lib.hid (HB3.out.trans (hb4.mono HB3.out.size))
  rw [List.map_id'] at ho4
  have HO4 := Lib.hid ((ho4.mono HB3.out.size).wide (G := fun b => AF b ∨ w.heap.size ≤ b) fun b h => h.imp id fun h => Nat.le_trans HB3.out.size h)
  clear ho4 hb4
  go_wp2_with fail
  go_ret
  exact ⟨v4, rfl, HO4.out, HB4.out⟩
end Go.Proofs.Ythffdmncdoogpaa
/- A counted repeat, taken apart: the program's repeated. Written by gen10.py. -/
namespace Go.Proofs.Ythffdmncdoogpaa
open Go Go.RowKit

theorem rep_len {x Y : Tr} (n : Nat) (h : n * partsR x + partsR Y ≤ 1000000000000) : (spliced (List.replicate n x ++ [Y])).length ≤ 1172812402961 := by
  have h1 := spliced_parts (List.replicate n x ++ [Y])
  have h2 := length_le_sum (spliced (List.replicate n x ++ [Y]))
  rw [sumS_app, sumS_rep, sumS_cons, show sumS [] = 0 from rfl] at h1
  unfold sumS at h1
  omega
theorem rep_len0 {x : Tr} (n : Nat) (h : n * partsR x ≤ 1000000000000) : (spliced (List.replicate n x)).length ≤ 1172812402961 := by
  have h1 := spliced_parts (List.replicate n x)
  have h2 := length_le_sum (spliced (List.replicate n x))
  rw [sumS_rep] at h1
  unfold sumS at h1
  omega

set_option maxHeartbeats 4000000 in
set_option maxRecDepth 100000 in
theorem smRepeated_any (f : Fld) (x : Tr) (h0m : 0 ≤ f.min) (h1m : f.min ≤ 1000) (h2m : f.max = -1 ∨ (f.min ≤ f.max ∧ f.max ≤ 1000)) (hpt : timesR f * partsR x ≤ 10000000000) (AF : Nat → Prop) (v : Value) (w : World) (hA : ∀ b, AF b → b < w.heap.size) (h0 : TreF AF w (.mk f [x]) v) : Calls Try.prog 68 #[v] w (TurnedPost AF (repeatedT f x) w) := by
  obtain ⟨t, ht⟩ : ∃ t, Tr.mk f [x] = t := ⟨_, rfl⟩
  have hk1 : t.kids.length = 1 := by rw [← ht]; rfl
  have hkx : ∀ (i : Nat) (h : i < t.kids.length), t.kids[i] = x := fun i h => by
    subst ht
    have : i = 0 := by simpa [Tr.kids] using h
    subst this
    rfl
  have hfl : t.fld = f := by rw [← ht]; rfl
  rw [ht] at h0
  obtain ⟨RT, hRT⟩ : ∃ RT, repeatedT f x = RT := ⟨_, rfl⟩
  rw [hRT]
  have HRT := Lib.hid hRT
  clear hRT
  have HKX := Lib.hid hkx; have HFL := Lib.hid hfl; have H0M := Lib.hid h0m; have H1M := Lib.hid h1m; have H2M := Lib.hid h2m; have HPT := Lib.hid hpt
  clear hkx ht hfl h0m h1m h2m hpt
  have H0 := Lib.hid h0
  have h := h0.tre
  obtain ⟨A, n, c, a2, s, c2, hn, hs, rfl, hnb, hsb, hK, hS, hF⟩ := h.opened
  obtain ⟨w1, hw1⟩ : ∃ w1, (w.alloc (.cells #[.int .i64 t.fld.op, .slice A n c, .int .i32 t.fld.rune, .slice a2 s c2, .int .i64 t.fld.at', .int .i64 t.fld.cap, .string t.fld.name, .int .i64 t.fld.min, .int .i64 t.fld.max, .bool t.fld.lazy] 45)).alloc (.cells #[.int .i64 0, .slice none 0 0, .int .i32 0, .slice none 0 0, .int .i64 0, .int .i64 0, .string ⟨#[]⟩, .int .i64 0, .int .i64 0, .bool false] 45) = w1 := ⟨_, rfl⟩
  have hb1 : Below w.heap.size w w1 := by rw [← hw1]; exact ((Below.refl _ w).alloc (Nat.le_refl _) _).alloc (by simp) _
  have hE1 : Whole w1 w.heap.size 45 #[.int .i64 t.fld.op, .slice A n c, .int .i32 t.fld.rune, .slice a2 s c2, .int .i64 t.fld.at', .int .i64 t.fld.cap, .string t.fld.name, .int .i64 t.fld.min, .int .i64 t.fld.max, .bool t.fld.lazy] := by rw [← hw1]; exact Whole.alloc (heap_alloc_new w _) _
  have hR1 : Whole w1 (w.heap.size + 1) 45 #[.int .i64 0, .slice none 0 0, .int .i32 0, .slice none 0 0, .int .i64 0, .int .i64 0, .string ⟨#[]⟩, .int .i64 0, .int .i64 0, .bool false] := by
    rw [← hw1]
    have := heap_alloc_new (w.alloc (.cells #[.int .i64 t.fld.op, .slice A n c, .int .i32 t.fld.rune, .slice a2 s c2, .int .i64 t.fld.at', .int .i64 t.fld.cap, .string t.fld.name, .int .i64 t.fld.min, .int .i64 t.fld.max, .bool t.fld.lazy] 45)) (.cells #[.int .i64 0, .slice none 0 0, .int .i32 0, .slice none 0 0, .int .i64 0, .int .i64 0, .string ⟨#[]⟩, .int .i64 0, .int .i64 0, .bool false] 45)
    simpa [Whole] using this
  have hs1 : w1.heap.size = w.heap.size + 2 := by rw [← hw1]; simp
  have hT1 : TreF AF w1 t _ := TreF.same H0.out (same_below hb1) (fun _ h _ => h)
  have HB1 := Lib.hid hb1; have HE1 := Lib.hid hE1; have HR1 := Lib.hid hR1; have HW1 := Lib.hid hw1; have HS1 := Lib.hid hs1; have HT1 := Lib.hid hT1; have HN := Lib.hid hn; have HA := Lib.hid hA; have HF := Lib.hid hF
  obtain rfl : n = 1 := by rw [← hn]; exact hk1
  clear h h0 hb1 hE1 hR1 hw1 hs1 hT1 hK hS hn hs hF hA
  go_enter Try.func68, Try.ntmps68
  go_upto_region 1 with (fail)
  rw [HW1.out]

  obtain ⟨b, o, tk, x1, x2, x3, y1, y2, y3, rfl, htk, hm, hx2, ⟨c0, c1, c2', c3, c4, c5, c6, c7, c8, c9⟩, hTk⟩ := (smKdsE (show KdsF AF w1 t.kids (.slice A 1 c) from by
    have h := HT1.out
    rw [treF_iff] at h
    obtain ⟨kv, sv, e, -, -, hk⟩ := h
    obtain ⟨rfl, rfl⟩ := treC_inj (f := t.fld) (k1 := .slice A 1 c) (s1 := .slice a2 s c2) e
    exact hk)).kid 0 (by omega)
  obtain rfl : tk = x := by rw [← htk]; exact HKX.out 0 (by omega)
  simp only [Nat.zero_mul, Nat.add_zero] at c0 c1 c2' c3 c4 c5 c6 c7 c8 c9
  obtain ⟨w2, hw2⟩ : ∃ w2, w1.alloc (.cells #[.int .i64 tk.fld.op, .slice x1 x2 x3, .int .i32 tk.fld.rune, .slice y1 y2 y3, .int .i64 tk.fld.at', .int .i64 tk.fld.cap, .string tk.fld.name, .int .i64 tk.fld.min, .int .i64 tk.fld.max, .bool tk.fld.lazy] 45) = w2 := ⟨_, rfl⟩
  have hb2 : Below w1.heap.size w1 w2 := by rw [← hw2]; exact (Below.refl _ _).alloc (Nat.le_refl _) _
  have hX2 : Whole w2 w1.heap.size 45 #[.int .i64 tk.fld.op, .slice x1 x2 x3, .int .i32 tk.fld.rune, .slice y1 y2 y3, .int .i64 tk.fld.at', .int .i64 tk.fld.cap, .string tk.fld.name, .int .i64 tk.fld.min, .int .i64 tk.fld.max, .bool tk.fld.lazy] := by rw [← hw2]; exact heap_alloc_new w1 _
  have hs2 : w2.heap.size = w1.heap.size + 1 := by rw [← hw2]; simp
  have HE2 := Lib.hid (HE1.out.below hb2 HE1.out.lt); have HR2 := Lib.hid (HR1.out.below hb2 HR1.out.lt); have HB2 := Lib.hid (HB1.out.trans (hb2.mono HB1.out.size))
  have HTK := Lib.hid (hTk.same (same_below hb2) (fun _ h _ => h))
  have HS2 := Lib.hid hs2; have HW2 := Lib.hid hw2; have HX2 := Lib.hid hX2
  have HA2 := Lib.hid (show ∀ b, AF b → b < w2.heap.size from fun b hb => Nat.lt_of_lt_of_le (HA.out b hb) HB2.out.size)
  obtain ⟨b0, b1, b2, b3, b4, b5, b6, b7, b8, b9⟩ := HE1.out.ten
  clear hb2 hX2 hs2 hw2 hTk htk hm hx2
  go_upto_region 2 with (fail)
  rw [HW2.out]
  clear b0 b1 b2 b3 b4 b5 b6 b7 b8 b9 c0 c1 c2' c3 c4 c5 c6 c7 c8 c9
  have HRW := Lib.hid (show ∀ W, Below w2.heap.size w2 W → Whole W (w.heap.size + 1) 45 #[.int .i64 0, .slice none 0 0, .int .i32 0, .slice none 0 0, .int .i64 0, .int .i64 0, .string ⟨#[]⟩, .int .i64 0, .int .i64 0, .bool false] from fun W hW => HR2.out.below hW HR2.out.lt)
  have HEW0 := Lib.hid (show ∀ W, Below w2.heap.size w2 W → Whole W w.heap.size 45 #[.int .i64 t.fld.op, .slice (some ⟨b, o, none⟩) 1 c, .int .i32 t.fld.rune, .slice a2 s c2, .int .i64 t.fld.at', .int .i64 t.fld.cap, .string t.fld.name, .int .i64 t.fld.min, .int .i64 t.fld.max, .bool t.fld.lazy] from fun W hW => HE2.out.below hW HE2.out.lt)
  have HXW := Lib.hid (show ∀ W, Below w2.heap.size w2 W → Whole W w1.heap.size 45 #[.int .i64 tk.fld.op, .slice x1 x2 x3, .int .i32 tk.fld.rune, .slice y1 y2 y3, .int .i64 tk.fld.at', .int .i64 tk.fld.cap, .string tk.fld.name, .int .i64 tk.fld.min, .int .i64 tk.fld.max, .bool tk.fld.lazy] from fun W hW => HX2.out.below hW HX2.out.lt)
  obtain ⟨mn, hmn⟩ : ∃ mn, f.min = mn := ⟨_, rfl⟩
  obtain ⟨mx, hmx⟩ : ∃ mx, f.max = mx := ⟨_, rfl⟩
  have hmn' : t.fld.min = mn := by rw [HFL.out]; exact hmn
  have hmx' : t.fld.max = mx := by rw [HFL.out]; exact hmx
  have hlz : t.fld.lazy = f.lazy := by rw [HFL.out]
  have HEW : Hid (∀ W, Below w2.heap.size w2 W → Whole W w.heap.size 45 #[.int .i64 t.fld.op, .slice (some ⟨b, o, none⟩) 1 c, .int .i32 t.fld.rune, .slice a2 s c2, .int .i64 t.fld.at', .int .i64 t.fld.cap, .string t.fld.name, .int .i64 mn, .int .i64 mx, .bool t.fld.lazy]) := Lib.hid fun W hW => by have := HEW0.out W hW; rw [hmn', hmx'] at this; exact this
  have HMN := Lib.hid hmn; have HMX := Lib.hid hmx
  have h0m := H0M.out; have h1m := H1M.out; have h2m := H2M.out
  rw [hmn] at h0m h1m h2m
  rw [hmx] at h2m
  -- the closure's contract, behind any step
  have HAS : Hid (∀ (o : Int) (ho : o = 7 ∨ o = 8 ∨ o = 9) (W : World), Below w2.heap.size w2 W → Calls Try.prog 89 #[.int .i64 o, .agg #[.int .i64 tk.fld.op, .slice x1 x2 x3, .int .i32 tk.fld.rune, .slice y1 y2 y3, .int .i64 tk.fld.at', .int .i64 tk.fld.cap, .string tk.fld.name, .int .i64 tk.fld.min, .int .i64 tk.fld.max, .bool tk.fld.lazy], .pointer (some ⟨w.heap.size, 0, none⟩)] W (TurnedPost AF (loopedT (opF o f.lazy) tk) W)) := Lib.hid fun o ho W hW =>
    smAs_any w.heap.size f.lazy o ho tk AF _ W (fun b hb => Nat.lt_of_lt_of_le (HA2.out b hb) hW.size) (HTK.out.same (same_below hW) fun _ h _ => h) (by rw [← hlz]; exact (HEW.out W hW).cell 9)
  have eg : ∀ args W, (callFunc 89 args).run Try.prog W = .ok (.enter 89 args) W := enters_of Try.func89 (by kernel_rfl) rfl
  have HB20 := Lib.hid (Below.refl w2.heap.size w2)
  have KP : Hid (∀ W, Whole W w.heap.size 45 #[.int .i64 t.fld.op, .slice (some ⟨b, o, none⟩) 1 c, .int .i32 t.fld.rune, .slice a2 s c2, .int .i64 t.fld.at', .int .i64 t.fld.cap, .string t.fld.name, .int .i64 mn, .int .i64 mx, .bool t.fld.lazy] → Whole W w1.heap.size 45 #[.int .i64 tk.fld.op, .slice x1 x2 x3, .int .i32 tk.fld.rune, .slice y1 y2 y3, .int .i64 tk.fld.at', .int .i64 tk.fld.cap, .string tk.fld.name, .int .i64 tk.fld.min, .int .i64 tk.fld.max, .bool tk.fld.lazy] → W.cell? ⟨w.heap.size, 0, none⟩ = some (.int .i64 t.fld.op) ∧ W.cell? ⟨w.heap.size, 1, none⟩ = some (.slice (some ⟨b, o, none⟩) 1 c) ∧ W.cell? ⟨w.heap.size, 2, none⟩ = some (.int .i32 t.fld.rune) ∧ W.cell? ⟨w.heap.size, 3, none⟩ = some (.slice a2 s c2) ∧ W.cell? ⟨w.heap.size, 4, none⟩ = some (.int .i64 t.fld.at') ∧ W.cell? ⟨w.heap.size, 5, none⟩ = some (.int .i64 t.fld.cap) ∧ W.cell? ⟨w.heap.size, 6, none⟩ = some (.string t.fld.name) ∧ W.cell? ⟨w.heap.size, 7, none⟩ = some (.int .i64 mn) ∧ W.cell? ⟨w.heap.size, 8, none⟩ = some (.int .i64 mx) ∧ W.cell? ⟨w.heap.size, 9, none⟩ = some (.bool t.fld.lazy) ∧ W.cell? ⟨w1.heap.size, 0, none⟩ = some (.int .i64 tk.fld.op) ∧ W.cell? ⟨w1.heap.size, 1, none⟩ = some (.slice x1 x2 x3) ∧ W.cell? ⟨w1.heap.size, 2, none⟩ = some (.int .i32 tk.fld.rune) ∧ W.cell? ⟨w1.heap.size, 3, none⟩ = some (.slice y1 y2 y3) ∧ W.cell? ⟨w1.heap.size, 4, none⟩ = some (.int .i64 tk.fld.at') ∧ W.cell? ⟨w1.heap.size, 5, none⟩ = some (.int .i64 tk.fld.cap) ∧ W.cell? ⟨w1.heap.size, 6, none⟩ = some (.string tk.fld.name) ∧ W.cell? ⟨w1.heap.size, 7, none⟩ = some (.int .i64 tk.fld.min) ∧ W.cell? ⟨w1.heap.size, 8, none⟩ = some (.int .i64 tk.fld.max) ∧ W.cell? ⟨w1.heap.size, 9, none⟩ = some (.bool tk.fld.lazy)) := Lib.hid fun W h g => ⟨h.cell 0, h.cell 1, h.cell 2, h.cell 3, h.cell 4, h.cell 5, h.cell 6, h.cell 7, h.cell 8, h.cell 9, g.cell 0, g.cell 1, g.cell 2, g.cell 3, g.cell 4, g.cell 5, g.cell 6, g.cell 7, g.cell 8, g.cell 9⟩
  have hts : timesR f = (max (max mn mx) 1).toNat := by unfold timesR; rw [hmn, hmx]
  have HTS := Lib.hid hts
  have HLZ : Hid (∀ W, Below w2.heap.size w2 W → W.cell? ⟨w.heap.size, 9, none⟩ = some (.bool f.lazy)) := Lib.hid fun W hW => by rw [← hlz]; exact (HEW.out W hW).cell 9
  clear hmn hmx hmn' hmx' hlz hts
  obtain ⟨e0, e1, e2, e3, e4, e5, e6, e7, e8, e9⟩ := (HEW.out _ HB20.out).ten
  obtain ⟨k0, k1, k2, k3, k4, k5, k6, k7, k8, k9⟩ := (HXW.out _ HB20.out).ten
  by_cases hneg : mx < 0
  · have hmx1 : mx = -1 := by omega
    subst hmx1
    by_cases hz : mn = 0
    · subst hz
      have HJL : Hid (RT = loopedT (opF 7 f.lazy) tk) := Lib.hid (by rw [← HRT.out]; unfold repeatedT; rw [if_pos ⟨by rw [HMX.out]; omega, HMN.out⟩])
      have HS7 := Lib.hid (HAS.out 7 (.inl rfl) w2 HB20.out)
      go_wp2_with fail
      refine HS7.out.mono ?_
      rintro e w3 ⟨v3, rfl, ht3, hb3⟩
      obtain ⟨kv3, sv3, rfl, ⟨d1, d2, d3, rfl⟩, ⟨g1, g2, g3, rfl⟩⟩ := ht3.ten
      have HB3 := Lib.hid hb3
      have HM := Lib.hid (out_tree (AF := AF) (w := w) (r := w.heap.size + 1) (ht3.same (fun _ _ _ => rfl) fun b hb _ => by
        have h1 := HS2.out; have h2 := HS1.out
        rcases hb with hb | hb
        · exact ⟨.inl hb, by have := HA.out b hb; omega⟩
        · exact ⟨.inr (by omega), by omega⟩) (HB2.out.trans (hb3.mono HB2.out.size)) (Nat.le_succ _))
      clear ht3 hb3 e0 e1 e2 e3 e4 e5 e6 e7 e8 e9 k0 k1 k2 k3 k4 k5 k6 k7 k8 k9
      obtain ⟨r0, r1, r2, r3, r4, r5, r6, r7, r8, r9⟩ := (HRW.out _ HB3.out).ten
      obtain ⟨z0, z1, z2, z3, z4, z5, z6, z7, z8, z9⟩ := whole_free (HRW.out _ HB3.out)
      go_wp2_with fail
      refine tree_ret Try.results68 (w.heap.size + 1) rfl (HRW.out _ HB3.out) ?_
      rw [HJL.out]
      exact HM.out
    · have hz' : (mn == 0) = false := beq_eq_false_iff_ne.2 hz
      obtain ⟨CN, hCN⟩ : ∃ CN : Nat, mn = (CN : Int) + 1 := ⟨(mn - 1).toNat, by omega⟩
      have hcn1 : CN ≤ 1000 := by omega
      have q1 : IntKind.i64.wrap (mn - 1) = (CN : Int) := (IntWalk.i64_left _).trans ((IntWalk.wrap64_in _ (by omega)).trans (by omega))
      have q3 : IntKind.i64.wrap (CN : Int) = (CN : Int) := (IntWalk.i64_left _).trans (IntWalk.wrap64_in _ (by omega))
      have hpt := HPT.out
      rw [HTS.out, show (max (max mn (-1)) 1).toNat = CN + 1 by omega, Nat.add_mul] at hpt
      have hps : partsR tk ≤ 10000000000 := by omega
      obtain ⟨Y, hY⟩ : ∃ Y, loopedT (opF 8 f.lazy) tk = Y := ⟨_, rfl⟩
      have hpy : partsR Y ≤ 1 + partsR tk := by rw [← hY]; exact looped_parts rfl tk
      have HJL : Hid (RT = joinedT (List.replicate CN tk ++ [Y])) := Lib.hid (by rw [← HRT.out, ← hY]; unfold repeatedT; rw [if_neg (by rw [HMN.out]; exact fun h => hz h.2), if_pos (by rw [HMX.out]; omega), HMN.out, hCN, show ((CN : Int) + 1 - 1).toNat = CN by omega])
      have HLEN := Lib.hid (rep_len (x := tk) (Y := Y) CN (by omega))
      have HCN := Lib.hid hcn1
      have HCP := Lib.hid (show ∀ W, Below w2.heap.size w2 W → Calls Try.prog 90 #[.int .i64 CN, .agg #[.int .i64 tk.fld.op, .slice x1 x2 x3, .int .i32 tk.fld.rune, .slice y1 y2 y3, .int .i64 tk.fld.at', .int .i64 tk.fld.cap, .string tk.fld.name, .int .i64 tk.fld.min, .int .i64 tk.fld.max, .bool tk.fld.lazy]] W (RowPost AF (List.replicate CN tk) W) from fun W hW => smCopies_any tk CN hcn1 AF _ W (fun b hb => Nat.lt_of_lt_of_le (HA2.out b hb) hW.size) (HTK.out.same (same_below hW) fun _ h _ => h))
      have HSEC : Hid (∀ W, Below w2.heap.size w2 W → Calls Try.prog 89 #[.int .i64 8, .agg #[.int .i64 tk.fld.op, .slice x1 x2 x3, .int .i32 tk.fld.rune, .slice y1 y2 y3, .int .i64 tk.fld.at', .int .i64 tk.fld.cap, .string tk.fld.name, .int .i64 tk.fld.min, .int .i64 tk.fld.max, .bool tk.fld.lazy], .pointer (some ⟨w.heap.size, 0, none⟩)] W (TurnedPost AF Y W)) := Lib.hid fun W hW => by have := HAS.out 8 (.inr (.inl rfl)) W hW; rw [hY] at this; exact this
      have HB0 := Lib.hid (below_draws w2 1)
      clear hcn1 hpt hps hpy hY hz hCN
      go_upto_region 6 with (fail)
      clear e0 e1 e2 e3 e4 e5 e6 e7 e8 e9 k0 k1 k2 k3 k4 k5 k6 k7 k8 k9
      refine wp_region_held_drew (S := (fun w' => w'.cell? ⟨w.heap.size, 0, none⟩ = some (.int .i64 t.fld.op) ∧ w'.cell? ⟨w.heap.size, 1, none⟩ = some (.slice (some ⟨b, o, none⟩) 1 c) ∧ w'.cell? ⟨w.heap.size, 2, none⟩ = some (.int .i32 t.fld.rune) ∧ w'.cell? ⟨w.heap.size, 3, none⟩ = some (.slice a2 s c2) ∧ w'.cell? ⟨w.heap.size, 4, none⟩ = some (.int .i64 t.fld.at') ∧ w'.cell? ⟨w.heap.size, 5, none⟩ = some (.int .i64 t.fld.cap) ∧ w'.cell? ⟨w.heap.size, 6, none⟩ = some (.string t.fld.name) ∧ w'.cell? ⟨w.heap.size, 7, none⟩ = some (.int .i64 mn) ∧ w'.cell? ⟨w.heap.size, 8, none⟩ = some (.int .i64 (-1)) ∧ w'.cell? ⟨w.heap.size, 9, none⟩ = some (.bool t.fld.lazy) ∧ w'.cell? ⟨w1.heap.size, 0, none⟩ = some (.int .i64 tk.fld.op) ∧ w'.cell? ⟨w1.heap.size, 1, none⟩ = some (.slice x1 x2 x3) ∧ w'.cell? ⟨w1.heap.size, 2, none⟩ = some (.int .i32 tk.fld.rune) ∧ w'.cell? ⟨w1.heap.size, 3, none⟩ = some (.slice y1 y2 y3) ∧ w'.cell? ⟨w1.heap.size, 4, none⟩ = some (.int .i64 tk.fld.at') ∧ w'.cell? ⟨w1.heap.size, 5, none⟩ = some (.int .i64 tk.fld.cap) ∧ w'.cell? ⟨w1.heap.size, 6, none⟩ = some (.string tk.fld.name) ∧ w'.cell? ⟨w1.heap.size, 7, none⟩ = some (.int .i64 tk.fld.min) ∧ w'.cell? ⟨w1.heap.size, 8, none⟩ = some (.int .i64 tk.fld.max) ∧ w'.cell? ⟨w1.heap.size, 9, none⟩ = some (.bool tk.fld.lazy))) (by kernel_rfl) (KP.out _ (HEW.out _ HB0.out) (HXW.out _ HB0.out)) (fun hHeld => ?_)
      refine wpAnyH_take (i := 0) (oi := _) (v := ?_) rfl (by kernel_rfl) (by kernel_rfl) (by kernel_rfl) (fun _ _ _ h => h) (Or.inl ⟨by rfl, ?_⟩) (by assumption) ?_
      rotate_left 1
      · (intro w hSw; (try dsimp only at hSw); go_simp; (try with_reducible rfl))
      try simp only [List.getElem_toArray, List.getElem_cons_zero, Act.put, List.setIfInBounds_toArray, List.set_cons_zero, List.set_cons_succ]
      refine wpAnyH_take (i := 1) (oi := _) (v := ?_) rfl (by kernel_rfl) (by kernel_rfl) (by kernel_rfl) (fun _ _ _ h => h) (Or.inl ⟨by rfl, ?_⟩) (by assumption) ?_
      rotate_left 1
      · (intro w hSw; (try dsimp only at hSw); go_simp; (try with_reducible rfl))
      try simp only [List.getElem_toArray, List.getElem_cons_zero, List.getElem_cons_succ, Act.put, List.setIfInBounds_toArray, List.set_cons_zero, List.set_cons_succ]
      refine wpAnyH_take (i := 2) (oi := _) (v := ?_) rfl (by kernel_rfl) (by kernel_rfl) (by kernel_rfl) (fun _ _ _ h => h) (Or.inl ⟨by rfl, ?_⟩) (by assumption) ?_
      rotate_left 1
      · (intro w hSw; (try dsimp only at hSw); go_simp; (try with_reducible rfl))
      try simp only [List.getElem_toArray, List.getElem_cons_zero, List.getElem_cons_succ, Act.put, List.setIfInBounds_toArray, List.set_cons_zero, List.set_cons_succ]
      refine wpAnyH_take (i := 3) (oi := _) (v := ?_) rfl (by kernel_rfl) (by kernel_rfl) (by kernel_rfl) (fun _ _ _ h => h) (Or.inl ⟨by rfl, ?_⟩) (by assumption) ?_
      rotate_left 1
      · (intro w hSw; (try dsimp only at hSw); go_simp; (try with_reducible rfl))
      try simp only [List.getElem_toArray, List.getElem_cons_zero, List.getElem_cons_succ, Act.put, List.setIfInBounds_toArray, List.set_cons_zero, List.set_cons_succ]
      refine wpAnyH_take (i := 5) (oi := _) (v := ?_) rfl (by kernel_rfl) (by kernel_rfl) (by kernel_rfl) (fun _ _ _ h => h) (Or.inl ⟨by rfl, ?_⟩) (by assumption) ?_
      rotate_left 1
      · (intro w hSw; (try dsimp only at hSw); go_simp; (try with_reducible rfl))
      try simp only [List.getElem_toArray, List.getElem_cons_zero, List.getElem_cons_succ, Act.put, List.setIfInBounds_toArray, List.set_cons_zero, List.set_cons_succ]
      refine wpAnyH_take (i := 6) (oi := _) (v := ?_) rfl (by kernel_rfl) (by kernel_rfl) (by kernel_rfl) (fun _ _ _ h => h) (Or.inl ⟨by rfl, ?_⟩) (by assumption) ?_
      rotate_left 1
      · (intro w hSw; (try dsimp only at hSw); go_simp; (try with_reducible rfl))
      try simp only [List.getElem_toArray, List.getElem_cons_zero, List.getElem_cons_succ, Act.put, List.setIfInBounds_toArray, List.set_cons_zero, List.set_cons_succ]
      refine wpAnyH_ready (rs := [4]) (by kernel_rfl) (by simp) ?_
      refine AllReadyH.cons (o := _) rfl (fun K hK => ?_) ?_
      · go_simp
        refine (HCP.out _ HB0.out).mono ?_
        rintro e u1 ⟨v5, rfl, ho5, hb5⟩
        obtain ⟨a1, a2', a3, rfl⟩ := ho5.slice
        have HB4 := Lib.hid (HB0.out.trans (hb5.mono HB0.out.size)); have HO4 := Lib.hid ((ho5.mono HB0.out.size).wide (G := fun b => AF b ∨ w2.heap.size ≤ b) fun b h => h.imp id fun h => Nat.le_trans HB0.out.size h)
        clear hb5 ho5
        go_wp2_with fail
        refine hK.out _ _ (KP.out _ (HEW.out _ HB4.out) (HXW.out _ HB4.out)) (fun hHeld => ?_)
        clear hK K
        try simp only [List.getElem_toArray, List.getElem_cons_zero, List.getElem_cons_succ, Act.put, List.setIfInBounds_toArray, List.set_cons_zero, List.set_cons_succ]
        refine wpAnyH_ready (rs := [7]) (by kernel_rfl) (by simp) ?_
        refine AllReadyH.cons (o := _) rfl (fun K hK => ?_) ?_
        · go_simp
          refine (HSEC.out _ HB4.out).mono ?_
          rintro e u2 ⟨v6, rfl, ht6, hb6⟩
          obtain ⟨kv6, sv6, rfl, ⟨e1, e2, e3, rfl⟩, ⟨f1, f2, f3, rfl⟩⟩ := ht6.ten
          have HB5 := Lib.hid (HB4.out.trans (hb6.mono HB4.out.size)); have HO5 := Lib.hid (HO4.out.below hb6)
          have HT5 := Lib.hid (ht6.same (G := fun b => Off (.slice a1 a2' a3) b ∧ (AF b ∨ w2.heap.size ≤ b)) (fun _ _ _ => rfl) fun b hb hl => ⟨fun e => by (have h1 := HO4.out.base b e); (rcases hb with hb | hb); (· have := HA2.out b hb; omega); (· exact HO4.out.off b hb e), hb.imp id fun h => Nat.le_trans HB4.out.size h⟩)
          clear hb6 ht6
          go_wp2_with fail
          refine hK.out _ _ (KP.out _ (HEW.out _ HB5.out) (HXW.out _ HB5.out)) (fun hHeld => ?_)
          clear hK K
          try simp only [List.getElem_toArray, List.getElem_cons_zero, List.getElem_cons_succ, Act.put, List.setIfInBounds_toArray, List.set_cons_zero, List.set_cons_succ]
          refine wpAnyH_ready (rs := [8]) (by kernel_rfl) (by simp) ?_
          refine AllReadyH.cons (o := _) rfl (fun K hK => ?_) ?_
          · have HB6 := Lib.hid (HB5.out.alloc HB5.out.size (.cells #[.int .i64 Y.fld.op, .slice e1 e2 e3, .int .i32 Y.fld.rune, .slice f1 f2 f3, .int .i64 Y.fld.at', .int .i64 Y.fld.cap, .string Y.fld.name, .int .i64 Y.fld.min, .int .i64 Y.fld.max, .bool Y.fld.lazy] 45)); have hb6 : Below u2.heap.size u2 (u2.alloc (.cells #[.int .i64 Y.fld.op, .slice e1 e2 e3, .int .i32 Y.fld.rune, .slice f1 f2 f3, .int .i64 Y.fld.at', .int .i64 Y.fld.cap, .string Y.fld.name, .int .i64 Y.fld.min, .int .i64 Y.fld.max, .bool Y.fld.lazy] 45)) := (Below.refl _ _).alloc (Nat.le_refl _) _
            have HO6 := Lib.hid (HO5.out.below hb6)
            have hk6 := kds_one HT5.out (fun b => Off (.slice a1 a2' a3) b ∧ (AF b ∨ w2.heap.size ≤ b)) (fun b hb hl => hb)
            unfold treC at hk6
            have HK6 := Lib.hid hk6
            clear hb6 hk6
            go_simp
            refine hK.out _ _ (KP.out _ (HEW.out _ HB6.out) (HXW.out _ HB6.out)) (fun hHeld => ?_)
            clear hK K
            try simp only [List.getElem_toArray, List.getElem_cons_zero, List.getElem_cons_succ, Act.put, List.setIfInBounds_toArray, List.set_cons_zero, List.set_cons_succ]
            refine wpAnyH_ready (rs := [9]) (by kernel_rfl) (by simp) ?_
            refine AllReadyH.cons (o := _) rfl (fun K hK => ?_) ?_
            · refine step_append_trs rfl (.tmp 30) (.tmp 34) rfl (fun b => AF b ∨ w2.heap.size ≤ b) w2.heap.size _ (List.replicate CN tk) rfl HO6.out ⟨u2.heap.size, 0, none⟩ 1 1 [Y] rfl HK6.out (by rw [List.length_replicate]; have := HCN.out; simp; omega) HB6.out.size ?_
              intro v7 u3 ho7 hg7 _
              obtain ⟨g1, g2, g3, rfl⟩ := ho7.slice
              have HB7 := Lib.hid (HB6.out.grown hg7 HB6.out.size (fun j hj => HO6.out.base j hj)); have HO7 := Lib.hid ho7
              clear ho7 hg7
              refine hK.out _ _ (KP.out _ (HEW.out _ HB7.out) (HXW.out _ HB7.out)) (fun hHeld => ?_)
              clear hK K
              try simp only [List.getElem_toArray, List.getElem_cons_zero, List.getElem_cons_succ, Act.put, List.setIfInBounds_toArray, List.set_cons_zero, List.set_cons_succ]
              refine wpAnyH_ready (rs := [10]) (by kernel_rfl) (by simp) ?_
              refine AllReadyH.cons (o := _) rfl (fun K hK => ?_) ?_
              · have HJA := Lib.hid (smJoined_any (List.replicate CN tk ++ [Y]) HLEN.out (fun b => (AF b ∨ w2.heap.size ≤ b) ∧ b < u3.heap.size) _ u3 (fun b hb => hb.2) ((HO7.out.kdsE (by rw [List.length_append, List.length_replicate]; have := HCN.out; simp; omega)).mono fun b hb hl => ⟨hb.2, hl⟩))
                go_simp
                refine HJA.out.mono ?_
                rintro e u4 ⟨v8, rfl, ht8, hb8⟩
                obtain ⟨kv8, sv8, rfl, ⟨c1, c2, c3, rfl⟩, ⟨d1, d2, d3, rfl⟩⟩ := ht8.ten
                have HB8 := Lib.hid (HB7.out.trans (hb8.mono HB7.out.size))
                have HM := Lib.hid (out_tree (AF := AF) (w := w) (r := w.heap.size + 1) (ht8.same (fun _ _ _ => rfl) fun b hb _ => by (have := HB2.out.size); (have := HB7.out.size); (have := HS2.out); (have := HS1.out); (rcases hb with ⟨hb | hb, -⟩ | hb); (· exact ⟨.inl hb, by have := HA.out b hb; omega⟩); (· exact ⟨.inr (by omega), by omega⟩); (· exact ⟨.inr (by omega), by omega⟩)) (HB2.out.trans (HB8.out.mono HB2.out.size)) (Nat.le_succ _))
                clear hb8 ht8
                go_wp2_with fail
                refine hK.out _ _ (KP.out _ (HEW.out _ HB8.out) (HXW.out _ HB8.out)) (fun hHeld => ?_)
                clear hK K
                try simp only [List.getElem_toArray, List.getElem_cons_zero, List.getElem_cons_succ, Act.put, List.setIfInBounds_toArray, List.set_cons_zero, List.set_cons_succ]
                refine wpAnyH_ready (rs := [11]) (by kernel_rfl) (by simp) ?_
                refine AllReadyH.cons (o := _) rfl (fun K hK => ?_) ?_
                · obtain ⟨r0, r1, r2, r3, r4, r5, r6, r7, r8, r9⟩ := (HRW.out _ HB8.out).ten
                  obtain ⟨z0, z1, z2, z3, z4, z5, z6, z7, z8, z9⟩ := whole_free (HRW.out _ HB8.out)
                  go_simp
                  clear r0 r1 r2 r3 r4 r5 r6 r7 r8 r9 z0 z1 z2 z3 z4 z5 z6 z7 z8 z9
                  refine hK.out _ _ (KP.out _ (whole_set10 (HEW.out _ HB8.out) (by omega) _ _ _ _ _ _ _ _ _ _) (whole_set10 (HXW.out _ HB8.out) (by have := HS1.out; omega) _ _ _ _ _ _ _ _ _ _)) (fun hHeld => ?_)
                  clear hK K
                  try simp only [List.getElem_toArray, List.getElem_cons_zero, List.getElem_cons_succ, Act.put, List.setIfInBounds_toArray, List.set_cons_zero, List.set_cons_succ]
                  refine wpAnyH_done (by kernel_rfl) ?_ _
                  go_wp2_with fail
                  refine tree_ret Try.results68 (w.heap.size + 1) rfl (HRW.out _ HB8.out) ?_
                  rw [HJL.out]
                  exact HM.out
                exact AllReadyH.nil
              exact AllReadyH.nil
            exact AllReadyH.nil
          exact AllReadyH.nil
        exact AllReadyH.nil
      exact AllReadyH.nil
  · have hn1 : ¬ mx = -1 := by omega
    obtain ⟨CN, hCN⟩ : ∃ CN : Nat, mn = (CN : Int) := ⟨mn.toNat, by omega⟩
    have hle : mn ≤ mx := by omega
    have hmx9 : mx ≤ 1000 := by omega
    have hcn1 : CN ≤ 1000 := by omega
    have HCN := Lib.hid hcn1
    have hpt := HPT.out
    rw [HTS.out] at hpt
    have hps : partsR tk ≤ 10000000000 := Nat.le_trans (Nat.le_mul_of_pos_left _ (by omega)) hpt
    have HCP := Lib.hid (show ∀ W, Below w2.heap.size w2 W → Calls Try.prog 90 #[.int .i64 CN, .agg #[.int .i64 tk.fld.op, .slice x1 x2 x3, .int .i32 tk.fld.rune, .slice y1 y2 y3, .int .i64 tk.fld.at', .int .i64 tk.fld.cap, .string tk.fld.name, .int .i64 tk.fld.min, .int .i64 tk.fld.max, .bool tk.fld.lazy]] W (RowPost AF (List.replicate CN tk) W) from fun W hW => smCopies_any tk CN hcn1 AF _ W (fun b hb => Nat.lt_of_lt_of_le (HA2.out b hb) hW.size) (HTK.out.same (same_below hW) fun _ h _ => h))
    by_cases heq : mx = mn
    · have hpc : CN * partsR tk ≤ 10000000000 := Nat.le_trans (Nat.mul_le_mul_right _ (by omega)) hpt
      have HJL : Hid (RT = joinedT (List.replicate CN tk)) := Lib.hid (by rw [← HRT.out]; unfold repeatedT; rw [if_neg (by rw [HMX.out]; exact fun h => hneg h.1), if_neg (by rw [HMX.out]; exact hneg), if_pos (by rw [HMX.out, HMN.out]; exact heq), HMN.out, hCN, Int.toNat_natCast])
      have HLEN := Lib.hid (rep_len0 (x := tk) CN (by omega))
      subst heq
      subst hCN
      have HCP2 := Lib.hid (HCP.out w2 HB20.out)
      clear hcn1 hpt hps hpc HCP
      go_wp2_with fail
      refine HCP2.out.mono ?_
      rintro e w3 ⟨v3, rfl, ho3, hb3⟩
      obtain ⟨a1, a2', a3, rfl⟩ := ho3.slice
      have HB3 := Lib.hid hb3
      have HJA := Lib.hid (smJoined_any (List.replicate CN tk) HLEN.out (fun b => (AF b ∨ w2.heap.size ≤ b) ∧ b < w3.heap.size) _ w3 (fun b hb => hb.2) ((ho3.kdsE (by rw [List.length_replicate]; have := HCN.out; omega)).mono fun b hb hl => ⟨hb.2, hl⟩))
      clear ho3 hb3 e0 e1 e2 e3 e4 e5 e6 e7 e8 e9 k0 k1 k2 k3 k4 k5 k6 k7 k8 k9
      go_wp2_with fail
      refine HJA.out.mono ?_
      rintro e w4 ⟨v4, rfl, ht4, hb4⟩
      obtain ⟨kv4, sv4, rfl, ⟨d1, d2, d3, rfl⟩, ⟨g1, g2, g3, rfl⟩⟩ := ht4.ten
      have HB4 := Lib.hid (HB3.out.trans (hb4.mono HB3.out.size))
      have HM := Lib.hid (out_tree (AF := AF) (w := w) (r := w.heap.size + 1) (ht4.same (fun _ _ _ => rfl) fun b hb _ => by
        have h1 := HS2.out; have h2 := HS1.out; have h3 := HB3.out.size
        rcases hb with ⟨hb | hb, -⟩ | hb
        · exact ⟨.inl hb, by have := HA.out b hb; omega⟩
        · exact ⟨.inr (by omega), by omega⟩
        · exact ⟨.inr (by omega), by omega⟩) (HB2.out.trans (HB4.out.mono HB2.out.size)) (Nat.le_succ _))
      clear ht4 hb4
      obtain ⟨r0, r1, r2, r3, r4, r5, r6, r7, r8, r9⟩ := (HRW.out _ HB4.out).ten
      obtain ⟨z0, z1, z2, z3, z4, z5, z6, z7, z8, z9⟩ := whole_free (HRW.out _ HB4.out)
      go_wp2_with fail
      refine tree_ret Try.results68 (w.heap.size + 1) rfl (HRW.out _ HB4.out) ?_
      rw [HJL.out]
      exact HM.out
    · have heq' : (mx == mn) = false := beq_eq_false_iff_ne.2 heq
      obtain ⟨D, hD⟩ : ∃ D, mx - mn = D := ⟨_, rfl⟩
      have q1 : IntKind.i64.wrap (mx - mn) = D := (IntWalk.i64_left _).trans ((IntWalk.wrap64_in _ (by omega)).trans hD)
      obtain ⟨Y, hY⟩ : ∃ Y, restT f.lazy tk (D.toNat - 1) = Y := ⟨_, rfl⟩
      rw [show (max (max mn mx) 1).toNat = CN + (D.toNat - 1 + 1) by omega, Nat.add_mul] at hpt
      have hpy : partsR Y ≤ (D.toNat - 1 + 1) * partsR tk + (D.toNat - 1 + 1) * 2 := by
        rw [← hY, ← Nat.mul_add]
        exact rest_parts _ _ _
      have HJL : Hid (RT = joinedT (List.replicate CN tk ++ [Y])) := Lib.hid (by rw [← HRT.out, ← hY]; unfold repeatedT; rw [if_neg (by rw [HMX.out]; exact fun h => hneg h.1), if_neg (by rw [HMX.out]; exact hneg), if_neg (by rw [HMX.out, HMN.out]; exact heq), HMN.out, HMX.out, hD, hCN, Int.toNat_natCast])
      have HLEN := Lib.hid (rep_len (x := tk) (Y := Y) CN (by omega))
      have hmul : (D.toNat - 1) * partsR tk ≤ 20000000000 := Nat.le_trans (Nat.mul_le_mul_right _ (show D.toNat - 1 ≤ D.toNat - 1 + 1 by omega)) (by omega)
      have HSEC : Hid (∀ W, Below w2.heap.size w2 W → Calls Try.prog 91 #[.int .i64 D, .agg #[.int .i64 tk.fld.op, .slice x1 x2 x3, .int .i32 tk.fld.rune, .slice y1 y2 y3, .int .i64 tk.fld.at', .int .i64 tk.fld.cap, .string tk.fld.name, .int .i64 tk.fld.min, .int .i64 tk.fld.max, .bool tk.fld.lazy], .func (.func 89) #[] #[.pointer (some ⟨w.heap.size, 0, none⟩)]] W (TurnedPost AF Y W)) := Lib.hid fun W hW => by
        have := smRest_any tk f.lazy w.heap.size (D.toNat - 1) D (by omega) (by omega) hmul hps AF _ W (fun b hb => Nat.lt_of_lt_of_le (HA2.out b hb) hW.size) (HTK.out.same (same_below hW) fun _ h _ => h) (HLZ.out W hW)
        rw [hY] at this
        exact this
      have HB0 := Lib.hid (below_draws w2 1)
      clear hcn1 hpt hps hpy hY hmul heq hD hle
      subst hCN
      go_upto_region 9 with (fail)
      clear e0 e1 e2 e3 e4 e5 e6 e7 e8 e9 k0 k1 k2 k3 k4 k5 k6 k7 k8 k9
      refine wp_region_held_drew (S := (fun w' => w'.cell? ⟨w.heap.size, 0, none⟩ = some (.int .i64 t.fld.op) ∧ w'.cell? ⟨w.heap.size, 1, none⟩ = some (.slice (some ⟨b, o, none⟩) 1 c) ∧ w'.cell? ⟨w.heap.size, 2, none⟩ = some (.int .i32 t.fld.rune) ∧ w'.cell? ⟨w.heap.size, 3, none⟩ = some (.slice a2 s c2) ∧ w'.cell? ⟨w.heap.size, 4, none⟩ = some (.int .i64 t.fld.at') ∧ w'.cell? ⟨w.heap.size, 5, none⟩ = some (.int .i64 t.fld.cap) ∧ w'.cell? ⟨w.heap.size, 6, none⟩ = some (.string t.fld.name) ∧ w'.cell? ⟨w.heap.size, 7, none⟩ = some (.int .i64 (CN : Int)) ∧ w'.cell? ⟨w.heap.size, 8, none⟩ = some (.int .i64 mx) ∧ w'.cell? ⟨w.heap.size, 9, none⟩ = some (.bool t.fld.lazy) ∧ w'.cell? ⟨w1.heap.size, 0, none⟩ = some (.int .i64 tk.fld.op) ∧ w'.cell? ⟨w1.heap.size, 1, none⟩ = some (.slice x1 x2 x3) ∧ w'.cell? ⟨w1.heap.size, 2, none⟩ = some (.int .i32 tk.fld.rune) ∧ w'.cell? ⟨w1.heap.size, 3, none⟩ = some (.slice y1 y2 y3) ∧ w'.cell? ⟨w1.heap.size, 4, none⟩ = some (.int .i64 tk.fld.at') ∧ w'.cell? ⟨w1.heap.size, 5, none⟩ = some (.int .i64 tk.fld.cap) ∧ w'.cell? ⟨w1.heap.size, 6, none⟩ = some (.string tk.fld.name) ∧ w'.cell? ⟨w1.heap.size, 7, none⟩ = some (.int .i64 tk.fld.min) ∧ w'.cell? ⟨w1.heap.size, 8, none⟩ = some (.int .i64 tk.fld.max) ∧ w'.cell? ⟨w1.heap.size, 9, none⟩ = some (.bool tk.fld.lazy))) (by kernel_rfl) (KP.out _ (HEW.out _ HB0.out) (HXW.out _ HB0.out)) (fun hHeld => ?_)
      refine wpAnyH_take (i := 0) (oi := _) (v := ?_) rfl (by kernel_rfl) (by kernel_rfl) (by kernel_rfl) (fun _ _ _ h => h) (Or.inl ⟨by rfl, ?_⟩) (by assumption) ?_
      rotate_left 1
      · (intro w hSw; (try dsimp only at hSw); go_simp; (try with_reducible rfl))
      try simp only [List.getElem_toArray, List.getElem_cons_zero, Act.put, List.setIfInBounds_toArray, List.set_cons_zero, List.set_cons_succ]
      refine wpAnyH_take (i := 1) (oi := _) (v := ?_) rfl (by kernel_rfl) (by kernel_rfl) (by kernel_rfl) (fun _ _ _ h => h) (Or.inl ⟨by rfl, ?_⟩) (by assumption) ?_
      rotate_left 1
      · (intro w hSw; (try dsimp only at hSw); go_simp; (try with_reducible rfl))
      try simp only [List.getElem_toArray, List.getElem_cons_zero, List.getElem_cons_succ, Act.put, List.setIfInBounds_toArray, List.set_cons_zero, List.set_cons_succ]
      refine wpAnyH_take (i := 2) (oi := _) (v := ?_) rfl (by kernel_rfl) (by kernel_rfl) (by kernel_rfl) (fun _ _ _ h => h) (Or.inl ⟨by rfl, ?_⟩) (by assumption) ?_
      rotate_left 1
      · (intro w hSw; (try dsimp only at hSw); go_simp; (try with_reducible rfl))
      try simp only [List.getElem_toArray, List.getElem_cons_zero, List.getElem_cons_succ, Act.put, List.setIfInBounds_toArray, List.set_cons_zero, List.set_cons_succ]
      refine wpAnyH_take (i := 4) (oi := _) (v := ?_) rfl (by kernel_rfl) (by kernel_rfl) (by kernel_rfl) (fun _ _ _ h => h) (Or.inl ⟨by rfl, ?_⟩) (by assumption) ?_
      rotate_left 1
      · (intro w hSw; (try dsimp only at hSw); go_simp; (try with_reducible rfl))
      try simp only [List.getElem_toArray, List.getElem_cons_zero, List.getElem_cons_succ, Act.put, List.setIfInBounds_toArray, List.set_cons_zero, List.set_cons_succ]
      refine wpAnyH_take (i := 5) (oi := _) (v := ?_) rfl (by kernel_rfl) (by kernel_rfl) (by kernel_rfl) (fun _ _ _ h => h) (Or.inl ⟨by rfl, ?_⟩) (by assumption) ?_
      rotate_left 1
      · (intro w hSw; (try dsimp only at hSw); go_simp; (try with_reducible rfl))
      try simp only [List.getElem_toArray, List.getElem_cons_zero, List.getElem_cons_succ, Act.put, List.setIfInBounds_toArray, List.set_cons_zero, List.set_cons_succ]
      refine wpAnyH_take (i := 6) (oi := _) (v := ?_) rfl (by kernel_rfl) (by kernel_rfl) (by kernel_rfl) (fun _ _ _ h => h) (Or.inl ⟨by rfl, ?_⟩) (by assumption) ?_
      rotate_left 1
      · (intro w hSw; (try dsimp only at hSw); go_simp; (try with_reducible rfl))
      try simp only [List.getElem_toArray, List.getElem_cons_zero, List.getElem_cons_succ, Act.put, List.setIfInBounds_toArray, List.set_cons_zero, List.set_cons_succ]
      refine wpAnyH_take (i := 7) (oi := _) (v := ?_) rfl (by kernel_rfl) (by kernel_rfl) (by kernel_rfl) (fun _ _ _ h => h) (Or.inl ⟨by rfl, ?_⟩) (by assumption) ?_
      rotate_left 1
      · (intro w hSw; (try dsimp only at hSw); go_simp; (try with_reducible rfl))
      try simp only [List.getElem_toArray, List.getElem_cons_zero, List.getElem_cons_succ, Act.put, List.setIfInBounds_toArray, List.set_cons_zero, List.set_cons_succ]
      refine wpAnyH_take (i := 8) (oi := _) (v := ?_) rfl (by kernel_rfl) (by kernel_rfl) (by kernel_rfl) (fun _ _ _ h => h) (Or.inl ⟨by rfl, ?_⟩) (by assumption) ?_
      rotate_left 1
      · (intro w hSw; (try dsimp only at hSw); go_simp; (try with_reducible rfl))
      try simp only [List.getElem_toArray, List.getElem_cons_zero, List.getElem_cons_succ, Act.put, List.setIfInBounds_toArray, List.set_cons_zero, List.set_cons_succ]
      refine wpAnyH_take (i := 9) (oi := _) (v := ?_) rfl (by kernel_rfl) (by kernel_rfl) (by kernel_rfl) (fun _ _ _ h => h) (Or.inl ⟨by rfl, ?_⟩) (by assumption) ?_
      rotate_left 1
      · (intro w hSw; (try dsimp only at hSw); go_simp; (try with_reducible rfl))
      try simp only [List.getElem_toArray, List.getElem_cons_zero, List.getElem_cons_succ, Act.put, List.setIfInBounds_toArray, List.set_cons_zero, List.set_cons_succ]
      refine wpAnyH_take (i := 10) (oi := _) (v := ?_) rfl (by kernel_rfl) (by kernel_rfl) (by kernel_rfl) (fun _ _ _ h => h) (Or.inl ⟨by rfl, ?_⟩) (by assumption) ?_
      rotate_left 1
      · (intro w hSw; (try dsimp only at hSw); go_simp; (try with_reducible rfl))
      try simp only [List.getElem_toArray, List.getElem_cons_zero, List.getElem_cons_succ, Act.put, List.setIfInBounds_toArray, List.set_cons_zero, List.set_cons_succ]
      refine wpAnyH_ready (rs := [3]) (by kernel_rfl) (by simp) ?_
      refine AllReadyH.cons (o := _) rfl (fun K hK => ?_) ?_
      · go_simp
        refine (HCP.out _ HB0.out).mono ?_
        rintro e u1 ⟨v5, rfl, ho5, hb5⟩
        obtain ⟨a1, a2', a3, rfl⟩ := ho5.slice
        have HB4 := Lib.hid (HB0.out.trans (hb5.mono HB0.out.size)); have HO4 := Lib.hid ((ho5.mono HB0.out.size).wide (G := fun b => AF b ∨ w2.heap.size ≤ b) fun b h => h.imp id fun h => Nat.le_trans HB0.out.size h)
        clear hb5 ho5
        go_wp2_with fail
        refine hK.out _ _ (KP.out _ (HEW.out _ HB4.out) (HXW.out _ HB4.out)) (fun hHeld => ?_)
        clear hK K
        try simp only [List.getElem_toArray, List.getElem_cons_zero, List.getElem_cons_succ, Act.put, List.setIfInBounds_toArray, List.set_cons_zero, List.set_cons_succ]
        refine wpAnyH_ready (rs := [11]) (by kernel_rfl) (by simp) ?_
        refine AllReadyH.cons (o := _) rfl (fun K hK => ?_) ?_
        · go_simp
          refine (HSEC.out _ HB4.out).mono ?_
          rintro e u2 ⟨v6, rfl, ht6, hb6⟩
          obtain ⟨kv6, sv6, rfl, ⟨e1, e2, e3, rfl⟩, ⟨f1, f2, f3, rfl⟩⟩ := ht6.ten
          have HB5 := Lib.hid (HB4.out.trans (hb6.mono HB4.out.size)); have HO5 := Lib.hid (HO4.out.below hb6)
          have HT5 := Lib.hid (ht6.same (G := fun b => Off (.slice a1 a2' a3) b ∧ (AF b ∨ w2.heap.size ≤ b)) (fun _ _ _ => rfl) fun b hb hl => ⟨fun e => by (have h1 := HO4.out.base b e); (rcases hb with hb | hb); (· have := HA2.out b hb; omega); (· exact HO4.out.off b hb e), hb.imp id fun h => Nat.le_trans HB4.out.size h⟩)
          clear hb6 ht6
          go_wp2_with fail
          refine hK.out _ _ (KP.out _ (HEW.out _ HB5.out) (HXW.out _ HB5.out)) (fun hHeld => ?_)
          clear hK K
          try simp only [List.getElem_toArray, List.getElem_cons_zero, List.getElem_cons_succ, Act.put, List.setIfInBounds_toArray, List.set_cons_zero, List.set_cons_succ]
          refine wpAnyH_ready (rs := [12]) (by kernel_rfl) (by simp) ?_
          refine AllReadyH.cons (o := _) rfl (fun K hK => ?_) ?_
          · have HB6 := Lib.hid (HB5.out.alloc HB5.out.size (.cells #[.int .i64 Y.fld.op, .slice e1 e2 e3, .int .i32 Y.fld.rune, .slice f1 f2 f3, .int .i64 Y.fld.at', .int .i64 Y.fld.cap, .string Y.fld.name, .int .i64 Y.fld.min, .int .i64 Y.fld.max, .bool Y.fld.lazy] 45)); have hb6 : Below u2.heap.size u2 (u2.alloc (.cells #[.int .i64 Y.fld.op, .slice e1 e2 e3, .int .i32 Y.fld.rune, .slice f1 f2 f3, .int .i64 Y.fld.at', .int .i64 Y.fld.cap, .string Y.fld.name, .int .i64 Y.fld.min, .int .i64 Y.fld.max, .bool Y.fld.lazy] 45)) := (Below.refl _ _).alloc (Nat.le_refl _) _
            have HO6 := Lib.hid (HO5.out.below hb6)
            have hk6 := kds_one HT5.out (fun b => Off (.slice a1 a2' a3) b ∧ (AF b ∨ w2.heap.size ≤ b)) (fun b hb hl => hb)
            unfold treC at hk6
            have HK6 := Lib.hid hk6
            clear hb6 hk6
            go_simp
            refine hK.out _ _ (KP.out _ (HEW.out _ HB6.out) (HXW.out _ HB6.out)) (fun hHeld => ?_)
            clear hK K
            try simp only [List.getElem_toArray, List.getElem_cons_zero, List.getElem_cons_succ, Act.put, List.setIfInBounds_toArray, List.set_cons_zero, List.set_cons_succ]
            refine wpAnyH_ready (rs := [13]) (by kernel_rfl) (by simp) ?_
            refine AllReadyH.cons (o := _) rfl (fun K hK => ?_) ?_
            · refine step_append_trs rfl (.tmp 51) (.tmp 60) rfl (fun b => AF b ∨ w2.heap.size ≤ b) w2.heap.size _ (List.replicate CN tk) rfl HO6.out ⟨u2.heap.size, 0, none⟩ 1 1 [Y] rfl HK6.out (by rw [List.length_replicate]; have := HCN.out; simp; omega) HB6.out.size ?_
              intro v7 u3 ho7 hg7 _
              obtain ⟨g1, g2, g3, rfl⟩ := ho7.slice
              have HB7 := Lib.hid (HB6.out.grown hg7 HB6.out.size (fun j hj => HO6.out.base j hj)); have HO7 := Lib.hid ho7
              clear ho7 hg7
              refine hK.out _ _ (KP.out _ (HEW.out _ HB7.out) (HXW.out _ HB7.out)) (fun hHeld => ?_)
              clear hK K
              try simp only [List.getElem_toArray, List.getElem_cons_zero, List.getElem_cons_succ, Act.put, List.setIfInBounds_toArray, List.set_cons_zero, List.set_cons_succ]
              refine wpAnyH_ready (rs := [14]) (by kernel_rfl) (by simp) ?_
              refine AllReadyH.cons (o := _) rfl (fun K hK => ?_) ?_
              · have HJA := Lib.hid (smJoined_any (List.replicate CN tk ++ [Y]) HLEN.out (fun b => (AF b ∨ w2.heap.size ≤ b) ∧ b < u3.heap.size) _ u3 (fun b hb => hb.2) ((HO7.out.kdsE (by rw [List.length_append, List.length_replicate]; have := HCN.out; simp; omega)).mono fun b hb hl => ⟨hb.2, hl⟩))
                go_simp
                refine HJA.out.mono ?_
                rintro e u4 ⟨v8, rfl, ht8, hb8⟩
                obtain ⟨kv8, sv8, rfl, ⟨c1, c2, c3, rfl⟩, ⟨d1, d2, d3, rfl⟩⟩ := ht8.ten
                have HB8 := Lib.hid (HB7.out.trans (hb8.mono HB7.out.size))
                have HM := Lib.hid (out_tree (AF := AF) (w := w) (r := w.heap.size + 1) (ht8.same (fun _ _ _ => rfl) fun b hb _ => by (have := HB2.out.size); (have := HB7.out.size); (have := HS2.out); (have := HS1.out); (rcases hb with ⟨hb | hb, -⟩ | hb); (· exact ⟨.inl hb, by have := HA.out b hb; omega⟩); (· exact ⟨.inr (by omega), by omega⟩); (· exact ⟨.inr (by omega), by omega⟩)) (HB2.out.trans (HB8.out.mono HB2.out.size)) (Nat.le_succ _))
                clear hb8 ht8
                go_wp2_with fail
                refine hK.out _ _ (KP.out _ (HEW.out _ HB8.out) (HXW.out _ HB8.out)) (fun hHeld => ?_)
                clear hK K
                try simp only [List.getElem_toArray, List.getElem_cons_zero, List.getElem_cons_succ, Act.put, List.setIfInBounds_toArray, List.set_cons_zero, List.set_cons_succ]
                refine wpAnyH_ready (rs := [15]) (by kernel_rfl) (by simp) ?_
                refine AllReadyH.cons (o := _) rfl (fun K hK => ?_) ?_
                · obtain ⟨r0, r1, r2, r3, r4, r5, r6, r7, r8, r9⟩ := (HRW.out _ HB8.out).ten
                  obtain ⟨z0, z1, z2, z3, z4, z5, z6, z7, z8, z9⟩ := whole_free (HRW.out _ HB8.out)
                  go_simp
                  clear r0 r1 r2 r3 r4 r5 r6 r7 r8 r9 z0 z1 z2 z3 z4 z5 z6 z7 z8 z9
                  refine hK.out _ _ (KP.out _ (whole_set10 (HEW.out _ HB8.out) (by omega) _ _ _ _ _ _ _ _ _ _) (whole_set10 (HXW.out _ HB8.out) (by have := HS1.out; omega) _ _ _ _ _ _ _ _ _ _)) (fun hHeld => ?_)
                  clear hK K
                  try simp only [List.getElem_toArray, List.getElem_cons_zero, List.getElem_cons_succ, Act.put, List.setIfInBounds_toArray, List.set_cons_zero, List.set_cons_succ]
                  refine wpAnyH_done (by kernel_rfl) ?_ _
                  go_wp2_with fail
                  refine tree_ret Try.results68 (w.heap.size + 1) rfl (HRW.out _ HB8.out) ?_
                  rw [HJL.out]
                  exact HM.out
                exact AllReadyH.nil
              exact AllReadyH.nil
            exact AllReadyH.nil
          exact AllReadyH.nil
        exact AllReadyH.nil
      exact AllReadyH.nil
end Go.Proofs.Ythffdmncdoogpaa
