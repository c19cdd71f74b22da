/- Texts merged by program: PParts, PDepth. No condition. -/
import Derived.Test.YtnemacejaiifnaaQ23
import Derived.Test.YtnemacejaiifnaaQ24
import Derived.RangeFuncNested
import Derived.RangeFuncBound
import Derived.RangeFuncCalls
import Derived.RangeFuncLeaves
import Derived.RangeFuncBox
import Derived.Shelf.Abstract
import Derived.Shelf.RegionOpen
import Derived.OwnWalkIn
import Derived.TacticsInMore
import Derived.LoopNIn
import Derived.LoopIn
import Derived.Sort.CutIn
set_option linter.unusedVariables false
/- The iterator over a tree's parts: for every loop body that leaves what lay and all trees as they are, the parts come in the order in which they begin, each with its depth; or, if a round says no more, the first of them. -/
namespace Go.Proofs.Ytnemacejaiifnaa
open Go Go.RowKit Go.Shelf
attribute [local go_sem] Oper.semAt_some

/-- A tree's parts, in the order in which they begin, and how deep each stands. -/
def partsT : Tr → Nat → List (Tr × Nat) := Tr.para (α := Nat → List (Tr × Nat)) fun t l d => (t, d) :: (l.map fun f => f (d + 1)).flatten
theorem partsT_eq (t : Tr) (d : Nat) : partsT t d = (t, d) :: (t.kids.map fun k => partsT k (d + 1)).flatten := by
  unfold partsT
  rw [Tr.para_eq]
  simp [List.map_map, Function.comp_def]
theorem partsT_len (t : Tr) : ∀ d, (partsT t d).length ≤ partsR t := by
  refine Tr.ind (P := fun t => ∀ d, (partsT t d).length ≤ partsR t) (fun t ih d => ?_) t
  rw [partsT_eq, partsR_eq, List.length_cons, List.length_flatten, List.map_map]
  have h : ∀ (l : List Tr), (∀ k ∈ l, ∀ d, (partsT k d).length ≤ partsR k) → (l.map (List.length ∘ fun k => partsT k (d + 1))).sum ≤ (l.map partsR).sum := fun l => by
    induction l with
    | nil => simp
    | cons k l ihl =>
      intro hl
      have h1 := hl k (by simp) (d + 1)
      have h2 := ihl fun q hq => hl q (by simp [hq])
      simp at *
      omega
  have := h t.kids ih
  omega
/-- The parts of the first k Kids. -/
def kidsT (t : Tr) (d k : Nat) : List (Tr × Nat) := ((t.kids.take k).map fun q => partsT q (d + 1)).flatten
theorem kidsT_succ {t : Tr} {d k : Nat} (h : k < t.kids.length) : kidsT t d (k + 1) = kidsT t d k ++ partsT t.kids[k] (d + 1) := by
  unfold kidsT
  rw [List.take_succ_eq_append_getElem h, List.map_append, List.flatten_append]
  simp
theorem kidsT_pre (t : Tr) (d k : Nat) : kidsT t d k <+: kidsT t d t.kids.length := by
  unfold kidsT
  refine ⟨((t.kids.drop k).map fun q => partsT q (d + 1)).flatten, ?_⟩
  rw [← List.flatten_append, ← List.map_append, List.take_append_drop, List.take_length]

/-- Blocks of trees lie as they lay. -/
def KeepsTr (W W' : World) : Prop := ∀ (g : Nat) (cs : Array Value), W.heap[g]? = some (Obj.cells cs 27 (0, 0)) → W'.heap[g]? = some (Obj.cells cs 27 (0, 0))
theorem KeepsTr.trans {A B C : World} (h : KeepsTr A B) (k : KeepsTr B C) : KeepsTr A C := fun g cs hg => k g cs (h g cs hg)
theorem KeepsTr.refl (A : World) : KeepsTr A A := fun _ _ h => h
theorem KeepsTr.grown {W W' : World} {row : Option Nat} (hg : W.grownBy W' row) (hr : ∀ r, row = some r → ∀ cs : Array Value, W.heap[r]? ≠ some (Obj.cells cs 27 (0, 0))) : KeepsTr W W' := fun g cs h => by
  refine (hg.block g (Array.getElem?_eq_some_iff.1 h).1 ?_).trans h
  intro e
  exact hr g e.symm cs h
theorem KeepsTr.below {W W' : World} (h : Below W.heap.size W W') : KeepsTr W W' := fun g cs hg => (h.block g (Array.getElem?_eq_some_iff.1 hg).1).trans hg
/-- What a round that goes on keeps. -/
def KpT (n : Nat) (W W' : World) : Prop := Below n W W' ∧ KeepsTr W W'
theorem KpT.trans {n : Nat} {A B C : World} (h : KpT n A B) (k : KpT n B C) : KpT n A C := ⟨h.1.trans k.1, h.2.trans k.2⟩
theorem KpT.below {n : Nat} {W W' : World} (hn : n ≤ W.heap.size) (h : Below W.heap.size W W') : KpT n W W' := ⟨h.mono hn, .below h⟩
theorem KpT.whole {n : Nat} {W W' : World} {g : Nat} {cs : Array Value} (h : KpT n W W') (hg : Whole W g 27 cs) : Whole W' g 27 cs := h.2 g cs hg

/-- What a round is told: a tree that lies in the world W0, and how deep it stands. -/
abbrev Part (W0 : World) : Type := { x : Tr × Value × Nat // Tre W0 x.1 x.2.1 ∧ x.2.2 ≤ 10000000002 }
abbrev Part.vals {W0 : World} (x : Part W0) : Array Value := #[x.1.2.1, .int .i64 x.1.2.2]
abbrev Part.key {W0 : World} (x : Part W0) : Tr × Nat := (x.1.1, x.1.2.2)
def keys {W0 : World} (G : List (Part W0)) : List (Tr × Nat) := G.map Part.key
theorem keys_append {W0 : World} (a b : List (Part W0)) : keys (a ++ b) = keys a ++ keys b := by simp [keys]
theorem keys_length {W0 : World} (a : List (Part W0)) : (keys a).length = a.length := by simp [keys]

theorem Kid10.below {w w' : World} {b o : Nat} {x0 x1 x2 x3 x4 x5 x6 x7 x8 x9 : Value} (h : Kid10 w b o x0 x1 x2 x3 x4 x5 x6 x7 x8 x9) (hb : Below w.heap.size w w') : Kid10 w' b o x0 x1 x2 x3 x4 x5 x6 x7 x8 x9 := by
  obtain ⟨h0, h1, h2, h3, h4, h5, h6, h7, h8, h9⟩ := h
  have g : ∀ j u, w.cell? ⟨b, j, none⟩ = some u → w'.cell? ⟨b, j, none⟩ = some u := fun j u hu => (hb.cell (World.block_lt_of_cell? w _ hu)).trans hu
  exact ⟨g _ _ h0, g _ _ h1, g _ _ h2, g _ _ h3, g _ _ h4, g _ _ h5, g _ _ h6, g _ _ h7, g _ _ h8, g _ _ h9⟩
/-- What a walk over a tree's parts leaves. -/
def WalkPost {W0 : World} (J Jx : List (Part W0) → World → Prop) (pre : List (Part W0)) (P : List (Tr × Nat)) (W : World) (e : Ending) (W' : World) : Prop :=
  (e = .returned (.bool true) ∧ ∃ G, keys G = P ∧ J (pre ++ G) W' ∧ KpT W0.heap.size W W') ∨ (e = .returned (.bool false) ∧ ∃ G, keys G <+: P ∧ Jx (pre ++ G) W')
theorem room_any {k : Nat} : Fence.wide.room k := fun d h => by cases h
theorem roundIn_any {m m' : Nat} {P : Program} {l : Nat} {f : FuncId} {tmps : Array Value} {assign body : Code} {w : World} {R : Ending → World → Prop} (h : RoundIn Fence.wide m P l f tmps assign body w R) : RoundIn Fence.wide m' P l f tmps assign body w R := ⟨h.1, fun c cs _ => h.2 c cs room_any⟩
theorem yieldAt_any {m : Nat} (m' : Nat) {P : Program} {l : Nat} {args : Array Value} {W : World} {R : Ending → World → Prop} (h : YieldAt Fence.wide m P l args W R) : YieldAt Fence.wide m' P l args W R := by
  obtain ⟨fn, tmps, assign, body, hy, hR⟩ := h
  exact ⟨fn, tmps, assign, body, hy, roundIn_any hR⟩

set_option maxHeartbeats 2000000 in
set_option maxRecDepth 100000 in
theorem walkThr (l N : Nat) (W0 : World) (J Jx : List (Part W0) → World → Prop) (B0 : Nat) (hJ : AbidesFrom B0 J)
    (hY : ∀ m pre (x : Part W0) W, J pre W → pre.length < N → YieldAt Fence.wide m Try.prog l (Part.vals x) W fun e W' =>
      (e = .returned (.bool true) ∧ J (pre ++ [x]) W' ∧ KpT W0.heap.size W W') ∨ (e = .returned (.bool false) ∧ Jx (pre ++ [x]) W')) (t : Tr) :
    ∀ (n d : Nat) (v : Value) (pre : List (Part W0)) (W : World), Tre W0 t v → d + partsR t ≤ 10000000002 → Below W0.heap.size W0 W → J pre W → pre.length + (partsT t d).length ≤ N →
      CallsIn Fence.wide n Try.prog 61 #[v, .int .i64 d, .func (.yield l) #[] #[]] W (WalkPost J Jx pre (partsT t d) W) := by
  refine Tr.ind (P := fun t => ∀ (n d : Nat) (v : Value) (pre : List (Part W0)) (W : World), Tre W0 t v → d + partsR t ≤ 10000000002 → Below W0.heap.size W0 W → J pre W → pre.length + (partsT t d).length ≤ N →
      CallsIn Fence.wide n Try.prog 61 #[v, .int .i64 d, .func (.yield l) #[] #[]] W (WalkPost J Jx pre (partsT t d) W)) (fun t ih n d v pre W hT hd hB0 hJ0 hN => ?_) t
  have H0 := Lib.hid hT
  obtain ⟨A, m, c, a2, s, c2, hm, hs, rfl, hmb, hsb, hK, hS, hF⟩ := hT.opened
  obtain ⟨x, hx⟩ : ∃ x : Part W0, x.1 = (t, _, d) := ⟨⟨(t, _, d), H0.out, by simp only; omega⟩, rfl⟩
  have hkey : Part.key x = (t, d) := by unfold Part.key; rw [hx]
  have hvals : Part.vals x = #[.agg #[.int .i64 t.fld.op, .slice A m c, .int .i32 t.fld.rune, .slice a2 s c2, .int .i64 t.fld.at', .int .i64 t.fld.cap, .string t.fld.name, .int .i64 t.fld.min, .int .i64 t.fld.max, .bool t.fld.lazy], .int .i64 d] := by unfold Part.vals; rw [hx]
  obtain ⟨w1, hw1⟩ : ∃ w1, W.alloc (.cells #[.int .i64 t.fld.op, .slice A m c, .int .i32 t.fld.rune, .slice a2 s c2, .int .i64 t.fld.at', .int .i64 t.fld.cap, .string t.fld.name, .int .i64 t.fld.min, .int .i64 t.fld.max, .bool t.fld.lazy] 27) = w1 := ⟨_, rfl⟩
  have hb1 : Below W.heap.size W w1 := by rw [← hw1]; exact (Below.refl _ _).alloc (Nat.le_refl _) _
  have hE1 : Whole w1 W.heap.size 27 #[.int .i64 t.fld.op, .slice A m c, .int .i32 t.fld.rune, .slice a2 s c2, .int .i64 t.fld.at', .int .i64 t.fld.cap, .string t.fld.name, .int .i64 t.fld.min, .int .i64 t.fld.max, .bool t.fld.lazy] := by rw [← hw1]; exact heap_alloc_new W _
  have hJ1 : J pre w1 := hJ pre W w1 none hJ0 (by rw [← hw1]; exact World.grownBy_alloc W _ none) (fun r e => by cases e)
  have hKp1 : KpT W0.heap.size W w1 := KpT.below hB0.size hb1
  obtain ⟨fn, tmps, assign, body, hy, hR⟩ := hY (n - 1) pre x w1 hJ1 (by rw [partsT_eq] at hN; simp at hN; omega)
  rw [hvals] at hy
  obtain ⟨e0, e1, e2, e3, e4, e5, e6, e7, e8, e9⟩ := hE1.ten
  have HW1 := Lib.hid hw1; have HE1 := Lib.hid hE1; have HKP1 := Lib.hid hKp1; have HB0 := Lib.hid hB0; have HK := Lib.hid hK; have HM := Lib.hid hm; have HY := Lib.hid hY; have HJ := Lib.hid hJ; have HN := Lib.hid hN; have IH := Lib.hid ih; have HKEY := Lib.hid hkey; have HD := Lib.hid hd
  have hdd : d ≤ 10000000002 := by omega
  clear hT hx hkey hvals hw1 hb1 hE1 hJ1 hKp1 hB0 hK hS hF hm hs hY hJ hN ih hJ0 hd
  refine callsIn_of_wp Try.func61 rfl trivial ?_ rfl
  simp only [Try.ntmps61, List.size_toArray, List.length_cons, List.length_nil, Nat.reduceAdd, Nat.reduceSub, Array.replicate_succ, Array.replicate_zero, List.push_toArray, List.append_toArray, List.nil_append, List.cons_append]
  gi_upto_region 1 with (fail)
  rw [HW1.out]
  have hdp : Fence.wide.depth.isSome = true → 1 ≤ n := fun h => by cases h
  gi_wp2
  refine ⟨hdp, hR.mono ?_⟩
  rintro e W2 (⟨rfl, hJ2, hk2⟩ | ⟨rfl, hJx2⟩)
  rotate_left
  · have HJX := Lib.hid hJx2
    clear hJx2 e0 e1 e2 e3 e4 e5 e6 e7 e8 e9 hR hy
    gi_wp2
    go_ret
    exact .inr ⟨rfl, [x], by rw [partsT_eq, ← HKEY.out]; exact ⟨_, rfl⟩, HJX.out⟩
  have HJ2 := Lib.hid hJ2; have HK2 := Lib.hid (HKP1.out.trans hk2)
  have hE2 := hk2.whole HE1.out
  clear hJ2 hk2 e0 e1 e2 e3 e4 e5 e6 e7 e8 e9 hR hy
  obtain ⟨-, e1, -⟩ := hE2.ten
  gi_wp2
  gi_loopw [17] (fun i wr => ∃ (k : Nat) (G : List (Part W0)), k ≤ m ∧ i = .int .i64 k ∧ keys G = (t, d) :: kidsT t d k ∧ J (pre ++ G) wr ∧ KpT W0.heap.size W wr) (fun i _ => m - (intOf i).toNat)
  case atStart => exact ⟨0, [x], Nat.zero_le _, rfl, by simpa [keys, kidsT] using HKEY.out, HJ2.out, HK2.out⟩
  case round =>
    obtain ⟨k, G, hk, rfl, hG, hJr, hKr⟩ := hrel
    have HG := Lib.hid hG; have HJR := Lib.hid hJr; have HKR := Lib.hid hKr
    clear hG hJr hKr
    by_cases hkm : k < m
    · have hkl : k < t.kids.length := by rw [HM.out]; exact hkm
      obtain ⟨b, o, tk, x1, x2, x3, y1, y2, y3, rfl, htk, hmem, h10, hTk⟩ := HK.out.kidS k hkl
      have hBr : Below W0.heap.size W0 wr := HB0.out.trans HKR.out.1
      obtain ⟨c0, c1, c2', c3, c4, c5, c6, c7, c8, c9⟩ := h10.below hBr
      obtain ⟨w2, hw2⟩ : ∃ w2, wr.alloc (.cells #[.int .i64 tk.fld.op, .slice x1 x2 x3, .int .i32 tk.fld.rune, .slice y1 y2 y3, .int .i64 tk.fld.at', .int .i64 tk.fld.cap, .string tk.fld.name, .int .i64 tk.fld.min, .int .i64 tk.fld.max, .bool tk.fld.lazy] 27) = w2 := ⟨_, rfl⟩
      have hb2 : Below wr.heap.size wr w2 := by rw [← hw2]; exact (Below.refl _ _).alloc (Nat.le_refl _) _
      have hE2 : Box10 w2 wr.heap.size (.int .i64 tk.fld.op) (.slice x1 x2 x3) (.int .i32 tk.fld.rune) (.slice y1 y2 y3) (.int .i64 tk.fld.at') (.int .i64 tk.fld.cap) (.string tk.fld.name) (.int .i64 tk.fld.min) (.int .i64 tk.fld.max) (.bool tk.fld.lazy) := by rw [← hw2]; exact box10_new wr _ _ _ _ _ _ _ _ _ _ _
      have hJ2 : J (pre ++ G) w2 := HJ.out _ wr w2 none HJR.out (by rw [← hw2]; exact World.grownBy_alloc wr _ none) (fun r e => by cases e)
      have hpk := partsR_kid hmem
      have hks := kidsT_succ (t := t) (d := d) hkl
      rw [htk] at hks
      have hle : (kidsT t d (k + 1)).length ≤ (kidsT t d t.kids.length).length := by
        have h1 := (kidsT_pre t d (k + 1)).length_le
        exact h1
      have hgl := congrArg List.length HG.out
      have hNN := HN.out
      rw [keys_length, List.length_cons] at hgl
      rw [partsT_eq, List.length_cons] at hNN
      have hall : ((t.kids.map fun q => partsT q (d + 1)).flatten) = kidsT t d t.kids.length := by unfold kidsT; rw [List.take_length]
      rw [hall] at hNN
      rw [hks, List.length_append] at hle
      have hI := IH.out tk hmem (n - 1) (d + 1) _ (pre ++ G) w2 hTk (by have := HD.out; omega) (hBr.trans (hb2.mono hBr.size)) hJ2 (by rw [List.length_append]; omega)
      rw [show (((d + 1 : Nat)) : Int) = (d : Int) + 1 from by omega] at hI
      have HI := Lib.hid hI; have HW2 := Lib.hid hw2; have HKS := Lib.hid hks; have HKP2 := Lib.hid (HKR.out.trans (KpT.below hBr.size hb2))
      have HKL := Lib.hid hkl; have HALL := Lib.hid hall
      obtain ⟨q0, q1, q2, q3, q4, q5, q6, q7, q8, q9⟩ := hE2
      clear hw2 hb2 hJ2 hpk hks hle hgl hNN hall hI hBr hTk h10 htk hmem
      gi_upto_region 6 with (fail)
      rw [HW2.out]
      clear c0 c1 c2' c3 c4 c5 c6 c7 c8 c9
      gi_wp2_with fail
      refine ⟨trivial, ?_⟩
      try refine ⟨hdp, ?_⟩
      gi_at_call 61
      refine HI.out.mono ?_
      rintro e W3 (⟨rfl, G2, hg2, hj2, hk2⟩ | ⟨rfl, G2, hg2, hj2⟩)
      · have HG2 := Lib.hid hg2; have HJ3 := Lib.hid hj2; have HK3 := Lib.hid (HKP2.out.trans hk2)
        clear hg2 hj2 hk2 q0 q1 q2 q3 q4 q5 q6 q7 q8 q9
        gi_wp2_with fail
        go_roundw
        case rel => exact ⟨k + 1, G ++ G2, by omega, by go_num, by rw [keys_append, HG.out, HG2.out, HKS.out]; rfl, by rw [← List.append_assoc]; exact HJ3.out, HK3.out⟩
        case measure => simp [intOf]; omega
      · have HG2 := Lib.hid hg2; have HJ3 := Lib.hid hj2
        clear hg2 hj2 q0 q1 q2 q3 q4 q5 q6 q7 q8 q9
        gi_wp2_with fail
        go_ret
        refine .inr ⟨rfl, G ++ G2, ?_, by rw [← List.append_assoc]; exact HJ3.out⟩
        rw [keys_append, HG.out, partsT_eq, HALL.out, List.cons_append]
        refine List.prefix_cons_inj _ |>.2 ?_
        refine List.IsPrefix.trans ?_ (kidsT_pre t d (k + 1))
        rw [HKS.out]
        exact (List.prefix_append_right_inj _).2 HG2.out
    · have hk2 : k = t.kids.length := by rw [HM.out]; omega
      have hg := HG.out
      rw [hk2] at hg
      have HG2 := Lib.hid hg
      clear hk2 hg
      gi_wp2_with fail
      go_ret
      refine .inl ⟨rfl, G, ?_, HJR.out, HKR.out⟩
      rw [partsT_eq, HG2.out]
      unfold kidsT
      rw [List.take_length]

set_option maxHeartbeats 2000000 in
set_option maxRecDepth 100000 in
/-- The walk as a function that is ranged over. -/
theorem parts1_in (n l Bx : Nat) (W0 : World) (J Jx : List (Part W0) → World → Prop) (t : Tr) (hp : partsR t ≤ 10000000000) (v : Value) (W : World) (hJ : AbidesFrom W.heap.size J)
    (hY : ∀ pre (x : Part W0) W1, J pre W1 → pre.length < (partsT t 1).length → YieldAt Fence.wide (n - 1) Try.prog l (Part.vals x) W1 fun e W' =>
      (e = .returned (.bool true) ∧ J (pre ++ [x]) W' ∧ KpT W0.heap.size W1 W') ∨ (e = .returned (.bool false) ∧ Jx (pre ++ [x]) W'))
    (hB : Below W0.heap.size W0 W) (hT : Tre W0 t v) (hBx : ∀ x0 x1 x2 x3 x4 x5 x6 x7 x8 x9, v = .agg #[x0, x1, x2, x3, x4, x5, x6, x7, x8, x9] → Box10 W Bx x0 x1 x2 x3 x4 x5 x6 x7 x8 x9) (h0 : J [] W) :
    CallsIn Fence.wide n Try.prog 60 #[.func (.yield l) #[] #[], .pointer (some ⟨Bx, 0, none⟩)] W fun e W' => (∃ v, e = .returned v) ∧
      ((∃ xs, keys xs = partsT t 1 ∧ J xs W') ∨ (∃ pre : List (Part W0), keys pre <+: partsT t 1 ∧ Jx pre W')) := by
  have hw := walkThr l (partsT t 1).length W0 J Jx W.heap.size hJ (fun m pre x W1 hj hl => yieldAt_any m (hY pre x W1 hj hl)) t (n - 1) 1 v [] W hT (by omega) hB h0 (by simp)
  obtain ⟨A, m, c, a2, s, c2, -, -, rfl, -⟩ := hT.opened
  obtain ⟨e0, e1, e2, e3, e4, e5, e6, e7, e8, e9⟩ := hBx _ _ _ _ _ _ _ _ _ _ rfl
  have hdp : Fence.wide.depth.isSome = true → 1 ≤ n := fun h => by cases h
  have HW := Lib.hid hw
  clear hw hBx hY hJ
  refine callsIn_of_wp Try.func60 rfl trivial ?_ rfl
  simp only [Try.ntmps60, List.size_toArray, List.length_cons, List.length_nil, Nat.reduceAdd, Nat.reduceSub, Array.replicate_succ, Array.replicate_zero, List.push_toArray, List.append_toArray, List.nil_append, List.cons_append]
  gi_wp2_with fail
  refine ⟨trivial, ?_⟩
  try refine ⟨hdp, ?_⟩
  gi_at_call 61
  refine HW.out.mono ?_
  rintro e W3 (⟨rfl, G2, hg2, hj2, hk2⟩ | ⟨rfl, G2, hg2, hj2⟩)
  · have HJ3 := Lib.hid hj2
    clear hj2 hk2
    gi_wp2_with fail
    go_end0
    exact ⟨⟨_, rfl⟩, .inl ⟨G2, hg2, by simpa using HJ3.out⟩⟩
  · have HJ3 := Lib.hid hj2
    clear hj2
    gi_wp2_with fail
    go_end0
    exact ⟨⟨_, rfl⟩, .inr ⟨G2, hg2, by simpa using HJ3.out⟩⟩
theorem parts_stops (n Bx : Nat) (W0 : World) (t : Tr) (hp : partsR t ≤ 10000000000) (v : Value) (w : World) (hB : Below W0.heap.size W0 w) (hT : Tre W0 t v) (hBx : ∀ x0 x1 x2 x3 x4 x5 x6 x7 x8 x9, v = .agg #[x0, x1, x2, x3, x4, x5, x6, x7, x8, x9] → Box10 w Bx x0 x1 x2 x3 x4 x5 x6 x7 x8 x9) :
    SeqStopsK Fence.wide n Try.prog 60 #[.pointer (some ⟨Bx, 0, none⟩)] (Part.vals (W0 := W0)) (KpT W0.heap.size) (fun xs => keys xs = partsT t 1) (fun pre => keys pre <+: partsT t 1) (partsT t 1).length w :=
  fun l J Jx W hW hJ _ hY h0 => parts1_in n l Bx W0 J Jx t hp v W hJ hY (hB.trans (hW.mono hB.size)) hT (fun x0 x1 x2 x3 x4 x5 x6 x7 x8 x9 h => (hBx x0 x1 x2 x3 x4 x5 x6 x7 x8 x9 h).below hW) h0
/-- What parts hands back: a function over a box of the tree. -/
theorem pparts_any (x0 x1 x2 x3 x4 x5 x6 x7 x8 x9 : Value) (w : World) : Calls Try.prog 33 #[.agg #[x0, x1, x2, x3, x4, x5, x6, x7, x8, x9]] w fun e w' => e = .returned (.func (.func 60) #[] #[.pointer (some ⟨w.heap.size, 0, none⟩)]) ∧ w' = w.alloc (.cells #[x0, x1, x2, x3, x4, x5, x6, x7, x8, x9] 27) := by
  go_enter Try.func33, Try.ntmps33
  go_wp2
  go_ret
  exact ⟨rfl, rfl⟩
end Go.Proofs.Ytnemacejaiifnaa
/- How deep a tree is: the program's Depth, at any tree. -/
namespace Go.Proofs.Ytnemacejaiifnaa
open Go Go.RowKit Go.Shelf
attribute [local go_sem] Oper.semAt_some

theorem maxL_depths (t : Tr) : ∀ d, maxL ((partsT t d).map (·.2)) + 1 = d + depthR t := by
  refine Tr.ind (P := fun t => ∀ d, maxL ((partsT t d).map (·.2)) + 1 = d + depthR t) (fun t ih d => ?_) t
  rw [partsT_eq, depthR_eq, List.map_cons, maxL]
  have h : ∀ (l : List Tr), (∀ k ∈ l, ∀ d, maxL ((partsT k d).map (·.2)) + 1 = d + depthR k) → max d (maxL (((l.map fun k => partsT k (d + 1)).flatten).map (·.2))) = d + maxL (l.map depthR) := fun l => by
    induction l with
    | nil => simp [maxL]
    | cons k l ihl =>
      intro hl
      have h1 := hl k (by simp) (d + 1)
      have h2 := ihl fun q hq => hl q (by simp [hq])
      rw [List.map_cons, List.flatten_cons, List.map_append, maxL_append, List.map_cons, maxL]
      omega
  have := h t.kids ih
  simp only at this ⊢
  omega
/-- How deep the deepest part so far stands. -/
def deepOf {W0 : World} (G : List (Part W0)) : Nat := maxL ((keys G).map (·.2))
theorem deepOf_snoc {W0 : World} (G : List (Part W0)) (x : Part W0) : deepOf (G ++ [x]) = max (deepOf G) x.1.2.2 := by
  unfold deepOf
  rw [keys_append, List.map_append, maxL_append]
  simp [keys, maxL]
theorem deepOf_le {W0 : World} (G : List (Part W0)) : deepOf G ≤ 10000000002 := by
  refine maxL_le fun x hx => ?_
  simp only [keys, List.map_map, List.mem_map] at hx
  obtain ⟨q, _, rfl⟩ := hx
  exact q.2.2
theorem KeepsTr.set {B : Nat} {t : TypeId} {v : Value} {W : World} (h : Boxed W B t v) (ht : t ≠ 27) (u : Value) : KeepsTr W (W.setCell ⟨B, 0, none⟩ u) :=
  KeepsTr.grown (grownBy_setCell' W B u) fun r e cs h' => by
    cases e
    have := h
    unfold Boxed at this
    rw [h'] at this
    injection this with this
    injection this with _ this
    exact ht this.symm

end Go.Proofs.Ytnemacejaiifnaa
