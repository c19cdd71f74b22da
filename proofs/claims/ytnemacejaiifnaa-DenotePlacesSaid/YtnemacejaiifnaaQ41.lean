/- Texts merged by program: PRightM, PRight, PCaps. No condition. -/
import Derived.Test.YtnemacejaiifnaaQ29
import Derived.Test.YtnemacejaiifnaaQ36
import Derived.Maps.OwnIn
import Derived.Maps.Views
import Derived.Scope
import Derived.WalkMore
set_option linter.unusedVariables false
/- Which trees are right, by their parts in order; what names were met, as a map reads. No condition. -/
namespace Go.Proofs.Ytnemacejaiifnaa
open Go Go.RowKit

/-- The groups among parts. -/
def capsOf (L : List (Tr × Nat)) : List Tr := (L.filter fun q => decide (q.1.fld.op = 6)).map (·.1)
theorem capsOf_append (a b : List (Tr × Nat)) : capsOf (a ++ b) = capsOf a ++ capsOf b := by simp [capsOf]
theorem capsOf_parts (t : Tr) : ∀ d, capsOf (partsT t d) = groupsT t := by
  refine Tr.ind (P := fun t => ∀ d, capsOf (partsT t d) = groupsT t) (fun t ih d => ?_) t
  rw [partsT_eq, groupsT_eq]
  have h : ∀ (l : List Tr), (∀ k ∈ l, ∀ d, capsOf (partsT k d) = groupsT k) → capsOf ((l.map fun k => partsT k (d + 1)).flatten) = (l.map groupsT).flatten := fun l => by
    induction l with
    | nil => intro _; rfl
    | cons k l ihl =>
      intro hl
      rw [List.map_cons, List.flatten_cons, capsOf_append, List.map_cons, List.flatten_cons, hl k (by simp), ihl fun q hq => hl q (by simp [hq])]
  rw [show ((t, d) :: (t.kids.map fun k => partsT k (d + 1)).flatten) = [(t, d)] ++ (t.kids.map fun k => partsT k (d + 1)).flatten from rfl, capsOf_append, h t.kids ih]
  congr 1
  by_cases h6 : t.fld.op = 6 <;> simp [capsOf, h6]
/-- Are parts, in order, right? -/
def GoodP (L : List (Tr × Nat)) : Prop := (∀ q ∈ L, q.2 ≤ 50 ∧ SoundF q.1.fld q.1.kids.length) ∧ CapsFine (capsOf L)
theorem capsFine_pre {a b : List Tr} (h : CapsFine (a ++ b)) : CapsFine a := fun i hi => by
  have h1 := h i (by simp; omega)
  rw [List.getElem_append_left hi] at h1
  refine ⟨h1.1, fun k hk => ?_⟩
  have h2 := h1.2 k hk
  rw [List.getElem_append_left (by omega)] at h2
  exact h2
theorem goodP_pre {a b : List (Tr × Nat)} (h : GoodP (a ++ b)) : GoodP a := ⟨fun q hq => h.1 q (List.mem_append.2 (.inl hq)), capsFine_pre (by rw [← capsOf_append]; exact h.2)⟩
theorem goodP_prefix {a b : List (Tr × Nat)} (h : GoodP b) (hp : a <+: b) : GoodP a := by obtain ⟨c, rfl⟩ := hp; exact goodP_pre h
theorem capsFine_snoc {g : List Tr} {x : Tr} : CapsFine (g ++ [x]) ↔ CapsFine g ∧ x.fld.cap = (g.length : Int) + 1 ∧ ¬ (x.fld.name.toList ∈ g.map (fun q => q.fld.name.toList) ∧ x.fld.name.toList ≠ []) := by
  constructor
  · intro h
    refine ⟨capsFine_pre h, ?_⟩
    have h1 := h g.length (by simp)
    rw [List.getElem_append_right (Nat.le_refl _)] at h1
    simp only [Nat.sub_self, List.getElem_cons_zero] at h1
    refine ⟨h1.1, fun ⟨hm, hne⟩ => ?_⟩
    obtain ⟨q, hq, he⟩ := List.mem_map.1 hm
    obtain ⟨k, hk, rfl⟩ := List.mem_iff_getElem.1 hq
    have h2 := h1.2 k hk
    rw [List.getElem_append_left hk] at h2
    exact h2 ⟨he, hne⟩
  · rintro ⟨h1, h2, h3⟩ i hi
    by_cases hig : i < g.length
    · have h4 := h1 i hig
      rw [List.getElem_append_left hig]
      refine ⟨h4.1, fun k hk => ?_⟩
      rw [List.getElem_append_left (by omega)]
      exact h4.2 k hk
    · have hie : i = g.length := by simp at hi; omega
      subst hie
      rw [List.getElem_append_right (Nat.le_refl _)]
      simp only [Nat.sub_self, List.getElem_cons_zero]
      refine ⟨h2, fun k hk hh => h3 ⟨?_, hh.2⟩⟩
      rw [List.getElem_append_left hk] at hh
      exact List.mem_map.2 ⟨g[k], List.getElem_mem hk, hh.1⟩
theorem depth_iff (t : Tr) : depthR t ≤ 50 ↔ ∀ q ∈ partsT t 1, q.2 ≤ 50 := by
  have h : maxL ((partsT t 1).map Prod.snd) + 1 = 1 + depthR t := maxL_depths t 1
  constructor
  · intro hd q hq
    have h1 : ∀ (l : List Nat) (x : Nat), x ∈ l → x ≤ maxL l := fun l => by
      induction l with
      | nil => simp
      | cons y l ih =>
        intro x hx
        rw [maxL]
        rcases List.mem_cons.1 hx with rfl | hx
        · omega
        · have := ih x hx; omega
    have := h1 ((partsT t 1).map Prod.snd) q.2 (List.mem_map.2 ⟨q, hq, rfl⟩)
    omega
  · intro hq
    have : maxL ((partsT t 1).map Prod.snd) ≤ 50 := maxL_le fun x hx => by
      obtain ⟨q, hm, rfl⟩ := List.mem_map.1 hx
      exact hq q hm
    omega
theorem right_parts (t : Tr) : RightT t ↔ weightR t ≤ 4000 ∧ GoodP (partsT t 1) := by
  unfold RightT GoodP
  rw [depth_iff t, shaped_parts t 1, capsOf_parts t 1]
  constructor
  · rintro ⟨h1, h2, h3, h4⟩
    exact ⟨h2, fun q hq => ⟨h1 q hq, h3 q hq⟩, h4⟩
  · rintro ⟨h2, h1, h4⟩
    exact ⟨fun q hq => (h1 q hq).1, h2, fun q hq => (h1 q hq).2, h4⟩

/-- The names of groups that have one. -/
def namesOf (L : List (Tr × Nat)) : List (List UInt8) := ((capsOf L).map fun g => g.fld.name.toList).filter fun l => !l.isEmpty
theorem namesOf_append (a b : List (Tr × Nat)) : namesOf (a ++ b) = namesOf a ++ namesOf b := by simp [namesOf, capsOf_append]
theorem mem_namesOf {L : List (Tr × Nat)} {l : List UInt8} : l ∈ namesOf L ↔ l ∈ (capsOf L).map (fun g => g.fld.name.toList) ∧ l ≠ [] := by
  unfold namesOf
  simp [List.mem_filter]
/-- A map that tells of each name whether it is among N. -/
def SeenN (D : DataW Unit) (N : List (List UInt8)) : Prop := Maps.IsMap D ∧ ∀ l : List UInt8, ∃ c : Int, D.atKey (.string l) (.lit (.int .i64 0)) = .lit (.int .i64 c) ∧ (0 < c ↔ l ∈ N)
theorem seenN_none : SeenN (.map []) [] := ⟨Maps.isMap_empty, fun l => ⟨0, rfl, by simp⟩⟩
theorem seenN_put {D : DataW Unit} {N : List (List UInt8)} (h : SeenN D N) (l : List UInt8) (c : Int) (hc : 0 < c) : SeenN (D.put (.string l) (.lit (.int .i64 c))) (N ++ [l]) := by
  refine ⟨h.1.put _ _, fun k => ?_⟩
  by_cases hk : k = l
  · subst hk
    exact ⟨c, Maps.atKey_put_same h.1 (show WideAt.IsKeyLit (.string k) from trivial) _ _, by simp [hc]⟩
  · obtain ⟨d, h1, h2⟩ := h.2 k
    refine ⟨d, ?_, by rw [h2]; simp [hk]⟩
    rw [Maps.atKey_put_other (by intro e; injection e with e; exact hk e)]
    exact h1
end Go.Proofs.Ytnemacejaiifnaa
/- Is a tree right: the program's Right, at any tree. -/
namespace Go.Proofs.Ytnemacejaiifnaa
open Go Go.RowKit Go.Shelf
attribute [local go_sem] Oper.semAt_some

/-- A scope through which the run goes without a jump. -/
theorem wpIn_scope {n : Nat} {P : Program} {c : Code} {Q : Exit → Act → World → Prop} {a : Act} {w : World} (h : c.wpIn Fence.wide n P (Exit.noGoto Q) a w) : (Code.scope c).wpIn Fence.wide n P Q a w := wpIn_wide.2 (wp_scope_straight (wpIn_wide.1 h))
theorem zero_int (w : World) : (zeroValue 3).run Try.prog w = .ok (.int .i64 0) w := by kernel_rfl
/-- What the search holds: whether all is right, how many groups there were, their names. -/
structure RBox (w : World) (q : Nat) (b : Bool) (n k : Nat) (N : List (List UInt8)) (W : World) : Prop where
  b1 : Boxed W (q + 1) 4 (.bool b)
  b2 : Boxed W (q + 2) 3 (.int .i64 n)
  b3 : Boxed W (q + 3) 65 (.map (some q))
  m : ∃ D : DataW Unit, W.ownsMap Try.prog 9 (plainElem (H := Unit) Try.prog 3) q k D ∧ SeenN D N
  lo : w.heap.size ≤ q
  bl : Below w.heap.size w W
theorem RBox.from {w W W' : World} {q : Nat} {b : Bool} {n k : Nat} {N : List (List UInt8)} {row : Option Nat} (h : RBox w q b n k N W) (hg : W.grownBy W' row) (hr : ∀ r, row = some r → q + 4 ≤ r) : RBox w q b n k N W' := by
  have hne : ∀ j, j < q + 4 → row ≠ some j := fun j hj e => by have := hr j e; omega
  refine ⟨h.b1.kept hg (fun e => hne _ (by omega) e.symm), h.b2.kept hg (fun e => hne _ (by omega) e.symm), h.b3.kept hg (fun e => hne _ (by omega) e.symm), ?_, h.lo, h.bl.grown hg h.bl.size (fun k e => by have := hr k e; have := h.lo; omega)⟩
  obtain ⟨D, hm, hs⟩ := h.m
  exact ⟨D, hm.kept hg (fun e => hne q (by omega) e.symm), hs⟩
theorem RBox.below {w W W' : World} {q : Nat} {b : Bool} {n k : Nat} {N : List (List UInt8)} (h : RBox w q b n k N W) (hb : Below W.heap.size W W') : RBox w q b n k N W' :=
  h.from (row := none) ⟨hb.os, hb.tape, hb.output, hb.size, fun k hk _ => hb.block k hk⟩ (fun r e => by cases e)
theorem RBox.setB {w W : World} {q : Nat} {b : Bool} {n k : Nat} {N : List (List UInt8)} (h : RBox w q b n k N W) (u : Bool) : RBox w q u n k N (W.setCell ⟨q + 1, 0, none⟩ (.bool u)) := by
  refine ⟨h.b1.set _, h.b2.other (by omega) _, h.b3.other (by omega) _, ?_, h.lo, h.bl.setCell (p := ⟨q + 1, 0, none⟩) (by have := h.lo; simp; omega) _⟩
  obtain ⟨D, hm, hs⟩ := h.m
  exact ⟨D, hm.kept (grownBy_setCell' W (q + 1) _) (by simp), hs⟩
theorem RBox.setN {w W : World} {q : Nat} {b : Bool} {n k : Nat} {N : List (List UInt8)} (h : RBox w q b n k N W) (u : Nat) : RBox w q b u k N (W.setCell ⟨q + 2, 0, none⟩ (.int .i64 u)) := by
  refine ⟨h.b1.other (by omega) _, h.b2.set _, h.b3.other (by omega) _, ?_, h.lo, h.bl.setCell (p := ⟨q + 2, 0, none⟩) (by have := h.lo; simp; omega) _⟩
  obtain ⟨D, hm, hs⟩ := h.m
  exact ⟨D, hm.kept (grownBy_setCell' W (q + 2) _) (by simp), hs⟩
theorem RBox.more {w W : World} {q : Nat} {b : Bool} {n k k' : Nat} {N : List (List UInt8)} (h : RBox w q b n k N W) (hk : k ≤ k') : RBox w q b n k' N W := by
  obtain ⟨D, hm, hs⟩ := h.m
  exact ⟨h.b1, h.b2, h.b3, ⟨D, hm.mono hk, hs⟩, h.lo, h.bl⟩
theorem namesOf_none {L : List (Tr × Nat)} {x : Tr × Nat} (h : x.1.fld.op ≠ 6 ∨ x.1.fld.name.toList = []) : namesOf (L ++ [x]) = namesOf L := by
  rw [namesOf_append]
  rcases h with h | h <;> by_cases h6 : x.1.fld.op = 6 <;> simp_all [namesOf, capsOf]
theorem namesOf_one {L : List (Tr × Nat)} {x : Tr × Nat} (h6 : x.1.fld.op = 6) (h : x.1.fld.name.toList ≠ []) : namesOf (L ++ [x]) = namesOf L ++ [x.1.fld.name.toList] := by
  rw [namesOf_append]
  simp [namesOf, capsOf, h6, h]
theorem rbox_own {w : World} {q B : Nat} {W0 : World} (hB : q + 4 ≤ B) (b : Bool) : OwnFrom B (fun (pre : List (Part W0)) W => RBox w q b (capsOf (keys pre)).length pre.length (namesOf (keys pre)) W) := fun s A A' row hs hg hr => by
  exact hs.from hg (fun r e => by have := (hr r e).1; omega)
theorem rbox_own2 {w : World} {q B : Nat} {W0 : World} (hB : q + 4 ≤ B) : OwnFrom B (fun (pre : List (Part W0)) W => ∃ n k N, RBox w q false n k N W) := fun s A A' row ⟨n, k, N, hs⟩ hg hr =>
  ⟨n, k, N, hs.from hg (fun r e => by have := (hr r e).1; omega)⟩

set_option maxHeartbeats 4000000 in
set_option maxRecDepth 100000 in
theorem pright_any (t : Tr) (hp : partsR t ≤ 10000000000) (v : Value) (w : World) (h : Tre w t v) : Calls Try.prog 12 #[v] w (SaysB (RightT t) w) := by
  have H0 := Lib.hid h
  obtain ⟨A, m, c, a2, s, c2, hm, hs, rfl, hmb, hsb, hK, hS, hF⟩ := h.opened
  have hrp := right_parts t
  have hwle := weightR_le t
  obtain ⟨w1, hw1⟩ : ∃ w1, w.alloc (.cells #[.int .i64 t.fld.op, .slice A m c, .int .i32 t.fld.rune, .slice a2 s c2, .int .i64 t.fld.at', .int .i64 t.fld.cap, .string t.fld.name, .int .i64 t.fld.min, .int .i64 t.fld.max, .bool t.fld.lazy] 27) = w1 := ⟨_, rfl⟩
  have hb1 : Below w.heap.size w w1 := by rw [← hw1]; exact (Below.refl _ _).alloc (Nat.le_refl _) _
  have hE1 : Whole w1 w.heap.size 27 #[.int .i64 t.fld.op, .slice A m c, .int .i32 t.fld.rune, .slice a2 s c2, .int .i64 t.fld.at', .int .i64 t.fld.cap, .string t.fld.name, .int .i64 t.fld.min, .int .i64 t.fld.max, .bool t.fld.lazy] := by rw [← hw1]; exact heap_alloc_new w _
  have HWT := Lib.hid (pweight_any t hp _ w1 (h.below hb1))
  obtain ⟨E, hE⟩ : ∃ E, weightR t = E := ⟨_, rfl⟩
  rw [hE] at hrp hwle HWT
  have HW1 := Lib.hid hw1; have HB1 := Lib.hid hb1; have HE1 := Lib.hid hE1; have HM := Lib.hid hrp
  obtain ⟨e0, e1, e2, e3, e4, e5, e6, e7, e8, e9⟩ := hE1.ten
  clear hw1 hb1 hE1 hrp h hm hs hK hS hF hE
  refine (callsIn_wide (n := 8)).1 ?_
  refine callsIn_of_wp_marks Try.func12 rfl trivial ?_ rfl
  simp only [Try.ntmps12, List.size_toArray, List.length_cons, List.length_nil, Nat.reduceAdd, Nat.reduceSub, Array.replicate_succ, Array.replicate_zero, List.push_toArray, List.append_toArray, List.nil_append, List.cons_append]
  gi_upto_region 1 with (fail)
  rw [HW1.out]
  refine wpIn_scope ?_
  gi_wp2_with fail
  refine ⟨trivial, ?_⟩
  gi_at_call 32
  refine (callsIn_wide.2 HWT.out).mono ?_
  rintro e W2 ⟨rfl, hb2⟩
  have hE2 : Whole W2 w.heap.size 27 _ := (hb2.block _ HE1.out.lt).trans HE1.out
  have HB2 := Lib.hid (below_two HB1.out hb2)
  clear e0 e1 e2 e3 e4 e5 e6 e7 e8 e9 hb2 HE1 HB1 HW1 HWT
  by_cases hw : 4000 < E
  · have hz : (4000 : Int) < (E : Int) := by omega
    gi_wp2_with fail
    exact ⟨_, results_tmp rfl _ _ _, false, rfl, ⟨fun h => (by cases h), fun h => (by have := (HM.out.1 h).1; omega)⟩, HB2.out⟩
  have hz : ¬ (4000 : Int) < (E : Int) := by omega
  have hM2 : RightT t ↔ GoodP (partsT t 1) := ⟨fun h => (HM.out.1 h).2, fun h => HM.out.2 ⟨by omega, h⟩⟩
  have HM2 := Lib.hid hM2
  have hmm := @run_makeMap Try.prog
  clear hw HM hM2
  gi_upto_region 4 with (fail)
  refine wpIn_label ?_
  obtain ⟨W3, hW3⟩ : ∃ W3, ((((W2.alloc (.map #[] 0)).alloc (.cells #[.bool true] 4)).alloc (.cells #[.int .i64 0] 3)).alloc (.cells #[.map (some W2.heap.size)] 65)) = W3 := ⟨_, rfl⟩
  have hB3 : Below W2.heap.size W2 W3 := by rw [← hW3]; exact ((((Below.refl _ W2).alloc (Nat.le_refl _) _).alloc (by simp) _).alloc (by simp; omega) _).alloc (by simp; omega) _
  have hs3 : W3.heap.size = W2.heap.size + 4 := by rw [← hW3]; simp
  obtain ⟨q, hq⟩ : ∃ q, W2.heap.size = q := ⟨_, rfl⟩
  have hR3 : RBox w q true 0 0 [] W3 := by
    have m0 := ((((World.ownsMap_made W2 Try.prog 9 (plainElem (H := Unit) Try.prog 3))).alloc (.cells #[.bool true] 4)).alloc (.cells #[.int .i64 0] 3)).alloc (.cells #[.map (some W2.heap.size)] 65)
    have b1 := ((Boxed.new (W2.alloc (.map #[] 0)) 4 (.bool true)).alloc (.cells #[.int .i64 0] 3)).alloc (.cells #[.map (some W2.heap.size)] 65)
    have b2 := (Boxed.new ((W2.alloc (.map #[] 0)).alloc (.cells #[.bool true] 4)) 3 (.int .i64 0)).alloc (.cells #[.map (some W2.heap.size)] 65)
    have b3 := Boxed.new (((W2.alloc (.map #[] 0)).alloc (.cells #[.bool true] 4)).alloc (.cells #[.int .i64 0] 3)) 65 (.map (some W2.heap.size))
    simp only [World.size_alloc] at b1 b2 b3
    rw [hW3] at m0 b1 b2 b3
    rw [hq] at m0 b1 b2 b3
    exact ⟨b1, b2, b3, ⟨_, m0, seenN_none⟩, hq ▸ HB2.out.size, HB2.out.trans (hB3.mono HB2.out.size)⟩
  have hE3 := hE2.below hB3 (by have := hE2.lt; omega)
  obtain ⟨e0, e1, e2, e3, e4, e5, e6, e7, e8, e9⟩ := hE3.ten
  rw [hW3, hq]
  rw [hq] at hs3
  have HR3 := Lib.hid hR3; have HS3 := Lib.hid hs3
  clear hW3 hB3 hq hR3 hE3 hE2 HB2 hmm
  gi_wp2_with (refine ⟨trivial, ?_⟩; gi_at_call 33; refine (callsIn_wide.2 (pparts_any _ _ _ _ _ _ _ _ _ _ _)).mono ?_; rintro e W1 ⟨rfl, rfl⟩)
  obtain ⟨w3, hw3⟩ : ∃ w3, W3.alloc (.cells #[.int .i64 t.fld.op, .slice A m c, .int .i32 t.fld.rune, .slice a2 s c2, .int .i64 t.fld.at', .int .i64 t.fld.cap, .string t.fld.name, .int .i64 t.fld.min, .int .i64 t.fld.max, .bool t.fld.lazy] 27) = w3 := ⟨_, rfl⟩
  have hE3 := box10_new W3 27 (.int .i64 t.fld.op) (.slice A m c) (.int .i32 t.fld.rune) (.slice a2 s c2) (.int .i64 t.fld.at') (.int .i64 t.fld.cap) (.string t.fld.name) (.int .i64 t.fld.min) (.int .i64 t.fld.max) (.bool t.fld.lazy)
  have hR4 : RBox w q true 0 0 [] w3 := by rw [← hw3]; exact HR3.out.below ((Below.refl _ _).alloc (Nat.le_refl _) _)
  have hs4 : w3.heap.size = q + 5 := by rw [← hw3]; simp [HS3.out]
  rw [hw3, HS3.out] at hE3
  rw [hw3]
  have HR4 := Lib.hid hR4; have HS4 := Lib.hid hs4
  clear e0 e1 e2 e3 e4 e5 e6 e7 e8 e9 hw3 HR3 HS3 hs3
  refine wpIn_rangeFunc_ownH rfl (by decide) (gf := 60) (lb := #[.pointer (some ⟨q + 4, 0, none⟩)]) rfl trivial (enters_of Try.func60 (by kernel_rfl) rfl)
    (parts_stops 7 (q + 4) w t hp _ w3 hR4.bl H0.out (by intro x0 x1 x2 x3 x4 x5 x6 x7 x8 x9 e; injection e with e; injection e with e; cases e; exact hE3)) KpT.trans
    (fun W l ob ob' hl h1 h2 h3 => ⟨belowK_b (w := w) (Nat.le_refl _) W l ob ob' (by have := hR4.lo; omega) h1 h2 h3, KeepsTr.grown (grownBy_putObj' W l ob') (fun r e cs h => by cases e; rw [h1] at h; cases h; cases h2)⟩) (Below.refl _ _) (fun _ => rfl)
    (fun pre W => GoodP (keys pre) ∧ RBox w q true (capsOf (keys pre)).length pre.length (namesOf (keys pre)) W)
    (fun c pre W => (c = .exit 0 ∧ ¬ GoodP (keys pre)) ∧ ∃ n k N, RBox w q false n k N W)
    (OwnFrom.and (ownFrom_pure _ _) (rbox_own (by omega) _))
    (fun c => OwnFrom.and (ownFrom_pure _ _) (rbox_own2 (by omega)))
    ⟨⟨by simp [keys], fun i hi => by simp [keys, capsOf] at hi⟩, hR4⟩
    (PartAt (q + 4) fun x Bx => { tmps := #[.agg #[.int .i64 t.fld.op, .slice A m c, .int .i32 t.fld.rune, .slice a2 s c2, .int .i64 t.fld.at', .int .i64 t.fld.cap, .string t.fld.name, .int .i64 t.fld.min, .int .i64 t.fld.max, .bool t.fld.lazy], .pointer (some ⟨w.heap.size, 0, none⟩), .bool false, .pointer (some ⟨q + 1, 0, none⟩), .pointer (some ⟨q + 1 + 1, 0, none⟩), .pointer (some ⟨q + 1 + 1 + 1, 0, none⟩), .pointer (some ⟨Bx, 0, none⟩), .int .i64 x.1.2.2, .agg #[.int .i64 t.fld.op, .slice A m c, .int .i32 t.fld.rune, .slice a2 s c2, .int .i64 t.fld.at', .int .i64 t.fld.cap, .string t.fld.name, .int .i64 t.fld.min, .int .i64 t.fld.max, .bool t.fld.lazy], .int .i64 E, .bool (decide ((4000 : Int) < (E : Int))), .map (some q), .agg #[.int .i64 t.fld.op, .slice A m c, .int .i32 t.fld.rune, .slice a2 s c2, .int .i64 t.fld.at', .int .i64 t.fld.cap, .string t.fld.name, .int .i64 t.fld.min, .int .i64 t.fld.max, .bool t.fld.lazy], .func (.func 60) #[] #[.pointer (some ⟨q + 4, 0, none⟩)], x.1.2.1, .int .i64 x.1.2.2, undef, undef, undef, undef, undef, undef, undef, undef, undef, undef, undef, undef, undef, undef, undef, undef, undef, undef, undef, undef, undef, undef, undef, undef, undef, undef, undef, undef, undef, undef, undef], defers := [] })
    partAt_own ?assign ?body ?done ?stop
  case assign =>
    rintro l pre x W K ⟨hg, hR⟩ hK
    obtain ⟨A', n', c', a2', s', c2', hv⟩ := part_opened x
    have hvl : Part.vals x = #[.agg #[.int .i64 x.1.1.fld.op, .slice A' n' c', .int .i32 x.1.1.fld.rune, .slice a2' s' c2', .int .i64 x.1.1.fld.at', .int .i64 x.1.1.fld.cap, .string x.1.1.fld.name, .int .i64 x.1.1.fld.min, .int .i64 x.1.1.fld.max, .bool x.1.1.fld.lazy], .int .i64 x.1.2.2] := by unfold Part.vals; rw [hv]
    rw [hvl]
    have HK := Lib.hid hK; have HR := Lib.hid hR; have HQ := Lib.hid hg; have HV := Lib.hid hv
    obtain ⟨wn, hwn⟩ : ∃ wn, W.alloc (.cells #[.int .i64 x.1.1.fld.op, .slice A' n' c', .int .i32 x.1.1.fld.rune, .slice a2' s' c2', .int .i64 x.1.1.fld.at', .int .i64 x.1.1.fld.cap, .string x.1.1.fld.name, .int .i64 x.1.1.fld.min, .int .i64 x.1.1.fld.max, .bool x.1.1.fld.lazy] 27) = wn := ⟨_, rfl⟩
    have HWN := Lib.hid hwn
    clear hK hR hg hv hwn hvl
    gi_wp2
    rw [HWN.out]
    have hbn : Below W.heap.size W wn := by rw [← HWN.out]; exact (Below.refl _ _).alloc (Nat.le_refl _) _
    refine HK.out _ _ ((others_below hbn).from _) (KpT.below HR.out.bl.size hbn) ⟨HQ.out, HR.out.below hbn⟩ ⟨W.heap.size, _, HR.out.b3.lt, HV.out, by rw [← HWN.out]; exact heap_alloc_new W _, by dsimp only; rw [HV.out]⟩
  case body =>
    rintro l pre x a' W hl hr ⟨hg, hR⟩ ⟨Bx, cs, hBx, hv, hC, rfl⟩ hlt
    obtain ⟨A', n', c', a2', s', c2', hv'⟩ := part_opened x
    rw [hv'] at hv
    injection hv with hv
    subst hv
    have hT := x.2.1.below hR.bl
    have hks : keys (pre ++ [x]) = keys pre ++ [(x.1.1, x.1.2.2)] := keys_snoc pre x
    have hcon := psound_any x.1.1 _ W hT
    have hx2 : x.1.2.2 ≤ 10000000002 := x.2.2
    have hname : x.1.1.fld.name.size ≤ 4503599627370496 := by
      obtain ⟨_, _, -, -, hF, -⟩ := (tre_iff _ _ _).1 x.2.1
      exact hF.2.2.2.2.2.2.1
    have hgl : (capsOf (keys pre)).length ≤ pre.length := by
      unfold capsOf
      rw [List.length_map]
      exact Nat.le_trans (List.length_filter_le _ _) (by rw [keys_length]; exact Nat.le_refl _)
    have hpl := partsT_len t 1
    dsimp only
    rw [hv'] at hcon ⊢
    obtain ⟨tk, htk⟩ : ∃ tk, x.1.1 = tk := ⟨_, rfl⟩
    obtain ⟨dk, hdk⟩ : ∃ dk, x.1.2.2 = dk := ⟨_, rfl⟩
    rw [htk] at hcon hname hks hC ⊢
    rw [hdk] at hx2 hks ⊢
    obtain ⟨PS, hPS⟩ : ∃ P, SoundF tk.fld tk.kids.length = P := ⟨_, rfl⟩
    have hall : GoodP (keys (pre ++ [x])) ↔ (dk ≤ 50 ∧ PS ∧ CapsFine (capsOf (keys pre ++ [(tk, dk)]))) := by
      rw [hks, ← hPS]
      unfold GoodP
      constructor
      · rintro ⟨h1, h2⟩
        exact ⟨(h1 (tk, dk) (by simp)).1, (h1 (tk, dk) (by simp)).2, h2⟩
      · rintro ⟨h1, h2, h3⟩
        refine ⟨fun y hy => ?_, h3⟩
        rcases List.mem_append.1 hy with hy | hy
        · exact hg.1 y hy
        · rw [List.mem_singleton.1 hy]
          exact ⟨h1, h2⟩
    rw [hPS] at hcon
    have HG := Lib.hid hg; have HR := Lib.hid hR; have HALL := Lib.hid hall; have HCON := Lib.hid hcon; have HKS := Lib.hid hks; have HNM := Lib.hid hname
    obtain ⟨N, hN⟩ : ∃ N, (capsOf (keys pre)).length = N := ⟨_, rfl⟩
    have hNb : N ≤ 10000000000 := by omega
    have HN := Lib.hid hN
    have hC' : Whole W Bx 27 _ := hC
    obtain ⟨e0, e1, e2, e3, e4, e5, e6, e7, e8, e9⟩ := Whole.ten hC
    have r1 := hR.b1.cell
    have g1 := hR.b1.frozen
    have HC := Lib.hid hC'
    clear hg hR hall hcon hks hname hT hC hC' hv' htk hdk hPS hN hgl
    by_cases hd : 50 < dk
    · have hz : (50 : Int) < (dk : Int) := by omega
      gi_wp2_with fail
      refine ⟨(KeepsOthers.setCell _ _ _).from _, ⟨rfl, fun h => ?_⟩, _, _, _, HR.out.setB false⟩
      have := (HALL.out.1 h).1
      omega
    have hz : ¬ (50 : Int) < (dk : Int) := by omega
    have hd' : dk ≤ 50 := by omega
    clear hd
    gi_wp2_with fail
    refine ⟨trivial, ?_⟩
    gi_at_call 34
    refine (CallsIn.inRound l (callsIn_wide.2 HCON.out)).mono ?_
    rintro e W2 ⟨B, rfl, hq, hb2⟩
    have hR2 := HR.out.below hb2
    have hC2 : Whole W2 Bx 27 _ := (hb2.block _ HC.out.lt).trans HC.out
    have HR2 := Lib.hid hR2; have HBW := Lib.hid hb2; have HC2 := Lib.hid hC2
    have HNB : Hid (B = false → ¬ PS) := Lib.hid fun e g => by rw [hq.2 g] at e; cases e
    have HYB : Hid (B = true → PS) := Lib.hid hq.1
    clear e0 e1 e2 e3 e4 e5 e6 e7 e8 e9 r1 g1 hq hb2 HCON
    obtain ⟨e0, e1, e2, e3, e4, e5, e6, e7, e8, e9⟩ := Whole.ten hC2
    have r1 := hR2.b1.cell
    have g1 := hR2.b1.frozen
    have r2 : W2.cell? ⟨q + 1 + 1, 0, none⟩ = some (.int .i64 (capsOf (keys pre)).length) := hR2.b2.cell
    have g2 : W2.frozen? ⟨q + 1 + 1, 0, none⟩ = false := hR2.b2.frozen
    rw [HN.out] at r2
    clear hR2 hC2
    cases B
    · have NB := Lib.hid (HNB.out rfl)
      clear HNB HYB
      gi_wp2_with fail
      refine ⟨((others_below HBW.out).from _).trans ((KeepsOthers.setCell _ _ _).from _), ⟨rfl, fun h => ?_⟩, _, _, _, HR2.out.setB false⟩
      exact NB.out (HALL.out.1 h).2.1
    have YB := Lib.hid (HYB.out rfl)
    clear HNB HYB
    by_cases h6 : tk.fld.op = 6
    rotate_left
    · have d6 : (tk.fld.op == 6) = false := beq_eq_false_iff_ne.2 h6
      have hcp : capsOf (keys pre ++ [(tk, dk)]) = capsOf (keys pre) := by
        rw [capsOf_append]
        simp [capsOf, h6]
      have HCP := Lib.hid hcp; have H6 := Lib.hid h6
      clear hcp h6
      gi_wp2_with fail
      refine ⟨(others_below HBW.out).from _, KpT.below HR.out.bl.size HBW.out, HALL.out.2 ⟨hd', YB.out, by rw [HCP.out]; exact HG.out.2⟩, ?_⟩
      rw [HKS.out, namesOf_none (.inl H6.out), HCP.out, List.length_append]
      exact HR2.out.more (by omega)
    have hcp : capsOf (keys pre ++ [(tk, dk)]) = capsOf (keys pre) ++ [tk] := by
      rw [capsOf_append]
      simp [capsOf, h6]
    have hfine : GoodP (keys (pre ++ [x])) ↔ (tk.fld.cap = (N : Int) + 1 ∧ ¬ (tk.fld.name.toList ∈ namesOf (keys pre))) := by
      rw [HALL.out, hcp, capsFine_snoc, HN.out, mem_namesOf]
      constructor
      · rintro ⟨-, -, -, h1, h2⟩
        exact ⟨h1, h2⟩
      · rintro ⟨h1, h2⟩
        exact ⟨hd', YB.out, HG.out.2, h1, h2⟩
    have HFI := Lib.hid hfine; have HCP := Lib.hid hcp; have H6 := Lib.hid h6
    rw [h6] at e0
    obtain ⟨cap, hcap⟩ : ∃ c, tk.fld.cap = c := ⟨_, rfl⟩
    obtain ⟨nm, hnm⟩ : ∃ c, tk.fld.name = c := ⟨_, rfl⟩
    have HNMQ := Lib.hid hnm
    obtain ⟨W3, hW3⟩ : ∃ W3, W2.setCell ⟨q + 1 + 1, 0, none⟩ (.int .i64 ((N : Int) + 1)) = W3 := ⟨_, rfl⟩
    have hR3 : RBox w q true (N + 1) pre.length (namesOf (keys pre)) W3 := by
      have h1 := HR2.out.setN (N + 1)
      rw [show (((N + 1 : Nat)) : Int) = (N : Int) + 1 from by omega] at h1
      rw [← hW3]
      exact h1
    have hC3 := HC2.out.far (g' := q + 1 + 1) (by omega) 0 (.int .i64 ((N : Int) + 1))
    rw [hW3] at hC3
    have hO3 : KeepsFrom w3.heap.size W W3 := by rw [← hW3]; exact ((others_below HBW.out).from _).trans ((KeepsOthers.setCell _ _ _).from _)
    have hK3 : KpT w.heap.size W W3 := by
      refine KpT.trans (KpT.below HR.out.bl.size HBW.out) ?_
      rw [← hW3]
      exact ⟨(Below.refl w.heap.size W2).setCell (p := ⟨q + 1 + 1, 0, none⟩) (by have := HR2.out.lo; simp; omega) _, KeepsTr.set (B := q + 1 + 1) HR2.out.b2 (by decide) _⟩
    have HW3 := Lib.hid hW3; have HR3 := Lib.hid hR3; have HC3 := Lib.hid hC3; have HO3 := Lib.hid hO3; have HK3 := Lib.hid hK3
    gi_upto_region 12 with (fail)
    clear e0 e1 e2 e3 e4 e5 e6 e7 e8 e9 r1 r2 g1 g2 hcp hfine h6 hW3 hO3 hK3
    obtain ⟨e0, e1, e2, e3, e4, e5, e6, e7, e8, e9⟩ := Whole.ten hC3
    have r1 := hR3.b1.cell
    have g1 := hR3.b1.frozen
    have r2 : W3.cell? ⟨q + 1 + 1, 0, none⟩ = some (.int .i64 ((N : Int) + 1)) := hR3.b2.cell
    have r3 : W3.cell? ⟨q + 1 + 1 + 1, 0, none⟩ = some (.map (some q)) := hR3.b3.cell
    obtain ⟨D, hown, hseen⟩ := hR3.m
    rw [hcap] at e5 HFI
    rw [hnm] at e6 HFI HNM
    have hkey : keyOf Try.prog 9 (.string nm) = some (.string nm.toList) := by
      rw [ByteArray.toList_eq]
      exact WideMaps.keyOf_string_mk Try.underlying9 (by have := HNM.out; unfold maxLen; omega)
    obtain ⟨cc, hlk, hat, hwc⟩ := hown.lookup_int (Maps.string_keyed Try.underlying9) Try.underlying65 Try.underlying3 (zero_int _) hkey
    obtain ⟨cc', hat', hin⟩ := hseen.2 nm.toList
    have hccc : cc = cc' := by
      rw [hat] at hat'
      injection hat' with hat'
      injection hat'
    subst hccc
    have HOWN := Lib.hid hown; have HSEEN := Lib.hid hseen; have HIN := Lib.hid hin; have HKEY := Lib.hid hkey
    clear hR3 hC3 hcap hnm hown hseen hat hat' hin hkey hwc
    by_cases q1 : cap = (N : Int) + 1
    rotate_left
    · have d1 : (cap != (N : Int) + 1) = true := bne_iff_ne.2 q1
      have Q1 := Lib.hid q1
      clear q1
      gi_wp2_with fail
      refine ⟨HO3.out.trans ((KeepsOthers.setCell _ _ _).from _), ⟨rfl, fun h => ?_⟩, _, _, _, HR3.out.setB false⟩
      exact Q1.out (HFI.out.1 h).1
    have d1 : (cap != (N : Int) + 1) = false := by rw [q1]; simp
    have Q1 := Lib.hid q1
    clear q1
    by_cases q2 : 0 < cc
    · have d2 : decide (0 < cc) = true := decide_eq_true q2
      have Q2 := Lib.hid q2
      clear q2
      gi_wp2_with fail
      refine ⟨HO3.out.trans ((KeepsOthers.setCell _ _ _).from _), ⟨rfl, fun h => ?_⟩, _, _, _, HR3.out.setB false⟩
      exact (HFI.out.1 h).2 (HIN.out.1 Q2.out)
    have d2 : decide (0 < cc) = false := decide_eq_false q2
    have hgood : GoodP (keys (pre ++ [x])) := HFI.out.2 ⟨Q1.out, fun h => q2 (HIN.out.2 h)⟩
    have HGOOD := Lib.hid hgood
    have hlen : (capsOf (keys (pre ++ [x]))).length = N + 1 := by rw [HKS.out, HCP.out, List.length_append, HN.out]; rfl
    have HLEN := Lib.hid hlen
    clear q2 hgood hlen
    by_cases q3 : nm.toList = []
    · have d3 : nm.toList.isEmpty = true := by rw [q3]; rfl
      have Q3 := Lib.hid q3
      clear q3
      gi_wp2_with fail
      refine ⟨HO3.out, HK3.out, HGOOD.out, ?_⟩
      rw [HLEN.out, HKS.out, namesOf_none (.inr (by simp only; rw [HNMQ.out]; exact Q3.out)), List.length_append]
      exact HR3.out.more (by omega)
    have d3 : nm.toList.isEmpty = false := by simpa using q3
    have Q3 := Lib.hid q3
    have hwf : (Lit.int .i64 ((N : Int) + 1)).wf = true := by
      simp only [Lit.wf, IntKind.min, IntKind.max, IntKind.signed, IntKind.bits, Bool.and_eq_true, decide_eq_true_eq, if_true]
      omega
    clear q3
    gi_wp2_with (gi_at_mapUpdate; refine wpListIn_mapUpdate_own _ rfl _ _ _ 65 rfl 9 3 (Maps.string_keyed Try.underlying9) Try.underlying65 _ q pre.length _ rfl HOWN.out (by unfold maxLen; omega) _ _ _ rfl rfl HKEY.out _ [] (plainElem_int Try.underlying3 hwf) ?_; intro w1 hown1 hgrow1)
    have hm3 : ∃ es ck, W3.heap[q]? = some (.map es ck) := by
      obtain ⟨es, ck, hh, _⟩ := HOWN.out
      exact ⟨es, ck, hh⟩
    obtain ⟨es, ck, hh⟩ := hm3
    refine ⟨HO3.out.trans (KeepsFrom.of_grownBy hgrow1 (fun j e => by cases e; omega)), HK3.out.trans ⟨(Below.refl _ W3).grown hgrow1 HR3.out.bl.size (fun k e => by cases e; exact HR3.out.lo), KeepsTr.grown hgrow1 (fun r e cs h => by cases e; rw [hh] at h; cases h)⟩, HGOOD.out, ?_⟩
    rw [HLEN.out, HKS.out, namesOf_one H6.out (by simp only; rw [HNMQ.out]; exact Q3.out), List.length_append]
    simp only
    rw [HNMQ.out]
    exact ⟨HR3.out.b1.kept hgrow1 (by simp), HR3.out.b2.kept hgrow1 (by simp), HR3.out.b3.kept hgrow1 (by simp), ⟨_, hown1, seenN_put HSEEN.out _ _ (by omega)⟩, HR3.out.lo, HR3.out.bl.grown hgrow1 HR3.out.bl.size (fun k e => by cases e; exact HR3.out.lo)⟩
  case done =>
    rintro D xs W hD hS ⟨hg, hR⟩ hK
    have hsh : RightT t := HM2.out.2 (by rw [← hS]; exact hg)
    have HR := Lib.hid hR; have HK := Lib.hid hK; have HSH := Lib.hid hsh
    have c2 := hR.b1.cell
    clear hR hK hS hg hsh
    gi_wp2
    refine ⟨by simp, .inl ⟨_, _, rfl, run_takeDeferred HK.out, ?_⟩⟩
    exact ⟨_, results_tmp rfl _ _ _, true, rfl, by simp [HSH.out], HR.out.bl.trans (belowK_b (w := w) (Nat.le_refl _) W D _ _ (by have := HR.out.lo; omega) HK.out rfl rfl)⟩
  case stop =>
    rintro D c pre W hD hpre ⟨⟨rfl, hn⟩, n0, k0, N0, hR⟩ hK
    have hsh : ¬ RightT t := fun h => hn (goodP_prefix (HM2.out.1 h) hpre)
    have HR := Lib.hid hR; have HK := Lib.hid hK; have HSH := Lib.hid hsh
    have c2 := hR.b1.cell
    clear hR hK hn hsh hpre
    gi_wp2
    refine ⟨by simp, .inl ⟨_, _, rfl, run_takeDeferred HK.out, ?_⟩⟩
    exact ⟨_, results_tmp rfl _ _ _, false, rfl, by simp [HSH.out], HR.out.bl.trans (belowK_b (w := w) (Nat.le_refl _) W D _ _ (by have := HR.out.lo; omega) HK.out rfl rfl)⟩
end Go.Proofs.Ytnemacejaiifnaa
/- The names of a right tree's groups: the program's Caps, at any tree. -/
namespace Go.Proofs.Ytnemacejaiifnaa
open Go Go.RowKit Go.Shelf
attribute [local go_sem] Oper.semAt_some

/-- The names so far. -/
def namesC (L : List (Tr × Nat)) : List ByteArray := ⟨#[]⟩ :: (capsOf L).map fun g => g.fld.name
theorem namesC_parts (t : Tr) : namesC (partsT t 1) = capsNames t := by unfold namesC capsNames; rw [capsOf_parts]
theorem namesC_len (L : List (Tr × Nat)) : (namesC L).length ≤ L.length + 1 := by
  unfold namesC capsOf
  rw [List.length_cons, List.length_map, List.length_map]
  have := List.length_filter_le (fun q : Tr × Nat => decide (q.1.fld.op = 6)) L
  omega
theorem namesC_snoc (L : List (Tr × Nat)) (x : Tr × Nat) : namesC (L ++ [x]) = if x.1.fld.op = 6 then namesC L ++ [x.1.fld.name] else namesC L := by
  unfold namesC
  rw [capsOf_append]
  by_cases h : x.1.fld.op = 6 <;> simp [capsOf, h]
/-- What the gathering holds: the names, in a row of its own. -/
def CBox (w : World) (q : Nat) (l : List ByteArray) (W : World) : Prop := (∃ v, Boxed W (q + 1) 34 v ∧ W.ownsRow w.heap.size 9 1 v l.length (litsS l) ∧ True) ∧ Below w.heap.size w W
theorem cbox_own {w : World} {q B : Nat} {W0 : World} (hB : w.heap.size ≤ B) : OwnFrom B (fun (pre : List (Part W0)) W => CBox w q (namesC (keys pre)) W) :=
  OwnFrom.and (Own.from (holdsRow_own w.heap.size (q + 1) 34 9 1 (fun pre => (namesC (keys pre)).length) (fun pre => litsS (namesC (keys pre))) (fun _ _ => True)) _) (ownFrom_below (Nat.le_refl _) hB)
theorem CBox.below {w W W' : World} {q : Nat} {l : List ByteArray} (h : CBox w q l W) (hb : Below W.heap.size W W') : CBox w q l W' := by
  obtain ⟨⟨v, h1, h2, _⟩, h3⟩ := h
  exact ⟨⟨v, whole_boxed h1 hb, h2.kept (row := none) ⟨hb.os, hb.tape, hb.output, hb.size, fun k hk _ => hb.block k hk⟩ (by cases v.ownBlock <;> simp), trivial⟩, h3.trans (hb.mono h3.size)⟩
theorem row_off_tr {W W' : World} {base n : Nat} {v : Value} {xs : List Value} {e : TypeId} (hr : W.ownsRow base e 1 v n xs) (he : e ≠ 27) (hg : W.grownBy W' v.ownBlock) : KeepsTr W W' :=
  KeepsTr.grown hg fun r e' cs h' => by
    rcases hr.2 with ⟨rfl, _⟩ | ⟨q, cap, cur, rfl, _, hh, _⟩
    · simp [Value.ownBlock] at e'
    · have : q = r := by simpa [Value.ownBlock] using e'
      subst this
      rw [h'] at hh
      injection hh with hh
      injection hh with _ hh
      exact absurd hh.symm he

set_option maxHeartbeats 2000000 in
set_option maxRecDepth 100000 in
theorem pcaps_any (t : Tr) (hp : partsR t ≤ 10000000000) (v : Value) (w : World) (h : Tre w t v) : Calls Try.prog 13 #[v] w (CapsPost t w) := by
  have H0 := Lib.hid h
  obtain ⟨A, m, c, a2, s, c2, hm, hs, rfl, hmb, hsb, hK, hS, hF⟩ := h.opened
  have hpl := partsT_len t 1
  obtain ⟨w1, hw1⟩ : ∃ w1, w.alloc (.cells #[.int .i64 t.fld.op, .slice A m c, .int .i32 t.fld.rune, .slice a2 s c2, .int .i64 t.fld.at', .int .i64 t.fld.cap, .string t.fld.name, .int .i64 t.fld.min, .int .i64 t.fld.max, .bool t.fld.lazy] 27) = w1 := ⟨_, rfl⟩
  have hb1 : Below w.heap.size w w1 := by rw [← hw1]; exact (Below.refl _ _).alloc (Nat.le_refl _) _
  have hE1 : Whole w1 w.heap.size 27 #[.int .i64 t.fld.op, .slice A m c, .int .i32 t.fld.rune, .slice a2 s c2, .int .i64 t.fld.at', .int .i64 t.fld.cap, .string t.fld.name, .int .i64 t.fld.min, .int .i64 t.fld.max, .bool t.fld.lazy] := by rw [← hw1]; exact heap_alloc_new w _
  have HRT := Lib.hid (pright_any t hp _ w1 (h.below hb1))
  have HW1 := Lib.hid hw1; have HB1 := Lib.hid hb1; have HE1 := Lib.hid hE1
  obtain ⟨e0, e1, e2, e3, e4, e5, e6, e7, e8, e9⟩ := hE1.ten
  clear hw1 hb1 hE1 h hm hs hK hS hF
  refine (callsIn_wide (n := 8)).1 ?_
  refine callsIn_of_wp_marks Try.func13 rfl trivial ?_ rfl
  simp only [Try.ntmps13, List.size_toArray, List.length_cons, List.length_nil, Nat.reduceAdd, Nat.reduceSub, Array.replicate_succ, Array.replicate_zero, List.push_toArray, List.append_toArray, List.nil_append, List.cons_append]
  gi_upto_region 1 with (fail)
  rw [HW1.out]
  gi_wp2_with fail
  refine ⟨trivial, ?_⟩
  gi_at_call 12
  refine (callsIn_wide.2 HRT.out).mono ?_
  rintro e W2 ⟨R, rfl, hq, hb2⟩
  have hE2 : Whole W2 w.heap.size 27 _ := (hb2.block _ HE1.out.lt).trans HE1.out
  have HB2 := Lib.hid (below_two HB1.out hb2)
  have HNB : Hid (R = false → ¬ RightT t) := Lib.hid fun e g => by rw [hq.2 g] at e; cases e
  have HYB : Hid (R = true → RightT t) := Lib.hid hq.1
  clear e0 e1 e2 e3 e4 e5 e6 e7 e8 e9 hb2 HE1 HB1 HW1 HRT hq
  cases R
  · have NB := Lib.hid (HNB.out rfl)
    clear HNB HYB
    gi_wp2_with fail
    exact ⟨_, results_tmp rfl _ _ _, HB2.out, .inl ⟨NB.out, rfl⟩⟩
  have YB := Lib.hid (HYB.out rfl)
  clear HNB HYB
  obtain ⟨q, hq⟩ : ∃ q, W2.heap.size = q := ⟨_, rfl⟩
  obtain ⟨W3, hW3⟩ : ∃ W3, (W2.alloc (.cells #[.string ⟨#[]⟩] 9)).alloc (.cells #[.slice (some ⟨W2.heap.size, 0, none⟩) 1 1] 34) = W3 := ⟨_, rfl⟩
  have hB3 : Below W2.heap.size W2 W3 := by rw [← hW3]; exact ((Below.refl _ W2).alloc (Nat.le_refl _) _).alloc (by simp) _
  have hs3 : W3.heap.size = q + 2 := by rw [← hW3]; simp [hq]
  have hC3 : CBox w q [⟨#[]⟩] W3 := by
    have h1 : (W2.alloc (.cells #[.string ⟨#[]⟩] 9)).ownsRow W2.heap.size 9 1 (.slice (some ⟨W2.heap.size, 0, none⟩) 1 1) 1 (litsS [⟨#[]⟩]) := World.ownsRow_lit W2 #[.string ⟨#[]⟩] 1 (Nat.le_refl _) (by unfold maxLen; omega) rfl
    have h2 := World.ownsRow.kept h1 (World.grownBy_alloc (W2.alloc (.cells #[.string ⟨#[]⟩] 9)) (.cells #[.slice (some ⟨W2.heap.size, 0, none⟩) 1 1] 34) none) (Classical.em _)
    have h3 := Boxed.new (W2.alloc (.cells #[.string ⟨#[]⟩] 9)) 34 (.slice (some ⟨W2.heap.size, 0, none⟩) 1 1)
    simp only [World.size_alloc] at h3
    rw [hW3] at h2 h3
    have hle := HB2.out.size
    rw [hq] at h2 h3 hle
    exact ⟨⟨_, h3, Go.Joins.ownsRow_le h2 hle, trivial⟩, HB2.out.trans (hB3.mono HB2.out.size)⟩
  have hE3 := hE2.below hB3 (by have := hE2.lt; omega)
  obtain ⟨e0, e1, e2, e3, e4, e5, e6, e7, e8, e9⟩ := hE2.ten
  obtain ⟨f0, f1, f2, f3, f4, f5, f6, f7, f8, f9⟩ := hE3.ten
  have hqw : w.heap.size ≤ q := by rw [← hq]; exact HB2.out.size
  have HW3 := Lib.hid hW3; have HC3 := Lib.hid hC3; have HS3 := Lib.hid hs3; have HQ := Lib.hid hq
  clear hW3 hB3 hC3 hE3 hE2 hs3 hq
  gi_upto_region 4 with (fail)
  rw [HW3.out, HQ.out]
  clear e0 e1 e2 e3 e4 e5 e6 e7 e8 e9
  gi_wp2_with (refine ⟨trivial, ?_⟩; gi_at_call 33; refine (callsIn_wide.2 (pparts_any _ _ _ _ _ _ _ _ _ _ _)).mono ?_; rintro e W1 ⟨rfl, rfl⟩)
  obtain ⟨w3, hw3⟩ : ∃ w3, W3.alloc (.cells #[.int .i64 t.fld.op, .slice A m c, .int .i32 t.fld.rune, .slice a2 s c2, .int .i64 t.fld.at', .int .i64 t.fld.cap, .string t.fld.name, .int .i64 t.fld.min, .int .i64 t.fld.max, .bool t.fld.lazy] 27) = w3 := ⟨_, rfl⟩
  have hE3 := box10_new W3 27 (.int .i64 t.fld.op) (.slice A m c) (.int .i32 t.fld.rune) (.slice a2 s c2) (.int .i64 t.fld.at') (.int .i64 t.fld.cap) (.string t.fld.name) (.int .i64 t.fld.min) (.int .i64 t.fld.max) (.bool t.fld.lazy)
  have hC4 : CBox w q [⟨#[]⟩] w3 := by rw [← hw3]; exact HC3.out.below ((Below.refl _ _).alloc (Nat.le_refl _) _)
  have hs4 : w3.heap.size = q + 3 := by rw [← hw3]; simp [HS3.out]
  rw [hw3, HS3.out] at hE3
  rw [hw3, HS3.out]
  clear f0 f1 f2 f3 f4 f5 f6 f7 f8 f9 hw3 HC3 HS3 HW3
  have HC4 := Lib.hid hC4
  refine wpIn_rangeFunc_ownH rfl (by decide) (gf := 60) (lb := #[.pointer (some ⟨q + 2, 0, none⟩)]) rfl trivial (enters_of Try.func60 (by kernel_rfl) rfl)
    (parts_stops 7 (q + 2) w t hp _ w3 hC4.2 H0.out (by intro x0 x1 x2 x3 x4 x5 x6 x7 x8 x9 e; injection e with e; injection e with e; cases e; exact hE3)) KpT.trans
    (fun W l ob ob' hl h1 h2 h3 => ⟨belowK_b (w := w) (Nat.le_refl _) W l ob ob' (by omega) h1 h2 h3, KeepsTr.grown (grownBy_putObj' W l ob') (fun r e cs h => by cases e; rw [h1] at h; cases h; cases h2)⟩) (Below.refl _ _) (fun _ => rfl)
    (fun pre W => CBox w q (namesC (keys pre)) W)
    (fun _ _ _ => False)
    (cbox_own (by omega))
    (fun _ _ _ _ _ hs _ _ => hs)
    hC4
    (PartAt (q + 2) fun x Bx => { tmps := #[.agg #[.int .i64 t.fld.op, .slice A m c, .int .i32 t.fld.rune, .slice a2 s c2, .int .i64 t.fld.at', .int .i64 t.fld.cap, .string t.fld.name, .int .i64 t.fld.min, .int .i64 t.fld.max, .bool t.fld.lazy], .pointer (some ⟨w.heap.size, 0, none⟩), .slice none 0 0, .pointer (some ⟨q + 1, 0, none⟩), .pointer (some ⟨Bx, 0, none⟩), .agg #[.int .i64 t.fld.op, .slice A m c, .int .i32 t.fld.rune, .slice a2 s c2, .int .i64 t.fld.at', .int .i64 t.fld.cap, .string t.fld.name, .int .i64 t.fld.min, .int .i64 t.fld.max, .bool t.fld.lazy], .bool true, .bool false, .slice (some ⟨q, 0, none⟩) 1 1, .agg #[.int .i64 t.fld.op, .slice A m c, .int .i32 t.fld.rune, .slice a2 s c2, .int .i64 t.fld.at', .int .i64 t.fld.cap, .string t.fld.name, .int .i64 t.fld.min, .int .i64 t.fld.max, .bool t.fld.lazy], .func (.func 60) #[] #[.pointer (some ⟨q + 2, 0, none⟩)], x.1.2.1, .int .i64 x.1.2.2, undef, undef, undef, undef, undef, undef, undef, undef, undef], defers := [] })
    partAt_own ?assign ?body ?done ?stop
  case assign =>
    rintro l pre x W K hC hK
    obtain ⟨A', n', c', a2', s', c2', hv⟩ := part_opened x
    have hvl : Part.vals x = #[.agg #[.int .i64 x.1.1.fld.op, .slice A' n' c', .int .i32 x.1.1.fld.rune, .slice a2' s' c2', .int .i64 x.1.1.fld.at', .int .i64 x.1.1.fld.cap, .string x.1.1.fld.name, .int .i64 x.1.1.fld.min, .int .i64 x.1.1.fld.max, .bool x.1.1.fld.lazy], .int .i64 x.1.2.2] := by unfold Part.vals; rw [hv]
    rw [hvl]
    have HK := Lib.hid hK; have HC := Lib.hid hC; have HV := Lib.hid hv
    obtain ⟨wn, hwn⟩ : ∃ wn, W.alloc (.cells #[.int .i64 x.1.1.fld.op, .slice A' n' c', .int .i32 x.1.1.fld.rune, .slice a2' s' c2', .int .i64 x.1.1.fld.at', .int .i64 x.1.1.fld.cap, .string x.1.1.fld.name, .int .i64 x.1.1.fld.min, .int .i64 x.1.1.fld.max, .bool x.1.1.fld.lazy] 27) = wn := ⟨_, rfl⟩
    have HWN := Lib.hid hwn
    clear hK hC hv hwn hvl
    gi_wp2
    rw [HWN.out]
    have hbn : Below W.heap.size W wn := by rw [← HWN.out]; exact (Below.refl _ _).alloc (Nat.le_refl _) _
    refine HK.out _ _ ((others_below hbn).from _) (KpT.below HC.out.2.size hbn) (HC.out.below hbn) ⟨W.heap.size, _, by obtain ⟨⟨v0, h1, -⟩, -⟩ := HC.out; exact h1.lt, HV.out, by rw [← HWN.out]; exact heap_alloc_new W _, by dsimp only; rw [HV.out]⟩
  case body =>
    rintro l pre x a' W hl hr hCB ⟨Bx, cs, hBx, hv, hC, rfl⟩ hlt
    obtain ⟨A', n', c', a2', s', c2', hv'⟩ := part_opened x
    rw [hv'] at hv
    injection hv with hv
    subst hv
    have hks : keys (pre ++ [x]) = keys pre ++ [(x.1.1, x.1.2.2)] := keys_snoc pre x
    have hnl := namesC_len (keys pre)
    rw [keys_length] at hnl
    dsimp only
    rw [hv']
    obtain ⟨tk, htk⟩ : ∃ tk, x.1.1 = tk := ⟨_, rfl⟩
    rw [htk] at hks hC ⊢
    have hsn := namesC_snoc (keys pre) (tk, x.1.2.2)
    rw [← hks] at hsn
    obtain ⟨L, hL⟩ : ∃ L, namesC (keys pre) = L := ⟨_, rfl⟩
    rw [hL] at hsn hnl hCB
    have HC := Lib.hid hCB; have HSN := Lib.hid hsn
    obtain ⟨e0, e1, e2, e3, e4, e5, e6, e7, e8, e9⟩ := Whole.ten hC
    obtain ⟨⟨v0, hb0, hr0, -⟩, hB0⟩ := hCB
    have k1 := hb0.cell
    have g1 := hb0.frozen
    obtain ⟨op, hop⟩ : ∃ op, tk.fld.op = op := ⟨_, rfl⟩
    obtain ⟨nm, hnm⟩ : ∃ nm, tk.fld.name = nm := ⟨_, rfl⟩
    rw [hop] at e0
    rw [hnm] at e6
    have HB0 := Lib.hid hb0; have HR0 := Lib.hid hr0; have HBW := Lib.hid hB0
    have HSN2 : Hid (namesC (keys (pre ++ [x])) = if op = 6 then L ++ [nm] else L) := Lib.hid (by rw [HSN.out, ← hop, ← hnm])
    clear hks hC hv' htk hop hnm hL hb0 hr0 hB0 hsn HSN
    by_cases h6 : op = 6
    rotate_left
    · have d6 : (op == 6) = false := beq_eq_false_iff_ne.2 h6
      have hn := HSN2.out
      rw [if_neg h6] at hn
      have HN := Lib.hid hn
      clear h6 hn
      gi_wp2_with fail
      exact ⟨KeepsFrom.refl _ _, ⟨Below.refl _ _, KeepsTr.refl _⟩, by dsimp only; rw [HN.out]; exact HC.out⟩
    subst h6
    have hn : namesC (keys (pre ++ [x])) = L ++ [nm] := HSN2.out
    have HN := Lib.hid hn
    have hra : (W.alloc (.cells #[.string nm] 9)).ownsRow w.heap.size 9 1 v0 L.length (litsS L) := World.ownsRow.kept HR0.out (World.grownBy_alloc W _ none) (by cases v0.ownBlock <;> simp)
    have hszW := HBW.out.size
    obtain ⟨i0, hi, hz0, hz1, hz2⟩ := info_parts info_str
    clear HSN2 hn
    gi_wp2_with (gi_at_builtin; refine wpListIn_append_own _ rfl _ _ 34 rfl w.heap.size 9 i0 (.string ⟨#[]⟩) 1 16 Try.underlying34 hi hz0 hz1 hz2 rfl (by decide) _ _ _ rfl hra ⟨W.heap.size, 0, none⟩ 1 1 [.string nm] rfl rfl (cell_one_new _ _ _) (by simp [Value.oneCell']) (by unfold maxLen; omega) (by omega) (by simp; omega) ?_; intro v' w1 hown' hgrow _; have HAP := Lib.hid hown'; have HGR := Lib.hid hgrow; obtain ⟨g', cap', rfl⟩ := ownsRow_succ hown'; obtain ⟨hv1, -⟩ := HB0.out.appended (by decide) HR0.out hszW (by omega) hown' hgrow; have t1 := hv1.cell; have t2 := hv1.frozen; clear hown' hgrow hv1)
    obtain ⟨a1, a2'', a3, a4, a5⟩ := HB0.out.appended (by decide) HR0.out hszW (by omega) HAP.out HGR.out
    have hkt : KeepsTr W (w1.setCell ⟨q + 1, 0, none⟩ (.slice (some ⟨g', 0, none⟩) (L.length + 1) cap')) :=
      ((KeepsTr.below ((Below.refl _ W).alloc (Nat.le_refl _) _)).trans (row_off_tr hra (by decide) HGR.out)).trans (KeepsTr.set a1 (by decide) _)
    refine ⟨a4.from _, ⟨a5, hkt⟩, ?_⟩
    dsimp only
    rw [HN.out]
    exact ⟨⟨_, a2'', by rw [List.length_append, litsS_append]; exact a3, trivial⟩, HBW.out.trans a5⟩
  case done =>
    rintro D xs W hD hS ⟨⟨v0, hb0, hr0, -⟩, hB⟩ hK
    rw [hS, namesC_parts] at hr0
    have HB := Lib.hid hB; have HK := Lib.hid hK; have HR0 := Lib.hid hr0
    have c2 := hb0.cell
    clear hB hK hS hr0 hb0
    gi_wp2
    refine ⟨by simp, .inl ⟨_, _, rfl, run_takeDeferred HK.out, ?_⟩⟩
    exact ⟨_, results_tmp rfl _ _ _, HB.out.trans (belowK_b (w := w) (Nat.le_refl _) W D _ _ (by omega) HK.out rfl rfl), .inr ⟨YB.out, v0, rfl, ownsRow_putObj HR0.out _ HK.out rfl⟩⟩
  case stop =>
    rintro D c pre W _ _ h _
    exact h.elim
end Go.Proofs.Ytnemacejaiifnaa
