/- Texts merged by program: CoPut, CoSize, CoPatch. No condition. -/
import Derived.Test.YthffdmncdoogpaaK14
import Derived.Deep.RegionLaw
import Derived.BigQuiet
set_option linter.unusedVariables false
/- The builder's put: an instruction behind all. No condition. -/
namespace Go.Proofs.Ythffdmncdoogpaa
open Go Go.RowKit

theorem co_wrap (n : Int) (h : -9223372036854775808 ≤ n ∧ n ≤ 9223372036854775807) : IntKind.i64.wrap n = n := (IntWalk.i64_left n).trans (IntWalk.wrap64_in n h)
/-- What a step of the builder tells: a place, and what is put then. -/
def CodPost (w0 : World) (q : Nat) (g : Int) (w : World) (r : Nat × List Ins) (e : Ending) (w' : World) : Prop := e = .returned (.int .i64 r.1) ∧ Bld w0 q g w' r.2 ∧ Fr q w w'
theorem Bld.cell {w0 : World} {q : Nat} {g : Int} {w : World} {L : List Ins} (h : Bld w0 q g w L) : ∃ a c, OwnI w w0.heap.size (.slice a L.length c) L ∧ Whole w q 68 #[.slice a L.length c, .int .i64 0, .int .i64 (2 * g + 2)] ∧ L.length ≤ c ∧ c ≤ maxLen := by
  obtain ⟨v, hw, ho⟩ := h.row
  obtain ⟨a, c, rfl, h1, h2⟩ := ho.slice
  exact ⟨a, c, ho, hw, h1, h2⟩
theorem OwnI.apart {w : World} {B : Nat} {v : Value} {L : List Ins} (h : OwnI w B v L) {q : Nat} {t : TypeId} {cs : Array Value} (hw : Whole w q t cs) (ht : t ≠ 39) : v.ownBlock ≠ some q := fun e => not_kindI hw ht (h.kind e)
/-- Behind an append onto the row, and the store of it. -/
theorem put_end {w0 w w1 w3 : World} {q : Nat} {g : Int} {L : List Ins} {x : Ins} {v v3 : Value} {o1 : Obj} (hb : Bld w0 q g w L) (hb1 : Below w.heap.size w w1) (ho : OwnI w1 w0.heap.size v L) (hq : Whole w1 q 68 #[v, .int .i64 0, .int .i64 (2 * g + 2)]) (ho3 : OwnI w3 w0.heap.size v3 (L ++ [x])) (hg3 : (w1.alloc o1).drew.grownBy w3 v.ownBlock) :
    Bld w0 q g (w3.setCell ⟨q, 0, none⟩ v3) (L ++ [x]) ∧ Fr q w (w3.setCell ⟨q, 0, none⟩ v3) := by
  have hq2 : Whole w3 q 68 #[v, .int .i64 0, .int .i64 (2 * g + 2)] := Whole.grown ((hq.alloc o1).drew) hg3 (ho.apart hq (by decide))
  have hB2 : Below w.heap.size w (w1.alloc o1).drew := (hb1.alloc hb1.size _).drew
  have hB0 : Below w0.heap.size w0 (w1.alloc o1).drew := hb.below.trans (hB2.mono hb.below.size)
  have hB3 : Below w0.heap.size w0 w3 := hB0.grown hg3 hB0.size (fun j hj => (ho.base j hj).1)
  refine ⟨Bld.putRow hB3 hb.base hq2 ho3, ?_⟩
  refine ⟨hg3.os.trans hB2.os, hg3.tape.trans hB2.tape, hg3.output.trans hB2.output, Nat.le_trans hB2.size (Nat.le_trans hg3.size (by simp [World.setCell])), fun k hk hkq hki => ?_⟩
  have e1 : (w1.alloc o1).drew.heap[k]? = w.heap[k]? := hB2.block k hk
  refine (Below.heap_setCell w3 _ _ k hkq).trans (Eq.trans (hg3.block k (Nat.lt_of_lt_of_le hk hB2.size) (fun e => hki ?_)) e1)
  obtain ⟨cs, f, h⟩ := ho.kind e.symm
  have e2 : w1.heap[k]? = w.heap[k]? := hb1.block k hk
  exact ⟨cs, f, by rw [← e2]; exact h⟩

set_option maxHeartbeats 1600000 in
set_option maxRecDepth 100000 in
theorem cput_any (w0 : World) (q : Nat) (g : Int) (L : List Ins) (x : Ins) (cs : Array Value) (w : World) (hB : Bld w0 q g w L) (hx : InsF w x cs) (hlen : L.length ≤ 100000000000) :
    Calls Try.prog 36 #[.pointer (some ⟨q, 0, none⟩), .agg cs] w (CodPost w0 q g w (L.length, L ++ [x])) := by
  have hx' := hx
  obtain ⟨a2, c2, rfl, -⟩ := hx
  obtain ⟨w1, hw1⟩ : ∃ w1, w.alloc (.cells (insC x (.slice a2 x.set.length c2)) 39) = w1 := ⟨_, rfl⟩
  have hb1 : Below w.heap.size w w1 := by rw [← hw1]; exact (Below.refl _ _).alloc (Nat.le_refl _) _
  obtain ⟨x0, x1, x2, x3, x4⟩ : w1.cell? ⟨w.heap.size, 0, none⟩ = some (.int .i64 x.op) ∧ w1.cell? ⟨w.heap.size, 1, none⟩ = some (.int .i64 x.out) ∧ w1.cell? ⟨w.heap.size, 2, none⟩ = some (.int .i64 x.arg) ∧ w1.cell? ⟨w.heap.size, 3, none⟩ = some (.slice a2 x.set.length c2) ∧ w1.cell? ⟨w.heap.size, 4, none⟩ = some (.int .i64 x.at') := by
    rw [← hw1]
    exact ⟨box_at w _ _ 0 _ rfl, box_at w _ _ 1 _ rfl, box_at w _ _ 2 _ rfl, box_at w _ _ 3 _ rfl, box_at w _ _ 4 _ rfl⟩
  obtain ⟨a, c, ho, hq, hlc, hcm⟩ := (hB.on hb1).cell
  have c0 := hq.cell 0
  simp only [List.getElem?_toArray, List.getElem?_cons_zero] at c0
  have c0a : ∀ o, (w1.alloc o).cell? ⟨q, 0, none⟩ = some (.slice a L.length c) := fun o => (((Below.refl _ w1).alloc (Nat.le_refl _) o).cell (p := ⟨q, 0, none⟩) hq.lt).trans c0
  have HB := Lib.hid hB; have HX := Lib.hid (hx'.same (same_below_r hb1)); have HW1 := Lib.hid hw1; have HB1 := Lib.hid hb1; have HO := Lib.hid ho; have HQ := Lib.hid hq
  have hbase : w0.heap.size ≤ w1.heap.size := Nat.le_trans hB.below.size hb1.size
  unfold insC
  unfold insC at hw1
  clear hB hx' hw1 hb1 ho hq hlc hcm
  obtain ⟨n, hn⟩ : ∃ n, L.length = n := ⟨_, rfl⟩
  have HN := Lib.hid hn
  have hn9 : n ≤ 100000000000 := by omega
  rw [hn] at c0 ⊢
  simp only [hn] at c0a
  clear hn hlen
  go_enter Try.func36, Try.ntmps36
  go_upto_region 1 with (fail)
  have HW1' := HW1.out
  unfold insC at HW1'
  rw [HW1']
  clear HW1'
  go_region_law (first | (refine step_append_ins rfl (.tmp 10) (.tmp 12) rfl w0.heap.size (.slice a n c) L rfl (by have := HO.out; rw [HN.out] at this; exact this.below ((Below.refl _ w1).alloc (Nat.le_refl _) _).drew) w1.heap.size 1 1 rfl x _ rfl ((cellsAt_new w1 _ _).below (Below.refl _ _).drew) (HX.out.same (same_below_r ((Below.refl _ w1).alloc (Nat.le_refl _) _).drew)) (by have := HN.out; omega) (by simp; omega) ?_; intro v3 w3 ho3 hg3; obtain ⟨a3, c3, rfl, -⟩ := ho3.slice; have hq3 : Whole w3 q 68 _ := Whole.grown ((HQ.out.alloc _).drew) (by have := HN.out; rw [this]; exact hg3) (HO.out.apart HQ.out (by decide)); have k0 := hq3.cell 0; have k1 := hq3.free 0; simp only [List.getElem?_toArray, List.getElem?_cons_zero] at k0; have HO3 := Lib.hid ho3; have HG3 := Lib.hid hg3; have HQ3 := Lib.hid hq3; clear ho3 hg3 hq3))
  all_goals
    have hwr : wrap64 (L.length : Int) = (n : Int) := by have := HN.out; rw [IntWalk.wrap64_in _ (by omega)]; omega
    have he := put_end HB.out HB1.out HO.out HQ.out HO3.out (by have := HN.out; rw [this]; exact HG3.out)
    simp only [List.length_append, List.length_singleton] at he
    have HE := Lib.hid he
    clear he
    go_wp2
    go_ret
    exact ⟨by show Ending.returned (.int .i64 (wrap64 (L.length : Int))) = _; rw [hwr], HE.out⟩
end Go.Proofs.Ythffdmncdoogpaa
/- How many instructions a tree's code has: asked, own, size. No condition. -/
namespace Go.Proofs.Ythffdmncdoogpaa
open Go Go.RowKit

/-- Place o of block b holds the tree t. -/
def TAt (w : World) (b o : Nat) (t : Tr) : Prop := ∃ kv sv, CellsAt w b o (treC t.fld kv sv) ∧ Tre w t (.agg (treC t.fld kv sv))
theorem TAt.below {w w' : World} {b o : Nat} {t : Tr} (h : TAt w b o t) (hb : Below w.heap.size w w') : TAt w' b o t := by
  obtain ⟨kv, sv, h1, h2⟩ := h
  exact ⟨kv, sv, h1.below hb, h2.below hb⟩
/-- The ten cells, and what they hold. -/
theorem TAt.ten {w : World} {b o : Nat} {t : Tr} (h : TAt w b o t) : ∃ (A : Option Addr) (n c : Nat) (a2 : Option Addr) (s c2 : Nat), t.kids.length = n ∧ t.fld.set.length = s ∧
    Kid10 w b o (.int .i64 t.fld.op) (.slice A n c) (.int .i32 t.fld.rune) (.slice a2 s c2) (.int .i64 t.fld.at') (.int .i64 t.fld.cap) (.string t.fld.name) (.int .i64 t.fld.min) (.int .i64 t.fld.max) (.bool t.fld.lazy) ∧
    n ≤ 1172812402961 ∧ s ≤ 17592186044416 ∧ Kds w t.kids (.slice A n c) ∧ Rgs w (.slice a2 s c2) t.fld.set ∧ FldOk t.fld := by
  obtain ⟨kv, sv, h1, h2⟩ := h
  obtain ⟨A, n, c, a2, s, c2, e1, e2, e3, e4, e5, e6, e7, e8⟩ := h2.opened
  have e3 : kv = .slice A n c ∧ sv = .slice a2 s c2 := by
    simp only [treC] at e3
    injection e3 with e3
    have := congrArg Array.toList e3
    simp at this
    exact this
  obtain ⟨rfl, rfl⟩ := e3
  exact ⟨A, n, c, a2, s, c2, e1, e2, h1.ten, e4, e5, e6, e7, e8⟩
/-- A Kid of a tree in memory. -/
theorem TAt.kid {w : World} {ks : List Tr} {A : Option Addr} {n c : Nat} (h : Kds w ks (.slice A n c)) (k : Nat) (hk : k < ks.length) : ∃ b o, A = some ⟨b, o, none⟩ ∧ TAt w b (o + k * 10) ks[k] := by
  obtain ⟨b, o, hA, -, kv, sv, hC, hT⟩ := h.at' k hk
  exact ⟨b, o, hA, kv, sv, hC, hT⟩
theorem sizeT_parts (g : Int) (t : Tr) : sizeT g t + 1 ≤ 3 * partsR t := by
  refine Tr.ind (P := fun t => sizeT g t + 1 ≤ 3 * partsR t) (fun t ih => ?_) t
  rw [sizeT_eq, partsR_eq]
  have hs : ∀ l : List Tr, (∀ k ∈ l, sizeT g k + 1 ≤ 3 * partsR k) → (l.map (sizeT g)).sum + l.length ≤ 3 * (l.map partsR).sum := by
    intro l
    induction l with
    | nil => intro _; simp
    | cons x l ih =>
      intro h
      have h1 := h x (by simp)
      have h2 := ih fun k hk => h k (by simp [hk])
      simp only [List.map_cons, List.sum_cons, List.length_cons]
      omega
  have h := hs t.kids ih
  unfold ownN
  repeat' split
  all_goals omega
theorem sizeT_take (g : Int) (t : Tr) (k : Nat) : ((t.kids.take k).map (sizeT g)).sum ≤ (t.kids.map (sizeT g)).sum := by
  have h : t.kids = t.kids.take k ++ t.kids.drop k := (List.take_append_drop k t.kids).symm
  have h2 : (t.kids.map (sizeT g)).sum = ((t.kids.take k).map (sizeT g)).sum + ((t.kids.drop k).map (sizeT g)).sum := by
    conv => lhs; rw [h]
    rw [List.map_append, List.sum_append_nat]
  omega
theorem sizeT_step (g : Int) (t : Tr) (k : Nat) (hk : k < t.kids.length) : ((t.kids.take (k + 1)).map (sizeT g)).sum = ((t.kids.take k).map (sizeT g)).sum + sizeT g t.kids[k] := by
  rw [List.take_succ_eq_append_getElem hk, List.map_append, List.sum_append_nat]
  simp

set_option maxHeartbeats 1600000 in
set_option maxRecDepth 100000 in
theorem casked_any (w0 : World) (q : Nat) (g : Int) (L : List Ins) (w : World) (pb po : Nat) (t : Tr) (hB : Bld w0 q g w L) (hg : 0 ≤ g ∧ g ≤ 2000) (hT : TAt w pb po t) :
    Calls Try.prog 82 #[.pointer (some ⟨q, 0, none⟩), .pointer (some ⟨pb, po, none⟩)] w (SaysG (t.fld.cap ≤ g) w) := by
  obtain ⟨a, c, -, hq, -, -⟩ := hB.cell
  have c2 := hq.cell 2
  simp only [List.getElem?_toArray, List.getElem?_cons_zero, List.getElem?_cons_succ] at c2
  obtain ⟨A, n, cc, a2, s, c3, -, -, ⟨-, -, -, -, -, d5, -, -, -, -⟩, -, -, -, -, hF⟩ := hT.ten
  obtain ⟨cp, hcp⟩ : ∃ x, t.fld.cap = x := ⟨_, rfl⟩
  have hcr : I64 cp := by rw [← hcp]; exact hF.2.2.2.1
  rw [hcp] at d5 ⊢
  obtain ⟨m, hm⟩ : ∃ m : Int, m = 2 * g + 2 := ⟨_, rfl⟩
  rw [← hm] at c2
  have hq2 : m.tdiv 2 = g + 1 := by subst hm; rw [Int.tdiv_eq_ediv_of_nonneg (by omega)]; omega
  clear hB hT hq hcp hF
  have hqw : IntKind.i64.wrap (m.tdiv 2) = g + 1 := by rw [hq2]; exact co_wrap _ (by omega)
  obtain ⟨B, hBe⟩ : ∃ B : Bool, decide (cp < g + 1) = B := ⟨_, rfl⟩
  have HBQ : Hid (B = true ↔ cp ≤ g) := Lib.hid (by rw [← hBe, decide_eq_true_eq]; omega)
  clear hm
  go_enter Try.func82, Try.ntmps82
  go_upto_region 1 with (fail)
  go_big_quiet (fail)
  go_wp2_with fail
  go_ret
  exact ⟨B, rfl, HBQ.out, below_draws w _⟩
/-- A number; what lay stays. -/
def NumG (n : Nat) (w : World) (e : Ending) (w' : World) : Prop := e = .returned (.int .i64 n) ∧ Below w.heap.size w w'
theorem shaped_op {t : Tr} (h : ShapedP t) : 1 ≤ t.fld.op ∧ t.fld.op ≤ 12 ∧ (t.fld.op = 12 → 1 ≤ t.kids.length) ∧ (t.fld.op = 6 ∨ t.fld.op = 7 ∨ t.fld.op = 8 ∨ t.fld.op = 9 → t.kids.length = 1) := by
  obtain ⟨hf, hk, -, -⟩ := (shapedP_iff t).1 h
  exact ⟨hf.1, hf.2.1, hk.2.1, fun h => hk.1 (by omega)⟩

set_option maxHeartbeats 1600000 in
set_option maxRecDepth 100000 in
theorem cown_any (w0 : World) (q : Nat) (g : Int) (L : List Ins) (w : World) (pb po : Nat) (t : Tr) (hB : Bld w0 q g w L) (hg : 0 ≤ g ∧ g ≤ 2000) (hT : TAt w pb po t) (hs : ShapedP t) :
    Calls Try.prog 52 #[.pointer (some ⟨q, 0, none⟩), .pointer (some ⟨pb, po, none⟩)] w (NumG (ownN g t.fld t.kids.length) w) := by
  have HA := Lib.hid (casked_any w0 q g L w pb po t hB hg hT)
  obtain ⟨A, n, cc, a2, s, c3, hn, -, ⟨d0, d1, -, -, -, -, -, -, -, -⟩, hnb, -, -, -, hF⟩ := hT.ten
  obtain ⟨h1, h2, h3, -⟩ := shaped_op hs
  obtain ⟨op, hop⟩ : ∃ x, t.fld.op = x := ⟨_, rfl⟩
  obtain ⟨N, hN⟩ : ∃ N, ownN g t.fld t.kids.length = N := ⟨_, rfl⟩
  have HN := Lib.hid hN
  rw [hN]
  unfold ownN at hN
  rw [hop] at d0 h1 h2 h3 hN
  rw [hn] at h3 hN
  obtain ⟨cp, hcp⟩ : ∃ x, t.fld.cap = x := ⟨_, rfl⟩
  rw [hcp] at HA hN
  clear hB hT hs hF HN hop hn hcp
  by_cases x2 : op = 2 ∨ op = 11
  · rw [if_pos x2] at hN
    subst hN
    rcases x2 with rfl | rfl
    all_goals
      clear h1 h2 h3
      go_enter Try.func52, Try.ntmps52
      go_wp2
      go_ret
      exact ⟨rfl, Below.refl _ _⟩
  rw [if_neg x2] at hN
  by_cases x6 : op = 6
  · rw [if_pos x6] at hN
    subst x6
    clear h1 h2 h3 x2
    have HN := Lib.hid hN
    clear hN
    go_enter Try.func52, Try.ntmps52
    go_wp2_with fail
    refine HA.out.mono ?_
    rintro e w1 ⟨B, rfl, hq, hb⟩
    have HQ := Lib.hid hq; have HB := Lib.hid hb
    clear hq hb d0 d1
    cases B
    · go_wp2
      go_ret
      refine ⟨?_, HB.out⟩
      have := HQ.out
      rw [← HN.out, if_neg (fun h => by have := this.2 h; simp at this)]
      rfl
    · go_wp2
      go_ret
      refine ⟨?_, HB.out⟩
      rw [← HN.out, if_pos (by simpa using HQ.out)]
      rfl
  rw [if_neg x6] at hN
  have e2 : (op == 2) = false := beq_eq_false_iff_ne.2 (fun h => x2 (.inl h))
  have e11 : (op == 11) = false := beq_eq_false_iff_ne.2 (fun h => x2 (.inr h))
  have e6 : (op == 6) = false := beq_eq_false_iff_ne.2 x6
  by_cases x12 : op = 12
  · rw [if_pos x12] at hN
    have h4 := h3 x12
    subst x12 hN
    have hw : IntKind.i64.wrap ((n : Int) - 1) = ((n - 1 : Nat) : Int) := by rw [co_wrap _ (by omega)]; omega
    clear h1 h2 h3 x2 x6 e2 e6 e11
    go_enter Try.func52, Try.ntmps52
    go_wp2
    go_ret
    exact ⟨rfl, Below.refl _ _⟩
  · rw [if_neg x12] at hN
    have e12 : (op == 12) = false := beq_eq_false_iff_ne.2 x12
    subst hN
    clear h1 h2 h3 x2 x6 x12
    go_enter Try.func52, Try.ntmps52
    go_wp2
    go_ret
    exact ⟨rfl, Below.refl _ _⟩

def SizeOf' (g : Int) (t : Tr) : Prop := ShapedP t → partsR t ≤ 100000000000 → ∀ (w0 : World) (q : Nat) (L : List Ins) (w : World) (pb po : Nat), Bld w0 q g w L → TAt w pb po t →
  Calls Try.prog 34 #[.pointer (some ⟨q, 0, none⟩), .pointer (some ⟨pb, po, none⟩)] w (NumG (sizeT g t) w)
set_option maxHeartbeats 1600000 in
set_option maxRecDepth 100000 in
theorem csize_any (g : Int) (hg : 0 ≤ g ∧ g ≤ 2000) (t : Tr) : SizeOf' g t := by
  refine Tr.ind (P := SizeOf' g) (fun t ih hs hp w0 q L w pb po hB hT => ?_) t
  have HA := Lib.hid (cown_any w0 q g L w pb po t hB hg hT hs)
  have HIH := Lib.hid ih; have HB := Lib.hid hB; have HT := Lib.hid hT; have HS := Lib.hid hs
  have HP := Lib.hid hp
  obtain ⟨N, hN⟩ : ∃ N, sizeT g t = N := ⟨_, rfl⟩
  have HN : Hid (ownN g t.fld t.kids.length + (t.kids.map (sizeT g)).sum = N) := Lib.hid (by rw [← hN, sizeT_eq])
  have hNb : N ≤ 400000000000 := by have := sizeT_parts g t; omega
  obtain ⟨o, ho⟩ : ∃ o, ownN g t.fld t.kids.length = o := ⟨_, rfl⟩
  rw [ho] at HA HN
  rw [hN]
  clear ih hB hT hs hp hN ho
  go_enter Try.func34, Try.ntmps34
  go_wp2_with fail
  refine HA.out.mono ?_
  rintro e w1 ⟨rfl, hb⟩
  have HB1 := Lib.hid hb
  have hT1 := HT.out.below hb
  obtain ⟨A, n, cc, a2, s, c3, hn, -, ⟨-, d1, -, -, -, -, -, -, -, -⟩, hnb, -, hK, -, -⟩ := hT1.ten
  have HLN := Lib.hid hn; have HK := Lib.hid hK
  clear hb hT1 hn hK
  go_wp2_with fail
  go_loopw [5, 15] (fun a i wr => ∃ k : Nat, k ≤ n ∧ i = .int .i64 k ∧ a = .int .i64 ((o + ((t.kids.take k).map (sizeT g)).sum : Nat) : Int) ∧ Below w.heap.size w wr) (fun _ i _ => n - (intOf i).toNat)
  case atStart => exact ⟨0, Nat.zero_le _, rfl, by simp, HB1.out⟩
  case round =>
    obtain ⟨k, hk, rfl, rfl, hb⟩ := hrel
    by_cases hkn : k < n
    · have hkl : k < t.kids.length := by rw [HLN.out]; exact hkn
      have hbw : Below w1.heap.size w1 wr ∨ True := .inr trivial
      have hTr := HT.out.below hb
      obtain ⟨A', n', cc', a2', s', c3', hn', -, ⟨-, d1, -, -, -, -, -, -, -, -⟩, -, -, hK, -, -⟩ := hTr.ten
      obtain ⟨kb, ko, rfl, hKT⟩ := TAt.kid hK k hkl
      rw [HLN.out] at hn'
      subst hn'
      have hkid : t.kids[k] ∈ t.kids := List.getElem_mem hkl
      have hsk : ShapedP t.kids[k] := ((shapedP_iff t).1 HS.out).2.2.2 _ hkid
      have hpk : partsR t.kids[k] ≤ 100000000000 := Nat.le_trans (Nat.le_of_lt (partsR_kid hkid)) HP.out
      have HC := Lib.hid (HIH.out _ hkid hsk hpk w0 q L wr kb (ko + k * 10) (HB.out.on hb) hKT)
      have hstep := sizeT_step g t k hkl
      have hle := sizeT_take g t (k + 1)
      obtain ⟨z, hz⟩ : ∃ z, sizeT g t.kids[k] = z := ⟨_, rfl⟩
      rw [hz] at HC hstep
      obtain ⟨m, hm⟩ : ∃ m, o + ((t.kids.take k).map (sizeT g)).sum = m := ⟨_, rfl⟩
      have hms : o + ((t.kids.take (k + 1)).map (sizeT g)).sum = m + z := by omega
      have hmz : m + z ≤ 400000000000 := by have := HN.out; omega
      have HMS := Lib.hid hms; have HBr := Lib.hid hb
      rw [hm]
      clear hbw hTr hK hKT hkid hsk hpk hstep hle hz hm hms hb
      go_wp2_with fail
      refine HC.out.mono ?_
      rintro e w3 ⟨rfl, hb3⟩
      have HB3 := Lib.hid hb3
      clear hb3 d1
      have hwz : IntKind.i64.wrap ((m : Int) + (z : Int)) = ((m + z : Nat) : Int) := by rw [co_wrap _ (by omega)]; omega
      go_wp2_with fail
      go_roundw
      case rel => exact ⟨k + 1, by omega, by go_num, by rw [HMS.out]; first | rfl | (congr 1; rw [← hwz]) , below_two HBr.out HB3.out⟩
      case measure => simp [intOf]; omega
    · obtain rfl : k = n := by omega
      have hk2 : t.kids.take k = t.kids := List.take_of_length_le (by rw [HLN.out]; omega)
      have hres : o + ((t.kids.take k).map (sizeT g)).sum = N := by rw [hk2]; exact HN.out
      rw [hres]
      have HBr := Lib.hid hb
      clear hb hres hk2
      go_wp2_with fail
      go_ret
      exact ⟨rfl, HBr.out⟩
end Go.Proofs.Ythffdmncdoogpaa
/- The builder's patch: where an InstAlt leads. No condition. -/
namespace Go.Proofs.Ythffdmncdoogpaa
open Go Go.RowKit

/-- A step of the builder that tells nothing. -/
def DonPost (w0 : World) (q : Nat) (g : Int) (w : World) (L : List Ins) (e : Ending) (w' : World) : Prop := (∃ v, e = .returned v) ∧ Bld w0 q g w' L ∧ Fr q w w'
theorem OwnI.whole {w : World} {B g n c : Nat} {L : List Ins} (h : OwnI w B (.slice (some ⟨g, 0, none⟩) n c) L) : ∃ cs, Whole w g 39 cs := by
  obtain ⟨C, _, ho, _⟩ := h
  rcases ho.2 with ⟨e, _⟩ | ⟨g', cap, cur, e, _, hh, _⟩
  · cases e
  · injection e with e1 e2 e3
    injection e1 with e1
    injection e1 with e1
    subst e1
    exact ⟨_, hh⟩
theorem don_drew {w0 : World} {q : Nat} {g : Int} {w W : World} {L : List Ins} (h : Bld w0 q g W L ∧ Fr q w W) : Bld w0 q g W.drew L ∧ Fr q w W.drew := ⟨h.1.on (Below.refl _ _).drew, h.2.trans (Fr.of_below (Below.refl _ _).drew)⟩
/-- Two cells of an instruction patched, in any order. -/
theorem patch_end {w0 w : World} {q : Nat} {g : Int} {G n c : Nat} {L : List Ins} (hb : Bld w0 q g w L) (ho : OwnI w w0.heap.size (.slice (some ⟨G, 0, none⟩) n c) L) (hq : Whole w q 68 #[.slice (some ⟨G, 0, none⟩) n c, .int .i64 0, .int .i64 (2 * g + 2)]) (i : Nat) (hi : i < L.length) (u v : Int) (hu : R64 u) (hv : R64 v) (hx : L[i] = ⟨3, 0, 0, [], 0⟩) :
    (Bld w0 q g ((w.setCell ⟨G, i * 5 + 1, none⟩ (.int .i64 u)).setCell ⟨G, i * 5 + 2, none⟩ (.int .i64 v)) (L.set i ⟨3, u, v, [], 0⟩) ∧ Fr q w ((w.setCell ⟨G, i * 5 + 1, none⟩ (.int .i64 u)).setCell ⟨G, i * 5 + 2, none⟩ (.int .i64 v))) ∧
    (Bld w0 q g ((w.setCell ⟨G, i * 5 + 2, none⟩ (.int .i64 v)).setCell ⟨G, i * 5 + 1, none⟩ (.int .i64 u)) (L.set i ⟨3, u, v, [], 0⟩) ∧ Fr q w ((w.setCell ⟨G, i * 5 + 2, none⟩ (.int .i64 v)).setCell ⟨G, i * 5 + 1, none⟩ (.int .i64 u))) := by
  have hG : w0.heap.size ≤ G := (ho.base G rfl).1
  have hki : KindI w G := ho.kind rfl
  have hqG : q ≠ G := fun e => not_kindI hq (by decide) (by subst e; exact hki)
  have hfr : ∀ (a b : Nat) (x y : Value), Fr q w ((w.setCell ⟨G, a, none⟩ x).setCell ⟨G, b, none⟩ y) := fun a b x y =>
    ⟨rfl, rfl, rfl, by simp [World.setCell], fun k hk hkq hkk => (Below.heap_setCell _ _ _ k (fun e => hkk (by subst e; exact hki))).trans (Below.heap_setCell _ _ _ k (fun e => hkk (by subst e; exact hki)))⟩
  have hqq : ∀ (a b : Nat) (x y : Value), Whole ((w.setCell ⟨G, a, none⟩ x).setCell ⟨G, b, none⟩ y) q 68 #[.slice (some ⟨G, 0, none⟩) n c, .int .i64 0, .int .i64 (2 * g + 2)] := fun a b x y => ((Below.heap_setCell _ _ _ q hqG).trans (Below.heap_setCell _ _ _ q hqG)).trans hq
  refine ⟨⟨⟨(hb.below.setCell (p := ⟨G, i * 5 + 1, none⟩) hG _).setCell (p := ⟨G, i * 5 + 2, none⟩) hG _, hb.base, _, hqq _ _ _ _, ?_⟩, hfr _ _ _ _⟩, ⟨⟨(hb.below.setCell (p := ⟨G, i * 5 + 2, none⟩) hG _).setCell (p := ⟨G, i * 5 + 1, none⟩) hG _, hb.base, _, hqq _ _ _ _, ?_⟩, hfr _ _ _ _⟩⟩
  · have h1 := ho.patched i hi 1 (.inl rfl) u hu
    have h2 := h1.patched i (by rw [List.length_set]; exact hi) 2 (.inr rfl) v hv
    simp only [if_true, List.getElem_set_self, List.set_set] at h2
    rw [hx] at h2
    exact h2
  · have h1 := ho.patched i hi 2 (.inr rfl) v hv
    have h2 := h1.patched i (by rw [List.length_set]; exact hi) 1 (.inl rfl) u hu
    simp only [if_true, List.getElem_set_self, List.set_set] at h2
    rw [hx] at h2
    exact h2

set_option maxHeartbeats 1600000 in
set_option maxRecDepth 100000 in
theorem cpatch_any (w0 : World) (q : Nat) (g : Int) (L : List Ins) (w : World) (i more stop : Nat) (z : Bool) (hB : Bld w0 q g w L) (hi : i < L.length) (hx : L[i] = ⟨3, 0, 0, [], 0⟩) (hm : more ≤ 1000000000000) (hs : stop ≤ 1000000000000) (hL : L.length ≤ 1000000000000) :
    Calls Try.prog 56 #[.pointer (some ⟨q, 0, none⟩), .int .i64 i, .int .i64 more, .int .i64 stop, .bool z] w (DonPost w0 q g w (L.set i (altI more stop z))) := by
  obtain ⟨a, c, ho, hq, h1, h2⟩ := hB.cell
  have hin := ho.inss
  obtain ⟨G, o, x, a2, s, c2, rfl, -, -, -, -, ⟨x0, x1, x2, x3, x4⟩, -⟩ := hin.at' i hi
  have ho0 : o = 0 := by
    rcases ho with ⟨C, _, ho, _⟩
    rcases ho.2 with ⟨e, _⟩ | ⟨g', cap, cur, e, _⟩
    · cases e
    · injection e with e1 e2 e3
      injection e1 with e1
      injection e1 with e1 e4
  subst ho0
  obtain ⟨cur, hG⟩ := ho.whole
  have hqG : q ≠ G := fun e => not_kindI hq (by decide) (by subst e; exact ho.kind rfl)
  have c0 := hq.cell 0
  simp only [List.getElem?_toArray, List.getElem?_cons_zero] at c0
  have f1 := hG.free (i * 5 + 1)
  have f2 := hG.free (i * 5 + 2)
  rw [Nat.zero_add] at x1 x2
  have HE := Lib.hid (patch_end hB ho hq i hi (if z then stop else more) (if z then more else stop) (by cases z <;> constructor <;> simp <;> omega) (by cases z <;> constructor <;> simp <;> omega) hx)
  obtain ⟨n, hn⟩ : ∃ n, L.length = n := ⟨_, rfl⟩
  rw [hn] at hi c0 h1 hL
  obtain ⟨L', hL'⟩ : ∃ L', L.set i (altI more stop z) = L' := ⟨_, rfl⟩
  have HL := Lib.hid hL'
  rw [hL']
  clear hB hx ho hq hin hG h2 hn x0 x3 x4 hL'
  go_enter Try.func56, Try.ntmps56
  cases z
  all_goals
    simp only [Bool.false_eq_true, if_false, if_true] at HE
    go_upto_region 2 with (fail)
    go_region_law (fail)
    all_goals
      go_end0
      refine ⟨⟨_, rfl⟩, ?_⟩
      rw [← HL.out]
      first | exact don_drew HE.out.1 | exact don_drew HE.out.2 | exact HE.out.1 | exact HE.out.2
end Go.Proofs.Ythffdmncdoogpaa
