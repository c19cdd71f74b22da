/- Texts merged by program: DnLay1. No condition. -/
import Derived.Test.YtnemacejaiifnaaQ2
import Derived.Test.YtnemacejaiifnaaProg
import Derived.Deep.DeepCutAuto
import Derived.Deep.RegionWith
set_option linter.unusedVariables false
/- Small parts of what denote lays: closures over boxes. No condition. -/
namespace Go.Proofs.Ytnemacejaiifnaa
open Go Go.RowKit

abbrev ptrV (b : Nat) : Value := .pointer (some ⟨b, 0, none⟩)
theorem whole_new (w : World) (t : TypeId) (cs : Array Value) : Whole (w.alloc (.cells cs t)) w.heap.size t cs := heap_alloc_new w _
theorem size_new (w : World) (o : Obj) : (w.alloc o).heap.size = w.heap.size + 1 := by simp
theorem new_box (w : World) (t : TypeId) (u : Value) : ∃ w1, w.alloc (.cells #[u] t) = w1 ∧ Whole w1 w.heap.size t #[u] ∧ Below w.heap.size w w1 ∧ w1.heap.size = w.heap.size + 1 :=
  ⟨_, rfl, whole_new _ _ _, (Below.refl _ _).alloc (Nat.le_refl _) _, size_new _ _⟩
/-- Two boxes, one behind the other. -/
theorem dtwo_new (w : World) (t1 t2 : TypeId) (u1 u2 : Value) : ∃ w2, (w.alloc (.cells #[u1] t1)).alloc (.cells #[u2] t2) = w2 ∧ Whole w2 w.heap.size t1 #[u1] ∧ Whole w2 (w.heap.size + 1) t2 #[u2] ∧ Below w.heap.size w w2 ∧ w2.heap.size = w.heap.size + 2 := by
  obtain ⟨a, rfl, h1, h2, h3⟩ := new_box w t1 u1
  obtain ⟨b, rfl, k1, k2, k3⟩ := new_box (w.alloc (.cells #[u1] t1)) t2 u2
  exact ⟨_, rfl, h1.alloc _, by rw [h3] at k1; exact k1, h2.trans (k2.mono h2.size), by rw [k3, h3]⟩
theorem three_new (w : World) (t1 t2 t3 : TypeId) (u1 u2 u3 : Value) : ∃ w2, ((w.alloc (.cells #[u1] t1)).alloc (.cells #[u2] t2)).alloc (.cells #[u3] t3) = w2 ∧ Whole w2 w.heap.size t1 #[u1] ∧ Whole w2 (w.heap.size + 1) t2 #[u2] ∧ Whole w2 (w.heap.size + 2) t3 #[u3] ∧ Below w.heap.size w w2 ∧ w2.heap.size = w.heap.size + 3 := by
  obtain ⟨a, rfl, h1, h2, h3, h4⟩ := dtwo_new w t1 t2 u1 u2
  obtain ⟨b, rfl, k1, k2, k3⟩ := new_box ((w.alloc (.cells #[u1] t1)).alloc (.cells #[u2] t2)) t3 u3
  exact ⟨_, rfl, h1.alloc _, h2.alloc _, by rw [h4] at k1; exact k1, h3.trans (k2.mono h3.size), by rw [k3, h4]⟩
theorem four_new (w : World) (t1 t2 t3 t4 : TypeId) (u1 u2 u3 u4 : Value) : ∃ w2, (((w.alloc (.cells #[u1] t1)).alloc (.cells #[u2] t2)).alloc (.cells #[u3] t3)).alloc (.cells #[u4] t4) = w2 ∧ Whole w2 w.heap.size t1 #[u1] ∧ Whole w2 (w.heap.size + 1) t2 #[u2] ∧ Whole w2 (w.heap.size + 2) t3 #[u3] ∧ Whole w2 (w.heap.size + 3) t4 #[u4] ∧ Below w.heap.size w w2 ∧ w2.heap.size = w.heap.size + 4 := by
  obtain ⟨a, rfl, h1, h2, h3, h4, h5⟩ := three_new w t1 t2 t3 u1 u2 u3
  obtain ⟨b, rfl, k1, k2, k3⟩ := new_box (((w.alloc (.cells #[u1] t1)).alloc (.cells #[u2] t2)).alloc (.cells #[u3] t3)) t4 u4
  exact ⟨_, rfl, h1.alloc _, h2.alloc _, h3.alloc _, by rw [h5] at k1; exact k1, h4.trans (k2.mono h4.size), by rw [k3, h5]⟩

/-- A func value: which function, what is bound, what is captured. -/
structure Fv where
  g : Fn
  f : Array Value
  c : Array Value
abbrev Fv.v (x : Fv) : Value := .func x.g x.f x.c
theorem mkf (fn : Fn) (first cap : Array Value) (w : World) : (Instr.makeFunc fn first cap).run Try.prog w = .ok (.func fn first cap) w := rfl
/-- The part that leads on from where it is come to. -/
def PassPost (q : Nat) (t : Fv) (w : World) (e : Ending) (w' : World) : Prop :=
  ∃ b, e = .returned (.func (.func 110) #[] #[ptrV b, ptrV (b + 1)]) ∧ Whole w' b 71 #[ptrV q] ∧ Whole w' (b + 1) 75 #[t.v] ∧ w.heap.size ≤ b ∧ Below w.heap.size w w'
set_option maxHeartbeats 800000 in
theorem dpass_any (q : Nat) (t : Fv) (w : World) : Calls Try.prog 71 #[ptrV q, t.v] w (PassPost q t w) := by
  obtain ⟨g, f, c⟩ := t
  have hmf := mkf
  obtain ⟨w2, hw2, k1, k2, hb, hs⟩ := dtwo_new w 71 75 (ptrV q) (.func g f c)
  have HP := Lib.hid (show PassPost q ⟨g, f, c⟩ w _ w2 from ⟨_, rfl, k1, k2, Nat.le_refl _, hb⟩)
  have HW := Lib.hid hw2
  clear k1 k2 hb hs hw2
  go_enter Try.func71, Try.ntmps71
  go_upto_region 1 with (fail)
  rw [HW.out]
  go_wp2_with fail
  go_ret
  exact HP.out
/-- Written by gen11a.py from here on. -/
theorem fv_eta (x : Fv) : x = ⟨x.g, x.f, x.c⟩ := rfl
/-- The part that leads on behind a rune that fits. -/
def ReadPost (q : Nat) (x0 : Fv) (x1 : Fv) (w : World) (e : Ending) (w' : World) : Prop :=
  ∃ b, e = .returned (.func (.func 111) #[] #[ptrV (b + 1), ptrV b, ptrV (b + 2)]) ∧ Whole w' b 71 #[ptrV q] ∧ Whole w' (b + 1) 121 #[x0.v] ∧ Whole w' (b + 2) 75 #[x1.v] ∧ w.heap.size ≤ b ∧ Below w.heap.size w w'
set_option maxHeartbeats 800000 in
theorem dread_any (q : Nat) (x0 : Fv) (x1 : Fv) (w : World) : Calls Try.prog 72 #[ptrV q, x0.v, x1.v] w (ReadPost q x0 x1 w) := by
  obtain ⟨gx0, fx0, cx0⟩ := x0
  obtain ⟨gx1, fx1, cx1⟩ := x1
  have hmf := mkf
  obtain ⟨w2, hw2, k0, k1, k2, hb, hs⟩ := three_new w 71 121 75 (ptrV q) (.func gx0 fx0 cx0) (.func gx1 fx1 cx1)
  have HP := Lib.hid (show ReadPost q ⟨gx0, fx0, cx0⟩ ⟨gx1, fx1, cx1⟩ w _ w2 from ⟨_, rfl, k0, k1, k2, Nat.le_refl _, hb⟩)
  have HW := Lib.hid hw2
  clear k0 k1 k2 hb hs hw2
  go_enter Try.func72, Try.ntmps72
  go_upto_region 1 with (fail)
  rw [HW.out]
  go_wp2_with fail
  go_ret
  exact HP.out
/-- The part that leads on where the place is as it must be. -/
def StandPost (q : Nat) (x0 : Int) (x1 : Fv) (w : World) (e : Ending) (w' : World) : Prop :=
  ∃ b, e = .returned (.func (.func 114) #[] #[ptrV b, ptrV (b + 1), ptrV (b + 2)]) ∧ Whole w' b 71 #[ptrV q] ∧ Whole w' (b + 1) 25 #[.int .i64 x0] ∧ Whole w' (b + 2) 75 #[x1.v] ∧ w.heap.size ≤ b ∧ Below w.heap.size w w'
set_option maxHeartbeats 800000 in
theorem dstand_any (q : Nat) (x0 : Int) (x1 : Fv) (w : World) : Calls Try.prog 76 #[ptrV q, .int .i64 x0, x1.v] w (StandPost q x0 x1 w) := by
  obtain ⟨gx1, fx1, cx1⟩ := x1
  have hmf := mkf
  obtain ⟨w2, hw2, k0, k1, k2, hb, hs⟩ := three_new w 71 25 75 (ptrV q) (.int .i64 x0) (.func gx1 fx1 cx1)
  have HP := Lib.hid (show StandPost q x0 ⟨gx1, fx1, cx1⟩ w _ w2 from ⟨_, rfl, k0, k1, k2, Nat.le_refl _, hb⟩)
  have HW := Lib.hid hw2
  clear k0 k1 k2 hb hs hw2
  go_enter Try.func76, Try.ntmps76
  go_upto_region 1 with (fail)
  rw [HW.out]
  go_wp2_with fail
  go_ret
  exact HP.out
/-- The part that puts a place of a group back. -/
def PutPost (q : Nat) (x0 : Int) (w : World) (e : Ending) (w' : World) : Prop :=
  ∃ b, e = .returned (.func (.func 143) #[] #[ptrV b, ptrV (b + 1)]) ∧ Whole w' b 71 #[ptrV q] ∧ Whole w' (b + 1) 3 #[.int .i64 x0] ∧ w.heap.size ≤ b ∧ Below w.heap.size w w'
set_option maxHeartbeats 800000 in
theorem dput_any (q : Nat) (x0 : Int) (w : World) : Calls Try.prog 116 #[ptrV q, .int .i64 x0] w (PutPost q x0 w) := by
  have hmf := mkf
  obtain ⟨w2, hw2, k0, k1, hb, hs⟩ := dtwo_new w 71 3 (ptrV q) (.int .i64 x0)
  have HP := Lib.hid (show PutPost q x0 w _ w2 from ⟨_, rfl, k0, k1, Nat.le_refl _, hb⟩)
  have HW := Lib.hid hw2
  clear k0 k1 hb hs hw2
  go_enter Try.func116, Try.ntmps116
  go_upto_region 1 with (fail)
  rw [HW.out]
  go_wp2_with fail
  go_ret
  exact HP.out
/-- The part of what may be left out. -/
def QuestPost (q : Nat) (x0 : Bool) (x1 : Fv) (x2 : Fv) (w : World) (e : Ending) (w' : World) : Prop :=
  ∃ b, e = .returned (.func (.func 122) #[] #[ptrV b, ptrV (b + 1), ptrV (b + 2), ptrV (b + 3)]) ∧ Whole w' b 71 #[ptrV q] ∧ Whole w' (b + 1) 4 #[.bool x0] ∧ Whole w' (b + 2) 75 #[x1.v] ∧ Whole w' (b + 3) 75 #[x2.v] ∧ w.heap.size ≤ b ∧ Below w.heap.size w w'
set_option maxHeartbeats 800000 in
theorem dquest_any (q : Nat) (x0 : Bool) (x1 : Fv) (x2 : Fv) (w : World) : Calls Try.prog 80 #[ptrV q, .bool x0, x1.v, x2.v] w (QuestPost q x0 x1 x2 w) := by
  obtain ⟨gx1, fx1, cx1⟩ := x1
  obtain ⟨gx2, fx2, cx2⟩ := x2
  have hmf := mkf
  obtain ⟨w2, hw2, k0, k1, k2, k3, hb, hs⟩ := four_new w 71 4 75 75 (ptrV q) (.bool x0) (.func gx1 fx1 cx1) (.func gx2 fx2 cx2)
  have HP := Lib.hid (show QuestPost q x0 ⟨gx1, fx1, cx1⟩ ⟨gx2, fx2, cx2⟩ w _ w2 from ⟨_, rfl, k0, k1, k2, k3, Nat.le_refl _, hb⟩)
  have HW := Lib.hid hw2
  clear k0 k1 k2 k3 hb hs hw2
  go_enter Try.func80, Try.ntmps80
  go_upto_region 1 with (fail)
  rw [HW.out]
  go_wp2_with fail
  go_ret
  exact HP.out
/-- The part that is laid when it is come to: its box is b, still empty; how it is laid stands in the next box. -/
def LaterPost (x : Fv) (w : World) (e : Ending) (w' : World) : Prop :=
  ∃ b, e = .returned (.func (.func 155) #[] #[ptrV (b + 1), ptrV b]) ∧ Whole w' b 157 #[x.v] ∧ Whole w' (b + 1) 75 #[.nilFunc] ∧ w.heap.size ≤ b ∧ Below w.heap.size w w'
set_option maxHeartbeats 800000 in
theorem dlater_any (x : Fv) (w : World) : Calls Try.prog 144 #[x.v] w (LaterPost x w) := by
  obtain ⟨g, f, c⟩ := x
  have hmf := mkf
  obtain ⟨w2, hw2, k1, k2, hb, hs⟩ := dtwo_new w 157 75 (.func g f c) .nilFunc
  have HP := Lib.hid (show LaterPost ⟨g, f, c⟩ w _ w2 from ⟨_, rfl, k1, k2, Nat.le_refl _, hb⟩)
  have HW := Lib.hid hw2
  clear k1 k2 hb hs hw2
  go_enter Try.func144, Try.ntmps144
  go_upto_region 2 with (fail)
  rw [HW.out]
  go_wp2_with fail
  go_ret
  exact HP.out

/-- The seven fields of what goes the ways. -/
def omC (inp fv lv mv : Value) (p : Int) (ev bv : Value) : Array Value := #[inp, fv, lv, mv, .int .i64 p, ev, bv]
abbrev Om (w : World) (q : Nat) (inp fv lv mv : Value) (p : Int) (ev bv : Value) : Prop := Whole w q 82 (omC inp fv lv mv p ev bv)
/-- The part that is gone on from once at each place: its number is p + 1. -/
def OncePost (q : Nat) (x : Fv) (inp fv lv mv : Value) (p : Int) (ev bv : Value) (w : World) (e : Ending) (w' : World) : Prop :=
  ∃ b, e = .returned (.func (.func 84) #[] #[ptrV b, ptrV (b + 2), ptrV (b + 1)]) ∧ Whole w' b 71 #[ptrV q] ∧ Whole w' (b + 1) 75 #[x.v] ∧ Whole w' (b + 2) 3 #[.int .i64 (p + 1)] ∧
    w.heap.size ≤ b ∧ Om w' q inp fv lv mv (p + 1) ev bv ∧ w.grownBy w' (some q)
theorem grown_below {w w1 w2 : World} {r : Option Nat} (h : Below w.heap.size w w1) (k : w1.grownBy w2 r) : w.grownBy w2 r :=
  ⟨k.os.trans h.os, k.tape.trans h.tape, k.output.trans h.output, Nat.le_trans h.size k.size, fun i hi hr => (k.block i (Nat.lt_of_lt_of_le hi h.size) hr).trans (h.block i hi)⟩
theorem grown_then {w w1 w2 : World} {r : Option Nat} (h : w.grownBy w1 r) (k : Below w1.heap.size w1 w2) : w.grownBy w2 r :=
  ⟨k.os.trans h.os, k.tape.trans h.tape, k.output.trans h.output, Nat.le_trans h.size k.size, fun i hi hr => (k.block i (Nat.lt_of_lt_of_le hi h.size)).trans (h.block i hi hr)⟩
theorem grown_set (w : World) (q i : Nat) (u : Value) : w.grownBy (w.setCell ⟨q, i, none⟩ u) (some q) :=
  ⟨rfl, rfl, rfl, by simp [World.setCell], fun k hk hr => Below.heap_setCell w _ u k (fun e => hr (by rw [e]))⟩
theorem grown_trans {a b c : World} {r : Option Nat} (h : a.grownBy b r) (k : b.grownBy c r) : a.grownBy c r :=
  ⟨k.os.trans h.os, k.tape.trans h.tape, k.output.trans h.output, Nat.le_trans h.size k.size, fun i hi hr => (k.block i (Nat.lt_of_lt_of_le hi h.size) hr).trans (h.block i hi hr)⟩
theorem below_grown {a b : World} {r : Option Nat} (h : Below a.heap.size a b) : a.grownBy b r := ⟨h.os, h.tape, h.output, h.size, fun i hi _ => h.block i hi⟩
theorem om_ten {w : World} {q : Nat} {inp fv lv mv ev bv : Value} {p : Int} (h : Om w q inp fv lv mv p ev bv) :
    w.cell? ⟨q, 0, none⟩ = some inp ∧ w.cell? ⟨q, 1, none⟩ = some fv ∧ w.cell? ⟨q, 2, none⟩ = some lv ∧ w.cell? ⟨q, 3, none⟩ = some mv ∧ w.cell? ⟨q, 4, none⟩ = some (.int .i64 p) ∧ w.cell? ⟨q, 5, none⟩ = some ev ∧ w.cell? ⟨q, 6, none⟩ = some bv :=
  ⟨(h.cell 0).trans rfl, (h.cell 1).trans rfl, (h.cell 2).trans rfl, (h.cell 3).trans rfl, (h.cell 4).trans rfl, (h.cell 5).trans rfl, (h.cell 6).trans rfl⟩
set_option maxHeartbeats 800000 in
theorem donce_any (q : Nat) (x : Fv) (inp fv lv mv : Value) (p : Int) (ev bv : Value) (w : World) (hp0 : 0 ≤ p) (hp : p < 1000000000000) (hO : Om w q inp fv lv mv p ev bv) :
    Calls Try.prog 40 #[ptrV q, x.v] w (OncePost q x inp fv lv mv p ev bv w) := by
  obtain ⟨g, f, c⟩ := x
  have hmf := mkf
  obtain ⟨w2, hw2, k1, k2, hb, hs⟩ := dtwo_new w 71 75 (ptrV q) (.func g f c)
  have hq := hO.lt
  have hO2 := hO.below hb hq
  have h1 : w2.cell? ⟨w.heap.size, 0, none⟩ = some (ptrV q) := (k1.cell 0).trans rfl
  obtain ⟨-, -, -, -, h4, -⟩ := om_ten hO2
  have h4f := hO2.free 4
  have hwr : IntKind.i64.wrap (p + 1) = p + 1 := by simp [IntKind.wrap, IntKind.signed, IntKind.bits]; omega
  obtain ⟨w3, hw3⟩ : ∃ w3, w2.setCell ⟨q, 4, none⟩ (.int .i64 (p + 1)) = w3 := ⟨_, rfl⟩
  have hO3 : Om w3 q inp fv lv mv (p + 1) ev bv := by
    have := hO2.store 4 (.int .i64 (p + 1))
    rw [hw3] at this
    exact this
  have hg3 : w2.grownBy w3 (some q) := by rw [← hw3]; exact grown_set _ _ _ _
  have e1 := k1.grown hg3 (by intro e; have := Option.some.inj e; omega)
  have e2 := k2.grown hg3 (by intro e; have := Option.some.inj e; omega)
  have hs3 : w3.heap.size = w.heap.size + 2 := by rw [← hw3, ← hs]; simp [World.setCell]
  obtain ⟨w4, hw4, k4, hb4, hs4⟩ := new_box w3 3 (.int .i64 (p + 1))
  have c1 : w3.cell? ⟨w.heap.size, 0, none⟩ = some (ptrV q) := (e1.cell 0).trans rfl
  obtain ⟨-, -, -, -, c4, -⟩ := om_ten hO3
  have HP := Lib.hid (show OncePost q ⟨g, f, c⟩ inp fv lv mv p ev bv w _ w4 from ⟨_, rfl, e1.below hb4 e1.lt, e2.below hb4 e2.lt, by rw [hs3] at k4; exact k4, Nat.le_refl _, hO3.below hb4 hO3.lt, grown_then (grown_below hb hg3) hb4⟩)
  have HW2 := Lib.hid hw2; have HW3 := Lib.hid hw3; have HW4 := Lib.hid hw4; have HS3 := Lib.hid hs3
  clear k1 k2 hb hs hw2 hO hq hO2 hw3 hO3 hg3 e1 e2 hs3 hw4 k4 hb4 hs4
  go_enter Try.func40, Try.ntmps40
  go_upto_region 1 with (fail)
  rw [HW2.out]
  go_upto_region 2 with (fail)
  rw [HW3.out]
  go_upto_region 3 with (fail)
  rw [HW4.out, HS3.out]
  go_wp2_with fail
  go_ret
  exact HP.out
end Go.Proofs.Ytnemacejaiifnaa
