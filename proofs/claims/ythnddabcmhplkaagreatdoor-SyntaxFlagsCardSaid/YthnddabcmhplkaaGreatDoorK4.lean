/- Texts merged by program. No condition. -/
import Derived.Test.YthnddabcmhplkaaGreatDoorSh
import Derived.Test.YthnddabcmhplkaaGreatDoorK2
import Derived.Test.YthnddabcmhplkaaGreatDoorK3
set_option maxHeartbeats 1600000
set_option maxRecDepth 100000
set_option linter.unusedVariables false
namespace Go.Proofs.YthnddabcmhplkaaGreatDoor
open Go Go.RowKit
def I32 (x : Int) : Prop := -2147483648 ≤ x ∧ x ≤ 2147483647
def Rgs (w : World) (v : Value) (l : List (Int × Int)) : Prop :=
 ∃ a c,v = .slice a l.length c ∧ l.length ≤ c ∧ c ≤ maxLen ∧ (a = none → c = 0) ∧
  (l = [] ∨ ∃ b o,a = some ⟨b,o,none⟩ ∧ ∀ i (h : i < l.length),w.cell? ⟨b,o + i * 2,none⟩ = some (.int .i32 l[i].1) ∧ w.cell? ⟨b,o + i * 2 + 1,none⟩ = some (.int .i32 l[i].2)) ∧
  ∀ r ∈ l,I32 r.1 ∧ I32 r.2
theorem Rgs.below {w w' : World} {v : Value} {l : List (Int × Int)} (h : Rgs w v l) (hb : Below w.heap.size w w') : Rgs w' v l := by
 obtain ⟨a,c,h1,h2,h3,h4,h5,h6⟩ := h
 refine ⟨a,c,h1,h2,h3,h4,?_,h6⟩
 rcases h5 with h5 | ⟨b,o,e,hc⟩
 ·exact .inl h5
 ·exact .inr ⟨b,o,e,fun i hi => ⟨(hb.cell (World.block_lt_of_cell? w _ (hc i hi).1)).trans (hc i hi).1,(hb.cell (World.block_lt_of_cell? w _ (hc i hi).2)).trans (hc i hi).2⟩⟩
theorem below_drewNr {B : Nat} {a w : World} (h : Below B a w) : ∀ q,Below B a (w.drewN q)
 | 0 => h
 | q + 1 => (below_drewNr h q).drew
def Says (P : Prop) (w : World) (e : Ending) (w' : World) : Prop := ∃ B : Bool,e = .returned (.bool B) ∧ (B = true ↔ P) ∧ ∃ q,w' = w.drewN q
theorem right_split (l : List (Int × Int)) (m : Nat) (h : m < l.length) : RightR (l.take (m + 1)) ↔ RightR (l.take m) ∧ (endOf 0 (l.take m) ≤ l[m].1 ∧ l[m].1 ≤ l[m].2 ∧ l[m].2 ≤ 1114111) := by
 rw [List.take_succ_eq_append_getElem h]
 unfold RightR
 rw [right_append]
 simp [RightFrom]
theorem right_part (l : List (Int × Int)) (m : Nat) (h : RightR l) : RightR (l.take m) := by
 rw [← List.take_append_drop m l] at h
 exact ((right_append _ _ _).1 h).1
theorem end_take (l : List (Int × Int)) (m : Nat) (h : m + 1 ≤ l.length) : endOf 0 (l.take (m + 1)) = l[m].2 + 2 := by
 rw [List.take_succ_eq_append_getElem h,end_append]
theorem rgs_at {w : World} {b o : Nat} {l : List (Int × Int)} (hc : ∀ i (h : i < l.length),w.cell? ⟨b,o + i * 2,none⟩ = some (.int .i32 l[i].1) ∧ w.cell? ⟨b,o + i * 2 + 1,none⟩ = some (.int .i32 l[i].2)) (m : Nat) (h : m < l.length) :
  ∃ y1 y2,l[m]? = some (y1,y2) ∧ l.take (m + 1) = l.take m ++ [(y1,y2)] ∧ w.cell? ⟨b,o + m * 2,none⟩ = some (.int .i32 y1) ∧ w.cell? ⟨b,o + m * 2 + 1,none⟩ = some (.int .i32 y2) :=
 ⟨l[m].1,l[m].2,by simp [h],List.take_succ_eq_append_getElem h,(hc m h).1,(hc m h).2⟩
structure Fld where
 op : Int
 rune : Int
 set : List (Int × Int)
 at' : Int
 cap : Int
 name : ByteArray
 min : Int
 max : Int
 lazy : Bool
inductive Tr where
 | mk (f : Fld) (ks : List Tr)
def Tr.fld : Tr → Fld
 | .mk f _ => f
def Tr.kids : Tr → List Tr
 | .mk _ ks => ks
theorem Tr.lt {t : Tr} {k : Tr} (h : k ∈ t.kids) : SizeOf.sizeOf k < SizeOf.sizeOf t := by
 cases t with
 | mk f ks =>
  have := List.sizeOf_lt_of_mem (show k ∈ ks from h)
  simp only [Tr.mk.sizeOf_spec]
  omega
theorem Tr.ind {P : Tr → Prop} (h : ∀ t : Tr,(∀ k ∈ t.kids,P k) → P t) (t : Tr) : P t := by
 suffices hs : ∀ n,∀ t : Tr,SizeOf.sizeOf t < n → P t from hs _ t (Nat.lt_succ_self _)
 intro n
 induction n with
 | zero => intro t ht;omega
 | succ n ih => exact fun t ht => h t fun k hk => ih k (by have := Tr.lt hk;omega)
def I64 (x : Int) : Prop := -9223372036854775808 ≤ x ∧ x ≤ 9223372036854775807
def FldOk (f : Fld) : Prop := I64 f.op ∧ I32 f.rune ∧ I64 f.at' ∧ I64 f.cap ∧ I64 f.min ∧ I64 f.max ∧ f.name.size ≤ 4503599627370496 ∧ f.set.length ≤ 17592186044416
def treC (f : Fld) (kv sv : Value) : Array Value := #[.int .i64 f.op,kv,.int .i32 f.rune,sv,.int .i64 f.at',.int .i64 f.cap,.string f.name,.int .i64 f.min,.int .i64 f.max,.bool f.lazy]
theorem treC_size (f : Fld) (kv sv : Value) : (treC f kv sv).size = 10 := rfl
def CellsAt (w : World) (b o : Nat) (cs : Array Value) : Prop := ∀ j (h : j < cs.size),w.cell? ⟨b,o + j,none⟩ = some cs[j]
theorem CellsAt.below {w w' : World} {b o : Nat} {cs : Array Value} (h : CellsAt w b o cs) (hb : Below w.heap.size w w') : CellsAt w' b o cs :=
 fun j hj => (hb.cell (World.block_lt_of_cell? w _ (h j hj))).trans (h j hj)
def Foot (F : Nat → Prop) (v : Value) (l : List (Int × Int)) : Prop := l = [] ∨ ∀ b,v.ownBlock = some b → F b
def TreF (F : Nat → Prop) (w : World) (t : Tr) (v : Value) : Prop :=
 ∃ (A : Option Addr) (c : Nat) (sv : Value),v = .agg (treC t.fld (.slice A t.kids.length c) sv) ∧ (Rgs w sv t.fld.set ∧ Foot F sv t.fld.set) ∧ FldOk t.fld ∧ t.kids.length ≤ c ∧ c ≤ maxLen ∧ t.kids.length ≤ 1172812402961 ∧ (A = none → c = 0) ∧
  (t.kids = [] ∨ ∃ b o,A = some ⟨b,o,none⟩ ∧ F b ∧ ∀ (i : Nat) (h : i < t.kids.length),∃ cs : Array Value,CellsAt w b (o + i * 10) cs ∧ TreF F w (t.kids[i]) (.agg cs))
termination_by SizeOf.sizeOf t
decreasing_by exact Tr.lt (List.getElem_mem h)
def KdsF (F : Nat → Prop) (w : World) (ks : List Tr) (v : Value) : Prop :=
 ∃ (A : Option Addr) (c : Nat),v = .slice A ks.length c ∧ ks.length ≤ c ∧ c ≤ maxLen ∧ ks.length ≤ 1172812402961 ∧ (A = none → c = 0) ∧
  (ks = [] ∨ ∃ b o,A = some ⟨b,o,none⟩ ∧ F b ∧ ∀ (i : Nat) (h : i < ks.length),∃ cs : Array Value,CellsAt w b (o + i * 10) cs ∧ TreF F w (ks[i]) (.agg cs))
theorem treF_iff (F : Nat → Prop) (w : World) (t : Tr) (v : Value) : TreF F w t v ↔ ∃ kv sv,v = .agg (treC t.fld kv sv) ∧ (Rgs w sv t.fld.set ∧ Foot F sv t.fld.set) ∧ FldOk t.fld ∧ KdsF F w t.kids kv := by
 rw [TreF]
 constructor
 ·rintro ⟨A,c,sv,h1,h2,h3,h4,h5,h8,h6,h7⟩
  exact ⟨_,sv,h1,h2,h3,A,c,rfl,h4,h5,h8,h6,h7⟩
 ·rintro ⟨kv,sv,h1,h2,h3,A,c,rfl,h4,h5,h8,h6,h7⟩
  exact ⟨A,c,sv,h1,h2,h3,h4,h5,h8,h6,h7⟩
def SameOn (F : Nat → Prop) (w w' : World) : Prop := ∀ b,F b → b < w.heap.size → w'.heap[b]? = w.heap[b]?
theorem SameOn.cell {F : Nat → Prop} {w w' : World} (h : SameOn F w w') {b o : Nat} {u : Value} (hF : F b) (hc : w.cell? ⟨b,o,none⟩ = some u) : w'.cell? ⟨b,o,none⟩ = some u := by
 have := h b hF (World.block_lt_of_cell? w _ hc)
 rw [← hc]
 simp [World.cell?,this]
theorem CellsAt.same {F : Nat → Prop} {w w' : World} {b o : Nat} {cs : Array Value} (h : CellsAt w b o cs) (hs : SameOn F w w') (hF : F b) : CellsAt w' b o cs := fun j hj => hs.cell hF (h j hj)
theorem rgs_same {F G : Nat → Prop} {w w' : World} {v : Value} {l : List (Int × Int)} (h : Rgs w v l) (hf : Foot F v l) (hs : SameOn F w w') (hFG : ∀ b,F b → b < w.heap.size → G b) : Rgs w' v l ∧ Foot G v l := by
 obtain ⟨a,c,h1,h2,h3,h4,h5,h6⟩ := h
 rcases h5 with h5 | ⟨b,o,e,hc⟩
 ·exact ⟨⟨a,c,h1,h2,h3,h4,.inl h5,h6⟩,.inl h5⟩
 ·by_cases hl : l = []
  ·exact ⟨⟨a,c,h1,h2,h3,h4,.inl hl,h6⟩,.inl hl⟩
  ·have hb : F b := (hf.resolve_left hl) b (by rw [h1,e];rfl)
   have hlt : b < w.heap.size := by
    have h0 : 0 < l.length := List.length_pos_iff.2 hl
    exact World.block_lt_of_cell? w _ (hc 0 h0).1
   refine ⟨⟨a,c,h1,h2,h3,h4,.inr ⟨b,o,e,fun i hi => ⟨hs.cell hb (hc i hi).1,hs.cell hb (hc i hi).2⟩⟩,h6⟩,.inr fun b' hb' => ?_⟩
   rw [h1,e] at hb'
   have : b = b' := by simpa [Value.ownBlock] using hb'
   rw [← this]
   exact hFG b hb hlt
theorem TreF.same' {F G : Nat → Prop} {w w' : World} (hs : SameOn F w w') (hFG : ∀ b,F b → b < w.heap.size → G b) (t : Tr) : ∀ v,TreF F w t v → TreF G w' t v := by
 refine Tr.ind (P := fun t => ∀ v,TreF F w t v → TreF G w' t v) (fun t ih v h => ?_) t
 rw [treF_iff] at h ⊢
 obtain ⟨kv,sv,h1,h2,h3,A,c,k1,k2,k3,k4,k5,k6⟩ := h
 refine ⟨kv,sv,h1,rgs_same h2.1 h2.2 hs hFG,h3,A,c,k1,k2,k3,k4,k5,?_⟩
 by_cases hk : t.kids = []
 ·exact .inl hk
 rcases k6 with k6 | ⟨b,o,e,hF,hc⟩
 ·exact .inl k6
 ·have h0 : 0 < t.kids.length := List.length_pos_iff.2 hk
  have hlt : b < w.heap.size := by
   obtain ⟨cs,q1,q2⟩ := hc 0 h0
   rw [treF_iff] at q2
   obtain ⟨kv',sv',q3,-⟩ := q2
   injection q3 with q3
   subst q3
   exact World.block_lt_of_cell? w _ (q1 0 (Nat.lt_of_lt_of_eq (by omega) (treC_size _ _ _).symm))
  refine .inr ⟨b,o,e,hFG b hF hlt,fun i hi => ?_⟩
  obtain ⟨cs,q1,q2⟩ := hc i hi
  exact ⟨cs,q1.same hs hF,ih _ (List.getElem_mem hi) _ q2⟩
theorem TreF.same {F G : Nat → Prop} {w w' : World} {t : Tr} {v : Value} (h : TreF F w t v) (hs : SameOn F w w') (hFG : ∀ b,F b → b < w.heap.size → G b) : TreF G w' t v := TreF.same' hs hFG t v h
def Tre (w : World) (t : Tr) (v : Value) : Prop := TreF (fun _ => True) w t v
def Kds (w : World) (ks : List Tr) (v : Value) : Prop := KdsF (fun _ => True) w ks v
theorem same_below {F : Nat → Prop} {w w' : World} (hb : Below w.heap.size w w') : SameOn F w w' := fun b _ h => hb.block b h
theorem TreF.tre {F : Nat → Prop} {w : World} {t : Tr} {v : Value} (h : TreF F w t v) : Tre w t v := h.same (fun _ _ _ => rfl) fun _ _ _ => trivial
theorem tre_iff (w : World) (t : Tr) (v : Value) : Tre w t v ↔ ∃ kv sv,v = .agg (treC t.fld kv sv) ∧ Rgs w sv t.fld.set ∧ FldOk t.fld ∧ Kds w t.kids kv := by
 unfold Tre
 rw [treF_iff]
 constructor
 ·rintro ⟨kv,sv,h1,h2,h3,h4⟩
  exact ⟨kv,sv,h1,h2.1,h3,h4⟩
 ·rintro ⟨kv,sv,h1,h2,h3,h4⟩
  exact ⟨kv,sv,h1,⟨h2,.inr fun _ _ => trivial⟩,h3,h4⟩
theorem Tre.below {w w' : World} {t : Tr} {v : Value} (h : Tre w t v) (hb : Below w.heap.size w w') : Tre w' t v := TreF.same h (same_below hb) fun _ _ _ => trivial
theorem KdsF.same {F G : Nat → Prop} {w w' : World} {ks : List Tr} {v : Value} (h : KdsF F w ks v) (hs : SameOn F w w') (hFG : ∀ b,F b → b < w.heap.size → G b) : KdsF G w' ks v := by
 obtain ⟨A,c,k1,k2,k3,k4,k5,k6⟩ := h
 refine ⟨A,c,k1,k2,k3,k4,k5,?_⟩
 by_cases hk : ks = []
 ·exact .inl hk
 rcases k6 with k6 | ⟨b,o,e,hF,hc⟩
 ·exact .inl k6
 ·have h0 : 0 < ks.length := List.length_pos_iff.2 hk
  have hlt : b < w.heap.size := by
   obtain ⟨cs,q1,q2⟩ := hc 0 h0
   rw [treF_iff] at q2
   obtain ⟨kv',sv',q3,-⟩ := q2
   injection q3 with q3
   subst q3
   exact World.block_lt_of_cell? w _ (q1 0 (Nat.lt_of_lt_of_eq (by omega) (treC_size _ _ _).symm))
  refine .inr ⟨b,o,e,hFG b hF hlt,fun i hi => ?_⟩
  obtain ⟨cs,q1,q2⟩ := hc i hi
  exact ⟨cs,q1.same hs hF,q2.same hs hFG⟩
theorem Kds.below {w w' : World} {ks : List Tr} {v : Value} (h : Kds w ks v) (hb : Below w.heap.size w w') : Kds w' ks v := KdsF.same h (same_below hb) fun _ _ _ => trivial
theorem Kds.at' {w : World} {ks : List Tr} {A : Option Addr} {n c : Nat} (h : Kds w ks (.slice A n c)) (i : Nat) (hi : i < ks.length) :
  ∃ b o,A = some ⟨b,o,none⟩ ∧ n = ks.length ∧ ∃ kv sv,CellsAt w b (o + i * 10) (treC (ks[i]).fld kv sv) ∧ Tre w (ks[i]) (.agg (treC (ks[i]).fld kv sv)) := by
 obtain ⟨A',c',e,h2,h3,-,h4,h5⟩ := h
 injection e with e1 e2 e3
 subst e1 e2 e3
 rcases h5 with h5 | ⟨b,o,e,-,hc⟩
 ·rw [h5] at hi
  simp at hi
 ·obtain ⟨cs,k1,k2⟩ := hc i hi
  have k3 : Tre w ks[i] (.agg cs) := k2
  rw [tre_iff] at k3
  obtain ⟨kv,sv,k4,-⟩ := k3
  injection k4 with k4
  subst k4
  exact ⟨b,o,e,rfl,kv,sv,k1,k2⟩
theorem CellsAt.ten {w : World} {b o : Nat} {f : Fld} {kv sv : Value} (h : CellsAt w b o (treC f kv sv)) :
  w.cell? ⟨b,o,none⟩ = some (.int .i64 f.op) ∧ w.cell? ⟨b,o + 1,none⟩ = some kv ∧ w.cell? ⟨b,o + 2,none⟩ = some (.int .i32 f.rune) ∧ w.cell? ⟨b,o + 3,none⟩ = some sv ∧ w.cell? ⟨b,o + 4,none⟩ = some (.int .i64 f.at') ∧
  w.cell? ⟨b,o + 5,none⟩ = some (.int .i64 f.cap) ∧ w.cell? ⟨b,o + 6,none⟩ = some (.string f.name) ∧ w.cell? ⟨b,o + 7,none⟩ = some (.int .i64 f.min) ∧ w.cell? ⟨b,o + 8,none⟩ = some (.int .i64 f.max) ∧ w.cell? ⟨b,o + 9,none⟩ = some (.bool f.lazy) :=
 ⟨h 0 (Nat.lt_of_lt_of_eq (by omega) (treC_size f kv sv).symm),h 1 (Nat.lt_of_lt_of_eq (by omega) (treC_size f kv sv).symm),h 2 (Nat.lt_of_lt_of_eq (by omega) (treC_size f kv sv).symm),h 3 (Nat.lt_of_lt_of_eq (by omega) (treC_size f kv sv).symm),h 4 (Nat.lt_of_lt_of_eq (by omega) (treC_size f kv sv).symm),h 5 (Nat.lt_of_lt_of_eq (by omega) (treC_size f kv sv).symm),h 6 (Nat.lt_of_lt_of_eq (by omega) (treC_size f kv sv).symm),h 7 (Nat.lt_of_lt_of_eq (by omega) (treC_size f kv sv).symm),h 8 (Nat.lt_of_lt_of_eq (by omega) (treC_size f kv sv).symm),h 9 (Nat.lt_of_lt_of_eq (by omega) (treC_size f kv sv).symm)⟩
theorem Tre.parts {w : World} {t : Tr} {v : Value} (h : Tre w t v) : ∃ kv sv,v = .agg (treC t.fld kv sv) ∧ Rgs w sv t.fld.set ∧ FldOk t.fld ∧ Kds w t.kids kv := (tre_iff w t v).1 h
theorem Tre.opened {w : World} {t : Tr} {v : Value} (h : Tre w t v) : ∃ (A : Option Addr) (n c : Nat) (a2 : Option Addr) (s c2 : Nat),t.kids.length = n ∧ t.fld.set.length = s ∧
  v = .agg #[.int .i64 t.fld.op,.slice A n c,.int .i32 t.fld.rune,.slice a2 s c2,.int .i64 t.fld.at',.int .i64 t.fld.cap,.string t.fld.name,.int .i64 t.fld.min,.int .i64 t.fld.max,.bool t.fld.lazy] ∧
  n ≤ 1172812402961 ∧ s ≤ 17592186044416 ∧ Kds w t.kids (.slice A n c) ∧ Rgs w (.slice a2 s c2) t.fld.set ∧ FldOk t.fld := by
 obtain ⟨kv,sv,rfl,hS,hF,hK⟩ := h.parts
 have hS' := hS
 have hK' := hK
 obtain ⟨A,c,rfl,-,-,hk1,-⟩ := hK
 obtain ⟨a2,c2,rfl,-⟩ := hS
 exact ⟨A,_,c,a2,_,c2,rfl,rfl,rfl,hk1,hF.2.2.2.2.2.2.2,hK',hS',hF⟩
theorem cellsAt_new (w : World) (cs : Array Value) (t : TypeId) : CellsAt (w.alloc (.cells cs t)) w.heap.size 0 cs := fun j hj => by
 rw [World.cell?_alloc_at _ _ _ _ rfl,Nat.zero_add,Array.getElem?_eq_getElem hj]
def Box10 (W : World) (b : Nat) (x0 x1 x2 x3 x4 x5 x6 x7 x8 x9 : Value) : Prop :=
 W.cell? ⟨b,0,none⟩ = some x0 ∧ W.cell? ⟨b,1,none⟩ = some x1 ∧ W.cell? ⟨b,2,none⟩ = some x2 ∧ W.cell? ⟨b,3,none⟩ = some x3 ∧ W.cell? ⟨b,4,none⟩ = some x4 ∧
  W.cell? ⟨b,5,none⟩ = some x5 ∧ W.cell? ⟨b,6,none⟩ = some x6 ∧ W.cell? ⟨b,7,none⟩ = some x7 ∧ W.cell? ⟨b,8,none⟩ = some x8 ∧ W.cell? ⟨b,9,none⟩ = some x9
theorem box10_new (w : World) (t : TypeId) (x0 x1 x2 x3 x4 x5 x6 x7 x8 x9 : Value) : Box10 (w.alloc (.cells #[x0,x1,x2,x3,x4,x5,x6,x7,x8,x9] t)) w.heap.size x0 x1 x2 x3 x4 x5 x6 x7 x8 x9 := by
 have h := cellsAt_new w #[x0,x1,x2,x3,x4,x5,x6,x7,x8,x9] t
 have g : ∀ j (hj : j < 10),(w.alloc (.cells #[x0,x1,x2,x3,x4,x5,x6,x7,x8,x9] t)).cell? ⟨w.heap.size,j,none⟩ = #[x0,x1,x2,x3,x4,x5,x6,x7,x8,x9][j]? := fun j hj => by
  have := h j hj
  rw [Nat.zero_add] at this
  rw [this,Array.getElem?_eq_getElem]
 exact ⟨g 0 (by omega),g 1 (by omega),g 2 (by omega),g 3 (by omega),g 4 (by omega),g 5 (by omega),g 6 (by omega),g 7 (by omega),g 8 (by omega),g 9 (by omega)⟩
theorem Box10.below {w w' : World} {b : Nat} {x0 x1 x2 x3 x4 x5 x6 x7 x8 x9 : Value} (h : Box10 w b x0 x1 x2 x3 x4 x5 x6 x7 x8 x9) (hb : Below w.heap.size w w') : Box10 w' b x0 x1 x2 x3 x4 x5 x6 x7 x8 x9 := by
 obtain ⟨h0,h1,h2,h3,h4,h5,h6,h7,h8,h9⟩ := h
 have g : ∀ j u,w.cell? ⟨b,j,none⟩ = some u → w'.cell? ⟨b,j,none⟩ = some u := fun j u hu => (hb.cell (World.block_lt_of_cell? w _ hu)).trans hu
 exact ⟨g 0 _ h0,g 1 _ h1,g 2 _ h2,g 3 _ h3,g 4 _ h4,g 5 _ h5,g 6 _ h6,g 7 _ h7,g 8 _ h8,g 9 _ h9⟩
def Kid10 (W : World) (b o : Nat) (x0 x1 x2 x3 x4 x5 x6 x7 x8 x9 : Value) : Prop :=
 W.cell? ⟨b,o,none⟩ = some x0 ∧ W.cell? ⟨b,o + 1,none⟩ = some x1 ∧ W.cell? ⟨b,o + 2,none⟩ = some x2 ∧ W.cell? ⟨b,o + 3,none⟩ = some x3 ∧ W.cell? ⟨b,o + 4,none⟩ = some x4 ∧
  W.cell? ⟨b,o + 5,none⟩ = some x5 ∧ W.cell? ⟨b,o + 6,none⟩ = some x6 ∧ W.cell? ⟨b,o + 7,none⟩ = some x7 ∧ W.cell? ⟨b,o + 8,none⟩ = some x8 ∧ W.cell? ⟨b,o + 9,none⟩ = some x9
theorem Kds.kid {w : World} {ks : List Tr} {A : Option Addr} {n c : Nat} (h : Kds w ks (.slice A n c)) (k : Nat) (hk : k < ks.length) :
  ∃ (b o : Nat) (tk : Tr) (kv sv : Value),A = some ⟨b,o,none⟩ ∧ ks[k] = tk ∧ tk ∈ ks ∧
   Kid10 w b (o + k * 10) (.int .i64 tk.fld.op) kv (.int .i32 tk.fld.rune) sv (.int .i64 tk.fld.at') (.int .i64 tk.fld.cap) (.string tk.fld.name) (.int .i64 tk.fld.min) (.int .i64 tk.fld.max) (.bool tk.fld.lazy) ∧
   Tre w tk (.agg #[.int .i64 tk.fld.op,kv,.int .i32 tk.fld.rune,sv,.int .i64 tk.fld.at',.int .i64 tk.fld.cap,.string tk.fld.name,.int .i64 tk.fld.min,.int .i64 tk.fld.max,.bool tk.fld.lazy]) := by
 obtain ⟨b,o,hA,-,kv,sv,hC,hT⟩ := h.at' k hk
 exact ⟨b,o,ks[k],kv,sv,hA,rfl,List.getElem_mem hk,hC.ten,hT⟩
theorem below_two {w W W' : World} (h : Below w.heap.size w W) (k : Below W.heap.size W W') : Below w.heap.size w W' := h.trans (k.mono h.size)
def Tr.para {α : Type} (f : Tr → List α → α) (t : Tr) : α := f t (t.kids.attach.map fun k => Tr.para f k.1)
termination_by SizeOf.sizeOf t
decreasing_by exact Tr.lt k.2
theorem Tr.para_eq {α : Type} (f : Tr → List α → α) (t : Tr) : t.para f = f t (t.kids.map (Tr.para f)) := by
 rw [Tr.para]
 congr 1
 exact List.attach_map_val
def partsR : Tr → Nat := Tr.para fun t l => 1 + t.fld.set.length + l.sum
theorem partsR_eq (t : Tr) : partsR t = 1 + t.fld.set.length + (t.kids.map partsR).sum := Tr.para_eq _ t
theorem sum_mem_le : ∀ {l : List Nat} {x : Nat},x ∈ l → x ≤ l.sum
 | y :: l,x,h => by
  rcases List.mem_cons.1 h with rfl | h
  ·simp
  ·have := sum_mem_le h
   simp
   omega
theorem partsR_kid {t k : Tr} (h : k ∈ t.kids) : partsR k < partsR t := by
 rw [partsR_eq t]
 have := sum_mem_le (List.mem_map_of_mem (f := partsR) h)
 omega
def maxL : List Nat → Nat
 | [] => 0
 | x :: l => max x (maxL l)
theorem maxL_append (a b : List Nat) : maxL (a ++ b) = max (maxL a) (maxL b) := by
 induction a with
 | nil => simp [maxL]
 | cons x a ih => rw [List.cons_append,maxL,maxL,ih,Nat.max_assoc]
def depthR : Tr → Nat := Tr.para fun _ l => maxL l + 1
theorem depthR_eq (t : Tr) : depthR t = maxL (t.kids.map depthR) + 1 := Tr.para_eq _ t
theorem maxL_le {l : List Nat} {n : Nat} (h : ∀ x ∈ l,x ≤ n) : maxL l ≤ n := by
 induction l with
 | nil => simp [maxL]
 | cons x l ih =>
  rw [maxL]
  have h1 := h x (by simp)
  have h2 := ih fun y hy => h y (by simp [hy])
  omega
def clipR (n : Nat) : Nat := min n 4001
def weightN (f : Fld) (m n : Nat) : Nat :=
 if f.op = 6 then clipR (2 + n) else if f.op = 7 ∨ f.op = 8 ∨ f.op = 9 ∨ f.op = 11 then clipR (1 + n) else
 if f.op = 10 then clipR ((clipR (max (max f.min f.max) 1).toNat) * n + clipR (max (max f.min f.max) 1).toNat + 1) else if f.op = 12 then clipR (n + clipR m) else 1
def weightR : Tr → Nat := Tr.para fun t l => weightN t.fld t.kids.length (clipR l.sum)
theorem weightR_eq (t : Tr) : weightR t = weightN t.fld t.kids.length (clipR (t.kids.map weightR).sum) := Tr.para_eq _ t
theorem weightN_le (f : Fld) (m n : Nat) : weightN f m n ≤ 4001 := by
 unfold weightN clipR
 split
 ·omega
 ·split
  ·omega
  ·split
   ·exact Nat.min_le_right _ _
   ·split <;> omega
theorem weightR_le (t : Tr) : weightR t ≤ 4001 := by rw [weightR_eq];exact weightN_le _ _ _
def SaysN (n : Nat) (w : World) (e : Ending) (w' : World) : Prop := e = .returned (.int .i64 n) ∧ Below w.heap.size w w'
theorem rsame_any (v u : Value) (l k : List (Int × Int)) (w : World) (h : Rgs w v l) (g : Rgs w u k) :
  Calls Tryz.prog 10 #[v,u] w (Says (l = k) w) := by
 obtain ⟨a,c,rfl,h2,h3,h4,h5,h6⟩ := h
 obtain ⟨a',c',rfl,g2,g3,g4,g5,g6⟩ := g
 have hlen : l.length ≤ 9223372036854775807 := by unfold maxLen at h3;omega
 have hlen' : k.length ≤ 9223372036854775807 := by unfold maxLen at g3;omega
 have H5 := Hd h5;have G5 := Hd g5
 clear h5 h6 h4 h2 h3 g5 g6 g4 g2 g3
 go_enter Tryz.func10,Tryz.ntmps10
 by_cases hk : l.length = k.length
 ·have HK := Hd hk
  rw [← hk]
  clear hk
  go_wp2
  go_loopw [5] (fun i wr => ∃ m : Nat,m ≤ l.length ∧ i = .int .i64 m ∧ (∃ q,wr = w.drewN q) ∧ l.take m = k.take m) (fun i _ => l.length - (intOf i).toNat)
  case atStart => exact ⟨0,Nat.zero_le _,rfl,⟨0,rfl⟩,rfl⟩
  case round =>
   obtain ⟨m,hm,rfl,⟨q,rfl⟩,hR⟩ := hrel
   have HR := Hd hR
   clear hR
   by_cases hlt : m < l.length
   ·have hltk : m < k.length := by rw [← HK.out];exact hlt
    rcases H5.out with h5 | ⟨b,o,rfl,hc⟩
    ·rw [h5] at hlt
     simp at hlt
    rcases G5.out with g5 | ⟨b',o',rfl,hc'⟩
    ·rw [g5] at hltk
     simp at hltk
    obtain ⟨y1,y2,hy,hsp,c1,c2⟩ := rgs_at hc m hlt
    obtain ⟨z1,z2,hz,hsk,d1,d2⟩ := rgs_at hc' m hltk
    have hne : (y1,y2) ≠ (z1,z2) → l ≠ k := fun h e => h (by rw [e,hz] at hy;exact (Option.some.inj hy).symm)
    have HS := Hd hsp;have HT := Hd hsk;have HN := Hd hne
    clear hsp hsk hne hc hc' hy hz hltk
    have hltz : (m : Int) < (l.length : Int) := by omega
    by_cases q1 : y1 = z1
    ·subst q1
     by_cases q2 : y2 = z2
     ·subst q2
      go_wp2_with fail
      go_big_quiet (fail)
      go_wp2
      go_roundw
      case rel => exact ⟨m + 1,by omega,by go_num,⟨_,by first | with_reducible rfl | exact World.drewN_drewN _ _ _⟩,by rw [HS.out,HT.out,HR.out]⟩
      case measure => simp [intOf];omega
     ·go_wp2_with fail
      go_big_quiet (fail)
      go_wp2
      go_ret
      refine ⟨false,rfl,?_,⟨_,World.drewN_drewN _ _ _⟩⟩
      have := HN.out (by simp [q2])
      simp [this]
    ·go_wp2_with fail
     go_big_quiet (fail)
     go_wp2
     go_ret
     refine ⟨false,rfl,?_,⟨_,World.drewN_drewN _ _ _⟩⟩
     have := HN.out (by simp [q1])
     simp [this]
   ·have e : l.take m = l := List.take_of_length_le (by omega)
    have e' : k.take m = k := List.take_of_length_le (by rw [← HK.out];omega)
    have hr := HR.out
    rw [e,e'] at hr
    have HRR := Hd hr
    clear hr e e'
    go_wp2
    go_ret
    exact ⟨true,rfl,by simp [HRR.out],q,rfl⟩
 ·have hkz : ((l.length : Int) != (k.length : Int)) = true := by simp;omega
  have hkn : (l.length != k.length) = true := by simp;exact hk
  have hkb : (l.length == k.length) = false := by simp;exact hk
  have hkd : decide (l.length = k.length) = false := decide_eq_false hk
  go_wp2
  go_ret
  exact ⟨false,rfl,by simp;intro e;exact hk (by rw [e]),0,rfl⟩
end Go.Proofs.YthnddabcmhplkaaGreatDoor
