/- Texts merged by program: Rgs, Tr, TrSpec, TrDepth, RRight, TrParts, TAt. No condition. -/
import Derived.Test.YtnemacejaiifnaaQ2
import Derived.Test.YtnemacejaiifnaaQ3
import Derived.Test.YtnemacejaiifnaaProg
import Derived.Below
import Derived.Deep.QuietTactic
import Derived.BigQuiet
set_option linter.unusedVariables false
/- Lists of ranges in memory. -/
namespace Go.Proofs.Ytnemacejaiifnaa
open Go Go.RowKit

def I32 (x : Int) : Prop := -2147483648 ≤ x ∧ x ≤ 2147483647
/-- The slice value v holds the ranges l. -/
def Rgs (w : World) (v : Value) (l : List (Int × Int)) : Prop :=
  ∃ a c, v = .slice a l.length c ∧ l.length ≤ c ∧ c ≤ maxLen ∧ (a = none → c = 0) ∧
    (l = [] ∨ ∃ b o, a = some ⟨b, o, none⟩ ∧ ∀ i (h : i < l.length), w.cell? ⟨b, o + i * 2, none⟩ = some (.int .i32 l[i].1) ∧ w.cell? ⟨b, o + i * 2 + 1, none⟩ = some (.int .i32 l[i].2)) ∧
    ∀ r ∈ l, I32 r.1 ∧ I32 r.2
theorem Rgs.below {w w' : World} {v : Value} {l : List (Int × Int)} (h : Rgs w v l) (hb : Below w.heap.size w w') : Rgs w' v l := by
  obtain ⟨a, c, h1, h2, h3, h4, h5, h6⟩ := h
  refine ⟨a, c, h1, h2, h3, h4, ?_, h6⟩
  rcases h5 with h5 | ⟨b, o, e, hc⟩
  · exact .inl h5
  · exact .inr ⟨b, o, e, fun i hi => ⟨(hb.cell (World.block_lt_of_cell? w _ (hc i hi).1)).trans (hc i hi).1, (hb.cell (World.block_lt_of_cell? w _ (hc i hi).2)).trans (hc i hi).2⟩⟩
theorem below_drewNr {B : Nat} {a w : World} (h : Below B a w) : ∀ q, Below B a (w.drewN q)
  | 0 => h
  | q + 1 => (below_drewNr h q).drew

/-- A bool that says P; the world is as it was but for draws. -/
def Says (P : Prop) (w : World) (e : Ending) (w' : World) : Prop := ∃ B : Bool, e = .returned (.bool B) ∧ (B = true ↔ P) ∧ ∃ q, w' = w.drewN q

theorem right_split (l : List (Int × Int)) (m : Nat) (h : m < l.length) : RightR (l.take (m + 1)) ↔ RightR (l.take m) ∧ (endOf 0 (l.take m) ≤ l[m].1 ∧ l[m].1 ≤ l[m].2 ∧ l[m].2 ≤ 1114111) := by
  rw [List.take_succ_eq_append_getElem h]
  unfold RightR
  rw [right_append]
  simp [RightFrom]
theorem right_part (l : List (Int × Int)) (m : Nat) (h : RightR l) : RightR (l.take m) := by
  rw [← List.take_append_drop m l] at h
  exact ((right_append _ _ _).1 h).1
theorem end_take (l : List (Int × Int)) (m : Nat) (h : m + 1 ≤ l.length) : endOf 0 (l.take (m + 1)) = l[m].2 + 2 := by
  rw [List.take_succ_eq_append_getElem h, end_append]

theorem end_nonneg : ∀ (l : List (Int × Int)) (lo : Int), 0 ≤ lo → RightFrom lo l → 0 ≤ endOf lo l
  | [], _, h, _ => h
  | r :: l, lo, h, ⟨h1, h2, h3, h4⟩ => end_nonneg l (r.2 + 2) (by omega) h4

theorem has_split (l : List (Int × Int)) (m : Nat) (h : m < l.length) (c : Int) : HasR (l.take (m + 1)) c ↔ HasR (l.take m) c ∨ (0 ≤ c ∧ c ≤ 1114111 ∧ l[m].1 ≤ c ∧ c ≤ l[m].2) := by
  rw [List.take_succ_eq_append_getElem h, has_append, has_one]
theorem has_part (l : List (Int × Int)) (m : Nat) (c : Int) (h : HasR (l.take m) c) : HasR l c := by
  rw [← List.take_append_drop m l, has_append]
  exact .inl h

theorem rgs_at {w : World} {b o : Nat} {l : List (Int × Int)} (hc : ∀ i (h : i < l.length), w.cell? ⟨b, o + i * 2, none⟩ = some (.int .i32 l[i].1) ∧ w.cell? ⟨b, o + i * 2 + 1, none⟩ = some (.int .i32 l[i].2)) (m : Nat) (h : m < l.length) :
    ∃ y1 y2, l[m]? = some (y1, y2) ∧ l.take (m + 1) = l.take m ++ [(y1, y2)] ∧ w.cell? ⟨b, o + m * 2, none⟩ = some (.int .i32 y1) ∧ w.cell? ⟨b, o + m * 2 + 1, none⟩ = some (.int .i32 y2) :=
  ⟨l[m].1, l[m].2, by simp [h], List.take_succ_eq_append_getElem h, (hc m h).1, (hc m h).2⟩

end Go.Proofs.Ytnemacejaiifnaa
/- Trees of patterns as plain data, and in memory: what a value holds, and that it stays. No condition. -/
namespace Go.Proofs.Ytnemacejaiifnaa
open Go Go.RowKit

/-- A tree's fields, but for its Kids. -/
structure Fld where
  op : Int
  rune : Int
  set : List (Int × Int)
  at' : Int
  cap : Int
  name : ByteArray
  min : Int
  max : Int
  lazy : Bool
inductive Tr where
  | mk (f : Fld) (ks : List Tr)
def Tr.fld : Tr → Fld
  | .mk f _ => f
def Tr.kids : Tr → List Tr
  | .mk _ ks => ks
theorem Tr.eta (t : Tr) : t = .mk t.fld t.kids := by cases t; rfl
theorem Tr.lt {t : Tr} {k : Tr} (h : k ∈ t.kids) : SizeOf.sizeOf k < SizeOf.sizeOf t := by
  cases t with
  | mk f ks =>
    have := List.sizeOf_lt_of_mem (show k ∈ ks from h)
    simp only [Tr.mk.sizeOf_spec]
    omega
/-- What holds of a tree if it holds of its Kids holds of all. -/
theorem Tr.ind {P : Tr → Prop} (h : ∀ t : Tr, (∀ k ∈ t.kids, P k) → P t) (t : Tr) : P t := by
  suffices hs : ∀ n, ∀ t : Tr, SizeOf.sizeOf t < n → P t from hs _ t (Nat.lt_succ_self _)
  intro n
  induction n with
  | zero => intro t ht; omega
  | succ n ih => exact fun t ht => h t fun k hk => ih k (by have := Tr.lt hk; omega)

def I64 (x : Int) : Prop := -9223372036854775808 ≤ x ∧ x ≤ 9223372036854775807
def FldOk (f : Fld) : Prop := I64 f.op ∧ I32 f.rune ∧ I64 f.at' ∧ I64 f.cap ∧ I64 f.min ∧ I64 f.max ∧ f.name.size ≤ 4503599627370496 ∧ f.set.length ≤ 17592186044416
/-- A tree's ten cells, by the values of its two slices. -/
def treC (f : Fld) (kv sv : Value) : Array Value := #[.int .i64 f.op, kv, .int .i32 f.rune, sv, .int .i64 f.at', .int .i64 f.cap, .string f.name, .int .i64 f.min, .int .i64 f.max, .bool f.lazy]
theorem treC_size (f : Fld) (kv sv : Value) : (treC f kv sv).size = 10 := rfl

/-- The cells cs lie at block b from o on. -/
def CellsAt (w : World) (b o : Nat) (cs : Array Value) : Prop := ∀ j (h : j < cs.size), w.cell? ⟨b, o + j, none⟩ = some cs[j]
theorem CellsAt.below {w w' : World} {b o : Nat} {cs : Array Value} (h : CellsAt w b o cs) (hb : Below w.heap.size w w') : CellsAt w' b o cs :=
  fun j hj => (hb.cell (World.block_lt_of_cell? w _ (h j hj))).trans (h j hj)

/-- Of the ranges that the value v holds, if there are any, the block is one of F. -/
def Foot (F : Nat → Prop) (v : Value) (l : List (Int × Int)) : Prop := l = [] ∨ ∀ b, v.ownBlock = some b → F b
/-- The value v holds the tree t, and what it holds lies in blocks of F. -/
def TreF (F : Nat → Prop) (w : World) (t : Tr) (v : Value) : Prop :=
  ∃ (A : Option Addr) (c : Nat) (sv : Value), v = .agg (treC t.fld (.slice A t.kids.length c) sv) ∧ (Rgs w sv t.fld.set ∧ Foot F sv t.fld.set) ∧ FldOk t.fld ∧ t.kids.length ≤ c ∧ c ≤ maxLen ∧ t.kids.length ≤ 1172812402961 ∧ (A = none → c = 0) ∧
    (t.kids = [] ∨ ∃ b o, A = some ⟨b, o, none⟩ ∧ F b ∧ ∀ (i : Nat) (h : i < t.kids.length), ∃ cs : Array Value, CellsAt w b (o + i * 10) cs ∧ TreF F w (t.kids[i]) (.agg cs))
termination_by SizeOf.sizeOf t
decreasing_by exact Tr.lt (List.getElem_mem h)
/-- The slice value v holds the trees ks, in blocks of F. -/
def KdsF (F : Nat → Prop) (w : World) (ks : List Tr) (v : Value) : Prop :=
  ∃ (A : Option Addr) (c : Nat), v = .slice A ks.length c ∧ ks.length ≤ c ∧ c ≤ maxLen ∧ ks.length ≤ 1172812402961 ∧ (A = none → c = 0) ∧
    (ks = [] ∨ ∃ b o, A = some ⟨b, o, none⟩ ∧ F b ∧ ∀ (i : Nat) (h : i < ks.length), ∃ cs : Array Value, CellsAt w b (o + i * 10) cs ∧ TreF F w (ks[i]) (.agg cs))
theorem treF_iff (F : Nat → Prop) (w : World) (t : Tr) (v : Value) : TreF F w t v ↔ ∃ kv sv, v = .agg (treC t.fld kv sv) ∧ (Rgs w sv t.fld.set ∧ Foot F sv t.fld.set) ∧ FldOk t.fld ∧ KdsF F w t.kids kv := by
  rw [TreF]
  constructor
  · rintro ⟨A, c, sv, h1, h2, h3, h4, h5, h8, h6, h7⟩
    exact ⟨_, sv, h1, h2, h3, A, c, rfl, h4, h5, h8, h6, h7⟩
  · rintro ⟨kv, sv, h1, h2, h3, A, c, rfl, h4, h5, h8, h6, h7⟩
    exact ⟨A, c, sv, h1, h2, h3, h4, h5, h8, h6, h7⟩
/-- Blocks of F that were lie as they lay. -/
def SameOn (F : Nat → Prop) (w w' : World) : Prop := ∀ b, F b → b < w.heap.size → w'.heap[b]? = w.heap[b]?
theorem SameOn.cell {F : Nat → Prop} {w w' : World} (h : SameOn F w w') {b o : Nat} {u : Value} (hF : F b) (hc : w.cell? ⟨b, o, none⟩ = some u) : w'.cell? ⟨b, o, none⟩ = some u := by
  have := h b hF (World.block_lt_of_cell? w _ hc)
  rw [← hc]
  simp [World.cell?, this]
theorem CellsAt.same {F : Nat → Prop} {w w' : World} {b o : Nat} {cs : Array Value} (h : CellsAt w b o cs) (hs : SameOn F w w') (hF : F b) : CellsAt w' b o cs := fun j hj => hs.cell hF (h j hj)
theorem rgs_same {F G : Nat → Prop} {w w' : World} {v : Value} {l : List (Int × Int)} (h : Rgs w v l) (hf : Foot F v l) (hs : SameOn F w w') (hFG : ∀ b, F b → b < w.heap.size → G b) : Rgs w' v l ∧ Foot G v l := by
  obtain ⟨a, c, h1, h2, h3, h4, h5, h6⟩ := h
  rcases h5 with h5 | ⟨b, o, e, hc⟩
  · exact ⟨⟨a, c, h1, h2, h3, h4, .inl h5, h6⟩, .inl h5⟩
  · by_cases hl : l = []
    · exact ⟨⟨a, c, h1, h2, h3, h4, .inl hl, h6⟩, .inl hl⟩
    · have hb : F b := (hf.resolve_left hl) b (by rw [h1, e]; rfl)
      have hlt : b < w.heap.size := by
        have h0 : 0 < l.length := List.length_pos_iff.2 hl
        exact World.block_lt_of_cell? w _ (hc 0 h0).1
      refine ⟨⟨a, c, h1, h2, h3, h4, .inr ⟨b, o, e, fun i hi => ⟨hs.cell hb (hc i hi).1, hs.cell hb (hc i hi).2⟩⟩, h6⟩, .inr fun b' hb' => ?_⟩
      rw [h1, e] at hb'
      have : b = b' := by simpa [Value.ownBlock] using hb'
      rw [← this]
      exact hFG b hb hlt
theorem TreF.same' {F G : Nat → Prop} {w w' : World} (hs : SameOn F w w') (hFG : ∀ b, F b → b < w.heap.size → G b) (t : Tr) : ∀ v, TreF F w t v → TreF G w' t v := by
  refine Tr.ind (P := fun t => ∀ v, TreF F w t v → TreF G w' t v) (fun t ih v h => ?_) t
  rw [treF_iff] at h ⊢
  obtain ⟨kv, sv, h1, h2, h3, A, c, k1, k2, k3, k4, k5, k6⟩ := h
  refine ⟨kv, sv, h1, rgs_same h2.1 h2.2 hs hFG, h3, A, c, k1, k2, k3, k4, k5, ?_⟩
  by_cases hk : t.kids = []
  · exact .inl hk
  rcases k6 with k6 | ⟨b, o, e, hF, hc⟩
  · exact .inl k6
  · have h0 : 0 < t.kids.length := List.length_pos_iff.2 hk
    have hlt : b < w.heap.size := by
      obtain ⟨cs, q1, q2⟩ := hc 0 h0
      rw [treF_iff] at q2
      obtain ⟨kv', sv', q3, -⟩ := q2
      injection q3 with q3
      subst q3
      exact World.block_lt_of_cell? w _ (q1 0 (Nat.lt_of_lt_of_eq (by omega) (treC_size _ _ _).symm))
    refine .inr ⟨b, o, e, hFG b hF hlt, fun i hi => ?_⟩
    obtain ⟨cs, q1, q2⟩ := hc i hi
    exact ⟨cs, q1.same hs hF, ih _ (List.getElem_mem hi) _ q2⟩
theorem TreF.same {F G : Nat → Prop} {w w' : World} {t : Tr} {v : Value} (h : TreF F w t v) (hs : SameOn F w w') (hFG : ∀ b, F b → b < w.heap.size → G b) : TreF G w' t v := TreF.same' hs hFG t v h
/-- The value v holds the tree t. -/
def Tre (w : World) (t : Tr) (v : Value) : Prop := TreF (fun _ => True) w t v
/-- The slice value v holds the trees ks. -/
def Kds (w : World) (ks : List Tr) (v : Value) : Prop := KdsF (fun _ => True) w ks v
theorem same_below {F : Nat → Prop} {w w' : World} (hb : Below w.heap.size w w') : SameOn F w w' := fun b _ h => hb.block b h
theorem Tre.foot {w : World} {t : Tr} {v : Value} (h : Tre w t v) : TreF (fun b => b < w.heap.size) w t v := TreF.same h (fun _ _ _ => rfl) fun _ _ h => h
theorem TreF.tre {F : Nat → Prop} {w : World} {t : Tr} {v : Value} (h : TreF F w t v) : Tre w t v := h.same (fun _ _ _ => rfl) fun _ _ _ => trivial
theorem tre_iff (w : World) (t : Tr) (v : Value) : Tre w t v ↔ ∃ kv sv, v = .agg (treC t.fld kv sv) ∧ Rgs w sv t.fld.set ∧ FldOk t.fld ∧ Kds w t.kids kv := by
  unfold Tre
  rw [treF_iff]
  constructor
  · rintro ⟨kv, sv, h1, h2, h3, h4⟩
    exact ⟨kv, sv, h1, h2.1, h3, h4⟩
  · rintro ⟨kv, sv, h1, h2, h3, h4⟩
    exact ⟨kv, sv, h1, ⟨h2, .inr fun _ _ => trivial⟩, h3, h4⟩
theorem Tre.below {w w' : World} {t : Tr} {v : Value} (h : Tre w t v) (hb : Below w.heap.size w w') : Tre w' t v := TreF.same h (same_below hb) fun _ _ _ => trivial
theorem KdsF.same {F G : Nat → Prop} {w w' : World} {ks : List Tr} {v : Value} (h : KdsF F w ks v) (hs : SameOn F w w') (hFG : ∀ b, F b → b < w.heap.size → G b) : KdsF G w' ks v := by
  obtain ⟨A, c, k1, k2, k3, k4, k5, k6⟩ := h
  refine ⟨A, c, k1, k2, k3, k4, k5, ?_⟩
  by_cases hk : ks = []
  · exact .inl hk
  rcases k6 with k6 | ⟨b, o, e, hF, hc⟩
  · exact .inl k6
  · have h0 : 0 < ks.length := List.length_pos_iff.2 hk
    have hlt : b < w.heap.size := by
      obtain ⟨cs, q1, q2⟩ := hc 0 h0
      rw [treF_iff] at q2
      obtain ⟨kv', sv', q3, -⟩ := q2
      injection q3 with q3
      subst q3
      exact World.block_lt_of_cell? w _ (q1 0 (Nat.lt_of_lt_of_eq (by omega) (treC_size _ _ _).symm))
    refine .inr ⟨b, o, e, hFG b hF hlt, fun i hi => ?_⟩
    obtain ⟨cs, q1, q2⟩ := hc i hi
    exact ⟨cs, q1.same hs hF, q2.same hs hFG⟩
theorem Kds.below {w w' : World} {ks : List Tr} {v : Value} (h : Kds w ks v) (hb : Below w.heap.size w w') : Kds w' ks v := KdsF.same h (same_below hb) fun _ _ _ => trivial
/-- A Kid, out of a slice: its cells, and that they are it. -/
theorem Kds.at' {w : World} {ks : List Tr} {A : Option Addr} {n c : Nat} (h : Kds w ks (.slice A n c)) (i : Nat) (hi : i < ks.length) :
    ∃ b o, A = some ⟨b, o, none⟩ ∧ n = ks.length ∧ ∃ kv sv, CellsAt w b (o + i * 10) (treC (ks[i]).fld kv sv) ∧ Tre w (ks[i]) (.agg (treC (ks[i]).fld kv sv)) := by
  obtain ⟨A', c', e, h2, h3, -, h4, h5⟩ := h
  injection e with e1 e2 e3
  subst e1 e2 e3
  rcases h5 with h5 | ⟨b, o, e, -, hc⟩
  · rw [h5] at hi
    simp at hi
  · obtain ⟨cs, k1, k2⟩ := hc i hi
    have k3 : Tre w ks[i] (.agg cs) := k2
    rw [tre_iff] at k3
    obtain ⟨kv, sv, k4, -⟩ := k3
    injection k4 with k4
    subst k4
    exact ⟨b, o, e, rfl, kv, sv, k1, k2⟩
theorem CellsAt.ten {w : World} {b o : Nat} {f : Fld} {kv sv : Value} (h : CellsAt w b o (treC f kv sv)) :
    w.cell? ⟨b, o, none⟩ = some (.int .i64 f.op) ∧ w.cell? ⟨b, o + 1, none⟩ = some kv ∧ w.cell? ⟨b, o + 2, none⟩ = some (.int .i32 f.rune) ∧ w.cell? ⟨b, o + 3, none⟩ = some sv ∧ w.cell? ⟨b, o + 4, none⟩ = some (.int .i64 f.at') ∧
    w.cell? ⟨b, o + 5, none⟩ = some (.int .i64 f.cap) ∧ w.cell? ⟨b, o + 6, none⟩ = some (.string f.name) ∧ w.cell? ⟨b, o + 7, none⟩ = some (.int .i64 f.min) ∧ w.cell? ⟨b, o + 8, none⟩ = some (.int .i64 f.max) ∧ w.cell? ⟨b, o + 9, none⟩ = some (.bool f.lazy) :=
  ⟨h 0 (Nat.lt_of_lt_of_eq (by omega) (treC_size f kv sv).symm), h 1 (Nat.lt_of_lt_of_eq (by omega) (treC_size f kv sv).symm), h 2 (Nat.lt_of_lt_of_eq (by omega) (treC_size f kv sv).symm), h 3 (Nat.lt_of_lt_of_eq (by omega) (treC_size f kv sv).symm), h 4 (Nat.lt_of_lt_of_eq (by omega) (treC_size f kv sv).symm), h 5 (Nat.lt_of_lt_of_eq (by omega) (treC_size f kv sv).symm), h 6 (Nat.lt_of_lt_of_eq (by omega) (treC_size f kv sv).symm), h 7 (Nat.lt_of_lt_of_eq (by omega) (treC_size f kv sv).symm), h 8 (Nat.lt_of_lt_of_eq (by omega) (treC_size f kv sv).symm), h 9 (Nat.lt_of_lt_of_eq (by omega) (treC_size f kv sv).symm)⟩
theorem Tre.parts {w : World} {t : Tr} {v : Value} (h : Tre w t v) : ∃ kv sv, v = .agg (treC t.fld kv sv) ∧ Rgs w sv t.fld.set ∧ FldOk t.fld ∧ Kds w t.kids kv := (tre_iff w t v).1 h
/-- A tree's value laid open. -/
theorem Tre.opened {w : World} {t : Tr} {v : Value} (h : Tre w t v) : ∃ (A : Option Addr) (n c : Nat) (a2 : Option Addr) (s c2 : Nat), t.kids.length = n ∧ t.fld.set.length = s ∧
    v = .agg #[.int .i64 t.fld.op, .slice A n c, .int .i32 t.fld.rune, .slice a2 s c2, .int .i64 t.fld.at', .int .i64 t.fld.cap, .string t.fld.name, .int .i64 t.fld.min, .int .i64 t.fld.max, .bool t.fld.lazy] ∧
    n ≤ 1172812402961 ∧ s ≤ 17592186044416 ∧ Kds w t.kids (.slice A n c) ∧ Rgs w (.slice a2 s c2) t.fld.set ∧ FldOk t.fld := by
  obtain ⟨kv, sv, rfl, hS, hF, hK⟩ := h.parts
  have hS' := hS
  have hK' := hK
  obtain ⟨A, c, rfl, -, -, hk1, -⟩ := hK
  obtain ⟨a2, c2, rfl, -⟩ := hS
  exact ⟨A, _, c, a2, _, c2, rfl, rfl, rfl, hk1, hF.2.2.2.2.2.2.2, hK', hS', hF⟩
theorem cellsAt_new (w : World) (cs : Array Value) (t : TypeId) : CellsAt (w.alloc (.cells cs t)) w.heap.size 0 cs := fun j hj => by
  rw [World.cell?_alloc_at _ _ _ _ rfl, Nat.zero_add, Array.getElem?_eq_getElem hj]
/-- The cells of a box that holds a tree's ten values, and that they stay. -/
def Box10 (W : World) (b : Nat) (x0 x1 x2 x3 x4 x5 x6 x7 x8 x9 : Value) : Prop :=
  W.cell? ⟨b, 0, none⟩ = some x0 ∧ W.cell? ⟨b, 1, none⟩ = some x1 ∧ W.cell? ⟨b, 2, none⟩ = some x2 ∧ W.cell? ⟨b, 3, none⟩ = some x3 ∧ W.cell? ⟨b, 4, none⟩ = some x4 ∧
    W.cell? ⟨b, 5, none⟩ = some x5 ∧ W.cell? ⟨b, 6, none⟩ = some x6 ∧ W.cell? ⟨b, 7, none⟩ = some x7 ∧ W.cell? ⟨b, 8, none⟩ = some x8 ∧ W.cell? ⟨b, 9, none⟩ = some x9
theorem box10_new (w : World) (t : TypeId) (x0 x1 x2 x3 x4 x5 x6 x7 x8 x9 : Value) : Box10 (w.alloc (.cells #[x0, x1, x2, x3, x4, x5, x6, x7, x8, x9] t)) w.heap.size x0 x1 x2 x3 x4 x5 x6 x7 x8 x9 := by
  have h := cellsAt_new w #[x0, x1, x2, x3, x4, x5, x6, x7, x8, x9] t
  have g : ∀ j (hj : j < 10), (w.alloc (.cells #[x0, x1, x2, x3, x4, x5, x6, x7, x8, x9] t)).cell? ⟨w.heap.size, j, none⟩ = #[x0, x1, x2, x3, x4, x5, x6, x7, x8, x9][j]? := fun j hj => by
    have := h j hj
    rw [Nat.zero_add] at this
    rw [this, Array.getElem?_eq_getElem]
  exact ⟨g 0 (by omega), g 1 (by omega), g 2 (by omega), g 3 (by omega), g 4 (by omega), g 5 (by omega), g 6 (by omega), g 7 (by omega), g 8 (by omega), g 9 (by omega)⟩
theorem Box10.below {w w' : World} {b : Nat} {x0 x1 x2 x3 x4 x5 x6 x7 x8 x9 : Value} (h : Box10 w b x0 x1 x2 x3 x4 x5 x6 x7 x8 x9) (hb : Below w.heap.size w w') : Box10 w' b x0 x1 x2 x3 x4 x5 x6 x7 x8 x9 := by
  obtain ⟨h0, h1, h2, h3, h4, h5, h6, h7, h8, h9⟩ := h
  have g : ∀ j u, w.cell? ⟨b, j, none⟩ = some u → w'.cell? ⟨b, j, none⟩ = some u := fun j u hu => (hb.cell (World.block_lt_of_cell? w _ hu)).trans hu
  exact ⟨g 0 _ h0, g 1 _ h1, g 2 _ h2, g 3 _ h3, g 4 _ h4, g 5 _ h5, g 6 _ h6, g 7 _ h7, g 8 _ h8, g 9 _ h9⟩
/-- A Kid's ten cells. -/
def Kid10 (W : World) (b o : Nat) (x0 x1 x2 x3 x4 x5 x6 x7 x8 x9 : Value) : Prop :=
  W.cell? ⟨b, o, none⟩ = some x0 ∧ W.cell? ⟨b, o + 1, none⟩ = some x1 ∧ W.cell? ⟨b, o + 2, none⟩ = some x2 ∧ W.cell? ⟨b, o + 3, none⟩ = some x3 ∧ W.cell? ⟨b, o + 4, none⟩ = some x4 ∧
    W.cell? ⟨b, o + 5, none⟩ = some x5 ∧ W.cell? ⟨b, o + 6, none⟩ = some x6 ∧ W.cell? ⟨b, o + 7, none⟩ = some x7 ∧ W.cell? ⟨b, o + 8, none⟩ = some x8 ∧ W.cell? ⟨b, o + 9, none⟩ = some x9
/-- A Kid laid open. -/
theorem Kds.kid {w : World} {ks : List Tr} {A : Option Addr} {n c : Nat} (h : Kds w ks (.slice A n c)) (k : Nat) (hk : k < ks.length) :
    ∃ (b o : Nat) (tk : Tr) (kv sv : Value), A = some ⟨b, o, none⟩ ∧ ks[k] = tk ∧ tk ∈ ks ∧
      Kid10 w b (o + k * 10) (.int .i64 tk.fld.op) kv (.int .i32 tk.fld.rune) sv (.int .i64 tk.fld.at') (.int .i64 tk.fld.cap) (.string tk.fld.name) (.int .i64 tk.fld.min) (.int .i64 tk.fld.max) (.bool tk.fld.lazy) ∧
      Tre w tk (.agg #[.int .i64 tk.fld.op, kv, .int .i32 tk.fld.rune, sv, .int .i64 tk.fld.at', .int .i64 tk.fld.cap, .string tk.fld.name, .int .i64 tk.fld.min, .int .i64 tk.fld.max, .bool tk.fld.lazy]) := by
  obtain ⟨b, o, hA, -, kv, sv, hC, hT⟩ := h.at' k hk
  exact ⟨b, o, ks[k], kv, sv, hA, rfl, List.getElem_mem hk, hC.ten, hT⟩
theorem below_two {w W W' : World} (h : Below w.heap.size w W) (k : Below W.heap.size W W') : Below w.heap.size w W' := h.trans (k.mono h.size)
end Go.Proofs.Ytnemacejaiifnaa
/- What the document says of trees, as plain functions. No condition. -/
namespace Go.Proofs.Ytnemacejaiifnaa
open Go Go.RowKit

/-- Recursion over a tree: what f makes of it and of what it made of the Kids. -/
def Tr.para {α : Type} (f : Tr → List α → α) (t : Tr) : α := f t (t.kids.attach.map fun k => Tr.para f k.1)
termination_by SizeOf.sizeOf t
decreasing_by exact Tr.lt k.2
theorem Tr.para_eq {α : Type} (f : Tr → List α → α) (t : Tr) : t.para f = f t (t.kids.map (Tr.para f)) := by
  rw [Tr.para]
  congr 1
  exact List.attach_map_val

/-- How many parts a tree has: nodes, and ranges. -/
def partsR : Tr → Nat := Tr.para fun t l => 1 + t.fld.set.length + l.sum
theorem partsR_eq (t : Tr) : partsR t = 1 + t.fld.set.length + (t.kids.map partsR).sum := Tr.para_eq _ t
theorem sum_mem_le : ∀ {l : List Nat} {x : Nat}, x ∈ l → x ≤ l.sum
  | y :: l, x, h => by
    rcases List.mem_cons.1 h with rfl | h
    · simp
    · have := sum_mem_le h
      simp
      omega
theorem partsR_kid {t k : Tr} (h : k ∈ t.kids) : partsR k < partsR t := by
  rw [partsR_eq t]
  have := sum_mem_le (List.mem_map_of_mem (f := partsR) h)
  omega
theorem partsR_pos (t : Tr) : 1 ≤ partsR t := by rw [partsR_eq]; omega
theorem length_le_sum (l : List Tr) : l.length ≤ (l.map partsR).sum := by
  induction l with
  | nil => simp
  | cons k l ih =>
    have := partsR_pos k
    simp
    omega
theorem partsR_kids (t : Tr) : t.kids.length < partsR t := by
  have := length_le_sum t.kids
  rw [partsR_eq]
  omega
def maxL : List Nat → Nat
  | [] => 0
  | x :: l => max x (maxL l)
theorem maxL_append (a b : List Nat) : maxL (a ++ b) = max (maxL a) (maxL b) := by
  induction a with
  | nil => simp [maxL]
  | cons x a ih => rw [List.cons_append, maxL, maxL, ih, Nat.max_assoc]
/-- How deep a tree is. -/
def depthR : Tr → Nat := Tr.para fun _ l => maxL l + 1
theorem depthR_eq (t : Tr) : depthR t = maxL (t.kids.map depthR) + 1 := Tr.para_eq _ t
theorem maxL_le {l : List Nat} {n : Nat} (h : ∀ x ∈ l, x ≤ n) : maxL l ≤ n := by
  induction l with
  | nil => simp [maxL]
  | cons x l ih =>
    rw [maxL]
    have h1 := h x (by simp)
    have h2 := ih fun y hy => h y (by simp [hy])
    omega
theorem depthR_parts (t : Tr) : depthR t ≤ partsR t := by
  refine Tr.ind (P := fun t => depthR t ≤ partsR t) (fun t ih => ?_) t
  rw [depthR_eq]
  have := partsR_pos t
  have hm : maxL (t.kids.map depthR) ≤ partsR t - 1 := maxL_le fun x hx => by
    obtain ⟨k, hk, rfl⟩ := List.mem_map.1 hx
    have h1 := ih k hk
    have h2 := partsR_kid hk
    omega
  omega
/-- At most 4001. -/
def clipR (n : Nat) : Nat := min n 4001
/-- How heavy a tree is. -/
def weightN (f : Fld) (m n : Nat) : Nat :=
  if f.op = 6 then clipR (2 + n) else if f.op = 7 ∨ f.op = 8 ∨ f.op = 9 ∨ f.op = 11 then clipR (1 + n) else
  if f.op = 10 then clipR ((clipR (max (max f.min f.max) 1).toNat) * n + clipR (max (max f.min f.max) 1).toNat + 1) else if f.op = 12 then clipR (n + clipR m) else 1
def weightR : Tr → Nat := Tr.para fun t l => weightN t.fld t.kids.length (clipR l.sum)
theorem weightR_eq (t : Tr) : weightR t = weightN t.fld t.kids.length (clipR (t.kids.map weightR).sum) := Tr.para_eq _ t
theorem clipR_add (a b : Nat) : clipR (clipR a + b) = clipR (a + b) := by unfold clipR; omega
theorem weightN_le (f : Fld) (m n : Nat) : weightN f m n ≤ 4001 := by
  unfold weightN clipR
  split
  · omega
  · split
    · omega
    · split
      · exact Nat.min_le_right _ _
      · split <;> omega
theorem weightR_le (t : Tr) : weightR t ≤ 4001 := by rw [weightR_eq]; exact weightN_le _ _ _
end Go.Proofs.Ytnemacejaiifnaa
/- How deep, how heavy a tree is: the document's Depth, Weight. -/
namespace Go.Proofs.Ytnemacejaiifnaa
open Go Go.RowKit

/-- An integer that says n; nothing that lay has turned. -/
def SaysN (n : Nat) (w : World) (e : Ending) (w' : World) : Prop := e = .returned (.int .i64 n) ∧ Below w.heap.size w w'
theorem take_max {l : List Tr} {k : Nat} (h : k < l.length) : maxL ((l.take (k + 1)).map depthR) = max (maxL ((l.take k).map depthR)) (depthR l[k]) := by
  rw [List.take_succ_eq_append_getElem h, List.map_append, maxL_append]
  simp [maxL]

end Go.Proofs.Ytnemacejaiifnaa
/- The document's Right: is a list a set? -/
namespace Go.Proofs.Ytnemacejaiifnaa
open Go Go.RowKit

set_option maxHeartbeats 1600000 in
set_option maxRecDepth 100000 in
theorem rright_any (v : Value) (l : List (Int × Int)) (w : World) (h : Rgs w v l) :
    Calls Try.prog 137 #[v] w (Says (RightR l) w) := by
  obtain ⟨a, c, rfl, h2, h3, h4, h5, h6⟩ := h
  have hlen : l.length ≤ 9223372036854775807 := by unfold maxLen at h3; omega
  have H5 := Lib.hid h5; have H6 := Lib.hid h6
  clear h5 h6 h4 h2 h3
  go_enter Try.func137, Try.ntmps137
  go_wp2
  go_loopw [3] (fun i wr => ∃ m : Nat, m ≤ l.length ∧ i = .int .i64 m ∧ (∃ q, wr = w.drewN q) ∧ RightR (l.take m)) (fun i _ => l.length - (intOf i).toNat)
  case atStart => exact ⟨0, Nat.zero_le _, rfl, ⟨0, rfl⟩, by simp [RightR, RightFrom]⟩
  case round =>
    obtain ⟨m, hm, rfl, ⟨q, rfl⟩, hR⟩ := hrel
    have HR := Lib.hid hR
    clear hR
    by_cases hlt : m < l.length
    · rcases H5.out with h5 | ⟨b, o, rfl, hc⟩
      · rw [h5] at hlt
        simp at hlt
      have hltz : (m : Int) < (l.length : Int) := by omega
      obtain ⟨c1, c2⟩ := hc m hlt
      obtain ⟨x, hx⟩ : ∃ x, l[m] = x := ⟨_, rfl⟩
      have hi := H6.out _ (List.getElem_mem hlt)
      rw [hx] at c1 c2 hi
      obtain ⟨x1, x2⟩ := x
      simp only at c1 c2 hi
      unfold I32 at hi
      have hsp := right_split l m hlt
      rw [hx] at hsp
      have HS := Lib.hid hsp; have HC := Lib.hid hc
      clear hsp hc hx
      have bad : ¬ (endOf 0 (l.take m) ≤ x1 ∧ x1 ≤ x2 ∧ x2 ≤ 1114111) → ¬ RightR l := fun hb hr => hb (HS.out.1 (right_part l (m + 1) hr)).2
      by_cases q0 : x1 < 0
      · have d0 : decide (x1 < 0) = true := decide_eq_true q0
        go_wp2_with fail
        go_big_quiet (fail)
        go_wp2
        go_ret
        refine ⟨false, rfl, ?_, ⟨_, World.drewN_drewN _ _ _⟩⟩
        have := bad (by intro h; have := end_nonneg (l.take m) 0 (by omega) HR.out; omega)
        simp [this]
      · have d0 : decide (x1 < 0) = false := decide_eq_false q0
        by_cases q1 : 1114111 < x2
        · have d1 : decide (1114111 < x2) = true := decide_eq_true q1
          go_wp2_with fail
          go_big_quiet (fail)
          go_wp2
          go_ret
          refine ⟨false, rfl, ?_, ⟨_, World.drewN_drewN _ _ _⟩⟩
          have := bad (by omega)
          simp [this]
        · have d1 : decide (1114111 < x2) = false := decide_eq_false q1
          by_cases q2 : x2 < x1
          · have d2 : decide (x2 < x1) = true := decide_eq_true q2
            go_wp2_with fail
            go_big_quiet (fail)
            go_wp2
            go_ret
            refine ⟨false, rfl, ?_, ⟨_, World.drewN_drewN _ _ _⟩⟩
            have := bad (by omega)
            simp [this]
          · have d2 : decide (x2 < x1) = false := decide_eq_false q2
            by_cases hm0 : m = 0
            · subst hm0
              rw [Nat.zero_mul, Nat.add_zero] at c1 c2
              go_wp2_with fail
              go_big_quiet (fail)
              go_wp2_with fail
              go_big_quiet (fail)
              go_wp2
              go_roundw
              case rel => exact ⟨1, by omega, rfl, ⟨_, by first | with_reducible rfl | exact World.drewN_drewN _ _ _ | (rw [World.drewN_drewN]; exact World.drewN_drewN _ _ _)⟩, HS.out.2 ⟨HR.out, by simp [endOf]; omega, by omega, by omega⟩⟩
              case measure => simp [intOf]; omega
            · obtain ⟨p, rfl⟩ : ∃ p, m = p + 1 := ⟨m - 1, by omega⟩
              have hp : p < l.length := by omega
              obtain ⟨e1, e2⟩ := HC.out p hp
              have hE := end_take l p (by omega)
              have hF := right_fit _ 0 (by omega) HR.out l[p] (List.mem_iff_getElem.2 ⟨p, by rw [List.length_take]; omega, by rw [List.getElem_take]⟩)
              obtain ⟨y, hy⟩ : ∃ y, l[p] = y := ⟨_, rfl⟩
              rw [hy] at e1 e2 hE hF
              obtain ⟨y1, y2⟩ := y
              unfold Fit at hF
              simp only at e1 e2 hE hF
              have HE := Lib.hid hE
              clear hy hE
              have hpz : (0 : Int) < (p : Int) + 1 := by omega
              have dp : decide ((0 : Int) < (p : Int) + 1) = true := decide_eq_true hpz
              by_cases q3 : x1 ≤ y2
              · have d3 : decide (x1 ≤ y2) = true := decide_eq_true q3
                go_wp2_with fail
                go_big_quiet (fail)
                go_wp2_with fail
                go_big_quiet (fail)
                go_wp2
                go_ret
                refine ⟨false, rfl, ?_, ⟨_, by first | with_reducible rfl | exact World.drewN_drewN _ _ _ | (rw [World.drewN_drewN]; exact World.drewN_drewN _ _ _)⟩⟩
                have := bad (by rw [HE.out]; omega)
                simp [this]
              · have d3 : decide (x1 ≤ y2) = false := decide_eq_false q3
                by_cases q4 : x1 - y2 < 2
                · have d4 : decide (x1 - y2 < 2) = true := decide_eq_true q4
                  go_wp2_with fail
                  go_big_quiet (fail)
                  go_wp2_with fail
                  go_big_quiet (fail)
                  go_wp2
                  go_ret
                  refine ⟨false, rfl, ?_, ⟨_, by first | with_reducible rfl | exact World.drewN_drewN _ _ _ | (rw [World.drewN_drewN]; exact World.drewN_drewN _ _ _)⟩⟩
                  have := bad (by rw [HE.out]; omega)
                  simp [this]
                · have d4 : decide (x1 - y2 < 2) = false := decide_eq_false q4
                  go_wp2_with fail
                  go_big_quiet (fail)
                  go_wp2_with fail
                  go_big_quiet (fail)
                  go_wp2
                  go_roundw
                  case rel => exact ⟨p + 2, by omega, by go_num, ⟨_, by first | with_reducible rfl | exact World.drewN_drewN _ _ _ | (rw [World.drewN_drewN]; exact World.drewN_drewN _ _ _)⟩, HS.out.2 ⟨HR.out, by rw [HE.out]; omega, by omega, by omega⟩⟩
                  case measure => simp [intOf]; omega
    · have e : l.take m = l := List.take_of_length_le (by omega)
      have hr := HR.out
      rw [e] at hr
      go_wp2
      go_ret
      exact ⟨true, rfl, by simp [hr], q, rfl⟩

end Go.Proofs.Ytnemacejaiifnaa
/- How many parts a tree has, up to a bound: the document's Parts. -/
namespace Go.Proofs.Ytnemacejaiifnaa
open Go Go.RowKit

/-- Parts' answer: the parts, if they are within the bound; else more than it. -/
def PartsPost (m : Nat) (t : Tr) (w : World) (e : Ending) (w' : World) : Prop :=
  ∃ r : Nat, e = .returned (.int .i64 r) ∧ (partsR t ≤ m → r = partsR t) ∧ (m < partsR t → m < r) ∧ r ≤ m + 1 + 17592186044416 ∧ Below w.heap.size w w'
theorem take_sum {l : List Tr} {k : Nat} (h : k < l.length) : ((l.take (k + 1)).map partsR).sum = ((l.take k).map partsR).sum + partsR l[k] := by
  rw [List.take_succ_eq_append_getElem h, List.map_append, List.sum_append]
  simp
theorem take_sum_le (l : List Tr) (k : Nat) : ((l.take k).map partsR).sum ≤ (l.map partsR).sum := by
  conv => rhs; rw [← List.take_append_drop k l, List.map_append, List.sum_append]
  omega

set_option maxHeartbeats 1600000 in
set_option maxRecDepth 100000 in
theorem parts_any (m : Nat) : ∀ (hm : m ≤ 10000000000) (t : Tr) (v : Value) (w : World) (h : Tre w t v), Calls Try.prog 29 #[v, .int .i64 m] w (PartsPost m t w) := by
  induction m using Nat.strongRecOn with
  | _ m ih =>
  intro hm t v w h
  have IH := Lib.hid ih
  obtain ⟨kv, sv, rfl, hS, hF, hK⟩ := h.parts
  have hsl : t.fld.set.length ≤ 17592186044416 := hF.2.2.2.2.2.2.2
  obtain ⟨A, c, rfl, -, -, hk1, -⟩ := hK
  obtain ⟨a2, c2, rfl, -⟩ := hS
  have HT := Lib.hid h
  obtain ⟨w1, hw1⟩ : ∃ w1, w.alloc (.cells (treC t.fld (.slice A t.kids.length c) (.slice a2 t.fld.set.length c2)) 27) = w1 := ⟨_, rfl⟩
  have hb1 : Below w.heap.size w w1 := by rw [← hw1]; exact (Below.refl _ _).alloc (Nat.le_refl _) _
  have hE1 : CellsAt w1 w.heap.size 0 (treC t.fld (.slice A t.kids.length c) (.slice a2 t.fld.set.length c2)) := by rw [← hw1]; exact cellsAt_new w _ _
  have HB1 := Lib.hid hb1; have HE1 := Lib.hid hE1; have HW1 := Lib.hid hw1
  obtain ⟨e0, e1, e2, e3, -⟩ := hE1.ten
  simp only [Nat.zero_add] at e1 e3
  have hs1 := hb1.size
  have he := partsR_eq t
  obtain ⟨M, hM⟩ : ∃ M, (t.kids.map partsR).sum = M := ⟨_, rfl⟩
  rw [hM] at he
  have HM := Lib.hid hM
  clear h hb1 hE1 hw1 ih hM
  unfold treC at HW1
  obtain ⟨s, hs⟩ : ∃ s, t.fld.set.length = s := ⟨_, rfl⟩
  obtain ⟨n, hn⟩ : ∃ n, t.kids.length = n := ⟨_, rfl⟩
  rw [hs] at hsl e3 HW1 HT HE1 he
  rw [hn] at hk1 e1 HW1 HT HE1
  have HN := Lib.hid hn; have HSS := Lib.hid hs; have HE := Lib.hid he
  rw [hs, hn]
  clear hs hn he
  unfold treC at *
  go_enter Try.func29, Try.ntmps29
  go_wp2_with fail
  rw [HW1.out]
  go_loopw [5, 6] (fun nn i wr => ∃ k r : Nat, k ≤ n ∧ i = .int .i64 k ∧ nn = .int .i64 r ∧ Below w1.heap.size w1 wr ∧ (1 + s + ((t.kids.take k).map partsR).sum ≤ m → r = 1 + s + ((t.kids.take k).map partsR).sum) ∧ (m < 1 + s + ((t.kids.take k).map partsR).sum → m < r) ∧ 1 ≤ r ∧ r ≤ m + 1 + 17592186044416) (fun _ i _ => n - (intOf i).toNat)
  case atStart => exact ⟨0, 1 + s, Nat.zero_le _, rfl, by simp, Below.refl _ _, by simp, by simp, by omega, by omega⟩
  case round =>
    obtain ⟨k, r, hk, rfl, rfl, hB, h1, h2, h3, h4⟩ := hrel
    have HB := Lib.hid hB
    have d1 := (hB.cell (p := ⟨w.heap.size, 1, none⟩) (World.block_lt_of_cell? w1 _ e1)).trans e1
    obtain ⟨S, hS⟩ : ∃ S, ((t.kids.take k).map partsR).sum = S := ⟨_, rfl⟩
    rw [hS] at h1 h2
    have HSM := Lib.hid hS
    have hSle : S ≤ M := by rw [← hS, ← HM.out]; exact take_sum_le _ _
    have H1 := Lib.hid h1; have H2 := Lib.hid h2
    clear hB hS h1 h2
    by_cases hkn : k < n
    · by_cases hrm : r ≤ m
      · have hr1 : r = 1 + s + S := by
          by_cases h : 1 + s + S ≤ m
          · exact H1.out h
          · have := H2.out (by omega); omega
        have hkl : k < t.kids.length := by rw [HN.out]; exact hkn
        have hKw : Kds wr t.kids (.slice A t.kids.length c) := by
          have := ((HT.out.below HB1.out).below HB.out).parts
          obtain ⟨kv, sv, e, -, -, hK⟩ := this
          injection e with e
          unfold treC at e
          have e' := congrArg (fun a : Array Value => a[1]?) e
          simp at e'
          rw [HN.out]
          rw [← e'] at hK
          exact hK
        obtain ⟨b, o, hA, -, kv, sv, hC, hTk⟩ := hKw.at' k hkl
        have ha := partsR_kid (List.getElem_mem hkl)
        have hts := take_sum hkl
        obtain ⟨tk, htk⟩ : ∃ tk, t.kids[k] = tk := ⟨_, rfl⟩
        rw [htk] at hC hTk ha hts
        obtain ⟨c0, c1, c2', c3, c4, c5, c6, c7, c8, c9⟩ := hC.ten
        have HI := Lib.hid (IH.out (m - r) (by omega) (by omega) tk (.agg (treC tk.fld kv sv)) wr hTk)
        unfold treC at HI
        rw [show ((m - r : Nat) : Int) = (m : Int) - (r : Int) by omega] at HI
        have HA := Lib.hid hA; have HTS := Lib.hid hts; have HR1 := Lib.hid hr1
        clear hr1 hKw hA hC hTk htk ha hts
        rw [HA.out] at d1
        clear HT
        go_wp2_with fail
        refine HI.out.mono ?_
        rintro e w2 ⟨r2, rfl, q1, q2, q3, q4⟩
        have HB2 := Lib.hid (HB.out.trans (q4.mono HB.out.size)); have Q1 := Lib.hid q1; have Q2 := Lib.hid q2
        clear q1 q2 q4 c0 c1 c2' c3 c4 c5 c6 c7 c8 c9
        go_wp2_with fail
        go_roundw
        case rel =>
          refine ⟨k + 1, r + r2, by omega, by go_num, by go_num, HB2.out, ?_, ?_, by omega, by omega⟩
          · rw [HTS.out, HSM.out]
            intro h
            have hr1 := HR1.out
            have := Q1.out (by omega)
            omega
          · rw [HTS.out, HSM.out]
            intro h
            have hr1 := HR1.out
            have := Q2.out (by omega)
            omega
        case measure => simp [intOf]; omega
      · have hf : decide ((r : Int) ≤ (m : Int)) = false := decide_eq_false (by omega)
        have hnm : ¬ (r : Int) ≤ (m : Int) := by omega
        go_wp2_with fail
        go_ret
        refine ⟨r, rfl, fun h => ?_, fun _ => by omega, by omega, HB1.out.trans (HB.out.mono HB1.out.size)⟩
        exfalso
        have e1 := HE.out
        have := H1.out (by omega)
        omega
    · have hk2 : t.kids.take k = t.kids := List.take_of_length_le (by rw [HN.out]; omega)
      have hSM : S = M := by rw [← HSM.out, hk2, HM.out]
      have HQ := Lib.hid hSM
      clear hk2 hSM
      go_wp2_with fail
      go_ret
      refine ⟨r, rfl, fun h => ?_, fun h => ?_, by omega, HB1.out.trans (HB.out.mono HB1.out.size)⟩
      · have e1 := HE.out
        have e2 := HQ.out
        have := H1.out (by omega)
        omega
      · have e1 := HE.out
        have e2 := HQ.out
        exact H2.out (by omega)
end Go.Proofs.Ytnemacejaiifnaa
/- A tree at a place in memory: its cells, its Kids. No condition. -/
namespace Go.Proofs.Ytnemacejaiifnaa
open Go Go.RowKit

/-- Place o of block b holds the tree t. -/
def TAt (w : World) (b o : Nat) (t : Tr) : Prop := ∃ kv sv, CellsAt w b o (treC t.fld kv sv) ∧ Tre w t (.agg (treC t.fld kv sv))
theorem TAt.below {w w' : World} {b o : Nat} {t : Tr} (h : TAt w b o t) (hb : Below w.heap.size w w') : TAt w' b o t := by
  obtain ⟨kv, sv, h1, h2⟩ := h
  exact ⟨kv, sv, h1.below hb, h2.below hb⟩
/-- The ten cells, and what they hold. -/
theorem TAt.ten {w : World} {b o : Nat} {t : Tr} (h : TAt w b o t) : ∃ (A : Option Addr) (n c : Nat) (a2 : Option Addr) (s c2 : Nat), t.kids.length = n ∧ t.fld.set.length = s ∧
    Kid10 w b o (.int .i64 t.fld.op) (.slice A n c) (.int .i32 t.fld.rune) (.slice a2 s c2) (.int .i64 t.fld.at') (.int .i64 t.fld.cap) (.string t.fld.name) (.int .i64 t.fld.min) (.int .i64 t.fld.max) (.bool t.fld.lazy) ∧
    n ≤ 1172812402961 ∧ s ≤ 17592186044416 ∧ Kds w t.kids (.slice A n c) ∧ Rgs w (.slice a2 s c2) t.fld.set ∧ FldOk t.fld := by
  obtain ⟨kv, sv, h1, h2⟩ := h
  obtain ⟨A, n, c, a2, s, c2, e1, e2, e3, e4, e5, e6, e7, e8⟩ := h2.opened
  have e3 : kv = .slice A n c ∧ sv = .slice a2 s c2 := by
    simp only [treC] at e3
    injection e3 with e3
    have := congrArg Array.toList e3
    simp at this
    exact this
  obtain ⟨rfl, rfl⟩ := e3
  exact ⟨A, n, c, a2, s, c2, e1, e2, h1.ten, e4, e5, e6, e7, e8⟩
/-- A Kid of a tree in memory. -/
theorem TAt.kid {w : World} {ks : List Tr} {A : Option Addr} {n c : Nat} (h : Kds w ks (.slice A n c)) (k : Nat) (hk : k < ks.length) : ∃ b o, A = some ⟨b, o, none⟩ ∧ TAt w b (o + k * 10) ks[k] := by
  obtain ⟨b, o, hA, -, kv, sv, hC, hT⟩ := h.at' k hk
  exact ⟨b, o, hA, kv, sv, hC, hT⟩
/-- The one Kid of a tree in memory. -/
theorem TAt.one {w : World} {b o : Nat} {t x : Tr} (h : TAt w b o t) (hk : t.kids = [x]) : ∃ kb ko c, w.cell? ⟨b, o + 1, none⟩ = some (.slice (some ⟨kb, ko, none⟩) 1 c) ∧ TAt w kb ko x := by
  obtain ⟨A, n, cc, a2, s, c2, hn, -, ⟨-, d1, -⟩, -, -, hK, -⟩ := h.ten
  obtain ⟨kb, ko, rfl, hx⟩ := TAt.kid hK 0 (by simp [hk])
  rw [hk] at hn
  obtain rfl : n = 1 := by simpa using hn.symm
  refine ⟨kb, ko, cc, d1, ?_⟩
  have e : t.kids[0]'(by simp [hk]) = x := by simp [hk]
  rw [e, Nat.zero_mul, Nat.add_zero] at hx
  exact hx
end Go.Proofs.Ytnemacejaiifnaa
