/- Programs in memory: what a value holds, and that it stays. No condition. -/
import Derived.Test.YtlkbdbijlnjjbaaPgMath
import Derived.Test.YtlkbdbijlnjjbaaPgInts
set_option linter.unusedVariables false
namespace Go.Proofs.Ytlkbdbijlnjjbaa
open Go Go.RowKit

/-- A bool that says P; what lay below stays. -/
def SaysG (P : Prop) (w : World) (e : Ending) (w' : World) : Prop := ∃ B : Bool, e = .returned (.bool B) ∧ (B = true ↔ P) ∧ Below w.heap.size w w'
theorem below_steps {w W W' : World} (h : Below w.heap.size w W) (k : Below W.heap.size W W') : Below w.heap.size w W' := h.trans (k.mono h.size)
theorem below_of_drew {w w' : World} (h : Below w.drew.heap.size w.drew w') : Below w.heap.size w w' := (Below.refl _ w).drew.trans h
theorem cell_on {w w' : World} {b j : Nat} {u : Value} (hb : Below w.heap.size w w') (h : w.cell? ⟨b, j, none⟩ = some u) : w'.cell? ⟨b, j, none⟩ = some u := (hb.cell (World.block_lt_of_cell? w _ h)).trans h
def Five (w : World) (b o : Nat) (x0 x1 x2 x3 x4 : Value) : Prop :=
  w.cell? ⟨b, o, none⟩ = some x0 ∧ w.cell? ⟨b, o + 1, none⟩ = some x1 ∧ w.cell? ⟨b, o + 2, none⟩ = some x2 ∧ w.cell? ⟨b, o + 3, none⟩ = some x3 ∧ w.cell? ⟨b, o + 4, none⟩ = some x4
theorem Five.below {w w' : World} {b o : Nat} {x0 x1 x2 x3 x4 : Value} (h : Five w b o x0 x1 x2 x3 x4) (hb : Below w.heap.size w w') : Five w' b o x0 x1 x2 x3 x4 := by
  obtain ⟨h0, h1, h2, h3, h4⟩ := h
  have g : ∀ j u, w.cell? ⟨b, j, none⟩ = some u → w'.cell? ⟨b, j, none⟩ = some u := fun j u hu => (hb.cell (World.block_lt_of_cell? w _ hu)).trans hu
  exact ⟨g _ _ h0, g _ _ h1, g _ _ h2, g _ _ h3, g _ _ h4⟩
/-- The five cells of an instruction, the Set's value being v. -/
def insC (x : Ins) (v : Value) : Array Value := #[.int .i64 x.op, .int .i64 x.out, .int .i64 x.arg, v, .int .i64 x.at']
def Bds (x : Ins) : Prop := R64 x.op ∧ R64 x.out ∧ R64 x.arg ∧ R64 x.at' ∧ x.set.length ≤ 17592186044416
def InsV (w : World) (x : Ins) (v : Value) : Prop := ∃ (a : Option Addr) (c : Nat), v = .agg (insC x (.slice a x.set.length c)) ∧ Rgs w (.slice a x.set.length c) x.set ∧ Bds x
/-- The slice value v holds the instructions L. -/
def Inss (w : World) (v : Value) (L : List Ins) : Prop :=
  ∃ (A : Option Addr) (c : Nat), v = .slice A L.length c ∧ L.length ≤ c ∧ c ≤ maxLen ∧ (A = none → c = 0) ∧
    (L = [] ∨ ∃ b o, A = some ⟨b, o, none⟩ ∧ ∀ (i : Nat) (h : i < L.length), ∃ (a : Option Addr) (c : Nat),
      Five w b (o + i * 5) (.int .i64 L[i].op) (.int .i64 L[i].out) (.int .i64 L[i].arg) (.slice a L[i].set.length c) (.int .i64 L[i].at') ∧ Rgs w (.slice a L[i].set.length c) L[i].set ∧ Bds L[i])
theorem Inss.below {w w' : World} {v : Value} {L : List Ins} (h : Inss w v L) (hb : Below w.heap.size w w') : Inss w' v L := by
  obtain ⟨A, c, h1, h2, h3, h4, h5⟩ := h
  refine ⟨A, c, h1, h2, h3, h4, ?_⟩
  rcases h5 with h5 | ⟨b, o, e, hc⟩
  · exact .inl h5
  · refine .inr ⟨b, o, e, fun i hi => ?_⟩
    obtain ⟨a, c, k1, k2, k3⟩ := hc i hi
    exact ⟨a, c, k1.below hb, k2.below hb, k3⟩
theorem InsV.below {w w' : World} {x : Ins} {v : Value} (h : InsV w x v) (hb : Below w.heap.size w w') : InsV w' x v := by
  obtain ⟨a, c, h1, h2, h3⟩ := h
  exact ⟨a, c, h1, h2.below hb, h3⟩
/-- The instruction that stands at a place. -/
theorem Inss.at' {w : World} {A : Option Addr} {n c : Nat} {L : List Ins} (h : Inss w (.slice A n c) L) (i : Nat) (hi : i < L.length) :
    ∃ (b o : Nat) (x : Ins) (a : Option Addr) (s c2 : Nat), A = some ⟨b, o, none⟩ ∧ L[i] = x ∧ x ∈ L ∧ x.set.length = s ∧ atI L i = x ∧
      Five w b (o + i * 5) (.int .i64 x.op) (.int .i64 x.out) (.int .i64 x.arg) (.slice a s c2) (.int .i64 x.at') ∧ Rgs w (.slice a s c2) x.set ∧ Bds x ∧
      InsV w x (.agg #[.int .i64 x.op, .int .i64 x.out, .int .i64 x.arg, .slice a s c2, .int .i64 x.at']) := by
  obtain ⟨A', c', h1, h2, h3, h4, h5⟩ := h
  injection h1 with e1 e2 e3
  subst e1 e2 e3
  rcases h5 with h5 | ⟨b, o, e, hc⟩
  · rw [h5] at hi
    simp at hi
  · obtain ⟨a, c2, k1, k2, k3⟩ := hc i hi
    exact ⟨b, o, _, a, _, c2, e, rfl, List.getElem_mem hi, rfl, by simp [atI, hi], k1, k2, k3, a, c2, rfl, k2, k3⟩
/-- The int that stands at a place. -/
theorem Zs.at' {w : World} {A : Option Addr} {n c : Nat} {L : List Int} (h : Zs w (.slice A n c) L) (i : Nat) (hi : i < L.length) :
    ∃ (b o : Nat) (x : Int), A = some ⟨b, o, none⟩ ∧ L[i] = x ∧ x ∈ L ∧ w.cell? ⟨b, o + i, none⟩ = some (.int .i64 x) ∧ R64 x := by
  obtain ⟨A', c', h1, h2, h3, h4, h5, h6⟩ := h
  injection h1 with e1 e2 e3
  subst e1 e2 e3
  rcases h5 with h5 | ⟨b, o, e, hc⟩
  · rw [h5] at hi
    simp at hi
  · exact ⟨b, o, _, e, rfl, List.getElem_mem hi, hc i hi, h6 _ (List.getElem_mem hi)⟩
/-- The value v holds the program p. -/
def PgV (w : World) (p : Pg) (v : Value) : Prop := ∃ u, v = .agg #[u, .int .i64 p.start, .int .i64 p.caps] ∧ Inss w u p.ins ∧ R64 p.start ∧ R64 p.caps
theorem PgV.below {w w' : World} {p : Pg} {v : Value} (h : PgV w p v) (hb : Below w.heap.size w w') : PgV w' p v := by
  obtain ⟨u, h1, h2, h3⟩ := h
  exact ⟨u, h1, h2.below hb, h3⟩
theorem PgV.opened {w : World} {p : Pg} {v : Value} (h : PgV w p v) : ∃ (A : Option Addr) (n c : Nat), p.ins.length = n ∧ v = .agg #[.slice A n c, .int .i64 p.start, .int .i64 p.caps] ∧ Inss w (.slice A n c) p.ins ∧ R64 p.start ∧ R64 p.caps ∧ n ≤ 9223372036854775807 := by
  obtain ⟨u, rfl, hI, h3, h4⟩ := h
  obtain ⟨A, c, rfl, h5, h6, h7⟩ := hI
  exact ⟨A, _, c, rfl, rfl, ⟨A, c, rfl, h5, h6, h7⟩, h3, h4, by unfold maxLen at h6; omega⟩
/-- A box of three, of five cells. -/
theorem box_at (w : World) (t : TypeId) (cs : Array Value) (j : Nat) (u : Value) (h : cs[j]? = some u) : (w.alloc (.cells cs t)).cell? ⟨w.heap.size, j, none⟩ = some u := by
  rw [World.cell?_alloc_at _ _ _ _ rfl, h]
theorem box3_new (w : World) (t : TypeId) (x0 x1 x2 : Value) {W : World} (h : w.alloc (.cells #[x0, x1, x2] t) = W) :
    Below w.heap.size w W ∧ W.cell? ⟨w.heap.size, 0, none⟩ = some x0 ∧ W.cell? ⟨w.heap.size, 1, none⟩ = some x1 ∧ W.cell? ⟨w.heap.size, 2, none⟩ = some x2 ∧ W.heap.size = w.heap.size + 1 := by
  subst h
  exact ⟨(Below.refl _ _).alloc (Nat.le_refl _) _, box_at w t _ 0 _ rfl, box_at w t _ 1 _ rfl, box_at w t _ 2 _ rfl, World.size_alloc _ _⟩
theorem box5_new (w : World) (t : TypeId) (x0 x1 x2 x3 x4 : Value) {W : World} (h : w.alloc (.cells #[x0, x1, x2, x3, x4] t) = W) :
    Below w.heap.size w W ∧ (W.cell? ⟨w.heap.size, 0, none⟩ = some x0 ∧ W.cell? ⟨w.heap.size, 1, none⟩ = some x1 ∧ W.cell? ⟨w.heap.size, 2, none⟩ = some x2 ∧ W.cell? ⟨w.heap.size, 3, none⟩ = some x3 ∧ W.cell? ⟨w.heap.size, 4, none⟩ = some x4) ∧ W.heap.size = w.heap.size + 1 := by
  subst h
  exact ⟨(Below.refl _ _).alloc (Nat.le_refl _) _, ⟨box_at w t _ 0 _ rfl, box_at w t _ 1 _ rfl, box_at w t _ 2 _ rfl, box_at w t _ 3 _ rfl, box_at w t _ 4 _ rfl⟩, World.size_alloc _ _⟩
end Go.Proofs.Ytlkbdbijlnjjbaa
