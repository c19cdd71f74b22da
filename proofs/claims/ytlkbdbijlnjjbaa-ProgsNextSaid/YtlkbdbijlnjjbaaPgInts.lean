/- Lists of ints in memory: rows that the call owns, appends onto them. -/
import Derived.Test.YtlkbdbijlnjjbaaOwnRgs
import Derived.Deep.DeepAppendWide
set_option linter.unusedVariables false
namespace Go.Proofs.Ytlkbdbijlnjjbaa
open Go Go.RowKit

def R64 (x : Int) : Prop := -9223372036854775808 ≤ x ∧ x ≤ 9223372036854775807

def litsZ (l : List Int) : List Value := l.map (Value.int .i64)
theorem litsZ_length (l : List Int) : (litsZ l).length = l.length := by simp [litsZ]
theorem litsZ_append (a b : List Int) : litsZ (a ++ b) = litsZ a ++ litsZ b := by simp [litsZ]
theorem litsZ_get (l : List Int) (i : Nat) (h : i < l.length) : (litsZ l)[i]? = some (.int .i64 l[i]) := by simp [litsZ, h]
theorem litsZ_one (l : List Int) : ∀ u ∈ litsZ l, u.oneCell' = true := fun u hu => by
  obtain ⟨x, _, rfl⟩ := List.mem_map.1 hu
  rfl
/-- The slice value v holds the ints l. -/
def Zs (w : World) (v : Value) (l : List Int) : Prop :=
  ∃ a c, v = .slice a l.length c ∧ l.length ≤ c ∧ c ≤ maxLen ∧ (a = none → c = 0) ∧
    (l = [] ∨ ∃ b o, a = some ⟨b, o, none⟩ ∧ ∀ i (h : i < l.length), w.cell? ⟨b, o + i, none⟩ = some (.int .i64 l[i])) ∧ ∀ x ∈ l, R64 x
theorem Zs.below {w w' : World} {v : Value} {l : List Int} (h : Zs w v l) (hb : Below w.heap.size w w') : Zs w' v l := by
  obtain ⟨a, c, h1, h2, h3, h4, h5, h6⟩ := h
  refine ⟨a, c, h1, h2, h3, h4, ?_, h6⟩
  rcases h5 with h5 | ⟨b, o, e, hc⟩
  · exact .inl h5
  · exact .inr ⟨b, o, e, fun i hi => (hb.cell (World.block_lt_of_cell? w _ (hc i hi))).trans (hc i hi)⟩
theorem info_int8 : (Try.prog.info? 3).map (fun i => (i.zero, i.size, i.bytes)) = some (some (.int .i64 0), 1, 8) := by kernel_rfl
/-- The value v owns a row of the ints l, among the blocks from B on. -/
def OwnZ (w : World) (B : Nat) (v : Value) (l : List Int) : Prop := w.ownsRow B 3 1 v l.length (litsZ l) ∧ ∀ x ∈ l, R64 x
theorem own_sliceZ {w : World} {base : Nat} {e : TypeId} {n : Nat} {v : Value} {xs : List Value} (h : w.ownsRow base e 1 v n xs) : (v = .slice none 0 0 ∧ n = 0) ∨ ∃ g c, v = .slice (some ⟨g, 0, none⟩) n c ∧ n ≤ c ∧ c ≤ maxLen ∧ base ≤ g := by
  rcases h.2 with h | ⟨q, cap, cur, rfl, hb, _, hn, hm, _⟩
  · exact .inl h
  · exact .inr ⟨_, _, rfl, hn, hm, hb⟩
theorem addr_ofZ (g j : Nat) : (⟨g, 0, none⟩ : Addr).add j = ⟨g, 0 + j, none⟩ := by unfold Addr.add; split <;> simp_all
theorem OwnZ.zs {w : World} {B : Nat} {v : Value} {l : List Int} (h : OwnZ w B v l) : Zs w v l := by
  obtain ⟨ho, hi⟩ := h
  rcases own_sliceZ ho with ⟨rfl, hn⟩ | ⟨g, c, rfl, h1, h2, h3⟩
  · exact ⟨none, 0, by rw [hn], by omega, Nat.zero_le _, fun _ => rfl, .inl (List.eq_nil_of_length_eq_zero hn), hi⟩
  · refine ⟨_, c, rfl, h1, h2, fun e => (by cases e), .inr ⟨g, 0, rfl, fun i hi' => ?_⟩, hi⟩
    have q1 := ho.cells (g := g) rfl _ _ (litsZ_get l i hi')
    rw [addr_ofZ] at q1
    exact q1
theorem OwnZ.below {w w' : World} {B : Nat} {v : Value} {l : List Int} (h : OwnZ w B v l) (hb : Below w.heap.size w w') : OwnZ w' B v l :=
  ⟨h.1.kept (row := none) ⟨hb.os, hb.tape, hb.output, hb.size, fun k hk _ => hb.block k hk⟩ (by cases v.ownBlock <;> simp), h.2⟩
theorem OwnZ.mono {w : World} {B B' : Nat} {v : Value} {l : List Int} (h : OwnZ w B v l) (hb : B' ≤ B) : OwnZ w B' v l := ⟨Go.Joins.ownsRow_le h.1 hb, h.2⟩
theorem ownZ_none (w : World) (B : Nat) : OwnZ w B (.slice none 0 0) [] := ⟨World.ownsRow_nil _ _ _ _, by simp⟩
theorem ownZ_lit (w : World) (B : Nat) (hB : B ≤ w.heap.size) (l : List Int) (n : Nat) (cs : Array Value) (hc : cs.toList = litsZ l) (hn : l.length = n) (hm : n ≤ maxLen) (hi : ∀ x ∈ l, R64 x) : OwnZ (w.alloc (.cells cs 3)) B (.slice (some ⟨w.heap.size, 0, none⟩) n n) l := by
  subst hn
  have hs : cs.size = l.length := by rw [← Array.length_toList, hc, litsZ_length]
  refine ⟨⟨by rw [litsZ_length, Nat.mul_one], .inr ⟨w.heap.size, l.length, cs, rfl, hB, heap_alloc_new w _, Nat.le_refl _, hm, by omega, ?_⟩⟩, hi⟩
  rw [hc, Nat.mul_one]
  exact List.take_of_length_le (by rw [litsZ_length]; omega)

theorem zs_take {w : World} {A : Option Addr} {n c : Nat} {S : List Int} (h : Zs w (.slice A n c) S) (k : Nat) (hk : k ≤ n) : Zs w (.slice A k c) (S.take k) := by
  obtain ⟨a, c', h1, h2, h3, h4, h5, h6⟩ := h
  injection h1 with e1 e2 e3
  subst e1 e2 e3
  have hl : (S.take k).length = k := by rw [List.length_take]; omega
  refine ⟨A, c, by rw [hl], by omega, h3, h4, ?_, fun r hr => h6 r (List.mem_of_mem_take hr)⟩
  rcases h5 with h5 | ⟨b, o, e, hc⟩
  · left
    rw [h5]
    simp
  · refine .inr ⟨b, o, e, fun i hi => ?_⟩
    have hi' : i < S.length := by omega
    have := hc i hi'
    simpa using this
theorem zs_nil (w : World) (A : Option Addr) (c : Nat) (hc : c ≤ maxLen) (hA : A = none → c = 0) : Zs w (.slice A 0 c) [] := ⟨A, c, rfl, Nat.zero_le _, hc, hA, .inl rfl, by simp⟩
theorem zs_new (w : World) (x : Int) (h : R64 x) : Zs (w.alloc (.cells #[.int .i64 x] 3)) (.slice (some ⟨w.heap.size, 0, none⟩) 1 1) [x] := by
  refine ⟨_, 1, rfl, by simp, by unfold maxLen; omega, fun e => (by cases e), .inr ⟨w.heap.size, 0, rfl, fun i hi => ?_⟩, by simpa using h⟩
  have : i = 0 := by simpa using hi
  subst this
  simp

/-- An append of ints onto a row of the call's own. -/
theorem append_zs {w : World} {ops : Array Oper} {rest : List Oper} {o : Oper} {a : Act} {Q : Exit → Act → World → Prop} (hgd : o.guard = none) (x y : Operand)
    (ho : o.op = .call { callee := .builtin .append, args := #[x, y], argTypes := #[29, 29] })
    (base : Nat) (v : Value) (O : List Int) (hs : a.eval x = v) (hown : OwnZ w base v O)
    (A : Option Addr) (m c : Nat) (K : List Int) (hx : a.eval y = .slice A m c) (ht : Zs w (.slice A m c) K) (hn : O.length + K.length ≤ 20000000000000) (hbase : base ≤ w.heap.size)
    (h : ∀ v' w', OwnZ w' base v' (O ++ K) → w.grownBy w' v.ownBlock → wpList Try.prog ops Q rest (a.put o.dst v') w') : wpList Try.prog ops Q (o :: rest) a w := by
  obtain ⟨i, hi, hz, hsize, hby⟩ := info_parts info_int8
  obtain ⟨A', c', h1, h2, h3, h4, h5, h6⟩ := ht
  injection h1 with e1 e2 e3
  subst e1 e2 e3
  have hall : ∀ r ∈ O ++ K, R64 r := fun r hr => (List.mem_append.1 hr).elim (hown.2 r) (h6 r)
  rcases A with _ | ad
  · have hc := h4 rfl
    have h0 : K.length = 0 := by omega
    have hn0 : K = [] := List.eq_nil_of_length_eq_zero h0
    rw [h0, hc] at hx
    refine wpList_append_own_none hgd x y 29 ho base 3 i 1 Try.underlying29 hi v O.length (litsZ O) hs hown.1 hx (h v w ?_ (World.grownBy.refl w _))
    rw [hn0, List.append_nil]
    exact hown
  · refine wpList_append_own_wide w hgd x y 29 ho base 3 i (.int .i64 0) 1 8 Try.underlying29 hi hz hsize hby rfl (by omega) v O.length (litsZ O) hs hown.1 ad K.length c (litsZ K) hx (by rw [litsZ_length]; omega) ?_ (litsZ_one K) (by unfold maxLen; omega) (by omega) hbase (fun v' w' g1 g2 _ => h v' w' ⟨?_, hall⟩ g2)
    · intro j u hu
      have hj : j < K.length := by
        have := (List.getElem?_eq_some_iff.1 hu).1
        rwa [litsZ_length] at this
      rw [litsZ_get K j hj] at hu
      rcases h5 with h5 | ⟨b, off, e, hc⟩
      · rw [h5] at hj
        simp at hj
      · have e := Option.some.inj e
        subst e
        have hadd : (⟨b, off, none⟩ : Addr).add j = ⟨b, off + j, none⟩ := by unfold Addr.add; split <;> simp_all
        rw [hadd, hc j hj]
        exact hu
    · rw [litsZ_append, List.length_append]
      exact g1

end Go.Proofs.Ytlkbdbijlnjjbaa
