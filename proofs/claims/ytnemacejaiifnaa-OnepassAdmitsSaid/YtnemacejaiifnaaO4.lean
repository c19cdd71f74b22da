/- Texts merged by program: OwnRgs. No condition. -/
import Derived.Test.YtnemacejaiifnaaO3
import Derived.OwnWalk
import Derived.Laws.OwnMore
import Derived.Laws.AppendOwnNone
import Derived.Lib.SmallJoins
set_option linter.unusedVariables false
/- Rows of ranges that the call makes itself: what they hold, appends onto them. -/
set_option linter.unusedSimpArgs false
namespace Go.Proofs.Ytnemacejaiifnaa
open Go Go.RowKit

def cellsR (k : List (Int × Int)) : List Value := k.flatMap fun r => [.int .i32 r.1, .int .i32 r.2]
theorem cellsR_nil : cellsR [] = [] := rfl
theorem cellsR_append (a b : List (Int × Int)) : cellsR (a ++ b) = cellsR a ++ cellsR b := by simp [cellsR]
theorem cellsR_length : ∀ k : List (Int × Int), (cellsR k).length = k.length * 2
  | [] => rfl
  | r :: k => by
    have h := cellsR_length k
    have e : cellsR (r :: k) = [.int .i32 r.1, .int .i32 r.2] ++ cellsR k := rfl
    rw [e, List.length_append, h]
    simp
    omega
theorem cellsR_at : ∀ (k : List (Int × Int)) (i : Nat) (h : i < k.length), (cellsR k)[i * 2]? = some (.int .i32 k[i].1) ∧ (cellsR k)[i * 2 + 1]? = some (.int .i32 k[i].2)
  | [], i, h => by simp at h
  | r :: k, 0, h => ⟨rfl, rfl⟩
  | r :: k, i + 1, h => by
    have e : cellsR (r :: k) = .int .i32 r.1 :: .int .i32 r.2 :: cellsR k := rfl
    have h' := cellsR_at k i (by simpa using h)
    rw [e, show (i + 1) * 2 = i * 2 + 1 + 1 by omega]
    simpa using h'
theorem cellsR_get (k : List (Int × Int)) (j : Nat) (u : Value) (h : (cellsR k)[j]? = some u) : ∃ i, ∃ hi : i < k.length, (j = i * 2 ∧ u = .int .i32 k[i].1) ∨ (j = i * 2 + 1 ∧ u = .int .i32 k[i].2) := by
  have hl := (List.getElem?_eq_some_iff.1 h).1
  rw [cellsR_length] at hl
  have hi : j / 2 < k.length := by omega
  obtain ⟨h1, h2⟩ := cellsR_at k (j / 2) hi
  refine ⟨j / 2, hi, ?_⟩
  by_cases hj : j % 2 = 0
  · left
    have e : j = j / 2 * 2 := by omega
    refine ⟨e, ?_⟩
    rw [← e, h] at h1
    exact Option.some.inj h1
  · right
    have e : j = j / 2 * 2 + 1 := by omega
    refine ⟨e, ?_⟩
    rw [← e, h] at h2
    exact Option.some.inj h2
theorem cellsR_set (o : List (Int × Int)) (p : Int × Int) (z : Int) : (cellsR (o ++ [p])).set (o.length * 2 + 1) (.int .i32 z) = cellsR (o ++ [(p.1, z)]) := by
  have e : ∀ q : Int × Int, cellsR (o ++ [q]) = cellsR o ++ [.int .i32 q.1, .int .i32 q.2] := fun q => by rw [cellsR_append]; rfl
  rw [e, e, List.set_append_right _ _ (by rw [cellsR_length]; omega), cellsR_length]
  simp
theorem cellsR_one (k : List (Int × Int)) : ∀ u ∈ cellsR k, u.oneCell' = true := fun u hu => by
  obtain ⟨j, hj⟩ := List.getElem?_of_mem hu
  obtain ⟨i, _, ⟨_, rfl⟩ | ⟨_, rfl⟩⟩ := cellsR_get k j u hj
  · rfl
  · rfl

theorem info_range : (Try.prog.info? 131).map (fun i => (i.zero, i.size, i.bytes)) = some (some (.agg #[.int .i32 0, .int .i32 0]), 2, 8) := by kernel_rfl
def AllI32 (k : List (Int × Int)) : Prop := ∀ r ∈ k, I32 r.1 ∧ I32 r.2
/-- The value v owns a row of the ranges k, among the blocks from B on. -/
def OwnR (w : World) (B : Nat) (v : Value) (k : List (Int × Int)) : Prop := w.ownsRow B 131 2 v k.length (cellsR k) ∧ AllI32 k
theorem own_slice2 {w : World} {base : Nat} {e : TypeId} {n : Nat} {v : Value} {xs : List Value} (h : w.ownsRow base e 2 v n xs) : (v = .slice none 0 0 ∧ n = 0) ∨ ∃ g c, v = .slice (some ⟨g, 0, none⟩) n c ∧ n ≤ c ∧ c ≤ maxLen ∧ base ≤ g := by
  rcases h.2 with h | ⟨q, cap, cur, rfl, hb, _, hn, hm, _⟩
  · exact .inl h
  · exact .inr ⟨_, _, rfl, hn, hm, hb⟩
theorem OwnR.rgs {w : World} {B : Nat} {v : Value} {k : List (Int × Int)} (h : OwnR w B v k) : Rgs w v k := by
  obtain ⟨ho, hi⟩ := h
  rcases own_slice2 ho with ⟨rfl, hn⟩ | ⟨g, c, rfl, h1, h2, h3⟩
  · exact ⟨none, 0, by rw [hn], by omega, Nat.zero_le _, fun _ => rfl, .inl (List.eq_nil_of_length_eq_zero hn), hi⟩
  · refine ⟨_, c, rfl, h1, h2, fun e => (by cases e), .inr ⟨g, 0, rfl, fun i hi' => ?_⟩, hi⟩
    obtain ⟨e1, e2⟩ := cellsR_at k i hi'
    have q1 := ho.cells (g := g) rfl _ _ e1
    have q2 := ho.cells (g := g) rfl _ _ e2
    have a1 : ∀ j, (⟨g, 0, none⟩ : Addr).add j = ⟨g, 0 + j, none⟩ := fun j => by unfold Addr.add; split <;> simp_all
    rw [a1] at q1 q2
    exact ⟨q1, q2⟩
theorem OwnR.below {w w' : World} {B : Nat} {v : Value} {k : List (Int × Int)} (h : OwnR w B v k) (hb : Below w.heap.size w w') : OwnR w' B v k :=
  ⟨h.1.kept (row := none) ⟨hb.os, hb.tape, hb.output, hb.size, fun k hk _ => hb.block k hk⟩ (by cases v.ownBlock <;> simp), h.2⟩
theorem OwnR.mono {w : World} {B B' : Nat} {v : Value} {k : List (Int × Int)} (h : OwnR w B v k) (hb : B' ≤ B) : OwnR w B' v k := ⟨Go.Joins.ownsRow_le h.1 hb, h.2⟩
theorem own_none (w : World) (B : Nat) : OwnR w B (.slice none 0 0) [] := ⟨World.ownsRow_nil _ _ _ _, by simp [AllI32]⟩

theorem rgs_take {w : World} {A : Option Addr} {n c : Nat} {S : List (Int × Int)} (h : Rgs w (.slice A n c) S) (k : Nat) (hk : k ≤ n) : Rgs w (.slice A k c) (S.take k) := by
  obtain ⟨a, c', h1, h2, h3, h4, h5, h6⟩ := h
  injection h1 with e1 e2 e3
  subst e1 e2 e3
  have hl : (S.take k).length = k := by rw [List.length_take]; omega
  refine ⟨A, c, by rw [hl], by omega, h3, h4, ?_, fun r hr => h6 r (List.mem_of_mem_take hr)⟩
  rcases h5 with h5 | ⟨b, o, e, hc⟩
  · left
    rw [h5]
    simp
  · refine .inr ⟨b, o, e, fun i hi => ?_⟩
    have hi' : i < S.length := by omega
    have := hc i hi'
    simpa using this
theorem rgs_drop {w : World} {b o n c : Nat} {S : List (Int × Int)} (h : Rgs w (.slice (some ⟨b, o, none⟩) n c) S) (k : Nat) (hk : k ≤ n) : Rgs w (.slice (if c = k then some ⟨b, o, none⟩ else some ⟨b, o + k * 2, none⟩) (n - k) (c - k)) (S.drop k) := by
  obtain ⟨a, c', h1, h2, h3, h4, h5, h6⟩ := h
  injection h1 with e1 e2 e3
  subst e1 e2 e3
  have hl : (S.drop k).length = S.length - k := List.length_drop
  refine ⟨_, c - k, by rw [hl], by omega, by omega, fun e => ?_, ?_, fun r hr => h6 r (List.mem_of_mem_drop hr)⟩
  · split at e <;> cases e
  · rcases h5 with h5 | ⟨b', o', e, hc⟩
    · left
      rw [h5]
      simp
    · injection e with e
      injection e with e1 e2
      subst e1 e2
      by_cases hck : c = k
      · left
        exact List.eq_nil_of_length_eq_zero (by omega)
      · refine .inr ⟨b, o + k * 2, by rw [if_neg hck], fun i hi => ?_⟩
        have hi' : k + i < S.length := by omega
        have := hc (k + i) hi'
        rw [List.getElem_drop, show o + k * 2 + i * 2 = o + (k + i) * 2 by omega]
        exact this
theorem rgs_new (w : World) (x1 x2 : Int) (h1 : I32 x1) (h2 : I32 x2) : Rgs (w.alloc (.cells #[.int .i32 x1, .int .i32 x2] 131)) (.slice (some ⟨w.heap.size, 0, none⟩) 1 1) [(x1, x2)] := by
  refine ⟨_, 1, rfl, by simp, by unfold maxLen; omega, fun e => (by cases e), .inr ⟨w.heap.size, 0, rfl, fun i hi => ?_⟩, by simp; exact ⟨h1, h2⟩⟩
  have : i = 0 := by simpa using hi
  subst this
  constructor <;> simp

/-- An append of ranges onto a row of the call's own. -/
theorem append_rgs {w : World} {ops : Array Oper} {rest : List Oper} {o : Oper} {a : Act} {Q : Exit → Act → World → Prop} (hgd : o.guard = none) (x y : Operand)
    (ho : o.op = .call { callee := .builtin .append, args := #[x, y], argTypes := #[24, 24] })
    (base : Nat) (v : Value) (O : List (Int × Int)) (hs : a.eval x = v) (hown : OwnR w base v O)
    (A : Option Addr) (m c : Nat) (K : List (Int × Int)) (hx : a.eval y = .slice A m c) (ht : Rgs w (.slice A m c) K) (hn : O.length + K.length ≤ 17592186044416) (hbase : base ≤ w.heap.size)
    (h : ∀ v' w', OwnR w' base v' (O ++ K) → w.grownBy w' v.ownBlock → wpList Try.prog ops Q rest (a.put o.dst v') w') : wpList Try.prog ops Q (o :: rest) a w := by
  obtain ⟨i, hi, hz, hsize, hby⟩ := info_parts info_range
  obtain ⟨A', c', h1, h2, h3, h4, h5, h6⟩ := ht
  injection h1 with e1 e2 e3
  subst e1 e2 e3
  have hall : AllI32 (O ++ K) := fun r hr => (List.mem_append.1 hr).elim (hown.2 r) (h6 r)
  rcases A with _ | ad
  · have hc := h4 rfl
    have h0 : K.length = 0 := by omega
    have hn0 : K = [] := List.eq_nil_of_length_eq_zero h0
    rw [h0, hc] at hx
    refine wpList_append_own_none hgd x y 24 ho base 131 i 2 Try.underlying24 hi v O.length (cellsR O) hs hown.1 hx (h v w ?_ (World.grownBy.refl w _))
    rw [hn0, List.append_nil]
    exact hown
  · refine wpList_append_own w hgd x y 24 ho base 131 i (.agg #[.int .i32 0, .int .i32 0]) 2 8 Try.underlying24 hi hz hsize hby rfl (by omega) v O.length (cellsR O) hs hown.1 ad K.length c (cellsR K) hx (by rw [cellsR_length]) ?_ (cellsR_one K) (by unfold maxLen; omega) (by omega) hbase (fun v' w' g1 g2 _ => h v' w' ⟨?_, hall⟩ g2)
    · intro j u hu
      obtain ⟨q, hq, hh⟩ := cellsR_get K j u hu
      rcases h5 with h5 | ⟨b, off, e, hc⟩
      · rw [h5] at hq
        simp at hq
      · have e := Option.some.inj e
        subst e
        have hadd : (⟨b, off, none⟩ : Addr).add j = ⟨b, off + j, none⟩ := by unfold Addr.add; split <;> simp_all
        rw [hadd]
        rcases hh with ⟨rfl, rfl⟩ | ⟨rfl, rfl⟩
        · exact (hc q hq).1
        · have := (hc q hq).2
          rw [show off + (q * 2 + 1) = off + q * 2 + 1 by omega]
          exact this
    · rw [cellsR_append, List.length_append]
      exact g1
theorem addr_plus (g j : Nat) : (⟨g, 0, none⟩ : Addr).add j = ⟨g, 0 + j, none⟩ := by unfold Addr.add; split <;> simp_all
end Go.Proofs.Ytnemacejaiifnaa
