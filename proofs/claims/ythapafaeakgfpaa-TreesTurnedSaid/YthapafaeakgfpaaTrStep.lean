/- An append of trees onto a row of the call's own, as one operation of a region that draws its order. No condition. -/
import Derived.Test.YthapafaeakgfpaaTrRow
set_option linter.unusedVariables false
namespace Go.Proofs.Ythapafaeakgfpaa
open Go Go.RowKit

theorem step_append_trs {w : World} {ops : Array Oper} {o : Oper} {a : Act} {Kk : Act → World → Prop} {Q : Exit → Act → World → Prop} {E : Prop} (hgd : o.guard = none) (x y : Operand)
    (ho : o.op = .call { callee := .builtin .append, args := #[x, y], argTypes := #[23, 23] })
    (F : Nat → Prop) (base : Nat) (v : Value) (T : List Tr) (hs : a.eval x = v) (hown : OwnT F w base v T)
    (ad : Addr) (m c : Nat) (K : List Tr) (hx : a.eval y = .slice (some ad) m c) (ht : KdsE (fun b => Off v b ∧ F b) w K (.slice (some ad) m c)) (hn : T.length + K.length ≤ 1172812402961) (hbase : base ≤ w.heap.size)
    (h : ∀ v' w', OwnT F w' base v' (T ++ K) → w.grownBy w' v.ownBlock → (v'.ownBlock = v.ownBlock ∨ v'.ownBlock = some w.heap.size) → Kk (a.put o.dst v') w') :
    if Region.wanted o (yielded ops a.tmps) = true then Oper.wp Try.prog o a w Kk Q else E := by
  have hw : Region.wanted o (yielded ops a.tmps) = true := by
    unfold Region.wanted
    rw [hgd]
  rw [if_pos hw]
  obtain ⟨i, hi, hz, hsize, hby⟩ := info_parts info_tree
  obtain ⟨L, hl, hro, hT⟩ := hown
  obtain ⟨A', c', h1, h2, h3, h6, h4, h5⟩ := ht
  injection h1 with e1 e2 e3
  subst e1 e2 e3
  have hAT := allTen hl hT
  obtain ⟨L2, hl2, hL2⟩ : ∃ L2 : List (Array Value), L2.length = K.length ∧ ∀ i (hi : i < L2.length), (∀ j (hj : j < L2[i].size), w.cell? (ad.add (i * 10 + j)) = some L2[i][j]) ∧ ∀ h : i < K.length, TreF (fun b => Off v b ∧ F b) w K[i] (.agg L2[i]) := by
    refine choose_list (P := fun i (cs : Array Value) => (∀ j (hj : j < cs.size), w.cell? (ad.add (i * 10 + j)) = some cs[j]) ∧ ∀ h : i < K.length, TreF (fun b => Off v b ∧ F b) w K[i] (.agg cs)) fun i hi => ?_
    rcases h5 with h5 | ⟨b, off, e, hc⟩
    · rw [h5] at hi
      simp at hi
    · injection e with e
      subst e
      obtain ⟨cs, q1, q2⟩ := hc i hi
      refine ⟨cs, fun j hj => ?_, fun _ => q2⟩
      rw [show (⟨b, off, none⟩ : Addr).add (i * 10 + j) = ⟨b, off + i * 10 + j, none⟩ by unfold Addr.add; split <;> simp_all [Nat.add_assoc]]
      exact q1 j hj
  have hA2 : AllTen L2 := allTen (T := K) hl2 fun i h h' => (hL2 i h').2 h
  have hnw : ∀ j u, (cells10 L2)[j]? = some u → w.cell? (ad.add j) = some u := fun j u hu => by
    obtain ⟨q, hq, k, hk, rfl, hh⟩ := cells10_get hA2 j u hu
    obtain ⟨hks, rfl⟩ := Array.getElem?_eq_some_iff.1 hh
    exact (hL2 q hq).1 k hks
  obtain ⟨v', w', hr, g1, g2, -, g3⟩ := run_append_own_at (P := Try.prog) w base 23 o.type 27 i _ 10 120 Try.underlying23 hi hz hsize hby rfl (by omega) v T.length (cells10 L) hro ad K.length c (cells10 L2) (by rw [cells10_length L2 hA2, hl2]) hnw (cells10_one hA2) (by unfold maxLen; omega) (by omega) hbase
  unfold Oper.wp execOp
  simp only [ho, resolve, invoke, builtin, Sem.run_bind, Sem.run_pure, Result.andThen_ok, List.map_toArray, List.map_cons, List.map_nil, hs, hx, hr]
  exact h v' w' (ownT_appended hl hT hl2 (fun i h h' => (hL2 i h').2 h) g1 g2 g3) g2 g3
end Go.Proofs.Ythapafaeakgfpaa
