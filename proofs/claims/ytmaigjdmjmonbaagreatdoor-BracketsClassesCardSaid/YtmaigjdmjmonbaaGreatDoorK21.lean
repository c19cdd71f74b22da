/- Texts merged by program: RAt. No condition. -/
import Derived.Test.YtmaigjdmjmonbaaGreatDoorK13
import Derived.Maps.AppendAt
set_option linter.unusedVariables false
/- An append of ranges onto a row of the call's own, with the place of the new row. -/
namespace Go.Proofs.YtmaigjdmjmonbaaGreatDoor
open Go Go.RowKit

/-- An append of ranges onto a row of the call's own, with the place of the new row. -/
theorem append_rgs_at {w : World} {ops : Array Oper} {rest : List Oper} {o : Oper} {a : Act} {Q : Exit → Act → World → Prop} (hgd : o.guard = none) (x y : Operand)
    (ho : o.op = .call { callee := .builtin .append, args := #[x, y], argTypes := #[24, 24] })
    (base : Nat) (v : Value) (O : List (Int × Int)) (hs : a.eval x = v) (hown : OwnR w base v O)
    (g : Nat) (x1 x2 : Int) (hx : a.eval y = .slice (some ⟨g, 0, none⟩) 1 1) (ht : Rgs w (.slice (some ⟨g, 0, none⟩) 1 1) [(x1, x2)]) (hn : O.length + 1 ≤ 17592186044416) (hbase : base ≤ w.heap.size)
    (h : ∀ v' w', OwnR w' base v' (O ++ [(x1, x2)]) → w.grownBy w' v.ownBlock → (v'.ownBlock = v.ownBlock ∨ v'.ownBlock = some w.heap.size) → wpList Tryz.prog ops Q rest (a.put o.dst v') w') : wpList Tryz.prog ops Q (o :: rest) a w := by
  obtain ⟨i, hi, hz, hsize, hby⟩ := info_parts info_range
  obtain ⟨A', c', h1, h2, h3, h4, h5, h6⟩ := ht
  have hall : AllI32 (O ++ [(x1, x2)]) := fun r hr => (List.mem_append.1 hr).elim (hown.2 r) (h6 r)
  injection h1 with e1 e2 e3
  subst e1 e3
  refine wpList_append_own_at w hgd x y 24 ho base 43 i (.agg #[.int .i32 0, .int .i32 0]) 2 8 Tryz.underlying24 hi hz hsize hby rfl (by omega) v O.length (cellsR O) hs hown.1 ⟨g, 0, none⟩ 1 1 (cellsR [(x1, x2)]) hx (by rw [cellsR_length]; rfl) ?_ (cellsR_one _) (by unfold maxLen; omega) (by omega) hbase (fun v' w' g1 g2 _ g3 => h v' w' ⟨?_, hall⟩ g2 g3)
  · intro j u hu
    obtain ⟨q, hq, hh⟩ := cellsR_get [(x1, x2)] j u hu
    rcases h5 with h5 | ⟨b, off, e, hc⟩
    · cases h5
    · have e := Option.some.inj e
      have e' := congrArg Addr.off e
      replace e := congrArg Addr.block e
      dsimp only at e e'
      subst e e'
      rw [addr_plus]
      rcases hh with ⟨rfl, rfl⟩ | ⟨rfl, rfl⟩
      · exact (hc q hq).1
      · have := (hc q hq).2
        rw [show 0 + (q * 2 + 1) = 0 + q * 2 + 1 by omega]
        exact this
  · rw [cellsR_append, List.length_append]
    exact g1

end Go.Proofs.YtmaigjdmjmonbaaGreatDoor
