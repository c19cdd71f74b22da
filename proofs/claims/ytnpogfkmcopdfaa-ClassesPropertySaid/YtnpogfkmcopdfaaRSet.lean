/- The document's sets with names: a literal of pairs as a fresh row of ranges. -/
import Derived.Test.YtnpogfkmcopdfaaNorm
set_option linter.unusedVariables false
namespace Go.Proofs.Ytnpogfkmcopdfaa
open Go Go.RowKit

/-- An append of one range onto a row of the call's own, at a step of a region that draws its order. -/
theorem step_append_rgs {w : World} {ops : Array Oper} {o : Oper} {a : Act} {Kk : Act → World → Prop} {Q : Exit → Act → World → Prop} {E : Prop} (hgd : o.guard = none) (x y : Operand)
    (ho : o.op = .call { callee := .builtin .append, args := #[x, y], argTypes := #[23, 23] })
    (base : Nat) (v : Value) (O : List (Int × Int)) (hs : a.eval x = v) (hown : OwnR w base v O)
    (g : Nat) (x1 x2 : Int) (hx : a.eval y = .slice (some ⟨g, 0, none⟩) 1 1) (ht : Rgs w (.slice (some ⟨g, 0, none⟩) 1 1) [(x1, x2)]) (hn : O.length + 1 ≤ 17592186044416) (hbase : base ≤ w.heap.size)
    (h : ∀ v' w', OwnR w' base v' (O ++ [(x1, x2)]) → w.grownBy w' v.ownBlock → Kk (a.put o.dst v') w') :
    if Region.wanted o (yielded ops a.tmps) = true then Oper.wp Try.prog o a w Kk Q else E := by
  have hw : Region.wanted o (yielded ops a.tmps) = true := by
    unfold Region.wanted
    rw [hgd]
  rw [if_pos hw]
  obtain ⟨i, hi, hz, hsize, hby⟩ := info_parts info_range
  obtain ⟨A', c', h1, h2, h3, h4, h5, h6⟩ := ht
  have hall : AllI32 (O ++ [(x1, x2)]) := fun r hr => (List.mem_append.1 hr).elim (hown.2 r) (h6 r)
  injection h1 with e1 e2 e3
  subst e1 e3
  refine wp_append_own w x y 23 ho base 37 i (.agg #[.int .i32 0, .int .i32 0]) 2 8 Try.underlying23 hi hz hsize hby rfl (by omega) v O.length (cellsR O) hs hown.1 ⟨g, 0, none⟩ 1 1 (cellsR [(x1, x2)]) hx (by rw [cellsR_length]; rfl) ?_ (cellsR_one _) (by unfold maxLen; omega) (by omega) hbase (fun v' w' g1 g2 _ => h v' w' ⟨?_, hall⟩ g2)
  · intro j u hu
    obtain ⟨q, hq, hh⟩ := cellsR_get [(x1, x2)] j u hu
    rcases h5 with h5 | ⟨b, off, e, hc⟩
    · cases h5
    · injection e with e
      injection e with e e'
      subst e e'
      rw [addr_plus]
      rcases hh with ⟨rfl, rfl⟩ | ⟨rfl, rfl⟩
      · exact (hc q hq).1
      · have := (hc q hq).2
        rw [show 0 + (q * 2 + 1) = 0 + q * 2 + 1 by omega]
        exact this
  · rw [cellsR_append, List.length_append]
    exact g1

set_option maxHeartbeats 1600000 in
set_option maxRecDepth 100000 in
/-- A list of pairs, as a fresh row of ranges. -/
theorem rset_any (v : Value) (l : List (Int × Int)) (w : World) (h : Rgs w v l) (hn : l.length ≤ 1099511627776) :
    Calls Try.prog 38 #[v] w fun e w' => ∃ v', e = .returned v' ∧ OwnR w' w.heap.size v' l ∧ Below w.heap.size w w' := by
  have HR := Lib.hid h
  obtain ⟨a, c, rfl, h2, h3, h4, h5, h6⟩ := h
  have H6 := Lib.hid h6
  clear h5 h6 h4 h2 h3
  go_enter Try.func38, Try.ntmps38
  go_wp2_with fail
  go_loopw [3, 4] (fun vs i wr => ∃ m : Nat, m ≤ l.length ∧ i = .int .i64 m ∧ OwnR wr w.heap.size vs (l.take m) ∧ Below w.heap.size w wr) (fun _ i _ => l.length - (intOf i).toNat)
  case atStart => exact ⟨0, Nat.zero_le _, rfl, own_none _ _, Below.refl _ _⟩
  case round =>
    obtain ⟨m, hm, rfl, hO, hB⟩ := hrel
    have HO := Lib.hid hO; have HB := Lib.hid hB
    clear hO hB
    by_cases hlt : m < l.length
    · obtain ⟨a', c', e, g2, g3, g4, g5, g6⟩ := HR.out
      injection e with e1 e2 e3
      subst e1 e3
      rcases g5 with g5 | ⟨b, o, rfl, hc⟩
      · rw [g5] at hlt
        simp at hlt
      obtain ⟨x1, x2, hx, hsp, c1w, c2w⟩ := rgs_at hc m hlt
      have c1 := (HB.out.cell (World.block_lt_of_cell? w _ c1w)).trans c1w
      have c2 := (HB.out.cell (World.block_lt_of_cell? w _ c2w)).trans c2w
      have C1 := Lib.hid c1w; have C2 := Lib.hid c2w
      have hxi := H6.out (x1, x2) (List.mem_of_getElem? hx)
      have HSP := Lib.hid hsp; have HXI := Lib.hid hxi
      have hsz := HB.out.size
      clear hsp hx hc g6 hxi c1w c2w
      go_upto_region 5 with (fail)
      go_region_held3 (fun w' => w'.cell? ⟨b, o + m * 2, none⟩ = some (.int .i32 x1) ∧ w'.cell? ⟨b, o + m * 2 + 1, none⟩ = some (.int .i32 x2)) (first | go_keep | exact ⟨c1, c2⟩ | (constructor <;> assumption)) (first | (refine step_append_rgs rfl (.tmp 11) (.tmp 23) rfl w.heap.size _ (l.take m) rfl (HO.out.below ((Below.refl _ wr).alloc (Nat.le_refl _) _).drew) wr.heap.size x1 x2 rfl ((rgs_new wr x1 x2 HXI.out.1 HXI.out.2).below (Below.refl _ _).drew) (by rw [List.length_take]; omega) (by simp; omega) ?_; intro v3 w3 ho3 hg3; have hB3 := Lib.hid (((HB.out.alloc HB.out.size _).drew).grown hg3 (by simp; omega) (fun j hj => (HO.out.1.lt j hj).1)); have k1 := (hB3.out.cell (World.block_lt_of_cell? w _ C1.out)).trans C1.out; have k2 := (hB3.out.cell (World.block_lt_of_cell? w _ C2.out)).trans C2.out))
      have HO3 := Lib.hid ho3
      clear ho3 hg3 k1 k2 c1 c2
      go_wp2
      go_roundw
      case rel => exact ⟨m + 1, by omega, by go_num, by rw [HSP.out]; exact HO3.out, hB3.out⟩
      case measure => simp [intOf]; omega
    · have e : l.take m = l := List.take_of_length_le (by omega)
      have ho := HO.out
      rw [e] at ho
      have HO' := Lib.hid ho
      clear ho e
      go_wp2
      go_ret
      exact ⟨_, rfl, HO'.out, HB.out⟩
end Go.Proofs.Ytnpogfkmcopdfaa
