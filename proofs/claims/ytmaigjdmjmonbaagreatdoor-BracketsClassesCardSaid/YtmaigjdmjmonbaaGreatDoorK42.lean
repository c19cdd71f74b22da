/- Texts merged by program: TLaid. No condition. -/
import Derived.Test.YtmaigjdmjmonbaaGreatDoorK13
import Derived.Test.YtmaigjdmjmonbaaGreatDoorRows
import Derived.Lib.LaidU8
import Derived.PinnedBridge
import Derived.Lay
import Derived.LaidMore
import Derived.ProofKit
set_option linter.unusedVariables false
/- From what a row lists of the program's two tables of letters to the cells of their blocks. No condition. -/
namespace Go.Proofs.YtmaigjdmjmonbaaGreatDoor
open Go Go.RowKit Go.Lib

def laidT : List (String × DataW Unit) := [("martello/tables.odd", Rows.laid_martello_tables_odd), ("martello/tables.great", Rows.laid_martello_tables_great)]
/-- A list that is cut into pieces is the pieces, one behind the other. -/
theorem chunks (k : Nat) : ∀ (L : List (List Value)) (l : List Value), l.length = L.length * k → (∀ i (h : i < L.length), (l.drop (i * k)).take k = L[i]) → l = L.flatten
  | [], l, hl, _ => by simpa using hl
  | a :: L, l, hl, h => by
    have h0 := h 0 (by simp)
    have hr := chunks k L (l.drop k) (by rw [List.length_drop, hl, List.length_cons, Nat.add_mul]; omega) (fun i hi => by
      have := h (i + 1) (by simpa using hi)
      rw [Nat.add_mul, Nat.one_mul, Nat.add_comm] at this
      rw [List.drop_drop]
      simpa using this)
    simp only [Nat.zero_mul, List.drop_zero, List.getElem_cons_zero] at h0
    rw [List.flatten_cons, ← hr, ← h0, List.take_append_drop]
theorem var_block {P : Program} {w : World} {n : String} {g : Nat} {cs : Array Value} (hg : P.globalNamed n = some g) (h : w.var? P n = some cs) : ∃ t fr, w.heap[g]? = some (.cells cs t fr) := by
  simp only [World.var?, hg, Option.bind_some] at h
  split at h
  · rename_i c t fr hb
    cases h
    exact ⟨t, fr, hb⟩
  · cases h
theorem odd_eq : (Rows.laid_martello_tables_odd : DataW Unit) = .agg (oddL.map fun p => .agg [.lit (.int .i64 p.1), tabData .i32 p.2]) := by kernel_rfl
theorem great_eq : (Rows.laid_martello_tables_great : DataW Unit) = .agg (greatL.map fun p => tabData .i32 [p.1, p.2]) := by kernel_rfl
theorem trod_len {H : Type} {enc : TypeId × Value → H} {P : Program} {w : World} {base : Nat} {sp : Nat → Bool} {held : Bool} {fuel : Nat} {t e : TypeId} {n : Nat} {cs : List Value} {x : DataW H × List MemPlace}
    (ht : P.underlying t = some (.array n e)) (h : DataW.trod enc P w base sp held fuel t cs = some x) : cs.length = P.cellsOf t := by
  cases fuel with
  | zero => simp [DataW.trod] at h
  | succ fuel =>
    simp only [DataW.trod, ht] at h
    split at h
    · assumption
    · cases h
theorem odd_len : ∀ i (h : i < oddL.length), (oddL[i]).2.length = 3 := by decide
theorem tabsT_of_reads {W : World} (h1 : VarReads Tryz.prog W "martello/tables.odd" (.agg (oddL.map fun p => .agg [.lit (.int .i64 p.1), tabData .i32 p.2])))
    (h2 : VarReads Tryz.prog W "martello/tables.great" (.agg (greatL.map fun p => tabData .i32 [p.1, p.2]))) : TabsT W := by
  have c1 : Tryz.prog.cellsOf 21 = 1 := by kernel_rfl
  have c4 : Tryz.prog.cellsOf 69 = 4 := by kernel_rfl
  have c2 : Tryz.prog.cellsOf 90 = 2 := by kernel_rfl
  have c3 : Tryz.prog.cellsOf 67 = 3 := by kernel_rfl
  refine ⟨?_, ?_⟩
  · obtain ⟨g, t, cs, fuel, p, hg, hty, hvar, hd⟩ := h1
    obtain rfl := Option.some.inj ((show Tryz.prog.globalNamed "martello/tables.odd" = some 0 by kernel_rfl).symm.trans hg)
    obtain rfl := Option.some.inj ((show (Tryz.prog.globals[0]?).map (·.type) = some 93 by kernel_rfl).symm.trans hty)
    obtain ⟨t, fr, hb⟩ := var_block hg hvar
    refine ⟨t, fr, ?_⟩
    rw [hb]
    have hl := trod_len Tryz.underlying93 hd
    rw [show Tryz.prog.cellsOf 93 = 28 by kernel_rfl] at hl
    have hcs : cs.toList = (oddL.map oddCells).flatten := chunks 4 _ _ (by rw [hl]; rfl) fun i hi => by
      have hi' : i < oddL.length := by simpa using hi
      obtain ⟨fuel', d, q, hdi, he⟩ := array_elem Tryz.underlying93 hd i hi'
      rw [List.getElem?_map, List.getElem?_eq_getElem hi', Option.map_some, Option.some.injEq] at hdi
      subst hdi
      rw [c4] at he
      have h3 := odd_len i hi'
      rw [List.getElem_map]
      obtain ⟨y, hy⟩ : ∃ y, oddL[i] = y := ⟨_, rfl⟩
      rw [hy] at he h3 ⊢
      obtain ⟨l, hl'⟩ : ∃ l, (cs.toList.drop (i * 4)).take 4 = l := ⟨_, rfl⟩
      rw [hl'] at he ⊢
      obtain ⟨xs, n, rfl, hx, hlen, hxl, hall⟩ := DataW.trod_struct Tryz.underlying69 he
      rw [c4] at hlen
      have hxs : (DataW.agg (xs.map (·.1)) : DataW Unit) = .agg [.lit (.int .i64 y.1), tabData .i32 y.2] := (congrArg Prod.fst hx).symm
      rw [DataW.agg.injEq] at hxs
      have f0 : DataW.trod (fun _ => ()) Tryz.prog W 0 (fun _ => true) false n 3 ((l.drop 0).take (Tryz.prog.cellsOf 3)) = xs[0]? := hall 0 _ rfl
      have f1 : DataW.trod (fun _ => ()) Tryz.prog W 0 (fun _ => true) false n 67 ((l.drop 1).take (Tryz.prog.cellsOf 67)) = xs[1]? := hall 1 _ rfl
      rw [show Tryz.prog.cellsOf 3 = 1 by kernel_rfl] at f0
      rw [c3] at f1
      obtain ⟨a, b, rfl⟩ : ∃ a b, xs = [a, b] := by
        match xs, hxl with
        | [a, b], _ => exact ⟨a, b, rfl⟩
      simp only [List.map_cons, List.map_nil, List.cons.injEq, and_true] at hxs
      obtain ⟨ha, hb'⟩ := hxs
      simp only [List.getElem?_cons_zero, List.getElem?_cons_succ, List.drop_zero] at f0 f1
      obtain ⟨z, hz1, hz2, -⟩ := DataW.trod_int Tryz.underlying3 f0
      rw [hz2] at ha
      simp only [DataW.lit.injEq, Lit.int.injEq, true_and] at ha
      have f1' : DataW.trod (fun _ => ()) Tryz.prog W 0 (fun _ => true) false n 67 ((l.drop 1).take 3) = some (tabData .i32 y.2, b.2) := by rw [← hb']; exact f1
      have hc := cells_of_tab Tryz.underlying67 Tryz.underlying21 c1 c3 f1'
      have e1 : l = l.take 1 ++ (l.drop 1).take 3 := by
        have : (l.drop 1).take 3 = l.drop 1 := List.take_of_length_le (by rw [List.length_drop, hlen]; omega)
        rw [this, List.take_append_drop]
      rw [e1, hc, hz1, ha]
      rfl
    rw [← hcs, Array.toArray_toList]
  · obtain ⟨g, t, cs, fuel, p, hg, hty, hvar, hd⟩ := h2
    obtain rfl := Option.some.inj ((show Tryz.prog.globalNamed "martello/tables.great" = some 1 by kernel_rfl).symm.trans hg)
    obtain rfl := Option.some.inj ((show (Tryz.prog.globals[1]?).map (·.type) = some 94 by kernel_rfl).symm.trans hty)
    obtain ⟨t, fr, hb⟩ := var_block hg hvar
    refine ⟨t, fr, ?_⟩
    rw [hb]
    have hl := trod_len Tryz.underlying94 hd
    rw [show Tryz.prog.cellsOf 94 = 12 by kernel_rfl] at hl
    have hcs : cs.toList = (greatL.map spanCells).flatten := chunks 2 _ _ (by rw [hl]; rfl) fun i hi => by
      have hi' : i < greatL.length := by simpa using hi
      obtain ⟨fuel', d, q, hdi, he⟩ := array_elem Tryz.underlying94 hd i hi'
      rw [List.getElem?_map, List.getElem?_eq_getElem hi', Option.map_some, Option.some.injEq] at hdi
      subst hdi
      rw [c2] at he
      have hc := cells_of_tab Tryz.underlying90 Tryz.underlying21 c1 (by kernel_rfl) he
      rw [hc, List.getElem_map]
      rfl
    rw [← hcs, Array.toArray_toList]
theorem tabsT_of_laid {W : World} (h : laidMetH Tryz.prog laidT W) : TabsT W := by
  rw [MakeChecks.laidMetH_plain _ _ _ (by kernel_rfl)] at h
  exact tabsT_of_reads (odd_eq ▸ Lib.laidMet.reads h (.head _)) (great_eq ▸ Lib.laidMet.reads h (.tail _ (.head _)))
end Go.Proofs.YtmaigjdmjmonbaaGreatDoor
