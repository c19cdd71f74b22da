/- Texts merged by program. No condition. -/
import Derived.Test.YthnddabcmhplkaaGreatDoorRows
import Derived.PinnedBridge
import Derived.Lay
import Derived.LaidMore
import Derived.Test.YthnddabcmhplkaaGreatDoorK42
import Derived.Lib.ItoaNum
import Derived.Deep.DeepHandedRow
set_option linter.unusedVariables false
namespace Go.Proofs.YthnddabcmhplkaaGreatDoor
open Go Go.RowKit Go.Lib
theorem chunks (k : Nat) : ∀ (L : List (List Value)) (l : List Value),l.length = L.length * k → (∀ i (h : i < L.length),(l.drop (i * k)).take k = L[i]) → l = L.flatten
 | [],l,hl,_ => by simpa using hl
 | a :: L,l,hl,h => by
  have h0 := h 0 (by simp)
  have hr := chunks k L (l.drop k) (by rw [List.length_drop,hl,List.length_cons,Nat.add_mul];omega) (fun i hi => by
   have := h (i + 1) (by simpa using hi)
   rw [Nat.add_mul,Nat.one_mul,Nat.add_comm] at this
   rw [List.drop_drop]
   simpa using this)
  simp only [Nat.zero_mul,List.drop_zero,List.getElem_cons_zero] at h0
  rw [List.flatten_cons,← hr,← h0,List.take_append_drop]
theorem var_block {P : Program} {w : World} {n : String} {g : Nat} {cs : Array Value} (hg : P.globalNamed n = some g) (h : w.var? P n = some cs) : ∃ t fr,w.heap[g]? = some (.cells cs t fr) := by
 simp only [World.var?,hg,Option.bind_some] at h
 split at h
 ·rename_i c t fr hb
  cases h
  exact ⟨t,fr,hb⟩
 ·cases h
theorem odd_eq : (Rows.laid_martello_tables_odd : DataW Unit) = .agg (oddL.map fun p => .agg [.lit (.int .i64 p.1),tabData .i32 p.2]) := by kernel_rfl
theorem great_eq : (Rows.laid_martello_tables_great : DataW Unit) = .agg (greatL.map fun p => tabData .i32 [p.1,p.2]) := by kernel_rfl
theorem trod_len {H : Type} {enc : TypeId × Value → H} {P : Program} {w : World} {base : Nat} {sp : Nat → Bool} {held : Bool} {fuel : Nat} {t e : TypeId} {n : Nat} {cs : List Value} {x : DataW H × List MemPlace}
  (ht : P.underlying t = some (.array n e)) (h : DataW.trod enc P w base sp held fuel t cs = some x) : cs.length = P.cellsOf t := by
 cases fuel with
 | zero => simp [DataW.trod] at h
 | succ fuel =>
  simp only [DataW.trod,ht] at h
  split at h
  ·assumption
  ·cases h
theorem odd_len : ∀ i (h : i < oddL.length),(oddL[i]).2.length = 3 := by decide
theorem tabsT_of_reads {W : World} (h1 : VarReads Tryz.prog W "martello/tables.odd" (.agg (oddL.map fun p => .agg [.lit (.int .i64 p.1),tabData .i32 p.2])))
  (h2 : VarReads Tryz.prog W "martello/tables.great" (.agg (greatL.map fun p => tabData .i32 [p.1,p.2]))) : TabsT W := by
 have c1 : Tryz.prog.cellsOf 21 = 1 := by kernel_rfl
 have c4 : Tryz.prog.cellsOf 75 = 4 := by kernel_rfl
 have c2 : Tryz.prog.cellsOf 91 = 2 := by kernel_rfl
 have c3 : Tryz.prog.cellsOf 73 = 3 := by kernel_rfl
 refine ⟨?_,?_⟩
 ·obtain ⟨g,t,cs,fuel,p,hg,hty,hvar,hd⟩ := h1
  obtain rfl := Option.some.inj ((show Tryz.prog.globalNamed "martello/tables.odd" = some 2 by kernel_rfl).symm.trans hg)
  obtain rfl := Option.some.inj ((show (Tryz.prog.globals[2]?).map (·.type) = some 88 by kernel_rfl).symm.trans hty)
  obtain ⟨t,fr,hb⟩ := var_block hg hvar
  refine ⟨t,fr,?_⟩
  rw [hb]
  have hl := trod_len Tryz.underlying88 hd
  rw [show Tryz.prog.cellsOf 88 = 28 by kernel_rfl] at hl
  have hcs : cs.toList = (oddL.map oddCells).flatten := chunks 4 _ _ (by rw [hl];rfl) fun i hi => by
   have hi' : i < oddL.length := by simpa using hi
   obtain ⟨fuel',d,q,hdi,he⟩ := array_elem Tryz.underlying88 hd i hi'
   rw [List.getElem?_map,List.getElem?_eq_getElem hi',Option.map_some,Option.some.injEq] at hdi
   subst hdi
   rw [c4] at he
   have h3 := odd_len i hi'
   rw [List.getElem_map]
   obtain ⟨y,hy⟩ : ∃ y,oddL[i] = y := ⟨_,rfl⟩
   rw [hy] at he h3 ⊢
   obtain ⟨l,hl'⟩ : ∃ l,(cs.toList.drop (i * 4)).take 4 = l := ⟨_,rfl⟩
   rw [hl'] at he ⊢
   obtain ⟨xs,n,rfl,hx,hlen,hxl,hall⟩ := DataW.trod_struct Tryz.underlying75 he
   rw [c4] at hlen
   have hxs : (DataW.agg (xs.map (·.1)) : DataW Unit) = .agg [.lit (.int .i64 y.1),tabData .i32 y.2] := (congrArg Prod.fst hx).symm
   rw [DataW.agg.injEq] at hxs
   have f0 : DataW.trod (fun _ => ()) Tryz.prog W 0 (fun _ => true) false n 3 ((l.drop 0).take (Tryz.prog.cellsOf 3)) = xs[0]? := hall 0 _ rfl
   have f1 : DataW.trod (fun _ => ()) Tryz.prog W 0 (fun _ => true) false n 73 ((l.drop 1).take (Tryz.prog.cellsOf 73)) = xs[1]? := hall 1 _ rfl
   rw [show Tryz.prog.cellsOf 3 = 1 by kernel_rfl] at f0
   rw [c3] at f1
   obtain ⟨a,b,rfl⟩ : ∃ a b,xs = [a,b] := by
    match xs,hxl with
    | [a,b],_ => exact ⟨a,b,rfl⟩
   simp only [List.map_cons,List.map_nil,List.cons.injEq,and_true] at hxs
   obtain ⟨ha,hb'⟩ := hxs
   simp only [List.getElem?_cons_zero,List.getElem?_cons_succ,List.drop_zero] at f0 f1
   obtain ⟨z,hz1,hz2,-⟩ := DataW.trod_int Tryz.underlying3 f0
   rw [hz2] at ha
   simp only [DataW.lit.injEq,Lit.int.injEq,true_and] at ha
   have f1' : DataW.trod (fun _ => ()) Tryz.prog W 0 (fun _ => true) false n 73 ((l.drop 1).take 3) = some (tabData .i32 y.2,b.2) := by rw [← hb'];exact f1
   have hc := cells_of_tab Tryz.underlying73 Tryz.underlying21 c1 c3 f1'
   have e1 : l = l.take 1 ++ (l.drop 1).take 3 := by
    have : (l.drop 1).take 3 = l.drop 1 := List.take_of_length_le (by rw [List.length_drop,hlen];omega)
    rw [this,List.take_append_drop]
   rw [e1,hc,hz1,ha]
   rfl
  rw [← hcs,Array.toArray_toList]
 ·obtain ⟨g,t,cs,fuel,p,hg,hty,hvar,hd⟩ := h2
  obtain rfl := Option.some.inj ((show Tryz.prog.globalNamed "martello/tables.great" = some 3 by kernel_rfl).symm.trans hg)
  obtain rfl := Option.some.inj ((show (Tryz.prog.globals[3]?).map (·.type) = some 92 by kernel_rfl).symm.trans hty)
  obtain ⟨t,fr,hb⟩ := var_block hg hvar
  refine ⟨t,fr,?_⟩
  rw [hb]
  have hl := trod_len Tryz.underlying92 hd
  rw [show Tryz.prog.cellsOf 92 = 12 by kernel_rfl] at hl
  have hcs : cs.toList = (greatL.map spanCells).flatten := chunks 2 _ _ (by rw [hl];rfl) fun i hi => by
   have hi' : i < greatL.length := by simpa using hi
   obtain ⟨fuel',d,q,hdi,he⟩ := array_elem Tryz.underlying92 hd i hi'
   rw [List.getElem?_map,List.getElem?_eq_getElem hi',Option.map_some,Option.some.injEq] at hdi
   subst hdi
   rw [c2] at he
   have hc := cells_of_tab Tryz.underlying91 Tryz.underlying21 c1 (by kernel_rfl) he
   rw [hc,List.getElem_map]
   rfl
  rw [← hcs,Array.toArray_toList]
end Go.Proofs.YthnddabcmhplkaaGreatDoor
namespace Go.Proofs.YthnddabcmhplkaaGreatDoor
open Go Go.RowKit Go.Lib
theorem accept_eq : (Rows.laid_unicode_utf8_acceptRanges : DataW Unit) = acceptData := by kernel_rfl
theorem tabs_of_reads {W : World} (h4 : VarReads Tryz.prog W "unicode/utf8.acceptRanges" acceptData) (h3 : VarReads Tryz.prog W "unicode/utf8.first" firstData) : Lib.Utf8Tabs 0 1 W := by
 have c5 : Tryz.prog.cellsOf 5 = 1 := by kernel_rfl
 have c2 : Tryz.prog.cellsOf 55 = 2 := by kernel_rfl
 refine ⟨fun c hc => ?_,fun i hi => ?_⟩
 ·obtain ⟨g,t,cs,fuel,p,hg,hty,hvar,hd⟩ := h3
  obtain rfl := Option.some.inj ((show Tryz.prog.globalNamed "unicode/utf8.first" = some 0 by kernel_rfl).symm.trans hg)
  obtain rfl := Option.some.inj ((show (Tryz.prog.globals[0]?).map (·.type) = some 53 by kernel_rfl).symm.trans hty)
  have hcs := cells_of_tab Tryz.underlying53 Tryz.underlying5 c5 (by kernel_rfl) hd
  have := World.var?_cell hg hvar c
  rw [this,← Array.getElem?_toList,hcs]
  simp [firstTab,hc]
 ·obtain ⟨g,t,cs,fuel,p,hg,hty,hvar,hd⟩ := h4
  obtain rfl := Option.some.inj ((show Tryz.prog.globalNamed "unicode/utf8.acceptRanges" = some 1 by kernel_rfl).symm.trans hg)
  obtain rfl := Option.some.inj ((show (Tryz.prog.globals[1]?).map (·.type) = some 56 by kernel_rfl).symm.trans hty)
  obtain ⟨fuel',d,q,hdi,he⟩ := array_elem Tryz.underlying56 hd i hi
  simp only [List.getElem?_map,List.getElem?_range hi,Option.map_some,Option.some.injEq] at hdi
  subst hdi
  rw [c2] at he
  have hcs := ints_of_struct Tryz.underlying55 (fun j f hj => by
   match j,hj with
   | 0,hj => simp at hj;subst hj;exact ⟨Tryz.underlying5,rfl,c5⟩
   | 1,hj => simp at hj;subst hj;exact ⟨Tryz.underlying5,rfl,c5⟩
   | j + 2,hj => simp at hj) (by rw [c2];rfl) he
  have e0 := congrArg (·[0]?) hcs
  have e1 := congrArg (·[1]?) hcs
  simp only [List.getElem?_take,List.getElem?_drop] at e0 e1
  constructor
  ·rw [World.var?_cell hg hvar (2 * i),← Array.getElem?_toList]
   simpa [Nat.mul_comm] using e0
  ·rw [World.var?_cell hg hvar (2 * i + 1),← Array.getElem?_toList]
   simpa [Nat.mul_comm] using e1
end Go.Proofs.YthnddabcmhplkaaGreatDoor
namespace Go.Proofs.YthnddabcmhplkaaGreatDoor
open Go Go.RowKit Go.Lib
theorem maxLen_of_shape {W : World} (h : W.ShapedOpen Tryz.prog) : ∃ m : Int,W.cell? ⟨4,0,none⟩ = some (.int .i64 m) :=
 cell_of_shapedOpen_int (zero := #[.int .i64 0]) (t := 3) h (of_decide_eq_true (by kernel_rfl)) (by kernel_rfl) rfl (by kernel_rfl) (by kernel_rfl) Tryz.underlying3
def laidY : List (String × DataW Unit) := [("unicode/utf8.acceptRanges",Rows.laid_unicode_utf8_acceptRanges),("martello/tables.odd",Rows.laid_martello_tables_odd),("martello/tables.great",Rows.laid_martello_tables_great),("unicode/utf8.first",Rows.laid_unicode_utf8_first)]
theorem tabsY_of_laid {W : World} (h : laidMetH Tryz.prog laidY W) (hs : W.ShapedOpen Tryz.prog) : TabsY W := by
 rw [MakeChecks.laidMetH_plain _ _ _ (by kernel_rfl)] at h
 exact ⟨⟨tabs_of_reads (accept_eq ▸ Lib.laidMet.reads h (.head _)) (Pinned.utf8First_eq ▸ Lib.laidMet.reads h (.tail _ (.tail _ (.tail _ (.head _))))),tabsT_of_reads (odd_eq ▸ Lib.laidMet.reads h (.tail _ (.head _))) (great_eq ▸ Lib.laidMet.reads h (.tail _ (.tail _ (.head _))))⟩,maxLen_of_shape hs⟩
theorem witness_row8 {H : Type} {enc : TypeId × Value → H} {C : Checked} {os : Os} {f : FuncId} {fn : Func} {s : OpenSpec} {conds : List PathCond} {apart : Bool} {laid : List (String × DataW Unit)} (modest : Bool) (w0 : World) (args : Array Value) (hos : w0.os = os)
  (hsh : (w0.forCall (fun _ _ => 0) ⟨#[],args,[]⟩).Shaped C.prog) (hok : Input.okWideB C.prog (w0.forCall (fun _ _ => 0) ⟨#[],args,[]⟩) f ⟨#[],args,[]⟩ = true)
  (hrow : s.preRow enc C.prog fn conds apart laid (w0.forCall (fun _ _ => 0) ⟨#[],args,[]⟩).memory args) :
  ∃ (w : World) (tape : Tape) (i : Input),w.os = os ∧ (w.forCall tape i).Shaped C.prog ∧ i.vars = [] ∧ Input.okWide C.prog (w.forCall tape i) .any w.heap.size f i ∧
   s.preRow enc C.prog fn conds apart laid (w.forCall tape i).memory i.args ∧ ({ modest := modest } : Assume).holds C.prog (lone (Frame.enter C.prog f i.args .normal) [] (w.forCall tape i)) :=
 ⟨w0,fun _ _ => 0,⟨#[],args,[]⟩,hos,hsh,(Input.okWide_of_okWideB (base := 0) hok).1,(Input.okWide_of_okWideB hok).2,hrow,by
  simp only [Assume.holds]
  exact ⟨by simp,by simp,fun _ => Modest.zero,by simp,by simp⟩⟩
end Go.Proofs.YthnddabcmhplkaaGreatDoor
