/- Texts merged by program: PxIter. No condition. -/
import Derived.Test.YtnemacejaiifnaaQ30
import Derived.RangeFuncNested
import Derived.RangeFuncBound
import Derived.RangeFuncCalls
import Derived.RangeFuncLeaves
import Derived.RangeFuncBox
import Derived.Shelf.Abstract
import Derived.Shelf.RegionOpen
import Derived.OwnWalkIn
import Derived.TacticsInMore
import Derived.LoopNIn
import Derived.LoopIn
set_option linter.unusedVariables false
/- The library's Backward at runes, for every body that leaves all that lay as it lay. No condition. -/
namespace Go.Proofs.Ytnemacejaiifnaa
open Go Go.RowKit Go.Shelf
attribute [local go_sem] Oper.semAt_some

/-- What a round is told: a place of the list, and the rune there. -/
abbrev telN {vs : List Int} (x : Fin vs.length) : Array Value := #[.int .i64 (x.1 : Int), .int .i32 vs[x.1]]
def valsN {n : Nat} (G : List (Fin n)) : List Nat := G.map fun x => x.1
theorem valsN_snoc {n : Nat} (G : List (Fin n)) (x : Fin n) : valsN (G ++ [x]) = valsN G ++ [x.1] := by simp [valsN]
theorem valsN_len {n : Nat} (G : List (Fin n)) : (valsN G).length = G.length := by simp [valsN]
theorem dropN_back {α : Type} (vs : List α) (k : Nat) (hk : k < vs.length) : (vs.drop k).reverse = (vs.drop (k + 1)).reverse ++ [vs[k]] := by
  rw [List.drop_eq_getElem_cons hk, List.reverse_cons]
/-- All that lay in w0 lies as it lay. -/
def KeepsW (w0 W W' : World) : Prop := Below w0.heap.size w0 W → Below w0.heap.size w0 W'
theorem KeepsW.trans {w0 A B C : World} (h : KeepsW w0 A B) (k : KeepsW w0 B C) : KeepsW w0 A C := fun l => k (h l)
theorem keepsW_put (w0 W : World) (l : Nat) (o o' : Obj) (hl : w0.heap.size ≤ l) : KeepsW w0 W (W.putObj l o') := fun hb => by
  have hg := grownBy_putObj' W l o'
  exact hb.trans ⟨hg.os, hg.tape, hg.output, hg.size, fun k hk => hg.block k (Nat.lt_of_lt_of_le hk hb.size) (fun e => by have := Option.some.inj e; omega)⟩

set_option maxHeartbeats 2000000 in
set_option maxRecDepth 100000 in
theorem backN_in (n l Bx : Nat) (hn : 1 ≤ n) (A : Option Addr) (c : Nat) (vs : List Int) (w0 : World) (hB : w0.cell? ⟨Bx, 0, none⟩ = some (.slice A vs.length c)) (hR : Rns w0 (.slice A vs.length c) vs) (hlen : vs.length ≤ 8000000000000000) (J Jx : List (Fin vs.length) → World → Prop) (W : World)
    (hJ : AbidesFrom W.heap.size J)
    (hY : ∀ pre x W1, J pre W1 → pre.length < vs.length → YieldAt Fence.wide (n - 1) Try.prog l (telN x) W1 fun e W' =>
      (e = .returned (.bool true) ∧ J (pre ++ [x]) W' ∧ KeepsW w0 W1 W') ∨ (e = .returned (.bool false) ∧ Jx (pre ++ [x]) W'))
    (hP : Below w0.heap.size w0 W) (h0 : J [] W) :
    CallsIn Fence.wide n Try.prog 96 #[.func (.yield l) #[] #[], .pointer (some ⟨Bx, 0, none⟩)] W fun e W' => (∃ v, e = .returned v) ∧
      ((∃ xs : List (Fin vs.length), valsN xs = (List.range vs.length).reverse ∧ J xs W') ∨ (∃ pre : List (Fin vs.length), True ∧ Jx pre W')) := by
  have HP := Lib.hid hP; have HJ0 := Lib.hid h0; have HY := Lib.hid hY; have HR := Lib.hid hR; have HBX := Lib.hid hB
  obtain ⟨A', c', e, hlc, hcm, -, hrow, -⟩ := hR
  injection e with e1 e2 e3
  subst e1 e3
  obtain ⟨N, hN⟩ : ∃ N, vs.length = N := ⟨_, rfl⟩
  have lift : Hid (∀ (V : World) (a : Addr) (u : Value), Below w0.heap.size w0 V → w0.cell? a = some u → V.cell? a = some u) := Lib.hid fun V a u hV hu => (hV.cell (World.block_lt_of_cell? w0 _ hu)).trans hu
  have c0 : W.cell? ⟨Bx, 0, none⟩ = some (.slice A N c) := by rw [← hN]; exact lift.out W _ _ hP hB
  have HN := Lib.hid hN
  have hlN : N ≤ 8000000000000000 := by omega
  have e1 : IntKind.i64.wrap ((N : Int) - 1) = (N : Int) - 1 := (IntWalk.i64_left _).trans (IntWalk.wrap64_in _ ⟨by omega, by omega⟩)
  have HROW := Lib.hid hrow
  have hNc : N ≤ c := by omega
  clear hP h0 hY hN hJ hB hrow hlc hlen
  refine callsIn_of_wp Try.func96 rfl trivial ?_ rfl
  simp only [Try.ntmps96, List.size_toArray, List.length_cons, List.length_nil, Nat.reduceAdd, Nat.reduceSub, Array.replicate_succ, Array.replicate_zero, List.push_toArray, List.append_toArray, List.nil_append, List.cons_append]
  gi_wp2
  gi_loopw [3] (fun i wr => ∃ (k : Nat) (G : List (Fin vs.length)), k ≤ N ∧ i = .int .i64 ((k : Int) - 1) ∧ Below w0.heap.size w0 wr ∧ J G wr ∧ valsN G = ((List.range N).drop k).reverse) (fun i _ => (intOf i + 1).toNat)
  case atStart => exact ⟨N, [], Nat.le_refl _, rfl, HP.out, HJ0.out, by simp [valsN]⟩
  case round =>
    obtain ⟨k, G, hk, rfl, hPr, hJG, hG⟩ := hrel
    have HPR := Lib.hid hPr; have HJG := Lib.hid hJG; have HG := Lib.hid hG
    by_cases hz : k = 0
    · subst hz
      clear hPr hJG hG
      gi_wp2
      go_end0
      exact ⟨⟨_, rfl⟩, .inl ⟨G, by rw [HG.out, HN.out]; rfl, HJG.out⟩⟩
    · obtain ⟨m, rfl⟩ : ∃ m, k = m + 1 := ⟨k - 1, by omega⟩
      have hm : m < vs.length := by rw [HN.out]; omega
      have hGl : G.length < vs.length := by
        have := congrArg List.length hG
        simp only [valsN_len, List.length_reverse, List.length_drop, List.length_range] at this
        have := HN.out
        omega
      have c1 : wr.cell? ⟨Bx, 0, none⟩ = some (.slice A N c) := by rw [← HN.out]; exact lift.out wr _ _ hPr HBX.out
      rcases HROW.out with h | ⟨ab, ao, rfl, hcur⟩
      · rw [h] at hm; simp at hm
      obtain ⟨fn, tmps, assign, body, hyy, hRR⟩ := HY.out G ⟨m, hm⟩ _ hJG hGl
      have c2 : wr.cell? ⟨ab, ao + m, none⟩ = some (.int .i32 vs[m]) := lift.out wr _ _ hPr (hcur m hm)
      have e2 : ((m + 1 : Nat) : Int) - 1 = (m : Int) := by omega
      have e3 : IntKind.i64.wrap ((m : Int) - 1) = (m : Int) - 1 := (IntWalk.i64_left _).trans (IntWalk.wrap64_in _ ⟨by omega, by omega⟩)
      have hmN : m < N := by omega
      have HGY := Lib.hid (show valsN (G ++ [⟨m, hm⟩]) = ((List.range N).drop m).reverse by
        rw [valsN_snoc, hG, dropN_back (List.range N) m (by simpa using hmN)]
        simp)
      rw [e2]
      clear hPr hJG hG hGl hk hz e2 hcur
      gi_wp2
      refine hRR.mono ?_
      rintro e W3 (⟨rfl, hJ3, hk3⟩ | ⟨rfl, hJx3⟩)
      · have HJ3 := Lib.hid hJ3; have HK3 := Lib.hid hk3
        clear hJ3 hk3
        gi_wp2
        go_roundw
        case rel => exact ⟨m, _, by omega, rfl, HK3.out HPR.out, HJ3.out, HGY.out⟩
        case measure => simp [intOf]
      · have HJX := Lib.hid hJx3
        clear hJx3
        gi_wp2
        refine bodyPost_ret (results_none rfl _ _ _) rfl ?_
        exact ⟨⟨_, rfl⟩, .inr ⟨_, trivial, HJX.out⟩⟩
theorem backN_stops (n Bx : Nat) (hn : 1 ≤ n) (A : Option Addr) (c : Nat) (vs : List Int) (w0 : World) (hB : w0.cell? ⟨Bx, 0, none⟩ = some (.slice A vs.length c)) (hR : Rns w0 (.slice A vs.length c) vs) (hlen : vs.length ≤ 8000000000000000) :
    SeqStopsK Fence.wide n Try.prog 96 #[.pointer (some ⟨Bx, 0, none⟩)] (telN (vs := vs)) (KeepsW w0) (fun xs => valsN xs = (List.range vs.length).reverse) (fun _ => True) vs.length w0 :=
  fun l J Jx W hW hJ _ hY h0 => backN_in n l Bx hn A c vs w0 hB hR hlen J Jx W hJ hY hW h0
set_option maxHeartbeats 800000 in
theorem backN_any (A : Option Addr) (n c : Nat) (w : World) :
    Calls Try.prog 49 #[.slice A n c] w fun e w' => e = .returned (.func (.func 96) #[] #[.pointer (some ⟨w.heap.size, 0, none⟩)]) ∧ w' = w.alloc (.cells #[.slice A n c] 41) := by
  go_enter Try.func49, Try.ntmps49
  go_wp2
  go_ret
  exact ⟨rfl, rfl⟩
end Go.Proofs.Ytnemacejaiifnaa
