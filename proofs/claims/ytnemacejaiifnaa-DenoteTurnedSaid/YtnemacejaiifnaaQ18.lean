/- Texts merged by program: DnIter. No condition. -/
import Derived.Test.YtnemacejaiifnaaQ17
import Derived.RangeFuncNested
import Derived.RangeFuncBound
import Derived.RangeFuncCalls
import Derived.RangeFuncLeaves
import Derived.RangeFuncBox
import Derived.Shelf.Abstract
import Derived.Shelf.RegionOpen
import Derived.OwnWalkIn
import Derived.TacticsInMore
import Derived.LoopNIn
import Derived.LoopIn
set_option linter.unusedVariables false
/- The iterator over parts, the last first, for every body that leaves rows of parts as they are. No condition. -/
namespace Go.Proofs.Ytnemacejaiifnaa
open Go Go.RowKit Go.Shelf
attribute [local go_sem] Oper.semAt_some

/-- What a round is told: which part. -/
abbrev Tel : Type := Nat × Fv
abbrev Tel.vals (x : Tel) : Array Value := #[.int .i64 (x.1 : Int), x.2.v]
/-- Rows of parts lie as they lay. -/
def KeepsP (W W' : World) : Prop := ∀ b t cs, (t = 75 ∨ t = 158) → Whole W b t cs → Whole W' b t cs
theorem KeepsP.trans {A B C : World} (h : KeepsP A B) (k : KeepsP B C) : KeepsP A C := fun b t cs ht hw => k b t cs ht (h b t cs ht hw)
/-- The row of parts, and the box that it is read from. -/
structure PRow (W : World) (Bx : Nat) (A : Option Addr) (c : Nat) (vs : List Fv) : Prop where
  box : Whole W Bx 158 #[.slice A vs.length c]
  row : vs = [] ∨ ∃ ab cur, A = some ⟨ab, 0, none⟩ ∧ Whole W ab 75 cur ∧ ∀ (i : Nat) (h : i < vs.length), cur[i]? = some vs[i].v
theorem PRow.keeps {W W' : World} {Bx : Nat} {A : Option Addr} {c : Nat} {vs : List Fv} (h : PRow W Bx A c vs) (k : KeepsP W W') : PRow W' Bx A c vs :=
  ⟨k _ _ _ (.inr rfl) h.box, h.row.imp id fun ⟨ab, cur, e, hw, hc⟩ => ⟨ab, cur, e, k _ _ _ (.inl rfl) hw, hc⟩⟩
theorem PRow.below {W W' : World} {Bx : Nat} {A : Option Addr} {c : Nat} {vs : List Fv} (h : PRow W Bx A c vs) (k : Below W.heap.size W W') : PRow W' Bx A c vs :=
  h.keeps fun b t cs _ hw => hw.below k hw.lt
theorem drop_back (vs : List Fv) (k : Nat) (hk : k < vs.length) : (vs.drop k).reverse = (vs.drop (k + 1)).reverse ++ [vs[k]] := by
  rw [List.drop_eq_getElem_cons hk, List.reverse_cons]

set_option maxHeartbeats 2000000 in
set_option maxRecDepth 100000 in
theorem back_in (n l Bx : Nat) (hn : 1 ≤ n) (A : Option Addr) (c : Nat) (vs : List Fv) (hlen : vs.length ≤ 8000000000000000) (J Jx : List Tel → World → Prop) (W : World)
    (hJ : AbidesFrom W.heap.size J)
    (hY : ∀ pre x W1, J pre W1 → pre.length < vs.length → YieldAt Fence.wide (n - 1) Try.prog l (Tel.vals x) W1 fun e W' =>
      (e = .returned (.bool true) ∧ J (pre ++ [x]) W' ∧ KeepsP W1 W') ∨ (e = .returned (.bool false) ∧ Jx (pre ++ [x]) W'))
    (hP : PRow W Bx A c vs) (h0 : J [] W) :
    CallsIn Fence.wide n Try.prog 145 #[.func (.yield l) #[] #[], .pointer (some ⟨Bx, 0, none⟩)] W fun e W' => (∃ v, e = .returned v) ∧
      ((∃ xs : List Tel, xs.map Prod.snd = vs.reverse ∧ J xs W') ∨ (∃ pre : List Tel, True ∧ Jx pre W')) := by
  have HP := Lib.hid hP; have HJ0 := Lib.hid h0; have HY := Lib.hid hY
  obtain ⟨N, hN⟩ : ∃ N, vs.length = N := ⟨_, rfl⟩
  have c0 : W.cell? ⟨Bx, 0, none⟩ = some (.slice A N c) := by rw [← hN]; exact (hP.box.cell 0).trans rfl
  have HN := Lib.hid hN
  have e1 : IntKind.i64.wrap ((N : Int) - 1) = (N : Int) - 1 := (IntWalk.i64_left _).trans (IntWalk.wrap64_in _ ⟨by omega, by omega⟩)
  have hlN : N ≤ 8000000000000000 := by omega
  clear hP h0 hY hN hJ hlen
  refine callsIn_of_wp Try.func145 rfl trivial ?_ rfl
  simp only [Try.ntmps145, List.size_toArray, List.length_cons, List.length_nil, Nat.reduceAdd, Nat.reduceSub, Array.replicate_succ, Array.replicate_zero, List.push_toArray, List.append_toArray, List.nil_append, List.cons_append]
  gi_wp2
  gi_loopw [3] (fun i wr => ∃ (k : Nat) (G : List Tel), k ≤ N ∧ i = .int .i64 ((k : Int) - 1) ∧ PRow wr Bx A c vs ∧ J G wr ∧ G.map Prod.snd = (vs.drop k).reverse) (fun i _ => (intOf i + 1).toNat)
  case atStart => exact ⟨N, [], Nat.le_refl _, rfl, HP.out, HJ0.out, by rw [← HN.out]; simp⟩
  case round =>
    obtain ⟨k, G, hk, rfl, hPr, hJG, hG⟩ := hrel
    have HPR := Lib.hid hPr; have HJG := Lib.hid hJG; have HG := Lib.hid hG
    by_cases hz : k = 0
    · subst hz
      clear hPr hJG hG
      gi_wp2
      go_end0
      exact ⟨⟨_, rfl⟩, .inl ⟨G, by rw [HG.out]; rfl, HJG.out⟩⟩
    · obtain ⟨m, rfl⟩ : ∃ m, k = m + 1 := ⟨k - 1, by omega⟩
      have hm : m < vs.length := by rw [HN.out]; omega
      have hGl : G.length < vs.length := by
        have := congrArg List.length hG
        simp only [List.length_map, List.length_reverse, List.length_drop] at this
        omega
      obtain ⟨fn, tmps, assign, body, hy, hR⟩ := HY.out G (m, vs[m]) _ hJG hGl
      have c1 : wr.cell? ⟨Bx, 0, none⟩ = some (.slice A N c) := by have := (hPr.box.cell 0).trans rfl; rw [HN.out] at this; exact this
      rcases hPr.row with h | ⟨ab, cur, rfl, hw, hcur⟩
      · rw [h] at hm; simp at hm
      have c2 : wr.cell? ⟨ab, m, none⟩ = some vs[m].v := (hw.cell m).trans (hcur m hm)
      have e2 : ((m + 1 : Nat) : Int) - 1 = (m : Int) := by omega
      have e3 : IntKind.i64.wrap ((m : Int) - 1) = (m : Int) - 1 := (IntWalk.i64_left _).trans (IntWalk.wrap64_in _ ⟨by omega, by omega⟩)
      have HD := Lib.hid (drop_back vs m hm)
      obtain ⟨y, hy'⟩ : ∃ y, vs[m] = y := ⟨_, rfl⟩
      have HGY := Lib.hid (show (G ++ [(m, y)]).map Prod.snd = (vs.drop m).reverse by rw [List.map_append, hG, HD.out, hy']; rfl)
      rw [hy'] at c2 hy hR
      have hmN : m < N := by omega
      obtain ⟨yg, yf, yc⟩ := y
      rw [e2]
      clear hPr hJG hG hGl hw hcur hm hy' hk hz HD e2
      gi_wp2
      refine hR.mono ?_
      rintro e W3 (⟨rfl, hJ3, hk3⟩ | ⟨rfl, hJx3⟩)
      · have HJ3 := Lib.hid hJ3; have HK3 := Lib.hid hk3
        clear hJ3 hk3
        gi_wp2
        go_roundw
        case rel => exact ⟨m, G ++ [(m, ⟨yg, yf, yc⟩)], by omega, rfl, HPR.out.keeps HK3.out, HJ3.out, HGY.out⟩
        case measure => simp [intOf]
      · have HJX := Lib.hid hJx3
        clear hJx3
        gi_wp2
        refine bodyPost_ret (results_none rfl _ _ _) rfl ?_
        exact ⟨⟨_, rfl⟩, .inr ⟨_, trivial, HJX.out⟩⟩
theorem back_stops (n Bx : Nat) (hn : 1 ≤ n) (A : Option Addr) (c : Nat) (vs : List Fv) (hlen : vs.length ≤ 8000000000000000) (w : World) (hP : PRow w Bx A c vs) :
    SeqStopsK Fence.wide n Try.prog 145 #[.pointer (some ⟨Bx, 0, none⟩)] Tel.vals KeepsP (fun xs => xs.map Prod.snd = vs.reverse) (fun _ => True) vs.length w :=
  fun l J Jx W hW hJ _ hY h0 => back_in n l Bx hn A c vs hlen J Jx W hJ hY (hP.below hW) h0
set_option maxHeartbeats 800000 in
theorem back_any (A : Option Addr) (n c : Nat) (w : World) :
    Calls Try.prog 127 #[.slice A n c] w fun e w' => e = .returned (.func (.func 145) #[] #[.pointer (some ⟨w.heap.size, 0, none⟩)]) ∧ w' = w.alloc (.cells #[.slice A n c] 158) := by
  go_enter Try.func127, Try.ntmps127
  go_wp2
  go_ret
  exact ⟨rfl, rfl⟩
end Go.Proofs.Ytnemacejaiifnaa
