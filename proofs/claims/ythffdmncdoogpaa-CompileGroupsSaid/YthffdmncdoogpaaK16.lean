/- Texts merged by program: CoIter, CoIterZ, CoLeaf, CoNode, CoCat. No condition. -/
import Derived.Test.YthffdmncdoogpaaK15
import Derived.RangeFuncNested
import Derived.RangeFuncBound
import Derived.RangeFuncCalls
import Derived.RangeFuncLeaves
import Derived.RangeFuncBox
import Derived.Shelf.Abstract
import Derived.Shelf.RegionOpen
import Derived.OwnWalkIn
import Derived.TacticsInMore
import Derived.LoopNIn
import Derived.LoopIn
import Derived.Sort.CutIn
import Derived.Deep.RegionWith
set_option linter.unusedVariables false
/- The library's Backward at trees and at ints, for every body that leaves what is gone over as it is. No condition. -/
namespace Go.Proofs.Ythffdmncdoogpaa
open Go Go.RowKit Go.Shelf
attribute [local go_sem] Oper.semAt_some

theorem drop_back' {α : Type} (vs : List α) (k : Nat) (hk : k < vs.length) : (vs.drop k).reverse = (vs.drop (k + 1)).reverse ++ [vs[k]] := by
  rw [List.drop_eq_getElem_cons hk, List.reverse_cons]
/-- What a round is told: a place, and what stands there. -/
abbrev TelV (n : Nat) : Type := { x : Nat × Value // x.1 < n }
abbrev TelV.vals {n : Nat} (x : TelV n) : Array Value := #[.int .i64 (x.1.1 : Int), x.1.2]
def placesV {n : Nat} (G : List (TelV n)) : List Nat := G.map fun x => x.1.1
theorem placesV_snoc {n : Nat} (G : List (TelV n)) (x : TelV n) : placesV (G ++ [x]) = placesV G ++ [x.1.1] := by simp [placesV]
theorem placesV_len {n : Nat} (G : List (TelV n)) : (placesV G).length = G.length := by simp [placesV]
/-- The trees that are gone over lie below w0, the box that they are read from is Bx. -/
structure TRow (w0 W : World) (Bx : Nat) (A : Option Addr) (c : Nat) (ks : List Tr) : Prop where
  low : Below w0.heap.size w0 W
  box : Whole W Bx 43 #[.slice A ks.length c]
def KeepsT (w0 : World) (Bx : Nat) (W W' : World) : Prop := (Below w0.heap.size w0 W → Below w0.heap.size w0 W') ∧ ∀ cs, Whole W Bx 43 cs → Whole W' Bx 43 cs
theorem KeepsT.trans {w0 : World} {Bx : Nat} {A B C : World} (h : KeepsT w0 Bx A B) (k : KeepsT w0 Bx B C) : KeepsT w0 Bx A C := ⟨fun l => k.1 (h.1 l), fun cs hw => k.2 cs (h.2 cs hw)⟩
theorem TRow.keeps {w0 W W' : World} {Bx : Nat} {A : Option Addr} {c : Nat} {ks : List Tr} (h : TRow w0 W Bx A c ks) (k : KeepsT w0 Bx W W') : TRow w0 W' Bx A c ks := ⟨k.1 h.low, k.2 _ h.box⟩
theorem TRow.below {w0 W W' : World} {Bx : Nat} {A : Option Addr} {c : Nat} {ks : List Tr} (h : TRow w0 W Bx A c ks) (k : Below W.heap.size W W') : TRow w0 W' Bx A c ks := ⟨h.low.trans (k.mono h.low.size), h.box.below k h.box.lt⟩
theorem keepsT_put (w0 W : World) (Bx l : Nat) (o o' : Obj) (hl : w0.heap.size ≤ l) (h : W.heap[l]? = some o) (hc : o.isCells = false) : KeepsT w0 Bx W (W.putObj l o') := by
  have hg := grownBy_putObj' W l o'
  refine ⟨fun hb => hb.trans ⟨hg.os, hg.tape, hg.output, Nat.le_trans hb.size hg.size |> fun _ => hg.size, fun k hk => hg.block k (Nat.lt_of_lt_of_le hk hb.size) (fun e => by have := Option.some.inj e; omega)⟩, fun cs hw => (hg.block Bx hw.lt fun e => ?_).trans hw⟩
  have e := Option.some.inj e
  subst e
  unfold Whole at hw
  rw [hw] at h
  cases h
  cases hc

set_option maxHeartbeats 2000000 in
set_option maxRecDepth 100000 in
theorem backT_in (n l Bx : Nat) (hn : 1 ≤ n) (A : Option Addr) (c : Nat) (ks : List Tr) (w0 : World) (hK : Kds w0 ks (.slice A ks.length c)) (hlen : ks.length ≤ 8000000000000000) (J Jx : List (TelV ks.length) → World → Prop) (W : World)
    (hJ : AbidesFrom W.heap.size J)
    (hY : ∀ pre x W1, J pre W1 → pre.length < ks.length → YieldAt Fence.wide (n - 1) Try.prog l (TelV.vals x) W1 fun e W' =>
      (e = .returned (.bool true) ∧ J (pre ++ [x]) W' ∧ KeepsT w0 Bx W1 W') ∨ (e = .returned (.bool false) ∧ Jx (pre ++ [x]) W'))
    (hP : TRow w0 W Bx A c ks) (h0 : J [] W) :
    CallsIn Fence.wide n Try.prog 106 #[.func (.yield l) #[] #[], .pointer (some ⟨Bx, 0, none⟩)] W fun e W' => (∃ v, e = .returned v) ∧
      ((∃ xs : List (TelV ks.length), placesV xs = (List.range ks.length).reverse ∧ J xs W') ∨ (∃ pre : List (TelV ks.length), True ∧ Jx pre W')) := by
  have HP := Lib.hid hP; have HJ0 := Lib.hid h0; have HY := Lib.hid hY; have HK := Lib.hid hK
  obtain ⟨N, hN⟩ : ∃ N, ks.length = N := ⟨_, rfl⟩
  have c0 : W.cell? ⟨Bx, 0, none⟩ = some (.slice A N c) := by rw [← hN]; exact (hP.box.cell 0).trans rfl
  have HN := Lib.hid hN
  have e1 : IntKind.i64.wrap ((N : Int) - 1) = (N : Int) - 1 := (IntWalk.i64_left _).trans (IntWalk.wrap64_in _ ⟨by omega, by omega⟩)
  have hlN : N ≤ 8000000000000000 := by omega
  clear hP h0 hY hN hJ hlen hK
  refine callsIn_of_wp Try.func106 rfl trivial ?_ rfl
  simp only [Try.ntmps106, List.size_toArray, List.length_cons, List.length_nil, Nat.reduceAdd, Nat.reduceSub, Array.replicate_succ, Array.replicate_zero, List.push_toArray, List.append_toArray, List.nil_append, List.cons_append]
  gi_wp2
  gi_loopw [3] (fun i wr => ∃ (k : Nat) (G : List (TelV ks.length)), k ≤ N ∧ i = .int .i64 ((k : Int) - 1) ∧ TRow w0 wr Bx A c ks ∧ J G wr ∧ placesV G = ((List.range N).drop k).reverse) (fun i _ => (intOf i + 1).toNat)
  case atStart => exact ⟨N, [], Nat.le_refl _, rfl, HP.out, HJ0.out, by simp [placesV]⟩
  case round =>
    obtain ⟨k, G, hk, rfl, hPr, hJG, hG⟩ := hrel
    have HPR := Lib.hid hPr; have HJG := Lib.hid hJG; have HG := Lib.hid hG
    by_cases hz : k = 0
    · subst hz
      clear hPr hJG hG
      gi_wp2
      go_end0
      exact ⟨⟨_, rfl⟩, .inl ⟨G, by rw [HG.out, HN.out]; rfl, HJG.out⟩⟩
    · obtain ⟨m, rfl⟩ : ∃ m, k = m + 1 := ⟨k - 1, by omega⟩
      have hm : m < ks.length := by rw [HN.out]; omega
      have hGl : G.length < ks.length := by
        have := congrArg List.length hG
        simp only [placesV_len, List.length_reverse, List.length_drop, List.length_range] at this
        have := HN.out
        omega
      have c1 : wr.cell? ⟨Bx, 0, none⟩ = some (.slice A N c) := by have := (hPr.box.cell 0).trans rfl; rw [HN.out] at this; exact this
      have hKw : Kds wr ks (.slice A ks.length c) := HK.out.below hPr.low
      obtain ⟨kb, ko, hA, hTA⟩ := TAt.kid hKw m hm
      subst hA
      obtain ⟨tx, htx⟩ : ∃ x, ks[m] = x := ⟨_, rfl⟩
      rw [htx] at hTA
      clear htx
      obtain ⟨A1, n1, cc1, a2, s1, c2, -, -, ⟨d0, d1, d2, d3, d4, d5, d6, d7, d8, d9⟩, -⟩ := hTA.ten
      obtain ⟨f, hf⟩ : ∃ f, tx.fld = f := ⟨_, rfl⟩
      rw [hf] at d0 d2 d4 d5 d6 d7 d8 d9
      obtain ⟨fn, tmps, assign, body, hyy, hR⟩ := HY.out G ⟨(m, Value.agg #[.int .i64 f.op, .slice A1 n1 cc1, .int .i32 f.rune, .slice a2 s1 c2, .int .i64 f.at', .int .i64 f.cap, .string f.name, .int .i64 f.min, .int .i64 f.max, .bool f.lazy]), hm⟩ _ hJG hGl
      have e2 : ((m + 1 : Nat) : Int) - 1 = (m : Int) := by omega
      have e3 : IntKind.i64.wrap ((m : Int) - 1) = (m : Int) - 1 := (IntWalk.i64_left _).trans (IntWalk.wrap64_in _ ⟨by omega, by omega⟩)
      have hmN : m < N := by omega
      have HGY : Hid (∀ (v : Value) (hv : m < ks.length), placesV (G ++ [⟨(m, v), hv⟩]) = ((List.range N).drop m).reverse) := Lib.hid fun v hv => by
        rw [placesV_snoc, hG, drop_back' (List.range N) m (by simpa using hmN)]
        simp
      rw [e2]
      clear hPr hJG hG hGl hk hz e2 hKw hTA hf
      gi_wp2
      refine hR.mono ?_
      rintro e W3 (⟨rfl, hJ3, hk3⟩ | ⟨rfl, hJx3⟩)
      · have HJ3 := Lib.hid hJ3; have HK3 := Lib.hid hk3
        clear hJ3 hk3
        gi_wp2
        go_roundw
        case rel => exact ⟨m, _, by omega, rfl, HPR.out.keeps HK3.out, HJ3.out, HGY.out _ _⟩
        case measure => simp [intOf]
      · have HJX := Lib.hid hJx3
        clear hJx3
        gi_wp2
        refine bodyPost_ret (results_none rfl _ _ _) rfl ?_
        exact ⟨⟨_, rfl⟩, .inr ⟨_, trivial, HJX.out⟩⟩
theorem backT_stops (n Bx : Nat) (hn : 1 ≤ n) (A : Option Addr) (c : Nat) (ks : List Tr) (w0 : World) (hK : Kds w0 ks (.slice A ks.length c)) (hlen : ks.length ≤ 8000000000000000) (w : World) (hP : TRow w0 w Bx A c ks) :
    SeqStopsK Fence.wide n Try.prog 106 #[.pointer (some ⟨Bx, 0, none⟩)] (TelV.vals (n := ks.length)) (KeepsT w0 Bx) (fun xs => placesV xs = (List.range ks.length).reverse) (fun _ => True) ks.length w :=
  fun l J Jx W hW hJ _ hY h0 => backT_in n l Bx hn A c ks w0 hK hlen J Jx W hJ hY (hP.below hW) h0
set_option maxHeartbeats 800000 in
theorem backT_any (A : Option Addr) (n c : Nat) (w : World) :
    Calls Try.prog 83 #[.slice A n c] w fun e w' => e = .returned (.func (.func 106) #[] #[.pointer (some ⟨w.heap.size, 0, none⟩)]) ∧ w' = w.alloc (.cells #[.slice A n c] 43) := by
  go_enter Try.func83, Try.ntmps83
  go_wp2
  go_ret
  exact ⟨rfl, rfl⟩
end Go.Proofs.Ythffdmncdoogpaa
/- The library's Backward at ints, for every body that leaves the row as it is. No condition. -/
namespace Go.Proofs.Ythffdmncdoogpaa
open Go Go.RowKit Go.Shelf
attribute [local go_sem] Oper.semAt_some

/-- What a round is told: a place, and the int there. -/
abbrev TelZ : Type := { x : Nat × Int // 0 ≤ x.2 ∧ x.2 < 100000000000 }
abbrev TelZ.vals (x : TelZ) : Array Value := #[.int .i64 (x.1.1 : Int), .int .i64 x.1.2]
def intsZ (G : List TelZ) : List Int := G.map fun x => x.1.2
theorem intsZ_snoc (G : List TelZ) (x : TelZ) : intsZ (G ++ [x]) = intsZ G ++ [x.1.2] := by simp [intsZ]
theorem intsZ_len (G : List TelZ) : (intsZ G).length = G.length := by simp [intsZ]
/-- The box, and the row of ints, lie as they lay. -/
def KeepsZ (Bx : Nat) (A : Option Addr) (W W' : World) : Prop := ∀ b t cs, (b = Bx ∨ A = some ⟨b, 0, none⟩) → Whole W b t cs → Whole W' b t cs
theorem KeepsZ.trans {Bx : Nat} {Ad : Option Addr} {A B C : World} (h : KeepsZ Bx Ad A B) (k : KeepsZ Bx Ad B C) : KeepsZ Bx Ad A C := fun b t cs ht hw => k b t cs ht (h b t cs ht hw)
theorem keepsZ_put (Bx : Nat) (A : Option Addr) (W : World) (l : Nat) (o o' : Obj) (h : W.heap[l]? = some o) (hc : o.isCells = false) : KeepsZ Bx A W (W.putObj l o') := fun b t cs ht hw => ((grownBy_putObj' W l o').block b hw.lt fun e => by
  have e := Option.some.inj e
  subst e
  unfold Whole at hw
  rw [hw] at h
  cases h
  cases hc).trans hw
/-- The row of ints, and the box that it is read from. -/
structure ZRow (W : World) (Bx : Nat) (A : Option Addr) (c : Nat) (vs : List Int) : Prop where
  box : Whole W Bx 56 #[.slice A vs.length c]
  row : vs = [] ∨ ∃ ab cur, A = some ⟨ab, 0, none⟩ ∧ Whole W ab 3 cur ∧ ∀ (i : Nat) (h : i < vs.length), cur[i]? = some (.int .i64 vs[i])
theorem ZRow.keeps {W W' : World} {Bx : Nat} {A : Option Addr} {c : Nat} {vs : List Int} (h : ZRow W Bx A c vs) (k : KeepsZ Bx A W W') : ZRow W' Bx A c vs :=
  ⟨k _ _ _ (.inl rfl) h.box, h.row.imp id fun ⟨ab, cur, e, hw, hc⟩ => ⟨ab, cur, e, k _ _ _ (.inr e) hw, hc⟩⟩
theorem ZRow.below {W W' : World} {Bx : Nat} {A : Option Addr} {c : Nat} {vs : List Int} (h : ZRow W Bx A c vs) (k : Below W.heap.size W W') : ZRow W' Bx A c vs :=
  h.keeps fun b t cs _ hw => hw.below k hw.lt

set_option maxHeartbeats 2000000 in
set_option maxRecDepth 100000 in
theorem backZ_in (n l Bx : Nat) (hn : 1 ≤ n) (A : Option Addr) (c : Nat) (vs : List Int) (hlen : vs.length ≤ 8000000000000000) (J Jx : List TelZ → World → Prop) (W : World)
    (hJ : AbidesFrom W.heap.size J)
    (hY : ∀ pre x W1, J pre W1 → pre.length < vs.length → YieldAt Fence.wide (n - 1) Try.prog l (TelZ.vals x) W1 fun e W' =>
      (e = .returned (.bool true) ∧ J (pre ++ [x]) W' ∧ KeepsZ Bx A W1 W') ∨ (e = .returned (.bool false) ∧ Jx (pre ++ [x]) W'))
    (hV : ∀ x ∈ vs, 0 ≤ x ∧ x < 100000000000) (hP : ZRow W Bx A c vs) (h0 : J [] W) :
    CallsIn Fence.wide n Try.prog 107 #[.func (.yield l) #[] #[], .pointer (some ⟨Bx, 0, none⟩)] W fun e W' => (∃ v, e = .returned v) ∧
      ((∃ xs : List TelZ, intsZ xs = vs.reverse ∧ J xs W') ∨ (∃ pre : List TelZ, True ∧ Jx pre W')) := by
  have HV := Lib.hid hV; have HP := Lib.hid hP; have HJ0 := Lib.hid h0; have HY := Lib.hid hY
  obtain ⟨N, hN⟩ : ∃ N, vs.length = N := ⟨_, rfl⟩
  have c0 : W.cell? ⟨Bx, 0, none⟩ = some (.slice A N c) := by rw [← hN]; exact (hP.box.cell 0).trans rfl
  have HN := Lib.hid hN
  have e1 : IntKind.i64.wrap ((N : Int) - 1) = (N : Int) - 1 := (IntWalk.i64_left _).trans (IntWalk.wrap64_in _ ⟨by omega, by omega⟩)
  have hlN : N ≤ 8000000000000000 := by omega
  clear hP h0 hY hN hJ hlen hV
  refine callsIn_of_wp Try.func107 rfl trivial ?_ rfl
  simp only [Try.ntmps107, List.size_toArray, List.length_cons, List.length_nil, Nat.reduceAdd, Nat.reduceSub, Array.replicate_succ, Array.replicate_zero, List.push_toArray, List.append_toArray, List.nil_append, List.cons_append]
  gi_wp2
  gi_loopw [3] (fun i wr => ∃ (k : Nat) (G : List TelZ), k ≤ N ∧ i = .int .i64 ((k : Int) - 1) ∧ ZRow wr Bx A c vs ∧ J G wr ∧ intsZ G = (vs.drop k).reverse) (fun i _ => (intOf i + 1).toNat)
  case atStart => exact ⟨N, [], Nat.le_refl _, rfl, HP.out, HJ0.out, by rw [← HN.out]; simp [intsZ]⟩
  case round =>
    obtain ⟨k, G, hk, rfl, hPr, hJG, hG⟩ := hrel
    have HPR := Lib.hid hPr; have HJG := Lib.hid hJG; have HG := Lib.hid hG
    by_cases hz : k = 0
    · subst hz
      clear hPr hJG hG
      gi_wp2
      go_end0
      exact ⟨⟨_, rfl⟩, .inl ⟨G, by rw [HG.out]; rfl, HJG.out⟩⟩
    · obtain ⟨m, rfl⟩ : ∃ m, k = m + 1 := ⟨k - 1, by omega⟩
      have hm : m < vs.length := by rw [HN.out]; omega
      have hGl : G.length < vs.length := by
        have := congrArg List.length hG
        simp only [intsZ_len, List.length_reverse, List.length_drop] at this
        omega
      obtain ⟨y, hy'⟩ : ∃ y, vs[m] = y := ⟨_, rfl⟩
      have hyb : 0 ≤ y ∧ y < 100000000000 := by rw [← hy']; exact HV.out _ (List.getElem_mem hm)
      obtain ⟨fn, tmps, assign, body, hy, hR⟩ := HY.out G ⟨(m, y), hyb⟩ _ hJG hGl
      have c1 : wr.cell? ⟨Bx, 0, none⟩ = some (.slice A N c) := by have := (hPr.box.cell 0).trans rfl; rw [HN.out] at this; exact this
      rcases hPr.row with h | ⟨ab, cur, rfl, hw, hcur⟩
      · rw [h] at hm; simp at hm
      have c2 : wr.cell? ⟨ab, m, none⟩ = some (.int .i64 vs[m]) := (hw.cell m).trans (hcur m hm)
      have e2 : ((m + 1 : Nat) : Int) - 1 = (m : Int) := by omega
      have e3 : IntKind.i64.wrap ((m : Int) - 1) = (m : Int) - 1 := (IntWalk.i64_left _).trans (IntWalk.wrap64_in _ ⟨by omega, by omega⟩)
      have HD := Lib.hid (drop_back' vs m hm)
      have HGY := Lib.hid (show intsZ (G ++ [⟨(m, y), hyb⟩]) = (vs.drop m).reverse by rw [intsZ_snoc, hG, HD.out, hy'])
      rw [hy'] at c2
      have hmN : m < N := by omega
      rw [e2]
      clear hPr hJG hG hGl hw hcur hm hy' hk hz HD e2
      gi_wp2
      refine hR.mono ?_
      rintro e W3 (⟨rfl, hJ3, hk3⟩ | ⟨rfl, hJx3⟩)
      · have HJ3 := Lib.hid hJ3; have HK3 := Lib.hid hk3
        clear hJ3 hk3
        gi_wp2
        go_roundw
        case rel => exact ⟨m, G ++ [⟨(m, y), hyb⟩], by omega, rfl, HPR.out.keeps HK3.out, HJ3.out, HGY.out⟩
        case measure => simp [intOf]
      · have HJX := Lib.hid hJx3
        clear hJx3
        gi_wp2
        refine bodyPost_ret (results_none rfl _ _ _) rfl ?_
        exact ⟨⟨_, rfl⟩, .inr ⟨_, trivial, HJX.out⟩⟩
theorem backZ_stops (n Bx : Nat) (hn : 1 ≤ n) (A : Option Addr) (c : Nat) (vs : List Int) (hlen : vs.length ≤ 8000000000000000) (hV : ∀ x ∈ vs, 0 ≤ x ∧ x < 100000000000) (w : World) (hP : ZRow w Bx A c vs) :
    SeqStopsK Fence.wide n Try.prog 107 #[.pointer (some ⟨Bx, 0, none⟩)] TelZ.vals (KeepsZ Bx A) (fun xs => intsZ xs = vs.reverse) (fun _ => True) vs.length w :=
  fun l J Jx W hW hJ _ hY h0 => backZ_in n l Bx hn A c vs hlen J Jx W hJ hY hV (hP.below hW) h0
set_option maxHeartbeats 800000 in
theorem backZ_any (A : Option Addr) (n c : Nat) (w : World) :
    Calls Try.prog 84 #[.slice A n c] w fun e w' => e = .returned (.func (.func 107) #[] #[.pointer (some ⟨w.heap.size, 0, none⟩)]) ∧ w' = w.alloc (.cells #[.slice A n c] 56) := by
  go_enter Try.func84, Try.ntmps84
  go_wp2
  go_ret
  exact ⟨rfl, rfl⟩
end Go.Proofs.Ythffdmncdoogpaa
/- The code of a tree without Kids. No condition. -/
namespace Go.Proofs.Ythffdmncdoogpaa
open Go Go.RowKit

theorem r64_small (x : Int) (h : -1000000000000 ≤ x ∧ x ≤ 1000000000000) : R64 x := by unfold R64; omega
theorem insF_bare (w : World) (op out arg at' : Int) (h1 : R64 op) (h2 : R64 out) (h3 : R64 arg) (h4 : R64 at') : InsF w ⟨op, out, arg, [], at'⟩ #[.int .i64 op, .int .i64 out, .int .i64 arg, .slice none 0 0, .int .i64 at'] :=
  ⟨none, 0, rfl, ⟨⟨none, 0, rfl, Nat.le_refl _, Nat.zero_le _, fun _ => rfl, .inl rfl, by simp⟩, .inl rfl⟩, h1, h2, h3, h4, by simp⟩
theorem insF_set {w : World} {a : Option Addr} {n c : Nat} {l : List (Int × Int)} (k : Int) (hk : R64 k) (hl : l.length ≤ 17592186044416) (h : Rgs w (.slice a n c) l) (hk2 : l = [] ∨ ∀ b, (Value.slice a n c).ownBlock = some b → KindR w b) : InsF w ⟨2, k, 0, l, 0⟩ #[.int .i64 2, .int .i64 k, .int .i64 0, .slice a n c, .int .i64 0] := by
  obtain ⟨a', c', e, h2⟩ := h
  injection e with e1 e2 e3
  subst e1 e2 e3
  exact ⟨a, c, rfl, ⟨⟨a, c, rfl, h2⟩, hk2⟩, ⟨r64_small 2 (by omega), hk, r64_small 0 (by omega), r64_small 0 (by omega), hl⟩⟩
theorem OwnR.kindR {w : World} {B : Nat} {v : Value} {l : List (Int × Int)} (h : OwnR w B v l) : ∀ b, v.ownBlock = some b → KindR w b := fun b hb => by
  rcases h.1.2 with ⟨rfl, _⟩ | ⟨g, cap, cur, rfl, _, hh, _⟩
  · simp [Value.ownBlock] at hb
  · obtain rfl : g = b := by simpa [Value.ownBlock] using hb
    exact ⟨_, _, hh⟩
theorem CodPost.from {w0 w w1 : World} {q : Nat} {g : Int} {r : Nat × List Ins} {e : Ending} {w' : World} (h : CodPost w0 q g w1 r e w') (hb : Below w.heap.size w w1) : CodPost w0 q g w r e w' := ⟨h.1, h.2.1, (Fr.of_below hb).trans h.2.2⟩
theorem CodPost.step {w0 w w1 : World} {q : Nat} {g : Int} {r : Nat × List Ins} {e : Ending} {w' : World} (h : CodPost w0 q g w1 r e w') (hb : Fr q w w1) : CodPost w0 q g w r e w' := ⟨h.1, h.2.1, hb.trans h.2.2⟩
/-- What is asked of a tree's code. -/
structure CodArg (w0 : World) (q : Nat) (g : Int) (w : World) (t : Tr) (k : Nat) (L : List Ins) (pb po : Nat) : Prop where
  bld : Bld w0 q g w L
  at' : TAt w0 pb po t
  k9 : k < 100000000000
  l9 : L.length + 20000 * nodesR t ≤ 100000000000
  s9 : sizeT g t ≤ 10000

set_option maxHeartbeats 1600000 in
set_option maxRecDepth 100000 in
theorem ccode_none (w0 : World) (q : Nat) (g : Int) (w : World) (t : Tr) (k : Nat) (L : List Ins) (pb po : Nat) (h : CodArg w0 q g w t k L pb po) (ho : t.fld.op = 1) :
    Calls Try.prog 35 #[.pointer (some ⟨q, 0, none⟩), .pointer (some ⟨pb, po, none⟩), .int .i64 k] w (CodPost w0 q g w (codeT g t k L)) := by
  obtain ⟨A, n, cc, a2, s, c2, -, -, ⟨d0, -, -, -, -, -, -, -, -, -⟩, -⟩ := (h.at'.below h.bld.below).ten
  rw [ho] at d0
  rw [codeT_none ho]
  have HP := Lib.hid (cput_any w0 q g L ⟨6, 0, 0, [], 0⟩ _ w h.bld (insF_bare w 6 0 0 0 (r64_small _ (by omega)) (r64_small _ (by omega)) (r64_small _ (by omega)) (r64_small _ (by omega))) (by have := h.l9; omega))
  clear h ho
  go_enter Try.func35, Try.ntmps35
  go_wp2_with fail
  refine HP.out.mono ?_
  rintro e w1 ⟨rfl, h1⟩
  have H1 := Lib.hid h1
  clear h1 d0
  go_wp2_with fail
  go_ret
  exact ⟨rfl, H1.out⟩

set_option maxHeartbeats 1600000 in
set_option maxRecDepth 100000 in
theorem ccode_empty (w0 : World) (q : Nat) (g : Int) (w : World) (t : Tr) (k : Nat) (L : List Ins) (pb po : Nat) (h : CodArg w0 q g w t k L pb po) (ho : t.fld.op = 2) :
    Calls Try.prog 35 #[.pointer (some ⟨q, 0, none⟩), .pointer (some ⟨pb, po, none⟩), .int .i64 k] w (CodPost w0 q g w (codeT g t k L)) := by
  obtain ⟨A, n, cc, a2, s, c2, -, -, ⟨d0, -, -, -, -, -, -, -, -, -⟩, -⟩ := (h.at'.below h.bld.below).ten
  rw [ho] at d0
  rw [codeT_empty ho]
  have HB := Lib.hid h.bld
  clear h ho
  go_enter Try.func35, Try.ntmps35
  go_wp2_with fail
  go_ret
  exact ⟨rfl, HB.out, Fr.refl _ _⟩

set_option maxHeartbeats 1600000 in
set_option maxRecDepth 100000 in
theorem ccode_at (w0 : World) (q : Nat) (g : Int) (w : World) (t : Tr) (k : Nat) (L : List Ins) (pb po : Nat) (h : CodArg w0 q g w t k L pb po) (ho : t.fld.op = 5) :
    Calls Try.prog 35 #[.pointer (some ⟨q, 0, none⟩), .pointer (some ⟨pb, po, none⟩), .int .i64 k] w (CodPost w0 q g w (codeT g t k L)) := by
  obtain ⟨A, n, cc, a2, s, c2, -, -, ⟨d0, -, -, -, d4, -, -, -, -, -⟩, -, -, -, -, hF⟩ := (h.at'.below h.bld.below).ten
  rw [ho] at d0
  rw [codeT_at ho]
  have hk := h.k9
  have HP := Lib.hid (cput_any w0 q g L ⟨5, k, 0, [], t.fld.at'⟩ _ w h.bld (insF_bare w 5 k 0 t.fld.at' (r64_small _ (by omega)) (r64_small _ (by omega)) (r64_small _ (by omega)) hF.2.2.1) (by have := h.l9; omega))
  obtain ⟨a, ha⟩ : ∃ a, t.fld.at' = a := ⟨_, rfl⟩
  rw [ha] at d4 HP ⊢
  clear h ho hF ha
  go_enter Try.func35, Try.ntmps35
  go_wp2_with fail
  refine HP.out.mono ?_
  rintro e w1 ⟨rfl, h1⟩
  have H1 := Lib.hid h1
  clear h1 d0
  go_wp2_with fail
  go_ret
  exact ⟨rfl, H1.out⟩

set_option maxHeartbeats 1600000 in
set_option maxRecDepth 100000 in
theorem ccode_set (w0 : World) (q : Nat) (g : Int) (w : World) (t : Tr) (k : Nat) (L : List Ins) (pb po : Nat) (h : CodArg w0 q g w t k L pb po) (ho : t.fld.op = 4) :
    Calls Try.prog 35 #[.pointer (some ⟨q, 0, none⟩), .pointer (some ⟨pb, po, none⟩), .int .i64 k] w (CodPost w0 q g w (codeT g t k L)) := by
  obtain ⟨A, n, cc, a2, s, c2, -, -, ⟨d0, -, -, d3, -, -, -, -, -, -⟩, -, -, -, hR, hF⟩ := (h.at'.below h.bld.below).ten
  rw [ho] at d0
  rw [codeT_set ho]
  have hk := h.k9
  obtain ⟨l, hl⟩ : ∃ l, t.fld.set = l := ⟨_, rfl⟩
  have hl9 : l.length ≤ 17592186044416 := by rw [← hl]; exact hF.2.2.2.2.2.2.2
  rw [hl] at hR ⊢
  have HC := Lib.hid (cloneR_any _ l w hR hl9)
  have HB := Lib.hid h.bld
  have HL := Lib.hid (show L.length ≤ 100000000000 by have := h.l9; omega)
  have HL9 := Lib.hid hl9
  clear h ho hF hl hR hl9
  go_enter Try.func35, Try.ntmps35
  go_wp2_with fail
  refine HC.out.mono ?_
  rintro e w1 ⟨v, rfl, hv, hb⟩
  obtain ⟨va, vn, vc, rfl⟩ : ∃ a n c, v = .slice a n c := by
    rcases hv.1.2 with ⟨e, _⟩ | ⟨_, _, _, e, _⟩
    · exact ⟨_, _, _, e⟩
    · exact ⟨_, _, _, e⟩
  have hin : InsF w1 ⟨2, k, 0, l, 0⟩ #[.int .i64 2, .int .i64 k, .int .i64 0, .slice va vn vc, .int .i64 0] := insF_set k (by unfold R64; omega) HL9.out hv.rgs (.inr hv.kindR)
  have HP := Lib.hid (cput_any w0 q g L ⟨2, k, 0, l, 0⟩ _ w1 (HB.out.on hb) hin HL.out)
  have HBB := Lib.hid hb
  clear hv hb hin d0 d3
  go_wp2_with fail
  refine HP.out.mono ?_
  intro e w2 h2
  obtain ⟨rfl, h3⟩ := h2.from HBB.out
  have H1 := Lib.hid h3
  clear h2 h3
  go_wp2_with fail
  go_ret
  exact ⟨rfl, H1.out⟩

set_option maxHeartbeats 1600000 in
set_option maxRecDepth 100000 in
theorem ccode_rune (w0 : World) (q : Nat) (g : Int) (w : World) (t : Tr) (k : Nat) (L : List Ins) (pb po : Nat) (h : CodArg w0 q g w t k L pb po) (ho : t.fld.op = 3) :
    Calls Try.prog 35 #[.pointer (some ⟨q, 0, none⟩), .pointer (some ⟨pb, po, none⟩), .int .i64 k] w (CodPost w0 q g w (codeT g t k L)) := by
  obtain ⟨A, n, cc, a2, s, c2, -, -, ⟨d0, -, d2, -, -, -, -, -, -, -⟩, -, -, -, -, hF⟩ := (h.at'.below h.bld.below).ten
  rw [ho] at d0
  rw [codeT_rune ho]
  have hk := h.k9
  obtain ⟨c, hc⟩ : ∃ c, t.fld.rune = c := ⟨_, rfl⟩
  have hc9 : I32 c := by rw [← hc]; exact hF.2.1
  rw [hc] at d2 ⊢
  have HB := Lib.hid h.bld
  have HL := Lib.hid (show L.length ≤ 100000000000 by have := h.l9; omega)
  have HC9 := Lib.hid hc9
  have hP : ∀ W, Below (w.alloc (.cells #[.int .i32 c, .int .i32 c] 55)).heap.size (w.alloc (.cells #[.int .i32 c, .int .i32 c] 55)) W → Calls Try.prog 36 #[.pointer (some ⟨q, 0, none⟩), .agg #[.int .i64 2, .int .i64 k, .int .i64 0, .slice (some ⟨w.heap.size, 0, none⟩) 1 1, .int .i64 0]] W (CodPost w0 q g W (L.length, L ++ [⟨2, k, 0, [(c, c)], 0⟩])) := fun W hW => by
    have hb : Below w.heap.size w W := ((Below.refl w.heap.size w).alloc (Nat.le_refl _) _).trans (hW.mono (by simp))
    refine cput_any w0 q g L _ _ W (HB.out.on hb) (insF_set (l := [(c, c)]) k (by unfold R64; omega) (by simp) ((rgs_new w c c hc9 hc9).below hW) (.inr fun b hb => ?_)) HL.out
    obtain rfl : w.heap.size = b := by simpa [Value.ownBlock] using hb
    exact ⟨_, _, (hW.block _ (by simp)).trans (heap_alloc_new w _)⟩
  have HP := Lib.hid hP
  clear h ho hF hc hP hc9
  go_enter Try.func35, Try.ntmps35
  go_upto_region 5 with (fail)
  go_region_with (go_at_call 36; refine (HP.out _ ?hb).mono ?_; (case hb => first | exact Below.refl _ _ | exact (Below.refl _ _).drew | exact below_draws _ _); intro e w2 h2; obtain ⟨rfl, h3⟩ := h2.from (w := w) (by first | exact (Below.refl w.heap.size w).alloc (Nat.le_refl _) _ | exact ((Below.refl w.heap.size w).alloc (Nat.le_refl _) _).drew); have H1 := Lib.hid h3; clear h2 h3)
  all_goals
    go_wp2_with fail
    go_ret
    exact ⟨rfl, H1.out⟩
end Go.Proofs.Ythffdmncdoogpaa
/- The code of a group, of a loop, of what may be left out. No condition. -/
namespace Go.Proofs.Ythffdmncdoogpaa
open Go Go.RowKit

def CodeC (g : Int) (t : Tr) : Prop := ∀ (w0 : World) (q : Nat) (w : World) (k : Nat) (L : List Ins) (pb po : Nat), CodArg w0 q g w t k L pb po →
  Calls Try.prog 35 #[.pointer (some ⟨q, 0, none⟩), .pointer (some ⟨pb, po, none⟩), .int .i64 k] w (CodPost w0 q g w (codeT g t k L))
theorem plain_ok {g : Int} {t : Tr} (hs : ShapedP t) (hn : NoRep t) : CodOk (sizeT g t) 100000000000 (fun _ => True) (codeT g t) :=
  code_ok g 100000000000 _ t hs hn ⟨trivial, fun _ _ _ _ _ => trivial, fun _ _ _ _ => trivial, fun _ _ _ _ => trivial, fun _ _ _ _ _ => ⟨trivial, trivial⟩⟩
/-- The one Kid of a tree in memory. -/
theorem TAt.one {w : World} {b o : Nat} {t x : Tr} (h : TAt w b o t) (hk : t.kids = [x]) : ∃ kb ko c, w.cell? ⟨b, o + 1, none⟩ = some (.slice (some ⟨kb, ko, none⟩) 1 c) ∧ TAt w kb ko x := by
  obtain ⟨A, n, cc, a2, s, c2, hn, -, ⟨-, d1, -⟩, -, -, hK, -⟩ := h.ten
  obtain ⟨kb, ko, rfl, hx⟩ := TAt.kid hK 0 (by simp [hk])
  rw [hk] at hn
  obtain rfl : n = 1 := by simpa using hn.symm
  refine ⟨kb, ko, cc, d1, ?_⟩
  have e : t.kids[0]'(by simp [hk]) = x := by simp [hk]
  rw [e, Nat.zero_mul, Nat.add_zero] at hx
  exact hx
theorem TAt.cells {w : World} {b o : Nat} {t : Tr} (h : TAt w b o t) : w.cell? ⟨b, o, none⟩ = some (.int .i64 t.fld.op) ∧ w.cell? ⟨b, o + 5, none⟩ = some (.int .i64 t.fld.cap) ∧ w.cell? ⟨b, o + 9, none⟩ = some (.bool t.fld.lazy) := by
  obtain ⟨A, n, cc, a2, s, c2, -, -, ⟨d0, -, -, -, -, d5, -, -, -, d9⟩, -⟩ := h.ten
  exact ⟨d0, d5, d9⟩

set_option maxHeartbeats 1600000 in
set_option maxRecDepth 100000 in
theorem cgroup_any (w0 : World) (q : Nat) (g : Int) (hg : 0 ≤ g ∧ g ≤ 2000) (w : World) (t x : Tr) (k : Nat) (L : List Ins) (pb po : Nat) (h : CodArg w0 q g w t k L pb po) (ho : t.fld.op = 6) (hk : t.kids = [x]) (hs : ShapedP t) (hx : CodeC g x) (hok : CodOk (sizeT g x) 100000000000 (fun _ => True) (codeT g x)) :
    Calls Try.prog 54 #[.pointer (some ⟨q, 0, none⟩), .pointer (some ⟨pb, po, none⟩), .int .i64 k] w (CodPost w0 q g w (codeT g t k L)) := by
  have hc1 : 1 ≤ t.fld.cap := by
    obtain ⟨-, -, hc, -⟩ := (shapedP_iff t).1 hs
    have : ¬ t.fld.cap < 1 := fun e => hc ⟨ho, e⟩
    omega
  have hsz : sizeT g t = (if t.fld.cap ≤ g then 2 else 0) + sizeT g x := by
    rw [sizeT_eq, hk]
    simp [ownN, ho]
  have hnd : nodesR t = 1 + nodesR x := by rw [nodesR_eq, hk]; simp
  have HA := Lib.hid (casked_any w0 q g L w pb po t h.bld hg (h.at'.below h.bld.below))
  have HH := Lib.hid h; have HK := Lib.hid hk; have HX := Lib.hid hx; have HOK := Lib.hid hok; have HSZ := Lib.hid hsz; have HO := Lib.hid ho
  have hk9 := h.k9
  have hl9 := h.l9
  have hs9 := h.s9
  rw [hnd] at hl9
  rw [hsz] at hs9
  obtain ⟨cp, hcp⟩ : ∃ c, t.fld.cap = c := ⟨_, rfl⟩
  have HCP := Lib.hid hcp
  rw [hcp] at HA hc1 hs9
  clear h hk hx hok hsz hnd ho hs hcp
  go_enter Try.func54, Try.ntmps54
  go_wp2_with fail
  refine HA.out.mono ?_
  rintro e w1 ⟨B, rfl, hq, hb⟩
  have HB1 := Lib.hid hb
  have hB1 := HH.out.bld.on hb
  have HBL := Lib.hid hB1
  have hT1 := HH.out.at'.below hB1.below
  obtain ⟨kb, ko, kc, d1, hx1⟩ := hT1.one HK.out
  obtain ⟨-, d5, -⟩ := hT1.cells
  rw [HCP.out] at d5
  clear hb hB1 hT1 hx1
  cases B
  · have hcg : ¬ cp ≤ g := fun h => by simpa using hq.2 h
    rw [if_neg hcg] at hs9
    have HCG := Lib.hid hcg
    have hx0 : TAt w0 kb ko x := by
      obtain ⟨kb', ko', kc', e1, e2⟩ := HH.out.at'.one HK.out
      have := (HBL.out.below.cell (World.block_lt_of_cell? w0 _ e1)).trans e1
      rw [d1] at this
      injection this with this
      injection this with this
      injection this with this
      injection this with h1 h2
      subst h1 h2
      exact e2
    have HC := Lib.hid (HX.out w0 q w1 k L kb ko ⟨HBL.out, hx0, hk9, by omega, by omega⟩)
    clear hq hcg d5 hx0
    go_wp2_with fail
    refine HC.out.mono ?_
    intro e w2 h2
    obtain ⟨rfl, h3⟩ := h2.from HB1.out
    have H3 := Lib.hid h3
    clear h2 h3
    go_wp2_with fail
    go_ret
    rw [codeT_bare HO.out HK.out (by have := HCG.out; rw [HCP.out]; omega)]
    exact ⟨rfl, H3.out⟩
  · have hcg : cp ≤ g := by simpa using hq
    rw [if_pos hcg] at hs9
    have HCG := Lib.hid hcg
    have hx0 : TAt w0 kb ko x := by
      obtain ⟨kb', ko', kc', e1, e2⟩ := HH.out.at'.one HK.out
      have := (HBL.out.below.cell (World.block_lt_of_cell? w0 _ e1)).trans e1
      rw [d1] at this
      injection this with this
      injection this with this
      injection this with this
      injection this with h1 h2
      subst h1 h2
      exact e2
    have HX0 := Lib.hid hx0
    have hcp2 : cp ≤ 2000 := by omega
    have v1 : IntKind.i64.wrap (2 * cp) = 2 * cp := co_wrap _ (by omega)
    have v2 : IntKind.i64.wrap (2 * cp + 1) = 2 * cp + 1 := co_wrap _ (by omega)
    have HP1 := Lib.hid (cput_any w0 q g L ⟨4, k, 2 * cp + 1, [], 0⟩ _ w1 HBL.out (insF_bare w1 4 k (2 * cp + 1) 0 (r64_small _ (by omega)) (r64_small _ (by omega)) (r64_small _ (by omega)) (r64_small _ (by omega))) (by omega))
    clear hq hcg hx0
    go_wp2_with fail
    refine HP1.out.mono ?_
    intro e w2 h2
    obtain ⟨rfl, hB2, hF2⟩ := h2.from HB1.out
    have HB2 := Lib.hid hB2; have HF2 := Lib.hid hF2
    have d1b : w2.cell? ⟨pb, po + 1, none⟩ = some (.slice (some ⟨kb, ko, none⟩) 1 kc) := by
      obtain ⟨kb', ko', kc', e1, e2⟩ := HH.out.at'.one HK.out
      have g1 := (HBL.out.below.cell (World.block_lt_of_cell? w0 _ e1)).trans e1
      rw [d1] at g1
      rw [g1, ← e1]
      exact hB2.below.cell (World.block_lt_of_cell? w0 _ e1)
    have hL1 : (L ++ [(⟨4, k, 2 * cp + 1, [], 0⟩ : Ins)]).length = L.length + 1 := by simp
    have HC := Lib.hid (HX.out w0 q w2 L.length _ kb ko ⟨hB2, HX0.out, by omega, by rw [hL1]; omega, by omega⟩)
    obtain ⟨r, hr⟩ : ∃ r, codeT g x L.length (L ++ [⟨4, k, 2 * cp + 1, [], 0⟩]) = r := ⟨_, rfl⟩
    have hr1 := (HOK.out.all L.length (L ++ [⟨4, k, 2 * cp + 1, [], 0⟩]) (by omega) (by rw [hL1]; omega) (fun _ _ => trivial)).1
    have hr2 := HOK.out.len L.length (L ++ [⟨4, k, 2 * cp + 1, [], 0⟩])
    rw [hr] at HC hr1 hr2
    rw [hL1] at hr2
    have HR := Lib.hid hr; have HR2 := Lib.hid hr2
    clear h2 hB2 hF2 d1 d5 hr hL1 hr2
    go_wp2_with fail
    refine HC.out.mono ?_
    intro e w3 h3
    obtain ⟨rfl, hB3, hF3⟩ := h3.step HF2.out
    have HB3 := Lib.hid hB3; have HF3 := Lib.hid hF3
    obtain ⟨-, d5, -⟩ := (HH.out.at'.below hB3.below).cells
    rw [HCP.out] at d5
    have HP2 := Lib.hid (cput_any w0 q g r.2 ⟨4, r.1, 2 * cp, [], 0⟩ _ w3 hB3 (insF_bare w3 4 r.1 (2 * cp) 0 (r64_small _ (by omega)) (r64_small _ (by omega)) (r64_small _ (by omega)) (r64_small _ (by omega))) (by have := HR2.out; omega))
    clear h3 hB3 hF3 d1b
    go_wp2_with fail
    refine HP2.out.mono ?_
    intro e w4 h4
    obtain ⟨rfl, h5⟩ := h4.step HF3.out
    have H5 := Lib.hid h5
    clear h4 h5
    go_wp2_with fail
    go_ret
    rw [codeT_cap HO.out HK.out (by have := HCG.out; rw [HCP.out]; omega)]
    unfold capC
    rw [HCP.out, HR.out]
    exact ⟨rfl, H5.out⟩

set_option maxHeartbeats 1600000 in
set_option maxRecDepth 100000 in
theorem cloop_any (w0 : World) (q : Nat) (g : Int) (w : World) (t x : Tr) (k : Nat) (L : List Ins) (pb po : Nat) (h : CodArg w0 q g w t k L pb po) (ho : t.fld.op = 7 ∨ t.fld.op = 8) (hk : t.kids = [x]) (hx : CodeC g x) (hok : CodOk (sizeT g x) 100000000000 (fun _ => True) (codeT g x)) :
    Calls Try.prog 55 #[.pointer (some ⟨q, 0, none⟩), .pointer (some ⟨pb, po, none⟩), .int .i64 k] w (CodPost w0 q g w (codeT g t k L)) := by
  have hsz : sizeT g t = 1 + sizeT g x := by
    rw [sizeT_eq, hk]
    unfold ownN
    rw [if_neg (by omega), if_neg (by omega), if_neg (by omega)]
    simp
  have hnd : nodesR t = 1 + nodesR x := by rw [nodesR_eq, hk]; simp
  have HH := Lib.hid h; have HK := Lib.hid hk; have HX := Lib.hid hx; have HOK := Lib.hid hok; have HO := Lib.hid ho
  have hk9 := h.k9
  have hl9 := h.l9
  have hs9 := h.s9
  rw [hnd] at hl9
  rw [hsz] at hs9
  have HP1 := Lib.hid (cput_any w0 q g L ⟨3, 0, 0, [], 0⟩ _ w h.bld (insF_bare w 3 0 0 0 (r64_small _ (by omega)) (r64_small _ (by omega)) (r64_small _ (by omega)) (r64_small _ (by omega))) (by omega))
  clear h hk hx hok hsz hnd ho
  go_enter Try.func55, Try.ntmps55
  go_wp2_with fail
  refine HP1.out.mono ?_
  rintro e w2 ⟨rfl, hB2, hF2⟩
  have HB2 := Lib.hid hB2; have HF2 := Lib.hid hF2
  obtain ⟨kb, ko, kc, e1, hx0⟩ := HH.out.at'.one HK.out
  have d1 := (hB2.below.cell (World.block_lt_of_cell? w0 _ e1)).trans e1
  have hL1 : (L ++ [(⟨3, 0, 0, [], 0⟩ : Ins)]).length = L.length + 1 := by simp
  have HC := Lib.hid (HX.out w0 q w2 L.length _ kb ko ⟨hB2, hx0, by omega, by rw [hL1]; omega, by omega⟩)
  obtain ⟨r, hr⟩ : ∃ r, codeT g x L.length (L ++ [⟨3, 0, 0, [], 0⟩]) = r := ⟨_, rfl⟩
  have hr1 := (HOK.out.all L.length (L ++ [⟨3, 0, 0, [], 0⟩]) (by omega) (by rw [hL1]; omega) (fun _ _ => trivial)).1
  have hr2 := HOK.out.len L.length (L ++ [⟨3, 0, 0, [], 0⟩])
  have hr3 := HOK.out.keep L.length (L ++ [⟨3, 0, 0, [], 0⟩]) L.length (by rw [hL1]; omega)
  rw [hr] at HC hr1 hr2 hr3
  rw [hL1] at hr2
  have HR := Lib.hid hr; have HR2 := Lib.hid hr2; have HR3 := Lib.hid hr3
  clear hB2 hF2 hr hL1 hr2 hr3 hx0 e1
  go_wp2_with fail
  refine HC.out.mono ?_
  intro e w3 h3
  obtain ⟨rfl, hB3, hF3⟩ := h3.step HF2.out
  have HB3 := Lib.hid hB3; have HF3 := Lib.hid hF3
  obtain ⟨-, -, d9⟩ := (HH.out.at'.below hB3.below).cells
  obtain ⟨z, hz⟩ : ∃ z, t.fld.lazy = z := ⟨_, rfl⟩
  have HZ := Lib.hid hz
  rw [hz] at d9
  have hi : L.length < r.2.length := by have := HR2.out; omega
  have hat : r.2[L.length]'hi = ⟨3, 0, 0, [], 0⟩ := by
    have := HR3.out
    rw [List.getElem?_eq_getElem hi] at this
    simpa using this
  have HP2 := Lib.hid (cpatch_any w0 q g r.2 w3 L.length r.1 k z hB3 hi hat (by omega) (by omega) (by have := HR2.out; omega))
  clear h3 hB3 hF3 d1 hz hi hat
  go_wp2_with fail
  refine HP2.out.mono ?_
  rintro e w4 ⟨⟨v, rfl⟩, hB4, hF4⟩
  obtain ⟨d0, -, -⟩ := (HH.out.at'.below hB4.below).cells
  have HB4 := Lib.hid hB4; have HF4 := Lib.hid (HF3.out.trans hF4)
  clear hB4 hF4 d9
  have hfin : codeT g t k L = (if t.fld.op = 8 then r.1 else L.length, r.2.set L.length (altI r.1 k z)) := by
    rw [codeT_loop HO.out HK.out]
    unfold loopC
    rw [HR.out, HZ.out]
  have HFIN := Lib.hid hfin
  clear hfin
  rcases HO.out with e | e
  · rw [e] at d0
    have HE := Lib.hid (show ¬ t.fld.op = 8 by omega)
    clear e
    go_wp2_with fail
    go_ret
    rw [HFIN.out, if_neg HE.out]
    exact ⟨rfl, HB4.out, HF4.out⟩
  · rw [e] at d0
    have HE := Lib.hid e
    clear e
    go_wp2_with fail
    go_ret
    rw [HFIN.out, if_pos HE.out]
    exact ⟨rfl, HB4.out, HF4.out⟩

set_option maxHeartbeats 1600000 in
set_option maxRecDepth 100000 in
theorem cquest_any (w0 : World) (q : Nat) (g : Int) (w : World) (t x : Tr) (k : Nat) (L : List Ins) (pb po : Nat) (h : CodArg w0 q g w t k L pb po) (ho : t.fld.op = 9) (hk : t.kids = [x]) (hx : CodeC g x) (hok : CodOk (sizeT g x) 100000000000 (fun _ => True) (codeT g x)) :
    Calls Try.prog 35 #[.pointer (some ⟨q, 0, none⟩), .pointer (some ⟨pb, po, none⟩), .int .i64 k] w (CodPost w0 q g w (codeT g t k L)) := by
  have hsz : sizeT g t = 1 + sizeT g x := by
    rw [sizeT_eq, hk]
    unfold ownN
    rw [if_neg (by omega), if_neg (by omega), if_neg (by omega)]
    simp
  have hnd : nodesR t = 1 + nodesR x := by rw [nodesR_eq, hk]; simp
  have HH := Lib.hid h; have HK := Lib.hid hk; have HX := Lib.hid hx; have HOK := Lib.hid hok; have HO := Lib.hid ho
  have hk9 := h.k9
  have hl9 := h.l9
  have hs9 := h.s9
  rw [hnd] at hl9
  rw [hsz] at hs9
  obtain ⟨kb, ko, kc, e1, hx0⟩ := h.at'.one hk
  have d1 := (h.bld.below.cell (World.block_lt_of_cell? w0 _ e1)).trans e1
  obtain ⟨d0, -, -⟩ := (h.at'.below h.bld.below).cells
  rw [ho] at d0
  have HC := Lib.hid (hx w0 q w k L kb ko ⟨h.bld, hx0, by omega, by omega, by omega⟩)
  obtain ⟨r, hr⟩ : ∃ r, codeT g x k L = r := ⟨_, rfl⟩
  have hr1 := (hok.all k L (by omega) (by omega) (fun _ _ => trivial)).1
  have hr2 := hok.len k L
  rw [hr] at HC hr1 hr2
  have HR := Lib.hid hr; have HR2 := Lib.hid hr2
  clear h hk hx hok hsz hnd ho e1 hx0 hr hr2
  go_enter Try.func35, Try.ntmps35
  go_wp2_with fail
  refine HC.out.mono ?_
  rintro e w2 ⟨rfl, hB2, hF2⟩
  have HB2 := Lib.hid hB2; have HF2 := Lib.hid hF2
  have HP1 := Lib.hid (cput_any w0 q g r.2 ⟨3, 0, 0, [], 0⟩ _ w2 hB2 (insF_bare w2 3 0 0 0 (r64_small _ (by omega)) (r64_small _ (by omega)) (r64_small _ (by omega)) (r64_small _ (by omega))) (by have := HR2.out; omega))
  clear hB2 hF2 d1 d0
  go_wp2_with fail
  refine HP1.out.mono ?_
  intro e w3 h3
  obtain ⟨rfl, hB3, hF3⟩ := h3.step HF2.out
  have HF3 := Lib.hid hF3
  obtain ⟨-, -, d9⟩ := (HH.out.at'.below hB3.below).cells
  obtain ⟨z, hz⟩ : ∃ z, t.fld.lazy = z := ⟨_, rfl⟩
  have HZ := Lib.hid hz
  rw [hz] at d9
  have hi : r.2.length < (r.2 ++ [(⟨3, 0, 0, [], 0⟩ : Ins)]).length := by simp
  have HP2 := Lib.hid (cpatch_any w0 q g (r.2 ++ [⟨3, 0, 0, [], 0⟩]) w3 r.2.length r.1 k z hB3 hi (by simp) (by omega) (by omega) (by have := HR2.out; simp; omega))
  have hset : (r.2 ++ [(⟨3, 0, 0, [], 0⟩ : Ins)]).set r.2.length (altI r.1 k z) = r.2 ++ [altI r.1 k z] := by simp
  rw [hset] at HP2
  have HS := Lib.hid (show r.2.length ≤ 1000000000000 by have := HR2.out; omega)
  clear h3 hB3 hF3 hz hi hset
  go_wp2_with fail
  refine HP2.out.mono ?_
  rintro e w4 ⟨⟨v, rfl⟩, hB4, hF4⟩
  have HB4 := Lib.hid hB4; have HF4 := Lib.hid (HF3.out.trans hF4)
  clear hB4 hF4 d9
  go_wp2_with fail
  go_ret
  rw [codeT_quest HO.out HK.out]
  unfold questC
  rw [HR.out, HZ.out]
  exact ⟨rfl, HB4.out, HF4.out⟩
end Go.Proofs.Ythffdmncdoogpaa
/- The code of a row of trees: the last one first. No condition. -/
namespace Go.Proofs.Ythffdmncdoogpaa
open Go Go.RowKit Go.Shelf
attribute [local go_sem] Oper.semAt_some

theorem zip_two' (t : Array Value) (p q : Tmp) (u v : Value) : ((#[p, q] : Array Tmp).zip #[u, v]).foldl (fun t (p, v) => t.setIfInBounds p v) t = (t.setIfInBounds p u).setIfInBounds q v := by
  rw [show (#[p, q] : Array Tmp).zip #[u, v] = #[(p, u), (q, v)] from by simp]
  rfl
def stepO (g : Int) (s : Nat × List Ins) : Option Tr → Nat × List Ins
  | some x => codeT g x s.1 s.2
  | none => s
/-- What is put when the Kids at some places have been gone through. -/
def stepP (g : Int) (ks : List Tr) (s : Nat × List Ins) (i : Nat) : Nat × List Ins := stepO g s ks[i]?
def runP (g : Int) (ks : List Tr) (P : List Nat) (s : Nat × List Ins) : Nat × List Ins := P.foldl (stepP g ks) s
theorem runP_snoc (g : Int) (ks : List Tr) (P : List Nat) (s : Nat × List Ins) (i : Nat) : runP g ks (P ++ [i]) s = stepP g ks (runP g ks P s) i := by simp [runP]
theorem rowC_foldr : ∀ (cs : List Coder) (k : Nat) (L : List Ins), rowC cs k L = cs.foldr (fun c s => c s.1 s.2) (k, L)
  | [], _, _ => rfl
  | c :: cs, k, L => by
    show c (rowC cs k L).1 (rowC cs k L).2 = _
    rw [rowC_foldr cs k L]
    rfl
theorem range_foldr (g : Int) : ∀ (l : List Tr) (s : Nat × List Ins), (List.range l.length).foldr (fun i s => stepO g s l[i]?) s = l.foldr (fun x s => codeT g x s.1 s.2) s
  | [], _ => rfl
  | x :: l, s => by
    rw [List.length_cons, List.range_succ_eq_map, List.foldr_cons, List.foldr_map]
    simp only [List.getElem?_cons_succ, List.getElem?_cons_zero]
    rw [range_foldr g l s]
    rfl
theorem runP_all (g : Int) (ks : List Tr) (k : Nat) (L : List Ins) : runP g ks (List.range ks.length).reverse (k, L) = rowC (ks.map (codeT g)) k L := by
  unfold runP
  rw [List.foldl_reverse, rowC_foldr, List.foldr_map]
  exact range_foldr g ks (k, L)
theorem bld_grown {w0 W W' : World} {q : Nat} {g : Int} {L : List Ins} {row : Option Nat} (h : Bld w0 q g W L) (hg : W.grownBy W' row) (hr : ∀ r, row = some r → w0.heap.size ≤ r ∧ ∃ o : Obj, W.heap[r]? = some o ∧ o.isCells = false) : Bld w0 q g W' L := by
  obtain ⟨v, hq, ho⟩ := h.row
  have hne : ∀ (b : Nat) (cs : Array Value) (t : TypeId) (f : Nat × Nat), W.heap[b]? = some (.cells cs t f) → some b ≠ row := fun b cs t f hb e => by
    obtain ⟨-, o, h1, h2⟩ := hr b e.symm
    rw [hb] at h1
    cases h1
    cases h2
  refine ⟨h.below.trans ⟨hg.os, hg.tape, hg.output, hg.size, fun k hk => hg.block k (Nat.lt_of_lt_of_le hk h.below.size) (fun e => by have := (hr k e.symm).1; omega)⟩, h.base, v, (hg.block q hq.lt (hne _ _ _ _ hq)).trans hq, ho.kept (fun b hb => ?_) (fun b hb => ?_)⟩
  · obtain ⟨cs, f, hc⟩ := ho.kind hb
    exact hg.block b (ho.base b hb).2 (hne _ _ _ _ hc)
  · obtain ⟨cs, f, hc⟩ := hb
    exact hg.block b (Array.getElem?_eq_some_iff.1 hc).1 (hne _ _ _ _ hc)
theorem fr_grown {q : Nat} {w W W' : World} {row : Option Nat} (h : Fr q w W) (hg : W.grownBy W' row) (hr : ∀ r, row = some r → w.heap.size ≤ r) : Fr q w W' :=
  ⟨hg.os.trans h.os, hg.tape.trans h.tape, hg.output.trans h.output, Nat.le_trans h.size hg.size, fun k hk hq hi => (hg.block k (Nat.lt_of_lt_of_le hk h.size) (fun e => by have := hr k e.symm; omega)).trans (h.block k hk hq hi)⟩
theorem fr_keeps {q B : Nat} {W W' : World} (h : Fr q W W') (hq : ∃ cs t, Whole W q t cs) : KeepsFrom B W W' := ⟨h.size, fun k o _ hk hc => (h.block k (Array.getElem?_eq_some_iff.1 hk).1 (fun e => by
  obtain ⟨cs, t, hw⟩ := hq
  subst e
  unfold Whole at hw
  rw [hk] at hw
  cases hw
  cases hc) (fun ⟨cs, f, hi⟩ => by rw [hk] at hi; cases hi; cases hc)).trans hk⟩
/-- What stands in memory while a row of trees is gone through. -/
structure RowI (w0 : World) (q : Nat) (g : Int) (w : World) (A : Option Addr) (c : Nat) (ks : List Tr) (k : Nat) (L : List Ins) (pre : List (TelV ks.length)) (W : World) : Prop where
  bld : Bld w0 q g W (runP g ks (placesV pre) (k, L)).2
  fr : Fr q w W
  kbox : Whole W (w.heap.size + 2) 3 #[.int .i64 (runP g ks (placesV pre) (k, L)).1]
  bbox : Whole W w.heap.size 85 #[.pointer (some ⟨q, 0, none⟩)]
  tbox : Whole W (w.heap.size + 1) 43 #[.slice A ks.length c]
  k9 : (runP g ks (placesV pre) (k, L)).1 < 100000000000
  l9 : (runP g ks (placesV pre) (k, L)).2.length ≤ L.length + pre.length * 10000
theorem rowI_own (w0 : World) (q : Nat) (g : Int) (w : World) (A : Option Addr) (c : Nat) (ks : List Tr) (k : Nat) (L : List Ins) (B : Nat) (hB : w.heap.size + 3 ≤ B) (hw : w0.heap.size ≤ w.heap.size) : OwnFrom B (fun pre W => RowI w0 q g w A c ks k L pre W) := by
  intro pre W W' row h hg hr
  have hkeep : ∀ {b : Nat} {t : TypeId} {cs : Array Value}, Whole W b t cs → Whole W' b t cs := fun {b t cs} hb => (hg.block b hb.lt (fun e => by
    obtain ⟨-, o, h1, h2⟩ := hr b e.symm
    unfold Whole at hb
    rw [hb] at h1
    cases h1
    cases h2)).trans hb
  exact ⟨bld_grown h.bld hg (fun r e => ⟨by have := (hr r e).1; omega, (hr r e).2⟩), fr_grown h.fr hg (fun r e => by have := (hr r e).1; omega), hkeep h.kbox, hkeep h.bbox, hkeep h.tbox, h.k9, h.l9⟩
/-- What is asked of a row's code. -/
structure RowArg (w0 : World) (q : Nat) (g : Int) (w : World) (A : Option Addr) (c : Nat) (ks : List Tr) (k : Nat) (L : List Ins) (nd : Nat) : Prop where
  bld : Bld w0 q g w L
  kds : Kds w0 ks (.slice A ks.length c)
  k9 : k < 100000000000
  nd9 : ∀ x ∈ ks, nodesR x + ks.length ≤ nd
  l9 : L.length + 20000 * nd ≤ 100000000000
  s9 : ∀ x ∈ ks, sizeT g x ≤ 10000
  len : ks.length ≤ nd
  code : ∀ x ∈ ks, CodeC g x
  ok : ∀ x ∈ ks, CodOk (sizeT g x) 100000000000 (fun _ => True) (codeT g x)
theorem bld_whole {w0 W : World} {q : Nat} {g : Int} {L : List Ins} (h : Bld w0 q g W L) : ∃ cs t, Whole W q t cs := by
  obtain ⟨v, hq, -⟩ := h.row
  exact ⟨_, _, hq⟩

/-- One Kid more. -/
theorem rowI_step {w0 : World} {q : Nat} {g : Int} {w : World} {A : Option Addr} {c : Nat} {ks : List Tr} {k : Nat} {L : List Ins} {pre : List (TelV ks.length)} {x : TelV ks.length} {W Wd W2 : World} (h : RowI w0 q g w A c ks k L pre W) (hd : Below W.heap.size W Wd) (hq : q < w.heap.size) (hw : w0.heap.size ≤ w.heap.size)
    (hB : Bld w0 q g W2 (stepP g ks (runP g ks (placesV pre) (k, L)) x.1.1).2) (hF : Fr q Wd W2) (hk9 : (stepP g ks (runP g ks (placesV pre) (k, L)) x.1.1).1 < 100000000000) (hl9 : (stepP g ks (runP g ks (placesV pre) (k, L)) x.1.1).2.length ≤ (runP g ks (placesV pre) (k, L)).2.length + 10000) (B Bx : Nat) (hBx : w.heap.size + 3 ≤ Bx) :
    KeepsFrom B W (W2.setCell ⟨w.heap.size + 1 + 1, 0, none⟩ (.int .i64 (stepP g ks (runP g ks (placesV pre) (k, L)) x.1.1).1)) ∧ KeepsT w0 Bx W (W2.setCell ⟨w.heap.size + 1 + 1, 0, none⟩ (.int .i64 (stepP g ks (runP g ks (placesV pre) (k, L)) x.1.1).1)) ∧ RowI w0 q g w A c ks k L (pre ++ [x]) (W2.setCell ⟨w.heap.size + 1 + 1, 0, none⟩ (.int .i64 (stepP g ks (runP g ks (placesV pre) (k, L)) x.1.1).1)) := by
  have hF2 : Fr q W W2 := (Fr.of_below hd).trans hF
  have hkb : Whole W2 (w.heap.size + 2) 3 #[.int .i64 (runP g ks (placesV pre) (k, L)).1] := hF2.whole h.kbox (by omega) (by decide)
  have hsp : stepP g ks (runP g ks (placesV pre) (k, L)) x.1.1 = runP g ks (placesV (pre ++ [x])) (k, L) := by rw [placesV_snoc, runP_snoc]
  have hoth : ∀ {b : Nat} {t : TypeId} {cs : Array Value}, Whole W b t cs → b ≠ q → b ≠ w.heap.size + 2 → t ≠ 39 → Whole (W2.setCell ⟨w.heap.size + 1 + 1, 0, none⟩ (.int .i64 (stepP g ks (runP g ks (placesV pre) (k, L)) x.1.1).1)) b t cs := fun {b t cs} hb h1 h2 h3 => (Below.heap_setCell W2 _ _ b h2).trans (hF2.whole hb h1 h3)
  have hbl := hB.setBox hkb (by decide) (by decide) (by omega) (by omega) 0 (.int .i64 (stepP g ks (runP g ks (placesV pre) (k, L)) x.1.1).1)
  refine ⟨(fr_keeps hF2 (bld_whole h.bld)).trans ⟨by simp [World.setCell], fun b o _ hb hc => (Below.heap_setCell W2 _ _ b (fun e => ?_)).trans hb⟩, ⟨fun _ => hbl.below, fun cs hx => hoth hx (by omega) (by omega) (by decide)⟩, ?_⟩
  · have e2 : b = w.heap.size + 2 := e
    subst e2
    unfold Whole at hkb
    rw [hb] at hkb
    cases hkb
    cases hc
  · refine ⟨by rw [← hsp]; exact hbl, ?_, ?_, hoth h.bbox (by omega) (by omega) (by decide), hoth h.tbox (by omega) (by omega) (by decide), by rw [← hsp]; exact hk9, by rw [← hsp, List.length_append, List.length_singleton]; have := h.l9; omega⟩
    · exact ⟨(h.fr.trans hF2).os, (h.fr.trans hF2).tape, (h.fr.trans hF2).output, Nat.le_trans (h.fr.trans hF2).size (by simp [World.setCell]), fun b hb h1 h2 => (Below.heap_setCell W2 _ _ b (by show b ≠ w.heap.size + 2; omega)).trans ((h.fr.trans hF2).block b hb h1 h2)⟩
    · rw [← hsp]
      have := hkb.store 0 (.int .i64 (stepP g ks (runP g ks (placesV pre) (k, L)) x.1.1).1)
      simpa using this

set_option maxHeartbeats 4000000 in
set_option maxRecDepth 100000 in
theorem crow_any (w0 : World) (q : Nat) (g : Int) (w : World) (A : Option Addr) (c : Nat) (ks : List Tr) (k : Nat) (L : List Ins) (nd : Nat) (h : RowArg w0 q g w A c ks k L nd) :
    Calls Try.prog 57 #[.pointer (some ⟨q, 0, none⟩), .slice A ks.length c, .int .i64 k] w (CodPost w0 q g w (rowC (ks.map (codeT g)) k L)) := by
  obtain ⟨w1, hw1⟩ : ∃ W, w.alloc (.cells #[.pointer (some ⟨q, 0, none⟩)] 85) = W := ⟨_, rfl⟩
  obtain ⟨w2, hw2⟩ : ∃ W, w1.alloc (.cells #[.slice A ks.length c] 43) = W := ⟨_, rfl⟩
  obtain ⟨w3, hw3⟩ : ∃ W, w2.alloc (.cells #[.int .i64 k] 3) = W := ⟨_, rfl⟩
  obtain ⟨w4, hw4⟩ : ∃ W, w3.alloc (.cells #[.slice A ks.length c] 43) = W := ⟨_, rfl⟩
  have s1 : w1.heap.size = w.heap.size + 1 := by rw [← hw1]; exact World.size_alloc _ _
  have s2 : w2.heap.size = w.heap.size + 2 := by rw [← hw2, World.size_alloc, s1]
  have s3 : w3.heap.size = w.heap.size + 3 := by rw [← hw3, World.size_alloc, s2]
  have s4 : w4.heap.size = w.heap.size + 4 := by rw [← hw4, World.size_alloc, s3]
  have b1 : Below w.heap.size w w1 := by rw [← hw1]; exact (Below.refl _ _).alloc (Nat.le_refl _) _
  have b2 : Below w1.heap.size w1 w2 := by rw [← hw2]; exact (Below.refl _ _).alloc (Nat.le_refl _) _
  have b3 : Below w2.heap.size w2 w3 := by rw [← hw3]; exact (Below.refl _ _).alloc (Nat.le_refl _) _
  have b4 : Below w3.heap.size w3 w4 := by rw [← hw4]; exact (Below.refl _ _).alloc (Nat.le_refl _) _
  have x1 : Whole w1 w.heap.size 85 #[.pointer (some ⟨q, 0, none⟩)] := by rw [← hw1]; exact heap_alloc_new _ _
  have x2 : Whole w2 (w.heap.size + 1) 43 #[.slice A ks.length c] := by rw [← s1, ← hw2]; exact heap_alloc_new _ _
  have x3 : Whole w3 (w.heap.size + 2) 3 #[.int .i64 k] := by rw [← s2, ← hw3]; exact heap_alloc_new _ _
  have x4 : Whole w4 (w.heap.size + 3) 43 #[.slice A ks.length c] := by rw [← s3, ← hw4]; exact heap_alloc_new _ _
  have b14 : Below w.heap.size w w4 := below_two (below_two (below_two b1 b2) b3) b4
  have b24 : Below w1.heap.size w1 w4 := below_two (below_two b2 b3) b4
  have b34 : Below w2.heap.size w2 w4 := below_two b3 b4
  have hB4 := h.bld.on b14
  have hq : q < w.heap.size := h.bld.lt
  have hbase : w0.heap.size ≤ w.heap.size := h.bld.below.size
  have HI0 := Lib.hid (show RowI w0 q g w A c ks k L [] w4 from ⟨hB4, Fr.of_below b14, x3.below b4 x3.lt, x1.below b24 x1.lt, x2.below b34 x2.lt, h.k9, by simp [placesV, runP]⟩)
  have HTR := Lib.hid (show TRow w0 w4 (w.heap.size + 3) A c ks from ⟨hB4.below, x4⟩)
  have c3t : w3.cell? ⟨w.heap.size + 1, 0, none⟩ = some (.slice A ks.length c) := (x2.below b3 x2.lt).cell 0
  have HH := Lib.hid h; have HW4 := Lib.hid hw4; have HQ := Lib.hid hq; have HBS := Lib.hid hbase; have HS4 := Lib.hid s4
  have HW123 := Lib.hid (show ((w.alloc (.cells #[.pointer (some ⟨q, 0, none⟩)] 85)).alloc (.cells #[.slice A ks.length c] 43)).alloc (.cells #[.int .i64 k] 3) = w3 by rw [hw1, hw2, hw3])
  obtain ⟨N, hN⟩ : ∃ N, ks.length = N := ⟨_, rfl⟩
  have HN := Lib.hid hN
  have HBK := Lib.hid (backT_any A N c w3)
  have hw23 : w.heap.size + 3 = w3.heap.size := s3.symm
  rw [hN] at c3t HW123 HW4 ⊢
  clear h hw1 hw2 hw3 hw4 hq hbase s1 s2 s4 b1 b2 b3 b4 x1 x2 x3 x4 b14 b24 b34 hB4 hN s3
  refine (callsIn_wide (n := 8)).1 ?_
  refine callsIn_of_wp_marks Try.func57 rfl trivial ?_ rfl
  simp only [Try.ntmps57, List.size_toArray, List.length_cons, List.length_nil, Nat.reduceAdd, Nat.reduceSub, Array.replicate_succ, Array.replicate_zero, List.push_toArray, List.append_toArray, List.nil_append, List.cons_append]
  gi_upto_region 1 with (fail)
  rw [HW123.out]
  gi_wp2_with (refine ⟨trivial, ?_⟩; gi_at_call 83; refine (callsIn_wide.2 HBK.out).mono ?_; rintro e W1 ⟨rfl, rfl⟩)
  rw [HW4.out]
  have hP7 : 1 ≤ 7 := by decide
  refine wpIn_rangeFunc_ownG rfl (by decide) (gf := 106) (lb := #[.pointer (some ⟨w3.heap.size, 0, none⟩)]) rfl trivial (enters_of Try.func106 (by kernel_rfl) rfl)
    (backT_stops 7 w3.heap.size (by decide) A c ks w0 HH.out.kds (by have := HH.out.len; have := HH.out.l9; omega) w4 (by rw [← hw23]; exact HTR.out)) KeepsT.trans
    (fun W l ob ob' hl h1 h2 _ => keepsT_put w0 W w3.heap.size l ob ob' (by have := HBS.out; have := HS4.out; omega) h1 h2) (Below.refl _ _) (fun _ => rfl)
    (fun pre W => RowI w0 q g w A c ks k L pre W)
    (fun _ _ _ => False)
    (rowI_own w0 q g w A c ks k L _ (by have := HS4.out; omega) HBS.out)
    (fun _ _ _ _ _ hs _ _ => hs)
    HI0.out
    (fun x => { tmps := #[.pointer (some ⟨q, 0, none⟩), .slice A N c, .int .i64 k, .pointer (some ⟨w.heap.size, 0, none⟩), .pointer (some ⟨w.heap.size + 1, 0, none⟩), .pointer (some ⟨w.heap.size + 1 + 1, 0, none⟩), .int .i64 0, .int .i64 (x.1.1 : Int), .slice A N c, .func (.func 106) #[] #[.pointer (some ⟨w3.heap.size, 0, none⟩)], .int .i64 (x.1.1 : Int), x.1.2, undef, undef, undef, undef, undef, undef, undef], defers := [] }) ?assign ?body ?done ?stop
  case assign =>
    intro l x W K hK
    obtain ⟨⟨xi, xv⟩, hx⟩ := x
    rw [show TelV.vals ⟨(xi, xv), hx⟩ = #[.int .i64 (xi : Int), xv] from rfl, zip_two']
    simp only [List.setIfInBounds_toArray, List.set_cons_zero, List.set_cons_succ]
    gi_wp2
    exact hK
  case body =>
    rintro l2 pre ⟨⟨xi, xv⟩, hx⟩ W hI hlt
    have HI := Lib.hid hI
    have d3 : W.cell? ⟨w.heap.size, 0, none⟩ = some (.pointer (some ⟨q, 0, none⟩)) := hI.bbox.cell 0
    have d4 : W.cell? ⟨w.heap.size + 1, 0, none⟩ = some (.slice A N c) := by have := hI.tbox.cell 0; rw [HN.out] at this; exact this
    obtain ⟨s, hs⟩ : ∃ s, runP g ks (placesV pre) (k, L) = s := ⟨_, rfl⟩
    have d5 : W.cell? ⟨w.heap.size + 1 + 1, 0, none⟩ = some (.int .i64 s.1) := by rw [← hs]; exact hI.kbox.cell 0
    have f5 : W.frozen? ⟨w.heap.size + 1 + 1, 0, none⟩ = false := hI.kbox.free 0
    have HS := Lib.hid hs
    obtain ⟨kb, ko, hA, hT⟩ := TAt.kid HH.out.kds xi hx
    subst hA
    have hmem : ks[xi] ∈ ks := List.getElem_mem hx
    have hsl : s.2.length ≤ L.length + pre.length * 10000 := by rw [← hs]; exact hI.l9
    have hsk : s.1 < 100000000000 := by rw [← hs]; exact hI.k9
    have hB0 := hI.bld
    rw [hs] at hB0
    have hc9 := HH.out.nd9 _ hmem
    have hl9 := HH.out.l9
    have hs9 := HH.out.s9 _ hmem
    have hstep : stepP g ks s xi = codeT g ks[xi] s.1 s.2 := by unfold stepP; rw [List.getElem?_eq_getElem hx]; rfl
    have hk9 := (HH.out.ok _ hmem).all s.1 s.2 hsk (by omega) (fun _ _ => trivial)
    have hln := (HH.out.ok _ hmem).len s.1 s.2
    rw [← hstep] at hk9 hln
    have HC : Hid (∀ W', Below W.heap.size W W' → Calls Try.prog 35 #[.pointer (some ⟨q, 0, none⟩), .pointer (some ⟨kb, ko + xi * 10, none⟩), .int .i64 s.1] W' (CodPost w0 q g W' (stepP g ks s xi))) := Lib.hid fun W' hW' => by
      rw [hstep]
      exact HH.out.code _ hmem w0 q W' s.1 s.2 kb (ko + xi * 10) ⟨hB0.on hW', hT, hsk, by omega, by omega⟩
    obtain ⟨r, hr⟩ : ∃ r, stepP g ks s xi = r := ⟨_, rfl⟩
    rw [hr] at HC hk9 hln
    have HR := Lib.hid hr; have HK9 := Lib.hid hk9.1; have HLN := Lib.hid (show r.2.length ≤ s.2.length + 10000 by omega)
    have hxN : xi < N := by rw [← HN.out]; exact hx
    clear hI hs hT hmem hsl hB0 hc9 hl9 hs9 hstep hk9 hln hr hsk
    dsimp only
    gi_upto_region 3 with (fail)
    have hmixed : Try.prog.follows Departure.mixedOrders = true := by kernel_rfl
    gi_region_with_o (refine ⟨trivial, ?_⟩; refine (CallsIn.inRound l2 (callsIn_wide.2 (HC.out _ ?hb))).mono ?_; (case hb => first | exact Below.refl _ _ | exact (Below.refl _ _).drew | exact below_draws _ _); rintro e W2 ⟨rfl, hB2, hF2⟩; have hkb2 := ((Fr.of_below (q := q) (w := W) (by first | exact Below.refl _ _ | exact (Below.refl _ _).drew | exact below_draws _ _)).trans hF2).whole HI.out.kbox (by have := HQ.out; omega) (by decide); have k5 := hkb2.free 0; have k6 : W2.cell? ⟨w.heap.size + 1 + 1, 0, none⟩ = some _ := hkb2.cell 0; have k5' : W2.frozen? ⟨w.heap.size + 1 + 1, 0, none⟩ = false := k5; have HB2 := Lib.hid hB2; have HF2 := Lib.hid hF2; clear hB2 hF2 hkb2 k5)
    all_goals
      gi_wp2_with fail
      have hst := rowI_step (x := ⟨(xi, xv), hx⟩) (Wd := _) (W2 := W2) HI.out (by first | exact (Below.refl _ _).drew | exact Below.refl _ _) HQ.out HBS.out (by rw [HS.out]; show Bld w0 q g W2 (stepP g ks s xi).2; rw [HR.out]; exact HB2.out) HF2.out (by rw [HS.out]; show (stepP g ks s xi).1 < _; rw [HR.out]; exact HK9.out) (by rw [HS.out]; show (stepP g ks s xi).2.length ≤ _; rw [HR.out]; exact HLN.out) w4.heap.size w3.heap.size (by omega)
      simp only [HS.out, HR.out] at hst
      exact hst
  case done =>
    rintro D xs W hD hS hI hK
    have hend : runP g ks (placesV xs) (k, L) = rowC (ks.map (codeT g)) k L := by rw [hS, runP_all]
    have hBf : Bld w0 q g (W.putObj D (.deferred none)) (rowC (ks.map (codeT g)) k L).2 := by
      rw [← hend]
      exact bld_grown hI.bld (grownBy_putObj' W D _) (fun r e => by
        obtain rfl : D = r := Option.some.inj e
        exact ⟨by have := HBS.out; have := HS4.out; omega, _, hK, rfl⟩)
    have hFf : Fr q w (W.putObj D (.deferred none)) := fr_grown hI.fr (grownBy_putObj' W D _) (fun r e => by
      obtain rfl : D = r := Option.some.inj e
      have := HS4.out
      omega)
    have c5 : W.cell? ⟨w.heap.size + 1 + 1, 0, none⟩ = some (.int .i64 (rowC (ks.map (codeT g)) k L).1) := by rw [← hend]; exact hI.kbox.cell 0
    have HBF := Lib.hid hBf; have HFF := Lib.hid hFf; have HK := Lib.hid hK
    clear hS hI hK hend hBf hFf
    gi_wp2
    refine ⟨by simp, .inl ⟨_, _, rfl, run_takeDeferred HK.out, ?_⟩⟩
    exact ⟨_, results_tmp rfl _ _ _, rfl, HBF.out, HFF.out⟩
  case stop =>
    rintro D c pre W _ _ h _
    exact h.elim
end Go.Proofs.Ythffdmncdoogpaa
