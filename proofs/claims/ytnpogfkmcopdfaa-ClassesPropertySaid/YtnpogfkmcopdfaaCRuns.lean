/- The program's runs: a literal of runes, two by two, as a fresh row of ranges. -/
import Derived.Test.YtnpogfkmcopdfaaRSet
import Derived.Deep.RegionHeld3
set_option linter.unusedVariables false
namespace Go.Proofs.Ytnpogfkmcopdfaa
open Go Go.RowKit

/-- The slice value v holds the ends of the ranges l, one behind the other. -/
def Ends2 (w : World) (v : Value) (l : List (Int × Int)) : Prop :=
  ∃ b, v = .slice (some ⟨b, 0, none⟩) (l.length * 2) (l.length * 2) ∧ (∀ i (h : i < l.length), w.cell? ⟨b, i * 2, none⟩ = some (.int .i32 l[i].1) ∧ w.cell? ⟨b, i * 2 + 1, none⟩ = some (.int .i32 l[i].2)) ∧ AllI32 l
theorem ends2_lit (w : World) (l : List (Int × Int)) (n : Nat) (cs : Array Value) (hc : cs.toList = cellsR l) (hn : l.length * 2 = n) (hi : AllI32 l) : Ends2 (w.alloc (.cells cs 21)) (.slice (some ⟨w.heap.size, 0, none⟩) n n) l := by
  subst hn
  refine ⟨w.heap.size, rfl, fun i h => ?_, hi⟩
  obtain ⟨h1, h2⟩ := cellsR_at l i h
  rw [cell_of_row _ _ _ _ _ _ (heap_alloc_new w _), cell_of_row _ _ _ _ _ _ (heap_alloc_new w _), ← Array.getElem?_toList, ← Array.getElem?_toList, hc]
  exact ⟨h1, h2⟩
theorem Ends2.below {w w' : World} {v : Value} {l : List (Int × Int)} (h : Ends2 w v l) (hb : Below w.heap.size w w') : Ends2 w' v l := by
  obtain ⟨b, h1, h2, h3⟩ := h
  exact ⟨b, h1, fun i hi => ⟨(hb.cell (World.block_lt_of_cell? w _ (h2 i hi).1)).trans (h2 i hi).1, (hb.cell (World.block_lt_of_cell? w _ (h2 i hi).2)).trans (h2 i hi).2⟩, h3⟩

/-- make([]api.Range, 0, c): a row of the call's own that holds nothing yet. -/
theorem make_runs (c : Nat) (hc : c ≤ 1000000) :
    ∃ C : Array Value, C.size = c * 2 ∧ ∀ W : World, (Instr.makeSlice 23 (.int .i64 0) (.int .i64 (c : Int))).run Try.prog W = .ok (.slice (some ⟨W.heap.size, 0, none⟩) 0 c) (W.alloc (.cells C 37)) := by
  obtain ⟨i, hi, h0, h1, h2⟩ := info_parts info_range
  refine ⟨madeCells (Value.agg #[.int .i32 0, .int .i32 0]).cells (c * 2), by rw [size_madeCells], fun W => ?_⟩
  have hr := run_make (P := Try.prog) W 23 37 i _ Try.underlying23 hi h0 .i64 .i64 0 c (Int.le_refl _) (by omega) (by rw [h2]; omega) (by omega)
  simp only [Int.toNat_zero, Int.toNat_natCast, h1] at hr
  exact hr
theorem own_runs (W : World) (B c : Nat) (C : Array Value) (hB : B ≤ W.heap.size) (hC : C.size = c * 2) (hc : c ≤ 1000000) : OwnR (W.alloc (.cells C 37)) B (.slice (some ⟨W.heap.size, 0, none⟩) 0 c) [] :=
  ⟨⟨rfl, .inr ⟨W.heap.size, c, C, rfl, hB, heap_alloc_new W _, Nat.zero_le _, by unfold maxLen; omega, hC, by simp [cellsR]⟩⟩, by simp [AllI32]⟩

set_option maxHeartbeats 1600000 in
set_option maxRecDepth 100000 in
theorem runs_any (v : Value) (l : List (Int × Int)) (w : World) (h : Ends2 w v l) (hn : l.length ≤ 1000) :
    Calls Try.prog 30 #[v] w fun e w' => ∃ v', e = .returned v' ∧ OwnR w' w.heap.size v' l ∧ Below w.heap.size w w' := by
  obtain ⟨b, rfl, h2, h3⟩ := h
  obtain ⟨n, hl⟩ : ∃ n, l.length * 2 = n := ⟨_, rfl⟩
  rw [hl]
  have H3 := Lib.hid h3; have H2 := Lib.hid h2; have HL := Lib.hid hl
  clear h2 h3
  obtain ⟨C, hC, mk⟩ := make_runs l.length (by omega)
  have HO0 := Lib.hid (own_runs w w.heap.size l.length C (Nat.le_refl _) hC (by omega))
  have hq : Int.tdiv (n : Int) 2 = (l.length : Int) := by
    rw [show (n : Int) = (l.length : Int) * 2 by omega]
    exact Int.mul_tdiv_cancel _ (by decide)
  clear hC hl
  go_enter Try.func30, Try.ntmps30
  go_wp2_with fail
  go_loopw [3, 4] (fun vs i wr => ∃ m k : Nat, m ≤ l.length ∧ m * 2 = k ∧ i = .int .i64 k ∧ OwnR wr w.heap.size vs (l.take m) ∧ Below w.heap.size w wr) (fun _ i _ => n - (intOf i).toNat)
  case atStart => exact ⟨0, 0, Nat.zero_le _, rfl, rfl, HO0.out, (Below.refl _ _).alloc (Nat.le_refl _) _⟩
  case round =>
    obtain ⟨m, k, hm, hk, rfl, hO, hB⟩ := hrel
    have HO := Lib.hid hO; have HB := Lib.hid hB
    have hl := HL.out
    clear hO hB
    by_cases hlt : m < l.length
    · obtain ⟨c1w, c2w⟩ := H2.out m hlt
      obtain ⟨⟨x1, x2⟩, hx⟩ : ∃ x, l[m] = x := ⟨_, rfl⟩
      rw [hx, hk] at c1w c2w
      have hsp : l.take (m + 1) = l.take m ++ [(x1, x2)] := by rw [List.take_succ_eq_append_getElem hlt, hx]
      have hxi := H3.out (x1, x2) (by rw [← hx]; exact List.getElem_mem hlt)
      have c1 := (HB.out.cell (World.block_lt_of_cell? w _ c1w)).trans c1w
      have c2 := (HB.out.cell (World.block_lt_of_cell? w _ c2w)).trans c2w
      have C1 := Lib.hid c1w; have C2 := Lib.hid c2w
      have HSP := Lib.hid hsp; have HXI := Lib.hid hxi; have HK := Lib.hid hk
      have hsz := HB.out.size
      have kn : k < n := by omega
      have kn1 : k + 1 < n := by omega
      have i0 : (0 : Int) ≤ (k : Int) := by omega
      have i1 : (k : Int) < (n : Int) := by omega
      have i2 : (0 : Int) ≤ (k : Int) + 1 := by omega
      have i3 : (k : Int) + 1 < (n : Int) := by omega
      have hw1 : IntKind.i64.wrap ((k : Int) + 1) = (k : Int) + 1 := by rw [show (k : Int) + 1 = ((k + 1 : Nat) : Int) by omega]; exact wrap_nat _ (by omega)
      have e2 : ((k : Int) + 1).toNat = k + 1 := by omega
      clear hsp hx hxi c1w c2w hk hl
      go_upto_region 5 with (fail)
      go_region_held3 (fun w' => w'.cell? ⟨b, k, none⟩ = some (.int .i32 x1) ∧ w'.cell? ⟨b, k + 1, none⟩ = some (.int .i32 x2)) (first | go_keep | exact ⟨c1, c2⟩ | (constructor <;> assumption)) (first | (refine step_append_rgs rfl (.tmp 15) (.tmp 26) rfl w.heap.size _ (l.take m) rfl (HO.out.below ((Below.refl _ wr).alloc (Nat.le_refl _) _).drew) wr.heap.size x1 x2 rfl ((rgs_new wr x1 x2 HXI.out.1 HXI.out.2).below (Below.refl _ _).drew) (by rw [List.length_take]; omega) (by simp; omega) ?_; intro v3 w3 ho3 hg3; have hB3 := Lib.hid (((HB.out.alloc HB.out.size _).drew).grown hg3 (by simp; omega) (fun j hj => (HO.out.1.lt j hj).1)); have k1 := (hB3.out.cell (World.block_lt_of_cell? w _ C1.out)).trans C1.out; have k2 := (hB3.out.cell (World.block_lt_of_cell? w _ C2.out)).trans C2.out))
      have HO3 := Lib.hid ho3
      clear ho3 hg3 k1 k2 c1 c2
      have hw2 : IntKind.i64.wrap ((k : Int) + 2) = (k : Int) + 2 := by rw [show (k : Int) + 2 = ((k + 2 : Nat) : Int) by omega]; exact wrap_nat _ (by have hl := HL.out; omega)
      go_wp2
      go_roundw
      case rel =>
        have hl := HL.out
        exact ⟨m + 1, k + 2, by omega, by have := HK.out; omega, rfl, by rw [HSP.out]; exact HO3.out, hB3.out⟩
      case measure =>
        have hl := HL.out
        simp only [intOf]
        omega
    · have e : l.take m = l := List.take_of_length_le (by omega)
      have ho := HO.out
      rw [e] at ho
      have HO' := Lib.hid ho
      have i1 : ¬ (k : Int) < (n : Int) := by omega
      clear ho e hk hl
      go_wp2
      go_ret
      exact ⟨_, rfl, HO'.out, HB.out⟩
end Go.Proofs.Ytnpogfkmcopdfaa
