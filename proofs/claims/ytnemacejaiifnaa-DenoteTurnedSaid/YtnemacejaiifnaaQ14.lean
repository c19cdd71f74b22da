/- Texts merged by program: DnMap. No condition. -/
import Derived.Test.YtnemacejaiifnaaQ9
import Derived.Maps.Own
import Derived.Maps.Views
import Derived.DeepKeys4
set_option linter.unusedVariables false
/- Where each part was come to: a map from a part's number and a row of places to a word, a bit a place. No condition. -/
namespace Go.Proofs.Ytnemacejaiifnaa
open Go Go.RowKit

theorem spot_row : (163 : TypeId) < Try.prog.types.size := of_decide_eq_true (by kernel_rfl)
theorem spot_wide : (match Try.prog.underlying 163 with | some (.array _ _) | some (.struct _) => true | _ => false) = true := by kernel_rfl
theorem spot_laid : laidOutB Try.prog = true := by kernel_rfl
set_option maxRecDepth 100000 in
theorem spot_law : Go.WideMaps.KeyLaw Try.prog 163 := deep_law_laid spot_laid (m := 2) (by omega) spot_row (by kernel_rfl) spot_wide
theorem spot_keyed : Go.Maps.Keyed Try.prog 163 := .of_law spot_law
abbrev spotV (k r : Nat) : Value := .agg #[.int .i64 k, .int .i64 r]
theorem spot_lits (d k r : Nat) (hk : (Lit.int .i64 k).wf = true) (hr : (Lit.int .i64 r).wf = true) : Try.prog.keyLits (d + 2) 163 [.int .i64 k, .int .i64 r] = some [.int .i64 k, .int .i64 r] := by
  have h0 : Try.prog.cellsOf 163 = 2 := by kernel_rfl
  have h1 : Try.prog.cellsOf 3 = 1 := by kernel_rfl
  simp [Program.keyLits, Try.underlying163, Try.underlying3, h0, h1, hk, hr]
theorem nat_wf {k : Nat} (h : k ≤ 9223372036854775807) : (Lit.int .i64 k).wf = true := by
  have h1 : IntKind.i64.min = -9223372036854775808 := by decide
  have h2 : IntKind.i64.max = 9223372036854775807 := by decide
  simp only [Lit.wf, h1, h2, Bool.and_eq_true, decide_eq_true_eq]
  omega
theorem word_wf {k : Nat} (h : k < 18446744073709551616) : (Lit.int .u64 k).wf = true := by
  have h1 : IntKind.u64.min = 0 := by decide
  have h2 : IntKind.u64.max = 18446744073709551615 := by decide
  simp only [Lit.wf, h1, h2, Bool.and_eq_true, decide_eq_true_eq]
  omega
theorem spot_key (k r : Nat) (hk : k ≤ 9223372036854775807) (hr : r ≤ 9223372036854775807) : ∃ l, keyOf Try.prog 163 (spotV k r) = some l := by
  have h1 : Try.prog.keyType 163 = true := by kernel_rfl
  have h0 : Try.prog.cellsOf 163 = 2 := by kernel_rfl
  have h2 : Value.formed Try.prog 163 (spotV k r) = true := by simp [Value.formed, Try.underlying163, h0]
  unfold keyOf
  simp only [Try.underlying163, h1, h2, Bool.and_self, if_true]
  exact ⟨_, by rw [show (spotV k r).cells.toList = [.int .i64 k, .int .i64 r] from rfl, show Try.prog.types.size + 1 = (Try.prog.types.size - 1) + 2 by kernel_rfl, spot_lits _ k r (nat_wf hk) (nat_wf hr)]; rfl⟩
/-- The words of block b: f, at most n of them are no nought. -/
def Words (w : World) (b n : Nat) (f : Nat → Nat → Nat) : Prop := ∃ D : DataW Unit, w.ownsMap Try.prog 163 (plainElem Try.prog 164) b n D ∧ (∀ k r, f k r < 18446744073709551616) ∧
  ∀ k r l, keyOf Try.prog 163 (spotV k r) = some l → D.atKey l (.lit (.int .u64 0)) = .lit (.int .u64 (f k r))
theorem words_new (w : World) : Words (w.alloc (.map #[] 0)) w.heap.size 0 fun _ _ => 0 := ⟨_, World.ownsMap_made w _ _ _, fun _ _ => (by show 0 < _; omega), fun k r l h => rfl⟩
theorem Words.kept {w w' : World} {b n : Nat} {f : Nat → Nat → Nat} (h : Words w b n f) (hk : w'.heap[b]? = w.heap[b]?) : Words w' b n f := by
  obtain ⟨D, ⟨es, clock, hb, h2⟩, h3⟩ := h
  exact ⟨D, ⟨es, clock, hk.trans hb, h2⟩, h3⟩
theorem Words.lt {w : World} {b n : Nat} {f : Nat → Nat → Nat} (h : Words w b n f) : b < w.heap.size := by
  obtain ⟨D, h, -⟩ := h
  exact h.lt
theorem zero_u64 (w : World) : (zeroValue 164).run Try.prog w = .ok (.int .u64 0) w := by kernel_rfl
theorem Words.look {w : World} {b n : Nat} {f : Nat → Nat → Nat} (h : Words w b n f) (k r : Nat) (hk : k ≤ 9223372036854775807) (hr : r ≤ 9223372036854775807) : (Instr.lookup 80 (.map (some b)) (spotV k r) false).run Try.prog w = .ok (.int .u64 (f k r)) w := by
  obtain ⟨D, hD, -, hat⟩ := h
  obtain ⟨l, hl⟩ := spot_key k r hk hr
  obtain ⟨c, hrun, hc, -⟩ := hD.lookup_int spot_keyed Try.underlying80 Try.underlying164 (zero_u64 w) hl
  rw [hat k r l hl] at hc
  have hc' : (f k r : Int) = c := congrArg (fun d : DataW Unit => match d with | .lit (.int _ z) => z | _ => 0) hc
  rw [hrun, hc']
theorem ownsMap_isMap {H : Type} {w : World} {P : Program} {k : TypeId} {R : Value → Option (DataW H × List MemPlace)} {b n : Nat} {D : DataW H} (h : w.ownsMap P k R b n D) : Go.Maps.IsMap D := by
  obtain ⟨es, clock, -, -, -, rfl⟩ := h
  exact ⟨_, rfl⟩
/-- One word is written. -/
theorem Words.put {w' : World} {b n : Nat} {f : Nat → Nat → Nat} {D : DataW Unit} {w : World} (hD : w.ownsMap Try.prog 163 (plainElem Try.prog 164) b n D) (hf : ∀ k r, f k r < 18446744073709551616)
    (hat : ∀ k r l, keyOf Try.prog 163 (spotV k r) = some l → D.atKey l (.lit (.int .u64 0)) = .lit (.int .u64 (f k r))) (k r x : Nat) (hx : x < 18446744073709551616) {l : Lit} (hl : keyOf Try.prog 163 (spotV k r) = some l)
    (hw : w'.ownsMap Try.prog 163 (plainElem Try.prog 164) b (n + 1) (D.put l (.lit (.int .u64 x)))) : Words w' b (n + 1) fun k' r' => if k' = k ∧ r' = r then x else f k' r' := by
  refine ⟨_, hw, fun k' r' => ?_, fun k' r' l' hl' => ?_⟩
  · show (if k' = k ∧ r' = r then x else f k' r') < _
    split
    · exact hx
    · exact hf k' r'
  · show _ = DataW.lit (Lit.int .u64 ((if k' = k ∧ r' = r then x else f k' r' : Nat) : Int))
    by_cases h : l' = l
    · subst h
      have e := spot_keyed.inj hl hl'
      have e1 : (k : Int) = k' := congrArg (fun v : Value => match v with | .agg a => (match a[0]? with | some (Value.int _ z) => z | _ => 0) | _ => 0) e
      have e2 : (r : Int) = r' := congrArg (fun v : Value => match v with | .agg a => (match a[1]? with | some (Value.int _ z) => z | _ => 0) | _ => 0) e
      replace e1 : k' = k := by omega
      replace e2 : r' = r := by omega
      rw [if_pos ⟨e1, e2⟩, Go.Maps.atKey_put_same (ownsMap_isMap hD) (spot_keyed.key hl)]
    · rw [if_neg, Go.Maps.atKey_put_other h, hat k' r' l' hl']
      rintro ⟨rfl, rfl⟩
      rw [hl] at hl'
      exact h (Option.some.inj hl').symm
end Go.Proofs.Ytnemacejaiifnaa
