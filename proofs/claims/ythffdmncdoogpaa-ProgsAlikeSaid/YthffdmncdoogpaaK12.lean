/- Texts merged by program: PgCut. No condition. -/
import Derived.Test.YthffdmncdoogpaaK11
import Derived.Maps.OwnSet
import Derived.Maps.AppendAt
import Derived.RangeFuncOwn
import Derived.Maps.RangeWalk
set_option linter.unusedVariables false
/- A set of runes in a map; the closure cut puts the runes into it at which ranges begin, or have ended. -/
namespace Go.Proofs.Ythffdmncdoogpaa
open Go Go.RowKit

theorem rune_keyed : Go.Maps.Keyed Try.prog 21 := Go.Maps.int_keyed Try.underlying21
theorem rune_wf {z : Int} (h : I32 z) : (Lit.int .i32 z).wf = true := by
  have h1 : IntKind.i32.min = -2147483648 := by decide
  have h2 : IntKind.i32.max = 2147483647 := by decide
  unfold I32 at h
  simp only [Lit.wf, h1, h2, Bool.and_eq_true, decide_eq_true_eq]
  omega
/-- Block b is a map of at most n entries, whose runes are those of S. -/
def RSet (w : World) (b n : Nat) (S : Int → Prop) : Prop := ∃ D, w.ownsMap Try.prog 21 (unitElem (H := Unit)) b n D ∧ ∀ z, I32 z → (Go.Maps.has D (.int .i32 z) = true ↔ S z)
theorem rset_new (w : World) : RSet (w.alloc (.map #[] 0)) w.heap.size 0 fun _ => False := ⟨_, World.ownsMap_made w _ _ _, fun z h => by simp [Go.Maps.has]⟩
theorem RSet.kept {w w' : World} {b n : Nat} {S : Int → Prop} (h : RSet w b n S) (hk : w'.heap[b]? = w.heap[b]?) : RSet w' b n S := by
  obtain ⟨D, ⟨es, clock, hb, h2⟩, h3⟩ := h
  exact ⟨D, ⟨es, clock, hk.trans hb, h2⟩, h3⟩
theorem RSet.lt {w : World} {b n : Nat} {S : Int → Prop} (h : RSet w b n S) : b < w.heap.size := by
  obtain ⟨D, h, -⟩ := h
  exact h.lt
theorem RSet.obj {w : World} {b n : Nat} {S : Int → Prop} (h : RSet w b n S) : ∀ r, some b = some r → ∃ o : Obj, w.heap[r]? = some o ∧ o.isCells = false := by
  obtain ⟨D, ⟨es, clock, hb, -⟩, -⟩ := h
  rintro r h
  cases h
  exact ⟨_, hb, rfl⟩
theorem RSet.iff {w : World} {b n : Nat} {S T : Int → Prop} (h : RSet w b n S) (hi : ∀ z, I32 z → (S z ↔ T z)) : RSet w b n T := by
  obtain ⟨D, h1, h2⟩ := h
  exact ⟨D, h1, fun z hz => (h2 z hz).trans (hi z hz)⟩
theorem RSet.mono {w : World} {b n m : Nat} {S : Int → Prop} (h : RSet w b n S) (hm : n ≤ m) : RSet w b m S := by
  obtain ⟨D, h1, h2⟩ := h
  exact ⟨D, h1.mono hm, h2⟩
/-- A rune is put into it. -/
theorem RSet.put {w : World} {mb n : Nat} {S : Int → Prop} (h : RSet w mb n S) (hn : n < maxLen) (x : Int) (hx : I32 x) :
    ∃ w', (Instr.mapUpdate 59 (.map (some mb)) (.int .i32 x) (.agg #[])).run Try.prog w = .ok () w' ∧ RSet w' mb (n + 1) (fun z => S z ∨ z = x) ∧ w.grownBy w' (some mb) := by
  obtain ⟨D, hD, hS⟩ := h
  have hkey := Go.Maps.keyOf_int_mk Try.underlying21 (rune_wf hx)
  obtain ⟨w', hrun, r1, r2⟩ := hD.update rune_keyed Try.underlying59 hn hkey unitElem_mk
  refine ⟨w', hrun, ⟨_, r1, fun z hz => ?_⟩, r2⟩
  by_cases e : z = x
  · subst e
    rw [Go.Maps.has_put_same hD.isMap (rune_keyed.key hkey)]
    simp
  · rw [Go.Maps.has_put_other (by intro h; injection h with _ h; exact e h), hS z hz]
    simp [e]
/-- The runes at which the ranges of l begin, or have ended. -/
def CutS (l : List (Int × Int)) (z : Int) : Prop := ∃ r ∈ l, z = r.1 ∨ (r.2 < 1114111 ∧ z = r.2 + 1)
theorem cut_take (l : List (Int × Int)) (m : Nat) (h : m < l.length) (z : Int) : CutS (l.take (m + 1)) z ↔ CutS (l.take m) z ∨ (z = l[m].1 ∨ (l[m].2 < 1114111 ∧ z = l[m].2 + 1)) := by
  unfold CutS
  rw [List.take_succ_eq_append_getElem h]
  simp only [List.mem_append, List.mem_singleton]
  constructor
  · rintro ⟨r, hr | rfl, h⟩
    · exact .inl ⟨r, hr, h⟩
    · exact .inr h
  · rintro (⟨r, hr, h⟩ | h)
    · exact ⟨r, .inl hr, h⟩
    · exact ⟨_, .inr rfl, h⟩
theorem Rgs.grown {w w' : World} {v : Value} {l : List (Int × Int)} {mb n : Nat} {S : Int → Prop} (h : Rgs w v l) (hg : w.grownBy w' (some mb)) (hS : RSet w mb n S) : Rgs w' v l := by
  obtain ⟨a, c, h1, h2, h3, h4, h5, h6⟩ := h
  refine ⟨a, c, h1, h2, h3, h4, ?_, h6⟩
  rcases h5 with h5 | ⟨b, o, e, hc⟩
  · exact .inl h5
  · exact .inr ⟨b, o, e, fun i hi => ⟨cell_kept (hc i hi).1 hg hS.obj, cell_kept (hc i hi).2 hg hS.obj⟩⟩
def CutPost (mb n : Nat) (S : Int → Prop) (l : List (Int × Int)) (w : World) (e : Ending) (w' : World) : Prop :=
  e = .returned (.tuple #[]) ∧ w.grownBy w' (some mb) ∧ RSet w' mb (n + 2 * l.length) (fun z => S z ∨ CutS l z)

set_option maxHeartbeats 1600000 in
set_option maxRecDepth 100000 in
theorem pcut_any (bk mb n : Nat) (S : Int → Prop) (v : Value) (l : List (Int × Int)) (w : World) (hc : w.cell? ⟨bk, 0, none⟩ = some (.map (some mb))) (hS : RSet w mb n S) (h : Rgs w v l) (hn : n + 2 * l.length + 2 < maxLen) :
    Calls Try.prog 27 #[v, .pointer (some ⟨bk, 0, none⟩)] w (CutPost mb n S l w) := by
  have HR := Lib.hid h; have HC := Lib.hid hc; have HS := Lib.hid hS; have HN := Lib.hid hn
  obtain ⟨a, c, rfl, h2, h3, h4, h5, h6⟩ := h
  have hlen : l.length ≤ 9223372036854775807 := by unfold maxLen at h3; omega
  have H6 := Lib.hid h6
  clear h5 h6 h4 h2 h3 hc hS hn
  go_enter Try.func27, Try.ntmps27
  go_wp2
  go_loopw [7] (fun i wr => ∃ m : Nat, m ≤ l.length ∧ i = .int .i64 m ∧ w.grownBy wr (some mb) ∧ RSet wr mb (n + 2 * m) (fun z => S z ∨ CutS (l.take m) z)) (fun i _ => l.length - (intOf i).toNat)
  case atStart => exact ⟨0, Nat.zero_le _, rfl, .refl _ _, (HS.out.mono (by omega)).iff fun z _ => by simp [CutS]⟩
  case round =>
    obtain ⟨m, hm, rfl, hG, hT⟩ := hrel
    have HG := Lib.hid hG; have HT := Lib.hid hT
    clear hG hT
    by_cases hlt : m < l.length
    · obtain ⟨a', c', e, q2, q3, q4, q5, q6⟩ := HR.out.grown HG.out HS.out
      injection e with e1 e2 e3
      subst e1 e3
      rcases q5 with q5 | ⟨b, o, rfl, hc⟩
      · rw [q5] at hlt
        simp at hlt
      obtain ⟨c1, c2⟩ := hc m hlt
      have hi := H6.out _ (List.getElem_mem hlt)
      have hsp := cut_take l m hlt
      have c3 := cell_kept HC.out HG.out HS.out.obj
      obtain ⟨x, hx⟩ : ∃ x, l[m] = x := ⟨_, rfl⟩
      rw [hx] at c1 c2 hsp hi
      obtain ⟨x1, x2⟩ := x
      simp only at c1 c2 hsp hi
      unfold I32 at hi
      obtain ⟨w1, hw1⟩ : ∃ w1, wr.alloc (.cells #[.int .i32 x1, .int .i32 x2] 55) = w1 := ⟨_, rfl⟩
      obtain ⟨g0, g1, hb1, hz1⟩ : w1.cell? ⟨wr.heap.size, 0, none⟩ = some (.int .i32 x1) ∧ w1.cell? ⟨wr.heap.size, 1, none⟩ = some (.int .i32 x2) ∧ wr.grownBy w1 none ∧ w1.heap.size = wr.heap.size + 1 := by
        subst hw1
        exact ⟨by go_simp, by go_simp, World.grownBy_alloc _ _ _, by simp⟩
      have T1 := HT.out.kept (hb1.block mb HT.out.lt (by simp))
      have k1 := hb1.cell c3 (by simp)
      have G1 := HG.out.trans (hb1.but (some mb))
      have hn1 : n + 2 * m + 1 < maxLen := by have := HN.out; omega
      have hB : wr.heap.size ≠ mb := by have := HT.out.lt; omega
      obtain ⟨w2, hrun, T2, G2⟩ := RSet.put T1 (by omega) x1 hi.1
      have K2 : ∀ {a : Addr} {v : Value}, w1.cell? a = some v → w2.cell? a = some v := fun {a v} h => cell_kept h G2 T1.obj
      have k2 := K2 k1; have e0 := K2 g0; have e1 := K2 g1
      have GG := G1.trans G2
      have HSP := Lib.hid hsp; have HI := Lib.hid hi; have HW1 := Lib.hid hw1; have HT2 := Lib.hid T2; have HG2 := Lib.hid GG
      clear hsp hc hx q6 hw1 hb1 hz1 T1 G1 T2 G2 K2 GG
      by_cases hlt2 : x2 < 1114111
      · obtain ⟨w3, hrun3, T3, G3⟩ := RSet.put HT2.out (by omega) (x2 + 1) (by unfold I32; omega)
        have hw : IntKind.i32.wrap (x2 + 1) = x2 + 1 := by
          simp only [IntKind.wrap, IntKind.signed, IntKind.bits]
          simp
          omega
        have HT3 := Lib.hid T3; have HG3 := Lib.hid (HG2.out.trans G3)
        clear T3 G3
        go_upto_region 3 with (fail)
        rw [HW1.out]
        go_wp2
        go_roundw
        case rel =>
          refine ⟨m + 1, by omega, by go_num, HG3.out, (HT3.out.mono (by omega)).iff fun z _ => ?_⟩
          rw [HSP.out z]
          constructor
          · rintro ((h | h) | h)
            · exact h.elim .inl fun h => .inr (.inl h)
            · exact .inr (.inr (.inl h))
            · exact .inr (.inr (.inr ⟨hlt2, h⟩))
          · rintro (h | h | h | ⟨-, h⟩)
            · exact .inl (.inl (.inl h))
            · exact .inl (.inl (.inr h))
            · exact .inl (.inr h)
            · exact .inr h
        case measure => simp [intOf]; omega
      · go_upto_region 3 with (fail)
        rw [HW1.out]
        go_wp2
        go_roundw
        case rel =>
          refine ⟨m + 1, by omega, by go_num, HG2.out, (HT2.out.mono (by omega)).iff fun z _ => ?_⟩
          rw [HSP.out z]
          constructor
          · rintro (h | h)
            · exact h.elim .inl fun h => .inr (.inl h)
            · exact .inr (.inr (.inl h))
          · rintro (h | h | h | ⟨h, -⟩)
            · exact .inl (.inl h)
            · exact .inl (.inr h)
            · exact .inr h
            · exact absurd h hlt2
        case measure => simp [intOf]; omega
    · have e : l.take m = l := List.take_of_length_le (by omega)
      have hr := HT.out
      rw [e] at hr
      have HRR := Lib.hid hr
      clear hr e
      have em : m = l.length := by omega
      go_wp2
      go_end0
      exact ⟨rfl, HG.out, by rw [← em]; exact HRR.out⟩
end Go.Proofs.Ythffdmncdoogpaa
