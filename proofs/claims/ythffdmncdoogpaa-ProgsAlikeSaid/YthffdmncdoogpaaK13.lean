/- Texts merged by program: PgKeys. No condition. -/
import Derived.Test.YthffdmncdoogpaaK12
import Derived.Shelf.SlIterI.Keys
import Derived.RangeFuncGives
import Derived.Shelf.Abstract
set_option linter.unusedVariables false
/- maps.Keys of a set of runes: an iterator that gives each rune of the set once. -/
namespace Go.Proofs.Ythffdmncdoogpaa
open Go Go.RowKit Go.Maps Go.Sort Go.Shelf

abbrev encN : Int → Value := Value.int .i32
theorem encN_inj {x y : Int} (h : encN x = encN y) : x = y := by simpa [encN] using h
theorem key_rune {key : Value} {kl : Lit} (h : keyOf Try.prog 21 key = some kl) : ∃ x : Int, key = encN x ∧ kl = .int .i32 x ∧ I32 x := by
  cases key <;> simp [keyOf, Try.underlying21, mapKey] at h
  rename_i q a
  obtain ⟨⟨rfl, hw⟩, rfl⟩ := h
  refine ⟨a, rfl, rfl, ?_⟩
  have h1 : IntKind.i32.min = -2147483648 := by decide
  have h2 : IntKind.i32.max = 2147483647 := by decide
  simp only [Lit.wf, h1, h2, Bool.and_eq_true, decide_eq_true_eq] at hw
  exact hw
/-- What has come: no rune twice; those of the map that are no longer to come. -/
def Came (D : DataW Unit) (left : Lit → Bool) (ss : List Int) : Prop := ss.Nodup ∧ (∀ x, x ∈ ss ↔ (I32 x ∧ has D (.int .i32 x) = true ∧ left (.int .i32 x) = false))
theorem came_none (D : DataW Unit) : Came D (has D) [] := ⟨List.nodup_nil, fun x => by cases has D (.int .i32 x) <;> simp⟩
theorem Came.more {D : DataW Unit} {left : Lit → Bool} {ss : List Int} (h : Came D left ss) {x : Int} {y : DataW Unit} (hx : I32 x) (hlk : left (.int .i32 x) = true) (hat : ∀ zd, D.atKey (.int .i32 x) zd = y) :
    Came D (fun z => left z && !z.sameKey (.int .i32 x)) (ss ++ [x]) := by
  have hhas : has D (.int .i32 x) = true := has_true_of_atKey hat
  refine ⟨List.nodup_append.2 ⟨h.1, by simp, fun a ha b hb => ?_⟩, fun y => ?_⟩
  · simp only [List.mem_singleton] at hb
    subst hb
    rintro rfl
    have := ((h.2 a).1 ha).2.2
    rw [hlk] at this
    cases this
  · by_cases hy : y = x
    · subst hy
      simp [hhas, hx, Lit.sameKey]
    · simp [h.2 y, hy, Lit.sameKey]
/-- The runes of S, each once. -/
def Each (S : Int → Prop) (ss : List Int) : Prop := ss.Nodup ∧ ∀ x, x ∈ ss ↔ (I32 x ∧ S x)

set_option maxRecDepth 100000 in
set_option maxHeartbeats 1600000 in
theorem keysN_in (F : Fence) (n : Nat) (hf : F.fn 49) (hro : F.round = none) (hn : 1 ≤ n) (l Bm b nn : Nat) (S : Int → Prop) (J : List Int → World → Prop)
    (hY : ∀ pre x W, J pre W → pre.length < nn → YieldAt F (n - 1) Try.prog l #[encN x] W fun e W' => e = .returned (.bool true) ∧ J (pre ++ [x]) W' ∧ KeepsWalks W W')
    (W : World) (hJ : AbidesFrom W.heap.size J) (hm : W.cell? ⟨Bm, 0, none⟩ = some (.map (some b))) (hS : RSet W b nn S) (h0 : J [] W) :
    CallsIn F n Try.prog 49 #[.func (.yield l) #[] #[], .pointer (some ⟨Bm, 0, none⟩)] W fun e W' => (∃ v, e = .returned v) ∧ ∃ ss : List Int, Each S ss ∧ J ss W' := by
  obtain ⟨D, hown, hD⟩ := hS
  have hsz := hown.size_le
  refine callsIn_of_wp Try.func49 rfl hf ?_ hro
  simp only [Try.ntmps49, List.size_toArray, List.length_cons, List.length_nil, Nat.reduceAdd, Nat.reduceSub, Array.replicate_succ, Array.replicate_zero, List.push_toArray, List.append_toArray, List.nil_append, List.cons_append]
  gi_wp2_with (first
    | (gi_at_range; refine wpListIn_range_own _ rfl _ 59 rfl 21 60 rune_keyed Try.underlying59 _ b nn _ rfl hown ?_; intro w0 hrg0 hg0 hs0)
    | gi_in)
  go_frame
  gi_loopw [3] (fun _ wr => ∃ (left : Lit → Bool) (cnt : Nat) (ss : List Int), wr.ranges Try.prog 21 (unitElem (H := Unit)) b W.heap.size nn D left cnt ∧ ss.length + cnt ≤ Maps.size D ∧ Came D left ss ∧ J ss wr)
    (fun _ wr => wr.rangeLeft b W.heap.size)
  case atStart => exact ⟨_, _, [], hrg0, by simp, came_none D, hJ [] W w0 none h0 hg0 (fun r e => by cases e)⟩
  case round =>
    obtain ⟨left, cnt, ss, hrg, hcs, hC, hJs⟩ := hrel
    gi_wp2_with (first
      | (gi_at_next; refine wpListIn_next_ranges _ rfl _ rfl 21 rune_keyed (unitElem (H := Unit)) encN id (fun key kl hk => by obtain ⟨x, hx, _⟩ := key_rune hk; exact ⟨x, hx⟩) (fun v _ _ => ⟨v, rfl⟩) b W.heap.size nn _ _ _ rfl hrg ?_ ?_)
      | gi_in)
    · intro hc0 hl0
      gi_wp2
      go_end0
      refine ⟨⟨_, rfl⟩, ss, ⟨hC.1, fun x => ?_⟩, hJs⟩
      rw [hC.2 x, hl0]
      constructor
      · rintro ⟨h1, h2, -⟩
        exact ⟨h1, (hD x h1).1 h2⟩
      · rintro ⟨h1, h2⟩
        exact ⟨h1, (hD x h1).2 h2, rfl⟩
    · intro x c kl yd yp w2 cnt2 hkey hlk hv hat hrg2 hlt hg2 hs2 hen
      obtain ⟨x', ex, rfl, hx⟩ := key_rune hkey
      obtain rfl : x = x' := encN_inj ex
      have hJ2 : J ss w2 := hJ ss wr w2 (some W.heap.size) hJs hg2 (fun r e => by cases e; exact ⟨Nat.le_refl _, hrg.iter_walk⟩)
      obtain ⟨fn, tmps, assign, body, hy, hR⟩ := hY ss x w2 hJ2 (by omega)
      clear hs2
      gi_wp2
      refine hR.mono ?_
      rintro e W3 ⟨rfl, hJ3, hk3⟩
      gi_wp2
      have hrg3 := hrg2.of_walks hk3
      go_roundw
      case rel => exact ⟨_, cnt2, ss ++ [x], hrg3, by simp; omega, hC.more hx hlk hat, hJ3⟩
      case measure => rw [hrg3.left_eq, hrg.left_eq]; exact hlt
/-- maps.Keys' value gives the runes, each once. -/
theorem keysN_gives (F : Fence) (n : Nat) (hf : F.fn 49) (hro : F.round = none) (hn : 1 ≤ n) (Bm b nn : Nat) (S : Int → Prop) (w : World) (hBm : Bm < w.heap.size)
    (hm : w.cell? ⟨Bm, 0, none⟩ = some (.map (some b))) (hS : RSet w b nn S) :
    SeqGives F n Try.prog 49 #[.pointer (some ⟨Bm, 0, none⟩)] encN (Each S) nn w := fun l J W hW hJ hY h0 =>
  keysN_in F n hf hro hn l Bm b nn S J hY W hJ ((hW.cell (p := ⟨Bm, 0, none⟩) hBm).trans hm) (hS.kept (hW.block b hS.lt)) h0
end Go.Proofs.Ythffdmncdoogpaa
