/- Texts merged by program: OwnS. No condition. -/
import Derived.Test.YthnddabcmhplkaaDoorK4
import Derived.Test.YthnddabcmhplkaaDoorK12
import Derived.Laws.OwnMore
set_option linter.unusedVariables false
/- Rows of texts that the call makes itself: appends onto them. -/
namespace Go.Proofs.YthnddabcmhplkaaDoor
open Go Go.RowKit

theorem info_text : (Tryd.prog.info? 9).map (fun i => (i.zero, i.size, i.bytes)) = some (some (.string ⟨#[]⟩), 1, 16) := by kernel_rfl
/-- The value v owns a row of the texts xs, among the blocks from B on. -/
def OwnZ (w : World) (B : Nat) (v : Value) (xs : List ByteArray) : Prop := w.ownsRow B 9 1 v xs.length (xs.map Value.string)
theorem OwnZ.below {w w' : World} {B : Nat} {v : Value} {xs : List ByteArray} (h : OwnZ w B v xs) (hb : Below w.heap.size w w') : OwnZ w' B v xs :=
  World.ownsRow.kept (row := none) h ⟨hb.os, hb.tape, hb.output, hb.size, fun k hk _ => hb.block k hk⟩ (by cases v.ownBlock <;> simp)
theorem ownS_lit (w : World) (B : Nat) (hB : B ≤ w.heap.size) (xs : List ByteArray) (n : Nat) (hn : xs.length = n) (hm : n ≤ 1000) (cs : Array Value) (hc : cs = (xs.map Value.string).toArray) : OwnZ (w.alloc (.cells cs 9)) B (.slice (some ⟨w.heap.size, 0, none⟩) n n) xs := by
  subst hc hn
  have := World.ownsRow_lit (base := B) (e := 9) (size := 1) w (xs.map Value.string).toArray xs.length hB (by unfold maxLen; omega) (by simp)
  simpa [OwnZ] using this
theorem OwnZ.slice {w : World} {B : Nat} {v : Value} {xs : List ByteArray} (h : OwnZ w B v xs) : ∃ a c, v = .slice a xs.length c := own_slice h
/-- Where it isn't empty it lies in one block. -/
theorem OwnZ.texts {w : World} {B : Nat} {v : Value} {xs : List ByteArray} (h : OwnZ w B v xs) (h0 : xs ≠ []) : ∃ g c, v = .slice (some ⟨g, 0, none⟩) xs.length c ∧ xs.length ≤ c ∧ g < w.heap.size ∧ TextsAt w g 0 xs := by
  have h2 := h.2
  rcases h2 with ⟨rfl, hz⟩ | ⟨g, cap, cur, rfl, hb, hg, hn, -⟩
  · exact absurd (List.eq_nil_of_length_eq_zero hz) h0
  · refine ⟨g, cap, rfl, hn, (Array.getElem?_eq_some_iff.1 hg).1, fun j x hx => ?_⟩
    have := World.ownsRow.cells (g := g) h rfl j (.string x) (by rw [List.getElem?_map, hx]; rfl)
    rw [addr_of] at this
    exact this
/-- An append of texts onto a row of the call's own. -/
theorem append_texts {w : World} {ops : Array Oper} {rest : List Oper} {o : Oper} {a : Act} {Q : Exit → Act → World → Prop} (hgd : o.guard = none) (x y : Operand)
    (ho : o.op = .call { callee := .builtin .append, args := #[x, y], argTypes := #[46, 46] })
    (base : Nat) (v : Value) (O : List ByteArray) (hs : a.eval x = v) (hown : OwnZ w base v O)
    (g m : Nat) (K : List ByteArray) (hK : K.length = m) (hx : a.eval y = .slice (some ⟨g, 0, none⟩) m m) (hc : TextsAt w g 0 K) (hn : O.length + m ≤ 1172812402961) (hbase : base ≤ w.heap.size)
    (h : ∀ v' w', OwnZ w' base v' (O ++ K) → w.grownBy w' v.ownBlock → wpList Tryd.prog ops Q rest (a.put o.dst v') w') : wpList Tryd.prog ops Q (o :: rest) a w := by
  subst hK
  obtain ⟨i, hi, hz, hsize, hby⟩ := info_parts info_text
  refine wpList_append_own w hgd x y 46 ho base 9 i (.string ⟨#[]⟩) 1 16 Tryd.underlying46 hi hz hsize hby rfl (by omega) v O.length (O.map Value.string) hs hown ⟨g, 0, none⟩ K.length K.length (K.map Value.string) hx (by simp) ?_ ?_ (by unfold maxLen; omega) (by omega) hbase (fun v' w' g1 g2 _ => h v' w' ?_ g2)
  · intro j u hu
    rw [List.getElem?_map] at hu
    cases hk : K[j]? with
    | none => rw [hk] at hu; cases hu
    | some b =>
      rw [hk] at hu
      have := Option.some.inj hu
      rw [addr_of, ← this]
      exact hc j b hk
  · intro u hu
    obtain ⟨b, -, rfl⟩ := List.mem_map.1 hu
    rfl
  · unfold OwnZ
    rw [List.map_append, List.length_append]
    exact g1
end Go.Proofs.YthnddabcmhplkaaDoor
