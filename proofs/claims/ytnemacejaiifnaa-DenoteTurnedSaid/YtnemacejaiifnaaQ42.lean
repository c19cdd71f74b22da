/- Texts merged by program: PRow. No condition. -/
import Derived.Test.YtnemacejaiifnaaQ36
import Derived.Test.YtnemacejaiifnaaQ23
import Derived.Test.YtnemacejaiifnaaQ30
set_option linter.unusedVariables false
/- Rows of trees that the call makes itself: a tree set in the place of another. No condition. -/
namespace Go.Proofs.Ytnemacejaiifnaa
open Go Go.RowKit

def setsL : List Value → Nat → List Value → List Value
  | xs, _, [] => xs
  | xs, o, u :: us => setsL (xs.set o u) (o + 1) us
theorem setsL_length : ∀ (us : List Value) (xs : List Value) (o : Nat), (setsL xs o us).length = xs.length
  | [], _, _ => rfl
  | u :: us, xs, o => by rw [setsL, setsL_length us, List.length_set]
theorem setsL_append : ∀ (us a R : List Value) (o : Nat), setsL (a ++ R) (a.length + o) us = a ++ setsL R o us
  | [], _, _, _ => rfl
  | u :: us, a, R, o => by
    rw [setsL, setsL, List.set_append_right _ _ (by omega), show a.length + o - a.length = o by omega, show a.length + o + 1 = a.length + (o + 1) by omega, setsL_append us]
theorem setsL_front : ∀ (us a R : List Value), a.length = us.length → setsL (a ++ R) 0 us = us ++ R
  | [], [], _, _ => rfl
  | u :: us, b :: a, R, h => by
    rw [setsL, List.cons_append, List.set_cons_zero]
    have h1 := setsL_append us [u] (a ++ R) 0
    simp only [List.length_cons, List.length_nil, Nat.zero_add, Nat.add_zero, List.cons_append, List.nil_append] at h1
    rw [h1, setsL_front us a R (by simpa using h)]
    rfl
theorem setsL_cells : ∀ (L : List (Array Value)) (i : Nat) (cs : Array Value), AllTen L → cs.size = 10 → i < L.length → setsL (cells10 L) (i * 10) cs.toList = cells10 (L.set i cs)
  | a :: L, 0, cs, hL, hcs, _ => by
    have h1 := (hL a (by simp)).1
    have e : cells10 (a :: L) = a.toList ++ cells10 L := rfl
    rw [e, Nat.zero_mul, setsL_front _ _ _ (by simp [h1, hcs])]
    rfl
  | a :: L, i + 1, cs, hL, hcs, hi => by
    have h1 := (hL a (by simp)).1
    have e : cells10 (a :: L) = a.toList ++ cells10 L := rfl
    rw [e, show (i + 1) * 10 = a.toList.length + i * 10 by simp [h1]; omega, setsL_append, setsL_cells L i cs (fun c hc => hL c (by simp [hc])) hcs (by simpa using hi)]
    rfl
def setsW : World → Nat → Nat → List Value → World
  | w, _, _, [] => w
  | w, g, o, u :: us => setsW (w.setCell ⟨g, o, none⟩ u) g (o + 1) us
theorem setsW_row {base : Nat} {e : TypeId} {size g n cap : Nat} : ∀ (us : List Value) (w : World) (o : Nat) (xs : List Value), w.ownsRow base e size (.slice (some ⟨g, 0, none⟩) n cap) n xs → (setsW w g o us).ownsRow base e size (.slice (some ⟨g, 0, none⟩) n cap) n (setsL xs o us)
  | [], _, _, _, h => h
  | u :: us, w, o, xs, h => setsW_row us _ (o + 1) _ (h.stored o u).1
theorem setsW_block {g : Nat} : ∀ (us : List Value) (w : World) (o k : Nat), k ≠ g → (setsW w g o us).heap[k]? = w.heap[k]?
  | [], _, _, _, _ => rfl
  | u :: us, w, o, k, h => by rw [setsW, setsW_block us _ _ _ h]; exact Below.heap_setCell w _ u k h
theorem setsW_grown {g : Nat} : ∀ (us : List Value) (w : World) (o : Nat), w.grownBy (setsW w g o us) (some g)
  | [], w, _ => World.grownBy.refl w _
  | u :: us, w, o => by
    have h2 := setsW_grown (g := g) us (w.setCell ⟨g, o, none⟩ u) (o + 1)
    exact ⟨h2.os, h2.tape, h2.output, by have := h2.size; rw [show (w.setCell ⟨g, o, none⟩ u).heap.size = w.heap.size by simp [World.setCell]] at this; exact this, fun k hk hn => (setsW_block (u :: us) w o k (by intro e; exact hn (by rw [e])))⟩
/-- A tree set in a row, in the place of another. -/
theorem ownT_set {F : Nat → Prop} {w : World} {B g n cap : Nat} {T : List Tr} {u : Tr} {cs : Array Value} (h : OwnT F w B (.slice (some ⟨g, 0, none⟩) n cap) T) (i : Nat) (hi : i < T.length) (hu : TreF (fun b => Off (.slice (some ⟨g, 0, none⟩) n cap) b ∧ F b) w u (.agg cs)) :
    OwnT F (setsW w g (i * 10) cs.toList) B (.slice (some ⟨g, 0, none⟩) n cap) (T.set i u) := by
  obtain ⟨L, hl, ho, ht⟩ := h
  have hA := allTen hl ht
  obtain ⟨-, hcs, -⟩ := treF_form hu
  have hn : n = T.length := by
    rcases own_slice10 ho with ⟨h, -⟩ | ⟨g', c', h, -⟩
    · cases h
    · injection h
  have hsame : SameOn (fun b => Off (.slice (some ⟨g, 0, none⟩) n cap) b ∧ F b) w (setsW w g (i * 10) cs.toList) := fun b hb _ => setsW_block cs.toList w (i * 10) b (fun e => hb.1 (by rw [e]; rfl))
  have ho2 := setsW_row (size := 10) cs.toList w (i * 10) _ (hn ▸ ho)
  rw [setsL_cells L i cs hA hcs (by omega)] at ho2
  refine ⟨L.set i cs, by simp [hl], by rw [List.length_set, ← hn]; exact hn ▸ ho2, fun j hj hj' => ?_⟩
  by_cases hji : j = i
  · subst hji
    rw [List.getElem_set_self, List.getElem_set_self]
    exact hu.same hsame (fun b h _ => h)
  · rw [List.getElem_set_ne (fun e => hji e.symm), List.getElem_set_ne (fun e => hji e.symm)]
    exact (ht j (by simpa using hj) (by simpa using hj')).same hsame (fun b h _ => h)
/-- A tree of a row, laid open. -/
theorem OwnT.at' {F : Nat → Prop} {w : World} {B g n cap : Nat} {T : List Tr} (h : OwnT F w B (.slice (some ⟨g, 0, none⟩) n cap) T) (k : Nat) (hk : k < T.length) :
    ∃ (tk : Tr) (x1 : Option Addr) (x2 x3 : Nat) (y1 : Option Addr) (y2 y3 : Nat), T[k] = tk ∧
      Kid10 w g (k * 10) (.int .i64 tk.fld.op) (.slice x1 x2 x3) (.int .i32 tk.fld.rune) (.slice y1 y2 y3) (.int .i64 tk.fld.at') (.int .i64 tk.fld.cap) (.string tk.fld.name) (.int .i64 tk.fld.min) (.int .i64 tk.fld.max) (.bool tk.fld.lazy) ∧
      TreF (fun b => Off (.slice (some ⟨g, 0, none⟩) n cap) b ∧ F b) w tk (.agg #[.int .i64 tk.fld.op, .slice x1 x2 x3, .int .i32 tk.fld.rune, .slice y1 y2 y3, .int .i64 tk.fld.at', .int .i64 tk.fld.cap, .string tk.fld.name, .int .i64 tk.fld.min, .int .i64 tk.fld.max, .bool tk.fld.lazy]) := by
  obtain ⟨L, hl, ho, ht⟩ := h
  have hA := allTen hl ht
  have hT := ht k hk (by omega)
  obtain ⟨kv, sv, e, ⟨x1, x2, x3, rfl⟩, ⟨y1, y2, y3, rfl⟩⟩ := hT.ten
  have hn : n = T.length := by
    rcases own_slice10 ho with ⟨h, -⟩ | ⟨g', c', h, -⟩
    · cases h
    · injection h
  have ho' := ho
  rw [← hn] at ho'
  have hc : ∀ j, j < 10 → w.cell? ⟨g, k * 10 + j, none⟩ = L[k][j]? := fun j hj => by
    rw [← cells10_at L hA k (by omega) j hj]
    exact World.ownsRow.cellAt ho' (k * 10 + j) (by omega)
  injection e with e
  rw [e] at hc
  refine ⟨T[k], x1, x2, x3, y1, y2, y3, rfl, ⟨hc 0 (by omega), hc 1 (by omega), hc 2 (by omega), hc 3 (by omega), hc 4 (by omega), hc 5 (by omega), hc 6 (by omega), hc 7 (by omega), hc 8 (by omega), hc 9 (by omega)⟩, ?_⟩
  rw [← e]
  exact hT
theorem OwnT.free {F : Nat → Prop} {w : World} {B g n cap : Nat} {T : List Tr} (h : OwnT F w B (.slice (some ⟨g, 0, none⟩) n cap) T) (j : Nat) : w.frozen? ⟨g, j, none⟩ = false := by
  obtain ⟨L, hl, ho, ht⟩ := h
  rcases ho.2 with ⟨h, -⟩ | ⟨q, c, cur, h, -, hg, -⟩
  · cases h
  · injection h with h
    injection h with h
    injection h with h
    subst h
    exact frozen_of_row w g j cur _ hg
theorem OwnT.len {F : Nat → Prop} {w : World} {B n cap : Nat} {A : Option Addr} {T : List Tr} (h : OwnT F w B (.slice A n cap) T) : n = T.length := by
  obtain ⟨L, hl, ho, ht⟩ := h
  rcases own_slice10 ho with ⟨h, h0⟩ | ⟨g', c', h, -⟩
  · injection h
    omega
  · injection h
end Go.Proofs.Ytnemacejaiifnaa
