/- What making an input answers: every kind, every text that can be read: the input, or which of two errors. -/
import Derived.Test.YticghidkbpkefaaDoorDecode
namespace Go.Proofs.YticghidkbpkefaaDoor
open Go Go.RowKit

/-- A row that reads as the numbers xs. -/
def RowAt (w : World) (B : Nat) (k : IntKind) (a : Option Addr) (xs : List Int) : Prop := ∀ i (h : i < xs.length), ∃ g, a = some ⟨g, 0, none⟩ ∧ B ≤ g ∧ w.cell? ⟨g, i, none⟩ = some (.int k xs[i])
theorem RowAt.keep {w w' : World} {B : Nat} {k : IntKind} {a : Option Addr} {xs : List Int} (h : RowAt w B k a xs) (hk : ∀ j, B ≤ j → j < w.heap.size → w'.heap[j]? = w.heap[j]?) : RowAt w' B k a xs := by
  intro i hi
  obtain ⟨g, e, hg, hc⟩ := h i hi
  exact ⟨g, e, hg, (World.cell?_of_block (w := w) (hk g hg (World.block_lt_of_cell? w _ hc))).trans hc⟩
theorem RowAt.below {w w' : World} {B : Nat} {k : IntKind} {a : Option Addr} {xs : List Int} (h : RowAt w B k a xs) (hb : Below w.heap.size w w') : RowAt w' B k a xs := h.keep fun j _ hj => hb.block j hj
theorem RowAt.of_own {w : World} {B : Nat} {e : TypeId} {k : IntKind} {a : Option Addr} {c : Nat} {xs : List Int} (h : w.ownsRow B e 1 (.slice a xs.length c) xs.length (xs.map (.int k))) : RowAt w B k a xs := by
  intro i hi
  rcases h.2 with ⟨_, h0⟩ | ⟨q, cap, cur, hv, hq, _⟩
  · omega
  · injection hv with h1 h2 h3
    subst h1
    refine ⟨q, rfl, by assumption, ?_⟩
    rw [h.cellAt i (by omega)]
    simp [hi]

/-- Block b is an input of kind k of the text s; all that it holds lies from block B on. -/
def In (w : World) (B : Nat) (k : Int) (s : ByteArray) (b : Nat) : Prop :=
  s.size ≤ 2147483648 ∧ B ≤ b ∧ ∃ a c a' c', Whole w b 36 #[.int .i64 k, .string s, .slice a (runesOf s).length c, .slice a' (offsOf s).length c'] ∧ RowAt w B .i32 a (runesOf s) ∧ RowAt w B .i64 a' (offsOf s)
theorem In.keep {w w' : World} {B : Nat} {k : Int} {s : ByteArray} {b : Nat} (h : In w B k s b) (hk : ∀ j, B ≤ j → j < w.heap.size → w'.heap[j]? = w.heap[j]?) : In w' B k s b := by
  obtain ⟨h0, hb, a, c, a', c', h1, h2, h3⟩ := h
  exact ⟨h0, hb, a, c, a', c', (hk b hb h1.lt).trans h1, h2.keep hk, h3.keep hk⟩
theorem In.below {w w' : World} {B : Nat} {k : Int} {s : ByteArray} {b : Nat} (h : In w B k s b) (hb : Below w.heap.size w w') : In w' B k s b := h.keep fun j _ hj => hb.block j hj
theorem In.lt {w : World} {B : Nat} {k : Int} {s : ByteArray} {b : Nat} (h : In w B k s b) : b < w.heap.size := by
  obtain ⟨_, _, a, c, a', c', h1, h2, h3⟩ := h
  exact h1.lt
/-- What New leaves of a good kind and a text that is not too long. -/
def NewPost (k : Int) (s : ByteArray) (w : World) (e : Ending) (w' : World) : Prop :=
  ∃ b, e = .returned (.tuple #[.pointer (some ⟨b, 0, none⟩), .int .i64 0]) ∧ w.heap.size ≤ b ∧ In w' w.heap.size k s b ∧ Below w.heap.size w w'

theorem size_le (s : ByteArray) (h : (s.size : Int) ≤ 65536) : s.size ≤ 2147483648 := by omega

set_option maxHeartbeats 400000 in
set_option maxRecDepth 100000 in
theorem new_one (k : Int) (hk : k = 1 ∨ k = 2 ∨ k = 3) (A : Option Addr) (c : Nat) (s : ByteArray) (w : World) (hs : (s.size : Int) ≤ 65536)
    (hconv : (convert 23 9 (.slice A s.size c)).run Tryd.prog w = .ok (.string s) w) :
    Calls Tryd.prog 23 #[.int .i64 k, .slice A s.size c] w (NewPost k s w) := by
  have hs' := size_le s hs
  rcases hk with rfl | rfl | rfl
  all_goals
    go_enter Tryd.func23, Tryd.ntmps23
    go_wp2_with (go_at_call 33; refine (decode_any s _ hs').mono ?_; rintro e w1 ⟨a1, c1, a2, c2, rfl, h1, h2, h3⟩)
    go_ret2
    refine ⟨w1.heap.size, rfl, h3.size, ⟨hs', h3.size, a1, c1, a2, c2, by unfold Whole; exact heap_alloc_new w1 _, (RowAt.of_own h1).below ((Below.refl _ _).alloc (Nat.le_refl _) _), (RowAt.of_own h2).below ((Below.refl _ _).alloc (Nat.le_refl _) _)⟩, h3.alloc h3.size _⟩

set_option maxHeartbeats 400000 in
set_option maxRecDepth 100000 in
theorem new_long (k : Int) (hk : k = 1 ∨ k = 2 ∨ k = 3) (A : Option Addr) (n c : Nat) (w : World) (hs : (65536 : Int) < n) :
    Calls Tryd.prog 23 #[.int .i64 k, .slice A n c] w fun e w' => e = .returned (.tuple #[.pointer none, .int .i64 2]) ∧ w = w' := by
  rcases hk with rfl | rfl | rfl
  all_goals
    go_enter Tryd.func23, Tryd.ntmps23
    go_wp2
    go_ret2
    exact ⟨rfl, rfl⟩

set_option maxHeartbeats 400000 in
set_option maxRecDepth 100000 in
theorem new_bad (k : Int) (h1 : (k == 1) = false) (h2 : (k == 2) = false) (h3 : (k == 3) = false) (A : Option Addr) (n c : Nat) (w : World) :
    Calls Tryd.prog 23 #[.int .i64 k, .slice A n c] w fun e w' => e = .returned (.tuple #[.pointer none, .int .i64 1]) ∧ w = w' := by
  go_enter Tryd.func23, Tryd.ntmps23
  go_wp2
  go_ret2
  exact ⟨rfl, rfl⟩
end Go.Proofs.YticghidkbpkefaaDoor
