/- Texts merged by program: PwJoin. No condition. -/
import Derived.Test.YthnddabcmhplkaaDoorK1
import Derived.Test.YthnddabcmhplkaaDoorK3
import Derived.Lib.Join
import Derived.WalkKit
import Derived.Lib.Hide
import Derived.Below
set_option linter.unusedVariables false
/- Texts put together: the program's joined, over the library's Join. -/
namespace Go.Proofs.YthnddabcmhplkaaDoor
open Go Go.RowKit

/-- The texts xs lie at block b from o on. -/
def TextsAt (w : World) (b o : Nat) (xs : List ByteArray) : Prop := ∀ (j : Nat) x, xs[j]? = some x → w.cell? ⟨b, o + j, none⟩ = some (.string x)
def flatB (xs : List ByteArray) : List UInt8 := (xs.map (·.toList)).flatten
def textB (l : List UInt8) : ByteArray := ⟨l.toArray⟩
theorem textB_list (l : List UInt8) : (textB l).toList = l := by rw [Lib.toList_data]; rfl
theorem textB_size (l : List UInt8) : (textB l).size = l.length := rfl
theorem textB_of (b : ByteArray) : textB b.toList = b := by
  rw [Lib.toList_data]
  obtain ⟨⟨l⟩⟩ := b
  rfl
theorem map_data (xs : List ByteArray) : xs.map (·.data.toList) = xs.map (·.toList) := List.map_congr_left fun b _ => (Lib.toList_data b).symm
theorem join_flat (xs : List (List UInt8)) : Lib.join xs [] = xs.flatten := by
  cases xs with
  | nil => rfl
  | cons x r => rw [Lib.join_cons]; unfold Lib.joinTail; simp
theorem pjoin_any (bk o c : Nat) (xs : List ByteArray) (sep : ByteArray) (w : World) (h : TextsAt w bk o xs) (hbk : bk < w.heap.size) (hN : xs.length ≤ 1172812402961) (hcap : xs.length ≤ c) (hlen : (Lib.join (xs.map (·.toList)) sep.toList).length ≤ 140737488355328) :
    Calls Tryd.prog 26 #[.slice (some ⟨bk, o, none⟩) xs.length c, .string sep] w fun e w' => e = .returned (.string (textB (Lib.join (xs.map (·.toList)) sep.toList))) ∧ Below w.heap.size w w' := by
  rw [← map_data, Lib.toList_data] at hlen ⊢
  exact Tryd.strings_Join bk o c xs sep w h hbk (by omega) hcap hlen
set_option maxHeartbeats 800000 in
theorem joined_any (bk o c : Nat) (xs : List ByteArray) (w : World) (h : TextsAt w bk o xs) (hbk : bk < w.heap.size) (hN : xs.length ≤ 1172812402961) (hcap : xs.length ≤ c) (hlen : (flatB xs).length ≤ 140737488355328) :
    Calls Tryd.prog 19 #[.slice (some ⟨bk, o, none⟩) xs.length c] w fun e w' => e = .returned (.string (textB (flatB xs))) ∧ Below w.heap.size w w' := by
  have e0 : Lib.join (xs.map (·.toList)) (⟨#[]⟩ : ByteArray).toList = flatB xs := by rw [show (⟨#[]⟩ : ByteArray).toList = [] by kernel_rfl]; exact join_flat _
  have HJ := Lib.hid (pjoin_any bk o c xs ⟨#[]⟩ w h hbk hN hcap (by rw [e0]; exact hlen))
  rw [e0] at HJ
  clear h hlen
  generalize xs.length = n at *
  go_enter Tryd.func19, Tryd.ntmps19
  go_wp2_with fail
  refine HJ.out.mono ?_
  rintro e w' ⟨rfl, hb⟩
  go_wp2_with fail
  go_ret
  exact ⟨rfl, hb⟩
theorem size_new9 (w : World) (o : Obj) : (w.alloc o).heap.size = w.heap.size + 1 := Array.size_push _
theorem texts_new (w : World) (xs : List ByteArray) (cs : Array Value) (hc : cs = (xs.map Value.string).toArray) (t : TypeId) : TextsAt (w.alloc (.cells cs t)) w.heap.size 0 xs := by
  intro j x hx
  rw [World.cell?_alloc_at _ _ _ _ rfl, Nat.zero_add, hc]
  simp [hx]
/-- Two, three, five texts that are laid anew. -/
theorem joined_new (xs : List ByteArray) (w : World) (n : Nat) (cs : Array Value) (hn : xs.length = n) (hc : cs = (xs.map Value.string).toArray) (t : TypeId) (hN : n ≤ 1172812402961) (hlen : (flatB xs).length ≤ 140737488355328) :
    Calls Tryd.prog 19 #[.slice (some ⟨w.heap.size, 0, none⟩) n n] (w.alloc (.cells cs t)) fun e w' => e = .returned (.string (textB (flatB xs))) ∧ Below w.heap.size w w' := by
  subst hn
  refine (joined_any w.heap.size 0 xs.length xs _ (texts_new w xs cs hc t) (by rw [size_new9]; exact Nat.lt_succ_self _) hN (Nat.le_refl _) hlen).mono fun e w' ⟨he, hb⟩ => ⟨he, ?_⟩
  exact ((Below.refl _ w).alloc (Nat.le_refl _) _).trans (hb.mono (by rw [size_new9]; exact Nat.le_succ _))
end Go.Proofs.YthnddabcmhplkaaDoor
