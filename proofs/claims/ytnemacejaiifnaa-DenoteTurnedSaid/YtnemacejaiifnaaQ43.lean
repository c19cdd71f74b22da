/- Texts merged by program: PClone. No condition. -/
import Derived.Test.YtnemacejaiifnaaQ42
import Derived.Deep.RegionHeld3
import Derived.Deep.RegionWith
set_option linter.unusedVariables false
/- The library's Clone of ranges and of trees: a row of the call's own, that holds the same. -/
namespace Go.Proofs.Ytnemacejaiifnaa
open Go Go.RowKit

def CloneR (l : List (Int × Int)) (w : World) (e : Ending) (w' : World) : Prop := ∃ v, e = .returned v ∧ OwnR w' w.heap.size v l ∧ Below w.heap.size w w'
def CloneT (F : Nat → Prop) (T : List Tr) (w : World) (e : Ending) (w' : World) : Prop := ∃ v, e = .returned v ∧ OwnT F w' w.heap.size v T ∧ Below w.heap.size w w'

set_option maxHeartbeats 1600000 in
set_option maxRecDepth 100000 in
theorem cloneR_any (v : Value) (l : List (Int × Int)) (w : World) (h : Rgs w v l) (hlen : l.length ≤ 17592186044416) : Calls Try.prog 88 #[v] w (CloneR l w) := by
  have H0 := Lib.hid h
  obtain ⟨A, c, rfl, h2, h3, h4, h5, h6⟩ := h
  rcases A with _ | ad
  · have hc := h4 rfl
    have hl : l = [] := List.eq_nil_of_length_eq_zero (by omega)
    subst hl hc
    have he : ∀ w : World, (binOp .eql 24 (.slice none 0 0) (.slice none 0 0)).run Try.prog w = .ok (.bool true) w := fun _ => rfl
    clear h5 h6 h4 H0
    go_enter Try.func88, Try.ntmps88
    go_wp2_with fail
    go_ret
    exact ⟨_, rfl, own_none _ _, Below.refl _ _⟩
  · obtain ⟨n, hn⟩ : ∃ n, l.length = n := ⟨_, rfl⟩
    rw [hn] at H0 hlen ⊢
    have he : ∀ w : World, (binOp .eql 24 (.slice (some ad) n c) (.slice none 0 0)).run Try.prog w = .ok (.bool false) w := fun _ => rfl
    have HN := Lib.hid hn
    clear h5 h6 h4 h2 hn
    have HO1 := Lib.hid (show OwnR (w.alloc (.cells #[] 131)) w.heap.size (.slice (some ⟨w.heap.size, 0, none⟩) 0 0) [] from ⟨World.ownsRow_lit w #[] 0 (Nat.le_refl _) (Nat.zero_le _) rfl, by simp [AllI32]⟩)
    have hb1 : Below w.heap.size w (w.alloc (.cells #[] 131)) := (Below.refl _ _).alloc (Nat.le_refl _) _
    have HB1 := Lib.hid hb1; have HR1 := Lib.hid (H0.out.below hb1)
    clear hb1
    go_enter Try.func88, Try.ntmps88
    go_wp2_with (at_builtin; refine append_rgs rfl (.tmp 5) (.tmp 6) rfl w.heap.size _ [] rfl HO1.out (some ad) n c l rfl HR1.out (by have := HN.out; simp; omega) (by simp) ?_; intro v2 w2 ho2 hg2; have HO2 := Lib.hid ho2; have HG2 := Lib.hid hg2; clear ho2 hg2)
    go_ret
    exact ⟨v2, rfl, HO2.out, HB1.out.grown HG2.out HB1.out.size (fun j e => by cases e; exact Nat.le_refl _)⟩

set_option maxHeartbeats 1600000 in
set_option maxRecDepth 100000 in
theorem cloneT_any (F : Nat → Prop) (v : Value) (ks : List Tr) (w : World) (hF : ∀ b, F b → b < w.heap.size) (h : KdsE F w ks v) : Calls Try.prog 89 #[v] w (CloneT F ks w) := by
  have H0 := Lib.hid h
  obtain ⟨A, c, rfl, h2, h3, hlen, h4, h5⟩ := h
  rcases A with _ | ad
  · have hc := h4 rfl
    have hl : ks = [] := List.eq_nil_of_length_eq_zero (by omega)
    subst hl hc
    have he : ∀ w : World, (binOp .eql 23 (.slice none 0 0) (.slice none 0 0)).run Try.prog w = .ok (.bool true) w := fun _ => rfl
    clear h5 h4 H0
    go_enter Try.func89, Try.ntmps89
    go_wp2_with fail
    go_ret
    exact ⟨_, rfl, ownT_none _ _ _, Below.refl _ _⟩
  · obtain ⟨n, hn⟩ : ∃ n, ks.length = n := ⟨_, rfl⟩
    rw [hn] at H0 hlen ⊢
    have he : ∀ w : World, (binOp .eql 23 (.slice (some ad) n c) (.slice none 0 0)).run Try.prog w = .ok (.bool false) w := fun _ => rfl
    have HN := Lib.hid hn
    clear h5 h4 h2 hn
    have HO1 := Lib.hid (show OwnT F (w.alloc (.cells #[] 27)) w.heap.size (.slice (some ⟨w.heap.size, 0, none⟩) 0 0) [] from ⟨[], rfl, World.ownsRow_lit w #[] 0 (Nat.le_refl _) (Nat.zero_le _) rfl, fun i h => by simp at h⟩)
    have hb1 : Below w.heap.size w (w.alloc (.cells #[] 27)) := (Below.refl _ _).alloc (Nat.le_refl _) _
    have hR1 : KdsE (fun b => Off (.slice (some ⟨w.heap.size, 0, none⟩) 0 0) b ∧ F b) (w.alloc (.cells #[] 27)) ks (.slice (some ad) n c) := by
      obtain ⟨A', c', k1, k2, k3, k4, k5, k6⟩ := H0.out
      refine ⟨A', c', k1, k2, k3, k4, k5, k6.imp id ?_⟩
      rintro ⟨b, o, e, hc⟩
      refine ⟨b, o, e, fun i hi => ?_⟩
      obtain ⟨cs, q1, q2⟩ := hc i hi
      exact ⟨cs, q1.below hb1, q2.same (same_below hb1) fun b hb _ => ⟨fun e => by have := hF b hb; have e : w.heap.size = b := Option.some.inj e; omega, hb⟩⟩
    have HB1 := Lib.hid hb1; have HR1 := Lib.hid hR1
    clear hb1 hR1
    go_enter Try.func89, Try.ntmps89
    go_wp2_with (at_builtin; refine append_trs rfl (.tmp 5) (.tmp 6) rfl F w.heap.size _ [] rfl HO1.out (some ad) n c ks rfl HR1.out (by have := HN.out; simp; omega) (by simp) ?_; intro v2 w2 ho2 hg2 _; have HO2 := Lib.hid ho2; have HG2 := Lib.hid hg2; clear ho2 hg2)
    go_ret
    exact ⟨v2, rfl, HO2.out, HB1.out.grown HG2.out HB1.out.size (fun j e => by cases e; exact Nat.le_refl _)⟩

set_option maxHeartbeats 1600000 in
theorem pturnedAt_any (x : Int) (w : World) : Calls Try.prog 87 #[.int .i64 x] w fun e w' => e = .returned (.int .i64 (swapAt x)) ∧ w' = w := by
  obtain ⟨y, hy⟩ : ∃ y, swapAt x = y := ⟨_, rfl⟩
  have HY := Lib.hid hy
  rw [hy]
  clear hy
  go_enter Try.func87, Try.ntmps87
  by_cases q1 : x = 1
  · subst q1
    obtain rfl : y = 2 := HY.out.symm
    go_wp2
    go_ret
    exact ⟨rfl, rfl⟩
  by_cases q2 : x = 2
  · subst q2
    obtain rfl : y = 1 := HY.out.symm
    go_wp2
    go_ret
    exact ⟨rfl, rfl⟩
  by_cases q4 : x = 4
  · subst q4
    obtain rfl : y = 8 := HY.out.symm
    go_wp2
    go_ret
    exact ⟨rfl, rfl⟩
  by_cases q8 : x = 8
  · subst q8
    obtain rfl : y = 4 := HY.out.symm
    go_wp2
    go_ret
    exact ⟨rfl, rfl⟩
  have hxy : y = x := by rw [← HY.out]; unfold swapAt; rw [if_neg q1, if_neg q2, if_neg q4, if_neg q8]
  subst hxy
  have e1 : (y == 1) = false := beq_eq_false_iff_ne.2 q1
  have e2 : (y == 2) = false := beq_eq_false_iff_ne.2 q2
  have e4 : (y == 4) = false := beq_eq_false_iff_ne.2 q4
  have e8 : (y == 8) = false := beq_eq_false_iff_ne.2 q8
  clear q1 q2 q4 q8
  go_wp2
  go_ret
  exact ⟨rfl, rfl⟩
end Go.Proofs.Ytnemacejaiifnaa
