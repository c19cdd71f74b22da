/- Texts merged by program: PxHead. No condition. -/
import Derived.Test.YtnemacejaiifnaaQ54
import Derived.Test.YtnemacejaiifnaaQ57
import Derived.Test.YtnemacejaiifnaaQ46
import Derived.Test.YtnemacejaiifnaaQ6
set_option linter.unusedVariables false
/- The fixed question of prefix's laws. No condition. -/
namespace Go.Proofs.Ytnemacejaiifnaa
open Go Go.RowKit

theorem runeX_pre (r : Int) : preT (runeX r) = ([r], true) := by rw [preT_eq]; simp [runeX, Tr.fld, preX]

def aabS : ByteArray := ⟨#[97, 97, 98]⟩
theorem aab_runes : runesOf aabS = [97, 97, 98] := by kernel_rfl
theorem aab_index : IndexIs (runesOf aabS) [98] (max 0 0) 2 := by
  rw [aab_runes]
  refine .inr ⟨2, rfl, by decide, ⟨by decide, stands_one.2 (by decide)⟩, fun j _ hj h => ?_⟩
  have h1 := stands_one.1 h.2
  have : j = 0 ∨ j = 1 := by omega
  rcases this with rfl | rfl <;> exact absurd h1 (by decide)

set_option maxHeartbeats 1600000 in
set_option maxRecDepth 100000 in
theorem phead14_any (w : World) : Calls Try.prog 21 #[] w (HeadPost w) := by
  have HP := Lib.hid (pprefix_any (runeX 98) (by rw [runeX_parts]; decide) _ w (runeX_tre w (by decide)))
  rw [preF_yes (runeX_shaped (by decide)), runeX_pre] at HP
  go_enter Try.func21, Try.ntmps21
  go_wp2_with fail
  refine HP.out.mono ?_
  rintro e w1 ⟨v, rfl, hv, hb⟩
  obtain ⟨A, c, rfl, -, -, -, hrow, -⟩ := hv.rns
  rcases hrow with h | ⟨b, o, rfl, hc⟩
  · cases h
  have c0 : w1.cell? ⟨b, o, none⟩ = some (.int .i32 98) := hc 0 (by decide)
  have HB := Lib.hid hb; have HR : Hid (Rns w1 (.slice (some ⟨b, o, none⟩) 1 c) [98]) := Lib.hid hv.rns
  obtain ⟨w2, hw2⟩ : ∃ x, w1.alloc (.cells #[.int .u8 97, .int .u8 97, .int .u8 98] 5 (3, 4)) = x := ⟨_, rfl⟩
  have hb2 : Below w1.heap.size w1 w2 := by rw [← hw2]; exact (Below.refl _ _).alloc (Nat.le_refl _) _
  have hx2 : ∀ i, w2.cell? ⟨w1.heap.size, i, none⟩ = #[.int .u8 97, .int .u8 97, .int .u8 98][i]? := fun i => by rw [← hw2]; exact cell_of_row _ w1.heap.size i _ _ _ (heap_alloc_new w1 _)
  have HT := Lib.hid (text_ok (some ⟨w1.heap.size, 0, none⟩) 3 aabS w2 (by decide) (lit3_conv 97 97 98 w2 w1.heap.size ((hx2 0).trans rfl) ((hx2 1).trans rfl) ((hx2 2).trans rfl)))
  have HW2 := Lib.hid hw2; have HB2 := Lib.hid (below_two hb hb2); have HR2 := Lib.hid (HR.out.below hb2)
  have hlen : ([98] : List Int).length = 1 := rfl
  rw [hlen]
  clear hv hb hc hw2 hb2 hx2 hlen
  have kc := fun (w : World) (C : Array Value) (n c : Nat) => Lib.run_convert_bytes_const (P := Try.prog) w 28 5 C n c Try.underlying28 Try.underlying5
  go_wp2_with fail
  rw [HW2.out]
  refine HT.out.mono ?_
  rintro e w3 ⟨ib, rfl, hin, hb3⟩
  have HB3 := Lib.hid (below_two HB2.out hb3)
  have HX := Lib.hid (index_any _ 2 aabS ib w3 hin _ [98] (HR2.out.below hb3) (by decide) 0 (by unfold I64; omega))
  clear hin hb3 c0
  go_wp2_with fail
  refine HX.out.mono ?_
  rintro e w4 ⟨r, rfl, hr, hb4⟩
  obtain rfl := hr.eq aab_index
  have HB4 := Lib.hid (below_two HB3.out hb4)
  clear hr hb4
  go_wp2_with fail
  go_ret
  exact ⟨rfl, HB4.out⟩
end Go.Proofs.Ytnemacejaiifnaa
