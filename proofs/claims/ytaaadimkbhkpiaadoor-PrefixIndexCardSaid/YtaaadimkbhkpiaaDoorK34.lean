/- Texts merged by program: PxIndexL. No condition. -/
import Derived.Test.YtaaadimkbhkpiaaDoorK28
import Derived.Test.YtaaadimkbhkpiaaDoorK33
import Derived.Test.YtaaadimkbhkpiaaDoorK31
set_option linter.unusedVariables false
/- PrefixIndex. No condition. -/
namespace Go.Proofs.YtaaadimkbhkpiaaDoor
open Go Go.RowKit

theorem i64_of_wf14 {x : Int} (h : (Lit.int .i64 x).wf = true) : I64 x := by
  simp [Lit.wf, IntKind.min, IntKind.max, IntKind.bits, IntKind.signed] at h
  unfold I64
  omega
set_option maxRecDepth 100000 in
theorem index_none (la : Option Addr) (ln lc : Nat) (f : Int) (w : World) : Calls Tryd.prog 6 #[.pointer none, .slice la ln lc, .int .i64 f] w fun e w' => e = .returned (.int .i64 (-1)) ∧ Below w.heap.size w w' := by
  have hb : Below w.heap.size w ((w.alloc (.cells #[.pointer none] 25)).alloc (.cells #[.slice la ln lc] 23)) := ((Below.refl _ w).alloc (Nat.le_refl _) _).alloc (by simp) _
  have HB := Lib.hid hb
  clear hb
  go_enter Tryd.func6, Tryd.ntmps6
  go_wp2_with fail
  go_step3
  go_wp2_with fail
  rw [Exit.noGoto_ret]
  go_ret
  exact ⟨rfl, HB.out⟩
set_option maxHeartbeats 1600000 in
set_option maxRecDepth 100000 in
theorem doc_any (A : Option Addr) (c : Nat) (s : ByteArray) (w : World) (hs : (s.size : Int) ≤ 65536) (hx : Txt w A c s) (hT : Lib.Utf8Tabs 0 1 w) :
    Calls Tryd.prog 8 #[.slice A s.size c] w fun e w' => ∃ b, e = .returned (.pointer (some ⟨b, 0, none⟩)) ∧ RefIn w' w.heap.size 2 s b ∧ Below w.heap.size w w' := by
  have HR := Lib.hid (ref_one 2 (by omega) (by omega) A c s w hs hx hT)
  clear hs hx hT
  go_enter Tryd.func8, Tryd.ntmps8
  go_wp2_with fail
  refine HR.out.mono ?_
  rintro e w1 ⟨b, rfl, hb, hI, hB⟩
  have HI := Lib.hid hI; have HB := Lib.hid hB
  clear hb hI hB
  go_wp2_with fail
  go_ret
  exact ⟨b, rfl, HI.out, HB.out⟩

set_option maxHeartbeats 3200000 in
set_option maxRecDepth 100000 in
theorem prefixIndex_any (w : World) (A : Option Addr) (n c : Nat) (zs : List Int) (hz : IsRow .u8 w A n c zs) (hT : Lib.Utf8Tabs 0 1 w) (la : Option Addr) (ln lc : Nat) (l : List Int) (hl : Rns w (.slice la ln lc) l) (i : Int) (hi : I64 i) : Calls Tryd.prog 3 #[.slice A n c, .slice la ln lc, .int .i64 i] w (HeadPost w) := by
  obtain ⟨s, rfl, hx⟩ := txt_of_row hz
  have HX := Lib.hid hx; have HTB := Lib.hid hT; have HL := Lib.hid hl
  obtain ⟨la', lc', e, hlc, hlm, -⟩ := id hl
  injection e with e1 e2 e3
  subst e1 e3
  obtain ⟨N, hN⟩ : ∃ N, l.length = N := ⟨_, rfl⟩
  have HN := Lib.hid hN
  subst e2
  rw [hN] at hlc ⊢
  have HL2 : Hid (Rns w (.slice la N lc) l) := Lib.hid (by rw [← hN]; exact HL.out)
  clear hx hT hl hz hN HL
  go_enter Tryd.func3, Tryd.ntmps3
  go_wp2_with fail
  refine (phead14_any w).mono ?_
  rintro e w1 ⟨rfl, hB⟩
  have HB := Lib.hid hB
  clear hB
  by_cases hlong : (65536 : Int) < s.size
  · have HTX := Lib.hid (text_long A s.size c w1 hlong)
    clear hlong
    go_wp2_with fail
    refine HTX.out.mono ?_
    rintro e w2 ⟨rfl, rfl⟩
    go_wp2_with fail
    refine (index_none _ _ _ i w1).mono ?_
    rintro e w3 ⟨rfl, hb3⟩
    have HB3 := Lib.hid (HB.out.trans (hb3.mono HB.out.size))
    clear hb3
    go_wp2_with fail
    go_ret
    exact ⟨rfl, HB3.out⟩
  have HTX := Lib.hid (text_ok A c s w1 (by omega) ((HX.out.below HB.out).conv))
  go_wp2_with fail
  refine HTX.out.mono ?_
  rintro e w2 ⟨ib, rfl, hin, hb2⟩
  have HB2 := Lib.hid (below_two HB.out hb2)
  have HIN := Lib.hid hin
  clear hb2 hin
  by_cases hbig : 3000 < s.size
  · have hz : decide ((3000 : Int) < (s.size : Int)) = true := decide_eq_true (by omega)
    go_wp2_with fail
    go_ret
    exact ⟨rfl, HB2.out⟩
  have hz : decide ((3000 : Int) < (s.size : Int)) = false := decide_eq_false (by omega)
  by_cases hlb : 3000 < N
  · have hz2 : decide ((3000 : Int) < (N : Int)) = true := decide_eq_true (by omega)
    go_wp2_with fail
    go_ret
    exact ⟨rfl, HB2.out⟩
  have hz2 : decide ((3000 : Int) < (N : Int)) = false := decide_eq_false (by omega)
  have HIX := Lib.hid (index_any _ 2 s ib w2 HIN.out (.slice la N lc) l (HL2.out.below HB2.out) (by rw [HN.out]; omega) i hi)
  have HDO : Hid (∀ W, Below w.heap.size w W → Calls Tryd.prog 8 #[.slice A s.size c] W fun e w' => ∃ b, e = .returned (.pointer (some ⟨b, 0, none⟩)) ∧ RefIn w' W.heap.size 2 s b ∧ Below W.heap.size W w') := Lib.hid fun W hW => doc_any A c s W (by omega) (HX.out.below hW) (tabs_below HTB.out hW)
  have hN3 : N ≤ 3000 := by omega
  clear hlong hbig
  go_wp2_with fail
  refine HIX.out.mono ?_
  rintro e w3 ⟨r1, rfl, hr1, hb3⟩
  have HB3 := Lib.hid (HB2.out.trans (hb3.mono HB2.out.size)); have HR1 := Lib.hid hr1
  clear hb3 hr1
  go_wp2_with fail
  refine (HDO.out w3 HB3.out).mono ?_
  rintro e w4 ⟨d, rfl, hrf, hb4⟩
  have HB4 := Lib.hid (HB3.out.trans (hb4.mono HB3.out.size))
  have HRI := Lib.hid (rindex_any _ 2 s d w4 hrf (.slice la N lc) l (HL2.out.below HB4.out) (by rw [HN.out]; omega) i hi)
  clear hrf hb4
  go_wp2_with fail
  refine HRI.out.mono ?_
  rintro e w5 ⟨r2, rfl, hr2, hb5⟩
  obtain rfl := HR1.out.eq hr2
  have HB5 := Lib.hid (HB4.out.trans (hb5.mono HB4.out.size))
  clear hb5 hr2
  go_wp2_with fail
  refine (index_none _ _ _ i w5).mono ?_
  rintro e w6 ⟨rfl, hb6⟩
  have HB6 := Lib.hid (HB5.out.trans (hb6.mono HB5.out.size))
  clear hb6
  go_wp2_with fail
  go_ret
  exact ⟨rfl, HB6.out⟩
end Go.Proofs.YtaaadimkbhkpiaaDoor
