/- The fixed question of stage 4; the sets of any letter and any name: as the document says. From the program's contracts perl_any, posix_any, prop_any, dot_any. -/
import Derived.Test.YtnpogfkmcopdfaaCProg
import Derived.Test.YtnpogfkmcopdfaaRSame
import Derived.Test.YtnpogfkmcopdfaaRHas
set_option linter.unusedVariables false
namespace Go.Proofs.Ytnpogfkmcopdfaa
open Go Go.RowKit

/-- A set and whether there is one, in one form. -/
theorem post2_form {o : Option (List (Int × Int))} {w w' : World} {e : Ending} (h : Post2 o w e w') : ∃ v, e = .returned (.tuple #[v, .bool o.isSome]) ∧ OwnR w' w.heap.size v (o.getD []) ∧ Below w.heap.size w w' := by
  rcases h with ⟨hb, ⟨rfl, rfl⟩ | ⟨v, l, rfl, rfl, ho⟩⟩
  · exact ⟨_, rfl, own_none _ _, hb⟩
  · exact ⟨v, rfl, ho, hb⟩

set_option maxHeartbeats 1600000 in
set_option maxRecDepth 100000 in
theorem chead_any (w : World) : Calls Try.prog 8 #[] w fun e w' => e = .returned (.bool true) ∧ Below w.heap.size w w' := by
  have HO := Lib.hid (perl_any 100 w)
  go_enter Try.func8, Try.ntmps8
  go_wp2_with fail
  refine HO.out.mono ?_
  intro e w1 hp
  obtain ⟨v, rfl, ho, hb⟩ := post2_form hp
  rw [show perlR 100 = some dR from rfl] at ho ⊢
  simp only [Option.getD_some, Option.isSome_some] at ho ⊢
  have HD := Lib.hid (dot_any false w1)
  have HB := Lib.hid hb
  obtain ⟨a, c, rfl, -, -, -, f5, -⟩ := ho.rgs
  rcases f5 with f5 | ⟨b, o, rfl, hc⟩
  · cases f5
  obtain ⟨c1, c2⟩ := hc 0 (by decide)
  simp only [dR, List.getElem_cons_zero, Nat.add_zero, Nat.zero_mul, List.length_cons, List.length_nil, Nat.zero_add] at c1 c2 ⊢
  clear hp ho hb hc HO
  go_wp2_with fail
  refine HD.out.mono ?_
  rintro e w2 ⟨v2, rfl, ho, hb⟩
  have HB2 := Lib.hid (HB.out.trans (hb.mono HB.out.size))
  obtain ⟨a2, c2', rfl, -⟩ := ho.rgs
  rw [show (dotR false).length = 2 by decide]
  clear ho hb
  go_wp2_with fail
  go_ret
  exact ⟨rfl, HB2.out⟩

set_option maxHeartbeats 1600000 in
set_option maxRecDepth 100000 in
/-- The set of any letter. -/
theorem cperl_any (w : World) (c : Int) : Calls Try.prog 3 #[.int .u8 c] w fun e w' => e = .returned (.bool true) ∧ Below w.heap.size w w' := by
  go_enter Try.func3, Try.ntmps3
  go_wp2_with fail
  refine (chead_any w).mono ?_
  rintro e w1 ⟨rfl, hb⟩
  have HT := Lib.hid hb
  clear hb
  go_wp2_with fail
  refine (perl_any c _).mono ?_
  intro e w2 hp
  obtain ⟨v2, rfl, ho, hb⟩ := post2_form hp
  obtain ⟨l, hl⟩ : ∃ l, (perlR c).getD [] = l := ⟨_, rfl⟩
  obtain ⟨i, hi⟩ : ∃ i, (perlR c).isSome = i := ⟨_, rfl⟩
  have HL := Lib.hid hl; have HI := Lib.hid hi
  rw [hl] at ho
  rw [hi]
  have R2 := Lib.hid ho.rgs
  replace HT := Lib.hid (HT.out.trans (hb.mono HT.out.size))
  clear ho hb hp hl hi
  go_wp2_with fail
  refine (rperl_any c _).mono ?_
  intro e w3 hp
  obtain ⟨v3, rfl, ho, hb⟩ := post2_form hp
  rw [HL.out] at ho
  rw [HI.out]
  replace R2 := Lib.hid (R2.out.below hb)
  have R3 := Lib.hid ho.rgs
  replace HT := Lib.hid (HT.out.trans (hb.mono HT.out.size))
  clear ho hb hp HL HI
  have hbi : (i == i) = true := by cases i <;> rfl
  go_wp2_with fail
  refine (rsame_any v2 v3 _ _ w3 R2.out R3.out).mono ?_
  rintro e w4 ⟨B, rfl, hq, q, rfl⟩
  obtain rfl : B = true := hq.2 rfl
  have HT2 := Lib.hid (below_drewNr HT.out q)
  clear hq
  go_wp2_with fail
  go_ret
  exact ⟨rfl, HT2.out⟩

set_option maxHeartbeats 1600000 in
set_option maxRecDepth 100000 in
/-- The set of any name between colons. -/
theorem cposix_any (w : World) (s : ByteArray) : Calls Try.prog 4 #[.string s] w fun e w' => e = .returned (.bool true) ∧ Below w.heap.size w w' := by
  go_enter Try.func4, Try.ntmps4
  go_wp2_with fail
  refine (chead_any w).mono ?_
  rintro e w1 ⟨rfl, hb⟩
  have HT := Lib.hid hb
  clear hb
  go_wp2_with fail
  refine (posix_any s _).mono ?_
  intro e w2 hp
  obtain ⟨v2, rfl, ho, hb⟩ := post2_form hp
  obtain ⟨l, hl⟩ : ∃ l, (posixR s.toList).getD [] = l := ⟨_, rfl⟩
  obtain ⟨i, hi⟩ : ∃ i, (posixR s.toList).isSome = i := ⟨_, rfl⟩
  have HL := Lib.hid hl; have HI := Lib.hid hi
  rw [hl] at ho
  rw [hi]
  have R2 := Lib.hid ho.rgs
  replace HT := Lib.hid (HT.out.trans (hb.mono HT.out.size))
  clear ho hb hp hl hi
  go_wp2_with fail
  refine (rposix_any s _).mono ?_
  intro e w3 hp
  obtain ⟨v3, rfl, ho, hb⟩ := post2_form hp
  rw [HL.out] at ho
  rw [HI.out]
  replace R2 := Lib.hid (R2.out.below hb)
  have R3 := Lib.hid ho.rgs
  replace HT := Lib.hid (HT.out.trans (hb.mono HT.out.size))
  clear ho hb hp HL HI
  have hbi : (i == i) = true := by cases i <;> rfl
  go_wp2_with fail
  refine (rsame_any v2 v3 _ _ w3 R2.out R3.out).mono ?_
  rintro e w4 ⟨B, rfl, hq, q, rfl⟩
  obtain rfl : B = true := hq.2 rfl
  have HT2 := Lib.hid (below_drewNr HT.out q)
  clear hq
  go_wp2_with fail
  go_ret
  exact ⟨rfl, HT2.out⟩

set_option maxHeartbeats 1600000 in
set_option maxRecDepth 100000 in
/-- The set of any property's name; what a dot stands for. -/
theorem cprop_any (w : World) (s : ByteArray) (n : Bool) : Calls Try.prog 5 #[.string s, .bool n] w fun e w' => e = .returned (.bool true) ∧ Below w.heap.size w w' := by
  go_enter Try.func5, Try.ntmps5
  go_wp2_with fail
  refine (chead_any w).mono ?_
  rintro e w1 ⟨rfl, hb⟩
  have HT := Lib.hid hb
  clear hb
  go_wp2_with fail
  refine (prop_any s n _).mono ?_
  intro e w2 hp
  obtain ⟨v2, rfl, ho, hb⟩ := post2_form hp
  obtain ⟨l, hl⟩ : ∃ l, (propR s.toList n).getD [] = l := ⟨_, rfl⟩
  obtain ⟨i, hi⟩ : ∃ i, (propR s.toList n).isSome = i := ⟨_, rfl⟩
  have HL := Lib.hid hl; have HI := Lib.hid hi
  rw [hl] at ho
  rw [hi]
  have R2 := Lib.hid ho.rgs
  replace HT := Lib.hid (HT.out.trans (hb.mono HT.out.size))
  clear ho hb hp hl hi
  go_wp2_with fail
  refine (rprop_any s n _).mono ?_
  intro e w3 hp
  obtain ⟨v3, rfl, ho, hb⟩ := post2_form hp
  rw [HL.out] at ho
  rw [HI.out]
  replace R2 := Lib.hid (R2.out.below hb)
  have R3 := Lib.hid ho.rgs
  replace HT := Lib.hid (HT.out.trans (hb.mono HT.out.size))
  clear ho hb hp HL HI
  have hbi : (i == i) = true := by cases i <;> rfl
  go_wp2_with fail
  refine (rsame_any v2 v3 _ _ w3 R2.out R3.out).mono ?_
  rintro e w4 ⟨B, rfl, hq, q, rfl⟩
  obtain rfl : B = true := hq.2 rfl
  have HT2 := Lib.hid (below_drewNr HT.out q)
  clear hq R2 R3
  go_wp2_with fail
  refine (dot_any n _).mono ?_
  rintro e w5 ⟨v5, rfl, ho, hb⟩
  have R5 := Lib.hid ho.rgs
  replace HT := Lib.hid (HT2.out.trans (hb.mono HT2.out.size))
  clear ho hb HT2
  go_wp2_with fail
  refine (rdot_any n _).mono ?_
  rintro e w6 ⟨v6, rfl, ho, hb⟩
  replace R5 := Lib.hid (R5.out.below hb)
  have R6 := Lib.hid ho.rgs
  replace HT := Lib.hid (HT.out.trans (hb.mono HT.out.size))
  clear ho hb
  go_wp2_with fail
  refine (rsame_any v5 v6 _ _ w6 R5.out R6.out).mono ?_
  rintro e w7 ⟨B, rfl, hq, q, rfl⟩
  obtain rfl : B = true := hq.2 rfl
  have HT2 := Lib.hid (below_drewNr HT.out q)
  clear hq
  go_wp2_with fail
  go_ret
  exact ⟨rfl, HT2.out⟩
end Go.Proofs.Ytnpogfkmcopdfaa
