/- Texts merged by program. No condition. -/
import Derived.Test.YthnddabcmhplkaaGreatDoorK25
import Derived.Test.YthnddabcmhplkaaGreatDoorK26
import Derived.Test.YthnddabcmhplkaaGreatDoorK32
set_option maxHeartbeats 1600000
set_option linter.unusedVariables false
namespace Go.Proofs.YthnddabcmhplkaaGreatDoor
open Go Go.RowKit
theorem set_len {l : List (Int × Int)} (h : RightR l) : l.length ≤ 134217728 := by have := right_len l 0 (by omega) h;omega
theorem posix0_any (s : ByteArray) (w : World) : Calls Tryz.prog 141 #[.string s] w (Post2 (plainR s.toList) w) := by
 have HS := Hd (posixSet_any s w)
 have hne := fun (W : World) (a : Option Addr) (n c : Nat) => run_neq_slice_nil_any (P := Tryz.prog) W 26 51 a n c 0 0 Tryz.underlying26
 unfold Post2
 go_enter Tryz.func141,Tryz.ntmps141
 go_wp2_with fail
 refine HS.out.mono ?_
 rintro e w1 ⟨hb,⟨hn,rfl⟩ | ⟨v,l,hn,hl0,rfl,ho⟩⟩
 ·have HB := Hd hb;have HN := Hd hn
  clear hb hn
  go_wp2_with fail
  go_ret2
  exact ⟨HB.out,.inl ⟨HN.out,rfl⟩⟩
 ·have HB := Hd hb;have HN := Hd hn;have HO := Hd ho
  have hl : l.length ≠ 0 := fun h => hl0 (List.eq_nil_of_length_eq_zero h)
  obtain ⟨g,c,rfl⟩ : ∃ g c,v = .slice (some ⟨g,0,none⟩) l.length c := by
   rcases own_slice2 ho.1 with ⟨-,h⟩ | ⟨g,c,rfl,-⟩
   ·exact absurd h hl
   ·exact ⟨g,c,rfl⟩
  clear hb hn ho hl hl0
  go_wp2_with fail
  go_ret2
  exact ⟨HB.out,.inr ⟨_,l,HN.out,rfl,HO.out⟩⟩
theorem property0_any (s : ByteArray) (w : World) : Calls Tryz.prog 111 #[.string s] w (Post2 (property1 s.toList) w) := by
 have HS := Hd (named_any s w);have HW := Hd (whole_any w)
 unfold Post2
 by_cases ha : s.toList = [65,110,121]
 ·have q1 : (s.toList == [65,110,121]) = true := by rw [ha];rfl
  have HQ := Hd (show property1 s.toList = some (notR []) by unfold property1;rw [if_pos ha])
  clear ha
  go_enter Tryz.func111,Tryz.ntmps111
  go_wp2_with fail
  refine HW.out.mono ?_
  rintro e w1 ⟨v,rfl,ho,hb⟩
  have HB := Hd hb;have HO := Hd ho
  clear ho hb
  go_wp2_with fail
  go_ret2
  exact ⟨HB.out,.inr ⟨v,_,HQ.out,rfl,HO.out⟩⟩
 ·have q1 : (s.toList == [65,110,121]) = false := by simpa using ha
  have HQ := Hd (show property1 s.toList = nameR s.toList by unfold property1;rw [if_neg ha])
  clear ha
  go_enter Tryz.func111,Tryz.ntmps111
  go_wp2_with fail
  refine HS.out.mono ?_
  rintro e w1 ⟨hb,⟨hn,rfl⟩ | ⟨v,l,hn,rfl,ho⟩⟩
  ·have HB := Hd hb;have HN := Hd hn
   clear hb hn
   go_wp2_with fail
   go_ret2
   exact ⟨HB.out,.inl ⟨by rw [HQ.out];exact HN.out,rfl⟩⟩
  ·have HB := Hd hb;have HN := Hd hn;have HO := Hd ho
   clear hb hn ho
   go_wp2_with fail
   go_ret2
   exact ⟨HB.out,.inr ⟨v,l,by rw [HQ.out];exact HN.out,rfl,HO.out⟩⟩
def turnR (P : List UInt8 → Option (List (Int × Int))) (b : List UInt8) : Option (List (Int × Int)) := if b.head? = some 94 then (P b.tail).map notR else P b
theorem turning_any (g : Nat) (P : List UInt8 → Option (List (Int × Int))) (eg : ∀ args w,(callFunc g args).run Tryz.prog w = .ok (.enter g args) w)
  (hp : ∀ (s : ByteArray) (w : World),Calls Tryz.prog g #[.string s] w (Post2 (P s.toList) w)) (hr : ∀ b l,P b = some l → RightR l)
  (s : ByteArray) (q : Nat) (w : World) (hc : w.cell? ⟨q,0,none⟩ = some (.func (.func g) #[] #[])) :
  Calls Tryz.prog 124 #[.string s,.pointer (some ⟨q,0,none⟩)] w (Post2 (turnR P s.toList) w) := by
 have HR := Hd hr
 have HC := Hd (cut_any s w)
 unfold Post2
 clear hr
 go_enter Tryz.func124,Tryz.ntmps124
 go_wp2_with fail
 refine HC.out.mono ?_
 rintro e w1 ⟨rfl,⟨h,rfl⟩ | ⟨h,rfl⟩⟩
 ·have HT := Hd (show turnR P s.toList = (P (s.extract 1 s.size).toList).map notR by
   unfold turnR
   rw [tail_of]
   unfold hatB at h
   rw [if_pos (eq_of_beq h)])
  clear h HC
  have HP := Hd (hp (s.extract 1 s.size) w1)
  clear hp
  go_wp2_with fail
  refine HP.out.mono ?_
  rintro e w2 ⟨hb,⟨hn,rfl⟩ | ⟨v,l,hn,rfl,ho⟩⟩
  ·have HB := Hd hb;have HN := Hd hn
   clear hb hn
   go_wp2_with fail
   go_ret2
   exact ⟨HB.out,.inl ⟨by rw [HT.out,HN.out];rfl,rfl⟩⟩
  ·have HB := Hd hb;have HN := Hd hn
   have HV := Hd (notP_any v l w2 ho.rgs (HR.out _ _ hn) (set_len (HR.out _ _ hn)))
   clear hb hn ho
   go_wp2_with fail
   refine HV.out.mono ?_
   rintro e w3 ⟨v3,rfl,ho,hb⟩
   have HB3 := Hd (HB.out.trans (hb.mono HB.out.size));have HO3 := Hd (ho.mono HB.out.size)
   clear ho hb
   go_wp2_with fail
   go_ret2
   exact ⟨HB3.out,.inr ⟨v3,_,by rw [HT.out,HN.out];rfl,rfl,HO3.out⟩⟩
 ·have HT := Hd (show turnR P s.toList = P s.toList by
   unfold turnR
   unfold hatB at h
   rw [if_neg (fun e => by rw [e] at h;cases h)])
  clear h HC
  have HP := Hd (hp s w1)
  clear hp
  go_wp2_with fail
  refine HP.out.mono ?_
  rintro e w2 ⟨hb,⟨hn,rfl⟩ | ⟨v,l,hn,rfl,ho⟩⟩
  ·have HB := Hd hb;have HN := Hd hn
   clear hb hn
   go_wp2_with fail
   go_ret2
   exact ⟨HB.out,.inl ⟨by rw [HT.out,HN.out],rfl⟩⟩
  ·have HB := Hd hb;have HN := Hd hn;have HO := Hd ho
   clear hb hn ho
   go_wp2_with fail
   go_ret2
   exact ⟨HB.out,.inr ⟨v,l,by rw [HT.out,HN.out],rfl,HO.out⟩⟩
theorem turned_any (g : Nat) (w : World) : Calls Tryz.prog 110 #[.func (.func g) #[] #[]] w fun e w' => e = .returned (.func (.func 124) #[] #[.pointer (some ⟨w.heap.size,0,none⟩)]) ∧ w' = w.alloc (.cells #[.func (.func g) #[] #[]] 173) := by
 go_enter Tryz.func110,Tryz.ntmps110
 go_wp2
 go_ret
 exact ⟨rfl,rfl⟩
theorem post2_later {o : Option (List (Int × Int))} {w0 w : World} {e : Ending} {w' : World} (h : Post2 o w e w') (hb : Below w0.heap.size w0 w) : Post2 o w0 e w' := by
 obtain ⟨h1,h2⟩ := h
 refine ⟨hb.trans (h1.mono hb.size),?_⟩
 rcases h2 with h2 | ⟨v,l,h3,h4,h5⟩
 ·exact .inl h2
 ·exact .inr ⟨v,l,h3,h4,h5.mono hb.size⟩
theorem box_cell (w : World) (v : Value) (t : TypeId) : (w.alloc (.cells #[v] t)).cell? ⟨w.heap.size,0,none⟩ = some v := by
 rw [cell_of_row _ _ _ _ _ _ (heap_alloc_new w _)]
 rfl
theorem posix_any (s : ByteArray) (w : World) : Calls Tryz.prog 120 #[.string s] w (Post2 (posixR s.toList) w) := by
 have HT := Hd (turned_any 141 w)
 have HP := Hd (turning_any 141 plainR (enters_of Tryz.func141 (by kernel_rfl) rfl) posix0_any (fun _ _ h => plain_right h) s w.heap.size (w.alloc (.cells #[.func (.func 141) #[] #[]] 173)) (box_cell w _ _))
 have HB := Hd ((Below.refl _ w).alloc (Nat.le_refl _) (.cells #[.func (.func 141) #[] #[]] 173))
 go_enter Tryz.func120,Tryz.ntmps120
 go_wp2_with fail
 refine HT.out.mono ?_
 rintro e w1 ⟨rfl,rfl⟩
 go_wp2_with fail
 refine HP.out.mono ?_
 intro e w2 hp
 have hp := post2_later hp HB.out
 obtain ⟨hb,⟨hn,rfl⟩ | ⟨v,l,hn,rfl,ho⟩⟩ := hp
 ·have HN := Hd hn;have HB2 := Hd hb
  clear hn hb
  go_wp2_with fail
  go_ret2
  exact ⟨HB2.out,.inl ⟨HN.out,rfl⟩⟩
 ·have HN := Hd hn;have HB2 := Hd hb;have HO := Hd ho
  clear hn hb ho
  go_wp2_with fail
  go_ret2
  exact ⟨HB2.out,.inr ⟨v,l,HN.out,rfl,HO.out⟩⟩
theorem prop_is (b : List UInt8) (n : Bool) : propR b n = if n then (turnR property1 b).map notR else turnR property1 b := by
 unfold propR turnR
 by_cases h : b.head? = some 94
 ·rw [if_pos h,if_pos h]
  cases n
  ·rfl
  ·simp only [property2,Bool.not_true,Bool.false_eq_true,if_false,if_true]
   cases hp : property1 b.tail with
   | none => rfl
   | some l => simp only [Option.map_some,notR_twice (property1_right hp)]
 ·rw [if_neg h,if_neg h]
  rfl
theorem turn_right {b : List UInt8} {l : List (Int × Int)} (h : turnR property1 b = some l) : RightR l := by
 have := prop_is b false
 rw [if_neg (by decide)] at this
 exact prop_right (this.trans h)
theorem prop_any (s : ByteArray) (n : Bool) (w : World) : Calls Tryz.prog 90 #[.string s,.bool n] w (Post2 (propR s.toList n) w) := by
 rw [prop_is]
 have HT := Hd (turned_any 111 w)
 have HP := Hd (turning_any 111 property1 (enters_of Tryz.func111 (by kernel_rfl) rfl) property0_any (fun _ _ h => property1_right h) s w.heap.size (w.alloc (.cells #[.func (.func 111) #[] #[]] 173)) (box_cell w _ _))
 have HB := Hd ((Below.refl _ w).alloc (Nat.le_refl _) (.cells #[.func (.func 111) #[] #[]] 173))
 unfold Post2
 go_enter Tryz.func90,Tryz.ntmps90
 go_wp2_with fail
 refine HT.out.mono ?_
 rintro e w1 ⟨rfl,rfl⟩
 go_wp2_with fail
 refine HP.out.mono ?_
 intro e w2 hp
 have hp := post2_later hp HB.out
 obtain ⟨hb,⟨hn,rfl⟩ | ⟨v,l,hn,rfl,ho⟩⟩ := hp
 ·have HN := Hd hn;have HB2 := Hd hb
  clear hn hb
  cases n
  ·go_wp2_with fail
   go_ret2
   exact ⟨HB2.out,.inl ⟨HN.out,rfl⟩⟩
  ·go_wp2_with fail
   go_ret2
   exact ⟨HB2.out,.inl ⟨by simp [HN.out],rfl⟩⟩
 ·have HN := Hd hn;have HB2 := Hd hb;have HO := Hd ho
  have HV := Hd (notP_any v l w2 ho.rgs (turn_right hn) (set_len (turn_right hn)))
  clear hn hb ho
  cases n
  ·go_wp2_with fail
   go_ret2
   exact ⟨HB2.out,.inr ⟨v,l,HN.out,rfl,HO.out⟩⟩
  ·go_wp2_with fail
   refine HV.out.mono ?_
   rintro e w3 ⟨v3,rfl,ho,hb⟩
   have HB3 := Hd (HB2.out.trans (hb.mono HB2.out.size));have HO3 := Hd (ho.mono HB2.out.size)
   clear ho hb
   go_wp2_with fail
   go_ret2
   exact ⟨HB3.out,.inr ⟨v3,_,by simp [HN.out],rfl,HO3.out⟩⟩
theorem dot_any (all : Bool) (w : World) : Calls Tryz.prog 72 #[.bool all] w fun e w' => ∃ v',e = .returned v' ∧ OwnR w' w.heap.size v' (dotR all) ∧ Below w.heap.size w w' := by
 cases all
 ·go_enter Tryz.func72,Tryz.ntmps72
  go_wp2_with fail
  refine (runs_any _ [(10,10)] _ (ends2_lit w _ _ _ rfl rfl (by unfold AllI32 I32;decide)) (by decide)).mono ?_
  rintro e w1 ⟨v1,rfl,ho,hb⟩
  have HB := Hd ((((Below.refl _ w).alloc (Nat.le_refl _) _).trans (hb.mono (by simp))))
  have HV := Hd (notP_any v1 [(10,10)] w1 ho.rgs (by simp [RightR,RightFrom]) (by decide))
  clear ho hb
  go_wp2_with fail
  refine HV.out.mono ?_
  rintro e w3 ⟨v3,rfl,ho,hb⟩
  have HB3 := Hd (HB.out.trans (hb.mono HB.out.size));have HO3 := Hd (ho.mono HB.out.size)
  clear ho hb
  go_wp2_with fail
  go_ret
  exact ⟨v3,rfl,HO3.out,HB3.out⟩
 ·have HW := Hd (whole_any w)
  go_enter Tryz.func72,Tryz.ntmps72
  go_wp2_with fail
  refine HW.out.mono ?_
  rintro e w1 ⟨v,rfl,ho,hb⟩
  have HB := Hd hb;have HO := Hd ho
  clear ho hb
  go_wp2_with fail
  go_ret
  exact ⟨v,rfl,HO.out,HB.out⟩
theorem perl_low (c : Int) (l : List (Int × Int)) (w : World) (hc : (c = 100 ∧ l = dR) ∨ (c = 115 ∧ l = sR) ∨ (c = 119 ∧ l = wR)) : Calls Tryz.prog 127 #[.int .u8 c] w (Post2 (perlR c) w) := by
 have HL := Hd (show perlR c = some l by rcases hc with ⟨rfl,rfl⟩ | ⟨rfl,rfl⟩ | ⟨rfl,rfl⟩ <;> rfl)
 have HP := Hd (perlSet_any c l w hc)
 unfold Post2
 rcases hc with ⟨rfl,-⟩ | ⟨rfl,-⟩ | ⟨rfl,-⟩ <;>
 ·go_enter Tryz.func127,Tryz.ntmps127
  go_wp2_with fail
  refine HP.out.mono ?_
  rintro e w1 ⟨v,rfl,ho,hb⟩
  have HB := Hd hb;have HO := Hd ho
  clear ho hb
  go_wp2_with fail
  go_ret2
  exact ⟨HB.out,.inr ⟨v,_,HL.out,rfl,HO.out⟩⟩
theorem perl_great (c d : Int) (l : List (Int × Int)) (w : World) (hc : (c = 68 ∧ d = 100 ∧ l = dR) ∨ (c = 83 ∧ d = 115 ∧ l = sR) ∨ (c = 87 ∧ d = 119 ∧ l = wR)) : Calls Tryz.prog 127 #[.int .u8 c] w (Post2 (perlR c) w) := by
 have HL := Hd (show perlR c = some (notR l) by rcases hc with ⟨rfl,rfl,rfl⟩ | ⟨rfl,rfl,rfl⟩ | ⟨rfl,rfl,rfl⟩ <;> rfl)
 have HP := Hd (perlSet_any d l w (by rcases hc with ⟨rfl,h1,h2⟩ | ⟨rfl,h1,h2⟩ | ⟨rfl,h1,h2⟩ <;> simp [h1,h2]))
 have HR := Hd (show RightR l by rcases hc with ⟨-,-,rfl⟩ | ⟨-,-,rfl⟩ | ⟨-,-,rfl⟩ <;> simp [RightR,RightFrom,dR,sR,wR])
 unfold Post2
 rcases hc with ⟨rfl,rfl,-⟩ | ⟨rfl,rfl,-⟩ | ⟨rfl,rfl,-⟩ <;>
 ·go_enter Tryz.func127,Tryz.ntmps127
  go_wp2_with fail
  refine HP.out.mono ?_
  rintro e w1 ⟨v,rfl,ho,hb⟩
  have HB := Hd hb
  have HV := Hd (notP_any v l w1 ho.rgs HR.out (set_len HR.out))
  clear ho hb
  go_wp2_with fail
  refine HV.out.mono ?_
  rintro e w3 ⟨v3,rfl,ho,hb⟩
  have HB3 := Hd (HB.out.trans (hb.mono HB.out.size));have HO3 := Hd (ho.mono HB.out.size)
  clear ho hb
  go_wp2_with fail
  go_ret2
  exact ⟨HB3.out,.inr ⟨v3,_,HL.out,rfl,HO3.out⟩⟩
theorem perl_any (c : Int) (w : World) : Calls Tryz.prog 127 #[.int .u8 c] w (Post2 (perlR c) w) := by
 by_cases h1 : c = 100
 ·exact perl_low c dR w (.inl ⟨h1,rfl⟩)
 by_cases h2 : c = 115
 ·exact perl_low c sR w (.inr (.inl ⟨h2,rfl⟩))
 by_cases h3 : c = 119
 ·exact perl_low c wR w (.inr (.inr ⟨h3,rfl⟩))
 by_cases h4 : c = 68
 ·exact perl_great c 100 dR w (.inl ⟨h4,rfl,rfl⟩)
 by_cases h5 : c = 83
 ·exact perl_great c 115 sR w (.inr (.inl ⟨h5,rfl,rfl⟩))
 by_cases h6 : c = 87
 ·exact perl_great c 119 wR w (.inr (.inr ⟨h6,rfl,rfl⟩))
 have HL := Hd (show perlR c = none by unfold perlR;rw [if_neg h1,if_neg h2,if_neg h3,if_neg h4,if_neg h5,if_neg h6])
 have q1 : (c == 100) = false := by simpa using h1
 have q2 : (c == 115) = false := by simpa using h2
 have q3 : (c == 119) = false := by simpa using h3
 have q4 : (c == 68) = false := by simpa using h4
 have q5 : (c == 83) = false := by simpa using h5
 have q6 : (c == 87) = false := by simpa using h6
 clear h1 h2 h3 h4 h5 h6
 unfold Post2
 go_enter Tryz.func127,Tryz.ntmps127
 go_wp2_with fail
 go_ret2
 exact ⟨Below.refl _ _,.inl ⟨HL.out,rfl⟩⟩
end Go.Proofs.YthnddabcmhplkaaGreatDoor
