/- Texts merged by program. No condition. -/
import Derived.Test.YthnddabcmhplkaaGreatDoorK9
import Derived.Deep.RegionHeld3
set_option maxHeartbeats 6400000
set_option maxRecDepth 100000
set_option linter.unusedVariables false
namespace Go.Proofs.YthnddabcmhplkaaGreatDoor
open Go Go.RowKit
theorem jump_ret {l : Nat} {J : Act → World → Prop} {Q : Exit → Act → World → Prop} {a : Act} {w : World} : Exit.jump l J Q .ret a w = Q .ret a w := rfl
theorem jump_normal {l : Nat} {J : Act → World → Prop} {Q : Exit → Act → World → Prop} {a : Act} {w : World} : Exit.jump l J Q .normal a w = Q .normal a w := rfl
theorem jump_exit {l k : Nat} {J : Act → World → Prop} {Q : Exit → Act → World → Prop} {a : Act} {w : World} : Exit.jump l J Q (.exit k) a w = Q (.exit k) a w := rfl
theorem jump_goto {l k : Nat} {J : Act → World → Prop} {Q : Exit → Act → World → Prop} {a : Act} {w : World} : Exit.jump l J Q (.goto k) a w = (k = l ∧ J a w) := rfl
theorem wp_scope_fwd {P : Program} {c rest : Code} {Q : Exit → Act → World → Prop} {a : Act} {w : World} (l : Nat) (hf : findLabel c l = some rest)
  (h : c.wp P (Exit.jump l (fun a w => rest.wp P (Exit.noGoto Q) a w) Q) a w) : (Code.scope c).wp P Q a w :=
 wp_scope_jumps l _ (fun _ _ => 0) hf h fun a w hJ => wp_mono hJ fun e a w h => by
  cases e with
  | goto k => exact h.elim
  | normal => exact h
  | exit k => exact h
  | ret => exact h
  | panic ch => exact h
  | outgrown => exact h
def flagsFrom : List UInt8 → Int → Bool → Bool → Option (Int × Bool) × Nat
 | [],_,_,_ => (none,0)
 | c :: t,f,off,more =>
  if ¬ flagI c.toNat = 0 then ((flagsFrom t (if off then bits .andNot .i64 f (flagI c.toNat) else bits .or .i64 f (flagI c.toNat)) off (more || off)).1,(flagsFrom t (if off then bits .andNot .i64 f (flagI c.toNat) else bits .or .i64 f (flagI c.toNat)) off (more || off)).2 + 1)
  else if c.toNat = 45 ∧ off = false then ((flagsFrom t f true more).1,(flagsFrom t f true more).2 + 1)
  else if (c.toNat = 58 ∨ c.toNat = 41) ∧ (off = false ∨ more = true) then (some (f,decide (c.toNat = 58)),1)
  else (none,0)
def flagsS (s : ByteArray) (i : Nat) (f : Int) : Option (Int × Bool) × Nat :=
 if ¬ headI (leftB s i) = 40 then (none,i) else if ¬ headI (leftB s (i + 1)) = 63 then (none,i + 1) else ((flagsFrom (leftB s (i + 2)) f false false).1,i + 2 + (flagsFrom (leftB s (i + 2)) f false false).2)
def badTo (s : ByteArray) (p : Nat) : Int := if p < s.size then ((p + (Utf8.decode s p).2 : Nat) : Int) else s.size
def FlagsPost (s : ByteArray) (i : Nat) (R : Option (Int × Bool) × Nat) (w : World) (e : Ending) (w' : World) : Prop :=
 Below w.heap.size w w' ∧ ((R.1 = none ∧ e = .returned (.tuple #[.int .i64 0,.bool false,.int .i64 0,.agg #[.int .i64 65,.int .i64 i,.int .i64 (badTo s R.2)]])) ∨ ∃ g c,R.1 = some (g,c) ∧ e = .returned (.tuple #[.int .i64 g,.bool c,.int .i64 (R.2 : Int),.agg #[.int .i64 0,.int .i64 0,.int .i64 0]]))
def RdIn (W : World) (q : Nat) (t : TypeId) (r : List Value) (s : ByteArray) (j : Nat) : Prop := Whole W q t (.string s :: .int .i64 j :: r).toArray
theorem RdIn.c0 {W : World} {q : Nat} {t : TypeId} {r : List Value} {s : ByteArray} {j : Nat} (h : RdIn W q t r s j) : W.cell? ⟨q,0,none⟩ = some (.string s) := Whole.cell h 0
theorem RdIn.c1 {W : World} {q : Nat} {t : TypeId} {r : List Value} {s : ByteArray} {j : Nat} (h : RdIn W q t r s j) : W.cell? ⟨q,1,none⟩ = some (.int .i64 j) := Whole.cell h 1
theorem RdIn.f0 {W : World} {q : Nat} {t : TypeId} {r : List Value} {s : ByteArray} {j : Nat} (h : RdIn W q t r s j) : W.frozen? ⟨q,0,none⟩ = false := Whole.free h 0
theorem RdIn.f1 {W : World} {q : Nat} {t : TypeId} {r : List Value} {s : ByteArray} {j : Nat} (h : RdIn W q t r s j) : W.frozen? ⟨q,1,none⟩ = false := Whole.free h 1
theorem RdIn.put {W : World} {q : Nat} {t : TypeId} {r : List Value} {s : ByteArray} {j : Nat} (h : RdIn W q t r s j) (k : Nat) (x : Int) (hx : x = k) : RdIn (W.setCell ⟨q,1,none⟩ (.int .i64 x)) q t r s k := by
 subst hx
 have := Whole.store h 1 (.int .i64 (k : Int))
 simpa [RdIn] using this
theorem RdIn.lt {W : World} {q : Nat} {t : TypeId} {r : List Value} {s : ByteArray} {j : Nat} (h : RdIn W q t r s j) : q < W.heap.size := Whole.lt h
theorem tk_set (W : World) (q j : Nat) (u : Value) : W.grownBy (W.setCell ⟨q,j,none⟩ u) (some q) := ⟨rfl,rfl,rfl,by simp [World.setCell],fun k hk hne => Below.heap_setCell W _ u k (fun e => hne (by rw [e]))⟩
theorem tk_trans {a b c : World} {q : Option Nat} (h : a.grownBy b q) (k : b.grownBy c q) : a.grownBy c q := ⟨k.os.trans h.os,k.tape.trans h.tape,k.output.trans h.output,Nat.le_trans h.size k.size,fun i hi hn => (k.block i (Nat.lt_of_lt_of_le hi h.size) hn).trans (h.block i hi hn)⟩
theorem tk_below {a b : World} (h : Below a.heap.size a b) (q : Option Nat) : a.grownBy b q := ⟨h.os,h.tape,h.output,h.size,fun k hk _ => h.block k hk⟩
theorem tk_drewN (w : World) (n : Nat) (q : Option Nat) : w.grownBy (w.drewN n) q := tk_below (drewN_below w n) q
theorem RdIn.below {W W' : World} {q : Nat} {t : TypeId} {r : List Value} {s : ByteArray} {j : Nat} (h : RdIn W q t r s j) (hb : Below W.heap.size W W') : RdIn W' q t r s j := Whole.below h hb h.lt
theorem RdIn.drewN {W : World} {q : Nat} {t : TypeId} {r : List Value} {s : ByteArray} {j : Nat} (h : RdIn W q t r s j) (n : Nat) : RdIn (W.drewN n) q t r s j := h.below (drewN_below W n)
def Took (q : Nat) (t : TypeId) (r : List Value) (s : ByteArray) (j : Nat) (w w' : World) : Prop := w.grownBy w' (some q) ∧ RdIn w' q t r s j
theorem Took.none {q : Nat} {t : TypeId} {r : List Value} {s : ByteArray} {j : Nat} {w : World} (h : RdIn w q t r s j) : Took q t r s j w w := ⟨World.grownBy.refl _ _,h⟩
theorem Took.trans {q : Nat} {t : TypeId} {r : List Value} {s : ByteArray} {j k : Nat} {w w1 w2 : World} (h : Took q t r s j w w1) (h2 : Took q t r s k w1 w2) : Took q t r s k w w2 := ⟨tk_trans h.1 h2.1,h2.2⟩
theorem Took.whole {q : Nat} {t : TypeId} {r : List Value} {s : ByteArray} {j : Nat} {w w' : World} (h : Took q t r s j w w') {b : Nat} {u : TypeId} {cs : Array Value} (hb : Whole w b u cs) (hne : b ≠ q) : Whole w' b u cs := hb.grown h.1 (fun e => hne (Option.some.inj e).symm)
theorem Took.below {q B : Nat} {t : TypeId} {r : List Value} {s : ByteArray} {j : Nat} {w0 w w' : World} (h : Took q t r s j w w') (hb : Below B w0 w) (hB : B ≤ w.heap.size) (hq : B ≤ q) : Below B w0 w' := hb.grown h.1 hB (fun k e => by cases e;exact hq)
theorem psdigit_any (c : Int) (w : World) (h0 : 0 ≤ c) (h1 : c ≤ 255) : Calls Tryz.prog 123 #[.int .u8 c] w fun e w' => e = .returned (.int .i64 (digI c)) ∧ w' = w := by
 obtain ⟨v,hv⟩ : ∃ v,digI c = v := ⟨_,rfl⟩
 rw [hv]
 rw [digI_is] at hv
 by_cases a0 : 48 ≤ c
 ·by_cases a1 : c ≤ 57
  ·have HV := Hd (show c - 48 = v by rw [← hv,if_pos ⟨a0,a1⟩])
   have x1 : IntKind.u8.wrap (c - 48) = c - 48 := wrap_in8 _ (by omega)
   clear hv
   go_enter Tryz.func123,Tryz.ntmps123
   go_wp2
   go_ret
   exact ⟨congrArg (fun n => Ending.returned (.int .i64 n)) HV.out,rfl⟩
  ·by_cases b0 : 97 ≤ c
   ·by_cases b1 : c ≤ 102
    ·have HV := Hd (show c - 97 + 10 = v by rw [← hv,if_neg (by omega),if_pos ⟨b0,b1⟩];omega)
     have x1 : IntKind.u8.wrap (c - 97) = c - 97 := wrap_in8 _ (by omega)
     clear hv
     go_enter Tryz.func123,Tryz.ntmps123
     go_wp2
     go_ret
     exact ⟨congrArg (fun n => Ending.returned (.int .i64 n)) HV.out,rfl⟩
    ·have HV := Hd (show 16 = v by rw [← hv,if_neg (by omega),if_neg (by omega),if_neg (by omega)])
     have d0 : 65 ≤ c := by omega
     have d1 : ¬ c ≤ 70 := by omega
     clear hv
     go_enter Tryz.func123,Tryz.ntmps123
     go_wp2
     go_ret
     exact ⟨congrArg (fun n => Ending.returned (.int .i64 n)) HV.out,rfl⟩
   ·by_cases d0 : 65 ≤ c
    ·by_cases d1 : c ≤ 70
     ·have HV := Hd (show c - 65 + 10 = v by rw [← hv,if_neg (by omega),if_neg (by omega),if_pos ⟨d0,d1⟩];omega)
      have x1 : IntKind.u8.wrap (c - 65) = c - 65 := wrap_in8 _ (by omega)
      clear hv
      go_enter Tryz.func123,Tryz.ntmps123
      go_wp2
      go_ret
      exact ⟨congrArg (fun n => Ending.returned (.int .i64 n)) HV.out,rfl⟩
     ·have HV := Hd (show 16 = v by rw [← hv,if_neg (by omega),if_neg (by omega),if_neg (by omega)])
      clear hv
      go_enter Tryz.func123,Tryz.ntmps123
      go_wp2
      go_ret
      exact ⟨congrArg (fun n => Ending.returned (.int .i64 n)) HV.out,rfl⟩
    ·have HV := Hd (show 16 = v by rw [← hv,if_neg (by omega),if_neg (by omega),if_neg (by omega)])
     clear hv
     go_enter Tryz.func123,Tryz.ntmps123
     go_wp2
     go_ret
     exact ⟨congrArg (fun n => Ending.returned (.int .i64 n)) HV.out,rfl⟩
 ·have HV := Hd (show 16 = v by rw [← hv,if_neg (by omega),if_neg (by omega),if_neg (by omega)])
  have b0 : ¬ 97 ≤ c := by omega
  have d0 : ¬ 65 ≤ c := by omega
  clear hv
  go_enter Tryz.func123,Tryz.ntmps123
  go_wp2
  go_ret
  exact ⟨congrArg (fun n => Ending.returned (.int .i64 n)) HV.out,rfl⟩
theorem preader_any (s : ByteArray) (i : Nat) (w : World) (hs : s.size ≤ 4503599627370496) (hi : i ≤ s.size) : Calls Tryz.prog 80 #[.string s,.int .i64 i] w fun e w' => e = .returned (.agg #[.string s,.int .i64 i]) ∧ Below w.heap.size w w' := by
 go_enter Tryz.func80,Tryz.ntmps80
 have x1 : ¬ (i : Int) < 0 := by omega
 have x2 : ¬ (s.size : Int) < (i : Int) := by omega
 go_wp2
 have hW : Whole (w.alloc (.cells #[.string s,.int .i64 i] 129)) w.heap.size 129 #[.string s,.int .i64 i] := heap_alloc_new w _
 refine bodyPost_ret (results_cell_row Tryz.results80 _ _ w.heap.size 129 _ (0,0) _ rfl hW Tryz.underlying129 rfl (by kernel_rfl)) rfl ?_
 exact ⟨rfl,(Below.refl _ w).alloc (Nat.le_refl _) _⟩
def TakePost (q : Nat) (t : TypeId) (r : List Value) (s part : ByteArray) (i : Nat) (w : World) (e : Ending) (w' : World) : Prop :=
 ∃ b,preB part.toList (leftB s i) = b ∧ e = .returned (.bool b) ∧ Took q t r s (if b = true then i + part.size else i) w w'
theorem ptake_any (q : Nat) (t : TypeId) (r : List Value) (s part : ByteArray) (i : Nat) (w : World) (hs : s.size ≤ 4503599627370496) (hp : part.size ≤ 100) (hi : i ≤ s.size) (h : RdIn w q t r s i) :
  Calls Tryz.prog 81 #[.pointer (some ⟨q,0,none⟩),.string part] w (TakePost q t r s part i w) := by
 obtain ⟨b,hb⟩ : ∃ b,preB part.toList (leftB s i) = b := ⟨_,rfl⟩
 have hP : ∀ n,Calls Tryz.prog 48 #[.string (s.extract i s.size),.string part] (w.drewN n) fun e w' => e = .returned (.bool b) ∧ w' = w.drewN n := fun n => by
  have := Tryz.strings_HasPrefix (s.extract i s.size) part (w.drewN n)
  rw [pre_left,hb] at this
  exact this
 have c0 := h.c0;have c1 := h.c1;have f1 := h.f1
 have HH := Hd h;have HB := Hd hb
 have y2 : (i : Int) ≤ (s.size : Int) := by omega
 have y3 : IntKind.i64.wrap ((i : Int) + (part.size : Int)) = (i : Int) + (part.size : Int) := wrap_in _ (by omega)
 clear h hb
 unfold TakePost
 go_enter Tryz.func81,Tryz.ntmps81
 go_wp2_with fail
 go_big_quiet (first | (go_at_call 48;with_reducible refine Calls.quiet_of_same (hP _)))
 cases b
 ·go_wp2
  go_ret
  exact ⟨false,HB.out,rfl,tk_drewN _ _ _,HH.out.drewN _⟩
 ·go_wp2
  go_ret
  exact ⟨true,HB.out,rfl,tk_trans (tk_drewN _ _ _) (tk_set _ _ _ _),(HH.out.drewN _).put _ _ (by rfl)⟩
def runeP (s : ByteArray) (j : Nat) : Nat × Nat := if j < s.size then Utf8.decode s j else (65533,0)
theorem runeP_fit {s : ByteArray} {j : Nat} (hj : j ≤ s.size) : j + (runeP s j).2 ≤ s.size := by
 unfold runeP
 split
 ·exact decode_width s j (by assumption)
 ·exact hj
theorem pdec_any (s : ByteArray) (j : Nat) (W : World) (hj : j ≤ s.size) (hT : Lib.Utf8Tabs 0 1 W) :
  Calls Tryz.prog 46 #[.string (s.extract j s.size)] W fun e w' => e = .returned (.tuple #[.int .i32 ((runeP s j).1 : Int),.int .i64 ((runeP s j).2 : Int)]) ∧ Below W.heap.size W w' := by
 have h := Tryz.utf8_DecodeRuneInString (s.extract j s.size) W hT
 unfold runeP
 by_cases hlt : j < s.size
 ·rw [decodeGo_extract s j hlt] at h
  rw [if_pos hlt]
  exact h
 ·have hs : (s.extract j s.size).size = 0 := by simp;omega
  have : Lib.decodeGo (s.extract j s.size) = (65533,0) := by unfold Lib.decodeGo;rw [if_pos hs]
  rw [this] at h
  rw [if_neg hlt]
  exact h
def RunePost (q : Nat) (t : TypeId) (r : List Value) (s : ByteArray) (i : Nat) (w : World) (e : Ending) (w' : World) : Prop :=
 e = .returned (.tuple #[.int .i32 ((runeP s i).1 : Int),.bool (decide (0 < (runeP s i).2))]) ∧ Took q t r s (i + (runeP s i).2) w w'
theorem ptakeRune_any (q : Nat) (t : TypeId) (r : List Value) (s : ByteArray) (i : Nat) (w : World) (hs : s.size ≤ 4503599627370496) (hi : i ≤ s.size) (h : RdIn w q t r s i) (hT : Lib.Utf8Tabs 0 1 w) :
  Calls Tryz.prog 83 #[.pointer (some ⟨q,0,none⟩)] w (RunePost q t r s i w) := by
 have hD := fun k => pdec_any s i (w.drewN k) hi (Utf8Tabs_below hT (drewN_below w k))
 have hf := runeP_fit hi
 unfold RunePost
 obtain ⟨⟨c,n⟩,hr⟩ : ∃ x,runeP s i = x := ⟨_,rfl⟩
 rw [hr] at hD hf ⊢
 simp only at hD hf ⊢
 have HD := Hd hD;have HH := Hd h
 have c0 := h.c0;have c1 := h.c1
 have y2 : (i : Int) ≤ (s.size : Int) := by omega
 have y3 : IntKind.i64.wrap ((i : Int) + (n : Int)) = (i : Int) + (n : Int) := wrap_in _ (by omega)
 clear h hD hr hT
 go_enter Tryz.func83,Tryz.ntmps83
 go_wp2_with fail
 go_region_with (go_at_call 46;refine (HD.out _).mono ?_;rintro e w2 ⟨rfl,hb2⟩;have HR2 := Hd ((HH.out.drewN _).below hb2);have HG2 := Hd (tk_trans (tk_drewN w _ (some q)) (tk_below hb2 _));have c1' := HR2.out.c1;have f1' := HR2.out.f1;clear hb2)
 all_goals
  go_wp2_with fail
  go_ret2
  exact ⟨rfl,tk_trans HG2.out (tk_set _ _ _ _),HR2.out.put _ _ (by rfl)⟩
def cutA (u : ByteArray) (c : UInt8) : ByteArray := if toN c u.toList < u.size then u.extract 0 (toN c u.toList) else u
def cutB (u : ByteArray) (c : UInt8) : ByteArray := if toN c u.toList < u.size then u.extract (toN c u.toList + 1) u.size else ⟨#[]⟩
theorem plcut_any (u : ByteArray) (c : UInt8) (w : World) (hu : u.size ≤ 4503599627370496) :
  Calls Tryz.prog 114 #[.string u,.string ⟨#[c]⟩] w fun e w' => e = .returned (.tuple #[.string (cutA u c),.string (cutB u c),.bool (decide (toN c u.toList < u.size))]) ∧ ∃ n,w' = w.drewN n := by
 have hI := Tryz.stringslite_Index_one u c w
 have hl : u.data.toList.length = u.size := by rw [← Lib.size_eq]
 rw [← Lib.toList_data,toN_index,Lib.toList_data,hl,← Lib.toList_data] at hI
 unfold cutA cutB
 obtain ⟨k,hk⟩ : ∃ k,toN c u.toList = k := ⟨_,rfl⟩
 rw [hk] at hI ⊢
 by_cases hlt : k < u.size
 ·rw [if_pos hlt] at hI
  rw [if_pos hlt,if_pos hlt,decide_eq_true hlt]
  have HI := Hd hI
  have x1 : (0 : Int) ≤ (k : Int) := by omega
  have x2 : (k : Int) ≤ (u.size : Int) := by omega
  have x3 : IntKind.i64.wrap ((k : Int) + 1) = (k : Int) + 1 := wrap_in _ (by omega)
  have x4 : (0 : Int) ≤ (k : Int) + 1 := by omega
  have x5 : (k : Int) + 1 ≤ (u.size : Int) := by omega
  have x6 : ((k : Int) + 1).toNat = k + 1 := by omega
  clear hI hk hl
  go_enter Tryz.func114,Tryz.ntmps114
  go_wp2_with fail
  refine HI.out.mono ?_
  rintro e w' ⟨rfl,rfl⟩
  go_wp2_with fail
  go_region
  go_wp2_with fail
  go_ret3
  exact ⟨rfl,1,rfl⟩
 ·rw [if_neg hlt] at hI
  rw [if_neg hlt,if_neg hlt,decide_eq_false hlt]
  have HI := Hd hI
  clear hI hk hl
  go_enter Tryz.func114,Tryz.ntmps114
  go_wp2_with fail
  refine HI.out.mono ?_
  rintro e w' ⟨rfl,rfl⟩
  go_wp2_with fail
  go_ret3
  exact ⟨rfl,0,rfl⟩
theorem pcut_any (u : ByteArray) (c : UInt8) (w : World) (hu : u.size ≤ 4503599627370496) :
  Calls Tryz.prog 92 #[.string u,.string ⟨#[c]⟩] w fun e w' => e = .returned (.tuple #[.string (cutA u c),.string (cutB u c),.bool (decide (toN c u.toList < u.size))]) ∧ ∃ n,w' = w.drewN n := by
 have HI := Hd (plcut_any u c w hu)
 obtain ⟨A,hA⟩ : ∃ A,cutA u c = A := ⟨_,rfl⟩
 obtain ⟨B,hB⟩ : ∃ A,cutB u c = A := ⟨_,rfl⟩
 obtain ⟨f,hf⟩ : ∃ A,decide (toN c u.toList < u.size) = A := ⟨_,rfl⟩
 rw [hA,hB,hf] at HI ⊢
 clear hA hB hf
 go_enter Tryz.func92,Tryz.ntmps92
 go_wp2_with fail
 refine HI.out.mono ?_
 rintro e w' ⟨rfl,n,rfl⟩
 go_wp2_with fail
 go_ret3
 exact ⟨rfl,n,rfl⟩
def ToPost (q : Nat) (t : TypeId) (r : List Value) (s : ByteArray) (c : UInt8) (i : Nat) (w : World) (e : Ending) (w' : World) : Prop :=
 ∃ b : ByteArray,e = .returned (.tuple #[.string b,.bool (decide (i + toN c (leftB s i) < s.size))]) ∧ b.toList = (leftB s i).take (toN c (leftB s i)) ∧ Took q t r s (min (i + toN c (leftB s i) + 1) s.size) w w'
theorem ptakeTo_any (q : Nat) (t : TypeId) (r : List Value) (s : ByteArray) (c : UInt8) (i : Nat) (w : World) (hs : s.size ≤ 4503599627370496) (hi : i ≤ s.size) (h : RdIn w q t r s i) :
  Calls Tryz.prog 101 #[.pointer (some ⟨q,0,none⟩),.string ⟨#[c]⟩] w (ToPost q t r s c i w) := by
 have hus : (s.extract i s.size).size = s.size - i := by simp
 have hul := extract_whole s i
 have hC := fun k => pcut_any (s.extract i s.size) c (w.drewN k) (by omega)
 have hle := toN_le c (leftB s i)
 rw [left_length] at hle
 have hA : (cutA (s.extract i s.size) c).toList = (leftB s i).take (toN c (leftB s i)) := by
  unfold cutA
  rw [hul,hus]
  split
  ·rw [Lib.extract_toList,← Lib.toList_data,hul,List.drop_zero,Nat.sub_zero]
  ·rw [hul,List.take_of_length_le (by rw [left_length];omega)]
 have hB : (cutB (s.extract i s.size) c).size = s.size - (min (i + toN c (leftB s i) + 1) s.size) := by
  unfold cutB
  rw [hul,hus]
  split
  ·simp
   omega
  ·rw [show min (i + toN c (leftB s i) + 1) s.size = s.size by omega,Nat.sub_self]
   rfl
 have hd : decide (toN c (s.extract i s.size).toList < (s.extract i s.size).size) = decide (i + toN c (leftB s i) < s.size) := by
  rw [hul,hus]
  by_cases hx : i + toN c (leftB s i) < s.size
  ·rw [decide_eq_true hx,decide_eq_true (by omega)]
  ·rw [decide_eq_false hx,decide_eq_false (by omega)]
 unfold ToPost
 obtain ⟨m,hm⟩ : ∃ m,min (i + toN c (leftB s i) + 1) s.size = m := ⟨_,rfl⟩
 have hms : m ≤ s.size := by omega
 rw [hd] at hC
 rw [hm] at hB ⊢
 obtain ⟨f,hf⟩ : ∃ A,decide (i + toN c (leftB s i) < s.size) = A := ⟨_,rfl⟩
 obtain ⟨A,hAA⟩ : ∃ A,cutA (s.extract i s.size) c = A := ⟨_,rfl⟩
 obtain ⟨B,hBB⟩ : ∃ A,cutB (s.extract i s.size) c = A := ⟨_,rfl⟩
 rw [hAA] at hA hC
 rw [hBB] at hB hC
 rw [hf] at hC ⊢
 have HC := Hd hC
 have HA := Hd hA;have HH := Hd h
 have c0 := h.c0;have c1 := h.c1;have f1 := h.f1
 have y2 : (i : Int) ≤ (s.size : Int) := by omega
 have y3 : IntKind.i64.wrap ((s.size : Int) - (B.size : Int)) = (m : Int) := by rw [wrap_in _ (by omega)];omega
 clear hC hA h hul hus hle hAA hBB hf hd hm hB
 go_enter Tryz.func101,Tryz.ntmps101
 go_wp2_with fail
 go_big_quiet (first | (go_at_call 92;with_reducible refine Calls.quiet_of (HC.out _)))
 go_wp2
 go_ret2
 exact ⟨A,rfl,HA.out,tk_trans (tk_drewN _ _ _) (tk_set _ _ _ _),(HH.out.drewN _).put _ _ (by rfl)⟩
def NumsPost (q : Nat) (t : TypeId) (r : List Value) (s : ByteArray) (i : Nat) (o : Int × Nat) (w : World) (e : Ending) (w' : World) : Prop :=
 e = .returned (.tuple #[.int .i64 o.1,.int .i64 (o.2 : Int)]) ∧ Took q t r s (i + o.2) w w'
theorem nums_step {base M : Int} {s : ByteArray} {i j k many : Nat} {n : Int} (h : numsFrom base M (leftB s i) many 0 = ((numsFrom base M (leftB s j) (many - k) n).1,(numsFrom base M (leftB s j) (many - k) n).2 + k)) (hj : j < s.size) (hk : k < many) (hd : digI s[j].toNat < base) :
  numsFrom base M (leftB s i) many 0 = ((numsFrom base M (leftB s (j + 1)) (many - (k + 1)) (min (n * base + digI s[j].toNat) M)).1,(numsFrom base M (leftB s (j + 1)) (many - (k + 1)) (min (n * base + digI s[j].toNat) M)).2 + (k + 1)) := by
 rw [h,left_cons s j hj,show many - k = (many - (k + 1)) + 1 by omega]
 rw [numsFrom,if_pos hd]
 refine Prod.ext rfl ?_
 dsimp only
 omega
theorem nums_stop {base M : Int} {s : ByteArray} {i j k many : Nat} {n : Int} (h : numsFrom base M (leftB s i) many 0 = ((numsFrom base M (leftB s j) (many - k) n).1,(numsFrom base M (leftB s j) (many - k) n).2 + k)) (hs : many ≤ k ∨ s.size ≤ j ∨ ∃ hj : j < s.size,¬ digI s[j].toNat < base) :
  numsFrom base M (leftB s i) many 0 = (n,k) := by
 have : numsFrom base M (leftB s j) (many - k) n = (n,0) := by
  rcases hs with hs | hs | ⟨hj,hs⟩
  ·rw [show many - k = 0 by omega,numsFrom_none]
  ·rw [left_nil s j hs]
   rfl
  ·rw [left_cons s j hj]
   cases many - k with
   | zero => rfl
   | succ m => rw [numsFrom,if_neg hs]
 rw [h,this]
 simp
theorem pnums_any (q : Nat) (t : TypeId) (r : List Value) (s : ByteArray) (base most : Int) (many i : Nat) (w : World) (hs : s.size ≤ 4503599627370496) (hm : many ≤ 4503599627370496) (b0 : 10 ≤ base) (b1 : base ≤ 16) (m0 : 0 ≤ most) (m1 : most ≤ 2000000) (hi : i ≤ s.size) (h : RdIn w q t r s i) :
  Calls Tryz.prog 109 #[.pointer (some ⟨q,0,none⟩),.int .i64 base,.int .i64 many,.int .i64 most] w (NumsPost q t r s i (numsFrom base (most + 1) (leftB s i) many 0) w) := by
 have HH := Hd h
 have hw0 : IntKind.i64.wrap (most + 1) = most + 1 := wrap_in _ (by omega)
 clear h
 unfold NumsPost
 go_enter Tryz.func109,Tryz.ntmps109
 go_wp2_with fail
 go_loopw [10,11] (fun vn vk wr => ∃ (j k : Nat) (n : Int),i + k = j ∧ j ≤ s.size ∧ k ≤ many ∧ vn = .int .i64 n ∧ vk = .int .i64 k ∧ 0 ≤ n ∧ n ≤ most + 1 ∧ numsFrom base (most + 1) (leftB s i) many 0 = ((numsFrom base (most + 1) (leftB s j) (many - k) n).1,(numsFrom base (most + 1) (leftB s j) (many - k) n).2 + k) ∧ Took q t r s j w wr) (fun _ vk _ => many - (intOf vk).toNat)
 case atStart => exact ⟨i,0,0,rfl,hi,Nat.zero_le _,rfl,rfl,by omega,by omega,rfl,Took.none HH.out⟩
 case round =>
  obtain ⟨j,k,n,hjk,hj,hk,rfl,rfl,hn0,hn1,hd,hT⟩ := hrel
  have HD := Hd hd;have HJ := Hd hjk;have HT := Hd hT
  have c0 := hT.2.c0;have c1 := hT.2.c1;have f1 := hT.2.f1
  clear hd hjk hT
  by_cases hkm : k < many
  ·by_cases hlt : j < s.size
   ·obtain ⟨d,hdd⟩ : ∃ d,digI (s[j].toNat : Int) = d := ⟨_,rfl⟩
    have h256 : s[j].toNat < 256 := UInt8.toNat_lt _
    have hd0 : 0 ≤ d := hdd ▸ digI_lo _
    have hd1 : d ≤ 16 := hdd ▸ digI_hi _
    have cD : ∀ W,Calls Tryz.prog 123 #[.int .u8 (s[j].toNat : Int)] W fun e w' => e = .returned (.int .i64 d) ∧ w' = W := fun W => hdd ▸ psdigit_any _ W (by omega) (by omega)
    by_cases hdb : d < base
    ·have hnb : 0 ≤ n * base ∧ n * base ≤ 32000016 := by
      constructor
      ·exact Int.mul_nonneg hn0 (by omega)
      ·exact Int.le_trans (Int.mul_le_mul (show n ≤ 2000001 by omega) b1 (by omega) (by omega)) (by decide)
     have HS := Hd (nums_step HD.out hlt hkm (by rw [hdd];exact hdb))
     rw [hdd] at HS
     obtain ⟨nb,hnn⟩ : ∃ nb,n * base = nb := ⟨_,rfl⟩
     rw [hnn] at HS hnb
     have hw1 : IntKind.i64.wrap (n * base) = nb := by rw [hnn];exact wrap_in _ (by omega)
     have hw2 : IntKind.i64.wrap (nb + d) = nb + d := wrap_in _ (by omega)
     have hw3 : IntKind.i64.wrap ((k : Int) + 1) = (k : Int) + 1 := wrap_in _ (by omega)
     have hw4 : IntKind.i64.wrap ((j : Int) + 1) = (j : Int) + 1 := wrap_in _ (by omega)
     clear hdd HD hnn
     go_wp2_with fail
     go_big_quiet (first | (go_at_call 123;with_reducible refine Calls.quiet_of_same (cD _)))
     have HR2 := Hd (HT.out.2.drewN nq);have HG2 := Hd (tk_trans HT.out.1 (tk_drewN wr nq (some q)))
     clear c0 c1 f1
     generalize wr.drewN nq = W2 at HR2 HG2 ⊢
     have c0 := HR2.out.c0;have c1 := HR2.out.c1;have f1 := HR2.out.f1
     go_wp2_with fail
     go_big_quiet (first | (go_at_call 123;with_reducible refine Calls.quiet_of_same (cD _)))
     go_wp2
     refine ⟨⟨j + 1,k + 1,min (nb + d) (most + 1),by have := HJ.out;omega,hlt,hkm,congrArg _ (by omega),rfl,by omega,by omega,HS.out,tk_trans HG2.out (tk_trans (tk_drewN _ _ _) (tk_set _ _ _ _)),(HR2.out.drewN _).put _ _ (by rfl)⟩,by simp only [intOf];omega⟩
    ·have HN := Hd (nums_stop HD.out (.inr (.inr ⟨hlt,by rw [hdd];exact hdb⟩)))
     clear hdd HD
     go_wp2_with fail
     go_big_quiet (first | (go_at_call 123;with_reducible refine Calls.quiet_of_same (cD _)))
     go_wp2_with fail
     go_ret2
     rw [HN.out]
     exact ⟨rfl,tk_trans HT.out.1 (tk_drewN _ _ _),by rw [HJ.out];exact HT.out.2.drewN _⟩
   ·have HN := Hd (nums_stop HD.out (.inr (.inl (by omega))))
    clear HD
    go_wp2_with fail
    go_big_quiet (fail)
    go_wp2_with fail
    go_ret2
    rw [HN.out]
    exact ⟨rfl,tk_trans HT.out.1 (tk_drewN _ _ _),by rw [HJ.out];exact HT.out.2.drewN _⟩
  ·have HN := Hd (nums_stop HD.out (.inl (by omega)))
   clear HD
   go_wp2_with fail
   go_big_quiet (fail)
   go_wp2_with fail
   go_ret2
   rw [HN.out]
   exact ⟨rfl,tk_trans HT.out.1 (tk_drewN _ _ _),by rw [HJ.out];exact HT.out.2.drewN _⟩
theorem psign_any (c : Int) (w : World) : Calls Tryz.prog 126 #[.int .i32 c] w fun e w' => e = .returned (.bool (signI c)) ∧ w' = w := by
 go_enter Tryz.func126,Tryz.ntmps126
 have hcase : c < 33 ∨ (33 ≤ c ∧ c ≤ 47) ∨ (47 < c ∧ c < 58) ∨ (58 ≤ c ∧ c ≤ 64) ∨ (64 < c ∧ c < 91) ∨ (91 ≤ c ∧ c ≤ 96) ∨ (96 < c ∧ c < 123) ∨ (123 ≤ c ∧ c ≤ 126) ∨ 126 < c := by omega
 rcases hcase with hc | hc | hc | hc | hc | hc | hc | hc | hc
 ·have l33 : decide (33 ≤ c) = false := decide_eq_false (by omega)
  have l58 : decide (58 ≤ c) = false := decide_eq_false (by omega)
  have l91 : decide (91 ≤ c) = false := decide_eq_false (by omega)
  have l123 : decide (123 ≤ c) = false := decide_eq_false (by omega)
  have u47 : decide (c ≤ 47) = true := decide_eq_true (by omega)
  have u64 : decide (c ≤ 64) = true := decide_eq_true (by omega)
  have u96 : decide (c ≤ 96) = true := decide_eq_true (by omega)
  have u126 : decide (c ≤ 126) = true := decide_eq_true (by omega)
  have HS := Hd (show signI c = false by unfold signI;rw [l33,l58,l91,l123,u47,u64,u96,u126];rfl)
  clear hc
  go_wp2
  go_ret
  exact ⟨congrArg (fun b => Ending.returned (.bool b)) HS.out.symm,rfl⟩
 ·have l33 : decide (33 ≤ c) = true := decide_eq_true (by omega)
  have l58 : decide (58 ≤ c) = false := decide_eq_false (by omega)
  have l91 : decide (91 ≤ c) = false := decide_eq_false (by omega)
  have l123 : decide (123 ≤ c) = false := decide_eq_false (by omega)
  have u47 : decide (c ≤ 47) = true := decide_eq_true (by omega)
  have u64 : decide (c ≤ 64) = true := decide_eq_true (by omega)
  have u96 : decide (c ≤ 96) = true := decide_eq_true (by omega)
  have u126 : decide (c ≤ 126) = true := decide_eq_true (by omega)
  have HS := Hd (show signI c = true by unfold signI;rw [l33,l58,l91,l123,u47,u64,u96,u126];rfl)
  clear hc
  go_wp2
  go_ret
  exact ⟨congrArg (fun b => Ending.returned (.bool b)) HS.out.symm,rfl⟩
 ·have l33 : decide (33 ≤ c) = true := decide_eq_true (by omega)
  have l58 : decide (58 ≤ c) = false := decide_eq_false (by omega)
  have l91 : decide (91 ≤ c) = false := decide_eq_false (by omega)
  have l123 : decide (123 ≤ c) = false := decide_eq_false (by omega)
  have u47 : decide (c ≤ 47) = false := decide_eq_false (by omega)
  have u64 : decide (c ≤ 64) = true := decide_eq_true (by omega)
  have u96 : decide (c ≤ 96) = true := decide_eq_true (by omega)
  have u126 : decide (c ≤ 126) = true := decide_eq_true (by omega)
  have HS := Hd (show signI c = false by unfold signI;rw [l33,l58,l91,l123,u47,u64,u96,u126];rfl)
  clear hc
  go_wp2
  go_ret
  exact ⟨congrArg (fun b => Ending.returned (.bool b)) HS.out.symm,rfl⟩
 ·have l33 : decide (33 ≤ c) = true := decide_eq_true (by omega)
  have l58 : decide (58 ≤ c) = true := decide_eq_true (by omega)
  have l91 : decide (91 ≤ c) = false := decide_eq_false (by omega)
  have l123 : decide (123 ≤ c) = false := decide_eq_false (by omega)
  have u47 : decide (c ≤ 47) = false := decide_eq_false (by omega)
  have u64 : decide (c ≤ 64) = true := decide_eq_true (by omega)
  have u96 : decide (c ≤ 96) = true := decide_eq_true (by omega)
  have u126 : decide (c ≤ 126) = true := decide_eq_true (by omega)
  have HS := Hd (show signI c = true by unfold signI;rw [l33,l58,l91,l123,u47,u64,u96,u126];rfl)
  clear hc
  go_wp2
  go_ret
  exact ⟨congrArg (fun b => Ending.returned (.bool b)) HS.out.symm,rfl⟩
 ·have l33 : decide (33 ≤ c) = true := decide_eq_true (by omega)
  have l58 : decide (58 ≤ c) = true := decide_eq_true (by omega)
  have l91 : decide (91 ≤ c) = false := decide_eq_false (by omega)
  have l123 : decide (123 ≤ c) = false := decide_eq_false (by omega)
  have u47 : decide (c ≤ 47) = false := decide_eq_false (by omega)
  have u64 : decide (c ≤ 64) = false := decide_eq_false (by omega)
  have u96 : decide (c ≤ 96) = true := decide_eq_true (by omega)
  have u126 : decide (c ≤ 126) = true := decide_eq_true (by omega)
  have HS := Hd (show signI c = false by unfold signI;rw [l33,l58,l91,l123,u47,u64,u96,u126];rfl)
  clear hc
  go_wp2
  go_ret
  exact ⟨congrArg (fun b => Ending.returned (.bool b)) HS.out.symm,rfl⟩
 ·have l33 : decide (33 ≤ c) = true := decide_eq_true (by omega)
  have l58 : decide (58 ≤ c) = true := decide_eq_true (by omega)
  have l91 : decide (91 ≤ c) = true := decide_eq_true (by omega)
  have l123 : decide (123 ≤ c) = false := decide_eq_false (by omega)
  have u47 : decide (c ≤ 47) = false := decide_eq_false (by omega)
  have u64 : decide (c ≤ 64) = false := decide_eq_false (by omega)
  have u96 : decide (c ≤ 96) = true := decide_eq_true (by omega)
  have u126 : decide (c ≤ 126) = true := decide_eq_true (by omega)
  have HS := Hd (show signI c = true by unfold signI;rw [l33,l58,l91,l123,u47,u64,u96,u126];rfl)
  clear hc
  go_wp2
  go_ret
  exact ⟨congrArg (fun b => Ending.returned (.bool b)) HS.out.symm,rfl⟩
 ·have l33 : decide (33 ≤ c) = true := decide_eq_true (by omega)
  have l58 : decide (58 ≤ c) = true := decide_eq_true (by omega)
  have l91 : decide (91 ≤ c) = true := decide_eq_true (by omega)
  have l123 : decide (123 ≤ c) = false := decide_eq_false (by omega)
  have u47 : decide (c ≤ 47) = false := decide_eq_false (by omega)
  have u64 : decide (c ≤ 64) = false := decide_eq_false (by omega)
  have u96 : decide (c ≤ 96) = false := decide_eq_false (by omega)
  have u126 : decide (c ≤ 126) = true := decide_eq_true (by omega)
  have HS := Hd (show signI c = false by unfold signI;rw [l33,l58,l91,l123,u47,u64,u96,u126];rfl)
  clear hc
  go_wp2
  go_ret
  exact ⟨congrArg (fun b => Ending.returned (.bool b)) HS.out.symm,rfl⟩
 ·have l33 : decide (33 ≤ c) = true := decide_eq_true (by omega)
  have l58 : decide (58 ≤ c) = true := decide_eq_true (by omega)
  have l91 : decide (91 ≤ c) = true := decide_eq_true (by omega)
  have l123 : decide (123 ≤ c) = true := decide_eq_true (by omega)
  have u47 : decide (c ≤ 47) = false := decide_eq_false (by omega)
  have u64 : decide (c ≤ 64) = false := decide_eq_false (by omega)
  have u96 : decide (c ≤ 96) = false := decide_eq_false (by omega)
  have u126 : decide (c ≤ 126) = true := decide_eq_true (by omega)
  have HS := Hd (show signI c = true by unfold signI;rw [l33,l58,l91,l123,u47,u64,u96,u126];rfl)
  clear hc
  go_wp2
  go_ret
  exact ⟨congrArg (fun b => Ending.returned (.bool b)) HS.out.symm,rfl⟩
 ·have l33 : decide (33 ≤ c) = true := decide_eq_true (by omega)
  have l58 : decide (58 ≤ c) = true := decide_eq_true (by omega)
  have l91 : decide (91 ≤ c) = true := decide_eq_true (by omega)
  have l123 : decide (123 ≤ c) = true := decide_eq_true (by omega)
  have u47 : decide (c ≤ 47) = false := decide_eq_false (by omega)
  have u64 : decide (c ≤ 64) = false := decide_eq_false (by omega)
  have u96 : decide (c ≤ 96) = false := decide_eq_false (by omega)
  have u126 : decide (c ≤ 126) = false := decide_eq_false (by omega)
  have HS := Hd (show signI c = false by unfold signI;rw [l33,l58,l91,l123,u47,u64,u96,u126];rfl)
  clear hc
  go_wp2
  go_ret
  exact ⟨congrArg (fun b => Ending.returned (.bool b)) HS.out.symm,rfl⟩
def oneP (c : Int) : Int × Bool := if 0 ≤ letterI c then (letterI c,true) else (c,signI c)
theorem pone_any (c : Int) (w : World) : Calls Tryz.prog 112 #[.int .i32 c] w fun e w' => e = .returned (.tuple #[.int .i32 (oneP c).1,.bool (oneP c).2]) ∧ w' = w := by
 go_enter Tryz.func112,Tryz.ntmps112
 by_cases h0 : c = 97
 ·subst h0
  go_wp2_with fail
  go_ret2
  exact ⟨rfl,rfl⟩
 have g0 := eq_false_of h0
 by_cases h1 : c = 102
 ·subst h1
  go_wp2_with fail
  go_ret2
  exact ⟨rfl,rfl⟩
 have g1 := eq_false_of h1
 by_cases h2 : c = 110
 ·subst h2
  go_wp2_with fail
  go_ret2
  exact ⟨rfl,rfl⟩
 have g2 := eq_false_of h2
 by_cases h3 : c = 114
 ·subst h3
  go_wp2_with fail
  go_ret2
  exact ⟨rfl,rfl⟩
 have g3 := eq_false_of h3
 by_cases h4 : c = 116
 ·subst h4
  go_wp2_with fail
  go_ret2
  exact ⟨rfl,rfl⟩
 have g4 := eq_false_of h4
 by_cases h5 : c = 118
 ·subst h5
  go_wp2_with fail
  go_ret2
  exact ⟨rfl,rfl⟩
 have g5 := eq_false_of h5
 have HD := Hd (show oneP c = (c,signI c) by unfold oneP letterI;rw [if_neg h0,if_neg h1,if_neg h2,if_neg h3,if_neg h4,if_neg h5];rfl)
 have HS := Hd (psign_any c w)
 obtain ⟨v,hv⟩ : ∃ v,signI c = v := ⟨_,rfl⟩
 rw [hv] at HS HD
 clear h0 h1 h2 h3 h4 h5 hv
 go_wp2_with fail
 refine HS.out.mono ?_
 rintro e w1 ⟨rfl,rfl⟩
 go_wp2_with fail
 go_ret2
 rw [HD.out]
 exact ⟨rfl,rfl⟩
theorem ptimes_any (q : Nat) (t : TypeId) (r : List Value) (s : ByteArray) (i : Nat) (w : World) (hs : s.size ≤ 4503599627370496) (hi : i ≤ s.size) (h : RdIn w q t r s i) :
  Calls Tryz.prog 100 #[.pointer (some ⟨q,0,none⟩)] w fun e w' => e = .returned (.tuple #[.int .i64 (digsFrom (leftB s i) 0).1,.bool (decide (0 < (digsFrom (leftB s i) 0).2))]) ∧ Took q t r s (i + (digsFrom (leftB s i) 0).2) w w' := by
 have hN := fun W hW => pnums_any q t r s 10 1000 s.size i W hs hs (by decide) (by decide) (by decide) (by decide) hi hW
 have he := nums_digs (leftB s i) s.size 0 (by rw [left_length];omega)
 rw [show (1000 : Int) + 1 = 1001 from rfl,he] at hN
 obtain ⟨⟨a,k⟩,ha⟩ : ∃ o,digsFrom (leftB s i) 0 = o := ⟨_,rfl⟩
 rw [ha] at hN ⊢
 dsimp only
 have HN : Hid (∀ W,RdIn W q t r s i → Calls Tryz.prog 109 #[.pointer (some ⟨q,0,none⟩),.int .i64 10,.int .i64 (s.size : Int),.int .i64 1000] W (NumsPost q t r s i (a,k) W)) := Hd hN
 have HH := Hd h
 have c0 := h.c0
 clear h hN he ha
 go_enter Tryz.func100,Tryz.ntmps100
 go_wp2_with fail
 go_region_with (go_at_call 109;refine (HN.out _ (HH.out.drewN _)).mono ?_;rintro e w2 ⟨rfl,ht2⟩;have HT := Hd ht2;clear ht2)
 all_goals
  go_wp2_with fail
  go_ret2
  exact ⟨rfl,tk_trans (tk_drewN _ _ _) HT.out.1,HT.out.2⟩
def HexPost (q : Nat) (t : TypeId) (r : List Value) (s : ByteArray) (i : Nat) (o : Option (Int × Nat)) (w : World) (e : Ending) (w' : World) : Prop :=
 (∃ v k,o = some (v,k) ∧ e = .returned (.tuple #[.int .i32 v,.bool true]) ∧ Took q t r s k w w') ∨ (o = none ∧ ∃ v k,k ≤ s.size ∧ e = .returned (.tuple #[.int .i32 v,.bool false]) ∧ Took q t r s k w w')
theorem ptake_yes (q : Nat) (t : TypeId) (r : List Value) (s : ByteArray) (c : UInt8) (i : Nat) (w : World) (hs : s.size ≤ 4503599627370496) (hi : i ≤ s.size) (h : RdIn w q t r s i) (n : Int) (hn : (c.toNat : Int) = n) (hc : headI (leftB s i) = n) :
  Calls Tryz.prog 81 #[.pointer (some ⟨q,0,none⟩),.string ⟨#[c]⟩] w fun e w' => e = .returned (.bool true) ∧ Took q t r s (i + 1) w w' := by
 refine (ptake_any q t r s ⟨#[c]⟩ i w hs (show (1 : Nat) ≤ 100 by decide) hi h).mono ?_
 rintro e w1 ⟨b,hb,rfl,ht⟩
 rw [show (⟨#[c]⟩ : ByteArray).toList = [c] from by rw [Lib.toList_data],pre_one,decide_eq_true (hc.trans hn.symm)] at hb
 subst hb
 exact ⟨rfl,ht⟩
theorem ptake_no (q : Nat) (t : TypeId) (r : List Value) (s : ByteArray) (c : UInt8) (i : Nat) (w : World) (hs : s.size ≤ 4503599627370496) (hi : i ≤ s.size) (h : RdIn w q t r s i) (n : Int) (hn : (c.toNat : Int) = n) (hc : ¬ headI (leftB s i) = n) :
  Calls Tryz.prog 81 #[.pointer (some ⟨q,0,none⟩),.string ⟨#[c]⟩] w fun e w' => e = .returned (.bool false) ∧ Took q t r s i w w' := by
 refine (ptake_any q t r s ⟨#[c]⟩ i w hs (show (1 : Nat) ≤ 100 by decide) hi h).mono ?_
 rintro e w1 ⟨b,hb,rfl,ht⟩
 rw [show (⟨#[c]⟩ : ByteArray).toList = [c] from by rw [Lib.toList_data],pre_one,decide_eq_false (fun e => hc (e.trans hn))] at hb
 subst hb
 exact ⟨rfl,ht⟩
theorem hexs_cap : ∀ (l : List UInt8) (n : Int),n ≤ 1114112 → (hexsFrom l n).1 ≤ 1114112
 | [],n,h => h
 | c :: t,n,h => by
  unfold hexsFrom
  split
  ·exact hexs_cap t _ (by omega)
  ·exact h
theorem two_cases (s : ByteArray) (i : Nat) (hi : i ≤ s.size) (h123 : ¬ headI (leftB s i) = 123) : ∃ (v : Int) (k : Nat),numsFrom 16 1114112 (leftB s i) 2 0 = (v,k) ∧ 0 ≤ v ∧ v ≤ 255 ∧ i + k ≤ s.size ∧ ((k = 2 ∧ numberS s i = some (v,i + k)) ∨ (¬ k = 2 ∧ numberS s i = none)) := by
 rw [nums_two]
 by_cases h0 : 0 ≤ hexI (headI (leftB s i))
 ·have hlt : i < s.size := by
   refine Nat.lt_of_not_le fun hn => ?_
   rw [head_end s i hn] at h0
   exact absurd h0 (by decide)
  have a1 := hexI_hi (headI (leftB s i))
  rw [if_pos h0]
  by_cases h1 : 0 ≤ hexI (headI (leftB s (i + 1)))
  ·have hlt1 : i + 1 < s.size := by
    refine Nat.lt_of_not_le fun hn => ?_
    rw [head_end s (i + 1) hn] at h1
    exact absurd h1 (by decide)
   have a2 := hexI_hi (headI (leftB s (i + 1)))
   rw [if_pos h1]
   exact ⟨_,2,rfl,by omega,by omega,by omega,.inl ⟨rfl,by unfold numberS;rw [if_pos ⟨h0,h1⟩]⟩⟩
  ·rw [if_neg h1]
   exact ⟨_,1,rfl,by omega,by omega,by omega,.inr ⟨by decide,(numberS_neg (fun h => h1 h.2)).trans (if_pos h123)⟩⟩
 ·rw [if_neg h0]
  exact ⟨_,0,rfl,by decide,by decide,hi,.inr ⟨by decide,(numberS_neg (fun h => h0 h.1)).trans (if_pos h123)⟩⟩
theorem phex_any (q : Nat) (t : TypeId) (r : List Value) (s : ByteArray) (i : Nat) (w : World) (hs : s.size ≤ 4503599627370496) (hi : i ≤ s.size) (h : RdIn w q t r s i) :
  Calls Tryz.prog 88 #[.pointer (some ⟨q,0,none⟩)] w (HexPost q t r s i (numberS s i) w) := by
 obtain ⟨O,hO⟩ : ∃ O,numberS s i = O := ⟨_,rfl⟩
 rw [hO]
 unfold HexPost
 by_cases h123 : headI (leftB s i) = 123
 ·have HP := Hd (ptake_yes q t r s 123 i w hs hi h 123 rfl h123)
  have hlt : i < s.size := head_in (by omega)
  have hO2 := hO.symm.trans ((numberS_neg (fun h => by have := h.1;rw [h123] at this;exact absurd this (by decide))).trans (if_neg (fun h => h h123)))
  have hN := fun W hW => pnums_any q t r s 16 1114111 s.size (i + 1) W hs hs (by decide) (by decide) (by decide) (by decide) hlt hW
  have he := nums_hexs (leftB s (i + 1)) s.size 0 (by rw [left_length];omega)
  have hlow := hexs_low (leftB s (i + 1)) 0 (by decide)
  have hfit := hexs_fit (leftB s (i + 1)) 0
  have hcap := hexs_cap (leftB s (i + 1)) 0 (by decide)
  rw [left_length] at hfit
  rw [show (1114111 : Int) + 1 = 1114112 from rfl,he] at hN
  obtain ⟨⟨a,k⟩,ha⟩ : ∃ o,hexsFrom (leftB s (i + 1)) 0 = o := ⟨_,rfl⟩
  rw [ha] at hN hO2 hlow hfit hcap
  dsimp only at hO2 hlow hfit hcap
  obtain ⟨j,hj⟩ : ∃ j,i + 1 + k = j := ⟨_,rfl⟩
  have hjs : j ≤ s.size := by omega
  have HN : Hid (∀ W,RdIn W q t r s (i + 1) → Calls Tryz.prog 109 #[.pointer (some ⟨q,0,none⟩),.int .i64 16,.int .i64 (s.size : Int),.int .i64 1114111] W (NumsPost q t r s (i + 1) (a,k) W)) := Hd hN
  rw [hj] at hO2
  have HJ := Hd hj;have HO := Hd hO2
  have hw1 : IntKind.i32.wrap a = a := wrap_in32 _ (by omega)
  clear h hN he ha hj hO hO2 h123
  go_enter Tryz.func88,Tryz.ntmps88
  go_wp2_with fail
  refine HP.out.mono ?_
  rintro e w1 ⟨rfl,ht1⟩
  have HT1 := Hd ht1
  have c0 := ht1.2.c0
  clear ht1
  go_wp2_with fail
  go_region_with (go_at_call 109;refine (HN.out _ (HT1.out.2.drewN _)).mono ?_;rintro e w2 ⟨rfl,ht2⟩;have HT := Hd (show Took q t r s j w w2 from ⟨tk_trans HT1.out.1 (tk_trans (tk_drewN _ _ _) ht2.1),HJ.out ▸ ht2.2⟩);clear ht2 c0)
  all_goals
   by_cases hk : k = 0
   ·have HO2 := Hd (HO.out.trans (if_pos hk))
    subst hk
    go_wp2_with fail
    go_ret2
    exact .inr ⟨HO2.out,a,j,hjs,rfl,HT.out⟩
   have hk0 : (0 : Int) < (k : Int) := by omega
   have HO2 := Hd (HO.out.trans (if_neg hk))
   clear hk
   by_cases ha : a ≤ 1114111
   ·by_cases h125 : headI (leftB s j) = 125
    ·have HO3 := Hd ((HO2.out.trans (if_neg (fun h => h h125))).trans (if_neg (by omega)))
     have HP2 := Hd (ptake_yes q t r s 125 j _ hs hjs HT.out.2 125 rfl h125)
     clear h125
     go_wp2_with fail
     refine HP2.out.mono ?_
     rintro e w3 ⟨rfl,ht3⟩
     have HT3 := Hd (HT.out.trans ht3)
     clear ht3
     go_wp2_with fail
     go_ret2
     exact .inl ⟨a,j + 1,HO3.out,rfl,HT3.out⟩
    ·have HO3 := Hd (HO2.out.trans (if_pos h125))
     have HP2 := Hd (ptake_no q t r s 125 j _ hs hjs HT.out.2 125 rfl h125)
     clear h125
     go_wp2_with fail
     refine HP2.out.mono ?_
     rintro e w3 ⟨rfl,ht3⟩
     have HT3 := Hd (HT.out.trans ht3)
     clear ht3
     go_wp2_with fail
     go_ret2
     exact .inr ⟨HO3.out,a,j,hjs,rfl,HT3.out⟩
   ·have HO3 := Hd (show O = none by rw [HO2.out];split;rfl;rw [if_pos (by omega)])
    go_wp2_with fail
    go_ret2
    exact .inr ⟨HO3.out,a,j,hjs,rfl,HT.out⟩
 ·have HP := Hd (ptake_no q t r s 123 i w hs hi h 123 rfl h123)
  obtain ⟨v,k,hv,v0,v1,hk,hc⟩ := two_cases s i hi h123
  have hN := fun W hW => pnums_any q t r s 16 1114111 2 i W hs (by decide) (by decide) (by decide) (by decide) (by decide) hi hW
  rw [show (1114111 : Int) + 1 = 1114112 from rfl,hv] at hN
  have HN : Hid (∀ W,RdIn W q t r s i → Calls Tryz.prog 109 #[.pointer (some ⟨q,0,none⟩),.int .i64 16,.int .i64 2,.int .i64 1114111] W (NumsPost q t r s i (v,k) W)) := Hd hN
  rw [hO] at hc
  have HC := Hd hc
  have hw1 : IntKind.i32.wrap v = v := wrap_in32 _ (by omega)
  clear h hN hv hO h123 hc
  go_enter Tryz.func88,Tryz.ntmps88
  go_wp2_with fail
  refine HP.out.mono ?_
  rintro e w1 ⟨rfl,ht1⟩
  have HT1 := Hd ht1
  clear ht1
  go_wp2_with fail
  refine (HN.out _ HT1.out.2).mono ?_
  rintro e w2 ⟨rfl,ht2⟩
  have HT2 := Hd (HT1.out.trans ht2)
  clear ht2
  rcases HC.out with ⟨h2,ho⟩ | ⟨h2,ho⟩
  ·have HO := Hd ho
   subst h2
   clear ho HC
   go_wp2_with fail
   go_ret2
   exact .inl ⟨v,i + 2,HO.out,rfl,HT2.out⟩
  ·have HO := Hd ho
   have b0 : ((k : Int) == 2) = false := eq_false_of (by omega)
   clear ho HC h2
   go_wp2_with fail
   go_ret2
   exact .inr ⟨HO.out,v,i + k,hk,rfl,HT2.out⟩
theorem tabs_grown {w w' : World} {q : Nat} (hT : Lib.Utf8Tabs 0 1 w) (hg : w.grownBy w' (some q)) (h3 : q ≠ 0) (h4 : q ≠ 1) : Lib.Utf8Tabs 0 1 w' := by
 have l3 : 0 < w.heap.size := World.block_lt_of_cell? w ⟨_,0,none⟩ (hT.1 0 (by decide))
 have l4 : 1 < w.heap.size := World.block_lt_of_cell? w ⟨_,2 * 0,none⟩ (hT.2 0 (by decide)).1
 have e3 : ∀ c,w'.cell? ⟨0,c,none⟩ = w.cell? ⟨0,c,none⟩ := fun c => World.cell?_of_block (hg.block _ l3 (fun e => h3 (Option.some.inj e).symm))
 have e4 : ∀ c,w'.cell? ⟨1,c,none⟩ = w.cell? ⟨1,c,none⟩ := fun c => World.cell?_of_block (hg.block _ l4 (fun e => h4 (Option.some.inj e).symm))
 exact ⟨fun c hc => (e3 c).trans (hT.1 c hc),fun i hi => ⟨(e4 _).trans (hT.2 i hi).1,(e4 _).trans (hT.2 i hi).2⟩⟩
def PropTook (q : Nat) (t : TypeId) (r : List Value) (s : ByteArray) (i : Nat) (o : Option (List UInt8 × Nat)) (w : World) (e : Ending) (w' : World) : Prop :=
 (∃ n k b,o = some (n,k) ∧ b.toList = n ∧ k ≤ s.size ∧ e = .returned (.tuple #[.string b,.bool true]) ∧ Took q t r s k w w') ∨ (o = none ∧ ∃ b k,k ≤ s.size ∧ e = .returned (.tuple #[.string b,.bool false]) ∧ Took q t r s k w w')
theorem pprop6_any (q : Nat) (t : TypeId) (r : List Value) (s : ByteArray) (i : Nat) (w : World) (hs : s.size ≤ 4503599627370496) (hi : i ≤ s.size) (h : RdIn w q t r s i) (hT : Lib.Utf8Tabs 0 1 w) (hq3 : q ≠ 0) (hq4 : q ≠ 1) :
  Calls Tryz.prog 89 #[.pointer (some ⟨q,0,none⟩)] w (PropTook q t r s i (propS s i) w) := by
 obtain ⟨O,hO⟩ : ∃ O,propS s i = O := ⟨_,rfl⟩
 rw [hO]
 unfold PropTook
 by_cases h123 : headI (leftB s i) = 123
 ·have HP := Hd (ptake_yes q t r s 123 i w hs hi h 123 rfl h123)
  have hlt : i < s.size := head_in (by omega)
  have hO2 : O = if i + 1 + brN (leftB s (i + 1)) < s.size then some ((leftB s (i + 1)).take (brN (leftB s (i + 1))),i + 1 + brN (leftB s (i + 1)) + 1) else none := by
   rw [← hO]
   unfold propS
   rw [if_neg (by omega),if_neg (fun h => h h123)]
  rw [toN_br] at hO2
  have hB : ∀ W,RdIn W q t r s (i + 1) → Calls Tryz.prog 101 #[.pointer (some ⟨q,0,none⟩),.string ⟨#[125]⟩] W (ToPost q t r s 125 (i + 1) W) := fun W hW => ptakeTo_any q t r s 125 (i + 1) W hs hlt hW
  unfold ToPost at hB
  obtain ⟨k,hk⟩ : ∃ k,toN 125 (leftB s (i + 1)) = k := ⟨_,rfl⟩
  rw [hk] at hO2 hB
  have HB : Hid (∀ W,RdIn W q t r s (i + 1) → Calls Tryz.prog 101 #[.pointer (some ⟨q,0,none⟩),.string ⟨#[125]⟩] W _) := Hd hB
  have HO := Hd hO2
  clear h hO hO2 hB h123 hk hT
  go_enter Tryz.func89,Tryz.ntmps89
  go_wp2_with fail
  refine HP.out.mono ?_
  rintro e w1 ⟨rfl,ht1⟩
  have HT1 := Hd ht1
  clear ht1
  go_wp2_with fail
  refine (HB.out _ HT1.out.2).mono ?_
  rintro e w2 ⟨b,rfl,hb,ht2⟩
  have HT2 := Hd (HT1.out.trans ht2);have HBB := Hd hb
  clear ht2 hb HB
  by_cases hlk : i + 1 + k < s.size
  ·have HO2 := Hd (HO.out.trans (if_pos hlk))
   rw [decide_eq_true hlk]
   go_wp2_with fail
   go_ret2
   refine .inl ⟨_,_,b,HO2.out,HBB.out,by omega,rfl,?_⟩
   rw [show i + 1 + k + 1 = min (i + 1 + k + 1) s.size by omega]
   exact HT2.out
  ·have HO2 := Hd (HO.out.trans (if_neg hlk))
   rw [decide_eq_false hlk]
   go_wp2_with fail
   go_ret2
   exact .inr ⟨HO2.out,b,_,Nat.min_le_right _ _,rfl,HT2.out⟩
 ·have HP := Hd (ptake_no q t r s 123 i w hs hi h 123 rfl h123)
  have hR : ∀ W,RdIn W q t r s i → Lib.Utf8Tabs 0 1 W → Calls Tryz.prog 83 #[.pointer (some ⟨q,0,none⟩)] W (RunePost q t r s i W) := fun W hW hTW => ptakeRune_any q t r s i W hs hi hW hTW
  have hO2 : O = if 0 < (runeP s i).2 then some ((leftB s i).take (runeP s i).2,i + (runeP s i).2) else none := by
   rw [← hO]
   unfold propS runeP
   by_cases hlt : i < s.size
   ·rw [if_neg (by omega),if_pos h123,if_pos hlt,if_pos (decode_some s i hlt)]
   ·rw [if_pos (by omega),if_neg hlt,if_neg (by simp)]
  have hf := runeP_fit hi
  unfold RunePost at hR
  obtain ⟨⟨c,n⟩,hr⟩ : ∃ x,runeP s i = x := ⟨_,rfl⟩
  rw [hr] at hR hO2 hf
  dsimp only at hR hO2 hf
  have HR := Hd hR;have HO := Hd hO2;have HT := Hd hT
  have hij : i ≤ s.size := hi
  clear h hO hO2 hR h123 hr hT
  go_enter Tryz.func89,Tryz.ntmps89
  go_wp2_with fail
  refine HP.out.mono ?_
  rintro e w1 ⟨rfl,ht1⟩
  have HT1 := Hd ht1
  have c1 := ht1.2.c1
  clear ht1
  go_wp2_with fail
  refine (HR.out _ HT1.out.2 (tabs_grown HT.out HT1.out.1 hq3 hq4)).mono ?_
  rintro e w2 ⟨rfl,ht2⟩
  have HT2 := Hd (HT1.out.trans ht2)
  have d0 := ht2.2.c0;have d1 := ht2.2.c1
  have y1 : (i : Int) ≤ (i : Int) + (n : Int) := by omega
  have y2 : (i : Int) + (n : Int) ≤ (s.size : Int) := by omega
  have y3 : ((i : Int) + (n : Int)).toNat = i + n := by omega
  have y4 : (0 : Int) ≤ (i : Int) + (n : Int) := by omega
  clear ht2 c1
  go_wp2_with fail
  go_region
  go_wp2_with fail
  go_ret2
  by_cases hn : 0 < n
  ·rw [decide_eq_true hn]
   refine .inl ⟨_,_,s.extract i (i + n),HO.out.trans (if_pos hn),?_,hf,rfl,tk_trans HT2.out.1 (tk_drewN _ 1 _),HT2.out.2.drewN 1⟩
   rw [extract_left6,show i + n - i = n by omega]
  ·rw [decide_eq_false hn]
   exact .inr ⟨HO.out.trans (if_neg hn),_,_,hf,rfl,tk_trans HT2.out.1 (tk_drewN _ 1 _),HT2.out.2.drewN 1⟩
theorem ofInt_wrap6 (n : Int) : BitVec.ofInt 64 (IntKind.i64.wrap n) = BitVec.ofInt 64 n := by
 apply BitVec.eq_of_toNat_eq
 rw [BitVec.toNat_ofInt,BitVec.toNat_ofInt]
 unfold IntKind.wrap
 simp only [IntKind.bits,IntKind.signed]
 congr 1
 try omega
theorem or_is (f g : Int) : bits .or .i64 f g = IntKind.i64.wrap ((BitVec.ofInt 64 f ||| BitVec.ofInt 64 g).toNat : Int) := rfl
theorem andNot_is (f g : Int) : bits .andNot .i64 f g = IntKind.i64.wrap ((BitVec.ofInt 64 f &&& ~~~ BitVec.ofInt 64 g).toNat : Int) := rfl
theorem ofInt_or (f g : Int) : BitVec.ofInt 64 (bits .or .i64 f g) = BitVec.ofInt 64 f ||| BitVec.ofInt 64 g := by
 rw [or_is,ofInt_wrap6,BitVec.ofInt_natCast,BitVec.ofNat_toNat,BitVec.setWidth_eq]
theorem ofInt_andNot (f g : Int) : BitVec.ofInt 64 (bits .andNot .i64 f g) = BitVec.ofInt 64 f &&& ~~~ BitVec.ofInt 64 g := by
 rw [andNot_is,ofInt_wrap6,BitVec.ofInt_natCast,BitVec.ofNat_toNat,BitVec.setWidth_eq]
theorem or_or (f n g : Int) : bits .or .i64 (bits .or .i64 f n) g = bits .or .i64 f (bits .or .i64 n g) := by
 rw [or_is,ofInt_or,or_is f,ofInt_or,BitVec.or_assoc]
theorem not_not (f n g : Int) : bits .andNot .i64 (bits .andNot .i64 f n) g = bits .andNot .i64 f (bits .or .i64 n g) := by
 rw [andNot_is,ofInt_andNot,andNot_is f,ofInt_or]
 congr 3
 apply BitVec.eq_of_getLsbD_eq
 intro i hi
 simp only [BitVec.getLsbD_and,BitVec.getLsbD_not,BitVec.getLsbD_or,hi,decide_true,Bool.true_and]
 cases (BitVec.ofInt 64 f).getLsbD i <;> cases (BitVec.ofInt 64 n).getLsbD i <;> cases (BitVec.ofInt 64 g).getLsbD i <;> rfl
def In64 (x : Int) : Prop := -9223372036854775808 ≤ x ∧ x ≤ 9223372036854775807
theorem wrap_back (f : Int) (h : In64 f) : IntKind.i64.wrap ((BitVec.ofInt 64 f).toNat : Int) = f := by
 rw [BitVec.toNat_ofInt]
 unfold In64 at h
 unfold IntKind.wrap
 simp only [IntKind.bits,IntKind.signed]
 simp
 omega
theorem or_zero (f : Int) (h : In64 f) : bits .or .i64 f 0 = f := by
 rw [or_is,show BitVec.ofInt 64 0 = 0#64 from rfl,BitVec.or_zero,wrap_back f h]
theorem not_zero (f : Int) (h : In64 f) : bits .andNot .i64 f 0 = f := by
 rw [andNot_is,show BitVec.ofInt 64 0 = 0#64 from rfl,BitVec.not_zero,BitVec.and_allOnes,wrap_back f h]
def letsFrom : List UInt8 → Int → Int × Nat
 | [],n => (n,0)
 | c :: t,n => if flagI c.toNat = 0 then (n,0) else ((letsFrom t (bits .or .i64 n (flagI c.toNat))).1,(letsFrom t (bits .or .i64 n (flagI c.toNat))).2 + 1)
theorem lets_fit : ∀ (l : List UInt8) (n : Int),(letsFrom l n).2 ≤ l.length
 | [],n => Nat.le_refl _
 | c :: t,n => by
  unfold letsFrom
  split
  ·exact Nat.zero_le _
  ·have := lets_fit t (bits .or .i64 n (flagI c.toNat))
   simp only [List.length_cons]
   omega
theorem lets_stop : ∀ (l : List UInt8) (n : Int) (c : UInt8) (t : List UInt8),l.drop (letsFrom l n).2 = c :: t → flagI c.toNat = 0
 | [],n,c,t,h => by simp [letsFrom] at h
 | b :: l,n,c,t,h => by
  unfold letsFrom at h
  by_cases hb : flagI b.toNat = 0
  ·rw [if_pos hb] at h
   simp only [List.drop_zero] at h
   rw [← List.head_eq_of_cons_eq h]
   exact hb
  ·rw [if_neg hb] at h
   simp only [List.drop_succ_cons] at h
   exact lets_stop l _ c t h
theorem onto_flags : ∀ (l : List UInt8) (f n : Int) (more : Bool),flagsFrom l (bits .or .i64 f n) false more =
  ((flagsFrom (l.drop (letsFrom l n).2) (bits .or .i64 f (letsFrom l n).1) false more).1,(flagsFrom (l.drop (letsFrom l n).2) (bits .or .i64 f (letsFrom l n).1) false more).2 + (letsFrom l n).2)
 | [],f,n,more => rfl
 | c :: t,f,n,more => by
  by_cases hc : flagI c.toNat = 0
  ·rw [show letsFrom (c :: t) n = (n,0) by unfold letsFrom;rw [if_pos hc]]
   simp only [List.drop_zero,Nat.add_zero]
  ·rw [show letsFrom (c :: t) n = ((letsFrom t (bits .or .i64 n (flagI c.toNat))).1,(letsFrom t (bits .or .i64 n (flagI c.toNat))).2 + 1) by rw [letsFrom,if_neg hc]]
   rw [flagsFrom,if_pos hc]
   simp only [Bool.false_eq_true,if_false,Bool.or_false,List.drop_succ_cons]
   rw [or_or,onto_flags t f (bits .or .i64 n (flagI c.toNat)) more]
   refine Prod.ext rfl ?_
   dsimp only
   omega
theorem off_flags : ∀ (l : List UInt8) (f n : Int) (more : Bool),flagsFrom l (bits .andNot .i64 f n) true more =
  ((flagsFrom (l.drop (letsFrom l n).2) (bits .andNot .i64 f (letsFrom l n).1) true (more || decide (0 < (letsFrom l n).2))).1,(flagsFrom (l.drop (letsFrom l n).2) (bits .andNot .i64 f (letsFrom l n).1) true (more || decide (0 < (letsFrom l n).2))).2 + (letsFrom l n).2)
 | [],f,n,more => by
  rw [show letsFrom [] n = (n,0) from rfl]
  rfl
 | c :: t,f,n,more => by
  by_cases hc : flagI c.toNat = 0
  ·rw [show letsFrom (c :: t) n = (n,0) by unfold letsFrom;rw [if_pos hc]]
   simp only [List.drop_zero,Nat.add_zero,Nat.lt_irrefl,decide_false,Bool.or_false]
  ·rw [show letsFrom (c :: t) n = ((letsFrom t (bits .or .i64 n (flagI c.toNat))).1,(letsFrom t (bits .or .i64 n (flagI c.toNat))).2 + 1) by rw [letsFrom,if_neg hc]]
   rw [flagsFrom,if_pos hc]
   simp only [if_true,Bool.or_true,List.drop_succ_cons,Nat.zero_lt_succ,decide_true]
   rw [not_not,off_flags t f (bits .or .i64 n (flagI c.toNat)) true]
   refine Prod.ext ?_ ?_
   ·simp only [Bool.true_or]
   ·simp only [Bool.true_or]
    omega
theorem lets_some (l : List UInt8) (h : 0 < (letsFrom l 0).2) : ¬ (letsFrom l 0).1 = 0 := by
 have key : ∀ (l : List UInt8) (n : Int) (k : Nat),k < 64 → (BitVec.ofInt 64 n).getLsbD k = true → (BitVec.ofInt 64 (letsFrom l n).1).getLsbD k = true := fun l => by
  induction l with
  | nil => intro n k hk h;exact h
  | cons c t ih =>
   intro n k hk h
   unfold letsFrom
   split
   ·exact h
   ·refine ih _ k hk ?_
    rw [ofInt_or,BitVec.getLsbD_or,h,Bool.true_or]
 cases l with
 | nil => simp [letsFrom] at h
 | cons c t =>
  unfold letsFrom at h ⊢
  by_cases hc : flagI c.toNat = 0
  ·rw [if_pos hc] at h
   simp at h
  ·rw [if_neg hc]
   dsimp only
   have hf : flagI (c.toNat : Int) = 1 ∨ flagI (c.toNat : Int) = 4 ∨ flagI (c.toNat : Int) = 8 ∨ flagI (c.toNat : Int) = 16 := by
    revert hc
    unfold flagI
    repeat' split
    all_goals simp
   intro h0
   have hz : ∀ k,k < 64 → (BitVec.ofInt 64 (letsFrom t (bits .or .i64 0 (flagI c.toNat))).1).getLsbD k = true → False := fun k hk h => by
    rw [h0] at h
    simp at h
   rcases hf with hf | hf | hf | hf <;> rw [hf] at hz
   ·exact hz 0 (by decide) (key _ _ 0 (by decide) (by rw [ofInt_or];decide))
   ·exact hz 2 (by decide) (key _ _ 2 (by decide) (by rw [ofInt_or];decide))
   ·exact hz 3 (by decide) (key _ _ 3 (by decide) (by rw [ofInt_or];decide))
   ·exact hz 4 (by decide) (key _ _ 4 (by decide) (by rw [ofInt_or];decide))
theorem lets_none {l : List UInt8} (h : (letsFrom l 0).2 = 0) : (letsFrom l 0).1 = 0 := by
 cases l with
 | nil => rfl
 | cons c t =>
  unfold letsFrom at h ⊢
  by_cases hc : flagI c.toNat = 0
  ·rw [if_pos hc]
  ·rw [if_neg hc] at h
   simp at h
def LetsPost (q : Nat) (t : TypeId) (r : List Value) (s : ByteArray) (i : Nat) (o : Int × Nat) (w : World) (e : Ending) (w' : World) : Prop :=
 e = .returned (.int .i64 o.1) ∧ Took q t r s (i + o.2) w w'
def cellN (w : World) (q : Nat) : Nat := (intOf ((w.cell? ⟨q,1,none⟩).getD undef)).toNat
theorem cellN_of {w : World} {q : Nat} {t : TypeId} {r : List Value} {s : ByteArray} {j : Nat} (h : RdIn w q t r s j) : cellN w q = j := by
 unfold cellN
 rw [h.c1]
 simp [intOf]
theorem plets_any (q : Nat) (t : TypeId) (r : List Value) (s : ByteArray) (i : Nat) (w : World) (hs : s.size ≤ 4503599627370496) (hi : i ≤ s.size) (h : RdIn w q t r s i) :
  Calls Tryz.prog 82 #[.pointer (some ⟨q,0,none⟩)] w (LetsPost q t r s i (letsFrom (leftB s i) 0) w) := by
 have HH := Hd h
 clear h
 unfold LetsPost
 go_enter Tryz.func82,Tryz.ntmps82
 go_wp2_with fail
 go_loopw [3] (fun vn wr => ∃ (j k : Nat) (n : Int),i + k = j ∧ j ≤ s.size ∧ vn = .int .i64 n ∧ letsFrom (leftB s i) 0 = ((letsFrom (leftB s j) n).1,(letsFrom (leftB s j) n).2 + k) ∧ Took q t r s j w wr) (fun _ wr => s.size - cellN wr q)
 case atStart => exact ⟨i,0,0,rfl,hi,rfl,rfl,Took.none HH.out⟩
 case round =>
  obtain ⟨j,k,n,hjk,hj,rfl,hd,hT⟩ := hrel
  have HD := Hd hd;have HJ := Hd hjk;have HT := Hd hT
  have HM := Hd (cellN_of hT.2)
  clear hd hjk hT
  have hstep : ∀ (hlt : j < s.size),¬ flagI s[j].toNat = 0 → letsFrom (leftB s i) 0 = ((letsFrom (leftB s (j + 1)) (bits .or .i64 n (flagI s[j].toNat))).1,(letsFrom (leftB s (j + 1)) (bits .or .i64 n (flagI s[j].toNat))).2 + (k + 1)) := fun hlt hf => by
   rw [HD.out,left_cons s j hlt,letsFrom,if_neg hf]
   refine Prod.ext rfl ?_
   dsimp only
   omega
  have HS := Hd hstep
  clear hstep
  by_cases h0 : headI (leftB s j) = 105
  ·have hlt : j < s.size := head_in (by omega)
   have hb : (s[j].toNat : Int) = 105 := (head_at s j hlt).symm.trans h0
   have hf : flagI (s[j].toNat : Int) = 1 := by rw [hb];rfl
   have HN := Hd (HS.out hlt (by rw [hf];decide))
   rw [hf] at HN
   have HP := Hd (ptake_yes q t r s 105 j _ hs hj HT.out.2 105 rfl h0)
   clear hb hf h0
   go_wp2_with fail
   refine HP.out.mono ?_
   rintro e w9 ⟨rfl,ht9⟩
   have HT9 := Hd (HT.out.trans ht9)
   have HM9 := Hd (cellN_of ht9.2)
   clear ht9
   go_wp2
   exact ⟨⟨j + 1,k + 1,_,by have := HJ.out;omega,hlt,rfl,HN.out,HT9.out⟩,by rw [HM9.out,HM.out];omega⟩
  have HP0 := Hd (ptake_no q t r s 105 j _ hs hj HT.out.2 105 rfl h0)
  go_wp2_with fail
  refine HP0.out.mono ?_
  rintro e w0 ⟨rfl,ht0⟩
  have HT0 := Hd (HT.out.trans ht0)
  clear ht0 HP0
  by_cases h1 : headI (leftB s j) = 109
  ·have hlt : j < s.size := head_in (by omega)
   have hb : (s[j].toNat : Int) = 109 := (head_at s j hlt).symm.trans h1
   have hf : flagI (s[j].toNat : Int) = 4 := by rw [hb];rfl
   have HN := Hd (HS.out hlt (by rw [hf];decide))
   rw [hf] at HN
   have HP := Hd (ptake_yes q t r s 109 j _ hs hj HT0.out.2 109 rfl h1)
   clear hb hf h0 h1
   go_wp2_with fail
   refine HP.out.mono ?_
   rintro e w9 ⟨rfl,ht9⟩
   have HT9 := Hd (HT0.out.trans ht9)
   have HM9 := Hd (cellN_of ht9.2)
   clear ht9
   go_wp2
   exact ⟨⟨j + 1,k + 1,_,by have := HJ.out;omega,hlt,rfl,HN.out,HT9.out⟩,by rw [HM9.out,HM.out];omega⟩
  have HP1 := Hd (ptake_no q t r s 109 j _ hs hj HT0.out.2 109 rfl h1)
  go_wp2_with fail
  refine HP1.out.mono ?_
  rintro e w1 ⟨rfl,ht1⟩
  have HT1 := Hd (HT0.out.trans ht1)
  clear ht1 HP1
  by_cases h2 : headI (leftB s j) = 115
  ·have hlt : j < s.size := head_in (by omega)
   have hb : (s[j].toNat : Int) = 115 := (head_at s j hlt).symm.trans h2
   have hf : flagI (s[j].toNat : Int) = 8 := by rw [hb];rfl
   have HN := Hd (HS.out hlt (by rw [hf];decide))
   rw [hf] at HN
   have HP := Hd (ptake_yes q t r s 115 j _ hs hj HT1.out.2 115 rfl h2)
   clear hb hf h0 h1 h2
   go_wp2_with fail
   refine HP.out.mono ?_
   rintro e w9 ⟨rfl,ht9⟩
   have HT9 := Hd (HT1.out.trans ht9)
   have HM9 := Hd (cellN_of ht9.2)
   clear ht9
   go_wp2
   exact ⟨⟨j + 1,k + 1,_,by have := HJ.out;omega,hlt,rfl,HN.out,HT9.out⟩,by rw [HM9.out,HM.out];omega⟩
  have HP2 := Hd (ptake_no q t r s 115 j _ hs hj HT1.out.2 115 rfl h2)
  go_wp2_with fail
  refine HP2.out.mono ?_
  rintro e w2 ⟨rfl,ht2⟩
  have HT2 := Hd (HT1.out.trans ht2)
  clear ht2 HP2
  by_cases h3 : headI (leftB s j) = 85
  ·have hlt : j < s.size := head_in (by omega)
   have hb : (s[j].toNat : Int) = 85 := (head_at s j hlt).symm.trans h3
   have hf : flagI (s[j].toNat : Int) = 16 := by rw [hb];rfl
   have HN := Hd (HS.out hlt (by rw [hf];decide))
   rw [hf] at HN
   have HP := Hd (ptake_yes q t r s 85 j _ hs hj HT2.out.2 85 rfl h3)
   clear hb hf h0 h1 h2 h3
   go_wp2_with fail
   refine HP.out.mono ?_
   rintro e w9 ⟨rfl,ht9⟩
   have HT9 := Hd (HT2.out.trans ht9)
   have HM9 := Hd (cellN_of ht9.2)
   clear ht9
   go_wp2
   exact ⟨⟨j + 1,k + 1,_,by have := HJ.out;omega,hlt,rfl,HN.out,HT9.out⟩,by rw [HM9.out,HM.out];omega⟩
  have HP3 := Hd (ptake_no q t r s 85 j _ hs hj HT2.out.2 85 rfl h3)
  go_wp2_with fail
  refine HP3.out.mono ?_
  rintro e w3 ⟨rfl,ht3⟩
  have HT3 := Hd (HT2.out.trans ht3)
  clear ht3 HP3
  have HN := Hd (show letsFrom (leftB s j) n = (n,0) by
   by_cases hlt : j < s.size
   ·have g := head_at s j hlt
    rw [left_cons s j hlt,letsFrom,if_pos]
    unfold flagI
    rw [g] at h0 h1 h2 h3
    rw [if_neg h0,if_neg h1,if_neg h2,if_neg h3]
   ·rw [left_nil s j (by omega)]
    rfl)
  clear h0 h1 h2 h3
  go_wp2_with fail
  go_ret
  rw [HD.out,HN.out]
  exact ⟨rfl,by dsimp only;rw [Nat.zero_add,HJ.out];exact HT3.out⟩
end Go.Proofs.YthnddabcmhplkaaGreatDoor
namespace Go.Proofs.YthnddabcmhplkaaGreatDoor
open Go Go.RowKit
attribute [local go_sem] jump_ret jump_normal jump_exit jump_goto
theorem digs_first : ∀ (l : List UInt8) (n : Int),0 < (digsFrom l n).2 → ¬ headI l = 125
 | [],n,h => by simp [digsFrom] at h
 | c :: t,n,h => by
  unfold digsFrom at h
  by_cases hd : isDig c = true
  ·have := (isDig_iff c).1 hd
   show ¬ (c.toNat : Int) = 125
   omega
  ·rw [if_neg hd] at h
   simp at h
theorem pcount_any (s : ByteArray) (i : Nat) (w : World) (hs : s.size ≤ 4503599627370496) (hi : i ≤ s.size) :
  Calls Tryz.prog 77 #[.string s,.int .i64 i] w (CountPost (countS s i) w) := by
 obtain ⟨O,hO⟩ : ∃ O,countS s i = O := ⟨_,rfl⟩
 rw [hO]
 unfold CountPost
 have HO := Hd hO
 clear hO
 go_enter Tryz.func77,Tryz.ntmps77
 go_wp2_with fail
 refine wp_scope_fwd 0 rfl ?_
 go_wp2_with fail
 refine (preader_any s i _ hs hi).mono ?_
 rintro e w1 ⟨rfl,hb1⟩
 obtain ⟨w2,hw2⟩ : ∃ w2,w1.alloc (.cells #[.string s,.int .i64 i] 158) = w2 := ⟨_,rfl⟩
 have hR2 : RdIn w2 w1.heap.size 158 [] s i := by rw [← hw2];exact heap_alloc_new w1 _
 have hb2 : Below w.heap.size w w2 := by rw [← hw2];exact hb1.alloc hb1.size _
 have hq : w.heap.size ≤ w1.heap.size := hb1.size
 have HW2 := Hd hw2;have HR2 := Hd hR2;have HB2 := Hd hb2
 clear hw2 hR2 hb2 hb1
 go_upto_region 2 with (fail)
 rw [HW2.out]
 generalize w1.heap.size = q at HR2 hq ⊢
 have HQ := Hd hq;have HT2 := Hd (Took.none HR2.out)
 clear HW2 hq
 by_cases hc : headI (leftB s i) = 123
 ·have hlt : i < s.size := head_in (by omega)
  obtain ⟨⟨a,k⟩,h1⟩ : ∃ r,digsFrom (leftB s (i + 1)) 0 = r := ⟨_,rfl⟩
  obtain ⟨j,hj⟩ : ∃ j,i + 1 + k = j := ⟨_,rfl⟩
  obtain ⟨⟨b,l⟩,h2⟩ : ∃ r,digsFrom (leftB s (j + 1)) 0 = r := ⟨_,rfl⟩
  obtain ⟨m,hm⟩ : ∃ m,j + 1 + l = m := ⟨_,rfl⟩
  have HC := Hd (HO.out.symm.trans (countS_eq hc h1 hj h2 hm))
  have hjs : j ≤ s.size := by
   have := digs_fit (leftB s (i + 1)) 0
   rw [h1,left_length] at this
   simp only at this
   omega
  have H1 := Hd h1;have HJ := Hd hj;have H2 := Hd h2;have HM := Hd hm
  clear HO h1 hj h2 hm
  have HP := Hd (ptake_yes q _ _ s 123 i w2 hs hi HT2.out.2 123 rfl hc)
  clear hc
  go_wp2_with fail
  refine HP.out.mono ?_
  rintro e w3 ⟨rfl,ht3⟩
  have HT3 := Hd (HT2.out.trans ht3)
  clear ht3 HP
  have HD := Hd (ptimes_any q _ _ s (i + 1) w3 hs hlt HT3.out.2)
  rw [H1.out] at HD
  dsimp only at HD
  rw [HJ.out] at HD
  go_wp2_with fail
  refine HD.out.mono ?_
  rintro e w4 ⟨rfl,ht4⟩
  have HT4 := Hd (HT3.out.trans ht4)
  clear HD ht4
  by_cases hk : k = 0
  ·rw [show decide (0 < k) = false from decide_eq_false (by omega)]
   have HC := Hd (HC.out.trans (if_pos hk))
   clear hk
   go_wp2_with fail
   go_step3
   refine ⟨rfl,?_⟩
   go_wp2_with fail
   first | rw [jump_ret] | rw [Exit.noGoto_ret]
   refine bodyPost_ret (results_tmp4 Tryz.results77 _ _ _) rfl ?_
   exact ⟨HT4.out.below HB2.out HB2.out.size HQ.out,.inl ⟨HC.out,rfl⟩⟩
  rw [show decide (0 < k) = true from decide_eq_true (by omega)]
  replace HC := Hd (HC.out.trans (if_neg hk))
  clear hk
  by_cases hc : headI (leftB s j) = 44
  ·have hlt2 : j < s.size := head_in (by omega)
   replace HC := Hd ((HC.out.trans (if_neg (by rw [hc];decide))).trans (if_neg (fun h => h hc)))
   have HP := Hd (ptake_yes q _ _ s 44 j w4 hs hjs HT4.out.2 44 rfl hc)
   clear hc
   go_wp2_with fail
   refine HP.out.mono ?_
   rintro e w5 ⟨rfl,ht5⟩
   have HT5 := Hd (HT4.out.trans ht5)
   clear ht5 HP
   have HD := Hd (ptimes_any q _ _ s (j + 1) w5 hs hlt2 HT5.out.2)
   have hms : m ≤ s.size := by
    have := digs_fit (leftB s (j + 1)) 0
    rw [H2.out,left_length] at this
    simp only at this
    have := HM.out
    omega
   have hf := digs_first (leftB s (j + 1)) 0
   rw [H2.out] at HD hf
   dsimp only at HD hf
   rw [HM.out] at HD
   go_wp2_with fail
   refine HD.out.mono ?_
   rintro e w6 ⟨rfl,ht6⟩
   have HT6 := Hd (HT5.out.trans ht6)
   clear HD ht6
   by_cases hl : l = 0
   ·rw [show decide (0 < l) = false from decide_eq_false (by omega)]
    have hmj : m = j + 1 := by have := HM.out;omega
    subst hmj
    clear hf
    by_cases hc : headI (leftB s (j + 1)) = 125
    ·replace HC := Hd (HC.out.trans (if_pos hc))
     clear hl
     have HP := Hd (ptake_yes q _ _ s 125 (j + 1) w6 hs hms HT6.out.2 125 rfl hc)
     clear hc
     go_wp2_with fail
     refine HP.out.mono ?_
     rintro e w7 ⟨rfl,ht7⟩
     have HT7 := Hd (HT6.out.trans ht7)
     clear ht7 HP
     have c1 := HT7.out.2.c1
     go_wp2_with fail
     go_region
     go_wp2_with fail
     first | rw [jump_ret] | rw [Exit.noGoto_ret]
     refine bodyPost_ret (results_tmp4 Tryz.results77 _ _ _) rfl ?_
     exact ⟨(HT7.out.below HB2.out HB2.out.size HQ.out).drew,.inr ⟨a,-1,j + 2,HC.out,rfl⟩⟩
    ·replace HC := Hd ((HC.out.trans (if_neg hc)).trans (if_pos hl))
     clear hl
     have HP := Hd (ptake_no q _ _ s 125 (j + 1) w6 hs hms HT6.out.2 125 rfl hc)
     clear hc
     go_wp2_with fail
     refine HP.out.mono ?_
     rintro e w7 ⟨rfl,ht7⟩
     have HT7 := Hd (HT6.out.trans ht7)
     clear ht7 HP
     go_wp2_with fail
     go_step3
     refine ⟨rfl,?_⟩
     go_wp2_with fail
     first | rw [jump_ret] | rw [Exit.noGoto_ret]
     refine bodyPost_ret (results_tmp4 Tryz.results77 _ _ _) rfl ?_
     exact ⟨HT7.out.below HB2.out HB2.out.size HQ.out,.inl ⟨HC.out,rfl⟩⟩
   ·rw [show decide (0 < l) = true from decide_eq_true (by omega)]
    replace HC := Hd ((HC.out.trans (if_neg (hf (by omega)))).trans (if_neg hl))
    clear hl hf
    by_cases hc : headI (leftB s m) = 125
    ·replace HC := Hd (HC.out.trans (if_pos hc))
     have HP := Hd (ptake_yes q _ _ s 125 m w6 hs hms HT6.out.2 125 rfl hc)
     clear hc
     go_wp2_with fail
     refine HP.out.mono ?_
     rintro e w7 ⟨rfl,ht7⟩
     have HT7 := Hd (HT6.out.trans ht7)
     clear ht7 HP
     have c1 := HT7.out.2.c1
     go_wp2_with fail
     go_region
     go_wp2_with fail
     first | rw [jump_ret] | rw [Exit.noGoto_ret]
     refine bodyPost_ret (results_tmp4 Tryz.results77 _ _ _) rfl ?_
     exact ⟨(HT7.out.below HB2.out HB2.out.size HQ.out).drew,.inr ⟨a,b,m + 1,HC.out,rfl⟩⟩
    ·replace HC := Hd (HC.out.trans (if_neg hc))
     have HP := Hd (ptake_no q _ _ s 125 m w6 hs hms HT6.out.2 125 rfl hc)
     clear hc
     go_wp2_with fail
     refine HP.out.mono ?_
     rintro e w7 ⟨rfl,ht7⟩
     have HT7 := Hd (HT6.out.trans ht7)
     clear ht7 HP
     go_wp2_with fail
     go_step3
     refine ⟨rfl,?_⟩
     go_wp2_with fail
     first | rw [jump_ret] | rw [Exit.noGoto_ret]
     refine bodyPost_ret (results_tmp4 Tryz.results77 _ _ _) rfl ?_
     exact ⟨HT7.out.below HB2.out HB2.out.size HQ.out,.inl ⟨HC.out,rfl⟩⟩
  ·have h44 := hc
   have HP := Hd (ptake_no q _ _ s 44 j w4 hs hjs HT4.out.2 44 rfl hc)
   clear hc
   go_wp2_with fail
   refine HP.out.mono ?_
   rintro e w5 ⟨rfl,ht5⟩
   have HT5 := Hd (HT4.out.trans ht5)
   clear ht5 HP
   by_cases hc : headI (leftB s j) = 125
   ·replace HC := Hd (HC.out.trans (if_pos hc))
    clear h44
    have HP := Hd (ptake_yes q _ _ s 125 j w5 hs hjs HT5.out.2 125 rfl hc)
    clear hc
    go_wp2_with fail
    refine HP.out.mono ?_
    rintro e w7 ⟨rfl,ht7⟩
    have HT7 := Hd (HT5.out.trans ht7)
    clear ht7 HP
    have c1 := HT7.out.2.c1
    go_wp2_with fail
    go_region
    go_wp2_with fail
    first | rw [jump_ret] | rw [Exit.noGoto_ret]
    refine bodyPost_ret (results_tmp4 Tryz.results77 _ _ _) rfl ?_
    exact ⟨(HT7.out.below HB2.out HB2.out.size HQ.out).drew,.inr ⟨a,a,j + 1,HC.out,rfl⟩⟩
   ·replace HC := Hd ((HC.out.trans (if_neg hc)).trans (if_pos h44))
    clear h44
    have HP := Hd (ptake_no q _ _ s 125 j w5 hs hjs HT5.out.2 125 rfl hc)
    clear hc
    go_wp2_with fail
    refine HP.out.mono ?_
    rintro e w7 ⟨rfl,ht7⟩
    have HT7 := Hd (HT5.out.trans ht7)
    clear ht7 HP
    go_wp2_with fail
    go_step3
    refine ⟨rfl,?_⟩
    go_wp2_with fail
    first | rw [jump_ret] | rw [Exit.noGoto_ret]
    refine bodyPost_ret (results_tmp4 Tryz.results77 _ _ _) rfl ?_
    exact ⟨HT7.out.below HB2.out HB2.out.size HQ.out,.inl ⟨HC.out,rfl⟩⟩
 ·have HC := Hd (show O = none by rw [← HO.out];unfold countS;rw [if_pos hc])
  have HP := Hd (ptake_no q _ _ s 123 i w2 hs hi HT2.out.2 123 rfl hc)
  clear hc
  go_wp2_with fail
  refine HP.out.mono ?_
  rintro e w3 ⟨rfl,ht3⟩
  have HT3 := Hd (HT2.out.trans ht3)
  clear ht3 HP
  go_wp2_with fail
  go_step3
  refine ⟨rfl,?_⟩
  go_wp2_with fail
  first | rw [jump_ret] | rw [Exit.noGoto_ret]
  refine bodyPost_ret (results_tmp4 Tryz.results77 _ _ _) rfl ?_
  exact ⟨HT3.out.below HB2.out HB2.out.size HQ.out,.inl ⟨HC.out,rfl⟩⟩
end Go.Proofs.YthnddabcmhplkaaGreatDoor
namespace Go.Proofs.YthnddabcmhplkaaGreatDoor
open Go Go.RowKit
attribute [local go_sem] jump_ret jump_normal jump_exit jump_goto
theorem wrap_in64 (x : Int) : In64 (IntKind.i64.wrap x) := by
 unfold In64 IntKind.wrap
 simp only [IntKind.bits,IntKind.signed]
 simp
 omega
theorem or_in (f n : Int) : In64 (bits .or .i64 f n) := by rw [or_is];exact wrap_in64 _
theorem bad_rune (s : ByteArray) (p : Nat) (hp : p ≤ s.size) : badTo s p = ((p + (runeP s p).2 : Nat) : Int) := by
 unfold badTo runeP
 by_cases h : p < s.size
 ·rw [if_pos h,if_pos h]
 ·rw [if_neg h,if_neg h]
  omega
theorem flags_end (s : ByteArray) (p : Nat) (G : Int) (off more : Bool) (hl : ∀ hp : p < s.size,flagI s[p].toNat = 0) (h45 : off = true ∨ ¬ headI (leftB s p) = 45) :
  flagsFrom (leftB s p) G off more = if (headI (leftB s p) = 58 ∨ headI (leftB s p) = 41) ∧ (off = false ∨ more = true) then (some (G,decide (headI (leftB s p) = 58)),1) else (none,0) := by
 by_cases hp : p < s.size
 ·have g := head_at s p hp
  rw [left_cons s p hp] at h45 ⊢
  have hh : headI (s[p] :: leftB s (p + 1)) = (s[p].toNat : Int) := rfl
  rw [hh] at h45 ⊢
  rw [flagsFrom,if_neg (fun h => h (hl hp)),if_neg (fun h => by
   rcases h45 with h45 | h45
   ·rw [h45] at h
    exact absurd h.2 (by decide)
   ·exact h45 (by omega))]
  by_cases hc : ((s[p].toNat : Int) = 58 ∨ (s[p].toNat : Int) = 41) ∧ (off = false ∨ more = true)
  ·rw [if_pos hc,if_pos ⟨hc.1.imp (fun h => by omega) (fun h => by omega),hc.2⟩]
   by_cases h58 : (s[p].toNat : Int) = 58
   ·rw [decide_eq_true h58,decide_eq_true (by omega)]
   ·rw [decide_eq_false h58,decide_eq_false (by omega)]
  ·rw [if_neg hc,if_neg (fun h => hc ⟨h.1.imp (fun h => by omega) (fun h => by omega),h.2⟩)]
 ·rw [left_nil s p (by omega)]
  rw [if_neg (fun h => by rcases h.1 with h | h <;> exact absurd h (by decide))]
  rfl
theorem lets_at (s : ByteArray) (p j : Nat) (n : Int) (k : Nat) (h : letsFrom (leftB s p) 0 = (n,k)) (hj : p + k = j) : ∀ hp : j < s.size,flagI s[j].toNat = 0 := fun hp => by
 refine lets_stop (leftB s p) 0 s[j] (leftB s (j + 1)) ?_
 rw [h,left_drop,hj]
 exact left_cons s j hp
theorem flags_a {s : ByteArray} {i j k1 : Nat} {f n1 : Int} (hf : In64 f) (h40 : headI (leftB s i) = 40) (h63 : headI (leftB s (i + 1)) = 63) (h1 : letsFrom (leftB s (i + 2)) 0 = (n1,k1)) (hj : i + 2 + k1 = j) (h45 : ¬ headI (leftB s j) = 45) :
  flagsS s i f = if headI (leftB s j) = 58 ∨ headI (leftB s j) = 41 then (some (bits .andNot .i64 (bits .or .i64 f n1) 0,decide (headI (leftB s j) = 58)),j + 1) else (none,j) := by
 unfold flagsS
 rw [if_neg (fun h => h h40),if_neg (fun h => h h63)]
 have e : flagsFrom (leftB s (i + 2)) f false false = flagsFrom (leftB s (i + 2)) (bits .or .i64 f 0) false false := by rw [or_zero f hf]
 rw [e,onto_flags,h1,left_drop]
 dsimp only
 rw [hj,flags_end s j _ false false (lets_at s (i + 2) j n1 k1 h1 hj) (.inr h45),not_zero _ (or_in f n1)]
 by_cases hc : headI (leftB s j) = 58 ∨ headI (leftB s j) = 41
 ·rw [if_pos ⟨hc,.inl rfl⟩,if_pos hc]
  refine Prod.ext rfl ?_
  dsimp only
  omega
 ·rw [if_neg (fun h => hc h.1),if_neg hc]
  refine Prod.ext rfl ?_
  dsimp only
  omega
theorem flags_b {s : ByteArray} {i j k1 k2 m : Nat} {f n1 n2 : Int} (hf : In64 f) (h40 : headI (leftB s i) = 40) (h63 : headI (leftB s (i + 1)) = 63) (h1 : letsFrom (leftB s (i + 2)) 0 = (n1,k1)) (hj : i + 2 + k1 = j) (h45 : headI (leftB s j) = 45) (h2 : letsFrom (leftB s (j + 1)) 0 = (n2,k2)) (hm : j + 1 + k2 = m) :
  flagsS s i f = if ¬ k2 = 0 ∧ (headI (leftB s m) = 58 ∨ headI (leftB s m) = 41) then (some (bits .andNot .i64 (bits .or .i64 f n1) n2,decide (headI (leftB s m) = 58)),m + 1) else (none,m) := by
 unfold flagsS
 rw [if_neg (fun h => h h40),if_neg (fun h => h h63)]
 have e : flagsFrom (leftB s (i + 2)) f false false = flagsFrom (leftB s (i + 2)) (bits .or .i64 f 0) false false := by rw [or_zero f hf]
 have hlt : j < s.size := head_in (by omega)
 have hb : (s[j].toNat : Int) = 45 := (head_at s j hlt).symm.trans h45
 rw [e,onto_flags,h1,left_drop]
 dsimp only
 rw [hj,left_cons s j hlt,flagsFrom,if_neg (fun h => h (lets_at s (i + 2) j n1 k1 h1 hj hlt)),if_pos ⟨by omega,rfl⟩]
 have e2 : flagsFrom (leftB s (j + 1)) (bits .or .i64 f n1) true false = flagsFrom (leftB s (j + 1)) (bits .andNot .i64 (bits .or .i64 f n1) 0) true false := by rw [not_zero _ (or_in f n1)]
 rw [e2,off_flags,h2,left_drop]
 dsimp only
 rw [hm,flags_end s m _ true _ (lets_at s (j + 1) m n2 k2 h2 hm) (.inl rfl)]
 by_cases hc : ¬ k2 = 0 ∧ (headI (leftB s m) = 58 ∨ headI (leftB s m) = 41)
 ·rw [if_pos ⟨hc.2,.inr (by rw [Bool.false_or];exact decide_eq_true (by omega))⟩,if_pos hc]
  refine Prod.ext rfl ?_
  dsimp only
  omega
 ·rw [if_neg (fun h => hc ⟨fun hk => by
   rcases h.2 with h2 | h2
   ·exact absurd h2 (by decide)
   ·rw [hk] at h2
    simp at h2,h.1⟩),if_neg hc]
  refine Prod.ext rfl ?_
  dsimp only
  omega
theorem pflags_any (s : ByteArray) (i : Nat) (f : Int) (w : World) (hs : s.size ≤ 4503599627370496) (hi : i ≤ s.size) (hf : In64 f) (hT : Lib.Utf8Tabs 0 1 w) :
  Calls Tryz.prog 60 #[.string s,.int .i64 i,.int .i64 f] w (FlagsPost s i (flagsS s i f) w) := by
 obtain ⟨w1,hw1⟩ : ∃ w1,w.alloc (.cells #[.int .i64 0,.int .i64 0,.int .i64 0] 32) = w1 := ⟨_,rfl⟩
 have hE1 : Whole w1 w.heap.size 32 #[.int .i64 0,.int .i64 0,.int .i64 0] := by rw [← hw1];exact heap_alloc_new w _
 have hb1 : Below w.heap.size w w1 := by rw [← hw1];exact (Below.refl _ w).alloc (Nat.le_refl _) _
 have hs1 : w1.heap.size = w.heap.size + 1 := by rw [← hw1];simp
 have HW1 := Hd hw1;have HE1 := Hd hE1;have HB1 := Hd hb1;have HS1 := Hd hs1;have HT := Hd hT;have HF := Hd hf
 clear hw1 hE1 hb1 hs1 hT hf
 obtain ⟨R,hR⟩ : ∃ R,flagsS s i f = R := ⟨_,rfl⟩
 rw [hR]
 unfold FlagsPost
 have HR := Hd hR
 clear hR
 go_enter Tryz.func60,Tryz.ntmps60
 go_upto_region 1 with (fail)
 rw [HW1.out]
 refine wp_scope_fwd 0 rfl ?_
 go_wp2_with fail
 refine (preader_any s i _ hs hi).mono ?_
 rintro e w2 ⟨rfl,hb2⟩
 obtain ⟨w3,hw3⟩ : ∃ w3,w2.alloc (.cells #[.string s,.int .i64 i] 132) = w3 := ⟨_,rfl⟩
 have hR3 : RdIn w3 w2.heap.size 132 [] s i := by rw [← hw3];exact heap_alloc_new w2 _
 have hbb := HB1.out.trans (hb2.mono HB1.out.size)
 have hb3 : Below w.heap.size w w3 := by rw [← hw3];exact hbb.alloc hbb.size _
 have hE3 : Whole w3 w.heap.size 32 #[.int .i64 0,.int .i64 0,.int .i64 0] := by rw [← hw3];exact (HE1.out.below hb2 (by have := HS1.out;omega)).alloc _
 have hq : w.heap.size < w2.heap.size := Nat.lt_of_lt_of_le (by have := HS1.out;omega) hb2.size
 have HW3 := Hd hw3;have HR3 := Hd hR3;have HB2 := Hd hb3;have HE2 := Hd hE3
 clear hw3 hR3 hb3 hbb hb2 hE3 HW1 HB1 HE1 HS1
 go_upto_region 2 with (fail)
 rw [HW3.out]
 generalize w2.heap.size = q at HR3 hq ⊢
 have HQ := Hd hq;have HT3 := Hd (Took.none HR3.out)
 clear HW3 hq
 by_cases h40 : headI (leftB s i) = 40
 ·have hlt : i + 1 ≤ s.size := head_in (by omega)
  have h40' := h40
  have HP := Hd (ptake_yes q _ _ s 40 i w3 hs hi HT3.out.2 40 rfl h40')
  clear h40'
  go_wp2_with fail
  refine HP.out.mono ?_
  rintro e w4 ⟨rfl,ht4⟩
  have HT4 := Hd (HT3.out.trans ht4)
  clear ht4 HP
  by_cases h63 : headI (leftB s (i + 1)) = 63
  ·have hlt2 : i + 2 ≤ s.size := head_in (s := s) (i := i + 1) (by omega)
   obtain ⟨⟨n1,k1⟩,h1⟩ : ∃ r,letsFrom (leftB s (i + 2)) 0 = r := ⟨_,rfl⟩
   obtain ⟨j,hj⟩ : ∃ j,i + 2 + k1 = j := ⟨_,rfl⟩
   have hjs : j ≤ s.size := by
    have := lets_fit (leftB s (i + 2)) 0
    rw [h1,left_length] at this
    simp only at this
    omega
   have HA := Hd (fun h45 => HR.out.symm.trans (flags_a HF.out h40 h63 h1 hj h45))
   have HBB := Hd (fun h45 n2 k2 m h2 hm => HR.out.symm.trans (flags_b (n2 := n2) (k2 := k2) (m := m) HF.out h40 h63 h1 hj h45 h2 hm))
   have HL := Hd (fun W hW => plets_any q 132 [] s (i + 2) W hs hlt2 hW)
   rw [h1] at HL
   unfold LetsPost at HL
   dsimp only at HL
   rw [hj] at HL
   clear h40 h1 hj HR
   have HP := Hd (ptake_yes q _ _ s 63 (i + 1) w4 hs hlt HT4.out.2 63 rfl h63)
   clear h63
   go_wp2_with fail
   refine HP.out.mono ?_
   rintro e w5 ⟨rfl,ht5⟩
   have HT5 := Hd (HT4.out.trans ht5)
   clear ht5 HP
   go_wp2_with fail
   refine (HL.out _ HT5.out.2).mono ?_
   rintro e w6 ⟨rfl,ht6⟩
   have HT6 := Hd (HT5.out.trans ht6)
   clear ht6 HL
   by_cases h45 : headI (leftB s j) = 45
   ·have hlt3 : j + 1 ≤ s.size := head_in (by omega)
    obtain ⟨⟨n2,k2⟩,h2⟩ : ∃ r,letsFrom (leftB s (j + 1)) 0 = r := ⟨_,rfl⟩
    obtain ⟨m,hm⟩ : ∃ m,j + 1 + k2 = m := ⟨_,rfl⟩
    have hms : m ≤ s.size := by
     have := lets_fit (leftB s (j + 1)) 0
     rw [h2,left_length] at this
     simp only at this
     omega
    have HX := Hd (HBB.out h45 n2 k2 m h2 hm)
    have hz := lets_none (l := leftB s (j + 1))
    have hn := lets_some (leftB s (j + 1))
    rw [h2] at hz hn
    dsimp only at hz hn
    have HL := Hd (fun W hW => plets_any q 132 [] s (j + 1) W hs hlt3 hW)
    rw [h2] at HL
    unfold LetsPost at HL
    dsimp only at HL
    rw [hm] at HL
    have HZ := Hd hz;have HN := Hd hn
    clear h2 hm hz hn HA HBB
    have HP := Hd (ptake_yes q _ _ s 45 j w6 hs hjs HT6.out.2 45 rfl h45)
    clear h45
    go_wp2_with fail
    refine HP.out.mono ?_
    rintro e w7 ⟨rfl,ht7⟩
    have HT7 := Hd (HT6.out.trans ht7)
    clear ht7 HP
    go_wp2_with fail
    refine (HL.out _ HT7.out.2).mono ?_
    rintro e w8 ⟨rfl,ht8⟩
    have HT8 := Hd (HT7.out.trans ht8)
    clear ht8 HL
    by_cases hk : k2 = 0
    ·obtain rfl : n2 = 0 := HZ.out hk
     have HY := Hd (HX.out.trans (if_neg (fun h => h.1 hk)))
     clear hk HX HZ HN
     have HU := Hd (ptakeRune_any q _ _ s m _ hs hms HT8.out.2 (Utf8Tabs_below HT.out (HT8.out.below HB2.out HB2.out.size (Nat.le_of_lt HQ.out))))
     have hbt := bad_rune s m hms
     unfold RunePost at HU
     obtain ⟨⟨c9,n9⟩,hr9⟩ : ∃ x,runeP s m = x := ⟨_,rfl⟩
     rw [hr9] at HU hbt
     dsimp only at HU hbt
     have HBT := Hd hbt
     clear hr9 hbt
     go_wp2_with fail
     go_step3
     refine ⟨rfl,?_⟩
     go_wp2_with fail
     refine HU.out.mono ?_
     rintro e w9 ⟨rfl,ht9⟩
     have HT9 := Hd (HT8.out.trans ht9)
     have HE9 := Hd (HT9.out.whole HE2.out (Nat.ne_of_lt HQ.out))
     obtain ⟨d0,d1,d2,z0,z1,z2⟩ := HE9.out.three
     have c1 := HT9.out.2.c1
     clear ht9 HU
     go_wp2_with fail
     go_region
     go_wp2_with fail
     rw [Exit.noGoto_ret]
     refine bodyPost_ret (results_tttw Tryz.results60 _ rfl (set3_whole HE9.out _ _ _).drew rfl) rfl ?_
     exact ⟨(set3_below (HT9.out.below HB2.out HB2.out.size (Nat.le_of_lt HQ.out)) (Nat.le_refl _) _ _ _).drew,.inl ⟨by rw [HY.out],by simp only [HY.out,HBT.out];rfl⟩⟩
    have b0 : (n2 == 0) = false := eq_false_of (HN.out (by omega))
    clear HZ HN
    by_cases hc : headI (leftB s m) = 58
    ·have HY := Hd (HX.out.trans (if_pos ⟨hk,.inl hc⟩))
     rw [decide_eq_true hc] at HY
     clear hk HX
     have HP := Hd (ptake_yes q _ _ s 58 m w8 hs hms HT8.out.2 58 rfl hc)
     clear hc
     go_wp2_with fail
     refine HP.out.mono ?_
     rintro e w10 ⟨rfl,ht10⟩
     have HT10 := Hd (HT8.out.trans ht10)
     clear ht10 HP
     have HE9 := Hd (HT10.out.whole HE2.out (Nat.ne_of_lt HQ.out))
     obtain ⟨d0,d1,d2,z0,z1,z2⟩ := HE9.out.three
     have c1 := HT10.out.2.c1
     go_wp2_with fail
     go_region
     go_wp2_with fail
     rw [jump_ret]
     refine bodyPost_ret (results_tttw Tryz.results60 _ rfl (set3_whole HE9.out _ _ _).drew rfl) rfl ?_
     exact ⟨(set3_below (HT10.out.below HB2.out HB2.out.size (Nat.le_of_lt HQ.out)) (Nat.le_refl _) _ _ _).drew,.inr ⟨_,_,by rw [HY.out],by simp only [HY.out];rfl⟩⟩
    have h58 := hc
    have HP := Hd (ptake_no q _ _ s 58 m w8 hs hms HT8.out.2 58 rfl hc)
    clear hc
    go_wp2_with fail
    refine HP.out.mono ?_
    rintro e w10 ⟨rfl,ht10⟩
    have HT10 := Hd (HT8.out.trans ht10)
    clear ht10 HP
    by_cases hc : headI (leftB s m) = 41
    ·have HY := Hd (HX.out.trans (if_pos ⟨hk,.inr hc⟩))
     rw [decide_eq_false h58] at HY
     clear hk HX h58
     have HP := Hd (ptake_yes q _ _ s 41 m w10 hs hms HT10.out.2 41 rfl hc)
     clear hc
     go_wp2_with fail
     refine HP.out.mono ?_
     rintro e w11 ⟨rfl,ht11⟩
     have HT11 := Hd (HT10.out.trans ht11)
     clear ht11 HP
     have HE9 := Hd (HT11.out.whole HE2.out (Nat.ne_of_lt HQ.out))
     obtain ⟨d0,d1,d2,z0,z1,z2⟩ := HE9.out.three
     have c1 := HT11.out.2.c1
     go_wp2_with fail
     go_region
     go_wp2_with fail
     rw [jump_ret]
     refine bodyPost_ret (results_tttw Tryz.results60 _ rfl (set3_whole HE9.out _ _ _).drew rfl) rfl ?_
     exact ⟨(set3_below (HT11.out.below HB2.out HB2.out.size (Nat.le_of_lt HQ.out)) (Nat.le_refl _) _ _ _).drew,.inr ⟨_,_,by rw [HY.out],by simp only [HY.out];rfl⟩⟩
    ·have HY := Hd (HX.out.trans (if_neg (fun h => h.2.elim h58 hc)))
     clear hk HX h58
     have HP := Hd (ptake_no q _ _ s 41 m w10 hs hms HT10.out.2 41 rfl hc)
     clear hc
     go_wp2_with fail
     refine HP.out.mono ?_
     rintro e w11 ⟨rfl,ht11⟩
     have HT11 := Hd (HT10.out.trans ht11)
     clear ht11 HP
     have HU := Hd (ptakeRune_any q _ _ s m _ hs hms HT11.out.2 (Utf8Tabs_below HT.out (HT11.out.below HB2.out HB2.out.size (Nat.le_of_lt HQ.out))))
     have hbt := bad_rune s m hms
     unfold RunePost at HU
     obtain ⟨⟨c9,n9⟩,hr9⟩ : ∃ x,runeP s m = x := ⟨_,rfl⟩
     rw [hr9] at HU hbt
     dsimp only at HU hbt
     have HBT := Hd hbt
     clear hr9 hbt
     go_wp2_with fail
     go_step3
     refine ⟨rfl,?_⟩
     go_wp2_with fail
     refine HU.out.mono ?_
     rintro e w9 ⟨rfl,ht9⟩
     have HT9 := Hd (HT11.out.trans ht9)
     have HE9 := Hd (HT9.out.whole HE2.out (Nat.ne_of_lt HQ.out))
     obtain ⟨d0,d1,d2,z0,z1,z2⟩ := HE9.out.three
     have c1 := HT9.out.2.c1
     clear ht9 HU
     go_wp2_with fail
     go_region
     go_wp2_with fail
     rw [Exit.noGoto_ret]
     refine bodyPost_ret (results_tttw Tryz.results60 _ rfl (set3_whole HE9.out _ _ _).drew rfl) rfl ?_
     exact ⟨(set3_below (HT9.out.below HB2.out HB2.out.size (Nat.le_of_lt HQ.out)) (Nat.le_refl _) _ _ _).drew,.inl ⟨by rw [HY.out],by simp only [HY.out,HBT.out];rfl⟩⟩
   ·have HX := Hd (HA.out h45)
    clear HA HBB
    have HP := Hd (ptake_no q _ _ s 45 j w6 hs hjs HT6.out.2 45 rfl h45)
    clear h45
    go_wp2_with fail
    refine HP.out.mono ?_
    rintro e w7 ⟨rfl,ht7⟩
    have HT7 := Hd (HT6.out.trans ht7)
    clear ht7 HP
    by_cases hc : headI (leftB s j) = 58
    ·have HY := Hd (HX.out.trans (if_pos (.inl hc)))
     rw [decide_eq_true hc] at HY
     clear HX
     have HP := Hd (ptake_yes q _ _ s 58 j w7 hs hjs HT7.out.2 58 rfl hc)
     clear hc
     go_wp2_with fail
     refine HP.out.mono ?_
     rintro e w10 ⟨rfl,ht10⟩
     have HT10 := Hd (HT7.out.trans ht10)
     clear ht10 HP
     have HE9 := Hd (HT10.out.whole HE2.out (Nat.ne_of_lt HQ.out))
     obtain ⟨d0,d1,d2,z0,z1,z2⟩ := HE9.out.three
     have c1 := HT10.out.2.c1
     go_wp2_with fail
     go_region
     go_wp2_with fail
     rw [jump_ret]
     refine bodyPost_ret (results_tttw Tryz.results60 _ rfl (set3_whole HE9.out _ _ _).drew rfl) rfl ?_
     exact ⟨(set3_below (HT10.out.below HB2.out HB2.out.size (Nat.le_of_lt HQ.out)) (Nat.le_refl _) _ _ _).drew,.inr ⟨_,_,by rw [HY.out],by simp only [HY.out];rfl⟩⟩
    have h58 := hc
    have HP := Hd (ptake_no q _ _ s 58 j w7 hs hjs HT7.out.2 58 rfl hc)
    clear hc
    go_wp2_with fail
    refine HP.out.mono ?_
    rintro e w10 ⟨rfl,ht10⟩
    have HT10 := Hd (HT7.out.trans ht10)
    clear ht10 HP
    by_cases hc : headI (leftB s j) = 41
    ·have HY := Hd (HX.out.trans (if_pos (.inr hc)))
     rw [decide_eq_false h58] at HY
     clear HX h58
     have HP := Hd (ptake_yes q _ _ s 41 j w10 hs hjs HT10.out.2 41 rfl hc)
     clear hc
     go_wp2_with fail
     refine HP.out.mono ?_
     rintro e w11 ⟨rfl,ht11⟩
     have HT11 := Hd (HT10.out.trans ht11)
     clear ht11 HP
     have HE9 := Hd (HT11.out.whole HE2.out (Nat.ne_of_lt HQ.out))
     obtain ⟨d0,d1,d2,z0,z1,z2⟩ := HE9.out.three
     have c1 := HT11.out.2.c1
     go_wp2_with fail
     go_region
     go_wp2_with fail
     rw [jump_ret]
     refine bodyPost_ret (results_tttw Tryz.results60 _ rfl (set3_whole HE9.out _ _ _).drew rfl) rfl ?_
     exact ⟨(set3_below (HT11.out.below HB2.out HB2.out.size (Nat.le_of_lt HQ.out)) (Nat.le_refl _) _ _ _).drew,.inr ⟨_,_,by rw [HY.out],by simp only [HY.out];rfl⟩⟩
    ·have HY := Hd (HX.out.trans (if_neg (fun h => h.elim h58 hc)))
     clear HX h58
     have HP := Hd (ptake_no q _ _ s 41 j w10 hs hjs HT10.out.2 41 rfl hc)
     clear hc
     go_wp2_with fail
     refine HP.out.mono ?_
     rintro e w11 ⟨rfl,ht11⟩
     have HT11 := Hd (HT10.out.trans ht11)
     clear ht11 HP
     have HU := Hd (ptakeRune_any q _ _ s j _ hs hjs HT11.out.2 (Utf8Tabs_below HT.out (HT11.out.below HB2.out HB2.out.size (Nat.le_of_lt HQ.out))))
     have hbt := bad_rune s j hjs
     unfold RunePost at HU
     obtain ⟨⟨c9,n9⟩,hr9⟩ : ∃ x,runeP s j = x := ⟨_,rfl⟩
     rw [hr9] at HU hbt
     dsimp only at HU hbt
     have HBT := Hd hbt
     clear hr9 hbt
     go_wp2_with fail
     go_step3
     refine ⟨rfl,?_⟩
     go_wp2_with fail
     refine HU.out.mono ?_
     rintro e w9 ⟨rfl,ht9⟩
     have HT9 := Hd (HT11.out.trans ht9)
     have HE9 := Hd (HT9.out.whole HE2.out (Nat.ne_of_lt HQ.out))
     obtain ⟨d0,d1,d2,z0,z1,z2⟩ := HE9.out.three
     have c1 := HT9.out.2.c1
     clear ht9 HU
     go_wp2_with fail
     go_region
     go_wp2_with fail
     rw [Exit.noGoto_ret]
     refine bodyPost_ret (results_tttw Tryz.results60 _ rfl (set3_whole HE9.out _ _ _).drew rfl) rfl ?_
     exact ⟨(set3_below (HT9.out.below HB2.out HB2.out.size (Nat.le_of_lt HQ.out)) (Nat.le_refl _) _ _ _).drew,.inl ⟨by rw [HY.out],by simp only [HY.out,HBT.out];rfl⟩⟩
  ·have HY := Hd (show R = (none,i + 1) by rw [← HR.out];unfold flagsS;rw [if_neg (fun h => h h40),if_pos h63])
   clear HR h40
   have HP := Hd (ptake_no q _ _ s 63 (i + 1) w4 hs hlt HT4.out.2 63 rfl h63)
   clear h63
   go_wp2_with fail
   refine HP.out.mono ?_
   rintro e w5 ⟨rfl,ht5⟩
   have HT5 := Hd (HT4.out.trans ht5)
   clear ht5 HP
   have HU := Hd (ptakeRune_any q _ _ s (i + 1) _ hs hlt HT5.out.2 (Utf8Tabs_below HT.out (HT5.out.below HB2.out HB2.out.size (Nat.le_of_lt HQ.out))))
   have hbt := bad_rune s (i + 1) hlt
   unfold RunePost at HU
   obtain ⟨⟨c9,n9⟩,hr9⟩ : ∃ x,runeP s (i + 1) = x := ⟨_,rfl⟩
   rw [hr9] at HU hbt
   dsimp only at HU hbt
   have HBT := Hd hbt
   clear hr9 hbt
   go_wp2_with fail
   go_step3
   refine ⟨rfl,?_⟩
   go_wp2_with fail
   refine HU.out.mono ?_
   rintro e w9 ⟨rfl,ht9⟩
   have HT9 := Hd (HT5.out.trans ht9)
   have HE9 := Hd (HT9.out.whole HE2.out (Nat.ne_of_lt HQ.out))
   obtain ⟨d0,d1,d2,z0,z1,z2⟩ := HE9.out.three
   have c1 := HT9.out.2.c1
   clear ht9 HU
   go_wp2_with fail
   go_region
   go_wp2_with fail
   rw [Exit.noGoto_ret]
   refine bodyPost_ret (results_tttw Tryz.results60 _ rfl (set3_whole HE9.out _ _ _).drew rfl) rfl ?_
   exact ⟨(set3_below (HT9.out.below HB2.out HB2.out.size (Nat.le_of_lt HQ.out)) (Nat.le_refl _) _ _ _).drew,.inl ⟨by rw [HY.out],by simp only [HY.out,HBT.out];rfl⟩⟩
 ·have HY := Hd (show R = (none,i) by rw [← HR.out];unfold flagsS;rw [if_pos h40])
  clear HR
  have HP := Hd (ptake_no q _ _ s 40 i w3 hs hi HT3.out.2 40 rfl h40)
  clear h40
  go_wp2_with fail
  refine HP.out.mono ?_
  rintro e w4 ⟨rfl,ht4⟩
  have HT4 := Hd (HT3.out.trans ht4)
  clear ht4 HP
  have HU := Hd (ptakeRune_any q _ _ s i _ hs hi HT4.out.2 (Utf8Tabs_below HT.out (HT4.out.below HB2.out HB2.out.size (Nat.le_of_lt HQ.out))))
  have hbt := bad_rune s i hi
  unfold RunePost at HU
  obtain ⟨⟨c9,n9⟩,hr9⟩ : ∃ x,runeP s i = x := ⟨_,rfl⟩
  rw [hr9] at HU hbt
  dsimp only at HU hbt
  have HBT := Hd hbt
  clear hr9 hbt
  go_wp2_with fail
  go_step3
  refine ⟨rfl,?_⟩
  go_wp2_with fail
  refine HU.out.mono ?_
  rintro e w9 ⟨rfl,ht9⟩
  have HT9 := Hd (HT4.out.trans ht9)
  have HE9 := Hd (HT9.out.whole HE2.out (Nat.ne_of_lt HQ.out))
  obtain ⟨d0,d1,d2,z0,z1,z2⟩ := HE9.out.three
  have c1 := HT9.out.2.c1
  clear ht9 HU
  go_wp2_with fail
  go_region
  go_wp2_with fail
  rw [Exit.noGoto_ret]
  refine bodyPost_ret (results_tttw Tryz.results60 _ rfl (set3_whole HE9.out _ _ _).drew rfl) rfl ?_
  exact ⟨(set3_below (HT9.out.below HB2.out HB2.out.size (Nat.le_of_lt HQ.out)) (Nat.le_refl _) _ _ _).drew,.inl ⟨by rw [HY.out],by simp only [HY.out,HBT.out];rfl⟩⟩
end Go.Proofs.YthnddabcmhplkaaGreatDoor
