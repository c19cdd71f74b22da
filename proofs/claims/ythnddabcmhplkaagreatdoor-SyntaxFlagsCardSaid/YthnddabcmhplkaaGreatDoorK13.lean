/- Texts merged by program. No condition. -/
import Derived.Test.YthnddabcmhplkaaGreatDoorK12
import Derived.Deep.DeepCutAuto
import Derived.Deep.RegionHeld3
set_option maxHeartbeats 1600000
set_option maxRecDepth 100000
set_option linter.unusedVariables false
namespace Go.Proofs.YthnddabcmhplkaaGreatDoor
open Go Go.RowKit
theorem wrap_nat (n : Nat) (h : n < 9223372036854775808) : IntKind.i64.wrap (n : Int) = (n : Int) := by
 have hm : (n : Int) % 18446744073709551616 = n := by omega
 unfold IntKind.wrap
 simp [IntKind.bits,IntKind.signed,hm]
 omega
def SetPost (P : Int → Prop) (w : World) (e : Ending) (w' : World) : Prop :=
 ∃ v k,e = .returned v ∧ OwnR w' w.heap.size v k ∧ RightR k ∧ (∀ c,HasR k c ↔ P c) ∧ Below w.heap.size w w'
def cellsE (k : List (Int × Int)) : List Value := k.flatMap fun r => [.int .i32 r.1,.int .i64 r.2]
theorem cellsE_append (a b : List (Int × Int)) : cellsE (a ++ b) = cellsE a ++ cellsE b := by simp [cellsE]
theorem cellsE_length : ∀ k : List (Int × Int),(cellsE k).length = k.length * 2
 | [] => rfl
 | r :: k => by
  have h := cellsE_length k
  have e : cellsE (r :: k) = [.int .i32 r.1,.int .i64 r.2] ++ cellsE k := rfl
  rw [e,List.length_append,h]
  simp
  omega
theorem cellsE_at : ∀ (k : List (Int × Int)) (i : Nat) (h : i < k.length),(cellsE k)[i * 2]? = some (.int .i32 k[i].1) ∧ (cellsE k)[i * 2 + 1]? = some (.int .i64 k[i].2)
 | [],i,h => by simp at h
 | r :: k,0,h => ⟨rfl,rfl⟩
 | r :: k,i + 1,h => by
  have e : cellsE (r :: k) = .int .i32 r.1 :: .int .i64 r.2 :: cellsE k := rfl
  have h' := cellsE_at k i (by simpa using h)
  rw [e,show (i + 1) * 2 = i * 2 + 1 + 1 by omega]
  simpa using h'
theorem cellsE_get (k : List (Int × Int)) (j : Nat) (u : Value) (h : (cellsE k)[j]? = some u) : ∃ i,∃ hi : i < k.length,(j = i * 2 ∧ u = .int .i32 k[i].1) ∨ (j = i * 2 + 1 ∧ u = .int .i64 k[i].2) := by
 have hl := (List.getElem?_eq_some_iff.1 h).1
 rw [cellsE_length] at hl
 have hi : j / 2 < k.length := by omega
 obtain ⟨h1,h2⟩ := cellsE_at k (j / 2) hi
 refine ⟨j / 2,hi,?_⟩
 by_cases hj : j % 2 = 0
 ·left
  have e : j = j / 2 * 2 := by omega
  refine ⟨e,?_⟩
  rw [← e,h] at h1
  exact Option.some.inj h1
 ·right
  have e : j = j / 2 * 2 + 1 := by omega
  refine ⟨e,?_⟩
  rw [← e,h] at h2
  exact Option.some.inj h2
theorem cellsE_one (k : List (Int × Int)) : ∀ u ∈ cellsE k,u.oneCell' = true := fun u hu => by
 obtain ⟨j,hj⟩ := List.getElem?_of_mem hu
 obtain ⟨i,_,⟨_,rfl⟩ | ⟨_,rfl⟩⟩ := cellsE_get k j u hj
 ·rfl
 ·rfl
theorem info_edge : (Tryz.prog.info? 155).map (fun i => (i.zero,i.size,i.bytes)) = some (some (.agg #[.int .i32 0,.int .i64 0]),2,16) := by kernel_rfl
def OwnE (w : World) (B : Nat) (v : Value) (k : List (Int × Int)) : Prop := w.ownsRow B 155 2 v k.length (cellsE k)
theorem OwnE.below {w w' : World} {B : Nat} {v : Value} {k : List (Int × Int)} (h : OwnE w B v k) (hb : Below w.heap.size w w') : OwnE w' B v k :=
 World.ownsRow.kept h (row := none) ⟨hb.os,hb.tape,hb.output,hb.size,fun k hk _ => hb.block k hk⟩ (by cases v.ownBlock <;> simp)
theorem owne_none (w : World) (B : Nat) : OwnE w B (.slice none 0 0) [] := World.ownsRow_nil _ _ _ _
def Two (w : World) (g : Nat) (x y : Int × Int) : Prop := Whole w g 155 #[.int .i32 x.1,.int .i64 x.2,.int .i32 y.1,.int .i64 y.2]
theorem append_two {w : World} {ops : Array Oper} {rest : List Oper} {o : Oper} {a : Act} {Q : Exit → Act → World → Prop} (hgd : o.guard = none) (x y : Operand)
  (ho : o.op = .call { callee := .builtin .append,args := #[x,y],argTypes := #[151,151] })
  (base : Nat) (v : Value) (O : List (Int × Int)) (hs : a.eval x = v) (hown : OwnE w base v O)
  (g : Nat) (e1 e2 : Int × Int) (hx : a.eval y = .slice (some ⟨g,0,none⟩) 2 2) (ht : Two w g e1 e2) (hn : O.length + 2 ≤ 8796093022208) (hbase : base ≤ w.heap.size)
  (h : ∀ v' w',OwnE w' base v' (O ++ [e1,e2]) → w.grownBy w' v.ownBlock → wpList Tryz.prog ops Q rest (a.put o.dst v') w') : wpList Tryz.prog ops Q (o :: rest) a w := by
 obtain ⟨i,hi,hz,hsize,hby⟩ := info_parts info_edge
 refine wpList_append_own w hgd x y 151 ho base 155 i (.agg #[.int .i32 0,.int .i64 0]) 2 16 Tryz.underlying151 hi hz hsize hby rfl (by omega) v O.length (cellsE O) hs hown ⟨g,0,none⟩ 2 2 (cellsE [e1,e2]) hx (by rw [cellsE_length];rfl) ?_ (cellsE_one _) (by unfold maxLen;omega) (by omega) hbase (fun v' w' g1 g2 _ => h v' w' ?_ g2)
 ·intro j u hu
  have hadd : (⟨g,0,none⟩ : Addr).add j = ⟨g,j,none⟩ := by unfold Addr.add;split <;> simp_all
  rw [hadd,ht.cell]
  obtain ⟨e11,e12⟩ := e1
  obtain ⟨e21,e22⟩ := e2
  simpa [cellsE] using hu
 ·unfold OwnE
  rw [cellsE_append,List.length_append]
  exact g1
def Lss (w : World) (v : Value) (ls : List (List (Int × Int))) : Prop :=
 ∃ b o c,v = .slice (some ⟨b,o,none⟩) ls.length c ∧ ls.length ≤ c ∧ c ≤ maxLen ∧ ∀ i (h : i < ls.length),∃ u,w.cell? ⟨b,o + i,none⟩ = some u ∧ Rgs w u ls[i]
theorem Lss.below {w w' : World} {v : Value} {ls : List (List (Int × Int))} (h : Lss w v ls) (hb : Below w.heap.size w w') : Lss w' v ls := by
 obtain ⟨b,o,c,h1,h2,h3,h4⟩ := h
 refine ⟨b,o,c,h1,h2,h3,fun i hi => ?_⟩
 obtain ⟨u,hu,hr⟩ := h4 i hi
 exact ⟨u,(hb.cell (World.block_lt_of_cell? w _ hu)).trans hu,hr.below hb⟩
def totL (ls : List (List (Int × Int))) : Nat := (ls.map List.length).sum
theorem endsL_length : ∀ ls : List (List (Int × Int)),(endsL ls).length ≤ 2 * totL ls
 | [] => Nat.le_refl _
 | l :: ls => by
  have h1 := endsR_length l
  have h2 := endsL_length ls
  rw [endsL_cons,List.length_append]
  unfold totL at *
  rw [List.map_cons,List.sum_cons]
  omega
theorem endsL_take (ls : List (List (Int × Int))) (m : Nat) (h : m < ls.length) : endsL (ls.take (m + 1)) = endsL (ls.take m) ++ endsR ls[m] := by
 rw [List.take_succ_eq_append_getElem h,endsL_append]
 simp [endsL]
theorem endsR_take (l : List (Int × Int)) (m : Nat) (x : Int × Int) (h : l.take (m + 1) = l.take m ++ [x]) : endsR (l.take (m + 1)) = endsR (l.take m) ++ endR x := by
 rw [h,endsR_append]
 simp [endsR]
theorem totL_take (ls : List (List (Int × Int))) (m : Nat) (h : m < ls.length) : totL (ls.take m) + ls[m].length ≤ totL ls := by
 unfold totL
 have e : ls = ls.take m ++ ls[m] :: ls.drop (m + 1) := by
  rw [List.getElem_cons_drop,List.take_append_drop]
 have e2 : ((ls.take m ++ ls[m] :: ls.drop (m + 1)).map List.length).sum = ((ls.take m).map List.length).sum + (ls[m].length + ((ls.drop (m + 1)).map List.length).sum) := by
  rw [List.map_append,List.sum_append,List.map_cons,List.sum_cons]
 rw [← e] at e2
 omega
def EndsPost (ls : List (List (Int × Int))) (w : World) (e : Ending) (w' : World) : Prop := ∃ v,e = .returned v ∧ OwnE w' w.heap.size v (endsL ls) ∧ Below w.heap.size w w'
theorem two_new (w : World) (x1 x2 y1 y2 : Int) : Two (w.alloc (.cells #[.int .i32 x1,.int .i64 x2,.int .i32 y1,.int .i64 y2] 155)) w.heap.size (x1,x2) (y1,y2) := heap_alloc_new w _
theorem ends_any (v : Value) (ls : List (List (Int × Int))) (w : World) (h : Lss w v ls) (hn : totL ls ≤ 1099511627776) :
  Calls Tryz.prog 96 #[v] w (EndsPost ls w) := by
 have HL := Hd h
 obtain ⟨b,o,c,rfl,h2,h3,-⟩ := h
 have hlen : ls.length ≤ 9223372036854775807 := by unfold maxLen at h3;omega
 clear h2 h3
 go_enter Tryz.func96,Tryz.ntmps96
 go_wp2_with fail
 go_loopw [3,12] (fun vs i wr => ∃ m : Nat,m ≤ ls.length ∧ i = .int .i64 m ∧ OwnE wr w.heap.size vs (endsL (ls.take m)) ∧ Below w.heap.size w wr) (fun _ i _ => ls.length - (intOf i).toNat)
 case atStart => exact ⟨0,Nat.zero_le _,rfl,owne_none _ _,Below.refl _ _⟩
 case round =>
  obtain ⟨m,hm,rfl,hO,hB⟩ := hrel
  have HO := Hd hO;have HB := Hd hB
  clear hO hB
  by_cases hlt : m < ls.length
  ·obtain ⟨b',o',c',e,-,-,hc⟩ := HL.out
   injection e with e1 e2 e3
   injection e1 with e1
   injection e1 with e1 e4
   subst e1 e4 e3
   obtain ⟨u,hu0,hr⟩ := hc m hlt
   have hu := (HB.out.cell (World.block_lt_of_cell? w _ hu0)).trans hu0
   clear hu0
   have hEL := endsL_take ls m hlt
   have hTL := totL_take ls m hlt
   have hEn := endsL_length (ls.take m)
   obtain ⟨l,hl⟩ : ∃ l,ls[m] = l := ⟨_,rfl⟩
   rw [hl] at hr hEL hTL
   have HR := Hd hr;have HEL := Hd hEL
   obtain ⟨a,cl,rfl,g2,g3,-⟩ := hr
   have hll : l.length ≤ 9223372036854775807 := by unfold maxLen at g3;omega
   clear hl hc hEL g2 g3
   go_wp2_with fail
   go_loopw [3,18] (fun vs i wy => ∃ k : Nat,k ≤ l.length ∧ i = .int .i64 k ∧ OwnE wy w.heap.size vs (endsL (ls.take m) ++ endsR (l.take k)) ∧ Below w.heap.size w wy) (fun _ i _ => l.length - (intOf i).toNat)
   case atStart => exact ⟨0,Nat.zero_le _,rfl,by rw [List.take_zero];simpa [endsR] using HO.out,HB.out⟩
   case round =>
    obtain ⟨k,hk,rfl,hO2,hB2⟩ := hrel
    have HO2 := Hd hO2;have HB2 := Hd hB2
    clear hO2 hB2
    by_cases hkl : k < l.length
    ·obtain ⟨a',cq,e,q2,q3,q4,q5,q6⟩ := HR.out.below HB2.out
     injection e with e1 e2 e3
     subst e1 e3
     rcases q5 with q5 | ⟨b1,o1,rfl,hc⟩
     ·rw [q5] at hkl
      simp at hkl
     obtain ⟨x1,x2,hx,hsp,c1,c2⟩ := rgs_at hc k hkl
     have hsE := endsR_take l k (x1,x2) hsp
     have HSE := Hd hsE
     have hkn := endsR_length (l.take k)
     rw [List.length_take] at hkn
     clear hx hsp hc hsE q6
     go_upto_region 8 with (fail)
     go_big_quiet (fail)
     have hBn : Below wr.heap.size wr (((wr.alloc (.cells #[.int .i32 x1,.int .i32 x2] 51)).drewN nq)) := below_drewNr ((Below.refl _ _).alloc (Nat.le_refl _) _) nq
     obtain ⟨wn,hwn⟩ : ∃ wn,((wr.alloc (.cells #[.int .i32 x1,.int .i32 x2] 51)).drewN nq) = wn := ⟨_,rfl⟩
     obtain ⟨y1,hy1⟩ : ∃ y1 : Int,(if x1 < 0 then 0 else x1) = y1 := ⟨_,rfl⟩
     obtain ⟨y2,hy2⟩ : ∃ y2 : Int,(if 1114111 < x2 then 1114111 else x2) = y2 := ⟨_,rfl⟩
     rw [hwn] at hBn ⊢
     rw [hy1,hy2]
     have hER : endR (x1,x2) = if y1 ≤ y2 then [(y1,1),(y2 + 1,-1)] else [] := by
      unfold endR
      simp only
      rw [show max x1 0 = y1 by split at hy1 <;> omega,show min x2 1114111 = y2 by split at hy2 <;> omega]
     have HER := Hd hER
     have hb2 : y2 ≤ 1114111 := by split at hy2 <;> omega
     have hb1 : 0 ≤ y1 := by split at hy1 <;> omega
     have HB3 := Hd (HB2.out.trans (hBn.mono HB2.out.size))
     have hsz0 := HB2.out.size
     have HO3 := Hd (HO2.out.below hBn)
     have hsz := HB3.out.size
     have hOl : (endsL (ls.take m) ++ endsR (l.take k)).length + 2 ≤ 8796093022208 := by rw [List.length_append];omega
     have HOL := Hd hOl
     clear hwn hy1 hy2 hER hBn c1 c2 hOl
     by_cases hxy : y1 ≤ y2
     ·go_wp2_with (at_builtin;refine append_two rfl (.tmp 31) (.tmp 37) rfl w.heap.size _ _ rfl (HO3.out.below ((Below.refl _ _).alloc (Nat.le_refl _) _)) wn.heap.size (y1,1) (y2 + 1,-1) rfl (two_new wn y1 1 (y2 + 1) (-1)) HOL.out ?c1 ?_)
      case c1 => first | omega | (simp;omega)
      intro v3 w3 ho3 hg3
      have HB4 := Hd ((HB3.out.alloc HB3.out.size _).grown hg3 (by simp;omega) (fun j hj => (World.ownsRow.lt HO3.out j hj).1))
      have HO4 := Hd ho3
      clear ho3 hg3
      go_wp2
      go_roundw
      case rel => exact ⟨k + 1,by omega,by go_num,by rw [HSE.out,HER.out,if_pos hxy];first | exact HO4.out | (rw [← List.append_assoc];exact HO4.out),HB4.out⟩
      case measure => simp [intOf];omega
     ·go_wp2
      go_roundw
      case rel => exact ⟨k + 1,by omega,by go_num,by rw [HSE.out,HER.out,if_neg hxy,List.append_nil];exact HO3.out,HB3.out⟩
      case measure => simp [intOf];omega
    ·have e : l.take k = l := List.take_of_length_le (by omega)
     go_wp2
     go_roundw
     case rel => exact ⟨m + 1,by omega,by go_num,by rw [HEL.out];have := HO2.out;rw [e] at this;exact this,HB2.out⟩
     case measure => simp [intOf];omega
  ·have e : ls.take m = ls := List.take_of_length_le (by omega)
   have ho := HO.out
   rw [e] at ho
   have HO' := Hd ho
   clear ho e
   go_wp2
   go_ret
   exact ⟨_,rfl,HO'.out,HB.out⟩
theorem step_append_rgs {w : World} {ops : Array Oper} {o : Oper} {a : Act} {Kk : Act → World → Prop} {Q : Exit → Act → World → Prop} {E : Prop} (hgd : o.guard = none) (x y : Operand)
  (ho : o.op = .call { callee := .builtin .append,args := #[x,y],argTypes := #[26,26] })
  (base : Nat) (v : Value) (O : List (Int × Int)) (hs : a.eval x = v) (hown : OwnR w base v O)
  (g : Nat) (x1 x2 : Int) (hx : a.eval y = .slice (some ⟨g,0,none⟩) 1 1) (ht : Rgs w (.slice (some ⟨g,0,none⟩) 1 1) [(x1,x2)]) (hn : O.length + 1 ≤ 17592186044416) (hbase : base ≤ w.heap.size)
  (h : ∀ v' w',OwnR w' base v' (O ++ [(x1,x2)]) → w.grownBy w' v.ownBlock → Kk (a.put o.dst v') w') :
  if Region.wanted o (yielded ops a.tmps) = true then Oper.wp Tryz.prog o a w Kk Q else E := by
 have hw : Region.wanted o (yielded ops a.tmps) = true := by
  unfold Region.wanted
  rw [hgd]
 rw [if_pos hw]
 obtain ⟨i,hi,hz,hsize,hby⟩ := info_parts info_range
 obtain ⟨A',c',h1,h2,h3,h4,h5,h6⟩ := ht
 have hall : AllI32 (O ++ [(x1,x2)]) := fun r hr => (List.mem_append.1 hr).elim (hown.2 r) (h6 r)
 injection h1 with e1 e2 e3
 subst e1 e3
 refine wp_append_own w x y 26 ho base 51 i (.agg #[.int .i32 0,.int .i32 0]) 2 8 Tryz.underlying26 hi hz hsize hby rfl (by omega) v O.length (cellsR O) hs hown.1 ⟨g,0,none⟩ 1 1 (cellsR [(x1,x2)]) hx (by rw [cellsR_length];rfl) ?_ (cellsR_one _) (by unfold maxLen;omega) (by omega) hbase (fun v' w' g1 g2 _ => h v' w' ⟨?_,hall⟩ g2)
 ·intro j u hu
  obtain ⟨q,hq,hh⟩ := cellsR_get [(x1,x2)] j u hu
  rcases h5 with h5 | ⟨b,off,e,hc⟩
  ·cases h5
  ·have e := Option.some.inj e
   have e' := congrArg Addr.off e
   replace e := congrArg Addr.block e
   dsimp only at e e'
   subst e e'
   rw [addr_plus]
   rcases hh with ⟨rfl,rfl⟩ | ⟨rfl,rfl⟩
   ·exact (hc q hq).1
   ·have := (hc q hq).2
    rw [show 0 + (q * 2 + 1) = 0 + q * 2 + 1 by omega]
    exact this
 ·rw [cellsR_append,List.length_append]
  exact g1
def nameR (b : List UInt8) : Option (List (Int × Int)) :=
 if b = [76,117] then some [(65,90),(192,214),(216,222),(913,929),(931,937),(1040,1071)] else
 if b = [76,108] then some [(97,122),(223,246),(248,255),(945,969),(1072,1103)] else
 if b = [76] then some [(65,90),(97,122),(170,170),(186,186),(192,214),(216,246),(248,255),(913,929),(931,937),(945,969),(1040,1103),(19968,40959)] else
 if b = [78,100] then some [(48,57),(1632,1641)] else
 if b = [78] then some [(48,57),(178,179),(185,185),(188,190),(1632,1641),(8544,8584)] else
 if b = [80] then some [(33,35),(37,42),(44,47),(58,59),(63,64),(91,93),(95,95),(123,123),(125,125),(161,161),(167,167),(171,171),(182,183),(187,187),(191,191)] else
 if b = [83] then some [(36,36),(43,43),(60,62),(94,94),(96,96),(124,124),(126,126),(162,166),(168,169),(172,172),(174,177),(180,180),(184,184),(215,215),(247,247)] else
 if b = [90] then some [(32,32),(160,160),(8192,8202),(8232,8233),(8239,8239),(12288,12288)] else
 if b = [67,99] then some [(0,31),(127,159)] else
 if b = [76,97,116,105,110] then some [(65,90),(97,122),(170,170),(186,186),(192,214),(216,246),(248,591),(8490,8491)] else
 if b = [71,114,101,101,107] then some [(880,883),(885,887),(890,893),(895,895),(900,900),(902,902),(904,906),(908,908),(910,929),(931,993)] else
 if b = [67,121,114,105,108,108,105,99] then some [(1024,1156),(1159,1327)] else
 if b = [72,97,110] then some [(19968,40959)] else
 none
def NamedPost (s : ByteArray) (w : World) (e : Ending) (w' : World) : Prop :=
 Below w.heap.size w w' ∧ ((nameR s.toList = none ∧ e = .returned (.tuple #[.slice none 0 0,.bool false])) ∨ ∃ v l,nameR s.toList = some l ∧ e = .returned (.tuple #[v,.bool true]) ∧ OwnR w' w.heap.size v l)
def groupsR : List (List Int) := [[75,107,8490],[83,115,383],[197,229,8491],[181,924,956],[931,962,963],[223,7838],[255,376]]
def greatL : List (Int × Int) := [(65,90),(192,214),(216,222),(913,929),(932,937),(1040,1071)]
def greatB (c : Int) : Bool := !(decide (c = 75) || decide (c = 83) || decide (c = 197) || decide (c = 924)) && greatL.any fun r => decide (r.1 ≤ c) && decide (c ≤ r.2)
def orbR (c : Int) : List Int :=
 if c < 0 ∨ 1114111 < c then [] else
 match groupsR.find? (fun g => g.contains c) with
 | some g => g
 | none => if greatB c then [c,c + 32] else if 32 ≤ c ∧ greatB (c - 32) = true then [c - 32,c] else [c]
theorem greatB_bound {c : Int} (h : greatB c = true) : 65 ≤ c ∧ c ≤ 1071 := by
 unfold greatB greatL at h
 simp at h
 omega
def RiseN (l : List Int) : Prop := l.Pairwise (· < ·)
def RunesPost (l : List Int) (w : World) (e : Ending) (w' : World) : Prop := ∃ v,e = .returned v ∧ OwnN w' w.heap.size v l ∧ Below w.heap.size w w'
theorem groups_rise : ∀ g ∈ groupsR,RiseN g ∧ g.length ≤ 3 := by unfold groupsR RiseN;decide
theorem find_miss {c : Int} (hN : ∀ q ∈ groupsR,c ∉ q) : groupsR.find? (fun g => g.contains c) = none :=
 List.find?_eq_none.2 (fun q hq => by simpa using hN q hq)
end Go.Proofs.YthnddabcmhplkaaGreatDoor
namespace Go.Proofs.YthnddabcmhplkaaGreatDoor
theorem great_iff (c : Int) : greatB c = true ↔ (¬ (c = 75 ∨ c = 83 ∨ c = 197 ∨ c = 924)) ∧ ((65 ≤ c ∧ c ≤ 90) ∨ (192 ≤ c ∧ c ≤ 214) ∨ (216 ≤ c ∧ c ≤ 222) ∨ (913 ≤ c ∧ c ≤ 929) ∨ (932 ≤ c ∧ c ≤ 937) ∨ (1040 ≤ c ∧ c ≤ 1071)) := by
 unfold greatB greatL
 simp only [List.any_cons,List.any_nil,Bool.or_false,Bool.and_eq_true,Bool.or_eq_true,decide_eq_true_eq,Bool.not_eq_true',Bool.or_eq_false_iff,decide_eq_false_iff_not]
 omega
def InG (c : Int) : Prop := c = 75 ∨ c = 107 ∨ c = 8490 ∨ c = 83 ∨ c = 115 ∨ c = 383 ∨ c = 197 ∨ c = 229 ∨ c = 8491 ∨ c = 181 ∨ c = 924 ∨ c = 956 ∨ c = 931 ∨ c = 962 ∨ c = 963 ∨ c = 223 ∨ c = 7838 ∨ c = 255 ∨ c = 376
theorem inG_of {c : Int} {g : List Int} (hg : g ∈ groupsR) (hc : c ∈ g) : InG c := by
 unfold groupsR at hg
 simp only [List.mem_cons,List.not_mem_nil,or_false] at hg
 unfold InG
 rcases hg with rfl | rfl | rfl | rfl | rfl | rfl | rfl <;> simp at hc <;> omega
theorem find_of_inG {c : Int} (h : InG c) : ∃ g ∈ groupsR,c ∈ g := by
 unfold InG at h
 rcases h with rfl | rfl | rfl | rfl | rfl | rfl | rfl | rfl | rfl | rfl | rfl | rfl | rfl | rfl | rfl | rfl | rfl | rfl | rfl <;> decide
theorem find_none {c : Int} (h : ¬ InG c) : groupsR.find? (fun g => g.contains c) = none := find_miss fun q hq hc => h (inG_of hq hc)
theorem group_find : ∀ g ∈ groupsR,∀ c ∈ g,groupsR.find? (fun g => g.contains c) = some g := by unfold groupsR;decide
theorem orb_none {c : Int} (h : c < 0 ∨ 1114111 < c) : orbR c = [] := by unfold orbR;rw [if_pos h]
theorem orb_group {c : Int} {g : List Int} (hg : g ∈ groupsR) (hc : c ∈ g) : orbR c = g := by
 have hb := inG_of hg hc
 unfold InG at hb
 unfold orbR
 rw [if_neg (by omega),group_find g hg c hc]
theorem orb_plain {c : Int} (h0 : 0 ≤ c) (h1 : c ≤ 1114111) (h : ¬ InG c) : orbR c = if greatB c then [c,c + 32] else if 32 ≤ c ∧ greatB (c - 32) = true then [c - 32,c] else [c] := by
 unfold orbR
 rw [if_neg (by omega),find_none h]
theorem orb_cases (c : Int) (h0 : 0 ≤ c) (h1 : c ≤ 1114111) :
  (∃ g ∈ groupsR,c ∈ g ∧ orbR c = g) ∨ (¬ InG c ∧ greatB c = true ∧ orbR c = [c,c + 32]) ∨ (¬ InG c ∧ greatB c = false ∧ 32 ≤ c ∧ greatB (c - 32) = true ∧ orbR c = [c - 32,c]) ∨ (¬ InG c ∧ greatB c = false ∧ ¬ (32 ≤ c ∧ greatB (c - 32) = true) ∧ orbR c = [c]) := by
 by_cases hG : InG c
 ·obtain ⟨g,hg,hc⟩ := find_of_inG hG
  exact .inl ⟨g,hg,hc,orb_group hg hc⟩
 ·have hp := orb_plain h0 h1 hG
  by_cases hg : greatB c = true
  ·rw [if_pos hg] at hp
   exact .inr (.inl ⟨hG,hg,hp⟩)
  ·rw [if_neg hg] at hp
   have hg' : greatB c = false := by simpa using hg
   by_cases hs : 32 ≤ c ∧ greatB (c - 32) = true
   ·rw [if_pos hs] at hp
    exact .inr (.inr (.inl ⟨hG,hg',hs.1,hs.2,hp⟩))
   ·rw [if_neg hs] at hp
    exact .inr (.inr (.inr ⟨hG,hg',hs,hp⟩))
theorem orb_self (c : Int) (h0 : 0 ≤ c) (h1 : c ≤ 1114111) : c ∈ orbR c := by
 rcases orb_cases c h0 h1 with ⟨g,_,hc,e⟩ | ⟨_,_,e⟩ | ⟨_,_,_,_,e⟩ | ⟨_,_,_,e⟩ <;> rw [e] <;> first | exact hc | simp
theorem orb_rune (c : Int) (h0 : 0 ≤ c) (h1 : c ≤ 1114111) : ∀ d ∈ orbR c,0 ≤ d ∧ d ≤ 1114111 := by
 intro d hd
 rcases orb_cases c h0 h1 with ⟨g,hg,hc,e⟩ | ⟨_,hg,e⟩ | ⟨_,_,h32,hg,e⟩ | ⟨_,_,_,e⟩ <;> rw [e] at hd
 ·have := inG_of hg hd
  unfold InG at this
  omega
 ·have := greatB_bound hg
  simp at hd
  omega
 ·have := greatB_bound hg
  simp at hd
  omega
 ·simp at hd
  omega
theorem orb_len (c : Int) : (orbR c).length ≤ 3 := by
 by_cases h : 0 ≤ c ∧ c ≤ 1114111
 ·rcases orb_cases c h.1 h.2 with ⟨g,hg,hc,e⟩ | ⟨_,hg,e⟩ | ⟨_,_,h32,hg,e⟩ | ⟨_,_,_,e⟩ <;> rw [e]
  ·exact (groups_rise g hg).2
  ·simp
  ·simp
  ·simp
 ·rw [orb_none (by omega)]
  simp
theorem orb_same (c d : Int) (h : d ∈ orbR c) : orbR d = orbR c := by
 by_cases hc : 0 ≤ c ∧ c ≤ 1114111
 ·rcases orb_cases c hc.1 hc.2 with ⟨g,hg,hcg,e⟩ | ⟨hi,hg,e⟩ | ⟨hi,hgf,h32,hg,e⟩ | ⟨_,_,_,e⟩ <;> rw [e] at h ⊢
  ·exact orb_group hg h
  ·have hb := greatB_bound hg
   have hgi := (great_iff c).1 hg
   simp at h
   rcases h with rfl | rfl
   ·exact e
   ·have hn : ¬ InG (c + 32) := by
     unfold InG at hi ⊢
     omega
    have hng : greatB (c + 32) = false := by
     cases h : greatB (c + 32)
     ·rfl
     ·have := (great_iff _).1 h
      omega
    have hs : c + 32 - 32 = c := by omega
    rw [orb_plain (by omega) (by omega) hn,hng,hs,hg]
    simp
    omega
  ·have hb := greatB_bound hg
   have hgi := (great_iff _).1 hg
   simp at h
   rcases h with rfl | rfl
   ·have hn : ¬ InG (c - 32) := by
     unfold InG at hi ⊢
     omega
    have hs : c - 32 + 32 = c := by omega
    rw [orb_plain (by omega) (by omega) hn,hg,hs]
    simp
   ·exact e
  ·simp at h
   rw [h]
   exact e
 ·rw [orb_none (by omega)] at h
  simp at h
def FoldP (l : List (Int × Int)) (c : Int) : Prop := ∃ d,HasR l d ∧ c ∈ orbR d
end Go.Proofs.YthnddabcmhplkaaGreatDoor
namespace Go.Proofs.YthnddabcmhplkaaGreatDoor
open Go Go.RowKit
def aheadR (c : Int) : List (Int × Int) → List (Int × Int)
 | [] => [(c,c)]
 | r :: l => if c + 1 = r.1 then (c,r.2) :: l else (c,c) :: r :: l
def scanR (p : Int → Bool) : Nat → Int → List (Int × Int)
 | 0,_ => []
 | n + 1,c => if p c then aheadR c (scanR p n (c + 1)) else scanR p n (c + 1)
def setB (p : Int → Bool) : List (Int × Int) := scanR p 1114112 0
theorem from_mono : ∀ {l : List (Int × Int)} {a b : Int},a ≤ b → RightFrom b l → RightFrom a l
 | [],_,_,_,_ => trivial
 | _ :: _,_,_,h,⟨h1,h2,h3,h4⟩ => ⟨by omega,h2,h3,h4⟩
theorem ahead_right {c : Int} {l : List (Int × Int)} (h : RightFrom (c + 1) l) (hc : c ≤ 1114111) : RightFrom c (aheadR c l) := by
 cases l with
 | nil => exact ⟨Int.le_refl _,Int.le_refl _,hc,trivial⟩
 | cons r l =>
  obtain ⟨h1,h2,h3,h4⟩ := h
  by_cases e : c + 1 = r.1
  ·rw [show aheadR c (r :: l) = (c,r.2) :: l from if_pos e]
   exact ⟨Int.le_refl _,by simp only;omega,h3,h4⟩
  ·rw [show aheadR c (r :: l) = (c,c) :: r :: l from if_neg e]
   exact ⟨Int.le_refl _,Int.le_refl _,hc,by simp only;omega,h2,h3,h4⟩
theorem scan_right (p : Int → Bool) : ∀ (n : Nat) (c : Int),0 ≤ c → c + n ≤ 1114112 → RightFrom c (scanR p n c)
 | 0,_,_,_ => trivial
 | n + 1,c,h0,h1 => by
  have h := scan_right p n (c + 1) (by omega) (by omega)
  unfold scanR
  split
  ·exact ahead_right h (by omega)
  ·exact from_mono (by omega) h
theorem ahead_has (c d : Int) (l : List (Int × Int)) (h0 : 0 ≤ c) (h1 : c ≤ 1114111) (hl : RightFrom (c + 1) l) : HasR (aheadR c l) d ↔ d = c ∨ HasR l d := by
 cases l with
 | nil =>
  unfold aheadR HasR
  simp only [List.mem_singleton,exists_eq_left,List.not_mem_nil,false_and,exists_false,and_false,or_false]
  omega
 | cons r l =>
  obtain ⟨h2,h3,h4,-⟩ := hl
  by_cases e1 : c + 1 = r.1
  ·rw [show aheadR c (r :: l) = (c,r.2) :: l from if_pos e1]
   unfold HasR
   simp only [List.mem_cons,exists_eq_or_imp]
   constructor
   ·rintro ⟨a,b,⟨e,g⟩ | g⟩
    ·by_cases hd : d = c
     ·exact .inl hd
     ·exact .inr ⟨a,b,.inl ⟨by omega,g⟩⟩
    ·exact .inr ⟨a,b,.inr g⟩
   ·rintro (rfl | ⟨a,b,⟨e,g⟩ | g⟩)
    ·exact ⟨h0,h1,.inl ⟨Int.le_refl _,by omega⟩⟩
    ·exact ⟨a,b,.inl ⟨by omega,g⟩⟩
    ·exact ⟨a,b,.inr g⟩
  ·rw [show aheadR c (r :: l) = (c,c) :: r :: l from if_neg e1]
   unfold HasR
   simp only [List.mem_cons,exists_eq_or_imp]
   constructor
   ·rintro ⟨a,b,⟨e,g⟩ | g⟩
    ·exact .inl (by omega)
    ·exact .inr ⟨a,b,g⟩
   ·rintro (rfl | ⟨a,b,g⟩)
    ·exact ⟨h0,h1,.inl ⟨Int.le_refl _,Int.le_refl _⟩⟩
    ·exact ⟨a,b,.inr g⟩
theorem scan_has (p : Int → Bool) (d : Int) : ∀ (n : Nat) (c : Int),0 ≤ c → c + n ≤ 1114112 → (HasR (scanR p n c) d ↔ c ≤ d ∧ d < c + n ∧ p d = true)
 | 0,c,_,_ => by
  unfold scanR HasR
  simp only [List.not_mem_nil,false_and,exists_false,and_false,false_iff]
  omega
 | n + 1,c,h0,h1 => by
  have h := scan_has p d n (c + 1) (by omega) (by omega)
  have hr := scan_right p n (c + 1) (by omega) (by omega)
  unfold scanR
  by_cases hp : p c = true
  ·rw [if_pos hp,ahead_has c d _ h0 (by omega) hr,h]
   constructor
   ·rintro (rfl | ⟨a,b,g⟩)
    ·exact ⟨Int.le_refl _,by omega,hp⟩
    ·exact ⟨by omega,by omega,g⟩
   ·rintro ⟨a,b,g⟩
    by_cases hd : d = c
    ·exact .inl hd
    ·exact .inr ⟨by omega,by omega,g⟩
  ·rw [if_neg hp,h]
   constructor
   ·rintro ⟨a,b,g⟩
    exact ⟨by omega,by omega,g⟩
   ·rintro ⟨a,b,g⟩
    have : d ≠ c := by rintro rfl;exact hp g
    exact ⟨by omega,by omega,g⟩
theorem setB_right (p : Int → Bool) : RightR (setB p) := scan_right p 1114112 0 (Int.le_refl _) (by decide)
theorem setB_has (p : Int → Bool) (c : Int) : HasR (setB p) c ↔ 0 ≤ c ∧ c ≤ 1114111 ∧ p c = true := by
 unfold setB
 rw [scan_has p c 1114112 0 (Int.le_refl _) (by decide)]
 constructor <;> rintro ⟨a,b,g⟩ <;> exact ⟨a,by omega,g⟩
theorem setB_is {p : Int → Bool} {l : List (Int × Int)} (h : RightR l) (hp : ∀ c,HasR l c ↔ 0 ≤ c ∧ c ≤ 1114111 ∧ p c = true) : l = setB p :=
 right_eq _ _ h (setB_right p) fun c => by rw [hp,setB_has]
def hasB (l : List (Int × Int)) (c : Int) : Bool := decide (0 ≤ c) && decide (c ≤ 1114111) && l.any fun r => decide (r.1 ≤ c) && decide (c ≤ r.2)
theorem hasB_iff (l : List (Int × Int)) (c : Int) : hasB l c = true ↔ HasR l c := by
 unfold hasB HasR
 simp only [Bool.and_eq_true,decide_eq_true_eq,List.any_eq_true,and_assoc]
def foldB (l : List (Int × Int)) (c : Int) : Bool := (orbR c).any (hasB l)
theorem foldB_iff (l : List (Int × Int)) (c : Int) : foldB l c = true ↔ FoldP l c := by
 unfold foldB FoldP
 rw [List.any_eq_true]
 constructor
 ·rintro ⟨d,hd,h⟩
  refine ⟨d,(hasB_iff l d).1 h,?_⟩
  rw [orb_same c d hd]
  by_cases hc : c < 0 ∨ 1114111 < c
  ·rw [orb_none hc] at hd
   cases hd
  ·exact orb_self c (by omega) (by omega)
 ·rintro ⟨d,h,hc⟩
  refine ⟨d,?_,(hasB_iff l d).2 h⟩
  rw [orb_same d c hc]
  exact orb_self d h.1 h.2.1
def Post2 (o : Option (List (Int × Int))) (w : World) (e : Ending) (w' : World) : Prop :=
 Below w.heap.size w w' ∧ ((o = none ∧ e = .returned (.tuple #[.slice none 0 0,.bool false])) ∨ ∃ v l,o = some l ∧ e = .returned (.tuple #[v,.bool true]) ∧ OwnR w' w.heap.size v l)
def notR (l : List (Int × Int)) : List (Int × Int) := notFrom 0 l
theorem notR_right {l : List (Int × Int)} (h : RightR l) : RightR (notR l) := not_right l 0 h
theorem notR_has {l : List (Int × Int)} (h : RightR l) (c : Int) : HasR (notR l) c ↔ 0 ≤ c ∧ c ≤ 1114111 ∧ ¬ HasR l c := not_has l 0 c (Int.le_refl _) h
theorem notR_is {l k : List (Int × Int)} (h : RightR l) (hk : RightR k) (hP : ∀ c,HasR k c ↔ (0 ≤ c ∧ c ≤ 1114111 ∧ ¬ HasR l c)) : k = notR l :=
 right_eq _ _ hk (notR_right h) fun c => by rw [hP,notR_has h]
theorem notR_twice {l : List (Int × Int)} (h : RightR l) : notR (notR l) = l :=
 right_eq _ _ (notR_right (notR_right h)) h fun c => by
  rw [notR_has (notR_right h),notR_has h]
  constructor
  ·rintro ⟨h0,h1,h2⟩
   exact Classical.byContradiction fun hh => h2 ⟨h0,h1,hh⟩
  ·intro hh
   exact ⟨hh.1,hh.2.1,fun x => x.2.2 hh⟩
def dR : List (Int × Int) := [(48,57)]
def sR : List (Int × Int) := [(9,10),(12,13),(32,32)]
def wR : List (Int × Int) := [(48,57),(65,90),(95,95),(97,122)]
def perlR (c : Int) : Option (List (Int × Int)) :=
 if c = 100 then some dR else if c = 115 then some sR else if c = 119 then some wR else if c = 68 then some (notR dR) else if c = 83 then some (notR sR) else if c = 87 then some (notR wR) else none
def plainR (b : List UInt8) : Option (List (Int × Int)) :=
 if b = [97,108,110,117,109] then some [(48,57),(65,90),(97,122)] else
 if b = [97,108,112,104,97] then some [(65,90),(97,122)] else
 if b = [97,115,99,105,105] then some [(0,127)] else
 if b = [98,108,97,110,107] then some [(9,9),(32,32)] else
 if b = [99,110,116,114,108] then some [(0,31),(127,127)] else
 if b = [100,105,103,105,116] then some [(48,57)] else
 if b = [103,114,97,112,104] then some [(33,126)] else
 if b = [108,111,119,101,114] then some [(97,122)] else
 if b = [112,114,105,110,116] then some [(32,126)] else
 if b = [112,117,110,99,116] then some [(33,47),(58,64),(91,96),(123,126)] else
 if b = [115,112,97,99,101] then some [(9,13),(32,32)] else
 if b = [117,112,112,101,114] then some [(65,90)] else
 if b = [119,111,114,100] then some [(48,57),(65,90),(95,95),(97,122)] else
 if b = [120,100,105,103,105,116] then some [(48,57),(65,70),(97,102)] else
 none
def posixR (b : List UInt8) : Option (List (Int × Int)) := if b.head? = some 94 then (plainR b.tail).map notR else plainR b
def property1 (b : List UInt8) : Option (List (Int × Int)) := if b = [65,110,121] then some (notR []) else nameR b
def property2 (b : List UInt8) (n : Bool) : Option (List (Int × Int)) := if n then (property1 b).map notR else property1 b
def propR (b : List UInt8) (n : Bool) : Option (List (Int × Int)) := if b.head? = some 94 then property2 b.tail (!n) else property2 b n
def dotR (all : Bool) : List (Int × Int) := if all then notR [] else notR [(10,10)]
theorem plain_right {b : List UInt8} {l : List (Int × Int)} (h : plainR b = some l) : RightR l := by
 unfold plainR at h
 by_cases h0 : b = [97,108,110,117,109]
 ·rw [if_pos h0] at h
  injection h with h
  rw [← h]
  simp [RightR,RightFrom]
 rw [if_neg h0] at h
 by_cases h1 : b = [97,108,112,104,97]
 ·rw [if_pos h1] at h
  injection h with h
  rw [← h]
  simp [RightR,RightFrom]
 rw [if_neg h1] at h
 by_cases h2 : b = [97,115,99,105,105]
 ·rw [if_pos h2] at h
  injection h with h
  rw [← h]
  simp [RightR,RightFrom]
 rw [if_neg h2] at h
 by_cases h3 : b = [98,108,97,110,107]
 ·rw [if_pos h3] at h
  injection h with h
  rw [← h]
  simp [RightR,RightFrom]
 rw [if_neg h3] at h
 by_cases h4 : b = [99,110,116,114,108]
 ·rw [if_pos h4] at h
  injection h with h
  rw [← h]
  simp [RightR,RightFrom]
 rw [if_neg h4] at h
 by_cases h5 : b = [100,105,103,105,116]
 ·rw [if_pos h5] at h
  injection h with h
  rw [← h]
  simp [RightR,RightFrom]
 rw [if_neg h5] at h
 by_cases h6 : b = [103,114,97,112,104]
 ·rw [if_pos h6] at h
  injection h with h
  rw [← h]
  simp [RightR,RightFrom]
 rw [if_neg h6] at h
 by_cases h7 : b = [108,111,119,101,114]
 ·rw [if_pos h7] at h
  injection h with h
  rw [← h]
  simp [RightR,RightFrom]
 rw [if_neg h7] at h
 by_cases h8 : b = [112,114,105,110,116]
 ·rw [if_pos h8] at h
  injection h with h
  rw [← h]
  simp [RightR,RightFrom]
 rw [if_neg h8] at h
 by_cases h9 : b = [112,117,110,99,116]
 ·rw [if_pos h9] at h
  injection h with h
  rw [← h]
  simp [RightR,RightFrom]
 rw [if_neg h9] at h
 by_cases h10 : b = [115,112,97,99,101]
 ·rw [if_pos h10] at h
  injection h with h
  rw [← h]
  simp [RightR,RightFrom]
 rw [if_neg h10] at h
 by_cases h11 : b = [117,112,112,101,114]
 ·rw [if_pos h11] at h
  injection h with h
  rw [← h]
  simp [RightR,RightFrom]
 rw [if_neg h11] at h
 by_cases h12 : b = [119,111,114,100]
 ·rw [if_pos h12] at h
  injection h with h
  rw [← h]
  simp [RightR,RightFrom]
 rw [if_neg h12] at h
 by_cases h13 : b = [120,100,105,103,105,116]
 ·rw [if_pos h13] at h
  injection h with h
  rw [← h]
  simp [RightR,RightFrom]
 rw [if_neg h13] at h
 cases h
theorem name_right {b : List UInt8} {l : List (Int × Int)} (h : nameR b = some l) : RightR l := by
 unfold nameR at h
 by_cases h0 : b = [76,117]
 ·rw [if_pos h0] at h
  injection h with h
  rw [← h]
  simp [RightR,RightFrom]
 rw [if_neg h0] at h
 by_cases h1 : b = [76,108]
 ·rw [if_pos h1] at h
  injection h with h
  rw [← h]
  simp [RightR,RightFrom]
 rw [if_neg h1] at h
 by_cases h2 : b = [76]
 ·rw [if_pos h2] at h
  injection h with h
  rw [← h]
  simp [RightR,RightFrom]
 rw [if_neg h2] at h
 by_cases h3 : b = [78,100]
 ·rw [if_pos h3] at h
  injection h with h
  rw [← h]
  simp [RightR,RightFrom]
 rw [if_neg h3] at h
 by_cases h4 : b = [78]
 ·rw [if_pos h4] at h
  injection h with h
  rw [← h]
  simp [RightR,RightFrom]
 rw [if_neg h4] at h
 by_cases h5 : b = [80]
 ·rw [if_pos h5] at h
  injection h with h
  rw [← h]
  simp [RightR,RightFrom]
 rw [if_neg h5] at h
 by_cases h6 : b = [83]
 ·rw [if_pos h6] at h
  injection h with h
  rw [← h]
  simp [RightR,RightFrom]
 rw [if_neg h6] at h
 by_cases h7 : b = [90]
 ·rw [if_pos h7] at h
  injection h with h
  rw [← h]
  simp [RightR,RightFrom]
 rw [if_neg h7] at h
 by_cases h8 : b = [67,99]
 ·rw [if_pos h8] at h
  injection h with h
  rw [← h]
  simp [RightR,RightFrom]
 rw [if_neg h8] at h
 by_cases h9 : b = [76,97,116,105,110]
 ·rw [if_pos h9] at h
  injection h with h
  rw [← h]
  simp [RightR,RightFrom]
 rw [if_neg h9] at h
 by_cases h10 : b = [71,114,101,101,107]
 ·rw [if_pos h10] at h
  injection h with h
  rw [← h]
  simp [RightR,RightFrom]
 rw [if_neg h10] at h
 by_cases h11 : b = [67,121,114,105,108,108,105,99]
 ·rw [if_pos h11] at h
  injection h with h
  rw [← h]
  simp [RightR,RightFrom]
 rw [if_neg h11] at h
 by_cases h12 : b = [72,97,110]
 ·rw [if_pos h12] at h
  injection h with h
  rw [← h]
  simp [RightR,RightFrom]
 rw [if_neg h12] at h
 cases h
theorem nil_right : RightR [] := trivial
theorem property1_right {b : List UInt8} {l : List (Int × Int)} (h : property1 b = some l) : RightR l := by
 unfold property1 at h
 split at h
 ·injection h with h
  subst h
  exact notR_right nil_right
 ·exact name_right h
theorem property2_right {b : List UInt8} {n : Bool} {l : List (Int × Int)} (h : property2 b n = some l) : RightR l := by
 unfold property2 at h
 split at h
 ·obtain ⟨k,hk,rfl⟩ := Option.map_eq_some_iff.1 h
  exact notR_right (property1_right hk)
 ·exact property1_right h
theorem prop_right {b : List UInt8} {n : Bool} {l : List (Int × Int)} (h : propR b n = some l) : RightR l := by
 unfold propR at h
 split at h <;> exact property2_right h
theorem posix_right {b : List UInt8} {l : List (Int × Int)} (h : posixR b = some l) : RightR l := by
 unfold posixR at h
 split at h
 ·obtain ⟨k,hk,rfl⟩ := Option.map_eq_some_iff.1 h
  exact notR_right (plain_right hk)
 ·exact plain_right h
theorem perl_right {c : Int} {l : List (Int × Int)} (h : perlR c = some l) : RightR l := by
 have hd : RightR dR := by simp [dR,RightR,RightFrom]
 have hs : RightR sR := by simp [sR,RightR,RightFrom]
 have hw : RightR wR := by simp [wR,RightR,RightFrom]
 unfold perlR at h
 by_cases e1 : c = 100
 ·rw [if_pos e1] at h;injection h with h;rw [← h];exact hd
 rw [if_neg e1] at h
 by_cases e2 : c = 115
 ·rw [if_pos e2] at h;injection h with h;rw [← h];exact hs
 rw [if_neg e2] at h
 by_cases e3 : c = 119
 ·rw [if_pos e3] at h;injection h with h;rw [← h];exact hw
 rw [if_neg e3] at h
 by_cases e4 : c = 68
 ·rw [if_pos e4] at h;injection h with h;rw [← h];exact notR_right hd
 rw [if_neg e4] at h
 by_cases e5 : c = 83
 ·rw [if_pos e5] at h;injection h with h;rw [← h];exact notR_right hs
 rw [if_neg e5] at h
 by_cases e6 : c = 87
 ·rw [if_pos e6] at h;injection h with h;rw [← h];exact notR_right hw
 rw [if_neg e6] at h
 cases h
def perlsR (c : Int) : Option (Int × List (Int × Int) × Int) :=
 if ¬ placeI c = 0 then some (3,[],placeI c) else if c = 81 then some (4,[],0) else if 127 < c then none else
 match perlR c with
 | none => none
 | some l => some (2,l,0)
def escV (k r : Int) (v : Value) (a : Int) : Value := .agg #[.int .i64 k,.int .i32 r,v,.int .i64 a]
theorem own_set4 {w : World} {B b : Nat} {v : Value} {l : List (Int × Int)} (h : OwnR w B v l) (hB : ∀ g,v.ownBlock = some g → g ≠ b) (x0 x1 x2 x3 : Value) : OwnR (set4 w b x0 x1 x2 x3) B v l := by
 refine ⟨?_,h.2⟩
 rcases h.1.2 with ⟨rfl,h0⟩ | ⟨q,cap,cur,rfl,h1,hh,h2⟩
 ·exact ⟨h.1.1,.inl ⟨rfl,h0⟩⟩
 ·refine ⟨h.1.1,.inr ⟨q,cap,cur,rfl,h1,?_,h2⟩⟩
  rw [set4_other (hB q (by simp [Value.ownBlock]))]
  exact hh
theorem own_set3 {w : World} {B b : Nat} {v : Value} {l : List (Int × Int)} (h : OwnR w B v l) (hB : ∀ g,v.ownBlock = some g → g ≠ b) (x0 x1 x2 : Value) : OwnR (set3 w b x0 x1 x2) B v l := by
 refine ⟨?_,h.2⟩
 rcases h.1.2 with ⟨rfl,h0⟩ | ⟨q,cap,cur,rfl,h1,hh,h2⟩
 ·exact ⟨h.1.1,.inl ⟨rfl,h0⟩⟩
 ·refine ⟨h.1.1,.inr ⟨q,cap,cur,rfl,h1,?_,h2⟩⟩
  rw [set3_other (hB q (by simp [Value.ownBlock]))]
  exact hh
theorem own_ge {w : World} {B : Nat} {v : Value} {l : List (Int × Int)} (h : OwnR w B v l) : ∀ g,v.ownBlock = some g → B ≤ g := fun g hg => by
 rcases h.1.2 with ⟨rfl,_⟩ | ⟨q,cap,cur,rfl,h1,_⟩
 ·simp [Value.ownBlock] at hg
 ·simp [Value.ownBlock] at hg
  omega
def Ends2 (w : World) (v : Value) (l : List (Int × Int)) : Prop :=
 ∃ b,v = .slice (some ⟨b,0,none⟩) (l.length * 2) (l.length * 2) ∧ (∀ i (h : i < l.length),w.cell? ⟨b,i * 2,none⟩ = some (.int .i32 l[i].1) ∧ w.cell? ⟨b,i * 2 + 1,none⟩ = some (.int .i32 l[i].2)) ∧ AllI32 l
theorem ends2_lit (w : World) (l : List (Int × Int)) (n : Nat) (cs : Array Value) (hc : cs.toList = cellsR l) (hn : l.length * 2 = n) (hi : AllI32 l) : Ends2 (w.alloc (.cells cs 21)) (.slice (some ⟨w.heap.size,0,none⟩) n n) l := by
 subst hn
 refine ⟨w.heap.size,rfl,fun i h => ?_,hi⟩
 obtain ⟨h1,h2⟩ := cellsR_at l i h
 rw [cell_of_row _ _ _ _ _ _ (heap_alloc_new w _),cell_of_row _ _ _ _ _ _ (heap_alloc_new w _),← Array.getElem?_toList,← Array.getElem?_toList,hc]
 exact ⟨h1,h2⟩
theorem make_runs (c : Nat) (hc : c ≤ 1000000) :
  ∃ C : Array Value,C.size = c * 2 ∧ ∀ W : World,(Instr.makeSlice 26 (.int .i64 0) (.int .i64 (c : Int))).run Tryz.prog W = .ok (.slice (some ⟨W.heap.size,0,none⟩) 0 c) (W.alloc (.cells C 51)) := by
 obtain ⟨i,hi,h0,h1,h2⟩ := info_parts info_range
 refine ⟨madeCells (Value.agg #[.int .i32 0,.int .i32 0]).cells (c * 2),by rw [size_madeCells],fun W => ?_⟩
 have hr := run_make (P := Tryz.prog) W 26 51 i _ Tryz.underlying26 hi h0 .i64 .i64 0 c (Int.le_refl _) (by omega) (by rw [h2];omega) (by omega)
 simp only [Int.toNat_zero,Int.toNat_natCast,h1] at hr
 exact hr
theorem own_runs (W : World) (B c : Nat) (C : Array Value) (hB : B ≤ W.heap.size) (hC : C.size = c * 2) (hc : c ≤ 1000000) : OwnR (W.alloc (.cells C 51)) B (.slice (some ⟨W.heap.size,0,none⟩) 0 c) [] :=
 ⟨⟨rfl,.inr ⟨W.heap.size,c,C,rfl,hB,heap_alloc_new W _,Nat.zero_le _,by unfold maxLen;omega,hC,by simp [cellsR]⟩⟩,by simp [AllI32]⟩
theorem runs_any (v : Value) (l : List (Int × Int)) (w : World) (h : Ends2 w v l) (hn : l.length ≤ 1000) :
  Calls Tryz.prog 94 #[v] w fun e w' => ∃ v',e = .returned v' ∧ OwnR w' w.heap.size v' l ∧ Below w.heap.size w w' := by
 obtain ⟨b,rfl,h2,h3⟩ := h
 obtain ⟨n,hl⟩ : ∃ n,l.length * 2 = n := ⟨_,rfl⟩
 rw [hl]
 have H3 := Hd h3;have H2 := Hd h2;have HL := Hd hl
 clear h2 h3
 obtain ⟨C,hC,mk⟩ := make_runs l.length (by omega)
 have HO0 := Hd (own_runs w w.heap.size l.length C (Nat.le_refl _) hC (by omega))
 have hq : Int.tdiv (n : Int) 2 = (l.length : Int) := by
  rw [show (n : Int) = (l.length : Int) * 2 by omega]
  exact Int.mul_tdiv_cancel _ (by decide)
 clear hC hl
 go_enter Tryz.func94,Tryz.ntmps94
 go_wp2_with fail
 go_loopw [3,4] (fun vs i wr => ∃ m k : Nat,m ≤ l.length ∧ m * 2 = k ∧ i = .int .i64 k ∧ OwnR wr w.heap.size vs (l.take m) ∧ Below w.heap.size w wr) (fun _ i _ => n - (intOf i).toNat)
 case atStart => exact ⟨0,0,Nat.zero_le _,rfl,rfl,HO0.out,(Below.refl _ _).alloc (Nat.le_refl _) _⟩
 case round =>
  obtain ⟨m,k,hm,hk,rfl,hO,hB⟩ := hrel
  have HO := Hd hO;have HB := Hd hB
  have hl := HL.out
  clear hO hB
  by_cases hlt : m < l.length
  ·obtain ⟨c1w,c2w⟩ := H2.out m hlt
   obtain ⟨⟨x1,x2⟩,hx⟩ : ∃ x,l[m] = x := ⟨_,rfl⟩
   rw [hx,hk] at c1w c2w
   have hsp : l.take (m + 1) = l.take m ++ [(x1,x2)] := by rw [List.take_succ_eq_append_getElem hlt,hx]
   have hxi := H3.out (x1,x2) (by rw [← hx];exact List.getElem_mem hlt)
   have c1 := (HB.out.cell (World.block_lt_of_cell? w _ c1w)).trans c1w
   have c2 := (HB.out.cell (World.block_lt_of_cell? w _ c2w)).trans c2w
   have C1 := Hd c1w;have C2 := Hd c2w
   have HSP := Hd hsp;have HXI := Hd hxi;have HK := Hd hk
   have hsz := HB.out.size
   have kn : k < n := by omega
   have kn1 : k + 1 < n := by omega
   have i0 : (0 : Int) ≤ (k : Int) := by omega
   have i1 : (k : Int) < (n : Int) := by omega
   have i2 : (0 : Int) ≤ (k : Int) + 1 := by omega
   have i3 : (k : Int) + 1 < (n : Int) := by omega
   have hw1 : IntKind.i64.wrap ((k : Int) + 1) = (k : Int) + 1 := by rw [show (k : Int) + 1 = ((k + 1 : Nat) : Int) by omega];exact wrap_nat _ (by omega)
   have e2 : ((k : Int) + 1).toNat = k + 1 := by omega
   clear hsp hx hxi c1w c2w hk hl
   go_upto_region 5 with (fail)
   go_region_held3 (fun w' => w'.cell? ⟨b,k,none⟩ = some (.int .i32 x1) ∧ w'.cell? ⟨b,k + 1,none⟩ = some (.int .i32 x2)) (first | go_keep | exact ⟨c1,c2⟩ | (constructor <;> assumption)) (first | (refine step_append_rgs rfl (.tmp 15) (.tmp 26) rfl w.heap.size _ (l.take m) rfl (HO.out.below ((Below.refl _ wr).alloc (Nat.le_refl _) _).drew) wr.heap.size x1 x2 rfl ((rgs_new wr x1 x2 HXI.out.1 HXI.out.2).below (Below.refl _ _).drew) (by rw [List.length_take];omega) (by simp;omega) ?_;intro v3 w3 ho3 hg3;have hB3 := Hd (((HB.out.alloc HB.out.size _).drew).grown hg3 (by simp;omega) (fun j hj => (HO.out.1.lt j hj).1));have k1 := (hB3.out.cell (World.block_lt_of_cell? w _ C1.out)).trans C1.out;have k2 := (hB3.out.cell (World.block_lt_of_cell? w _ C2.out)).trans C2.out))
   have HO3 := Hd ho3
   clear ho3 hg3 k1 k2 c1 c2
   have hw2 : IntKind.i64.wrap ((k : Int) + 2) = (k : Int) + 2 := by rw [show (k : Int) + 2 = ((k + 2 : Nat) : Int) by omega];exact wrap_nat _ (by have hl := HL.out;omega)
   go_wp2
   go_roundw
   case rel =>
    have hl := HL.out
    exact ⟨m + 1,k + 2,by omega,by have := HK.out;omega,rfl,by rw [HSP.out];exact HO3.out,hB3.out⟩
   case measure =>
    have hl := HL.out
    simp only [intOf]
    omega
  ·have e : l.take m = l := List.take_of_length_le (by omega)
   have ho := HO.out
   rw [e] at ho
   have HO' := Hd ho
   have i1 : ¬ (k : Int) < (n : Int) := by omega
   clear ho e hk hl
   go_wp2
   go_ret
   exact ⟨_,rfl,HO'.out,HB.out⟩
def More (T : List (Int × Int)) (x f : Int) (M : List (Int × Int)) : Prop :=
 (∀ c,HasR M c ↔ (∃ d,HasR T d ∧ d < 12288 ∧ c ∈ orbR d) ∨ ∃ d,x ≤ d ∧ d < f ∧ c ∈ orbR d) ∧ (M.length : Int) ≤ 3 * f
theorem more_next {T : List (Int × Int)} {x f : Int} {M : List (Int × Int)} (h : More T x f M) (hx : x ≤ f) (h0 : 0 ≤ f) (h1 : f ≤ 1114111) : More T x (f + 1) (M ++ (orbR f).map fun c => (c,c)) := by
 obtain ⟨h2,h3⟩ := h
 refine ⟨fun c => ?_,?_⟩
 ·have hm : HasR ((orbR f).map fun c => (c,c)) c ↔ c ∈ orbR f := by
   constructor
   ·rintro ⟨_,_,r,hr,h4,h5⟩
    obtain ⟨y,hy,rfl⟩ := List.mem_map.1 hr
    have : c = y := by simp only at h4 h5;omega
    rw [this]
    exact hy
   ·intro hc
    have hb := orb_rune f h0 h1 c hc
    exact ⟨hb.1,hb.2,(c,c),List.mem_map.2 ⟨c,hc,rfl⟩,Int.le_refl _,Int.le_refl _⟩
  rw [has_append,h2,hm]
  constructor
  ·rintro ((h | ⟨d,h4,h5,h6⟩) | h)
   ·exact .inl h
   ·exact .inr ⟨d,h4,by omega,h6⟩
   ·exact .inr ⟨f,hx,by omega,h⟩
  ·rintro (h | ⟨d,h4,h5,h6⟩)
   ·exact .inl (.inl h)
   ·by_cases hd : d = f
    ·subst hd
     exact .inr h6
    ·exact .inl (.inr ⟨d,h4,by omega,h6⟩)
 ·have := orb_len f
  rw [List.length_append,List.length_map]
  omega
theorem more_end {T : List (Int × Int)} {x y f : Int} {M : List (Int × Int)} (h : More T x f M) (hx0 : 0 ≤ x) (hy : y ≤ 1114111) (hxy : x ≤ y) (hf : f ≤ y + 1) (hstop : f = y + 1 ∨ 12288 ≤ f) (hlow : f ≤ 12288 ∨ f = x) (g : Int) (hg : y + 2 ≤ g) (hxf : x ≤ f) : More (T ++ [(x,y)]) g g M := by
 obtain ⟨h2,h3⟩ := h
 refine ⟨fun c => ?_,by omega⟩
 rw [h2]
 constructor
 ·rintro (⟨d,h4,h5,h6⟩ | ⟨d,h4,h5,h6⟩)
  ·exact .inl ⟨d,(has_append _ _ _).2 (.inl h4),h5,h6⟩
  ·exact .inl ⟨d,(has_append _ _ _).2 (.inr ((has_one _ _).2 ⟨by omega,by omega,h4,by show d ≤ y;omega⟩)),by omega,h6⟩
 ·rintro (⟨d,h4,h5,h6⟩ | ⟨d,h4,h5,h6⟩)
  ·rcases (has_append _ _ _).1 h4 with h7 | h7
   ·exact .inl ⟨d,h7,h5,h6⟩
   ·obtain ⟨_,_,h8,h9⟩ := (has_one _ _).1 h7
    have h8' : x ≤ d := h8
    have h9' : d ≤ y := h9
    exact .inr ⟨d,h8',by omega,h6⟩
  ·omega
theorem rgs_none (w : World) : Rgs w (.slice none 0 0) [] := ⟨none,0,rfl,Nat.le_refl _,by unfold maxLen;omega,fun _ => rfl,.inl rfl,by simp⟩
theorem end_bound : ∀ (l : List (Int × Int)) (lo : Int),lo ≤ 1114113 → RightFrom lo l → endOf lo l ≤ 1114113
 | [],_,h,_ => h
 | r :: l,lo,h,⟨h1,h2,h3,h4⟩ => end_bound l (r.2 + 2) (by omega) h4
def oddL : List (Int × List Int) := [(3,[75,107,8490]),(3,[83,115,383]),(3,[197,229,8491]),(3,[181,924,956]),(3,[931,962,963]),(2,[223,7838,0]),(2,[255,376,0])]
def oddCells (p : Int × List Int) : List Value := .int .i64 p.1 :: p.2.map (Value.int .i32)
def spanCells (p : Int × Int) : List Value := [.int .i32 p.1,.int .i32 p.2]
def TabsT (w : World) : Prop :=
 (∃ t fr,w.heap[2]? = some (.cells ((oddL.map oddCells).flatten.toArray) t fr)) ∧ ∃ t fr,w.heap[3]? = some (.cells ((greatL.map spanCells).flatten.toArray) t fr)
theorem TabsT.below {w w' : World} (h : TabsT w) (hb : Below w.heap.size w w') : TabsT w' := by
 obtain ⟨⟨t,fr,h1⟩,t',fr',h2⟩ := h
 exact ⟨⟨t,fr,(hb.block _ (Array.getElem?_eq_some_iff.1 h1).1).trans h1⟩,t',fr',(hb.block _ (Array.getElem?_eq_some_iff.1 h2).1).trans h2⟩
def orbA (l : List Int) : Value := .agg #[.int .i64 l.length,.int .i32 (l.getD 0 0),.int .i32 (l.getD 1 0),.int .i32 (l.getD 2 0)]
theorem odd_at (m : Nat) (h : m < 7) : ∃ (n : Nat) (x y z : Int),(∀ w,(Instr.index 88 (.agg ((oddL.map oddCells).flatten.toArray)) (.int .i64 m)).run Tryz.prog w = .ok (.agg #[.int .i64 n,.int .i32 x,.int .i32 y,.int .i32 z]) w) ∧ groupsR[m]? = some ([x,y,z].take n) ∧ n ≤ 3 ∧ orbA ([x,y,z].take n) = .agg #[.int .i64 n,.int .i32 x,.int .i32 y,.int .i32 z] := by
 have hm : m = 0 ∨ m = 1 ∨ m = 2 ∨ m = 3 ∨ m = 4 ∨ m = 5 ∨ m = 6 := by omega
 rcases hm with rfl | rfl | rfl | rfl | rfl | rfl | rfl
 ·exact ⟨3,75,107,8490,fun _ => by kernel_rfl,rfl,by decide,rfl⟩
 ·exact ⟨3,83,115,383,fun _ => by kernel_rfl,rfl,by decide,rfl⟩
 ·exact ⟨3,197,229,8491,fun _ => by kernel_rfl,rfl,by decide,rfl⟩
 ·exact ⟨3,181,924,956,fun _ => by kernel_rfl,rfl,by decide,rfl⟩
 ·exact ⟨3,931,962,963,fun _ => by kernel_rfl,rfl,by decide,rfl⟩
 ·exact ⟨2,223,7838,0,fun _ => by kernel_rfl,rfl,by decide,rfl⟩
 ·exact ⟨2,255,376,0,fun _ => by kernel_rfl,rfl,by decide,rfl⟩
theorem great_at (m : Nat) (h : m < 6) : ∃ (x y : Int),(∀ w,(Instr.index 92 (.agg ((greatL.map spanCells).flatten.toArray)) (.int .i64 m)).run Tryz.prog w = .ok (.agg #[.int .i32 x,.int .i32 y]) w) ∧ greatL[m]? = some (x,y) := by
 have hm : m = 0 ∨ m = 1 ∨ m = 2 ∨ m = 3 ∨ m = 4 ∨ m = 5 := by omega
 rcases hm with rfl | rfl | rfl | rfl | rfl | rfl
 ·exact ⟨65,90,fun _ => by kernel_rfl,rfl⟩
 ·exact ⟨192,214,fun _ => by kernel_rfl,rfl⟩
 ·exact ⟨216,222,fun _ => by kernel_rfl,rfl⟩
 ·exact ⟨913,929,fun _ => by kernel_rfl,rfl⟩
 ·exact ⟨932,937,fun _ => by kernel_rfl,rfl⟩
 ·exact ⟨1040,1071,fun _ => by kernel_rfl,rfl⟩
theorem ohas_any (n : Nat) (hn : n ≤ 3) (x y z c : Int) (w : World) : Calls Tryz.prog 49 #[.agg #[.int .i64 n,.int .i32 x,.int .i32 y,.int .i32 z],.int .i32 c] w fun e w' => e = .returned (.bool (decide (c ∈ [x,y,z].take n))) ∧ Below w.heap.size w w' := by
 obtain ⟨B,hB⟩ : ∃ B,decide (c ∈ [x,y,z].take n) = B := ⟨_,rfl⟩
 rw [hB]
 have HBB := Hd hB
 clear hB
 go_enter Tryz.func49,Tryz.ntmps49
 go_wp2
 go_loop [8] (fun i => ∃ k : Nat,k ≤ n ∧ i = .int .i64 k ∧ c ∉ ([x,y,z].take n).take k) (fun i => n - (intOf i).toNat)
 case atStart => exact ⟨0,Nat.zero_le _,rfl,by simp⟩
 case round =>
  obtain ⟨k,hk,rfl,hN⟩ := hrel
  by_cases hlt : k < n
  ·have hkk : k = 0 ∨ k = 1 ∨ k = 2 := by omega
   obtain ⟨d,hd,hsp⟩ : ∃ d,[x,y,z][k]? = some d ∧ ([x,y,z].take n).take (k + 1) = ([x,y,z].take n).take k ++ [d] := by
    have hl : ([x,y,z].take n).length = n := by rw [List.length_take];simp;omega
    refine ⟨([x,y,z].take n)[k]'(by omega),?_,List.take_succ_eq_append_getElem (by omega)⟩
    rw [List.getElem_take,List.getElem?_eq_getElem (by simp;omega)]
   have HSP := Hd hsp;have HN := Hd hN
   clear hsp hN
   by_cases hdc : d = c
   ·obtain rfl : B = true := by rw [← HBB.out];exact decide_eq_true (List.mem_of_mem_take (i := k + 1) (by rw [HSP.out,hdc];simp))
    rcases hkk with rfl | rfl | rfl
    all_goals
     have e : _ = d := Option.some.inj hd
     rw [hdc] at e
     subst e
     clear hd
     go_wp2
     go_ret
     exact ⟨rfl,(Below.refl _ w).alloc (Nat.le_refl _) _⟩
   ·rcases hkk with rfl | rfl | rfl
    all_goals
     have e : _ = d := Option.some.inj hd
     subst e
     clear hd
     go_wp2
     go_round
     case rel => exact ⟨_,hlt,by go_num,by rw [HSP.out];simp only [List.mem_append,List.mem_singleton,not_or];exact ⟨HN.out,fun h => hdc h.symm⟩⟩
     case measure => simp [intOf];omega
  ·have e : ([x,y,z].take n).take k = [x,y,z].take n := List.take_of_length_le (by rw [List.length_take];omega)
   rw [e] at hN
   obtain rfl : B = false := by rw [← HBB.out];exact decide_eq_false hN
   clear hN e
   go_wp2
   go_ret
   exact ⟨rfl,(Below.refl _ w).alloc (Nat.le_refl _) _⟩
theorem shas_any (x y c : Int) (w : World) : Calls Tryz.prog 50 #[.agg #[.int .i32 x,.int .i32 y],.int .i32 c] w fun e w' => e = .returned (.bool (decide (x ≤ c ∧ c ≤ y))) ∧ Below w.heap.size w w' := by
 by_cases h1 : x ≤ c
 ·by_cases h2 : c ≤ y
  ·rw [decide_eq_true ⟨h1,h2⟩]
   go_enter Tryz.func50,Tryz.ntmps50
   go_wp2
   go_ret
   exact ⟨rfl,(Below.refl _ w).alloc (Nat.le_refl _) _⟩
  ·rw [decide_eq_false (fun h => h2 h.2)]
   go_enter Tryz.func50,Tryz.ntmps50
   go_wp2
   go_ret
   exact ⟨rfl,(Below.refl _ w).alloc (Nat.le_refl _) _⟩
 ·rw [decide_eq_false (fun h => h1 h.1)]
  go_enter Tryz.func50,Tryz.ntmps50
  go_wp2
  go_ret
  exact ⟨rfl,(Below.refl _ w).alloc (Nat.le_refl _) _⟩
def OrbPost (c : Int) (w : World) (e : Ending) (w' : World) : Prop := e = .returned (orbA (orbR c)) ∧ Below w.heap.size w w'
theorem groups_take {m : Nat} {g : List Int} (h : groupsR[m]? = some g) : groupsR.take (m + 1) = groupsR.take m ++ [g] := by
 obtain ⟨hl,hg⟩ := List.getElem?_eq_some_iff.1 h
 rw [List.take_succ_eq_append_getElem hl,hg]
theorem orb_great {c : Int} (h0 : 0 ≤ c) (h1 : c ≤ 1114111) (hN : ∀ g ∈ groupsR,c ∉ g) {x y : Int} (hs : (x,y) ∈ greatL) (hx : x ≤ c) (hy : c ≤ y) : orbR c = [c,c + 32] ∧ I32 (c + 32) := by
 have hI : ¬ InG c := fun h => by obtain ⟨g,hg,hc⟩ := find_of_inG h;exact hN g hg hc
 have hg : greatB c = true := by
  rw [great_iff]
  unfold InG at hI
  unfold greatL at hs
  simp only [List.mem_cons,Prod.mk.injEq,List.not_mem_nil,or_false] at hs
  omega
 rw [orb_plain h0 h1 hI,if_pos hg]
 exact ⟨rfl,by unfold I32;omega⟩
theorem orb_small {c : Int} (h0 : 0 ≤ c) (h1 : c ≤ 1114111) (hN : ∀ g ∈ groupsR,c ∉ g) {x y : Int} (hs : (x,y) ∈ greatL) (hx : x ≤ c - 32) (hy : c - 32 ≤ y) : orbR c = [c - 32,c] := by
 have hI : ¬ InG c := fun h => by obtain ⟨g,hg,hc⟩ := find_of_inG h;exact hN g hg hc
 have hg : greatB c = false := by
  cases h : greatB c
  ·rfl
  ·rw [great_iff] at h
   unfold greatL at hs
   simp only [List.mem_cons,Prod.mk.injEq,List.not_mem_nil,or_false] at hs
   omega
 have hg2 : greatB (c - 32) = true := by
  rw [great_iff]
  unfold InG at hI
  unfold greatL at hs
  simp only [List.mem_cons,Prod.mk.injEq,List.not_mem_nil,or_false] at hs
  omega
 have h32 : 32 ≤ c := by have := greatB_bound hg2;omega
 rw [orb_plain h0 h1 hI,hg,if_neg (by decide),if_pos ⟨h32,hg2⟩]
theorem orb_alone {c : Int} (h0 : 0 ≤ c) (h1 : c ≤ 1114111) (hN : ∀ g ∈ groupsR,c ∉ g) (hG : ∀ s ∈ greatL,¬ (s.1 ≤ c ∧ c ≤ s.2) ∧ ¬ (s.1 ≤ c - 32 ∧ c - 32 ≤ s.2)) : orbR c = [c] := by
 have hI : ¬ InG c := fun h => by obtain ⟨g,hg,hc⟩ := find_of_inG h;exact hN g hg hc
 have hg : ∀ d,(∀ s ∈ greatL,¬ (s.1 ≤ d ∧ d ≤ s.2)) → greatB d = false := fun d hd => by
  cases h : greatB d
  ·rfl
  ·rw [great_iff] at h
   have e := fun s hs => hd s hs
   unfold greatL at e
   simp only [List.mem_cons,List.not_mem_nil,or_false,forall_eq_or_imp,forall_eq] at e
   omega
 rw [orb_plain h0 h1 hI,hg c (fun s hs => (hG s hs).1),if_neg (by decide),if_neg]
 rintro ⟨_,h⟩
 rw [hg (c - 32) (fun s hs => (hG s hs).2)] at h
 cases h
theorem great_take {m : Nat} {x y : Int} (h : greatL[m]? = some (x,y)) : greatL.take (m + 1) = greatL.take m ++ [(x,y)] := by
 obtain ⟨hl,hg⟩ := List.getElem?_eq_some_iff.1 h
 rw [List.take_succ_eq_append_getElem hl,hg]
theorem orb_in {c : Int} {m : Nat} {g : List Int} (h : groupsR[m]? = some g) (hN : ∀ g ∈ groupsR.take m,c ∉ g) (hc : c ∈ g) : orbR c = g := orb_group (List.mem_of_getElem? h) hc
theorem orb_ret {c : Int} {w w2 : World} {tmps : Array Value} (n x y z : Int) (hp : tmps.getD 2 undef = .pointer (some ⟨w.heap.size,0,none⟩)) (hR : Whole w2 w.heap.size 75 #[.int .i64 0,.int .i32 0,.int .i32 0,.int .i32 0]) (hB : Below w.heap.size w w2)
  (he : orbA (orbR c) = .agg #[.int .i64 n,.int .i32 x,.int .i32 y,.int .i32 z]) : bodyPost Tryz.prog Tryz.f33 (OrbPost c w) Exit.ret { tmps := tmps,defers := [] }
   ((((w2.setCell ⟨w.heap.size,0,none⟩ (.int .i64 n)).setCell ⟨w.heap.size,1,none⟩ (.int .i32 x)).setCell ⟨w.heap.size,2,none⟩ (.int .i32 y)).setCell ⟨w.heap.size,3,none⟩ (.int .i32 z)) := by
 have h4 := (((hR.store 0 (.int .i64 n)).store 1 (.int .i32 x)).store 2 (.int .i32 y)).store 3 (.int .i32 z)
 refine bodyPost_ret (v := .agg #[.int .i64 n,.int .i32 x,.int .i32 y,.int .i32 z]) (results_cell_row Tryz.results33 tmps _ w.heap.size 75 _ (0,0) _ hp h4 Tryz.underlying75 rfl (by kernel_rfl)) rfl ⟨by rw [he],?_⟩
 exact (((hB.setCell (p := ⟨w.heap.size,0,none⟩) (Nat.le_refl _) _).setCell (p := ⟨w.heap.size,1,none⟩) (Nat.le_refl _) _).setCell (p := ⟨w.heap.size,2,none⟩) (Nat.le_refl _) _).setCell (p := ⟨w.heap.size,3,none⟩) (Nat.le_refl _) _
theorem orbitOf_any (c : Int) (h0 : 0 ≤ c) (h1 : c ≤ 1114111) (w : World) (hT : TabsT w) : Calls Tryz.prog 33 #[.int .i32 c] w (OrbPost c w) := by
 obtain ⟨OA,hOA⟩ : ∃ OA : Array Value,(oddL.map oddCells).flatten.toArray = OA := ⟨_,rfl⟩
 obtain ⟨GA,hGA⟩ : ∃ GA : Array Value,(greatL.map spanCells).flatten.toArray = GA := ⟨_,rfl⟩
 have hodd := odd_at
 have hgreat := great_at
 have hOs : OA.size = 28 := by rw [← hOA];rfl
 have hGs : GA.size = 12 := by rw [← hGA];rfl
 obtain ⟨⟨t1,fr1,g1⟩,t2,fr2,g2⟩ := hT
 rw [hOA] at hodd g1
 rw [hGA] at hgreat g2
 have HODD := Hd hodd;have HGREAT := Hd hgreat;have G1 := Hd g1;have G2 := Hd g2;have HOS := Hd hOs;have HGS := Hd hGs
 clear hOA hGA hodd hgreat g1 g2 hOs hGs
 obtain ⟨w1,hw1⟩ : ∃ w1,w.alloc (.cells #[.int .i64 0,.int .i32 0,.int .i32 0,.int .i32 0] 75) = w1 := ⟨_,rfl⟩
 have hb1 : Below w.heap.size w w1 := by rw [← hw1];exact (Below.refl _ w).alloc (Nat.le_refl _) _
 have hWh : Whole w1 w.heap.size 75 #[.int .i64 0,.int .i32 0,.int .i32 0,.int .i32 0] := by rw [← hw1];exact heap_alloc_new w _
 have hs1 : w1.heap.size = w.heap.size + 1 := by rw [← hw1];simp
 have HB1 := Hd hb1;have HWH := Hd hWh;have HS1 := Hd hs1;have HW1 := Hd hw1
 clear hb1 hWh hs1 hw1
 have hlt1 : 2 < w.heap.size := (Array.getElem?_eq_some_iff.1 G1.out).1
 have hlt2 : 3 < w.heap.size := (Array.getElem?_eq_some_iff.1 G2.out).1
 go_enter Tryz.func33,Tryz.ntmps33
 go_wp2_with (refine wpList_load_row rfl 88 (.global 2) rfl 2 rfl t1 OA fr1 _ (by rw [HW1.out];exact (HB1.out.block _ hlt1).trans G1.out) Tryz.underlying88 rfl (by rw [HOS.out];kernel_rfl) ?_)
 rw [HW1.out]
 go_loopw [8] (fun i wr => ∃ m : Nat,m ≤ 7 ∧ i = .int .i64 m ∧ Below w1.heap.size w1 wr ∧ ∀ g ∈ groupsR.take m,c ∉ g) (fun i _ => 7 - (intOf i).toNat)
 case atStart => exact ⟨0,Nat.zero_le _,rfl,Below.refl _ _,by simp⟩
 case round =>
  obtain ⟨m,hm,rfl,hB,hN⟩ := hrel
  have HB := Hd hB;have HN := Hd hN
  clear hB hN
  by_cases hlt : m < 7
  ·obtain ⟨n,x,y,z,hi,hg,hn,ho⟩ := HODD.out m hlt
   have HG := Hd hg;have HO := Hd ho
   have hmz : (m : Int) < 7 := by omega
   have hsz := HB.out.size
   clear hg ho
   go_wp2_with fail
   refine (ohas_any n hn x y z c _).mono ?_
   rintro e w2 ⟨rfl,hb⟩
   have hB2 : Below w1.heap.size w1 w2 := (HB.out.alloc hsz _).trans (hb.mono (by simp;omega))
   have hE : Whole w2 wr.heap.size 75 #[.int .i64 n,.int .i32 x,.int .i32 y,.int .i32 z] := (hb.block _ (by simp)).trans (heap_alloc_new wr _)
   have HB2 := Hd hB2
   have r0 := hE.cell 0;have r1 := hE.cell 1;have r2 := hE.cell 2;have r3 := hE.cell 3
   have hR : Whole w2 w.heap.size 75 #[.int .i64 0,.int .i32 0,.int .i32 0,.int .i32 0] := (hB2.block _ (by rw [HS1.out];omega)).trans HWH.out
   have HR := Hd hR
   have q0 := hR.cell 0;have q1 := hR.cell 1;have q2 := hR.cell 2;have q3 := hR.cell 3
   have p0 := hR.free 0;have p1 := hR.free 1;have p2 := hR.free 2;have p3 := hR.free 3
   simp at r0 r1 r2 r3 q0 q1 q2 q3
   clear hb hE hB2 hR
   by_cases hin : c ∈ [x,y,z].take n
   ·have he : orbR c = [x,y,z].take n := orb_in HG.out HN.out hin
    have HE := Hd he
    rw [decide_eq_true hin]
    clear he hin
    go_wp2_with fail
    exact orb_ret n x y z rfl HR.out (HB1.out.trans (HB2.out.mono (by rw [HS1.out];omega))) (by rw [HE.out,HO.out])
   ·rw [decide_eq_false hin]
    have HIN := Hd hin
    clear hin
    go_wp2_with fail
    go_roundw
    case rel =>
     refine ⟨m + 1,hlt,by go_num,HB2.out,fun g hg => ?_⟩
     rw [groups_take HG.out] at hg
     rcases List.mem_append.1 hg with hg | hg
     ·exact HN.out g hg
     ·rw [List.mem_singleton.1 hg]
      exact HIN.out
    case measure => simp [intOf];omega
  ·have hn7 : ∀ g ∈ groupsR,c ∉ g := by
    have e : groupsR.take m = groupsR := List.take_of_length_le (by show 7 ≤ m;omega)
    have := HN.out
    rwa [e] at this
   have HN7 := Hd hn7
   clear hn7
   have hmz : ¬ (m : Int) < 7 := by omega
   go_wp2_with (refine wpList_load_row rfl 92 (.global 3) rfl 3 rfl t2 GA fr2 _ ((HB.out.block _ (by rw [HS1.out];omega)).trans ((HB1.out.block _ hlt2).trans G2.out)) Tryz.underlying92 rfl (by rw [HGS.out];kernel_rfl) ?_)
   go_loopw [17] (fun i wy => ∃ k : Nat,k ≤ 6 ∧ i = .int .i64 k ∧ Below w1.heap.size w1 wy ∧ ∀ s ∈ greatL.take k,¬ (s.1 ≤ c ∧ c ≤ s.2) ∧ ¬ (s.1 ≤ c - 32 ∧ c - 32 ≤ s.2)) (fun i _ => 6 - (intOf i).toNat)
   case atStart => exact ⟨0,Nat.zero_le _,rfl,HB.out,by simp⟩
   case round =>
    obtain ⟨k,hk,rfl,hBy,hS⟩ := hrel
    have HBY := Hd hBy;have HSS := Hd hS
    clear hBy hS
    by_cases hkl : k < 6
    ·obtain ⟨x,y,hi,hg⟩ := HGREAT.out k hkl
     have HG := Hd hg
     have hkz : (k : Int) < 6 := by omega
     have hsz := HBY.out.size
     clear hg
     go_wp2_with fail
     refine (shas_any x y c _).mono ?_
     rintro e w2 ⟨rfl,hb⟩
     have hB2 : Below w1.heap.size w1 w2 := (HBY.out.alloc hsz _).trans (hb.mono (by simp;omega))
     have hE : Whole w2 _ 91 #[.int .i32 x,.int .i32 y] := (hb.block _ (by simp)).trans (heap_alloc_new _ _)
     have HB2 := Hd hB2
     have hszy := hB2.size
     have r0 := hE.cell 0;have r1 := hE.cell 1
     have hR : Whole w2 w.heap.size 75 #[.int .i64 0,.int .i32 0,.int .i32 0,.int .i32 0] := (hB2.block _ (by rw [HS1.out];omega)).trans HWH.out
     have HR := Hd hR
     have q0 := hR.cell 0;have q1 := hR.cell 1;have q2 := hR.cell 2;have q3 := hR.cell 3
     have p0 := hR.free 0;have p1 := hR.free 1;have p2 := hR.free 2;have p3 := hR.free 3
     simp at r0 r1 q0 q1 q2 q3
     clear hb hE hB2 hR
     by_cases hin : x ≤ c ∧ c ≤ y
     ·obtain ⟨he,hi32⟩ := orb_great h0 h1 HN7.out (List.mem_of_getElem? HG.out) hin.1 hin.2
      have HE := Hd he
      unfold I32 at hi32
      rw [decide_eq_true hin]
      clear he hin
      go_wp2_with fail
      exact orb_ret 2 c (c + 32) 0 rfl HR.out (HB1.out.trans (HB2.out.mono (by rw [HS1.out];omega))) (by rw [HE.out];rfl)
     ·rw [decide_eq_false hin]
      have HIN := Hd hin
      clear hin
      go_wp2_with fail
      refine (shas_any x y (c - 32) _).mono ?_
      rintro e w3 ⟨rfl,hb⟩
      have hB3 : Below w1.heap.size w1 w3 := HB2.out.trans (hb.mono hszy)
      have HB3 := Hd hB3
      have hR : Whole w3 w.heap.size 75 #[.int .i64 0,.int .i32 0,.int .i32 0,.int .i32 0] := (hB3.block _ (by rw [HS1.out];omega)).trans HWH.out
      have HR3 := Hd hR
      have u0 := hR.cell 0;have u1 := hR.cell 1;have u2 := hR.cell 2;have u3 := hR.cell 3
      have v0 := hR.free 0;have v1 := hR.free 1;have v2 := hR.free 2;have v3 := hR.free 3
      simp at u0 u1 u2 u3
      clear hb hB3 hR q0 q1 q2 q3 p0 p1 p2 p3 r0 r1
      by_cases hin : x ≤ c - 32 ∧ c - 32 ≤ y
      ·have he := orb_small h0 h1 HN7.out (List.mem_of_getElem? HG.out) hin.1 hin.2
       have HE := Hd he
       rw [decide_eq_true hin]
       clear he hin
       go_wp2_with fail
       exact orb_ret 2 (c - 32) c 0 rfl HR3.out (HB1.out.trans (HB3.out.mono (by rw [HS1.out];omega))) (by rw [HE.out];rfl)
      ·rw [decide_eq_false hin]
       have HIN2 := Hd hin
       clear hin
       go_wp2_with fail
       go_roundw
       case rel =>
        refine ⟨k + 1,hkl,by go_num,HB3.out,fun s hs => ?_⟩
        rw [great_take HG.out] at hs
        rcases List.mem_append.1 hs with hs | hs
        ·exact HSS.out s hs
        ·rw [List.mem_singleton.1 hs]
         exact ⟨HIN.out,HIN2.out⟩
       case measure => simp [intOf];omega
    ·have hn6 : ∀ s ∈ greatL,¬ (s.1 ≤ c ∧ c ≤ s.2) ∧ ¬ (s.1 ≤ c - 32 ∧ c - 32 ≤ s.2) := by
      have e : greatL.take k = greatL := List.take_of_length_le (by show 6 ≤ k;omega)
      have := HSS.out
      rwa [e] at this
     have he := orb_alone h0 h1 HN7.out hn6
     have HE := Hd he
     have hkz : ¬ (k : Int) < 6 := by omega
     have hR : Whole _ w.heap.size 75 #[.int .i64 0,.int .i32 0,.int .i32 0,.int .i32 0] := (HBY.out.block _ (by rw [HS1.out];omega)).trans HWH.out
     have HR := Hd hR
     have q0 := hR.cell 0;have q1 := hR.cell 1;have q2 := hR.cell 2;have q3 := hR.cell 3
     have p0 := hR.free 0;have p1 := hR.free 1;have p2 := hR.free 2;have p3 := hR.free 3
     simp at q0 q1 q2 q3
     clear hn6 he hR
     go_wp2_with fail
     exact orb_ret 1 c 0 0 rfl HR.out (HB1.out.trans (HBY.out.mono (by rw [HS1.out];omega))) (by rw [HE.out];rfl)
end Go.Proofs.YthnddabcmhplkaaGreatDoor
