/- Texts merged by program. No condition. -/
import Derived.Shelf.SlSortCmp.NoneTotal
import Derived.Test.YtaaoamkagppodaaGreatDoorK12
set_option maxHeartbeats 1000000
namespace Go.Proofs
open Go.Shelf
def Tryz.sortEd_ren:Go.Shelf.Ren:=⟨fun|6=>149|15=>168|14=>167|28=>188|29=>189|20=>180|21=>181|22=>182|23=>183|24=>184|25=>185|26=>186|27=>187|46=>196|47=>197|48=>198|49=>199|50=>200|57=>207|n=>n,fun|22=>191|24=>195|25=>197|3=>3|39=>77|0=>0|53=>230|55=>97|4=>4|46=>224|45=>223|50=>199|5=>5|9=>9|66=>236|70=>240|76=>252|77=>209|n=>n,fun|n=>n⟩
theorem Tryz.sortEd:Go.Proofs.SlLaysF0.n6 Tryz.prog Tryz.sortEd_ren := {
 mixed:=by kernel_rfl
 f6:=⟨Tryz.f149.name,by decide,Tryz.func149.trans (congrArg some (by kernel_rfl))⟩
 f14:=⟨Tryz.f167.name,by decide,Tryz.func167.trans (congrArg some (by kernel_rfl))⟩
 f15:=Tryz.func168.trans (congrArg some (by kernel_rfl))
 f20:=⟨Tryz.f180.name,by decide,Tryz.func180.trans (congrArg some (by kernel_rfl))⟩
 f21:=⟨Tryz.f181.name,by decide,Tryz.func181.trans (congrArg some (by kernel_rfl))⟩
 f22:=⟨Tryz.f182.name,by decide,Tryz.func182.trans (congrArg some (by kernel_rfl))⟩
 f23:=⟨Tryz.f183.name,by decide,Tryz.func183.trans (congrArg some (by kernel_rfl))⟩
 f24:=⟨Tryz.f184.name,by decide,Tryz.func184.trans (congrArg some (by kernel_rfl))⟩
 f25:=⟨Tryz.f185.name,by decide,Tryz.func185.trans (congrArg some (by kernel_rfl))⟩
 f26:=⟨Tryz.f186.name,by decide,Tryz.func186.trans (congrArg some (by kernel_rfl))⟩
 f27:=⟨Tryz.f187.name,by decide,Tryz.func187.trans (congrArg some (by kernel_rfl))⟩
 f28:=Tryz.func188.trans (congrArg some (by kernel_rfl))
 f29:=Tryz.func189.trans (congrArg some (by kernel_rfl))
 f46:=⟨Tryz.f196.name,by decide,Tryz.func196.trans (congrArg some (by kernel_rfl))⟩
 f47:=Tryz.func197.trans (congrArg some (by kernel_rfl))
 f48:=Tryz.func198.trans (congrArg some (by kernel_rfl))
 f49:=⟨Tryz.f199.name,by decide,Tryz.func199.trans (congrArg some (by kernel_rfl))⟩
 f50:=⟨Tryz.f200.name,by decide,Tryz.func200.trans (congrArg some (by kernel_rfl))⟩
 f57:=⟨Tryz.f207.name,by decide,Tryz.func207.trans (congrArg some (by kernel_rfl))⟩
 t0:=Tryz.underlying0
 a0:=Tryz.isAgg0
 z0:=Tryz.sizeOf0
 v0:=Tryz.zeroValue0
 t3:=Tryz.underlying3
 a3:=Tryz.isAgg3
 z3:=Tryz.sizeOf3
 v3:=Tryz.zeroValue3
 t4:=Tryz.underlying4
 a4:=Tryz.isAgg4
 z4:=Tryz.sizeOf4
 v4:=Tryz.zeroValue4
 t5:=Tryz.underlying5
 a5:=Tryz.isAgg5
 z5:=Tryz.sizeOf5
 v5:=Tryz.zeroValue5
 t9:=Tryz.underlying9
 a9:=Tryz.isAgg9
 z9:=Tryz.sizeOf9
 v9:=Tryz.zeroValue9
 t22:=Tryz.underlying191
 a22:=Tryz.isAgg191
 z22:=Tryz.sizeOf191
 v22:=Tryz.zeroValue191
 t25:=Tryz.underlying197
 a25:=Tryz.isAgg197
 z25:=Tryz.sizeOf197
 v25:=Tryz.zeroValue197
 t39:=Tryz.underlying77
 a39:=Tryz.isAgg77
 z39:=Tryz.sizeOf77
 v39:=Tryz.zeroValue77
 t45:=Tryz.underlying223
 a45:=Tryz.isAgg223
 z45:=Tryz.sizeOf223
 v45:=Tryz.zeroValue223
 t46:=Tryz.underlying224
 a46:=Tryz.isAgg224
 z46:=Tryz.sizeOf224
 v46:=Tryz.zeroValue224
 t50:=Tryz.underlying199
 a50:=Tryz.isAgg199
 z50:=Tryz.sizeOf199
 v50:=Tryz.zeroValue199
 t53:=Tryz.underlying230
 a53:=Tryz.isAgg230
 z53:=Tryz.sizeOf230
 v53:=Tryz.zeroValue230
 t55:=Tryz.underlying97
 a55:=Tryz.isAgg97
 z55:=Tryz.sizeOf97
 v55:=Tryz.zeroValue97
 t66:=Tryz.underlying236
 a66:=Tryz.isAgg236
 z66:=Tryz.sizeOf236
 v66:=Tryz.zeroValue236
 t70:=Tryz.underlying240
 a70:=Tryz.isAgg240
 z70:=Tryz.sizeOf240
 v70:=Tryz.zeroValue240
 t76:=Tryz.underlying252
 a76:=Tryz.isAgg252
 z76:=Tryz.sizeOf252
 v76:=Tryz.zeroValue252
 t77:=Tryz.underlying209
 a77:=Tryz.isAgg209
 z77:=Tryz.sizeOf209
 v77:=Tryz.zeroValue209 }
end Go.Proofs
set_option linter.unusedVariables false
namespace Go.Proofs.YtaaoamkagppodaaGreatDoor
open Go Go.RowKit Go.Shelf Go.Lib
open Go.Sort (grow HoldsK SWO flatK get_flatK alloc_eq_grow grow_grow SortedIn PermIn heap_grow_old putRow putRowK mapBlock onCells putCells)
def Jem (x:Int × Int):List Value:=[.int .i32 x.1,.int .i64 x.2]
def cfE (x y:Int × Int):Int:=Lib.compareInt x.1 y.1
theorem ltE (x y:Int × Int):ltOf cfE x y=decide (x.1<y.1):=by
 unfold ltOf cfE Lib.compareInt
 by_cases h1:x.1<y.1
 ·simp[h1]
 ·by_cases h2:y.1<x.1<;>simp[h1,h2]
theorem Jwc:SWO (ltOf cfE) where
 irrefl x:=by rw[ltE];simp
 trans x y z h1 h2:=by rw[ltE]at *;simp at *;omega
 ntrans x y z h1 h2:=by rw[ltE]at *;simp at *;omega
theorem JvY (x y:Int) (W:World):Calls Tryz.prog 151 #[.int .i32 x,.int .i32 y] W fun e w'=>e=.returned (.int .i64 (Lib.compareInt x y))∧w'=W:=by
 go_enter Tryz.func151,Tryz.ntmps151
 by_cases h1:x<y
 ·have e:Lib.compareInt x y = -1:=by unfold Lib.compareInt;simp[h1]
  rw[e]
  go_wp2
  go_ret;exact⟨rfl,rfl⟩
 ·by_cases h2:y<x
  ·have e:Lib.compareInt x y=1:=by unfold Lib.compareInt;simp[h1,h2]
   rw[e]
   go_wp2
   go_ret;exact⟨rfl,rfl⟩
  ·have e:Lib.compareInt x y=0:=by unfold Lib.compareInt;simp[h1,h2]
   rw[e]
   go_wp2
   go_ret;exact⟨rfl,rfl⟩
theorem Jv0 (x y:Int × Int) (W:World):Calls Tryz.prog 150 #[.agg #[.int .i32 x.1,.int .i64 x.2],.agg #[.int .i32 y.1,.int .i64 y.2]] W fun e w'=>e=.returned (.int .i64 (cfE x y))∧∃q os',w'=grow (W.drewN q) os':=by
 have hcon:=fun W'=>JvY x.1 y.1 W'
 unfold cfE
 generalize Lib.compareInt x.1 y.1=r at hcon ⊢
 go_enter Tryz.func150,Tryz.ntmps150
 go_wp2_with (go_at_call 151;refine(hcon _).mono ?_;rintro e w' ⟨rfl,rfl⟩)
 go_ret;exact⟨rfl,0,_,by rw[alloc_eq_grow,alloc_eq_grow,grow_grow];rfl⟩
theorem JvV (blk off size:Nat) (w:World):CmpLays Tryz.prog 150 #[] Jem 2 cfE blk off size w:=fun _ _ _ _ x y=>Jv0 x y _
def JhY (w:World) (B:Nat) (v:Value) (D:List (Int × Int)):Prop:=
 (v=.slice none 0 0∧D=[])∨∃g c cs,v=.slice (some ⟨g,0,none⟩) D.length c∧B≤g∧D.length≤c∧c≤maxLen∧w.heap[g]? = some (.cells cs 195 (0,0))∧∀i (h:i<D.length),w.cell? ⟨g,i*2,none⟩=some (.int .i32 D[i].1)∧w.cell? ⟨g,i*2+1,none⟩=some (.int .i64 D[i].2)
def Jdb (W W':World):Prop:=∀(g:Nat) (cs:Array Value),W.heap[g]? = some (Obj.cells cs 195 (0,0))→W'.heap[g]? = some (Obj.cells cs 195 (0,0))
theorem Jdb.trans {A B C:World} (h:Jdb A B) (k:Jdb B C):Jdb A C:=fun g cs hg=>k g cs (h g cs hg)
theorem Jdb.grown {W W':World} {row:Option Nat} (hg:W.grownBy W' row) (hr:∀r,row=some r→∀cs:Array Value,W.heap[r]? ≠ some (Obj.cells cs 195 (0,0))):Jdb W W':=fun g cs h=>by
 refine(hg.block g (Array.getElem?_eq_some_iff.1 h).1 ?_).trans h;intro e;exact hr g e.symm cs h
theorem JhY.keeps {w w':World} {B:Nat} {v:Value} {D:List (Int × Int)} (h:JhY w B v D) (hk:Jdb w w'):JhY w' B v D:=by
 rcases h with h|⟨g,c,cs,h1,h2,h3,h4,h5,h6⟩
 ·exact .inl h
 ·have h7:=hk g cs h5;have hc:∀i,w'.cell? ⟨g,i,none⟩=w.cell? ⟨g,i,none⟩:=fun i=>World.cell?_of_block (h7.trans h5.symm)
  exact .inr ⟨g,c,cs,h1,h2,h3,h4,h7,fun i hi=>by rw[hc,hc];exact h6 i hi⟩
theorem JsK (E:List (Int × Int)) (j:Nat) (hj:j<E.length*2):(flatK Jem 2 E.toArray)[j]! = (Jc3 E)[j]?.getD default:=by
 rw[get_flatK Jem 2 E.toArray j (by simpa using hj)];have hi:j / 2<E.length:=by omega
 obtain⟨h1,h2⟩:=JkJ E (j / 2) hi;have ge:(E.toArray)[j / 2]! = E[j / 2]:=by simp[hi]
 rw[ge]
 by_cases hp:j % 2=0
 ·rw[hp];rw[show j / 2*2=j by omega]at h1;rw[h1];rfl
 ·have hp1:j % 2=1:=by omega
  rw[hp1];rw[show j / 2*2+1=j by omega]at h2;rw[h2];rfl
theorem JuR {w:World} {B g c:Nat} {E:List (Int × Int)} (h:JeJ w B (.slice (some ⟨g,0,none⟩) E.length c) E):HoldsK Jem 2 w g 0 E.toArray:=by
 intro j hj;have hj':j<E.length*2:=by simpa using hj
 rw[JsK E j hj',Nat.zero_add];obtain⟨u,hu⟩:∃u,(Jc3 E)[j]? = some u:=⟨_,List.getElem?_eq_getElem (by rw[JjY];exact hj')⟩;have hc:=World.ownsRow.cells h (g:=g) rfl _ _ hu;rw[hu]
 constructor
 ·have hadd:(⟨g,0,none⟩:Addr).add j=⟨g,j,none⟩:=by unfold Addr.add;split<;>simp_all
  rw[hadd]at hc;exact hc
 ·rcases h.2 with⟨h1,_⟩|⟨q,cap,cur,h1,_,hh,_⟩
  ·cases h1
  ·injection h1 with h1;injection h1 with h1;injection h1 with h1;subst h1
   simp[World.frozen?,hh]
theorem Jrj {w:World} {g n:Nat} {os:Array Obj} {cur:Array Value} {e:TypeId} {fr:Nat × Nat} (d:Array (Int × Int)) (hb:w.heap[g]? = some (.cells cur e fr)) :
  (sortWorldK Jem 2 w g 0 n d os).heap[g]? = some (.cells (putCells id 0 (flatK Jem 2 d) cur) e fr):=by
 have hg:g<w.heap.size:=(Array.getElem?_eq_some_iff.1 hb).1;unfold sortWorldK putRowK;rw[heap_grow_old _ _ (by simpa using hg)]
 simp[putRow,mapBlock,Sort.ahead,Array.getElem?_modify,hb,onCells]
theorem JvL {w:World} {g n:Nat} {os:Array Obj} (d:Array (Int × Int)):w.grownBy (sortWorldK Jem 2 w g 0 n d os) (some g):=by
 refine⟨rfl,rfl,rfl,by simp[sortWorldK,putRowK],fun k hk hne=>?_⟩;unfold sortWorldK putRowK;rw[heap_grow_old _ _ (by simpa using hk)];have:g≠k:=fun e=>hne (by rw[e])
 simp[putRow,mapBlock,Sort.ahead,Array.getElem?_modify,this]
def Jyo (B:Nat) (v:Value) (E:List (Int × Int)) (w:World) (e:Ending) (w':World):Prop:=
 e=.returned (.tuple #[])∧∃D,D.Perm E∧Jks D∧JhY w' B v D∧Below B w w'
theorem JsL (B:Nat) (v:Value) (E:List (Int × Int)) (w:World) (h:JeJ w B v E) (hB:B≤w.heap.size) (hn:E.length<4611686018427387904) :
  Calls Tryz.prog 149 #[v,.func (.func 150) #[] #[]] w (Jyo B v E w):=by
 rcases Jj9 h with⟨rfl,h0⟩|⟨g,c,rfl,h1,h2,h3⟩
 ·have hE:E=[]:=List.eq_nil_of_length_eq_zero h0;subst hE;have hs:=AnyF.slices_SortFunc_none (P:=Tryz.prog) (ρ := Tryz.sortEd_ren) { Tryz.sortEd with } none 0 (.func (.func 150) #[] #[]) w;refine Calls.mono (f:=149) hs ?_;rintro e w' ⟨rfl,rfl⟩;exact⟨rfl,[],List.Perm.nil,List.Pairwise.nil,.inl ⟨rfl,rfl⟩,Below.refl _ _⟩
 ·have eg:∀args w,(callFunc 150 args).run Tryz.prog w=.ok (.enter 150 args) w:=enters_of Tryz.func150 (by kernel_rfl) rfl;have hH:=JuR h;have hblk:g<w.heap.size:=(World.ownsRow.lt h g rfl).2;obtain⟨cur,hcell⟩:∃cur,w.heap[g]? = some (.cells cur 195 (0,0)):=by
   rcases h.2 with⟨h5,_⟩|⟨q,cap,cur,h5,_,hh,_⟩
   ·cases h5
   ·injection h5 with h5;injection h5 with h5;injection h5 with h5;subst h5;exact⟨cur,hh⟩
  have hcon:=AnyQ.slices_SortFunc Tryz.sortEd 2 Tryz.isAgg195 Tryz.sizeOf195 Jem (fun _=>rfl) (fun x v hv=>by simp[Jem]at hv;rcases hv with rfl|rfl<;>rfl) cfE Jwc 150 #[] g 0 c E.toArray w eg (JvV g 0 E.toArray.size w) hH hblk (by simpa using hn);rw[List.size_toArray]at hcon;refine Calls.mono (f:=149) hcon ?_;rintro e w' ⟨rfl,d',n,os,hp,hs,rfl⟩;have hsz:d'.size=E.length:=by simpa using hp.1
  refine⟨rfl,d'.toList,?_,?_,.inr ⟨g,c,putCells id 0 (flatK Jem 2 d') cur,?_,h3,?_,h2,Jrj _ hcell,fun i hi=>?_⟩,?_⟩
  ·have:=hp.2.2;rw[←List.size_toArray,Array.extract_size]at this;have e1:d'.extract 0 E.toArray.size=d':=by
    rw[List.size_toArray,←hsz,Array.extract_size]
   rw[e1]at this
   simpa using this
  ·unfold Jks;rw[List.pairwise_iff_getElem];intro i j hi hj hij;have hj':j<d'.size:=by simpa using hj
   have:=hs i j (Nat.zero_le _) hij (by rw[←hsz];exact hj');rw[ltE,getElem!_pos d' j hj',getElem!_pos d' i (by omega)]at this;have:=of_decide_eq_false this;simp only[Array.getElem_toList];omega
  ·simp[hsz]
  ·simp[hsz];exact h1
  ·have hk:=holdsK_sortWorldK_c Jem 2 w g 0 E.toArray d' n os hH hblk (by simpa using hsz);have hi':i<d'.size:=by simpa using hi
   have a:=(hk.cell (i:=i) (c:=0) hi' (by omega)).1;have b:=(hk.cell (i:=i) (c:=1) hi' (by omega)).1;rw[getElem!_pos d' i hi',Nat.zero_add]at a b;exact⟨by simpa [Jem]using a,by simpa [Jem]using b⟩
  ·exact(Below.refl B w).grown (JvL _) hB (fun k e=>by cases e;exact h3)
end Go.Proofs.YtaaoamkagppodaaGreatDoor
