/- Texts merged by program. No condition. -/
import Derived.Shelf.SlSortCmp.NoneTotal
import Derived.Test.YthnddabcmhplkaaGreatDoorK13
set_option maxHeartbeats 1000000
namespace Go.Proofs
open Go.Shelf
def Tryz.sortEd_ren : Go.Shelf.Ren := ⟨fun | 6 => 97 | 15 => 116 | 14 => 115 | 28 => 137 | 29 => 138 | 20 => 129 | 21 => 130 | 22 => 131 | 23 => 132 | 24 => 133 | 25 => 134 | 26 => 135 | 27 => 136 | 46 => 149 | 47 => 150 | 48 => 151 | 49 => 152 | 50 => 153 | 57 => 166 | n => n,fun | 22 => 151 | 24 => 155 | 25 => 157 | 3 => 3 | 39 => 57 | 0 => 0 | 53 => 194 | 55 => 62 | 4 => 4 | 46 => 188 | 45 => 187 | 50 => 159 | 5 => 5 | 9 => 9 | 66 => 203 | 70 => 207 | 76 => 222 | 77 => 170 | n => n,fun | n => n⟩
theorem Tryz.sortEd : Go.Proofs.SlLaysF0.n6 Tryz.prog Tryz.sortEd_ren := {
 mixed := by kernel_rfl
 f6 := ⟨Tryz.f97.name,by decide,Tryz.func97.trans (congrArg some (by kernel_rfl))⟩
 f14 := ⟨Tryz.f115.name,by decide,Tryz.func115.trans (congrArg some (by kernel_rfl))⟩
 f15 := Tryz.func116.trans (congrArg some (by kernel_rfl))
 f20 := ⟨Tryz.f129.name,by decide,Tryz.func129.trans (congrArg some (by kernel_rfl))⟩
 f21 := ⟨Tryz.f130.name,by decide,Tryz.func130.trans (congrArg some (by kernel_rfl))⟩
 f22 := ⟨Tryz.f131.name,by decide,Tryz.func131.trans (congrArg some (by kernel_rfl))⟩
 f23 := ⟨Tryz.f132.name,by decide,Tryz.func132.trans (congrArg some (by kernel_rfl))⟩
 f24 := ⟨Tryz.f133.name,by decide,Tryz.func133.trans (congrArg some (by kernel_rfl))⟩
 f25 := ⟨Tryz.f134.name,by decide,Tryz.func134.trans (congrArg some (by kernel_rfl))⟩
 f26 := ⟨Tryz.f135.name,by decide,Tryz.func135.trans (congrArg some (by kernel_rfl))⟩
 f27 := ⟨Tryz.f136.name,by decide,Tryz.func136.trans (congrArg some (by kernel_rfl))⟩
 f28 := Tryz.func137.trans (congrArg some (by kernel_rfl))
 f29 := Tryz.func138.trans (congrArg some (by kernel_rfl))
 f46 := ⟨Tryz.f149.name,by decide,Tryz.func149.trans (congrArg some (by kernel_rfl))⟩
 f47 := Tryz.func150.trans (congrArg some (by kernel_rfl))
 f48 := Tryz.func151.trans (congrArg some (by kernel_rfl))
 f49 := ⟨Tryz.f152.name,by decide,Tryz.func152.trans (congrArg some (by kernel_rfl))⟩
 f50 := ⟨Tryz.f153.name,by decide,Tryz.func153.trans (congrArg some (by kernel_rfl))⟩
 f57 := ⟨Tryz.f166.name,by decide,Tryz.func166.trans (congrArg some (by kernel_rfl))⟩
 t0 := Tryz.underlying0
 a0 := Tryz.isAgg0
 z0 := Tryz.sizeOf0
 v0 := Tryz.zeroValue0
 t3 := Tryz.underlying3
 a3 := Tryz.isAgg3
 z3 := Tryz.sizeOf3
 v3 := Tryz.zeroValue3
 t4 := Tryz.underlying4
 a4 := Tryz.isAgg4
 z4 := Tryz.sizeOf4
 v4 := Tryz.zeroValue4
 t5 := Tryz.underlying5
 a5 := Tryz.isAgg5
 z5 := Tryz.sizeOf5
 v5 := Tryz.zeroValue5
 t9 := Tryz.underlying9
 a9 := Tryz.isAgg9
 z9 := Tryz.sizeOf9
 v9 := Tryz.zeroValue9
 t22 := Tryz.underlying151
 a22 := Tryz.isAgg151
 z22 := Tryz.sizeOf151
 v22 := Tryz.zeroValue151
 t25 := Tryz.underlying157
 a25 := Tryz.isAgg157
 z25 := Tryz.sizeOf157
 v25 := Tryz.zeroValue157
 t39 := Tryz.underlying57
 a39 := Tryz.isAgg57
 z39 := Tryz.sizeOf57
 v39 := Tryz.zeroValue57
 t45 := Tryz.underlying187
 a45 := Tryz.isAgg187
 z45 := Tryz.sizeOf187
 v45 := Tryz.zeroValue187
 t46 := Tryz.underlying188
 a46 := Tryz.isAgg188
 z46 := Tryz.sizeOf188
 v46 := Tryz.zeroValue188
 t50 := Tryz.underlying159
 a50 := Tryz.isAgg159
 z50 := Tryz.sizeOf159
 v50 := Tryz.zeroValue159
 t53 := Tryz.underlying194
 a53 := Tryz.isAgg194
 z53 := Tryz.sizeOf194
 v53 := Tryz.zeroValue194
 t55 := Tryz.underlying62
 a55 := Tryz.isAgg62
 z55 := Tryz.sizeOf62
 v55 := Tryz.zeroValue62
 t66 := Tryz.underlying203
 a66 := Tryz.isAgg203
 z66 := Tryz.sizeOf203
 v66 := Tryz.zeroValue203
 t70 := Tryz.underlying207
 a70 := Tryz.isAgg207
 z70 := Tryz.sizeOf207
 v70 := Tryz.zeroValue207
 t76 := Tryz.underlying222
 a76 := Tryz.isAgg222
 z76 := Tryz.sizeOf222
 v76 := Tryz.zeroValue222
 t77 := Tryz.underlying170
 a77 := Tryz.isAgg170
 z77 := Tryz.sizeOf170
 v77 := Tryz.zeroValue170 }
end Go.Proofs
set_option linter.unusedVariables false
namespace Go.Proofs.YthnddabcmhplkaaGreatDoor
open Go Go.RowKit Go.Shelf Go.Lib
open Go.Sort (grow HoldsK SWO flatK get_flatK alloc_eq_grow grow_grow SortedIn PermIn heap_grow_old putRow putRowK mapBlock onCells putCells)
def encE (x : Int × Int) : List Value := [.int .i32 x.1,.int .i64 x.2]
def cfE (x y : Int × Int) : Int := Lib.compareInt x.1 y.1
theorem ltE (x y : Int × Int) : ltOf cfE x y = decide (x.1 < y.1) := by
 unfold ltOf cfE Lib.compareInt
 by_cases h1 : x.1 < y.1
 ·simp [h1]
 ·by_cases h2 : y.1 < x.1 <;> simp [h1,h2]
theorem swoE : SWO (ltOf cfE) where
 irrefl x := by rw [ltE];simp
 trans x y z h1 h2 := by rw [ltE] at *;simp at *;omega
 ntrans x y z h1 h2 := by rw [ltE] at *;simp at *;omega
theorem compare_any (x y : Int) (W : World) : Calls Tryz.prog 99 #[.int .i32 x,.int .i32 y] W fun e w' => e = .returned (.int .i64 (Lib.compareInt x y)) ∧ w' = W := by
 go_enter Tryz.func99,Tryz.ntmps99
 by_cases h1 : x < y
 ·have e : Lib.compareInt x y = -1 := by unfold Lib.compareInt;simp [h1]
  rw [e]
  go_wp2
  go_ret
  exact ⟨rfl,rfl⟩
 ·by_cases h2 : y < x
  ·have e : Lib.compareInt x y = 1 := by unfold Lib.compareInt;simp [h1,h2]
   rw [e]
   go_wp2
   go_ret
   exact ⟨rfl,rfl⟩
  ·have e : Lib.compareInt x y = 0 := by unfold Lib.compareInt;simp [h1,h2]
   rw [e]
   go_wp2
   go_ret
   exact ⟨rfl,rfl⟩
theorem closure_any (x y : Int × Int) (W : World) : Calls Tryz.prog 98 #[.agg #[.int .i32 x.1,.int .i64 x.2],.agg #[.int .i32 y.1,.int .i64 y.2]] W fun e w' => e = .returned (.int .i64 (cfE x y)) ∧ ∃ q os',w' = grow (W.drewN q) os' := by
 have hcon := fun W' => compare_any x.1 y.1 W'
 unfold cfE
 generalize Lib.compareInt x.1 y.1 = r at hcon ⊢
 go_enter Tryz.func98,Tryz.ntmps98
 go_wp2_with (go_at_call 99;refine (hcon _).mono ?_;rintro e w' ⟨rfl,rfl⟩)
 go_ret
 exact ⟨rfl,0,_,by rw [alloc_eq_grow,alloc_eq_grow,grow_grow];rfl⟩
theorem cmpLaysE (blk off size : Nat) (w : World) : CmpLays Tryz.prog 98 #[] encE 2 cfE blk off size w := fun _ _ _ _ x y => closure_any x y _
def EdRow (w : World) (B : Nat) (v : Value) (D : List (Int × Int)) : Prop :=
 (v = .slice none 0 0 ∧ D = []) ∨ ∃ g c cs,v = .slice (some ⟨g,0,none⟩) D.length c ∧ B ≤ g ∧ D.length ≤ c ∧ c ≤ maxLen ∧ w.heap[g]? = some (.cells cs 155 (0,0)) ∧ ∀ i (h : i < D.length),w.cell? ⟨g,i * 2,none⟩ = some (.int .i32 D[i].1) ∧ w.cell? ⟨g,i * 2 + 1,none⟩ = some (.int .i64 D[i].2)
def KeepsEd (W W' : World) : Prop := ∀ (g : Nat) (cs : Array Value),W.heap[g]? = some (Obj.cells cs 155 (0,0)) → W'.heap[g]? = some (Obj.cells cs 155 (0,0))
theorem KeepsEd.trans {A B C : World} (h : KeepsEd A B) (k : KeepsEd B C) : KeepsEd A C := fun g cs hg => k g cs (h g cs hg)
theorem KeepsEd.grown {W W' : World} {row : Option Nat} (hg : W.grownBy W' row) (hr : ∀ r,row = some r → ∀ cs : Array Value,W.heap[r]? ≠ some (Obj.cells cs 155 (0,0))) : KeepsEd W W' := fun g cs h => by
 refine (hg.block g (Array.getElem?_eq_some_iff.1 h).1 ?_).trans h
 intro e
 exact hr g e.symm cs h
theorem EdRow.keeps {w w' : World} {B : Nat} {v : Value} {D : List (Int × Int)} (h : EdRow w B v D) (hk : KeepsEd w w') : EdRow w' B v D := by
 rcases h with h | ⟨g,c,cs,h1,h2,h3,h4,h5,h6⟩
 ·exact .inl h
 ·have h7 := hk g cs h5
  have hc : ∀ i,w'.cell? ⟨g,i,none⟩ = w.cell? ⟨g,i,none⟩ := fun i => World.cell?_of_block (h7.trans h5.symm)
  exact .inr ⟨g,c,cs,h1,h2,h3,h4,h7,fun i hi => by rw [hc,hc];exact h6 i hi⟩
theorem enc_get (E : List (Int × Int)) (j : Nat) (hj : j < E.length * 2) : (flatK encE 2 E.toArray)[j]! = (cellsE E)[j]?.getD default := by
 rw [get_flatK encE 2 E.toArray j (by simpa using hj)]
 have hi : j / 2 < E.length := by omega
 obtain ⟨h1,h2⟩ := cellsE_at E (j / 2) hi
 have ge : (E.toArray)[j / 2]! = E[j / 2] := by simp [hi]
 rw [ge]
 by_cases hp : j % 2 = 0
 ·rw [hp]
  rw [show j / 2 * 2 = j by omega] at h1
  rw [h1]
  rfl
 ·have hp1 : j % 2 = 1 := by omega
  rw [hp1]
  rw [show j / 2 * 2 + 1 = j by omega] at h2
  rw [h2]
  rfl
theorem holds_of_own {w : World} {B g c : Nat} {E : List (Int × Int)} (h : OwnE w B (.slice (some ⟨g,0,none⟩) E.length c) E) : HoldsK encE 2 w g 0 E.toArray := by
 intro j hj
 have hj' : j < E.length * 2 := by simpa using hj
 rw [enc_get E j hj',Nat.zero_add]
 obtain ⟨u,hu⟩ : ∃ u,(cellsE E)[j]? = some u := ⟨_,List.getElem?_eq_getElem (by rw [cellsE_length];exact hj')⟩
 have hc := World.ownsRow.cells h (g := g) rfl _ _ hu
 rw [hu]
 constructor
 ·have hadd : (⟨g,0,none⟩ : Addr).add j = ⟨g,j,none⟩ := by unfold Addr.add;split <;> simp_all
  rw [hadd] at hc
  exact hc
 ·rcases h.2 with ⟨h1,_⟩ | ⟨q,cap,cur,h1,_,hh,_⟩
  ·cases h1
  ·injection h1 with h1
   injection h1 with h1
   injection h1 with h1
   subst h1
   simp [World.frozen?,hh]
theorem heap_sortedE {w : World} {g n : Nat} {os : Array Obj} {cur : Array Value} {e : TypeId} {fr : Nat × Nat} (d : Array (Int × Int)) (hb : w.heap[g]? = some (.cells cur e fr)) :
  (sortWorldK encE 2 w g 0 n d os).heap[g]? = some (.cells (putCells id 0 (flatK encE 2 d) cur) e fr) := by
 have hg : g < w.heap.size := (Array.getElem?_eq_some_iff.1 hb).1
 unfold sortWorldK putRowK
 rw [heap_grow_old _ _ (by simpa using hg)]
 simp [putRow,mapBlock,Sort.ahead,Array.getElem?_modify,hb,onCells]
theorem grownBy_sortedE {w : World} {g n : Nat} {os : Array Obj} (d : Array (Int × Int)) : w.grownBy (sortWorldK encE 2 w g 0 n d os) (some g) := by
 refine ⟨rfl,rfl,rfl,by simp [sortWorldK,putRowK],fun k hk hne => ?_⟩
 unfold sortWorldK putRowK
 rw [heap_grow_old _ _ (by simpa using hk)]
 have : g ≠ k := fun e => hne (by rw [e])
 simp [putRow,mapBlock,Sort.ahead,Array.getElem?_modify,this]
def SortPost (B : Nat) (v : Value) (E : List (Int × Int)) (w : World) (e : Ending) (w' : World) : Prop :=
 e = .returned (.tuple #[]) ∧ ∃ D,D.Perm E ∧ RiseE D ∧ EdRow w' B v D ∧ Below B w w'
theorem sort_any (B : Nat) (v : Value) (E : List (Int × Int)) (w : World) (h : OwnE w B v E) (hB : B ≤ w.heap.size) (hn : E.length < 4611686018427387904) :
  Calls Tryz.prog 97 #[v,.func (.func 98) #[] #[]] w (SortPost B v E w) := by
 rcases own_slice2 h with ⟨rfl,h0⟩ | ⟨g,c,rfl,h1,h2,h3⟩
 ·have hE : E = [] := List.eq_nil_of_length_eq_zero h0
  subst hE
  have hs := AnyF.slices_SortFunc_none (P := Tryz.prog) (ρ := Tryz.sortEd_ren) { Tryz.sortEd with } none 0 (.func (.func 98) #[] #[]) w
  refine Calls.mono (f := 97) hs ?_
  rintro e w' ⟨rfl,rfl⟩
  exact ⟨rfl,[],List.Perm.nil,List.Pairwise.nil,.inl ⟨rfl,rfl⟩,Below.refl _ _⟩
 ·have eg : ∀ args w,(callFunc 98 args).run Tryz.prog w = .ok (.enter 98 args) w := enters_of Tryz.func98 (by kernel_rfl) rfl
  have hH := holds_of_own h
  have hblk : g < w.heap.size := (World.ownsRow.lt h g rfl).2
  obtain ⟨cur,hcell⟩ : ∃ cur,w.heap[g]? = some (.cells cur 155 (0,0)) := by
   rcases h.2 with ⟨h5,_⟩ | ⟨q,cap,cur,h5,_,hh,_⟩
   ·cases h5
   ·injection h5 with h5
    injection h5 with h5
    injection h5 with h5
    subst h5
    exact ⟨cur,hh⟩
  have hcon := AnyQ.slices_SortFunc Tryz.sortEd 2 Tryz.isAgg155 Tryz.sizeOf155 encE (fun _ => rfl) (fun x v hv => by simp [encE] at hv;rcases hv with rfl | rfl <;> rfl) cfE swoE 98 #[] g 0 c E.toArray w eg (cmpLaysE g 0 E.toArray.size w) hH hblk (by simpa using hn)
  rw [List.size_toArray] at hcon
  refine Calls.mono (f := 97) hcon ?_
  rintro e w' ⟨rfl,d',n,os,hp,hs,rfl⟩
  have hsz : d'.size = E.length := by simpa using hp.1
  refine ⟨rfl,d'.toList,?_,?_,.inr ⟨g,c,putCells id 0 (flatK encE 2 d') cur,?_,h3,?_,h2,heap_sortedE _ hcell,fun i hi => ?_⟩,?_⟩
  ·have := hp.2.2
   rw [← List.size_toArray,Array.extract_size] at this
   have e1 : d'.extract 0 E.toArray.size = d' := by
    rw [List.size_toArray,← hsz,Array.extract_size]
   rw [e1] at this
   simpa using this
  ·unfold RiseE
   rw [List.pairwise_iff_getElem]
   intro i j hi hj hij
   have hj' : j < d'.size := by simpa using hj
   have := hs i j (Nat.zero_le _) hij (by rw [← hsz];exact hj')
   rw [ltE,getElem!_pos d' j hj',getElem!_pos d' i (by omega)] at this
   have := of_decide_eq_false this
   simp only [Array.getElem_toList]
   omega
  ·simp [hsz]
  ·simp [hsz];exact h1
  ·have hk := holdsK_sortWorldK_c encE 2 w g 0 E.toArray d' n os hH hblk (by simpa using hsz)
   have hi' : i < d'.size := by simpa using hi
   have a := (hk.cell (i := i) (c := 0) hi' (by omega)).1
   have b := (hk.cell (i := i) (c := 1) hi' (by omega)).1
   rw [getElem!_pos d' i hi',Nat.zero_add] at a b
   exact ⟨by simpa [encE] using a,by simpa [encE] using b⟩
  ·exact (Below.refl B w).grown (grownBy_sortedE _) hB (fun k e => by cases e;exact h3)
end Go.Proofs.YthnddabcmhplkaaGreatDoor
