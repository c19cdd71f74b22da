/- Texts merged by program. No condition. -/
import Derived.Test.YthnddabcmhplkaaGreatDoorK24
import Derived.Maps.AppendAt
import Derived.Sort.CutIn
set_option maxHeartbeats 4000000
set_option maxRecDepth 100000
set_option linter.unusedVariables false
namespace Go.Proofs.YthnddabcmhplkaaGreatDoor
open Go Go.RowKit Go.Shelf
attribute [local go_sem] Oper.semAt_some
theorem edges_any (b o n c : Nat) (w : World) :
  Calls Tryz.prog 76 #[.slice (some ⟨b,o,none⟩) n c] w fun e w' => e = .returned (.func (.func 95) #[] #[.pointer (some ⟨w.heap.size,0,none⟩)]) ∧ w' = w.alloc (.cells #[.slice (some ⟨b,o,none⟩) n c] 111) := by
 go_enter Tryz.func76,Tryz.ntmps76
 go_wp2
 go_ret
 exact ⟨rfl,rfl⟩
theorem iter_stops (n Bx : Nat) (hn : 1 ≤ n) (v : Value) (ls : List (List (Int × Int))) (htot : totL ls ≤ 536870912) (w : World) (hB : Bx < w.heap.size) (hc : w.cell? ⟨Bx,0,none⟩ = some v) (hL : Lss w v ls) :
  SeqStopsK Fence.wide n Tryz.prog 95 #[.pointer (some ⟨Bx,0,none⟩)] Tell.vals KeepsEd (fun xs => RiseS (tells xs) ∧ ∀ c,cntE (tells xs) c = cntE (endsL ls) c) (fun _ => True) (endsL ls).length w :=
 fun l J Jx W hW hJ _ hY h0 => iter_in n l Bx hn v ls htot J Jx W hJ hY ((hW.cell (p := ⟨Bx,0,none⟩) hB).trans hc) (hL.below hW) h0
def heldOf (p : Int → Bool) (pre : List Tell) : Held := heldFrom p (tells pre)
theorem heldOf_snoc (p : Int → Bool) (pre : List Tell) (x : Tell) : heldOf p (pre ++ [x]) = heldStep p (heldOf p pre) x.1 := by
 unfold heldOf
 rw [tells_snoc,heldFrom_snoc]
theorem heldOf_len (p : Int → Bool) (pre : List Tell) : (heldOf p pre).out.length ≤ pre.length := by
 have := held_len p (tells pre) { n := 0,from' := 0,inn := p 0,out := [] }
 rw [tells_length] at this
 simpa [heldOf,heldFrom] using this
theorem heldOf_n (p : Int → Bool) (pre : List Tell) : -(1073741824 * pre.length) ≤ (heldOf p pre).n ∧ (heldOf p pre).n ≤ 1073741824 * pre.length := by
 have h1 := held_n p (tells pre) { n := 0,from' := 0,inn := p 0,out := [] }
 have h2 := sum_bound 1073741824 (tells pre) (fun g hg => by
  unfold tells at hg
  obtain ⟨x,_,rfl⟩ := List.mem_map.1 hg
  exact x.2.2)
 rw [tells_length] at h2
 have : (heldOf p pre).n = sumE (tells pre) := by
  unfold heldOf heldFrom
  rw [h1]
  simp
 rw [this]
 exact h2
theorem info_range1 : (Tryz.prog.info? 51).map (fun i => (i.zero,i.size,i.bytes)) = some (some (.agg #[.int .i32 0,.int .i32 0]),2,8) := by kernel_rfl
structure HB5 (s g : Nat) (vs : Value) (oo : List (Int × Int)) (nn ff : Int) (ii : Bool) (W : World) : Prop where
 b1 : Boxed W s 95 (.func (.func g) #[] #[])
 b2 : Boxed W (s + 1) 26 vs
 row : W.ownsRow s 51 2 vs oo.length (cellsR oo)
 b3 : Boxed W (s + 1 + 1) 3 (.int .i64 nn)
 b4 : Boxed W (s + 1 + 1 + 1) 21 (.int .i32 ff)
 b5 : Boxed W (s + 1 + 1 + 1 + 1) 4 (.bool ii)
def HBoxes (s : Nat) (g : Nat) (p : Int → Bool) (pre : List Tell) (W : World) : Prop :=
 ∃ vs,HB5 s g vs (heldOf p pre).out (heldOf p pre).n (heldOf p pre).from' (heldOf p pre).inn W
theorem hboxes_own (s g : Nat) (p : Int → Bool) : Own (fun (pre : List Tell) W => HBoxes s g p pre W) := by
 intro pre X Y row h hg hr
 obtain ⟨vs,h1,h2,h0,h3,h4,h5⟩ := h
 have hq := holdsRow_own s (s + 1) 26 51 2 (fun pre => (heldOf p pre).out.length) (fun pre => cellsR (heldOf p pre).out) (fun _ u => u = vs) pre X Y row ⟨vs,h2,h0,rfl⟩ hg hr
 obtain ⟨vs',k2,k0,rfl⟩ := hq
 exact ⟨vs',boxed_own s _ (fun _ => Value.func (.func g) #[] #[]) pre X Y row h1 hg hr,k2,k0,
  boxed_own (s + 1 + 1) _ (fun pre => Value.int .i64 (heldOf p pre).n) pre X Y row h3 hg hr,
  boxed_own (s + 1 + 1 + 1) _ (fun pre => Value.int .i32 (heldOf p pre).from') pre X Y row h4 hg hr,
  boxed_own (s + 1 + 1 + 1 + 1) _ (fun pre => Value.bool (heldOf p pre).inn) pre X Y row h5 hg hr⟩
section
variable {s g : Nat} {vs : Value} {oo : List (Int × Int)} {nn ff : Int} {ii : Bool} {W W' : World}
theorem HB5.kept (h : HB5 s g vs oo nn ff ii W) (hg : W.grownBy W' none) : HB5 s g vs oo nn ff ii W' :=
 ⟨h.b1.kept hg (by simp),h.b2.kept hg (by simp),World.ownsRow.kept h.row hg (by cases vs.ownBlock <;> simp),h.b3.kept hg (by simp),h.b4.kept hg (by simp),h.b5.kept hg (by simp)⟩
theorem HB5.setN (h : HB5 s g vs oo nn ff ii W) (u : Int) : HB5 s g vs oo u ff ii (W.setCell ⟨s + 1 + 1,0,none⟩ (.int .i64 u)) :=
 ⟨h.b1.other (by omega) _,h.b2.other (by omega) _,World.ownsRow.kept h.row (grownBy_setCell' W (s + 1 + 1) _) (.inr (h.b3.not_row (by decide) h.row).symm),h.b3.set _,h.b4.other (by omega) _,h.b5.other (by omega) _⟩
theorem HB5.setF (h : HB5 s g vs oo nn ff ii W) (u : Int) : HB5 s g vs oo nn u ii (W.setCell ⟨s + 1 + 1 + 1,0,none⟩ (.int .i32 u)) :=
 ⟨h.b1.other (by omega) _,h.b2.other (by omega) _,World.ownsRow.kept h.row (grownBy_setCell' W (s + 1 + 1 + 1) _) (.inr (h.b4.not_row (by decide) h.row).symm),h.b3.other (by omega) _,h.b4.set _,h.b5.other (by omega) _⟩
theorem HB5.setI (h : HB5 s g vs oo nn ff ii W) (u : Bool) : HB5 s g vs oo nn ff u (W.setCell ⟨s + 1 + 1 + 1 + 1,0,none⟩ (.bool u)) :=
 ⟨h.b1.other (by omega) _,h.b2.other (by omega) _,World.ownsRow.kept h.row (grownBy_setCell' W (s + 1 + 1 + 1 + 1) _) (.inr (h.b5.not_row (by decide) h.row).symm),h.b3.other (by omega) _,h.b4.other (by omega) _,h.b5.set _⟩
end
structure Stp (s : Nat) (W W' : World) : Prop where
 o : KeepsOthers W W'
 e : KeepsEd W W'
 b : Below s W W'
theorem Stp.trans {s : Nat} {A B C : World} (h : Stp s A B) (k : Stp s B C) : Stp s A C := ⟨h.o.trans k.o,h.e.trans k.e,h.b.trans k.b⟩
theorem Stp.set {s B : Nat} {t : TypeId} {v : Value} {W : World} (h : Boxed W B t v) (ht : t ≠ 155) (hB : s ≤ B) (u : Value) : Stp s W (W.setCell ⟨B,0,none⟩ u) :=
 ⟨KeepsOthers.setCell _ _ _,KeepsEd.grown (grownBy_setCell' W B u) (fun r e cs h' => by
  cases e
  have := h
  unfold Boxed at this
  rw [h'] at this
  injection this with this
  injection this with _ this
  exact ht this.symm),(Below.refl s W).setCell (p := ⟨B,0,none⟩) hB u⟩
theorem grown_drewN (W : World) (q : Nat) : W.grownBy (W.drewN q) none := by
 have := below_draws W q
 exact ⟨this.os,this.tape,this.output,this.size,fun k hk _ => this.block k hk⟩
theorem grown_drew (W : World) : W.grownBy W.drew none := grown_drewN W 1
theorem Stp.drewN (s : Nat) (W : World) (hs : s ≤ W.heap.size) (q : Nat) : Stp s W (W.drewN q) :=
 ⟨KeepsOthers.of_grownBy (grown_drewN W q) (fun j o e _ => by cases e),KeepsEd.grown (grown_drewN W q) (fun r e => by cases e),(below_draws W q).mono hs⟩
theorem Stp.drew (s : Nat) (W : World) (hs : s ≤ W.heap.size) : Stp s W W.drew := Stp.drewN s W hs 1
theorem tail_ok {s g : Nat} {vs : Value} {oo : List (Int × Int)} {nn ff : Int} {ii : Bool} {X : World} (h : HB5 s g vs oo nn ff ii X) (hs : s ≤ X.heap.size) (x1 : Int) (u : Bool) :
  HB5 s g vs oo nn x1 u ((X.setCell ⟨s + 1 + 1 + 1,0,none⟩ (.int .i32 x1)).setCell ⟨s + 1 + 1 + 1 + 1,0,none⟩ (.bool u)).drew ∧ Stp s X ((X.setCell ⟨s + 1 + 1 + 1,0,none⟩ (.int .i32 x1)).setCell ⟨s + 1 + 1 + 1 + 1,0,none⟩ (.bool u)).drew := by
 have h1 := h.setF x1
 have h2 := h1.setI u
 have s1 := Stp.set h.b4 (by decide) (show s ≤ s + 1 + 1 + 1 by omega) (.int .i32 x1)
 have s2 := Stp.set h1.b5 (by decide) (show s ≤ s + 1 + 1 + 1 + 1 by omega) (.bool u)
 have s3 := s1.trans s2
 refine ⟨h2.kept (grown_drew _),s3.trans (Stp.drew s _ ?_)⟩
 exact Nat.le_trans hs s3.b.size
theorem append_ok {s g : Nat} {vs v' : Value} {oo o2 : List (Int × Int)} {nn ff : Int} {ii : Bool} {X w1 : World} {tmp : Obj} (h : HB5 s g vs oo nn ff ii X) (hs : s ≤ X.heap.size)
  (hown' : w1.ownsRow s 51 2 v' o2.length (cellsR o2)) (hgrow : (X.alloc tmp).grownBy w1 vs.ownBlock) :
  (w1.cell? ⟨s + 1,0,none⟩ = some vs ∧ w1.frozen? ⟨s + 1,0,none⟩ = false) ∧ HB5 s g v' o2 nn ff ii (w1.setCell ⟨s + 1,0,none⟩ v') ∧ Stp s X (w1.setCell ⟨s + 1,0,none⟩ v') := by
 obtain ⟨a1,a2,a3,a4,a5⟩ := h.b2.appended (by decide) h.row hs (show s ≤ s + 1 by omega) hown' hgrow
 refine ⟨⟨a1.cell,a1.frozen⟩,⟨?_,a2,a3,?_,?_,?_⟩,⟨a4,?_,a5⟩⟩
 ·exact (((h.b1.alloc tmp).kept hgrow (h.b1.not_row (by decide) h.row))).other (by omega) _
 ·exact (((h.b3.alloc tmp).kept hgrow (h.b3.not_row (by decide) h.row))).other (by omega) _
 ·exact (((h.b4.alloc tmp).kept hgrow (h.b4.not_row (by decide) h.row))).other (by omega) _
 ·exact (((h.b5.alloc tmp).kept hgrow (h.b5.not_row (by decide) h.row))).other (by omega) _
 ·have k1 : KeepsEd X (X.alloc tmp) := KeepsEd.grown (World.grownBy_alloc X tmp none) (fun r e => by cases e)
  have k2 : KeepsEd (X.alloc tmp) w1 := KeepsEd.grown hgrow (fun r e cs h' => by
   have hr : (X.alloc tmp).ownsRow s 51 2 vs oo.length (cellsR oo) := World.ownsRow.kept h.row (World.grownBy_alloc X tmp none) (by cases vs.ownBlock <;> simp)
   rcases hr.2 with ⟨rfl,_⟩ | ⟨q,cap,cur,rfl,_,hh,_⟩
   ·simp [Value.ownBlock] at e
   ·have : q = r := by simpa [Value.ownBlock] using e
    subst this
    rw [h'] at hh
    injection hh with hh
    injection hh with _ hh
    exact absurd hh (by decide))
  exact (k1.trans k2).trans (Stp.set a1 (by decide) (show s ≤ s + 1 by omega) v').e
theorem cell_two_new (w : World) (x1 x2 : Int) : ∀ j v,[Value.int .i32 x1,.int .i32 x2][j]? = some v → (w.alloc (.cells #[.int .i32 x1,.int .i32 x2] 51)).cell? ((⟨w.heap.size,0,none⟩ : Addr).add j) = some v := by
 intro j v hj
 have hadd : (⟨w.heap.size,0,none⟩ : Addr).add j = ⟨w.heap.size,j,none⟩ := by unfold Addr.add;split <;> simp_all
 rw [hadd,World.cell?_alloc_at _ _ _ _ rfl]
 match j,hj with
 | 0,hj => simpa using hj
 | 1,hj => simpa using hj
def HPost (p : Int → Bool) (ls : List (List (Int × Int))) (w : World) (e : Ending) (w' : World) : Prop :=
 SetPost (fun c => 0 ≤ c ∧ c ≤ 1114111 ∧ p (cntE (endsL ls) c) = true) w e w'
theorem heldEnd_out {nn ff : Int} {ii : Bool} {oo : List (Int × Int)} (h : ¬ (ii = true ∧ ff ≤ 1114111)) : heldEnd { n := nn,from' := ff,inn := ii,out := oo } = oo := if_neg h
theorem heldEnd_in {nn ff : Int} {ii : Bool} {oo : List (Int × Int)} (h : ii = true ∧ ff ≤ 1114111) : heldEnd { n := nn,from' := ff,inn := ii,out := oo } = oo ++ [(ff,1114111)] := if_pos h
theorem done_ok {g : Nat} {vs : Value} {k : List (Int × Int)} {nn ff : Int} {ii : Bool} {w X : World} {D : Nat} {P : Int → Prop} (h : HB5 w.heap.size g vs k nn ff ii X) (hr : RightR k) (hs : ∀ c,HasR k c ↔ P c) (hB : Below w.heap.size w X) (hK : X.heap[D]? = some (.deferred (some []))) (hD : w.heap.size ≤ D) :
  SetPost P w (.returned vs) (X.putObj D (.deferred none)) :=
 ⟨vs,k,rfl,⟨ownsRow_putObj h.row _ hK rfl,fun r hm => by
  have := right_fit k 0 (Int.le_refl _) hr r hm
  unfold Fit at this
  unfold I32
  omega⟩,hr,hs,hB.trans (belowK_b (w := w) (Nat.le_refl _) X D _ _ hD hK rfl rfl)⟩
theorem held_any (g : Nat) (p : Int → Bool) (eg : ∀ args w,(callFunc g args).run Tryz.prog w = .ok (.enter g args) w)
  (hp : ∀ (n : Int) (W : World),Calls Tryz.prog g #[.int .i64 n] W fun e w' => e = .returned (.bool (p n)) ∧ w' = W)
  (v : Value) (ls : List (List (Int × Int))) (w : World) (h : Lss w v ls) (htot : totL ls ≤ 536870912) :
  Calls Tryz.prog 52 #[.func (.func g) #[] #[],v] w (HPost p ls w) := by
 have HL := Hd h
 have hEl := endsL_length ls
 obtain ⟨b,o,c,rfl,-⟩ := h
 refine (callsIn_wide (n := 8)).1 ?_
 refine callsIn_of_wp_marks Tryz.func52 rfl trivial ?_ rfl
 simp only [Tryz.ntmps52,List.size_toArray,List.length_cons,List.length_nil,Nat.reduceAdd,Nat.reduceSub,Array.replicate_succ,Array.replicate_zero,List.push_toArray,List.append_toArray,List.nil_append,List.cons_append]
 gi_wp2_with (first | (refine ⟨trivial,?_⟩;gi_at_call 76;refine (callsIn_wide.2 (edges_any b o ls.length c _)).mono ?_;rintro e W1 ⟨rfl,rfl⟩) | (refine ⟨trivial,?_⟩;refine (callsIn_wide.2 (hp 0 _)).mono ?_;rintro e W1 ⟨rfl,rfl⟩))
 have hb0 := Below.refl w.heap.size w
 have w0_size : w.heap.size + 6 = ((((((w.alloc (.cells #[.func (.func g) #[] #[]] 95)).alloc (.cells #[.slice none 0 0] 26)).alloc (.cells #[.int .i64 0] 3)).alloc (.cells #[.int .i32 0] 21)).alloc (.cells #[.bool (p 0)] 4)).alloc (.cells #[.slice (some ⟨b,o,none⟩) ls.length c] 111)).heap.size := by simp
 obtain ⟨W0,hW0⟩ : ∃ W0,((((((w.alloc (.cells #[.func (.func g) #[] #[]] 95)).alloc (.cells #[.slice none 0 0] 26)).alloc (.cells #[.int .i64 0] 3)).alloc (.cells #[.int .i32 0] 21)).alloc (.cells #[.bool (p 0)] 4)).alloc (.cells #[.slice (some ⟨b,o,none⟩) ls.length c] 111)) = W0 := ⟨_,rfl⟩
 have hBel : Below w.heap.size w W0 := by
  rw [← hW0]
  exact ((((((Below.refl _ w).alloc (Nat.le_refl _) _).alloc (by simp) _).alloc (by simp;omega) _).alloc (by simp;omega) _).alloc (by simp;omega) _).alloc (by simp;omega) _
 have hI0 : HBoxes w.heap.size g p [] W0 := by
  rw [← hW0]
  have b1 := (((((Boxed.new w 95 (.func (.func g) #[] #[])).alloc (.cells #[.slice none 0 0] 26)).alloc (.cells #[.int .i64 0] 3)).alloc (.cells #[.int .i32 0] 21)).alloc (.cells #[.bool (p 0)] 4)).alloc (.cells #[.slice (some ⟨b,o,none⟩) ls.length c] 111)
  have b2 := ((((Boxed.new (w.alloc (.cells #[.func (.func g) #[] #[]] 95)) 26 (.slice none 0 0)).alloc (.cells #[.int .i64 0] 3)).alloc (.cells #[.int .i32 0] 21)).alloc (.cells #[.bool (p 0)] 4)).alloc (.cells #[.slice (some ⟨b,o,none⟩) ls.length c] 111)
  have b3 := (((Boxed.new ((w.alloc (.cells #[.func (.func g) #[] #[]] 95)).alloc (.cells #[.slice none 0 0] 26)) 3 (.int .i64 0)).alloc (.cells #[.int .i32 0] 21)).alloc (.cells #[.bool (p 0)] 4)).alloc (.cells #[.slice (some ⟨b,o,none⟩) ls.length c] 111)
  have b4 := ((Boxed.new (((w.alloc (.cells #[.func (.func g) #[] #[]] 95)).alloc (.cells #[.slice none 0 0] 26)).alloc (.cells #[.int .i64 0] 3)) 21 (.int .i32 0)).alloc (.cells #[.bool (p 0)] 4)).alloc (.cells #[.slice (some ⟨b,o,none⟩) ls.length c] 111)
  have b5 := (Boxed.new ((((w.alloc (.cells #[.func (.func g) #[] #[]] 95)).alloc (.cells #[.slice none 0 0] 26)).alloc (.cells #[.int .i64 0] 3)).alloc (.cells #[.int .i32 0] 21)) 4 (.bool (p 0))).alloc (.cells #[.slice (some ⟨b,o,none⟩) ls.length c] 111)
  simp only [World.size_alloc] at b2 b3 b4 b5
  exact ⟨_,b1,b2,World.ownsRow_nil _ _ _ _,b3,b4,b5⟩
 have hc0 : W0.cell? ⟨w.heap.size + 1 + 1 + 1 + 1 + 1,0,none⟩ = some (.slice (some ⟨b,o,none⟩) ls.length c) := by
  rw [← hW0]
  have b6 := Boxed.new (((((w.alloc (.cells #[.func (.func g) #[] #[]] 95)).alloc (.cells #[.slice none 0 0] 26)).alloc (.cells #[.int .i64 0] 3)).alloc (.cells #[.int .i32 0] 21)).alloc (.cells #[.bool (p 0)] 4)) 111 (.slice (some ⟨b,o,none⟩) ls.length c)
  simp only [World.size_alloc] at b6
  exact b6.cell
 rw [hW0] at w0_size ⊢
 clear hW0 hb0
 refine wpIn_rangeFunc_ownG rfl (by decide) (gf := 95) (lb := #[.pointer (some ⟨w.heap.size + 1 + 1 + 1 + 1 + 1,0,none⟩)]) rfl trivial (enters_of Tryz.func95 (by kernel_rfl) rfl)
  (iter_stops 7 (w.heap.size + 1 + 1 + 1 + 1 + 1) (by decide) _ ls htot W0 (by omega) hc0 (HL.out.below hBel)) KeepsEd.trans
  (fun W l ob ob' _ h1 h2 _ => KeepsEd.grown (grownBy_putObj' W l ob') (fun r e cs h => by cases e;rw [h1] at h;cases h;cases h2)) (Below.refl _ _) (fun _ => rfl)
  (fun pre W => HBoxes w.heap.size g p pre W ∧ Below w.heap.size w W)
  (fun _ _ _ => False)
  (OwnFrom.and (Own.from (hboxes_own w.heap.size g p) _) (ownFrom_below (Nat.le_refl _) (by omega)))
  (fun _ _ _ _ _ hs _ _ => hs)
  ⟨hI0,hBel⟩
  (fun x => { tmps := #[.func (.func g) #[] #[],.slice (some ⟨b,o,none⟩) ls.length c,.pointer (some ⟨w.heap.size,0,none⟩),undef,.slice none 0 0,.pointer (some ⟨w.heap.size + 1,0,none⟩),.pointer (some ⟨w.heap.size + 1 + 1,0,none⟩),.pointer (some ⟨w.heap.size + 1 + 1 + 1,0,none⟩),.pointer (some ⟨w.heap.size + 1 + 1 + 1 + 1,0,none⟩),.int .i32 x.1.1,.int .i64 x.1.2,.func (.func g) #[] #[],.bool (p 0),.slice (some ⟨b,o,none⟩) ls.length c,.func (.func 95) #[] #[.pointer (some ⟨w.heap.size + 1 + 1 + 1 + 1 + 1,0,none⟩)],.int .i32 x.1.1,.int .i64 x.1.2,undef,undef,undef,undef,undef,undef,undef,undef,undef,undef,undef,undef,undef,undef,undef,undef,undef,undef,undef,undef,undef,undef,undef,undef,undef,undef,undef,undef,undef,undef,undef,undef,undef,undef,undef],defers := [] }) ?assign ?body ?done ?stop
 case assign =>
  intro l x W K hK
  gi_wp2
  exact hK
 case body =>
  rintro l pre x W ⟨⟨vs,h5⟩,hB⟩ hlt
  have hol := heldOf_len p pre
  have hnb := heldOf_n p pre
  have hstep := heldOf_snoc p pre x
  obtain ⟨⟨x1,x2⟩,⟨hx1,hx2⟩,hx3,hx4⟩ := x
  simp only at hx1 hx2 hx3 hx4 hstep
  obtain ⟨st,hst⟩ : ∃ st,heldOf p pre = st := ⟨_,rfl⟩
  rw [hst] at h5 hol hnb hstep
  obtain ⟨nn,ff,ii,oo⟩ := st
  simp only at h5 hol hnb hstep
  have HST := Hd hstep;have H5 := Hd h5;have HB := Hd hB
  have c3 : W.cell? ⟨w.heap.size + 1 + 1,0,none⟩ = _ := h5.b3.cell
  have f3 : W.frozen? ⟨w.heap.size + 1 + 1,0,none⟩ = _ := h5.b3.frozen
  clear hstep hB h5 hst
  dsimp only
  have hwr : IntKind.i64.wrap (nn + x2) = nn + x2 := by
   unfold IntKind.wrap
   simp [IntKind.bits,IntKind.signed]
   omega
  gi_upto_region 7 with (fail)
  have hS2 := Stp.set H5.out.b3 (by decide) (show w.heap.size ≤ w.heap.size + 1 + 1 by omega) (.int .i64 (nn + x2))
  have h52 := H5.out.setN (nn + x2)
  obtain ⟨W2,hW2⟩ : ∃ W2,W.setCell ⟨w.heap.size + 1 + 1,0,none⟩ (.int .i64 (nn + x2)) = W2 := ⟨_,rfl⟩
  rw [hW2] at hS2 h52 ⊢
  have d1 := h52.b1.cell
  have d3 := h52.b3.cell
  have d5 := h52.b5.cell
  have H52 := Hd h52;have HS2 := Hd hS2
  have hsz2 := (HB.out.trans hS2.b).size
  clear c3 f3 h52 hS2 hW2 hwr
  have hmixed : Tryz.prog.follows Departure.mixedOrders = true := by kernel_rfl
  gi_cut [24] from 20 (fun s24 wx => s24 = .bool (p (nn + x2) == ii) ∧ ∃ q,wx = W2.drewN q)
  case first =>
   gi_region_with_o (refine ⟨trivial,?_⟩;refine (CallsIn.inRound l (callsIn_wide.2 (hp _ _))).mono ?_;rintro e W1 ⟨rfl,rfl⟩)
   all_goals
    gi_wp2
    gi_meet
    exact ⟨rfl,1,rfl⟩
  case rest =>
   obtain ⟨rfl,q,hwc⟩ := hcut
   have hS3 := HS2.out.trans (Stp.drewN w.heap.size W2 hsz2 q)
   have h53 := H52.out.kept (grown_drewN W2 q)
   have hsz3 := (HB.out.trans hS3.b).size
   rw [← hwc] at hS3 h53 hsz3
   have e4 := h53.b4.cell
   have e5 := h53.b5.cell
   have H53 := Hd h53;have HS3 := Hd hS3
   clear d1 d3 d5 h53 hS3 hwc H52 HS2
   by_cases hpi : p (nn + x2) = ii
   ·have hbb : (p (nn + x2) == ii) = true := by rw [hpi];simp
    rw [hbb]
    gi_wp2_with fail
    refine ⟨HS3.out.o.from _,HS3.out.e,⟨vs,?_⟩,HB.out.trans HS3.out.b⟩
    have hst := HST.out
    unfold heldStep at hst
    simp only [hpi,if_true] at hst
    rw [hst]
    exact H53.out
   ·have hbb : (p (nn + x2) == ii) = false := by simpa using hpi
    rw [hbb]
    have hst := HST.out
    unfold heldStep at hst
    simp only [hpi,if_false] at hst
    cases ii with
    | false =>
     simp only [Bool.false_eq_true,false_and,if_false] at hst
     gi_wp2_with fail
     have t4 := (H53.out).b4.cell
     have t5 := (H53.out).b5.cell
     have g4 := (H53.out).b4.frozen
     have g5 := (H53.out).b5.frozen
     gi_region_with_o (fail)
     all_goals gi_wp2_with fail
     all_goals
      have htl := tail_ok (H53.out) (hsz3) x1 true
      have hS := (HS3.out).trans htl.2
      refine ⟨hS.o.from _,hS.e,⟨vs,?_⟩,HB.out.trans hS.b⟩
      rw [hst]
      exact htl.1
    | true =>
     by_cases hfx : ff < x1
     ·simp only [hfx,true_and,if_true] at hst
      have k2 : wc.cell? ⟨w.heap.size + 1,0,none⟩ = _ := H53.out.b2.cell
      have HST2 := Hd hst
      clear hst
      obtain ⟨i0,hi,hz0,hz1,hz2⟩ := info_parts info_range1
      have hra : ∀ ob,(wc.alloc ob).ownsRow w.heap.size 51 2 vs oo.length (cellsR oo) := fun ob => World.ownsRow.kept H53.out.row (World.grownBy_alloc wc ob none) (by cases vs.ownBlock <;> simp)
      gi_wp2_with (gi_at_builtin;refine wpListIn_append_own _ rfl _ _ 26 rfl w.heap.size 51 i0 (.agg #[.int .i32 0,.int .i32 0]) 2 8 Tryz.underlying26 hi hz0 hz1 hz2 rfl (by decide) _ _ _ rfl (hra _) ⟨wc.heap.size,0,none⟩ 1 1 [.int .i32 ff,.int .i32 (x1 - 1)] rfl rfl (cell_two_new _ _ _) (by simp [Value.oneCell']) (by unfold maxLen;omega) (by omega) (by simp;omega) ?_;intro v' w1 hown' hgrow _;obtain ⟨g',cap',rfl⟩ := ownsRow_succ hown';have hown2 : w1.ownsRow w.heap.size 51 2 (.slice (some ⟨g',0,none⟩) (oo.length + 1) cap') (oo ++ [(ff,x1 - 1)]).length (cellsR (oo ++ [(ff,x1 - 1)])) := (by rw [List.length_append,cellsR_append];exact hown');obtain ⟨⟨hc1,hf1⟩,h54,hS4⟩ := append_ok H53.out hsz3 hown2 hgrow;clear hown' hgrow hown2 hra)
      have hsz4 := (HB.out.trans (HS3.out.trans hS4).b).size
      have t4 := h54.b4.cell
      have t5 := h54.b5.cell
      have g4 := h54.b4.frozen
      have g5 := h54.b5.frozen
      have H54 := Hd h54;have HS4 := Hd hS4
      clear h54 hS4 hc1 hf1 k2 e4 e5
      obtain ⟨wd,hwd⟩ : ∃ wd,w1.setCell ⟨w.heap.size + 1,0,none⟩ (.slice (some ⟨g',0,none⟩) (oo.length + 1) cap') = wd := ⟨_,rfl⟩
      rw [hwd] at t4 t5 g4 g5 H54 HS4 hsz4 ⊢
      gi_region_with_o (fail)
      all_goals gi_wp2_with fail
      all_goals
       have htl := tail_ok H54.out hsz4 x1 false
       have hS := (HS3.out.trans HS4.out).trans htl.2
       refine ⟨hS.o.from _,hS.e,⟨.slice (some ⟨g',0,none⟩) (oo.length + 1) cap',?_⟩,HB.out.trans hS.b⟩
       rw [HST2.out]
       exact htl.1
     ·simp only [hfx,and_false,if_false] at hst
      gi_wp2_with fail
      have t4 := (H53.out).b4.cell
      have t5 := (H53.out).b5.cell
      have g4 := (H53.out).b4.frozen
      have g5 := (H53.out).b5.frozen
      gi_region_with_o (fail)
      all_goals gi_wp2_with fail
      all_goals
       have htl := tail_ok (H53.out) (hsz3) x1 false
       have hS := (HS3.out).trans htl.2
       refine ⟨hS.o.from _,hS.e,⟨vs,?_⟩,HB.out.trans hS.b⟩
       rw [hst]
       exact htl.1
 case done =>
  rintro D xs W hD ⟨hRS,hcn⟩ ⟨⟨vs,h5⟩,hB⟩ hK
  have hbt : ∀ t ∈ tells xs,TellOk t := fun t ht => by
   unfold tells at ht
   obtain ⟨x,_,rfl⟩ := List.mem_map.1 ht
   exact x.2.1
  have hset := held_set p (tells xs) hRS hbt
  have hinv := hinv_all p (tells xs) hRS hbt
  obtain ⟨st,hst⟩ : ∃ st,heldOf p xs = st := ⟨_,rfl⟩
  have hst' : heldFrom p (tells xs) = st := hst
  rw [hst'] at hset hinv
  rw [hst] at h5
  have hset2 : ∀ c,HasR (heldEnd st) c ↔ 0 ≤ c ∧ c ≤ 1114111 ∧ p (cntE (endsL ls) c) = true := fun c => by rw [hset.2 c,hcn c]
  have hlen := right_len st.out 0 (by omega) hinv.right
  have hf0 := hinv.f0
  have hf1 := hinv.f1
  have hr1 := hset.1
  obtain ⟨nn,ff,ii,oo⟩ := st
  simp only at h5 hlen hf0 hf1
  have H5 := Hd h5;have HB := Hd hB;have HR1 := Hd hr1;have HSET := Hd hset2;have HK := Hd hK
  have e4 := h5.b4.cell
  have e5 := h5.b5.cell
  have e2 := h5.b2.cell
  clear hst hst' hset hset2 hinv hr1 h5 hB hK hbt hcn hRS
  have hDs : w.heap.size ≤ D := by omega
  cases ii with
  | false =>
   have hr := HR1.out;have hs := HSET.out
   rw [heldEnd_out (by simp)] at hr hs
   have HRR := Hd hr;have HSS := Hd hs
   clear hr hs
   gi_wp2_with fail
   refine ⟨by simp,.inl ⟨_,_,rfl,run_takeDeferred HK.out,?_⟩⟩
   exact ⟨_,results_tmp rfl _ _ _,done_ok H5.out HRR.out HSS.out HB.out HK.out hDs⟩
  | true =>
   by_cases hfx : ff ≤ 1114111
   ·have hr := HR1.out;have hs := HSET.out
    rw [heldEnd_in ⟨rfl,hfx⟩] at hr hs
    have HRR := Hd hr;have HSS := Hd hs
    clear hr hs
    obtain ⟨i0,hi,hz0,hz1,hz2⟩ := info_parts info_range1
    have hszW := HB.out.size
    have hra : ∀ ob,(W.alloc ob).ownsRow w.heap.size 51 2 vs oo.length (cellsR oo) := fun ob => World.ownsRow.kept H5.out.row (World.grownBy_alloc W ob none) (by cases vs.ownBlock <;> simp)
    gi_wp2_with (gi_at_builtin;refine wpListIn_append_own _ rfl _ _ 26 rfl w.heap.size 51 i0 (.agg #[.int .i32 0,.int .i32 0]) 2 8 Tryz.underlying26 hi hz0 hz1 hz2 rfl (by decide) _ _ _ rfl (hra _) ⟨W.heap.size,0,none⟩ 1 1 [.int .i32 ff,.int .i32 1114111] rfl rfl (cell_two_new _ _ _) (by simp [Value.oneCell']) (by unfold maxLen;omega) (by omega) (by simp;omega) ?_;intro v' w1 hown' hgrow _;obtain ⟨g',cap',rfl⟩ := ownsRow_succ hown';have hown2 : w1.ownsRow w.heap.size 51 2 (.slice (some ⟨g',0,none⟩) (oo.length + 1) cap') (oo ++ [(ff,1114111)]).length (cellsR (oo ++ [(ff,1114111)])) := (by rw [List.length_append,cellsR_append];exact hown');obtain ⟨⟨hc1,hf1⟩,h54,hS4⟩ := append_ok H5.out hszW hown2 hgrow;clear hown' hgrow hown2 hra;have hc2 := h54.b2.cell)
    have hK4 := hS4.o.same D _ HK.out rfl
    refine ⟨by simp,.inl ⟨_,_,rfl,run_takeDeferred hK4,?_⟩⟩
    exact ⟨_,results_tmp rfl _ _ _,done_ok h54 HRR.out HSS.out (HB.out.trans hS4.b) hK4 hDs⟩
   ·have hr := HR1.out;have hs := HSET.out
    rw [heldEnd_out (fun h => hfx h.2)] at hr hs
    have HRR := Hd hr;have HSS := Hd hs
    clear hr hs
    gi_wp2_with fail
    refine ⟨by simp,.inl ⟨_,_,rfl,run_takeDeferred HK.out,?_⟩⟩
    exact ⟨_,results_tmp rfl _ _ _,done_ok H5.out HRR.out HSS.out HB.out HK.out hDs⟩
 case stop =>
  rintro D c pre W _ _ h _
  exact h.elim
end Go.Proofs.YthnddabcmhplkaaGreatDoor
namespace Go.Proofs.YthnddabcmhplkaaGreatDoor
open Go Go.RowKit
theorem endsL_flat : ∀ ls : List (List (Int × Int)),endsL ls = endsR ls.flatten
 | [] => rfl
 | l :: ls => by rw [endsL_cons,List.flatten_cons,endsR_append,endsL_flat ls]
theorem cntE_endsL (ls : List (List (Int × Int))) (c : Int) (h0 : 0 ≤ c) (h1 : c ≤ 1114111) : cntE (endsL ls) c = cntR ls.flatten c := by
 rw [endsL_flat,cntE_endsR _ c h0 h1]
theorem SetPost.iff {P Q : Int → Prop} {w : World} {e : Ending} {w' : World} (h : SetPost P w e w') (hpq : ∀ c,P c ↔ Q c) : SetPost Q w e w' := by
 obtain ⟨v,k,h1,h2,h3,h4,h5⟩ := h
 exact ⟨v,k,h1,h2,h3,fun c => (h4 c).trans (hpq c),h5⟩
theorem SetPost.later {P : Int → Prop} {w0 w : World} {e : Ending} {w' : World} (h : SetPost P w e w') (hb : Below w0.heap.size w0 w) : SetPost P w0 e w' := by
 obtain ⟨v,k,h1,h2,h3,h4,h5⟩ := h
 exact ⟨v,k,h1,h2.mono hb.size,h3,h4,hb.trans (h5.mono hb.size)⟩
theorem lss_one {w : World} {u : Value} {l : List (Int × Int)} (h : Rgs w u l) (t : TypeId) : Lss (w.alloc (.cells #[u] t)) (.slice (some ⟨w.heap.size,0,none⟩) 1 1) [l] := by
 have hb : Below w.heap.size w (w.alloc (.cells #[u] t)) := (Below.refl _ _).alloc (Nat.le_refl _) _
 refine ⟨w.heap.size,0,1,rfl,by simp,by unfold maxLen;omega,fun i hi => ?_⟩
 have : i = 0 := by simpa using hi
 subst this
 exact ⟨u,by simp,h.below hb⟩
theorem lss_two {w : World} {u v : Value} {l k : List (Int × Int)} (h : Rgs w u l) (g : Rgs w v k) (t : TypeId) : Lss (w.alloc (.cells #[u,v] t)) (.slice (some ⟨w.heap.size,0,none⟩) 2 2) [l,k] := by
 have hb : Below w.heap.size w (w.alloc (.cells #[u,v] t)) := (Below.refl _ _).alloc (Nat.le_refl _) _
 refine ⟨w.heap.size,0,2,rfl,by simp,by unfold maxLen;omega,fun i hi => ?_⟩
 have : i = 0 ∨ i = 1 := by simp at hi;omega
 rcases this with rfl | rfl
 ·exact ⟨u,by simp,h.below hb⟩
 ·exact ⟨v,by simp,g.below hb⟩
theorem nil_any (n : Int) (W : World) : Calls Tryz.prog 87 #[.int .i64 n] W fun e w' => e = .returned (.bool (n == 0)) ∧ w' = W := by
 go_enter Tryz.func87,Tryz.ntmps87
 go_wp2
 go_ret
 exact ⟨rfl,rfl⟩
theorem not_any (v : Value) (l : List (Int × Int)) (w : World) (h : Rgs w v l) (hn : l.length ≤ 134217728) :
  Calls Tryz.prog 67 #[v] w (SetPost (fun c => 0 ≤ c ∧ c ≤ 1114111 ∧ ¬ HasR l c) w) := by
 have hl := lss_one h 26
 have hu := held_any 87 (fun n => n == 0) (enters_of Tryz.func87 (by kernel_rfl) rfl) nil_any _ [l] _ hl (by simp [totL];omega)
 have hb : Below w.heap.size w (w.alloc (.cells #[v] 26)) := (Below.refl _ _).alloc (Nat.le_refl _) _
 have hq : ∀ c,(0 ≤ c ∧ c ≤ 1114111 ∧ (fun n : Int => n == 0) (cntE (endsL [l]) c) = true) ↔ 0 ≤ c ∧ c ≤ 1114111 ∧ ¬ HasR l c := fun c => by
  constructor
  ·rintro ⟨h0,h1,h2⟩
   rw [cntE_endsL _ c h0 h1] at h2
   simp only [List.flatten_cons,List.flatten_nil,List.append_nil,beq_iff_eq] at h2
   refine ⟨h0,h1,fun h => ?_⟩
   have := (has_cnt _ c h0 h1).1 h
   omega
  ·rintro ⟨h0,h1,h2⟩
   refine ⟨h0,h1,?_⟩
   rw [cntE_endsL _ c h0 h1]
   simp only [List.flatten_cons,List.flatten_nil,List.append_nil,beq_iff_eq]
   have h3 := cnt_nonneg l c
   have h4 : ¬ 0 < cntR l c := fun h => h2 ((has_cnt _ c h0 h1).2 h)
   omega
 have HU := Hd hu;have HB := Hd hb;have HQ := Hd hq
 obtain ⟨a,c,rfl,-⟩ := h
 clear hu hb hl hq
 go_enter Tryz.func67,Tryz.ntmps67
 go_wp2_with (go_at_call 52;refine HU.out.mono ?_;rintro e w' hp;have hp := (SetPost.later hp HB.out).iff HQ.out;obtain ⟨v2,k,rfl,hO,hR,hP,hB⟩ := hp)
 go_ret
 exact ⟨v2,k,rfl,hO,hR,hP,hB⟩
def SetIs (l : List (Int × Int)) (w : World) (e : Ending) (w' : World) : Prop := ∃ v',e = .returned v' ∧ OwnR w' w.heap.size v' l ∧ Below w.heap.size w w'
theorem notP_any (v : Value) (l : List (Int × Int)) (w : World) (h : Rgs w v l) (hr : RightR l) (hn : l.length ≤ 134217728) : Calls Tryz.prog 67 #[v] w (SetIs (notR l) w) := by
 refine (not_any v l w h hn).mono ?_
 rintro e w1 ⟨v1,k,rfl,hO,hR,hP,hB⟩
 exact ⟨v1,rfl,(notR_is hr hR hP) ▸ hO,hB⟩
theorem whole_any (w : World) : Calls Tryz.prog 93 #[] w (SetIs (notR []) w) := by
 unfold SetIs
 go_enter Tryz.func93,Tryz.ntmps93
 go_wp2_with fail
 refine (runs_any _ [(0,1114111)] _ (ends2_lit w _ _ _ rfl rfl (by unfold AllI32 I32;decide)) (by decide)).mono ?_
 rintro e w1 ⟨v1,rfl,ho,hb⟩
 have HB := Hd ((((Below.refl _ w).alloc (Nat.le_refl _) _).trans (hb.mono (by simp))))
 have HO := Hd (ho.mono (B' := w.heap.size) (by simp))
 clear ho hb
 go_wp2_with fail
 go_ret
 exact ⟨v1,rfl,HO.out,HB.out⟩
theorem perlSet_any (c : Int) (l : List (Int × Int)) (w : World) (hc : (c = 100 ∧ l = dR) ∨ (c = 115 ∧ l = sR) ∨ (c = 119 ∧ l = wR)) : Calls Tryz.prog 144 #[.int .u8 c] w (SetIs l w) := by
 unfold SetIs
 rcases hc with ⟨rfl,rfl⟩ | ⟨rfl,rfl⟩ | ⟨rfl,rfl⟩
 ·go_enter Tryz.func144,Tryz.ntmps144
  go_wp2_with fail
  refine (runs_any _ dR _ (ends2_lit w _ _ _ rfl rfl (by unfold AllI32 I32;decide)) (by decide)).mono ?_
  rintro e w1 ⟨v1,rfl,ho,hb⟩
  have HB := Hd ((((Below.refl _ w).alloc (Nat.le_refl _) _).trans (hb.mono (by simp))))
  have HO := Hd (ho.mono (B' := w.heap.size) (by simp))
  clear ho hb
  go_wp2_with fail
  go_ret
  exact ⟨v1,rfl,HO.out,HB.out⟩
 ·go_enter Tryz.func144,Tryz.ntmps144
  go_wp2_with fail
  refine (runs_any _ sR _ (ends2_lit w _ _ _ rfl rfl (by unfold AllI32 I32;decide)) (by decide)).mono ?_
  rintro e w1 ⟨v1,rfl,ho,hb⟩
  have HB := Hd ((((Below.refl _ w).alloc (Nat.le_refl _) _).trans (hb.mono (by simp))))
  have HO := Hd (ho.mono (B' := w.heap.size) (by simp))
  clear ho hb
  go_wp2_with fail
  go_ret
  exact ⟨v1,rfl,HO.out,HB.out⟩
 ·go_enter Tryz.func144,Tryz.ntmps144
  go_wp2_with fail
  refine (runs_any _ wR _ (ends2_lit w _ _ _ rfl rfl (by unfold AllI32 I32;decide)) (by decide)).mono ?_
  rintro e w1 ⟨v1,rfl,ho,hb⟩
  have HB := Hd ((((Below.refl _ w).alloc (Nat.le_refl _) _).trans (hb.mono (by simp))))
  have HO := Hd (ho.mono (B' := w.heap.size) (by simp))
  clear ho hb
  go_wp2_with fail
  go_ret
  exact ⟨v1,rfl,HO.out,HB.out⟩
def NilPost (o : Option (List (Int × Int))) (w : World) (e : Ending) (w' : World) : Prop :=
 Below w.heap.size w w' ∧ ((o = none ∧ e = .returned (.slice none 0 0)) ∨ ∃ v l,o = some l ∧ l ≠ [] ∧ e = .returned v ∧ OwnR w' w.heap.size v l)
theorem posixSet_any (s : ByteArray) (w : World) : Calls Tryz.prog 163 #[.string s] w (NilPost (plainR s.toList) w) := by
 obtain ⟨b,hb⟩ : ∃ b,s.toList = b := ⟨_,rfl⟩
 unfold NilPost
 rw [hb]
 have HS := Hd hb
 clear hb
 go_enter Tryz.func163,Tryz.ntmps163
 go_upto_if 4 with (fail)
 rw [HS.out]
 by_cases h0 : b = [97,108,110,117,109]
 ·subst h0
  rw [show (([97,108,110,117,109] : List UInt8) == [97,108,110,117,109]) = true by rfl]
  go_wp2_with fail
  refine (runs_any _ [(48,57),(65,90),(97,122)] _ (ends2_lit w _ _ _ rfl rfl (by unfold AllI32 I32;decide)) (by decide)).mono ?_
  rintro e w1 ⟨v1,rfl,ho,hb⟩
  have HB := Hd ((((Below.refl _ w).alloc (Nat.le_refl _) _).trans (hb.mono (by simp))))
  have HO := Hd (ho.mono (B' := w.heap.size) (by simp))
  clear ho hb
  go_wp2_with fail
  go_ret
  exact ⟨HB.out,.inr ⟨v1,_,rfl,by simp,rfl,HO.out⟩⟩
 rw [show (b == [97,108,110,117,109]) = false by simpa using h0]
 go_upto_if 8 with (fail)
 rw [HS.out]
 by_cases h1 : b = [97,108,112,104,97]
 ·subst h1
  rw [show (([97,108,112,104,97] : List UInt8) == [97,108,112,104,97]) = true by rfl]
  go_wp2_with fail
  refine (runs_any _ [(65,90),(97,122)] _ (ends2_lit w _ _ _ rfl rfl (by unfold AllI32 I32;decide)) (by decide)).mono ?_
  rintro e w1 ⟨v1,rfl,ho,hb⟩
  have HB := Hd ((((Below.refl _ w).alloc (Nat.le_refl _) _).trans (hb.mono (by simp))))
  have HO := Hd (ho.mono (B' := w.heap.size) (by simp))
  clear ho hb
  go_wp2_with fail
  go_ret
  exact ⟨HB.out,.inr ⟨v1,_,rfl,by simp,rfl,HO.out⟩⟩
 rw [show (b == [97,108,112,104,97]) = false by simpa using h1]
 go_upto_if 12 with (fail)
 rw [HS.out]
 by_cases h2 : b = [97,115,99,105,105]
 ·subst h2
  rw [show (([97,115,99,105,105] : List UInt8) == [97,115,99,105,105]) = true by rfl]
  go_wp2_with fail
  refine (runs_any _ [(0,127)] _ (ends2_lit w _ _ _ rfl rfl (by unfold AllI32 I32;decide)) (by decide)).mono ?_
  rintro e w1 ⟨v1,rfl,ho,hb⟩
  have HB := Hd ((((Below.refl _ w).alloc (Nat.le_refl _) _).trans (hb.mono (by simp))))
  have HO := Hd (ho.mono (B' := w.heap.size) (by simp))
  clear ho hb
  go_wp2_with fail
  go_ret
  exact ⟨HB.out,.inr ⟨v1,_,rfl,by simp,rfl,HO.out⟩⟩
 rw [show (b == [97,115,99,105,105]) = false by simpa using h2]
 go_upto_if 16 with (fail)
 rw [HS.out]
 by_cases h3 : b = [98,108,97,110,107]
 ·subst h3
  rw [show (([98,108,97,110,107] : List UInt8) == [98,108,97,110,107]) = true by rfl]
  go_wp2_with fail
  refine (runs_any _ [(9,9),(32,32)] _ (ends2_lit w _ _ _ rfl rfl (by unfold AllI32 I32;decide)) (by decide)).mono ?_
  rintro e w1 ⟨v1,rfl,ho,hb⟩
  have HB := Hd ((((Below.refl _ w).alloc (Nat.le_refl _) _).trans (hb.mono (by simp))))
  have HO := Hd (ho.mono (B' := w.heap.size) (by simp))
  clear ho hb
  go_wp2_with fail
  go_ret
  exact ⟨HB.out,.inr ⟨v1,_,rfl,by simp,rfl,HO.out⟩⟩
 rw [show (b == [98,108,97,110,107]) = false by simpa using h3]
 go_upto_if 20 with (fail)
 rw [HS.out]
 by_cases h4 : b = [99,110,116,114,108]
 ·subst h4
  rw [show (([99,110,116,114,108] : List UInt8) == [99,110,116,114,108]) = true by rfl]
  go_wp2_with fail
  refine (runs_any _ [(0,31),(127,127)] _ (ends2_lit w _ _ _ rfl rfl (by unfold AllI32 I32;decide)) (by decide)).mono ?_
  rintro e w1 ⟨v1,rfl,ho,hb⟩
  have HB := Hd ((((Below.refl _ w).alloc (Nat.le_refl _) _).trans (hb.mono (by simp))))
  have HO := Hd (ho.mono (B' := w.heap.size) (by simp))
  clear ho hb
  go_wp2_with fail
  go_ret
  exact ⟨HB.out,.inr ⟨v1,_,rfl,by simp,rfl,HO.out⟩⟩
 rw [show (b == [99,110,116,114,108]) = false by simpa using h4]
 go_upto_if 24 with (fail)
 rw [HS.out]
 by_cases h5 : b = [100,105,103,105,116]
 ·subst h5
  rw [show (([100,105,103,105,116] : List UInt8) == [100,105,103,105,116]) = true by rfl]
  go_wp2_with fail
  refine (runs_any _ [(48,57)] _ (ends2_lit w _ _ _ rfl rfl (by unfold AllI32 I32;decide)) (by decide)).mono ?_
  rintro e w1 ⟨v1,rfl,ho,hb⟩
  have HB := Hd ((((Below.refl _ w).alloc (Nat.le_refl _) _).trans (hb.mono (by simp))))
  have HO := Hd (ho.mono (B' := w.heap.size) (by simp))
  clear ho hb
  go_wp2_with fail
  go_ret
  exact ⟨HB.out,.inr ⟨v1,_,rfl,by simp,rfl,HO.out⟩⟩
 rw [show (b == [100,105,103,105,116]) = false by simpa using h5]
 go_upto_if 28 with (fail)
 rw [HS.out]
 by_cases h6 : b = [103,114,97,112,104]
 ·subst h6
  rw [show (([103,114,97,112,104] : List UInt8) == [103,114,97,112,104]) = true by rfl]
  go_wp2_with fail
  refine (runs_any _ [(33,126)] _ (ends2_lit w _ _ _ rfl rfl (by unfold AllI32 I32;decide)) (by decide)).mono ?_
  rintro e w1 ⟨v1,rfl,ho,hb⟩
  have HB := Hd ((((Below.refl _ w).alloc (Nat.le_refl _) _).trans (hb.mono (by simp))))
  have HO := Hd (ho.mono (B' := w.heap.size) (by simp))
  clear ho hb
  go_wp2_with fail
  go_ret
  exact ⟨HB.out,.inr ⟨v1,_,rfl,by simp,rfl,HO.out⟩⟩
 rw [show (b == [103,114,97,112,104]) = false by simpa using h6]
 go_upto_if 32 with (fail)
 rw [HS.out]
 by_cases h7 : b = [108,111,119,101,114]
 ·subst h7
  rw [show (([108,111,119,101,114] : List UInt8) == [108,111,119,101,114]) = true by rfl]
  go_wp2_with fail
  refine (runs_any _ [(97,122)] _ (ends2_lit w _ _ _ rfl rfl (by unfold AllI32 I32;decide)) (by decide)).mono ?_
  rintro e w1 ⟨v1,rfl,ho,hb⟩
  have HB := Hd ((((Below.refl _ w).alloc (Nat.le_refl _) _).trans (hb.mono (by simp))))
  have HO := Hd (ho.mono (B' := w.heap.size) (by simp))
  clear ho hb
  go_wp2_with fail
  go_ret
  exact ⟨HB.out,.inr ⟨v1,_,rfl,by simp,rfl,HO.out⟩⟩
 rw [show (b == [108,111,119,101,114]) = false by simpa using h7]
 go_upto_if 36 with (fail)
 rw [HS.out]
 by_cases h8 : b = [112,114,105,110,116]
 ·subst h8
  rw [show (([112,114,105,110,116] : List UInt8) == [112,114,105,110,116]) = true by rfl]
  go_wp2_with fail
  refine (runs_any _ [(32,126)] _ (ends2_lit w _ _ _ rfl rfl (by unfold AllI32 I32;decide)) (by decide)).mono ?_
  rintro e w1 ⟨v1,rfl,ho,hb⟩
  have HB := Hd ((((Below.refl _ w).alloc (Nat.le_refl _) _).trans (hb.mono (by simp))))
  have HO := Hd (ho.mono (B' := w.heap.size) (by simp))
  clear ho hb
  go_wp2_with fail
  go_ret
  exact ⟨HB.out,.inr ⟨v1,_,rfl,by simp,rfl,HO.out⟩⟩
 rw [show (b == [112,114,105,110,116]) = false by simpa using h8]
 go_upto_if 40 with (fail)
 rw [HS.out]
 by_cases h9 : b = [112,117,110,99,116]
 ·subst h9
  rw [show (([112,117,110,99,116] : List UInt8) == [112,117,110,99,116]) = true by rfl]
  go_wp2_with fail
  refine (runs_any _ [(33,47),(58,64),(91,96),(123,126)] _ (ends2_lit w _ _ _ rfl rfl (by unfold AllI32 I32;decide)) (by decide)).mono ?_
  rintro e w1 ⟨v1,rfl,ho,hb⟩
  have HB := Hd ((((Below.refl _ w).alloc (Nat.le_refl _) _).trans (hb.mono (by simp))))
  have HO := Hd (ho.mono (B' := w.heap.size) (by simp))
  clear ho hb
  go_wp2_with fail
  go_ret
  exact ⟨HB.out,.inr ⟨v1,_,rfl,by simp,rfl,HO.out⟩⟩
 rw [show (b == [112,117,110,99,116]) = false by simpa using h9]
 go_upto_if 44 with (fail)
 rw [HS.out]
 by_cases h10 : b = [115,112,97,99,101]
 ·subst h10
  rw [show (([115,112,97,99,101] : List UInt8) == [115,112,97,99,101]) = true by rfl]
  go_wp2_with fail
  refine (runs_any _ [(9,13),(32,32)] _ (ends2_lit w _ _ _ rfl rfl (by unfold AllI32 I32;decide)) (by decide)).mono ?_
  rintro e w1 ⟨v1,rfl,ho,hb⟩
  have HB := Hd ((((Below.refl _ w).alloc (Nat.le_refl _) _).trans (hb.mono (by simp))))
  have HO := Hd (ho.mono (B' := w.heap.size) (by simp))
  clear ho hb
  go_wp2_with fail
  go_ret
  exact ⟨HB.out,.inr ⟨v1,_,rfl,by simp,rfl,HO.out⟩⟩
 rw [show (b == [115,112,97,99,101]) = false by simpa using h10]
 go_upto_if 48 with (fail)
 rw [HS.out]
 by_cases h11 : b = [117,112,112,101,114]
 ·subst h11
  rw [show (([117,112,112,101,114] : List UInt8) == [117,112,112,101,114]) = true by rfl]
  go_wp2_with fail
  refine (runs_any _ [(65,90)] _ (ends2_lit w _ _ _ rfl rfl (by unfold AllI32 I32;decide)) (by decide)).mono ?_
  rintro e w1 ⟨v1,rfl,ho,hb⟩
  have HB := Hd ((((Below.refl _ w).alloc (Nat.le_refl _) _).trans (hb.mono (by simp))))
  have HO := Hd (ho.mono (B' := w.heap.size) (by simp))
  clear ho hb
  go_wp2_with fail
  go_ret
  exact ⟨HB.out,.inr ⟨v1,_,rfl,by simp,rfl,HO.out⟩⟩
 rw [show (b == [117,112,112,101,114]) = false by simpa using h11]
 go_upto_if 52 with (fail)
 rw [HS.out]
 by_cases h12 : b = [119,111,114,100]
 ·subst h12
  rw [show (([119,111,114,100] : List UInt8) == [119,111,114,100]) = true by rfl]
  go_wp2_with fail
  refine (runs_any _ [(48,57),(65,90),(95,95),(97,122)] _ (ends2_lit w _ _ _ rfl rfl (by unfold AllI32 I32;decide)) (by decide)).mono ?_
  rintro e w1 ⟨v1,rfl,ho,hb⟩
  have HB := Hd ((((Below.refl _ w).alloc (Nat.le_refl _) _).trans (hb.mono (by simp))))
  have HO := Hd (ho.mono (B' := w.heap.size) (by simp))
  clear ho hb
  go_wp2_with fail
  go_ret
  exact ⟨HB.out,.inr ⟨v1,_,rfl,by simp,rfl,HO.out⟩⟩
 rw [show (b == [119,111,114,100]) = false by simpa using h12]
 go_upto_if 56 with (fail)
 rw [HS.out]
 by_cases h13 : b = [120,100,105,103,105,116]
 ·subst h13
  rw [show (([120,100,105,103,105,116] : List UInt8) == [120,100,105,103,105,116]) = true by rfl]
  go_wp2_with fail
  refine (runs_any _ [(48,57),(65,70),(97,102)] _ (ends2_lit w _ _ _ rfl rfl (by unfold AllI32 I32;decide)) (by decide)).mono ?_
  rintro e w1 ⟨v1,rfl,ho,hb⟩
  have HB := Hd ((((Below.refl _ w).alloc (Nat.le_refl _) _).trans (hb.mono (by simp))))
  have HO := Hd (ho.mono (B' := w.heap.size) (by simp))
  clear ho hb
  go_wp2_with fail
  go_ret
  exact ⟨HB.out,.inr ⟨v1,_,rfl,by simp,rfl,HO.out⟩⟩
 rw [show (b == [120,100,105,103,105,116]) = false by simpa using h13]
 have hn : plainR b = none := by
  unfold plainR
  rw [if_neg h0,if_neg h1,if_neg h2,if_neg h3,if_neg h4,if_neg h5,if_neg h6,if_neg h7,if_neg h8,if_neg h9,if_neg h10,if_neg h11,if_neg h12,if_neg h13]
 have HN := Hd hn
 clear hn h0 h1 h2 h3 h4 h5 h6 h7 h8 h9 h10 h11 h12 h13
 go_wp2_with fail
 go_ret
 exact ⟨Below.refl _ _,.inl ⟨HN.out,rfl⟩⟩
theorem pos_any (n : Int) (W : World) : Calls Tryz.prog 75 #[.int .i64 n] W fun e w' => e = .returned (.bool (decide (0 < n))) ∧ w' = W := by
 go_enter Tryz.func75,Tryz.ntmps75
 by_cases h : 0 < n
 ·rw [decide_eq_true h]
  go_wp2
  go_ret
  exact ⟨rfl,rfl⟩
 ·rw [decide_eq_false h]
  go_wp2
  go_ret
  exact ⟨rfl,rfl⟩
theorem united_any (v : Value) (ls : List (List (Int × Int))) (w : World) (h : Lss w v ls) (htot : totL ls ≤ 536870912) :
  Calls Tryz.prog 51 #[v] w (SetPost (HasR ls.flatten) w) := by
 have hh := held_any 75 (fun n => decide (0 < n)) (enters_of Tryz.func75 (by kernel_rfl) rfl) pos_any v ls w h htot
 have hq : ∀ c,(0 ≤ c ∧ c ≤ 1114111 ∧ (fun n => decide (0 < n)) (cntE (endsL ls) c) = true) ↔ HasR ls.flatten c := fun c => by
  constructor
  ·rintro ⟨h0,h1,h2⟩
   rw [cntE_endsL ls c h0 h1] at h2
   exact (has_cnt _ c h0 h1).2 (of_decide_eq_true h2)
  ·intro hc
   have h0 := hc.1
   have h1 := hc.2.1
   refine ⟨h0,h1,?_⟩
   rw [cntE_endsL ls c h0 h1]
   exact decide_eq_true ((has_cnt _ c h0 h1).1 hc)
 obtain ⟨b,o,c,rfl,-⟩ := h
 go_enter Tryz.func51,Tryz.ntmps51
 go_wp2_with (go_at_call 52;refine hh.mono ?_;rintro e w' hp;obtain ⟨v2,k,rfl,hO,hR,hP,hB⟩ := hp)
 go_ret
 exact ⟨v2,k,rfl,hO,hR,fun c => (hP c).trans (hq c),hB⟩
theorem norm_any (v : Value) (l : List (Int × Int)) (w : World) (h : Rgs w v l) (hn : l.length ≤ 134217728) :
  Calls Tryz.prog 36 #[v] w (SetPost (HasR l) w) := by
 have hl := lss_one h 26
 have hu := united_any _ [l] _ hl (by simp [totL];omega)
 have hb : Below w.heap.size w (w.alloc (.cells #[v] 26)) := (Below.refl _ _).alloc (Nat.le_refl _) _
 have HU := Hd hu;have HB := Hd hb
 obtain ⟨a,c,rfl,-⟩ := h
 clear hu hb hl
 go_enter Tryz.func36,Tryz.ntmps36
 go_wp2_with (go_at_call 51;refine HU.out.mono ?_;rintro e w' hp;have hp := (hp.later HB.out).iff (Q := HasR l) (fun c => by simp);obtain ⟨v2,k,rfl,hO,hR,hP,hB⟩ := hp)
 go_ret
 exact ⟨v2,k,rfl,hO,hR,hP,hB⟩
theorem two_any (n : Int) (W : World) : Calls Tryz.prog 53 #[.int .i64 n] W fun e w' => e = .returned (.bool (n == 2)) ∧ w' = W := by
 go_enter Tryz.func53,Tryz.ntmps53
 go_wp2
 go_ret
 exact ⟨rfl,rfl⟩
theorem meet_any (va vb : Value) (a b : List (Int × Int)) (w : World) (ha : Rgs w va a) (hb : Rgs w vb b) (hna : a.length ≤ 134217728) (hnb : b.length ≤ 134217728) :
  Calls Tryz.prog 38 #[va,vb] w (SetPost (fun c => HasR a c ∧ HasR b c) w) := by
 have hl := lss_one ha 26
 have hu := united_any _ [a] _ hl (by simp [totL];omega)
 have hbl : Below w.heap.size w (w.alloc (.cells #[va] 26)) := (Below.refl _ _).alloc (Nat.le_refl _) _
 have HU := Hd hu;have HB := Hd hbl;have HBB := Hd hb
 obtain ⟨a1,c1,rfl,-⟩ := ha
 obtain ⟨a2,c2,rfl,-⟩ := hb
 clear hu hbl hl
 go_enter Tryz.func38,Tryz.ntmps38
 go_wp2_with fail
 refine HU.out.mono ?_
 rintro e w1 hp
 have hp := (hp.later HB.out).iff (Q := HasR a) (fun c => by simp)
 obtain ⟨v1,K,rfl,hO1,hR1,hP1,hB1⟩ := hp
 have hx := HBB.out.below hB1
 have hl2 := lss_one hx 26
 have hu2 := united_any _ [b] _ hl2 (by simp [totL];omega)
 have hb2 : Below w1.heap.size w1 (w1.alloc (.cells #[.slice a2 b.length c2] 26)) := (Below.refl _ _).alloc (Nat.le_refl _) _
 have HO1 := Hd hO1;have HR1 := Hd hR1;have HP1 := Hd hP1;have HB1 := Hd hB1;have HU2 := Hd hu2;have HB2 := Hd hb2
 clear hO1 hR1 hP1 hB1 hx hl2 hu2 hb2
 go_wp2_with fail
 refine HU2.out.mono ?_
 rintro e w2 hp
 have hp := (hp.later HB2.out).iff (Q := HasR b) (fun c => by simp)
 obtain ⟨v2,M,rfl,hO2,hR2,hP2,hB2⟩ := hp
 have l1 := right_len K 0 (by omega) HR1.out
 have l2 := right_len M 0 (by omega) hR2
 have hl3 := lss_two (HO1.out.below hB2).rgs hO2.rgs 26
 have hu3 := held_any 53 (fun n => n == 2) (enters_of Tryz.func53 (by kernel_rfl) rfl) two_any _ [K,M] _ hl3 (by simp [totL];omega)
 have hb3 : Below w2.heap.size w2 (w2.alloc (.cells #[v1,v2] 26)) := (Below.refl _ _).alloc (Nat.le_refl _) _
 have HT := Hd (HB1.out.trans ((hB2.trans (hb3.mono hB2.size)).mono HB1.out.size))
 have hq : ∀ c,(0 ≤ c ∧ c ≤ 1114111 ∧ (fun n : Int => n == 2) (cntE (endsL [K,M]) c) = true) ↔ HasR a c ∧ HasR b c := fun c => by
  have k1 := cnt_right K 0 c HR1.out
  have k2 := cnt_right M 0 c hR2
  constructor
  ·rintro ⟨h0,h1,h2⟩
   rw [cntE_endsL _ c h0 h1] at h2
   simp only [List.flatten_cons,List.flatten_nil,List.append_nil,cntR_append,beq_iff_eq] at h2
   exact ⟨(HP1.out c).1 ((has_cnt _ c h0 h1).2 (by omega)),(hP2 c).1 ((has_cnt _ c h0 h1).2 (by omega))⟩
  ·rintro ⟨h1,h2⟩
   have h3 := (HP1.out c).2 h1
   have h4 := (hP2 c).2 h2
   have h5 := h3.1
   have h6 := h3.2.1
   refine ⟨h5,h6,?_⟩
   rw [cntE_endsL _ c h5 h6]
   simp only [List.flatten_cons,List.flatten_nil,List.append_nil,cntR_append,beq_iff_eq]
   have h7 := (has_cnt _ c h5 h6).1 h3
   have h8 := (has_cnt _ c h5 h6).1 h4
   omega
 have HU3 := Hd hu3;have HQ := Hd hq
 obtain ⟨A1,C1,rfl,-⟩ := HO1.out.rgs
 obtain ⟨A2,C2,rfl,-⟩ := hO2.rgs
 clear hO2 hR2 hP2 hB2 hl3 hu3 hb3 hq
 go_wp2_with fail
 refine HU3.out.mono ?_
 rintro e w3 hp
 have hp := (SetPost.later hp HT.out).iff HQ.out
 obtain ⟨v3,N,rfl,hO3,hR3,hP3,hB3⟩ := hp
 go_wp2_with fail
 go_ret
 exact ⟨v3,N,rfl,hO3,hR3,hP3,hB3⟩
end Go.Proofs.YthnddabcmhplkaaGreatDoor
