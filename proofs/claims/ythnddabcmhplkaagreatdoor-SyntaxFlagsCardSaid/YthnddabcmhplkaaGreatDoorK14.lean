/- Texts merged by program. No condition. -/
import Derived.Test.YthnddabcmhplkaaGreatDoorK11
import Derived.Test.YthnddabcmhplkaaGreatDoorK13
set_option maxHeartbeats 800000
set_option linter.unusedVariables false
namespace Go.Proofs.YthnddabcmhplkaaGreatDoor
open Go Go.RowKit
def Kind (w : World) (b : Nat) (t : TypeId) : Prop := ∃ cs f,w.heap[b]? = some (.cells cs t f)
theorem Whole.kind {w : World} {b : Nat} {t : TypeId} {cs : Array Value} (h : Whole w b t cs) : Kind w b t := ⟨cs,_,h⟩
theorem Kind.ne {w : World} {a b : Nat} {t u : TypeId} (h : Kind w a t) (k : Kind w b u) (hne : t ≠ u) : a ≠ b := by
 rintro rfl
 obtain ⟨c1,f1,h1⟩ := h
 obtain ⟨c2,f2,h2⟩ := k
 rw [h1] at h2
 injection h2 with h2
 injection h2 with _ h2
 exact hne h2
theorem Kind.lt {w : World} {b : Nat} {t : TypeId} (h : Kind w b t) : b < w.heap.size := by
 obtain ⟨c,f,h⟩ := h
 exact (Array.getElem?_eq_some_iff.1 h).1
structure Keeps (q : Option Nat) (v : Value) (n : Nat) (w w' : World) : Prop where
 os : w'.os = w.os
 tape : w'.tape = w.tape
 output : w'.output = w.output
 size : w.heap.size ≤ w'.heap.size
 block : ∀ k,k < w.heap.size → q ≠ some k → v.ownBlock ≠ some k → w'.heap[k]? = w.heap[k]?
 row : ∀ b,v.ownBlock = some b → b < w.heap.size → q ≠ some b → ∀ i,i < n * 2 → w'.cell? ⟨b,i,none⟩ = w.cell? ⟨b,i,none⟩
 kind : ∀ b t,Kind w b t → q ≠ some b → Kind w' b t
theorem Keeps.of_grown {q : Option Nat} {v : Value} {n : Nat} {w w' : World} (h : w.grownBy w' q) : Keeps q v n w w' where
 os := h.os
 tape := h.tape
 output := h.output
 size := h.size
 block := fun k hk hq _ => h.block k hk (fun e => hq e.symm)
 row := fun b hb hl hq i hi => World.cell?_of_block (h.block b hl (fun e => hq e.symm))
 kind := fun b t hk hq => by
  obtain ⟨c,f,hk'⟩ := hk
  exact ⟨c,f,(h.block b (Array.getElem?_eq_some_iff.1 hk').1 (fun e => hq e.symm)).trans hk'⟩
theorem Keeps.of_none {q : Option Nat} {v : Value} {n : Nat} {w w' : World} (h : Keeps none v n w w') : Keeps q v n w w' :=
 ⟨h.os,h.tape,h.output,h.size,fun k hk _ hv => h.block k hk (by simp) hv,fun b hb hl _ => h.row b hb hl (by simp),fun b t hk _ => h.kind b t hk (by simp)⟩
theorem Keeps.trans {q : Option Nat} {v : Value} {n : Nat} {w w1 w2 : World} (h : Keeps q v n w w1) (k : Keeps q v n w1 w2) : Keeps q v n w w2 where
 os := k.os.trans h.os
 tape := k.tape.trans h.tape
 output := k.output.trans h.output
 size := Nat.le_trans h.size k.size
 block := fun b hb hq hv => (k.block b (Nat.lt_of_lt_of_le hb h.size) hq hv).trans (h.block b hb hq hv)
 row := fun b hb hl hq i hi => (k.row b hb (Nat.lt_of_lt_of_le hl h.size) hq i hi).trans (h.row b hb hl hq i hi)
 kind := fun b t hb hq => k.kind b t (h.kind b t hb hq) hq
theorem Keeps.below {q : Option Nat} {v : Value} {n B : Nat} {w0 w w' : World} (h : Keeps q v n w w') (hb : Below B w0 w) (hB : B ≤ w.heap.size) (hq : ∀ b,q = some b → B ≤ b) (hv : ∀ b,v.ownBlock = some b → B ≤ b) : Below B w0 w' :=
 hb.trans ⟨h.os,h.tape,h.output,h.size,fun k hk => h.block k (by omega) (fun e => by have := hq k e;omega) (fun e => by have := hv k e;omega)⟩
theorem Keeps.whole {q : Option Nat} {v : Value} {n : Nat} {w w' : World} (h : Keeps q v n w w') {b : Nat} {u : TypeId} {cs : Array Value} (hb : Whole w b u cs) (hq : q ≠ some b) (hv : v.ownBlock ≠ some b) : Whole w' b u cs := (h.block b hb.lt hq hv).trans hb
theorem own_kind {w : World} {B : Nat} {e : TypeId} {sz n b : Nat} {v : Value} {xs : List Value} (h : w.ownsRow B e sz v n xs) (hb : v.ownBlock = some b) : Kind w b e := by
 rcases h.2 with ⟨rfl,_⟩ | ⟨g,cap,cur,rfl,_,hh,_⟩
 ·simp [Value.ownBlock] at hb
 ·obtain rfl : g = b := by simpa [Value.ownBlock] using hb
  exact ⟨_,_,hh⟩
theorem own_other {w w' : World} {B : Nat} {e : TypeId} {sz n : Nat} {v : Value} {xs : List Value} (h : w.ownsRow B e sz v n xs) (hk : ∀ b,v.ownBlock = some b → w'.heap[b]? = w.heap[b]?) : w'.ownsRow B e sz v n xs := by
 refine ⟨h.1,?_⟩
 rcases h.2 with h2 | ⟨g,cap,cur,rfl,h3,hh,h4⟩
 ·exact .inl h2
 ·exact .inr ⟨g,cap,cur,rfl,h3,(hk g (by simp [Value.ownBlock])).trans hh,h4⟩
theorem run_append_keep (w : World) (B : Nat) (v : Value) (O : List (Int × Int)) (ty : TypeId) (hown : OwnR w B v O) (a : Addr) (c : Nat) (x1 x2 : Int) (ht : Rgs w (.slice (some a) 1 c) [(x1,x2)]) (hn : O.length ≤ 8796093022208) (hB : B ≤ w.heap.size) :
  ∃ v' w',(Builtin.append_ #[26,26] ty #[v,.slice (some a) 1 c]).run Tryz.prog w = .ok v' w' ∧ OwnR w' B v' (O ++ [(x1,x2)]) ∧ Keeps none v O.length w w' ∧ (∃ g c',v' = .slice (some ⟨g,0,none⟩) (O.length + 1) c' ∧ (v.ownBlock = some g ∨ g = w.heap.size)) := by
 obtain ⟨i,hi,hz,hsize,hby⟩ := info_parts info_range
 obtain ⟨a',c',h1,h2,h3,h4,h5,h6⟩ := ht
 injection h1 with e1 e2 e3
 subst e1 e3
 have hall : AllI32 (O ++ [(x1,x2)]) := fun r hr => (List.mem_append.1 hr).elim (hown.2 r) (h6 r)
 have hnews : ∀ j u,(cellsR [(x1,x2)])[j]? = some u → w.cell? (a.add j) = some u := by
  intro j u hu
  obtain ⟨q,hq,hh⟩ := cellsR_get [(x1,x2)] j u hu
  rcases h5 with h5 | ⟨b,off,e,hc⟩
  ·cases h5
  ·have e := Option.some.inj e
   subst e
   have hadd : (⟨b,off,none⟩ : Addr).add j = ⟨b,off + j,none⟩ := by unfold Addr.add;split <;> simp_all
   rw [hadd]
   rcases hh with ⟨rfl,rfl⟩ | ⟨rfl,rfl⟩
   ·exact (hc q hq).1
   ·have := (hc q hq).2
    rw [show off + (q * 2 + 1) = off + q * 2 + 1 by omega]
    exact this
 have hl : (cellsR [(x1,x2)]).length = 1 * i.size := by rw [hsize];rfl
 have hx : ∀ W V,W.ownsRow B 51 2 V (O.length + 1) (cellsR O ++ cellsR [(x1,x2)]) → OwnR W B V (O ++ [(x1,x2)]) := by
  intro W V hW
  refine ⟨?_,hall⟩
  rw [cellsR_append,List.length_append]
  exact hW
 have hfresh : ∀ o : Obj,Keeps none v O.length w (w.drew.alloc o) := fun o => Keeps.of_grown ⟨rfl,rfl,rfl,by simp,fun k hk _ => Below.heap_alloc w.drew _ k hk⟩
 have hO := hown.1
 obtain ⟨hO1,hO2⟩ := hO
 have hlen2 : (cellsR O ++ cellsR [(x1,x2)]).length = (O.length + 1) * 2 := by rw [List.length_append,hO1,show (cellsR [(x1,x2)]).length = 2 from rfl];omega
 rcases hO2 with ⟨rfl,h0⟩ | ⟨g,cap,cur,rfl,hbg,hg,hnc,hcm,hcs,htake⟩
 ·have hnil : O = [] := List.eq_nil_of_length_eq_zero h0
  subst hnil
  have hr := run_append_nil (P := Tryz.prog) w 26 ty 51 i (.agg #[.int .i32 0,.int .i32 0]) Tryz.underlying26 hi hz a 1 c (cellsR [(x1,x2)]) hl hnews (by decide) (by decide) (by rw [hby];decide)
  refine ⟨_,_,hr,hx _ _ ?_,hfresh _,w.heap.size,_,rfl,.inr rfl⟩
  have hge := grownCap_ge w 1 0 51
  refine ⟨by simp [cellsR],.inr ⟨w.heap.size,_,_,rfl,hB,heap_alloc_new w.drew _,by simpa using hge,grownCap_le_maxLen w 1 0 _ (by decide),?_,?_⟩⟩
  ·simp only [Array.size_append,List.size_toArray,size_zeroCells]
   have : (cellsR [(x1,x2)]).length = 2 := rfl
   have h2 : (Value.agg #[.int .i32 0,.int .i32 0]).cells.size = 2 := rfl
   rw [this,h2]
   omega
  ·simp only [Array.toList_append]
   exact List.take_left (l₁ := cellsR [(x1,x2)])
 ·by_cases hroom : O.length + 1 ≤ cap
  ·have hfit : O.length * i.size + (cellsR [(x1,x2)]).length ≤ cur.size := by rw [hl,hcs,hsize,← Nat.add_mul];exact Nat.mul_le_mul_right _ hroom
   have hr := run_append_room (P := Tryz.prog) w 26 ty 51 i Tryz.underlying26 hi g O.length cap cur hg a 1 c (cellsR [(x1,x2)]) hl hnews (cellsR_one _) hroom hfit
   refine ⟨_,_,hr,hx _ _ ?_,?_,g,cap,rfl,.inl rfl⟩
   ·refine ⟨by rw [List.length_append,hO1,hl,hsize,← Nat.add_mul],.inr ⟨g,cap,_,rfl,hbg,setRow_heap w g cur _ _ _ hg,hroom,hcm,?_,?_⟩⟩
    ·simp only [List.size_toArray,List.length_append,List.length_take,List.length_drop,Array.length_toList]
     have := hl
     rw [hsize] at this hfit
     rw [hsize]
     omega
    ·have e1 : cur.toList.take (O.length * i.size) = cellsR O := by rw [hsize];exact htake
     rw [e1,show (O.length + 1) * 2 = (cellsR O ++ cellsR [(x1,x2)]).length from hlen2.symm]
     exact List.take_left
   ·have hset := setRow_heap w g cur (cur.toList.take (O.length * i.size) ++ cellsR [(x1,x2)] ++ cur.toList.drop (O.length * i.size + (cellsR [(x1,x2)]).length)).toArray _ _ hg
    refine ⟨rfl,rfl,rfl,by simp,fun k _ _ hk => setRow_other w g k _ (fun e => hk (by simp [Value.ownBlock,e])),?_,?_⟩
    ·intro b hb _ _ j hj
     obtain rfl : g = b := by simpa [Value.ownBlock] using hb
     rw [cell_of_row _ _ _ _ _ _ hset,cell_of_row _ _ _ _ _ _ hg]
     have hj2 : j < O.length * 2 := hj
     have hjl : j < cur.size := by omega
     rw [List.getElem?_toArray,List.append_assoc,List.getElem?_append_left (by rw [List.length_take,hsize,Array.length_toList (xs := cur)];omega),List.getElem?_take_of_lt (by rw [hsize];omega),Array.getElem?_toList]
    ·intro b t hb _
     by_cases e : b = g
     ·subst e
      obtain ⟨c1,f1,h1⟩ := hb
      rw [hg] at h1
      injection h1 with h1
      injection h1 with _ h1
      subst h1
      exact ⟨_,_,hset⟩
     ·obtain ⟨c1,f1,h1⟩ := hb
      exact ⟨c1,f1,(setRow_other w g b _ (by first | exact e | exact fun x => e x.symm)).trans h1⟩
  ·have holds : ∀ j u,(cellsR O)[j]? = some u → w.cell? ((⟨g,0,none⟩ : Addr).add j) = some u := World.ownsRow.cells (g := g) hown.1 rfl
   have hr := run_append_grow (P := Tryz.prog) w 26 ty 51 i (.agg #[.int .i32 0,.int .i32 0]) Tryz.underlying26 hi hz ⟨g,0,none⟩ O.length cap (cellsR O) (by rw [hsize];exact hO1) holds a 1 c (cellsR [(x1,x2)]) hl hnews (by omega) (by omega) (growslice_fits (by omega) (by rw [hby];omega))
   refine ⟨_,_,hr,hx _ _ ?_,hfresh _,w.heap.size,_,rfl,.inr rfl⟩
   have hge := grownCap_ge w (O.length + 1) cap 51
   refine ⟨by rw [List.length_append,hO1,hl,hsize,← Nat.add_mul],.inr ⟨w.heap.size,_,_,rfl,hB,heap_alloc_new w.drew _,hge,grownCap_le_maxLen w _ _ _ (by unfold maxLen;omega),?_,?_⟩⟩
   ·simp only [Array.size_append,List.size_toArray,size_zeroCells]
    have h1 : (cellsR [(x1,x2)]).length = 2 := rfl
    have h2 : (Value.agg #[.int .i32 0,.int .i32 0]).cells.size = 2 := rfl
    rw [h1,h2,hO1]
    omega
   ·simp only [Array.toList_append]
    rw [show (O.length + 1) * 2 = (cellsR O ++ cellsR [(x1,x2)]).length from hlen2.symm]
    exact List.take_left
def ItemV (w : World) (v : Value) (l : List (Int × Int)) (sp : Value) (n : Nat) : Prop :=
 Rgs w v l ∧ (l = [] ∨ ∃ b o c,v = .slice (some ⟨b,o,none⟩) l.length c ∧ Kind w b 51 ∧ (sp.ownBlock = some b → o + l.length * 2 ≤ n * 2))
theorem ItemV.keeps {q : Nat} {t : TypeId} {w w' : World} {v sp sp' : Value} {l : List (Int × Int)} {n n' : Nat} (h : ItemV w v l sp n) (hk : Keeps (some q) sp n w w') (hq : Kind w q t) (hne : t ≠ 51)
  (hsp : sp'.ownBlock = sp.ownBlock ∨ ∃ g,sp'.ownBlock = some g ∧ w.heap.size ≤ g) (hn : n ≤ n') : ItemV w' v l sp' n' := by
 obtain ⟨⟨a,c,h1,h2,h3,h4,h5,h6⟩,h7⟩ := h
 rcases h7 with h7 | ⟨b,o,c2,h8,h9,h10⟩
 ·exact ⟨⟨a,c,h1,h2,h3,h4,.inl h7,h6⟩,.inl h7⟩
 ·have hbq : some q ≠ some b := fun e => (hq.ne h9 hne) (Option.some.inj e)
  rw [h8] at h1
  injection h1 with e1 e2 e3
  subst e1 e3
  refine ⟨⟨_,c2,h8,h2,h3,h4,?_,h6⟩,.inr ⟨b,o,c2,h8,hk.kind b _ h9 hbq,?_⟩⟩
  ·rcases h5 with h5 | ⟨b2,o2,e,hc⟩
   ·exact .inl h5
   ·injection e with e
    injection e with e1 e2
    subst e1 e2
    refine .inr ⟨b,o,rfl,fun i hi => ?_⟩
    by_cases hs : sp.ownBlock = some b
    ·have h11 := h10 hs
     exact ⟨(hk.row b hs h9.lt hbq _ (by omega)).trans (hc i hi).1,(hk.row b hs h9.lt hbq _ (by omega)).trans (hc i hi).2⟩
    ·have h11 := hk.block b h9.lt hbq hs
     exact ⟨(World.cell?_of_block h11).trans (hc i hi).1,(World.cell?_of_block h11).trans (hc i hi).2⟩
  ·intro hs
   rcases hsp with hsp | ⟨g,hg,hl⟩
   ·have := h10 (hsp.symm.trans hs)
    omega
   ·rw [hg] at hs
    have := Option.some.inj hs
    have := h9.lt
    omega
theorem ItemV.rgs {w : World} {v sp : Value} {l : List (Int × Int)} {n : Nat} (h : ItemV w v l sp n) : Rgs w v l := h.1
theorem ItemV.own {w : World} {B : Nat} {v sp : Value} {l : List (Int × Int)} {n : Nat} (h : OwnR w B v l) (hs : ∀ b,sp.ownBlock = some b → b < B) : ItemV w v l sp n := by
 refine ⟨h.rgs,?_⟩
 rcases h.1.2 with ⟨_,h0⟩ | ⟨g,cap,cur,hv,hbg,hg,_⟩
 ·exact .inl (List.eq_nil_of_length_eq_zero h0)
 ·exact .inr ⟨g,0,cap,hv,⟨_,_,hg⟩,fun e => by have := hs g e;omega⟩
theorem ItemV.grown {w w' : World} {v sp : Value} {l : List (Int × Int)} {n : Nat} (h : ItemV w v l sp n) {row : Option Nat} {t : TypeId} (hg : w.grownBy w' row) (hr : ∀ b,row = some b → Kind w b t) (hne : t ≠ 51) : ItemV w' v l sp n := by
 obtain ⟨⟨a,c,h1,h2,h3,h4,h5,h6⟩,h7⟩ := h
 rcases h7 with h7 | ⟨b,o,c2,h8,h9,h10⟩
 ·exact ⟨⟨a,c,h1,h2,h3,h4,.inl h7,h6⟩,.inl h7⟩
 ·have hb : w'.heap[b]? = w.heap[b]? := hg.block b h9.lt (fun e => ((hr b e.symm).ne h9 hne) rfl)
  obtain ⟨cs,f,h9'⟩ := h9
  refine ⟨⟨a,c,h1,h2,h3,h4,?_,h6⟩,.inr ⟨b,o,c2,h8,⟨cs,f,hb.trans h9'⟩,h10⟩⟩
  rcases h5 with h5 | ⟨b2,o2,e,hc⟩
  ·exact .inl h5
  ·rw [h8] at h1
   injection h1 with e1
   rw [e] at e1
   injection e1 with e1
   injection e1 with e1
   subst e1
   exact .inr ⟨b,o2,e,fun i hi => ⟨(World.cell?_of_block hb).trans (hc i hi).1,(World.cell?_of_block hb).trans (hc i hi).2⟩⟩
theorem pbAt_any (s : ByteArray) (i : Nat) (w : World) (hs : s.size ≤ 4503599627370496) (hi : i ≤ s.size) : Calls Tryz.prog 63 #[.string s,.int .i64 i] w fun e w' => e = .returned (.agg #[.string s,.int .i64 i]) ∧ Below w.heap.size w w' := by
 have x1 : ¬ (i : Int) < 0 := by omega
 have x2 : ¬ (s.size : Int) < (i : Int) := by omega
 go_enter Tryz.func63,Tryz.ntmps63
 go_wp2
 have hW : Whole (w.alloc (.cells #[.string s,.int .i64 i] 107)) w.heap.size 107 #[.string s,.int .i64 i] := heap_alloc_new w _
 refine bodyPost_ret (results_cell_row Tryz.results63 _ _ w.heap.size 107 _ (0,0) _ rfl hW Tryz.underlying107 rfl (by kernel_rfl)) rfl ?_
 exact ⟨rfl,(Below.refl _ w).alloc (Nat.le_refl _) _⟩
theorem pbLeft_any (q : Nat) (t : TypeId) (r : List Value) (s : ByteArray) (i : Nat) (w : World) (hi : i ≤ s.size) (h : RdIn w q t r s i) :
  Calls Tryz.prog 84 #[.pointer (some ⟨q,0,none⟩)] w fun e w' => e = .returned (.string (s.extract i s.size)) ∧ ∃ n,w' = w.drewN n := by
 have c0 := h.c0;have c1 := h.c1
 have y2 : (i : Int) ≤ (s.size : Int) := by omega
 clear h
 go_enter Tryz.func84,Tryz.ntmps84
 go_wp2_with fail
 go_big_quiet (fail)
 go_wp2
 go_ret
 exact ⟨rfl,_,rfl⟩
theorem pbTake_any (q : Nat) (t : TypeId) (r : List Value) (s part : ByteArray) (i : Nat) (w : World) (hs : s.size ≤ 4503599627370496) (hp : part.size ≤ 100) (hi : i ≤ s.size) (h : RdIn w q t r s i) :
  Calls Tryz.prog 64 #[.pointer (some ⟨q,0,none⟩),.string part] w (TakePost q t r s part i w) := by
 obtain ⟨b,hb⟩ : ∃ b,preB part.toList (leftB s i) = b := ⟨_,rfl⟩
 have hP : ∀ W,Calls Tryz.prog 48 #[.string (s.extract i s.size),.string part] W fun e w' => e = .returned (.bool b) ∧ w' = W := fun W => by
  have := Tryz.strings_HasPrefix (s.extract i s.size) part W
  rw [pre_left,hb] at this
  exact this
 have HL := Hd (pbLeft_any q t r s i w hi h)
 have HH := Hd h;have HB := Hd hb;have HP := Hd hP
 have y2 : (i : Int) ≤ (s.size : Int) := by omega
 have y3 : IntKind.i64.wrap ((i : Int) + (part.size : Int)) = (i : Int) + (part.size : Int) := wrap_in _ (by omega)
 clear h hb hP
 unfold TakePost
 go_enter Tryz.func64,Tryz.ntmps64
 go_wp2_with fail
 refine HL.out.mono ?_
 rintro e w1 ⟨rfl,n,rfl⟩
 have HR := Hd (HH.out.drewN n);have HG := Hd (tk_drewN w n (some q))
 generalize w.drewN n = w1 at HR HG ⊢
 have c1 := HR.out.c1;have f1 := HR.out.f1
 go_wp2_with fail
 refine (HP.out _).mono ?_
 rintro e w2 ⟨rfl,rfl⟩
 cases b
 ·go_wp2
  go_ret
  exact ⟨false,HB.out,rfl,HG.out,HR.out⟩
 ·go_wp2
  go_ret
  exact ⟨true,HB.out,rfl,tk_trans HG.out (tk_set _ _ _ _),HR.out.put _ _ (by rfl)⟩
def endedV : Value := .iface 105 (.agg #[])
def thrown (v : Value) : Ending := .panicked [{ v := v,recovered := false }]
def BrRunePost (q : Nat) (t : TypeId) (r : List Value) (s : ByteArray) (i : Nat) (w : World) (e : Ending) (w' : World) : Prop :=
 Took q t r s (i + (runeP s i).2) w w' ∧ e = if i < s.size then .returned (.int .i32 ((runeP s i).1 : Int)) else thrown endedV
theorem pbRune_any (q : Nat) (t : TypeId) (r : List Value) (s : ByteArray) (i : Nat) (w : World) (hs : s.size ≤ 4503599627370496) (hi : i ≤ s.size) (h : RdIn w q t r s i) (hT : Lib.Utf8Tabs 0 1 w) :
  Calls Tryz.prog 121 #[.pointer (some ⟨q,0,none⟩)] w (BrRunePost q t r s i w) := by
 have hL := pbLeft_any q t r s i w hi h
 have hf := runeP_fit hi
 have hp0 : i < s.size → 0 < (runeP s i).2 := fun hlt => by
  unfold runeP
  rw [if_pos hlt]
  have := decode_some s i hlt
  omega
 have hp1 : ¬ i < s.size → (runeP s i).2 = 0 := fun hlt => by
  unfold runeP
  rw [if_neg hlt]
 unfold BrRunePost
 have hD := fun k => pdec_any s i (w.drewN k) hi (Utf8Tabs_below hT (drewN_below w k))
 obtain ⟨⟨c,n⟩,hr⟩ : ∃ x,runeP s i = x := ⟨_,rfl⟩
 rw [hr] at hD hf hp0 hp1 ⊢
 simp only at hD hf hp0 hp1 ⊢
 obtain ⟨E,hE⟩ : ∃ E,(if i < s.size then .returned (.int .i32 (c : Int)) else thrown endedV) = E := ⟨_,rfl⟩
 rw [hE]
 have HL := Hd hL;have HD := Hd hD;have HH := Hd h
 have y2 : (i : Int) ≤ (s.size : Int) := by omega
 have y3 : IntKind.i64.wrap ((i : Int) + (n : Int)) = (i : Int) + (n : Int) := wrap_in _ (by omega)
 clear h hD hL hr hT
 by_cases hlt : i < s.size
 ·have b0 : ((n : Int) == 0) = false := beq_eq_false_iff_ne.2 (by have := hp0 hlt;omega)
  have HE := Hd ((if_pos hlt).symm.trans hE)
  clear hp0 hp1 hlt hE
  go_enter Tryz.func121,Tryz.ntmps121
  go_wp2_with fail
  refine HL.out.mono ?_
  rintro e w1 ⟨rfl,k,rfl⟩
  go_wp2_with fail
  refine (HD.out k).mono ?_
  rintro e w2 ⟨rfl,hb2⟩
  have HR2 := Hd ((HH.out.drewN k).below hb2);have HG2 := Hd (tk_trans (tk_drewN w k (some q)) (tk_below hb2 _));have c1 := HR2.out.c1;have f1 := HR2.out.f1
  clear hb2
  go_wp2
  go_ret
  exact ⟨⟨tk_trans HG2.out (tk_set _ _ _ _),HR2.out.put _ _ (by rfl)⟩,HE.out⟩
 ·have b0 : ((n : Int) == 0) = true := beq_iff_eq.2 (by have := hp1 hlt;omega)
  have HE := Hd ((if_neg hlt).symm.trans hE)
  have HN := Hd (hp1 hlt)
  clear hp0 hp1 hlt hE
  go_enter Tryz.func121,Tryz.ntmps121
  go_wp2_with fail
  refine HL.out.mono ?_
  rintro e w1 ⟨rfl,k,rfl⟩
  go_wp2_with fail
  refine (HD.out k).mono ?_
  rintro e w2 ⟨rfl,hb2⟩
  have HR2 := Hd ((HH.out.drewN k).below hb2);have HG2 := Hd (tk_trans (tk_drewN w k (some q)) (tk_below hb2 _))
  clear hb2
  go_wp2
  refine ⟨rfl,⟨HG2.out,?_⟩,HE.out⟩
  rw [HN.out]
  exact HR2.out
end Go.Proofs.YthnddabcmhplkaaGreatDoor
