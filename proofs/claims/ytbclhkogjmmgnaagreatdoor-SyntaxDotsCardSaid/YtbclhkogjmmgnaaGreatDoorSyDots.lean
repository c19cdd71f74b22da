/- SyntaxDots. From the program's contract pparse_any. -/
import Derived.Test.YtbclhkogjmmgnaaGreatDoorK58
set_option maxHeartbeats 1600000
set_option maxRecDepth 100000
set_option linter.unusedVariables false
namespace Go.Proofs.YtbclhkogjmmgnaaGreatDoor
open Go Go.RowKit
theorem parts_one (s : ByteArray) (f c : Int) (x : Tr) (hs : s.size = 1) (hc : headI (leftB s 0) = c) (hd : c ≠ 124 ∧ c ≠ 41 ∧ c ≠ 40 ∧ c ≠ 91 ∧ c ≠ 92) (hr : repY s 0 = none) (hp : plainY s 0 f [] = .ok [x] 1 f []) (he : headI (leftB s 1) ≠ 124) :
  partsY s (roundsY s) 0 f [] [] = .ok [x] 1 f [] := by
 obtain ⟨d1,d2,d3,d4,d5⟩ := hd
 have h6 : roundsY s = 3 + 1 + 1 + 1 := by unfold roundsY;omega
 have ha : atomsY s (3 + 1) 0 f [] = .ok [x] 1 f [] := by
  rw [atomsY,hc,if_neg d3,if_neg d4,if_neg d5,hp]
 have h2 : partY s (3 + 1) 1 f [] [x] = .ok [x] 1 f [] := by
  rw [partY,if_pos (.inl (by omega))]
 rw [h6,partsY]
 have h1 : partY s (3 + 1 + 1) 0 f [] [] = .ok [x] 1 f [] := by
  rw [partY,hc,if_neg (by omega),hr]
  simp only [ha,List.nil_append]
  exact h2
 rw [h1]
 show (if headI (leftB s 1) = 124 then _ else _) = _
 rw [if_neg he]
 rfl
theorem bound_small (s : ByteArray) (f : Fld) (ho : f.op ≤ 5) : boundY s (.mk f []) = .tree (.mk f []) := by
 unfold boundY
 have h1 : ¬ 50 < depthR (.mk f []) := by
  simp only [depthR_eq,Tr.kids,List.map_nil,maxL]
  omega
 have h2 : ¬ 4000 < weightR (.mk f []) := by
  have h := weightR_eq (.mk f [])
  simp only [Tr.kids,Tr.fld,List.map_nil] at h
  rw [h]
  unfold weightN
  rw [if_neg (by omega),if_neg (by omega),if_neg (by omega),if_neg (by omega)]
  omega
 rw [if_neg h1,if_neg h2]
theorem dot_valid : Lib.validD (⟨#[46]⟩ : ByteArray).toList = true := by kernel_rfl
theorem hat_valid : Lib.validD (⟨#[94]⟩ : ByteArray).toList = true := by kernel_rfl
theorem end_valid : Lib.validD (⟨#[36]⟩ : ByteArray).toList = true := by kernel_rfl
theorem orb_dot : orbR 46 = [46] := by kernel_rfl
theorem orb_hat : orbR 94 = [94] := by kernel_rfl
theorem orb_end : orbR 36 = [36] := by kernel_rfl
theorem atom_of {c : Int} (h : orbR c = [c]) (fold : Bool) : atomY c fold = runeY c := by
 unfold atomY
 rw [h,if_neg (by rintro ⟨-,h⟩;simp at h)]
def DotPost (o r a x z : Int) (l : List (Int × Int)) (w : World) (e : Ending) (w' : World) : Prop :=
 Below w.heap.size w w' ∧ ∃ (A : Option Addr) (c : Nat) (B : Option Addr) (c2 : Nat),
  e = .returned (.tuple #[.agg #[.int .i64 o,.slice A 0 c,.int .i32 r,.slice B l.length c2,.int .i64 a,.int .i64 0,.string ⟨#[]⟩,.int .i64 0,.int .i64 0,.bool false],.agg #[.int .i64 x,.int .i64 0,.int .i64 z]]) ∧
  Rgs w' (.slice B l.length c2) l
theorem dot_of_tree {o r a : Int} {l : List (Int × Int)} {w : World} {e : Ending} {w' : World} (h : ParsePost (.tree (.mk ⟨o,r,l,a,0,⟨#[]⟩,0,0,false⟩ [])) w e w') : DotPost o r a 0 0 l w e w' := by
 obtain ⟨hb,v,he,ht⟩ := h
 obtain ⟨A,n,c,B,m,c2,hn,hm,hv,-,-,-,hS,-⟩ := ht.opened
 obtain rfl : n = 0 := hn.symm
 obtain rfl : m = l.length := hm.symm
 exact ⟨hb,A,c,B,c2,by rw [he,hv];rfl,hS⟩
theorem dot_of_bad {x : Int} {z : Nat} {w : World} {e : Ending} {w' : World} (h : ParsePost (.bad x 0 z) w e w') : DotPost 0 0 0 x z [] w e w' := by
 obtain ⟨hb,he⟩ := h
 exact ⟨hb,none,0,none,0,he,none,0,rfl,by simp,by unfold maxLen;omega,by simp,.inl rfl,by simp⟩
theorem one_sign (s : ByteArray) (f : Int) (k : Nat) (c : Int) (hk : c = k) (hs : s.size = 1) (hv : Lib.validD s.toList = true) (hc : headI (leftB s 0) = c) (hd : c ≠ 124 ∧ c ≠ 41 ∧ c ≠ 40 ∧ c ≠ 91 ∧ c ≠ 92) (hr : repY s 0 = none)
  (he : headI (leftB s 1) ≠ 124) (hu : Utf8.decode s 0 = (k,1)) (ho : orbR c = [c]) (d : Fld) (hd5 : d.op ≤ 5) (hp : flagY f 2 = false → plainY s 0 f [] = .ok [.mk d []] 1 f []) :
  parseY s f = if f < 0 ∨ 63 < f then .bad 1 0 1 else .tree (if flagY f 2 = true then runeY c else .mk d []) := by
 unfold parseY
 rw [hs]
 by_cases h0 : f < 0 ∨ 63 < f
 ·rw [if_pos h0,if_pos h0]
 rw [if_neg h0,if_neg h0,if_neg (by decide),hv,if_neg (by decide)]
 by_cases h2 : flagY f 2 = true
 ·rw [if_pos h2,if_pos h2]
  have : litY s (flagY f 1) 1 0 = [runeY c] := by
   rw [litY,hs,if_neg (by decide),hu,litY]
   simp only [← hk,atom_of ho]
  rw [this]
  exact bound_small s _ (show (3 : Int) ≤ 5 by decide)
 ·have h3 : flagY f 2 = false := by simpa using h2
  rw [if_neg h2,if_neg h2,parts_one s f c _ hs hc hd hr (hp h3) he]
  show (if (1 : Nat) < 1 then _ else boundY s (altY [.mk d []])) = _
  rw [if_neg (by decide)]
  exact bound_small s d hd5
theorem ten_right : RightR [(10,10)] := ⟨by decide,by decide,by decide,trivial⟩
theorem dot_has (all : Bool) (c : Int) (h0 : 0 ≤ c) (h1 : c ≤ 1114111) : HasR (dotR all) c ↔ all = true ∨ c ≠ 10 := by
 unfold dotR
 cases all
 ·rw [if_neg (by decide),notR_has ten_right]
  simp only [HasR,List.mem_singleton,exists_eq_left]
  constructor
  ·rintro ⟨-,-,h⟩
   exact .inr (by omega)
  ·rintro (h | h)
   ·cases h
   ·exact ⟨h0,h1,by omega⟩
 ·rw [if_pos rfl,notR_has (by trivial)]
  exact ⟨fun _ => .inl rfl,fun _ => ⟨h0,h1,has_nil c⟩⟩
theorem dot_some (all : Bool) : setY (dotR all) = someY (dotR all) := by
 unfold setY
 rw [if_neg]
 intro h
 have := (dot_has all 97 (by decide) (by decide)).2 (.inr (by decide))
 rw [h] at this
 exact has_nil _ this
theorem head_one (s : ByteArray) (h : s.size = 1) : headI (leftB s 1) ≠ 124 := by rw [head_end s 1 (by omega)];decide
theorem dots_parse (f : Int) : parseY ⟨#[46]⟩ f = (if f < 0 ∨ 63 < f then .bad 1 0 1 else .tree (if flagY f 2 = true then runeY 46 else someY (dotR (flagY f 8)))) ∧
  parseY ⟨#[94]⟩ f = (if f < 0 ∨ 63 < f then .bad 1 0 1 else .tree (if flagY f 2 = true then runeY 94 else atY (if flagY f 4 = true then 4 else 1))) ∧
  parseY ⟨#[36]⟩ f = (if f < 0 ∨ 63 < f then .bad 1 0 1 else .tree (if flagY f 2 = true then runeY 36 else atY (if flagY f 4 = true then 8 else 2))) := by
 refine ⟨one_sign _ f 46 46 rfl rfl dot_valid (by kernel_rfl) (by decide) (by kernel_rfl) (head_one _ rfl) (by kernel_rfl) orb_dot _ ?_ fun _ => ?_,
  one_sign _ f 94 94 rfl rfl hat_valid (by kernel_rfl) (by decide) (by kernel_rfl) (head_one _ rfl) (by kernel_rfl) orb_hat _ ?_ fun _ => ?_,
  one_sign _ f 36 36 rfl rfl end_valid (by kernel_rfl) (by decide) (by kernel_rfl) (head_one _ rfl) (by kernel_rfl) orb_end _ ?_ fun _ => ?_⟩
 ·show (4 : Int) ≤ 5
  decide
 ·unfold plainY
  rw [show Utf8.decode ⟨#[46]⟩ 0 = (46,1) by kernel_rfl]
  simp only [dot_some]
  rfl
 ·show (5 : Int) ≤ 5
  decide
 ·unfold plainY
  rw [show Utf8.decode ⟨#[94]⟩ 0 = (94,1) by kernel_rfl]
  rfl
 ·show (5 : Int) ≤ 5
  decide
 ·unfold plainY
  rw [show Utf8.decode ⟨#[36]⟩ 0 = (36,1) by kernel_rfl]
  rfl
theorem dots_form (f : Int) : ∃ (o1 r1 a1 x1 z1 o2 r2 a2 x2 z2 o3 r3 a3 x3 z3 : Int) (l1 l2 l3 : List (Int × Int)),
  (∀ w e w',ParsePost (parseY ⟨#[46]⟩ f) w e w' → DotPost o1 r1 a1 x1 z1 l1 w e w') ∧ (∀ w e w',ParsePost (parseY ⟨#[94]⟩ f) w e w' → DotPost o2 r2 a2 x2 z2 l2 w e w') ∧
  (∀ w e w',ParsePost (parseY ⟨#[36]⟩ f) w e w' → DotPost o3 r3 a3 x3 z3 l3 w e w') ∧
  (((f < 0 ∨ 63 < f) ∧ x1 = 1 ∧ x2 = 1 ∧ x3 = 1) ∨
   (0 ≤ f ∧ f ≤ 63 ∧ x1 = 0 ∧ x2 = 0 ∧ x3 = 0 ∧ flagY f 2 = true ∧ o1 = 3 ∧ r1 = 46 ∧ r2 = 94 ∧ r3 = 36) ∨
   (0 ≤ f ∧ f ≤ 63 ∧ x1 = 0 ∧ x2 = 0 ∧ x3 = 0 ∧ flagY f 2 = false ∧ o1 = 4 ∧ l1 = dotR (flagY f 8) ∧ a2 = (if flagY f 4 = true then 4 else 1) ∧ a3 = (if flagY f 4 = true then 8 else 2))) := by
 obtain ⟨h1,h2,h3⟩ := dots_parse f
 by_cases h0 : f < 0 ∨ 63 < f
 ·rw [if_pos h0] at h1 h2 h3
  rw [h1,h2,h3]
  exact ⟨_,_,_,_,_,_,_,_,_,_,_,_,_,_,_,_,_,_,fun w e w' h => dot_of_bad h,fun w e w' h => dot_of_bad h,fun w e w' h => dot_of_bad h,.inl ⟨h0,rfl,rfl,rfl⟩⟩
 rw [if_neg h0] at h1 h2 h3
 have g0 : 0 ≤ f := by omega
 have g1 : f ≤ 63 := by omega
 by_cases hf : flagY f 2 = true
 ·rw [if_pos hf] at h1 h2 h3
  rw [h1,h2,h3]
  exact ⟨_,_,_,_,_,_,_,_,_,_,_,_,_,_,_,_,_,_,fun w e w' h => dot_of_tree h,fun w e w' h => dot_of_tree h,fun w e w' h => dot_of_tree h,.inr (.inl ⟨g0,g1,rfl,rfl,rfl,hf,rfl,rfl,rfl,rfl⟩)⟩
 ·rw [if_neg hf] at h1 h2 h3
  rw [h1,h2,h3]
  exact ⟨_,_,_,_,_,_,_,_,_,_,_,_,_,_,_,_,_,_,fun w e w' h => dot_of_tree h,fun w e w' h => dot_of_tree h,fun w e w' h => dot_of_tree h,.inr (.inr ⟨g0,g1,rfl,rfl,rfl,by simpa using hf,rfl,rfl,rfl,rfl⟩)⟩
theorem sydots_any (w : World) (f : Int) (hT : TabsY w) : Calls Tryz.prog 8 #[.int .i64 f] w fun e w' => e = .returned (.bool true) ∧ Below w.heap.size w w' := by
 obtain ⟨o1,r1,a1,x1,z1,o2,r2,a2,x2,z2,o3,r3,a3,x3,z3,l1,l2,l3,p1,p2,p3,hC⟩ := dots_form f
 have HC := Hd hC
 have P1 := Hd (fun W (h : TabsY W) => (pparse_any ⟨#[46]⟩ f W (by decide) h).mono fun e w' h => p1 W e w' h)
 have P2 := Hd (fun W (h : TabsY W) => (pparse_any ⟨#[94]⟩ f W (by decide) h).mono fun e w' h => p2 W e w' h)
 have P3 := Hd (fun W (h : TabsY W) => (pparse_any ⟨#[36]⟩ f W (by decide) h).mono fun e w' h => p3 W e w' h)
 have HH := Hd (shead_any w hT)
 have HT := Hd hT
 clear hT p1 p2 p3 hC
 go_enter Tryz.func8,Tryz.ntmps8
 go_wp2_with fail
 refine HH.out.mono ?_
 rintro e w1 ⟨rfl,hb⟩
 have HB := Hd hb
 clear hb HH
 go_wp2_with fail
 refine (P1.out w1 (HT.out.below HB.out)).mono ?_
 rintro e w2 ⟨hb,A1,c1,B1,d1,rfl,hR⟩
 obtain ⟨w3,hw3⟩ : ∃ w3,(w2.alloc (.cells #[.int .i64 o1,.slice A1 0 c1,.int .i32 r1,.slice B1 l1.length d1,.int .i64 a1,.int .i64 0,.string ⟨#[]⟩,.int .i64 0,.int .i64 0,.bool false] 31)).alloc (.cells #[.int .i64 x1,.int .i64 0,.int .i64 z1] 34) = w3 := ⟨_,rfl⟩
 obtain ⟨n1,n2,n3,n4⟩ := pair_new w2 #[.int .i64 o1,.slice A1 0 c1,.int .i32 r1,.slice B1 l1.length d1,.int .i64 a1,.int .i64 0,.string ⟨#[]⟩,.int .i64 0,.int .i64 0,.bool false] #[.int .i64 x1,.int .i64 0,.int .i64 z1]
 rw [hw3] at n1 n2 n3 n4
 have HW3 := Hd hw3;have HS3 := Hd n4;have T1 := Hd n1;have W1 := Hd n2;have R1 := Hd (hR.below n3)
 replace HB := Hd (HB.out.trans ((hb.trans (n3.mono hb.size)).mono HB.out.size))
 clear hw3 n1 n2 n3 n4 hb hR P1
 go_upto_region 3 with (fail)
 rw [HW3.out]
 clear HW3
 go_wp2_with fail
 refine (P2.out w3 (HT.out.below HB.out)).mono ?_
 rintro e w4 ⟨hb,A2,c2,B2,d2,rfl,hR⟩
 obtain ⟨w5,hw5⟩ : ∃ w5,(w4.alloc (.cells #[.int .i64 o2,.slice A2 0 c2,.int .i32 r2,.slice B2 l2.length d2,.int .i64 a2,.int .i64 0,.string ⟨#[]⟩,.int .i64 0,.int .i64 0,.bool false] 31)).alloc (.cells #[.int .i64 x2,.int .i64 0,.int .i64 z2] 34) = w5 := ⟨_,rfl⟩
 obtain ⟨n1,n2,n3,n4⟩ := pair_new w4 #[.int .i64 o2,.slice A2 0 c2,.int .i32 r2,.slice B2 l2.length d2,.int .i64 a2,.int .i64 0,.string ⟨#[]⟩,.int .i64 0,.int .i64 0,.bool false] #[.int .i64 x2,.int .i64 0,.int .i64 z2]
 rw [hw5] at n1 n2 n3 n4
 have hs3 := HS3.out
 have hb5 := hb.trans (n3.mono hb.size)
 have HW5 := Hd hw5;have HS5 := Hd n4;have T2 := Hd n1;have W2 := Hd n2
 replace T1 := Hd (T1.out.below hb5 (by omega));replace W1 := Hd (W1.out.below hb5 (by omega));replace R1 := Hd (R1.out.below hb5)
 have HZ5 := Hd (show w2.heap.size + 2 ≤ w5.heap.size from hs3 ▸ hb5.size)
 replace HB := Hd (HB.out.trans (hb5.mono HB.out.size))
 clear hw5 n1 n2 n3 n4 hb hb5 hs3 HS3 hR P2
 go_upto_region 4 with (fail)
 rw [HW5.out]
 clear HW5
 go_wp2_with fail
 refine (P3.out w5 (HT.out.below HB.out)).mono ?_
 rintro e w6 ⟨hb,A3,c3,B3,d3,rfl,hR⟩
 obtain ⟨w7,hw7⟩ : ∃ w7,(w6.alloc (.cells #[.int .i64 o3,.slice A3 0 c3,.int .i32 r3,.slice B3 l3.length d3,.int .i64 a3,.int .i64 0,.string ⟨#[]⟩,.int .i64 0,.int .i64 0,.bool false] 31)).alloc (.cells #[.int .i64 x3,.int .i64 0,.int .i64 z3] 34) = w7 := ⟨_,rfl⟩
 obtain ⟨n1,n2,n3,n4⟩ := pair_new w6 #[.int .i64 o3,.slice A3 0 c3,.int .i32 r3,.slice B3 l3.length d3,.int .i64 a3,.int .i64 0,.string ⟨#[]⟩,.int .i64 0,.int .i64 0,.bool false] #[.int .i64 x3,.int .i64 0,.int .i64 z3]
 rw [hw7] at n1 n2 n3 n4
 have hs5 := HS5.out;have hz5 := HZ5.out
 have hb7 := hb.trans (n3.mono hb.size)
 have HW7 := Hd hw7
 replace T1 := T1.out.below hb7 (by omega);replace W1 := W1.out.below hb7 (by omega);replace R1 := Hd (R1.out.below hb7)
 replace T2 := T2.out.below hb7 (by omega);replace W2 := W2.out.below hb7 (by omega)
 replace HB := Hd (HB.out.trans (hb7.mono HB.out.size))
 have t10 : w7.cell? ⟨w2.heap.size,0,none⟩ = some (.int .i64 o1) := T1.cell 0
 have t12 : w7.cell? ⟨w2.heap.size,2,none⟩ = some (.int .i32 r1) := T1.cell 2
 have t13 : w7.cell? ⟨w2.heap.size,3,none⟩ = some (.slice B1 l1.length d1) := T1.cell 3
 have t22 : w7.cell? ⟨w4.heap.size,2,none⟩ = some (.int .i32 r2) := T2.cell 2
 have t24 : w7.cell? ⟨w4.heap.size,4,none⟩ = some (.int .i64 a2) := T2.cell 4
 have t32 : w7.cell? ⟨w6.heap.size,2,none⟩ = some (.int .i32 r3) := n1.cell 2
 have t34 : w7.cell? ⟨w6.heap.size,4,none⟩ = some (.int .i64 a3) := n1.cell 4
 have e1 : w7.cell? ⟨w2.heap.size + 1,0,none⟩ = some (.int .i64 x1) := W1.cell 0
 have e2 : w7.cell? ⟨w4.heap.size + 1,0,none⟩ = some (.int .i64 x2) := W2.cell 0
 have e3 : w7.cell? ⟨w6.heap.size + 1,0,none⟩ = some (.int .i64 x3) := n2.cell 0
 clear hw7 n1 n2 n3 n4 hb hb7 hs5 hz5 HS5 HZ5 hR P3 T1 T2 W1 W2
 go_upto_region 5 with (fail)
 rw [HW7.out]
 clear HW7
 rcases HC.out with ⟨h0,rfl,rfl,rfl⟩ | ⟨g0,g1,rfl,rfl,rfl,hf,rfl,rfl,rfl,rfl⟩ | ⟨g0,g1,rfl,rfl,rfl,hf,rfl,rfl,ha2,ha3⟩
 ·rcases h0 with h0 | h0
  ·go_wp2_with fail
   go_ret
   exact ⟨rfl,HB.out⟩
  ·have h1 : ¬ f < 0 := by omega
   go_wp2_with fail
   go_ret
   exact ⟨rfl,HB.out⟩
 ·have h1 : ¬ f < 0 := by omega
  have h2 : ¬ 63 < f := by omega
  have b2 : (bits .and .i64 f 2 != 0) = true := hf
  clear g0 g1 hf
  go_wp2_with fail
  go_ret
  exact ⟨rfl,HB.out⟩
 ·have h1 : ¬ f < 0 := by omega
  have h2 : ¬ 63 < f := by omega
  have b2 : (bits .and .i64 f 2 != 0) = false := hf
  obtain ⟨q8,hq8⟩ : ∃ q,flagY f 8 = q := ⟨_,rfl⟩
  have b8 : (bits .and .i64 f 8 != 0) = q8 := hq8
  have HX := Hd (fun W (h : Below w7.heap.size w7 W) => rhas_any _ _ 10 W (R1.out.below h))
  have HY := Hd (fun W (h : Below w7.heap.size w7 W) => rhas_any _ _ 97 W (R1.out.below h))
  have HU := Hd (fun (B : Bool) (h : B = true ↔ HasR (dotR (flagY f 8)) 10) => show B = q8 from Bool.eq_iff_iff.2 (h.trans ((dot_has _ 10 (by decide) (by decide)).trans (by rw [hq8];simp))))
  have HV := Hd (fun (B : Bool) (h : B = true ↔ HasR (dotR (flagY f 8)) 97) => show B = true from h.2 ((dot_has _ 97 (by decide) (by decide)).2 (.inr (by decide))))
  clear g0 g1 hf
  obtain ⟨q4,hq4⟩ : ∃ q,flagY f 4 = q := ⟨_,rfl⟩
  have b4 : (bits .and .i64 f 4 != 0) = q4 := hq4
  rw [ha2,hq4] at t24
  rw [ha3,hq4] at t34
  clear hq4 hq8 ha2 ha3 HC
  cases q4
  ·rw [if_neg (by decide)] at t24 t34
   cases q8
   ·go_wp2_with fail
    refine (HX.out _ (by first | exact Below.refl _ w7 | exact (Below.refl _ w7).drew)).mono ?_
    rintro e w8 ⟨b,rfl,hbb,q,rfl⟩
    obtain rfl := HU.out b hbb
    clear hbb
    go_wp2_with fail
    refine (HY.out _ (by first | exact below_draws w7 q | exact (below_draws w7 q).drew)).mono ?_
    rintro e w9 ⟨b,rfl,hbb,q2,rfl⟩
    obtain rfl := HV.out b hbb
    clear hbb
    go_wp2_with fail
    go_ret
    exact ⟨rfl,by first | exact below_drewNr (below_drewNr HB.out _) _ | exact below_drewNr HB.out _⟩
   ·go_wp2_with fail
    refine (HX.out _ (by first | exact Below.refl _ w7 | exact (Below.refl _ w7).drew)).mono ?_
    rintro e w8 ⟨b,rfl,hbb,q,rfl⟩
    obtain rfl := HU.out b hbb
    clear hbb
    go_wp2_with fail
    refine (HY.out _ (by first | exact below_draws w7 q | exact (below_draws w7 q).drew)).mono ?_
    rintro e w9 ⟨b,rfl,hbb,q2,rfl⟩
    obtain rfl := HV.out b hbb
    clear hbb
    go_wp2_with fail
    go_ret
    exact ⟨rfl,by first | exact below_drewNr (below_drewNr HB.out _) _ | exact below_drewNr HB.out _⟩
  ·rw [if_pos rfl] at t24 t34
   cases q8
   ·go_wp2_with fail
    refine (HX.out _ (by first | exact Below.refl _ w7 | exact (Below.refl _ w7).drew)).mono ?_
    rintro e w8 ⟨b,rfl,hbb,q,rfl⟩
    obtain rfl := HU.out b hbb
    clear hbb
    go_wp2_with fail
    refine (HY.out _ (by first | exact below_draws w7 q | exact (below_draws w7 q).drew)).mono ?_
    rintro e w9 ⟨b,rfl,hbb,q2,rfl⟩
    obtain rfl := HV.out b hbb
    clear hbb
    go_wp2_with fail
    go_ret
    exact ⟨rfl,by first | exact below_drewNr (below_drewNr HB.out _) _ | exact below_drewNr HB.out _⟩
   ·go_wp2_with fail
    refine (HX.out _ (by first | exact Below.refl _ w7 | exact (Below.refl _ w7).drew)).mono ?_
    rintro e w8 ⟨b,rfl,hbb,q,rfl⟩
    obtain rfl := HU.out b hbb
    clear hbb
    go_wp2_with fail
    refine (HY.out _ (by first | exact below_draws w7 q | exact (below_draws w7 q).drew)).mono ?_
    rintro e w9 ⟨b,rfl,hbb,q2,rfl⟩
    obtain rfl := HV.out b hbb
    clear hbb
    go_wp2_with fail
    go_ret
    exact ⟨rfl,by first | exact below_drewNr (below_drewNr HB.out _) _ | exact below_drewNr HB.out _⟩
end Go.Proofs.YtbclhkogjmmgnaaGreatDoor
