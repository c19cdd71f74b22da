/- Texts merged by program. No condition. -/
import Derived.Test.YthnddabcmhplkaaGreatDoorK46
import Derived.Test.YthnddabcmhplkaaGreatDoorK50
set_option maxHeartbeats 6400000
set_option maxRecDepth 100000
set_option linter.unusedVariables false
namespace Go.Proofs.YthnddabcmhplkaaGreatDoor
open Go Go.RowKit
def set10o (w : World) (g o : Nat) (x0 x1 x2 x3 x4 x5 x6 x7 x8 x9 : Value) : World := (((((((((w.setCell ⟨g,o,none⟩ x0).setCell ⟨g,o + 1,none⟩ x1).setCell ⟨g,o + 2,none⟩ x2).setCell ⟨g,o + 3,none⟩ x3).setCell ⟨g,o + 4,none⟩ x4).setCell ⟨g,o + 5,none⟩ x5).setCell ⟨g,o + 6,none⟩ x6).setCell ⟨g,o + 7,none⟩ x7).setCell ⟨g,o + 8,none⟩ x8).setCell ⟨g,o + 9,none⟩ x9
theorem set10o_eq (w : World) (g o : Nat) (x0 x1 x2 x3 x4 x5 x6 x7 x8 x9 : Value) : set10o w g o x0 x1 x2 x3 x4 x5 x6 x7 x8 x9 = setsW w g o (#[x0,x1,x2,x3,x4,x5,x6,x7,x8,x9] : Array Value).toList := rfl
def NameYPost (q : Nat) (f : Int) (s : ByteArray) (j : Nat) (nv : Value) (ns : List (List UInt8)) (w : World) (e : Ending) (w' : World) : Prop :=
 match nameS s j with
 | none => e = thrown (.iface 32 (wrongV 64 j (min (endS s j + 1) s.size : Nat))) ∧ w.grownBy w' (some q)
 | some (nm,k) => if nm ∈ ns then e = thrown (.iface 32 (wrongV 64 j k)) ∧ w.grownBy w' (some q) else e = .returned (.string ⟨nm.toArray⟩) ∧ Tk q f s k nv w w'
theorem name_det (s : ByteArray) (j : Nat) (hs : s.size ≤ 4503599627370496) (hj : j ≤ s.size) : ∃ (nm : ByteArray) (k c a b : Int),
  (∀ W,Calls Tryz.prog 78 #[.string s,.int .i64 j] W fun e w' => e = .returned (.tuple #[.string nm,.int .i64 k,.agg #[.int .i64 c,.int .i64 a,.int .i64 b]]) ∧ Below W.heap.size W w') ∧
  ((nameS s j = none ∧ c = 64 ∧ a = j ∧ b = (min (endS s j + 1) s.size : Nat)) ∨ ∃ l k',nameS s j = some (l,k') ∧ nm = ⟨l.toArray⟩ ∧ k = (k' : Int) ∧ c = 0 ∧ a = 0 ∧ b = 0) := by
 cases hn : nameS s j with
 | none =>
  refine ⟨⟨#[]⟩,0,64,j,(min (endS s j + 1) s.size : Nat),fun W => (pgroup_any s j W hs hj).mono fun e w' h => ?_,.inl ⟨rfl,rfl,rfl,rfl⟩⟩
  obtain ⟨hb,⟨-,he⟩ | ⟨_,_,_,h,-⟩⟩ := h
  ·refine ⟨?_,hb⟩
   rw [he,show (min ((endS s j : Int) + 1) s.size) = ((min (endS s j + 1) s.size : Nat) : Int) by omega]
   rfl
  ·rw [hn] at h
   cases h
 | some r =>
  obtain ⟨l,k'⟩ := r
  refine ⟨⟨l.toArray⟩,k',0,0,0,fun W => (pgroup_any s j W hs hj).mono fun e w' h => ?_,.inr ⟨l,k',rfl,rfl,rfl,rfl,rfl,rfl⟩⟩
  obtain ⟨hb,⟨h,-⟩ | ⟨n,k,b,h,h2,he⟩⟩ := h
  ·rw [hn] at h
   cases h
  ·rw [hn] at h
   cases h
   have e1 : b = ⟨l.toArray⟩ := by
    have := congrArg List.toArray h2
    rw [Lib.toList_data] at this
    cases b
    simp at this
    rw [this]
   rw [he,e1]
   exact ⟨rfl,hb⟩
theorem mem_names {nm : List UInt8} {ns : List (List UInt8)} : Lib.containsS (namesY ns) ⟨nm.toArray⟩ = decide (nm ∈ ns) := by
 rw [Bool.eq_iff_iff,Lib.containsS_iff,decide_eq_true_eq]
 unfold namesY
 rw [List.mem_map]
 constructor
 ·rintro ⟨l,hl,e⟩
  have e2 := congrArg (fun b : ByteArray => b.data.toList) e
  simp only at e2
  rw [← e2]
  exact hl
 ·intro h
  exact ⟨nm,h,rfl⟩
theorem pycontains_any {B q : Nat} {f : Int} {s : ByteArray} {j : Nat} {nv : Value} {ns : List (List UInt8)} {w : World} (h : SrSt w B q f s j nv ns) (nm : List UInt8) :
  Calls Tryz.prog 79 #[nv,.string ⟨nm.toArray⟩] w fun e w' => e = .returned (.bool (decide (nm ∈ ns))) ∧ w' = w := by
 obtain ⟨a,c,rfl,h1,h2,h3⟩ := h.own.srs
 rw [← mem_names]
 by_cases h0 : namesY ns = []
 ·rw [h0]
  exact Tryz.slices_Contains_string_empty a c ⟨nm.toArray⟩ w
 ·obtain ⟨b,rfl,hc⟩ := h3.resolve_left h0
  have := Tryz.slices_Contains_string b 0 (namesY ns).length c (namesY ns) ⟨nm.toArray⟩ w (Nat.le_refl _) (by have := h2;unfold maxLen at this;omega) (fun i hi => by
   rw [Nat.zero_add,hc i hi,List.getD_eq_getElem?_getD,List.getElem?_eq_getElem hi]
   rfl)
  rw [List.take_length] at this
  exact this
theorem name_bad0 {q : Nat} {f : Int} {s : ByteArray} {j : Nat} {nv : Value} {ns : List (List UInt8)} {w w' : World} (hn : nameS s j = none) (h : w.grownBy w' (some q)) : NameYPost q f s j nv ns w (thrown (.iface 32 (wrongV 64 j (min (endS s j + 1) s.size : Nat)))) w' := by
 unfold NameYPost
 rw [hn]
 exact ⟨rfl,h⟩
theorem name_bad1 {q : Nat} {f : Int} {s : ByteArray} {j k : Nat} {nm : List UInt8} {nv : Value} {ns : List (List UInt8)} {w w' : World} (hn : nameS s j = some (nm,k)) (hm : nm ∈ ns) (h : w.grownBy w' (some q)) : NameYPost q f s j nv ns w (thrown (.iface 32 (wrongV 64 j k))) w' := by
 unfold NameYPost
 rw [hn]
 dsimp only
 rw [if_pos hm]
 exact ⟨rfl,h⟩
theorem name_good {q : Nat} {f : Int} {s : ByteArray} {j k : Nat} {nm : List UInt8} {nv : Value} {ns : List (List UInt8)} {w w' : World} (hn : nameS s j = some (nm,k)) (hm : nm ∉ ns) (h : Tk q f s k nv w w') : NameYPost q f s j nv ns w (.returned (.string ⟨nm.toArray⟩)) w' := by
 unfold NameYPost
 rw [hn]
 dsimp only
 rw [if_neg hm]
 exact ⟨rfl,h⟩
theorem pyname_any (B q : Nat) (f : Int) (s : ByteArray) (j : Nat) (nv : Value) (ns : List (List UInt8)) (w : World) (hs : s.size ≤ 4503599627370496) (hj : j ≤ s.size) (h : SrSt w B q f s j nv ns) (hT : TabB B w) (hB : B ≤ w.heap.size) :
  Calls Tryz.prog 59 #[.pointer (some ⟨q,0,none⟩)] w (NameYPost q f s j nv ns w) := by
 obtain ⟨c0,c1,c2,c3⟩ := h.rd.cells
 obtain ⟨nm,k,c,a,b,hX,hrel⟩ := name_det s j hs hj
 have HX := Hd (fun W (_ : TabsY W) => hX W)
 have hq := h.rd.lt
 have HTT := Hd (fun W (hb : Below w.heap.size w W) => hT W (hb.mono hB))
 have HH := Hd h;have HREL := Hd hrel
 clear hX hT h hrel c3
 go_enter Tryz.func59,Tryz.ntmps59
 go_upto_region 1 with (fail)
 go_cut [3,4,5] (fun s3 s4 s5 wx => ∃ bx,s5 = .pointer (some ⟨bx,0,none⟩) ∧ s3 = .string nm ∧ s4 = .int .i64 k ∧ Whole wx bx 32 #[.int .i64 c,.int .i64 a,.int .i64 b] ∧ Below w.heap.size w wx ∧ w.heap.size ≤ bx)
 case first =>
  refine wp_region_held_drew (S := fun w' => Below w.heap.size w w') (by kernel_rfl) (Below.refl _ _).drew (fun hHeld => ?_)
  obtain ⟨u0,hu0⟩ : ∃ x,w.drew = x := ⟨_,rfl⟩
  rw [hu0] at hHeld ⊢
  have HB0 := Hd hHeld;have HS0 := Hd (show u0.heap.size = w.heap.size by rw [← hu0];rfl)
  clear hu0
  refine tk8 0 (v := ?_) rfl (Or.inl ⟨by rfl,?_⟩) hHeld ?_
  rotate_left 1
  ·(intro w hSw;(try dsimp only at hSw);obtain ⟨e0,e1,e2⟩ := c8 hSw hq c0 c1 c2;go_simp;(try with_reducible rfl))
  try simp only [lay8]
  refine tk8 1 (v := ?_) rfl (Or.inl ⟨by rfl,?_⟩) hHeld ?_
  rotate_left 1
  ·(intro w hSw;(try dsimp only at hSw);obtain ⟨e0,e1,e2⟩ := c8 hSw hq c0 c1 c2;go_simp;(try with_reducible rfl))
  try simp only [lay8]
  refine tk8 2 (v := ?_) rfl (Or.inl ⟨by rfl,?_⟩) hHeld ?_
  rotate_left 1
  ·(intro w hSw;(try dsimp only at hSw);obtain ⟨e0,e1,e2⟩ := c8 hSw hq c0 c1 c2;go_simp;(try with_reducible rfl))
  try simp only [lay8]
  refine tk8 3 (v := ?_) rfl (Or.inl ⟨by rfl,?_⟩) hHeld ?_
  rotate_left 1
  ·(intro w hSw;(try dsimp only at hSw);obtain ⟨e0,e1,e2⟩ := c8 hSw hq c0 c1 c2;go_simp;(try with_reducible rfl))
  try simp only [lay8]
  refine tk8 4 (v := ?_) rfl (Or.inl ⟨by rfl,?_⟩) hHeld ?_
  rotate_left 1
  ·(intro w hSw;(try dsimp only at hSw);obtain ⟨e0,e1,e2⟩ := c8 hSw hq c0 c1 c2;go_simp;(try with_reducible rfl))
  try simp only [lay8]
  refine tk8 5 (v := ?_) rfl (Or.inl ⟨by rfl,?_⟩) hHeld ?_
  rotate_left 1
  ·(intro w hSw;(try dsimp only at hSw);obtain ⟨e0,e1,e2⟩ := c8 hSw hq c0 c1 c2;go_simp;(try with_reducible rfl))
  try simp only [lay8]
  refine tk8 6 (v := ?_) rfl (Or.inl ⟨by rfl,?_⟩) hHeld ?_
  rotate_left 1
  ·(intro w hSw;(try dsimp only at hSw);obtain ⟨e0,e1,e2⟩ := c8 hSw hq c0 c1 c2;go_simp;(try with_reducible rfl))
  try simp only [lay8]
  refine tk8 7 (v := ?_) rfl (Or.inl ⟨by rfl,?_⟩) hHeld ?_
  rotate_left 1
  ·(intro w hSw;(try dsimp only at hSw);obtain ⟨e0,e1,e2⟩ := c8 hSw hq c0 c1 c2;go_simp;(try with_reducible rfl))
  try simp only [lay8]
  refine wpAnyH_ready (rs := [8,13]) (by kernel_rfl) (by simp) ?_
  refine AllReadyH.cons (o := _) rfl (fun K hK => ?_) ?_
  ·go_simp
   refine (HX.out u0 (HTT.out _ HB0.out)).mono ?_
   rintro e u1 ⟨rfl,hb⟩
   have HB1 := Hd (HB0.out.trans (hb.mono HB0.out.size));have HS1 := Hd hb.size
   clear hb
   go_wp2_with fail
   refine hK.out _ _ HB1.out (fun hHeld => ?_)
   clear hK K
   try simp only [lay8]
   refine tk8 9 (v := ?_) rfl (Or.inl ⟨by rfl,?_⟩) hHeld ?_
   rotate_left 1
   ·(intro w hSw;(try dsimp only at hSw);obtain ⟨e0,e1,e2⟩ := c8 hSw hq c0 c1 c2;go_simp;(try with_reducible rfl))
   try simp only [lay8]
   refine tk8 10 (v := ?_) rfl (Or.inl ⟨by rfl,?_⟩) hHeld ?_
   rotate_left 1
   ·(intro w hSw;(try dsimp only at hSw);obtain ⟨e0,e1,e2⟩ := c8 hSw hq c0 c1 c2;go_simp;(try with_reducible rfl))
   try simp only [lay8]
   refine tk8 11 (v := ?_) rfl (Or.inl ⟨by rfl,?_⟩) hHeld ?_
   rotate_left 1
   ·(intro w hSw;(try dsimp only at hSw);obtain ⟨e0,e1,e2⟩ := c8 hSw hq c0 c1 c2;go_simp;(try with_reducible rfl))
   try simp only [lay8]
   refine tk8 12 (v := ?_) rfl (Or.inl ⟨by rfl,?_⟩) hHeld ?_
   rotate_left 1
   ·(intro w hSw;(try dsimp only at hSw);obtain ⟨e0,e1,e2⟩ := c8 hSw hq c0 c1 c2;go_simp;(try with_reducible rfl))
   try simp only [lay8]
   refine wpAnyH_ready (rs := [13]) (by kernel_rfl) (by simp) ?_
   refine AllReadyH.cons (o := _) rfl (fun K hK => ?_) ?_
   ·go_simp
    refine hK.out _ _ (HB1.out.alloc HB1.out.size _) (fun hHeld => ?_)
    clear hK K
    try simp only [lay8]
    obtain ⟨u2,hu2⟩ : ∃ x,u1.alloc (.cells #[.int .i64 0,.int .i64 0,.int .i64 0] 32) = x := ⟨_,rfl⟩
    rw [hu2] at hHeld ⊢
    have HB2 := Hd hHeld;have HS2 := Hd (show u2.heap.size = u1.heap.size + 1 by rw [← hu2];simp)
    have HX2w := Hd (show Whole u2 u1.heap.size 32 #[.int .i64 0,.int .i64 0,.int .i64 0] by rw [← hu2];exact heap_alloc_new u1 _)
    clear hu2
    refine tk8 14 (v := ?_) rfl (Or.inl ⟨by rfl,?_⟩) hHeld ?_
    rotate_left 1
    ·(intro w hSw;(try dsimp only at hSw);obtain ⟨e0,e1,e2⟩ := c8 hSw hq c0 c1 c2;go_simp;(try with_reducible rfl))
    try simp only [lay8]
    refine tk8 15 (v := ?_) rfl (Or.inl ⟨by rfl,?_⟩) hHeld ?_
    rotate_left 1
    ·(intro w hSw;(try dsimp only at hSw);obtain ⟨e0,e1,e2⟩ := c8 hSw hq c0 c1 c2;go_simp;(try with_reducible rfl))
    try simp only [lay8]
    refine wpAnyH_ready (rs := [16]) (by kernel_rfl) (by simp) ?_
    refine AllReadyH.cons (o := _) rfl (fun K hK => ?_) ?_
    ·obtain ⟨l0,l1,l2,n0,n1,n2⟩ := HX2w.out.three
     go_simp
     clear l0 l1 l2 n0 n1 n2
     refine hK.out _ _ (show Below w.heap.size w (set3 u2 (u1.heap.size) (.int .i64 c) (.int .i64 a) (.int .i64 b)) from set3_below HB2.out (by have := HS0.out;have := HS1.out;have := HS2.out;omega) _ _ _) (fun hHeld => ?_)
     clear hK K
     try simp only [lay8]
     obtain ⟨u3,hu3⟩ : ∃ x,(set3 u2 (u1.heap.size) (.int .i64 c) (.int .i64 a) (.int .i64 b)) = x := ⟨_,rfl⟩
     have hHeld2 : Below w.heap.size w u3 := by rw [← hu3];exact hHeld
     have HB3 := Hd hHeld2;have HS3 := Hd (show u3.heap.size = u2.heap.size by rw [← hu3];exact set3_size _ _ _ _ _)
     have HX3w := Hd (show Whole u3 (u1.heap.size) 32 #[.int .i64 c,.int .i64 a,.int .i64 b] by rw [← hu3];exact set3_whole HX2w.out _ _ _)
     unfold set3 at hu3
     rw [hu3]
     clear hHeld hu3
     have hHeld := hHeld2
     clear hHeld2
     refine wpAnyH_done (by kernel_rfl) ?_ _
     go_wp2_with fail
     go_meet
     exact ⟨u1.heap.size,rfl,rfl,rfl,HX3w.out,HB3.out,by have := HS0.out;have := HS1.out;have := HS2.out;have := HS3.out;omega⟩
    exact AllReadyH.nil
   exact AllReadyH.nil
  refine AllReadyH.cons (o := _) rfl (fun K hK => ?_) ?_
  ·go_simp
   refine hK.out _ _ (HB0.out.alloc HB0.out.size _) (fun hHeld => ?_)
   clear hK K
   try simp only [lay8]
   obtain ⟨u4,hu4⟩ : ∃ x,u0.alloc (.cells #[.int .i64 0,.int .i64 0,.int .i64 0] 32) = x := ⟨_,rfl⟩
   rw [hu4] at hHeld ⊢
   have HB4 := Hd hHeld;have HS4 := Hd (show u4.heap.size = u0.heap.size + 1 by rw [← hu4];simp)
   have HX4w := Hd (show Whole u4 u0.heap.size 32 #[.int .i64 0,.int .i64 0,.int .i64 0] by rw [← hu4];exact heap_alloc_new u0 _)
   clear hu4
   refine wpAnyH_ready (rs := [8]) (by kernel_rfl) (by simp) ?_
   refine AllReadyH.cons (o := _) rfl (fun K hK => ?_) ?_
   ·go_simp
    refine (HX.out u4 (HTT.out _ HB4.out)).mono ?_
    rintro e u5 ⟨rfl,hb⟩
    have HB5 := Hd (HB4.out.trans (hb.mono HB4.out.size));have HS5 := Hd hb.size
    have HX5w := Hd (HX4w.out.below hb HX4w.out.lt)
    clear hb
    go_wp2_with fail
    refine hK.out _ _ HB5.out (fun hHeld => ?_)
    clear hK K
    try simp only [lay8]
    refine tk8 9 (v := ?_) rfl (Or.inl ⟨by rfl,?_⟩) hHeld ?_
    rotate_left 1
    ·(intro w hSw;(try dsimp only at hSw);obtain ⟨e0,e1,e2⟩ := c8 hSw hq c0 c1 c2;go_simp;(try with_reducible rfl))
    try simp only [lay8]
    refine tk8 10 (v := ?_) rfl (Or.inl ⟨by rfl,?_⟩) hHeld ?_
    rotate_left 1
    ·(intro w hSw;(try dsimp only at hSw);obtain ⟨e0,e1,e2⟩ := c8 hSw hq c0 c1 c2;go_simp;(try with_reducible rfl))
    try simp only [lay8]
    refine tk8 11 (v := ?_) rfl (Or.inl ⟨by rfl,?_⟩) hHeld ?_
    rotate_left 1
    ·(intro w hSw;(try dsimp only at hSw);obtain ⟨e0,e1,e2⟩ := c8 hSw hq c0 c1 c2;go_simp;(try with_reducible rfl))
    try simp only [lay8]
    refine tk8 12 (v := ?_) rfl (Or.inl ⟨by rfl,?_⟩) hHeld ?_
    rotate_left 1
    ·(intro w hSw;(try dsimp only at hSw);obtain ⟨e0,e1,e2⟩ := c8 hSw hq c0 c1 c2;go_simp;(try with_reducible rfl))
    try simp only [lay8]
    refine tk8 14 (v := ?_) rfl (Or.inl ⟨by rfl,?_⟩) hHeld ?_
    rotate_left 1
    ·(intro w hSw;(try dsimp only at hSw);obtain ⟨e0,e1,e2⟩ := c8 hSw hq c0 c1 c2;go_simp;(try with_reducible rfl))
    try simp only [lay8]
    refine tk8 15 (v := ?_) rfl (Or.inl ⟨by rfl,?_⟩) hHeld ?_
    rotate_left 1
    ·(intro w hSw;(try dsimp only at hSw);obtain ⟨e0,e1,e2⟩ := c8 hSw hq c0 c1 c2;go_simp;(try with_reducible rfl))
    try simp only [lay8]
    refine wpAnyH_ready (rs := [16]) (by kernel_rfl) (by simp) ?_
    refine AllReadyH.cons (o := _) rfl (fun K hK => ?_) ?_
    ·obtain ⟨l0,l1,l2,n0,n1,n2⟩ := HX5w.out.three
     go_simp
     clear l0 l1 l2 n0 n1 n2
     refine hK.out _ _ (show Below w.heap.size w (set3 u5 (u0.heap.size) (.int .i64 c) (.int .i64 a) (.int .i64 b)) from set3_below HB5.out (by have := HS0.out;have := HS4.out;have := HS5.out;omega) _ _ _) (fun hHeld => ?_)
     clear hK K
     try simp only [lay8]
     obtain ⟨u6,hu6⟩ : ∃ x,(set3 u5 (u0.heap.size) (.int .i64 c) (.int .i64 a) (.int .i64 b)) = x := ⟨_,rfl⟩
     have hHeld2 : Below w.heap.size w u6 := by rw [← hu6];exact hHeld
     have HB6 := Hd hHeld2;have HS6 := Hd (show u6.heap.size = u5.heap.size by rw [← hu6];exact set3_size _ _ _ _ _)
     have HX6w := Hd (show Whole u6 (u0.heap.size) 32 #[.int .i64 c,.int .i64 a,.int .i64 b] by rw [← hu6];exact set3_whole HX5w.out _ _ _)
     unfold set3 at hu6
     rw [hu6]
     clear hHeld hu6
     have hHeld := hHeld2
     clear hHeld2
     refine wpAnyH_done (by kernel_rfl) ?_ _
     go_wp2_with fail
     go_meet
     exact ⟨u0.heap.size,rfl,rfl,rfl,HX6w.out,HB6.out,by have := HS0.out;have := HS4.out;have := HS5.out;have := HS6.out;omega⟩
    exact AllReadyH.nil
   exact AllReadyH.nil
  exact AllReadyH.nil
 case rest =>
  obtain ⟨bx,rfl,rfl,rfl,hW,hb,hbx⟩ := hcut
  have HK := Hd (Tk.of_below HH.out.rd hb);have HWW := Hd hW;have HST := Hd (HH.out.took (Tk.of_below HH.out.rd hb));have HBX := Hd hbx
  obtain ⟨l0,l1,l2,n0,n1,n2⟩ := hW.three
  clear hW hb c0 c1 c2 hbx
  obtain ⟨c0,c1,c2,c3⟩ := HK.out.2.cells
  clear c0 c1
  rcases HREL.out with ⟨hn,rfl,rfl,rfl⟩ | ⟨l,k',hn,rfl,rfl,rfl,rfl,rfl⟩
  ·have HN := Hd hn
   obtain ⟨m,hm⟩ : ∃ m : Nat,min (endS s j + 1) s.size = m := ⟨_,rfl⟩
   rw [hm] at l2
   have HM := Hd hm
   clear hn hm HREL HX
   go_wp2_with fail
   refine (pypass_bad q k 64 j m (by decide) wc).mono ?_
   rintro e w2 ⟨he,hb2⟩
   unfold thrown at he
   subst he
   have HG := Hd (HK.out.below hb2).1
   have HP : Hid (NameYPost q f s j nv ns w (thrown (.iface 32 (wrongV 64 j m))) w2) := Hd (by rw [← HM.out];exact name_bad0 HN.out HG.out)
   clear hb2
   go_wp2
   exact ⟨rfl,HP.out⟩
  ·have HN := Hd hn
   have HCC := Hd (pycontains_any HST.out l)
   obtain ⟨a3,c3',hnv,-⟩ := HST.out.own.srs
   obtain ⟨n3,hn3⟩ : ∃ n,(namesY ns).length = n := ⟨_,rfl⟩
   rw [hn3] at hnv
   have HNV := Hd hnv
   clear hn HREL HX hnv hn3
   rw [HNV.out] at c3 HCC
   by_cases hm : l ∈ ns
   ·rw [decide_eq_true hm] at HCC
    have HM := Hd hm
    clear hm
    go_wp2_with fail
    refine HCC.out.mono ?_
    rintro e w2 ⟨rfl,rfl⟩
    obtain ⟨w3,hw3⟩ : ∃ x,set3 w2 bx (.int .i64 64) (.int .i64 j) (.int .i64 (k' : Int)) = x := ⟨_,rfl⟩
    have hW3 := set3_whole HWW.out (.int .i64 64) (.int .i64 j) (.int .i64 (k' : Int))
    have hB3 := set3_below (Below.refl w.heap.size w2) HBX.out (.int .i64 64) (.int .i64 j) (.int .i64 (k' : Int))
    rw [hw3] at hW3 hB3
    have HG3 := Hd (show w.grownBy w3 (some q) from ⟨hB3.os.trans HK.out.1.os,hB3.tape.trans HK.out.1.tape,hB3.output.trans HK.out.1.output,Nat.le_trans HK.out.1.size hB3.size,fun i hi hne => by
     rw [← hw3]
     exact (set3_other (by have := HBX.out;omega) _ _ _).trans (HK.out.1.block i hi hne)⟩)
    unfold set3 at hw3
    have HW3 := Hd hw3;have HWW3 := Hd hW3
    clear hw3 hW3 hB3
    go_upto_region 4 with (fail)
    rw [HW3.out]
    clear l0 l1 l2 n0 n1 n2 c2 c3
    obtain ⟨l0,l1,l2,n0,n1,n2⟩ := HWW3.out.three
    go_wp2_with fail
    refine (pypass_bad q k' 64 j k' (by decide) w3).mono ?_
    rintro e w4 ⟨he,hb4⟩
    unfold thrown at he
    subst he
    have HP := Hd (name_bad1 (f := f) (nv := nv) HN.out HM.out (tk_trans HG3.out (tk_below hb4 (some q))))
    clear hb4
    go_wp2
    exact ⟨rfl,HP.out⟩
   ·rw [decide_eq_false hm] at HCC
    have HM := Hd hm
    clear hm
    go_wp2_with fail
    refine HCC.out.mono ?_
    rintro e w2 ⟨rfl,rfl⟩
    go_wp2_with fail
    refine (pypass_ok q f s j k' nv w2 HK.out.2).mono ?_
    rintro e w3 ⟨rfl,ht⟩
    have HP := Hd (name_good (ns := ns) HN.out HM.out (HK.out.trans ht))
    clear ht
    go_wp2
    go_ret
    exact HP.out
theorem nameS_len {s : ByteArray} {i k : Nat} {nm : List UInt8} (h : nameS s i = some (nm,k)) : nm.length ≤ s.size := by
 unfold nameS at h
 split at h
 ·cases h
 ·split at h
  ·cases h
   rw [List.length_take,left_length]
   omega
  ·cases h
theorem flags_det (s : ByteArray) (j : Nat) (f : Int) (hs : s.size ≤ 4503599627370496) (hj : j ≤ s.size) (hf : FlagsIn f) : ∃ (g k c a b : Int) (u : Bool),
  (∀ W,TabsY W → Calls Tryz.prog 60 #[.string s,.int .i64 j,.int .i64 f] W fun e w' => e = .returned (.tuple #[.int .i64 g,.bool u,.int .i64 k,.agg #[.int .i64 c,.int .i64 a,.int .i64 b]]) ∧ Below W.heap.size W w') ∧
  ((∃ p,flagsS s j f = (none,p) ∧ c = 65 ∧ a = j ∧ b = (badTo s p).toNat) ∨ ∃ k' : Nat,flagsS s j f = (some (g,u),k') ∧ k = k' ∧ c = 0 ∧ a = 0 ∧ b = 0 ∧ j < k' ∧ k' ≤ s.size ∧ FlagsIn g) := by
 have hp := fun W (h : TabsY W) => pflags_any s j f W hs hj (by unfold In64;unfold FlagsIn at hf;omega) h.utf8
 have hok := flags_ok (f := f) hj
 obtain ⟨o,p⟩ : ∃ x : Option (Int × Bool) × Nat,flagsS s j f = x := ⟨_,rfl⟩
 obtain ⟨R,hR⟩ : ∃ x,flagsS s j f = x := ⟨_,rfl⟩
 rw [hR] at hp hok
 obtain ⟨o',p'⟩ := R
 cases o' with
 | none =>
  have hb := hok.1 p' rfl
  have hnn : 0 ≤ badTo s p' := by
   unfold badTo
   split <;> omega
  refine ⟨0,0,65,j,(badTo s p').toNat,false,fun W h => (hp W h).mono fun e w' h => ?_,.inl ⟨p',hR,rfl,rfl,rfl⟩⟩
  obtain ⟨hb,⟨-,he⟩ | ⟨_,_,h,-⟩⟩ := h
  ·rw [he]
   refine ⟨?_,hb⟩
   rw [Int.toNat_of_nonneg hnn]
  ·cases h
 | some x =>
  obtain ⟨g,u⟩ := x
  obtain ⟨h1,h2,h3⟩ := hok.2 g u p' rfl
  refine ⟨g,p',0,0,0,u,fun W h => (hp W h).mono fun e w' h => ?_,.inr ⟨p',hR,rfl,rfl,rfl,rfl,h1,h2,h3 hf⟩⟩
  obtain ⟨hb,⟨h,-⟩ | ⟨_,_,h,he⟩⟩ := h
  ·cases h
  ·cases h
   exact ⟨he,hb⟩
def parensY (s : ByteArray) (n i : Nat) (f : Int) (ns : List (List UInt8)) : OpenY → PR
 | .bad c a b => .bad c a b
 | .flags g k => .ok [] k g ns
 | .cap nm k => match withinY s n k f f (ns ++ [nm]) with
  | .bad c a b => .bad c a b
  | .ok l i2 f2 ns2 => .ok [capY (ns.length + 1) nm (altY l)] i2 f2 ns2
 | .under g k => match withinY s n k f g ns with
  | .bad c a b => .bad c a b
  | .ok l i2 f2 ns2 => .ok [altY l] i2 f2 ns2
theorem atoms_parens {s : ByteArray} {n i : Nat} {f : Int} {ns : List (List UInt8)} (h : headI (leftB s i) = 40) : atomsY s (n + 1) i f ns = parensY s n i f ns (openY s i f ns) := by
 rw [atomsY,if_pos h]
 cases openY s i f ns with
 | bad c a b => rfl
 | flags g k => rfl
 | cap nm k =>
  unfold parensY withinY
  simp only
  cases partsY s n k f (ns ++ [nm]) [] with
  | bad c a b => rfl
  | ok l i2 f2 ns2 =>
   simp only
   split <;> rfl
 | under g k =>
  unfold parensY withinY
  simp only
  cases partsY s n k g ns [] with
  | bad c a b => rfl
  | ok l i2 f2 ns2 =>
   simp only
   split <;> rfl
theorem atoms_of_tree {B q : Nat} {s : ByteArray} {nv : Value} {mk : List Tr → Tr} {R : PR} {w w1 : World} {e : Ending} (h : TreePost B q s nv mk R w e w1) :
  match R with
  | .bad c a b => Thrown s c a b e ∧ Steps q nv w w1
  | .ok l i f ns => ∃ x0 y1 y2 y3 x2 y4 y5 y6 x4 x5 x6 x7 x8 x9,e = .returned (.agg #[.int .i64 x0,.slice y1 y2 y3,.int .i32 x2,.slice y4 y5 y6,.int .i64 x4,.int .i64 x5,.string x6,.int .i64 x7,.int .i64 x8,.bool x9]) ∧
   AtomsPost B q s nv (.ok [mk l] i f ns) w (.returned (.slice (some ⟨w1.heap.size,0,none⟩) 1 1)) (w1.alloc (.cells #[.int .i64 x0,.slice y1 y2 y3,.int .i32 x2,.slice y4 y5 y6,.int .i64 x4,.int .i64 x5,.string x6,.int .i64 x7,.int .i64 x8,.bool x9] 29)) := by
 cases R with
 | bad c a b => exact h
 | ok l i f ns =>
  obtain ⟨y1,y2,y3,y4,y5,y6,nv',he,ht,hg⟩ := TreePost.ten h
  exact ⟨_,_,_,_,_,_,_,_,_,_,_,_,_,_,he,atoms_one hg ht⟩
theorem pyparens_any (B q : Nat) (f : Int) (s : ByteArray) (n i : Nat) (nv : Value) (ns : List (List UInt8)) (w : World) (hs : s.size ≤ 1024) (hlt : i < s.size) (h40 : headI (leftB s i) = 40) (hn : ns.length ≤ i) (hf : FlagsIn f) (hP : ∀ k,i < k → k ≤ s.size → PartsAt B q s n k) (h : SrSt w B q f s i nv ns) (hT : TabB B w) (hB : B ≤ w.heap.size) (hqB : B ≤ q) :
  Calls Tryz.prog 42 #[.pointer (some ⟨q,0,none⟩)] w (AtomsPost B q s nv (atomsY s (n + 1) i f ns) w) := by
 rw [atoms_parens h40]
 obtain ⟨O,hO⟩ : ∃ O,openY s i f ns = O := ⟨_,rfl⟩
 rw [hO]
 unfold openY at hO
 have hs5 : s.size ≤ 4503599627370496 := by omega
 have HH := Hd h;have HT := Hd hT;have HF := Hd hf;have HP := Hd hP;have HN := Hd hn;have HLT := Hd hlt;have HS := Hd hs;have HS5 := Hd hs5;have H40 := Hd h40
 obtain ⟨c0,c1,c2,c3⟩ := h.rd.cells
 clear h hT hf hP hn hlt hs hs5 h40 c1 c2 c3
 have HHAS := Hd (fun W => pyhas_any f 32 W)
 obtain ⟨P,hPP⟩ : ∃ P,flagY f 32 = P := ⟨_,rfl⟩
 rw [hPP] at HHAS hO
 have HST := Hd (fun (part : ByteArray) W (hr : SrIn W q f s i nv) => pystands_any q f s part i nv W (Nat.le_of_lt HLT.out) hr)
 obtain ⟨D1,hD1⟩ : ∃ b,preB [40,63,80,60] (leftB s i) = b := ⟨_,rfl⟩
 obtain ⟨D2,hD2⟩ : ∃ b,preB [40,63,60] (leftB s i) = b := ⟨_,rfl⟩
 obtain ⟨D3,hD3⟩ : ∃ b,preB [40,63] (leftB s i) = b := ⟨_,rfl⟩
 rw [hD1,hD2,hD3] at hO
 have HD1 := Hd (fun W hr => (show (⟨#[40,63,80,60]⟩ : ByteArray).toList = [40,63,80,60] from by rw [Lib.toList_data]) ▸ HST.out ⟨#[40,63,80,60]⟩ W hr)
 have HD2 := Hd (fun W hr => (show (⟨#[40,63,60]⟩ : ByteArray).toList = [40,63,60] from by rw [Lib.toList_data]) ▸ HST.out ⟨#[40,63,60]⟩ W hr)
 have HD3 := Hd (fun W hr => (show (⟨#[40,63]⟩ : ByteArray).toList = [40,63] from by rw [Lib.toList_data]) ▸ HST.out ⟨#[40,63]⟩ W hr)
 rw [hD1] at HD1
 rw [hD2] at HD2
 rw [hD3] at HD3
 have HOO := Hd hO
 clear hD1 hD2 hD3 hPP HST hO
 obtain ⟨Q1,hQ1⟩ : ∃ b,(P && (D1 || D2)) = b := ⟨_,rfl⟩
 have HQ1 := Hd hQ1
 clear hQ1
 go_enter Tryz.func42,Tryz.ntmps42
 go_upto_region 1 with (fail)
 go_cut [7] (fun s7 wx => s7 = .bool Q1 ∧ Below w.heap.size w wx)
 case first =>
  go_wp2_with fail
  refine (HHAS.out w).mono ?_
  rintro e u1 ⟨rfl,hb1⟩
  have HB1 := Hd hb1
  clear hb1
  cases P with
  | false =>
   go_wp2_with fail
   go_meet
   exact ⟨by rw [← HQ1.out];rfl,HB1.out⟩
  | true =>
   go_wp2_with fail
   refine (HD1.out u1 (HH.out.rd.below HB1.out)).mono ?_
   rintro e u2 ⟨rfl,m,rfl⟩
   have HB2 := Hd (HB1.out.trans ((drewN_below u1 m).mono HB1.out.size))
   generalize u1.drewN m = u2 at HB2 ⊢
   cases D1 with
   | true =>
    go_wp2_with fail
    go_meet
    exact ⟨by rw [← HQ1.out];rfl,HB2.out⟩
   | false =>
    go_wp2_with fail
    refine (HD2.out u2 (HH.out.rd.below HB2.out)).mono ?_
    rintro e u3 ⟨rfl,m3,rfl⟩
    have HB3 := Hd (HB2.out.trans ((drewN_below u2 m3).mono HB2.out.size))
    generalize u2.drewN m3 = u3 at HB3 ⊢
    go_wp2_with fail
    go_meet
    exact ⟨by rw [← HQ1.out];cases D2 <;> rfl,HB3.out⟩
 case rest =>
  obtain ⟨rfl,hb1⟩ := hcut
  have HK1 := Hd (Tk.of_below HH.out.rd hb1);have HB1 := Hd hb1
  have HST1 := Hd (HH.out.took (Tk.of_below HH.out.rd hb1));have HT1 := Hd (HT.out.below hB hb1);have HS1 := Hd (Nat.le_trans hB hb1.size);have HWT1 := Hd (Went.of_took HH.out (Tk.of_below HH.out.rd hb1))
  clear hb1 c0
  cases Q1 with
  | true =>
   have hPQ : P = true ∧ (D1 = true ∨ D2 = true) := by
    have := HQ1.out
    revert this
    cases P <;> cases D1 <;> cases D2 <;> simp
   have HO2 := Hd ((if_pos hPQ).symm.trans HOO.out)
   clear hPQ
   have HNM := Hd (pyname_any B q f s i nv ns wc HS5.out (Nat.le_of_lt HLT.out) HST1.out HT1.out HS1.out)
   go_wp2_with fail
   refine HNM.out.mono ?_
   intro e w3 hp
   unfold NameYPost at hp
   cases hnm : nameS s i with
   | none =>
    rw [hnm] at hp
    obtain ⟨he,hg⟩ := hp
    have HOX : Hid (O = .bad 64 i (min (endS s i + 1) s.size)) := Hd (by have := HO2.out;rw [hnm] at this;exact this.symm)
    have HX := Hd (HWT1.out.steps.trans HWT1.out.spot (Steps.of_grown hg))
    unfold thrown at he
    subst he
    clear hg hnm
    go_wp2
    refine ⟨rfl,?_⟩
    rw [HOX.out]
    exact ⟨.inl rfl,HX.out⟩
   | some r =>
    obtain ⟨nm,k⟩ := r
    rw [hnm] at hp
    dsimp only at hp
    have hlen := nameS_len hnm
    obtain ⟨g1,g2,g3⟩ := name_ok (Nat.le_of_lt HLT.out) hnm
    by_cases hm : nm ∈ ns
    ·rw [if_pos hm] at hp
     obtain ⟨he,hg⟩ := hp
     have HOX : Hid (O = .bad 64 i k) := Hd (by have := HO2.out;rw [hnm] at this;dsimp only at this;rw [if_pos hm] at this;exact this.symm)
     have HX := Hd (HWT1.out.steps.trans HWT1.out.spot (Steps.of_grown hg))
     unfold thrown at he
     subst he
     clear hg hnm hm hlen g1 g2 g3
     go_wp2
     refine ⟨rfl,?_⟩
     rw [HOX.out]
     exact ⟨.inl rfl,HX.out⟩
    ·rw [if_neg hm] at hp
     obtain ⟨he,ht⟩ := hp
     subst he
     have HOX : Hid (O = .cap nm k) := Hd (by have := HO2.out;rw [hnm] at this;dsimp only at this;rw [if_neg hm] at this;exact this.symm)
     have HWT3 := Hd (HWT1.out.took ht);have HT3 := Hd (HT1.out.next (ht.belowB HS1.out hqB));have HS3 := Hd (Nat.le_trans HS1.out ht.size)
     have HGR := Hd (pygroup_any B q f s n k nm nv ns w3 HS.out g2 (by have := HN.out;omega) (by have := HS.out;omega) HF.out (HP.out k g1 g2) HWT3.out.st HT3.out HS3.out hqB)
     clear ht hnm hm hlen g1 g2 g3 HNM
     obtain ⟨R,hR⟩ : ∃ R,withinY s n k f f (ns ++ [nm]) = R := ⟨_,rfl⟩
     rw [hR] at HGR
     have HRR := Hd hR
     clear hR
     go_wp2_with fail
     refine HGR.out.mono ?_
     intro e w4 hp
     have hat := atoms_of_tree (TreePost.from HWT3.out hp)
     cases R with
     | bad c a b =>
      obtain ⟨he,hst⟩ := hat
      have HX := Hd hst
      clear hp hst
      have HPR : Hid (parensY s n i f ns O = .bad c a b) := Hd (by rw [HOX.out];unfold parensY;(try dsimp only);rw [HRR.out])
      rcases he with he | ⟨ha,hb,he⟩
      ·unfold thrown at he
       subst he
       go_wp2
       refine ⟨rfl,?_⟩
       rw [HPR.out]
       exact ⟨.inl rfl,HX.out⟩
      ·have HAB := Hd (And.intro ha hb)
       clear ha hb
       unfold thrown at he
       subst he
       go_wp2
       refine ⟨rfl,?_⟩
       rw [HPR.out]
       exact ⟨.inr ⟨HAB.out.1,HAB.out.2,rfl⟩,HX.out⟩
     | ok l i2 f2 ns2 =>
      obtain ⟨x0,y1,y2,y3,x2,y4,y5,y6,x4,x5,x6,x7,x8,x9,rfl,hA⟩ := hat
      have HA := Hd hA
      have HPR : Hid (parensY s n i f ns O = .ok [capY (ns.length + 1) nm (altY l)] i2 f2 ns2) := Hd (by rw [HOX.out];unfold parensY;(try dsimp only);rw [HRR.out])
      clear hp hA
      go_wp2_with fail
      go_ret
      rw [HPR.out]
      exact HA.out
  | false =>
   have HNQ : Hid (¬ (P = true ∧ (D1 = true ∨ D2 = true))) := Hd (by
    have := HQ1.out
    revert this
    cases P <;> cases D1 <;> cases D2 <;> simp)
   have HO2 := Hd ((if_neg HNQ.out).symm.trans HOO.out)
   obtain ⟨Q2,hQ2⟩ : ∃ b,(P && D3) = b := ⟨_,rfl⟩
   have HQQ2 := Hd hQ2
   clear hQ2
   obtain ⟨c0,c1,c2,c3⟩ := HK1.out.2.cells
   clear c1 c2 c3
   go_upto_region 3 with (fail)
   go_cut [26] (fun s26 wx => s26 = .bool Q2 ∧ Below wc.heap.size wc wx)
   case first =>
    go_wp2_with fail
    refine (HHAS.out wc).mono ?_
    rintro e u1 ⟨rfl,hb1⟩
    have HB1 := Hd hb1
    clear hb1
    cases P with
    | false =>
     go_wp2_with fail
     go_meet
     exact ⟨by rw [← HQQ2.out];rfl,HB1.out⟩
    | true =>
     go_wp2_with fail
     refine (HD3.out u1 (HK1.out.2.below HB1.out)).mono ?_
     rintro e u2 ⟨rfl,m,rfl⟩
     have HB2 := Hd (HB1.out.trans ((drewN_below u1 m).mono HB1.out.size))
     generalize u1.drewN m = u2 at HB2 ⊢
     go_wp2_with fail
     go_meet
     exact ⟨by rw [← HQQ2.out];cases D3 <;> rfl,HB2.out⟩
   case rest =>
    obtain ⟨rfl,hb2⟩ := hcut
    revert hb2
    generalize wc = w2
    intro hb2
    have HK2 := Hd (HK1.out.below hb2);have HST2 := Hd (HST1.out.took (Tk.of_below HST1.out.rd hb2));have HT2 := Hd (HT1.out.below HS1.out hb2);have HS2 := Hd (Nat.le_trans HS1.out hb2.size);have HWT2 := Hd (HWT1.out.below hb2)
    clear hb2 c0
    cases Q2 with
    | true =>
     have hPQ : P = true ∧ D3 = true := by
      have := HQQ2.out
      revert this
      cases P <;> cases D3 <;> simp
     have HO3 := Hd ((if_pos hPQ).symm.trans HO2.out)
     obtain ⟨g,k,c,a,b,u,hX,hrel⟩ := flags_det s i f HS5.out (Nat.le_of_lt HLT.out) HF.out
     have HX := Hd hX;have HREL := Hd hrel
     have HTT := Hd (fun W (hb : Below w2.heap.size w2 W) => HT2.out W (hb.mono HS2.out))
     have HQ2 := Hd HK2.out.2.lt
     obtain ⟨c0,c1,c2,c3⟩ := HK2.out.2.cells
     clear hX hrel hPQ c3
     go_upto_region 4 with (fail)
     go_cut [3,4,5,6] (fun s3 s4 s5 s6 wx => ∃ bx,s6 = .pointer (some ⟨bx,0,none⟩) ∧ s3 = .int .i64 g ∧ s4 = .bool u ∧ s5 = .int .i64 k ∧ Whole wx bx 32 #[.int .i64 c,.int .i64 a,.int .i64 b] ∧ Below w2.heap.size w2 wx ∧ w2.heap.size ≤ bx)
     case first =>
      refine wp_region_held_drew (S := fun w' => Below w2.heap.size w2 w') (by kernel_rfl) (Below.refl _ _).drew (fun hHeld => ?_)
      obtain ⟨u0,hu0⟩ : ∃ x,w2.drew = x := ⟨_,rfl⟩
      rw [hu0] at hHeld ⊢
      have HB0 := Hd hHeld;have HS0 := Hd (show u0.heap.size = w2.heap.size by rw [← hu0];rfl)
      clear hu0
      refine tk8 0 (v := ?_) rfl (Or.inl ⟨by rfl,?_⟩) hHeld ?_
      rotate_left 1
      ·(intro w hSw;(try dsimp only at hSw);obtain ⟨e0,e1,e2⟩ := c8 hSw HQ2.out c0 c1 c2;go_simp;(try with_reducible rfl))
      try simp only [lay8]
      refine tk8 1 (v := ?_) rfl (Or.inl ⟨by rfl,?_⟩) hHeld ?_
      rotate_left 1
      ·(intro w hSw;(try dsimp only at hSw);obtain ⟨e0,e1,e2⟩ := c8 hSw HQ2.out c0 c1 c2;go_simp;(try with_reducible rfl))
      try simp only [lay8]
      refine tk8 2 (v := ?_) rfl (Or.inl ⟨by rfl,?_⟩) hHeld ?_
      rotate_left 1
      ·(intro w hSw;(try dsimp only at hSw);obtain ⟨e0,e1,e2⟩ := c8 hSw HQ2.out c0 c1 c2;go_simp;(try with_reducible rfl))
      try simp only [lay8]
      refine tk8 3 (v := ?_) rfl (Or.inl ⟨by rfl,?_⟩) hHeld ?_
      rotate_left 1
      ·(intro w hSw;(try dsimp only at hSw);obtain ⟨e0,e1,e2⟩ := c8 hSw HQ2.out c0 c1 c2;go_simp;(try with_reducible rfl))
      try simp only [lay8]
      refine tk8 4 (v := ?_) rfl (Or.inl ⟨by rfl,?_⟩) hHeld ?_
      rotate_left 1
      ·(intro w hSw;(try dsimp only at hSw);obtain ⟨e0,e1,e2⟩ := c8 hSw HQ2.out c0 c1 c2;go_simp;(try with_reducible rfl))
      try simp only [lay8]
      refine tk8 5 (v := ?_) rfl (Or.inl ⟨by rfl,?_⟩) hHeld ?_
      rotate_left 1
      ·(intro w hSw;(try dsimp only at hSw);obtain ⟨e0,e1,e2⟩ := c8 hSw HQ2.out c0 c1 c2;go_simp;(try with_reducible rfl))
      try simp only [lay8]
      refine tk8 6 (v := ?_) rfl (Or.inl ⟨by rfl,?_⟩) hHeld ?_
      rotate_left 1
      ·(intro w hSw;(try dsimp only at hSw);obtain ⟨e0,e1,e2⟩ := c8 hSw HQ2.out c0 c1 c2;go_simp;(try with_reducible rfl))
      try simp only [lay8]
      refine tk8 7 (v := ?_) rfl (Or.inl ⟨by rfl,?_⟩) hHeld ?_
      rotate_left 1
      ·(intro w hSw;(try dsimp only at hSw);obtain ⟨e0,e1,e2⟩ := c8 hSw HQ2.out c0 c1 c2;go_simp;(try with_reducible rfl))
      try simp only [lay8]
      refine tk8 8 (v := ?_) rfl (Or.inl ⟨by rfl,?_⟩) hHeld ?_
      rotate_left 1
      ·(intro w hSw;(try dsimp only at hSw);obtain ⟨e0,e1,e2⟩ := c8 hSw HQ2.out c0 c1 c2;go_simp;(try with_reducible rfl))
      try simp only [lay8]
      refine tk8 9 (v := ?_) rfl (Or.inl ⟨by rfl,?_⟩) hHeld ?_
      rotate_left 1
      ·(intro w hSw;(try dsimp only at hSw);obtain ⟨e0,e1,e2⟩ := c8 hSw HQ2.out c0 c1 c2;go_simp;(try with_reducible rfl))
      try simp only [lay8]
      refine tk8 10 (v := ?_) rfl (Or.inl ⟨by rfl,?_⟩) hHeld ?_
      rotate_left 1
      ·(intro w hSw;(try dsimp only at hSw);obtain ⟨e0,e1,e2⟩ := c8 hSw HQ2.out c0 c1 c2;go_simp;(try with_reducible rfl))
      try simp only [lay8]
      refine tk8 11 (v := ?_) rfl (Or.inl ⟨by rfl,?_⟩) hHeld ?_
      rotate_left 1
      ·(intro w hSw;(try dsimp only at hSw);obtain ⟨e0,e1,e2⟩ := c8 hSw HQ2.out c0 c1 c2;go_simp;(try with_reducible rfl))
      try simp only [lay8]
      refine tk8 12 (v := ?_) rfl (Or.inl ⟨by rfl,?_⟩) hHeld ?_
      rotate_left 1
      ·(intro w hSw;(try dsimp only at hSw);obtain ⟨e0,e1,e2⟩ := c8 hSw HQ2.out c0 c1 c2;go_simp;(try with_reducible rfl))
      try simp only [lay8]
      refine wpAnyH_ready (rs := [13,19]) (by kernel_rfl) (by simp) ?_
      refine AllReadyH.cons (o := _) rfl (fun K hK => ?_) ?_
      ·go_simp
       refine (HX.out u0 (HTT.out _ HB0.out)).mono ?_
       rintro e u1 ⟨rfl,hb⟩
       have HB1 := Hd (HB0.out.trans (hb.mono HB0.out.size));have HS1 := Hd hb.size
       clear hb
       go_wp2_with fail
       refine hK.out _ _ HB1.out (fun hHeld => ?_)
       clear hK K
       try simp only [lay8]
       refine tk8 14 (v := ?_) rfl (Or.inl ⟨by rfl,?_⟩) hHeld ?_
       rotate_left 1
       ·(intro w hSw;(try dsimp only at hSw);obtain ⟨e0,e1,e2⟩ := c8 hSw HQ2.out c0 c1 c2;go_simp;(try with_reducible rfl))
       try simp only [lay8]
       refine tk8 15 (v := ?_) rfl (Or.inl ⟨by rfl,?_⟩) hHeld ?_
       rotate_left 1
       ·(intro w hSw;(try dsimp only at hSw);obtain ⟨e0,e1,e2⟩ := c8 hSw HQ2.out c0 c1 c2;go_simp;(try with_reducible rfl))
       try simp only [lay8]
       refine tk8 16 (v := ?_) rfl (Or.inl ⟨by rfl,?_⟩) hHeld ?_
       rotate_left 1
       ·(intro w hSw;(try dsimp only at hSw);obtain ⟨e0,e1,e2⟩ := c8 hSw HQ2.out c0 c1 c2;go_simp;(try with_reducible rfl))
       try simp only [lay8]
       refine tk8 17 (v := ?_) rfl (Or.inl ⟨by rfl,?_⟩) hHeld ?_
       rotate_left 1
       ·(intro w hSw;(try dsimp only at hSw);obtain ⟨e0,e1,e2⟩ := c8 hSw HQ2.out c0 c1 c2;go_simp;(try with_reducible rfl))
       try simp only [lay8]
       refine tk8 18 (v := ?_) rfl (Or.inl ⟨by rfl,?_⟩) hHeld ?_
       rotate_left 1
       ·(intro w hSw;(try dsimp only at hSw);obtain ⟨e0,e1,e2⟩ := c8 hSw HQ2.out c0 c1 c2;go_simp;(try with_reducible rfl))
       try simp only [lay8]
       refine wpAnyH_ready (rs := [19]) (by kernel_rfl) (by simp) ?_
       refine AllReadyH.cons (o := _) rfl (fun K hK => ?_) ?_
       ·go_simp
        refine hK.out _ _ (HB1.out.alloc HB1.out.size _) (fun hHeld => ?_)
        clear hK K
        try simp only [lay8]
        obtain ⟨u2,hu2⟩ : ∃ x,u1.alloc (.cells #[.int .i64 0,.int .i64 0,.int .i64 0] 32) = x := ⟨_,rfl⟩
        rw [hu2] at hHeld ⊢
        have HB2 := Hd hHeld;have HS2 := Hd (show u2.heap.size = u1.heap.size + 1 by rw [← hu2];simp)
        have HX2w := Hd (show Whole u2 u1.heap.size 32 #[.int .i64 0,.int .i64 0,.int .i64 0] by rw [← hu2];exact heap_alloc_new u1 _)
        clear hu2
        refine tk8 20 (v := ?_) rfl (Or.inl ⟨by rfl,?_⟩) hHeld ?_
        rotate_left 1
        ·(intro w hSw;(try dsimp only at hSw);obtain ⟨e0,e1,e2⟩ := c8 hSw HQ2.out c0 c1 c2;go_simp;(try with_reducible rfl))
        try simp only [lay8]
        refine tk8 21 (v := ?_) rfl (Or.inl ⟨by rfl,?_⟩) hHeld ?_
        rotate_left 1
        ·(intro w hSw;(try dsimp only at hSw);obtain ⟨e0,e1,e2⟩ := c8 hSw HQ2.out c0 c1 c2;go_simp;(try with_reducible rfl))
        try simp only [lay8]
        refine tk8 22 (v := ?_) rfl (Or.inl ⟨by rfl,?_⟩) hHeld ?_
        rotate_left 1
        ·(intro w hSw;(try dsimp only at hSw);obtain ⟨e0,e1,e2⟩ := c8 hSw HQ2.out c0 c1 c2;go_simp;(try with_reducible rfl))
        try simp only [lay8]
        refine wpAnyH_ready (rs := [23]) (by kernel_rfl) (by simp) ?_
        refine AllReadyH.cons (o := _) rfl (fun K hK => ?_) ?_
        ·obtain ⟨l0,l1,l2,n0,n1,n2⟩ := HX2w.out.three
         go_simp
         clear l0 l1 l2 n0 n1 n2
         refine hK.out _ _ (show Below w2.heap.size w2 (set3 u2 (u1.heap.size) (.int .i64 c) (.int .i64 a) (.int .i64 b)) from set3_below HB2.out (by have := HS0.out;have := HS1.out;have := HS2.out;omega) _ _ _) (fun hHeld => ?_)
         clear hK K
         try simp only [lay8]
         obtain ⟨u3,hu3⟩ : ∃ x,(set3 u2 (u1.heap.size) (.int .i64 c) (.int .i64 a) (.int .i64 b)) = x := ⟨_,rfl⟩
         have hHeld2 : Below w2.heap.size w2 u3 := by rw [← hu3];exact hHeld
         have HB3 := Hd hHeld2;have HS3 := Hd (show u3.heap.size = u2.heap.size by rw [← hu3];exact set3_size _ _ _ _ _)
         have HX3w := Hd (show Whole u3 (u1.heap.size) 32 #[.int .i64 c,.int .i64 a,.int .i64 b] by rw [← hu3];exact set3_whole HX2w.out _ _ _)
         unfold set3 at hu3
         rw [hu3]
         clear hHeld hu3
         have hHeld := hHeld2
         clear hHeld2
         refine wpAnyH_done (by kernel_rfl) ?_ _
         go_wp2_with fail
         go_meet
         exact ⟨u1.heap.size,rfl,rfl,rfl,rfl,HX3w.out,HB3.out,by have := HS0.out;have := HS1.out;have := HS2.out;have := HS3.out;omega⟩
        exact AllReadyH.nil
       exact AllReadyH.nil
      refine AllReadyH.cons (o := _) rfl (fun K hK => ?_) ?_
      ·go_simp
       refine hK.out _ _ (HB0.out.alloc HB0.out.size _) (fun hHeld => ?_)
       clear hK K
       try simp only [lay8]
       obtain ⟨u4,hu4⟩ : ∃ x,u0.alloc (.cells #[.int .i64 0,.int .i64 0,.int .i64 0] 32) = x := ⟨_,rfl⟩
       rw [hu4] at hHeld ⊢
       have HB4 := Hd hHeld;have HS4 := Hd (show u4.heap.size = u0.heap.size + 1 by rw [← hu4];simp)
       have HX4w := Hd (show Whole u4 u0.heap.size 32 #[.int .i64 0,.int .i64 0,.int .i64 0] by rw [← hu4];exact heap_alloc_new u0 _)
       clear hu4
       refine wpAnyH_ready (rs := [13]) (by kernel_rfl) (by simp) ?_
       refine AllReadyH.cons (o := _) rfl (fun K hK => ?_) ?_
       ·go_simp
        refine (HX.out u4 (HTT.out _ HB4.out)).mono ?_
        rintro e u5 ⟨rfl,hb⟩
        have HB5 := Hd (HB4.out.trans (hb.mono HB4.out.size));have HS5 := Hd hb.size
        have HX5w := Hd (HX4w.out.below hb HX4w.out.lt)
        clear hb
        go_wp2_with fail
        refine hK.out _ _ HB5.out (fun hHeld => ?_)
        clear hK K
        try simp only [lay8]
        refine tk8 14 (v := ?_) rfl (Or.inl ⟨by rfl,?_⟩) hHeld ?_
        rotate_left 1
        ·(intro w hSw;(try dsimp only at hSw);obtain ⟨e0,e1,e2⟩ := c8 hSw HQ2.out c0 c1 c2;go_simp;(try with_reducible rfl))
        try simp only [lay8]
        refine tk8 15 (v := ?_) rfl (Or.inl ⟨by rfl,?_⟩) hHeld ?_
        rotate_left 1
        ·(intro w hSw;(try dsimp only at hSw);obtain ⟨e0,e1,e2⟩ := c8 hSw HQ2.out c0 c1 c2;go_simp;(try with_reducible rfl))
        try simp only [lay8]
        refine tk8 16 (v := ?_) rfl (Or.inl ⟨by rfl,?_⟩) hHeld ?_
        rotate_left 1
        ·(intro w hSw;(try dsimp only at hSw);obtain ⟨e0,e1,e2⟩ := c8 hSw HQ2.out c0 c1 c2;go_simp;(try with_reducible rfl))
        try simp only [lay8]
        refine tk8 17 (v := ?_) rfl (Or.inl ⟨by rfl,?_⟩) hHeld ?_
        rotate_left 1
        ·(intro w hSw;(try dsimp only at hSw);obtain ⟨e0,e1,e2⟩ := c8 hSw HQ2.out c0 c1 c2;go_simp;(try with_reducible rfl))
        try simp only [lay8]
        refine tk8 18 (v := ?_) rfl (Or.inl ⟨by rfl,?_⟩) hHeld ?_
        rotate_left 1
        ·(intro w hSw;(try dsimp only at hSw);obtain ⟨e0,e1,e2⟩ := c8 hSw HQ2.out c0 c1 c2;go_simp;(try with_reducible rfl))
        try simp only [lay8]
        refine tk8 20 (v := ?_) rfl (Or.inl ⟨by rfl,?_⟩) hHeld ?_
        rotate_left 1
        ·(intro w hSw;(try dsimp only at hSw);obtain ⟨e0,e1,e2⟩ := c8 hSw HQ2.out c0 c1 c2;go_simp;(try with_reducible rfl))
        try simp only [lay8]
        refine tk8 21 (v := ?_) rfl (Or.inl ⟨by rfl,?_⟩) hHeld ?_
        rotate_left 1
        ·(intro w hSw;(try dsimp only at hSw);obtain ⟨e0,e1,e2⟩ := c8 hSw HQ2.out c0 c1 c2;go_simp;(try with_reducible rfl))
        try simp only [lay8]
        refine tk8 22 (v := ?_) rfl (Or.inl ⟨by rfl,?_⟩) hHeld ?_
        rotate_left 1
        ·(intro w hSw;(try dsimp only at hSw);obtain ⟨e0,e1,e2⟩ := c8 hSw HQ2.out c0 c1 c2;go_simp;(try with_reducible rfl))
        try simp only [lay8]
        refine wpAnyH_ready (rs := [23]) (by kernel_rfl) (by simp) ?_
        refine AllReadyH.cons (o := _) rfl (fun K hK => ?_) ?_
        ·obtain ⟨l0,l1,l2,n0,n1,n2⟩ := HX5w.out.three
         go_simp
         clear l0 l1 l2 n0 n1 n2
         refine hK.out _ _ (show Below w2.heap.size w2 (set3 u5 (u0.heap.size) (.int .i64 c) (.int .i64 a) (.int .i64 b)) from set3_below HB5.out (by have := HS0.out;have := HS4.out;have := HS5.out;omega) _ _ _) (fun hHeld => ?_)
         clear hK K
         try simp only [lay8]
         obtain ⟨u6,hu6⟩ : ∃ x,(set3 u5 (u0.heap.size) (.int .i64 c) (.int .i64 a) (.int .i64 b)) = x := ⟨_,rfl⟩
         have hHeld2 : Below w2.heap.size w2 u6 := by rw [← hu6];exact hHeld
         have HB6 := Hd hHeld2;have HS6 := Hd (show u6.heap.size = u5.heap.size by rw [← hu6];exact set3_size _ _ _ _ _)
         have HX6w := Hd (show Whole u6 (u0.heap.size) 32 #[.int .i64 c,.int .i64 a,.int .i64 b] by rw [← hu6];exact set3_whole HX5w.out _ _ _)
         unfold set3 at hu6
         rw [hu6]
         clear hHeld hu6
         have hHeld := hHeld2
         clear hHeld2
         refine wpAnyH_done (by kernel_rfl) ?_ _
         go_wp2_with fail
         go_meet
         exact ⟨u0.heap.size,rfl,rfl,rfl,rfl,HX6w.out,HB6.out,by have := HS0.out;have := HS4.out;have := HS5.out;have := HS6.out;omega⟩
        exact AllReadyH.nil
       exact AllReadyH.nil
      exact AllReadyH.nil
     case rest =>
      obtain ⟨bx,rfl,rfl,rfl,rfl,hW,hb,-⟩ := hcut
      revert hW hb
      generalize wc = w3
      intro hW hb
      have HK3 := Hd (HK2.out.below hb);have HST3 := Hd (HST2.out.took (Tk.of_below HST2.out.rd hb));have HT3 := Hd (HT2.out.below HS2.out hb);have HS3 := Hd (Nat.le_trans HS2.out hb.size);have HWT3 := Hd (HWT2.out.below hb)
      obtain ⟨l0,l1,l2,n0,n1,n2⟩ := hW.three
      clear hW hb c0 c1 c2 n0 n1 n2 HX
      rcases HREL.out with ⟨p,hn,rfl,rfl,rfl⟩ | ⟨k',hn,rfl,rfl,rfl,rfl,g1,g2,g3⟩
      ·have HOX : Hid (O = .bad 65 i (badTo s p).toNat) := Hd (by have := HO3.out;rw [hn] at this;exact this.symm)
       obtain ⟨m,hm⟩ : ∃ m,(badTo s p).toNat = m := ⟨_,rfl⟩
       rw [hm] at l2 HOX
       clear hn hm HREL
       go_wp2_with fail
       refine (pypass_bad q k 65 i m (by decide) w3).mono ?_
       rintro e w4 ⟨he,hb4⟩
       unfold thrown at he
       subst he
       have HX := Hd (HWT3.out.below hb4).steps
       clear hb4
       go_wp2
       refine ⟨rfl,?_⟩
       rw [HOX.out]
       exact ⟨.inl rfl,HX.out⟩
      ·have hO : O = (if u = true then .under g k' else .flags g k') := by have := HO3.out;rw [hn] at this;exact this.symm
       have HOI := Hd hO
       have HG1 := Hd g1;have HG2 := Hd g2;have HG3 := Hd g3
       clear hn hO HREL g1 g2 g3
       go_wp2_with fail
       refine (pypass_ok q f s i k' nv w3 HK3.out.2).mono ?_
       rintro e w4 ⟨rfl,ht⟩
       have HWT4 := Hd (HWT3.out.took ht);have HT4 := Hd (HT3.out.next (ht.belowB HS3.out hqB));have HS4 := Hd (Nat.le_trans HS3.out ht.size);have HR4 := Hd ht.2
       clear ht l0 l1 l2
       cases u with
       | false =>
        have HOF : Hid (O = .flags g k') := Hd HOI.out
        clear HOI
        obtain ⟨c0,c1,c2,c3⟩ := HR4.out.cells
        obtain ⟨f0,f2,f3⟩ := HR4.out.frees
        clear c1 c2 c3 f2 f3
        have HWT5 := Hd (HWT4.out.took ((Tk.refl HR4.out).putF g))
        go_wp2_with fail
        go_ret
        rw [HOF.out]
        exact ⟨_,nv,rfl,⟨none,0,rfl,Nat.le_refl _,Nat.zero_le _,Nat.zero_le _,fun _ => rfl,.inl rfl⟩,HWT5.out⟩
       | true =>
        have HOX : Hid (O = .under g k') := Hd HOI.out
        clear HOI
        have HGR := Hd (pywithin_any B q f g s n k' nv ns w4 HS.out HG2.out (by have := HN.out;have := HG1.out;omega) HG3.out (HP.out k' HG1.out HG2.out) HWT4.out.st HT4.out HS4.out hqB)
        obtain ⟨R,hR⟩ : ∃ R,withinY s n k' f g ns = R := ⟨_,rfl⟩
        rw [hR] at HGR
        have HRR := Hd hR
        clear hR
        go_wp2_with fail
        refine HGR.out.mono ?_
        intro e w5 hp
        have hat := atoms_of_tree (TreePost.from HWT4.out hp)
        cases R with
        | bad c a b =>
         obtain ⟨he,hst⟩ := hat
         have HX := Hd hst
         clear hp hst
         have HPR : Hid (parensY s n i f ns O = .bad c a b) := Hd (by rw [HOX.out];unfold parensY;(try dsimp only);rw [HRR.out])
         rcases he with he | ⟨ha,hb,he⟩
         ·unfold thrown at he
          subst he
          go_wp2
          refine ⟨rfl,?_⟩
          rw [HPR.out]
          exact ⟨.inl rfl,HX.out⟩
         ·have HAB := Hd (And.intro ha hb)
          clear ha hb
          unfold thrown at he
          subst he
          go_wp2
          refine ⟨rfl,?_⟩
          rw [HPR.out]
          exact ⟨.inr ⟨HAB.out.1,HAB.out.2,rfl⟩,HX.out⟩
        | ok l i2 f2 ns2 =>
         obtain ⟨x0,y1,y2,y3,x2,y4,y5,y6,x4,x5,x6,x7,x8,x9,rfl,hA⟩ := hat
         have HA := Hd hA
         have HPR : Hid (parensY s n i f ns O = .ok [altY l] i2 f2 ns2) := Hd (by rw [HOX.out];unfold parensY;(try dsimp only);rw [HRR.out])
         clear hp hA
         go_wp2_with fail
         go_ret
         rw [HPR.out]
         exact HA.out
    | false =>
     have HNQ2 : Hid (¬ (P = true ∧ D3 = true)) := Hd (by
      have := HQQ2.out
      revert this
      cases P <;> cases D3 <;> simp)
     have HOX : Hid (O = .cap [] (i + 1)) := Hd ((if_neg HNQ2.out).symm.trans HO2.out).symm
     have HTK := Hd (pytake_yes q f s 40 i nv w2 HS5.out (Nat.le_of_lt HLT.out) HK2.out.2 H40.out)
     go_wp2_with fail
     refine HTK.out.mono ?_
     rintro e w3 ⟨rfl,ht⟩
     have HWT3 := Hd (HWT2.out.took ht);have HT3 := Hd (HT2.out.next (ht.belowB HS2.out hqB));have HS3 := Hd (Nat.le_trans HS2.out ht.size)
     have HGR : Hid (Calls Tryz.prog 58 #[.pointer (some ⟨q,0,none⟩),.string ⟨#[]⟩] w3 (TreePost B q s nv (fun l => capY (ns.length + 1) [] (altY l)) (withinY s n (i + 1) f f (ns ++ [[]])) w3)) := Hd (pygroup_any B q f s n (i + 1) [] nv ns w3 HS.out HLT.out (by have := HN.out;omega) (Nat.zero_le _) HF.out (HP.out (i + 1) (Nat.lt_succ_self _) HLT.out) HWT3.out.st HT3.out HS3.out hqB)
     clear ht HTK
     obtain ⟨R,hR⟩ : ∃ R,withinY s n (i + 1) f f (ns ++ [[]]) = R := ⟨_,rfl⟩
     rw [hR] at HGR
     have HRR := Hd hR
     clear hR
     go_wp2_with fail
     refine HGR.out.mono ?_
     intro e w4 hp
     have hat := atoms_of_tree (TreePost.from HWT3.out hp)
     cases R with
     | bad c a b =>
      obtain ⟨he,hst⟩ := hat
      have HX := Hd hst
      clear hp hst
      have HPR : Hid (parensY s n i f ns O = .bad c a b) := Hd (by rw [HOX.out];unfold parensY;(try dsimp only);rw [HRR.out])
      rcases he with he | ⟨ha,hb,he⟩
      ·unfold thrown at he
       subst he
       go_wp2
       refine ⟨rfl,?_⟩
       rw [HPR.out]
       exact ⟨.inl rfl,HX.out⟩
      ·have HAB := Hd (And.intro ha hb)
       clear ha hb
       unfold thrown at he
       subst he
       go_wp2
       refine ⟨rfl,?_⟩
       rw [HPR.out]
       exact ⟨.inr ⟨HAB.out.1,HAB.out.2,rfl⟩,HX.out⟩
     | ok l i2 f2 ns2 =>
      obtain ⟨x0,y1,y2,y3,x2,y4,y5,y6,x4,x5,x6,x7,x8,x9,rfl,hA⟩ := hat
      have HA := Hd hA
      have HPR : Hid (parensY s n i f ns O = .ok [capY (ns.length + 1) [] (altY l)] i2 f2 ns2) := Hd (by rw [HOX.out];unfold parensY;(try dsimp only);rw [HRR.out])
      clear hp hA
      go_wp2_with fail
      go_ret
      rw [HPR.out]
      exact HA.out
theorem class_has8 (fo nt : Bool) (all : List (Int × Int)) (c : Int) : ClassHas fo nt all c ↔ 0 ≤ c ∧ c ≤ 1114111 ∧ ((if fo = true then foldB all c else hasB all c) != nt) = true := by
 have hF : FoldHas fo all c ↔ (if fo = true then foldB all c else hasB all c) = true := by
  unfold FoldHas
  cases fo
  ·rw [if_neg (by decide),if_neg (by decide)]
   exact (hasB_iff all c).symm
  ·rw [if_pos rfl,if_pos rfl]
   exact (foldB_iff all c).symm
 have hb : FoldHas fo all c → 0 ≤ c ∧ c ≤ 1114111 := by
  unfold FoldHas
  cases fo
  ·rw [if_neg (by decide)]
   exact fun h => ⟨h.1,h.2.1⟩
  ·rw [if_pos rfl]
   rintro ⟨d,h,hd⟩
   exact orb_rune d h.1 h.2.1 c hd
 unfold ClassHas
 obtain ⟨X,hX⟩ : ∃ X,(if fo = true then foldB all c else hasB all c) = X := ⟨_,rfl⟩
 rw [hX] at hF ⊢
 cases nt
 ·rw [if_neg (by decide)]
  constructor
  ·intro h
   exact ⟨(hb h).1,(hb h).2,by rw [hF.1 h];rfl⟩
  ·rintro ⟨-,-,h⟩
   exact hF.2 (by cases X;cases h;rfl)
 ·rw [if_pos rfl]
  constructor
  ·rintro ⟨h1,h2,h3⟩
   refine ⟨h1,h2,?_⟩
   cases X
   ·rfl
   ·exact absurd (hF.2 rfl) h3
  ·rintro ⟨h1,h2,h3⟩
   refine ⟨h1,h2,fun h => ?_⟩
   rw [hF.1 h] at h3
   cases h3
theorem class_det (s : ByteArray) (j : Nat) (f : Int) (ns : List (List UInt8)) (hs : s.size ≤ 900000) (hlt : j < s.size) : ∃ (n c a b : Int) (L : List (Int × Int)),
  (∀ W,TabsY W → Calls Tryz.prog 43 #[.string s,.int .i64 j,.int .i64 f] W fun e w' => ∃ v,e = .returned (.tuple #[v,.int .i64 n,.agg #[.int .i64 c,.int .i64 a,.int .i64 b]]) ∧ OwnR w' W.heap.size v L ∧ Below W.heap.size W w') ∧
  ((∃ a' b' : Nat,classedY s j f ns = .bad c a' b' ∧ c ≠ 0 ∧ a = a' ∧ b = b') ∨ ∃ n' : Nat,classedY s j f ns = .ok [setY L] n' f ns ∧ n = n' ∧ c = 0 ∧ a = 0 ∧ b = 0 ∧ j < n' ∧ n' ≤ s.size ∧ L.length ≤ 1114112) := by
 have hp := fun W (h : TabsY W) => pclass7_any s j f W hs (Nat.le_of_lt hlt) h.1
 have hok := classS_ok s j (flagY f 32) hlt
 unfold classedY
 rw [show flagB f 32 = flagY f 32 from rfl] at hp
 cases hC : classS s j (flagY f 32) with
 | bad c a b =>
  rw [hC] at hp hok
  have h0 : 0 < c := hok.1
  refine ⟨0,c,a,b,[],fun W h => (hp W h).mono fun e w' h => ?_,.inl ⟨a,b,rfl,by omega,rfl,rfl⟩⟩
  obtain ⟨hb,he⟩ := h
  exact ⟨_,he,own_none _ _,hb⟩
 | item all n =>
  rw [hC] at hp hok
  have hset : ∀ l,RightR l → (∀ c,HasR l c ↔ ClassHas (flagB f 1) (notB s j) all c) → l = classY (flagY f 1) (notB s j) all := fun l hr hh => setB_is hr fun c => by
   rw [hh c]
   exact class_has8 (flagY f 1) (notB s j) all c
  refine ⟨n,0,0,0,classY (flagY f 1) (notB s j) all,fun W h => (hp W h).mono fun e w' h => ?_,.inr ⟨n,rfl,rfl,rfl,rfl,rfl,hok.1,hok.2,right8_small (setB_right _)⟩⟩
  obtain ⟨hb,v,l,he,ho,hr,hh⟩ := h
  exact ⟨v,he,hset l hr hh ▸ ho,hb⟩
theorem pyatoms_any (B q : Nat) (f : Int) (s : ByteArray) (n i : Nat) (nv : Value) (ns : List (List UInt8)) (w : World) (hs : s.size ≤ 1024) (hlt : i < s.size) (hn : ns.length ≤ i) (hf : FlagsIn f) (hP : ∀ k,i < k → k ≤ s.size → PartsAt B q s n k) (h : SrSt w B q f s i nv ns) (hT : TabB B w) (hB : B ≤ w.heap.size) (hqB : B ≤ q) :
  Calls Tryz.prog 29 #[.pointer (some ⟨q,0,none⟩)] w (AtomsPost B q s nv (atomsY s (n + 1) i f ns) w) := by
 obtain ⟨c0,c1,c2,c3⟩ := h.rd.cells
 have hh := head_at s i hlt
 obtain ⟨R,hR⟩ : ∃ R,atomsY s (n + 1) i f ns = R := ⟨_,rfl⟩
 have HPA := Hd (fun h40 W (h1 : SrSt W B q f s i nv ns) h2 h3 => pyparens_any B q f s n i nv ns W hs hlt h40 hn hf hP h1 h2 h3 hqB)
 rw [hR] at HPA ⊢
 have HH := Hd h;have HT := Hd hT;have HS := Hd hs;have HHE := Hd hh
 have hq := h.rd.lt
 have HQ := Hd hq
 have HRR := Hd hR
 clear h hT hs c3 hf hn hP hh hR hq
 by_cases h40 : headI (leftB s i) = 40
 ·have b0 : ((s[i].toNat : Int) == 40) = true := eq_true_of (HHE.out.symm.trans h40)
  have H40 := Hd h40
  clear h40 c0
  go_enter Tryz.func29,Tryz.ntmps29
  go_wp2_with fail
  go_big_quiet (fail)
  have HB1 := Hd (drewN_below w nq)
  generalize w.drewN nq = w2 at HB1 ⊢
  have HPP := Hd (HPA.out H40.out w2 (HH.out.took (Tk.of_below HH.out.rd HB1.out)) (HT.out.below hB HB1.out) (Nat.le_trans hB HB1.out.size))
  clear c1 c2 HPA
  go_wp2_with fail
  refine HPP.out.mono ?_
  intro e w3 hp
  have HP := Hd (AtomsPost.from (Went.of_took HH.out (Tk.of_below HH.out.rd HB1.out)) hp)
  cases R with
  | bad c a b =>
   obtain ⟨he,-⟩ := hp
   rcases he with he | ⟨-,-,he⟩
   ·unfold thrown at he
    subst he
    go_wp2
    exact ⟨rfl,HP.out⟩
   ·unfold thrown at he
    subst he
    go_wp2
    exact ⟨rfl,HP.out⟩
  | ok l i2 f2 ns2 =>
   obtain ⟨v,nv',rfl,hk,-⟩ := hp
   obtain ⟨A3,c3,hv,-⟩ := hk
   subst hv
   obtain ⟨m,hm⟩ : ∃ m,l.length = m := ⟨_,rfl⟩
   rw [hm] at HP ⊢
   clear hm
   go_wp2_with fail
   go_ret
   exact HP.out
 have b0 : ((s[i].toNat : Int) == 40) = false := eq_false_of (fun e => h40 (HHE.out.trans e))
 clear HPA
 by_cases h91 : headI (leftB s i) = 91
 ·have b1 : ((s[i].toNat : Int) == 91) = true := eq_true_of (HHE.out.symm.trans h91)
  have HR : Hid (classedY s i f ns = R) := Hd (by rw [← HRR.out,atomsY,if_neg h40,if_pos h91])
  clear h40 h91
  obtain ⟨n2,c,a,b,L,hX,hrel⟩ := class_det s i f ns (by have := HS.out;omega) hlt
  rw [HR.out] at hrel
  have HX := Hd hX;have HREL := Hd hrel
  clear hX hrel
  go_enter Tryz.func29,Tryz.ntmps29
  go_wp2_with fail
  go_big_quiet (fail)
  have HB1 := Hd (drewN_below w nq)
  generalize w.drewN nq = w2 at HB1 ⊢
  have HST2 := Hd (HH.out.took (Tk.of_below HH.out.rd HB1.out));have HT2 := Hd (HT.out.below hB HB1.out);have HB2 := Hd (Nat.le_trans hB HB1.out.size);have HWT2 := Hd (Went.of_took HH.out (Tk.of_below HH.out.rd HB1.out))
  have HTT := Hd (fun W (hb : Below w2.heap.size w2 W) => HT2.out W (hb.mono HB2.out))
  have HQ2 := Hd HST2.out.rd.lt
  clear c0 c1 c2
  obtain ⟨c0,c1,c2,c3⟩ := HST2.out.rd.cells
  clear c3
  go_upto_region 5 with (fail)
  go_cut [3,4,5] (fun s3 s4 s5 wx => ∃ bx A m cA,s5 = .pointer (some ⟨bx,0,none⟩) ∧ s3 = .slice A m cA ∧ s4 = .int .i64 n2 ∧ Whole wx bx 32 #[.int .i64 c,.int .i64 a,.int .i64 b] ∧ OwnR wx w2.heap.size (.slice A m cA) L ∧ Below w2.heap.size w2 wx ∧ w2.heap.size ≤ bx)
  case first =>
   refine wp_region_held_drew (S := fun w' => Below w2.heap.size w2 w') (by kernel_rfl) (Below.refl _ _).drew (fun hHeld => ?_)
   obtain ⟨u0,hu0⟩ : ∃ x,w2.drew = x := ⟨_,rfl⟩
   rw [hu0] at hHeld ⊢
   have HB0 := Hd hHeld;have HS0 := Hd (show u0.heap.size = w2.heap.size by rw [← hu0];rfl)
   clear hu0
   refine tk8 0 (v := ?_) rfl (Or.inl ⟨by rfl,?_⟩) hHeld ?_
   rotate_left 1
   ·(intro w hSw;(try dsimp only at hSw);obtain ⟨e0,e1,e2⟩ := c8 hSw HQ2.out c0 c1 c2;go_simp;(try with_reducible rfl))
   try simp only [lay8]
   refine tk8 1 (v := ?_) rfl (Or.inl ⟨by rfl,?_⟩) hHeld ?_
   rotate_left 1
   ·(intro w hSw;(try dsimp only at hSw);obtain ⟨e0,e1,e2⟩ := c8 hSw HQ2.out c0 c1 c2;go_simp;(try with_reducible rfl))
   try simp only [lay8]
   refine tk8 2 (v := ?_) rfl (Or.inl ⟨by rfl,?_⟩) hHeld ?_
   rotate_left 1
   ·(intro w hSw;(try dsimp only at hSw);obtain ⟨e0,e1,e2⟩ := c8 hSw HQ2.out c0 c1 c2;go_simp;(try with_reducible rfl))
   try simp only [lay8]
   refine tk8 3 (v := ?_) rfl (Or.inl ⟨by rfl,?_⟩) hHeld ?_
   rotate_left 1
   ·(intro w hSw;(try dsimp only at hSw);obtain ⟨e0,e1,e2⟩ := c8 hSw HQ2.out c0 c1 c2;go_simp;(try with_reducible rfl))
   try simp only [lay8]
   refine tk8 4 (v := ?_) rfl (Or.inl ⟨by rfl,?_⟩) hHeld ?_
   rotate_left 1
   ·(intro w hSw;(try dsimp only at hSw);obtain ⟨e0,e1,e2⟩ := c8 hSw HQ2.out c0 c1 c2;go_simp;(try with_reducible rfl))
   try simp only [lay8]
   refine tk8 5 (v := ?_) rfl (Or.inl ⟨by rfl,?_⟩) hHeld ?_
   rotate_left 1
   ·(intro w hSw;(try dsimp only at hSw);obtain ⟨e0,e1,e2⟩ := c8 hSw HQ2.out c0 c1 c2;go_simp;(try with_reducible rfl))
   try simp only [lay8]
   refine tk8 6 (v := ?_) rfl (Or.inl ⟨by rfl,?_⟩) hHeld ?_
   rotate_left 1
   ·(intro w hSw;(try dsimp only at hSw);obtain ⟨e0,e1,e2⟩ := c8 hSw HQ2.out c0 c1 c2;go_simp;(try with_reducible rfl))
   try simp only [lay8]
   refine tk8 7 (v := ?_) rfl (Or.inl ⟨by rfl,?_⟩) hHeld ?_
   rotate_left 1
   ·(intro w hSw;(try dsimp only at hSw);obtain ⟨e0,e1,e2⟩ := c8 hSw HQ2.out c0 c1 c2;go_simp;(try with_reducible rfl))
   try simp only [lay8]
   refine tk8 8 (v := ?_) rfl (Or.inl ⟨by rfl,?_⟩) hHeld ?_
   rotate_left 1
   ·(intro w hSw;(try dsimp only at hSw);obtain ⟨e0,e1,e2⟩ := c8 hSw HQ2.out c0 c1 c2;go_simp;(try with_reducible rfl))
   try simp only [lay8]
   refine tk8 9 (v := ?_) rfl (Or.inl ⟨by rfl,?_⟩) hHeld ?_
   rotate_left 1
   ·(intro w hSw;(try dsimp only at hSw);obtain ⟨e0,e1,e2⟩ := c8 hSw HQ2.out c0 c1 c2;go_simp;(try with_reducible rfl))
   try simp only [lay8]
   refine tk8 10 (v := ?_) rfl (Or.inl ⟨by rfl,?_⟩) hHeld ?_
   rotate_left 1
   ·(intro w hSw;(try dsimp only at hSw);obtain ⟨e0,e1,e2⟩ := c8 hSw HQ2.out c0 c1 c2;go_simp;(try with_reducible rfl))
   try simp only [lay8]
   refine tk8 11 (v := ?_) rfl (Or.inl ⟨by rfl,?_⟩) hHeld ?_
   rotate_left 1
   ·(intro w hSw;(try dsimp only at hSw);obtain ⟨e0,e1,e2⟩ := c8 hSw HQ2.out c0 c1 c2;go_simp;(try with_reducible rfl))
   try simp only [lay8]
   refine tk8 12 (v := ?_) rfl (Or.inl ⟨by rfl,?_⟩) hHeld ?_
   rotate_left 1
   ·(intro w hSw;(try dsimp only at hSw);obtain ⟨e0,e1,e2⟩ := c8 hSw HQ2.out c0 c1 c2;go_simp;(try with_reducible rfl))
   try simp only [lay8]
   refine wpAnyH_ready (rs := [13,18]) (by kernel_rfl) (by simp) ?_
   refine AllReadyH.cons (o := _) rfl (fun K hK => ?_) ?_
   ·go_simp
    refine (HX.out u0 (HTT.out _ HB0.out)).mono ?_
    rintro e u1 ⟨v,rfl,ho,hb⟩
    obtain ⟨A,m,cA,hv⟩ : ∃ A m cA,v = .slice A m cA := by obtain ⟨A,cA,hv,-⟩ := ho.rgs;exact ⟨_,_,_,hv⟩
    subst hv
    have HB1 := Hd (HB0.out.trans (hb.mono HB0.out.size));have HS1 := Hd hb.size
    have HO1 := Hd ho;have HL1 := Hd (show ∀ g,(Value.slice A m cA).ownBlock = some g → u0.heap.size ≤ g ∧ g < u1.heap.size from fun g hg => ⟨own_ge ho g hg,(own_kind ho.1 hg).lt⟩)
    clear ho
    clear hb
    go_wp2_with fail
    refine hK.out _ _ HB1.out (fun hHeld => ?_)
    clear hK K
    try simp only [lay8]
    refine tk8 14 (v := ?_) rfl (Or.inl ⟨by rfl,?_⟩) hHeld ?_
    rotate_left 1
    ·(intro w hSw;(try dsimp only at hSw);obtain ⟨e0,e1,e2⟩ := c8 hSw HQ2.out c0 c1 c2;go_simp;(try with_reducible rfl))
    try simp only [lay8]
    refine tk8 15 (v := ?_) rfl (Or.inl ⟨by rfl,?_⟩) hHeld ?_
    rotate_left 1
    ·(intro w hSw;(try dsimp only at hSw);obtain ⟨e0,e1,e2⟩ := c8 hSw HQ2.out c0 c1 c2;go_simp;(try with_reducible rfl))
    try simp only [lay8]
    refine tk8 16 (v := ?_) rfl (Or.inl ⟨by rfl,?_⟩) hHeld ?_
    rotate_left 1
    ·(intro w hSw;(try dsimp only at hSw);obtain ⟨e0,e1,e2⟩ := c8 hSw HQ2.out c0 c1 c2;go_simp;(try with_reducible rfl))
    try simp only [lay8]
    refine tk8 17 (v := ?_) rfl (Or.inl ⟨by rfl,?_⟩) hHeld ?_
    rotate_left 1
    ·(intro w hSw;(try dsimp only at hSw);obtain ⟨e0,e1,e2⟩ := c8 hSw HQ2.out c0 c1 c2;go_simp;(try with_reducible rfl))
    try simp only [lay8]
    refine wpAnyH_ready (rs := [18]) (by kernel_rfl) (by simp) ?_
    refine AllReadyH.cons (o := _) rfl (fun K hK => ?_) ?_
    ·go_simp
     refine hK.out _ _ (HB1.out.alloc HB1.out.size _) (fun hHeld => ?_)
     clear hK K
     try simp only [lay8]
     obtain ⟨u2,hu2⟩ : ∃ x,u1.alloc (.cells #[.int .i64 0,.int .i64 0,.int .i64 0] 32) = x := ⟨_,rfl⟩
     rw [hu2] at hHeld ⊢
     have HB2 := Hd hHeld;have HS2 := Hd (show u2.heap.size = u1.heap.size + 1 by rw [← hu2];simp)
     have HX2w := Hd (show Whole u2 u1.heap.size 32 #[.int .i64 0,.int .i64 0,.int .i64 0] by rw [← hu2];exact heap_alloc_new u1 _)
     have HO2 := Hd (show OwnR u2 _ _ _ by rw [← hu2];exact HO1.out.below ((Below.refl _ u1).alloc (Nat.le_refl _) _))
     clear hu2
     refine tk8 19 (v := ?_) rfl (Or.inl ⟨by rfl,?_⟩) hHeld ?_
     rotate_left 1
     ·(intro w hSw;(try dsimp only at hSw);obtain ⟨e0,e1,e2⟩ := c8 hSw HQ2.out c0 c1 c2;go_simp;(try with_reducible rfl))
     try simp only [lay8]
     refine tk8 20 (v := ?_) rfl (Or.inl ⟨by rfl,?_⟩) hHeld ?_
     rotate_left 1
     ·(intro w hSw;(try dsimp only at hSw);obtain ⟨e0,e1,e2⟩ := c8 hSw HQ2.out c0 c1 c2;go_simp;(try with_reducible rfl))
     try simp only [lay8]
     refine wpAnyH_ready (rs := [21]) (by kernel_rfl) (by simp) ?_
     refine AllReadyH.cons (o := _) rfl (fun K hK => ?_) ?_
     ·obtain ⟨l0,l1,l2,n0,n1,n2⟩ := HX2w.out.three
      go_simp
      clear l0 l1 l2 n0 n1 n2
      refine hK.out _ _ (show Below w2.heap.size w2 (set3 u2 (u1.heap.size) (.int .i64 c) (.int .i64 a) (.int .i64 b)) from set3_below HB2.out (by have := HS0.out;have := HS1.out;have := HS2.out;omega) _ _ _) (fun hHeld => ?_)
      clear hK K
      try simp only [lay8]
      obtain ⟨u3,hu3⟩ : ∃ x,(set3 u2 (u1.heap.size) (.int .i64 c) (.int .i64 a) (.int .i64 b)) = x := ⟨_,rfl⟩
      have hHeld2 : Below w2.heap.size w2 u3 := by rw [← hu3];exact hHeld
      have HB3 := Hd hHeld2;have HS3 := Hd (show u3.heap.size = u2.heap.size by rw [← hu3];exact set3_size _ _ _ _ _)
      have HX3w := Hd (show Whole u3 (u1.heap.size) 32 #[.int .i64 c,.int .i64 a,.int .i64 b] by rw [← hu3];exact set3_whole HX2w.out _ _ _)
      have HO3 := Hd (show OwnR u3 _ _ _ by rw [← hu3];exact own_set3 HO2.out (fun g hg => by have := HL1.out g hg;have := HS0.out;have := HS1.out;have := HS2.out;omega) _ _ _)
      unfold set3 at hu3
      rw [hu3]
      clear hHeld hu3
      have hHeld := hHeld2
      clear hHeld2
      refine wpAnyH_done (by kernel_rfl) ?_ _
      go_wp2_with fail
      go_meet
      exact ⟨u1.heap.size,A,m,cA,rfl,rfl,rfl,HX3w.out,HO3.out.mono (by have := HS0.out;have := HS1.out;have := HS2.out;have := HS3.out;omega),HB3.out,by have := HS0.out;have := HS1.out;have := HS2.out;have := HS3.out;omega⟩
     exact AllReadyH.nil
    exact AllReadyH.nil
   refine AllReadyH.cons (o := _) rfl (fun K hK => ?_) ?_
   ·go_simp
    refine hK.out _ _ (HB0.out.alloc HB0.out.size _) (fun hHeld => ?_)
    clear hK K
    try simp only [lay8]
    obtain ⟨u4,hu4⟩ : ∃ x,u0.alloc (.cells #[.int .i64 0,.int .i64 0,.int .i64 0] 32) = x := ⟨_,rfl⟩
    rw [hu4] at hHeld ⊢
    have HB4 := Hd hHeld;have HS4 := Hd (show u4.heap.size = u0.heap.size + 1 by rw [← hu4];simp)
    have HX4w := Hd (show Whole u4 u0.heap.size 32 #[.int .i64 0,.int .i64 0,.int .i64 0] by rw [← hu4];exact heap_alloc_new u0 _)
    clear hu4
    refine wpAnyH_ready (rs := [13]) (by kernel_rfl) (by simp) ?_
    refine AllReadyH.cons (o := _) rfl (fun K hK => ?_) ?_
    ·go_simp
     refine (HX.out u4 (HTT.out _ HB4.out)).mono ?_
     rintro e u5 ⟨v,rfl,ho,hb⟩
     obtain ⟨A,m,cA,hv⟩ : ∃ A m cA,v = .slice A m cA := by obtain ⟨A,cA,hv,-⟩ := ho.rgs;exact ⟨_,_,_,hv⟩
     subst hv
     have HB5 := Hd (HB4.out.trans (hb.mono HB4.out.size));have HS5 := Hd hb.size
     have HX5w := Hd (HX4w.out.below hb HX4w.out.lt)
     have HO5 := Hd ho;have HL5 := Hd (show ∀ g,(Value.slice A m cA).ownBlock = some g → u4.heap.size ≤ g ∧ g < u5.heap.size from fun g hg => ⟨own_ge ho g hg,(own_kind ho.1 hg).lt⟩)
     clear ho
     clear hb
     go_wp2_with fail
     refine hK.out _ _ HB5.out (fun hHeld => ?_)
     clear hK K
     try simp only [lay8]
     refine tk8 14 (v := ?_) rfl (Or.inl ⟨by rfl,?_⟩) hHeld ?_
     rotate_left 1
     ·(intro w hSw;(try dsimp only at hSw);obtain ⟨e0,e1,e2⟩ := c8 hSw HQ2.out c0 c1 c2;go_simp;(try with_reducible rfl))
     try simp only [lay8]
     refine tk8 15 (v := ?_) rfl (Or.inl ⟨by rfl,?_⟩) hHeld ?_
     rotate_left 1
     ·(intro w hSw;(try dsimp only at hSw);obtain ⟨e0,e1,e2⟩ := c8 hSw HQ2.out c0 c1 c2;go_simp;(try with_reducible rfl))
     try simp only [lay8]
     refine tk8 16 (v := ?_) rfl (Or.inl ⟨by rfl,?_⟩) hHeld ?_
     rotate_left 1
     ·(intro w hSw;(try dsimp only at hSw);obtain ⟨e0,e1,e2⟩ := c8 hSw HQ2.out c0 c1 c2;go_simp;(try with_reducible rfl))
     try simp only [lay8]
     refine tk8 17 (v := ?_) rfl (Or.inl ⟨by rfl,?_⟩) hHeld ?_
     rotate_left 1
     ·(intro w hSw;(try dsimp only at hSw);obtain ⟨e0,e1,e2⟩ := c8 hSw HQ2.out c0 c1 c2;go_simp;(try with_reducible rfl))
     try simp only [lay8]
     refine tk8 19 (v := ?_) rfl (Or.inl ⟨by rfl,?_⟩) hHeld ?_
     rotate_left 1
     ·(intro w hSw;(try dsimp only at hSw);obtain ⟨e0,e1,e2⟩ := c8 hSw HQ2.out c0 c1 c2;go_simp;(try with_reducible rfl))
     try simp only [lay8]
     refine tk8 20 (v := ?_) rfl (Or.inl ⟨by rfl,?_⟩) hHeld ?_
     rotate_left 1
     ·(intro w hSw;(try dsimp only at hSw);obtain ⟨e0,e1,e2⟩ := c8 hSw HQ2.out c0 c1 c2;go_simp;(try with_reducible rfl))
     try simp only [lay8]
     refine wpAnyH_ready (rs := [21]) (by kernel_rfl) (by simp) ?_
     refine AllReadyH.cons (o := _) rfl (fun K hK => ?_) ?_
     ·obtain ⟨l0,l1,l2,n0,n1,n2⟩ := HX5w.out.three
      go_simp
      clear l0 l1 l2 n0 n1 n2
      refine hK.out _ _ (show Below w2.heap.size w2 (set3 u5 (u0.heap.size) (.int .i64 c) (.int .i64 a) (.int .i64 b)) from set3_below HB5.out (by have := HS0.out;have := HS4.out;have := HS5.out;omega) _ _ _) (fun hHeld => ?_)
      clear hK K
      try simp only [lay8]
      obtain ⟨u6,hu6⟩ : ∃ x,(set3 u5 (u0.heap.size) (.int .i64 c) (.int .i64 a) (.int .i64 b)) = x := ⟨_,rfl⟩
      have hHeld2 : Below w2.heap.size w2 u6 := by rw [← hu6];exact hHeld
      have HB6 := Hd hHeld2;have HS6 := Hd (show u6.heap.size = u5.heap.size by rw [← hu6];exact set3_size _ _ _ _ _)
      have HX6w := Hd (show Whole u6 (u0.heap.size) 32 #[.int .i64 c,.int .i64 a,.int .i64 b] by rw [← hu6];exact set3_whole HX5w.out _ _ _)
      have HO6 := Hd (show OwnR u6 _ _ _ by rw [← hu6];exact own_set3 HO5.out (fun g hg => by have := HL5.out g hg;have := HS0.out;have := HS4.out;have := HS5.out;omega) _ _ _)
      unfold set3 at hu6
      rw [hu6]
      clear hHeld hu6
      have hHeld := hHeld2
      clear hHeld2
      refine wpAnyH_done (by kernel_rfl) ?_ _
      go_wp2_with fail
      go_meet
      exact ⟨u0.heap.size,A,m,cA,rfl,rfl,rfl,HX6w.out,HO6.out.mono (by have := HS0.out;have := HS4.out;have := HS5.out;have := HS6.out;omega),HB6.out,by have := HS0.out;have := HS4.out;have := HS5.out;have := HS6.out;omega⟩
     exact AllReadyH.nil
    exact AllReadyH.nil
   exact AllReadyH.nil
  case rest =>
   obtain ⟨bx,A,m,cA,rfl,rfl,rfl,hW,ho,hb,-⟩ := hcut
   revert hW ho hb
   generalize wc = w3
   intro hW ho hb
   have HK3 := Hd (Tk.of_below HST2.out.rd hb);have HO3 := Hd ho;have HWT3 := Hd (HWT2.out.below hb);have HSZ3 := Hd hb.size
   obtain ⟨l0,l1,l2,n0,n1,n3⟩ := hW.three
   clear hW ho hb c0 c1 c2 n0 n1 n3 HX
   rcases HREL.out with ⟨a',b',hn,hc0,rfl,rfl⟩ | ⟨n',hn,rfl,rfl,rfl,rfl,g1,g2,g3⟩
   ·have HRX := Hd hn;have HC0 := Hd hc0
    clear hn hc0 HREL
    go_wp2_with fail
    refine (pypass_bad q n2 c a' b' HC0.out w3).mono ?_
    rintro e w4 ⟨he,hb4⟩
    unfold thrown at he
    subst he
    have HX := Hd (HWT3.out.below hb4).steps
    clear hb4
    go_wp2
    refine ⟨rfl,?_⟩
    rw [HRX.out]
    exact ⟨.inl rfl,HX.out⟩
   ·have HRX := Hd hn;have HG3 := Hd g3
    clear hn HREL g1 g2 g3
    go_wp2_with fail
    refine (pypass_ok q f s i n' nv w3 HK3.out.2).mono ?_
    rintro e w4 ⟨rfl,ht⟩
    have HWT4 := Hd (HWT3.out.took ht)
    have HO4 := Hd (show OwnR w4 w2.heap.size (.slice A m cA) L from ⟨own_other HO3.out.1 fun b hb => ht.1.block b (own_kind HO3.out.1 hb).lt (fun e => by have := own_ge HO3.out b hb;have := HQ2.out;have := Option.some.inj e;omega),HO3.out.2⟩)
    clear ht l0 l1 l2
    have HOF := Hd (pyofSet_any (.slice A m cA) L w4 HO4.out.rgs (by have := HG3.out;omega) (fun k => w2.heap.size ≤ k) (fun b hb => own_ge HO4.out b hb))
    go_wp2_with fail
    refine HOF.out.mono ?_
    rintro e w5 ⟨v5,rfl,ht5,hb5⟩
    obtain ⟨kv,sv,rfl,⟨y1,y2,y3,rfl⟩,⟨y4,y5,y6,rfl⟩⟩ := ht5.ten
    have HP := Hd (atoms_one (HWT4.out.below hb5) (fresh_fr HH.out (ht5.same (fun _ _ _ => rfl) fun b hb _ => Nat.le_trans HB1.out.size hb)))
    clear ht5 hb5 HOF
    go_wp2_with fail
    go_ret
    rw [HRX.out]
    exact HP.out
 have b1 : ((s[i].toNat : Int) == 91) = false := eq_false_of (fun e => h91 (HHE.out.trans e))
 by_cases h92 : headI (leftB s i) = 92
 ·have b2 : ((s[i].toNat : Int) == 92) = true := eq_true_of (HHE.out.symm.trans h92)
  have HR : Hid (escapedY s i f ns = R) := Hd (by rw [← HRR.out,atomsY,if_neg h40,if_neg h91,if_pos h92])
  clear h40 h91 h92
  have HES := Hd (fun W (h1 : SrSt W B q f s i nv ns) h2 h3 => pyescape_any B q f s i nv ns W (by have := HS.out;omega) hlt h1 h2 h3 hqB)
  rw [HR.out] at HES
  go_enter Tryz.func29,Tryz.ntmps29
  go_wp2_with fail
  go_big_quiet (fail)
  have HB1 := Hd (drewN_below w nq)
  generalize w.drewN nq = w2 at HB1 ⊢
  have HPP := Hd (HES.out w2 (HH.out.took (Tk.of_below HH.out.rd HB1.out)) (HT.out.below hB HB1.out) (Nat.le_trans hB HB1.out.size))
  clear c0 c1 c2 HES
  go_wp2_with fail
  refine HPP.out.mono ?_
  intro e w3 hp
  have HP := Hd (AtomsPost.from (Went.of_took HH.out (Tk.of_below HH.out.rd HB1.out)) hp)
  cases R with
  | bad c a b =>
   obtain ⟨he,-⟩ := hp
   rcases he with he | ⟨-,-,he⟩
   ·unfold thrown at he
    subst he
    go_wp2
    exact ⟨rfl,HP.out⟩
   ·unfold thrown at he
    subst he
    go_wp2
    exact ⟨rfl,HP.out⟩
  | ok l i2 f2 ns2 =>
   obtain ⟨v,nv',rfl,hk,-⟩ := hp
   obtain ⟨A3,c3,hv,-⟩ := hk
   subst hv
   obtain ⟨m,hm⟩ : ∃ m,l.length = m := ⟨_,rfl⟩
   rw [hm] at HP ⊢
   clear hm
   go_wp2_with fail
   go_ret
   exact HP.out
 ·have b2 : ((s[i].toNat : Int) == 92) = false := eq_false_of (fun e => h92 (HHE.out.trans e))
  have hR : plainY s i f ns = R := by rw [← HRR.out,atomsY,if_neg h40,if_neg h91,if_neg h92]
  rw [plain_meant] at hR
  have hw := decode_width s i hlt
  have hD := fun W (h : Below w.heap.size w W) => pdec_any s i W (Nat.le_of_lt hlt) (HT.out.below hB h).now.utf8
  rw [show runeP s i = Utf8.decode s i from if_pos hlt] at hD
  have hcr := Lib.rune_le s i
  obtain ⟨⟨c,z⟩,hcz⟩ : ∃ x,Utf8.decode s i = x := ⟨_,rfl⟩
  rw [hcz] at hR hw hD hcr
  simp only at hR hw hD hcr
  have y2 : (i : Int) ≤ (s.size : Int) := by omega
  have y3 : IntKind.i64.wrap ((i : Int) + (z : Int)) = (i : Int) + (z : Int) := wrap_in _ (by have := HS.out;omega)
  have HR := Hd hR;have HD := Hd hD;have HCR := Hd (show I32 (c : Int) by unfold I32;omega)
  clear h40 h91 h92 hR hw hD hcr hcz
  go_enter Tryz.func29,Tryz.ntmps29
  go_wp2_with fail
  go_big_quiet (fail)
  have HB1 := Hd (drewN_below w nq)
  generalize w.drewN nq = w2 at HB1 ⊢
  clear c0 c1 c2
  obtain ⟨c0,c1,c2,c3⟩ := (HH.out.rd.below HB1.out).cells
  clear c0 c3
  go_wp2_with fail
  go_region_with (go_at_call 46;refine (HD.out _ (HB1.out.trans ((Below.refl _ w2).drew.mono HB1.out.size))).mono ?_;rintro e w3 ⟨rfl,hb3⟩)
  all_goals
   have HK3 := Hd ((Tk.of_below HH.out.rd HB1.out).below hb3.of_drew)
   clear c1 c2 hb3
   obtain ⟨c0,c1,c2,c3⟩ := HK3.out.2.cells
   obtain ⟨f0,f2,f3⟩ := HK3.out.2.frees
   clear c0 c1 c3 f0 f3
   obtain ⟨w4,hw4⟩ : ∃ w4,w3.setCell ⟨q,2,none⟩ (.int .i64 ((i : Int) + (z : Int))) = w4 := ⟨_,rfl⟩
   have hK4 : Tk q f s (i + z) nv w w4 := by rw [← hw4];exact HK3.out.putJ (i + z) _ rfl
   have HK4 := Hd hK4;have HW4 := Hd hw4
   clear hK4 hw4
   go_upto_region 12 with (fail)
   rw [HW4.out]
   clear c2 f2
   obtain ⟨c0,c1,c2,c3⟩ := HK4.out.2.cells
   clear c1 c2 c3
   have HM := Hd (pymeant_any f c HCR.out w4 ((HT.out.next (HK4.out.belowB hB hqB)).now.1.2))
   go_wp2_with fail
   refine HM.out.mono ?_
   rintro e w5 ⟨v5,rfl,ht5,hb5⟩
   obtain ⟨kv,sv,rfl,⟨x1,x2,x3,rfl⟩,⟨x4,x5,x6,rfl⟩⟩ := ht5.ten
   have HP := Hd (atoms_one ((Went.of_took HH.out HK4.out).below hb5) (fresh_fr HH.out (ht5.same (fun _ _ _ => rfl) fun b hb _ => Nat.le_trans HK4.out.size hb)))
   clear ht5 hb5 HM
   go_wp2_with fail
   go_ret
   rw [← HR.out]
   exact HP.out
def AtomsAt (B q : Nat) (s : ByteArray) (n i : Nat) : Prop := ∀ (f : Int) (ns : List (List UInt8)) (nv : Value) (w : World),FlagsIn f → ns.length ≤ i → SrSt w B q f s i nv ns → TabB B w → B ≤ w.heap.size → B ≤ q →
 Calls Tryz.prog 29 #[.pointer (some ⟨q,0,none⟩)] w (AtomsPost B q s nv (atomsY s n i f ns) w)
def OnePartAt (B q : Nat) (s : ByteArray) (n i : Nat) : Prop := ∀ (f : Int) (ns : List (List UInt8)) (nv : Value) (w : World),FlagsIn f → ns.length ≤ i → SrSt w B q f s i nv ns → TabB B w → B ≤ w.heap.size → B ≤ q →
 Calls Tryz.prog 20 #[.pointer (some ⟨q,0,none⟩)] w (TreePost B q s nv catY (partY s n i f ns []) w)
def jOf (W : World) (q : Nat) : Nat := match W.cell? ⟨q,2,none⟩ with
 | some (.int _ x) => x.toNat
 | _ => 0
theorem jOf_eq {W : World} {q : Nat} {f : Int} {s : ByteArray} {j : Nat} {nv : Value} (h : SrIn W q f s j nv) : jOf W q = j := by
 unfold jOf
 rw [h.cells.2.2.1]
 simp
theorem only_of_bad {q : Nat} {f : Int} {s : ByteArray} {j k : Nat} {nv : Value} {atom : Bool} {c a b x : Int} {y z : Nat} {w w' : World} {e : Ending} (hz : (if atom = false then some (82,j,k) else onlyY s j f c a b k) = some (x,y,z)) (h : OnlyPost q f s j nv atom (some (c,a,b,k)) w e w') : e = thrown (.iface 32 (wrongV x y z)) ∧ w.grownBy w' (some q) := by
 unfold OnlyPost at h
 dsimp only at h
 rwa [hz] at h
theorem only_of_ok {q : Nat} {f : Int} {s : ByteArray} {j k k2 : Nat} {nv V : Value} {c a b : Int} {w w' : World} {e : Ending} (hz : onlyY s j f c a b k = none) (hv : timesV c a b (lazyY s k f != flagY f 16) = V) (hk : (if lazyY s k f = true then k + 1 else k) = k2) (h : OnlyPost q f s j nv true (some (c,a,b,k)) w e w') : e = .returned (.tuple #[V,.bool true]) ∧ Tk q f s k2 nv w w' := by
 unfold OnlyPost at h
 dsimp only at h
 rw [if_neg (by simp),hz,hv,hk] at h
 exact h
theorem own_some {F : Nat → Prop} {w : World} {B n c : Nat} {va : Option Addr} {T : List Tr} (h : OwnT F w B (.slice va n c) T) (h0 : T ≠ []) : ∃ g,va = some ⟨g,0,none⟩ ∧ B ≤ g ∧ Kind w g 29 := by
 obtain ⟨L,hl,ho,ht⟩ := h
 rcases own_slice10 ho with ⟨h,h1⟩ | ⟨g,c',h,-,-,hg⟩
 ·exact absurd (List.eq_nil_of_length_eq_zero h1) h0
 ·injection h with h1 h2 h3
  subst h1
  exact ⟨g,rfl,hg,own_kind ho rfl⟩
theorem only_sized {s : ByteArray} {j k : Nat} {f c a b : Int} (h : onlyY s j f c a b k = none) : sizedY c a b = true := by
 unfold onlyY at h
 split at h
 ·cases h
 ·rename_i h1
  cases hz : sizedY c a b with
  | true => rfl
  | false => exact absurd hz h1
theorem OwnT.now {F : Nat → Prop} {w : World} {B : Nat} {v : Value} {T : List Tr} (h : OwnT F w B v T) : OwnT (fun b => F b ∧ b < w.heap.size) w B v T := by
 obtain ⟨L,hl,ho,ht⟩ := h
 exact ⟨L,hl,ho,fun i h h' => (ht i h h').same (fun _ _ _ => rfl) fun b hb hlt => ⟨hb.1,hb.2,hlt⟩⟩
theorem OwnT.wider {F G : Nat → Prop} {w : World} {B : Nat} {v : Value} {T : List Tr} (h : OwnT F w B v T) (hFG : ∀ b,F b → G b) : OwnT G w B v T := by
 obtain ⟨L,hl,ho,ht⟩ := h
 exact ⟨L,hl,ho,fun i h h' => (ht i h h').same (fun _ _ _ => rfl) fun b hb _ => ⟨hb.1,hFG b hb.2⟩⟩
theorem OwnT.else {F : Nat → Prop} {w w' : World} {B it : Nat} {v : Value} {T : List Tr} (h : OwnT F w B v T) (hg : ∀ k,k ≠ it → w'.heap[k]? = w.heap[k]?) (hv : v.ownBlock ≠ some it) (hF : ∀ b,F b → b ≠ it) : OwnT F w' B v T := by
 obtain ⟨L,hl,ho,ht⟩ := h
 exact ⟨L,hl,own_other ho fun b hb => hg b (fun e => hv (by rw [← e];exact hb)),fun i h h' => (ht i h h').same (fun b hb _ => hg b (hF b hb.2)) fun b hb _ => hb⟩
theorem Went.grownRow {B q : Nat} {s : ByteArray} {nv nv1 : Value} {w w1 w2 : World} {f : Int} {j : Nat} {ns : List (List UInt8)} {row : Option Nat} (h : Went B q s nv w w1 f j ns nv1) (hg : w1.grownBy w2 row) (hr : ∀ b,row = some b → Fr q nv1 b ∧ w.heap.size ≤ b) : Went B q s nv w w2 f j ns nv1 := by
 refine ⟨⟨Whole.grown h.st.rd hg (fun e => (hr q e).1.1 rfl),own_other h.st.own fun k hk => hg.block k (own_kind h.st.own hk).lt (fun e => (hr k e.symm).1.2 hk)⟩,⟨hg.os.trans h.steps.os,hg.tape.trans h.steps.tape,hg.output.trans h.steps.output,Nat.le_trans h.steps.size hg.size,fun k hk hq hn => (hg.block k (Nat.lt_of_lt_of_le hk h.steps.size) (fun e => by have := (hr k e.symm).2;omega)).trans (h.steps.block k hk hq hn)⟩,h.spot⟩
def OnePartRel (B q : Nat) (s : ByteArray) (i : Nat) (nv : Value) (R : PR) (w : World) (vs : Value) (wr : World) : Prop :=
 ∃ (j m : Nat) (f : Int) (ns : List (List UInt8)) (nv' : Value) (T : List Tr) (va : Option Addr) (vn vc : Nat),vs = .slice va vn vc ∧ OwnT (fun b => w.heap.size + 1 ≤ b ∧ Fr q nv' b) wr (w.heap.size + 1) (.slice va vn vc) T ∧
  Went B q s nv w wr f j ns nv' ∧ Whole wr w.heap.size 29 #[.int .i64 0,.slice none 0 0,.int .i32 0,.slice none 0 0,.int .i64 0,.int .i64 0,.string ⟨#[]⟩,.int .i64 0,.int .i64 0,.bool false] ∧ partY s m j f ns T = R ∧ 3 * (s.size - j) + 2 ≤ m ∧ i ≤ j ∧ j ≤ s.size ∧ FlagsIn f ∧ ns.length ≤ j ∧ T.length ≤ j - i
theorem row_kds {B q lo : Nat} {f : Int} {s : ByteArray} {j : Nat} {nv v : Value} {ns : List (List UInt8)} {w : World} {T : List Tr} (h : OwnT (fun b => lo ≤ b ∧ Fr q nv b) w lo v T) (hst : SrSt w B q f s j nv ns) (hn : T.length ≤ 1172812402961) : KdsF (fun b => (lo ≤ b ∧ Fr q nv b) ∧ b < w.heap.size) w T v := by
 have hk : ∀ b,v.ownBlock = some b → Kind w b 29 ∧ lo ≤ b := fun b hb => by
  obtain ⟨L,hl,ho,ht⟩ := h
  exact ⟨own_kind ho hb,(ho.lt b hb).1⟩
 have h1 := h.kdsG (G := fun b => lo ≤ b ∧ Fr q nv b) hn (fun b hb => ⟨(hk b hb).2,hst.fr (hk b hb).1 (by decide) (by decide)⟩) fun b hb => hb
 exact h1.same (fun _ _ _ => rfl) fun b hb hl => ⟨hb,hl⟩
theorem part_end {s : ByteArray} {m j : Nat} {f : Int} {ns : List (List UInt8)} {T : List Tr} (h : endsY s j = true) : partY s (m + 1) j f ns T = .ok T j f ns := by
 rw [partY,if_pos (of_decide_eq_true h)]
theorem part_atoms {s : ByteArray} {m j : Nat} {f : Int} {ns : List (List UInt8)} {T : List Tr} (h : endsY s j = false) (hr : repY s j = none) : partY s (m + 1) j f ns T = match atomsY s m j f ns with
  | .bad c a b => .bad c a b
  | .ok xs i2 f2 ns2 => partY s m i2 f2 ns2 (T ++ xs) := by
 rw [partY,if_neg (of_decide_eq_false h),hr]
 rfl
theorem part_rep {s : ByteArray} {m j : Nat} {f : Int} {ns : List (List UInt8)} {T : List Tr} {c a b : Int} {k : Nat} (h : endsY s j = false) (hr : repY s j = some (c,a,b,k)) : partY s (m + 1) j f ns T = match T.getLast? with
  | none => .bad 82 j k
  | some x => match onlyY s j f c a b k with
   | some (x,y,z) => .bad x y z
   | none => partY s m (if lazyY s k f = true then k + 1 else k) f ns (T.dropLast ++ [repeatedY c a b (lazyY s k f != flagY f 16) x]) := by
 rw [partY,if_neg (of_decide_eq_false h),hr]
 simp only
 cases T.getLast? with
 | none => rfl
 | some x =>
  simp only
  rw [repeat_only]
  cases onlyY s j f c a b k with
  | none => rfl
  | some r =>
   obtain ⟨x,y,z⟩ := r
   rfl
theorem pypart_any (B q : Nat) (s : ByteArray) (n i : Nat) (hs : s.size ≤ 1024) (hi : i ≤ s.size) (hn : 3 * (s.size - i) + 2 ≤ n) (hA : ∀ m j,i ≤ j → j < s.size → 3 * (s.size - j) + 1 ≤ m → AtomsAt B q s m j) : OnePartAt B q s n i := by
 intro f ns nv w hf hnl h hT hB hqB
 obtain ⟨R,hR⟩ : ∃ R,partY s n i f ns [] = R := ⟨_,rfl⟩
 rw [hR]
 obtain ⟨w1,hw1⟩ : ∃ w1,w.alloc (.cells #[.int .i64 0,.slice none 0 0,.int .i32 0,.slice none 0 0,.int .i64 0,.int .i64 0,.string ⟨#[]⟩,.int .i64 0,.int .i64 0,.bool false] 29) = w1 := ⟨_,rfl⟩
 obtain ⟨hE1,hb1,hs1⟩ := box_tree w #[.int .i64 0,.slice none 0 0,.int .i32 0,.slice none 0 0,.int .i64 0,.int .i64 0,.string ⟨#[]⟩,.int .i64 0,.int .i64 0,.bool false]
 rw [hw1] at hE1 hb1 hs1
 have HW1 := Hd hw1;have HE1 := Hd hE1;have HS1 := Hd hs1;have HWT1 := Hd (Went.of_took h (Tk.of_below h.rd hb1));have HH := Hd h;have HT := Hd hT;have HF := Hd hf;have HNL := Hd hnl;have HS := Hd hs;have HI := Hd hi;have HN := Hd hn;have HA := Hd hA;have HR := Hd hR;have HQ := Hd h.rd.lt
 clear hw1 hE1 hb1 hs1 h hT hf hnl hs hi hn hA hR
 go_enter Tryz.func20,Tryz.ntmps20
 go_upto_region 1 with (fail)
 rw [HW1.out]
 go_wp2_with fail
 go_loopw [3] (fun vs wr => OnePartRel B q s i nv R w vs wr) (fun _ wr => s.size - jOf wr q)
 case atStart =>
  exact ⟨i,n,f,ns,nv,[],none,0,0,rfl,ownT_none _ _ _,HWT1.out,HE1.out,HR.out,HN.out,Nat.le_refl _,HI.out,HF.out,HNL.out,Nat.zero_le _⟩
 case round =>
  obtain ⟨j,m,f',ns',nv',T,va,vn,vc,rfl,ho,hw,hE,hR,hm,hij,hj,hf',hnl,hTl⟩ := hrel
  have hvn := ho.len
  have HO := Hd ho;have HW := Hd hw;have HE := Hd hE;have HRR := Hd hR;have HM := Hd hm;have HIJ := Hd hij;have HJ := Hd hj;have HFF := Hd hf';have HNN := Hd hnl;have HTL := Hd hTl;have HVN := Hd hvn
  have HJO := Hd (jOf_eq hw.st.rd)
  clear ho hw hE hR hm hij hj hf' hnl hTl hvn
  have HEN := Hd (pyends_any q f' s j nv' wr HJ.out HW.out.st.rd)
  obtain ⟨E,hE⟩ : ∃ E,endsY s j = E := ⟨_,rfl⟩
  rw [hE] at HEN
  have HEE := Hd hE
  clear hE
  go_wp2_with fail
  refine HEN.out.mono ?_
  rintro e w2 ⟨rfl,k0,rfl⟩
  have HB2 := Hd (drewN_below wr k0)
  generalize wr.drewN k0 = w2 at HB2 ⊢
  have HO2 := Hd (HO.out.below HB2.out);have HW2 := Hd (HW.out.below HB2.out);have HE2 := Hd (HE.out.below HB2.out HE.out.lt)
  clear HEN
  obtain ⟨m,rfl⟩ : ∃ m',m = m' + 1 := ⟨m - 1,by have := HM.out;omega⟩
  cases E with
  | true =>
   have HX : Hid (R = .ok T j f' ns') := Hd (HRR.out.symm.trans (part_end HEE.out))
   have HJN := Hd (pyjoined_any 11 (by decide) _ T w2 (fun b => (w.heap.size + 1 ≤ b ∧ Fr q nv' b) ∧ b < w2.heap.size) (fun b hb => hb.2) (row_kds HO2.out HW2.out.st (by have := HTL.out;have := HS.out;have := HJ.out;omega)))
   rw [join_cat] at HJN
   obtain ⟨t,ht⟩ : ∃ t,catY T = t := ⟨_,rfl⟩
   rw [ht] at HJN
   have HTT := Hd ht
   clear ht
   go_wp2_with fail
   refine HJN.out.mono ?_
   rintro e w3 ⟨v3,rfl,ht3,hb3⟩
   obtain ⟨kv,sv,rfl,⟨y1,y2,y3,rfl⟩,⟨y4,y5,y6,rfl⟩⟩ := ht3.ten
   have HT3 := Hd ht3;have HW3 := Hd (HW2.out.below hb3);have HE3 := Hd (HE2.out.below hb3 HE2.out.lt)
   clear ht3 hb3 HJN
   obtain ⟨r0,r1,r2,r3,r4,r5,r6,r7,r8,r9⟩ := HE3.out.ten
   obtain ⟨z0,z1,z2,z3,z4,z5,z6,z7,z8,z9⟩ := whole_free HE3.out
   go_wp2_with fail
   refine treeV_ret Tryz.results20 w.heap.size rfl HE3.out ?_
   rw [HX.out]
   refine ⟨_,nv',rfl,?_,HW3.out.setTen (Nat.le_refl _) (HW3.out.st.fr (Whole.kind HE3.out) (by decide) (by decide)) _ _ _ _ _ _ _ _ _ _⟩
   rw [HTT.out]
   exact (treF_set10 HT3.out (fun k hk => by have := hk.1.1;omega) _ _ _ _ _ _ _ _ _ _).same (fun _ _ _ => rfl) fun k hk _ => ⟨by have := hk.1.1;omega,hk.1.2⟩
  | false =>
   have hlt : j < s.size := by
    have := of_decide_eq_false HEE.out
    have := HJ.out
    omega
   have HLT := Hd hlt
   clear hlt
   obtain ⟨at',hat⟩ : ∃ b,decide (0 < vn) = b := ⟨_,rfl⟩
   have HON := Hd (pyonly_any q f' s j nv' at' w2 (by have := HS.out;omega) HJ.out HW2.out.st.rd)
   obtain ⟨Ow,hrep⟩ : ∃ o,repY s j = o := ⟨_,rfl⟩
   rw [hrep] at HON
   cases Ow with
   | none =>
    have HX := Hd (HRR.out.symm.trans (part_atoms HEE.out hrep))
    clear hrep
    go_wp2_with fail
    refine HON.out.mono ?_
    rintro e w3 ⟨he,ht⟩
    unfold treZero at he
    subst he
    have HO3 := Hd (HO2.out.went HW2.out.st (Steps.of_grown ht.1) .refl);have HW3 := Hd (HW2.out.took ht);have HE3 := Hd (ht.whole HE2.out (by have := HQ.out;omega))
    clear ht HON hat
    obtain ⟨w4,hw4⟩ : ∃ w4,w3.alloc (.cells #[.int .i64 0,.slice none 0 0,.int .i32 0,.slice none 0 0,.int .i64 0,.int .i64 0,.string ⟨#[]⟩,.int .i64 0,.int .i64 0,.bool false] 29) = w4 := ⟨_,rfl⟩
    have hb4 : Below w3.heap.size w3 w4 := by rw [← hw4];exact (Below.refl _ _).alloc (Nat.le_refl _) _
    have HW4 := Hd hw4;have HO4 := Hd (HO3.out.below hb4);have HWT4 := Hd (HW3.out.below hb4);have HE4 := Hd (HE3.out.below hb4 HE3.out.lt)
    clear hw4 hb4
    go_upto_region 4 with (fail)
    rw [HW4.out]
    have HAT := Hd (HA.out m j HIJ.out HLT.out (by have := HM.out;omega) f' ns' nv' w4 HFF.out HNN.out HWT4.out.st (HT.out.next (HWT4.out.belowB HH.out hB hqB)) (Nat.le_trans hB HWT4.out.steps.size) hqB)
    obtain ⟨Q,hQ⟩ : ∃ Q,atomsY s m j f' ns' = Q := ⟨_,rfl⟩
    have hmore := (read_more s m).2.2 j f' ns' HLT.out HFF.out
    rw [hQ] at HAT HX hmore
    clear hQ
    go_wp2_with fail
    refine HAT.out.mono ?_
    intro e w5 hp
    cases Q with
    | bad c a b =>
     have HRX : Hid (R = .bad c a b) := Hd HX.out
     have hp2 := AtomsPost.from HWT4.out hp
     obtain ⟨he,hst⟩ := hp2
     have HY := Hd hst
     clear hp hst hmore
     rcases he with he | ⟨ha,hb,he⟩
     ·unfold thrown at he
      subst he
      go_wp2
      refine ⟨rfl,?_⟩
      rw [HRX.out]
      exact ⟨.inl rfl,HY.out⟩
     ·have HAB := Hd (And.intro ha hb)
      clear ha hb
      unfold thrown at he
      subst he
      go_wp2
      refine ⟨rfl,?_⟩
      rw [HRX.out]
      exact ⟨.inr ⟨HAB.out.1,HAB.out.2,rfl⟩,HY.out⟩
    | ok xs i2 f2 ns2 =>
     obtain ⟨m1,m2,m3,m4,m5,m6⟩ := hmore
     obtain ⟨v5,nv2,rfl,hk5,hw5⟩ := hp
     have HO5 := Hd (HO4.out.went HWT4.out.st hw5.steps hw5.spot)
     have HK5 := Hd (hk5.mono (G := fun b => Off (.slice va vn vc) b ∧ (w.heap.size + 1 ≤ b ∧ Fr q nv2 b)) fun b hb _ => ⟨HO4.out.off b hb.1,by have := hb.1;have := HE4.out.lt;omega,hb.2⟩)
     have HWT5 := Hd (HWT4.out.trans hw5);have HE5 := Hd (hw5.steps.whole HE4.out (HWT4.out.st.fr (Whole.kind HE4.out) (by decide) (by decide)))
     have HM1 := Hd m1;have HM2 := Hd m2;have HM3 := Hd m3;have HM5 := Hd m5;have HM6 := Hd m6
     obtain ⟨A5,c5,hv5,-⟩ := hk5
     subst hv5
     clear hw5 m1 m2 m3 m4 m5 m6 HAT
     obtain ⟨z5,hz5⟩ : ∃ z,xs.length = z := ⟨_,rfl⟩
     rw [hz5] at HK5 ⊢
     have HZ5 := Hd hz5
     clear hz5
     go_wp2_with (at_builtin;refine append_trs rfl (.tmp 20) (.tmp 22) rfl (fun b => w.heap.size + 1 ≤ b ∧ Fr q nv2 b) (w.heap.size + 1) _ T rfl HO5.out A5 z5 c5 xs rfl HK5.out (by have := HTL.out;have := HS.out;have := HM6.out;have := HM2.out;have := HJ.out;omega) (by have := HE5.out.lt;omega) ?_;intro v6 w6 ho6 hg6 hat6;obtain ⟨x1,x2,x3,rfl⟩ := ho6.slice;have HO6 := Hd ho6;have HG6 := Hd hg6;clear ho6 hg6 hat6)
     have hk6 : ∀ b,(Value.slice va vn vc).ownBlock = some b → Kind w5 b 29 ∧ w.heap.size + 1 ≤ b := fun b hb => by
      obtain ⟨L,hl,ho,ht⟩ := HO5.out
      exact ⟨own_kind ho hb,(ho.lt b hb).1⟩
     have HWT6 : Hid (Went B q s nv w w6 f2 i2 ns2 nv2) := Hd (HWT5.out.grownRow HG6.out (fun b hb => ⟨HWT5.out.st.fr (hk6 b hb).1 (by decide) (by decide),Nat.le_of_lt (hk6 b hb).2⟩))
     have HE6 := Hd (Whole.grown HE5.out HG6.out (fun e => by have := (hk6 _ e).2;omega))
     clear hk6
     go_roundw
     case rel =>
      exact ⟨i2,m,f2,ns2,nv2,T ++ xs,_,_,_,rfl,HO6.out,HWT6.out,HE6.out,HX.out.symm,by have := HM.out;have := HM1.out;have := HM2.out;omega,by have := HIJ.out;have := HM1.out;omega,HM2.out,HM3.out,by have := HNN.out;have := HM5.out;have := HM1.out;omega,by rw [List.length_append];have := HTL.out;have := HM6.out;have := HIJ.out;have := HM1.out;omega⟩
     case measure =>
      rw [jOf_eq HWT6.out.st.rd,HJO.out]
      have := HM1.out;have := HM2.out
      omega
   | some r =>
    obtain ⟨c,a,b,k⟩ := r
    have hX := HRR.out.symm.trans (part_rep HEE.out hrep)
    obtain ⟨g1,g2,-⟩ := rep_ok hrep
    by_cases hT0 : T = []
    ·have hat0 : at' = false := by
      rw [← hat]
      refine decide_eq_false ?_
      have := HVN.out
      rw [hT0] at this
      simp at this
      omega
     subst hat0
     have HX : Hid (R = .bad 82 j k) := Hd (by rw [hX,hT0];rfl)
     clear hrep hX hT0 g1 g2
     go_wp2_with fail
     refine HON.out.mono ?_
     intro e w3 hp
     obtain ⟨he,hg⟩ := only_of_bad (if_pos rfl) hp
     unfold thrown at he
     subst he
     have HY := Hd (HW2.out.steps.trans HW2.out.spot (Steps.of_grown hg))
     clear hg hp
     go_wp2
     refine ⟨rfl,?_⟩
     rw [HX.out]
     exact ⟨.inl rfl,HY.out⟩
    have hat0 : at' = true := by
     rw [← hat]
     refine decide_eq_true ?_
     have := HVN.out
     have := List.length_pos_iff.2 hT0
     omega
    subst hat0
    obtain ⟨T0,x,rfl⟩ : ∃ T0 x,T = T0 ++ [x] := ⟨T.dropLast,T.getLast hT0,(List.dropLast_concat_getLast hT0).symm⟩
    rw [List.getLast?_concat,List.dropLast_concat] at hX
    simp only at hX
    cases hoy : onlyY s j f' c a b k with
    | some r2 =>
     obtain ⟨y1,y2,y3⟩ := r2
     have HX : Hid (R = .bad y1 y2 y3) := Hd (by rw [hX,hoy])
     have HOY := Hd hoy
     clear hrep hX hoy hT0 g1 g2
     go_wp2_with fail
     refine HON.out.mono ?_
     intro e w3 hp
     obtain ⟨he,hg⟩ := only_of_bad ((if_neg (by decide)).trans HOY.out) hp
     unfold thrown at he
     subst he
     have HY := Hd (HW2.out.steps.trans HW2.out.spot (Steps.of_grown hg))
     clear hg hp
     go_wp2
     refine ⟨rfl,?_⟩
     rw [HX.out]
     exact ⟨.inl rfl,HY.out⟩
    | none =>
     obtain ⟨lz,hlz⟩ : ∃ b,(lazyY s k f' != flagY f' 16) = b := ⟨_,rfl⟩
     obtain ⟨k2,hk2⟩ : ∃ x,(if lazyY s k f' = true then k + 1 else k) = x := ⟨_,rfl⟩
     have hk2s : j < k2 ∧ k2 ≤ s.size := by
      rw [← hk2]
      split
      ·rename_i h
       exact ⟨by omega,lazy_in h⟩
      ·exact ⟨g1,g2⟩
     have HX : Hid (R = partY s m k2 f' ns' (T0 ++ [repeatedY c a b lz x])) := Hd (by rw [hX,hoy];simp only;rw [hlz,hk2])
     obtain ⟨op,hop⟩ : ∃ o,opY c = o := ⟨_,rfl⟩
     obtain ⟨mi,hmi⟩ : ∃ o,(if c = 123 then a else 0) = o := ⟨_,rfl⟩
     obtain ⟨ma,hma⟩ : ∃ o,(if c = 123 then b else 0) = o := ⟨_,rfl⟩
     have HV : Hid (timesV c a b (lazyY s k f' != flagY f' 16) = .agg #[.int .i64 op,.slice none 0 0,.int .i32 0,.slice none 0 0,.int .i64 0,.int .i64 0,.string ⟨#[]⟩,.int .i64 mi,.int .i64 ma,.bool lz]) := Hd (by unfold timesV;rw [hop,hmi,hma,hlz])
     have HOY := Hd hoy;have HK2 := Hd hk2;have HK2S := Hd hk2s
     have HREP := Hd (And.intro hop (And.intro hmi hma));have HRP := Hd hrep
     obtain ⟨g,rfl,hg0,hgk⟩ := own_some HO2.out hT0
     have HG0 := Hd hg0
     obtain ⟨p,hp0⟩ : ∃ p,T0.length = p := ⟨_,rfl⟩
     have hvp : vn = p + 1 := by have := HVN.out;rw [List.length_append,List.length_singleton] at this;omega
     subst hvp
     have HP0 := Hd hp0
     clear hrep hX hoy hT0 g1 g2 hlz hk2 hk2s hop hmi hma hp0 hg0 hgk hat
     go_wp2_with fail
     refine HON.out.mono ?_
     intro e w3 hp
     obtain ⟨he,ht⟩ := only_of_ok HOY.out HV.out HK2.out hp
     subst he
     have HO3 := Hd (HO2.out.went HW2.out.st (Steps.of_grown ht.1) .refl);have HW3 := Hd (HW2.out.took ht);have HE3 := Hd (ht.whole HE2.out (by have := HQ.out;omega))
     clear ht HON hp
     obtain ⟨w4,hw4⟩ : ∃ w4,w3.alloc (.cells #[.int .i64 op,.slice none 0 0,.int .i32 0,.slice none 0 0,.int .i64 0,.int .i64 0,.string ⟨#[]⟩,.int .i64 mi,.int .i64 ma,.bool lz] 29) = w4 := ⟨_,rfl⟩
     obtain ⟨hX4,hb4,hs4⟩ := box_tree w3 #[.int .i64 op,.slice none 0 0,.int .i32 0,.slice none 0 0,.int .i64 0,.int .i64 0,.string ⟨#[]⟩,.int .i64 mi,.int .i64 ma,.bool lz]
     rw [hw4] at hX4 hb4 hs4
     have HW4 := Hd hw4;have HX4 := Hd hX4;have HO4 := Hd (HO3.out.below hb4);have HWT4 := Hd (HW3.out.below hb4);have HE4 := Hd (HE3.out.below hb4 HE3.out.lt);have HS4 := Hd hs4
     clear hw4 hX4 hb4 hs4
     go_upto_region 4 with (fail)
     rw [HW4.out]
     have hpb : p ≤ 1024 := by
      have h0 := HTL.out
      rw [List.length_append,List.length_singleton] at h0
      have := HS.out;have := HJ.out;have := HP0.out
      omega
     have HPB := Hd hpb
     have y1 := IntWalk.wrap64_in (p : Int) (by omega)
     have y2 : (p : Int) < (p : Int) + 1 := by omega
     clear hpb
     obtain ⟨tx,x1,x2,x3,x4,x5,x6,htx,hkid,hTx⟩ := HO3.out.now.at' p (by rw [List.length_append,List.length_singleton];have := HP0.out;omega)
     have htx' : tx = x := by
      rw [← htx,List.getElem_append_right (by have := HP0.out;omega)]
      simp
     subst htx'
     have hgw3 : g < w3.heap.size := by
      obtain ⟨L,hl,ho,ht⟩ := HO3.out
      exact (own_kind ho rfl).lt
     have hb34 : Below w3.heap.size w3 w4 := by rw [← HW4.out];exact (Below.refl _ _).alloc (Nat.le_refl _) _
     have HKID := Hd (hkid.below hb34)
     have HTX := Hd (hTx.same (G := fun b => (Off (.slice (some ⟨g,0,none⟩) (p + 1) vc) b ∧ (w.heap.size + 1 ≤ b ∧ Fr q nv' b)) ∧ b < w3.heap.size) (same_below hb34) fun b hb _ => ⟨⟨hb.1,hb.2.1⟩,hb.2.2⟩)
     have HO4N := Hd (HO3.out.now.below hb34)
     have HGW3 := Hd hgw3
     clear htx hkid hTx hgw3 hb34
     go_upto_region 7 with (fail)
     clear y1 y2
     obtain ⟨d0,d1,d2,d3,d4,d5,d6,d7,d8,d9⟩ := HKID.out
     obtain ⟨w5,hw5⟩ : ∃ z,w4.alloc (.cells #[.int .i64 tx.fld.op,.slice x1 x2 x3,.int .i32 tx.fld.rune,.slice x4 x5 x6,.int .i64 tx.fld.at',.int .i64 tx.fld.cap,.string tx.fld.name,.int .i64 tx.fld.min,.int .i64 tx.fld.max,.bool tx.fld.lazy] 29) = z := ⟨_,rfl⟩
     have hb5 : Below w4.heap.size w4 w5 := by rw [← hw5];exact (Below.refl _ _).alloc (Nat.le_refl _) _
     have hX5 : Whole w5 w3.heap.size 29 #[.int .i64 op,.slice none 0 0,.int .i32 0,.slice none 0 0,.int .i64 0,.int .i64 0,.string ⟨#[]⟩,.int .i64 mi,.int .i64 ma,.bool lz] := HX4.out.below hb5 HX4.out.lt
     have hK5 : KdsF (fun b => (Off (.slice (some ⟨g,0,none⟩) (p + 1) vc) b ∧ (w.heap.size + 1 ≤ b ∧ Fr q nv' b)) ∧ b ≠ w3.heap.size) w5 [tx] (.slice (some ⟨w4.heap.size,0,none⟩) 1 1) := by
      rw [← hw5]
      refine kdsF_one (HTX.out.same (fun _ _ _ => rfl) fun b hb _ => ⟨hb.1,Nat.ne_of_lt hb.2⟩) ⟨⟨fun e => ?_,?_,?_⟩,?_⟩
      ·have : g = w4.heap.size := by simpa [Value.ownBlock] using e
       have := HGW3.out;have := HS4.out
       omega
      ·have := HE4.out.lt
       omega
      ·exact HWT4.out.st.free (Nat.le_refl _)
      ·have := HS4.out
       omega
     have e1 := hX5.cell 1
     have z1 := hX5.free 1
     have HX5 := Hd hX5;have HK5 := Hd hK5;have HO5 := Hd (HO4N.out.below hb5);have HWT5 := Hd (HWT4.out.below hb5);have HE5 := Hd (HE4.out.below hb5 HE4.out.lt);have HKID5 := Hd (HKID.out.below hb5)
     clear hb5 hX5 hK5
     go_upto_region 8 with (fail)
     obtain ⟨w6,hw6⟩ : ∃ z,w5.setCell ⟨w3.heap.size,1,none⟩ (.slice (some ⟨w4.heap.size,0,none⟩) 1 1) = z := ⟨_,rfl⟩
     have hne : g ≠ w3.heap.size := Nat.ne_of_lt HGW3.out
     have hot : ∀ k,k ≠ w3.heap.size → w6.heap[k]? = w5.heap[k]? := fun k hk => by rw [← hw6];exact Below.heap_setCell w5 _ _ k hk
     have hX6 := HX5.out.store 1 (.slice (some ⟨w4.heap.size,0,none⟩) 1 1)
     rw [hw6] at hX6
     have HX6 := Hd (show Whole w6 w3.heap.size 29 #[.int .i64 op,.slice (some ⟨w4.heap.size,0,none⟩) 1 1,.int .i32 0,.slice none 0 0,.int .i64 0,.int .i64 0,.string ⟨#[]⟩,.int .i64 mi,.int .i64 ma,.bool lz] from hX6)
     have HK6 := Hd (HK5.out.same (G := fun b => Off (.slice (some ⟨g,0,none⟩) (p + 1) vc) b ∧ (w.heap.size + 1 ≤ b ∧ Fr q nv' b)) (fun b hb _ => hot b hb.2) fun b hb _ => hb.1)
     have HO6 := Hd ((HO5.out.else hot (fun e => hne (by simpa [Value.ownBlock] using e)) fun b hb => Nat.ne_of_lt hb.2).wider (G := fun b => w.heap.size + 1 ≤ b ∧ Fr q nv' b) fun b hb => hb.1)
     have HWT6 := Hd (HWT5.out.grownRow (show w5.grownBy w6 (some w3.heap.size) by rw [← hw6];exact tk_set w5 _ _ _) (fun b hb => by cases hb;exact ⟨HWT5.out.st.fr (Whole.kind HX5.out) (by decide) (by decide),by have := HE4.out.lt;have := HS4.out;have := HE3.out.lt;omega⟩))
     have HE6 := Hd ((hot _ (by have := HE3.out.lt;omega)).trans HE5.out)
     have hcell : ∀ k u,w5.cell? ⟨g,k,none⟩ = some u → w6.cell? ⟨g,k,none⟩ = some u := fun k u hu => (World.cell?_of_block (hot g hne)).trans hu
     clear d0 d1 d2 d3 d4 d5 d6 d7 d8 d9
     obtain ⟨k0,k1,k2',k3,k4,k5,k6,k7,k8,k9⟩ := HKID5.out
     have d0 := hcell _ _ k0;have d1 := hcell _ _ k1;have d2 := hcell _ _ k2';have d3 := hcell _ _ k3;have d4 := hcell _ _ k4;have d5 := hcell _ _ k5;have d6 := hcell _ _ k6;have d7 := hcell _ _ k7;have d8 := hcell _ _ k8;have d9 := hcell _ _ k9
     have z0 := HO6.out.free (p * 10);have z1' := HO6.out.free (p * 10 + 1);have z2 := HO6.out.free (p * 10 + 2);have z3 := HO6.out.free (p * 10 + 3);have z4 := HO6.out.free (p * 10 + 4);have z5 := HO6.out.free (p * 10 + 5);have z6 := HO6.out.free (p * 10 + 6);have z7 := HO6.out.free (p * 10 + 7);have z8 := HO6.out.free (p * 10 + 8);have z9 := HO6.out.free (p * 10 + 9)
     have HNE := Hd hne
     rw [hw6]
     clear hX6 hot hcell k0 k1 k2' k3 k4 k5 k6 k7 k8 k9 e1 z1 hw6 hw5 hne
     obtain ⟨b0,b1,b2,b3,b4,b5,b6,b7,b8,b9⟩ := HX6.out.ten
     obtain ⟨hop,hmi,hma⟩ := HREP.out
     have hu : TreF (fun b => Off (.slice (some ⟨g,0,none⟩) (p + 1) vc) b ∧ (w.heap.size + 1 ≤ b ∧ Fr q nv' b)) w6 (repeatedY c a b lz tx) (.agg #[.int .i64 op,.slice (some ⟨w4.heap.size,0,none⟩) 1 1,.int .i32 0,.slice none 0 0,.int .i64 0,.int .i64 0,.string ⟨#[]⟩,.int .i64 mi,.int .i64 ma,.bool lz]) := by
      have hz := only_sized HOY.out
      obtain ⟨q1,q2,q3,q4,q5⟩ := rep_ok HRP.out
      have hsz := sized_ok (by rw [hz];decide) q3 q4 q5
      have hnode := treF_node (d := ⟨op,0,[],0,0,⟨#[]⟩,mi,ma,lz⟩) HK6.out rfl (fld_ok (by rw [← hop];unfold opY;split;decide;split;decide;split;decide;decide) (by unfold I32;decide) (by decide) (by decide) (by rw [← hmi];split <;> omega) (by rw [← hma];split <;> omega) (Nat.zero_le _) (Nat.zero_le _))
      have e : repeatedY c a b lz tx = .mk ⟨op,0,[],0,0,⟨#[]⟩,mi,ma,lz⟩ [tx] := by
       unfold repeatedY
       rw [hop,hmi,hma]
      rw [e]
      exact hnode
     have hlp : p < (T0 ++ [tx]).length := by rw [List.length_append,List.length_singleton];have := HP0.out;omega
     have hset := ownT_set HO6.out p hlp hu
     have hTs : (T0 ++ [tx]).set p (repeatedY c a b lz tx) = T0 ++ [repeatedY c a b lz tx] := by
      rw [List.set_append_right _ _ (by have := HP0.out;omega),show p - T0.length = 0 by have := HP0.out;omega]
      rfl
     rw [hTs] at hset
     obtain ⟨w7,hw7⟩ : ∃ w7,set10o w6 g (p * 10) (.int .i64 op) (.slice (some ⟨w4.heap.size,0,none⟩) 1 1) (.int .i32 0) (.slice none 0 0) (.int .i64 0) (.int .i64 0) (.string ⟨#[]⟩) (.int .i64 mi) (.int .i64 ma) (.bool lz) = w7 := ⟨_,rfl⟩
     have hgr : w6.grownBy w7 (some g) := by rw [← hw7,set10o_eq];exact setsW_grown _ _ _
     rw [← set10o_eq,hw7] at hset
     have HO7 := Hd hset
     have hgk6 : Kind w6 g 29 := by
      obtain ⟨L,hl,ho,ht⟩ := HO6.out
      exact own_kind ho rfl
     have HWT7 := Hd (HWT6.out.grownRow hgr (fun b hb => by cases hb;exact ⟨HWT6.out.st.fr hgk6 (by decide) (by decide),by have := HG0.out;omega⟩))
     have HWT8 := Hd HWT7.out
     have HE7 := Hd (Whole.grown HE6.out hgr (fun e => by have := HG0.out;have := Option.some.inj e;omega))
     unfold set10o at hw7
     clear hu hlp hset hTs hgr hgk6 hop hmi hma
     go_wp2_with fail
     clear hw7
     refine ⟨⟨k2,m,f',ns',nv',T0 ++ [repeatedY c a b lz tx],_,_,_,rfl,HO7.out,HWT8.out,HE7.out,HX.out.symm,by have := HM.out;have := HK2S.out;omega,by have := HIJ.out;have := HK2S.out;omega,HK2S.out.2,HFF.out,by have := HNN.out;have := HK2S.out;omega,?_⟩,?_⟩
     ·have h0 := HTL.out
      rw [List.length_append,List.length_singleton] at h0 ⊢
      have := HK2S.out
      omega
     ·rw [jOf_eq HWT8.out.st.rd,HJO.out]
      have := HK2S.out
      omega
theorem ownT_one {F : Nat → Prop} {w : World} {t : Tr} {cs : Array Value} (h : TreF F w t (.agg cs)) (hF : ∀ b,F b → b < w.heap.size → F b) : OwnT (fun b => F b) (w.alloc (.cells cs 29)) w.heap.size (.slice (some ⟨w.heap.size,0,none⟩) 1 1) [t] := by
 have hf := (treF_form h).2
 refine ⟨[cs],rfl,⟨by simp [cells10,hf.1],.inr ⟨w.heap.size,1,cs,rfl,Nat.le_refl _,heap_alloc_new w _,Nat.le_refl _,by unfold maxLen;omega,by rw [hf.1],?_⟩⟩,fun i hi hi' => ?_⟩
 ·have e : cells10 [cs] = cs.toList := by simp [cells10]
  rw [e]
  exact List.take_of_length_le (by rw [Array.length_toList,hf.1];exact Nat.le_refl _)
 ·have : i = 0 := by simpa using hi
  subst this
  exact h.same (same_below ((Below.refl _ w).alloc (Nat.le_refl _) _)) fun b hb hl => ⟨fun e => by
   have : w.heap.size = b := by simpa [Value.ownBlock] using e
   omega,hb⟩
def tailY (s : ByteArray) (m j : Nat) (f : Int) (ns : List (List UInt8)) (T : List Tr) : PR := if headI (leftB s j) = 124 then partsY s m (j + 1) f ns T else .ok T j f ns
theorem parts_step (s : ByteArray) (m i : Nat) (f : Int) (ns : List (List UInt8)) (T : List Tr) : partsY s (m + 1) i f ns T = match partY s m i f ns [] with
  | .bad c a b => .bad c a b
  | .ok l i2 f2 ns2 => tailY s m i2 f2 ns2 (T ++ [catY l]) := by
 rw [partsY]
 rfl
def PartsRel (B q : Nat) (s : ByteArray) (i : Nat) (nv : Value) (R : PR) (w : World) (vs : Value) (wr : World) : Prop :=
 ∃ (j m : Nat) (f : Int) (ns : List (List UInt8)) (nv' : Value) (T : List Tr) (va : Option Addr) (vn vc : Nat),vs = .slice va vn vc ∧ OwnT (fun b => w.heap.size + 1 ≤ b ∧ Fr q nv' b) wr (w.heap.size + 1) (.slice va vn vc) T ∧
  Went B q s nv w wr f j ns nv' ∧ Whole wr w.heap.size 29 #[.int .i64 0,.slice none 0 0,.int .i32 0,.slice none 0 0,.int .i64 0,.int .i64 0,.string ⟨#[]⟩,.int .i64 0,.int .i64 0,.bool false] ∧ tailY s m j f ns T = R ∧ 3 * (s.size - j) ≤ m ∧ i ≤ j ∧ j ≤ s.size ∧ FlagsIn f ∧ ns.length ≤ j ∧ T.length ≤ j - i + 1 ∧ T ≠ []
theorem pyparts_any (B q : Nat) (s : ByteArray) (n i : Nat) (hs : s.size ≤ 1024) (hi : i ≤ s.size) (hn : 3 * (s.size - i) + 3 ≤ n) (hA : ∀ m j,i ≤ j → j ≤ s.size → 3 * (s.size - j) + 2 ≤ m → OnePartAt B q s m j) : PartsAt B q s n i := by
 intro f ns nv w hf hnl h hT hB hqB
 obtain ⟨R,hR⟩ : ∃ R,partsY s n i f ns [] = R := ⟨_,rfl⟩
 rw [hR]
 obtain ⟨n,rfl⟩ : ∃ m,n = m + 1 := ⟨n - 1,by omega⟩
 rw [parts_step] at hR
 obtain ⟨w1,hw1⟩ : ∃ w1,w.alloc (.cells #[.int .i64 0,.slice none 0 0,.int .i32 0,.slice none 0 0,.int .i64 0,.int .i64 0,.string ⟨#[]⟩,.int .i64 0,.int .i64 0,.bool false] 29) = w1 := ⟨_,rfl⟩
 obtain ⟨hE1,hb1,hs1⟩ := box_tree w #[.int .i64 0,.slice none 0 0,.int .i32 0,.slice none 0 0,.int .i64 0,.int .i64 0,.string ⟨#[]⟩,.int .i64 0,.int .i64 0,.bool false]
 rw [hw1] at hE1 hb1 hs1
 have HW1 := Hd hw1;have HE1 := Hd hE1;have HS1 := Hd hs1;have HWT1 := Hd (Went.of_took h (Tk.of_below h.rd hb1));have HH := Hd h;have HT := Hd hT;have HF := Hd hf;have HNL := Hd hnl;have HS := Hd hs;have HI := Hd hi;have HN := Hd hn;have HA := Hd hA;have HQ := Hd h.rd.lt
 have HP1 := Hd (hA n i (Nat.le_refl _) hi (by omega) f ns nv w1 hf hnl (h.took (Tk.of_below h.rd hb1)) (hT.below hB hb1) (Nat.le_trans hB hb1.size) hqB)
 have hmore := (read_more s n).2.1 i f ns [] hi hf
 obtain ⟨Q,hQ⟩ : ∃ Q,partY s n i f ns [] = Q := ⟨_,rfl⟩
 rw [hQ] at HP1 hR hmore
 have HR := Hd hR
 have HMORE := Hd hmore
 clear hw1 hE1 hb1 hs1 h hT hf hnl hs hi hn hA hR hQ hmore
 go_enter Tryz.func15,Tryz.ntmps15
 go_upto_region 1 with (fail)
 rw [HW1.out]
 go_wp2_with fail
 refine HP1.out.mono ?_
 intro e w2 hp
 cases Q with
 | bad c a b =>
  have HRX : Hid (R = .bad c a b) := Hd HR.out.symm
  have hp2 := TreePost.from HWT1.out hp
  obtain ⟨he,hst⟩ := hp2
  have HY := Hd hst
  clear hp hst
  rcases he with he | ⟨ha,hb,he⟩
  ·unfold thrown at he
   subst he
   go_wp2
   refine ⟨rfl,?_⟩
   rw [HRX.out]
   exact ⟨.inl rfl,HY.out⟩
  ·have HAB := Hd (And.intro ha hb)
   clear ha hb
   unfold thrown at he
   subst he
   go_wp2
   refine ⟨rfl,?_⟩
   rw [HRX.out]
   exact ⟨.inr ⟨HAB.out.1,HAB.out.2,rfl⟩,HY.out⟩
 | ok l0 i0 f0 ns0 =>
  obtain ⟨y1,y2,y3,y4,y5,y6,nv0,rfl,ht2,hw2⟩ := TreePost.ten hp
  obtain ⟨m1,m2,m3,m4,m5,m6⟩ := HMORE.out
  have HR0 : Hid (tailY s n i0 f0 ns0 [catY l0] = R) := Hd HR.out
  obtain ⟨t,ht⟩ : ∃ t,catY l0 = t := ⟨_,rfl⟩
  rw [ht] at ht2 HR0 ⊢
  have HWT2 := Hd (HWT1.out.trans hw2);have HE2 := Hd (hw2.steps.whole HE1.out (HWT1.out.st.fr (Whole.kind HE1.out) (by decide) (by decide)))
  have HT2 := Hd (ht2.same (G := fun b => w.heap.size + 1 ≤ b ∧ Fr q nv0 b) (fun _ _ _ => rfl) fun b hb _ => ⟨by have := hb.1;have := HS1.out;omega,hb.2⟩)
  have HM1 := Hd m1;have HM2 := Hd m2;have HM3 := Hd m3;have HM5 := Hd m5
  clear hp ht2 hw2 ht m1 m2 m3 m4 m5 m6 HMORE HR HP1
  obtain ⟨w3,hw3⟩ : ∃ w3,w2.alloc (.cells #[.int .i64 t.fld.op,.slice y1 y2 y3,.int .i32 t.fld.rune,.slice y4 y5 y6,.int .i64 t.fld.at',.int .i64 t.fld.cap,.string t.fld.name,.int .i64 t.fld.min,.int .i64 t.fld.max,.bool t.fld.lazy] 29) = w3 := ⟨_,rfl⟩
  have hb3 : Below w2.heap.size w2 w3 := by rw [← hw3];exact (Below.refl _ _).alloc (Nat.le_refl _) _
  have hO3 := ownT_one HT2.out fun b h _ => h
  rw [hw3] at hO3
  have HO3 := Hd (hO3.mono (B' := w.heap.size + 1) (by have := HE2.out.lt;omega));have HWT3 := Hd (HWT2.out.below hb3);have HE3 := Hd (HE2.out.below hb3 HE2.out.lt)
  clear hb3 hO3
  go_wp2_with fail
  go_loopw [3] (fun vs wr => PartsRel B q s i nv R w vs wr) (fun _ wr => s.size - jOf wr q)
  case atStart =>
   exact ⟨i0,n,f0,ns0,nv0,[t],_,_,_,rfl,HO3.out,HWT3.out,HE3.out,HR0.out,by have := HN.out;have := HM1.out;omega,HM1.out,HM2.out,HM3.out,by have := HM5.out;have := HNL.out;have := HM1.out;omega,by simp,by simp⟩
  case round =>
   obtain ⟨j,m,f',ns',nv',T,va,vn,vc,rfl,ho,hw,hE,hR,hm,hij,hj,hf',hnl,hTl,hT0⟩ := hrel
   have HO := Hd ho;have HW := Hd hw;have HE := Hd hE;have HRR := Hd hR;have HM := Hd hm;have HIJ := Hd hij;have HJ := Hd hj;have HFF := Hd hf';have HNN := Hd hnl;have HTL := Hd hTl;have HT0 := Hd hT0
   have HJO := Hd (jOf_eq hw.st.rd)
   clear ho hw hE hR hm hij hj hf' hnl hTl hT0 hw3
   by_cases h124 : headI (leftB s j) = ((124 : UInt8).toNat : Int)
   ·have HTK := Hd (pytake_yes q f' s 124 j nv' wr (by have := HS.out;omega) HJ.out HW.out.st.rd h124)
    have hX : partsY s m (j + 1) f' ns' T = R := by have := HRR.out;unfold tailY at this;rwa [if_pos (show headI (leftB s j) = 124 from h124)] at this
    have hlt : j < s.size := head_in (s := s) (i := j) (by rw [h124];decide)
    obtain ⟨m,rfl⟩ : ∃ m',m = m' + 1 := ⟨m - 1,by have := HM.out;omega⟩
    rw [parts_step] at hX
    have hmore := (read_more s m).2.1 (j + 1) f' ns' [] hlt HFF.out
    have HPP := Hd (fun W (h1 : SrSt W B q f' s (j + 1) nv' ns') h2 h3 => HA.out m (j + 1) (by have := HIJ.out;omega) hlt (by have := HM.out;omega) f' ns' nv' W HFF.out (by have := HNN.out;omega) h1 h2 h3 hqB)
    obtain ⟨Q,hQ⟩ : ∃ Q,partY s m (j + 1) f' ns' [] = Q := ⟨_,rfl⟩
    rw [hQ] at HPP hX hmore
    have HX := Hd hX;have HMORE := Hd hmore;have HLT := Hd hlt
    clear hQ hX hmore hlt h124
    go_wp2_with fail
    refine HTK.out.mono ?_
    rintro e w4 ⟨rfl,ht⟩
    have HWT4 := Hd (HW.out.took ht);have HO4 := Hd (HO.out.went HW.out.st (Steps.of_grown ht.1) .refl);have HE4 := Hd (ht.whole HE.out (by have := HQ.out;omega))
    clear ht HTK
    have HPW := Hd (HPP.out w4 HWT4.out.st (HT.out.next (HWT4.out.belowB HH.out hB hqB)) (Nat.le_trans hB HWT4.out.steps.size))
    go_wp2_with fail
    refine HPW.out.mono ?_
    intro e w5 hp
    cases Q with
    | bad c a b =>
     have HRX : Hid (R = .bad c a b) := Hd HX.out.symm
     have hp2 := TreePost.from HWT4.out hp
     obtain ⟨he,hst⟩ := hp2
     have HY := Hd hst
     clear hp hst
     rcases he with he | ⟨ha,hb,he⟩
     ·unfold thrown at he
      subst he
      go_wp2
      refine ⟨rfl,?_⟩
      rw [HRX.out]
      exact ⟨.inl rfl,HY.out⟩
     ·have HAB := Hd (And.intro ha hb)
      clear ha hb
      unfold thrown at he
      subst he
      go_wp2
      refine ⟨rfl,?_⟩
      rw [HRX.out]
      exact ⟨.inr ⟨HAB.out.1,HAB.out.2,rfl⟩,HY.out⟩
    | ok l2 i2 f2 ns2 =>
     obtain ⟨x1,x2,x3,x4,x5,x6,nv2,rfl,ht5,hw5⟩ := TreePost.ten hp
     obtain ⟨q1,q2,q3,q4,q5,q6⟩ := HMORE.out
     have HX2 : Hid (tailY s m i2 f2 ns2 (T ++ [catY l2]) = R) := Hd HX.out
     obtain ⟨t2,ht2⟩ : ∃ t,catY l2 = t := ⟨_,rfl⟩
     rw [ht2] at ht5 HX2 ⊢
     have HO5 := Hd (HO4.out.went HWT4.out.st hw5.steps hw5.spot)
     have HK5 := Hd (kds_cs (G := fun b => Off (.slice va vn vc) b ∧ (w.heap.size + 1 ≤ b ∧ Fr q nv2 b)) ht5 fun b hb _ => ⟨HO4.out.off b hb.1,by have := hb.1;have := HE4.out.lt;omega,hb.2⟩)
     have HWT5 := Hd (HWT4.out.trans hw5);have HE5 := Hd (hw5.steps.whole HE4.out (HWT4.out.st.fr (Whole.kind HE4.out) (by decide) (by decide)))
     have HQ1 := Hd q1;have HQ2 := Hd q2;have HQ3 := Hd q3;have HQ5 := Hd q5
     clear hp ht5 hw5 ht2 q1 q2 q3 q4 q5 q6 HMORE HX HPW HPP
     have hbA : Below w5.heap.size w5 (w5.alloc (.cells #[.int .i64 t2.fld.op,.slice x1 x2 x3,.int .i32 t2.fld.rune,.slice x4 x5 x6,.int .i64 t2.fld.at',.int .i64 t2.fld.cap,.string t2.fld.name,.int .i64 t2.fld.min,.int .i64 t2.fld.max,.bool t2.fld.lazy] 29)) := (Below.refl _ _).alloc (Nat.le_refl _) _
     have HBA := Hd hbA
     clear hbA
     go_wp2_with (at_builtin;refine append_trs rfl (.tmp 9) (.tmp 12) rfl (fun b => w.heap.size + 1 ≤ b ∧ Fr q nv2 b) (w.heap.size + 1) _ T rfl (HO5.out.below HBA.out) (some ⟨w5.heap.size,0,none⟩) 1 1 [t2] rfl HK5.out (by have := HTL.out;have := HS.out;have := HJ.out;simp;omega) (by have := HE5.out.lt;simp;omega) ?_;intro v6 w6 ho6 hg6 hat6;obtain ⟨z1,z2,z3,rfl⟩ := ho6.slice;have HO6 := Hd ho6;have HG6 := Hd hg6;clear ho6 hg6 hat6)
     have hk6 : ∀ b,(Value.slice va vn vc).ownBlock = some b → Kind w5 b 29 ∧ w.heap.size + 1 ≤ b := fun b hb => by
      obtain ⟨L,hl,ho,ht⟩ := HO5.out
      exact ⟨own_kind ho hb,(ho.lt b hb).1⟩
     have HWT6 : Hid (Went B q s nv w w6 f2 i2 ns2 nv2) := Hd ((HWT5.out.below HBA.out).grownRow HG6.out (fun b hb => ⟨HWT5.out.st.fr (hk6 b hb).1 (by decide) (by decide),Nat.le_of_lt (hk6 b hb).2⟩))
     have HE6 := Hd (Whole.grown (HE5.out.below HBA.out HE5.out.lt) HG6.out (fun e => by have := (hk6 _ e).2;omega))
     clear hk6
     go_roundw
     case rel =>
      exact ⟨i2,m,f2,ns2,nv2,T ++ [t2],_,_,_,rfl,HO6.out,HWT6.out,HE6.out,HX2.out,by have := HM.out;have := HQ1.out;omega,by have := HIJ.out;have := HQ1.out;omega,HQ2.out,HQ3.out,by have := HNN.out;have := HQ5.out;have := HQ1.out;omega,by rw [List.length_append,List.length_singleton];have := HTL.out;have := HIJ.out;have := HQ1.out;omega,by simp⟩
     case measure =>
      rw [jOf_eq HWT6.out.st.rd,HJO.out]
      have := HQ1.out;have := HQ2.out
      omega
   ·have HTK := Hd (pytake_no q f' s 124 j nv' wr (by have := HS.out;omega) HJ.out HW.out.st.rd h124)
    have HX : Hid (R = .ok T j f' ns') := Hd (by have := HRR.out;unfold tailY at this;rw [if_neg (show ¬ headI (leftB s j) = 124 from h124)] at this;exact this.symm)
    clear h124
    go_wp2_with fail
    refine HTK.out.mono ?_
    rintro e w4 ⟨rfl,ht⟩
    have HWT4 := Hd (HW.out.took ht);have HO4 := Hd (HO.out.went HW.out.st (Steps.of_grown ht.1) .refl);have HE4 := Hd (ht.whole HE.out (by have := HQ.out;omega))
    clear ht HTK
    have HJN := Hd (pyjoined_any 12 (by decide) _ T w4 (fun b => (w.heap.size + 1 ≤ b ∧ Fr q nv' b) ∧ b < w4.heap.size) (fun b hb => hb.2) (row_kds HO4.out HWT4.out.st (by have := HTL.out;have := HS.out;have := HJ.out;omega)))
    rw [join_alt HT0.out] at HJN
    obtain ⟨t2,ht2⟩ : ∃ t,altY T = t := ⟨_,rfl⟩
    rw [ht2] at HJN
    have HTT := Hd ht2
    clear ht2
    go_wp2_with fail
    refine HJN.out.mono ?_
    rintro e w5 ⟨v5,rfl,ht5,hb5⟩
    obtain ⟨kv,sv,rfl,⟨x1,x2,x3,rfl⟩,⟨x4,x5,x6,rfl⟩⟩ := ht5.ten
    have HT5 := Hd ht5;have HW5 := Hd (HWT4.out.below hb5);have HE5 := Hd (HE4.out.below hb5 HE4.out.lt)
    clear ht5 hb5 HJN
    obtain ⟨r0,r1,r2,r3,r4,r5,r6,r7,r8,r9⟩ := HE5.out.ten
    obtain ⟨z0,z1,z2,z3,z4,z5,z6,z7,z8,z9⟩ := whole_free HE5.out
    go_wp2_with fail
    refine treeV_ret Tryz.results15 w.heap.size rfl HE5.out ?_
    rw [HX.out]
    refine ⟨_,nv',rfl,?_,HW5.out.setTen (Nat.le_refl _) (HW5.out.st.fr (Whole.kind HE5.out) (by decide) (by decide)) _ _ _ _ _ _ _ _ _ _⟩
    rw [HTT.out]
    exact (treF_set10 HT5.out (fun k hk => by have := hk.1.1;omega) _ _ _ _ _ _ _ _ _ _).same (fun _ _ _ => rfl) fun k hk _ => ⟨by have := hk.1.1;omega,hk.1.2⟩
theorem pyall_any (B q : Nat) (s : ByteArray) (hs : s.size ≤ 1024) : ∀ d n i,i ≤ s.size → s.size - i ≤ d → 3 * (s.size - i) + 3 ≤ n → PartsAt B q s n i
 | d,n,i,hi,hd,hn => by
  refine pyparts_any B q s n i hs hi hn fun m j hj1 hj2 hj3 => pypart_any B q s m j hs hj2 hj3 fun m2 j2 hk1 hk2 hk3 => ?_
  intro f ns nv w hf hnl h hT hB hqB
  obtain ⟨m3,rfl⟩ : ∃ m3,m2 = m3 + 1 := ⟨m2 - 1,by omega⟩
  refine pyatoms_any B q f s m3 j2 nv ns w hs hk2 hnl hf (fun k hk hks => ?_) h hT hB hqB
  match d,hd with
  | 0,hd => omega
  | d + 1,hd => exact pyall_any B q s hs d m3 k hks (by omega) (by omega)
end Go.Proofs.YthnddabcmhplkaaGreatDoor
