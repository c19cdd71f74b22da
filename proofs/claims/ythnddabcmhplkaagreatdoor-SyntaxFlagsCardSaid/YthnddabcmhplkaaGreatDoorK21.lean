/- Texts merged by program. No condition. -/
import Derived.Test.YthnddabcmhplkaaGreatDoorK17
import Derived.Test.YthnddabcmhplkaaGreatDoorK19
import Derived.Lib.ValidU
set_option maxHeartbeats 800000
set_option linter.unusedVariables false
namespace Go.Proofs.YthnddabcmhplkaaGreatDoor
open Go Go.RowKit
def flagY (f : Int) (k : Int) : Bool := bits .and .i64 f k != 0
def fldY (op : Int) : Fld := ⟨op,0,[],0,0,⟨#[]⟩,0,0,false⟩
def runeY (c : Int) : Tr := .mk ⟨3,c,[],0,0,⟨#[]⟩,0,0,false⟩ []
def someY (l : List (Int × Int)) : Tr := .mk ⟨4,0,l,0,0,⟨#[]⟩,0,0,false⟩ []
def setY (l : List (Int × Int)) : Tr := if l = [] then .mk (fldY 1) [] else someY l
def atY (a : Int) : Tr := .mk ⟨5,0,[],a,0,⟨#[]⟩,0,0,false⟩ []
def atomY (c : Int) (fold : Bool) : Tr := if fold = true ∧ 2 ≤ (orbR c).length then someY (setB fun d => (orbR c).contains d) else runeY c
def catY : List Tr → Tr
 | [] => .mk (fldY 2) []
 | [x] => x
 | l => .mk (fldY 11) l
def altY : List Tr → Tr
 | [x] => x
 | l => .mk (fldY 12) l
def capY (k : Nat) (nm : List UInt8) (x : Tr) : Tr := .mk ⟨6,0,[],0,k,⟨nm.toArray⟩,0,0,false⟩ [x]
def repY (s : ByteArray) (i : Nat) : Option (Int × Int × Int × Nat) :=
 if headI (leftB s i) = 42 ∨ headI (leftB s i) = 43 ∨ headI (leftB s i) = 63 then some (headI (leftB s i),0,0,i + 1) else
 match countS s i with
 | none => none
 | some (a,b,k) => some (123,a,b,k)
def sizedY (c a b : Int) : Bool := decide (c ≠ 123) || (decide (a ≤ 1000) && decide (b ≤ 1000) && (decide (b = -1) || decide (a ≤ b)))
def lazyY (s : ByteArray) (i : Nat) (f : Int) : Bool := flagY f 32 && decide (headI (leftB s i) = 63)
def opY (c : Int) : Int := if c = 42 then 7 else if c = 43 then 8 else if c = 63 then 9 else 10
def repeatedY (c a b : Int) (lazy : Bool) (x : Tr) : Tr := .mk ⟨opY c,0,[],0,0,⟨#[]⟩,if c = 123 then a else 0,if c = 123 then b else 0,lazy⟩ [x]
inductive PR where
 | ok (l : List Tr) (i : Nat) (f : Int) (ns : List (List UInt8))
 | bad (c : Int) (a b : Nat)
def repeatY (s : ByteArray) (i : Nat) (f : Int) (ns : List (List UInt8)) (l : List Tr) (x : Tr) (c a b : Int) (k : Nat) : PR :=
 if sizedY c a b = false then .bad 85 i k else
 let k2 := if lazyY s k f = true then k + 1 else k
 match repY s k2 with
 | none => .ok (l ++ [repeatedY c a b (lazyY s k f != flagY f 16) x]) k2 f ns
 | some (c2,a2,b2,n2) => if sizedY c2 a2 b2 = false then .bad 85 k2 n2 else .bad 83 i (if lazyY s n2 f = true then n2 + 1 else n2)
def quotedY (s : ByteArray) (fold : Bool) : Nat → Nat → List Tr × Nat
 | 0,i => ([],i)
 | n + 1,i => if s.size ≤ i then ([],i) else if preB [92,69] (leftB s i) = true then ([],i + 2) else
  (atomY (Utf8.decode s i).1 fold :: (quotedY s fold n (i + (Utf8.decode s i).2)).1,(quotedY s fold n (i + (Utf8.decode s i).2)).2)
def escapedY (s : ByteArray) (i : Nat) (f : Int) (ns : List (List UInt8)) : PR :=
 match escS s i (flagY f 32) with
 | .bad c till => .bad c i till
 | .esc k r l a n => if k = 1 then .ok [atomY r (flagY f 1)] n f ns else if k = 2 then .ok [setY (if flagY f 1 = true then setB (foldB l) else l)] n f ns else
  if k = 3 then .ok [atY a] n f ns else .ok (quotedY s (flagY f 1) s.size n).1 (quotedY s (flagY f 1) s.size n).2 f ns
def classY (fold not' : Bool) (all : List (Int × Int)) : List (Int × Int) := setB fun c => (if fold = true then foldB all c else hasB all c) != not'
def classedY (s : ByteArray) (i : Nat) (f : Int) (ns : List (List UInt8)) : PR :=
 match classS s i (flagY f 32) with
 | .bad c a b => .bad c a b
 | .item all n => .ok [setY (classY (flagY f 1) (notB s i) all)] n f ns
def plainY (s : ByteArray) (i : Nat) (f : Int) (ns : List (List UInt8)) : PR :=
 let c : Int := (Utf8.decode s i).1;let n := i + (Utf8.decode s i).2
 if c = 46 then .ok [setY (dotR (flagY f 8))] n f ns else
 if c = 94 then .ok [atY (if flagY f 4 = true then 4 else 1)] n f ns else
 if c = 36 then .ok [atY (if flagY f 4 = true then 8 else 2)] n f ns else .ok [atomY c (flagY f 1)] n f ns
inductive OpenY where
 | cap (nm : List UInt8) (n : Nat)
 | flags (g : Int) (n : Nat)
 | under (g : Int) (n : Nat)
 | bad (c : Int) (a b : Nat)
def openY (s : ByteArray) (i : Nat) (f : Int) (ns : List (List UInt8)) : OpenY :=
 if flagY f 32 = true ∧ (preB [40,63,80,60] (leftB s i) = true ∨ preB [40,63,60] (leftB s i) = true) then
  match nameS s i with
  | none => .bad 64 i (min (endS s i + 1) s.size)
  | some (nm,k) => if nm ∈ ns then .bad 64 i k else .cap nm k
 else if flagY f 32 = true ∧ preB [40,63] (leftB s i) = true then
  match flagsS s i f with
  | (none,p) => .bad 65 i (badTo s p).toNat
  | (some (g,under),k) => if under = true then .under g k else .flags g k
 else .cap [] (i + 1)
mutual
def partsY (s : ByteArray) : Nat → Nat → Int → List (List UInt8) → List Tr → PR
 | 0,_,_,_,_ => .bad 84 0 s.size
 | n + 1,i,f,ns,acc =>
  match partY s n i f ns [] with
  | .bad c a b => .bad c a b
  | .ok l i2 f2 ns2 => if headI (leftB s i2) = 124 then partsY s n (i2 + 1) f2 ns2 (acc ++ [catY l]) else .ok (acc ++ [catY l]) i2 f2 ns2
def partY (s : ByteArray) : Nat → Nat → Int → List (List UInt8) → List Tr → PR
 | 0,_,_,_,_ => .bad 84 0 s.size
 | n + 1,i,f,ns,l =>
  if s.size ≤ i ∨ headI (leftB s i) = 124 ∨ headI (leftB s i) = 41 then .ok l i f ns else
  match repY s i with
  | some (c,a,b,k) => (match l.getLast? with
   | none => .bad 82 i k
   | some x => match repeatY s i f ns l.dropLast x c a b k with
    | .bad c a b => .bad c a b
    | .ok l2 i2 f2 ns2 => partY s n i2 f2 ns2 l2)
  | none => match atomsY s n i f ns with
   | .bad c a b => .bad c a b
   | .ok xs i2 f2 ns2 => partY s n i2 f2 ns2 (l ++ xs)
def atomsY (s : ByteArray) : Nat → Nat → Int → List (List UInt8) → PR
 | 0,_,_,_ => .bad 84 0 s.size
 | n + 1,i,f,ns =>
  if headI (leftB s i) = 40 then
   match openY s i f ns with
   | .bad c a b => .bad c a b
   | .flags g k => .ok [] k g ns
   | .cap nm k => (match partsY s n k f (ns ++ [nm]) [] with
    | .bad c a b => .bad c a b
    | .ok l i2 _ ns2 => if headI (leftB s i2) = 41 then .ok [capY (ns.length + 1) nm (altY l)] (i2 + 1) f ns2 else .bad 84 0 s.size)
   | .under g k => (match partsY s n k g ns [] with
    | .bad c a b => .bad c a b
    | .ok l i2 _ ns2 => if headI (leftB s i2) = 41 then .ok [altY l] (i2 + 1) f ns2 else .bad 84 0 s.size)
  else if headI (leftB s i) = 91 then classedY s i f ns
  else if headI (leftB s i) = 92 then escapedY s i f ns
  else plainY s i f ns
end
def litY (s : ByteArray) (fold : Bool) : Nat → Nat → List Tr
 | 0,_ => []
 | n + 1,i => if s.size ≤ i then [] else atomY (Utf8.decode s i).1 fold :: litY s fold n (i + (Utf8.decode s i).2)
inductive ParseR where
 | tree (t : Tr)
 | bad (c : Int) (a b : Nat)
def boundY (s : ByteArray) (t : Tr) : ParseR := if 50 < depthR t then .bad 86 0 s.size else if 4000 < weightR t then .bad 87 0 s.size else .tree t
def roundsY (s : ByteArray) : Nat := 3 * s.size + 3
def parseY (s : ByteArray) (f : Int) : ParseR :=
 if f < 0 ∨ 63 < f then .bad 1 0 s.size else if 1024 < s.size then .bad 2 0 s.size else if Lib.validD s.toList = false then .bad 81 0 s.size else
 if flagY f 2 = true then boundY s (catY (litY s (flagY f 1) s.size 0)) else
 match partsY s (roundsY s) 0 f [] [] with
 | .bad c a b => .bad c a b
 | .ok l i _ _ => if i < s.size then .bad 84 0 s.size else boundY s (altY l)
def gsL (l : List Tr) : List Tr := (l.map groupsT).flatten
theorem gsL_append (a b : List Tr) : gsL (a ++ b) = gsL a ++ gsL b := by simp [gsL]
theorem gsL_one (t : Tr) : gsL [t] = groupsT t := by simp [gsL]
theorem groups_is (f : Fld) (ks : List Tr) : groupsT (.mk f ks) = (if f.op = 6 then [.mk f ks] else []) ++ gsL ks := groupsT_eq _
def tagG (t : Tr) : Int × List UInt8 := (t.fld.cap,t.fld.name.toList)
def tagsY (k : Nat) : List (List UInt8) → List (Int × List UInt8)
 | [] => []
 | n :: ns => ((k : Int) + 1,n) :: tagsY (k + 1) ns
theorem tagsY_append : ∀ (a : List (List UInt8)) (k : Nat) (b : List (List UInt8)),tagsY k (a ++ b) = tagsY k a ++ tagsY (k + a.length) b
 | [],k,b => by simp [tagsY]
 | x :: a,k,b => by
  rw [List.cons_append,tagsY,tagsY,tagsY_append a (k + 1) b,List.length_cons,List.cons_append,show k + 1 + a.length = k + (a.length + 1) by omega]
def Fine (k : Nat) (ns : List (List UInt8)) (l : List Tr) : Prop := (∀ t ∈ l,ShapedP t) ∧ (gsL l).map tagG = tagsY k ns
theorem fine_nil (k : Nat) : Fine k [] [] := ⟨fun t h => (by cases h),rfl⟩
theorem Fine.append {k : Nat} {a b : List (List UInt8)} {l m : List Tr} (h : Fine k a l) (g : Fine (k + a.length) b m) : Fine k (a ++ b) (l ++ m) := by
 refine ⟨fun t ht => (List.mem_append.1 ht).elim (h.1 t) (g.1 t),?_⟩
 rw [gsL_append,List.map_append,tagsY_append,h.2,g.2]
theorem fine_leaf {k : Nat} {f : Fld} (hf : FieldsOk f) (hk : KidsOk f.op 0) (h6 : f.op ≠ 6) : Fine k [] [.mk f []] := by
 refine ⟨fun t ht => ?_,?_⟩
 ·have := List.mem_singleton.1 ht
  subst this
  exact (shapedP_iff _).2 ⟨hf,hk,fun h => h6 h.1,fun k hk => by cases hk⟩
 ·rw [gsL_one,groups_is,if_neg h6]
  rfl
theorem fine_wrap {k : Nat} {ns : List (List UInt8)} {f : Fld} {l : List Tr} (h : Fine k ns l) (hf : FieldsOk f) (hk : KidsOk f.op l.length) (h6 : f.op ≠ 6) : Fine k ns [.mk f l] := by
 refine ⟨fun t ht => ?_,?_⟩
 ·have := List.mem_singleton.1 ht
  subst this
  exact (shapedP_iff _).2 ⟨hf,hk,fun h => h6 h.1,h.1⟩
 ·rw [gsL_one,groups_is,if_neg h6,List.nil_append]
  exact h.2
theorem fields_plain {op : Int} (h1 : 1 ≤ op) (h2 : op ≤ 12) (h3 : op ≠ 3) (h4 : op ≠ 4) (h5 : op ≠ 5) (h10 : op ≠ 10) : FieldsOk (fldY op) := by
 unfold FieldsOk fldY
 simp [h1,h2,h3,h4,h5,h10]
theorem no_kids {op : Int} (h : op = 1 ∨ op = 2 ∨ op = 3 ∨ op = 4 ∨ op = 5) : KidsOk op 0 := by
 unfold KidsOk
 omega
theorem cat_fine {k : Nat} {ns : List (List UInt8)} {l : List Tr} (h : Fine k ns l) : Fine k ns [catY l] := by
 match l,h with
 | [],h =>
  have hn : ns = [] := by
   cases ns with
   | nil => rfl
   | cons x ns => cases h.2
  subst hn
  exact fine_leaf (fields_plain (by decide) (by decide) (by decide) (by decide) (by decide) (by decide)) (no_kids (by decide)) (by decide)
 | [x],h => exact h
 | x :: y :: l,h =>
  exact fine_wrap h (fields_plain (by decide) (by decide) (by decide) (by decide) (by decide) (by decide)) ⟨fun h => (by simp [fldY] at h),fun h => (by simp [fldY] at h),(by simp [fldY])⟩ (by decide)
theorem alt_fine {k : Nat} {ns : List (List UInt8)} {l : List Tr} (h : Fine k ns l) (h0 : l ≠ []) : Fine k ns [altY l] := by
 match l,h,h0 with
 | [x],h,_ => exact h
 | x :: y :: l,h,_ =>
  exact fine_wrap h (fields_plain (by decide) (by decide) (by decide) (by decide) (by decide) (by decide)) ⟨fun h => (by simp [fldY] at h),fun _ => (by simp),(by simp [fldY])⟩ (by decide)
theorem cap_fine {k : Nat} {nm : List UInt8} {ns : List (List UInt8)} {x : Tr} (h : Fine (k + 1) ns [x]) (hn : nm = [] ∨ nameB nm = true) : Fine k (nm :: ns) [capY (k + 1) nm x] := by
 have hnm : (⟨nm.toArray⟩ : ByteArray).toList = nm := by rw [Lib.toList_data]
 refine ⟨fun t ht => ?_,?_⟩
 ·have := List.mem_singleton.1 ht
  subst this
  refine (shapedP_iff _).2 ⟨?_,?_,?_,h.1⟩
  ·show FieldsOk ⟨6,0,[],0,((k + 1 : Nat) : Int),⟨nm.toArray⟩,0,0,false⟩
   unfold FieldsOk
   simp [hnm,hn]
  ·show KidsOk 6 1
   unfold KidsOk
   omega
  ·show ¬ ((6 : Int) = 6 ∧ ((k + 1 : Nat) : Int) < 1)
   omega
 ·have e := h.2
  rw [gsL_one] at e ⊢
  show ((groupsT (.mk ⟨6,0,[],0,((k + 1 : Nat) : Int),⟨nm.toArray⟩,0,0,false⟩ [x])).map tagG) = _
  rw [groups_is,if_pos rfl,gsL_one,List.map_append,e]
  simp only [List.map_cons,List.map_nil,List.cons_append,List.nil_append,tagsY]
  congr 1
  unfold tagG
  simp only [Tr.fld,hnm]
  rfl
theorem rep_shaped {c a b : Int} {lz : Bool} {x : Tr} (hx : ShapedP x) (hc : c = 42 ∨ c = 43 ∨ c = 63 ∨ (c = 123 ∧ 0 ≤ a ∧ a ≤ 1000 ∧ (b = -1 ∨ (a ≤ b ∧ b ≤ 1000)))) : ShapedP (repeatedY c a b lz x) := by
 have hop : opY c = 7 ∨ opY c = 8 ∨ opY c = 9 ∨ (c = 123 ∧ opY c = 10) := by
  rcases hc with rfl | rfl | rfl | ⟨rfl,-⟩ <;> decide
 refine (shapedP_iff _).2 ⟨?_,?_,?_,fun t ht => ?_⟩
 ·show FieldsOk ⟨opY c,0,[],0,0,⟨#[]⟩,if c = 123 then a else 0,if c = 123 then b else 0,lz⟩
  unfold FieldsOk
  rcases hc with rfl | rfl | rfl | ⟨rfl,h0,h1,h2⟩
  ·simp [opY]
  ·simp [opY]
  ·simp [opY]
  ·simp [opY,h0,h1,h2]
 ·show KidsOk (opY c) 1
  unfold KidsOk
  omega
 ·show ¬ (opY c = 6 ∧ _)
  omega
 ·rw [show t = x from List.mem_singleton.1 ht]
  exact hx
theorem rune_fine (k : Nat) {c : Int} (h0 : 0 ≤ c) (h1 : c ≤ 1114111) : Fine k [] [runeY c] :=
 fine_leaf (by unfold FieldsOk;simp [h0,h1]) (no_kids (by simp)) (by simp)
theorem set_leaf (k : Nat) {l : List (Int × Int)} (h : RightR l) (h0 : l ≠ []) : Fine k [] [someY l] :=
 fine_leaf (by unfold FieldsOk;simp [h,h0]) (no_kids (by simp)) (by simp)
theorem set_fine (k : Nat) {l : List (Int × Int)} (h : RightR l) : Fine k [] [setY l] := by
 unfold setY
 split
 ·exact fine_leaf (fields_plain (by decide) (by decide) (by decide) (by decide) (by decide) (by decide)) (no_kids (by decide)) (by decide)
 ·rename_i h0
  exact set_leaf k h h0
theorem at_fine (k : Nat) {a : Int} (h : a = 1 ∨ a = 2 ∨ a = 4 ∨ a = 8 ∨ a = 16 ∨ a = 32) : Fine k [] [atY a] :=
 fine_leaf (by unfold FieldsOk;simp [h]) (no_kids (by simp)) (by simp)
theorem atom_fine (k : Nat) {c : Int} (fold : Bool) (h0 : 0 ≤ c) (h1 : c ≤ 1114111) : Fine k [] [atomY c fold] := by
 unfold atomY
 split
 ·refine set_leaf k (setB_right _) fun e => ?_
  have h := (setB_has (fun d => (orbR c).contains d) c).2 ⟨h0,h1,by simpa using orb_self c h0 h1⟩
  rw [e] at h
  obtain ⟨_,_,r,hr,_⟩ := h
  cases hr
 ·exact rune_fine k h0 h1
theorem Fine.last {k : Nat} {ns : List (List UInt8)} {l : List Tr} {x : Tr} {c a b : Int} {lz : Bool} (h : Fine k ns l) (hx : l.getLast? = some x) (hc : c = 42 ∨ c = 43 ∨ c = 63 ∨ (c = 123 ∧ 0 ≤ a ∧ a ≤ 1000 ∧ (b = -1 ∨ (a ≤ b ∧ b ≤ 1000)))) : Fine k ns (l.dropLast ++ [repeatedY c a b lz x]) := by
 have hl : l = l.dropLast ++ [x] := by
  have h0 : l ≠ [] := by rintro rfl;cases hx
  rw [List.getLast?_eq_some_getLast h0] at hx
  rw [← Option.some.inj hx]
  exact (List.dropLast_concat_getLast h0).symm
 have hxs : ShapedP x := h.1 x (by rw [hl];simp)
 have hg : groupsT (repeatedY c a b lz x) = groupsT x := by
  unfold repeatedY
  rw [groups_is,gsL_one,if_neg,List.nil_append]
  show ¬ opY c = 6
  rcases hc with rfl | rfl | rfl | ⟨rfl,-⟩ <;> decide
 have hs : ShapedP (repeatedY c a b lz x) := by
  have e := rep_shaped (lz := lz) hxs hc
  exact e
 refine ⟨fun t ht => ?_,?_⟩
 ·rcases List.mem_append.1 ht with ht | ht
  ·exact h.1 t (by rw [hl];exact List.mem_append_left _ ht)
  ·rw [List.mem_singleton.1 ht]
   exact hs
 ·rw [gsL_append,gsL_one,hg]
  have e := h.2
  rw [hl,gsL_append,gsL_one] at e
  exact e
theorem digs_low : ∀ (l : List UInt8) (n : Int),0 ≤ n → 0 ≤ (digsFrom l n).1
 | [],n,h => h
 | c :: t,n,h => by
  unfold digsFrom
  split
  ·rename_i hd
   have hd := (isDig_iff c).1 hd
   exact digs_low t _ (by omega)
  ·exact h
theorem head_ge {s : ByteArray} {i : Nat} {c : Int} (h : headI (leftB s i) = c) (hc : 0 ≤ c) : i < s.size := head_in (by omega)
theorem count_ok {s : ByteArray} {i k : Nat} {a b : Int} (h : countS s i = some (a,b,k)) : i < k ∧ k ≤ s.size ∧ 0 ≤ a ∧ (b = -1 ∨ 0 ≤ b) := by
 by_cases h0 : headI (leftB s i) = 123
 ·obtain ⟨⟨x,k1⟩,h1⟩ : ∃ r,digsFrom (leftB s (i + 1)) 0 = r := ⟨_,rfl⟩
  obtain ⟨j,hj⟩ : ∃ j,i + 1 + k1 = j := ⟨_,rfl⟩
  obtain ⟨⟨y,l⟩,h2⟩ : ∃ r,digsFrom (leftB s (j + 1)) 0 = r := ⟨_,rfl⟩
  obtain ⟨m,hm⟩ : ∃ m,j + 1 + l = m := ⟨_,rfl⟩
  rw [countS_eq h0 h1 hj h2 hm] at h
  have x0 := digs_low (leftB s (i + 1)) 0 (Int.le_refl _)
  have y0 := digs_low (leftB s (j + 1)) 0 (Int.le_refl _)
  rw [h1] at x0
  rw [h2] at y0
  split at h
  ·cases h
  split at h
  ·rename_i e
   have := head_ge e (by decide)
   cases h
   exact ⟨by omega,by omega,x0,.inr x0⟩
  split at h
  ·cases h
  split at h
  ·rename_i e
   have := head_ge e (by decide)
   cases h
   exact ⟨by omega,by omega,x0,.inl rfl⟩
  split at h
  ·cases h
  split at h
  ·rename_i e
   have := head_ge e (by decide)
   cases h
   exact ⟨by omega,by omega,x0,.inr y0⟩
  ·cases h
 ·unfold countS at h
  rw [if_pos h0] at h
  cases h
theorem rep_ok {s : ByteArray} {i k : Nat} {c a b : Int} (h : repY s i = some (c,a,b,k)) : i < k ∧ k ≤ s.size ∧ (c = 42 ∨ c = 43 ∨ c = 63 ∨ c = 123) ∧ 0 ≤ a ∧ (b = -1 ∨ 0 ≤ b) := by
 unfold repY at h
 split at h
 ·rename_i h0
  have hlt := head_in (s := s) (i := i) (by omega)
  cases h
  exact ⟨by omega,hlt,by omega,Int.le_refl _,.inr (Int.le_refl _)⟩
 ·split at h
  ·cases h
  ·rename_i hc
   obtain ⟨h1,h2,h3,h4⟩ := count_ok hc
   cases h
   exact ⟨h1,h2,.inr (.inr (.inr rfl)),h3,h4⟩
theorem lazy_in {s : ByteArray} {k : Nat} {f : Int} (h : lazyY s k f = true) : k + 1 ≤ s.size := by
 unfold lazyY at h
 rw [Bool.and_eq_true,decide_eq_true_eq] at h
 exact head_ge h.2 (by decide)
theorem sized_ok {c a b : Int} (h : ¬ sizedY c a b = false) (hc : c = 42 ∨ c = 43 ∨ c = 63 ∨ c = 123) (ha : 0 ≤ a) (hb : b = -1 ∨ 0 ≤ b) : c = 42 ∨ c = 43 ∨ c = 63 ∨ (c = 123 ∧ 0 ≤ a ∧ a ≤ 1000 ∧ (b = -1 ∨ (a ≤ b ∧ b ≤ 1000))) := by
 unfold sizedY at h
 simp only [Bool.or_eq_false_iff,Bool.and_eq_false_iff,decide_eq_false_iff_not] at h
 omega
theorem name_ok {s : ByteArray} {i k : Nat} {nm : List UInt8} (hi : i ≤ s.size) (h : nameS s i = some (nm,k)) : i < k ∧ k ≤ s.size ∧ nameB nm = true := by
 unfold nameS at h
 split at h
 ·cases h
 ·rename_i f hf
  split at h
  ·rename_i g
   cases h
   unfold fromS at hf
   split at hf
   ·cases hf
    exact ⟨by omega,by omega,g.2.2⟩
   ·split at hf
    ·cases hf
     exact ⟨by omega,by omega,g.2.2⟩
    ·cases hf
  ·cases h
theorem flag_step : ∀ n : Fin 64,∀ k ∈ ([0,1,4,8,16] : List Int),(0 ≤ bits .or .i64 (n.val : Int) k ∧ bits .or .i64 (n.val : Int) k ≤ 63) ∧ 0 ≤ bits .andNot .i64 (n.val : Int) k ∧ bits .andNot .i64 (n.val : Int) k ≤ 63 := by decide +kernel
def FlagsIn (f : Int) : Prop := 0 ≤ f ∧ f ≤ 63
theorem flagI_is (c : Int) : flagI c ∈ ([0,1,4,8,16] : List Int) := by
 unfold flagI
 repeat' split
 all_goals simp
theorem flags_step {f : Int} (h : FlagsIn f) (c : Int) : FlagsIn (bits .or .i64 f (flagI c)) ∧ FlagsIn (bits .andNot .i64 f (flagI c)) := by
 have := flag_step ⟨f.toNat,by have := h.2;have := h.1;omega⟩ (flagI c) (flagI_is c)
 simp only [Int.toNat_of_nonneg h.1] at this
 exact this
theorem flags_fit : ∀ (l : List UInt8) (f : Int) (off more : Bool),(flagsFrom l f off more).2 ≤ l.length ∧ ∀ g u,(flagsFrom l f off more).1 = some (g,u) → 1 ≤ (flagsFrom l f off more).2 ∧ (FlagsIn f → FlagsIn g)
 | [],_,_,_ => ⟨Nat.le_refl _,fun _ _ h => by cases h⟩
 | c :: t,f,off,more => by
  rw [flagsFrom]
  split
  ·have h := flags_fit t (if off then bits .andNot .i64 f (flagI c.toNat) else bits .or .i64 f (flagI c.toNat)) off (more || off)
   refine ⟨by simp only [List.length_cons];omega,fun g u e => ⟨by simp only;omega,fun hf => (h.2 g u e).2 ?_⟩⟩
   have hs := flags_step hf c.toNat
   split
   ·exact hs.2
   ·exact hs.1
  split
  ·have h := flags_fit t f true more
   exact ⟨by simp only [List.length_cons];omega,fun g u e => ⟨by simp only;omega,(h.2 g u e).2⟩⟩
  split
  ·refine ⟨by simp,fun g u e => ⟨Nat.le_refl _,fun hf => ?_⟩⟩
   cases e
   exact hf
  ·exact ⟨Nat.zero_le _,fun _ _ e => by cases e⟩
theorem flags_ok {s : ByteArray} {i : Nat} {f : Int} (hi : i ≤ s.size) :
  (∀ p,flagsS s i f = (none,p) → i ≤ (badTo s p).toNat ∧ (badTo s p).toNat ≤ s.size) ∧ ∀ g u k,flagsS s i f = (some (g,u),k) → i < k ∧ k ≤ s.size ∧ (FlagsIn f → FlagsIn g) := by
 have hb : ∀ p,i ≤ p → i ≤ (badTo s p).toNat ∧ (badTo s p).toNat ≤ s.size := fun p hp => by
  unfold badTo
  split
  ·rename_i h
   have := decode_width s p h
   omega
  ·omega
 unfold flagsS
 split
 ·exact ⟨fun p e => hb p (by cases e;exact Nat.le_refl _),fun g u k e => by cases e⟩
 split
 ·exact ⟨fun p e => hb p (by cases e;omega),fun g u k e => by cases e⟩
 ·rename_i h1
  have hl := head_ge (Classical.not_not.1 h1) (by decide)
  have h := flags_fit (leftB s (i + 2)) f false false
  rw [left_length] at h
  refine ⟨fun p e => hb p ?_,fun g u k e => ?_⟩
  ·have := congrArg Prod.snd e
   simp only at this
   omega
  ·have e1 := congrArg Prod.fst e
   have e2 := congrArg Prod.snd e
   simp only at e1 e2
   have := h.2 g u e1
   exact ⟨by omega,by omega,this.2⟩
def EscTill (s : ByteArray) (i : Nat) : EscR → Prop
 | .esc k r l a n => k = 3 → a = 1 ∨ a = 2 ∨ a = 4 ∨ a = 8 ∨ a = 16 ∨ a = 32
 | .bad c till => i ≤ till ∧ till ≤ s.size
theorem place_is {c : Int} (h : ¬ placeI c = 0) : placeI c = 1 ∨ placeI c = 2 ∨ placeI c = 4 ∨ placeI c = 8 ∨ placeI c = 16 ∨ placeI c = 32 := by
 unfold placeI at h ⊢
 repeat' split at h
 all_goals simp_all
theorem escC_till (s : ByteArray) (i : Nat) (c : Int) (b : Nat) (p : Bool) (hi : i ≤ b) (hb : b ≤ s.size) : EscTill s i (escC s c b p) := by
 unfold escC
 split
 ·exact fun h => by cases h
 split
 ·exact fun h => by cases h
 split
 ·split
  ·exact ⟨hi,hb⟩
  ·exact fun h => by cases h
 split
 ·split
  ·exact ⟨hi,hb⟩
  ·rename_i nm k hn
   obtain ⟨a1,a2⟩ := prop_ok hn
   split
   ·exact ⟨by omega,a2⟩
   ·exact fun h => by cases h
 split
 ·exact ⟨hi,hb⟩
 ·rename_i k l a hl
  split
  ·intro h3
   unfold perlsR at hl
   split at hl
   ·rename_i h0
    cases hl
    exact place_is h0
   split at hl
   ·cases hl
    cases h3
   split at hl
   ·cases hl
   split at hl
   ·cases hl
   ·cases hl
    cases h3
  ·exact ⟨hi,hb⟩
theorem escS_till (s : ByteArray) (i : Nat) (p : Bool) (h : i < s.size) : EscTill s i (escS s i p) := by
 unfold escS
 split
 ·exact ⟨Nat.le_refl _,Nat.le_of_lt h⟩
 split
 ·exact ⟨by omega,by omega⟩
 ·exact escC_till s i _ _ p (by omega) (decode_width s (i + 1) (by omega))
theorem oneS_till (s : ByteArray) (i : Nat) (p : Bool) (h : i < s.size) : EscTill s i (oneS s i p) := by
 unfold oneS
 split
 ·exact escS_till s i p h
 ·exact fun h => by cases h
def ItemTill (s : ByteArray) (i : Nat) : ItemR → Prop
 | .item _ _ => True
 | .bad _ a b => i ≤ a ∧ a ≤ b ∧ b ≤ s.size
theorem itemS_till (s : ByteArray) (i : Nat) (p : Bool) (h : i < s.size) : ItemTill s i (itemS s i p) := by
 unfold itemS
 split
 ·rename_i k hk
  have := colS_le hk
  split
  ·exact ⟨Nat.le_refl _,by omega,this.2⟩
  ·trivial
 ·have hk := oneS_ok s i p h
  have ht := oneS_till s i p h
  split
  ·rename_i c till he
   rw [he] at ht
   exact ⟨Nat.le_refl _,ht.1,ht.2⟩
  ·rename_i k r l a n he
   rw [he] at hk
   obtain ⟨a1,a2,a3,a4,a5⟩ := hk
   split
   ·trivial
   split
   ·exact ⟨Nat.le_refl _,by omega,a2⟩
   ·unfold rangeS
    split
    ·rename_i hd
     have hlt := head_in hd.2.1
     have hk2 := oneS_ok s (n + 1) p hlt
     have ht2 := oneS_till s (n + 1) p hlt
     split
     ·rename_i c till he2
      rw [he2] at ht2
      exact ⟨by omega,ht2.1,ht2.2⟩
     ·rename_i k2 r2 l2 a2' n2 he2
      rw [he2] at hk2
      obtain ⟨b1,b2,-⟩ := hk2
      split
      ·exact ⟨Nat.le_refl _,by omega,b2⟩
      ·trivial
    ·trivial
def ClassOk (s : ByteArray) (i : Nat) : ItemR → Prop
 | .item _ n => i < n ∧ n ≤ s.size
 | .bad c a b => 0 < c ∧ a ≤ b ∧ b ≤ s.size
theorem itemsS_ok (s : ByteArray) (at' : Nat) (p : Bool) (ha : at' ≤ s.size) : ∀ (m i : Nat) (f : Bool) (all : List (Int × Int)),ClassOk s i (itemsS s at' p m i f all)
 | 0,i,f,all => ⟨by decide,ha,Nat.le_refl _⟩
 | m + 1,i,f,all => by
  rw [itemsS]
  split
  ·exact ⟨by decide,ha,Nat.le_refl _⟩
  rename_i hlt
  split
  ·exact ⟨Nat.lt_succ_self _,by omega⟩
  ·have hk := itemS_ok s i p (by omega)
   have ht := itemS_till s i p (by omega)
   split
   ·rename_i c a b he
    rw [he] at hk ht
    exact ⟨hk,ht.2.1,ht.2.2⟩
   ·rename_i l n he
    rw [he] at hk
    obtain ⟨h1,h2,-⟩ := hk
    have h := itemsS_ok s at' p ha m n false (all ++ l)
    revert h
    cases itemsS s at' p m n false (all ++ l) with
    | item l2 n2 => exact fun h => ⟨by have := h.1;omega,h.2⟩
    | bad c a b => exact fun h => h
theorem classS_ok (s : ByteArray) (i : Nat) (p : Bool) (hi : i < s.size) : ClassOk s i (classS s i p) := by
 unfold classS
 split
 ·exact ⟨by decide,Nat.le_refl _,Nat.le_of_lt hi⟩
 ·have h := itemsS_ok s i p (Nat.le_of_lt hi) (s.size + 1) (i + 1 + (if notB s i then 1 else 0)) true []
  revert h
  cases itemsS s i p (s.size + 1) (i + 1 + (if notB s i then 1 else 0)) true [] with
  | item l2 n2 => exact fun h => ⟨by have := h.1;omega,h.2⟩
  | bad c a b => exact fun h => h
theorem quoted_ok (s : ByteArray) (fold : Bool) (k : Nat) : ∀ (n i : Nat),i ≤ s.size → i ≤ (quotedY s fold n i).2 ∧ (quotedY s fold n i).2 ≤ s.size ∧ Fine k [] (quotedY s fold n i).1
 | 0,i,h => ⟨Nat.le_refl _,h,fine_nil k⟩
 | n + 1,i,h => by
  rw [quotedY]
  split
  ·exact ⟨Nat.le_refl _,h,fine_nil k⟩
  split
  ·rename_i hp
   have := pre_fits hp
   rw [left_length] at this
   simp only [List.length_cons,List.length_nil] at this
   exact ⟨by omega,by omega,fine_nil k⟩
  ·rename_i hlt _
   have h1 := decode_width s i (by omega)
   have h2 := Lib.rune_le s i
   obtain ⟨g1,g2,g3⟩ := quoted_ok s fold k n (i + (Utf8.decode s i).2) h1
   exact ⟨by omega,g2,(atom_fine k fold (by omega) (by omega)).append (a := []) (b := []) g3⟩
def NamesOk (ns : List (List UInt8)) : Prop := (∀ x ∈ ns,x = [] ∨ nameB x = true) ∧ ns.Pairwise fun a b => a = b → b = []
theorem names_nil : NamesOk [] := ⟨fun x h => (by cases h),List.Pairwise.nil⟩
theorem names_snoc {ns : List (List UInt8)} {nm : List UInt8} (h : NamesOk ns) (hn : nm = [] ∨ (nameB nm = true ∧ nm ∉ ns)) : NamesOk (ns ++ [nm]) := by
 refine ⟨fun x hx => ?_,?_⟩
 ·rcases List.mem_append.1 hx with hx | hx
  ·exact h.1 x hx
  ·rw [List.mem_singleton.1 hx]
   exact hn.imp id (·.1)
 ·rw [List.pairwise_append]
  refine ⟨h.2,List.pairwise_singleton _ _,fun a ha b hb e => ?_⟩
  have := List.mem_singleton.1 hb
  subst this
  rcases hn with hn | hn
  ·exact hn
  ·rw [e] at ha
   exact absurd ha hn.2
def GotY (s : ByteArray) (i : Nat) (base pre : List (List UInt8)) (R : PR) : Prop :=
 match R with
 | .ok l i2 f2 ns2 => i ≤ i2 ∧ i2 ≤ s.size ∧ FlagsIn f2 ∧ ∃ new,ns2 = base ++ pre ++ new ∧ NamesOk ns2 ∧ Fine base.length (pre ++ new) l
 | .bad c a b => 0 < c ∧ a ≤ b ∧ b ≤ s.size
theorem got_leaf {s : ByteArray} {i n : Nat} {f : Int} {ns : List (List UInt8)} {l : List Tr} (h1 : i ≤ n) (h2 : n ≤ s.size) (hf : FlagsIn f) (hn : NamesOk ns) (hl : Fine ns.length [] l) : GotY s i ns [] (.ok l n f ns) :=
 ⟨h1,h2,hf,[],by simp,hn,by simpa using hl⟩
theorem dot_right (all : Bool) : RightR (dotR all) := by
 unfold dotR
 split
 ·exact notR_right (by simp [RightR,RightFrom])
 ·exact notR_right (by simp [RightR,RightFrom])
theorem plain_got {s : ByteArray} {i : Nat} {f : Int} {ns : List (List UInt8)} (hi : i < s.size) (hf : FlagsIn f) (hn : NamesOk ns) : GotY s i ns [] (plainY s i f ns) := by
 have h1 := decode_width s i hi
 have h2 := Lib.rune_le s i
 unfold plainY
 simp only
 split
 ·exact got_leaf (by omega) h1 hf hn (set_fine _ (dot_right _))
 split
 ·exact got_leaf (by omega) h1 hf hn (at_fine _ (by split <;> simp))
 split
 ·exact got_leaf (by omega) h1 hf hn (at_fine _ (by split <;> simp))
 ·exact got_leaf (by omega) h1 hf hn (atom_fine _ _ (by omega) (by omega))
theorem escaped_got {s : ByteArray} {i : Nat} {f : Int} {ns : List (List UInt8)} (hi : i < s.size) (hf : FlagsIn f) (hn : NamesOk ns) : GotY s i ns [] (escapedY s i f ns) := by
 have hk := escS_ok s i (flagY f 32) hi
 have ht := escS_till s i (flagY f 32) hi
 unfold escapedY
 split
 ·rename_i c till he
  rw [he] at hk ht
  exact ⟨hk,ht.1,ht.2⟩
 ·rename_i k r l a n he
  rw [he] at hk ht
  obtain ⟨a1,a2,a3,a4,a5⟩ := hk
  split
  ·exact got_leaf (by omega) a2 hf hn (atom_fine _ _ a3 a4)
  split
  ·refine got_leaf (by omega) a2 hf hn (set_fine _ ?_)
   split
   ·exact setB_right _
   ·exact a5
  split
  ·rename_i h3
   exact got_leaf (by omega) a2 hf hn (at_fine _ (ht h3))
  ·obtain ⟨q1,q2,q3⟩ := quoted_ok s (flagY f 1) ns.length s.size n a2
   exact got_leaf (by omega) q2 hf hn q3
theorem classed_got {s : ByteArray} {i : Nat} {f : Int} {ns : List (List UInt8)} (hi : i < s.size) (hf : FlagsIn f) (hn : NamesOk ns) : GotY s i ns [] (classedY s i f ns) := by
 have hk := classS_ok s i (flagY f 32) hi
 unfold classedY
 split
 ·rename_i c a b he
  rw [he] at hk
  exact hk
 ·rename_i all n he
  rw [he] at hk
  exact got_leaf (by have := hk.1;omega) hk.2 hf hn (set_fine _ (setB_right _))
theorem repeat_got {s : ByteArray} {i k : Nat} {f c a b : Int} {base pre : List (List UInt8)} {l : List Tr} {x : Tr} (hr : repY s i = some (c,a,b,k)) (hf : FlagsIn f) (hn : NamesOk (base ++ pre)) (hl : Fine base.length pre l) (hx : l.getLast? = some x) :
  GotY s i base pre (repeatY s i f (base ++ pre) l.dropLast x c a b k) := by
 obtain ⟨h1,h2,h3,h4,h5⟩ := rep_ok hr
 have hz : (if lazyY s k f = true then k + 1 else k) ≤ s.size ∧ k ≤ (if lazyY s k f = true then k + 1 else k) := by
  split
  ·rename_i h
   exact ⟨lazy_in h,by omega⟩
  ·exact ⟨h2,Nat.le_refl _⟩
 unfold repeatY
 split
 ·exact ⟨by decide,Nat.le_of_lt h1,h2⟩
 rename_i hs
 obtain ⟨k2,hk2⟩ : ∃ k2,(if lazyY s k f = true then k + 1 else k) = k2 := ⟨_,rfl⟩
 simp only [hk2] at hz ⊢
 split
 ·refine ⟨by omega,hz.1,hf,[],by simp,hn,?_⟩
  rw [List.append_nil]
  exact hl.last hx (sized_ok hs h3 h4 h5)
 ·rename_i c2 a2 b2 n2 hr2
  obtain ⟨g1,g2,-⟩ := rep_ok hr2
  split
  ·exact ⟨by decide,Nat.le_of_lt g1,g2⟩
  ·refine ⟨by decide,?_,?_⟩
   ·split <;> omega
   ·split
    ·rename_i h
     exact lazy_in h
    ·exact g2
def OpenOk (s : ByteArray) (i : Nat) (f : Int) (ns : List (List UInt8)) : OpenY → Prop
 | .cap nm n => i < n ∧ n ≤ s.size ∧ (nm = [] ∨ (nameB nm = true ∧ nm ∉ ns))
 | .flags g n => i < n ∧ n ≤ s.size ∧ FlagsIn g
 | .under g n => i < n ∧ n ≤ s.size ∧ FlagsIn g
 | .bad c a b => 0 < c ∧ a ≤ b ∧ b ≤ s.size
theorem open_ok {s : ByteArray} {i : Nat} {f : Int} {ns : List (List UInt8)} (hi : i < s.size) (hf : FlagsIn f) : OpenOk s i f ns (openY s i f ns) := by
 unfold openY
 split
 ·split
  ·have h1 := endS_le s i (Nat.le_of_lt hi)
   have h2 : i ≤ endS s i := Nat.le_add_right _ _
   exact ⟨by decide,by omega,by omega⟩
  ·rename_i nm k hk
   obtain ⟨h1,h2,h3⟩ := name_ok (Nat.le_of_lt hi) hk
   split
   ·exact ⟨by decide,Nat.le_of_lt h1,h2⟩
   ·rename_i hm
    exact ⟨h1,h2,.inr ⟨h3,hm⟩⟩
 split
 ·have h := flags_ok (f := f) (Nat.le_of_lt hi)
  split
  ·rename_i p hp
   have := h.1 p hp
   exact ⟨by decide,this.1,this.2⟩
  ·rename_i g u k hk
   have := h.2 g u k hk
   split
   ·exact ⟨this.1,this.2.1,this.2.2 hf⟩
   ·exact ⟨this.1,this.2.1,this.2.2 hf⟩
 ·exact ⟨Nat.lt_succ_self _,hi,.inl rfl⟩
theorem read_ok (s : ByteArray) : ∀ n : Nat,
  (∀ (i : Nat) (f : Int) (base pre : List (List UInt8)) (acc : List Tr),i ≤ s.size → FlagsIn f → NamesOk (base ++ pre) → Fine base.length pre acc → GotY s i base pre (partsY s n i f (base ++ pre) acc) ∧ ∀ l i2 f2 ns2,partsY s n i f (base ++ pre) acc = .ok l i2 f2 ns2 → l ≠ []) ∧
  (∀ (i : Nat) (f : Int) (base pre : List (List UInt8)) (l : List Tr),i ≤ s.size → FlagsIn f → NamesOk (base ++ pre) → Fine base.length pre l → GotY s i base pre (partY s n i f (base ++ pre) l)) ∧
  (∀ (i : Nat) (f : Int) (ns : List (List UInt8)),i < s.size → FlagsIn f → NamesOk ns → GotY s i ns [] (atomsY s n i f ns))
 | 0 => by
  refine ⟨fun i f base pre acc _ _ _ _ => ⟨?_,fun l i2 f2 ns2 h => ?_⟩,fun i f base pre l _ _ _ _ => ?_,fun i f ns _ _ _ => ?_⟩
  ·rw [partsY]
   exact ⟨by decide,Nat.zero_le _,Nat.le_refl _⟩
  ·rw [partsY] at h
   cases h
  ·rw [partY]
   exact ⟨by decide,Nat.zero_le _,Nat.le_refl _⟩
  ·rw [atomsY]
   exact ⟨by decide,Nat.zero_le _,Nat.le_refl _⟩
 | n + 1 => by
  obtain ⟨ih1,ih2,ih3⟩ := read_ok s n
  refine ⟨fun i f base pre acc hi hf hn ha => ?_,fun i f base pre l hi hf hn hl => ?_,fun i f ns hi hf hn => ?_⟩
  ·have h := ih2 i f (base ++ pre) [] [] hi hf (by rw [List.append_nil];exact hn) (fine_nil _)
   rw [List.append_nil] at h
   rw [partsY]
   cases hp : partY s n i f (base ++ pre) [] with
   | bad c a b =>
    rw [hp] at h
    exact ⟨h,fun l i2 f2 ns2 e => by cases e⟩
   | ok l i2 f2 ns2 =>
    rw [hp] at h
    obtain ⟨h1,h2,h3,new,h4,h5,h6⟩ := h
    rw [List.append_nil] at h4
    rw [List.nil_append,List.length_append] at h6
    have hacc : Fine base.length (pre ++ new) (acc ++ [catY l]) := ha.append (cat_fine h6)
    simp only
    subst h4
    rw [List.append_assoc] at h5 ⊢
    split
    ·rename_i h124
     have hlt := head_ge h124 (by decide)
     obtain ⟨g,g2⟩ := ih1 (i2 + 1) f2 base (pre ++ new) (acc ++ [catY l]) hlt h3 h5 hacc
     refine ⟨?_,g2⟩
     revert g
     cases partsY s n (i2 + 1) f2 (base ++ (pre ++ new)) (acc ++ [catY l]) with
     | bad c a b => exact fun g => g
     | ok l3 i3 f3 ns3 =>
      rintro ⟨k1,k2,k3,new2,k4,k5,k6⟩
      exact ⟨by omega,k2,k3,new ++ new2,by rw [k4];simp,k5,by simpa using k6⟩
    ·exact ⟨⟨h1,h2,h3,new,by simp,h5,hacc⟩,fun l i2 f2 ns2 e => by cases e;simp⟩
  ·rw [partY]
   split
   ·exact ⟨Nat.le_refl _,hi,hf,[],by simp,hn,by simpa using hl⟩
   rename_i hst
   have hlt : i < s.size := by
    rcases Nat.lt_or_ge i s.size with h | h
    ·exact h
    ·exact absurd (.inl h) hst
   split
   ·rename_i c a b k hr
    split
    ·obtain ⟨g1,g2,-⟩ := rep_ok hr
     exact ⟨by decide,Nat.le_of_lt g1,g2⟩
    ·rename_i x hx
     have h := repeat_got hr hf hn hl hx
     revert h
     cases repeatY s i f (base ++ pre) l.dropLast x c a b k with
     | bad c a b => exact fun h => h
     | ok l2 i2 f2 ns2 =>
      rintro ⟨h1,h2,h3,new,h4,h5,h6⟩
      subst h4
      simp only
      rw [List.append_assoc] at h5 ⊢
      have g := ih2 i2 f2 base (pre ++ new) l2 h2 h3 h5 h6
      revert g
      cases partY s n i2 f2 (base ++ (pre ++ new)) l2 with
      | bad c a b => exact fun g => g
      | ok l3 i3 f3 ns3 =>
       rintro ⟨k1,k2,k3,new2,k4,k5,k6⟩
       exact ⟨by omega,k2,k3,new ++ new2,by rw [k4];simp,k5,by simpa using k6⟩
   ·have h := ih3 i f (base ++ pre) hlt hf hn
    revert h
    cases atomsY s n i f (base ++ pre) with
    | bad c a b => exact fun h => h
    | ok xs i2 f2 ns2 =>
     rintro ⟨h1,h2,h3,new,h4,h5,h6⟩
     rw [List.append_nil] at h4
     rw [List.nil_append,List.length_append] at h6
     subst h4
     simp only
     rw [List.append_assoc] at h5 ⊢
     have g := ih2 i2 f2 base (pre ++ new) (l ++ xs) h2 h3 h5 (hl.append h6)
     revert g
     cases partY s n i2 f2 (base ++ (pre ++ new)) (l ++ xs) with
     | bad c a b => exact fun g => g
     | ok l3 i3 f3 ns3 =>
      rintro ⟨k1,k2,k3,new2,k4,k5,k6⟩
      exact ⟨by omega,k2,k3,new ++ new2,by rw [k4];simp,k5,by simpa using k6⟩
  ·rw [atomsY]
   split
   ·have ho := open_ok (ns := ns) hi hf
    revert ho
    cases openY s i f ns with
    | bad c a b => exact fun h => h
    | flags g k =>
     rintro ⟨h1,h2,h3⟩
     exact got_leaf (Nat.le_of_lt h1) h2 h3 hn (fine_nil _)
    | cap nm k =>
     rintro ⟨h1,h2,h3⟩
     have hn2 := names_snoc hn h3
     obtain ⟨g,g0⟩ := ih1 k f (ns ++ [nm]) [] [] h2 hf (by rw [List.append_nil];exact hn2) (fine_nil _)
     rw [List.append_nil] at g g0
     simp only
     cases hp : partsY s n k f (ns ++ [nm]) [] with
     | bad c a b =>
      rw [hp] at g
      exact g
     | ok l i2 f2 ns2 =>
      rw [hp] at g
      obtain ⟨k1,k2,k3,new,k4,k5,k6⟩ := g
      have hne := g0 l i2 f2 ns2 hp
      rw [List.append_nil] at k4
      rw [List.nil_append,List.length_append,List.length_singleton] at k6
      simp only
      split
      ·rename_i h41
       have hlt := head_ge h41 (by decide)
       refine ⟨by omega,hlt,hf,nm :: new,by rw [k4];simp,k5,?_⟩
       rw [List.nil_append]
       exact cap_fine (alt_fine k6 hne) (h3.imp id (·.1))
      ·exact ⟨by decide,Nat.zero_le _,Nat.le_refl _⟩
    | under g k =>
     rintro ⟨h1,h2,h3⟩
     obtain ⟨g',g0⟩ := ih1 k g ns [] [] h2 h3 (by rw [List.append_nil];exact hn) (fine_nil _)
     rw [List.append_nil] at g' g0
     simp only
     cases hp : partsY s n k g ns [] with
     | bad c a b =>
      rw [hp] at g'
      exact g'
     | ok l i2 f2 ns2 =>
      rw [hp] at g'
      obtain ⟨k1,k2,k3,new,k4,k5,k6⟩ := g'
      have hne := g0 l i2 f2 ns2 hp
      rw [List.append_nil] at k4
      rw [List.nil_append] at k6
      simp only
      split
      ·rename_i h41
       have hlt := head_ge h41 (by decide)
       refine ⟨by omega,hlt,hf,new,by rw [k4];simp,k5,?_⟩
       rw [List.nil_append]
       exact alt_fine k6 hne
      ·exact ⟨by decide,Nat.zero_le _,Nat.le_refl _⟩
   split
   ·exact classed_got hi hf hn
   split
   ·exact escaped_got hi hf hn
   ·exact plain_got hi hf hn
theorem tags_at : ∀ (ns : List (List UInt8)) (k i : Nat),(tagsY k ns)[i]? = ns[i]?.map fun n => (((k + i : Nat) : Int) + 1,n)
 | [],k,i => by simp [tagsY]
 | n :: ns,k,0 => by simp [tagsY]
 | n :: ns,k,i + 1 => by
  rw [tagsY,List.getElem?_cons_succ,tags_at ns (k + 1) i,List.getElem?_cons_succ,show k + 1 + i = k + (i + 1) by omega]
theorem caps_of {ns : List (List UInt8)} {g : List Tr} (h : g.map tagG = tagsY 0 ns) (hn : NamesOk ns) : CapsFine g := by
 have hat : ∀ i (hi : i < g.length),∃ n,ns[i]? = some n ∧ tagG g[i] = ((i : Int) + 1,n) := by
  intro i hi
  have e : (g.map tagG)[i]? = some (tagG g[i]) := by rw [List.getElem?_map,List.getElem?_eq_getElem hi];rfl
  rw [h,tags_at,Nat.zero_add] at e
  cases hn' : ns[i]? with
  | none => rw [hn'] at e;cases e
  | some n =>
   rw [hn'] at e
   exact ⟨n,rfl,(Option.some.inj e).symm⟩
 intro i hi
 obtain ⟨n,h1,h2⟩ := hat i hi
 have c1 : g[i].fld.cap = (i : Int) + 1 := congrArg Prod.fst h2
 have c2 : g[i].fld.name.toList = n := congrArg Prod.snd h2
 refine ⟨c1,fun k hk => ?_⟩
 obtain ⟨m,g1,g2⟩ := hat k (by omega)
 have d2 : (g[k]'(by omega)).fld.name.toList = m := congrArg Prod.snd g2
 rw [c2,d2]
 rintro ⟨e,he⟩
 obtain ⟨b1,b2⟩ := List.getElem?_eq_some_iff.1 h1
 obtain ⟨b3,b4⟩ := List.getElem?_eq_some_iff.1 g1
 have := List.pairwise_iff_getElem.1 hn.2 k i b3 b1 hk
 rw [b2,b4] at this
 exact he (this e)
theorem lit_fine (s : ByteArray) (fold : Bool) : ∀ (n i : Nat),Fine 0 [] (litY s fold n i)
 | 0,i => fine_nil 0
 | n + 1,i => by
  rw [litY]
  split
  ·exact fine_nil 0
  ·have h2 := Lib.rune_le s i
   exact (atom_fine 0 fold (by omega) (by omega)).append (a := []) (b := []) (lit_fine s fold n _)
theorem parse_ok (s : ByteArray) (f : Int) : match parseY s f with
  | .tree t => RightT t
  | .bad c a b => 0 < c ∧ a ≤ b ∧ b ≤ s.size := by
 have hb : ∀ t,(ShapedP t ∧ CapsFine (groupsT t)) → match boundY s t with
   | .tree t => RightT t
   | .bad c a b => 0 < c ∧ a ≤ b ∧ b ≤ s.size := fun t ht => by
  unfold boundY
  split
  ·rename_i heq
   split at heq
   ·cases heq
   ·split at heq
    ·cases heq
    ·cases heq
     exact ⟨by omega,by omega,ht.1,ht.2⟩
  ·rename_i heq
   split at heq
   ·cases heq
    exact ⟨by decide,Nat.zero_le _,Nat.le_refl _⟩
   ·split at heq
    ·cases heq
     exact ⟨by decide,Nat.zero_le _,Nat.le_refl _⟩
    ·cases heq
 have hw : ∀ c : Int,0 < c → match ParseR.bad c 0 s.size with
   | .tree t => RightT t
   | .bad c a b => 0 < c ∧ a ≤ b ∧ b ≤ s.size := fun c hc => ⟨hc,Nat.zero_le _,Nat.le_refl _⟩
 unfold parseY
 by_cases h1 : f < 0 ∨ 63 < f
 ·rw [if_pos h1]
  exact hw 1 (by decide)
 rw [if_neg h1]
 by_cases h2 : 1024 < s.size
 ·rw [if_pos h2]
  exact hw 2 (by decide)
 rw [if_neg h2]
 by_cases h3 : Lib.validD s.toList = false
 ·rw [if_pos h3]
  exact hw 81 (by decide)
 rw [if_neg h3]
 by_cases h4 : flagY f 2 = true
 ·rw [if_pos h4]
  have h := cat_fine (lit_fine s (flagY f 1) s.size 0)
  refine hb _ ⟨h.1 _ (by simp),caps_of (ns := []) ?_ names_nil⟩
  have := h.2
  rwa [gsL_one] at this
 rw [if_neg h4]
 obtain ⟨h,h0⟩ := (read_ok s (roundsY s)).1 0 f [] [] [] (Nat.zero_le _) ⟨by omega,by omega⟩ names_nil (fine_nil 0)
 simp only [List.append_nil] at h h0
 cases hp : partsY s (roundsY s) 0 f [] [] with
 | bad c a b =>
  rw [hp] at h
  exact h
 | ok l i f2 ns2 =>
  rw [hp] at h
  obtain ⟨k1,k2,k3,new,k4,k5,k6⟩ := h
  simp only
  by_cases h5 : i < s.size
  ·rw [if_pos h5]
   exact hw 84 (by decide)
  ·rw [if_neg h5]
   rw [List.nil_append] at k4 k6
   have h := alt_fine k6 (h0 l i f2 ns2 hp)
   refine hb _ ⟨h.1 _ (by simp),caps_of (ns := new) ?_ (by simpa [k4] using k5)⟩
   have := h.2
   rwa [gsL_one] at this
def treZero : Value := .agg #[.int .i64 0,.slice none 0 0,.int .i32 0,.slice none 0 0,.int .i64 0,.int .i64 0,.string ⟨#[]⟩,.int .i64 0,.int .i64 0,.bool false]
def ParsePost (R : ParseR) (w : World) (e : Ending) (w' : World) : Prop :=
 Below w.heap.size w w' ∧ match R with
  | .tree t => ∃ v,e = .returned (.tuple #[v,wrongV 0 0 0]) ∧ Tre w' t v
  | .bad c a b => e = .returned (.tuple #[treZero,wrongV c a b])
theorem _root_.Go.RowKit.Below.of_drew {w w' : World} (h : Below w.drew.heap.size w.drew w') : Below w.heap.size w w' := (Below.refl _ w).drew.trans h
def SrIn (W : World) (q : Nat) (f : Int) (s : ByteArray) (j : Nat) (nv : Value) : Prop := Whole W q 41 #[.int .i64 f,.string s,.int .i64 (j : Int),nv]
theorem SrIn.cells {W : World} {q : Nat} {f : Int} {s : ByteArray} {j : Nat} {nv : Value} (h : SrIn W q f s j nv) :
  W.cell? ⟨q,0,none⟩ = some (.int .i64 f) ∧ W.cell? ⟨q,1,none⟩ = some (.string s) ∧ W.cell? ⟨q,2,none⟩ = some (.int .i64 (j : Int)) ∧ W.cell? ⟨q,3,none⟩ = some nv := ⟨Whole.cell h 0,Whole.cell h 1,Whole.cell h 2,Whole.cell h 3⟩
theorem SrIn.frees {W : World} {q : Nat} {f : Int} {s : ByteArray} {j : Nat} {nv : Value} (h : SrIn W q f s j nv) :
  W.frozen? ⟨q,0,none⟩ = false ∧ W.frozen? ⟨q,2,none⟩ = false ∧ W.frozen? ⟨q,3,none⟩ = false := ⟨Whole.free h 0,Whole.free h 2,Whole.free h 3⟩
theorem SrIn.lt {W : World} {q : Nat} {f : Int} {s : ByteArray} {j : Nat} {nv : Value} (h : SrIn W q f s j nv) : q < W.heap.size := Whole.lt h
theorem SrIn.below {W W' : World} {q : Nat} {f : Int} {s : ByteArray} {j : Nat} {nv : Value} (h : SrIn W q f s j nv) (hb : Below W.heap.size W W') : SrIn W' q f s j nv := Whole.below h hb (Whole.lt h)
theorem SrIn.putF {W : World} {q : Nat} {f : Int} {s : ByteArray} {j : Nat} {nv : Value} (h : SrIn W q f s j nv) (g : Int) : SrIn (W.setCell ⟨q,0,none⟩ (.int .i64 g)) q g s j nv := by
 have := Whole.store h 0 (.int .i64 g)
 simpa [SrIn] using this
theorem SrIn.putJ {W : World} {q : Nat} {f : Int} {s : ByteArray} {j : Nat} {nv : Value} (h : SrIn W q f s j nv) (k : Nat) (x : Int) (hx : x = k) : SrIn (W.setCell ⟨q,2,none⟩ (.int .i64 x)) q f s k nv := by
 subst hx
 have := Whole.store h 2 (.int .i64 (k : Int))
 simpa [SrIn] using this
theorem SrIn.putN {W : World} {q : Nat} {f : Int} {s : ByteArray} {j : Nat} {nv : Value} (h : SrIn W q f s j nv) (mv : Value) : SrIn (W.setCell ⟨q,3,none⟩ mv) q f s j mv := by
 have := Whole.store h 3 mv
 simpa [SrIn] using this
def Tk (q : Nat) (f : Int) (s : ByteArray) (k : Nat) (nv : Value) (w w' : World) : Prop := w.grownBy w' (some q) ∧ SrIn w' q f s k nv
theorem Tk.of_below {q : Nat} {f : Int} {s : ByteArray} {j : Nat} {nv : Value} {w w' : World} (h : SrIn w q f s j nv) (hb : Below w.heap.size w w') : Tk q f s j nv w w' := ⟨tk_below hb _,h.below hb⟩
theorem Tk.refl {q : Nat} {f : Int} {s : ByteArray} {j : Nat} {nv : Value} {w : World} (h : SrIn w q f s j nv) : Tk q f s j nv w w := ⟨World.grownBy.refl _ _,h⟩
theorem Tk.trans {q : Nat} {f g : Int} {s : ByteArray} {j k : Nat} {nv mv : Value} {w w1 w2 : World} (h : Tk q f s j nv w w1) (h2 : Tk q g s k mv w1 w2) : Tk q g s k mv w w2 := ⟨tk_trans h.1 h2.1,h2.2⟩
theorem Tk.below {q : Nat} {f : Int} {s : ByteArray} {j : Nat} {nv : Value} {w w1 w2 : World} (h : Tk q f s j nv w w1) (hb : Below w1.heap.size w1 w2) : Tk q f s j nv w w2 := h.trans (.of_below h.2 hb)
theorem Tk.putJ {q : Nat} {f : Int} {s : ByteArray} {j : Nat} {nv : Value} {w w1 : World} (h : Tk q f s j nv w w1) (k : Nat) (x : Int) (hx : x = k) : Tk q f s k nv w (w1.setCell ⟨q,2,none⟩ (.int .i64 x)) := ⟨tk_trans h.1 (tk_set _ _ _ _),h.2.putJ k x hx⟩
theorem Tk.putF {q : Nat} {f : Int} {s : ByteArray} {j : Nat} {nv : Value} {w w1 : World} (h : Tk q f s j nv w w1) (g : Int) : Tk q g s j nv w (w1.setCell ⟨q,0,none⟩ (.int .i64 g)) := ⟨tk_trans h.1 (tk_set _ _ _ _),h.2.putF g⟩
theorem Tk.whole {q : Nat} {f : Int} {s : ByteArray} {j : Nat} {nv : Value} {w w' : World} (h : Tk q f s j nv w w') {b : Nat} {u : TypeId} {cs : Array Value} (hb : Whole w b u cs) (hne : b ≠ q) : Whole w' b u cs := hb.grown h.1 (fun e => hne (Option.some.inj e).symm)
theorem Tk.size {q : Nat} {f : Int} {s : ByteArray} {j : Nat} {nv : Value} {w w' : World} (h : Tk q f s j nv w w') : w.heap.size ≤ w'.heap.size := h.1.size
def namesY (ns : List (List UInt8)) : List ByteArray := ns.map fun l => ⟨l.toArray⟩
structure Steps (q : Nat) (nv : Value) (w w' : World) : Prop where
 os : w'.os = w.os
 tape : w'.tape = w.tape
 output : w'.output = w.output
 size : w.heap.size ≤ w'.heap.size
 block : ∀ k,k < w.heap.size → k ≠ q → nv.ownBlock ≠ some k → w'.heap[k]? = w.heap[k]?
def Spot (w : World) (nv nv' : Value) : Prop := nv'.ownBlock = nv.ownBlock ∨ ∃ g,nv'.ownBlock = some g ∧ w.heap.size ≤ g
def Fr (q : Nat) (nv : Value) (b : Nat) : Prop := b ≠ q ∧ nv.ownBlock ≠ some b
theorem Steps.of_grown {q : Nat} {nv : Value} {w w' : World} (h : w.grownBy w' (some q)) : Steps q nv w w' := ⟨h.os,h.tape,h.output,h.size,fun k hk hq _ => h.block k hk (fun e => hq (Option.some.inj e))⟩
theorem Steps.of_below {q : Nat} {nv : Value} {w w' : World} (h : Below w.heap.size w w') : Steps q nv w w' := .of_grown (tk_below h _)
theorem Spot.refl {w : World} {nv : Value} : Spot w nv nv := .inl rfl
theorem Spot.fr {w : World} {nv nv' : Value} {q b : Nat} (h : Spot w nv nv') (hb : Fr q nv b) (hl : b < w.heap.size) : Fr q nv' b := ⟨hb.1,fun e => by
 rcases h with h | ⟨g,h,hg⟩
 ·exact hb.2 (h.symm.trans e)
 ·rw [h] at e
  have := Option.some.inj e
  omega⟩
theorem Spot.trans {w w1 : World} {nv nv1 nv2 : Value} (h : Spot w nv nv1) (k : Spot w1 nv1 nv2) (hs : w.heap.size ≤ w1.heap.size) : Spot w nv nv2 := by
 rcases k with k | ⟨g,k,hg⟩
 ·rcases h with h | ⟨g,h,hg⟩
  ·exact .inl (k.trans h)
  ·exact .inr ⟨g,k.trans h,hg⟩
 ·exact .inr ⟨g,k,by omega⟩
theorem Steps.trans {q : Nat} {nv nv1 : Value} {w w1 w2 : World} (h : Steps q nv w w1) (hp : Spot w nv nv1) (k : Steps q nv1 w1 w2) : Steps q nv w w2 where
 os := k.os.trans h.os
 tape := k.tape.trans h.tape
 output := k.output.trans h.output
 size := Nat.le_trans h.size k.size
 block := fun b hb hq hn => (k.block b (Nat.lt_of_lt_of_le hb h.size) hq (hp.fr (q := q) ⟨hq,hn⟩ hb).2).trans (h.block b hb hq hn)
theorem Steps.below {q B : Nat} {nv : Value} {w0 w w' : World} (h : Steps q nv w w') (hb : Below B w0 w) (hB : B ≤ w.heap.size) (hq : B ≤ q) (hn : ∀ b,nv.ownBlock = some b → B ≤ b) : Below B w0 w' :=
 hb.trans ⟨h.os,h.tape,h.output,h.size,fun k hk => h.block k (by omega) (by omega) (fun e => by have := hn k e;omega)⟩
theorem Steps.same {q : Nat} {nv : Value} {w w' : World} {G : Nat → Prop} (h : Steps q nv w w') (hG : ∀ b,G b → b < w.heap.size → Fr q nv b) : SameOn G w w' := fun b hb hl => h.block b hl (hG b hb hl).1 (hG b hb hl).2
theorem Steps.whole {q : Nat} {nv : Value} {w w' : World} (h : Steps q nv w w') {b : Nat} {u : TypeId} {cs : Array Value} (hb : Whole w b u cs) (hf : Fr q nv b) : Whole w' b u cs := (h.block b hb.lt hf.1 hf.2).trans hb
structure SrSt (W : World) (B q : Nat) (f : Int) (s : ByteArray) (j : Nat) (nv : Value) (ns : List (List UInt8)) : Prop where
 rd : SrIn W q f s j nv
 own : OwnS W B nv (namesY ns)
theorem SrSt.kind {W : World} {B q : Nat} {f : Int} {s : ByteArray} {j : Nat} {nv : Value} {ns : List (List UInt8)} (h : SrSt W B q f s j nv ns) : Kind W q 41 := Whole.kind h.rd
theorem SrSt.apart {W : World} {B q : Nat} {f : Int} {s : ByteArray} {j : Nat} {nv : Value} {ns : List (List UInt8)} (h : SrSt W B q f s j nv ns) : nv.ownBlock ≠ some q := fun e => ((own_kind h.own e).ne h.kind (by decide)) rfl
theorem SrSt.took {W W' : World} {B q : Nat} {f g : Int} {s : ByteArray} {j k : Nat} {nv : Value} {ns : List (List UInt8)} (h : SrSt W B q f s j nv ns) (ht : Tk q g s k nv W W') : SrSt W' B q g s k nv ns :=
 ⟨ht.2,own_other h.own fun b hb => ht.1.block b (own_kind h.own hb).lt (fun e => h.apart (hb.trans e))⟩
theorem SrSt.low {W : World} {B q : Nat} {f : Int} {s : ByteArray} {j : Nat} {nv : Value} {ns : List (List UInt8)} (h : SrSt W B q f s j nv ns) : ∀ b,nv.ownBlock = some b → B ≤ b := fun b hb => by
 rcases h.own.2 with ⟨rfl,_⟩ | ⟨g,cap,cur,rfl,h1,_⟩
 ·simp [Value.ownBlock] at hb
 ·obtain rfl : g = b := by simpa [Value.ownBlock] using hb
  exact h1
theorem SrSt.fr {W : World} {B q : Nat} {f : Int} {s : ByteArray} {j : Nat} {nv : Value} {ns : List (List UInt8)} (h : SrSt W B q f s j nv ns) {b : Nat} {t : TypeId} (hb : Kind W b t) (h1 : t ≠ 41) (h2 : t ≠ 9) : Fr q nv b :=
 ⟨hb.ne h.kind h1,fun e => (hb.ne (own_kind h.own e) h2) rfl⟩
theorem SrSt.lt {W : World} {B q : Nat} {f : Int} {s : ByteArray} {j : Nat} {nv : Value} {ns : List (List UInt8)} (h : SrSt W B q f s j nv ns) : q < W.heap.size ∧ ∀ b,nv.ownBlock = some b → b < W.heap.size := ⟨h.rd.lt,fun b hb => (own_kind h.own hb).lt⟩
theorem SrSt.free {W : World} {B q : Nat} {f : Int} {s : ByteArray} {j : Nat} {nv : Value} {ns : List (List UInt8)} (h : SrSt W B q f s j nv ns) {b : Nat} (hb : W.heap.size ≤ b) : Fr q nv b :=
 ⟨fun e => by have := h.lt.1;omega,fun e => by have := h.lt.2 b e;omega⟩
theorem OwnT.went {W W' : World} {B q lo base : Nat} {f : Int} {s : ByteArray} {j : Nat} {nv nv' v : Value} {ns : List (List UInt8)} {T : List Tr} (h : OwnT (fun b => lo ≤ b ∧ Fr q nv b) W base v T) (hst : SrSt W B q f s j nv ns) (hs : Steps q nv W W') (hp : Spot W nv nv') :
  OwnT (fun b => lo ≤ b ∧ Fr q nv' b) W' base v T := by
 obtain ⟨L,hl,ho,ht⟩ := h
 refine ⟨L,hl,own_other ho fun b hb => ?_,fun i h h' => (ht i h h').same (hs.same fun b hb _ => hb.2.2) fun b hb hlt => ⟨hb.1,hb.2.1,hp.fr hb.2.2 hlt⟩⟩
 have hf := hst.fr (own_kind ho hb) (by decide) (by decide)
 exact hs.block b (own_kind ho hb).lt hf.1 hf.2
structure Went (B q : Nat) (s : ByteArray) (nv : Value) (w w' : World) (f : Int) (j : Nat) (ns : List (List UInt8)) (nv' : Value) : Prop where
 st : SrSt w' B q f s j nv' ns
 steps : Steps q nv w w'
 spot : Spot w nv nv'
theorem Went.of_took {B q : Nat} {s : ByteArray} {nv : Value} {w w' : World} {f g : Int} {j k : Nat} {ns : List (List UInt8)} (h : SrSt w B q f s j nv ns) (ht : Tk q g s k nv w w') : Went B q s nv w w' g k ns nv := ⟨h.took ht,.of_grown ht.1,.refl⟩
theorem Went.trans {B q : Nat} {s : ByteArray} {nv nv1 nv2 : Value} {w w1 w2 : World} {f f2 : Int} {j j2 : Nat} {ns ns2 : List (List UInt8)} (h : Went B q s nv w w1 f j ns nv1) (k : Went B q s nv1 w1 w2 f2 j2 ns2 nv2) : Went B q s nv w w2 f2 j2 ns2 nv2 :=
 ⟨k.st,h.steps.trans h.spot k.steps,h.spot.trans k.spot h.steps.size⟩
theorem Went.took {B q : Nat} {s : ByteArray} {nv nv1 : Value} {w w1 w2 : World} {f f2 : Int} {j j2 : Nat} {ns : List (List UInt8)} (h : Went B q s nv w w1 f j ns nv1) (ht : Tk q f2 s j2 nv1 w1 w2) : Went B q s nv w w2 f2 j2 ns nv1 := h.trans (.of_took h.st ht)
theorem Went.below {B q : Nat} {s : ByteArray} {nv nv1 : Value} {w w1 w2 : World} {f : Int} {j : Nat} {ns : List (List UInt8)} (h : Went B q s nv w w1 f j ns nv1) (hb : Below w1.heap.size w1 w2) : Went B q s nv w w2 f j ns nv1 := h.took (.of_below h.st.rd hb)
def Thrown (s : ByteArray) (c : Int) (a b : Nat) (e : Ending) : Prop :=
 e = thrown (.iface 32 (wrongV c a b)) ∨ (a = 0 ∧ b = s.size ∧ e = thrown (.iface 30 (.int .i64 c)))
def AtomsPost (B q : Nat) (s : ByteArray) (nv : Value) (R : PR) (w : World) (e : Ending) (w' : World) : Prop :=
 match R with
 | .ok l i f ns => ∃ v nv',e = .returned v ∧ KdsE (fun b => w.heap.size ≤ b ∧ Fr q nv' b) w' l v ∧ Went B q s nv w w' f i ns nv'
 | .bad c a b => Thrown s c a b e ∧ Steps q nv w w'
def TreePost (B q : Nat) (s : ByteArray) (nv : Value) (mk : List Tr → Tr) (R : PR) (w : World) (e : Ending) (w' : World) : Prop :=
 match R with
 | .ok l i f ns => ∃ v nv',e = .returned v ∧ TreF (fun b => w.heap.size ≤ b ∧ Fr q nv' b) w' (mk l) v ∧ Went B q s nv w w' f i ns nv'
 | .bad c a b => Thrown s c a b e ∧ Steps q nv w w'
theorem pyhas_any (f k : Int) (w : World) : Calls Tryz.prog 12 #[.agg #[.int .i64 f],.int .i64 k] w fun e w' => e = .returned (.bool (flagY f k)) ∧ Below w.heap.size w w' := by
 go_enter Tryz.func12,Tryz.ntmps12
 go_wp2
 go_ret
 exact ⟨rfl,(Below.refl _ w).alloc (Nat.le_refl _) _⟩
theorem pystands_any (q : Nat) (f : Int) (s part : ByteArray) (j : Nat) (nv : Value) (w : World) (hj : j ≤ s.size) (h : SrIn w q f s j nv) :
  Calls Tryz.prog 30 #[.pointer (some ⟨q,0,none⟩),.string part] w fun e w' => e = .returned (.bool (preB part.toList (leftB s j))) ∧ ∃ n,w' = w.drewN n := by
 obtain ⟨b,hb⟩ : ∃ b,preB part.toList (leftB s j) = b := ⟨_,rfl⟩
 have hP : ∀ W,Calls Tryz.prog 48 #[.string (s.extract j s.size),.string part] W fun e w' => e = .returned (.bool b) ∧ w' = W := fun W => by
  have := Tryz.strings_HasPrefix (s.extract j s.size) part W
  rw [pre_left,hb] at this
  exact this
 rw [hb]
 obtain ⟨c0,c1,c2,c3⟩ := h.cells
 have HP := Hd hP
 have y2 : (j : Int) ≤ (s.size : Int) := by omega
 clear h hb hP c0 c3
 go_enter Tryz.func30,Tryz.ntmps30
 go_wp2_with fail
 go_big_quiet (first | (go_at_call 48;with_reducible refine Calls.quiet_of_same (HP.out _)))
 go_wp2
 go_ret
 exact ⟨rfl,_,rfl⟩
theorem pytake_any (q : Nat) (f : Int) (s part : ByteArray) (j : Nat) (nv : Value) (w : World) (hs : s.size ≤ 4503599627370496) (hp : part.size ≤ 100) (hj : j ≤ s.size) (h : SrIn w q f s j nv) :
  Calls Tryz.prog 21 #[.pointer (some ⟨q,0,none⟩),.string part] w fun e w' => e = .returned (.bool (preB part.toList (leftB s j))) ∧ Tk q f s (if preB part.toList (leftB s j) = true then j + part.size else j) nv w w' := by
 have HS := Hd (pystands_any q f s part j nv w hj h)
 obtain ⟨b,hb⟩ : ∃ b,preB part.toList (leftB s j) = b := ⟨_,rfl⟩
 rw [hb] at HS ⊢
 have HH := Hd h
 have y3 : IntKind.i64.wrap ((j : Int) + (part.size : Int)) = (j : Int) + (part.size : Int) := wrap_in _ (by omega)
 clear h hb
 go_enter Tryz.func21,Tryz.ntmps21
 go_wp2_with fail
 refine HS.out.mono ?_
 rintro e w1 ⟨rfl,n,rfl⟩
 have HR := Hd (Tk.of_below HH.out (drewN_below w n))
 generalize w.drewN n = w1 at HR ⊢
 obtain ⟨c0,c1,c2,c3⟩ := HR.out.2.cells
 obtain ⟨f0,f2,f3⟩ := HR.out.2.frees
 clear c0 c1 c3 f0 f3
 cases b
 ·go_wp2
  go_ret
  exact ⟨rfl,HR.out⟩
 ·go_wp2
  go_ret
  exact ⟨rfl,HR.out.putJ _ _ (by rfl)⟩
theorem pytake_yes (q : Nat) (f : Int) (s : ByteArray) (c : UInt8) (j : Nat) (nv : Value) (w : World) (hs : s.size ≤ 4503599627370496) (hj : j ≤ s.size) (h : SrIn w q f s j nv) (hc : headI (leftB s j) = (c.toNat : Int)) :
  Calls Tryz.prog 21 #[.pointer (some ⟨q,0,none⟩),.string ⟨#[c]⟩] w fun e w' => e = .returned (.bool true) ∧ Tk q f s (j + 1) nv w w' := by
 have h1 := pytake_any q f s ⟨#[c]⟩ j nv w hs (by show 1 ≤ 100;decide) hj h
 rw [show (⟨#[c]⟩ : ByteArray).toList = [c] from by rw [Lib.toList_data],pre_one,decide_eq_true hc] at h1
 exact h1
theorem pytake_no (q : Nat) (f : Int) (s : ByteArray) (c : UInt8) (j : Nat) (nv : Value) (w : World) (hs : s.size ≤ 4503599627370496) (hj : j ≤ s.size) (h : SrIn w q f s j nv) (hc : ¬ headI (leftB s j) = (c.toNat : Int)) :
  Calls Tryz.prog 21 #[.pointer (some ⟨q,0,none⟩),.string ⟨#[c]⟩] w fun e w' => e = .returned (.bool false) ∧ Tk q f s j nv w w' := by
 have h1 := pytake_any q f s ⟨#[c]⟩ j nv w hs (by show 1 ≤ 100;decide) hj h
 rw [show (⟨#[c]⟩ : ByteArray).toList = [c] from by rw [Lib.toList_data],pre_one,decide_eq_false hc] at h1
 exact h1
theorem pypass_ok (q : Nat) (f : Int) (s : ByteArray) (j k : Nat) (nv : Value) (w : World) (h : SrIn w q f s j nv) :
  Calls Tryz.prog 44 #[.pointer (some ⟨q,0,none⟩),.int .i64 (k : Int),.agg #[.int .i64 0,.int .i64 0,.int .i64 0]] w fun e w' => e = .returned (.tuple #[]) ∧ Tk q f s k nv w w' := by
 obtain ⟨w1,hw1⟩ : ∃ w1,w.alloc (.cells #[.int .i64 0,.int .i64 0,.int .i64 0] 32) = w1 := ⟨_,rfl⟩
 have hb1 : Below w.heap.size w w1 := by rw [← hw1];exact (Below.refl _ w).alloc (Nat.le_refl _) _
 have hE1 : Whole w1 w.heap.size 32 #[.int .i64 0,.int .i64 0,.int .i64 0] := by rw [← hw1];exact heap_alloc_new w _
 have HW1 := Hd hw1;have HR := Hd (Tk.of_below h hb1)
 obtain ⟨e0,e1,e2,g0,g1,g2⟩ := hE1.three
 obtain ⟨c0,c1,c2,c3⟩ := HR.out.2.cells
 obtain ⟨f0,f2,f3⟩ := HR.out.2.frees
 clear hw1 hb1 hE1 h e1 e2 g0 g1 g2 c0 c1 c3 f0 f3
 go_enter Tryz.func44,Tryz.ntmps44
 go_upto_region 1 with (fail)
 rw [HW1.out]
 go_wp2
 go_end0
 exact ⟨rfl,HR.out.putJ _ _ rfl⟩
theorem pypass_bad (q : Nat) (k c a b : Int) (hc : c ≠ 0) (w : World) :
  Calls Tryz.prog 44 #[.pointer (some ⟨q,0,none⟩),.int .i64 k,.agg #[.int .i64 c,.int .i64 a,.int .i64 b]] w fun e w' => e = thrown (.iface 32 (.agg #[.int .i64 c,.int .i64 a,.int .i64 b])) ∧ Below w.heap.size w w' := by
 obtain ⟨w1,hw1⟩ : ∃ w1,w.alloc (.cells #[.int .i64 c,.int .i64 a,.int .i64 b] 32) = w1 := ⟨_,rfl⟩
 have hb1 : Below w.heap.size w w1 := by rw [← hw1];exact (Below.refl _ w).alloc (Nat.le_refl _) _
 have hE1 : Whole w1 w.heap.size 32 #[.int .i64 c,.int .i64 a,.int .i64 b] := by rw [← hw1];exact heap_alloc_new w _
 have HW1 := Hd hw1;have HB1 := Hd hb1
 obtain ⟨e0,e1,e2,g0,g1,g2⟩ := hE1.three
 have x0 : (c != 0) = true := ne_true_of hc
 clear hw1 hb1 hE1 g0 g1 g2 hc
 go_enter Tryz.func44,Tryz.ntmps44
 go_upto_region 1 with (fail)
 rw [HW1.out]
 go_wp2
 exact ⟨rfl,rfl,HB1.out⟩
theorem pyrefuse_any (q : Nat) (f : Int) (s : ByteArray) (j : Nat) (nv : Value) (c a : Int) (w : World) (h : SrIn w q f s j nv) :
  Calls Tryz.prog 41 #[.pointer (some ⟨q,0,none⟩),.int .i64 c,.int .i64 a] w fun e w' => e = thrown (.iface 32 (.agg #[.int .i64 c,.int .i64 a,.int .i64 (j : Int)])) ∧ w' = w := by
 obtain ⟨c0,c1,c2,c3⟩ := h.cells
 clear c0 c1 c3 h
 go_enter Tryz.func41,Tryz.ntmps41
 go_wp2
 exact ⟨rfl,rfl,rfl⟩
def sumP (l : List Tr) : Nat := (l.map partsR).sum
theorem sumP_append (a b : List Tr) : sumP (a ++ b) = sumP a + sumP b := by simp [sumP]
theorem sumP_nil : sumP [] = 0 := rfl
theorem sumP_one (t : Tr) : sumP [t] = partsR t := by simp [sumP]
theorem parts_mk (f : Fld) (ks : List Tr) : partsR (.mk f ks) = 1 + f.set.length + sumP ks := partsR_eq _
def PK : Nat := 1114120
theorem PK_is : PK = 1114120 := rfl
theorem right8_small {l : List (Int × Int)} (h : RightR l) : l.length ≤ 1114112 := by
 have := right_len l 0 (by omega) h
 omega
theorem setY_parts {l : List (Int × Int)} (h : RightR l) : partsR (setY l) ≤ 1114113 := by
 have := right8_small h
 unfold setY someY
 split
 ·rw [parts_mk]
  exact Nat.le_trans (Nat.le_of_eq rfl) (by decide : 1 ≤ 1114113)
 ·rw [parts_mk]
  simp only [sumP_nil]
  omega
theorem atomY_parts (c : Int) (fold : Bool) : partsR (atomY c fold) ≤ 1114113 := by
 unfold atomY
 split
 ·have := right8_small (setB_right fun d => (orbR c).contains d)
  unfold someY
  rw [parts_mk,sumP_nil]
  simp only
  omega
 ·unfold runeY
  rw [parts_mk,sumP_nil]
  exact (by decide : 1 ≤ 1114113)
theorem atY_parts (a : Int) : partsR (atY a) ≤ 1114113 := by
 unfold atY
 rw [parts_mk,sumP_nil]
 exact (by decide : 1 ≤ 1114113)
theorem catY_parts (l : List Tr) : partsR (catY l) ≤ sumP l + 1 := by
 match l with
 | [] =>
  rw [catY,parts_mk]
  exact Nat.le_refl _
 | [x] =>
  rw [catY,sumP_one]
  omega
 | x :: y :: l =>
  rw [show catY (x :: y :: l) = .mk (fldY 11) (x :: y :: l) from rfl,parts_mk]
  show 1 + 0 + _ ≤ _
  omega
theorem altY_parts (l : List Tr) : partsR (altY l) ≤ sumP l + 1 := by
 match l with
 | [] =>
  rw [show altY [] = .mk (fldY 12) [] from rfl,parts_mk]
  exact Nat.le_refl _
 | [x] =>
  rw [altY,sumP_one]
  omega
 | x :: y :: l =>
  rw [show altY (x :: y :: l) = .mk (fldY 12) (x :: y :: l) from rfl,parts_mk]
  show 1 + 0 + _ ≤ _
  omega
theorem capY_parts (k : Nat) (nm : List UInt8) (x : Tr) : partsR (capY k nm x) = partsR x + 1 := by
 unfold capY
 rw [parts_mk,sumP_one]
 simp only [List.length_nil]
 omega
theorem repY_parts (c a b : Int) (lz : Bool) (x : Tr) : partsR (repeatedY c a b lz x) = partsR x + 1 := by
 unfold repeatedY
 rw [parts_mk,sumP_one]
 simp only [List.length_nil]
 omega
def MoreY (s : ByteArray) (i P N L : Nat) (R : PR) : Prop :=
 match R with
 | .ok l i2 f2 ns2 => i ≤ i2 ∧ i2 ≤ s.size ∧ FlagsIn f2 ∧ sumP l ≤ P + (i2 - i) * PK ∧ ns2.length ≤ N + (i2 - i) ∧ l.length ≤ L + (i2 - i)
 | .bad _ _ _ => True
def SomeY (s : ByteArray) (i N : Nat) (R : PR) : Prop :=
 match R with
 | .ok l i2 f2 ns2 => i < i2 ∧ i2 ≤ s.size ∧ FlagsIn f2 ∧ sumP l ≤ (i2 - i) * PK ∧ ns2.length ≤ N + (i2 - i) ∧ l.length ≤ i2 - i
 | .bad _ _ _ => True
theorem some_leaf {s : ByteArray} {i n : Nat} {f : Int} {ns : List (List UInt8)} {t : Tr} (h1 : i < n) (h2 : n ≤ s.size) (hf : FlagsIn f) (ht : partsR t ≤ 1114113) : SomeY s i ns.length (.ok [t] n f ns) := by
 refine ⟨h1,h2,hf,?_,by omega,by simp;omega⟩
 rw [sumP_one]
 rw [PK_is]
 omega
theorem plain_more {s : ByteArray} {i : Nat} {f : Int} {ns : List (List UInt8)} (hi : i < s.size) (hf : FlagsIn f) : SomeY s i ns.length (plainY s i f ns) := by
 have h1 := decode_width s i hi
 have h2 := decode_some s i hi
 unfold plainY
 simp only
 split
 ·exact some_leaf (by omega) h1 hf (setY_parts (dot_right _))
 split
 ·exact some_leaf (by omega) h1 hf (atY_parts _)
 split
 ·exact some_leaf (by omega) h1 hf (atY_parts _)
 ·exact some_leaf (by omega) h1 hf (atomY_parts _ _)
theorem quoted_more (s : ByteArray) (fold : Bool) : ∀ (n i : Nat),i ≤ s.size → i ≤ (quotedY s fold n i).2 ∧ (quotedY s fold n i).2 ≤ s.size ∧ sumP (quotedY s fold n i).1 ≤ ((quotedY s fold n i).2 - i) * PK ∧ (quotedY s fold n i).1.length ≤ (quotedY s fold n i).2 - i
 | 0,i,h => ⟨Nat.le_refl _,h,Nat.zero_le _,Nat.zero_le _⟩
 | n + 1,i,h => by
  rw [quotedY]
  split
  ·exact ⟨Nat.le_refl _,h,Nat.zero_le _,Nat.zero_le _⟩
  rename_i hlt
  split
  ·rename_i hp
   have := pre_fits hp
   rw [left_length] at this
   simp only [List.length_cons,List.length_nil] at this
   exact ⟨by simp only;omega,by simp only;omega,Nat.zero_le _,Nat.zero_le _⟩
  ·have h1 := decode_width s i (by omega)
   have h2 := decode_some s i (by omega)
   obtain ⟨a,b,c,d⟩ := quoted_more s fold n (i + (Utf8.decode s i).2) h1
   have e : sumP (atomY (Utf8.decode s i).1 fold :: (quotedY s fold n (i + (Utf8.decode s i).2)).1) = partsR (atomY (Utf8.decode s i).1 fold) + sumP (quotedY s fold n (i + (Utf8.decode s i).2)).1 := by simp [sumP]
   have g := atomY_parts (Utf8.decode s i).1 fold
   refine ⟨by simp only;omega,b,?_,by simp only [List.length_cons];omega⟩
   simp only
   rw [e]
   rw [PK_is] at c ⊢
   omega
theorem escaped_more {s : ByteArray} {i : Nat} {f : Int} {ns : List (List UInt8)} (hi : i < s.size) (hf : FlagsIn f) : SomeY s i ns.length (escapedY s i f ns) := by
 have h := escS_ok s i (flagY f 32) hi
 unfold escapedY
 revert h
 cases escS s i (flagY f 32) with
 | bad c till => exact fun _ => trivial
 | esc k r l a n =>
  rintro ⟨h1,h2,h3,h4,h5⟩
  simp only
  split
  ·exact some_leaf h1 h2 hf (atomY_parts _ _)
  split
  ·refine some_leaf h1 h2 hf (setY_parts ?_)
   split
   ·exact setB_right _
   ·exact h5
  split
  ·exact some_leaf h1 h2 hf (atY_parts _)
  ·obtain ⟨a1,b1,c1,d1⟩ := quoted_more s (flagY f 1) s.size n h2
   exact ⟨by omega,b1,hf,Nat.le_trans c1 (Nat.mul_le_mul_right _ (by omega)),by omega,by omega⟩
theorem classed_more {s : ByteArray} {i : Nat} {f : Int} {ns : List (List UInt8)} (hi : i < s.size) (hf : FlagsIn f) : SomeY s i ns.length (classedY s i f ns) := by
 have h := classS_ok s i (flagY f 32) hi
 unfold classedY
 revert h
 cases classS s i (flagY f 32) with
 | bad c a b => exact fun _ => trivial
 | item all n => exact fun h => some_leaf h.1 h.2 hf (setY_parts (setB_right _))
def RepMore (s : ByteArray) (i : Nat) (f : Int) (ns : List (List UInt8)) (l : List Tr) (x : Tr) : PR → Prop
 | .ok l2 i2 f2 ns2 => i < i2 ∧ i2 ≤ s.size ∧ FlagsIn f2 ∧ sumP l2 ≤ sumP l + partsR x + 1 ∧ ns2 = ns ∧ l2.length = l.length + 1
 | .bad _ _ _ => True
theorem repeat_more {s : ByteArray} {i k : Nat} {f c a b : Int} {ns : List (List UInt8)} {l : List Tr} {x : Tr} (hr : repY s i = some (c,a,b,k)) (hf : FlagsIn f) :
  RepMore s i f ns l x (repeatY s i f ns l x c a b k) := by
 obtain ⟨g1,g2,-⟩ := rep_ok hr
 unfold repeatY
 split
 ·trivial
 simp only
 split
 ·rename_i h
  split
  ·rename_i hz
   have := lazy_in hz
   refine ⟨by omega,by omega,hf,?_,rfl,by simp⟩
   rw [sumP_append,sumP_one,repY_parts]
   omega
  ·refine ⟨g1,g2,hf,?_,rfl,by simp⟩
   rw [sumP_append,sumP_one,repY_parts]
   omega
 ·split
  ·trivial
  ·trivial
theorem sumP_last {l : List Tr} {x : Tr} (h : l.getLast? = some x) : sumP l.dropLast + partsR x = sumP l ∧ l.dropLast.length + 1 = l.length := by
 have e : l = l.dropLast ++ [x] := by
  have hne : l ≠ [] := by
   intro e
   rw [e] at h
   cases h
  have hx : l.getLast hne = x := Option.some.inj ((List.getLast?_eq_some_getLast hne).symm.trans h)
  rw [← hx]
  exact (List.dropLast_concat_getLast hne).symm
 refine ⟨?_,?_⟩
 ·conv => rhs;rw [e]
  rw [sumP_append,sumP_one]
 ·have := congrArg List.length e
  simpa using this.symm
theorem read_more (s : ByteArray) : ∀ n : Nat,
  (∀ (i : Nat) (f : Int) (ns : List (List UInt8)) (acc : List Tr),i ≤ s.size → FlagsIn f → MoreY s i (sumP acc + 1) ns.length (acc.length + 1) (partsY s n i f ns acc)) ∧
  (∀ (i : Nat) (f : Int) (ns : List (List UInt8)) (l : List Tr),i ≤ s.size → FlagsIn f → MoreY s i (sumP l) ns.length l.length (partY s n i f ns l)) ∧
  (∀ (i : Nat) (f : Int) (ns : List (List UInt8)),i < s.size → FlagsIn f → SomeY s i ns.length (atomsY s n i f ns))
 | 0 => by
  refine ⟨fun i f ns acc _ _ => ?_,fun i f ns l _ _ => ?_,fun i f ns _ _ => ?_⟩
  ·rw [partsY];trivial
  ·rw [partY];trivial
  ·rw [atomsY];trivial
 | n + 1 => by
  obtain ⟨ih1,ih2,ih3⟩ := read_more s n
  refine ⟨fun i f ns acc hi hf => ?_,fun i f ns l hi hf => ?_,fun i f ns hi hf => ?_⟩
  ·have h := ih2 i f ns [] hi hf
   rw [partsY]
   revert h
   cases partY s n i f ns [] with
   | bad c a b => exact fun _ => trivial
   | ok l i2 f2 ns2 =>
    rintro ⟨h1,h2,h3,h4,h5,h6⟩
    simp only
    have hc := catY_parts l
    rw [sumP_nil] at h4
    split
    ·rename_i h124
     have hlt := head_ge h124 (by decide)
     have g := ih1 (i2 + 1) f2 ns2 (acc ++ [catY l]) hlt h3
     revert g
     cases partsY s n (i2 + 1) f2 ns2 (acc ++ [catY l]) with
     | bad c a b => exact fun _ => trivial
     | ok l3 i3 f3 ns3 =>
      rintro ⟨k1,k2,k3,k4,k5,k6⟩
      rw [sumP_append,sumP_one] at k4
      rw [List.length_append,List.length_singleton] at k6
      refine ⟨by omega,k2,k3,?_,by omega,by omega⟩
      rw [PK_is] at h4 k4 ⊢
      omega
    ·refine ⟨h1,h2,h3,?_,h5,by rw [List.length_append,List.length_singleton];omega⟩
     rw [sumP_append,sumP_one]
     omega
  ·rw [partY]
   split
   ·exact ⟨Nat.le_refl _,hi,hf,by omega,by omega,by omega⟩
   rename_i hst
   have hlt : i < s.size := by
    rcases Nat.lt_or_ge i s.size with h | h
    ·exact h
    ·exact absurd (.inl h) hst
   split
   ·rename_i c a b k hr
    split
    ·trivial
    ·rename_i x hx
     have h := repeat_more (ns := ns) (l := l.dropLast) (x := x) hr hf
     obtain ⟨e1,e2⟩ := sumP_last hx
     revert h
     cases repeatY s i f ns l.dropLast x c a b k with
     | bad c a b => exact fun _ => trivial
     | ok l2 i2 f2 ns2 =>
      rintro ⟨h1,h2,h3,h4,rfl,h6⟩
      simp only
      have g := ih2 i2 f2 ns2 l2 h2 h3
      revert g
      cases partY s n i2 f2 ns2 l2 with
      | bad c a b => exact fun _ => trivial
      | ok l3 i3 f3 ns3 =>
       rintro ⟨k1,k2,k3,k4,k5,k6⟩
       refine ⟨by omega,k2,k3,?_,by omega,by omega⟩
       rw [PK_is] at k4 ⊢
       omega
   ·have h := ih3 i f ns hlt hf
    revert h
    cases atomsY s n i f ns with
    | bad c a b => exact fun _ => trivial
    | ok xs i2 f2 ns2 =>
     rintro ⟨h1,h2,h3,h4,h5,h6⟩
     simp only
     have g := ih2 i2 f2 ns2 (l ++ xs) h2 h3
     revert g
     cases partY s n i2 f2 ns2 (l ++ xs) with
     | bad c a b => exact fun _ => trivial
     | ok l3 i3 f3 ns3 =>
      rintro ⟨k1,k2,k3,k4,k5,k6⟩
      rw [sumP_append] at k4
      rw [List.length_append] at k6
      refine ⟨by omega,k2,k3,?_,by omega,by omega⟩
      rw [PK_is] at h4 k4 ⊢
      omega
  ·rw [atomsY]
   split
   ·have ho := open_ok (ns := ns) hi hf
    revert ho
    cases openY s i f ns with
    | bad c a b => exact fun _ => trivial
    | flags g k =>
     rintro ⟨h1,h2,h3⟩
     exact ⟨h1,h2,h3,Nat.zero_le _,by omega,Nat.zero_le _⟩
    | cap nm k =>
     rintro ⟨h1,h2,h3⟩
     have g := ih1 k f (ns ++ [nm]) [] h2 hf
     simp only
     revert g
     cases partsY s n k f (ns ++ [nm]) [] with
     | bad c a b => exact fun _ => trivial
     | ok l i2 f2 ns2 =>
      rintro ⟨k1,k2,k3,k4,k5,k6⟩
      simp only
      split
      ·rename_i h41
       have hlt := head_ge h41 (by decide)
       have ha := altY_parts l
       rw [List.length_append,List.length_singleton] at k5
       refine ⟨by omega,hlt,hf,?_,by omega,by simp;omega⟩
       rw [sumP_one,capY_parts]
       rw [sumP_nil] at k4
       rw [PK_is] at k4 ⊢
       omega
      ·trivial
    | under g k =>
     rintro ⟨h1,h2,h3⟩
     have g' := ih1 k g ns [] h2 h3
     simp only
     revert g'
     cases partsY s n k g ns [] with
     | bad c a b => exact fun _ => trivial
     | ok l i2 f2 ns2 =>
      rintro ⟨k1,k2,k3,k4,k5,k6⟩
      simp only
      split
      ·rename_i h41
       have hlt := head_ge h41 (by decide)
       have ha := altY_parts l
       refine ⟨by omega,hlt,hf,?_,by omega,by simp;omega⟩
       rw [sumP_one]
       rw [sumP_nil] at k4
       rw [PK_is] at k4 ⊢
       omega
      ·trivial
   split
   ·exact classed_more hi hf
   split
   ·exact escaped_more hi hf
   ·exact plain_more hi hf
theorem run8_tree {w : World} {b : Nat} {cs : Array Value} (h : Whole w b 29 cs) (hn : cs.size = 10) : (loadVar 29 ⟨b,0,none⟩).run Tryz.prog w = .ok (.agg cs) w :=
 run_loadVar_row w b _ _ cs (0,0) _ h Tryz.underlying29 rfl (by rw [hn];kernel_rfl)
theorem results_rt {fn : Func} {p q : Tmp} (h : fn.results = #[.cell p 29,.tmp q]) (tmps : Array Value) {w : World} {a : Nat} {es : Array Value} (ha : tmps.getD p undef = .pointer (some ⟨a,0,none⟩)) (hE : Whole w a 29 es) (he : es.size = 10) :
  (results fn tmps).run Tryz.prog w = .ok (.tuple #[.agg es,tmps.getD q undef]) w := by
 have ha' : tmps[p]?.getD undef = .pointer (some ⟨a,0,none⟩) := by simpa using ha
 simp [results,h,ha',asAddr,run8_tree hE he]
theorem treeV_ret {f : Func} {p : Tmp} (hres : f.results = #[.cell p 29]) {post : Ending → World → Prop} {w2 : World} {tmps : Array Value} (b : Nat) {x0 x1 x2 x3 x4 x5 x6 x7 x8 x9 y0 y1 y2 y3 y4 y5 y6 y7 y8 y9 : Value} (hp : tmps.getD p undef = .pointer (some ⟨b,0,none⟩))
  (hR : Whole w2 b 29 #[y0,y1,y2,y3,y4,y5,y6,y7,y8,y9]) (hpost : post (.returned (.agg #[x0,x1,x2,x3,x4,x5,x6,x7,x8,x9])) (set10 w2 b x0 x1 x2 x3 x4 x5 x6 x7 x8 x9)) : bodyPost Tryz.prog f post Exit.ret { tmps := tmps,defers := [] } (set10 w2 b x0 x1 x2 x3 x4 x5 x6 x7 x8 x9) :=
 bodyPost_ret (v := .agg #[x0,x1,x2,x3,x4,x5,x6,x7,x8,x9]) (results_cell_row hres tmps _ b 29 _ (0,0) _ hp (set10_whole hR _ _ _ _ _ _ _ _ _ _) Tryz.underlying29 rfl (by kernel_rfl)) rfl hpost
theorem treeB_ret {f : Func} {p q : Tmp} (hres : f.results = #[.cell p 29,.tmp q]) {post : Ending → World → Prop} {w2 : World} {tmps : Array Value} (b : Nat) (B : Bool) {x0 x1 x2 x3 x4 x5 x6 x7 x8 x9 y0 y1 y2 y3 y4 y5 y6 y7 y8 y9 : Value} (hp : tmps.getD p undef = .pointer (some ⟨b,0,none⟩)) (hq : tmps.getD q undef = .bool B)
  (hR : Whole w2 b 29 #[y0,y1,y2,y3,y4,y5,y6,y7,y8,y9]) (hpost : post (.returned (.tuple #[.agg #[x0,x1,x2,x3,x4,x5,x6,x7,x8,x9],.bool B])) (set10 w2 b x0 x1 x2 x3 x4 x5 x6 x7 x8 x9)) : bodyPost Tryz.prog f post Exit.ret { tmps := tmps,defers := [] } (set10 w2 b x0 x1 x2 x3 x4 x5 x6 x7 x8 x9) := by
 refine bodyPost_ret (v := .tuple #[.agg #[x0,x1,x2,x3,x4,x5,x6,x7,x8,x9],.bool B]) ?_ rfl hpost
 have := results_rt hres tmps hp (set10_whole hR x0 x1 x2 x3 x4 x5 x6 x7 x8 x9) rfl
 rwa [hq] at this
theorem treF_leaf (G : Nat → Prop) (w : World) (d : Fld) (sv : Value) (hS : Rgs w sv d.set) (hG : Foot G sv d.set) (hF : FldOk d) : TreF G w (.mk d []) (.agg (treC d (.slice none 0 0) sv)) := by
 rw [treF_iff]
 exact ⟨_,_,rfl,⟨hS,hG⟩,hF,none,0,rfl,Nat.le_refl _,Nat.zero_le _,Nat.zero_le _,fun _ => rfl,.inl rfl⟩
theorem rgs8_none (w : World) : Rgs w (.slice none 0 0) [] := ⟨none,0,rfl,Nat.le_refl _,Nat.zero_le _,fun _ => rfl,.inl rfl,fun _ h => by cases h⟩
theorem treF_none (G : Nat → Prop) (w : World) (d : Fld) (hd : d.set = []) (hF : FldOk d) : TreF G w (.mk d []) (.agg (treC d (.slice none 0 0) (.slice none 0 0))) :=
 treF_leaf G w d _ (by rw [hd];exact rgs8_none w) (.inl hd) hF
theorem fld_ok {op c a k m M : Int} {l : List (Int × Int)} {nm : ByteArray} {z : Bool} (h1 : -1000 ≤ op ∧ op ≤ 2000) (h2 : I32 c) (h3 : -1000 ≤ a ∧ a ≤ 2000) (h4 : -1000 ≤ k ∧ k ≤ 2000) (h5 : -1000 ≤ m ∧ m ≤ 2000) (h6 : -1000 ≤ M ∧ M ≤ 2000) (h7 : nm.size ≤ 4503599627370496) (h8 : l.length ≤ 17592186044416) : FldOk ⟨op,c,l,a,k,nm,m,M,z⟩ := by
 unfold FldOk I64
 exact ⟨⟨by simp only;omega,by simp only;omega⟩,h2,⟨by simp only;omega,by simp only;omega⟩,⟨by simp only;omega,by simp only;omega⟩,⟨by simp only;omega,by simp only;omega⟩,⟨by simp only;omega,by simp only;omega⟩,h7,h8⟩
theorem fldY_ok {op : Int} (h0 : 0 ≤ op) (h1 : op ≤ 12) : FldOk (fldY op) := by
 unfold FldOk fldY I64 I32
 refine ⟨⟨by simp only;omega,by simp only;omega⟩,by simp only;omega,by simp only;omega,by simp only;omega,by simp only;omega,by simp only;omega,Nat.zero_le _,Nat.zero_le _⟩
theorem OwnT.kdsG {F G : Nat → Prop} {w : World} {B : Nat} {v : Value} {T : List Tr} (h : OwnT F w B v T) (hn : T.length ≤ 1172812402961) (h1 : ∀ b,v.ownBlock = some b → G b) (h2 : ∀ b,F b → G b) : KdsF G w T v := by
 obtain ⟨A,c,k1,k2,k3,k4,k5,k6⟩ := (h.kdsE hn).mono (G := G) fun b hb _ => h2 b hb.2
 refine ⟨A,c,k1,k2,k3,k4,k5,k6.imp id ?_⟩
 rintro ⟨b,o,e,hc⟩
 exact ⟨b,o,e,h1 b (by rw [k1,e];rfl),hc⟩
def joinY (op : Int) : List Tr → Tr
 | [] => .mk (fldY 2) []
 | [x] => x
 | l => .mk (fldY op) l
theorem join_cat (l : List Tr) : joinY 11 l = catY l := by
 match l with
 | [] => rfl
 | [x] => rfl
 | x :: y :: l => rfl
theorem join_alt {l : List Tr} (h : l ≠ []) : joinY 12 l = altY l := by
 match l,h with
 | [x],_ => rfl
 | x :: y :: l,_ => rfl
theorem treF_node {G : Nat → Prop} {w : World} {d : Fld} {l : List Tr} {kv : Value} (hK : KdsF G w l kv) (hd : d.set = []) (hF : FldOk d) : TreF G w (.mk d l) (.agg (treC d kv (.slice none 0 0))) := by
 rw [treF_iff]
 exact ⟨_,_,rfl,⟨by show Rgs w _ d.set;rw [hd];exact rgs8_none w,.inl hd⟩,hF,hK⟩
theorem box_tree (w : World) (cs : Array Value) : Whole (w.alloc (.cells cs 29)) w.heap.size 29 cs ∧ Below w.heap.size w (w.alloc (.cells cs 29)) ∧ (w.alloc (.cells cs 29)).heap.size = w.heap.size + 1 :=
 ⟨heap_alloc_new w _,(Below.refl _ w).alloc (Nat.le_refl _) _,by simp⟩
theorem box_flags (w : World) (f : Int) (cs : Array Value) : ((w.alloc (.cells #[.int .i64 f] 38)).alloc (.cells cs 29)).cell? ⟨w.heap.size,0,none⟩ = some (.int .i64 f) ∧ Whole ((w.alloc (.cells #[.int .i64 f] 38)).alloc (.cells cs 29)) (w.heap.size + 1) 29 cs ∧
  Below w.heap.size w ((w.alloc (.cells #[.int .i64 f] 38)).alloc (.cells cs 29)) ∧ ((w.alloc (.cells #[.int .i64 f] 38)).alloc (.cells cs 29)).heap.size = w.heap.size + 2 := by
 refine ⟨?_,?_,((Below.refl _ w).alloc (Nat.le_refl _) _).alloc (by simp) _,by simp⟩
 ·have h : Whole ((w.alloc (.cells #[.int .i64 f] 38)).alloc (.cells cs 29)) w.heap.size 38 #[.int .i64 f] := Whole.alloc (heap_alloc_new w _) _
  exact h.cell 0
 ·have := heap_alloc_new (w.alloc (.cells #[.int .i64 f] 38)) (.cells cs 29)
  simpa [Whole] using this
theorem treF_set10 {G : Nat → Prop} {w2 : World} {t : Tr} {v : Value} {b : Nat} (h : TreF G w2 t v) (hG : ∀ k,G k → k ≠ b) (x0 x1 x2 x3 x4 x5 x6 x7 x8 x9 : Value) : TreF G (set10 w2 b x0 x1 x2 x3 x4 x5 x6 x7 x8 x9) t v :=
 h.same (fun k hk hl => set10_same _ _ _ _ _ _ _ _ _ _ _ _ k (hG k hk) hl) (fun k hk _ => hk)
end Go.Proofs.YthnddabcmhplkaaGreatDoor
namespace Go.Proofs.YthnddabcmhplkaaGreatDoor
open Go Go.RowKit
structure Put (s t : ByteArray) (d : Nat) (z : List UInt8) : Prop where
 left : ∀ i,i ≤ s.size → leftB t (i + d) = leftB s i ++ z
 size : t.size = s.size + d + z.length
 tail : z = [] ∨ z = [41,107]
variable {s t : ByteArray} {d : Nat} {z : List UInt8}
theorem Put.shift (h : Put s t d []) : Shift s t d 0 where
 left := fun i _ => by
  rcases Nat.lt_or_ge s.size i with hi | hi
  ·rw [left_nil t (i + d) (by rw [h.size,List.length_nil];omega),left_nil s i (by omega)]
  ·have := h.left i hi
   simpa using this
 size := by rw [h.size];simp
theorem Put.plus (h : Put s t d z) (i k : Nat) (hi : i + k ≤ s.size) : leftB t (i + d + k) = leftB s (i + k) ++ z := by
 rw [show i + d + k = i + k + d by omega]
 exact h.left _ hi
theorem head_app9 {l z : List UInt8} (h : l ≠ []) : headI (l ++ z) = headI l := by
 cases l with
 | nil => exact absurd rfl h
 | cons c l => rfl
theorem left_ne {s : ByteArray} {i : Nat} (h : i < s.size) : leftB s i ≠ [] := by rw [left_cons s i h];simp
theorem Put.head (h : Put s t d z) (i : Nat) (hi : i < s.size) : headI (leftB t (i + d)) = headI (leftB s i) := by
 rw [h.left i (by omega),head_app9 (left_ne hi)]
theorem Put.headEnd (h : Put s t d z) : headI (leftB t (s.size + d)) = -1 ∨ headI (leftB t (s.size + d)) = 41 := by
 rw [h.left s.size (Nat.le_refl _),left_nil s s.size (Nat.le_refl _)]
 rcases h.tail with rfl | rfl
 ·exact .inl rfl
 ·exact .inr rfl
theorem Put.is (h : Put s t d z) (i : Nat) (hi : i ≤ s.size) (c : Int) (hc : 0 ≤ c) (h41 : c ≠ 41) : headI (leftB t (i + d)) = c ↔ headI (leftB s i) = c := by
 rcases Nat.lt_or_ge i s.size with hl | hl
 ·rw [h.head i hl]
 ·obtain rfl : i = s.size := by omega
  have h1 := h.headEnd
  rw [head_end s s.size (Nat.le_refl _)]
  omega
theorem pre_app {p l z : List UInt8} (hp : (41 : UInt8) ∉ p) (hz : z = [] ∨ z = [41,107]) : preB p (l ++ z) = preB p l := by
 unfold preB
 rw [Bool.eq_iff_iff,beq_iff_eq,beq_iff_eq]
 rcases Nat.lt_or_ge l.length p.length with hl | hl
 ·rcases hz with rfl | rfl
  ·simp
  ·constructor
   ·intro e
    have : (41 : UInt8) ∈ (l ++ [41,107]).take p.length := by
     rw [List.take_append]
     refine List.mem_append.2 (.inr ?_)
     obtain ⟨m,hm⟩ : ∃ m,p.length - l.length = m + 1 := ⟨p.length - l.length - 1,by omega⟩
     rw [hm]
     simp
    rw [e] at this
    exact absurd this hp
   ·intro e
    have := congrArg List.length e
    rw [List.length_take] at this
    omega
 ·rw [List.take_append_of_le_length hl]
theorem Put.pre (h : Put s t d z) (i : Nat) (hi : i ≤ s.size) {p : List UInt8} (hp : (41 : UInt8) ∉ p) : preB p (leftB t (i + d)) = preB p (leftB s i) := by
 rw [h.left i hi,pre_app hp h.tail]
theorem digs_app (hz : z = [] ∨ z = [41,107]) : ∀ (l : List UInt8) (n : Int),digsFrom (l ++ z) n = digsFrom l n
 | [],n => by
  rcases hz with rfl | rfl
  ·rfl
  ·simp [digsFrom,isDig]
 | c :: l,n => by
  rw [List.cons_append,digsFrom,digsFrom,digs_app hz l]
theorem hexs_app (hz : z = [] ∨ z = [41,107]) : ∀ (l : List UInt8) (n : Int),hexsFrom (l ++ z) n = hexsFrom l n
 | [],n => by
  rcases hz with rfl | rfl
  ·rfl
  ·show hexsFrom (41 :: [107]) n = (n,0)
   rw [hexsFrom,if_neg (by decide)]
 | c :: l,n => by
  rw [List.cons_append,hexsFrom,hexsFrom,hexs_app hz l]
theorem col_app (hz : z = [] ∨ z = [41,107]) : ∀ (l : List UInt8),colN (l ++ z) = colN l
 | [] => by
  rcases hz with rfl | rfl
  ·rfl
  ·show colN (41 :: [107]) = 0
   rw [colN,if_neg (by decide)]
 | c :: l => by
  rw [List.cons_append,colN,colN,col_app hz l]
theorem gt_app (z : List UInt8) : ∀ (l : List UInt8),gtN l < l.length → gtN (l ++ z) = gtN l
 | [],h => by simp [gtN] at h
 | c :: l,h => by
  rw [List.cons_append,gtN,gtN]
  rw [gtN] at h
  split
  ·rfl
  ·rename_i hc
   rw [if_neg hc] at h
   rw [gt_app z l (by simpa using h)]
theorem br_app (z : List UInt8) : ∀ (l : List UInt8),brN l < l.length → brN (l ++ z) = brN l
 | [],h => by simp [brN] at h
 | c :: l,h => by
  rw [List.cons_append,brN,brN]
  rw [brN] at h
  split
  ·rfl
  ·rename_i hc
   rw [if_neg hc] at h
   rw [br_app z l (by simpa using h)]
theorem flags_app (z : List UInt8) : ∀ (l : List UInt8) (f : Int) (off more : Bool) (g : Int × Bool),(flagsFrom l f off more).1 = some g → flagsFrom (l ++ z) f off more = flagsFrom l f off more
 | [],f,off,more,g,h => by cases h
 | c :: l,f,off,more,g,h => by
  rw [List.cons_append,flagsFrom,flagsFrom]
  rw [flagsFrom] at h
  split
  ·rename_i h1
   rw [if_pos h1] at h
   rw [flags_app z l _ _ _ g h]
  ·rename_i h1
   rw [if_neg h1] at h
   split
   ·rename_i h2
    rw [if_pos h2] at h
    rw [flags_app z l _ _ _ g h]
   ·rfl
theorem Put.get (h : Put s t d z) (i k : Nat) (hk : i + k < s.size) : t.get! (i + d + k) = s.get! (i + k) := by
 have h1 := h.left (i + k) (by omega)
 have hst : i + d + k < t.size := by rw [h.size];omega
 rw [show i + k + d = i + d + k by omega,left_cons t _ hst,left_cons s _ hk,List.cons_append] at h1
 have h2 := (List.cons.inj h1).1
 have g : ∀ (b : ByteArray) (j : Nat) (hj : j < b.size),b.get! j = b[j] := fun b j hj => by
  obtain ⟨a⟩ := b
  show a[j]! = a[j]
  exact getElem!_pos a j hj
 rw [g t _ hst,g s _ hk]
 exact h2
theorem Put.cont (h : Put s t d z) (i k : Nat) (hi : i ≤ s.size) : (decide (i + d + k < t.size) && ((t.get! (i + d + k)).toNat / 64 == 2)) = (decide (i + k < s.size) && ((s.get! (i + k)).toNat / 64 == 2)) := by
 rcases Nat.lt_or_ge (i + k) s.size with hk | hk
 ·rw [h.get i k hk,decide_eq_true (show i + d + k < t.size by rw [h.size];omega),decide_eq_true hk]
 ·rw [decide_eq_false (show ¬ i + k < s.size by omega),Bool.false_and]
  rcases Nat.lt_or_ge (i + d + k) t.size with ht | ht
  ·rw [decide_eq_true ht,Bool.true_and]
   have h1 := h.left s.size (Nat.le_refl _)
   rw [left_nil s s.size (Nat.le_refl _),List.nil_append] at h1
   have h2 := left_drop t (s.size + d) (i + k - s.size)
   rw [show s.size + d + (i + k - s.size) = i + d + k by omega,h1,left_cons t _ ht] at h2
   have g : t.get! (i + d + k) = t[i + d + k] := by
    obtain ⟨a⟩ := t
    show a[i + d + k]! = a[i + d + k]
    exact getElem!_pos a _ ht
   rw [g]
   have hm : t[i + d + k] ∈ z := List.mem_of_mem_drop (i := i + k - s.size) (by rw [h2];simp)
   rcases h.tail with rfl | rfl
   ·cases hm
   ·have : t[i + d + k] = 41 ∨ t[i + d + k] = 107 := by simpa using hm
    rcases this with e | e <;> rw [e] <;> decide
  ·rw [decide_eq_false (by omega),Bool.false_and]
def decQ (b0 b1 b2 b3 : Nat) (c1 c2 c3 : Bool) : Nat × Nat :=
 if b0 < 0x80 then (b0,1)
 else if b0 / 32 == 6 && c1 then (if (b0 % 32) * 64 + b1 % 64 ≥ 0x80 then ((b0 % 32) * 64 + b1 % 64,2) else (Utf8.runeError,1))
 else if b0 / 16 == 14 && c1 && c2 then (if (b0 % 16) * 4096 + (b1 % 64) * 64 + b2 % 64 ≥ 0x800 && Utf8.valid ((b0 % 16) * 4096 + (b1 % 64) * 64 + b2 % 64 : Nat) then ((b0 % 16) * 4096 + (b1 % 64) * 64 + b2 % 64,3) else (Utf8.runeError,1))
 else if b0 / 8 == 30 && c1 && c2 && c3 then (if (b0 % 8) * 262144 + (b1 % 64) * 4096 + (b2 % 64) * 64 + b3 % 64 ≥ 0x10000 && Utf8.valid ((b0 % 8) * 262144 + (b1 % 64) * 4096 + (b2 % 64) * 64 + b3 % 64 : Nat) then ((b0 % 8) * 262144 + (b1 % 64) * 4096 + (b2 % 64) * 64 + b3 % 64,4) else (Utf8.runeError,1))
 else (Utf8.runeError,1)
theorem decode_q (s : ByteArray) (i : Nat) : Utf8.decode s i = decQ (s.get! (i + 0)).toNat (s.get! (i + 1)).toNat (s.get! (i + 2)).toNat (s.get! (i + 3)).toNat (decide (i + 1 < s.size) && ((s.get! (i + 1)).toNat / 64 == 2)) (decide (i + 2 < s.size) && ((s.get! (i + 2)).toNat / 64 == 2)) (decide (i + 3 < s.size) && ((s.get! (i + 3)).toNat / 64 == 2)) := rfl
theorem decQ_no1 (b0 b1 b2 b3 a1 a2 a3 : Nat) (c2 c3 : Bool) : decQ b0 b1 b2 b3 false c2 c3 = decQ b0 a1 a2 a3 false c2 c3 := by
 unfold decQ
 simp only [Bool.and_false,Bool.false_and,Bool.false_eq_true,if_false]
theorem decQ_no2 (b0 b1 b2 b3 a2 a3 : Nat) (c1 c3 : Bool) : decQ b0 b1 b2 b3 c1 false c3 = decQ b0 b1 a2 a3 c1 false c3 := by
 unfold decQ
 simp only [Bool.and_false,Bool.false_and,Bool.false_eq_true,if_false]
theorem decQ_no3 (b0 b1 b2 b3 a3 : Nat) (c1 c2 : Bool) : decQ b0 b1 b2 b3 c1 c2 false = decQ b0 b1 b2 a3 c1 c2 false := by
 unfold decQ
 simp only [Bool.and_false,Bool.false_eq_true,if_false]
theorem Put.decode (h : Put s t d z) (i : Nat) (hi : i < s.size) : Utf8.decode t (i + d) = Utf8.decode s i := by
 have e : ∀ k,(decide (i + k < s.size) && ((s.get! (i + k)).toNat / 64 == 2)) = true → t.get! (i + d + k) = s.get! (i + k) := fun k hk => h.get i k (by
  rw [Bool.and_eq_true,decide_eq_true_iff] at hk
  exact hk.1)
 rw [decode_q,decode_q,h.get i 0 hi,h.cont i 1 (by omega),h.cont i 2 (by omega),h.cont i 3 (by omega)]
 cases q1 : (decide (i + 1 < s.size) && ((s.get! (i + 1)).toNat / 64 == 2))
 ·exact decQ_no1 _ _ _ _ _ _ _ _ _
 rw [e 1 q1]
 cases q2 : (decide (i + 2 < s.size) && ((s.get! (i + 2)).toNat / 64 == 2))
 ·exact decQ_no2 _ _ _ _ _ _ _ _
 rw [e 2 q2]
 cases q3 : (decide (i + 3 < s.size) && ((s.get! (i + 3)).toNat / 64 == 2))
 ·exact decQ_no3 _ _ _ _ _ _ _
 rw [e 3 q3]
theorem count_put (h : Put s t d z) (i : Nat) (hi : i ≤ s.size) : countS t (i + d) = (countS s i).map fun q => (q.1,q.2.1,q.2.2 + d) := by
 by_cases h0 : headI (leftB s i) = 123
 ·have h0' := (h.is i hi 123 (by decide) (by decide)).2 h0
  have hlt := head_ge h0 (by decide)
  have e1 : digsFrom (leftB t (i + d + 1)) 0 = digsFrom (leftB s (i + 1)) 0 := by rw [h.plus i 1 (by omega),digs_app h.tail]
  obtain ⟨⟨a,k⟩,hk⟩ : ∃ q,digsFrom (leftB s (i + 1)) 0 = q := ⟨_,rfl⟩
  have hf := digs_fit (leftB s (i + 1)) 0
  rw [hk,left_length] at hf
  simp only at hf
  obtain ⟨j,hj⟩ : ∃ j,i + 1 + k = j := ⟨_,rfl⟩
  by_cases h44 : headI (leftB s j) = 44
  ·have hjl := head_ge h44 (by decide)
   have e2 : digsFrom (leftB t (j + d + 1)) 0 = digsFrom (leftB s (j + 1)) 0 := by rw [h.plus j 1 (by omega),digs_app h.tail]
   obtain ⟨⟨b,l⟩,hl⟩ : ∃ q,digsFrom (leftB s (j + 1)) 0 = q := ⟨_,rfl⟩
   have hg := digs_fit (leftB s (j + 1)) 0
   rw [hl,left_length] at hg
   simp only at hg
   rw [countS_eq h0 hk hj hl rfl,countS_eq h0' (e1.trans hk) (show i + d + 1 + k = j + d by omega) (e2.trans hl) rfl]
   rw [show headI (leftB t (j + d)) = headI (leftB s j) from h.head j hjl]
   rw [show j + d + 1 = j + 1 + d by omega,show j + 1 + d + l = j + 1 + l + d by omega]
   simp only [h.is (j + 1) (by omega) 125 (by decide) (by decide),h.is (j + 1 + l) (by omega) 125 (by decide) (by decide)]
   repeat' split
   all_goals first | rfl | (simp only [Option.map_some];congr 3;omega)
  ·have h44' : ¬ headI (leftB t (j + d)) = 44 := fun e => h44 ((h.is j (by omega) 44 (by decide) (by decide)).1 e)
   unfold countS
   rw [hk,e1,hk]
   simp only [h0,h0',show i + d + 1 + k = j + d by omega,hj,h44,h44',h.is j (by omega) 125 (by decide) (by decide),not_true_eq_false,not_false_eq_true,if_true,if_false]
   repeat' split
   all_goals first | rfl | (simp only [Option.map_some];congr 3;omega)
 ·unfold countS
  rw [if_pos h0,if_pos fun e => h0 ((h.is i hi 123 (by decide) (by decide)).1 e)]
  rfl
theorem rep_put (h : Put s t d z) (i : Nat) (hi : i ≤ s.size) : repY t (i + d) = (repY s i).map fun q => (q.1,q.2.1,q.2.2.1,q.2.2.2 + d) := by
 unfold repY
 have g42 := h.is i hi 42 (by decide) (by decide)
 have g43 := h.is i hi 43 (by decide) (by decide)
 have g63 := h.is i hi 63 (by decide) (by decide)
 by_cases hq : headI (leftB s i) = 42 ∨ headI (leftB s i) = 43 ∨ headI (leftB s i) = 63
 ·rw [if_pos hq,if_pos (by rw [g42,g43,g63];exact hq),h.head i (by rcases hq with e | e | e <;> exact head_ge e (by decide))]
  simp only [Option.map_some]
  congr 4
  omega
 ·rw [if_neg hq,if_neg (by rw [g42,g43,g63];exact hq),count_put h i hi]
  cases countS s i with
  | none => rfl
  | some q => rfl
theorem lazy_put (h : Put s t d z) (i : Nat) (hi : i ≤ s.size) (f : Int) : lazyY t (i + d) f = lazyY s i f := by
 unfold lazyY
 rw [decide_eq_decide.2 (h.is i hi 63 (by decide) (by decide))]
theorem from_put (h : Put s t d z) (i : Nat) (hi : i ≤ s.size) : fromS t (i + d) = (fromS s i).map (· + d) := by
 unfold fromS
 rw [h.pre i hi (by decide),h.pre i hi (by decide)]
 split
 ·simp only [Option.map_some]
  congr 1
  omega
 split
 ·simp only [Option.map_some]
  congr 1
  omega
 ·rfl
theorem name_put (h : Put s t d z) (i : Nat) (hi : i ≤ s.size) {q : List UInt8 × Nat} (hn : nameS s i = some q) : nameS t (i + d) = some (q.1,q.2 + d) := by
 unfold nameS at hn ⊢
 rw [from_put h i hi]
 cases hf : fromS s i with
 | none => rw [hf] at hn;cases hn
 | some f =>
  rw [hf] at hn
  simp only [Option.map_some] at hn ⊢
  split at hn
  ·rename_i hc
   have hg : endS t (i + d) = endS s i + d := by
    unfold endS
    rw [h.left i hi,gt_app z _ (by
     have := hc.1
     unfold endS at this
     rw [left_length]
     omega)]
    omega
   have hfl : f ≤ s.size := by omega
   have ht : (leftB t (f + d)).take (endS s i + d - (f + d)) = (leftB s f).take (endS s i - f) := by
    rw [h.left f hfl,show endS s i + d - (f + d) = endS s i - f by omega,List.take_append_of_le_length (by rw [left_length];omega)]
   rw [hg,ht,if_pos ⟨by rw [h.size];omega,by omega,hc.2.2⟩]
   cases hn
   congr 2
   omega
  ·cases hn
theorem flags_put (h : Put s t d z) (i : Nat) (hi : i ≤ s.size) (f : Int) {g : Int × Bool} {k : Nat} (hf : flagsS s i f = (some g,k)) : flagsS t (i + d) f = (some g,k + d) := by
 unfold flagsS at hf ⊢
 by_cases h0 : headI (leftB s i) = 40
 ·have hlt := head_ge h0 (by decide)
  rw [if_neg (by simpa using h0)] at hf
  rw [if_neg (by rw [h.head i hlt];simpa using h0)]
  by_cases h1 : headI (leftB s (i + 1)) = 63
  ·have hl1 := head_ge h1 (by decide)
   rw [if_neg (by simpa using h1)] at hf
   rw [show i + d + 1 = i + 1 + d by omega,if_neg (by rw [h.head (i + 1) hl1];simpa using h1)]
   have e1 := congrArg Prod.fst hf
   have e2 := congrArg Prod.snd hf
   simp only at e1 e2
   rw [h.plus i 2 (by omega),flags_app z _ _ _ _ g e1,e1]
   congr 1
   omega
  ·rw [if_pos h1] at hf
   cases hf
 ·rw [if_pos h0] at hf
  cases hf
theorem number_put (h : Put s t d z) (i : Nat) (hi : i ≤ s.size) {q : Int × Nat} (hn : numberS s i = some q) : numberS t (i + d) = some (q.1,q.2 + d) := by
 have hq := number_ok (v := q.1) (k := q.2) hn
 have hlt : i < s.size := by omega
 unfold numberS at hn ⊢
 rw [h.head i hlt]
 by_cases h1 : 0 ≤ hexI (headI (leftB s i)) ∧ 0 ≤ hexI (headI (leftB s (i + 1)))
 ·have hl1 : i + 1 < s.size := by
   rcases Nat.lt_or_ge (i + 1) s.size with hl | hl
   ·exact hl
   ·have := h1.2
    rw [head_end s _ hl] at this
    exact absurd this (by decide)
  rw [show i + d + 1 = i + 1 + d by omega,h.head (i + 1) hl1,if_pos h1]
  rw [if_pos h1] at hn
  cases hn
  simp only
  congr 2
  omega
 ·have h1' : ¬ (0 ≤ hexI (headI (leftB s i)) ∧ 0 ≤ hexI (headI (leftB t (i + d + 1)))) := by
   rcases Nat.lt_or_ge (i + 1) s.size with hl | hl
   ·rw [show i + d + 1 = i + 1 + d by omega,h.head (i + 1) hl]
    exact h1
   ·obtain e : i + 1 = s.size := by omega
    rw [show i + d + 1 = s.size + d by omega]
    rcases h.headEnd with e | e <;> rw [e] <;> exact fun g => absurd g.2 (by decide)
  rw [if_neg h1] at hn
  rw [if_neg h1',h.plus i 1 (by omega),hexs_app h.tail]
  split at hn
  ·cases hn
  rename_i h2
  rw [if_neg h2]
  split at hn
  ·cases hn
  rename_i h3
  rw [if_neg h3]
  split at hn
  ·cases hn
  rename_i h4
  have hle := head_ge (Classical.not_not.1 h4) (by decide)
  rw [show i + d + 1 + (hexsFrom (leftB s (i + 1)) 0).2 = i + 1 + (hexsFrom (leftB s (i + 1)) 0).2 + d by omega,h.head _ hle,if_neg h4]
  split at hn
  ·cases hn
  rename_i h5
  rw [if_neg h5]
  cases hn
  simp only
  congr 2
  omega
theorem prop_put (h : Put s t d z) (i : Nat) (hi : i ≤ s.size) {q : List UInt8 × Nat} (hn : propS s i = some q) : propS t (i + d) = some (q.1,q.2 + d) := by
 unfold propS at hn ⊢
 by_cases hs : i < s.size
 ·have hd := decode_width s i hs
  rw [if_neg (show ¬ s.size ≤ i by omega)] at hn
  rw [if_neg (show ¬ t.size ≤ i + d by rw [h.size];omega),h.head i hs,h.decode i hs,h.left i hi,List.take_append_of_le_length (by rw [left_length];omega)]
  split at hn
  ·rename_i h1
   rw [if_pos h1]
   cases hn
   simp only
   congr 2
   omega
  ·rename_i h1
   rw [if_neg h1]
   split at hn
   ·rename_i h2
    have hb : brN (leftB t (i + d + 1)) = brN (leftB s (i + 1)) := by
     rw [h.plus i 1 (by omega),br_app z _ (by rw [left_length];omega)]
    rw [hb,h.plus i 1 (by omega),List.take_append_of_le_length (by rw [left_length];omega),if_pos (by rw [h.size];omega)]
    cases hn
    simp only
    congr 2
    omega
   ·cases hn
 ·rw [if_pos (by omega)] at hn
  cases hn
theorem escC_put (h : Put s t d z) (c : Int) (b : Nat) (p : Bool) (hb : b ≤ s.size) {k r : Int} {l : List (Int × Int)} {a : Int} {n : Nat} (he : escC s c b p = .esc k r l a n) : escC t c (b + d) p = .esc k r l a (n + d) := by
 unfold escC at he ⊢
 split at he
 ·rename_i h1
  rw [if_pos h1]
  cases he
  rfl
 rename_i h1
 rw [if_neg h1]
 split at he
 ·rename_i h2
  rw [if_pos h2]
  cases he
  rfl
 rename_i h2
 rw [if_neg h2]
 split at he
 ·rename_i h3
  rw [if_pos h3]
  cases hn : numberS s b with
  | none => rw [hn] at he;cases he
  | some q =>
   rw [hn] at he
   rw [number_put h b hb hn]
   cases he
   rfl
 rename_i h3
 rw [if_neg h3]
 split at he
 ·rename_i h4
  rw [if_pos h4]
  cases hn : propS s b with
  | none => rw [hn] at he;cases he
  | some q =>
   rw [hn] at he
   rw [prop_put h b hb hn]
   simp only at he ⊢
   cases hp : propR q.1 (decide (c = 80)) with
   | none => rw [hp] at he;cases he
   | some l2 =>
    rw [hp] at he
    cases he
    rfl
 rename_i h4
 rw [if_neg h4]
 cases hp : perlsR c with
 | none => rw [hp] at he;cases he
 | some q =>
  rw [hp] at he
  simp only at he ⊢
  split at he
  ·rename_i h5
   rw [if_pos h5]
   cases he
   rfl
  ·cases he
theorem escS_put (h : Put s t d z) (i : Nat) (p : Bool) (hi : i ≤ s.size) {k r : Int} {l : List (Int × Int)} {a : Int} {n : Nat} (he : escS s i p = .esc k r l a n) : escS t (i + d) p = .esc k r l a (n + d) := by
 unfold escS at he ⊢
 split at he
 ·cases he
 rename_i h92
 have hlt := head_ge (Classical.not_not.1 h92) (by decide)
 rw [h.head i hlt,if_neg h92]
 split at he
 ·cases he
 rename_i h1
 have hd := decode_width s (i + 1) (by omega)
 rw [if_neg (by rw [h.size];omega),show i + d + 1 = i + 1 + d by omega,h.decode (i + 1) (by omega),show i + 1 + d + (Utf8.decode s (i + 1)).2 = i + 1 + (Utf8.decode s (i + 1)).2 + d by omega]
 exact escC_put h _ _ p hd he
theorem oneS_put (h : Put s t d z) (i : Nat) (p : Bool) (hi : i < s.size) {k r : Int} {l : List (Int × Int)} {a : Int} {n : Nat} (he : oneS s i p = .esc k r l a n) : oneS t (i + d) p = .esc k r l a (n + d) := by
 unfold oneS at he ⊢
 rw [h.head i hi]
 split at he
 ·rename_i h1
  rw [if_pos h1]
  exact escS_put h i p (by omega) he
 ·rename_i h1
  rw [if_neg h1,h.decode i hi]
  cases he
  congr 1
  omega
theorem col_some {s : ByteArray} {i : Nat} (h0 : headI (leftB s i) = 91 ∧ headI (leftB s (i + 1)) = 58) {j : Nat} (hj : i + 2 + colN (leftB s (i + 2)) = j) : colS s i = if headI (leftB s j) = 58 ∧ headI (leftB s (j + 1)) = 93 then some j else none := by
 unfold colS
 rw [if_neg (by simpa using h0),hj]
theorem col_none {s : ByteArray} {i : Nat} (h0 : ¬ (headI (leftB s i) = 91 ∧ headI (leftB s (i + 1)) = 58)) : colS s i = none := by
 unfold colS
 rw [if_pos h0]
theorem colS_put (h : Put s t d z) (i : Nat) (hi : i ≤ s.size) : colS t (i + d) = (colS s i).map (· + d) := by
 by_cases h0 : headI (leftB s i) = 91 ∧ headI (leftB s (i + 1)) = 58
 ·have hl1 := head_ge h0.2 (by decide)
  have hle := colN_le (leftB s (i + 2))
  rw [left_length] at hle
  have hc : colN (leftB t (i + d + 2)) = colN (leftB s (i + 2)) := by rw [h.plus i 2 (by omega),col_app h.tail]
  obtain ⟨j,hj⟩ : ∃ j,i + 2 + colN (leftB s (i + 2)) = j := ⟨_,rfl⟩
  have h0' : headI (leftB t (i + d)) = 91 ∧ headI (leftB t (i + d + 1)) = 58 := by rw [show i + d + 1 = i + 1 + d by omega,h.head i (by omega),h.head (i + 1) hl1];exact h0
  rw [col_some h0 hj,col_some h0' (show i + d + 2 + colN (leftB t (i + d + 2)) = j + d by rw [hc];omega),show j + d + 1 = j + 1 + d by omega]
  by_cases hq : headI (leftB s j) = 58 ∧ headI (leftB s (j + 1)) = 93
  ·have hjl := head_ge hq.2 (by decide)
   rw [if_pos hq,if_pos (by rw [h.head j (by omega),h.head (j + 1) hjl];exact hq)]
   rfl
  ·rw [if_neg hq,if_neg]
   ·rfl
   ·intro g
    have g1 := (h.is j (by omega) 58 (by decide) (by decide)).1 g.1
    have := head_ge g1 (by decide)
    exact hq ⟨g1,(h.is (j + 1) (by omega) 93 (by decide) (by decide)).1 g.2⟩
 ·rw [col_none h0,col_none]
  ·rfl
  ·intro g
   have g1 := (h.is i hi 91 (by decide) (by decide)).1 g.1
   have := head_ge g1 (by decide)
   rw [show i + d + 1 = i + 1 + d by omega] at g
   exact h0 ⟨g1,(h.is (i + 1) (by omega) 58 (by decide) (by decide)).1 g.2⟩
theorem rangeS_put (h : Put s t d z) (i i' : Nat) (r : Int) (n : Nat) (p : Bool) (hn : n ≤ s.size) (hd : ¬ (headI (leftB s n) = 45 ∧ n + 1 = s.size)) {l : List (Int × Int)} {m : Nat} (he : rangeS s i r n p = .item l m) : rangeS t i' r (n + d) p = .item l (m + d) := by
 unfold rangeS at he ⊢
 by_cases h45 : headI (leftB s n) = 45
 ·have hlt := head_ge h45 (by decide)
  have hl1 : n + 1 < s.size := by omega
  rw [show n + d + 1 = n + 1 + d by omega,h.head n hlt,h.head (n + 1) hl1]
  split at he
  ·rename_i hc
   rw [if_pos hc]
   cases ho : oneS s (n + 1) p with
   | bad c b => rw [ho] at he;cases he
   | esc k r2 l2 a n2 =>
    rw [ho] at he
    rw [oneS_put h (n + 1) p hl1 ho]
    simp only at he ⊢
    split at he
    ·cases he
    ·rename_i h2
     rw [if_neg h2]
     cases he
     rfl
  ·rename_i hc
   rw [if_neg hc]
   cases he
   rfl
 ·rw [if_neg fun g => h45 g.1] at he
  rw [if_neg fun g => h45 ((h.is n hn 45 (by decide) (by decide)).1 g.1)]
  cases he
  rfl
theorem itemS_put (h : Put s t d z) (i : Nat) (p : Bool) (hi : i < s.size) {l : List (Int × Int)} {m : Nat} (he : itemS s i p = .item l m) : itemS t (i + d) p = .item l (m + d) ∨ (headI (leftB s m) = 45 ∧ m + 1 = s.size) := by
 unfold itemS at he ⊢
 rw [colS_put h i (by omega)]
 cases hc : colS s i with
 | some k =>
  rw [hc] at he
  have hk := colS_le hc
  simp only [Option.map_some] at he ⊢
  rw [show k + d - (i + d + 2) = k - (i + 2) by omega,h.plus i 2 (by omega),List.take_append_of_le_length (by rw [left_length];omega)]
  cases hp : posixR ((leftB s (i + 2)).take (k - (i + 2))) with
  | none => rw [hp] at he;cases he
  | some l2 =>
   rw [hp] at he
   cases he
   exact .inl (by simp only;congr 1;omega)
 | none =>
  rw [hc] at he
  simp only [Option.map_none] at he ⊢
  have hok := oneS_ok s i p hi
  cases ho : oneS s i p with
  | bad c b => rw [ho] at he;cases he
  | esc k r l2 a n =>
   rw [ho] at he hok
   obtain ⟨-,hn,-⟩ := hok
   rw [oneS_put h i p hi ho]
   simp only at he ⊢
   split at he
   ·rename_i h2
    rw [if_pos h2]
    cases he
    exact .inl rfl
   rename_i h2
   rw [if_neg h2]
   split at he
   ·cases he
   rename_i h1
   rw [if_neg h1]
   by_cases hd : headI (leftB s n) = 45 ∧ n + 1 = s.size
   ·have hh : rangeS s i r n p = .item [(r,r)] n := by
     unfold rangeS
     rw [if_neg]
     rintro ⟨-,g,-⟩
     rw [head_end s (n + 1) (by omega)] at g
     exact absurd g (by decide)
    rw [hh] at he
    cases he
    exact .inr hd
   ·exact .inl (rangeS_put h i (i + d) r n p hn hd he)
theorem dash_bad (a : Nat) (p : Bool) (m i : Nat) (fi : Bool) (all : List (Int × Int)) (h45 : headI (leftB s i) = 45) (hs : i + 1 = s.size) {l : List (Int × Int)} {n : Nat} : itemsS s a p m i fi all ≠ .item l n := by
 have hend : ∀ (m' : Nat) (fi' : Bool) (all' : List (Int × Int)) (j : Nat),s.size ≤ j → itemsS s a p m' j fi' all' ≠ .item l n := fun m' fi' all' j hj e => by
  cases m' with
  | zero => rw [itemsS] at e;cases e
  | succ m' => rw [itemsS,if_pos hj] at e;cases e
 intro e
 cases m with
 | zero => rw [itemsS] at e;cases e
 | succ m =>
  have hok := itemS_ok s i p (by omega)
  rw [itemsS,if_neg (by omega),if_neg (by rw [h45];exact fun g => absurd g.1 (by decide))] at e
  cases hi : itemS s i p with
  | bad c x y => rw [hi] at e;cases e
  | item l2 n2 =>
   rw [hi] at e hok
   obtain ⟨h1,-⟩ := hok
   exact hend _ _ _ _ (by omega) e
theorem itemsS_put (h : Put s t d z) (a a' : Nat) (p : Bool) : ∀ (m m' i : Nat) (fi : Bool) (all : List (Int × Int)),s.size < i + m' → ∀ {l : List (Int × Int)} {n : Nat},itemsS s a p m i fi all = .item l n → itemsS t a' p m' (i + d) fi all = .item l (n + d)
 | 0,m',i,fi,all,hm',l,n,e => by rw [itemsS] at e;cases e
 | m + 1,m',i,fi,all,hm',l,n,e => by
  rw [itemsS] at e
  split at e
  ·cases e
  rename_i hlt
  cases m' with
  | zero => omega
  | succ m' =>
   rw [itemsS,if_neg (by rw [h.size];omega),h.head i (by omega)]
   split at e
   ·rename_i h1
    rw [if_pos h1]
    cases e
    congr 1
    omega
   ·rename_i h1
    rw [if_neg h1]
    have hok := itemS_ok s i p (by omega)
    cases hi : itemS s i p with
    | bad c x y => rw [hi] at e;cases e
    | item l2 n2 =>
     rw [hi] at e hok
     obtain ⟨k1,-⟩ := hok
     simp only at e
     rcases itemS_put h i p (by omega) hi with g | g
     ·rw [g]
      exact itemsS_put h a a' p m m' n2 false (all ++ l2) (by omega) e
     ·exact absurd e (dash_bad a p m n2 false (all ++ l2) g.1 g.2)
theorem not_put (h : Put s t d z) (i : Nat) (hi : i + 1 ≤ s.size) : notB t (i + d) = notB s i := by
 unfold notB
 rw [show i + d + 1 = i + 1 + d by omega,decide_eq_decide.2 (h.is (i + 1) hi 94 (by decide) (by decide))]
theorem classS_put (h : Put s t d z) (i : Nat) (p : Bool) (hi : i ≤ s.size) {l : List (Int × Int)} {n : Nat} (he : classS s i p = .item l n) : classS t (i + d) p = .item l (n + d) := by
 unfold classS at he ⊢
 split at he
 ·cases he
 rename_i h91
 have hlt := head_ge (Classical.not_not.1 h91) (by decide)
 rw [h.head i hlt,if_neg h91,not_put h i hlt,show i + d + 1 + (if notB s i then 1 else 0) = i + 1 + (if notB s i then 1 else 0) + d by omega]
 exact itemsS_put h i (i + d) p _ _ _ true [] (by rw [h.size];omega) he
end Go.Proofs.YthnddabcmhplkaaGreatDoor
