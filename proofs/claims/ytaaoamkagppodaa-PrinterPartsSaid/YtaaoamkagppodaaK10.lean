/- Texts merged by program: PrText. No condition. -/
import Derived.Test.YtaaoamkagppodaaK7
import Derived.Test.YtaaoamkagppodaaK9
import Derived.Test.YtaaoamkagppodaaK2
import Derived.Lib.ItoaNum
set_option linter.unusedVariables false
/- The text of a tree, as a plain function. No condition. -/
namespace Go.Proofs.Ytaaoamkagppodaa
open Go Go.RowKit

/-- A tree, or its Kid, if it is an OpCat, an OpAlt of one. -/
def soleT : Tr → Tr := Tr.para fun t l => if t.fld.op = 11 ∨ t.fld.op = 12 then (match l with | [x] => x | _ => t) else t
theorem soleT_eq (t : Tr) : soleT t = if t.fld.op = 11 ∨ t.fld.op = 12 then (match t.kids.map soleT with | [x] => x | _ => t) else t := Tr.para_eq _ t
/-- Has a tree one Kid, with nothing to put together? -/
def Lone (t : Tr) : Prop := (t.fld.op = 11 ∨ t.fld.op = 12) ∧ t.kids.length = 1
theorem lone_kid {t : Tr} (h : Lone t) : ∃ k, t.kids = [k] := List.length_eq_one_iff.1 h.2
theorem sole_lone {t k : Tr} (h : Lone t) (hk : t.kids = [k]) : soleT t = soleT k := by
  rw [soleT_eq, if_pos h.1, hk]
  rfl
theorem sole_self {t : Tr} (h : ¬ Lone t) : soleT t = t := by
  rw [soleT_eq]
  split
  · rename_i h1
    split
    · rename_i x e
      refine absurd ⟨h1, ?_⟩ h
      have := congrArg List.length e
      simpa using this
    · rfl
  · rfl
theorem sole_not (t : Tr) : ¬ Lone (soleT t) := by
  refine Tr.ind (P := fun t => ¬ Lone (soleT t)) (fun t ih => ?_) t
  by_cases h : Lone t
  · obtain ⟨k, hk⟩ := lone_kid h
    rw [sole_lone h hk]
    exact ih k (by rw [hk]; simp)
  · rw [sole_self h]
    exact h

def codeP (n : Nat) : List UInt8 := 92 :: 120 :: 123 :: (hexL n ++ [125])
/-- Does a rune stand for itself? -/
def selfI (c : Int) : Bool := (decide (48 ≤ c) && decide (c ≤ 57)) || ((decide (65 ≤ c) && decide (c ≤ 90)) || ((decide (97 ≤ c) && decide (c ≤ 122)) || [32, 95, 33, 34, 35, 37, 38, 39, 44, 45, 47, 58, 59, 60, 61, 62, 64, 126, 96].contains c))
def oneP (c : Int) : List UInt8 := if selfI c = true then [UInt8.ofNat c.toNat] else if signR c = true then [92, UInt8.ofNat c.toNat] else codeP c.toNat
def rangeP (r : Int × Int) : List UInt8 := codeP r.1.toNat ++ (if r.2 = r.1 then [] else 45 :: codeP r.2.toNat)
def rangesP (l : List (Int × Int)) : List UInt8 := l.flatMap rangeP
def setP (l : List (Int × Int)) : List UInt8 := 91 :: (rangesP l ++ [93])
def placeP (a : Int) : List UInt8 := if a = 1 then [92, 65] else if a = 2 then [92, 122] else if a = 4 then [40, 63, 109, 58, 94, 41] else if a = 8 then [40, 63, 109, 58, 36, 41] else if a = 16 then [92, 98] else [92, 66]
def noneP : List UInt8 := [91, 94, 92, 120, 123, 48, 125, 45, 92, 120, 123, 49, 48, 102, 102, 102, 102, 125, 93]
def emptyP : List UInt8 := [40, 63, 58, 41]
def countP (a b : Int) : List UInt8 := 123 :: (Lib.decDigits a.toNat ++ ((if b = -1 then [44] else if b = a then [] else 44 :: Lib.decDigits b.toNat) ++ [125]))
def signP (f : Fld) : List UInt8 := (if f.op = 7 then [42] else if f.op = 8 then [43] else if f.op = 9 then [63] else countP f.min f.max) ++ (if f.lazy = true then [63] else [])
def beginP (nm : List UInt8) : List UInt8 := if nm = [] then [40] else 40 :: 63 :: 80 :: 60 :: (nm ++ [62])
def wrapP (x : List UInt8) : List UInt8 := 40 :: 63 :: 58 :: (x ++ [41])
/-- Texts with a | between. -/
def joinP : List (List UInt8) → List UInt8
  | [] => []
  | [x] => x
  | x :: y :: l => x ++ 124 :: joinP (y :: l)
def chainP (k : Tr) (x : List UInt8) : List UInt8 := if (soleT k).fld.op = 12 then wrapP x else x
/-- Does a tree stand between brackets when it is repeated? -/
def Held (k : Tr) : Prop := ((soleT k).fld.op = 11 ∧ (soleT k).kids ≠ []) ∨ (7 ≤ (soleT k).fld.op ∧ (soleT k).fld.op ≠ 11)
instance (k : Tr) : Decidable (Held k) := by
  unfold Held
  exact instDecidableOr
def repP (k : Tr) (x : List UInt8) : List UInt8 := if Held k then wrapP x else x
def textN (t : Tr) (l : List (List UInt8)) : List UInt8 :=
  if t.fld.op = 1 then noneP else if t.fld.op = 2 then emptyP else if t.fld.op = 3 then oneP t.fld.rune else if t.fld.op = 4 then setP t.fld.set else if t.fld.op = 5 then placeP t.fld.at' else
  if t.fld.op = 6 then beginP t.fld.name.toList ++ (l.headD [] ++ [41]) else
  if t.fld.op = 11 then (match l with | [] => emptyP | [x] => x | _ => (List.zipWith chainP t.kids l).flatten) else
  if t.fld.op = 12 then joinP l else repP (t.kids.headD t) (l.headD []) ++ signP t.fld
/-- The text of a tree. -/
def textT : Tr → List UInt8 := Tr.para textN
theorem textT_eq (t : Tr) : textT t = textN t (t.kids.map textT) := Tr.para_eq _ t
def chainT (k : Tr) : List UInt8 := chainP k (textT k)
def repT (k : Tr) : List UInt8 := repP k (textT k)
theorem zip_map (f : Tr → List UInt8 → List UInt8) (g : Tr → List UInt8) : ∀ l : List Tr, List.zipWith f l (l.map g) = l.map fun k => f k (g k)
  | [] => rfl
  | k :: l => by rw [List.map_cons, List.zipWith_cons_cons, zip_map f g l, List.map_cons]
theorem text_lone {t k : Tr} (h : Lone t) (hk : t.kids = [k]) : textT t = textT k := by
  rw [textT_eq, hk]
  unfold textN
  rcases h.1 with e | e
  · simp [e]
  · simp [e, joinP]
theorem chain_lone {t k : Tr} (h : Lone t) (hk : t.kids = [k]) : chainT t = chainT k := by
  unfold chainT chainP
  rw [sole_lone h hk, text_lone h hk]
theorem held_lone {t k : Tr} (h : Lone t) (hk : t.kids = [k]) : Held t ↔ Held k := by
  unfold Held
  rw [sole_lone h hk]
theorem rep_lone {t k : Tr} (h : Lone t) (hk : t.kids = [k]) : repT t = repT k := by
  unfold repT repP
  rw [text_lone h hk]
  simp only [held_lone h hk]
theorem text_cat {t : Tr} (h : t.fld.op = 11) (h2 : 2 ≤ t.kids.length) : textT t = (t.kids.map chainT).flatten := by
  rw [textT_eq]
  unfold textN
  obtain ⟨f, ks⟩ := t
  simp only [Tr.fld, Tr.kids] at h h2 ⊢
  match ks, h2 with
  | x :: y :: l, _ =>
    simp [h]
    rw [zip_map]
    rfl
theorem text_cat0 {t : Tr} (h : t.fld.op = 11) (h2 : t.kids = []) : textT t = emptyP := by
  rw [textT_eq]
  unfold textN
  rw [h2]
  simp [h]
theorem text_alt {t : Tr} (h : t.fld.op = 12) : textT t = joinP (t.kids.map textT) := by
  rw [textT_eq]
  unfold textN
  simp [h]
theorem text_cap {t k : Tr} (h : t.fld.op = 6) (hk : t.kids = [k]) : textT t = beginP t.fld.name.toList ++ (textT k ++ [41]) := by
  rw [textT_eq, hk]
  unfold textN
  simp [h]
theorem text_rep {t k : Tr} (h : t.fld.op = 7 ∨ t.fld.op = 8 ∨ t.fld.op = 9 ∨ t.fld.op = 10) (hk : t.kids = [k]) : textT t = repT k ++ signP t.fld := by
  rw [textT_eq, hk]
  unfold textN repT
  rw [hk, if_neg (by omega), if_neg (by omega), if_neg (by omega), if_neg (by omega), if_neg (by omega), if_neg (by omega), if_neg (by omega), if_neg (by omega)]
  rfl
theorem joinP_cons (x : List UInt8) {l : List (List UInt8)} (h : l ≠ []) : joinP (x :: l) = x ++ 124 :: joinP l := by
  cases l with
  | nil => exact absurd rfl h
  | cons y l => rfl
theorem joinP_append : ∀ (a b : List (List UInt8)), a ≠ [] → b ≠ [] → joinP (a ++ b) = joinP a ++ 124 :: joinP b
  | [x], b, _, hb => joinP_cons x hb
  | x :: y :: a, b, _, hb => by
    rw [List.cons_append, joinP_cons x (by simp), joinP_append (y :: a) b (by simp) hb, joinP_cons x (by simp), List.append_assoc]
    rfl
theorem joinP_flat : ∀ (L : List (List (List UInt8))), (∀ a ∈ L, a ≠ []) → joinP L.flatten = joinP (L.map joinP)
  | [], _ => rfl
  | [a], _ => by simp [joinP]
  | a :: b :: L, h => by
    have hb := h b (by simp)
    rw [List.flatten_cons, joinP_append a _ (h a (by simp)) (by rw [List.flatten_cons]; intro e; exact hb (List.append_eq_nil_iff.1 e).1), joinP_flat (b :: L) (fun x hx => h x (by simp [List.mem_cons.1 hx]))]
    show _ = joinP (joinP a :: (b :: L).map joinP)
    rw [joinP_cons _ (by simp)]

/-- How long a text may be. -/
theorem code_le {n : Nat} (h : n ≤ 1114111) : (codeP n).length ≤ 10 := by
  have e := hex_short 5 n (by omega)
  unfold codeP
  simp only [List.length_cons, List.length_append, List.length_nil]
  omega
theorem one_le {c : Int} (h : c ≤ 1114111) : (oneP c).length ≤ 10 := by
  unfold oneP
  split
  · simp
  split
  · simp
  · exact code_le (by omega)
theorem range_le {r : Int × Int} (h1 : r.1 ≤ 1114111) (h2 : r.2 ≤ 1114111) : (rangeP r).length ≤ 21 := by
  have e1 := code_le (n := r.1.toNat) (by omega)
  have e2 := code_le (n := r.2.toNat) (by omega)
  unfold rangeP
  split
  · simp only [List.length_append, List.length_nil]; omega
  · simp only [List.length_append, List.length_cons]; omega
theorem ranges_le : ∀ l : List (Int × Int), (∀ r ∈ l, r.1 ≤ 1114111 ∧ r.2 ≤ 1114111) → (rangesP l).length ≤ 21 * l.length
  | [], _ => Nat.zero_le _
  | r :: l, h => by
    have h1 := h r (by simp)
    have h2 := ranges_le l fun q hq => h q (by simp [hq])
    have h3 := range_le h1.1 h1.2
    rw [show rangesP (r :: l) = rangeP r ++ rangesP l from rfl, List.length_append, List.length_cons]
    omega
theorem right_tops : ∀ (l : List (Int × Int)) (lo : Int), RightFrom lo l → ∀ r ∈ l, lo ≤ r.1 ∧ r.1 ≤ r.2 ∧ r.2 ≤ 1114111
  | x :: l, lo, ⟨h1, h2, h3, h4⟩, r, hr => by
    rcases List.mem_cons.1 hr with rfl | hr
    · exact ⟨h1, h2, h3⟩
    · have := right_tops l (x.2 + 2) h4 r hr
      exact ⟨by omega, this.2⟩
theorem place_le (a : Int) : (placeP a).length ≤ 6 := by
  unfold placeP
  repeat' split
  all_goals decide
theorem dec_few : ∀ (k u : Nat), u < 10 ^ (k + 1) → (Lib.decDigits u).length ≤ k + 1
  | 0, u, h => by
    rw [Lib.decDigits, dif_pos (by simpa using h)]
    exact Nat.le_refl _
  | k + 1, u, h => by
    rw [Lib.decDigits]
    split
    · exact Nat.succ_le_succ (Nat.zero_le _)
    · have := dec_few k (u / 10) (by rw [Nat.pow_succ] at h; exact Nat.div_lt_of_lt_mul (by rw [Nat.mul_comm]; exact h))
      simp only [List.length_append, List.length_singleton]
      omega
theorem count_le {a b : Int} (h1 : a ≤ 1000) (h2 : b ≤ 1000) : (countP a b).length ≤ 11 := by
  have e1 := dec_few 3 a.toNat (by omega)
  have e2 := dec_few 3 b.toNat (by omega)
  unfold countP
  split
  · simp only [List.length_append, List.length_cons, List.length_nil]; omega
  split
  · simp only [List.length_append, List.length_cons, List.length_nil]; omega
  · simp only [List.length_append, List.length_cons, List.length_nil]; omega
theorem sign_le {f : Fld} (h1 : f.min ≤ 1000) (h2 : f.max ≤ 1000) : (signP f).length ≤ 12 := by
  have e := count_le h1 h2
  unfold signP
  rw [List.length_append]
  have : (if f.lazy = true then [63] else ([] : List UInt8)).length ≤ 1 := by split <;> simp
  repeat' split
  all_goals simp only [List.length_cons, List.length_nil] at *
  all_goals omega
theorem begin_le {nm : List UInt8} (h : nm = [] ∨ nameB nm = true) : (beginP nm).length ≤ 37 := by
  have : nm.length ≤ 32 := by
    rcases h with rfl | h
    · exact Nat.zero_le _
    · unfold nameB at h
      simp only [Bool.and_eq_true, decide_eq_true_eq] at h
      exact h.1.2
  unfold beginP
  split
  · simp
  · simp only [List.length_append, List.length_cons, List.length_nil]; omega
theorem join_le : ∀ l : List (List UInt8), (joinP l).length ≤ (l.map fun x => x.length + 1).sum
  | [] => Nat.le_refl _
  | [x] => by simp [joinP]
  | x :: y :: l => by
    have := join_le (y :: l)
    rw [joinP_cons x (by simp), List.length_append, List.length_cons, List.map_cons, List.sum_cons]
    omega
theorem wrap_len (x : List UInt8) : (wrapP x).length = x.length + 4 := by
  unfold wrapP
  simp only [List.length_append, List.length_cons, List.length_nil]
theorem chain_le (k : Tr) : (chainT k).length ≤ (textT k).length + 4 := by
  unfold chainT chainP
  split
  · rw [wrap_len]; omega
  · omega
theorem rep_le (k : Tr) : (repT k).length ≤ (textT k).length + 4 := by
  unfold repT repP
  split
  · rw [wrap_len]; omega
  · omega
theorem flat_len {f : Tr → List UInt8} {g : Tr → Nat} : ∀ l : List Tr, (∀ k ∈ l, (f k).length ≤ g k) → (l.map f).flatten.length ≤ (l.map g).sum
  | [], _ => Nat.le_refl _
  | k :: l, h => by
    have h1 := h k (by simp)
    have h2 := flat_len l fun q hq => h q (by simp [hq])
    rw [List.map_cons, List.flatten_cons, List.length_append, List.map_cons, List.sum_cons]
    omega
theorem sum_64 : ∀ l : List Tr, (l.map fun k => 64 * partsR k).sum = 64 * (l.map partsR).sum
  | [] => rfl
  | k :: l => by rw [List.map_cons, List.sum_cons, sum_64 l, List.map_cons, List.sum_cons]; omega
theorem kids_none {t : Tr} (h : ShapedP t) (h5 : t.fld.op ≤ 5) : t.kids = [] := by
  have h1 := ((shapedP_iff t).1 h).2.1.2.2
  refine List.eq_nil_of_length_eq_zero ?_
  omega
theorem kids_one {t : Tr} (h : ShapedP t) (h6 : t.fld.op = 6 ∨ t.fld.op = 7 ∨ t.fld.op = 8 ∨ t.fld.op = 9 ∨ t.fld.op = 10) : ∃ k, t.kids = [k] ∧ ShapedP k := by
  have h0 := (shapedP_iff t).1 h
  obtain ⟨k, hk⟩ := List.length_eq_one_iff.1 (h0.2.1.1 h6)
  exact ⟨k, hk, h0.2.2.2 k (by rw [hk]; simp)⟩
/-- A shaped tree by its kinds. -/
theorem shaped_kinds {t : Tr} (h : ShapedP t) : (t.fld.op = 1 ∨ t.fld.op = 2 ∨ t.fld.op = 3 ∨ t.fld.op = 4 ∨ t.fld.op = 5) ∨ t.fld.op = 6 ∨ (t.fld.op = 7 ∨ t.fld.op = 8 ∨ t.fld.op = 9 ∨ t.fld.op = 10) ∨ t.fld.op = 11 ∨ t.fld.op = 12 := by
  have h1 := ((shapedP_iff t).1 h).1
  have h2 := h1.1
  have h3 := h1.2.1
  omega
theorem text_leaf {t : Tr} (h : t.fld.op = 1 ∨ t.fld.op = 2 ∨ t.fld.op = 3 ∨ t.fld.op = 4 ∨ t.fld.op = 5) : textT t = if t.fld.op = 1 then noneP else if t.fld.op = 2 then emptyP else if t.fld.op = 3 then oneP t.fld.rune else if t.fld.op = 4 then setP t.fld.set else placeP t.fld.at' := by
  rw [textT_eq]
  unfold textN
  rcases h with h | h | h | h | h <;> simp [h]
theorem text_len (t : Tr) : ShapedP t → (textT t).length + 4 ≤ 64 * partsR t := by
  refine Tr.ind (P := fun t => ShapedP t → (textT t).length + 4 ≤ 64 * partsR t) (fun t ih hs => ?_) t
  obtain ⟨hf, hk, -, hkids⟩ := (shapedP_iff t).1 hs
  rcases shaped_kinds hs with h | h | h | h | h
  · rw [text_leaf h, partsR_eq]
    have h4 : t.fld.op = 4 → (rangesP t.fld.set).length ≤ 21 * t.fld.set.length := fun e =>
      ranges_le _ fun r hr => by
        have := right_tops _ 0 (hf.2.2.2.2.2.2.2.2.2.1 e).1 r hr
        omega
    have h3 : t.fld.op = 3 → (oneP t.fld.rune).length ≤ 10 := fun e => one_le (hf.2.2.2.2.2.2.2.2.1 e).2
    have h5 := place_le t.fld.at'
    split
    · rw [show noneP.length = 19 from rfl]; omega
    split
    · rw [show emptyP.length = 4 from rfl]; omega
    split
    · rename_i e; have := h3 e; omega
    split
    · rename_i e
      have := h4 e
      unfold setP
      simp only [List.length_append, List.length_cons, List.length_nil]
      omega
    · omega
  · obtain ⟨k, hkk, hks⟩ := kids_one hs (.inl h)
    have e := ih k (by rw [hkk]; simp) hks
    have e2 := begin_le (hf.2.2.2.2.2.2.2.2.2.2.2.1 h)
    rw [text_cap h hkk, partsR_eq, hkk]
    simp only [List.length_append, List.length_cons, List.length_nil, List.map_cons, List.map_nil, List.sum_cons, List.sum_nil]
    omega
  · obtain ⟨k, hkk, hks⟩ := kids_one hs (.inr h)
    have e := ih k (by rw [hkk]; simp) hks
    have e1 := rep_le k
    have e2 : (signP t.fld).length ≤ 12 := by
      by_cases h10 : t.fld.op = 10
      · have := hf.2.2.2.2.2.2.2.2.2.2.2.2 h10
        exact sign_le this.1.2 (by omega)
      · have := hf.2.2.2.2.2.2.1 h10
        exact sign_le (by omega) (by omega)
    rw [text_rep h hkk, partsR_eq, hkk]
    simp only [List.length_append, List.map_cons, List.map_nil, List.sum_cons, List.sum_nil]
    omega
  · have hn : t.kids.length = 0 ∨ t.kids.length = 1 ∨ 2 ≤ t.kids.length := by omega
    rcases hn with hn | hn | hn
    · rw [text_cat0 h (List.eq_nil_of_length_eq_zero hn), partsR_eq]
      rw [show emptyP.length = 4 from rfl]
      omega
    · obtain ⟨k, hkk⟩ := List.length_eq_one_iff.1 hn
      have e := ih k (by rw [hkk]; simp) (hkids k (by rw [hkk]; simp))
      have e2 := partsR_kid (t := t) (k := k) (by rw [hkk]; simp)
      rw [text_lone ⟨.inl h, hn⟩ hkk]
      omega
    · rw [text_cat h hn, partsR_eq]
      have e := flat_len (f := chainT) (g := fun k => 64 * partsR k) t.kids fun k hk' => by
        have := ih k hk' (hkids k hk')
        have := chain_le k
        omega
      rw [sum_64] at e
      omega
  · rw [text_alt h, partsR_eq]
    have e := join_le (t.kids.map textT)
    have e2 : ∀ l : List Tr, (∀ k ∈ l, k ∈ t.kids) → ((l.map textT).map fun x => x.length + 1).sum ≤ 64 * (l.map partsR).sum := by
      intro l
      induction l with
      | nil => intro _; exact Nat.le_refl _
      | cons k l il =>
        intro hm
        have h1 := il fun q hq => hm q (by simp [hq])
        have h2 := ih k (hm k (by simp)) (hkids k (hm k (by simp)))
        simp only [List.map_cons, List.sum_cons]
        omega
    have e3 := e2 t.kids fun _ h => h
    omega
end Go.Proofs.Ytaaoamkagppodaa
