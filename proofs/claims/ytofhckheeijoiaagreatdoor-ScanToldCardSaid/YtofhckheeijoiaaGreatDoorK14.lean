/- Texts merged by program: Norm, RSet, RNamed, RNot, R4Set, R4Cls, R4NotR, R4Perl, SPerls, R4Prop, CRuns, OwnE, R4Plain, R4Posix, R4Dot. No condition. -/
import Derived.Test.YtofhckheeijoiaaGreatDoorK12
import Derived.Test.YtofhckheeijoiaaGreatDoorK2
import Derived.Test.YtofhckheeijoiaaGreatDoorK13
import Derived.Test.YtofhckheeijoiaaGreatDoorK3
import Derived.Deep.DeepCutAuto
import Derived.Deep.RegionHeld3
import Derived.Outline
set_option linter.unusedVariables false
/- The document's Norm: the set of any list, in a fresh row. -/
namespace Go.Proofs.YtofhckheeijoiaaGreatDoor
open Go Go.RowKit

theorem own_lit' (W : World) (B n : Nat) (h : W.heap.size = n) (hB : B ≤ n) : OwnR (W.alloc (.cells #[] 123)) B (.slice (some ⟨n, 0, none⟩) 0 0) [] := by
  subst h
  exact ⟨World.ownsRow_lit W #[] 0 hB (Nat.zero_le _) rfl, by simp [AllI32]⟩
theorem wrap_nat (n : Nat) (h : n < 9223372036854775808) : IntKind.i64.wrap (n : Int) = (n : Int) := by
  have hm : (n : Int) % 18446744073709551616 = n := by omega
  unfold IntKind.wrap
  simp [IntKind.bits, IntKind.signed, hm]
  omega
theorem put_split (S : List (Int × Int)) (x : Int × Int) (k : Nat) : S.take k ++ [x] ++ S.drop k = S.take k ++ x :: S.drop k := by simp
theorem cut_letters (x1 x2 y1 y2 : Int) (h1 : (if x1 < 0 then 0 else x1) = y1) (h2 : (if 1114111 < x2 then 1114111 else x2) = y2) : cutR (x1, x2) = (y1, y2) := by
  unfold cutR
  simp only
  rw [← h1, ← h2]
  congr 1
  · split <;> omega
  · split <;> omega
/-- A fresh row of the set of the runes for which P holds. -/
def SetPost (P : Int → Prop) (w : World) (e : Ending) (w' : World) : Prop :=
  ∃ v k, e = .returned v ∧ OwnR w' w.heap.size v k ∧ RightR k ∧ (∀ c, HasR k c ↔ P c) ∧ Below w.heap.size w w'
def Loop1 (w : World) (l : List (Int × Int)) (m : Nat) (vs : Value) (wr : World) : Prop :=
  ∃ S, OwnR wr w.heap.size vs S ∧ Sorted S ∧ (∀ c, HasR S c ↔ HasR (l.take m) c) ∧ S.length ≤ m ∧ Below w.heap.size w wr

def Loop2 (wr : World) (S : List (Int × Int)) (k : Nat) (vo : Value) (wz : World) : Prop :=
  ∃ O, OwnR wz wr.heap.size vo O ∧ RightR O ∧ (∀ c, HasR O c ↔ HasR (S.take k) c) ∧ O.length ≤ k ∧ (∀ o p, O = o ++ [p] → ∀ j (h : j < S.length), k ≤ j → p.1 ≤ S[j].1) ∧ Below wr.heap.size wr wz
theorem sorted_le {S : List (Int × Int)} (h : Sorted S) (i j : Nat) (hj : j < S.length) (hi : i ≤ j) : (S[i]'(by omega)).1 ≤ S[j].1 := by
  rcases Nat.lt_or_ge i j with h1 | h1
  · exact List.pairwise_iff_getElem.1 h.1 i j (by omega) hj h1
  · have : i = j := by omega
    subst this
    exact Int.le_refl _

end Go.Proofs.YtofhckheeijoiaaGreatDoor
/- The document's sets with names: a literal of pairs as a fresh row of ranges. -/
namespace Go.Proofs.YtofhckheeijoiaaGreatDoor
open Go Go.RowKit

/-- An append of one range onto a row of the call's own, at a step of a region that draws its order. -/
theorem step_append_rgs {w : World} {ops : Array Oper} {o : Oper} {a : Act} {Kk : Act → World → Prop} {Q : Exit → Act → World → Prop} {E : Prop} (hgd : o.guard = none) (x y : Operand)
    (ho : o.op = .call { callee := .builtin .append, args := #[x, y], argTypes := #[34, 34] })
    (base : Nat) (v : Value) (O : List (Int × Int)) (hs : a.eval x = v) (hown : OwnR w base v O)
    (g : Nat) (x1 x2 : Int) (hx : a.eval y = .slice (some ⟨g, 0, none⟩) 1 1) (ht : Rgs w (.slice (some ⟨g, 0, none⟩) 1 1) [(x1, x2)]) (hn : O.length + 1 ≤ 17592186044416) (hbase : base ≤ w.heap.size)
    (h : ∀ v' w', OwnR w' base v' (O ++ [(x1, x2)]) → w.grownBy w' v.ownBlock → Kk (a.put o.dst v') w') :
    if Region.wanted o (yielded ops a.tmps) = true then Oper.wp Tryz.prog o a w Kk Q else E := by
  have hw : Region.wanted o (yielded ops a.tmps) = true := by
    unfold Region.wanted
    rw [hgd]
  rw [if_pos hw]
  obtain ⟨i, hi, hz, hsize, hby⟩ := info_parts info_range
  obtain ⟨A', c', h1, h2, h3, h4, h5, h6⟩ := ht
  have hall : AllI32 (O ++ [(x1, x2)]) := fun r hr => (List.mem_append.1 hr).elim (hown.2 r) (h6 r)
  injection h1 with e1 e2 e3
  subst e1 e3
  refine wp_append_own w x y 34 ho base 123 i (.agg #[.int .i32 0, .int .i32 0]) 2 8 Tryz.underlying34 hi hz hsize hby rfl (by omega) v O.length (cellsR O) hs hown.1 ⟨g, 0, none⟩ 1 1 (cellsR [(x1, x2)]) hx (by rw [cellsR_length]; rfl) ?_ (cellsR_one _) (by unfold maxLen; omega) (by omega) hbase (fun v' w' g1 g2 _ => h v' w' ⟨?_, hall⟩ g2)
  · intro j u hu
    obtain ⟨q, hq, hh⟩ := cellsR_get [(x1, x2)] j u hu
    rcases h5 with h5 | ⟨b, off, e, hc⟩
    · cases h5
    · have e := Option.some.inj e
      have e' := congrArg Addr.off e
      replace e := congrArg Addr.block e
      dsimp only at e e'
      subst e e'
      rw [addr_plus]
      rcases hh with ⟨rfl, rfl⟩ | ⟨rfl, rfl⟩
      · exact (hc q hq).1
      · have := (hc q hq).2
        rw [show 0 + (q * 2 + 1) = 0 + q * 2 + 1 by omega]
        exact this
  · rw [cellsR_append, List.length_append]
    exact g1

end Go.Proofs.YtofhckheeijoiaaGreatDoor
/- The document's set of a name, or that there is none. -/
namespace Go.Proofs.YtofhckheeijoiaaGreatDoor
open Go Go.RowKit

theorem rgs_lit (w : World) (t : TypeId) (cs : Array Value) (l : List (Int × Int)) (n : Nat) (h : cs.toList = cellsR l) (hi : AllI32 l) (hn : l.length = n) (hm : n ≤ maxLen) : Rgs (w.alloc (.cells cs t)) (.slice (some ⟨w.heap.size, 0, none⟩) n n) l := by
  subst hn
  refine ⟨_, _, rfl, Nat.le_refl _, hm, fun e => (by cases e), .inr ⟨w.heap.size, 0, rfl, fun i hi' => ?_⟩, hi⟩
  obtain ⟨h1, h2⟩ := cellsR_at l i hi'
  have hc : ∀ j, (w.alloc (.cells cs t)).cell? ⟨w.heap.size, j, none⟩ = cs[j]? := fun j => by rw [World.cell?_alloc_at _ _ _ _ rfl]
  rw [Nat.zero_add, hc, hc, ← Array.getElem?_toList, ← Array.getElem?_toList, h]
  exact ⟨h1, h2⟩

/-- The sets of names. -/
def nameR (b : List UInt8) : Option (List (Int × Int)) :=
  if b = [76, 117] then some [(65, 90), (192, 214), (216, 222), (913, 929), (931, 937), (1040, 1071)] else
  if b = [76, 108] then some [(97, 122), (223, 246), (248, 255), (945, 969), (1072, 1103)] else
  if b = [76] then some [(65, 90), (97, 122), (170, 170), (186, 186), (192, 214), (216, 246), (248, 255), (913, 929), (931, 937), (945, 969), (1040, 1103), (19968, 40959)] else
  if b = [78, 100] then some [(48, 57), (1632, 1641)] else
  if b = [78] then some [(48, 57), (178, 179), (185, 185), (188, 190), (1632, 1641), (8544, 8584)] else
  if b = [80] then some [(33, 35), (37, 42), (44, 47), (58, 59), (63, 64), (91, 93), (95, 95), (123, 123), (125, 125), (161, 161), (167, 167), (171, 171), (182, 183), (187, 187), (191, 191)] else
  if b = [83] then some [(36, 36), (43, 43), (60, 62), (94, 94), (96, 96), (124, 124), (126, 126), (162, 166), (168, 169), (172, 172), (174, 177), (180, 180), (184, 184), (215, 215), (247, 247)] else
  if b = [90] then some [(32, 32), (160, 160), (8192, 8202), (8232, 8233), (8239, 8239), (12288, 12288)] else
  if b = [67, 99] then some [(0, 31), (127, 159)] else
  if b = [76, 97, 116, 105, 110] then some [(65, 90), (97, 122), (170, 170), (186, 186), (192, 214), (216, 246), (248, 591), (8490, 8491)] else
  if b = [71, 114, 101, 101, 107] then some [(880, 883), (885, 887), (890, 893), (895, 895), (900, 900), (902, 902), (904, 906), (908, 908), (910, 929), (931, 993)] else
  if b = [67, 121, 114, 105, 108, 108, 105, 99] then some [(1024, 1156), (1159, 1327)] else
  if b = [72, 97, 110] then some [(19968, 40959)] else
  none
def NamedPost (s : ByteArray) (w : World) (e : Ending) (w' : World) : Prop :=
  Below w.heap.size w w' ∧ ((nameR s.toList = none ∧ e = .returned (.tuple #[.slice none 0 0, .bool false])) ∨ ∃ v l, nameR s.toList = some l ∧ e = .returned (.tuple #[v, .bool true]) ∧ OwnR w' w.heap.size v l)

end Go.Proofs.YtofhckheeijoiaaGreatDoor
/- The document's Not: a fresh row of a set. -/
namespace Go.Proofs.YtofhckheeijoiaaGreatDoor
open Go Go.RowKit

/-- What Not has made behind k ranges. -/
def Loop3 (w1 : World) (K : List (Int × Int)) (k : Nat) (vo : Value) (f : Int) (wz : World) : Prop :=
  ∃ O, OwnR wz w1.heap.size vo O ∧ O ++ notFrom f (K.drop k) = notFrom 0 K ∧ RightFrom f (K.drop k) ∧ 0 ≤ f ∧ f ≤ 1114112 ∧ O.length ≤ k ∧ Below w1.heap.size w1 wz

end Go.Proofs.YtofhckheeijoiaaGreatDoor
/- The document's sets of classes: a literal of pairs as a fresh row of ranges. -/
namespace Go.Proofs.YtofhckheeijoiaaGreatDoor
open Go Go.RowKit

end Go.Proofs.YtofhckheeijoiaaGreatDoor
/- The document's sets with names: what they are. -/
namespace Go.Proofs.YtofhckheeijoiaaGreatDoor
open Go Go.RowKit

/-- A set and true, or none and false. -/
def Post2 (o : Option (List (Int × Int))) (w : World) (e : Ending) (w' : World) : Prop :=
  Below w.heap.size w w' ∧ ((o = none ∧ e = .returned (.tuple #[.slice none 0 0, .bool false])) ∨ ∃ v l, o = some l ∧ e = .returned (.tuple #[v, .bool true]) ∧ OwnR w' w.heap.size v l)
/-- What a list does not have. -/
def notR (l : List (Int × Int)) : List (Int × Int) := notFrom 0 l
theorem notR_right {l : List (Int × Int)} (h : RightR l) : RightR (notR l) := not_right l 0 h
theorem notR_has {l : List (Int × Int)} (h : RightR l) (c : Int) : HasR (notR l) c ↔ 0 ≤ c ∧ c ≤ 1114111 ∧ ¬ HasR l c := not_has l 0 c (Int.le_refl _) h
theorem notR_is {l k : List (Int × Int)} (h : RightR l) (hk : RightR k) (hP : ∀ c, HasR k c ↔ (0 ≤ c ∧ c ≤ 1114111 ∧ ¬ HasR l c)) : k = notR l :=
  right_eq _ _ hk (notR_right h) fun c => by rw [hP, notR_has h]
theorem notR_twice {l : List (Int × Int)} (h : RightR l) : notR (notR l) = l :=
  right_eq _ _ (notR_right (notR_right h)) h fun c => by
    rw [notR_has (notR_right h), notR_has h]
    constructor
    · rintro ⟨h0, h1, h2⟩
      exact Classical.byContradiction fun hh => h2 ⟨h0, h1, hh⟩
    · intro hh
      exact ⟨hh.1, hh.2.1, fun x => x.2.2 hh⟩
def dR : List (Int × Int) := [(48, 57)]
def sR : List (Int × Int) := [(9, 10), (12, 13), (32, 32)]
def wR : List (Int × Int) := [(48, 57), (65, 90), (95, 95), (97, 122)]
def perlR (c : Int) : Option (List (Int × Int)) :=
  if c = 100 then some dR else if c = 115 then some sR else if c = 119 then some wR else if c = 68 then some (notR dR) else if c = 83 then some (notR sR) else if c = 87 then some (notR wR) else none
def plainR (b : List UInt8) : Option (List (Int × Int)) :=
  if b = [97, 108, 110, 117, 109] then some [(48, 57), (65, 90), (97, 122)] else
  if b = [97, 108, 112, 104, 97] then some [(65, 90), (97, 122)] else
  if b = [97, 115, 99, 105, 105] then some [(0, 127)] else
  if b = [98, 108, 97, 110, 107] then some [(9, 9), (32, 32)] else
  if b = [99, 110, 116, 114, 108] then some [(0, 31), (127, 127)] else
  if b = [100, 105, 103, 105, 116] then some [(48, 57)] else
  if b = [103, 114, 97, 112, 104] then some [(33, 126)] else
  if b = [108, 111, 119, 101, 114] then some [(97, 122)] else
  if b = [112, 114, 105, 110, 116] then some [(32, 126)] else
  if b = [112, 117, 110, 99, 116] then some [(33, 47), (58, 64), (91, 96), (123, 126)] else
  if b = [115, 112, 97, 99, 101] then some [(9, 13), (32, 32)] else
  if b = [117, 112, 112, 101, 114] then some [(65, 90)] else
  if b = [119, 111, 114, 100] then some [(48, 57), (65, 90), (95, 95), (97, 122)] else
  if b = [120, 100, 105, 103, 105, 116] then some [(48, 57), (65, 70), (97, 102)] else
  none
def posixR (b : List UInt8) : Option (List (Int × Int)) := if b.head? = some 94 then (plainR b.tail).map notR else plainR b
def property1 (b : List UInt8) : Option (List (Int × Int)) := if b = [65, 110, 121] then some (notR []) else nameR b
def property2 (b : List UInt8) (n : Bool) : Option (List (Int × Int)) := if n then (property1 b).map notR else property1 b
def propR (b : List UInt8) (n : Bool) : Option (List (Int × Int)) := if b.head? = some 94 then property2 b.tail (!n) else property2 b n
def dotR (all : Bool) : List (Int × Int) := if all then notR [] else notR [(10, 10)]
theorem plain_right {b : List UInt8} {l : List (Int × Int)} (h : plainR b = some l) : RightR l := by
  unfold plainR at h
  by_cases h0 : b = [97, 108, 110, 117, 109]
  · rw [if_pos h0] at h
    injection h with h
    rw [← h]
    simp [RightR, RightFrom]
  rw [if_neg h0] at h
  by_cases h1 : b = [97, 108, 112, 104, 97]
  · rw [if_pos h1] at h
    injection h with h
    rw [← h]
    simp [RightR, RightFrom]
  rw [if_neg h1] at h
  by_cases h2 : b = [97, 115, 99, 105, 105]
  · rw [if_pos h2] at h
    injection h with h
    rw [← h]
    simp [RightR, RightFrom]
  rw [if_neg h2] at h
  by_cases h3 : b = [98, 108, 97, 110, 107]
  · rw [if_pos h3] at h
    injection h with h
    rw [← h]
    simp [RightR, RightFrom]
  rw [if_neg h3] at h
  by_cases h4 : b = [99, 110, 116, 114, 108]
  · rw [if_pos h4] at h
    injection h with h
    rw [← h]
    simp [RightR, RightFrom]
  rw [if_neg h4] at h
  by_cases h5 : b = [100, 105, 103, 105, 116]
  · rw [if_pos h5] at h
    injection h with h
    rw [← h]
    simp [RightR, RightFrom]
  rw [if_neg h5] at h
  by_cases h6 : b = [103, 114, 97, 112, 104]
  · rw [if_pos h6] at h
    injection h with h
    rw [← h]
    simp [RightR, RightFrom]
  rw [if_neg h6] at h
  by_cases h7 : b = [108, 111, 119, 101, 114]
  · rw [if_pos h7] at h
    injection h with h
    rw [← h]
    simp [RightR, RightFrom]
  rw [if_neg h7] at h
  by_cases h8 : b = [112, 114, 105, 110, 116]
  · rw [if_pos h8] at h
    injection h with h
    rw [← h]
    simp [RightR, RightFrom]
  rw [if_neg h8] at h
  by_cases h9 : b = [112, 117, 110, 99, 116]
  · rw [if_pos h9] at h
    injection h with h
    rw [← h]
    simp [RightR, RightFrom]
  rw [if_neg h9] at h
  by_cases h10 : b = [115, 112, 97, 99, 101]
  · rw [if_pos h10] at h
    injection h with h
    rw [← h]
    simp [RightR, RightFrom]
  rw [if_neg h10] at h
  by_cases h11 : b = [117, 112, 112, 101, 114]
  · rw [if_pos h11] at h
    injection h with h
    rw [← h]
    simp [RightR, RightFrom]
  rw [if_neg h11] at h
  by_cases h12 : b = [119, 111, 114, 100]
  · rw [if_pos h12] at h
    injection h with h
    rw [← h]
    simp [RightR, RightFrom]
  rw [if_neg h12] at h
  by_cases h13 : b = [120, 100, 105, 103, 105, 116]
  · rw [if_pos h13] at h
    injection h with h
    rw [← h]
    simp [RightR, RightFrom]
  rw [if_neg h13] at h
  cases h
theorem name_right {b : List UInt8} {l : List (Int × Int)} (h : nameR b = some l) : RightR l := by
  unfold nameR at h
  by_cases h0 : b = [76, 117]
  · rw [if_pos h0] at h
    injection h with h
    rw [← h]
    simp [RightR, RightFrom]
  rw [if_neg h0] at h
  by_cases h1 : b = [76, 108]
  · rw [if_pos h1] at h
    injection h with h
    rw [← h]
    simp [RightR, RightFrom]
  rw [if_neg h1] at h
  by_cases h2 : b = [76]
  · rw [if_pos h2] at h
    injection h with h
    rw [← h]
    simp [RightR, RightFrom]
  rw [if_neg h2] at h
  by_cases h3 : b = [78, 100]
  · rw [if_pos h3] at h
    injection h with h
    rw [← h]
    simp [RightR, RightFrom]
  rw [if_neg h3] at h
  by_cases h4 : b = [78]
  · rw [if_pos h4] at h
    injection h with h
    rw [← h]
    simp [RightR, RightFrom]
  rw [if_neg h4] at h
  by_cases h5 : b = [80]
  · rw [if_pos h5] at h
    injection h with h
    rw [← h]
    simp [RightR, RightFrom]
  rw [if_neg h5] at h
  by_cases h6 : b = [83]
  · rw [if_pos h6] at h
    injection h with h
    rw [← h]
    simp [RightR, RightFrom]
  rw [if_neg h6] at h
  by_cases h7 : b = [90]
  · rw [if_pos h7] at h
    injection h with h
    rw [← h]
    simp [RightR, RightFrom]
  rw [if_neg h7] at h
  by_cases h8 : b = [67, 99]
  · rw [if_pos h8] at h
    injection h with h
    rw [← h]
    simp [RightR, RightFrom]
  rw [if_neg h8] at h
  by_cases h9 : b = [76, 97, 116, 105, 110]
  · rw [if_pos h9] at h
    injection h with h
    rw [← h]
    simp [RightR, RightFrom]
  rw [if_neg h9] at h
  by_cases h10 : b = [71, 114, 101, 101, 107]
  · rw [if_pos h10] at h
    injection h with h
    rw [← h]
    simp [RightR, RightFrom]
  rw [if_neg h10] at h
  by_cases h11 : b = [67, 121, 114, 105, 108, 108, 105, 99]
  · rw [if_pos h11] at h
    injection h with h
    rw [← h]
    simp [RightR, RightFrom]
  rw [if_neg h11] at h
  by_cases h12 : b = [72, 97, 110]
  · rw [if_pos h12] at h
    injection h with h
    rw [← h]
    simp [RightR, RightFrom]
  rw [if_neg h12] at h
  cases h
theorem nil_right : RightR [] := trivial
theorem property1_right {b : List UInt8} {l : List (Int × Int)} (h : property1 b = some l) : RightR l := by
  unfold property1 at h
  split at h
  · injection h with h
    subst h
    exact notR_right nil_right
  · exact name_right h
theorem property2_right {b : List UInt8} {n : Bool} {l : List (Int × Int)} (h : property2 b n = some l) : RightR l := by
  unfold property2 at h
  split at h
  · obtain ⟨k, hk, rfl⟩ := Option.map_eq_some_iff.1 h
    exact notR_right (property1_right hk)
  · exact property1_right h
theorem prop_right {b : List UInt8} {n : Bool} {l : List (Int × Int)} (h : propR b n = some l) : RightR l := by
  unfold propR at h
  split at h <;> exact property2_right h
theorem posix_right {b : List UInt8} {l : List (Int × Int)} (h : posixR b = some l) : RightR l := by
  unfold posixR at h
  split at h
  · obtain ⟨k, hk, rfl⟩ := Option.map_eq_some_iff.1 h
    exact notR_right (plain_right hk)
  · exact plain_right h
theorem perl_right {c : Int} {l : List (Int × Int)} (h : perlR c = some l) : RightR l := by
  have hd : RightR dR := by simp [dR, RightR, RightFrom]
  have hs : RightR sR := by simp [sR, RightR, RightFrom]
  have hw : RightR wR := by simp [wR, RightR, RightFrom]
  unfold perlR at h
  by_cases e1 : c = 100
  · rw [if_pos e1] at h; injection h with h; rw [← h]; exact hd
  rw [if_neg e1] at h
  by_cases e2 : c = 115
  · rw [if_pos e2] at h; injection h with h; rw [← h]; exact hs
  rw [if_neg e2] at h
  by_cases e3 : c = 119
  · rw [if_pos e3] at h; injection h with h; rw [← h]; exact hw
  rw [if_neg e3] at h
  by_cases e4 : c = 68
  · rw [if_pos e4] at h; injection h with h; rw [← h]; exact notR_right hd
  rw [if_neg e4] at h
  by_cases e5 : c = 83
  · rw [if_pos e5] at h; injection h with h; rw [← h]; exact notR_right hs
  rw [if_neg e5] at h
  by_cases e6 : c = 87
  · rw [if_pos e6] at h; injection h with h; rw [← h]; exact notR_right hw
  rw [if_neg e6] at h
  cases h
theorem property2_turn (b : List UInt8) (n : Bool) : property2 b (!n) = (property2 b n).map notR := by
  cases n
  · simp [property2]
  · simp only [property2, Bool.not_true, Bool.false_eq_true, if_false, if_true]
    rcases hq : property1 b with _ | k
    · rfl
    · simp [notR_twice (property1_right hq)]
theorem prop_turn (b : List UInt8) (n : Bool) : propR b (!n) = (propR b n).map notR := by
  unfold propR
  split <;> exact property2_turn _ _
theorem prop_hat (b : List UInt8) (n : Bool) (h : b.head? ≠ some 94) : propR (94 :: b) n = propR b (!n) := by
  unfold propR
  rw [if_neg h]
  simp
theorem posix_hat (b : List UInt8) (h : b.head? ≠ some 94) : posixR (94 :: b) = (posixR b).map notR := by
  unfold posixR
  rw [if_neg h]
  simp
theorem perl_turn (c : Int) (h0 : 97 ≤ c) (h1 : c ≤ 122) : perlR (c - 32) = (perlR c).map notR := by
  unfold perlR
  by_cases e1 : c = 100
  · subst e1; rfl
  by_cases e2 : c = 115
  · subst e2; rfl
  by_cases e3 : c = 119
  · subst e3; rfl
  rw [if_neg (by omega), if_neg (by omega), if_neg (by omega), if_neg (by omega), if_neg (by omega), if_neg (by omega), if_neg e1, if_neg e2, if_neg e3, if_neg (by omega), if_neg (by omega), if_neg (by omega)]
  rfl
end Go.Proofs.YtofhckheeijoiaaGreatDoor
/- The document's Not of a set, by name. -/
namespace Go.Proofs.YtofhckheeijoiaaGreatDoor
open Go Go.RowKit

end Go.Proofs.YtofhckheeijoiaaGreatDoor
/- The document's set of a letter. -/
namespace Go.Proofs.YtofhckheeijoiaaGreatDoor
open Go Go.RowKit

end Go.Proofs.YtofhckheeijoiaaGreatDoor
/- The document's escapes of the flavour: letters behind a backslash. -/
namespace Go.Proofs.YtofhckheeijoiaaGreatDoor
open Go Go.RowKit

/-- What a letter of the flavour stands for: a kind, a set, a place. -/
def perlsR (c : Int) : Option (Int × List (Int × Int) × Int) :=
  if ¬ placeI c = 0 then some (3, [], placeI c) else if c = 81 then some (4, [], 0) else if 127 < c then none else
  match perlR c with
  | none => none
  | some l => some (2, l, 0)
def escV (k r : Int) (v : Value) (a : Int) : Value := .agg #[.int .i64 k, .int .i32 r, v, .int .i64 a]
def PerlsPost (o : Option (Int × List (Int × Int) × Int)) (behind : Int) (w : World) (e : Ending) (w' : World) : Prop :=
  Below w.heap.size w w' ∧ ((o = none ∧ e = .returned (.tuple #[escV 0 0 (.slice none 0 0) 0, .int .i64 0, .bool false])) ∨ ∃ k l a v, o = some (k, l, a) ∧ e = .returned (.tuple #[escV k 0 v a, .int .i64 behind, .bool true]) ∧ OwnR w' w.heap.size v l)
theorem own_set4 {w : World} {B b : Nat} {v : Value} {l : List (Int × Int)} (h : OwnR w B v l) (hB : ∀ g, v.ownBlock = some g → g ≠ b) (x0 x1 x2 x3 : Value) : OwnR (set4 w b x0 x1 x2 x3) B v l := by
  refine ⟨?_, h.2⟩
  rcases h.1.2 with ⟨rfl, h0⟩ | ⟨q, cap, cur, rfl, h1, hh, h2⟩
  · exact ⟨h.1.1, .inl ⟨rfl, h0⟩⟩
  · refine ⟨h.1.1, .inr ⟨q, cap, cur, rfl, h1, ?_, h2⟩⟩
    rw [set4_other (hB q (by simp [Value.ownBlock]))]
    exact hh
theorem own_set3 {w : World} {B b : Nat} {v : Value} {l : List (Int × Int)} (h : OwnR w B v l) (hB : ∀ g, v.ownBlock = some g → g ≠ b) (x0 x1 x2 : Value) : OwnR (set3 w b x0 x1 x2) B v l := by
  refine ⟨?_, h.2⟩
  rcases h.1.2 with ⟨rfl, h0⟩ | ⟨q, cap, cur, rfl, h1, hh, h2⟩
  · exact ⟨h.1.1, .inl ⟨rfl, h0⟩⟩
  · refine ⟨h.1.1, .inr ⟨q, cap, cur, rfl, h1, ?_, h2⟩⟩
    rw [set3_other (hB q (by simp [Value.ownBlock]))]
    exact hh
theorem own_ge {w : World} {B : Nat} {v : Value} {l : List (Int × Int)} (h : OwnR w B v l) : ∀ g, v.ownBlock = some g → B ≤ g := fun g hg => by
  rcases h.1.2 with ⟨rfl, _⟩ | ⟨q, cap, cur, rfl, h1, _⟩
  · simp [Value.ownBlock] at hg
  · simp [Value.ownBlock] at hg
    omega

end Go.Proofs.YtofhckheeijoiaaGreatDoor
/- The document's set of a property's name. -/
namespace Go.Proofs.YtofhckheeijoiaaGreatDoor
open Go Go.RowKit

theorem any_right : RightR (notR []) := notR_right nil_right
theorem name_len {b : List UInt8} {l : List (Int × Int)} (h : nameR b = some l) : l.length ≤ 1099511627776 := by have := right_len l 0 (by omega) (name_right h); omega

end Go.Proofs.YtofhckheeijoiaaGreatDoor
/- The program's runs: a literal of runes, two by two, as a fresh row of ranges. -/
namespace Go.Proofs.YtofhckheeijoiaaGreatDoor
open Go Go.RowKit

/-- The slice value v holds the ends of the ranges l, one behind the other. -/
def Ends2 (w : World) (v : Value) (l : List (Int × Int)) : Prop :=
  ∃ b, v = .slice (some ⟨b, 0, none⟩) (l.length * 2) (l.length * 2) ∧ (∀ i (h : i < l.length), w.cell? ⟨b, i * 2, none⟩ = some (.int .i32 l[i].1) ∧ w.cell? ⟨b, i * 2 + 1, none⟩ = some (.int .i32 l[i].2)) ∧ AllI32 l
theorem ends2_lit (w : World) (l : List (Int × Int)) (n : Nat) (cs : Array Value) (hc : cs.toList = cellsR l) (hn : l.length * 2 = n) (hi : AllI32 l) : Ends2 (w.alloc (.cells cs 21)) (.slice (some ⟨w.heap.size, 0, none⟩) n n) l := by
  subst hn
  refine ⟨w.heap.size, rfl, fun i h => ?_, hi⟩
  obtain ⟨h1, h2⟩ := cellsR_at l i h
  rw [cell_of_row _ _ _ _ _ _ (heap_alloc_new w _), cell_of_row _ _ _ _ _ _ (heap_alloc_new w _), ← Array.getElem?_toList, ← Array.getElem?_toList, hc]
  exact ⟨h1, h2⟩
theorem Ends2.below {w w' : World} {v : Value} {l : List (Int × Int)} (h : Ends2 w v l) (hb : Below w.heap.size w w') : Ends2 w' v l := by
  obtain ⟨b, h1, h2, h3⟩ := h
  exact ⟨b, h1, fun i hi => ⟨(hb.cell (World.block_lt_of_cell? w _ (h2 i hi).1)).trans (h2 i hi).1, (hb.cell (World.block_lt_of_cell? w _ (h2 i hi).2)).trans (h2 i hi).2⟩, h3⟩

/-- make([]api.Range, 0, c): a row of the call's own that holds nothing yet. -/
theorem make_runs (c : Nat) (hc : c ≤ 1000000) :
    ∃ C : Array Value, C.size = c * 2 ∧ ∀ W : World, (Instr.makeSlice 34 (.int .i64 0) (.int .i64 (c : Int))).run Tryz.prog W = .ok (.slice (some ⟨W.heap.size, 0, none⟩) 0 c) (W.alloc (.cells C 123)) := by
  obtain ⟨i, hi, h0, h1, h2⟩ := info_parts info_range
  refine ⟨madeCells (Value.agg #[.int .i32 0, .int .i32 0]).cells (c * 2), by rw [size_madeCells], fun W => ?_⟩
  have hr := run_make (P := Tryz.prog) W 34 123 i _ Tryz.underlying34 hi h0 .i64 .i64 0 c (Int.le_refl _) (by omega) (by rw [h2]; omega) (by omega)
  simp only [Int.toNat_zero, Int.toNat_natCast, h1] at hr
  exact hr
theorem own_runs (W : World) (B c : Nat) (C : Array Value) (hB : B ≤ W.heap.size) (hC : C.size = c * 2) (hc : c ≤ 1000000) : OwnR (W.alloc (.cells C 123)) B (.slice (some ⟨W.heap.size, 0, none⟩) 0 c) [] :=
  ⟨⟨rfl, .inr ⟨W.heap.size, c, C, rfl, hB, heap_alloc_new W _, Nat.zero_le _, by unfold maxLen; omega, hC, by simp [cellsR]⟩⟩, by simp [AllI32]⟩

set_option maxHeartbeats 1600000 in
set_option maxRecDepth 100000 in
theorem runs_any (v : Value) (l : List (Int × Int)) (w : World) (h : Ends2 w v l) (hn : l.length ≤ 1000) :
    Calls Tryz.prog 65 #[v] w fun e w' => ∃ v', e = .returned v' ∧ OwnR w' w.heap.size v' l ∧ Below w.heap.size w w' := by
  obtain ⟨b, rfl, h2, h3⟩ := h
  obtain ⟨n, hl⟩ : ∃ n, l.length * 2 = n := ⟨_, rfl⟩
  rw [hl]
  have H3 := Lib.hid h3; have H2 := Lib.hid h2; have HL := Lib.hid hl
  clear h2 h3
  obtain ⟨C, hC, mk⟩ := make_runs l.length (by omega)
  have HO0 := Lib.hid (own_runs w w.heap.size l.length C (Nat.le_refl _) hC (by omega))
  have hq : Int.tdiv (n : Int) 2 = (l.length : Int) := by
    rw [show (n : Int) = (l.length : Int) * 2 by omega]
    exact Int.mul_tdiv_cancel _ (by decide)
  clear hC hl
  go_enter Tryz.func65, Tryz.ntmps65
  go_wp2_with fail
  go_loopw [3, 4] (fun vs i wr => ∃ m k : Nat, m ≤ l.length ∧ m * 2 = k ∧ i = .int .i64 k ∧ OwnR wr w.heap.size vs (l.take m) ∧ Below w.heap.size w wr) (fun _ i _ => n - (intOf i).toNat)
  case atStart => exact ⟨0, 0, Nat.zero_le _, rfl, rfl, HO0.out, (Below.refl _ _).alloc (Nat.le_refl _) _⟩
  case round =>
    obtain ⟨m, k, hm, hk, rfl, hO, hB⟩ := hrel
    have HO := Lib.hid hO; have HB := Lib.hid hB
    have hl := HL.out
    clear hO hB
    by_cases hlt : m < l.length
    · obtain ⟨c1w, c2w⟩ := H2.out m hlt
      obtain ⟨⟨x1, x2⟩, hx⟩ : ∃ x, l[m] = x := ⟨_, rfl⟩
      rw [hx, hk] at c1w c2w
      have hsp : l.take (m + 1) = l.take m ++ [(x1, x2)] := by rw [List.take_succ_eq_append_getElem hlt, hx]
      have hxi := H3.out (x1, x2) (by rw [← hx]; exact List.getElem_mem hlt)
      have c1 := (HB.out.cell (World.block_lt_of_cell? w _ c1w)).trans c1w
      have c2 := (HB.out.cell (World.block_lt_of_cell? w _ c2w)).trans c2w
      have C1 := Lib.hid c1w; have C2 := Lib.hid c2w
      have HSP := Lib.hid hsp; have HXI := Lib.hid hxi; have HK := Lib.hid hk
      have hsz := HB.out.size
      have kn : k < n := by omega
      have kn1 : k + 1 < n := by omega
      have i0 : (0 : Int) ≤ (k : Int) := by omega
      have i1 : (k : Int) < (n : Int) := by omega
      have i2 : (0 : Int) ≤ (k : Int) + 1 := by omega
      have i3 : (k : Int) + 1 < (n : Int) := by omega
      have hw1 : IntKind.i64.wrap ((k : Int) + 1) = (k : Int) + 1 := by rw [show (k : Int) + 1 = ((k + 1 : Nat) : Int) by omega]; exact wrap_nat _ (by omega)
      have e2 : ((k : Int) + 1).toNat = k + 1 := by omega
      clear hsp hx hxi c1w c2w hk hl
      go_upto_region 5 with (fail)
      go_region_held3 (fun w' => w'.cell? ⟨b, k, none⟩ = some (.int .i32 x1) ∧ w'.cell? ⟨b, k + 1, none⟩ = some (.int .i32 x2)) (first | go_keep | exact ⟨c1, c2⟩ | (constructor <;> assumption)) (first | (refine step_append_rgs rfl (.tmp 15) (.tmp 26) rfl w.heap.size _ (l.take m) rfl (HO.out.below ((Below.refl _ wr).alloc (Nat.le_refl _) _).drew) wr.heap.size x1 x2 rfl ((rgs_new wr x1 x2 HXI.out.1 HXI.out.2).below (Below.refl _ _).drew) (by rw [List.length_take]; omega) (by simp; omega) ?_; intro v3 w3 ho3 hg3; have hB3 := Lib.hid (((HB.out.alloc HB.out.size _).drew).grown hg3 (by simp; omega) (fun j hj => (HO.out.1.lt j hj).1)); have k1 := (hB3.out.cell (World.block_lt_of_cell? w _ C1.out)).trans C1.out; have k2 := (hB3.out.cell (World.block_lt_of_cell? w _ C2.out)).trans C2.out))
      have HO3 := Lib.hid ho3
      clear ho3 hg3 k1 k2 c1 c2
      have hw2 : IntKind.i64.wrap ((k : Int) + 2) = (k : Int) + 2 := by rw [show (k : Int) + 2 = ((k + 2 : Nat) : Int) by omega]; exact wrap_nat _ (by have hl := HL.out; omega)
      go_wp2
      go_roundw
      case rel =>
        have hl := HL.out
        exact ⟨m + 1, k + 2, by omega, by have := HK.out; omega, rfl, by rw [HSP.out]; exact HO3.out, hB3.out⟩
      case measure =>
        have hl := HL.out
        simp only [intOf]
        omega
    · have e : l.take m = l := List.take_of_length_le (by omega)
      have ho := HO.out
      rw [e] at ho
      have HO' := Lib.hid ho
      have i1 : ¬ (k : Int) < (n : Int) := by omega
      clear ho e hk hl
      go_wp2
      go_ret
      exact ⟨_, rfl, HO'.out, HB.out⟩
end Go.Proofs.YtofhckheeijoiaaGreatDoor
/- Rows of edges that the call makes itself, lists of lists in memory, and what ends answers: the edges of all ranges, in a fresh row. -/
namespace Go.Proofs.YtofhckheeijoiaaGreatDoor
open Go Go.RowKit

def cellsE (k : List (Int × Int)) : List Value := k.flatMap fun r => [.int .i32 r.1, .int .i64 r.2]
theorem cellsE_append (a b : List (Int × Int)) : cellsE (a ++ b) = cellsE a ++ cellsE b := by simp [cellsE]
theorem cellsE_length : ∀ k : List (Int × Int), (cellsE k).length = k.length * 2
  | [] => rfl
  | r :: k => by
    have h := cellsE_length k
    have e : cellsE (r :: k) = [.int .i32 r.1, .int .i64 r.2] ++ cellsE k := rfl
    rw [e, List.length_append, h]
    simp
    omega
theorem cellsE_at : ∀ (k : List (Int × Int)) (i : Nat) (h : i < k.length), (cellsE k)[i * 2]? = some (.int .i32 k[i].1) ∧ (cellsE k)[i * 2 + 1]? = some (.int .i64 k[i].2)
  | [], i, h => by simp at h
  | r :: k, 0, h => ⟨rfl, rfl⟩
  | r :: k, i + 1, h => by
    have e : cellsE (r :: k) = .int .i32 r.1 :: .int .i64 r.2 :: cellsE k := rfl
    have h' := cellsE_at k i (by simpa using h)
    rw [e, show (i + 1) * 2 = i * 2 + 1 + 1 by omega]
    simpa using h'
theorem cellsE_get (k : List (Int × Int)) (j : Nat) (u : Value) (h : (cellsE k)[j]? = some u) : ∃ i, ∃ hi : i < k.length, (j = i * 2 ∧ u = .int .i32 k[i].1) ∨ (j = i * 2 + 1 ∧ u = .int .i64 k[i].2) := by
  have hl := (List.getElem?_eq_some_iff.1 h).1
  rw [cellsE_length] at hl
  have hi : j / 2 < k.length := by omega
  obtain ⟨h1, h2⟩ := cellsE_at k (j / 2) hi
  refine ⟨j / 2, hi, ?_⟩
  by_cases hj : j % 2 = 0
  · left
    have e : j = j / 2 * 2 := by omega
    refine ⟨e, ?_⟩
    rw [← e, h] at h1
    exact Option.some.inj h1
  · right
    have e : j = j / 2 * 2 + 1 := by omega
    refine ⟨e, ?_⟩
    rw [← e, h] at h2
    exact Option.some.inj h2
theorem cellsE_one (k : List (Int × Int)) : ∀ u ∈ cellsE k, u.oneCell' = true := fun u hu => by
  obtain ⟨j, hj⟩ := List.getElem?_of_mem hu
  obtain ⟨i, _, ⟨_, rfl⟩ | ⟨_, rfl⟩⟩ := cellsE_get k j u hj
  · rfl
  · rfl
theorem info_edge : (Tryz.prog.info? 139).map (fun i => (i.zero, i.size, i.bytes)) = some (some (.agg #[.int .i32 0, .int .i64 0]), 2, 16) := by kernel_rfl
/-- The value v owns a row of the edges k, among the blocks from B on. -/
def OwnE (w : World) (B : Nat) (v : Value) (k : List (Int × Int)) : Prop := w.ownsRow B 139 2 v k.length (cellsE k)
theorem OwnE.below {w w' : World} {B : Nat} {v : Value} {k : List (Int × Int)} (h : OwnE w B v k) (hb : Below w.heap.size w w') : OwnE w' B v k :=
  World.ownsRow.kept h (row := none) ⟨hb.os, hb.tape, hb.output, hb.size, fun k hk _ => hb.block k hk⟩ (by cases v.ownBlock <;> simp)
theorem owne_none (w : World) (B : Nat) : OwnE w B (.slice none 0 0) [] := World.ownsRow_nil _ _ _ _

/-- Two edges in a block of their own. -/
def Two (w : World) (g : Nat) (x y : Int × Int) : Prop := Whole w g 139 #[.int .i32 x.1, .int .i64 x.2, .int .i32 y.1, .int .i64 y.2]
theorem append_two {w : World} {ops : Array Oper} {rest : List Oper} {o : Oper} {a : Act} {Q : Exit → Act → World → Prop} (hgd : o.guard = none) (x y : Operand)
    (ho : o.op = .call { callee := .builtin .append, args := #[x, y], argTypes := #[135, 135] })
    (base : Nat) (v : Value) (O : List (Int × Int)) (hs : a.eval x = v) (hown : OwnE w base v O)
    (g : Nat) (e1 e2 : Int × Int) (hx : a.eval y = .slice (some ⟨g, 0, none⟩) 2 2) (ht : Two w g e1 e2) (hn : O.length + 2 ≤ 8796093022208) (hbase : base ≤ w.heap.size)
    (h : ∀ v' w', OwnE w' base v' (O ++ [e1, e2]) → w.grownBy w' v.ownBlock → wpList Tryz.prog ops Q rest (a.put o.dst v') w') : wpList Tryz.prog ops Q (o :: rest) a w := by
  obtain ⟨i, hi, hz, hsize, hby⟩ := info_parts info_edge
  refine wpList_append_own w hgd x y 135 ho base 139 i (.agg #[.int .i32 0, .int .i64 0]) 2 16 Tryz.underlying135 hi hz hsize hby rfl (by omega) v O.length (cellsE O) hs hown ⟨g, 0, none⟩ 2 2 (cellsE [e1, e2]) hx (by rw [cellsE_length]; rfl) ?_ (cellsE_one _) (by unfold maxLen; omega) (by omega) hbase (fun v' w' g1 g2 _ => h v' w' ?_ g2)
  · intro j u hu
    have hadd : (⟨g, 0, none⟩ : Addr).add j = ⟨g, j, none⟩ := by unfold Addr.add; split <;> simp_all
    rw [hadd, ht.cell]
    obtain ⟨e11, e12⟩ := e1
    obtain ⟨e21, e22⟩ := e2
    simpa [cellsE] using hu
  · unfold OwnE
    rw [cellsE_append, List.length_append]
    exact g1

/-- The slice value v holds the lists ls, each of ranges. -/
def Lss (w : World) (v : Value) (ls : List (List (Int × Int))) : Prop :=
  ∃ b o c, v = .slice (some ⟨b, o, none⟩) ls.length c ∧ ls.length ≤ c ∧ c ≤ maxLen ∧ ∀ i (h : i < ls.length), ∃ u, w.cell? ⟨b, o + i, none⟩ = some u ∧ Rgs w u ls[i]
theorem Lss.below {w w' : World} {v : Value} {ls : List (List (Int × Int))} (h : Lss w v ls) (hb : Below w.heap.size w w') : Lss w' v ls := by
  obtain ⟨b, o, c, h1, h2, h3, h4⟩ := h
  refine ⟨b, o, c, h1, h2, h3, fun i hi => ?_⟩
  obtain ⟨u, hu, hr⟩ := h4 i hi
  exact ⟨u, (hb.cell (World.block_lt_of_cell? w _ hu)).trans hu, hr.below hb⟩
/-- How many ranges in all. -/
def totL (ls : List (List (Int × Int))) : Nat := (ls.map List.length).sum
theorem endsL_length : ∀ ls : List (List (Int × Int)), (endsL ls).length ≤ 2 * totL ls
  | [] => Nat.le_refl _
  | l :: ls => by
    have h1 := endsR_length l
    have h2 := endsL_length ls
    rw [endsL_cons, List.length_append]
    unfold totL at *
    rw [List.map_cons, List.sum_cons]
    omega
theorem endsL_take (ls : List (List (Int × Int))) (m : Nat) (h : m < ls.length) : endsL (ls.take (m + 1)) = endsL (ls.take m) ++ endsR ls[m] := by
  rw [List.take_succ_eq_append_getElem h, endsL_append]
  simp [endsL]
theorem endsR_take (l : List (Int × Int)) (m : Nat) (x : Int × Int) (h : l.take (m + 1) = l.take m ++ [x]) : endsR (l.take (m + 1)) = endsR (l.take m) ++ endR x := by
  rw [h, endsR_append]
  simp [endsR]
theorem totL_take (ls : List (List (Int × Int))) (m : Nat) (h : m < ls.length) : totL (ls.take m) + ls[m].length ≤ totL ls := by
  unfold totL
  have e : ls = ls.take m ++ ls[m] :: ls.drop (m + 1) := by
    rw [List.getElem_cons_drop, List.take_append_drop]
  have e2 : ((ls.take m ++ ls[m] :: ls.drop (m + 1)).map List.length).sum = ((ls.take m).map List.length).sum + (ls[m].length + ((ls.drop (m + 1)).map List.length).sum) := by
    rw [List.map_append, List.sum_append, List.map_cons, List.sum_cons]
  rw [← e] at e2
  omega
def EndsPost (ls : List (List (Int × Int))) (w : World) (e : Ending) (w' : World) : Prop := ∃ v, e = .returned v ∧ OwnE w' w.heap.size v (endsL ls) ∧ Below w.heap.size w w'

theorem two_new (w : World) (x1 x2 y1 y2 : Int) : Two (w.alloc (.cells #[.int .i32 x1, .int .i64 x2, .int .i32 y1, .int .i64 y2] 139)) w.heap.size (x1, x2) (y1, y2) := heap_alloc_new w _

set_option maxHeartbeats 1600000 in
set_option maxRecDepth 100000 in
theorem ends_any (v : Value) (ls : List (List (Int × Int))) (w : World) (h : Lss w v ls) (hn : totL ls ≤ 1099511627776) :
    Calls Tryz.prog 79 #[v] w (EndsPost ls w) := by
  have HL := Lib.hid h
  obtain ⟨b, o, c, rfl, h2, h3, -⟩ := h
  have hlen : ls.length ≤ 9223372036854775807 := by unfold maxLen at h3; omega
  clear h2 h3
  go_enter Tryz.func79, Tryz.ntmps79
  go_wp2_with fail
  go_loopw [3, 12] (fun vs i wr => ∃ m : Nat, m ≤ ls.length ∧ i = .int .i64 m ∧ OwnE wr w.heap.size vs (endsL (ls.take m)) ∧ Below w.heap.size w wr) (fun _ i _ => ls.length - (intOf i).toNat)
  case atStart => exact ⟨0, Nat.zero_le _, rfl, owne_none _ _, Below.refl _ _⟩
  case round =>
    obtain ⟨m, hm, rfl, hO, hB⟩ := hrel
    have HO := Lib.hid hO; have HB := Lib.hid hB
    clear hO hB
    by_cases hlt : m < ls.length
    · obtain ⟨b', o', c', e, -, -, hc⟩ := HL.out
      injection e with e1 e2 e3
      injection e1 with e1
      injection e1 with e1 e4
      subst e1 e4 e3
      obtain ⟨u, hu0, hr⟩ := hc m hlt
      have hu := (HB.out.cell (World.block_lt_of_cell? w _ hu0)).trans hu0
      clear hu0
      have hEL := endsL_take ls m hlt
      have hTL := totL_take ls m hlt
      have hEn := endsL_length (ls.take m)
      obtain ⟨l, hl⟩ : ∃ l, ls[m] = l := ⟨_, rfl⟩
      rw [hl] at hr hEL hTL
      have HR := Lib.hid hr; have HEL := Lib.hid hEL
      obtain ⟨a, cl, rfl, g2, g3, -⟩ := hr
      have hll : l.length ≤ 9223372036854775807 := by unfold maxLen at g3; omega
      clear hl hc hEL g2 g3
      go_wp2_with fail
      go_loopw [3, 18] (fun vs i wy => ∃ k : Nat, k ≤ l.length ∧ i = .int .i64 k ∧ OwnE wy w.heap.size vs (endsL (ls.take m) ++ endsR (l.take k)) ∧ Below w.heap.size w wy) (fun _ i _ => l.length - (intOf i).toNat)
      case atStart => exact ⟨0, Nat.zero_le _, rfl, by rw [List.take_zero]; simpa [endsR] using HO.out, HB.out⟩
      case round =>
        obtain ⟨k, hk, rfl, hO2, hB2⟩ := hrel
        have HO2 := Lib.hid hO2; have HB2 := Lib.hid hB2
        clear hO2 hB2
        by_cases hkl : k < l.length
        · obtain ⟨a', cq, e, q2, q3, q4, q5, q6⟩ := HR.out.below HB2.out
          injection e with e1 e2 e3
          subst e1 e3
          rcases q5 with q5 | ⟨b1, o1, rfl, hc⟩
          · rw [q5] at hkl
            simp at hkl
          obtain ⟨x1, x2, hx, hsp, c1, c2⟩ := rgs_at hc k hkl
          have hsE := endsR_take l k (x1, x2) hsp
          have HSE := Lib.hid hsE
          have hkn := endsR_length (l.take k)
          rw [List.length_take] at hkn
          clear hx hsp hc hsE q6
          go_upto_region 8 with (fail)
          go_big_quiet (fail)
          have hBn : Below wr.heap.size wr (((wr.alloc (.cells #[.int .i32 x1, .int .i32 x2] 123)).drewN nq)) := below_drewNr ((Below.refl _ _).alloc (Nat.le_refl _) _) nq
          obtain ⟨wn, hwn⟩ : ∃ wn, ((wr.alloc (.cells #[.int .i32 x1, .int .i32 x2] 123)).drewN nq) = wn := ⟨_, rfl⟩
          obtain ⟨y1, hy1⟩ : ∃ y1 : Int, (if x1 < 0 then 0 else x1) = y1 := ⟨_, rfl⟩
          obtain ⟨y2, hy2⟩ : ∃ y2 : Int, (if 1114111 < x2 then 1114111 else x2) = y2 := ⟨_, rfl⟩
          rw [hwn] at hBn ⊢
          rw [hy1, hy2]
          have hER : endR (x1, x2) = if y1 ≤ y2 then [(y1, 1), (y2 + 1, -1)] else [] := by
            unfold endR
            simp only
            rw [show max x1 0 = y1 by split at hy1 <;> omega, show min x2 1114111 = y2 by split at hy2 <;> omega]
          have HER := Lib.hid hER
          have hb2 : y2 ≤ 1114111 := by split at hy2 <;> omega
          have hb1 : 0 ≤ y1 := by split at hy1 <;> omega
          have HB3 := Lib.hid (HB2.out.trans (hBn.mono HB2.out.size))
          have hsz0 := HB2.out.size
          have HO3 := Lib.hid (HO2.out.below hBn)
          have hsz := HB3.out.size
          have hOl : (endsL (ls.take m) ++ endsR (l.take k)).length + 2 ≤ 8796093022208 := by rw [List.length_append]; omega
          have HOL := Lib.hid hOl
          clear hwn hy1 hy2 hER hBn c1 c2 hOl
          by_cases hxy : y1 ≤ y2
          · go_wp2_with (at_builtin; refine append_two rfl (.tmp 31) (.tmp 37) rfl w.heap.size _ _ rfl (HO3.out.below ((Below.refl _ _).alloc (Nat.le_refl _) _)) wn.heap.size (y1, 1) (y2 + 1, -1) rfl (two_new wn y1 1 (y2 + 1) (-1)) HOL.out ?c1 ?_)
            case c1 => first | omega | (simp; omega)
            intro v3 w3 ho3 hg3
            have HB4 := Lib.hid ((HB3.out.alloc HB3.out.size _).grown hg3 (by simp; omega) (fun j hj => (World.ownsRow.lt HO3.out j hj).1))
            have HO4 := Lib.hid ho3
            clear ho3 hg3
            go_wp2
            go_roundw
            case rel => exact ⟨k + 1, by omega, by go_num, by rw [HSE.out, HER.out, if_pos hxy]; first | exact HO4.out | (rw [← List.append_assoc]; exact HO4.out), HB4.out⟩
            case measure => simp [intOf]; omega
          · go_wp2
            go_roundw
            case rel => exact ⟨k + 1, by omega, by go_num, by rw [HSE.out, HER.out, if_neg hxy, List.append_nil]; exact HO3.out, HB3.out⟩
            case measure => simp [intOf]; omega
        · have e : l.take k = l := List.take_of_length_le (by omega)
          go_wp2
          go_roundw
          case rel => exact ⟨m + 1, by omega, by go_num, by rw [HEL.out]; have := HO2.out; rw [e] at this; exact this, HB2.out⟩
          case measure => simp [intOf]; omega
    · have e : ls.take m = ls := List.take_of_length_le (by omega)
      have ho := HO.out
      rw [e] at ho
      have HO' := Lib.hid ho
      clear ho e
      go_wp2
      go_ret
      exact ⟨_, rfl, HO'.out, HB.out⟩
end Go.Proofs.YtofhckheeijoiaaGreatDoor
/- The document's set of a name between colons, without a sign ahead. -/
namespace Go.Proofs.YtofhckheeijoiaaGreatDoor
open Go Go.RowKit

end Go.Proofs.YtofhckheeijoiaaGreatDoor
/- The document's set of a name between colons. -/
namespace Go.Proofs.YtofhckheeijoiaaGreatDoor
open Go Go.RowKit

end Go.Proofs.YtofhckheeijoiaaGreatDoor
/- What a dot stands for. -/
namespace Go.Proofs.YtofhckheeijoiaaGreatDoor
open Go Go.RowKit

end Go.Proofs.YtofhckheeijoiaaGreatDoor
