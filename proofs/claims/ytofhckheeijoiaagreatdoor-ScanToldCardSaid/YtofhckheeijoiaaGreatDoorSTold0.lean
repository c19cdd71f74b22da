/- Decimal numbers written out are read as they are; a name between its brackets. -/
import Derived.Test.YtofhckheeijoiaaGreatDoorK37
import Derived.Test.YtofhckheeijoiaaGreatDoorK38
import Derived.Lib.ItoaNum
import Derived.Lib.LaidTab
import Derived.Lib.AppendIntMem
set_option linter.unusedVariables false
namespace Go.Proofs.YtofhckheeijoiaaGreatDoor
open Go Go.RowKit

theorem tab10_below {w w' : World} (h : Lib.TabIs Tryz.prog w "internal/strconv.uint64pow10" .u64 Lib.pow10Tab) (hb : Below w.heap.size w w') : Lib.TabIs Tryz.prog w' "internal/strconv.uint64pow10" .u64 Lib.pow10Tab := by
  have hgn : Tryz.prog.globalNamed "internal/strconv.uint64pow10" = some 0 := by kernel_rfl
  unfold Lib.TabIs World.var? at h ⊢
  rw [hgn] at h ⊢
  simp only [Option.bind_some] at h ⊢
  have hlt : 0 < w.heap.size := by
    rcases Nat.lt_or_ge 0 w.heap.size with h' | h'
    · exact h'
    · rw [Array.getElem?_eq_none h'] at h
      cases h
  rw [hb.block _ hlt]
  exact h
theorem ofNat_toNat (n : Nat) (h : n < 256) : (UInt8.ofNat n).toNat = n := by
  rw [UInt8.toNat_ofNat']
  exact Nat.mod_eq_of_lt h
/-- One digit more. -/
theorem digs_one (d : Nat) (hd : d < 10) (t : List UInt8) (n : Int) : digsFrom (UInt8.ofNat (48 + d) :: t) n = ((digsFrom t (min (10 * n + (d : Int)) 1001)).1, (digsFrom t (min (10 * n + (d : Int)) 1001)).2 + 1) := by
  have h1 := ofNat_toNat (48 + d) (by omega)
  rw [digsFrom, if_pos ((isDig_iff _).2 (by rw [h1]; omega)), h1, show (((48 + d : Nat) : Int) - 48) = (d : Int) by omega]
theorem digs_dec : ∀ (u : Nat), u ≤ 1000 → ∀ rest : List UInt8, digsFrom (Lib.decDigits u ++ rest) 0 = ((digsFrom rest (u : Int)).1, (digsFrom rest (u : Int)).2 + (Lib.decDigits u).length) := by
  intro u
  induction u using Nat.strongRecOn with
  | _ u ih =>
    intro hu rest
    rw [Lib.decDigits]
    by_cases h : u < 10
    · rw [dif_pos h]
      show digsFrom (UInt8.ofNat (48 + u) :: rest) 0 = _
      rw [digs_one u h, show min (10 * (0 : Int) + (u : Int)) 1001 = (u : Int) by omega]
      rfl
    · rw [dif_neg h, List.append_assoc, ih (u / 10) (by omega) (by omega)]
      show ((digsFrom (UInt8.ofNat (48 + u % 10) :: rest) _).1, _) = _
      rw [List.singleton_append, digs_one (u % 10) (by omega), show min (10 * ((u / 10 : Nat) : Int) + ((u % 10 : Nat) : Int)) 1001 = (u : Int) by omega]
      simp only [List.length_append, List.length_singleton, Prod.mk.injEq, true_and]
      omega
theorem dec_pos (u : Nat) : 0 < (Lib.decDigits u).length := by
  rw [Lib.decDigits]
  split
  · exact Nat.zero_lt_one
  · simp
theorem dec_len : ∀ u : Nat, (Lib.decDigits u).length ≤ u + 1 := by
  intro u
  induction u using Nat.strongRecOn with
  | _ u ih =>
    rw [Lib.decDigits]
    split
    · simp
    · have := ih (u / 10) (by omega)
      simp only [List.length_append, List.length_singleton]
      omega
theorem size_list (b : ByteArray) : b.size = b.toList.length := by rw [Lib.toList_data, ← Lib.size_eq]
theorem digs_stop (c : UInt8) (t : List UInt8) (n : Int) (h : isDig c = false) : digsFrom (c :: t) n = (n, 0) := by rw [digsFrom, if_neg (by rw [h]; decide)]
theorem itoa_dec (n : Nat) : Lib.itoa (n : Int) = Lib.decDigits n := by
  unfold Lib.itoa
  rw [if_neg (by omega)]
  rfl
/-- Two numbers, a comma between. -/
theorem count_two {S : ByteArray} {A B : Nat} {rest : List UInt8} (hA : A ≤ 1000) (hB : B ≤ 1000) (hl : S.toList = 123 :: (Lib.decDigits A ++ 44 :: (Lib.decDigits B ++ 125 :: rest))) : countS S 0 = some ((A : Int), (B : Int), 1 + (Lib.decDigits A).length + 1 + (Lib.decDigits B).length + 1) := by
  have h0 : headI (leftB S 0) = 123 := by rw [left_of S 0 hl]; rfl
  have e1 : leftB S (0 + 1) = Lib.decDigits A ++ 44 :: (Lib.decDigits B ++ 125 :: rest) := by rw [left_of S _ hl]; rfl
  have h1 : digsFrom (leftB S (0 + 1)) 0 = ((A : Int), (Lib.decDigits A).length) := by rw [e1, digs_dec A hA, digs_stop _ _ _ (by decide)]; simp
  have e2 : leftB S (0 + 1 + (Lib.decDigits A).length) = 44 :: (Lib.decDigits B ++ 125 :: rest) := by rw [← left_drop, e1, List.drop_left]
  have e3 : leftB S (0 + 1 + (Lib.decDigits A).length + 1) = Lib.decDigits B ++ 125 :: rest := by rw [← left_drop, e2]; rfl
  have h2 : digsFrom (leftB S (0 + 1 + (Lib.decDigits A).length + 1)) 0 = ((B : Int), (Lib.decDigits B).length) := by rw [e3, digs_dec B hB, digs_stop _ _ _ (by decide)]; simp
  have e4 : leftB S (0 + 1 + (Lib.decDigits A).length + 1 + (Lib.decDigits B).length) = 125 :: rest := by rw [← left_drop, e3, List.drop_left]
  have hd : headI (leftB S (0 + 1 + (Lib.decDigits A).length + 1)) ≠ 125 := by
    rw [e3, Lib.decDigits]
    split
    · rename_i h
      show ((UInt8.ofNat (48 + B)).toNat : Int) ≠ 125
      rw [ofNat_toNat _ (by omega)]
      omega
    · intro h
      have hq := dec_pos (B / 10)
      cases hc : Lib.decDigits (B / 10) with
      | nil => rw [hc] at hq; exact absurd hq (by decide)
      | cons x t =>
        have hx := digs_dec (B / 10) (by omega) []
        rw [hc] at h hx
        have h125 : x.toNat = 125 := by
          have h' : (x.toNat : Int) = 125 := h
          omega
        have : isDig x = false := by unfold isDig; rw [h125]; rfl
        rw [List.cons_append, digs_stop _ _ _ this] at hx
        injection hx with _ hx
        simp at hx
  rw [countS_eq h0 h1 rfl h2 rfl, if_neg (by have := dec_pos A; omega), e2, if_neg (by show ¬ ((44 : UInt8).toNat : Int) = 125; decide), if_neg (fun h => h rfl), if_neg hd, if_neg (by have := dec_pos B; omega), e4, if_pos (show headI (125 :: rest) = 125 from rfl)]
/-- One number, without an end. -/
theorem count_open {S : ByteArray} {A : Nat} {rest : List UInt8} (hA : A ≤ 1000) (hl : S.toList = 123 :: (Lib.decDigits A ++ 44 :: 125 :: rest)) : countS S 0 = some ((A : Int), -1, 1 + (Lib.decDigits A).length + 2) := by
  have h0 : headI (leftB S 0) = 123 := by rw [left_of S 0 hl]; rfl
  have e1 : leftB S (0 + 1) = Lib.decDigits A ++ 44 :: 125 :: rest := by rw [left_of S _ hl]; rfl
  have h1 : digsFrom (leftB S (0 + 1)) 0 = ((A : Int), (Lib.decDigits A).length) := by rw [e1, digs_dec A hA, digs_stop _ _ _ (by decide)]; simp
  have e2 : leftB S (0 + 1 + (Lib.decDigits A).length) = 44 :: 125 :: rest := by rw [← left_drop, e1, List.drop_left]
  have e3 : leftB S (0 + 1 + (Lib.decDigits A).length + 1) = 125 :: rest := by rw [← left_drop, e2]; rfl
  have h2 : digsFrom (leftB S (0 + 1 + (Lib.decDigits A).length + 1)) 0 = (0, 0) := by rw [e3, digs_stop _ _ _ (by decide)]
  rw [countS_eq h0 h1 rfl h2 rfl, if_neg (by have := dec_pos A; omega), e2, if_neg (by show ¬ ((44 : UInt8).toNat : Int) = 125; decide), if_neg (fun h => h rfl), e3, if_pos (show headI (125 :: rest) = 125 from rfl)]

theorem gtN_stop : ∀ (l rest : List UInt8), (∀ c ∈ l, c.toNat ≠ 62) → gtN (l ++ 62 :: rest) = l.length
  | [], rest, _ => rfl
  | c :: t, rest, h => by
    rw [List.cons_append, gtN, if_neg (h c (List.mem_cons_self ..)), gtN_stop t rest (fun x hx => h x (List.mem_cons_of_mem _ hx))]
    rfl
/-- What is read of a named group's beginning, written out. -/
theorem name_told {S : ByteArray} {n rest : List UInt8} {p : List UInt8} (hp : p = [40, 63, 80, 60] ∨ p = [40, 63, 60]) (hn : ∀ c ∈ n, c.toNat ≠ 62) (hl : S.toList = p ++ (n ++ 62 :: rest)) :
    nameS S 0 = if nameB n = true then some (n, p.length + n.length + 1) else none := by
  have hz : S.size = p.length + (n.length + (rest.length + 1)) := by rw [show S.size = S.toList.length by rw [Lib.toList_data, ← Lib.size_eq], hl]; simp
  have hf : fromS S 0 = some p.length := by
    unfold fromS
    rw [left_of S 0 hl, List.drop_zero]
    rcases hp with rfl | rfl
    · rw [if_pos (by unfold preB; rfl)]
      rfl
    · have : preB [40, 63, 80, 60] ([40, 63, 60] ++ (n ++ 62 :: rest)) = false := by
        unfold preB
        simp only [List.cons_append, List.nil_append, List.length_cons, List.length_nil, List.take_succ_cons]
        rfl
      rw [this, if_neg (by decide), if_pos (by unfold preB; rfl)]
      rfl
  have hE : endS S 0 = p.length + n.length := by
    unfold endS
    rw [left_of S 0 hl, List.drop_zero, ← List.append_assoc, gtN_stop (p ++ n) rest (fun c hc => (List.mem_append.1 hc).elim (fun h => by rcases hp with rfl | rfl <;> simp at h <;> rcases h with rfl | rfl | rfl | rfl <;> decide) (hn c))]
    simp
  have hq : (leftB S p.length).take (p.length + n.length - p.length) = n := by
    rw [left_of S _ hl, List.drop_left, show p.length + n.length - p.length = n.length by omega, List.take_left]
  unfold nameS
  rw [hf]
  simp only [hE, hq]
  by_cases hb : nameB n = true
  · rw [if_pos ⟨by omega, by omega, hb⟩, if_pos hb]
  · rw [if_neg (fun h => hb h.2.2), if_neg hb]
end Go.Proofs.YtofhckheeijoiaaGreatDoor
