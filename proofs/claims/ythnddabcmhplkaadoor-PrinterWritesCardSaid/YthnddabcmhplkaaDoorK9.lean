/- Texts merged by program: SNumber, SHexL, BrHex, PrText. No condition. -/
import Derived.Test.YthnddabcmhplkaaDoorK3
import Derived.Test.YthnddabcmhplkaaDoorK8
import Derived.Test.YthnddabcmhplkaaDoorK1
import Derived.Test.YthnddabcmhplkaaDoorK2
import Derived.Test.YthnddabcmhplkaaDoorK7
import Derived.Deep.DeepCutAuto
import Derived.Deep.QuietTactic
import Derived.BigQuiet
import Derived.Below
import Derived.Laws.IdiomStrings
import Derived.Lib.ItoaNum
set_option linter.unusedVariables false
/- The document's number behind \x, and the name behind \p. -/
namespace Go.Proofs.YthnddabcmhplkaaDoor
open Go Go.RowKit

theorem wrap_in32 (n : Int) (h : -2147483648 ≤ n ∧ n ≤ 2147483647) : IntKind.i32.wrap n = n := (IntWalk.i32_left n).trans (IntWalk.wrap32_in n h)
/-- The number of the hexadecimal digits ahead, at most 1114112, onto n; and how many there are. -/
def hexsFrom : List UInt8 → Int → Int × Nat
  | [], n => (n, 0)
  | c :: t, n => if 0 ≤ hexI c.toNat then ((hexsFrom t (min (16 * n + hexI c.toNat) 1114112)).1, (hexsFrom t (min (16 * n + hexI c.toNat) 1114112)).2 + 1) else (n, 0)
theorem hexs_fit : ∀ (l : List UInt8) (n : Int), (hexsFrom l n).2 ≤ l.length
  | [], n => Nat.le_refl _
  | c :: t, n => by
    unfold hexsFrom
    split
    · have := hexs_fit t (min (16 * n + hexI c.toNat) 1114112)
      simp only [List.length_cons]
      omega
    · exact Nat.zero_le _
theorem hexs_low : ∀ (l : List UInt8) (n : Int), 0 ≤ n → 0 ≤ (hexsFrom l n).1
  | [], n, h => h
  | c :: t, n, h => by
    unfold hexsFrom
    split
    · rename_i hc
      exact hexs_low t _ (by omega)
    · exact h
def numberS (s : ByteArray) (i : Nat) : Option (Int × Nat) :=
  if 0 ≤ hexI (headI (leftB s i)) ∧ 0 ≤ hexI (headI (leftB s (i + 1))) then some (16 * hexI (headI (leftB s i)) + hexI (headI (leftB s (i + 1))), i + 2) else
  if ¬ headI (leftB s i) = 123 then none else
  if (hexsFrom (leftB s (i + 1)) 0).2 = 0 then none else
  if ¬ headI (leftB s (i + 1 + (hexsFrom (leftB s (i + 1)) 0).2)) = 125 then none else
  if 1114111 < (hexsFrom (leftB s (i + 1)) 0).1 then none else some ((hexsFrom (leftB s (i + 1)) 0).1, i + 1 + (hexsFrom (leftB s (i + 1)) 0).2 + 1)
def NumPost (o : Option (Int × Nat)) (w : World) (e : Ending) (w' : World) : Prop :=
  Below w.heap.size w w' ∧ ((o = none ∧ e = .returned (.tuple #[.int .i32 0, .int .i64 0, .bool false])) ∨ ∃ v k, o = some (v, k) ∧ e = .returned (.tuple #[.int .i32 v, .int .i64 (k : Int), .bool true]))
theorem drewN_below (w : World) (n : Nat) : Below w.heap.size w (w.drewN n) := by
  induction n with
  | zero => exact Below.refl _ _
  | succ n ih => exact ih.drew

-- NUMBER
theorem numberS_neg {s : ByteArray} {i : Nat} (h : ¬ (0 ≤ hexI (headI (leftB s i)) ∧ 0 ≤ hexI (headI (leftB s (i + 1))))) : numberS s i =
    if ¬ headI (leftB s i) = 123 then none else
    if (hexsFrom (leftB s (i + 1)) 0).2 = 0 then none else
    if ¬ headI (leftB s (i + 1 + (hexsFrom (leftB s (i + 1)) 0).2)) = 125 then none else
    if 1114111 < (hexsFrom (leftB s (i + 1)) 0).1 then none else some ((hexsFrom (leftB s (i + 1)) 0).1, i + 1 + (hexsFrom (leftB s (i + 1)) 0).2 + 1) := by
  unfold numberS
  rw [if_neg h]
end Go.Proofs.YthnddabcmhplkaaDoor
/- Hexadecimal numbers written out are read as they are: plain side. -/
namespace Go.Proofs.YthnddabcmhplkaaDoor
open Go Go.RowKit

def hexD (d : Nat) : UInt8 := UInt8.ofNat (if d < 10 then 48 + d else 87 + d)
def hexL (n : Nat) : List UInt8 := if h : n < 16 then [hexD n] else hexL (n / 16) ++ [hexD (n % 16)]
termination_by n
decreasing_by omega
theorem hex_dig (d : Nat) (h : d < 16) : hexI ((hexD d).toNat : Int) = (d : Int) := by
  rcases (show d = 0 ∨ d = 1 ∨ d = 2 ∨ d = 3 ∨ d = 4 ∨ d = 5 ∨ d = 6 ∨ d = 7 ∨ d = 8 ∨ d = 9 ∨ d = 10 ∨ d = 11 ∨ d = 12 ∨ d = 13 ∨ d = 14 ∨ d = 15 by omega) with rfl | rfl | rfl | rfl | rfl | rfl | rfl | rfl | rfl | rfl | rfl | rfl | rfl | rfl | rfl | rfl <;> rfl
theorem hexs_one (d : Nat) (h : d < 16) (t : List UInt8) (n : Int) : hexsFrom (hexD d :: t) n = ((hexsFrom t (min (16 * n + (d : Int)) 1114112)).1, (hexsFrom t (min (16 * n + (d : Int)) 1114112)).2 + 1) := by
  rw [hexsFrom, hex_dig d h, if_pos (by omega)]
theorem hexs_hex : ∀ (u : Nat), u ≤ 1114111 → ∀ rest : List UInt8, hexsFrom (hexL u ++ rest) 0 = ((hexsFrom rest (u : Int)).1, (hexsFrom rest (u : Int)).2 + (hexL u).length) := by
  intro u
  induction u using Nat.strongRecOn with
  | _ u ih =>
    intro hu rest
    rw [hexL]
    by_cases h : u < 16
    · rw [dif_pos h, List.singleton_append, hexs_one u h, show min (16 * (0 : Int) + (u : Int)) 1114112 = (u : Int) by omega]
      rfl
    · rw [dif_neg h, List.append_assoc, ih (u / 16) (by omega) (by omega), List.singleton_append, hexs_one (u % 16) (by omega), show min (16 * ((u / 16 : Nat) : Int) + ((u % 16 : Nat) : Int)) 1114112 = (u : Int) by omega]
      simp only [List.length_append, List.length_singleton, Prod.mk.injEq, true_and]
      omega
theorem hex_pos (u : Nat) : 0 < (hexL u).length := by
  rw [hexL]
  split
  · exact Nat.zero_lt_one
  · simp
theorem hex_len : ∀ u : Nat, (hexL u).length ≤ u + 1 := by
  intro u
  induction u using Nat.strongRecOn with
  | _ u ih =>
    rw [hexL]
    split
    · simp
    · have := ih (u / 16) (by omega)
      simp only [List.length_append, List.length_singleton]
      omega
theorem hexs_noughts : ∀ (k : Nat) (l : List UInt8), hexsFrom (List.replicate k 48 ++ l) 0 = ((hexsFrom l 0).1, (hexsFrom l 0).2 + k)
  | 0, l => rfl
  | k + 1, l => by
    rw [List.replicate_succ, List.cons_append, show (48 : UInt8) = hexD 0 from rfl, hexs_one 0 (by decide), show min (16 * (0 : Int) + ((0 : Nat) : Int)) 1114112 = 0 by decide, show hexD 0 = (48 : UInt8) from rfl, hexs_noughts k l]
    rfl
end Go.Proofs.YthnddabcmhplkaaDoor
/- strconv.FormatInt in base 16, of a number of a rune: its hexadecimal digits. -/
namespace Go.Proofs.YthnddabcmhplkaaDoor
open Go Go.RowKit

/-- The one place of the library's table that is read. -/
def De64 (w : World) : Prop := w.cell? ⟨3, 15, none⟩ = some (.int .u8 4)
theorem De64.below {w w' : World} (h : De64 w) (hb : Below w.heap.size w w') : De64 w' := (hb.cell (World.block_lt_of_cell? w _ h)).trans h
set_option maxHeartbeats 800000 in
theorem trail64_any (w : World) (h : De64 w) : Calls Tryd.prog 89 #[.int .u64 16] w fun e w' => e = .returned (.int .i64 4) ∧ w' = w := by
  unfold De64 at h
  have e1 : IntKind.u64.wrap (-16) = 18446744073709551600 := by kernel_rfl
  have e2 : bits .and .u64 16 18446744073709551600 = 16 := by kernel_rfl
  have e3 : IntKind.u64.wrap 4573923408821661840 = 4573923408821661840 := by kernel_rfl
  go_enter Tryd.func89, Tryd.ntmps89
  go_wp2
  go_ret
  exact ⟨rfl, rfl⟩
set_option maxHeartbeats 800000 in
theorem trail_any (w : World) (h : De64 w) : Calls Tryd.prog 87 #[.int .u64 16] w fun e w' => e = .returned (.int .i64 4) ∧ w' = w := by
  have HT := Lib.hid (trail64_any w h)
  go_enter Tryd.func87, Tryd.ntmps87
  go_wp2_with fail
  refine HT.out.mono ?_
  rintro e w' ⟨rfl, rfl⟩
  go_wp2_with fail
  go_ret
  exact ⟨rfl, rfl⟩
set_option maxHeartbeats 800000 in
theorem pow2_any (w : World) : Calls Tryd.prog 86 #[.int .i64 16] w fun e w' => e = .returned (.bool true) ∧ w' = w := by
  go_enter Tryd.func86, Tryd.ntmps86
  go_wp2
  go_ret
  exact ⟨rfl, rfl⟩
/-- The row's end holds these bytes. -/
def Ends (W : World) (q : Nat) (D : List UInt8) : Prop := ∃ cs : Array Value, Whole W q 92 cs ∧ cs.size = 65 ∧ D.length ≤ 65 ∧ ∀ (j : Nat) (h : j < D.length), cs[65 - D.length + j]? = some (.int .u8 (D[j].toNat : Int))
theorem Ends.put {W : World} {q : Nat} {D : List UInt8} (h : Ends W q D) (c : UInt8) (k : Nat) (hk : D.length + 1 + k = 65) : Ends (W.setCell ⟨q, k, none⟩ (.int .u8 (c.toNat : Int))) q (c :: D) := by
  obtain ⟨cs, h1, h2, h3, h4⟩ := h
  refine ⟨_, h1.store k _, by simpa using h2, by simp; omega, fun j hj => ?_⟩
  rw [List.length_cons] at hj ⊢
  rw [show 65 - (D.length + 1) + j = k + j by omega]
  cases j with
  | zero => rw [Array.getElem?_setIfInBounds, if_pos (by omega), if_pos (by omega)]; rfl
  | succ j =>
    rw [Array.getElem?_setIfInBounds, if_neg (by omega), List.getElem_cons_succ, ← h4 j (by omega)]
    congr 1
    omega
theorem Ends.cell {W : World} {q : Nat} {D : List UInt8} (h : Ends W q D) (k : Nat) (hk : k < 65) : ∃ v, W.cell? ⟨q, k, none⟩ = some v ∧ W.frozen? ⟨q, k, none⟩ = false := by
  obtain ⟨cs, h1, h2, h3, h4⟩ := h
  exact ⟨cs[k]'(by omega), (h1.cell k).trans (Array.getElem?_eq_getElem (by omega)), h1.free k⟩
theorem and15 (u : Nat) (h : u < 18446744073709551616) : bits .and .u64 (u : Int) 15 = ((u % 16 : Nat) : Int) := by
  show IntKind.u64.wrap ((BitVec.ofInt 64 (u : Int) &&& 15#64).toNat : Int) = _
  rw [BitVec.ofInt_natCast, BitVec.toNat_and, BitVec.toNat_ofNat, show (15#64).toNat = 2 ^ 4 - 1 from rfl, Nat.mod_eq_of_lt h, Nat.and_two_pow_sub_one_eq_mod, IntKind.wrap_u64]
  omega
theorem digit_at (d : Nat) (h : d < 16) (h' : d < (⟨#[48, 49, 50, 51, 52, 53, 54, 55, 56, 57, 97, 98, 99, 100, 101, 102, 103, 104, 105, 106, 107, 108, 109, 110, 111, 112, 113, 114, 115, 116, 117, 118, 119, 120, 121, 122]⟩ : ByteArray).size) : (⟨#[48, 49, 50, 51, 52, 53, 54, 55, 56, 57, 97, 98, 99, 100, 101, 102, 103, 104, 105, 106, 107, 108, 109, 110, 111, 112, 113, 114, 115, 116, 117, 118, 119, 120, 121, 122]⟩ : ByteArray)[d] = hexD d := by
  rcases (show d = 0 ∨ d = 1 ∨ d = 2 ∨ d = 3 ∨ d = 4 ∨ d = 5 ∨ d = 6 ∨ d = 7 ∨ d = 8 ∨ d = 9 ∨ d = 10 ∨ d = 11 ∨ d = 12 ∨ d = 13 ∨ d = 14 ∨ d = 15 by omega) with rfl | rfl | rfl | rfl | rfl | rfl | rfl | rfl | rfl | rfl | rfl | rfl | rfl | rfl | rfl | rfl <;> rfl
theorem hex_short : ∀ (k u : Nat), u < 16 ^ (k + 1) → (hexL u).length ≤ k + 1
  | 0, u, h => by
    rw [hexL, dif_pos (by simpa using h)]
    simp
  | k + 1, u, h => by
    rw [hexL]
    split
    · simp
    · have := hex_short k (u / 16) (by rw [Nat.pow_succ] at h; exact Nat.div_lt_of_lt_mul (by rw [Nat.mul_comm]; exact h))
      simp only [List.length_append, List.length_singleton]
      omega
set_option maxHeartbeats 3200000 in
set_option maxRecDepth 100000 in
theorem fbits_any (n : Nat) (w : World) (hn : n ≤ 1114111) (h : De64 w) :
    Calls Tryd.prog 81 #[.slice none 0 0, .int .u64 n, .int .i64 16, .bool false, .bool false] w fun e w' => ∃ b : ByteArray, e = .returned (.tuple #[.slice none 0 0, .string b]) ∧ b.toList = hexL n ∧ Below w.heap.size w w' := by
  obtain ⟨w1, hw1⟩ : ∃ w1, w.alloc (.cells Tryd.zeroCells92 92) = w1 := ⟨_, rfl⟩
  have hb1 : Below w.heap.size w w1 := by rw [← hw1]; exact (Below.refl _ w).alloc (Nat.le_refl _) _
  have hE1 : Ends w1 w.heap.size [] := by rw [← hw1]; exact ⟨_, heap_alloc_new w _, by kernel_rfl, by decide, fun j h => by cases h⟩
  have HW1 := Lib.hid hw1; have HB1 := Lib.hid hb1; have HE1 := Lib.hid hE1; have HD := Lib.hid h
  clear hw1 hb1 hE1 h
  go_enter Tryd.func81, Tryd.ntmps81
  go_upto_region 4 with (fail)
  rw [HW1.out]
  go_wp2_with fail
  refine (pow2_any _).mono ?_
  rintro e w2 ⟨rfl, rfl⟩
  go_wp2_with fail
  refine (trail_any _ (HD.out.below HB1.out)).mono ?_
  rintro e w3 ⟨rfl, rfl⟩
  go_wp2_with fail
  go_loopw [1, 13] (fun vu vi wr => ∃ (u : Nat) (D : List UInt8), vu = .int .u64 u ∧ u ≤ n ∧ vi = .int .i64 ((65 - D.length : Nat) : Int) ∧ D.length ≤ 20 ∧ hexL n = hexL u ++ D ∧ Ends wr w.heap.size D ∧ Below w.heap.size w wr) (fun vu _ _ => (intOf vu).toNat)
  case atStart => exact ⟨n, [], rfl, Nat.le_refl _, rfl, by decide, by simp, HE1.out, HB1.out⟩
  case round =>
    obtain ⟨u, D, rfl, hu, rfl, hD, hx, hE, hB⟩ := hrel
    have HX := Lib.hid hx; have HE := Lib.hid hE; have HB := Lib.hid hB
    clear hx hE hB
    obtain ⟨k, hk⟩ : ∃ k, 65 - D.length = k + 1 := ⟨64 - D.length, by omega⟩
    have hk65 : k < 65 := by omega
    obtain ⟨v0, hc, hf⟩ := HE.out.cell k hk65
    have HK := Lib.hid hk
    rw [hk]
    clear hk
    by_cases h16 : 16 ≤ u
    · have hm : u % 16 < 16 := Nat.mod_lt _ (by decide)
      have ha := and15 u (by omega)
      obtain ⟨d, hd⟩ : ∃ d, u % 16 = d := ⟨_, rfl⟩
      rw [hd] at ha hm
      have HD16 := Lib.hid hd
      clear hd
      have hlen : D.length + 1 ≤ 6 := by
        have h1 := hex_short 5 n (by omega)
        have h2 := congrArg List.length HX.out
        have h3 := hex_pos u
        rw [List.length_append] at h2
        omega
      go_wp2_with fail
      refine ⟨⟨u / 16, hexD d :: D, congrArg _ (by omega), by omega, congrArg _ (by have := HK.out; rw [List.length_cons]; omega), by rw [List.length_cons]; omega, ?_, ?_, HB.out.setCell (p := ⟨w.heap.size, k, none⟩) (Nat.le_refl _) _⟩, by simp only [intOf]; omega⟩
      · rw [HX.out, hexL, dif_neg (by omega), HD16.out, List.append_assoc]
        rfl
      · rw [digit_at d hm]
        exact HE.out.put _ _ (by have := HK.out; omega)
    · have hu16 : u < 16 := by omega
      clear h16
      go_upto_region 25 with (fail)
      have hE2 := HE.out.put (hexD u) k (by have := HK.out; omega)
      have hB2 := HB.out.setCell (p := ⟨w.heap.size, k, none⟩) (Nat.le_refl _) (.int .u8 ((hexD u).toNat : Int))
      rw [digit_at u hu16]
      generalize wr.setCell ⟨w.heap.size, k, none⟩ (.int .u8 ((hexD u).toNat : Int)) = w5 at hE2 hB2 ⊢
      have hDk : (hexD u :: D).length = 65 - k := by have := HK.out; rw [List.length_cons]; omega
      have hal : Tryd.prog.arrayLen 92 = 65 := by kernel_rfl
      have hsl : ∀ W, (Instr.sliceAt 92 (.pointer (some ⟨w.heap.size, 0, none⟩)) (some (.int .i64 (k : Int))) none none).run Tryd.prog W = .ok (.slice (some ⟨w.heap.size, k, none⟩) (hexD u :: D).length (65 - k)) W := fun W => by
        rw [run_sliceAt_array_l W 92 ⟨w.heap.size, 0, none⟩ (by simp [Program.arrayLen, Program.elem, Tryd.underlying92]) .i64 (k : Int) (by omega) (by rw [hal]; omega), hDk]
        go_simp
        omega
      have hcv : (convert 62 9 (.slice (some ⟨w.heap.size, k, none⟩) (D.length + 1) (65 - k))).run Tryd.prog w5 = .ok (.string ⟨(hexD u :: D).toArray⟩) w5 := by
        refine run_convert_bytes_back w5 62 9 5 ⟨w.heap.size, k, none⟩ (65 - k) (hexD u :: D) Tryd.underlying62 Tryd.underlying5 Tryd.underlying9 (fun j hj => ?_)
        obtain ⟨cs, h1, h2, h3, h4⟩ := hE2
        have h5 := h4 j hj
        rw [hDk, show 65 - (65 - k) + j = k + j by omega] at h5
        rw [show (⟨w.heap.size, k, none⟩ : Addr).add j = ⟨w.heap.size, k + j, none⟩ from by unfold Addr.add; split <;> simp_all]
        exact (h1.cell (k + j)).trans h5
      have HB2 := Lib.hid hB2
      have HXX := Lib.hid (show hexD u :: D = hexL n by rw [HX.out, hexL, dif_pos hu16]; rfl)
      clear hE2 hB2 hDk hal hc hf
      go_wp2_with fail
      go_ret2
      exact ⟨_, rfl, by rw [Lib.toList_data]; exact HXX.out, HB2.out⟩
set_option maxHeartbeats 1600000 in
set_option maxRecDepth 100000 in
theorem hexfmt0_any (n : Nat) (w : World) (hn : n ≤ 1114111) (h : De64 w) :
    Calls Tryd.prog 76 #[.int .i64 n, .int .i64 16] w fun e w' => ∃ b : ByteArray, e = .returned (.string b) ∧ b.toList = hexL n ∧ Below w.heap.size w w' := by
  have HF := Lib.hid (fbits_any n w hn h)
  have x1 : IntKind.u64.wrap (n : Int) = (n : Int) := by rw [IntKind.wrap_u64]; omega
  have x2 : ¬ (n : Int) < 0 := by omega
  clear h
  go_enter Tryd.func76, Tryd.ntmps76
  go_wp2_with fail
  refine HF.out.mono ?_
  rintro e w' ⟨b, rfl, hb, hB⟩
  have HH := Lib.hid hb; have HB := Lib.hid hB
  clear hb hB HF
  go_wp2_with fail
  go_ret
  exact ⟨b, rfl, HH.out, HB.out⟩
set_option maxHeartbeats 1600000 in
theorem hexfmt_any (n : Nat) (w : World) (hn : n ≤ 1114111) (h : De64 w) :
    Calls Tryd.prog 67 #[.int .i64 n, .int .i64 16] w fun e w' => ∃ b : ByteArray, e = .returned (.string b) ∧ b.toList = hexL n ∧ Below w.heap.size w w' := by
  have HF := Lib.hid (hexfmt0_any n w hn h)
  go_enter Tryd.func67, Tryd.ntmps67
  go_wp2_with fail
  refine HF.out.mono ?_
  rintro e w' ⟨b, rfl, hb, hB⟩
  have HH := Lib.hid hb; have HB := Lib.hid hB
  clear hb hB HF
  go_wp2_with fail
  go_ret
  exact ⟨b, rfl, HH.out, HB.out⟩
end Go.Proofs.YthnddabcmhplkaaDoor
/- The text of a tree, as a plain function. No condition. -/
namespace Go.Proofs.YthnddabcmhplkaaDoor
open Go Go.RowKit

/-- A tree, or its Kid, if it is an OpCat, an OpAlt of one. -/
def soleT : Tr → Tr := Tr.para fun t l => if t.fld.op = 11 ∨ t.fld.op = 12 then (match l with | [x] => x | _ => t) else t
theorem soleT_eq (t : Tr) : soleT t = if t.fld.op = 11 ∨ t.fld.op = 12 then (match t.kids.map soleT with | [x] => x | _ => t) else t := Tr.para_eq _ t
/-- Has a tree one Kid, with nothing to put together? -/
def Lone (t : Tr) : Prop := (t.fld.op = 11 ∨ t.fld.op = 12) ∧ t.kids.length = 1
theorem lone_kid {t : Tr} (h : Lone t) : ∃ k, t.kids = [k] := List.length_eq_one_iff.1 h.2
theorem sole_lone {t k : Tr} (h : Lone t) (hk : t.kids = [k]) : soleT t = soleT k := by
  rw [soleT_eq, if_pos h.1, hk]
  rfl
theorem sole_self {t : Tr} (h : ¬ Lone t) : soleT t = t := by
  rw [soleT_eq]
  split
  · rename_i h1
    split
    · rename_i x e
      refine absurd ⟨h1, ?_⟩ h
      have := congrArg List.length e
      simpa using this
    · rfl
  · rfl
theorem sole_not (t : Tr) : ¬ Lone (soleT t) := by
  refine Tr.ind (P := fun t => ¬ Lone (soleT t)) (fun t ih => ?_) t
  by_cases h : Lone t
  · obtain ⟨k, hk⟩ := lone_kid h
    rw [sole_lone h hk]
    exact ih k (by rw [hk]; simp)
  · rw [sole_self h]
    exact h

def codeP (n : Nat) : List UInt8 := 92 :: 120 :: 123 :: (hexL n ++ [125])
/-- Does a rune stand for itself? -/
def selfI (c : Int) : Bool := (decide (48 ≤ c) && decide (c ≤ 57)) || ((decide (65 ≤ c) && decide (c ≤ 90)) || ((decide (97 ≤ c) && decide (c ≤ 122)) || [32, 95, 33, 34, 35, 37, 38, 39, 44, 45, 47, 58, 59, 60, 61, 62, 64, 126, 96].contains c))
def oneZ (c : Int) : List UInt8 := if selfI c = true then [UInt8.ofNat c.toNat] else if signR c = true then [92, UInt8.ofNat c.toNat] else codeP c.toNat
def rangeP (r : Int × Int) : List UInt8 := codeP r.1.toNat ++ (if r.2 = r.1 then [] else 45 :: codeP r.2.toNat)
def rangesP (l : List (Int × Int)) : List UInt8 := l.flatMap rangeP
def setP (l : List (Int × Int)) : List UInt8 := 91 :: (rangesP l ++ [93])
def placeP (a : Int) : List UInt8 := if a = 1 then [92, 65] else if a = 2 then [92, 122] else if a = 4 then [40, 63, 109, 58, 94, 41] else if a = 8 then [40, 63, 109, 58, 36, 41] else if a = 16 then [92, 98] else [92, 66]
def noneP : List UInt8 := [91, 94, 92, 120, 123, 48, 125, 45, 92, 120, 123, 49, 48, 102, 102, 102, 102, 125, 93]
def emptyP : List UInt8 := [40, 63, 58, 41]
def countP (a b : Int) : List UInt8 := 123 :: (Lib.decDigits a.toNat ++ ((if b = -1 then [44] else if b = a then [] else 44 :: Lib.decDigits b.toNat) ++ [125]))
def signP (f : Fld) : List UInt8 := (if f.op = 7 then [42] else if f.op = 8 then [43] else if f.op = 9 then [63] else countP f.min f.max) ++ (if f.lazy = true then [63] else [])
def beginP (nm : List UInt8) : List UInt8 := if nm = [] then [40] else 40 :: 63 :: 80 :: 60 :: (nm ++ [62])
def wrapP (x : List UInt8) : List UInt8 := 40 :: 63 :: 58 :: (x ++ [41])
/-- Texts with a | between. -/
def joinP : List (List UInt8) → List UInt8
  | [] => []
  | [x] => x
  | x :: y :: l => x ++ 124 :: joinP (y :: l)
def chainP (k : Tr) (x : List UInt8) : List UInt8 := if (soleT k).fld.op = 12 then wrapP x else x
/-- Does a tree stand between brackets when it is repeated? -/
def HeldZ (k : Tr) : Prop := ((soleT k).fld.op = 11 ∧ (soleT k).kids ≠ []) ∨ (7 ≤ (soleT k).fld.op ∧ (soleT k).fld.op ≠ 11)
instance (k : Tr) : Decidable (HeldZ k) := by
  unfold HeldZ
  exact instDecidableOr
def repP (k : Tr) (x : List UInt8) : List UInt8 := if HeldZ k then wrapP x else x
def textN (t : Tr) (l : List (List UInt8)) : List UInt8 :=
  if t.fld.op = 1 then noneP else if t.fld.op = 2 then emptyP else if t.fld.op = 3 then oneZ t.fld.rune else if t.fld.op = 4 then setP t.fld.set else if t.fld.op = 5 then placeP t.fld.at' else
  if t.fld.op = 6 then beginP t.fld.name.toList ++ (l.headD [] ++ [41]) else
  if t.fld.op = 11 then (match l with | [] => emptyP | [x] => x | _ => (List.zipWith chainP t.kids l).flatten) else
  if t.fld.op = 12 then joinP l else repP (t.kids.headD t) (l.headD []) ++ signP t.fld
/-- The text of a tree. -/
def textT : Tr → List UInt8 := Tr.para textN
theorem textT_eq (t : Tr) : textT t = textN t (t.kids.map textT) := Tr.para_eq _ t
def chainT (k : Tr) : List UInt8 := chainP k (textT k)
def repT (k : Tr) : List UInt8 := repP k (textT k)
theorem zip_map (f : Tr → List UInt8 → List UInt8) (g : Tr → List UInt8) : ∀ l : List Tr, List.zipWith f l (l.map g) = l.map fun k => f k (g k)
  | [] => rfl
  | k :: l => by rw [List.map_cons, List.zipWith_cons_cons, zip_map f g l, List.map_cons]
theorem text_lone {t k : Tr} (h : Lone t) (hk : t.kids = [k]) : textT t = textT k := by
  rw [textT_eq, hk]
  unfold textN
  rcases h.1 with e | e
  · simp [e]
  · simp [e, joinP]
theorem chain_lone {t k : Tr} (h : Lone t) (hk : t.kids = [k]) : chainT t = chainT k := by
  unfold chainT chainP
  rw [sole_lone h hk, text_lone h hk]
theorem held_lone {t k : Tr} (h : Lone t) (hk : t.kids = [k]) : HeldZ t ↔ HeldZ k := by
  unfold HeldZ
  rw [sole_lone h hk]
theorem rep_lone {t k : Tr} (h : Lone t) (hk : t.kids = [k]) : repT t = repT k := by
  unfold repT repP
  rw [text_lone h hk]
  simp only [held_lone h hk]
theorem text_cat {t : Tr} (h : t.fld.op = 11) (h2 : 2 ≤ t.kids.length) : textT t = (t.kids.map chainT).flatten := by
  rw [textT_eq]
  unfold textN
  obtain ⟨f, ks⟩ := t
  simp only [Tr.fld, Tr.kids] at h h2 ⊢
  match ks, h2 with
  | x :: y :: l, _ =>
    simp [h]
    rw [zip_map]
    rfl
theorem text_cat0 {t : Tr} (h : t.fld.op = 11) (h2 : t.kids = []) : textT t = emptyP := by
  rw [textT_eq]
  unfold textN
  rw [h2]
  simp [h]
theorem text_alt {t : Tr} (h : t.fld.op = 12) : textT t = joinP (t.kids.map textT) := by
  rw [textT_eq]
  unfold textN
  simp [h]
theorem text_cap {t k : Tr} (h : t.fld.op = 6) (hk : t.kids = [k]) : textT t = beginP t.fld.name.toList ++ (textT k ++ [41]) := by
  rw [textT_eq, hk]
  unfold textN
  simp [h]
theorem text_rep {t k : Tr} (h : t.fld.op = 7 ∨ t.fld.op = 8 ∨ t.fld.op = 9 ∨ t.fld.op = 10) (hk : t.kids = [k]) : textT t = repT k ++ signP t.fld := by
  rw [textT_eq, hk]
  unfold textN repT
  rw [hk, if_neg (by omega), if_neg (by omega), if_neg (by omega), if_neg (by omega), if_neg (by omega), if_neg (by omega), if_neg (by omega), if_neg (by omega)]
  rfl
theorem joinP_cons (x : List UInt8) {l : List (List UInt8)} (h : l ≠ []) : joinP (x :: l) = x ++ 124 :: joinP l := by
  cases l with
  | nil => exact absurd rfl h
  | cons y l => rfl
theorem joinP_append : ∀ (a b : List (List UInt8)), a ≠ [] → b ≠ [] → joinP (a ++ b) = joinP a ++ 124 :: joinP b
  | [x], b, _, hb => joinP_cons x hb
  | x :: y :: a, b, _, hb => by
    rw [List.cons_append, joinP_cons x (by simp), joinP_append (y :: a) b (by simp) hb, joinP_cons x (by simp), List.append_assoc]
    rfl
theorem joinP_flat : ∀ (L : List (List (List UInt8))), (∀ a ∈ L, a ≠ []) → joinP L.flatten = joinP (L.map joinP)
  | [], _ => rfl
  | [a], _ => by simp [joinP]
  | a :: b :: L, h => by
    have hb := h b (by simp)
    rw [List.flatten_cons, joinP_append a _ (h a (by simp)) (by rw [List.flatten_cons]; intro e; exact hb (List.append_eq_nil_iff.1 e).1), joinP_flat (b :: L) (fun x hx => h x (by simp [List.mem_cons.1 hx]))]
    show _ = joinP (joinP a :: (b :: L).map joinP)
    rw [joinP_cons _ (by simp)]

/-- How long a text may be. -/
theorem code_le {n : Nat} (h : n ≤ 1114111) : (codeP n).length ≤ 10 := by
  have e := hex_short 5 n (by omega)
  unfold codeP
  simp only [List.length_cons, List.length_append, List.length_nil]
  omega
theorem one_le {c : Int} (h : c ≤ 1114111) : (oneZ c).length ≤ 10 := by
  unfold oneZ
  split
  · simp
  split
  · simp
  · exact code_le (by omega)
theorem range_le {r : Int × Int} (h1 : r.1 ≤ 1114111) (h2 : r.2 ≤ 1114111) : (rangeP r).length ≤ 21 := by
  have e1 := code_le (n := r.1.toNat) (by omega)
  have e2 := code_le (n := r.2.toNat) (by omega)
  unfold rangeP
  split
  · simp only [List.length_append, List.length_nil]; omega
  · simp only [List.length_append, List.length_cons]; omega
theorem ranges_le : ∀ l : List (Int × Int), (∀ r ∈ l, r.1 ≤ 1114111 ∧ r.2 ≤ 1114111) → (rangesP l).length ≤ 21 * l.length
  | [], _ => Nat.zero_le _
  | r :: l, h => by
    have h1 := h r (by simp)
    have h2 := ranges_le l fun q hq => h q (by simp [hq])
    have h3 := range_le h1.1 h1.2
    rw [show rangesP (r :: l) = rangeP r ++ rangesP l from rfl, List.length_append, List.length_cons]
    omega
theorem right_tops : ∀ (l : List (Int × Int)) (lo : Int), RightFrom lo l → ∀ r ∈ l, lo ≤ r.1 ∧ r.1 ≤ r.2 ∧ r.2 ≤ 1114111
  | x :: l, lo, ⟨h1, h2, h3, h4⟩, r, hr => by
    rcases List.mem_cons.1 hr with rfl | hr
    · exact ⟨h1, h2, h3⟩
    · have := right_tops l (x.2 + 2) h4 r hr
      exact ⟨by omega, this.2⟩
theorem place_le (a : Int) : (placeP a).length ≤ 6 := by
  unfold placeP
  repeat' split
  all_goals decide
theorem dec_few : ∀ (k u : Nat), u < 10 ^ (k + 1) → (Lib.decDigits u).length ≤ k + 1
  | 0, u, h => by
    rw [Lib.decDigits, dif_pos (by simpa using h)]
    exact Nat.le_refl _
  | k + 1, u, h => by
    rw [Lib.decDigits]
    split
    · exact Nat.succ_le_succ (Nat.zero_le _)
    · have := dec_few k (u / 10) (by rw [Nat.pow_succ] at h; exact Nat.div_lt_of_lt_mul (by rw [Nat.mul_comm]; exact h))
      simp only [List.length_append, List.length_singleton]
      omega
theorem count_le {a b : Int} (h1 : a ≤ 1000) (h2 : b ≤ 1000) : (countP a b).length ≤ 11 := by
  have e1 := dec_few 3 a.toNat (by omega)
  have e2 := dec_few 3 b.toNat (by omega)
  unfold countP
  split
  · simp only [List.length_append, List.length_cons, List.length_nil]; omega
  split
  · simp only [List.length_append, List.length_cons, List.length_nil]; omega
  · simp only [List.length_append, List.length_cons, List.length_nil]; omega
theorem sign_le {f : Fld} (h1 : f.min ≤ 1000) (h2 : f.max ≤ 1000) : (signP f).length ≤ 12 := by
  have e := count_le h1 h2
  unfold signP
  rw [List.length_append]
  have : (if f.lazy = true then [63] else ([] : List UInt8)).length ≤ 1 := by split <;> simp
  repeat' split
  all_goals simp only [List.length_cons, List.length_nil] at *
  all_goals omega
theorem begin_le {nm : List UInt8} (h : nm = [] ∨ nameB nm = true) : (beginP nm).length ≤ 37 := by
  have : nm.length ≤ 32 := by
    rcases h with rfl | h
    · exact Nat.zero_le _
    · unfold nameB at h
      simp only [Bool.and_eq_true, decide_eq_true_eq] at h
      exact h.1.2
  unfold beginP
  split
  · simp
  · simp only [List.length_append, List.length_cons, List.length_nil]; omega
theorem join_le : ∀ l : List (List UInt8), (joinP l).length ≤ (l.map fun x => x.length + 1).sum
  | [] => Nat.le_refl _
  | [x] => by simp [joinP]
  | x :: y :: l => by
    have := join_le (y :: l)
    rw [joinP_cons x (by simp), List.length_append, List.length_cons, List.map_cons, List.sum_cons]
    omega
theorem wrap_len (x : List UInt8) : (wrapP x).length = x.length + 4 := by
  unfold wrapP
  simp only [List.length_append, List.length_cons, List.length_nil]
theorem chain_le (k : Tr) : (chainT k).length ≤ (textT k).length + 4 := by
  unfold chainT chainP
  split
  · rw [wrap_len]; omega
  · omega
theorem rep_le (k : Tr) : (repT k).length ≤ (textT k).length + 4 := by
  unfold repT repP
  split
  · rw [wrap_len]; omega
  · omega
theorem flat_len {f : Tr → List UInt8} {g : Tr → Nat} : ∀ l : List Tr, (∀ k ∈ l, (f k).length ≤ g k) → (l.map f).flatten.length ≤ (l.map g).sum
  | [], _ => Nat.le_refl _
  | k :: l, h => by
    have h1 := h k (by simp)
    have h2 := flat_len l fun q hq => h q (by simp [hq])
    rw [List.map_cons, List.flatten_cons, List.length_append, List.map_cons, List.sum_cons]
    omega
theorem sum_64 : ∀ l : List Tr, (l.map fun k => 64 * partsR k).sum = 64 * (l.map partsR).sum
  | [] => rfl
  | k :: l => by rw [List.map_cons, List.sum_cons, sum_64 l, List.map_cons, List.sum_cons]; omega
theorem kids_none {t : Tr} (h : ShapedP t) (h5 : t.fld.op ≤ 5) : t.kids = [] := by
  have h1 := ((shapedP_iff t).1 h).2.1.2.2
  refine List.eq_nil_of_length_eq_zero ?_
  omega
theorem kids_one {t : Tr} (h : ShapedP t) (h6 : t.fld.op = 6 ∨ t.fld.op = 7 ∨ t.fld.op = 8 ∨ t.fld.op = 9 ∨ t.fld.op = 10) : ∃ k, t.kids = [k] ∧ ShapedP k := by
  have h0 := (shapedP_iff t).1 h
  obtain ⟨k, hk⟩ := List.length_eq_one_iff.1 (h0.2.1.1 h6)
  exact ⟨k, hk, h0.2.2.2 k (by rw [hk]; simp)⟩
/-- A shaped tree by its kinds. -/
theorem shaped_kinds {t : Tr} (h : ShapedP t) : (t.fld.op = 1 ∨ t.fld.op = 2 ∨ t.fld.op = 3 ∨ t.fld.op = 4 ∨ t.fld.op = 5) ∨ t.fld.op = 6 ∨ (t.fld.op = 7 ∨ t.fld.op = 8 ∨ t.fld.op = 9 ∨ t.fld.op = 10) ∨ t.fld.op = 11 ∨ t.fld.op = 12 := by
  have h1 := ((shapedP_iff t).1 h).1
  have h2 := h1.1
  have h3 := h1.2.1
  omega
theorem text_leaf {t : Tr} (h : t.fld.op = 1 ∨ t.fld.op = 2 ∨ t.fld.op = 3 ∨ t.fld.op = 4 ∨ t.fld.op = 5) : textT t = if t.fld.op = 1 then noneP else if t.fld.op = 2 then emptyP else if t.fld.op = 3 then oneZ t.fld.rune else if t.fld.op = 4 then setP t.fld.set else placeP t.fld.at' := by
  rw [textT_eq]
  unfold textN
  rcases h with h | h | h | h | h <;> simp [h]
theorem text_len (t : Tr) : ShapedP t → (textT t).length + 4 ≤ 64 * partsR t := by
  refine Tr.ind (P := fun t => ShapedP t → (textT t).length + 4 ≤ 64 * partsR t) (fun t ih hs => ?_) t
  obtain ⟨hf, hk, -, hkids⟩ := (shapedP_iff t).1 hs
  rcases shaped_kinds hs with h | h | h | h | h
  · rw [text_leaf h, partsR_eq]
    have h4 : t.fld.op = 4 → (rangesP t.fld.set).length ≤ 21 * t.fld.set.length := fun e =>
      ranges_le _ fun r hr => by
        have := right_tops _ 0 (hf.2.2.2.2.2.2.2.2.2.1 e).1 r hr
        omega
    have h3 : t.fld.op = 3 → (oneZ t.fld.rune).length ≤ 10 := fun e => one_le (hf.2.2.2.2.2.2.2.2.1 e).2
    have h5 := place_le t.fld.at'
    split
    · rw [show noneP.length = 19 from rfl]; omega
    split
    · rw [show emptyP.length = 4 from rfl]; omega
    split
    · rename_i e; have := h3 e; omega
    split
    · rename_i e
      have := h4 e
      unfold setP
      simp only [List.length_append, List.length_cons, List.length_nil]
      omega
    · omega
  · obtain ⟨k, hkk, hks⟩ := kids_one hs (.inl h)
    have e := ih k (by rw [hkk]; simp) hks
    have e2 := begin_le (hf.2.2.2.2.2.2.2.2.2.2.2.1 h)
    rw [text_cap h hkk, partsR_eq, hkk]
    simp only [List.length_append, List.length_cons, List.length_nil, List.map_cons, List.map_nil, List.sum_cons, List.sum_nil]
    omega
  · obtain ⟨k, hkk, hks⟩ := kids_one hs (.inr h)
    have e := ih k (by rw [hkk]; simp) hks
    have e1 := rep_le k
    have e2 : (signP t.fld).length ≤ 12 := by
      by_cases h10 : t.fld.op = 10
      · have := hf.2.2.2.2.2.2.2.2.2.2.2.2 h10
        exact sign_le this.1.2 (by omega)
      · have := hf.2.2.2.2.2.2.1 h10
        exact sign_le (by omega) (by omega)
    rw [text_rep h hkk, partsR_eq, hkk]
    simp only [List.length_append, List.map_cons, List.map_nil, List.sum_cons, List.sum_nil]
    omega
  · have hn : t.kids.length = 0 ∨ t.kids.length = 1 ∨ 2 ≤ t.kids.length := by omega
    rcases hn with hn | hn | hn
    · rw [text_cat0 h (List.eq_nil_of_length_eq_zero hn), partsR_eq]
      rw [show emptyP.length = 4 from rfl]
      omega
    · obtain ⟨k, hkk⟩ := List.length_eq_one_iff.1 hn
      have e := ih k (by rw [hkk]; simp) (hkids k (by rw [hkk]; simp))
      have e2 := partsR_kid (t := t) (k := k) (by rw [hkk]; simp)
      rw [text_lone ⟨.inl h, hn⟩ hkk]
      omega
    · rw [text_cat h hn, partsR_eq]
      have e := flat_len (f := chainT) (g := fun k => 64 * partsR k) t.kids fun k hk' => by
        have := ih k hk' (hkids k hk')
        have := chain_le k
        omega
      rw [sum_64] at e
      omega
  · rw [text_alt h, partsR_eq]
    have e := join_le (t.kids.map textT)
    have e2 : ∀ l : List Tr, (∀ k ∈ l, k ∈ t.kids) → ((l.map textT).map fun x => x.length + 1).sum ≤ 64 * (l.map partsR).sum := by
      intro l
      induction l with
      | nil => intro _; exact Nat.le_refl _
      | cons k l il =>
        intro hm
        have h1 := il fun q hq => hm q (by simp [hq])
        have h2 := ih k (hm k (by simp)) (hkids k (hm k (by simp)))
        simp only [List.map_cons, List.sum_cons]
        omega
    have e3 := e2 t.kids fun _ h => h
    omega
end Go.Proofs.YthnddabcmhplkaaDoor
