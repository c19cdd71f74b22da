/- Texts merged by program: BrCodes, BrCode. No condition. -/
import Derived.Test.YtmaigjdmjmonbaaGreatDoorK15
import Derived.Test.YtmaigjdmjmonbaaGreatDoorK7
import Derived.Lib.TrimUEq
import Derived.Deep.RegionHeld3
import Derived.Laws.Concat
set_option linter.unusedVariables false
/- What a class of runes by their numbers is read as. Plain side. -/
namespace Go.Proofs.YtmaigjdmjmonbaaGreatDoor
open Go Go.RowKit

theorem dec_ascii7 {s : ByteArray} {i c : Nat} (h : headI (leftB s i) = (c : Int)) (hc : c < 128) : Utf8.decode s i = (c, 1) := by
  have hlt : i < s.size := head_in (by omega)
  have h1 : s[i].toNat = c := by
    have := (head_at s i hlt).symm.trans h
    omega
  rw [Lib.decode_at]
  have h2 : (s.get! i).toNat = c := by
    rw [← h1]
    have hd : i < s.data.size := hlt
    show (s.data[i]!).toNat = (s.data[i]).toNat
    rw [getElem!_pos s.data i hd]
  rw [h2]
  exact Lib.decodeN_ascii _ _ _ _ _ hc
theorem left_step {s : ByteArray} {i : Nat} {c : UInt8} {t : List UInt8} (h : leftB s i = c :: t) : leftB s (i + 1) = t := by rw [← left_drop, h]; rfl
theorem code_esc {S : ByteArray} {i n : Nat} {rest : List UInt8} (p : Bool) (hn : n ≤ 1114111) (hl : leftB S i = 92 :: 120 :: 123 :: (hexL n ++ 125 :: rest)) :
    escS S i p = .esc 1 n [] 0 (i + 3 + (hexL n).length + 1) ∧ leftB S (i + 3 + (hexL n).length + 1) = rest := by
  have h0 : headI (leftB S i) = 92 := by rw [hl]; rfl
  have e1 := left_step hl
  have e2 := left_step e1
  have e3 := left_step e2
  have h1 : headI (leftB S (i + 1)) = ((120 : Nat) : Int) := by rw [e1]; rfl
  have h2 := head_in (s := S) (i := i + 1) (by omega)
  have hx : hexsFrom (leftB S (i + 1 + 1 + 1)) 0 = ((n : Int), (hexL n).length) := by
    rw [e3, hexs_hex n hn, hexsFrom, if_neg (by decide)]
    simp
  have e4 : leftB S (i + 1 + 1 + 1 + (hexL n).length) = 125 :: rest := by
    rw [← left_drop, e3, List.drop_left]
  have hns : numberS S (i + 1 + 1) = some ((n : Int), i + 3 + (hexL n).length + 1) := by
    rw [numberS_neg (fun h => by have := h.1; rw [e2] at this; exact absurd this (by show ¬ (0 ≤ hexI ((123 : UInt8).toNat : Int)); decide)), e2, if_neg (fun h => h rfl), hx]
    simp only []
    rw [if_neg (by have := hex_pos n; omega), e4, if_neg (fun h => h rfl), if_neg (by omega)]
  refine ⟨?_, ?_⟩
  · unfold escS
    rw [if_neg (fun h => h h0), if_neg (by omega), dec_ascii7 h1 (by decide)]
    show escC S ((120 : Nat) : Int) (i + 1 + 1) p = _
    unfold escC
    rw [if_neg (by decide), if_neg (by decide), if_pos (show ((120 : Nat) : Int) = 120 from rfl), hns]
  · have := left_step e4
    rw [show i + 3 + (hexL n).length + 1 = i + 1 + 1 + 1 + (hexL n).length + 1 by omega]
    exact this
def codeL (r : Int × Int) : List UInt8 := 92 :: 120 :: 123 :: (hexL r.1.toNat ++ 125 :: 45 :: 92 :: 120 :: 123 :: (hexL r.2.toNat ++ [125]))
def codesL (l : List (Int × Int)) : List UInt8 := l.flatMap codeL
theorem codesL_append (a b : List (Int × Int)) : codesL (a ++ b) = codesL a ++ codesL b := List.flatMap_append
theorem item_code {S : ByteArray} {i : Nat} {a b : Int} {rest : List UInt8} (p : Bool) (h0 : 0 ≤ a) (h1 : a ≤ b) (h2 : b ≤ 1114111) (hl : leftB S i = codeL (a, b) ++ rest) :
    itemS S i p = .item [(a, b)] (i + (codeL (a, b)).length) := by
  have hl1 : leftB S i = 92 :: 120 :: 123 :: (hexL a.toNat ++ 125 :: (45 :: 92 :: 120 :: 123 :: (hexL b.toNat ++ 125 :: rest))) := by rw [hl]; simp [codeL]
  obtain ⟨c1, c2⟩ := code_esc p (by omega) hl1
  have c3 := left_step c2
  obtain ⟨d1, d2⟩ := code_esc p (by omega) c3
  have hh : headI (leftB S i) = 92 := by rw [hl1]; rfl
  have hc : colS S i = none := by unfold colS; rw [if_pos (fun h => by omega)]
  have o1 : oneS S i p = .esc 1 (a.toNat : Int) [] 0 (i + 3 + (hexL a.toNat).length + 1) := by unfold oneS; rw [if_pos hh, c1]
  have o2 : oneS S (i + 3 + (hexL a.toNat).length + 1 + 1) p = .esc 1 (b.toNat : Int) [] 0 (i + 3 + (hexL a.toNat).length + 1 + 1 + 3 + (hexL b.toNat).length + 1) := by unfold oneS; rw [if_pos (by rw [c3]; rfl), d1]
  unfold itemS
  rw [hc]
  simp only [o1]
  rw [if_neg (by decide), if_neg (by decide)]
  unfold rangeS
  have h3 : headI (leftB S (i + 3 + (hexL a.toNat).length + 1 + 1)) = 92 := by rw [c3]; rfl
  rw [if_pos ⟨by rw [c2]; rfl, by omega, by omega⟩, o2]
  simp only
  rw [if_neg (fun q => q.elim (fun q => q rfl) (by omega)), show (a.toNat : Int) = a by omega, show (b.toNat : Int) = b by omega]
  congr 1
  simp [codeL]
  omega
/-- Ranges that may be written out. -/
def Fits (l : List (Int × Int)) : Prop := ∀ r ∈ l, 0 ≤ r.1 ∧ r.1 ≤ r.2 ∧ r.2 ≤ 1114111
theorem right_fits : ∀ (l : List (Int × Int)) (lo : Int), 0 ≤ lo → RightFrom lo l → ∀ r ∈ l, lo ≤ r.1 ∧ r.1 ≤ r.2 ∧ r.2 ≤ 1114111
  | x :: l, lo, h0, ⟨h1, h2, h3, h4⟩, r, hr => by
    rcases List.mem_cons.1 hr with rfl | hr
    · exact ⟨h1, h2, h3⟩
    · have := right_fits l (x.2 + 2) (by omega) h4 r hr
      exact ⟨by omega, this.2⟩
theorem fits_of {l : List (Int × Int)} (h : RightR l) : Fits l := right_fits l 0 (Int.le_refl _) h
theorem items_codes {S : ByteArray} (at' : Nat) (p : Bool) : ∀ (l : List (Int × Int)) (m i : Nat) (fi : Bool) (all : List (Int × Int)), Fits l → leftB S i = codesL l ++ [93] → (l = [] → fi = false) → l.length < m →
    itemsS S at' p m i fi all = .item (all ++ l) (i + (codesL l).length + 1)
  | [], m, i, fi, all, hr, hl, hfi, hm => by
    obtain ⟨m, rfl⟩ : ∃ q, m = q + 1 := ⟨m - 1, by simp at hm; omega⟩
    have h93 : headI (leftB S i) = 93 := by rw [hl]; rfl
    have hlt := head_in (s := S) (i := i) (by omega)
    rw [itemsS, if_neg (by omega), if_pos ⟨h93, hfi rfl⟩, List.append_nil]
    rfl
  | r :: l, m, i, fi, all, hr, hl, hfi, hm => by
    obtain ⟨m, rfl⟩ : ∃ q, m = q + 1 := ⟨m - 1, by simp at hm; omega⟩
    obtain ⟨a, b⟩ := r
    obtain ⟨h1, h2, h3⟩ := hr (a, b) (by simp)
    simp only at h1 h2 h3
    have hl1 : leftB S i = codeL (a, b) ++ (codesL l ++ [93]) := by rw [hl, ← List.append_assoc]; rfl
    have h92 : headI (leftB S i) = 92 := by rw [hl1]; rfl
    have hlt := head_in (s := S) (i := i) (by omega)
    have hl2 : leftB S (i + (codeL (a, b)).length) = codesL l ++ [93] := by rw [← left_drop, hl1, List.drop_left]
    rw [itemsS, if_neg (by omega), if_neg (fun q => by omega), item_code p h1 h2 h3 hl1]
    simp only
    rw [items_codes at' p l m _ false (all ++ [(a, b)]) (fun q hq => hr q (by simp [hq])) hl2 (fun _ => rfl) (by simp at hm; omega), List.append_assoc, List.singleton_append]
    congr 1
    rw [show codesL ((a, b) :: l) = codeL (a, b) ++ codesL l from rfl, List.length_append]
    omega
theorem code_len (r : Int × Int) : 1 ≤ (codeL r).length := by unfold codeL; simp
theorem codes_len : ∀ l : List (Int × Int), l.length ≤ (codesL l).length
  | [] => Nat.zero_le _
  | r :: l => by
    have h1 := codes_len l
    have h2 := code_len r
    rw [show codesL (r :: l) = codeL r ++ codesL l from rfl, List.length_append, List.length_cons]
    omega
/-- A class of runes by their numbers, alone in its text. -/
theorem class_codes {S : ByteArray} (p : Bool) {l : List (Int × Int)} (hr : Fits l) (h0 : l ≠ []) (hS : S.toList = 91 :: (codesL l ++ [93])) : ∃ n, classS S 0 p = .item l n ∧ notB S 0 = false := by
  have h1 : leftB S 0 = 91 :: (codesL l ++ [93]) := hS
  have h2 : leftB S 1 = codesL l ++ [93] := left_step h1
  have hn : notB S 0 = false := by
    unfold notB
    rw [Nat.zero_add, h2]
    cases l with
    | nil => exact absurd rfl h0
    | cons r l => exact decide_eq_false (by show ¬ ((92 : UInt8).toNat : Int) = 94; decide)
  refine ⟨0 + 1 + 0 + (codesL l).length + 1, ?_, hn⟩
  unfold classS
  rw [if_neg (fun h => h (by rw [h1]; rfl)), hn, if_neg (by decide)]
  have hsz : S.size = (codesL l).length + 2 := by rw [size_list7, hS]; simp
  have hcl := codes_len l
  rw [items_codes 0 p l (S.size + 1) (0 + 1 + 0) true [] hr h2 (fun e => absurd e h0) (by omega), List.nil_append]
/-- A set has no more ranges than what it is the set of. -/
theorem start_gap : ∀ (k : List (Int × Int)) (lo : Int), 0 ≤ lo → RightFrom lo k → ∀ r ∈ k, ∀ q ∈ k, ¬ (q.1 ≤ r.1 - 1 ∧ r.1 - 1 ≤ q.2)
  | x :: k, lo, h0, ⟨h1, h2, h3, h4⟩, r, hr, q, hq, ⟨g1, g2⟩ => by
    rcases List.mem_cons.1 hr with e1 | hr1 <;> rcases List.mem_cons.1 hq with e2 | hq1
    · rw [e1, e2] at g1 g2
      omega
    · have := right_fits k (x.2 + 2) (by omega) h4 q hq1
      rw [e1] at g1 g2
      omega
    · have := right_fits k (x.2 + 2) (by omega) h4 r hr1
      rw [e2] at g1 g2
      omega
    · exact start_gap k (x.2 + 2) (by omega) h4 r hr1 q hq1 ⟨g1, g2⟩
theorem starts_rise : ∀ (k : List (Int × Int)) (lo : Int), 0 ≤ lo → RightFrom lo k → (k.map Prod.fst).Pairwise (· < ·)
  | [], _, _, _ => List.Pairwise.nil
  | x :: k, lo, h0, ⟨h1, h2, h3, h4⟩ => by
    rw [List.map_cons]
    refine List.Pairwise.cons (fun y hy => ?_) (starts_rise k (x.2 + 2) (by omega) h4)
    obtain ⟨r, hr, rfl⟩ := List.mem_map.1 hy
    have := right_fits k (x.2 + 2) (by omega) h4 r hr
    omega
theorem incr_len : ∀ (A B : List Int), A.Pairwise (· < ·) → (∀ a ∈ A, a ∈ B) → A.length ≤ B.length
  | [], B, _, _ => Nat.zero_le _
  | a :: A, B, hp, hm => by
    obtain ⟨h1, h2⟩ := List.pairwise_cons.1 hp
    have ha := hm a (by simp)
    have := incr_len A (B.erase a) h2 fun b hb => (List.mem_erase_of_ne (by have := h1 b hb; omega)).2 (hm b (by simp [hb]))
    rw [List.length_erase_of_mem ha] at this
    have := List.length_pos_of_mem ha
    rw [List.length_cons]
    omega
theorem set_short {k l : List (Int × Int)} (hk : RightR k) (h : ∀ c, HasR k c ↔ HasR l c) : k.length ≤ l.length := by
  have := incr_len (k.map Prod.fst) (l.map fun q => max q.1 0) (starts_rise k 0 (Int.le_refl _) hk) fun a ha => by
    obtain ⟨r, hr, rfl⟩ := List.mem_map.1 ha
    have hf := right_fits k 0 (Int.le_refl _) hk r hr
    obtain ⟨_, _, q, hq, g1, g2⟩ := (h r.1).1 ⟨by omega, by omega, r, hr, by omega, by omega⟩
    refine List.mem_map.2 ⟨q, hq, ?_⟩
    refine Classical.byContradiction fun hne => ?_
    obtain ⟨_, _, q', hq', g3, g4⟩ := (h (r.1 - 1)).2 ⟨by omega, by omega, q, hq, by omega, by omega⟩
    exact start_gap k 0 (Int.le_refl _) hk r hr q' hq' ⟨g3, g4⟩
  simpa using this
end Go.Proofs.YtmaigjdmjmonbaaGreatDoor
/- The law's codes: a set's ranges, by numbers. -/
namespace Go.Proofs.YtmaigjdmjmonbaaGreatDoor
open Go Go.RowKit

theorem codesL_snoc (l : List (Int × Int)) (k : Nat) (h : k < l.length) : codesL (l.take (k + 1)) = codesL (l.take k) ++ codeL l[k] := by
  rw [List.take_succ_eq_append_getElem h, codesL_append]
  simp [codesL]
theorem code_short (r : Int × Int) (h0 : 0 ≤ r.1) (h1 : r.1 ≤ 1114111) (h2 : 0 ≤ r.2) (h3 : r.2 ≤ 1114111) : (codeL r).length ≤ 24 := by
  have e1 := hex_short 5 r.1.toNat (by omega)
  have e2 := hex_short 5 r.2.toNat (by omega)
  unfold codeL
  simp only [List.length_cons, List.length_append, List.length_nil]
  omega
theorem codes_short : ∀ (l : List (Int × Int)), (∀ r ∈ l, 0 ≤ r.1 ∧ r.1 ≤ 1114111 ∧ 0 ≤ r.2 ∧ r.2 ≤ 1114111) → (codesL l).length ≤ 24 * l.length
  | [], _ => by simp [codesL]
  | r :: l, h => by
    have h1 := h r (by simp)
    have h2 := codes_short l fun q hq => h q (by simp [hq])
    have h3 := code_short r h1.1 h1.2.1 h1.2.2.1 h1.2.2.2
    rw [show codesL (r :: l) = codeL r ++ codesL l from rfl, List.length_append, List.length_cons]
    omega
theorem cat2 (a b : ByteArray) (h : a.size + b.size ≤ 9223372036854775807) (W : World) : (Op.stringOp .add a b).run Tryz.prog W = .ok (.string (a ++ b)) W := run_string_add_sum W a b h
theorem hexfmt_small (n : Nat) (w : World) (hn : n ≤ 1114111) (h : De64 w) :
    Calls Tryz.prog 31 #[.int .i64 n, .int .i64 16] w fun e w' => ∃ b : ByteArray, e = .returned (.string b) ∧ (b.toList = hexL n ∧ b.size ≤ 6) ∧ Below w.heap.size w w' :=
  (hexfmt_any n w hn h).mono fun e w' ⟨b, h1, h2, h3⟩ => ⟨b, h1, ⟨h2, by rw [size_list7, h2]; exact hex_short 5 n (by omega)⟩, h3⟩
set_option maxHeartbeats 3200000 in
set_option maxRecDepth 100000 in
theorem codes_any (v : Value) (l : List (Int × Int)) (w : World) (h : Rgs w v l) (hl : l.length ≤ 20000) (hr : ∀ r ∈ l, 0 ≤ r.1 ∧ r.1 ≤ 1114111 ∧ 0 ≤ r.2 ∧ r.2 ≤ 1114111) (hd : De64 w) :
    Calls Tryz.prog 16 #[v] w fun e w' => ∃ b : ByteArray, e = .returned (.string b) ∧ b.toList = codesL l ∧ Below w.heap.size w w' := by
  obtain ⟨a, c, rfl, h2, h3, h4, h5, h6⟩ := h
  have H5 := Lib.hid h5; have HR := Lib.hid hr; have HD := Lib.hid hd
  clear h5 h6 h4 h2 h3 hr hd
  go_enter Tryz.func16, Tryz.ntmps16
  go_wp2_with fail
  go_loopw [3, 4] (fun vs i wr => ∃ (m : Nat) (b : ByteArray), m ≤ l.length ∧ i = .int .i64 m ∧ vs = .string b ∧ b.toList = codesL (l.take m) ∧ Below w.heap.size w wr) (fun _ i _ => l.length - (intOf i).toNat)
  case atStart => exact ⟨0, ⟨#[]⟩, Nat.zero_le _, rfl, rfl, by rw [Lib.toList_data]; rfl, Below.refl _ _⟩
  case round =>
    obtain ⟨m, b, hm, rfl, rfl, hb, hB⟩ := hrel
    have HBB := Lib.hid hb; have HB := Lib.hid hB
    clear hb hB
    by_cases hlt : m < l.length
    · have hltz : (m : Int) < (l.length : Int) := by omega
      rcases H5.out with h5 | ⟨q, o, rfl, hc⟩
      · rw [h5] at hlt
        simp at hlt
      obtain ⟨c1, c2⟩ := hc m hlt
      have hs := codesL_snoc l m hlt
      have hx := HR.out l[m] (List.getElem_mem hlt)
      obtain ⟨y, hy⟩ : ∃ y, l[m] = y := ⟨_, rfl⟩
      rw [hy] at c1 c2 hs hx
      obtain ⟨y1, y2⟩ := y
      simp only at c1 c2 hx
      obtain ⟨n1, rfl⟩ : ∃ n1 : Nat, y1 = (n1 : Int) := ⟨y1.toNat, by omega⟩
      obtain ⟨n2, rfl⟩ : ∃ n2 : Nat, y2 = (n2 : Int) := ⟨y2.toNat, by omega⟩
      have hq : q < w.heap.size := World.block_lt_of_cell? w _ c1
      have d1 := (HB.out.cell (p := ⟨q, o + m * 2, none⟩) hq).trans c1
      have d2 := (HB.out.cell (p := ⟨q, o + m * 2 + 1, none⟩) hq).trans c2
      have HA := Lib.hid fun W (hW : Below w.heap.size w W) => hexfmt_small n1 W (by omega) (HD.out.below hW)
      have HC := Lib.hid fun W (hW : Below w.heap.size w W) => hexfmt_small n2 W (by omega) (HD.out.below hW)
      have HS := Lib.hid hs; have HX := Lib.hid hx
      have HC1 := Lib.hid c1; have HC2 := Lib.hid c2
      have x1 : IntKind.i64.wrap (n1 : Int) = (n1 : Int) := wrap_in _ (by omega)
      have x2 : IntKind.i64.wrap (n2 : Int) = (n2 : Int) := wrap_in _ (by omega)
      have x3 : IntKind.i64.wrap ((m : Int) + 1) = (m : Int) + 1 := wrap_in _ (by omega)
      clear c1 c2 hs hx hy hc
      go_wp2_with fail
      have hbz : b.size ≤ 480000 := by
        rw [size_list7, HBB.out]
        have h1 := codes_short (l.take m) (fun r h => HR.out r (List.mem_of_mem_take h))
        have h2 : (l.take m).length ≤ 20000 := by rw [List.length_take]; omega
        omega
      have p1 := cat2 b ⟨#[92, 120, 123]⟩ (by show b.size + 3 ≤ _; omega)
      go_region_with (first
        | (go_at_call 31; (with_reducible refine (HA.out _ ?_).mono ?_); exact HB.out.drew; rintro e wA ⟨bA, rfl, ⟨hbA, hzA⟩, hBA⟩; have HLA := Lib.hid hbA; have HBA : Hid (Below w.heap.size w wA) := Lib.hid (HB.out.drew.trans (hBA.mono HB.out.drew.size)); have a1 := (HBA.out.cell (p := ⟨q, o + m * 2, none⟩) hq).trans HC1.out; have a2 := (HBA.out.cell (p := ⟨q, o + m * 2 + 1, none⟩) hq).trans HC2.out; have p2 := cat2 (b ++ ⟨#[92, 120, 123]⟩) bA (by rw [ByteArray.size_append]; show b.size + 3 + _ ≤ _; omega); have p3 := cat2 (b ++ ⟨#[92, 120, 123]⟩ ++ bA) ⟨#[125, 45, 92, 120, 123]⟩ (by rw [ByteArray.size_append, ByteArray.size_append]; show b.size + 3 + bA.size + 5 ≤ _; omega); clear hbA hBA)
        | (go_at_call 31; (with_reducible refine (HC.out _ ?_).mono ?_); exact HBA.out; rintro e wC ⟨bC, rfl, ⟨hbC, hzC⟩, hBC⟩; have HLC := Lib.hid hbC; have HBC : Hid (Below w.heap.size w wC) := Lib.hid (HBA.out.trans (hBC.mono HBA.out.size)); have p4 := cat2 (b ++ ⟨#[92, 120, 123]⟩ ++ bA ++ ⟨#[125, 45, 92, 120, 123]⟩) bC (by rw [ByteArray.size_append, ByteArray.size_append, ByteArray.size_append]; show b.size + 3 + bA.size + 5 + bC.size ≤ _; omega); have p5 := cat2 (b ++ ⟨#[92, 120, 123]⟩ ++ bA ++ ⟨#[125, 45, 92, 120, 123]⟩ ++ bC) ⟨#[125]⟩ (by rw [ByteArray.size_append, ByteArray.size_append, ByteArray.size_append, ByteArray.size_append]; show b.size + 3 + bA.size + 5 + bC.size + 1 ≤ _; omega); clear hbC hBC))
      all_goals
        go_wp2
        refine ⟨⟨m + 1, _, hlt, congrArg _ (by omega), rfl, ?_, HBC.out⟩, by simp only [intOf]; omega⟩
        rw [HS.out]
        simp only [append_list7, HBB.out, HLA.out, HLC.out, show (⟨#[92, 120, 123]⟩ : ByteArray).toList = [92, 120, 123] by kernel_rfl, show (⟨#[125, 45, 92, 120, 123]⟩ : ByteArray).toList = [125, 45, 92, 120, 123] by kernel_rfl, show (⟨#[125]⟩ : ByteArray).toList = [125] by kernel_rfl, codeL, Int.toNat_natCast, List.append_assoc, List.cons_append, List.nil_append]
    · have e : l.take m = l := List.take_of_length_le (by omega)
      have hb := HBB.out
      rw [e] at hb
      have HQ := Lib.hid hb
      clear hb
      go_wp2
      go_ret
      exact ⟨b, rfl, HQ.out, HB.out⟩
end Go.Proofs.YtmaigjdmjmonbaaGreatDoor
