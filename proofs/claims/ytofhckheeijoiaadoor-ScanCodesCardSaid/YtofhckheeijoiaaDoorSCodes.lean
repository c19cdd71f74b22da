/- A rune's number behind a backslash and an x; a sign behind a backslash. From the program's contract pescape_any. -/
import Derived.Test.YtofhckheeijoiaaDoorSCodes0
import Derived.Lib.TrimUEq
import Derived.Laws.Runes
set_option linter.unusedVariables false
namespace Go.Proofs.YtofhckheeijoiaaDoor
open Go Go.RowKit

theorem dec_ascii {s : ByteArray} {i c : Nat} (h : headI (leftB s i) = (c : Int)) (hc : c < 128) : Utf8.decode s i = (c, 1) := by
  have hlt : i < s.size := head_in (by omega)
  have h1 : s[i].toNat = c := by
    have := (head_at s i hlt).symm.trans h
    omega
  rw [Lib.decode_at]
  have h2 : (s.get! i).toNat = c := by
    rw [← h1]
    have hd : i < s.data.size := hlt
    show (s.data[i]!).toNat = (s.data[i]).toNat
    rw [getElem!_pos s.data i hd]
  rw [h2]
  exact Lib.decodeN_ascii _ _ _ _ _ hc
theorem sign_low {n : Nat} (h : signI (n : Int) = true) : n < 128 := by
  unfold signI at h
  simp only [Bool.or_eq_true, Bool.and_eq_true, decide_eq_true_eq] at h
  omega
theorem encode_low {n : Nat} (h : n < 128) : Utf8.encode (n : Int) = ⟨#[UInt8.ofNat n]⟩ := by
  unfold Utf8.encode
  have hv : Utf8.valid (n : Int) = true := by
    unfold Utf8.valid
    simp only [Bool.or_eq_true, Bool.and_eq_true, decide_eq_true_eq]
    omega
  simp only [hv, if_true, Int.toNat_natCast]
  rw [if_pos h]
theorem size_list6 (b : ByteArray) : b.size = b.toList.length := by rw [Lib.toList_data, ← Lib.size_eq]
theorem codes_esc {S : ByteArray} {k n : Nat} {rest : List UInt8} (p : Bool) (hn : n ≤ 1114111) (hl : S.toList = 92 :: 120 :: 123 :: (List.replicate k 48 ++ (hexL n ++ 125 :: rest))) : escS S 0 p = .esc 1 n [] 0 (3 + k + (hexL n).length + 1) := by
  have hz : S.size = 3 + (k + ((hexL n).length + (rest.length + 1))) := by rw [size_list6, hl]; simp; omega
  have h0 : headI (leftB S 0) = 92 := by rw [left_of S 0 hl]; rfl
  have h1 : headI (leftB S (0 + 1)) = ((120 : Nat) : Int) := by rw [left_of S _ hl]; rfl
  have e2 : leftB S (0 + 1 + 1) = 123 :: (List.replicate k 48 ++ (hexL n ++ 125 :: rest)) := by rw [left_of S _ hl]; rfl
  have e3 : leftB S (0 + 1 + 1 + 1) = List.replicate k 48 ++ (hexL n ++ 125 :: rest) := by rw [left_of S _ hl]; rfl
  have hx : hexsFrom (leftB S (0 + 1 + 1 + 1)) 0 = ((n : Int), (hexL n).length + k) := by
    rw [e3, hexs_noughts, hexs_hex n hn, hexsFrom, if_neg (by decide)]
    simp
  have e4 : leftB S (0 + 1 + 1 + 1 + ((hexL n).length + k)) = 125 :: rest := by
    rw [← left_drop, e3, show (hexL n).length + k = (List.replicate k (48 : UInt8)).length + (hexL n).length by rw [List.length_replicate]; omega, ← List.drop_drop, List.drop_left, List.drop_left]
  have hns : numberS S (0 + 1 + 1) = some ((n : Int), 3 + k + (hexL n).length + 1) := by
    rw [numberS_neg (fun h => by have := h.1; rw [e2] at this; exact absurd this (by show ¬ (0 ≤ hexI ((123 : UInt8).toNat : Int)); decide)), e2, if_neg (fun h => h rfl), hx]
    simp only []
    rw [if_neg (by have := hex_pos n; omega), e4, if_neg (fun h => h rfl), if_neg (by omega)]
    simp only [Option.some.injEq, Prod.mk.injEq, true_and]
    omega
  unfold escS
  rw [if_neg (fun h => h h0), if_neg (by omega), dec_ascii h1 (by decide)]
  show escC S ((120 : Nat) : Int) (0 + 1 + 1) p = _
  unfold escC
  rw [if_neg (by decide), if_neg (by decide), if_pos (show ((120 : Nat) : Int) = 120 from rfl), hns]
theorem sign_esc {S : ByteArray} {c : Nat} {rest : List UInt8} (p : Bool) (hc : c < 128) (hs : signI (c : Int) = true) (hl : S.toList = 92 :: UInt8.ofNat c :: rest) : escS S 0 p = .esc 1 c [] 0 2 := by
  have hz : S.size = rest.length + 2 := by rw [size_list6, hl]; simp
  have h0 : headI (leftB S 0) = 92 := by rw [left_of S 0 hl]; rfl
  have h1 : headI (leftB S (0 + 1)) = (c : Int) := by
    rw [left_of S _ hl]
    show ((UInt8.ofNat c).toNat : Int) = _
    rw [UInt8.toNat_ofNat', Nat.mod_eq_of_lt (by omega)]
  unfold escS
  rw [if_neg (fun h => h h0)]
  by_cases hr : 0 + 1 = S.size
  · omega
  rw [if_neg hr, dec_ascii h1 hc]
  show escC S (c : Int) (0 + 1 + 1) p = _
  unfold escC
  rw [if_pos hs]

set_option maxHeartbeats 6400000 in
set_option maxRecDepth 100000 in
theorem scodes_any (w : World) (c no : Int) (bh : ByteArray) (p : Bool) (n0 : 0 ≤ no) (n1 : no ≤ 255) (hb : bh.size ≤ 140737488355328) (hT : Lib.Utf8Tabs 0 1 w) :
    Calls Tryd.prog 7 #[.int .i32 c, .int .u8 no, .string bh, .bool p] w fun e w' => e = .returned (.bool true) ∧ Below w.heap.size w w' := by
  have HT := Lib.hid hT
  have HH := Lib.hid (shead_any w hT)
  clear hT
  go_enter Tryd.func7, Tryd.ntmps7
  go_wp2_with fail
  refine HH.out.mono ?_
  rintro e w1 ⟨rfl, hb1⟩
  have HB := Lib.hid hb1
  clear hb1 HH
  by_cases c0 : c < 0
  · go_wp2_with fail
    go_ret
    exact ⟨rfl, HB.out⟩
  by_cases c1 : 1114111 < c
  · go_wp2_with fail
    go_ret
    exact ⟨rfl, HB.out⟩
  obtain ⟨n, rfl⟩ : ∃ n : Nat, c = (n : Int) := ⟨c.toNat, by omega⟩
  obtain ⟨K, hK, hK8⟩ : ∃ K : Nat, Int.tmod no 9 = (K : Int) ∧ K ≤ 8 := ⟨(Int.tmod no 9).toNat, by rw [Int.tmod_eq_emod_of_nonneg n0]; omega, by rw [Int.tmod_eq_emod_of_nonneg n0]; omega⟩
  have hn : n ≤ 1114111 := by omega
  clear n0 n1
  have hw6 : IntKind.i64.wrap (K : Int) = (K : Int) := wrap_in _ (by omega)
  go_wp2_with fail
  go_loopw [10, 11] (fun vs vi wr => ∃ (k : Nat) (bs : ByteArray), k ≤ K ∧ vi = .int .i64 k ∧ vs = .string bs ∧ bs.toList = 92 :: 120 :: 123 :: List.replicate k 48 ∧ wr = w1) (fun _ vi _ => K - (intOf vi).toNat)
  case atStart => exact ⟨0, _, Nat.zero_le _, rfl, rfl, by kernel_rfl, rfl⟩
  case round =>
    obtain ⟨k, bs, hk, rfl, rfl, hl, rfl⟩ := hrel
    have HL := Lib.hid hl
    have hz : bs.size = 3 + k := by rw [size_list6, hl]; simp; omega
    clear hl
    by_cases hlt : k < K
    · have hw7 : IntKind.i64.wrap ((k : Int) + 1) = (k : Int) + 1 := wrap_in _ (by omega)
      have hsum : (bs ++ (⟨#[48]⟩ : ByteArray)).size = bs.size + 1 := by rw [ByteArray.size_append]; rfl
      have HN := Lib.hid (show (bs ++ (⟨#[48]⟩ : ByteArray)).toList = 92 :: 120 :: 123 :: List.replicate (k + 1) 48 by rw [append_list, HL.out, show (⟨#[48]⟩ : ByteArray).toList = [48] by kernel_rfl, List.replicate_succ']; rfl)
      go_wp2
      exact ⟨⟨k + 1, _, hlt, rfl, rfl, HN.out, trivial⟩, by simp only [intOf]; omega⟩
    · obtain rfl : k = K := by omega
      have hz1 : (hexBA n).size ≤ 1114112 := by
        have := hex_len n
        show (hexL n).toArray.size ≤ _
        rw [List.size_toArray]
        omega
      go_wp2_with fail
      refine (hexS_any n hn _).mono ?_
      rintro e w2 ⟨rfl, m, rfl⟩
      have HB2 := Lib.hid (HB.out.trans ((drewN_below wr m).mono HB.out.size))
      go_wp2_with fail
      obtain ⟨T, hT⟩ : ∃ T : ByteArray, bs ++ hexBA n ++ ⟨#[125]⟩ = T := ⟨_, rfl⟩
      have hl : (T ++ bh).toList = 92 :: 120 :: 123 :: (List.replicate k 48 ++ (hexL n ++ 125 :: bh.toList)) := by
        rw [← hT]
        simp only [append_list, HL.out, hexBA_list, show (⟨#[125]⟩ : ByteArray).toList = [125] by kernel_rfl, List.append_assoc, List.cons_append, List.nil_append]
      have hTz : T.size = 3 + k + (hexL n).length + 1 := by
        rw [size_list6, ← hT]
        simp only [append_list, HL.out, hexBA_list, show (⟨#[125]⟩ : ByteArray).toList = [125] by kernel_rfl, List.length_append, List.length_cons, List.length_nil, List.length_replicate]
        omega
      have hes := codes_esc p hn hl
      rw [← hTz] at hes
      have hlen := hex_len n
      have HE := Lib.hid (pescape_any (T ++ bh) 0 p (wr.drewN m) (by rw [ByteArray.size_append]; omega) (Nat.zero_le _) (Utf8Tabs_below HT.out HB2.out))
      rw [hes] at HE
      have HTT := Lib.hid hT
      have hl4 : T.size ≤ 2000000 := by omega
      clear hl hTz hes hlen hT
      rw [HTT.out]
      refine HE.out.mono ?_
      rintro e w3 ⟨hb3, v, rfl, ho⟩
      obtain ⟨A, cA, hvs, -⟩ := ho.rgs
      subst hvs
      obtain ⟨w4, hw4⟩ : ∃ w4, (w3.alloc (.cells #[.int .i64 1, .int .i32 n, .slice A 0 cA, .int .i64 0] 27)).alloc (.cells #[.int .i64 0, .int .i64 0, .int .i64 0] 30) = w4 := ⟨_, rfl⟩
      have hb0 := HB2.out.trans (hb3.mono HB2.out.size)
      have HB4 := Lib.hid (show Below w.heap.size w w4 by rw [← hw4]; exact (hb0.alloc hb0.size _).alloc (by simp; have := hb0.size; omega) _)
      have HS4 := Lib.hid (show w4.heap.size = w3.heap.size + 2 by rw [← hw4]; simp)
      have HX4 := Lib.hid (show Whole w4 w3.heap.size 27 #[.int .i64 1, .int .i32 n, .slice A 0 cA, .int .i64 0] by rw [← hw4]; exact Whole.alloc (heap_alloc_new w3 _) _)
      have HY4 := Lib.hid (show Whole w4 (w3.heap.size + 1) 30 #[.int .i64 0, .int .i64 0, .int .i64 0] by
        rw [← hw4]
        have := heap_alloc_new (w3.alloc (.cells #[.int .i64 1, .int .i32 n, .slice A 0 cA, .int .i64 0] 27)) (.cells #[.int .i64 0, .int .i64 0, .int .i64 0] 30)
        simpa [Whole] using this)
      have HW4 := Lib.hid hw4
      have HSZ := Lib.hid (Nat.le_trans HB2.out.size hb3.size)
      clear hb3 ho hb0 hw4 HE HTT
      unfold escV wrongV
      obtain ⟨g, hg⟩ : ∃ g, signI (n : Int) = g := ⟨_, rfl⟩
      have HSG : Hid (∀ W, Calls Tryd.prog 20 #[.int .i32 n] W fun e w' => e = .returned (.bool g) ∧ W = w') := Lib.hid (fun W => (rsign_any n W).mono fun e w' h => ⟨hg ▸ h.1, h.2.symm⟩)
      have HG := Lib.hid hg
      clear hg
      obtain ⟨e0, e1, e2, e3, z0, z1, z2, z3⟩ := HX4.out.four
      obtain ⟨f0, f1, f2, y0, y1, y2⟩ := HY4.out.three
      go_upto_region 11 with (fail)
      rw [HW4.out]
      cases g
      · go_wp2_with (go_at_call 20; with_reducible refine (HSG.out _).mono ?_; rintro e w5 ⟨rfl, h5⟩; subst h5)
        go_ret
        exact ⟨rfl, HB4.out⟩
      · have hlow : n < 128 := sign_low HG.out
        obtain ⟨E, hE⟩ : ∃ E, Utf8.encode (n : Int) = E := ⟨_, rfl⟩
        have hEl : E.toList = [UInt8.ofNat n] := by rw [← hE, encode_low hlow, Lib.toList_data]
        have hEz : E.size = 1 := by rw [size_list6, hEl]; rfl
        have hconv : ∀ W : World, (convert 21 9 (.int .i32 (n : Int))).run Tryd.prog W = .ok (.string E) W := fun W => by
          rw [← hE]
          exact run_convert_int_string W _ _ .i32 (n : Int) (by rw [Tryd.underlying21]; rfl) Tryd.underlying9
        have hes := sign_esc (S := ⟨#[92]⟩ ++ E ++ bh) (c := n) (rest := bh.toList) p hlow HG.out (by rw [append_list, append_list, hEl, show (⟨#[92]⟩ : ByteArray).toList = [92] by kernel_rfl]; rfl)
        have hsz2 : ((⟨#[92]⟩ ++ E ++ bh : ByteArray)).size ≤ 4503599627370496 := by
          rw [ByteArray.size_append, ByteArray.size_append, hEz]
          have : (⟨#[92]⟩ : ByteArray).size = 1 := rfl
          omega
        have HES := Lib.hid hes
        clear hE hEl hlow hes
        go_wp2_with (go_at_call 20; with_reducible refine (HSG.out _).mono ?_; rintro e w5 ⟨rfl, h5⟩; subst h5)
        refine (pescape_any _ 0 p _ hsz2 (Nat.zero_le _) (Utf8Tabs_below HT.out HB4.out)).mono ?_
        rw [HES.out]
        rintro e w5 ⟨hb5, v, rfl, ho⟩
        obtain ⟨A2, cA2, hvs, -⟩ := ho.rgs
        subst hvs
        have HB5 := Lib.hid (HB4.out.trans (hb5.mono HB4.out.size))
        have HX5 := Lib.hid (HX4.out.below hb5 (by have := HS4.out; omega)); have HY5 := Lib.hid (HY4.out.below hb5 (by have := HS4.out; omega))
        clear hb5 ho e0 e1 e2 e3 z0 z1 z2 z3 f0 f1 f2 y0 y1 y2
        obtain ⟨e0, e1, e2, e3, z0, z1, z2, z3⟩ := HX5.out.four
        obtain ⟨f0, f1, f2, y0, y1, y2⟩ := HY5.out.three
        unfold escV wrongV
        go_wp2_with fail
        go_ret
        exact ⟨rfl, set3_below (set4_below HB5.out (by have := HSZ.out; omega) _ _ _ _) (by have := HSZ.out; omega) _ _ _⟩
end Go.Proofs.YtofhckheeijoiaaDoor
