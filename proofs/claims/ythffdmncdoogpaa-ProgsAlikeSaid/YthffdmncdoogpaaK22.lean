/- Texts merged by program: PgXor, PgBreak. No condition. -/
import Derived.Test.YthffdmncdoogpaaK20
import Derived.Test.YthffdmncdoogpaaK21
import Derived.Sort.Walk7
import Derived.Sort.Walk13a
set_option linter.unusedVariables false
/- slices.Sort's draws: xorshift's Next, nextPowerOfTwo. -/
namespace Go.Proofs.Ythffdmncdoogpaa
open Go Go.RowKit Go.Sort

/-- A number shifted up within 64 bits, laid over itself. -/
def xup (X k : Nat) : Nat := X ^^^ (X * k % 18446744073709551616)
/-- A number shifted down, laid over itself. -/
def xdown (X k : Nat) : Nat := X ^^^ (X / k)
theorem xup_lt {X : Nat} (k : Nat) (h : X < 18446744073709551616) : xup X k < 18446744073709551616 := Nat.xor_lt_two_pow (n := 64) (by omega) (by omega)
theorem xdown_lt {X : Nat} (k : Nat) (h : X < 18446744073709551616) : xdown X k < 18446744073709551616 :=
  Nat.xor_lt_two_pow (n := 64) (by omega) (Nat.lt_of_le_of_lt (Nat.div_le_self X k) (by omega))
theorem xup_bits {X : Nat} (k : Nat) (h : X < 18446744073709551616) : bits .xor .u64 (X : Int) (IntKind.u64.wrap ((X : Int) * (k : Int))) = (xup X k : Int) := by
  have e : IntKind.u64.wrap ((X : Int) * (k : Int)) = ((X * k % 18446744073709551616 : Nat) : Int) := by
    rw [IntKind.wrap_u64, Int.natCast_emod, Int.natCast_mul]; rfl
  rw [e, bits_xor_u64_nat _ _ h (by omega)]
  rfl
theorem xdown_bits {X : Nat} (k : Nat) (h : X < 18446744073709551616) : bits .xor .u64 (X : Int) ((X : Int) / (k : Int)) = (xdown X k : Int) := by
  have e : ((X : Int) / (k : Int)) = ((X / k : Nat) : Int) := (Int.natCast_ediv X k).symm
  rw [e, bits_xor_u64_nat _ _ h (Nat.lt_of_le_of_lt (Nat.div_le_self X k) h)]
  rfl
theorem xorNextN_is (X : Nat) : xorNextN X = xup (xdown (xup X 8192) 128) 131072 := rfl

set_option maxRecDepth 100000 in
theorem xnext_any (rb ro X : Nat) (hX : X < 18446744073709551616) (w : World) (hc : w.cell? ⟨rb, ro, none⟩ = some (.int .u64 X)) (hf : w.frozen? ⟨rb, ro, none⟩ = false) :
    Calls Try.prog 112 #[.pointer (some ⟨rb, ro, none⟩)] w fun e w' => e = .returned (.int .u64 (xorNextN X : Nat)) ∧ w' = (w.setCell ⟨rb, ro, none⟩ (.int .u64 (xorNextN X : Nat))).drewN 3 := by
  have lA := xup_lt 8192 hX
  have eA : bits .xor .u64 (X : Int) (IntKind.u64.wrap ((X : Int) * 8192)) = (xup X 8192 : Int) := xup_bits 8192 hX
  have lB := xdown_lt 128 lA
  have eB : bits .xor .u64 (xup X 8192 : Int) ((xup X 8192 : Int) / 128) = (xdown (xup X 8192) 128 : Int) := xdown_bits 128 lA
  have lC := xup_lt 131072 lB
  have eC : bits .xor .u64 (xdown (xup X 8192) 128 : Int) (IntKind.u64.wrap ((xdown (xup X 8192) 128 : Int) * 131072)) = (xup (xdown (xup X 8192) 128) 131072 : Int) := xup_bits 131072 lB
  rw [xorNextN_is]
  generalize xup X 8192 = A1 at *
  generalize xdown A1 128 = A2 at *
  generalize xup A2 131072 = A3 at *
  have over : ∀ u v, (w.setCell ⟨rb, ro, none⟩ u).setCell ⟨rb, ro, none⟩ v = w.setCell ⟨rb, ro, none⟩ v := fun u v => setCell_setCell w rb ro u v
  go_enter Try.func112, Try.ntmps112
  go_wp2
  iterate 3
    all_goals go_region
    all_goals go_wp2
  go_ret
  exact ⟨rfl, rfl⟩

set_option maxRecDepth 100000 in
theorem npow_any (n : Nat) (hn : n < 4611686018427387904) (w : World) :
    Calls Try.prog 111 #[.int .i64 n] w fun e w' => e = .returned (.int .u64 ((1 <<< bitsLen n : Nat) : Int)) ∧ w' = w := by
  have hlen : ∀ W, Calls Try.prog 79 #[.int .u64 (n : Int)] W fun e w' => e = .returned (.int .i64 (bitsLen n : Nat)) ∧ w' = W := fun W => by
    have h := Try.bits_Len (n : Int) W (by omega) (by omega)
    rwa [Int.toNat_natCast, bitLen_eq _ (by omega)] at h
  have h62 : bitsLen n ≤ 62 := (bitsLen_le_iff n 62).2 (by omega)
  have hp := wrap_two_pow (bitsLen n) h62
  go_enter Try.func111, Try.ntmps111
  go_wp2_with (go_at_call 79; refine (hlen _).mono ?_; rintro e w' ⟨rfl, rfl⟩)
  go_ret
  exact ⟨rfl, rfl⟩
end Go.Proofs.Ythffdmncdoogpaa
/- slices.Sort's breakPatterns, of runes: the generator lies in a box of its own behind all else. -/
namespace Go.Proofs.Ythffdmncdoogpaa
open Go Go.RowKit Go.Sort

/-- A breakPatterns under way: w, but that the row holds d, for draws, and for the generator's box, which holds r. -/
def Rnd (w : World) (blk off : Nat) (d : Array Int) (r : Nat) (wr : World) : Prop := ∃ n, wr = grow (putRow encN (Sort.ahead w n) blk off d) #[.cells #[.int .u64 (r : Int)] 138]
section
variable {w wr : World} {blk off r : Nat} {d d0 : Array Int}
theorem Rnd.at (h : Rnd w blk off d r wr) : At encN w blk off d wr := by
  obtain ⟨n, rfl⟩ := h
  exact ⟨n, _, rfl⟩
theorem Rnd.box (h : Rnd w blk off d r wr) : wr.cell? ⟨w.heap.size, 0, none⟩ = some (.int .u64 (r : Int)) ∧ wr.frozen? ⟨w.heap.size, 0, none⟩ = false := by
  obtain ⟨n, rfl⟩ := h
  have e : (putRow encN (Sort.ahead w n) blk off d).heap.size = w.heap.size := by simp
  rw [← e]
  exact ⟨grow_one_cell _ _ _, grow_one_frozen _ _ _⟩
theorem Rnd.turn (h : Rnd w blk off d r wr) (r' q : Nat) : Rnd w blk off d r' ((wr.setCell ⟨w.heap.size, 0, none⟩ (.int .u64 (r' : Int))).drewN q) := by
  obtain ⟨n, rfl⟩ := h
  refine ⟨n + q, ?_⟩
  have e : (putRow encN (Sort.ahead w n) blk off d).heap.size = w.heap.size := by simp
  rw [← e, setCell_grow_one, ← putRow_drewN]
  rfl
theorem Rnd.swap (h : Rnd w blk off d r wr) (hb : blk < w.heap.size) {i j : Nat} (hi : i < d.size) (hj : j < d.size) {x y : Value} (hx : x = encN d[j]!) (hy : y = encN d[i]!) :
    Rnd w blk off (swp d i j) r ((wr.setCell ⟨blk, off + i, none⟩ x).setCell ⟨blk, off + j, none⟩ y).drew := by
  obtain ⟨n, rfl⟩ := h
  refine ⟨n + 1, ?_⟩
  rw [setCell_grow _ _ _ _ _ (by simpa using hb), setCell_grow _ _ _ _ _ (by simpa using hb), ← swap_world encN hi hj rfl hx hy]
  rfl
end

/-- Where a round's number falls. -/
def spot (L M r : Nat) : Nat := if r &&& (M - 1) ≥ L then (r &&& (M - 1)) - L else r &&& (M - 1)
theorem round_is (a L M i0 t : Nat) (r : UInt64) (d : Array Int) (ht : t < 3) :
    bpRest a L M i0 (3 - t) t (r, d) = bpRest a L M i0 (3 - (t + 1)) (t + 1) (xorNext r, swp d (i0 + t) (a + spot L M (xorNextN r.toNat))) :=
  bp_step a L M i0 t r d _ ht (by rw [spot, xorNext_toNat])

set_option maxHeartbeats 3200000 in
set_option maxRecDepth 100000 in
theorem breakN_go (blk off cap a L : Nat) (d : Array Int) (w : World) (hH : Holds encN w blk off d) (hblk : blk < w.heap.size) (hb : a + L ≤ d.size) (hsz : d.size < 4611686018427387904) (h8 : 8 ≤ L) :
    Calls Try.prog 97 #[.slice (some ⟨blk, off, none⟩) d.size cap, .int .i64 a, .int .i64 ((a + L : Nat) : Int)] w fun e w' =>
      e = .returned (.tuple #[]) ∧ At encN w blk off (breakPatterns d a (a + L)) w' := by
  obtain ⟨F, hF⟩ : ∃ F, breakPatterns d a (a + L) = F := ⟨_, rfl⟩
  obtain ⟨M, hM⟩ : ∃ M : Nat, 1 <<< bitsLen L = M := ⟨_, rfl⟩
  have m0 : 1 ≤ M := by rw [← hM, Nat.one_shiftLeft]; exact Nat.two_pow_pos _
  have m1 : M ≤ 2 * L := by rw [← hM, Nat.one_shiftLeft]; exact two_pow_bitsLen_le (by omega)
  have cPow : ∀ W, Calls Try.prog 111 #[.int .i64 (L : Int)] W fun e w' => e = .returned (.int .u64 (M : Int)) ∧ w' = W := fun W => by rw [← hM]; exact npow_any L (by omega) W
  have h0 := breakPatterns_eq d a L h8
  rw [hF, hM] at h0
  rw [hF]
  obtain ⟨I, hI⟩ : ∃ I : Nat, a + L / 4 * 2 - 1 = I := ⟨_, rfl⟩
  rw [hI] at h0
  have eI : (a : Int) + (L : Int) / 4 * 2 - 1 = (I : Int) := by omega
  have lI : I + 3 ≤ a + L := by omega
  have lU : (UInt64.ofNat L).toNat = L := by simp; omega
  have HH := Lib.hid hH; have HF := Lib.hid h0
  have R0 : Hid (Rnd w blk off d L (w.alloc (.cells #[.int .u64 (L : Int)] 138))) := Lib.hid ⟨0, by rw [show Sort.ahead w 0 = w from rfl, putRow_self _ _ _ _ _ hH, alloc_eq_grow]⟩
  have HI := Lib.hid hI
  clear hH h0 hM hF hI
  go_enter Try.func97, Try.ntmps97
  go_wp2_with (first | (go_at_call 111; rw [show ((a : Int) + (L : Int) - (a : Int)) = (L : Int) by omega]; refine (cPow _).mono ?_; rintro e w' ⟨rfl, rfl⟩))
  go_loopw [9] (fun vi wr => ∃ (t : Nat) (r : UInt64) (dk : Array Int), vi = .int .i64 ((I + t : Nat) : Int) ∧ t ≤ 3 ∧ dk.size = d.size ∧ Rnd w blk off dk r.toNat wr ∧ F = bpRest a L M I (3 - t) t (r, dk)) (fun vi _ => I + 3 - (Go.Proofs.intOf vi).toNat)
  case atStart => exact ⟨0, UInt64.ofNat L, d, by congr 1, by omega, rfl, by rw [lU]; exact R0.out, HF.out⟩
  case round =>
    obtain ⟨t, r, dk, rfl, ht, hsk, A, hE⟩ := hrel
    have HE := Lib.hid hE
    clear hE
    by_cases h3 : t < 3
    · obtain ⟨R, hR⟩ : ∃ R, r.toNat = R := ⟨_, rfl⟩
      have lR : R < 18446744073709551616 := by rw [← hR]; exact r.toNat_lt
      obtain ⟨N, hN⟩ : ∃ N, xorNextN R = N := ⟨_, rfl⟩
      have lN : N < 18446744073709551616 := by rw [← hN]; exact xorNextN_lt R lR
      obtain ⟨O, hO⟩ : ∃ O, N &&& (M - 1) = O := ⟨_, rfl⟩
      have lO : O ≤ M - 1 := by rw [← hO]; exact Nat.and_le_right
      have eO : bits .and .u64 (N : Int) ((M : Int) - 1) = (O : Int) := by rw [show ((M : Int) - 1) = ((M - 1 : Nat) : Int) by omega, bits_and_u64_nat _ _ lN (by omega), hO]
      rw [hR] at A
      have hE2 := HE.out
      rw [round_is a L M I t r dk h3, hR, hN] at hE2
      have hX : (xorNext r).toNat = N := by rw [xorNext_toNat, hR, hN]
      have cNext : Calls Try.prog 112 #[.pointer (some ⟨w.heap.size, 0, none⟩)] wr fun e w' => e = .returned (.int .u64 (N : Int)) ∧ Rnd w blk off dk N w' := by
        refine (xnext_any _ _ R lR wr A.box.1 A.box.2).mono ?_
        rintro e w' ⟨rfl, rfl⟩
        rw [hN]
        exact ⟨rfl, A.turn N 3⟩
      have HE2 := Lib.hid hE2; have HX := Lib.hid hX
      have hS : spot L M N = if L ≤ O then O - L else O := by rw [spot, hO]
      clear hE2 hX HE A hR hN hO
      obtain ⟨S, hSS⟩ : ∃ S, spot L M N = S := ⟨_, rfl⟩
      rw [hSS] at hS HE2
      have HSS := Lib.hid hSS
      clear hSS
      go_wp2_with (first | (go_at_call 112; refine cNext.mono ?_; rintro e w' ⟨rfl, A1⟩))
      all_goals
        obtain ⟨G, hG⟩ : ∃ G : Nat → Int, ∀ y, G y = dk[y]! := ⟨fun y => dk[y]!, fun _ => rfl⟩
        have hrow := (A1.at.holds HH.out hsk hblk).1
        have cw : ∀ y, y < d.size → w'.cell? ⟨blk, off + y, none⟩ = some (.int .i32 (G y)) := fun y hy => by rw [hG]; exact (hrow y (by omega)).1
        have fw : ∀ y, y < d.size → w'.frozen? ⟨blk, off + y, none⟩ = false := fun y hy => (hrow y (by omega)).2
        have HG := Lib.hid hG; have HA := Lib.hid A1
        clear hG A1 hrow cNext
        have hs1 : S < L := by rw [hS]; split <;> omega
        have FIN : Hid (∀ W, Rnd w blk off (swp dk (I + t) (a + S)) N W → ∃ (t' : Nat) (r' : UInt64) (dk' : Array Int), Value.int .i64 ((I : Int) + (t : Int) + 1) = .int .i64 ((I + t' : Nat) : Int) ∧ t' ≤ 3 ∧ dk'.size = d.size ∧ Rnd w blk off dk' r'.toNat W ∧ F = bpRest a L M I (3 - t') t' (r', dk')) :=
          Lib.hid fun W h => ⟨t + 1, xorNext r, _, by congr 1 <;> omega, by omega, by rw [size_swp]; exact hsk, by rw [HX.out]; exact h, HE2.out⟩
      · have e : O - L = S := by rw [hS, if_pos (by omega)]
        clear hS
        subst e
        by_cases hq : I + t = a + (O - L)
        all_goals
          go_region
          all_goals go_wp2
          go_roundw
          case rel =>
            first
              | (rw [hq] at FIN; exact FIN.out _ (HA.out.swap hblk (by omega) (by omega) (by rw [HG.out]) (by rw [HG.out])))
              | exact FIN.out _ (HA.out.swap hblk (by omega) (by omega) (by rw [HG.out]) (by rw [HG.out]))
          case measure => simp [Go.Proofs.intOf]; omega
      · have e : O = S := by rw [hS, if_neg (by omega)]
        clear hS
        subst e
        by_cases hq : I + t = a + O
        all_goals
          go_region
          all_goals go_wp2
          go_roundw
          case rel =>
            first
              | (rw [hq] at FIN; exact FIN.out _ (HA.out.swap hblk (by omega) (by omega) (by rw [HG.out]) (by rw [HG.out])))
              | exact FIN.out _ (HA.out.swap hblk (by omega) (by omega) (by rw [HG.out]) (by rw [HG.out]))
          case measure => simp [Go.Proofs.intOf]; omega
    · obtain rfl : t = 3 := by omega
      have hv := HE.out
      have HA := Lib.hid A.at
      clear A
      go_wp2_with fail
      go_end0
      exact ⟨rfl, by rw [hv]; exact HA.out⟩

theorem breakN_any (blk off cap a b : Nat) (d : Array Int) (w : World) (hH : Holds encN w blk off d) (hblk : blk < w.heap.size) (hab : a ≤ b) (hb : b ≤ d.size) (hsz : d.size < 4611686018427387904) :
    Calls Try.prog 97 #[.slice (some ⟨blk, off, none⟩) d.size cap, .int .i64 a, .int .i64 b] w fun e w' => e = .returned (.tuple #[]) ∧ At encN w blk off (breakPatterns d a b) w' := by
  obtain ⟨L, rfl⟩ : ∃ L, b = a + L := ⟨b - a, by omega⟩
  by_cases h8 : 8 ≤ L
  · exact breakN_go blk off cap a L d w hH hblk hb hsz h8
  · have hv : breakPatterns d a (a + L) = d := by rw [breakPatterns]; simp only [Nat.add_sub_cancel_left]; rw [if_neg h8]
    rw [hv]
    have HA := Lib.hid (At.refl hH)
    clear hH hv
    go_enter Try.func97, Try.ntmps97
    go_wp2
    go_end0
    exact ⟨rfl, HA.out⟩
end Go.Proofs.Ythffdmncdoogpaa
