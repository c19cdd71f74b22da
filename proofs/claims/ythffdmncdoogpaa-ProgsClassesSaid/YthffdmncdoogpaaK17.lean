/- Texts merged by program: PgRev, PgSift, PgHeap. No condition. -/
import Derived.Test.YthffdmncdoogpaaK16
import Derived.Sort.WalkB3
set_option linter.unusedVariables false
/- A row of runes that a sort turns: what it holds, draws, swaps; slices.Sort's reverseRange, siftDown and heapSort, of runes. -/
namespace Go.Proofs.Ythffdmncdoogpaa
open Go Go.RowKit Go.Sort

/-- The world is w, but that the row holds d, and for draws. -/
def RowAt (w : World) (blk off : Nat) (d : Array Int) (wr : World) : Prop := ∃ n, wr = putRow encN (Sort.ahead w n) blk off d
section
variable {w wr : World} {blk off : Nat} {d dk : Array Int}
theorem RowAt.start (h : Holds encN w blk off d) : RowAt w blk off d w := ⟨0, (putRow_self encN w blk off d h).symm⟩
theorem RowAt.holds (h : RowAt w blk off dk wr) (h0 : Holds encN w blk off d) (hs : dk.size = d.size) : Holds encN wr blk off dk := by
  obtain ⟨n, rfl⟩ := h
  exact holds_putRow encN _ blk off d dk (holds_ahead encN w n blk off d h0) hs
theorem RowAt.drewN (h : RowAt w blk off dk wr) (m : Nat) : RowAt w blk off dk (wr.drewN m) := by
  obtain ⟨n, rfl⟩ := h
  exact ⟨n + m, putRow_drewN _ _ _ _ _ _ _⟩
theorem RowAt.drew (h : RowAt w blk off dk wr) : RowAt w blk off dk wr.drew := h.drewN 1
theorem RowAt.swap (h : RowAt w blk off dk wr) {i j : Nat} (hi : i < dk.size) (hj : j < dk.size) {x y : Value} (hx : x = encN dk[j]!) (hy : y = encN dk[i]!) :
    RowAt w blk off (swp dk i j) ((wr.setCell ⟨blk, off + i, none⟩ x).setCell ⟨blk, off + j, none⟩ y).drew := by
  obtain ⟨n, rfl⟩ := h
  exact ⟨n + 1, swap_world encN hi hj rfl hx hy⟩
theorem RowAt.now (h : RowAt w blk off dk wr) : RowNow w blk off dk (.returned (.tuple #[])) wr := ⟨rfl, h⟩
end

set_option maxHeartbeats 1600000 in
set_option maxRecDepth 100000 in
theorem revN_any (blk off cap a b : Nat) (d : Array Int) (w : World) (hH : Holds encN w blk off d) (hab : a ≤ b) (hb : b ≤ d.size) (hsz : d.size < 4611686018427387904) :
    Calls Try.prog 99 #[.slice (some ⟨blk, off, none⟩) d.size cap, .int .i64 a, .int .i64 b] w (RowNow w blk off (reverseRange d a b)) := by
  go_enter Try.func99, Try.ntmps99
  go_wp2
  go_loopw [6, 7] (fun u v wr => ∃ (i jn : Nat) (jz : Int) (dk : Array Int), u = .int .i64 i ∧ v = .int .i64 jz ∧ ((i : Int) < jz → jz = jn ∧ jn < d.size) ∧ (¬ (i : Int) < jz → ¬ i < jn) ∧ jz < 4611686018427387904 ∧ -1 ≤ jz ∧ i ≤ d.size + 1 ∧ dk.size = d.size ∧ RowAt w blk off dk wr ∧ reverseLoop i jn dk = reverseLoop a (b - 1) d)
    (fun u v _ => (Go.Proofs.intOf v - Go.Proofs.intOf u).toNat)
  case atStart => exact ⟨a, b - 1, (b : Int) - 1, d, rfl, rfl, fun h => ⟨by omega, by omega⟩, fun h => by omega, by omega, by omega, by omega, rfl, .start hH, rfl⟩
  case round =>
    obtain ⟨i, jn, jz, dk, rfl, rfl, h1, h2, hjz, hjz0, hi, hds, hwr, heq⟩ := hrel
    by_cases hlt : (i : Int) < jz
    · obtain ⟨rfl, hjn⟩ := h1 hlt
      have hij : i < jn := by omega
      have hHk := hwr.holds hH hds
      obtain ⟨ci, fi⟩ := hHk i (by omega)
      obtain ⟨cj, fj⟩ := hHk jn (by omega)
      have A := Lib.hid hwr; have HE := Lib.hid heq
      clear hwr hHk hH h1 h2 heq
      go_wp2_with fail
      go_region
      go_wp2
      go_roundw
      case measure => simp [Go.Proofs.intOf]; omega
      case rel =>
        have he := HE.out
        rw [reverseLoop, if_pos hij] at he
        refine ⟨i + 1, jn - 1, (jn : Int) - 1, swp dk i jn, by go_num, rfl, fun h => ⟨by omega, by omega⟩, fun h => by omega, by omega, by omega, by omega, by rw [size_swp]; exact hds, ?_, he⟩
        exact A.out.swap (by omega) (by omega) (by simp [encN, getElem!_pos, show jn < dk.size by omega]) rfl
    · have hnot := h2 hlt
      go_wp2
      go_end0
      rw [reverseLoop, if_neg hnot] at heq
      rw [reverseRange, ← heq]
      exact hwr.now
end Go.Proofs.Ythffdmncdoogpaa
/- slices.Sort's siftDown, of runes (the walk by gen12sift.py). -/
namespace Go.Proofs.Ythffdmncdoogpaa
open Go Go.RowKit Go.Sort

theorem cells_at {w wr : World} {blk off : Nat} {d dk : Array Int} (h : RowAt w blk off dk wr) (h0 : Holds encN w blk off d) (hs : dk.size = d.size) :
    (∀ t, t < d.size → wr.cell? ⟨blk, off + t, none⟩ = some (.int .i32 dk[t]!)) ∧ (∀ t, t < d.size → wr.frozen? ⟨blk, off + t, none⟩ = false) :=
  ⟨fun t ht => (h.holds h0 hs t (by omega)).1, fun t ht => (h.holds h0 hs t (by omega)).2⟩

set_option maxHeartbeats 3200000 in
set_option maxRecDepth 1000000 in
theorem siftN_any (blk off cap lo hi first : Nat) (d : Array Int) (w : World) (hH : Holds encN w blk off d) (hlo : lo ≤ hi) (hb : first + hi ≤ d.size) (hsz : d.size < 4611686018427387904) :
    Calls Try.prog 110 #[.slice (some ⟨blk, off, none⟩) d.size cap, .int .i64 lo, .int .i64 hi, .int .i64 first] w (RowNow w blk off (siftDown ltInt hi first lo d)) := by
  replace hH := Lib.hid hH
  go_enter Try.func110, Try.ntmps110
  go_wp2
  go_loopw [8] (fun u wr => ∃ (root : Nat) (dk : Array Int), u = .int .i64 root ∧ root ≤ hi ∧ dk.size = d.size ∧ RowAt w blk off dk wr ∧ siftDown ltInt hi first root dk = siftDown ltInt hi first lo d)
    (fun u _ => hi - (Go.Proofs.intOf u).toNat)
  case atStart => exact ⟨lo, d, rfl, hlo, rfl, .start hH.out, rfl⟩
  case round =>
    obtain ⟨root, dk, rfl, hr, hds, A, heq⟩ := hrel
    replace A := Lib.hid A
    replace heq := Lib.hid heq
    obtain ⟨c1, f1⟩ := cells_at A.out hH.out hds
    by_cases h0 : hi ≤ 2 * root + 1
    · have h0z : (hi : Int) ≤ 2 * (root : Int) + 1 := by omega
      go_wp2
      go_end0
      rw [← heq.out, sd_end ltInt dk h0]
      exact A.out.now
    · have h0z : ¬ ((hi : Int) ≤ 2 * (root : Int) + 1) := by omega
      by_cases h1 : 2 * root + 2 < hi
      · have h1z : 2 * (root : Int) + 1 + 1 < (hi : Int) := by omega
        go_wp2_with fail
        go_big_quiet (first | (go_at_call 101; refine Calls.quiet_of_same (lessN_any _ _ _)))
        go_wp2_with fail
        · have hL : ltInt dk[first + 2 * root + 1]! dk[first + 2 * root + 2]! = true := by assumption
          have A2 := Lib.hid (A.out.drewN nq)
          generalize wr.drewN nq = wr2 at A2 ⊢
          clear nq c1 f1 A
          obtain ⟨c2, f2⟩ := cells_at A2.out hH.out hds
          go_big_quiet (first | (go_at_call 101; refine Calls.quiet_of_same (lessN_any _ _ _)))
          have A3 := Lib.hid (A2.out.drewN nq)
          generalize wr2.drewN nq = wr3 at A3 ⊢
          clear c2 f2 A2
          obtain ⟨c3, f3⟩ := cells_at A3.out hH.out hds
          go_wp2_with fail
          · have hS : ltInt dk[first + root]! dk[first + 2 * root + 2]! = false := by
              have : (!ltInt dk[first + root]! dk[first + 2 * root + 2]!) = true := by assumption
              simpa using this
            (try simp only [Exit.inBlock, Exit.then])
            refine bodyPost_ret (results_none rfl _ _ _) rfl ?_
            rw [← heq.out, sd_right_stop ltInt dk h1 hL hS]
            exact A3.out.now
          · have hG : ltInt dk[first + root]! dk[first + 2 * root + 2]! = true := by
              have : (!ltInt dk[first + root]! dk[first + 2 * root + 2]!) = false := by assumption
              simpa using this
            go_region
            go_wp2
            go_roundw
            case measure => simp [Go.Proofs.intOf]; omega
            case rel =>
              refine ⟨2 * root + 2, swp dk (first + root) (first + (2 * root + 2)), by go_num, by omega, by rw [size_swp]; exact hds, A3.out.swap (by omega) (by omega) rfl rfl, ?_⟩
              rw [← heq.out, sd_right_go ltInt dk h1 hL hG]
        · have hL : ltInt dk[first + 2 * root + 1]! dk[first + 2 * root + 2]! = false := by assumption
          have A2 := Lib.hid (A.out.drewN nq)
          generalize wr.drewN nq = wr2 at A2 ⊢
          clear nq c1 f1 A
          obtain ⟨c2, f2⟩ := cells_at A2.out hH.out hds
          go_big_quiet (first | (go_at_call 101; refine Calls.quiet_of_same (lessN_any _ _ _)))
          have A3 := Lib.hid (A2.out.drewN nq)
          generalize wr2.drewN nq = wr3 at A3 ⊢
          clear c2 f2 A2
          obtain ⟨c3, f3⟩ := cells_at A3.out hH.out hds
          go_wp2_with fail
          · have hS : ltInt dk[first + root]! dk[first + 2 * root + 1]! = false := by
              have : (!ltInt dk[first + root]! dk[first + 2 * root + 1]!) = true := by assumption
              simpa using this
            (try simp only [Exit.inBlock, Exit.then])
            refine bodyPost_ret (results_none rfl _ _ _) rfl ?_
            rw [← heq.out, sd_left_stop ltInt dk (by omega) (fun _ => hL) hS]
            exact A3.out.now
          · have hG : ltInt dk[first + root]! dk[first + 2 * root + 1]! = true := by
              have : (!ltInt dk[first + root]! dk[first + 2 * root + 1]!) = false := by assumption
              simpa using this
            go_region
            go_wp2
            go_roundw
            case measure => simp [Go.Proofs.intOf]; omega
            case rel =>
              refine ⟨2 * root + 1, swp dk (first + root) (first + (2 * root + 1)), by go_num, by omega, by rw [size_swp]; exact hds, A3.out.swap (by omega) (by omega) rfl rfl, ?_⟩
              rw [← heq.out, sd_left_go ltInt dk (by omega) (fun _ => hL) hG]
      · have h1z : decide (2 * (root : Int) + 1 + 1 < (hi : Int)) = false := decide_eq_false (by omega)
        go_wp2_with fail
        go_big_quiet (first | (go_at_call 101; refine Calls.quiet_of_same (lessN_any _ _ _)))
        go_wp2_with fail
        have A2 := Lib.hid (A.out.drewN nq)
        generalize wr.drewN nq = wr2 at A2 ⊢
        clear nq c1 f1 A
        obtain ⟨c2, f2⟩ := cells_at A2.out hH.out hds
        go_big_quiet (first | (go_at_call 101; refine Calls.quiet_of_same (lessN_any _ _ _)))
        have A3 := Lib.hid (A2.out.drewN nq)
        generalize wr2.drewN nq = wr3 at A3 ⊢
        clear c2 f2 A2
        obtain ⟨c3, f3⟩ := cells_at A3.out hH.out hds
        go_wp2_with fail
        · have hS : ltInt dk[first + root]! dk[first + 2 * root + 1]! = false := by
            have : (!ltInt dk[first + root]! dk[first + 2 * root + 1]!) = true := by assumption
            simpa using this
          (try simp only [Exit.inBlock, Exit.then])
          refine bodyPost_ret (results_none rfl _ _ _) rfl ?_
          rw [← heq.out, sd_left_stop ltInt dk (by omega) (fun h => absurd h h1) hS]
          exact A3.out.now
        · have hG : ltInt dk[first + root]! dk[first + 2 * root + 1]! = true := by
            have : (!ltInt dk[first + root]! dk[first + 2 * root + 1]!) = false := by assumption
            simpa using this
          go_region
          go_wp2
          go_roundw
          case measure => simp [Go.Proofs.intOf]; omega
          case rel =>
            refine ⟨2 * root + 1, swp dk (first + root) (first + (2 * root + 1)), by go_num, by omega, by rw [size_swp]; exact hds, A3.out.swap (by omega) (by omega) rfl rfl, ?_⟩
            rw [← heq.out, sd_left_go ltInt dk (by omega) (fun h => absurd h h1) hG]
end Go.Proofs.Ythffdmncdoogpaa
/- slices.Sort's heapSort, of runes. -/
namespace Go.Proofs.Ythffdmncdoogpaa
open Go Go.RowKit Go.Sort

theorem RowAt.step {w wr w' : World} {blk off : Nat} {dk d' : Array Int} {e : Ending} (h : RowAt w blk off dk wr) (hs : d'.size = dk.size) (h2 : RowNow wr blk off d' e w') : e = .returned (.tuple #[]) ∧ RowAt w blk off d' w' := by
  obtain ⟨n, rfl⟩ := h
  obtain ⟨he, m, rfl⟩ := h2
  exact ⟨he, n + m, putRow_ahead_putRow encN w n m blk off dk d' hs⟩
/-- siftDown as a step of a sort under way. -/
theorem siftN_at {w wr : World} {blk off : Nat} {d dk : Array Int} (A : RowAt w blk off dk wr) (hH : Holds encN w blk off d) (hds : dk.size = d.size) (cap lo hi first : Nat) (hlo : lo ≤ hi) (hb : first + hi ≤ d.size) (hsz : d.size < 4611686018427387904) :
    Calls Try.prog 110 #[.slice (some ⟨blk, off, none⟩) d.size cap, .int .i64 lo, .int .i64 hi, .int .i64 first] wr fun e w' => e = .returned (.tuple #[]) ∧ RowAt w blk off (siftDown ltInt hi first lo dk) w' := by
  have h := siftN_any blk off cap lo hi first dk wr (A.holds hH hds) hlo (by omega) (by omega)
  rw [hds] at h
  exact h.mono fun e w' h => A.step (size_siftDown ltInt _ _ _ _ _ (Nat.le_refl _)) h

set_option maxHeartbeats 3200000 in
set_option maxRecDepth 1000000 in
theorem heapN_any (blk off cap a b : Nat) (d : Array Int) (w : World) (hH : Holds encN w blk off d) (hab : a ≤ b) (hb : b ≤ d.size) (hsz : d.size < 4611686018427387904) :
    Calls Try.prog 96 #[.slice (some ⟨blk, off, none⟩) d.size cap, .int .i64 a, .int .i64 b] w (RowNow w blk off (heapSort ltInt d a b)) := by
  replace hH := Lib.hid hH
  have ecast : ((b - a : Nat) : Int) = (b : Int) - (a : Int) := by omega
  go_enter Try.func96, Try.ntmps96
  go_wp2
  go_loopg [9] ((b - a - 1) / 2 + 1) (fun k u wr => u = .int .i64 ((k : Int) - 1) ∧ k ≤ (b - a - 1) / 2 + 1 ∧ ∃ dk : Array Int, dk.size = d.size ∧ RowAt w blk off dk wr ∧ heapBuild ltInt (b - a) a k dk = heapBuild ltInt (b - a) a ((b - a - 1) / 2 + 1) d)
  case atStart => exact ⟨by rw [half_start hab], Nat.le_refl _, d, rfl, .start hH.out, rfl⟩
  case round =>
    obtain ⟨rfl, hkk, dk, hds, A, heq⟩ := hrel
    replace A := Lib.hid A
    cases gk with
    | zero =>
      have hB : dk = heapBuild ltInt (b - a) a ((b - a - 1) / 2 + 1) d := heq
      have HB := Lib.hid hB
      clear heq hkk hB
      go_wp2
      go_loopg [10] (b - a) (fun k u wr2 => u = .int .i64 ((k : Int) - 1) ∧ k ≤ b - a ∧ ∃ dj : Array Int, dj.size = d.size ∧ RowAt w blk off dj wr2 ∧ heapPop ltInt a k dj = heapPop ltInt a (b - a) dk)
      case atStart => exact ⟨by rw [ecast], Nat.le_refl _, dk, hds, A.out, rfl⟩
      case round =>
        obtain ⟨rfl, hkk, dj, hdj, A2, heq2⟩ := hrel
        replace A2 := Lib.hid A2
        cases gk with
        | zero =>
          go_wp2
          go_end0
          have e : dj = heapSort ltInt d a b := by rw [heapSort, ← HB.out, ← heq2]; rfl
          rw [← e]
          exact A2.out.now
        | succ k =>
          obtain ⟨c2, f2⟩ := cells_at A2.out hH.out hdj
          have HE := Lib.hid heq2
          clear heq2
          rcases Nat.eq_zero_or_pos k with hk0 | hkp
          · subst hk0
            go_wp2_with fail
            go_region
            go_wp2_with fail
            have A3 := A2.out.swap (i := a) (j := a) (by omega) (by omega) rfl rfl
            refine (siftN_at A3 hH.out (by rw [size_swp]; exact hdj) cap 0 0 a (Nat.zero_le _) (by omega) hsz).mono ?_
            rintro e w1 ⟨rfl, A4⟩
            go_wp2
            go_roundg 0
            case measure => omega
            case rel => exact ⟨by simp, by omega, _, by rw [size_siftDown ltInt _ _ _ _ _ (Nat.le_refl _), size_swp]; exact hdj, A4, HE.out⟩
          · go_wp2_with fail
            go_region
            go_wp2_with fail
            have A3 := A2.out.swap (i := a) (j := a + k) (by omega) (by omega) rfl rfl
            refine (siftN_at A3 hH.out (by rw [size_swp]; exact hdj) cap 0 k a (Nat.zero_le _) (by omega) hsz).mono ?_
            rintro e w1 ⟨rfl, A4⟩
            go_wp2
            go_roundg k
            case measure => omega
            case rel => exact ⟨by simp, by omega, _, by rw [size_siftDown ltInt _ _ _ _ _ (Nat.le_refl _), size_swp]; exact hdj, A4, HE.out⟩
    | succ k =>
      have hcall := siftN_at A.out hH.out hds cap k (b - a) a (by omega) (by omega) hsz
      rw [ecast] at hcall
      go_wp2_with (go_at_call 110; refine hcall.mono ?_; rintro e w1 ⟨rfl, A1⟩)
      go_roundg k
      case measure => omega
      case rel => exact ⟨by simp, by omega, _, by rw [size_siftDown ltInt _ _ _ _ _ (Nat.le_refl _)]; exact hds, A1, heq⟩
end Go.Proofs.Ythffdmncdoogpaa
