/- Texts merged by program: PgPivot, PgChoose. No condition. -/
import Derived.Test.YthffdmncdoogpaaK17
import Derived.Sort.WalkD1
import Derived.Sort.Walk11
set_option linter.unusedVariables false
/- slices.Sort's order2, median and medianAdjacent, of runes. -/
namespace Go.Proofs.Ythffdmncdoogpaa
open Go Go.RowKit Go.Sort

/-- The world is w, but that the counter in block sb is s, and for draws. -/
def Cnt (w : World) (sb s : Nat) (wr : World) : Prop := ∃ n, wr = putRow (Value.int .i64) (Sort.ahead w n) sb 0 (one s)
section
variable {w wr w' : World} {sb s s' blk off : Nat} {d : Array Int}
theorem Cnt.step (h : Cnt w sb s wr) (h2 : Cnt wr sb s' w') : Cnt w sb s' w' := by
  obtain ⟨n, rfl⟩ := h
  obtain ⟨m, rfl⟩ := h2
  exact ⟨n + m, one_one w n m sb 0 s s'⟩
theorem Cnt.own {s0 : Nat} (h : Cnt w sb s wr) (h0 : Holds (Value.int .i64) w sb 0 (one s0)) : Holds (Value.int .i64) wr sb 0 (one s) := by
  obtain ⟨n, rfl⟩ := h
  exact holds_one h0
theorem Cnt.row (h : Cnt w sb s wr) (hH : Holds encN w blk off d) (hne : sb ≠ blk) : Holds encN wr blk off d := by
  obtain ⟨n, rfl⟩ := h
  exact fun j hj => ⟨by rw [cell?_putRow_other _ _ _ _ _ _ (Or.inl (Ne.symm hne))]; exact (hH j hj).1, by rw [frozen?_putRow]; exact (hH j hj).2⟩
end

set_option maxHeartbeats 1600000 in
set_option maxRecDepth 100000 in
theorem orderN_any (d : Array Int) (blk off cap a b sb s : Nat) (w : World) (hH : Holds encN w blk off d) (ha : a < d.size) (hb : b < d.size) (hS : Holds (Value.int .i64) w sb 0 (one s)) (hs : s < 4611686018427387904) :
    Calls Try.prog 117 #[.slice (some ⟨blk, off, none⟩) d.size cap, .int .i64 a, .int .i64 b, .pointer (some ⟨sb, 0, none⟩)] w fun e w' =>
      e = .returned (.tuple #[.int .i64 (order2 ltInt d a b s).1, .int .i64 (order2 ltInt d a b s).2.1]) ∧ Cnt w sb (order2 ltInt d a b s).2.2 w' := by
  have ca := (hH a ha).1
  have cb := (hH b hb).1
  obtain ⟨cs, fs⟩ := one_cell hS
  have ea : d[a]! = d[a] := getElem!_pos d a ha
  have eb : d[b]! = d[b] := getElem!_pos d b hb
  go_enter Try.func117, Try.ntmps117
  go_wp2
  go_region_with (go_at_call 101; refine (lessN_any _ _ _).mono ?_; rintro e w' ⟨rfl, rfl⟩)
  all_goals (try go_wp2)
  all_goals first
    | (have hlt : ltInt d[b] d[a] = true := by assumption
       have e2 : order2 ltInt d a b s = (b, a, s + 1) := by simp [order2, ea, eb, hlt]
       go_ret2
       rw [e2]
       refine ⟨rfl, 1, ?_⟩
       rw [putRow_ahead, ← one_set hS (s + 1)]
       simp [drew_eq_ahead])
    | (have hlt : ltInt d[b] d[a] = false := by assumption
       have e2 : order2 ltInt d a b s = (a, b, s) := by simp [order2, ea, eb, hlt]
       go_ret2
       rw [e2]
       refine ⟨rfl, 1, ?_⟩
       rw [putRow_ahead, putRow_self _ _ _ _ _ hS]
       rfl)
set_option maxHeartbeats 1600000 in
set_option maxRecDepth 100000 in
theorem medianN_any (d : Array Int) (blk off cap a b c sb s : Nat) (w : World) (hH : Holds encN w blk off d) (ha : a < d.size) (hb : b < d.size) (hc : c < d.size) (hne : sb ≠ blk) (hS : Holds (Value.int .i64) w sb 0 (one s)) (hs : s + 3 < 4611686018427387904) :
    Calls Try.prog 114 #[.slice (some ⟨blk, off, none⟩) d.size cap, .int .i64 a, .int .i64 b, .int .i64 c, .pointer (some ⟨sb, 0, none⟩)] w fun e w' =>
      e = .returned (.int .i64 (median ltInt d a b c s).1) ∧ Cnt w sb (median ltInt d a b c s).2 w' := by
  have l1 := order2_lt d s ha hb
  have s1 := order2_swaps d a b s
  have h1 := orderN_any d blk off cap a b sb s w hH ha hb hS (by omega)
  obtain ⟨p, q, t, e1⟩ : ∃ p q t, order2 ltInt d a b s = (p, q, t) := ⟨_, _, _, rfl⟩
  have l2 := order2_lt d t (n := d.size) (a := q) (b := c) (by rw [e1] at l1; exact l1.2) hc
  have s2 := order2_swaps d q c t
  obtain ⟨p2, q2, t2, e2⟩ : ∃ p q' t', order2 ltInt d q c t = (p, q', t') := ⟨_, _, _, rfl⟩
  obtain ⟨p3, q3, t3, e3⟩ : ∃ p' q' t', order2 ltInt d p p2 t2 = (p', q', t') := ⟨_, _, _, rfl⟩
  have em : median ltInt d a b c s = (q3, t3) := by simp only [median, e1, e2, e3]
  rw [em]
  rw [e1] at h1 l1 s1
  rw [e2] at l2 s2
  simp only at h1 l1 s1 l2 s2
  have h2 : ∀ W, Cnt w sb t W → Calls Try.prog 117 #[.slice (some ⟨blk, off, none⟩) d.size cap, .int .i64 q, .int .i64 c, .pointer (some ⟨sb, 0, none⟩)] W fun e w' => e = .returned (.tuple #[.int .i64 p2, .int .i64 q2]) ∧ Cnt w sb t2 w' := fun W hW => by
    have h := orderN_any d blk off cap q c sb t W (hW.row hH hne) l1.2 hc (hW.own hS) (by omega)
    rw [e2] at h
    exact h.mono fun e w' h => ⟨h.1, hW.step h.2⟩
  have h3 : ∀ W, Cnt w sb t2 W → Calls Try.prog 117 #[.slice (some ⟨blk, off, none⟩) d.size cap, .int .i64 p, .int .i64 p2, .pointer (some ⟨sb, 0, none⟩)] W fun e w' => e = .returned (.tuple #[.int .i64 p3, .int .i64 q3]) ∧ Cnt w sb t3 w' := fun W hW => by
    have h := orderN_any d blk off cap p p2 sb t2 W (hW.row hH hne) l1.1 l2.1 (hW.own hS) (by omega)
    rw [e3] at h
    exact h.mono fun e w' h => ⟨h.1, hW.step h.2⟩
  clear l1 l2 s1 s2 e1 e2 e3 em hH hS
  go_enter Try.func114, Try.ntmps114
  go_wp2_with (go_at_call_of 117 (Value.int .i64 (b : Int)); refine h1.mono ?_; rintro e w1 ⟨rfl, g1⟩)
  go_wp2_with (go_at_call_of 117 (Value.int .i64 (c : Int)); refine (h2 _ g1).mono ?_; rintro e w2 ⟨rfl, g2⟩)
  go_wp2_with (go_at_call_of 117 (Value.int .i64 (p2 : Int)); refine (h3 _ g2).mono ?_; rintro e w3 ⟨rfl, g3⟩)
  go_ret
  exact ⟨rfl, g3⟩
set_option maxHeartbeats 1600000 in
set_option maxRecDepth 100000 in
theorem medadjN_any (d : Array Int) (blk off cap a sb s : Nat) (w : World) (hH : Holds encN w blk off d) (ha0 : 1 ≤ a) (ha : a + 1 < d.size) (hsz : d.size < 4611686018427387904) (hne : sb ≠ blk) (hS : Holds (Value.int .i64) w sb 0 (one s)) (hs : s + 3 < 4611686018427387904) :
    Calls Try.prog 113 #[.slice (some ⟨blk, off, none⟩) d.size cap, .int .i64 a, .pointer (some ⟨sb, 0, none⟩)] w fun e w' =>
      e = .returned (.int .i64 (medianAdjacent ltInt d a s).1) ∧ Cnt w sb (medianAdjacent ltInt d a s).2 w' := by
  have h := medianN_any d blk off cap (a - 1) a (a + 1) sb s w hH (by omega) (by omega) ha hne hS hs
  rw [show ((a - 1 : Nat) : Int) = (a : Int) - 1 by omega, show ((a + 1 : Nat) : Int) = (a : Int) + 1 by omega] at h
  clear hH hS
  go_enter Try.func113, Try.ntmps113
  go_wp2_with (go_at_call 114; refine h.mono ?_; rintro e w' ⟨rfl, g⟩)
  go_ret
  exact ⟨rfl, g⟩
end Go.Proofs.Ythffdmncdoogpaa
/- slices.Sort's choosePivot, of runes. -/
namespace Go.Proofs.Ythffdmncdoogpaa
open Go Go.RowKit Go.Sort

theorem hint_of_nat (s : Nat) : hintCode (hintOf s) = if s = 0 then 1 else if s = 12 then 2 else 0 := by
  unfold hintOf
  split
  · rfl
  · split <;> rfl
theorem Cnt.grown {w wr : World} {e : TypeId} {s : Nat} (h : Cnt (w.alloc (.cells #[.int .i64 0] e)) w.heap.size s wr) : ∃ n os, wr = grow (Sort.ahead w n) os := by
  obtain ⟨n, rfl⟩ := h
  rw [alloc_eq_grow, ahead_grow]
  obtain ⟨os, _, h⟩ := putRow_grow_new (Value.int .i64) (Sort.ahead w n) #[.cells #[.int .i64 0] e] w.heap.size 0 (one s) (Nat.le_refl _)
  exact ⟨n, os, h⟩

set_option maxHeartbeats 1600000 in
set_option maxRecDepth 100000 in
theorem chooseN_any (blk off cap a b : Nat) (d : Array Int) (w : World) (hH : Holds encN w blk off d) (hblk : blk < w.heap.size) (hab : a < b) (hb : b ≤ d.size) (hsz : d.size < 4611686018427387904) :
    Calls Try.prog 98 #[.slice (some ⟨blk, off, none⟩) d.size cap, .int .i64 a, .int .i64 b] w fun e w' =>
      e = .returned (.tuple #[.int .i64 (choosePivot ltInt d a b).1, .int .i64 (hintCode (choosePivot ltInt d a b).2)]) ∧ ∃ n os, w' = grow (Sort.ahead w n) os := by
  have hne : w.heap.size ≠ blk := by omega
  obtain ⟨w0, hw0⟩ : ∃ w0, w.alloc (.cells #[.int .i64 0] 3) = w0 := ⟨_, rfl⟩
  have hH0 : Holds encN w0 blk off d := by rw [← hw0, alloc_eq_grow]; exact holds_grow _ _ _ _ _ _ hblk hH
  have hS0 : Holds (Value.int .i64) w0 w.heap.size 0 (one 0) := fun j hj => by
    obtain rfl : j = 0 := by simpa using hj
    rw [← hw0]
    simp
  have hC0 : Cnt w0 w.heap.size 0 w0 := ⟨0, (putRow_self _ _ _ _ _ hS0).symm⟩
  have hcell : ∀ s W, Cnt w0 w.heap.size s W → W.cell? ⟨w.heap.size, 0, none⟩ = some (.int .i64 (s : Int)) := fun s W h => (one_cell (h.own hS0)).1
  have hG : ∀ s W, Cnt w0 w.heap.size s W → ∃ n os, W = grow (Sort.ahead w n) os := fun s W h => by rw [← hw0] at h; exact h.grown
  have MA : ∀ (x s : Nat) (W : World), 1 ≤ x → x + 1 < d.size → s + 3 < 4611686018427387904 → Cnt w0 w.heap.size s W → Calls Try.prog 113 #[.slice (some ⟨blk, off, none⟩) d.size cap, .int .i64 (x : Int), .pointer (some ⟨w.heap.size, 0, none⟩)] W fun e w' =>
      e = .returned (.int .i64 ((medianAdjacent ltInt d x s).1 : Int)) ∧ Cnt w0 w.heap.size (medianAdjacent ltInt d x s).2 w' := fun x s W h1 h2 h3 h4 =>
    (medadjN_any d blk off cap x w.heap.size s W (h4.row hH0 hne) h1 h2 hsz hne (h4.own hS0) h3).mono fun e w' h => ⟨h.1, h4.step h.2⟩
  have MD : ∀ (x y z s : Nat) (W : World), x < d.size → y < d.size → z < d.size → s + 3 < 4611686018427387904 → Cnt w0 w.heap.size s W → Calls Try.prog 114 #[.slice (some ⟨blk, off, none⟩) d.size cap, .int .i64 (x : Int), .int .i64 (y : Int), .int .i64 (z : Int), .pointer (some ⟨w.heap.size, 0, none⟩)] W fun e w' =>
      e = .returned (.int .i64 ((median ltInt d x y z s).1 : Int)) ∧ Cnt w0 w.heap.size (median ltInt d x y z s).2 w' := fun x y z s W h1 h2 h3 h4 h5 =>
    (medianN_any d blk off cap x y z w.heap.size s W (h5.row hH0 hne) h1 h2 h3 hne (h5.own hS0) h4).mono fun e w' h => ⟨h.1, h5.step h.2⟩
  clear hH hH0 hS0
  rw [choosePivot_eq]
  obtain ⟨I, hI⟩ : ∃ I : Nat, I = a + (b - a) / 4 * 1 := ⟨_, rfl⟩
  obtain ⟨J, hJ⟩ : ∃ J : Nat, J = a + (b - a) / 4 * 2 := ⟨_, rfl⟩
  obtain ⟨K, hK⟩ : ∃ K : Nat, K = a + (b - a) / 4 * 3 := ⟨_, rfl⟩
  have eI : ((a : Int) + ((b : Int) - (a : Int)) / 4) = (I : Int) := by omega
  have eJ : ((a : Int) + ((b : Int) - (a : Int)) / 4 * 2) = (J : Int) := by omega
  have eK : ((a : Int) + ((b : Int) - (a : Int)) / 4 * 3) = (K : Int) := by omega
  show Calls _ _ _ w fun e w' => e = .returned (.tuple #[.int .i64 ((rawPivot ltInt d a b).1 : Int), .int .i64 (hintCode (hintOf (rawPivot ltInt d a b).2))]) ∧ ∃ n os, w' = grow (Sort.ahead w n) os
  rw [hint_of_nat]
  by_cases h8 : b - a ≥ 8
  · by_cases h50 : b - a ≥ 50
    · obtain ⟨i1, s1, h1⟩ : ∃ i1 s1, medianAdjacent ltInt d I 0 = (i1, s1) := ⟨_, _, rfl⟩
      obtain ⟨j1, s2, h2⟩ : ∃ j1 s2, medianAdjacent ltInt d J s1 = (j1, s2) := ⟨_, _, rfl⟩
      obtain ⟨k1, s3, h3⟩ : ∃ k1 s3, medianAdjacent ltInt d K s2 = (k1, s3) := ⟨_, _, rfl⟩
      obtain ⟨p, s, h4⟩ : ∃ p s, median ltInt d i1 j1 k1 s3 = (p, s) := ⟨_, _, rfl⟩
      have hraw : rawPivot ltInt d a b = (p, s) := by simp only [rawPivot, if_pos h8, if_pos h50, ← hI, ← hJ, ← hK, h1, h2, h3, h4]
      have m1 := medianAdjacent_mem ltInt d I 0; rw [h1] at m1
      have m2 := medianAdjacent_mem ltInt d J s1; rw [h2] at m2
      have m3 := medianAdjacent_mem ltInt d K s2; rw [h3] at m3
      have n1 := medianAdjacent_count ltInt d I 0; rw [h1] at n1
      have n2 := medianAdjacent_count ltInt d J s1; rw [h2] at n2
      have n3 := medianAdjacent_count ltInt d K s2; rw [h3] at n3
      simp only at m1 m2 m3 n1 n2 n3
      have c1 := MA I 0 w0 (by omega) (by omega) (by omega) hC0
      have c2 := fun W h => MA J s1 W (by omega) (by omega) (by omega) h
      have c3 := fun W h => MA K s2 W (by omega) (by omega) (by omega) h
      have c4 := fun W h => MD i1 j1 k1 s3 W (by omega) (by omega) (by omega) (by omega) h
      rw [h1] at c1
      simp only [h2] at c2
      simp only [h3] at c3
      simp only [h4] at c4
      rw [hraw]
      obtain ⟨Hc, hHc⟩ : ∃ Hc : Int, (if s = 0 then 1 else if s = 12 then 2 else 0) = Hc := ⟨_, rfl⟩
      show Calls _ _ _ w fun e w' => e = .returned (.tuple #[.int .i64 (p : Int), .int .i64 (if s = 0 then 1 else if s = 12 then 2 else 0)]) ∧ ∃ n os, w' = grow (Sort.ahead w n) os
      rw [hHc]
      have HH := Lib.hid hHc
      clear hHc
      have HC := Lib.hid hcell; have HG := Lib.hid hG; have HW0 := Lib.hid hw0
      clear h1 h2 h3 h4 MA MD hI hJ hK m1 m2 m3 hraw hcell hG hw0
      go_enter Try.func98, Try.ntmps98
      go_wp2_with (first
        | (go_at_call_has 113 (Value.int .i64 (I : Int)); rw [HW0.out]; refine c1.mono ?_; rintro e w1 ⟨rfl, g1⟩)
        | (go_at_call_has 113 (Value.int .i64 (J : Int)); refine (c2 _ g1).mono ?_; rintro e w2 ⟨rfl, g2⟩)
        | (go_at_call_has 113 (Value.int .i64 (K : Int)); refine (c3 _ g2).mono ?_; rintro e w3 ⟨rfl, g3⟩)
        | (go_at_call 114; refine (c4 _ g3).mono ?_; rintro e w4 ⟨rfl, g4⟩; have cc := HC.out _ _ g4))
      all_goals
        go_ret2
        refine ⟨?_, HG.out _ _ g4⟩
        first
          | (have e0 : (s : Int) = 0 := of_beq_int (by assumption)
             rw [← HH.out, if_pos (show s = 0 by omega)]; rfl)
          | (have e0 : (s : Int) = 12 := of_beq_int (by assumption)
             rw [← HH.out, if_neg (show ¬ s = 0 by omega), if_pos (show s = 12 by omega)]; rfl)
          | (have e0 : (s : Int) ≠ 0 := of_bne_int (by assumption)
             have e1 : (s : Int) ≠ 12 := of_bne_int (by assumption)
             rw [← HH.out, if_neg (show ¬ s = 0 by omega), if_neg (show ¬ s = 12 by omega)]; rfl)
    · obtain ⟨p, s, h4⟩ : ∃ p s, median ltInt d I J K 0 = (p, s) := ⟨_, _, rfl⟩
      have hraw : rawPivot ltInt d a b = (p, s) := by simp only [rawPivot, if_pos h8, if_neg h50, ← hI, ← hJ, ← hK, h4]
      have c4 := MD I J K 0 w0 (by omega) (by omega) (by omega) (by omega) hC0
      rw [h4] at c4
      rw [hraw]
      obtain ⟨Hc, hHc⟩ : ∃ Hc : Int, (if s = 0 then 1 else if s = 12 then 2 else 0) = Hc := ⟨_, rfl⟩
      show Calls _ _ _ w fun e w' => e = .returned (.tuple #[.int .i64 (p : Int), .int .i64 (if s = 0 then 1 else if s = 12 then 2 else 0)]) ∧ ∃ n os, w' = grow (Sort.ahead w n) os
      rw [hHc]
      have HH := Lib.hid hHc
      clear hHc
      have HC := Lib.hid hcell; have HG := Lib.hid hG; have HW0 := Lib.hid hw0
      clear h4 MA MD hI hJ hK hraw hcell hG hw0
      go_enter Try.func98, Try.ntmps98
      go_wp2_with (go_at_call 114; rw [HW0.out]; refine c4.mono ?_; rintro e w4 ⟨rfl, g4⟩; have cc := HC.out _ _ g4)
      all_goals
        go_ret2
        refine ⟨?_, HG.out _ _ g4⟩
        first
          | (have e0 : (s : Int) = 0 := of_beq_int (by assumption)
             rw [← HH.out, if_pos (show s = 0 by omega)]; rfl)
          | (have e0 : (s : Int) = 12 := of_beq_int (by assumption)
             rw [← HH.out, if_neg (show ¬ s = 0 by omega), if_pos (show s = 12 by omega)]; rfl)
          | (have e0 : (s : Int) ≠ 0 := of_bne_int (by assumption)
             have e1 : (s : Int) ≠ 12 := of_bne_int (by assumption)
             rw [← HH.out, if_neg (show ¬ s = 0 by omega), if_neg (show ¬ s = 12 by omega)]; rfl)
  · have hraw : rawPivot ltInt d a b = (J, 0) := by simp only [rawPivot, if_neg h8, ← hJ]
    rw [hraw]
    have cc := hcell 0 w0 hC0
    have gg := hG 0 w0 hC0
    have HG := Lib.hid gg; have HW0 := Lib.hid hw0
    clear MA MD hI hJ hK hraw hcell hG hw0 gg
    go_enter Try.func98, Try.ntmps98
    go_wp2
    all_goals
      go_ret2
      exact ⟨rfl, by rw [HW0.out]; exact HG.out⟩
end Go.Proofs.Ythffdmncdoogpaa
