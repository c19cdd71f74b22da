/- Which place begins at a byte: the program's search and the document's look agree; whatever number is asked of. And the kind. -/
import Derived.Test.YticghidkbpkefaaDoorRefAsk
import Derived.Test.YticghidkbpkefaaDoorShelf
namespace Go.Proofs.YticghidkbpkefaaDoor
open Go Go.RowKit

def placeOf (O : List Int) (x : Int) : Int := if O.contains x then ((O.countP (· < x) : Nat) : Int) else -1

theorem offsFrom_up (s : ByteArray) : ∀ f pos, (offsFrom s f pos).Pairwise (· < ·) ∧ ∀ x ∈ offsFrom s f pos, (pos : Int) ≤ x ∧ x < s.size
  | 0, _ => by simp [offsFrom]
  | f + 1, pos => by
    by_cases h : pos < s.size
    · rw [offsFrom_step s f pos h]
      obtain ⟨h1, h2⟩ := offsFrom_up s f (pos + (Utf8.decode s pos).2)
      have hw := Lib.decode_width_pos s pos h
      refine ⟨List.pairwise_cons.2 ⟨fun x hx => ?_, h1⟩, fun x hx => ?_⟩
      · have := (h2 x hx).1
        omega
      · rcases List.mem_cons.1 hx with rfl | hx
        · omega
        · have := h2 x hx
          omega
    · rw [offsFrom_end s _ pos h]
      simp
theorem offsOf_up (s : ByteArray) : (offsOf s).Pairwise (· < ·) := by
  obtain ⟨h1, h2⟩ := offsFrom_up s s.size 0
  unfold offsOf
  rw [List.pairwise_append]
  refine ⟨h1, by simp, fun a ha b hb => ?_⟩
  rw [List.mem_singleton.1 hb]
  exact (h2 a ha).2
theorem count_up : ∀ (O : List Int) (i : Nat) (h : i < O.length), O.Pairwise (· < ·) → O.countP (· < O[i]) = i
  | [], i, h, _ => by simp at h
  | a :: O, 0, _, hp => by
    have hp := List.pairwise_cons.1 hp
    rw [List.countP_cons]
    simp only [List.getElem_cons_zero]
    have : O.countP (· < a) = 0 := List.countP_eq_zero.2 fun x hx => by
      have := hp.1 x hx
      simp
      omega
    rw [this]
    simp
  | a :: O, i + 1, h, hp => by
    have hp := List.pairwise_cons.1 hp
    have hi : i < O.length := by simpa using h
    rw [List.countP_cons]
    simp only [List.getElem_cons_succ]
    rw [count_up O i hi hp.2]
    have := hp.1 O[i] (List.getElem_mem hi)
    simp [this]
theorem placeOf_at (O : List Int) (hp : O.Pairwise (· < ·)) (i : Nat) (h : i < O.length) (x : Int) (hx : O[i] = x) : placeOf O x = i := by
  subst hx
  unfold placeOf
  rw [if_pos (by simp), count_up O i h hp]
theorem placeOf_none (O : List Int) (x : Int) (h : ∀ y ∈ O, y ≠ x) : placeOf O x = -1 := by
  unfold placeOf
  rw [if_neg]
  intro hc
  have := List.contains_iff_mem.1 hc
  exact h x this rfl

set_option maxHeartbeats 400000 in
set_option maxRecDepth 100000 in
theorem kind_any {B : Nat} {k : Int} {s : ByteArray} {b : Nat} {w : World} (h : In w B k s b) :
    Calls Tryd.prog 10 #[.pointer (some ⟨b, 0, none⟩)] w fun e w' => e = .returned (.int .i64 k) ∧ w = w' := by
  obtain ⟨_, _, a, c, a', c', h1, _, _⟩ := h
  have h2 := h1.cell 0
  simp at h2
  clear h1
  go_enter Tryd.func10, Tryd.ntmps10
  go_wp2
  go_ret
  exact ⟨rfl, rfl⟩

set_option maxHeartbeats 400000 in
set_option maxRecDepth 100000 in
theorem place_quiet {B : Nat} {k : Int} {s : ByteArray} {b : Nat} {w : World} (h : In w B k s b) (x : Int) :
    Calls Tryd.prog 17 #[.pointer (some ⟨b, 1, none⟩), .int .i64 x] w fun e w' => e = .returned (.int .i64 (placeOf (offsOf s) x)) ∧ ∃ q, w' = w.drewN q := by
  obtain ⟨h0, _, a, c, a', c', h1, _, h3⟩ := h
  have h2 := h1.cell 3
  simp at h2
  have hl := length_runesOf s
  have hl2 := length_offsOf s
  obtain ⟨g, rfl, -, -⟩ := h3 0 (by omega)
  have hc := fun (W : World) (hW : W = w) => Tryd.slices_BinarySearch_int g 0 (offsOf s).length c' (offsOf s) x W (Nat.le_refl _) (by omega) (fun j hj => by
    subst hW
    obtain ⟨g', e, _, hc⟩ := h3 j hj
    injection e with e
    injection e with e
    subst e
    rw [Nat.zero_add, hc]
    simp [List.getD, hj]) (by rw [List.take_length]; exact (offsOf_up s).imp (fun h => Int.le_of_lt h))
  rw [List.take_length] at hc
  have HC := Lib.hid (hc w rfl)
  clear hc h3 h1 hl hl2
  by_cases hm : (offsOf s).contains x = true
  · have e : placeOf (offsOf s) x = (((offsOf s).countP (· < x) : Nat) : Int) := by unfold placeOf; rw [if_pos hm]
    rw [e]
    obtain ⟨q, hq⟩ : ∃ q : Nat, q = (offsOf s).countP (· < x) := ⟨_, rfl⟩
    have HC2 := HC.out
    rw [hm] at HC2
    rw [← hq] at HC2 ⊢
    have HC3 := Lib.hid HC2
    clear hq HC HC2 e hm
    go_enter Tryd.func17, Tryd.ntmps17
    go_wp2_with fail
    refine HC3.out.mono ?_
    rintro e w' ⟨rfl, n, rfl⟩
    go_wp2
    go_ret
    exact ⟨rfl, n, rfl⟩
  · have hm' : (offsOf s).contains x = false := by simpa using hm
    have e : placeOf (offsOf s) x = -1 := by unfold placeOf; rw [if_neg hm]
    rw [e]
    obtain ⟨q, hq⟩ : ∃ q : Nat, q = (offsOf s).countP (· < x) := ⟨_, rfl⟩
    have HC2 := HC.out
    rw [hm'] at HC2
    rw [← hq] at HC2
    have HC3 := Lib.hid HC2
    clear hq HC HC2 e hm hm'
    go_enter Tryd.func17, Tryd.ntmps17
    go_wp2_with fail
    refine HC3.out.mono ?_
    rintro e w' ⟨rfl, n, rfl⟩
    go_wp2
    go_ret
    exact ⟨rfl, n, rfl⟩

theorem place_any {B : Nat} {k : Int} {s : ByteArray} {b : Nat} {w : World} (h : In w B k s b) (x : Int) :
    Calls Tryd.prog 17 #[.pointer (some ⟨b, 1, none⟩), .int .i64 x] w fun e w' => e = .returned (.int .i64 (placeOf (offsOf s) x)) ∧ Below w.heap.size w w' :=
  (place_quiet h x).mono fun _ _ ⟨he, n, hn⟩ => ⟨he, by rw [hn]; exact below_draws w n⟩

set_option maxHeartbeats 400000 in
set_option maxRecDepth 100000 in
theorem rplace_any {B : Nat} {k : Int} {s : ByteArray} {d : Nat} {w : World} (h : RefIn w B k s d) (x : Int) :
    Calls Tryd.prog 18 #[.pointer (some ⟨d, 0, none⟩), .int .i64 x] w fun e w' => e = .returned (.int .i64 (placeOf (offsOf s) x)) ∧ w = w' := by
  obtain ⟨h0, _, g, cg, a, c, a', c', h1, _, _, h3, _⟩ := h
  have h2 := h1.cell 3
  simp at h2
  have hl := length_runesOf s
  have hl2 := length_offsOf s
  obtain ⟨g, rfl, -, -⟩ := h3 0 (by omega)
  have hc : ∀ j (hj : j < (offsOf s).length), w.cell? ⟨g, j, none⟩ = some (.int .i64 (offsOf s)[j]) := fun j hj => by
    obtain ⟨g', e, _, hc⟩ := h3 j hj
    injection e with e
    injection e with e
    subst e
    exact hc
  have HU := Lib.hid (offsOf_up s)
  have HC := Lib.hid hc
  clear hc h3 h1
  obtain ⟨O, hO⟩ : ∃ O, O = offsOf s := ⟨_, rfl⟩
  rw [← hO] at HU HC h2 hl2 ⊢
  have hlen : O.length ≤ 4294967296 := by omega
  clear hO hl hl2
  go_enter Tryd.func18, Tryd.ntmps18
  go_wp2_with fail
  go_loop [5] (fun i => ∃ m : Nat, m ≤ O.length ∧ i = .int .i64 m ∧ Hid (∀ j (hj : j < O.length), j < m → O[j] ≠ x)) (fun i => O.length - (intOf i).toNat)
  case atStart => exact ⟨0, Nat.zero_le _, rfl, fun j hj h => by omega⟩
  case round =>
    obtain ⟨m, hm, rfl, hne⟩ := hrel
    by_cases hlt : m < O.length
    · obtain ⟨y, hy⟩ : ∃ y, y = O[m] := ⟨_, rfl⟩
      have hcell := HC.out m hlt
      rw [← hy] at hcell
      by_cases he : y = x
      · have hb : (y == x) = true := by simp [he]
        have HP := Lib.hid (placeOf_at O HU.out m hlt x (by rw [← hy]; exact he))
        clear hy he
        go_wp2
        go_ret
        exact ⟨ret_int HP.out.symm, rfl⟩
      · have hb : (y == x) = false := by simp [he]
        have HP := Lib.hid hy
        have HE := Lib.hid he
        clear hy he
        go_wp2
        go_round
        case rel =>
          refine ⟨m + 1, by omega, by go_num, fun j hj h => ?_⟩
          by_cases e : j = m
          · subst e
            rw [← HP.out]
            exact HE.out
          · exact hne j hj (by omega)
        case measure => simp [intOf]; omega
    · go_wp2
      go_ret
      refine ⟨ret_int (placeOf_none O x fun y hy => ?_).symm, rfl⟩
      obtain ⟨j, hj, rfl⟩ := List.mem_iff_getElem.1 hy
      exact hne j hj (by omega)
end Go.Proofs.YticghidkbpkefaaDoor
