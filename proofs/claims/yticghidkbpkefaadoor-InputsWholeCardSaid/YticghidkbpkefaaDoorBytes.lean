/- The bytes between two places, as the program hands them out: a list of its own, whatever numbers are asked of. -/
import Derived.Test.YticghidkbpkefaaDoorPlace
import Derived.Test.YticghidkbpkefaaDoorBoth
import Derived.Lib.ConvBytes
import Derived.StillTailTactics
namespace Go.Proofs.YticghidkbpkefaaDoor
open Go Go.RowKit

theorem offs_nat (s : ByteArray) (i : Nat) (h : i < (offsOf s).length) : ∃ u : Nat, (offsOf s)[i] = (u : Int) ∧ u ≤ s.size := by
  have hm : (offsOf s)[i] ∈ offsOf s := List.getElem_mem h
  unfold offsOf at hm
  rcases List.mem_append.1 hm with hm | hm
  · have := (offsFrom_up s s.size 0).2 _ hm
    exact ⟨(offsOf s)[i].toNat, by unfold offsOf; omega, by unfold offsOf; omega⟩
  · have := List.mem_singleton.1 hm
    exact ⟨s.size, this, Nat.le_refl _⟩
theorem offs_le (s : ByteArray) (i j : Nat) (hij : i ≤ j) (h : j < (offsOf s).length) : (offsOf s)[i] ≤ (offsOf s)[j] := by
  rcases Nat.lt_or_ge i j with hlt | hge
  · exact Int.le_of_lt (List.pairwise_iff_getElem.1 (offsOf_up s) i j (by omega) h hlt)
  · obtain rfl : i = j := by omega
    exact Int.le_refl _
/-- The bytes between two places; nothing, if one is none, or they fall. -/
def bytesOf (s : ByteArray) (i j : Int) : ByteArray :=
  if 0 ≤ i ∧ i ≤ j ∧ j < (offsOf s).length then s.extract ((offsOf s).getD i.toNat 0).toNat ((offsOf s).getD j.toNat 0).toNat else ⟨#[]⟩

/-- A block whose first n cells are bytes that may be written. -/
def BlkM (w : World) (g n : Nat) : Prop := ∃ cs fr, w.heap[g]? = some (.cells cs 5 fr) ∧ ∀ i, i < n → w.frozen? ⟨g, i, none⟩ = false ∧ ∃ y, cs[i]? = some (.int .u8 y)
def OwnM (w : World) (B : Nat) (a : Option Addr) (n : Nat) : Prop := n = 0 ∨ ∃ g, a = some ⟨g, 0, none⟩ ∧ B ≤ g ∧ BlkM w g n
theorem BlkM.below {w w' : World} {g n : Nat} (h : BlkM w g n) (hb : Below w.heap.size w w') : BlkM w' g n := by
  obtain ⟨cs, fr, h1, h2⟩ := h
  have hlt := (Array.getElem?_eq_some_iff.1 h1).1
  exact ⟨cs, fr, (hb.block g hlt).trans h1, fun i hi => ⟨(hb.frozen (p := ⟨g, i, none⟩) hlt).trans (h2 i hi).1, (h2 i hi).2⟩⟩
theorem OwnM.below {w w' : World} {B n : Nat} {a : Option Addr} (h : OwnM w B a n) (hb : Below w.heap.size w w') : OwnM w' B a n := by
  rcases h with h | ⟨g, e, hB, h⟩
  · exact .inl h
  · exact .inr ⟨g, e, hB, h.below hb⟩
theorem BlkM.cell {w : World} {g n : Nat} (h : BlkM w g n) (i : Nat) (hi : i < n) : (∃ y, w.cell? ⟨g, i, none⟩ = some (.int .u8 y)) ∧ w.frozen? ⟨g, i, none⟩ = false := by
  obtain ⟨cs, fr, h1, h2⟩ := h
  obtain ⟨hf, y, hy⟩ := h2 i hi
  exact ⟨⟨y, (cell_of_row w g i cs _ fr h1).trans hy⟩, hf⟩
theorem BlkM.store {w : World} {g n : Nat} (h : BlkM w g n) (i : Nat) (z : Int) : BlkM (w.setCell ⟨g, i, none⟩ (.int .u8 z)) g n := by
  obtain ⟨cs, fr, h1, h2⟩ := h
  refine ⟨cs.setIfInBounds i (.int .u8 z), fr, by simp [World.setCell, Array.getElem?_modify, h1], fun j hj => ?_⟩
  obtain ⟨hf, y, hy⟩ := h2 j hj
  refine ⟨(World.frozen?_setCell _ _ _ _).trans hf, ?_⟩
  have hl := (Array.getElem?_eq_some_iff.1 hy).1
  by_cases e : i = j
  · subst e
    exact ⟨z, by simp [hl]⟩
  · exact ⟨y, by simp [e, hy]⟩

/-- A fresh list of the bytes t. -/
def BytesPost (t : ByteArray) (w : World) (e : Ending) (w' : World) : Prop :=
  ∃ a c, e = .returned (.slice a t.size c) ∧ Txt w' a c t ∧ OwnM w' w.heap.size a t.size ∧ Below w.heap.size w w'

theorem nil_post (w : World) : BytesPost ⟨#[]⟩ w (.returned (.slice none 0 0)) w :=
  ⟨none, 0, rfl, ⟨Nat.le_refl _, Nat.zero_le _, fun _ => rfl, .inl rfl⟩, .inl rfl, Below.refl _ _⟩

/-- '[]byte(t)' of a text. -/
theorem list_of (W : World) (t : ByteArray) (ht : t.size ≤ 2147483648) :
    ∃ c W', (convert 9 23 (.string t)).run Tryd.prog W = .ok (.slice (some ⟨W.heap.size, 0, none⟩) t.size c) W' ∧ Below W.heap.size W W' ∧ Txt W' (some ⟨W.heap.size, 0, none⟩) c t ∧ OwnM W' W.heap.size (some ⟨W.heap.size, 0, none⟩) t.size := by
  refine ⟨_, _, Lib.run_convert_string_bytes W 9 23 5 t Tryd.underlying9 Tryd.underlying23 Tryd.underlying5, ?_, ?_, ?_⟩
  · refine ⟨?_, ?_, ?_, by rw [Lib.bytesWorld_size]; omega, fun k hk => Lib.bytesWorld_at_old W _ t k hk⟩
    all_goals
      unfold Lib.bytesWorld World.freeze
      split <;> rfl
  · refine ⟨grownCap_ge _ _ _ _, grownCap_le_maxLen _ _ _ _ (by unfold maxLen; omega), fun e => (by cases e), ?_⟩
    refine .inr ⟨W.heap.size, 0, rfl, fun i hi => ?_⟩
    rw [Nat.zero_add, Lib.bytesWorld_cell W _ t i hi]
    have hd : i < t.data.size := hi
    have : t.data.toList.getD i 0 = t[i] := by
      rw [List.getD_eq_getElem?_getD, Array.getElem?_toList, Array.getElem?_eq_getElem hd]
      rfl
    rw [this]
  · refine .inr ⟨W.heap.size, rfl, Nat.le_refl _, _, _, Lib.bytesWorld_at_new W _ t, fun i hi => ⟨?_, ?_⟩⟩
    · have hs : t.size ≤ (Lib.bytesCells W 5 t).size := by
        simp [Lib.bytesCells]
      simp [World.frozen?, Lib.bytesWorld_at_new]
      omega
    · have h := Lib.bytesWorld_cell W 5 t i hi
      rw [cell_of_row _ _ _ _ _ _ (Lib.bytesWorld_at_new W 5 t)] at h
      exact ⟨_, h⟩

set_option maxHeartbeats 400000 in
set_option maxRecDepth 100000 in
theorem place_no (b : Nat) (w : World) (a : Option Addr) (n c : Nat) (i : Int) (hi : i < 0 ∨ (n : Int) ≤ i) (h3 : w.cell? ⟨b, 3, none⟩ = some (.slice a n c)) :
    Calls Tryd.prog 29 #[.pointer (some ⟨b, 1, none⟩), .int .i64 i] w fun e w' => e = .returned (.bool false) ∧ w = w' := by
  rcases hi with hi | hi
  · go_enter Tryd.func29, Tryd.ntmps29
    go_wp2
    go_ret
    exact ⟨rfl, rfl⟩
  · have h0 : 0 ≤ i := by omega
    have hd : decide (i < (n : Int)) = false := by simpa using hi
    go_enter Tryd.func29, Tryd.ntmps29
    go_wp2
    go_ret
    exact ⟨rfl, rfl⟩

set_option maxHeartbeats 400000 in
set_option maxRecDepth 100000 in
theorem bytes_in (b g : Nat) (s t : ByteArray) (c' n i j u v : Nat) (w : World) (hij : i ≤ j) (hj : j < n) (_hn : n ≤ 9223372036854775807) (huv : u ≤ v) (hv : v ≤ s.size) (hs : s.size ≤ 2147483648) (ht : t = s.extract u v)
    (h1 : w.cell? ⟨b, 1, none⟩ = some (.string s)) (h3 : w.cell? ⟨b, 3, none⟩ = some (.slice (some ⟨g, 0, none⟩) n c')) (hi2 : w.cell? ⟨g, i, none⟩ = some (.int .i64 u)) (hj2 : w.cell? ⟨g, j, none⟩ = some (.int .i64 v)) :
    Calls Tryd.prog 21 #[.pointer (some ⟨b, 1, none⟩), .int .i64 i, .int .i64 j] w (BytesPost t w) := by
  have hsl : t.size ≤ 2147483648 := by rw [ht]; simp; omega
  have HTT := Lib.hid ht; clear ht
  go_enter Tryd.func21, Tryd.ntmps21
  go_wp2_with (first
    | (go_at_call 29; ((with_reducible refine (place_yes b w _ n c' i (by omega) (by omega) h3).mono ?_); rintro e w' ⟨rfl, rfl⟩))
    | (go_at_call 29; ((with_reducible refine (place_yes b w _ n c' j (by omega) (by omega) h3).mono ?_); rintro e w' ⟨rfl, rfl⟩)))
  have b1 : (0 : Int) ≤ i := by omega
  have b2 : (i : Int) < n := by omega
  have b3 : (0 : Int) ≤ j := by omega
  have b4 : (j : Int) < n := by omega
  go_still_tail 19, (by kernel_rfl)
  rw [← HTT.out]
  obtain ⟨c, W', hconv, hB, hT, hO⟩ := list_of w.drew t hsl
  have HB := Lib.hid hB; have HT := Lib.hid hT; have HO := Lib.hid hO
  clear hB hT hO h1 h3 hi2 hj2
  change wpList _ _ _ _ _ w.drew
  go_wp2
  go_ret
  exact ⟨_, _, rfl, HT.out, HO.out, (Below.refl _ w).drew.trans HB.out⟩

set_option maxHeartbeats 400000 in
set_option maxRecDepth 100000 in
theorem bytes_no (b : Nat) (w : World) (a : Option Addr) (n c : Nat) (i j : Int) (h : i < 0 ∨ (n : Int) ≤ i ∨ j < 0 ∨ (n : Int) ≤ j ∨ j < i) (h3 : w.cell? ⟨b, 3, none⟩ = some (.slice a n c)) :
    Calls Tryd.prog 21 #[.pointer (some ⟨b, 1, none⟩), .int .i64 i, .int .i64 j] w (BytesPost ⟨#[]⟩ w) := by
  by_cases hi : i < 0 ∨ (n : Int) ≤ i
  · go_enter Tryd.func21, Tryd.ntmps21
    go_wp2_with (first
      | (go_at_call 29; ((with_reducible refine (place_no b w _ n c i hi h3).mono ?_); rintro e w' ⟨rfl, rfl⟩)))
    go_ret
    exact nil_post w
  · have hi0 : 0 ≤ i := by omega
    have hi1 : i < n := by omega
    by_cases hj : j < 0 ∨ (n : Int) ≤ j
    · clear h hi
      go_enter Tryd.func21, Tryd.ntmps21
      go_wp2_with fail
      refine (place_yes b w _ n c i hi0 hi1 h3).mono ?_
      rintro e w' ⟨rfl, rfl⟩
      go_wp2_with fail
      refine (place_no b w _ n c j hj h3).mono ?_
      rintro e w' ⟨rfl, rfl⟩
      go_wp2
      go_ret
      exact nil_post w
    · have hj0 : 0 ≤ j := by omega
      have hj1 : j < n := by omega
      have hji : j < i := by omega
      clear h hi hj
      go_enter Tryd.func21, Tryd.ntmps21
      go_wp2_with fail
      refine (place_yes b w _ n c i hi0 hi1 h3).mono ?_
      rintro e w' ⟨rfl, rfl⟩
      go_wp2_with fail
      refine (place_yes b w _ n c j hj0 hj1 h3).mono ?_
      rintro e w' ⟨rfl, rfl⟩
      go_wp2
      go_ret
      exact nil_post w

theorem bytes_any {B : Nat} {k : Int} {s : ByteArray} {b : Nat} {w : World} (h : In w B k s b) (i j : Int) :
    Calls Tryd.prog 21 #[.pointer (some ⟨b, 1, none⟩), .int .i64 i, .int .i64 j] w (BytesPost (bytesOf s i j) w) := by
  obtain ⟨h0, _, a, c, a', c', h1, _, h3⟩ := h
  have e1 := h1.cell 1
  have e3 := h1.cell 3
  simp at e1 e3
  have hl := length_runesOf s
  have hl2 := length_offsOf s
  by_cases hp : 0 ≤ i ∧ i ≤ j ∧ j < (offsOf s).length
  · obtain ⟨hp1, hp2, hp3⟩ := hp
    obtain ⟨i, rfl⟩ : ∃ m : Nat, i = m := ⟨i.toNat, by omega⟩
    obtain ⟨j, rfl⟩ : ∃ m : Nat, j = m := ⟨j.toNat, by omega⟩
    have hj : j < (offsOf s).length := by omega
    have hi : i < (offsOf s).length := by omega
    obtain ⟨u, hu, _⟩ := offs_nat s i hi
    obtain ⟨v, hv, hv2⟩ := offs_nat s j hj
    have huv := offs_le s i j (by omega) hj
    rw [hu, hv] at huv
    obtain ⟨g, rfl, _, hc⟩ := h3 i hi
    obtain ⟨g', e, _, hc'⟩ := h3 j hj
    injection e with e
    injection e with e
    subst e
    rw [hu] at hc
    rw [hv] at hc'
    refine bytes_in b g s _ c' (offsOf s).length i j u v w (by omega) hj (by omega) (by omega) hv2 h0 ?_ e1 e3 hc hc'
    unfold bytesOf
    rw [if_pos ⟨by omega, by omega, by omega⟩]
    simp [hi, hj, hu, hv]
  · have e : bytesOf s i j = ⟨#[]⟩ := by unfold bytesOf; rw [if_neg hp]
    rw [e]
    exact bytes_no b w a' _ c' i j (by omega) e3
end Go.Proofs.YticghidkbpkefaaDoor
