/- Texts merged by program: PgPut, PgClass, PgClasses. No condition. -/
import Derived.Test.YthffdmncdoogpaaK10
import Derived.Test.YthffdmncdoogpaaK4
import Derived.Deep.CutBlock
import Derived.Deep.QuietTactic
import Derived.BigQuiet
set_option linter.unusedVariables false
/- The document's put: a rune into a rising list. -/
namespace Go.Proofs.Ythffdmncdoogpaa
open Go Go.RowKit

def RiseN (l : List Int) : Prop := l.Pairwise fun a b => a < b
theorem rns_drop {w : World} {b o n c : Nat} {S : List Int} (h : Rns w (.slice (some ⟨b, o, none⟩) n c) S) (k : Nat) (hk : k ≤ n) : Rns w (.slice (if c = k then some ⟨b, o, none⟩ else some ⟨b, o + k, none⟩) (n - k) (c - k)) (S.drop k) := by
  obtain ⟨a, c', h1, h2, h3, h4, h5, h6⟩ := h
  injection h1 with e1 e2 e3
  subst e1 e2 e3
  have hl : (S.drop k).length = S.length - k := List.length_drop
  refine ⟨_, c - k, by rw [hl], by omega, by omega, fun e => ?_, ?_, fun r hr => h6 r (List.mem_of_mem_drop hr)⟩
  · split at e <;> cases e
  · rcases h5 with h5 | ⟨b', o', e, hc⟩
    · left
      rw [h5]
      simp
    · injection e with e
      injection e with e1 e2
      subst e1 e2
      by_cases hck : c = k
      · left
        exact List.eq_nil_of_length_eq_zero (by omega)
      · refine .inr ⟨b, o + k, by rw [if_neg hck], fun i hi => ?_⟩
        have hi' : k + i < S.length := by omega
        have := hc (k + i) hi'
        rw [List.getElem_drop, show o + k + i = o + (k + i) by omega]
        exact this
/-- What put tells of a rising list. -/
def PutPost (l : List Int) (c : Int) (w : World) (e : Ending) (w' : World) : Prop :=
  ∃ v l', e = .returned v ∧ Rns w' v l' ∧ RiseN l' ∧ (∀ x, x ∈ l' ↔ x ∈ l ∨ (x = c ∧ c ≤ 1114111)) ∧ l'.length ≤ l.length + 1 ∧ Below w.heap.size w w'
theorem put_new {l : List Int} {c : Int} {k : Nat} (hl : RiseN l) (hk : k ≤ l.length) (hhi : ∀ (j : Nat) (h : j < l.length), k ≤ j → c ≤ l[j]) (hlo : ∀ (h : k - 1 < l.length), 0 < k → l[k - 1] < c) (hne : ∀ h : k < l.length, l[k] ≠ c) :
    RiseN (l.take k ++ c :: l.drop k) := by
  have hp := List.pairwise_iff_getElem.1 hl
  have hT : ∀ a ∈ l.take k, a < c := fun a ha => by
    obtain ⟨j, hj, rfl⟩ := List.mem_iff_getElem.1 ha
    rw [List.length_take] at hj
    rw [List.getElem_take]
    have h3 := hlo (by omega) (by omega)
    rcases Nat.lt_or_ge j (k - 1) with h4 | h4
    · exact Int.lt_trans (hp j (k - 1) (by omega) (by omega) h4) h3
    · have : j = k - 1 := by omega
      subst this
      exact h3
  have hD : ∀ b ∈ l.drop k, c < b := fun b hb => by
    obtain ⟨j, hj, rfl⟩ := List.mem_iff_getElem.1 hb
    rw [List.length_drop] at hj
    rw [List.getElem_drop]
    have h1 := hhi (k + j) (by omega) (by omega)
    rcases Nat.eq_zero_or_pos j with h0 | h0
    · subst h0
      have := hne (by omega)
      simp only [Nat.add_zero] at h1 ⊢
      omega
    · have h2 := hhi k (by omega) (Nat.le_refl _)
      have h3 := hp k (k + j) (by omega) (by omega) (by omega)
      omega
  unfold RiseN
  rw [List.pairwise_append]
  exact ⟨hl.sublist (List.take_sublist _ _), List.pairwise_cons.2 ⟨hD, hl.sublist (List.drop_sublist _ _)⟩, fun a ha b hb => by
    rcases List.mem_cons.1 hb with rfl | hb
    · exact hT a ha
    · exact Int.lt_trans (hT a ha) (hD b hb)⟩
theorem put_mem (l : List Int) (c : Int) (k : Nat) (x : Int) : x ∈ l.take k ++ c :: l.drop k ↔ x ∈ l ∨ x = c := by
  rw [List.mem_append, List.mem_cons]
  constructor
  · rintro (h | h | h)
    · exact .inl (List.mem_of_mem_take h)
    · exact .inr h
    · exact .inl (List.mem_of_mem_drop h)
  · rintro (h | h)
    · rw [← List.take_append_drop k l, List.mem_append] at h
      exact h.elim .inl fun h => .inr (.inr h)
    · exact .inr (.inl h)
theorem ownN_ge {W : World} {B : Nat} {v : Value} {l : List Int} (h : OwnN W B v l) {j : Nat} (hj : v.ownBlock = some j) : B ≤ j := by
  rcases h.1.2 with ⟨rfl, _⟩ | ⟨a, cap, cur, rfl, hb, _⟩
  · simp [Value.ownBlock] at hj
  · simp [Value.ownBlock] at hj
    omega
theorem rns_new1 (w : World) (x : Int) (h : I32 x) : Rns (w.alloc (.cells #[.int .i32 x] 21)) (.slice (some ⟨w.heap.size, 0, none⟩) 1 1) [x] := rns_new w x h
set_option maxHeartbeats 1600000 in
set_option maxRecDepth 100000 in
theorem rput_any (v : Value) (l : List Int) (c : Int) (w : World) (h : Rns w v l) (hl : RiseN l) (hlen : l.length ≤ 100000) (hc32 : I32 c) (hne : l ≠ []) :
    Calls Try.prog 31 #[v, .int .i32 c] w (PutPost l c w) := by
  have H0 := Lib.hid h; have HL := Lib.hid hl; have HC32 := Lib.hid hc32
  obtain ⟨A, cp, rfl, h2, h3, h4, h5, h6⟩ := h
  obtain ⟨b, o, rfl, hcell⟩ := h5.resolve_left hne
  have HCELL := Lib.hid hcell
  obtain ⟨n, hn⟩ : ∃ n, l.length = n := ⟨_, rfl⟩
  rw [hn] at H0 h2 hlen ⊢
  have HN := Lib.hid hn
  have hcb : cp ≤ 9223372036854775807 := by unfold maxLen at h3; omega
  clear hl h4 h5 h6 hn hc32 h3 hcell hne
  go_enter Try.func31, Try.ntmps31
  go_upto_block 0 with (fail)
  go_cut [5] from 9 to 22 (fun s5 wx => ∃ k : Nat, k ≤ n ∧ s5 = .int .i64 k ∧ wx = w ∧ (∀ (j : Nat) (h : j < l.length), k ≤ j → c ≤ l[j]) ∧ ∀ h : k - 1 < l.length, 0 < k → l[k - 1] < c)
  case first =>
    go_wp2_with fail
    go_loopw [5] (fun i wr => ∃ k : Nat, k ≤ n ∧ i = .int .i64 k ∧ wr = w ∧ ∀ (j : Nat) (h : j < l.length), k ≤ j → c ≤ l[j]) (fun i _ => (intOf i).toNat)
    case atStart => exact ⟨n, Nat.le_refl _, rfl, rfl, fun j hj hk => by have := HN.out; omega⟩
    case round =>
      obtain ⟨k, hk, rfl, rfl, hall⟩ := hrel
      have HALL := Lib.hid hall
      clear hall
      rcases Nat.eq_zero_or_pos k with rfl | hpos
      · go_wp2_with fail
        go_meet
        exact ⟨0, Nat.zero_le _, rfl, rfl, HALL.out, fun _ h => by omega⟩
      · obtain ⟨q, rfl⟩ : ∃ q, k = q + 1 := ⟨k - 1, by omega⟩
        have hql : q < l.length := by have := HN.out; omega
        have k0 := HCELL.out q hql
        obtain ⟨y, hy⟩ : ∃ y, l[q] = y := ⟨_, rfl⟩
        rw [hy] at k0
        have HY := Lib.hid hy
        have e1 : IntKind.i64.wrap (((q + 1 : Nat) : Int) - 1) = (q : Int) := by
          rw [show ((q + 1 : Nat) : Int) - 1 = (q : Int) by omega]
          exact wrap64_nat q (by omega)
        have e2 : IntKind.i64.wrap ((q : Int) + 1 - 1) = (q : Int) := by
          rw [show (q : Int) + 1 - 1 = (q : Int) by omega]
          exact wrap64_nat q (by omega)
        have e3 : IntKind.i64.wrap (q : Int) = (q : Int) := wrap64_nat q (by omega)
        have hqn : (q : Int) < (n : Int) := by omega
        have hqn2 : q < n := by omega
        clear hy
        by_cases hcy : c ≤ y
        · have d1 : decide (c ≤ y) = true := decide_eq_true hcy
          have HQ := Lib.hid hcy
          clear hcy
          go_wp2_with fail
          go_roundw
          case rel => exact ⟨q, by omega, by go_num, by trivial, fun j hj hqj => by
            rcases Nat.eq_or_lt_of_le hqj with rfl | hlt
            · rw [HY.out]
              exact HQ.out
            · exact HALL.out j hj (by omega)⟩
          case measure => simp [intOf]
        · have d1 : decide (c ≤ y) = false := decide_eq_false hcy
          have HQ := Lib.hid hcy
          clear hcy
          go_wp2_with fail
          go_meet
          exact ⟨q + 1, by omega, rfl, rfl, HALL.out, fun h _ => by
            have h1 := HQ.out
            have h2 := HY.out
            simp only [Nat.add_sub_cancel]
            rw [h2]
            first | exact h1 | exact Int.not_le.1 h1⟩
  case rest =>
    obtain ⟨k, hk, rfl, hwx, hhi, hlo⟩ := hcut
    obtain rfl : w = wc := hwx.symm
    have HHI := Lib.hid hhi; have HLO := Lib.hid hlo
    clear hhi hlo
    by_cases hin : ∃ h : k < l.length, l[k] = c
    · obtain ⟨hkl, hkc⟩ := hin
      have k0 := HCELL.out k hkl
      rw [hkc] at k0
      have hkn : k < n := by have := HN.out; omega
      have d1 : decide (k < n) = true := decide_eq_true hkn
      have hmem : c ∈ l := by rw [← hkc]; exact List.getElem_mem hkl
      have HMEM := Lib.hid hmem
      clear hkl hkc hmem
      go_wp2_with fail
      go_ret
      exact ⟨_, l, rfl, H0.out, HL.out, fun x => ⟨.inl, fun h => h.elim id fun h => by rw [h.1]; exact HMEM.out⟩, by omega, Below.refl _ _⟩
    have HIN := Lib.hid hin
    have hslot : (k < n ∧ ∃ z, z ≠ c ∧ w.cell? ⟨b, o + k, none⟩ = some (.int .i32 z)) ∨ ¬ k < n := by
      rcases Nat.lt_or_ge k n with h | h
      · have hkl : k < l.length := by have := HN.out; omega
        exact .inl ⟨h, l[k], fun e => hin ⟨hkl, e⟩, HCELL.out k hkl⟩
      · exact .inr (by omega)
    clear hin
    by_cases hmx : c ≤ 1114111
    rotate_left
    · have d4 : decide ((1114111 : Int) < c) = true := decide_eq_true (by omega)
      have HMX := Lib.hid hmx
      clear hmx
      rcases hslot with ⟨h, z, hz, k0⟩ | h
      · have d1 : decide (k < n) = true := decide_eq_true h
        have d3 : (z == c) = false := beq_eq_false_iff_ne.2 hz
        clear hz
        go_wp2_with fail
        go_ret
        exact ⟨_, l, rfl, H0.out, HL.out, fun x => ⟨.inl, fun h => h.elim id fun h => absurd h.2 (by have := HMX.out; omega)⟩, by omega, Below.refl _ _⟩
      · have d1 : decide (k < n) = false := decide_eq_false h
        go_wp2_with fail
        go_ret
        exact ⟨_, l, rfl, H0.out, HL.out, fun x => ⟨.inl, fun h => h.elim id fun h => absurd h.2 (by have := HMX.out; omega)⟩, by omega, Below.refl _ _⟩
    have d4 : decide ((1114111 : Int) < c) = false := decide_eq_false (by omega)
    have HMX := Lib.hid hmx
    have hnew := put_new HL.out (by rw [HN.out]; exact hk) HHI.out HLO.out (fun h e => HIN.out ⟨h, e⟩)
    have HNEW := Lib.hid hnew
    have hb1 : Below w.heap.size w (w.alloc (.cells #[] 21)) := (Below.refl _ _).alloc (Nat.le_refl _) _
    have HO1 := Lib.hid (ownN_lit w w.heap.size (Nat.le_refl _) [] 0 #[] rfl rfl (Nat.zero_le _) (by simp))
    have HT1 := Lib.hid (rns_take (H0.out.below hb1) k hk)
    have HB1 := Lib.hid hb1
    have hkz : (k : Int) ≤ (cp : Int) := by omega
    have hkn' : (k : Int) ≤ (n : Int) := by omega
    obtain ⟨AD, hAD⟩ : ∃ AD, (if cp = k then some (⟨b, o, none⟩ : Addr) else some ⟨b, o + k, none⟩) = AD := ⟨_, rfl⟩
    clear hmx hnew hb1
    have HK := Lib.hid hk
    have hrest : (n - k : Nat) = (l.drop k).length := by rw [List.length_drop, HN.out]
    have HREST := Lib.hid hrest
    have HLEN := Lib.hid hlen
    clear hrest
    rcases hslot with ⟨h, z, hz, k0⟩ | h
    · have d1 : decide (k < n) = true := decide_eq_true h
      have d3 : (z == c) = false := beq_eq_false_iff_ne.2 hz
      clear hz hAD
      go_upto_region 6 with (fail)
      go_upto_region 7 with (at_builtin; refine append_rns rfl (.tmp 39) (.tmp 42) rfl w.heap.size _ [] rfl HO1.out (some ⟨b, o, none⟩) k cp (l.take k) rfl HT1.out (by have := HK.out; have := HLEN.out; have := HN.out; simp [List.length_take]; omega) (by simp) ?_; intro v2 w2 ho2 hg2; have HO2 := Lib.hid ho2; have HB2 := Lib.hid (HB1.out.grown hg2 HB1.out.size (fun j e => by cases e; exact Nat.le_refl _)); clear ho2 hg2)
      have hb3 : Below w2.heap.size w2 (w2.alloc (.cells #[.int .i32 c] 21)) := (Below.refl _ _).alloc (Nat.le_refl _) _
      have HO3 := Lib.hid (HO2.out.below hb3); have HB3 := Lib.hid (below_steps HB2.out hb3); have HZ3 := Lib.hid (rns_new1 w2 c HC32.out)
      clear hb3
      go_upto_region 8 with (at_builtin; refine append_rns rfl (.tmp 44) (.tmp 46) rfl w.heap.size v2 ([] ++ l.take k) rfl HO3.out (some ⟨w2.heap.size, 0, none⟩) 1 1 [c] rfl HZ3.out (by have := HK.out; have := HLEN.out; have := HN.out; simp [List.length_take]; omega) HB3.out.size ?_; intro v4 w4 ho4 hg4; have HO4 := Lib.hid ho4; have HB4 := Lib.hid (HB3.out.grown hg4 HB3.out.size (fun j e => ownN_ge HO3.out e)); clear ho4 hg4)
      have HD4 := Lib.hid (rns_drop (H0.out.below HB4.out) k HK.out)
      rw [if_neg (by omega)] at HD4
      go_wp2_with (at_builtin; refine append_rns rfl (.tmp 48) (.tmp 51) rfl w.heap.size v4 ([] ++ l.take k ++ [c]) rfl HO4.out (some ⟨b, o + k, none⟩) (n - k) (cp - k) (l.drop k) rfl HD4.out (by have := HK.out; have := HLEN.out; have := HN.out; simp [List.length_take, List.length_drop]; omega) HB4.out.size ?_; intro v5 w5 ho5 hg5; have HO5 := Lib.hid ho5; have HB5 := Lib.hid (HB4.out.grown hg5 HB4.out.size (fun j e => ownN_ge HO4.out e)); clear ho5 hg5)
      go_ret
      have e5 : [] ++ l.take k ++ [c] ++ l.drop k = l.take k ++ c :: l.drop k := by simp
      have ho := HO5.out
      rw [e5] at ho
      refine ⟨_, _, rfl, ho.rns, HNEW.out, fun x => ?_, ?_, HB5.out⟩
      · rw [put_mem]
        exact ⟨fun h => h.elim .inl fun h => .inr ⟨h, HMX.out⟩, fun h => h.elim .inl fun h => .inr h.1⟩
      · rw [List.length_append, List.length_cons, List.length_take, List.length_drop]
        omega
    · have d1 : decide (k < n) = false := decide_eq_false h
      go_upto_region 6 with (fail)
      go_upto_region 7 with (at_builtin; refine append_rns rfl (.tmp 39) (.tmp 42) rfl w.heap.size _ [] rfl HO1.out (some ⟨b, o, none⟩) k cp (l.take k) rfl HT1.out (by have := HK.out; have := HLEN.out; have := HN.out; simp [List.length_take]; omega) (by simp) ?_; intro v2 w2 ho2 hg2; have HO2 := Lib.hid ho2; have HB2 := Lib.hid (HB1.out.grown hg2 HB1.out.size (fun j e => by cases e; exact Nat.le_refl _)); clear ho2 hg2)
      have hb3 : Below w2.heap.size w2 (w2.alloc (.cells #[.int .i32 c] 21)) := (Below.refl _ _).alloc (Nat.le_refl _) _
      have HO3 := Lib.hid (HO2.out.below hb3); have HB3 := Lib.hid (below_steps HB2.out hb3); have HZ3 := Lib.hid (rns_new1 w2 c HC32.out)
      clear hb3
      go_upto_region 8 with (at_builtin; refine append_rns rfl (.tmp 44) (.tmp 46) rfl w.heap.size v2 ([] ++ l.take k) rfl HO3.out (some ⟨w2.heap.size, 0, none⟩) 1 1 [c] rfl HZ3.out (by have := HK.out; have := HLEN.out; have := HN.out; simp [List.length_take]; omega) HB3.out.size ?_; intro v4 w4 ho4 hg4; have HO4 := Lib.hid ho4; have HB4 := Lib.hid (HB3.out.grown hg4 HB3.out.size (fun j e => ownN_ge HO3.out e)); clear ho4 hg4)
      have HD4 := Lib.hid (rns_drop (H0.out.below HB4.out) k HK.out)
      rw [hAD] at HD4
      go_wp2_with (at_builtin; refine append_rns rfl (.tmp 48) (.tmp 51) rfl w.heap.size v4 ([] ++ l.take k ++ [c]) rfl HO4.out AD (n - k) (cp - k) (l.drop k) rfl HD4.out (by have := HK.out; have := HLEN.out; have := HN.out; simp [List.length_take, List.length_drop]; omega) HB4.out.size ?_; intro v5 w5 ho5 hg5; have HO5 := Lib.hid ho5; have HB5 := Lib.hid (HB4.out.grown hg5 HB4.out.size (fun j e => ownN_ge HO4.out e)); clear ho5 hg5)
      go_ret
      have e5 : [] ++ l.take k ++ [c] ++ l.drop k = l.take k ++ c :: l.drop k := by simp
      have ho := HO5.out
      rw [e5] at ho
      refine ⟨_, _, rfl, ho.rns, HNEW.out, fun x => ?_, ?_, HB5.out⟩
      · rw [put_mem]
        exact ⟨fun h => h.elim .inl fun h => .inr ⟨h, HMX.out⟩, fun h => h.elim .inl fun h => .inr h.1⟩
      · rw [List.length_append, List.length_cons, List.length_take, List.length_drop]
        omega
end Go.Proofs.Ythffdmncdoogpaa
/- Are two lists of runes the same; a rune's number among runes, both sides. -/
namespace Go.Proofs.Ythffdmncdoogpaa
open Go Go.RowKit

set_option maxHeartbeats 1600000 in
set_option maxRecDepth 100000 in
theorem nsame12_any (v u : Value) (l k : List Int) (w : World) (h : Rns w v l) (g : Rns w u k) :
    Calls Try.prog 10 #[v, u] w (Says (l = k) w) := by
  obtain ⟨a, c, rfl, h2, h3, h4, h5, h6⟩ := h
  obtain ⟨a', c', rfl, g2, g3, g4, g5, g6⟩ := g
  have hlen : l.length ≤ 9223372036854775807 := by unfold maxLen at h3; omega
  have hlen' : k.length ≤ 9223372036854775807 := by unfold maxLen at g3; omega
  have H5 := Lib.hid h5; have G5 := Lib.hid g5
  clear h5 h6 h4 h2 h3 g5 g6 g4 g2 g3
  go_enter Try.func10, Try.ntmps10
  by_cases hk : l.length = k.length
  · have HK := Lib.hid hk
    rw [← hk]
    clear hk
    go_wp2
    go_loopw [5] (fun i wr => ∃ m : Nat, m ≤ l.length ∧ i = .int .i64 m ∧ (∃ q, wr = w.drewN q) ∧ l.take m = k.take m) (fun i _ => l.length - (intOf i).toNat)
    case atStart => exact ⟨0, Nat.zero_le _, rfl, ⟨0, rfl⟩, rfl⟩
    case round =>
      obtain ⟨m, hm, rfl, ⟨q, rfl⟩, hR⟩ := hrel
      have HR := Lib.hid hR
      clear hR
      by_cases hlt : m < l.length
      · have hltk : m < k.length := by rw [← HK.out]; exact hlt
        rcases H5.out with h5 | ⟨b, o, rfl, hc⟩
        · rw [h5] at hlt
          simp at hlt
        rcases G5.out with g5 | ⟨b', o', rfl, hc'⟩
        · rw [g5] at hltk
          simp at hltk
        obtain ⟨y1, hy⟩ : ∃ y, l[m] = y := ⟨_, rfl⟩
        obtain ⟨z1, hz⟩ : ∃ y, k[m] = y := ⟨_, rfl⟩
        have c1 := hc m hlt
        have d1 := hc' m hltk
        rw [hy] at c1
        rw [hz] at d1
        have hsp : l.take (m + 1) = l.take m ++ [y1] := by rw [List.take_succ_eq_append_getElem hlt, hy]
        have hsk : k.take (m + 1) = k.take m ++ [z1] := by rw [List.take_succ_eq_append_getElem hltk, hz]
        have hne : y1 ≠ z1 → l ≠ k := fun h e => h (by subst e; rw [← hy, ← hz])
        have HS := Lib.hid hsp; have HT := Lib.hid hsk; have HN := Lib.hid hne
        clear hsp hsk hne hc hc' hy hz hltk
        have hltz : (m : Int) < (l.length : Int) := by omega
        by_cases q1 : y1 = z1
        · subst q1
          go_wp2_with fail
          go_big_quiet (fail)
          go_wp2
          go_roundw
          case rel => exact ⟨m + 1, by omega, by go_num, ⟨_, by first | with_reducible rfl | exact World.drewN_drewN _ _ _⟩, by rw [HS.out, HT.out, HR.out]⟩
          case measure => simp [intOf]; omega
        · go_wp2_with fail
          go_big_quiet (fail)
          go_wp2
          go_ret
          refine ⟨false, rfl, ?_, ⟨_, World.drewN_drewN _ _ _⟩⟩
          have := HN.out (by simp [q1])
          simp [this]
      · have e : l.take m = l := List.take_of_length_le (by omega)
        have e' : k.take m = k := List.take_of_length_le (by rw [← HK.out]; omega)
        have hr := HR.out
        rw [e, e'] at hr
        have HRR := Lib.hid hr
        clear hr e e'
        go_wp2
        go_ret
        exact ⟨true, rfl, by simp [HRR.out], q, rfl⟩
  · have hkz : ((l.length : Int) != (k.length : Int)) = true := by simp; omega
    have hkn : (l.length != k.length) = true := by simp; exact hk
    have hkb : (l.length == k.length) = false := by simp; exact hk
    have hkd : decide (l.length = k.length) = false := decide_eq_false hk
    go_wp2
    go_ret
    exact ⟨false, rfl, by simp; intro e; exact hk (by rw [e]), 0, rfl⟩

/-- A rune's number among any runes. -/
def clsN (l : List Int) (c : Int) : Int := if c < 0 ∨ 1114111 < c then -1 else ((l.filter fun x => decide (x ≤ c)).length : Int) - 1
theorem cls_take (l : List Int) (c : Int) (k : Nat) (h : k < l.length) : ((l.take (k + 1)).filter fun x => decide (x ≤ c)).length = ((l.take k).filter fun x => decide (x ≤ c)).length + (if l[k] ≤ c then 1 else 0) := by
  rw [List.take_succ_eq_append_getElem h, List.filter_append, List.length_append]
  by_cases hc : l[k] ≤ c <;> simp [hc]
theorem cls_le (l : List Int) (c : Int) (k : Nat) : ((l.take k).filter fun x => decide (x ≤ c)).length ≤ k := by
  have h1 := List.length_filter_le (fun x => decide (x ≤ c)) (l.take k)
  rw [List.length_take] at h1
  omega
set_option maxHeartbeats 1600000 in
set_option maxRecDepth 100000 in
theorem rclass12_any (v : Value) (l : List Int) (c : Int) (w : World) (h : Rns w v l) : Calls Try.prog 14 #[v, .int .i32 c] w (fun e w' => e = .returned (.int .i64 (clsN l c)) ∧ Below w.heap.size w w') := by
  obtain ⟨A, cp, rfl, h2, h3, h4, h5, h6⟩ := h
  obtain ⟨n, hn⟩ : ∃ n, l.length = n := ⟨_, rfl⟩
  have hnb : n ≤ 9223372036854775807 := by unfold maxLen at h3; omega
  have H5 := Lib.hid h5; have HN := Lib.hid hn
  obtain ⟨R, hR⟩ : ∃ R, clsN l c = R := ⟨_, rfl⟩
  have HRR := Lib.hid hR
  rw [hn, hR]
  clear h5 h6 h4 h2 h3 hn hR
  go_enter Try.func14, Try.ntmps14
  by_cases q0 : c < 0
  · have d0 : decide (c < 0) = true := decide_eq_true q0
    have HE : Hid (R = -1) := Lib.hid (by rw [← HRR.out]; exact if_pos (.inl q0))
    clear q0
    go_wp2_with fail
    go_ret
    exact ⟨by rw [HE.out]; rfl, Below.refl _ _⟩
  have d0 : decide (c < 0) = false := decide_eq_false q0
  by_cases q1 : 1114111 < c
  · have d1 : decide (1114111 < c) = true := decide_eq_true q1
    have HE : Hid (R = -1) := Lib.hid (by rw [← HRR.out]; exact if_pos (.inr q1))
    clear q0 q1
    go_wp2_with fail
    go_ret
    exact ⟨by rw [HE.out]; rfl, Below.refl _ _⟩
  have d1 : decide (1114111 < c) = false := decide_eq_false q1
  have HE : Hid (R = ((l.filter fun x => decide (x ≤ c)).length : Int) - 1) := Lib.hid (by rw [← HRR.out]; exact if_neg (by omega))
  clear q0 q1
  go_wp2_with fail
  go_loopw [5, 6] (fun m i wr => ∃ (k : Nat) (q : Nat) (z : Int), k ≤ n ∧ i = .int .i64 k ∧ m = .int .i64 z ∧ z = (q : Int) - 1 ∧ q = ((l.take k).filter fun x => decide (x ≤ c)).length ∧ q ≤ k ∧ wr = w) (fun _ i _ => n - (intOf i).toNat)
  case atStart => exact ⟨0, 0, -1, Nat.zero_le _, rfl, rfl, rfl, by simp, Nat.le_refl _, rfl⟩
  case round =>
    obtain ⟨k, q, z, hk, rfl, rfl, hz, hq, hqk, rfl⟩ := hrel
    have HZ := Lib.hid hz; have HQ := Lib.hid hq
    by_cases hkn : k < n
    · have hkl : k < l.length := by rw [HN.out]; exact hkn
      rcases H5.out with h5 | ⟨b, o, rfl, hcell⟩
      · rw [h5] at hkl
        simp at hkl
      have k0 := hcell k hkl
      obtain ⟨y, hy⟩ : ∃ y, l[k] = y := ⟨_, rfl⟩
      have hct := cls_take l c k hkl
      rw [hy] at k0 hct
      rw [← hq] at hct
      have HCT := Lib.hid hct
      have hzb : IntKind.i64.wrap (z + 1) = z + 1 := by
        have h1 : z + 1 = (q : Int) := by omega
        rw [h1]
        exact wrap64_nat q (by omega)
      clear hcell hy hct hq hz
      by_cases hyc : y ≤ c
      · have d2 : decide (y ≤ c) = true := decide_eq_true hyc
        have HK : Hid (((l.take (k + 1)).filter fun x => decide (x ≤ c)).length = q + 1) := Lib.hid (by rw [HCT.out, if_pos hyc])
        clear hyc
        go_wp2_with fail
        go_roundw
        case rel => exact ⟨k + 1, q + 1, z + 1, by omega, by go_num, rfl, by have := HZ.out; omega, by rw [HK.out], by omega, by trivial⟩
        case measure => simp [intOf]; omega
      · have d2 : decide (y ≤ c) = false := decide_eq_false hyc
        have HK : Hid (((l.take (k + 1)).filter fun x => decide (x ≤ c)).length = q) := Lib.hid (by rw [HCT.out, if_neg hyc]; rfl)
        clear hyc
        go_wp2_with fail
        go_roundw
        case rel => exact ⟨k + 1, q, z, by omega, by go_num, rfl, HZ.out, by rw [HK.out], by omega, by trivial⟩
        case measure => simp [intOf]; omega
    · have hfull : l.take k = l := List.take_of_length_le (by rw [HN.out]; omega)
      have HF : Hid (z = R) := Lib.hid (by rw [HE.out, HZ.out, HQ.out, hfull])
      clear hfull hq hz
      go_wp2_with fail
      go_ret
      exact ⟨by rw [← HF.out]; rfl, Below.refl _ _⟩
set_option maxHeartbeats 1600000 in
set_option maxRecDepth 100000 in
theorem pclass12_any (v : Value) (l : List Int) (c : Int) (w : World) (h : Rns w v l) : Calls Try.prog 13 #[v, .int .i32 c] w (fun e w' => e = .returned (.int .i64 (clsN l c)) ∧ Below w.heap.size w w') := by
  obtain ⟨A, cp, rfl, h2, h3, h4, h5, h6⟩ := h
  obtain ⟨n, hn⟩ : ∃ n, l.length = n := ⟨_, rfl⟩
  have hnb : n ≤ 9223372036854775807 := by unfold maxLen at h3; omega
  have H5 := Lib.hid h5; have HN := Lib.hid hn
  obtain ⟨R, hR⟩ : ∃ R, clsN l c = R := ⟨_, rfl⟩
  have HRR := Lib.hid hR
  rw [hn, hR]
  clear h5 h6 h4 h2 h3 hn hR
  go_enter Try.func13, Try.ntmps13
  by_cases q0 : c < 0
  · have d0 : decide (c < 0) = true := decide_eq_true q0
    have HE : Hid (R = -1) := Lib.hid (by rw [← HRR.out]; exact if_pos (.inl q0))
    clear q0
    go_wp2_with fail
    go_ret
    exact ⟨by rw [HE.out]; rfl, Below.refl _ _⟩
  have d0 : decide (c < 0) = false := decide_eq_false q0
  by_cases q1 : 1114111 < c
  · have d1 : decide (1114111 < c) = true := decide_eq_true q1
    have HE : Hid (R = -1) := Lib.hid (by rw [← HRR.out]; exact if_pos (.inr q1))
    clear q0 q1
    go_wp2_with fail
    go_ret
    exact ⟨by rw [HE.out]; rfl, Below.refl _ _⟩
  have d1 : decide (1114111 < c) = false := decide_eq_false q1
  have HE : Hid (R = ((l.filter fun x => decide (x ≤ c)).length : Int) - 1) := Lib.hid (by rw [← HRR.out]; exact if_neg (by omega))
  clear q0 q1
  go_wp2_with fail
  go_loopw [5, 17] (fun m i wr => ∃ (k : Nat) (q : Nat) (z : Int), k ≤ n ∧ i = .int .i64 k ∧ m = .int .i64 z ∧ z = (q : Int) - 1 ∧ q = ((l.take k).filter fun x => decide (x ≤ c)).length ∧ q ≤ k ∧ wr = w) (fun _ i _ => n - (intOf i).toNat)
  case atStart => exact ⟨0, 0, -1, Nat.zero_le _, rfl, rfl, rfl, by simp, Nat.le_refl _, rfl⟩
  case round =>
    obtain ⟨k, q, z, hk, rfl, rfl, hz, hq, hqk, rfl⟩ := hrel
    have HZ := Lib.hid hz; have HQ := Lib.hid hq
    by_cases hkn : k < n
    · have hkl : k < l.length := by rw [HN.out]; exact hkn
      rcases H5.out with h5 | ⟨b, o, rfl, hcell⟩
      · rw [h5] at hkl
        simp at hkl
      have k0 := hcell k hkl
      obtain ⟨y, hy⟩ : ∃ y, l[k] = y := ⟨_, rfl⟩
      have hct := cls_take l c k hkl
      rw [hy] at k0 hct
      rw [← hq] at hct
      have HCT := Lib.hid hct
      have hzb : IntKind.i64.wrap (z + 1) = z + 1 := by
        have h1 : z + 1 = (q : Int) := by omega
        rw [h1]
        exact wrap64_nat q (by omega)
      clear hcell hy hct hq hz
      by_cases hyc : y ≤ c
      · have d2 : decide (y ≤ c) = true := decide_eq_true hyc
        have HK : Hid (((l.take (k + 1)).filter fun x => decide (x ≤ c)).length = q + 1) := Lib.hid (by rw [HCT.out, if_pos hyc])
        clear hyc
        go_wp2_with fail
        go_roundw
        case rel => exact ⟨k + 1, q + 1, z + 1, by omega, by go_num, rfl, by have := HZ.out; omega, by rw [HK.out], by omega, by trivial⟩
        case measure => simp [intOf]; omega
      · have d2 : decide (y ≤ c) = false := decide_eq_false hyc
        have HK : Hid (((l.take (k + 1)).filter fun x => decide (x ≤ c)).length = q) := Lib.hid (by rw [HCT.out, if_neg hyc]; rfl)
        clear hyc
        go_wp2_with fail
        go_roundw
        case rel => exact ⟨k + 1, q, z, by omega, by go_num, rfl, HZ.out, by rw [HK.out], by omega, by trivial⟩
        case measure => simp [intOf]; omega
    · have hfull : l.take k = l := List.take_of_length_le (by rw [HN.out]; omega)
      have HF : Hid (z = R) := Lib.hid (by rw [HE.out, HZ.out, HQ.out, hfull])
      clear hfull hq hz
      go_wp2_with fail
      go_ret
      exact ⟨by rw [← HF.out]; rfl, Below.refl _ _⟩
end Go.Proofs.Ythffdmncdoogpaa
/- The document's Classes. -/
namespace Go.Proofs.Ythffdmncdoogpaa
open Go Go.RowKit

def baseN : List Int := [0, 10, 11, 48, 58, 65, 91, 95, 96, 97, 123]
/-- Where a range begins, or has ended. -/
def EdgeN (r : Int × Int) (x : Int) : Prop := x = r.1 ∨ (x = r.2 + 1 ∧ r.2 + 1 ≤ 1114111)
def ClassM (I : List Ins) (x : Int) : Prop := x ∈ baseN ∨ ∃ X ∈ I, ∃ r ∈ X.set, EdgeN r x
/-- What Classes tells of a right program: a rising list of these. -/
def ClassesPost (p : Pg) (w : World) (e : Ending) (w' : World) : Prop :=
  ∃ v l, e = .returned v ∧ Rns w' v l ∧ (RightPg p → RiseN l ∧ ∀ x, x ∈ l ↔ ClassM p.ins x) ∧ (¬ RightPg p → l = []) ∧ Below w.heap.size w w'
theorem base_rise : RiseN baseN := by unfold RiseN baseN; decide
theorem sound_fit {n : Nat} {caps : Int} {X : Ins} (h : SoundI n caps X) : ∀ r ∈ X.set, Fit r := fun r hr => by
  rcases h with ⟨-, -, -, h, -⟩ | ⟨-, -, -, ⟨-, h⟩, -⟩ | ⟨-, -, -, h, -⟩ | ⟨-, -, -, h, -⟩ | ⟨-, -, -, h, -⟩
  · rw [h] at hr; simp at hr
  · exact right_fit _ 0 (Int.le_refl _) h r hr
  · rw [h] at hr; simp at hr
  · rw [h] at hr; simp at hr
  · rw [h] at hr; simp at hr
theorem rgs_edge {w : World} {A : Option Addr} {n c : Nat} {l : List (Int × Int)} (h : Rgs w (.slice A n c) l) (i : Nat) (hi : i < l.length) :
    ∃ (b o : Nat) (y1 y2 : Int), A = some ⟨b, o, none⟩ ∧ l[i] = (y1, y2) ∧ (y1, y2) ∈ l ∧ w.cell? ⟨b, o + i * 2, none⟩ = some (.int .i32 y1) ∧ w.cell? ⟨b, o + i * 2 + 1, none⟩ = some (.int .i32 y2) ∧ I32 y1 ∧ I32 y2 := by
  obtain ⟨A', c', h1, h2, h3, h4, h5, h6⟩ := h
  injection h1 with e1 e2 e3
  subst e1 e2 e3
  rcases h5 with h5 | ⟨b, o, e, hc⟩
  · rw [h5] at hi
    simp at hi
  · have hm := List.getElem_mem hi
    exact ⟨b, o, _, _, e, rfl, hm, (hc i hi).1, (hc i hi).2, (h6 _ hm).1, (h6 _ hm).2⟩
set_option maxHeartbeats 1600000 in
set_option maxRecDepth 100000 in
theorem rclasses12_any (p : Pg) (v : Value) (w : World) (h : PgV w p v) (hlong : ¬ LongPg p) : Calls Try.prog 12 #[v] w (ClassesPost p w) := by
  have H0 := Lib.hid h
  obtain ⟨A, n, cp, hn, rfl, hI, hs, hc, hnb⟩ := h.opened
  obtain ⟨w1, hw1⟩ : ∃ w1, w.alloc (.cells #[.slice A n cp, .int .i64 p.start, .int .i64 p.caps] 24) = w1 := ⟨_, rfl⟩
  obtain ⟨hb1, e0, e1, e2, hz1⟩ := box3_new w _ _ _ _ hw1
  have HCK := Lib.hid (rcheck_any p _ w1 (H0.out.below hb1))
  have HF : Hid (∀ W, Below w1.heap.size w1 W → W.cell? ⟨w.heap.size, 0, none⟩ = some (.slice A n cp) ∧ W.cell? ⟨w.heap.size, 1, none⟩ = some (.int .i64 p.start) ∧ W.cell? ⟨w.heap.size, 2, none⟩ = some (.int .i64 p.caps)) := Lib.hid fun W hW => ⟨cell_on hW e0, cell_on hW e1, cell_on hW e2⟩
  have HIS := Lib.hid (hI.below hb1)
  have HTOT : Hid (totI p.ins ≤ 2000) := Lib.hid (by unfold LongPg at hlong; omega)
  have HB1 := Lib.hid hb1; have HW1 := Lib.hid hw1; have HN := Lib.hid hn
  clear h hI hs hc hw1 hb1 hz1 hn hlong H0
  go_enter Try.func12, Try.ntmps12
  go_upto_region 1 with (fail)
  rw [HW1.out]
  go_wp2_with fail
  refine HCK.out.mono ?_
  rintro e w3 ⟨r, rfl, hr, hb3⟩
  have HB3 := Lib.hid hb3
  rcases hr with ⟨rfl, hR⟩ | ⟨rfl, hR⟩
  rotate_left
  · have HR := Lib.hid hR
    clear hb3 hR HCK
    go_wp2_with fail
    go_ret
    exact ⟨.slice none 0 0, [], rfl, rns_nil _ _ _ (Nat.zero_le _) (fun _ => rfl), fun h => absurd h HR.out, fun _ => rfl, below_steps HB1.out HB3.out⟩
  have HR := Lib.hid hR
  have hnn : n ≤ 10000 := by rw [← HN.out]; exact hR.2.1
  obtain ⟨C, hC⟩ : ∃ C : Array Value, #[.int .i32 0, .int .i32 10, .int .i32 11, .int .i32 48, .int .i32 58, .int .i32 65, .int .i32 91, .int .i32 95, .int .i32 96, .int .i32 97, .int .i32 123] = C := ⟨_, rfl⟩
  obtain ⟨w4, hw4⟩ : ∃ w4, w3.alloc (.cells C 21) = w4 := ⟨_, rfl⟩
  have hr4 : Rns w4 (.slice (some ⟨w3.heap.size, 0, none⟩) 11 11) baseN := by
    rw [← hw4]
    exact (ownN_lit w3 w3.heap.size (Nat.le_refl _) baseN 11 C (by subst hC; rfl) rfl (by unfold maxLen; omega) (by unfold baseN I32; decide)).rns
  have hb4 : Below w3.heap.size w3 w4 := by rw [← hw4]; exact (Below.refl _ _).alloc (Nat.le_refl _) _
  have HX4 := Lib.hid (below_steps HB3.out hb4); have HR4 := Lib.hid hr4; have HW4 := Lib.hid hw4; have HC := Lib.hid hC
  clear hb3 hR HCK hr4 hw4 hb4 hC
  go_upto_region 4 with (fail)
  rw [HC.out, HW4.out]
  clear e0 e1 e2
  go_wp2_with fail
  go_loopw [3, 4] (fun lv i wr => ∃ (k : Nat) (l : List Int), k ≤ n ∧ i = .int .i64 k ∧ Rns wr lv l ∧ RiseN l ∧ (∀ x, x ∈ l ↔ x ∈ baseN ∨ ∃ X ∈ p.ins.take k, ∃ r ∈ X.set, EdgeN r x) ∧ l.length ≤ 11 + 2 * cntI p.ins k ∧ Below w1.heap.size w1 wr) (fun _ i _ => n - (intOf i).toNat)
  case atStart => exact ⟨0, baseN, Nat.zero_le _, rfl, HR4.out, base_rise, fun x => by simp, by show 11 ≤ _; omega, HX4.out⟩
  case round =>
    obtain ⟨k, l, hk, rfl, hrl, hrise, hmem, hll, hT⟩ := hrel
    have HRL := Lib.hid hrl; have HRI := Lib.hid hrise; have HMEM := Lib.hid hmem; have HLL := Lib.hid hll; have HT := Lib.hid hT
    obtain ⟨e0, e1, e2⟩ := HF.out _ hT
    clear hrl hrise hmem hll hT
    by_cases hkn : k < n
    · have hkl : k < p.ins.length := by rw [HN.out]; exact hkn
      have hkz : (k : Int) < (n : Int) := by omega
      obtain ⟨b, o, X, a2, s, c2, hA, hX, hm, hsl, hat, ⟨-, -, -, q3, -⟩, q5, -, -⟩ := HIS.out.at' k hkl
      have hfit := sound_fit (HR.out.2.2.2.2.2.2 X hm)
      have hnx := cnt_next p.ins k hkl
      have hle := cnt_le p.ins (k + 1)
      have htk : p.ins.take (k + 1) = p.ins.take k ++ [X] := by rw [List.take_succ_eq_append_getElem hkl, hX]
      rw [hX, hsl] at hnx
      have hsb : s ≤ 2000 := by have := HTOT.out; omega
      have hlb : l.length + 2 * s ≤ 11 + 2 * cntI p.ins (k + 1) ∧ l.length + 2 * s ≤ 5000 := by have h1 := HLL.out; have h2 := HTOT.out; omega
      subst hA
      have HFV : Hid (∀ W, Below w1.heap.size w1 W → W.cell? ⟨b, o + k * 5 + 3, none⟩ = some (.slice a2 s c2) ∧ Rgs W (.slice a2 s c2) X.set) := Lib.hid fun W hW => ⟨cell_on hW q3, q5.below hW⟩
      have HSL := Lib.hid hsl; have HFIT := Lib.hid hfit; have HTK := Lib.hid htk; have HLB := Lib.hid hlb
      obtain ⟨Wk, rfl⟩ : ∃ W, W = wr := ⟨_, rfl⟩
      clear hX hm hat q3 q5 hfit hnx hle htk hsl hkl hlb
      go_wp2_with fail
      go_loopw [3, 5] (fun lv j wr2 => ∃ (i : Nat) (l2 : List Int), i ≤ s ∧ j = .int .i64 i ∧ Rns wr2 lv l2 ∧ RiseN l2 ∧ (∀ x, x ∈ l2 ↔ x ∈ l ∨ ∃ r ∈ X.set.take i, EdgeN r x) ∧ l2.length ≤ l.length + 2 * i ∧ Below w1.heap.size w1 wr2) (fun _ j _ => s - (intOf j).toNat)
      case atStart => exact ⟨0, l, Nat.zero_le _, rfl, HRL.out, HRI.out, fun x => by simp, by omega, HT.out⟩
      case round =>
        obtain ⟨i, l2, hi, rfl, hrl2, hrise2, hmem2, hll2, hT2⟩ := hrel
        have HRL2 := Lib.hid hrl2; have HRI2 := Lib.hid hrise2; have HMEM2 := Lib.hid hmem2; have HLL2 := Lib.hid hll2; have HT2 := Lib.hid hT2
        clear e0 e1 e2
        obtain ⟨e0, e1, e2⟩ := HF.out _ hT2
        obtain ⟨f3, hrg⟩ := HFV.out _ hT2
        clear hrise2 hmem2 hll2 hT2
        by_cases his : i < s
        · have hil : i < X.set.length := by rw [HSL.out]; exact his
          have hiz : (i : Int) < (s : Int) := by omega
          have hE := rgs_edge hrg i hil
          obtain ⟨rb, ro, y1, y2, hAr, hy, hym, g1, g2, hi1, hi2⟩ := hE
          have hft := HFIT.out _ hym
          have htk2 : X.set.take (i + 1) = X.set.take i ++ [(y1, y2)] := by rw [List.take_succ_eq_append_getElem hil, hy]
          subst hAr
          have HYS : Hid (∀ W, Below w1.heap.size w1 W → W.cell? ⟨rb, ro + i * 2, none⟩ = some (.int .i32 y1) ∧ W.cell? ⟨rb, ro + i * 2 + 1, none⟩ = some (.int .i32 y2)) := Lib.hid fun W hW => by
            have h1 := (HFV.out W hW).2
            obtain ⟨rb', ro', z1, z2, hA', hz, -, q1, q2, -⟩ := rgs_edge h1 i hil
            injection hA' with hA'
            injection hA' with e1 e2
            rw [hy] at hz
            injection hz with e3 e4
            subst e1 e2 e3 e4
            exact ⟨q1, q2⟩
          have HFT := Lib.hid hft; have HTK2 := Lib.hid htk2
          have hne2 : l2 ≠ [] := by
            intro e
            have h0 := (HMEM2.out 0).2 (.inl ((HMEM.out 0).2 (.inl (by unfold baseN; simp))))
            rw [e] at h0
            simp at h0
          have HPA := Lib.hid (rput_any _ l2 y1 wr hrl2 HRI2.out (by have := HLL2.out; have := HLB.out; omega) hi1 hne2)
          obtain ⟨av, cv, rfl, -⟩ := id hrl2
          have hwy : IntKind.i32.wrap (y2 + 1) = y2 + 1 := by
            have h1 := hft.1
            have h2 := hft.2.1
            have h3 := hft.2.2
            simp only at h1 h2 h3
            unfold IntKind.wrap
            simp [IntKind.bits, IntKind.signed]
            omega
          have HI2 : Hid (I32 (y2 + 1)) := Lib.hid (by
            have h1 := hft.1
            have h2 := hft.2.1
            have h3 := hft.2.2
            simp only at h1 h2 h3
            unfold I32
            omega)
          obtain ⟨m2, hm2⟩ : ∃ m, l2.length = m := ⟨_, rfl⟩
          rw [hm2] at HPA ⊢
          clear hrl2 hrg hil hy hym hft htk2 hi1 hi2 hm2 hne2
          go_wp2_with fail
          refine HPA.out.mono ?_
          rintro e w5 ⟨v5, l3, rfl, hr3, hrise3, hmem3, hll3, hb5⟩
          have HRI3 := Lib.hid hrise3; have HMEM3 := Lib.hid hmem3; have HLL3 := Lib.hid hll3; have HT5 := Lib.hid (below_steps HT2.out hb5)
          have hne3 : l3 ≠ [] := by
            intro e
            have h0 := (hmem3 0).2 (.inl ((HMEM2.out 0).2 (.inl ((HMEM.out 0).2 (.inl (by unfold baseN; simp))))))
            rw [e] at h0
            simp at h0
          have HPB := Lib.hid (rput_any _ l3 (y2 + 1) w5 hr3 hrise3 (by have := HLL2.out; have := HLB.out; omega) HI2.out hne3)
          obtain ⟨av3, cv3, rfl, -⟩ := id hr3
          obtain ⟨m3, hm3⟩ : ∃ m, l3.length = m := ⟨_, rfl⟩
          rw [hm3] at HPB ⊢
          clear hr3 hrise3 hmem3 hll3 hb5 e0 e1 e2 f3 g1 g2 HPA hm3 hne3
          obtain ⟨e0, e1, e2⟩ := HF.out _ HT5.out
          obtain ⟨f3, -⟩ := HFV.out _ HT5.out
          obtain ⟨g1, g2⟩ := HYS.out _ HT5.out
          go_wp2_with fail
          refine HPB.out.mono ?_
          rintro e w6 ⟨v6, l4, rfl, hr4, hrise4, hmem4, hll4, hb6⟩
          have HR6 := Lib.hid hr4; have HRI4 := Lib.hid hrise4; have HMEM4 := Lib.hid hmem4; have HLL4 := Lib.hid hll4; have HT6 := Lib.hid (below_steps HT5.out hb6)
          clear hr4 hrise4 hmem4 hll4 hb6 e0 e1 e2 f3 g1 g2 HPB
          go_wp2_with fail
          go_roundw
          case rel =>
            refine ⟨i + 1, l4, by omega, by go_num, HR6.out, HRI4.out, fun x => ?_, by have := HLL4.out; have := HLL3.out; have := HLL2.out; omega, HT6.out⟩
            rw [HMEM4.out, HMEM3.out, HMEM2.out, HTK2.out]
            have h3 := HFT.out.2.2
            have h2 := HFT.out.2.1
            simp only at h2 h3
            constructor
            · rintro (((h | ⟨r, hr, he⟩) | ⟨h, -⟩) | h)
              · exact .inl h
              · exact .inr ⟨r, List.mem_append_left _ hr, he⟩
              · exact .inr ⟨(y1, y2), by simp, .inl h⟩
              · exact .inr ⟨(y1, y2), by simp, .inr h⟩
            · rintro (h | ⟨r, hr, he⟩)
              · exact .inl (.inl (.inl h))
              · rcases List.mem_append.1 hr with hr | hr
                · exact .inl (.inl (.inr ⟨r, hr, he⟩))
                · have : r = (y1, y2) := by simpa using hr
                  subst this
                  rcases he with he | he
                  · exact .inl (.inr ⟨he, by omega⟩)
                  · exact .inr he
          case measure => simp [intOf]; omega
        · have hfull : X.set.take i = X.set := List.take_of_length_le (by rw [HSL.out]; omega)
          have HMF : Hid (∀ x, x ∈ l2 ↔ x ∈ baseN ∨ ∃ X ∈ p.ins.take (k + 1), ∃ r ∈ X.set, EdgeN r x) := Lib.hid fun x => by
            rw [HMEM2.out, hfull, HMEM.out, HTK.out]
            constructor
            · rintro ((h | ⟨Y, hY, h⟩) | h)
              · exact .inl h
              · exact .inr ⟨Y, List.mem_append_left _ hY, h⟩
              · exact .inr ⟨X, by simp, h⟩
            · rintro (h | ⟨Y, hY, h⟩)
              · exact .inl (.inl h)
              · rcases List.mem_append.1 hY with hY | hY
                · exact .inl (.inr ⟨Y, hY, h⟩)
                · have : Y = X := by simpa using hY
                  subst this
                  exact .inr h
          have HLF : Hid (l2.length ≤ 11 + 2 * cntI p.ins (k + 1)) := Lib.hid (by have := HLL2.out; have := HLB.out; omega)
          clear hrl2 hrg hfull
          go_wp2_with fail
          go_roundw
          case rel => exact ⟨k + 1, l2, by omega, by go_num, HRL2.out, HRI2.out, HMF.out, HLF.out, HT2.out⟩
          case measure => simp [intOf]; omega
    · have hfull : p.ins.take k = p.ins := List.take_of_length_le (by rw [HN.out]; omega)
      have HMF : Hid (∀ x, x ∈ l ↔ ClassM p.ins x) := Lib.hid fun x => by rw [HMEM.out, hfull]; rfl
      clear hfull
      go_wp2_with fail
      go_ret
      exact ⟨_, l, rfl, HRL.out, fun _ => ⟨HRI.out, HMF.out⟩, fun h => absurd HR.out h, below_steps HB1.out HT.out⟩
end Go.Proofs.Ythffdmncdoogpaa
