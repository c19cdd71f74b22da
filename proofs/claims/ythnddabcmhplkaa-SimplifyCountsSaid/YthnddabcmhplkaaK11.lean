/- Texts merged by program: PRow, SmFns. No condition. -/
import Derived.Test.YthnddabcmhplkaaK8
import Derived.Test.YthnddabcmhplkaaK9
import Derived.Test.YthnddabcmhplkaaK10
import Derived.Deep.DeepCutAuto
import Derived.Deep.RegionWith
set_option linter.unusedVariables false
/- Rows of trees that the call makes itself: a tree set in the place of another. No condition. -/
namespace Go.Proofs.Ythnddabcmhplkaa
open Go Go.RowKit

def setsL : List Value → Nat → List Value → List Value
  | xs, _, [] => xs
  | xs, o, u :: us => setsL (xs.set o u) (o + 1) us
theorem setsL_length : ∀ (us : List Value) (xs : List Value) (o : Nat), (setsL xs o us).length = xs.length
  | [], _, _ => rfl
  | u :: us, xs, o => by rw [setsL, setsL_length us, List.length_set]
theorem setsL_append : ∀ (us a R : List Value) (o : Nat), setsL (a ++ R) (a.length + o) us = a ++ setsL R o us
  | [], _, _, _ => rfl
  | u :: us, a, R, o => by
    rw [setsL, setsL, List.set_append_right _ _ (by omega), show a.length + o - a.length = o by omega, show a.length + o + 1 = a.length + (o + 1) by omega, setsL_append us]
theorem setsL_front : ∀ (us a R : List Value), a.length = us.length → setsL (a ++ R) 0 us = us ++ R
  | [], [], _, _ => rfl
  | u :: us, b :: a, R, h => by
    rw [setsL, List.cons_append, List.set_cons_zero]
    have h1 := setsL_append us [u] (a ++ R) 0
    simp only [List.length_cons, List.length_nil, Nat.zero_add, Nat.add_zero, List.cons_append, List.nil_append] at h1
    rw [h1, setsL_front us a R (by simpa using h)]
    rfl
theorem setsL_cells : ∀ (L : List (Array Value)) (i : Nat) (cs : Array Value), AllTen L → cs.size = 10 → i < L.length → setsL (cells10 L) (i * 10) cs.toList = cells10 (L.set i cs)
  | a :: L, 0, cs, hL, hcs, _ => by
    have h1 := (hL a (by simp)).1
    have e : cells10 (a :: L) = a.toList ++ cells10 L := rfl
    rw [e, Nat.zero_mul, setsL_front _ _ _ (by simp [h1, hcs])]
    rfl
  | a :: L, i + 1, cs, hL, hcs, hi => by
    have h1 := (hL a (by simp)).1
    have e : cells10 (a :: L) = a.toList ++ cells10 L := rfl
    rw [e, show (i + 1) * 10 = a.toList.length + i * 10 by simp [h1]; omega, setsL_append, setsL_cells L i cs (fun c hc => hL c (by simp [hc])) hcs (by simpa using hi)]
    rfl
def setsW : World → Nat → Nat → List Value → World
  | w, _, _, [] => w
  | w, g, o, u :: us => setsW (w.setCell ⟨g, o, none⟩ u) g (o + 1) us
theorem setsW_row {base : Nat} {e : TypeId} {size g n cap : Nat} : ∀ (us : List Value) (w : World) (o : Nat) (xs : List Value), w.ownsRow base e size (.slice (some ⟨g, 0, none⟩) n cap) n xs → (setsW w g o us).ownsRow base e size (.slice (some ⟨g, 0, none⟩) n cap) n (setsL xs o us)
  | [], _, _, _, h => h
  | u :: us, w, o, xs, h => setsW_row us _ (o + 1) _ (h.stored o u).1
theorem setsW_block {g : Nat} : ∀ (us : List Value) (w : World) (o k : Nat), k ≠ g → (setsW w g o us).heap[k]? = w.heap[k]?
  | [], _, _, _, _ => rfl
  | u :: us, w, o, k, h => by rw [setsW, setsW_block us _ _ _ h]; exact Below.heap_setCell w _ u k h
theorem setsW_grown {g : Nat} : ∀ (us : List Value) (w : World) (o : Nat), w.grownBy (setsW w g o us) (some g)
  | [], w, _ => World.grownBy.refl w _
  | u :: us, w, o => by
    have h2 := setsW_grown (g := g) us (w.setCell ⟨g, o, none⟩ u) (o + 1)
    exact ⟨h2.os, h2.tape, h2.output, by have := h2.size; rw [show (w.setCell ⟨g, o, none⟩ u).heap.size = w.heap.size by simp [World.setCell]] at this; exact this, fun k hk hn => (setsW_block (u :: us) w o k (by intro e; exact hn (by rw [e])))⟩
/-- A tree set in a row, in the place of another. -/
theorem ownT_set {F : Nat → Prop} {w : World} {B g n cap : Nat} {T : List Tr} {u : Tr} {cs : Array Value} (h : OwnT F w B (.slice (some ⟨g, 0, none⟩) n cap) T) (i : Nat) (hi : i < T.length) (hu : TreF (fun b => Off (.slice (some ⟨g, 0, none⟩) n cap) b ∧ F b) w u (.agg cs)) :
    OwnT F (setsW w g (i * 10) cs.toList) B (.slice (some ⟨g, 0, none⟩) n cap) (T.set i u) := by
  obtain ⟨L, hl, ho, ht⟩ := h
  have hA := allTen hl ht
  obtain ⟨-, hcs, -⟩ := treF_form hu
  have hn : n = T.length := by
    rcases own_slice10 ho with ⟨h, -⟩ | ⟨g', c', h, -⟩
    · cases h
    · injection h
  have hsame : SameOn (fun b => Off (.slice (some ⟨g, 0, none⟩) n cap) b ∧ F b) w (setsW w g (i * 10) cs.toList) := fun b hb _ => setsW_block cs.toList w (i * 10) b (fun e => hb.1 (by rw [e]; rfl))
  have ho2 := setsW_row (size := 10) cs.toList w (i * 10) _ (hn ▸ ho)
  rw [setsL_cells L i cs hA hcs (by omega)] at ho2
  refine ⟨L.set i cs, by simp [hl], by rw [List.length_set, ← hn]; exact hn ▸ ho2, fun j hj hj' => ?_⟩
  by_cases hji : j = i
  · subst hji
    rw [List.getElem_set_self, List.getElem_set_self]
    exact hu.same hsame (fun b h _ => h)
  · rw [List.getElem_set_ne (fun e => hji e.symm), List.getElem_set_ne (fun e => hji e.symm)]
    exact (ht j (by simpa using hj) (by simpa using hj')).same hsame (fun b h _ => h)
/-- A tree of a row, laid open. -/
theorem OwnT.at' {F : Nat → Prop} {w : World} {B g n cap : Nat} {T : List Tr} (h : OwnT F w B (.slice (some ⟨g, 0, none⟩) n cap) T) (k : Nat) (hk : k < T.length) :
    ∃ (tk : Tr) (x1 : Option Addr) (x2 x3 : Nat) (y1 : Option Addr) (y2 y3 : Nat), T[k] = tk ∧
      Kid10 w g (k * 10) (.int .i64 tk.fld.op) (.slice x1 x2 x3) (.int .i32 tk.fld.rune) (.slice y1 y2 y3) (.int .i64 tk.fld.at') (.int .i64 tk.fld.cap) (.string tk.fld.name) (.int .i64 tk.fld.min) (.int .i64 tk.fld.max) (.bool tk.fld.lazy) ∧
      TreF (fun b => Off (.slice (some ⟨g, 0, none⟩) n cap) b ∧ F b) w tk (.agg #[.int .i64 tk.fld.op, .slice x1 x2 x3, .int .i32 tk.fld.rune, .slice y1 y2 y3, .int .i64 tk.fld.at', .int .i64 tk.fld.cap, .string tk.fld.name, .int .i64 tk.fld.min, .int .i64 tk.fld.max, .bool tk.fld.lazy]) := by
  obtain ⟨L, hl, ho, ht⟩ := h
  have hA := allTen hl ht
  have hT := ht k hk (by omega)
  obtain ⟨kv, sv, e, ⟨x1, x2, x3, rfl⟩, ⟨y1, y2, y3, rfl⟩⟩ := hT.ten
  have hn : n = T.length := by
    rcases own_slice10 ho with ⟨h, -⟩ | ⟨g', c', h, -⟩
    · cases h
    · injection h
  have ho' := ho
  rw [← hn] at ho'
  have hc : ∀ j, j < 10 → w.cell? ⟨g, k * 10 + j, none⟩ = L[k][j]? := fun j hj => by
    rw [← cells10_at L hA k (by omega) j hj]
    exact World.ownsRow.cellAt ho' (k * 10 + j) (by omega)
  injection e with e
  rw [e] at hc
  refine ⟨T[k], x1, x2, x3, y1, y2, y3, rfl, ⟨hc 0 (by omega), hc 1 (by omega), hc 2 (by omega), hc 3 (by omega), hc 4 (by omega), hc 5 (by omega), hc 6 (by omega), hc 7 (by omega), hc 8 (by omega), hc 9 (by omega)⟩, ?_⟩
  rw [← e]
  exact hT
theorem OwnT.free {F : Nat → Prop} {w : World} {B g n cap : Nat} {T : List Tr} (h : OwnT F w B (.slice (some ⟨g, 0, none⟩) n cap) T) (j : Nat) : w.frozen? ⟨g, j, none⟩ = false := by
  obtain ⟨L, hl, ho, ht⟩ := h
  rcases ho.2 with ⟨h, -⟩ | ⟨q, c, cur, h, -, hg, -⟩
  · cases h
  · injection h with h
    injection h with h
    injection h with h
    subst h
    exact frozen_of_row w g j cur _ hg
theorem OwnT.len {F : Nat → Prop} {w : World} {B n cap : Nat} {A : Option Addr} {T : List Tr} (h : OwnT F w B (.slice A n cap) T) : n = T.length := by
  obtain ⟨L, hl, ho, ht⟩ := h
  rcases own_slice10 ho with ⟨h, h0⟩ | ⟨g', c', h, -⟩
  · injection h
    omega
  · injection h
end Go.Proofs.Ythnddabcmhplkaa
/- The law's own questions: is there a counted repeat, does nothing stand that does nothing, how many runes. Written by gen10.py. -/
namespace Go.Proofs.Ythnddabcmhplkaa
open Go Go.RowKit

def SmCountedOf (t : Tr) : Prop := PlainT t → ∀ (v : Value) (w : World), Tre w t v → Calls Try.prog 11 #[v] w fun e w' => e = .returned (.bool false) ∧ Below w.heap.size w w'
set_option maxHeartbeats 4000000 in
set_option maxRecDepth 100000 in
theorem smCounted_any (t : Tr) : SmCountedOf t := by
  refine Tr.ind (P := SmCountedOf) (fun t ih hpl v w h => ?_) t
  have HP := Lib.hid ((plainT_iff t).1 hpl)
  clear hpl
  have IH := Lib.hid ih
  obtain ⟨A, n, c, a2, s, c2, hn, hs, rfl, hnb, hsb, hK, hS, hF⟩ := h.opened
  obtain ⟨w1, hw1⟩ : ∃ w1, w.alloc (.cells #[.int .i64 t.fld.op, .slice A n c, .int .i32 t.fld.rune, .slice a2 s c2, .int .i64 t.fld.at', .int .i64 t.fld.cap, .string t.fld.name, .int .i64 t.fld.min, .int .i64 t.fld.max, .bool t.fld.lazy] 27) = w1 := ⟨_, rfl⟩
  have hb1 : Below w.heap.size w w1 := by rw [← hw1]; exact (Below.refl _ _).alloc (Nat.le_refl _) _
  have hE1 : Box10 w1 w.heap.size (.int .i64 t.fld.op) (.slice A n c) (.int .i32 t.fld.rune) (.slice a2 s c2) (.int .i64 t.fld.at') (.int .i64 t.fld.cap) (.string t.fld.name) (.int .i64 t.fld.min) (.int .i64 t.fld.max) (.bool t.fld.lazy) := by rw [← hw1]; exact box10_new w _ _ _ _ _ _ _ _ _ _ _
  have HB1 := Lib.hid hb1; have HE1 := Lib.hid hE1; have HW1 := Lib.hid hw1; have HK := Lib.hid (hK.below hb1); have HN := Lib.hid hn
  obtain ⟨op, hop⟩ : ∃ op, t.fld.op = op := ⟨_, rfl⟩
  have HOP := Lib.hid hop
  have d0 := hE1.1
  rw [hop] at d0
  obtain ⟨-, d1, -⟩ := hE1
  have h10 : (op == 10) = false := beq_eq_false_iff_ne.2 (by rw [← hop]; exact HP.out.1.1)
  clear h ih hb1 hw1 hK hS hn hs hF hop
  go_enter Try.func11, Try.ntmps11
  go_upto_region 1 with (fail)
  rw [HW1.out]

  go_wp2_with fail
  go_loopw [3] (fun i wr => ∃ k : Nat, k ≤ n ∧ i = .int .i64 k ∧ Below w1.heap.size w1 wr) (fun i _ => n - (intOf i).toNat)
  case atStart => exact ⟨0, Nat.zero_le _, rfl, Below.refl _ _⟩
  case round =>
    obtain ⟨k, hk, rfl, hB⟩ := hrel
    have HB := Lib.hid hB
    have hKw := HK.out.below hB
    have HEB := HE1.out.below hB
    obtain ⟨f0, f1, -⟩ := HEB
    rw [HOP.out] at f0
    clear hB
    by_cases hkn : k < n
    · have hkl : k < t.kids.length := by rw [HN.out]; exact hkn
      obtain ⟨b, o, tk, x1, x2, x3, y1, y2, y3, rfl, htk, hm, ⟨c0, c1, c2', c3, c4, c5, c6, c7, c8, c9⟩, hTk⟩ := hKw.kidS k hkl
      have HI := Lib.hid (IH.out tk hm (HP.out.2 tk hm) _ wr hTk)
      clear hKw htk hm hTk hkl
      go_wp2_with fail
      refine HI.out.mono ?_
      rintro e w3 ⟨rfl, hb3⟩
      have HB3 := Lib.hid (below_two HB.out hb3)
      clear hb3 c0 c1 c2' c3 c4 c5 c6 c7 c8 c9 f0 f1
      go_wp2_with fail
      go_roundw
      case rel => exact ⟨k + 1, by omega, by go_num, HB3.out⟩
      case measure => simp [intOf]; omega
    · clear hKw
      go_wp2_with fail
      go_ret
      exact ⟨rfl, below_two HB1.out HB.out⟩

def SmTidyOf (t : Tr) : Prop := PlainT t → ∀ (v : Value) (w : World), Tre w t v → Calls Try.prog 12 #[v] w fun e w' => e = .returned (.bool true) ∧ Below w.heap.size w w'
set_option maxHeartbeats 4000000 in
set_option maxRecDepth 100000 in
theorem smTidy_any (t : Tr) : SmTidyOf t := by
  refine Tr.ind (P := SmTidyOf) (fun t ih hpl v w h => ?_) t
  have HP := Lib.hid ((plainT_iff t).1 hpl)
  clear hpl
  have IH := Lib.hid ih
  obtain ⟨A, n, c, a2, s, c2, hn, hs, rfl, hnb, hsb, hK, hS, hF⟩ := h.opened
  obtain ⟨w1, hw1⟩ : ∃ w1, w.alloc (.cells #[.int .i64 t.fld.op, .slice A n c, .int .i32 t.fld.rune, .slice a2 s c2, .int .i64 t.fld.at', .int .i64 t.fld.cap, .string t.fld.name, .int .i64 t.fld.min, .int .i64 t.fld.max, .bool t.fld.lazy] 27) = w1 := ⟨_, rfl⟩
  have hb1 : Below w.heap.size w w1 := by rw [← hw1]; exact (Below.refl _ _).alloc (Nat.le_refl _) _
  have hE1 : Box10 w1 w.heap.size (.int .i64 t.fld.op) (.slice A n c) (.int .i32 t.fld.rune) (.slice a2 s c2) (.int .i64 t.fld.at') (.int .i64 t.fld.cap) (.string t.fld.name) (.int .i64 t.fld.min) (.int .i64 t.fld.max) (.bool t.fld.lazy) := by rw [← hw1]; exact box10_new w _ _ _ _ _ _ _ _ _ _ _
  have HB1 := Lib.hid hb1; have HE1 := Lib.hid hE1; have HW1 := Lib.hid hw1; have HK := Lib.hid (hK.below hb1); have HN := Lib.hid hn
  obtain ⟨op, hop⟩ : ∃ op, t.fld.op = op := ⟨_, rfl⟩
  have HOP := Lib.hid hop
  have d0 := hE1.1
  rw [hop] at d0
  obtain ⟨-, d1, -⟩ := hE1
  clear h ih hb1 hw1 hK hS hn hs hF hop
  go_enter Try.func12, Try.ntmps12
  go_upto_region 1 with (fail)
  rw [HW1.out]

  go_wp2_with fail
  go_loopw [3] (fun i wr => ∃ k : Nat, k ≤ n ∧ i = .int .i64 k ∧ Below w1.heap.size w1 wr) (fun i _ => n - (intOf i).toNat)
  case atStart => exact ⟨0, Nat.zero_le _, rfl, Below.refl _ _⟩
  case round =>
    obtain ⟨k, hk, rfl, hB⟩ := hrel
    have HB := Lib.hid hB
    have hKw := HK.out.below hB
    have HEB := HE1.out.below hB
    obtain ⟨f0, f1, -⟩ := HEB
    rw [HOP.out] at f0
    clear hB
    by_cases hkn : k < n
    · have hkl : k < t.kids.length := by rw [HN.out]; exact hkn
      obtain ⟨b, o, tk, x1, x2, x3, y1, y2, y3, rfl, htk, hm, ⟨c0, c1, c2', c3, c4, c5, c6, c7, c8, c9⟩, hTk⟩ := hKw.kidS k hkl
      obtain ⟨w2, hw2⟩ : ∃ w2, wr.alloc (.cells #[.int .i64 tk.fld.op, .slice x1 x2 x3, .int .i32 tk.fld.rune, .slice y1 y2 y3, .int .i64 tk.fld.at', .int .i64 tk.fld.cap, .string tk.fld.name, .int .i64 tk.fld.min, .int .i64 tk.fld.max, .bool tk.fld.lazy] 27) = w2 := ⟨_, rfl⟩
      have hb2 : Below wr.heap.size wr w2 := by rw [← hw2]; exact (Below.refl _ _).alloc (Nat.le_refl _) _
      have hE2 : Box10 w2 wr.heap.size (.int .i64 tk.fld.op) (.slice x1 x2 x3) (.int .i32 tk.fld.rune) (.slice y1 y2 y3) (.int .i64 tk.fld.at') (.int .i64 tk.fld.cap) (.string tk.fld.name) (.int .i64 tk.fld.min) (.int .i64 tk.fld.max) (.bool tk.fld.lazy) := by rw [← hw2]; exact box10_new wr _ _ _ _ _ _ _ _ _ _ _
      have HI := Lib.hid (IH.out tk hm (HP.out.2 tk hm) _ w2 (hTk.below hb2))
      have HW2 := Lib.hid hw2; have HB2 := Lib.hid (below_two HB.out hb2)
      have hn1 : tk.fld.op ≠ 1 := HP.out.1.2.1 tk hm
      have hn11 : op = 11 → tk.fld.op ≠ 2 ∧ tk.fld.op ≠ 11 := fun h => (HP.out.1.2.2.2.2.1 (HOP.out.trans h)).2 tk hm
      obtain ⟨e0, e1, e2, e3, e4, e5, e6, e7, e8, e9⟩ := hE2
      have g0 := (hb2.cell (World.block_lt_of_cell? wr _ f0)).trans f0
      have HN1 := Lib.hid hn1; have HN11 := Lib.hid hn11
      clear hKw htk hm hTk hkl hb2 hw2 hn1 hn11
      go_upto_region 5 with (fail)
      rw [HW2.out]
      clear c0 c1 c2' c3 c4 c5 c6 c7 c8 c9 f0 f1
      have q1 : (tk.fld.op == 1) = false := beq_eq_false_iff_ne.2 HN1.out
      by_cases h11 : op = 11
      · subst h11
        have q2 : (tk.fld.op == 2) = false := beq_eq_false_iff_ne.2 (HN11.out rfl).1
        have q11 : (tk.fld.op == 11) = false := beq_eq_false_iff_ne.2 (HN11.out rfl).2
        go_wp2_with fail
        refine HI.out.mono ?_
        rintro e w3 ⟨rfl, hb3⟩
        have HB3 := Lib.hid (below_two HB2.out hb3)
        clear hb3 e0 e1 e2 e3 e4 e5 e6 e7 e8 e9 g0
        go_wp2_with fail
        go_roundw
        case rel => exact ⟨k + 1, by omega, by go_num, HB3.out⟩
        case measure => simp [intOf]; omega
      · have p11 : (op == 11) = false := beq_eq_false_iff_ne.2 h11
        clear h11
        go_wp2_with fail
        refine HI.out.mono ?_
        rintro e w3 ⟨rfl, hb3⟩
        have HB3 := Lib.hid (below_two HB2.out hb3)
        clear hb3 e0 e1 e2 e3 e4 e5 e6 e7 e8 e9 g0
        go_wp2_with fail
        go_roundw
        case rel => exact ⟨k + 1, by omega, by go_num, HB3.out⟩
        case measure => simp [intOf]; omega
    · have z0 : ¬ (k : Int) < (n : Int) := by omega
      clear hKw
      by_cases h11 : op = 11
      · subst h11
        have hn2 : 2 ≤ n := by have := (HP.out.1.2.2.2.2.1 HOP.out).1; rw [HN.out] at this; exact this
        have hn3 : (1 : Int) < (n : Int) := by omega
        go_wp2_with fail
        go_ret
        exact ⟨rfl, below_two HB1.out HB.out⟩
      have p11 : (op == 11) = false := beq_eq_false_iff_ne.2 h11
      have p11' : (op != 11) = true := bne_iff_ne.2 h11
      by_cases h12 : op = 12
      · subst h12
        have hn2 : 2 ≤ n := by have := HP.out.1.2.2.2.2.2 HOP.out; rw [HN.out] at this; exact this
        have hn3 : (1 : Int) < (n : Int) := by omega
        clear h11 p11 p11'
        go_wp2_with fail
        go_ret
        exact ⟨rfl, below_two HB1.out HB.out⟩
      · have p12 : (op == 12) = false := beq_eq_false_iff_ne.2 h12
        have p12' : (op != 12) = true := bne_iff_ne.2 h12
        clear h11 h12
        go_wp2_with fail
        go_ret
        exact ⟨rfl, below_two HB1.out HB.out⟩

def SmRunesOf (t : Tr) : Prop := partsR t ≤ 10000000000 → ∀ (v : Value) (w : World), Tre w t v → Calls Try.prog 13 #[v] w (SaysN (runesN t) w)
theorem runes_take_le (l : List Tr) (k : Nat) : ((l.take k).map runesN).sum ≤ (l.map runesN).sum := by
  conv => rhs; rw [← List.take_append_drop k l, List.map_append, List.sum_append]
  omega
set_option maxHeartbeats 4000000 in
set_option maxRecDepth 100000 in
theorem smRunes_any (t : Tr) : SmRunesOf t := by
  refine Tr.ind (P := SmRunesOf) (fun t ih hp v w h => ?_) t
  have HPT := Lib.hid hp
  have hrp := runesN_parts t
  have hrq := runesN_eq t
  obtain ⟨R, hR⟩ : ∃ R, runesN t = R := ⟨_, rfl⟩
  rw [hR] at hrp hrq ⊢
  have HR := Lib.hid hR; have HRQ := Lib.hid hrq
  have hRb : R ≤ 10000000000 := by omega
  clear hR hrp hrq hp
  have IH := Lib.hid ih
  obtain ⟨A, n, c, a2, s, c2, hn, hs, rfl, hnb, hsb, hK, hS, hF⟩ := h.opened
  obtain ⟨w1, hw1⟩ : ∃ w1, w.alloc (.cells #[.int .i64 t.fld.op, .slice A n c, .int .i32 t.fld.rune, .slice a2 s c2, .int .i64 t.fld.at', .int .i64 t.fld.cap, .string t.fld.name, .int .i64 t.fld.min, .int .i64 t.fld.max, .bool t.fld.lazy] 27) = w1 := ⟨_, rfl⟩
  have hb1 : Below w.heap.size w w1 := by rw [← hw1]; exact (Below.refl _ _).alloc (Nat.le_refl _) _
  have hE1 : Box10 w1 w.heap.size (.int .i64 t.fld.op) (.slice A n c) (.int .i32 t.fld.rune) (.slice a2 s c2) (.int .i64 t.fld.at') (.int .i64 t.fld.cap) (.string t.fld.name) (.int .i64 t.fld.min) (.int .i64 t.fld.max) (.bool t.fld.lazy) := by rw [← hw1]; exact box10_new w _ _ _ _ _ _ _ _ _ _ _
  have HB1 := Lib.hid hb1; have HE1 := Lib.hid hE1; have HW1 := Lib.hid hw1; have HK := Lib.hid (hK.below hb1); have HN := Lib.hid hn
  obtain ⟨op, hop⟩ : ∃ op, t.fld.op = op := ⟨_, rfl⟩
  have HOP := Lib.hid hop
  have d0 := hE1.1
  rw [hop] at d0
  obtain ⟨-, d1, -⟩ := hE1
  clear h ih hb1 hw1 hK hS hn hs hF hop
  go_enter Try.func13, Try.ntmps13
  go_upto_region 1 with (fail)
  rw [HW1.out]

  obtain ⟨z, hz⟩ : ∃ z : Nat, (if op = 3 then 1 else 0) = z := ⟨_, rfl⟩
  have hz1 : z ≤ 1 := by rw [← hz]; split <;> omega
  have HRZ : Hid (R = z + (t.kids.map runesN).sum) := Lib.hid (by rw [HRQ.out, HOP.out, hz])
  have HTK : Hid (∀ k, z + ((t.kids.take k).map runesN).sum ≤ R) := Lib.hid fun k => by rw [HRZ.out]; exact Nat.add_le_add_left (runes_take_le _ _) _
  have hcase : (op = 3 ∧ z = 1) ∨ ((op == 3) = false ∧ z = 0) := by
    by_cases h3 : op = 3
    · exact .inl ⟨h3, by rw [← hz, if_pos h3]⟩
    · exact .inr ⟨beq_eq_false_iff_ne.2 h3, by rw [← hz, if_neg h3]⟩
  clear hz HRQ
  rcases hcase with ⟨rfl, rfl⟩ | ⟨h3, rfl⟩
  · go_wp2_with fail
    go_loopw [3, 4] (fun m i wr => ∃ k D : Nat, k ≤ n ∧ i = .int .i64 k ∧ m = .int .i64 D ∧ D = 1 + ((t.kids.take k).map runesN).sum ∧ Below w1.heap.size w1 wr) (fun _ i _ => n - (intOf i).toNat)
    case atStart => exact ⟨0, 1, Nat.zero_le _, rfl, rfl, by simp, Below.refl _ _⟩
    case round =>
      obtain ⟨k, D, hk, rfl, rfl, hD, hB⟩ := hrel
      have HB := Lib.hid hB; have HD := Lib.hid hD
      have hDb : D ≤ 10000000000 := by rw [hD]; exact Nat.le_trans (HTK.out k) hRb
      have hKw := HK.out.below hB
      have HEB := HE1.out.below hB
      obtain ⟨f0, f1, -⟩ := HEB
      clear hB hD f0
      by_cases hkn : k < n
      · have hkl : k < t.kids.length := by rw [HN.out]; exact hkn
        obtain ⟨b, o, tk, x1, x2, x3, y1, y2, y3, rfl, htk, hm, ⟨c0, c1, c2', c3, c4, c5, c6, c7, c8, c9⟩, hTk⟩ := hKw.kidS k hkl
        have hpk := partsR_kid hm
        have HI := Lib.hid (IH.out tk hm (by have := HPT.out; omega) _ wr hTk)
        have hnx : D + runesN tk = 1 + ((t.kids.take (k + 1)).map runesN).sum := by
          rw [List.take_succ_eq_append_getElem hkl, List.map_append, List.sum_append, htk, HD.out]
          simp only [List.map_cons, List.map_nil, List.sum_cons, List.sum_nil]
          omega
        have hnb2 := HTK.out (k + 1)
        rw [← hnx] at hnb2
        obtain ⟨E, hE⟩ : ∃ E, runesN tk = E := ⟨_, rfl⟩
        rw [hE] at hnx hnb2 HI
        have HNX := Lib.hid hnx
        have hEb : E ≤ 10000000000 := by omega
        clear hKw htk hm hTk hkl hnx hE hpk hnb2
        go_wp2_with fail
        refine HI.out.mono ?_
        rintro e w3 ⟨rfl, hb3⟩
        have HB3 := Lib.hid (below_two HB.out hb3)
        clear hb3 c0 c1 c2' c3 c4 c5 c6 c7 c8 c9 f1
        go_wp2_with fail
        go_roundw
        case rel => exact ⟨k + 1, D + E, by omega, by go_num, by go_num, HNX.out, HB3.out⟩
        case measure => simp [intOf]; omega
      · have hke : t.kids.take k = t.kids := List.take_of_length_le (by rw [HN.out]; omega)
        have hf : D = R := by rw [HD.out, hke, HRZ.out]
        have HF2 := Lib.hid hf
        clear hKw hke hf
        go_wp2_with fail
        go_ret
        exact ⟨by rw [← HF2.out]; rfl, below_two HB1.out HB.out⟩
  · go_wp2_with fail
    go_loopw [3, 4] (fun m i wr => ∃ k D : Nat, k ≤ n ∧ i = .int .i64 k ∧ m = .int .i64 D ∧ D = 0 + ((t.kids.take k).map runesN).sum ∧ Below w1.heap.size w1 wr) (fun _ i _ => n - (intOf i).toNat)
    case atStart => exact ⟨0, 0, Nat.zero_le _, rfl, rfl, by simp, Below.refl _ _⟩
    case round =>
      obtain ⟨k, D, hk, rfl, rfl, hD, hB⟩ := hrel
      have HB := Lib.hid hB; have HD := Lib.hid hD
      have hDb : D ≤ 10000000000 := by rw [hD]; exact Nat.le_trans (HTK.out k) hRb
      have hKw := HK.out.below hB
      have HEB := HE1.out.below hB
      obtain ⟨f0, f1, -⟩ := HEB
      clear hB hD f0
      by_cases hkn : k < n
      · have hkl : k < t.kids.length := by rw [HN.out]; exact hkn
        obtain ⟨b, o, tk, x1, x2, x3, y1, y2, y3, rfl, htk, hm, ⟨c0, c1, c2', c3, c4, c5, c6, c7, c8, c9⟩, hTk⟩ := hKw.kidS k hkl
        have hpk := partsR_kid hm
        have HI := Lib.hid (IH.out tk hm (by have := HPT.out; omega) _ wr hTk)
        have hnx : D + runesN tk = 0 + ((t.kids.take (k + 1)).map runesN).sum := by
          rw [List.take_succ_eq_append_getElem hkl, List.map_append, List.sum_append, htk, HD.out]
          simp only [List.map_cons, List.map_nil, List.sum_cons, List.sum_nil]
          omega
        have hnb2 := HTK.out (k + 1)
        rw [← hnx] at hnb2
        obtain ⟨E, hE⟩ : ∃ E, runesN tk = E := ⟨_, rfl⟩
        rw [hE] at hnx hnb2 HI
        have HNX := Lib.hid hnx
        have hEb : E ≤ 10000000000 := by omega
        clear hKw htk hm hTk hkl hnx hE hpk hnb2
        go_wp2_with fail
        refine HI.out.mono ?_
        rintro e w3 ⟨rfl, hb3⟩
        have HB3 := Lib.hid (below_two HB.out hb3)
        clear hb3 c0 c1 c2' c3 c4 c5 c6 c7 c8 c9 f1
        go_wp2_with fail
        go_roundw
        case rel => exact ⟨k + 1, D + E, by omega, by go_num, by go_num, HNX.out, HB3.out⟩
        case measure => simp [intOf]; omega
      · have hke : t.kids.take k = t.kids := List.take_of_length_le (by rw [HN.out]; omega)
        have hf : D = R := by rw [HD.out, hke, HRZ.out]
        have HF2 := Lib.hid hf
        clear hKw hke hf
        go_wp2_with fail
        go_ret
        exact ⟨by rw [← HF2.out]; rfl, below_two HB1.out HB.out⟩
end Go.Proofs.Ythnddabcmhplkaa
