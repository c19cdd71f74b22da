/- Texts joined by program: PRow PClone PRev. No condition. -/
import Derived.Test.YtaaadimkbhkpiaaJ2
import Derived.Test.YtaaadimkbhkpiaaQ23
import Derived.Test.YtaaadimkbhkpiaaQ30
import Derived.Deep.RegionHeld3
import Derived.Deep.RegionWith
import Derived.Deep.DeepCutAuto
import Derived.Deep.RegionLaw
set_option linter.unusedVariables false
set_option linter.unusedSimpArgs false
/- Rows of trees that the call makes itself: a tree set in the place of another. No condition. -/
namespace Go.Proofs.Ytaaadimkbhkpiaa
open Go Go.RowKit

def setsL : List Value → Nat → List Value → List Value
  | xs, _, [] => xs
  | xs, o, u :: us => setsL (xs.set o u) (o + 1) us
theorem setsL_length : ∀ (us : List Value) (xs : List Value) (o : Nat), (setsL xs o us).length = xs.length
  | [], _, _ => rfl
  | u :: us, xs, o => by rw [setsL, setsL_length us, List.length_set]
theorem setsL_append : ∀ (us a R : List Value) (o : Nat), setsL (a ++ R) (a.length + o) us = a ++ setsL R o us
  | [], _, _, _ => rfl
  | u :: us, a, R, o => by
    rw [setsL, setsL, List.set_append_right _ _ (by omega), show a.length + o - a.length = o by omega, show a.length + o + 1 = a.length + (o + 1) by omega, setsL_append us]
theorem setsL_front : ∀ (us a R : List Value), a.length = us.length → setsL (a ++ R) 0 us = us ++ R
  | [], [], _, _ => rfl
  | u :: us, b :: a, R, h => by
    rw [setsL, List.cons_append, List.set_cons_zero]
    have h1 := setsL_append us [u] (a ++ R) 0
    simp only [List.length_cons, List.length_nil, Nat.zero_add, Nat.add_zero, List.cons_append, List.nil_append] at h1
    rw [h1, setsL_front us a R (by simpa using h)]
    rfl
theorem setsL_cells : ∀ (L : List (Array Value)) (i : Nat) (cs : Array Value), AllTen L → cs.size = 10 → i < L.length → setsL (cells10 L) (i * 10) cs.toList = cells10 (L.set i cs)
  | a :: L, 0, cs, hL, hcs, _ => by
    have h1 := (hL a (by simp)).1
    have e : cells10 (a :: L) = a.toList ++ cells10 L := rfl
    rw [e, Nat.zero_mul, setsL_front _ _ _ (by simp [h1, hcs])]
    rfl
  | a :: L, i + 1, cs, hL, hcs, hi => by
    have h1 := (hL a (by simp)).1
    have e : cells10 (a :: L) = a.toList ++ cells10 L := rfl
    rw [e, show (i + 1) * 10 = a.toList.length + i * 10 by simp [h1]; omega, setsL_append, setsL_cells L i cs (fun c hc => hL c (by simp [hc])) hcs (by simpa using hi)]
    rfl
def setsW : World → Nat → Nat → List Value → World
  | w, _, _, [] => w
  | w, g, o, u :: us => setsW (w.setCell ⟨g, o, none⟩ u) g (o + 1) us
theorem setsW_row {base : Nat} {e : TypeId} {size g n cap : Nat} : ∀ (us : List Value) (w : World) (o : Nat) (xs : List Value), w.ownsRow base e size (.slice (some ⟨g, 0, none⟩) n cap) n xs → (setsW w g o us).ownsRow base e size (.slice (some ⟨g, 0, none⟩) n cap) n (setsL xs o us)
  | [], _, _, _, h => h
  | u :: us, w, o, xs, h => setsW_row us _ (o + 1) _ (h.stored o u).1
theorem setsW_block {g : Nat} : ∀ (us : List Value) (w : World) (o k : Nat), k ≠ g → (setsW w g o us).heap[k]? = w.heap[k]?
  | [], _, _, _, _ => rfl
  | u :: us, w, o, k, h => by rw [setsW, setsW_block us _ _ _ h]; exact Below.heap_setCell w _ u k h
theorem setsW_grown {g : Nat} : ∀ (us : List Value) (w : World) (o : Nat), w.grownBy (setsW w g o us) (some g)
  | [], w, _ => World.grownBy.refl w _
  | u :: us, w, o => by
    have h2 := setsW_grown (g := g) us (w.setCell ⟨g, o, none⟩ u) (o + 1)
    exact ⟨h2.os, h2.tape, h2.output, by have := h2.size; rw [show (w.setCell ⟨g, o, none⟩ u).heap.size = w.heap.size by simp [World.setCell]] at this; exact this, fun k hk hn => (setsW_block (u :: us) w o k (by intro e; exact hn (by rw [e])))⟩
/-- A tree set in a row, in the place of another. -/
theorem ownT_set {F : Nat → Prop} {w : World} {B g n cap : Nat} {T : List Tr} {u : Tr} {cs : Array Value} (h : OwnT F w B (.slice (some ⟨g, 0, none⟩) n cap) T) (i : Nat) (hi : i < T.length) (hu : TreF (fun b => Off (.slice (some ⟨g, 0, none⟩) n cap) b ∧ F b) w u (.agg cs)) :
    OwnT F (setsW w g (i * 10) cs.toList) B (.slice (some ⟨g, 0, none⟩) n cap) (T.set i u) := by
  obtain ⟨L, hl, ho, ht⟩ := h
  have hA := allTen hl ht
  obtain ⟨-, hcs, -⟩ := treF_form hu
  have hn : n = T.length := by
    rcases own_slice10 ho with ⟨h, -⟩ | ⟨g', c', h, -⟩
    · cases h
    · injection h
  have hsame : SameOn (fun b => Off (.slice (some ⟨g, 0, none⟩) n cap) b ∧ F b) w (setsW w g (i * 10) cs.toList) := fun b hb _ => setsW_block cs.toList w (i * 10) b (fun e => hb.1 (by rw [e]; rfl))
  have ho2 := setsW_row (size := 10) cs.toList w (i * 10) _ (hn ▸ ho)
  rw [setsL_cells L i cs hA hcs (by omega)] at ho2
  refine ⟨L.set i cs, by simp [hl], by rw [List.length_set, ← hn]; exact hn ▸ ho2, fun j hj hj' => ?_⟩
  by_cases hji : j = i
  · subst hji
    rw [List.getElem_set_self, List.getElem_set_self]
    exact hu.same hsame (fun b h _ => h)
  · rw [List.getElem_set_ne (fun e => hji e.symm), List.getElem_set_ne (fun e => hji e.symm)]
    exact (ht j (by simpa using hj) (by simpa using hj')).same hsame (fun b h _ => h)
/-- A tree of a row, laid open. -/
theorem OwnT.at' {F : Nat → Prop} {w : World} {B g n cap : Nat} {T : List Tr} (h : OwnT F w B (.slice (some ⟨g, 0, none⟩) n cap) T) (k : Nat) (hk : k < T.length) :
    ∃ (tk : Tr) (x1 : Option Addr) (x2 x3 : Nat) (y1 : Option Addr) (y2 y3 : Nat), T[k] = tk ∧
      Kid10 w g (k * 10) (.int .i64 tk.fld.op) (.slice x1 x2 x3) (.int .i32 tk.fld.rune) (.slice y1 y2 y3) (.int .i64 tk.fld.at') (.int .i64 tk.fld.cap) (.string tk.fld.name) (.int .i64 tk.fld.min) (.int .i64 tk.fld.max) (.bool tk.fld.lazy) ∧
      TreF (fun b => Off (.slice (some ⟨g, 0, none⟩) n cap) b ∧ F b) w tk (.agg #[.int .i64 tk.fld.op, .slice x1 x2 x3, .int .i32 tk.fld.rune, .slice y1 y2 y3, .int .i64 tk.fld.at', .int .i64 tk.fld.cap, .string tk.fld.name, .int .i64 tk.fld.min, .int .i64 tk.fld.max, .bool tk.fld.lazy]) := by
  obtain ⟨L, hl, ho, ht⟩ := h
  have hA := allTen hl ht
  have hT := ht k hk (by omega)
  obtain ⟨kv, sv, e, ⟨x1, x2, x3, rfl⟩, ⟨y1, y2, y3, rfl⟩⟩ := hT.ten
  have hn : n = T.length := by
    rcases own_slice10 ho with ⟨h, -⟩ | ⟨g', c', h, -⟩
    · cases h
    · injection h
  have ho' := ho
  rw [← hn] at ho'
  have hc : ∀ j, j < 10 → w.cell? ⟨g, k * 10 + j, none⟩ = L[k][j]? := fun j hj => by
    rw [← cells10_at L hA k (by omega) j hj]
    exact World.ownsRow.cellAt ho' (k * 10 + j) (by omega)
  injection e with e
  rw [e] at hc
  refine ⟨T[k], x1, x2, x3, y1, y2, y3, rfl, ⟨hc 0 (by omega), hc 1 (by omega), hc 2 (by omega), hc 3 (by omega), hc 4 (by omega), hc 5 (by omega), hc 6 (by omega), hc 7 (by omega), hc 8 (by omega), hc 9 (by omega)⟩, ?_⟩
  rw [← e]
  exact hT
theorem OwnT.free {F : Nat → Prop} {w : World} {B g n cap : Nat} {T : List Tr} (h : OwnT F w B (.slice (some ⟨g, 0, none⟩) n cap) T) (j : Nat) : w.frozen? ⟨g, j, none⟩ = false := by
  obtain ⟨L, hl, ho, ht⟩ := h
  rcases ho.2 with ⟨h, -⟩ | ⟨q, c, cur, h, -, hg, -⟩
  · cases h
  · injection h with h
    injection h with h
    injection h with h
    subst h
    exact frozen_of_row w g j cur _ hg
theorem OwnT.len {F : Nat → Prop} {w : World} {B n cap : Nat} {A : Option Addr} {T : List Tr} (h : OwnT F w B (.slice A n cap) T) : n = T.length := by
  obtain ⟨L, hl, ho, ht⟩ := h
  rcases own_slice10 ho with ⟨h, h0⟩ | ⟨g', c', h, -⟩
  · injection h
    omega
  · injection h
end Go.Proofs.Ytaaadimkbhkpiaa

/- The library's Clone of ranges and of trees: a row of the call's own, that holds the same. -/
namespace Go.Proofs.Ytaaadimkbhkpiaa
open Go Go.RowKit

def CloneR (l : List (Int × Int)) (w : World) (e : Ending) (w' : World) : Prop := ∃ v, e = .returned v ∧ OwnR w' w.heap.size v l ∧ Below w.heap.size w w'
def CloneT (F : Nat → Prop) (T : List Tr) (w : World) (e : Ending) (w' : World) : Prop := ∃ v, e = .returned v ∧ OwnT F w' w.heap.size v T ∧ Below w.heap.size w w'

set_option maxHeartbeats 1600000 in
set_option maxRecDepth 100000 in
theorem cloneR_any (v : Value) (l : List (Int × Int)) (w : World) (h : Rgs w v l) (hlen : l.length ≤ 17592186044416) : Calls Try.prog 82 #[v] w (CloneR l w) := by
  have H0 := Lib.hid h
  obtain ⟨A, c, rfl, h2, h3, h4, h5, h6⟩ := h
  rcases A with _ | ad
  · have hc := h4 rfl
    have hl : l = [] := List.eq_nil_of_length_eq_zero (by omega)
    subst hl hc
    have he : ∀ w : World, (binOp .eql 24 (.slice none 0 0) (.slice none 0 0)).run Try.prog w = .ok (.bool true) w := fun _ => rfl
    clear h5 h6 h4 H0
    go_enter Try.func82, Try.ntmps82
    go_wp2_with fail
    go_ret
    exact ⟨_, rfl, own_none _ _, Below.refl _ _⟩
  · obtain ⟨n, hn⟩ : ∃ n, l.length = n := ⟨_, rfl⟩
    rw [hn] at H0 hlen ⊢
    have he : ∀ w : World, (binOp .eql 24 (.slice (some ad) n c) (.slice none 0 0)).run Try.prog w = .ok (.bool false) w := fun _ => rfl
    have HN := Lib.hid hn
    clear h5 h6 h4 h2 hn
    have HO1 := Lib.hid (show OwnR (w.alloc (.cells #[] 114)) w.heap.size (.slice (some ⟨w.heap.size, 0, none⟩) 0 0) [] from ⟨World.ownsRow_lit w #[] 0 (Nat.le_refl _) (Nat.zero_le _) rfl, by simp [AllI32]⟩)
    have hb1 : Below w.heap.size w (w.alloc (.cells #[] 114)) := (Below.refl _ _).alloc (Nat.le_refl _) _
    have HB1 := Lib.hid hb1; have HR1 := Lib.hid (H0.out.below hb1)
    clear hb1
    go_enter Try.func82, Try.ntmps82
    go_wp2_with (at_builtin; refine append_rgs rfl (.tmp 5) (.tmp 6) rfl w.heap.size _ [] rfl HO1.out (some ad) n c l rfl HR1.out (by have := HN.out; simp; omega) (by simp) ?_; intro v2 w2 ho2 hg2; have HO2 := Lib.hid ho2; have HG2 := Lib.hid hg2; clear ho2 hg2)
    go_ret
    exact ⟨v2, rfl, HO2.out, HB1.out.grown HG2.out HB1.out.size (fun j e => by cases e; exact Nat.le_refl _)⟩

set_option maxHeartbeats 1600000 in
set_option maxRecDepth 100000 in
theorem cloneT_any (F : Nat → Prop) (v : Value) (ks : List Tr) (w : World) (hF : ∀ b, F b → b < w.heap.size) (h : KdsE F w ks v) : Calls Try.prog 83 #[v] w (CloneT F ks w) := by
  have H0 := Lib.hid h
  obtain ⟨A, c, rfl, h2, h3, hlen, h4, h5⟩ := h
  rcases A with _ | ad
  · have hc := h4 rfl
    have hl : ks = [] := List.eq_nil_of_length_eq_zero (by omega)
    subst hl hc
    have he : ∀ w : World, (binOp .eql 23 (.slice none 0 0) (.slice none 0 0)).run Try.prog w = .ok (.bool true) w := fun _ => rfl
    clear h5 h4 H0
    go_enter Try.func83, Try.ntmps83
    go_wp2_with fail
    go_ret
    exact ⟨_, rfl, ownT_none _ _ _, Below.refl _ _⟩
  · obtain ⟨n, hn⟩ : ∃ n, ks.length = n := ⟨_, rfl⟩
    rw [hn] at H0 hlen ⊢
    have he : ∀ w : World, (binOp .eql 23 (.slice (some ad) n c) (.slice none 0 0)).run Try.prog w = .ok (.bool false) w := fun _ => rfl
    have HN := Lib.hid hn
    clear h5 h4 h2 hn
    have HO1 := Lib.hid (show OwnT F (w.alloc (.cells #[] 27)) w.heap.size (.slice (some ⟨w.heap.size, 0, none⟩) 0 0) [] from ⟨[], rfl, World.ownsRow_lit w #[] 0 (Nat.le_refl _) (Nat.zero_le _) rfl, fun i h => by simp at h⟩)
    have hb1 : Below w.heap.size w (w.alloc (.cells #[] 27)) := (Below.refl _ _).alloc (Nat.le_refl _) _
    have hR1 : KdsE (fun b => Off (.slice (some ⟨w.heap.size, 0, none⟩) 0 0) b ∧ F b) (w.alloc (.cells #[] 27)) ks (.slice (some ad) n c) := by
      obtain ⟨A', c', k1, k2, k3, k4, k5, k6⟩ := H0.out
      refine ⟨A', c', k1, k2, k3, k4, k5, k6.imp id ?_⟩
      rintro ⟨b, o, e, hc⟩
      refine ⟨b, o, e, fun i hi => ?_⟩
      obtain ⟨cs, q1, q2⟩ := hc i hi
      exact ⟨cs, q1.below hb1, q2.same (same_below hb1) fun b hb _ => ⟨fun e => by have := hF b hb; have e : w.heap.size = b := Option.some.inj e; omega, hb⟩⟩
    have HB1 := Lib.hid hb1; have HR1 := Lib.hid hR1
    clear hb1 hR1
    go_enter Try.func83, Try.ntmps83
    go_wp2_with (at_builtin; refine append_trs rfl (.tmp 5) (.tmp 6) rfl F w.heap.size _ [] rfl HO1.out (some ad) n c ks rfl HR1.out (by have := HN.out; simp; omega) (by simp) ?_; intro v2 w2 ho2 hg2 _; have HO2 := Lib.hid ho2; have HG2 := Lib.hid hg2; clear ho2 hg2)
    go_ret
    exact ⟨v2, rfl, HO2.out, HB1.out.grown HG2.out HB1.out.size (fun j e => by cases e; exact Nat.le_refl _)⟩

set_option maxHeartbeats 1600000 in
theorem pturnedAt_any (x : Int) (w : World) : Calls Try.prog 81 #[.int .i64 x] w fun e w' => e = .returned (.int .i64 (swapAt x)) ∧ w' = w := by
  obtain ⟨y, hy⟩ : ∃ y, swapAt x = y := ⟨_, rfl⟩
  have HY := Lib.hid hy
  rw [hy]
  clear hy
  go_enter Try.func81, Try.ntmps81
  by_cases q1 : x = 1
  · subst q1
    obtain rfl : y = 2 := HY.out.symm
    go_wp2
    go_ret
    exact ⟨rfl, rfl⟩
  by_cases q2 : x = 2
  · subst q2
    obtain rfl : y = 1 := HY.out.symm
    go_wp2
    go_ret
    exact ⟨rfl, rfl⟩
  by_cases q4 : x = 4
  · subst q4
    obtain rfl : y = 8 := HY.out.symm
    go_wp2
    go_ret
    exact ⟨rfl, rfl⟩
  by_cases q8 : x = 8
  · subst q8
    obtain rfl : y = 4 := HY.out.symm
    go_wp2
    go_ret
    exact ⟨rfl, rfl⟩
  have hxy : y = x := by rw [← HY.out]; unfold swapAt; rw [if_neg q1, if_neg q2, if_neg q4, if_neg q8]
  subst hxy
  have e1 : (y == 1) = false := beq_eq_false_iff_ne.2 q1
  have e2 : (y == 2) = false := beq_eq_false_iff_ne.2 q2
  have e4 : (y == 4) = false := beq_eq_false_iff_ne.2 q4
  have e8 : (y == 8) = false := beq_eq_false_iff_ne.2 q8
  clear q1 q2 q4 q8
  go_wp2
  go_ret
  exact ⟨rfl, rfl⟩
end Go.Proofs.Ytaaadimkbhkpiaa

/- The library's Reverse of a row of trees of the call's own. -/
namespace Go.Proofs.Ytaaadimkbhkpiaa
open Go Go.RowKit

def set10o (w : World) (g o : Nat) (x0 x1 x2 x3 x4 x5 x6 x7 x8 x9 : Value) : World := (((((((((w.setCell ⟨g, o, none⟩ x0).setCell ⟨g, o + 1, none⟩ x1).setCell ⟨g, o + 2, none⟩ x2).setCell ⟨g, o + 3, none⟩ x3).setCell ⟨g, o + 4, none⟩ x4).setCell ⟨g, o + 5, none⟩ x5).setCell ⟨g, o + 6, none⟩ x6).setCell ⟨g, o + 7, none⟩ x7).setCell ⟨g, o + 8, none⟩ x8).setCell ⟨g, o + 9, none⟩ x9
theorem set10o_eq (w : World) (g o : Nat) (x0 x1 x2 x3 x4 x5 x6 x7 x8 x9 : Value) : set10o w g o x0 x1 x2 x3 x4 x5 x6 x7 x8 x9 = setsW w g o (#[x0, x1, x2, x3, x4, x5, x6, x7, x8, x9] : Array Value).toList := rfl
def RevPost (F : Nat → Prop) (B : Nat) (v : Value) (T : List Tr) (w : World) (e : Ending) (w' : World) : Prop := (∃ x, e = .returned x) ∧ OwnT F w' B v T.reverse ∧ w.grownBy w' v.ownBlock

set_option maxHeartbeats 4000000 in
set_option maxRecDepth 100000 in
theorem prev_any (F : Nat → Prop) (B : Nat) (v : Value) (T : List Tr) (w : World) (h : OwnT F w B v T) (hlen : T.length ≤ 1172812402961) : Calls Try.prog 84 #[v] w (RevPost F B v T w) := by
  have H0 := Lib.hid h
  have hsl : (v = .slice none 0 0 ∧ T = []) ∨ ∃ g cap, v = .slice (some ⟨g, 0, none⟩) T.length cap := by
    obtain ⟨L, hl, ho, ht⟩ := h
    rcases own_slice10 ho with ⟨h, h0⟩ | ⟨g', c', h, -⟩
    · exact .inl ⟨h, List.eq_nil_of_length_eq_zero h0⟩
    · exact .inr ⟨g', c', h⟩
  rcases hsl with ⟨rfl, rfl⟩ | ⟨g, cap, rfl⟩
  · clear h
    go_enter Try.func84, Try.ntmps84
    go_wp2_with fail
    go_loopw [2, 3] (fun i j wr => i = .int .i64 0 ∧ j = .int .i64 (-1) ∧ wr = w) (fun _ _ _ => 0)
    case atStart => exact ⟨rfl, rfl, rfl⟩
    case round =>
      obtain ⟨rfl, rfl, rfl⟩ := hrel
      go_wp2_with fail
      go_end0
      exact ⟨⟨_, rfl⟩, by simpa using H0.out, World.grownBy.refl _ _⟩
  · obtain ⟨n, hn⟩ : ∃ n, T.length = n := ⟨_, rfl⟩
    rw [hn] at H0 hlen ⊢
    have HN := Lib.hid hn
    clear h hn
    go_enter Try.func84, Try.ntmps84
    have hwn : IntKind.i64.wrap ((n : Int) - 1) = (n : Int) - 1 := by
      unfold IntKind.wrap
      simp [IntKind.bits, IntKind.signed]
      omega
    go_wp2_with fail
    go_loopw [2, 3] (fun i j wr => ∃ (m : Nat) (z : Int) (T' : List Tr), i = .int .i64 m ∧ j = .int .i64 z ∧ z = (n : Int) - 1 - m ∧ 2 * m ≤ n ∧ OwnT F wr B (.slice (some ⟨g, 0, none⟩) n cap) T' ∧ (∀ p : Nat, p < n → T'[p]? = if p < m ∨ n ≤ p + m then T[n - 1 - p]? else T[p]?) ∧ w.grownBy wr (some g)) (fun i _ _ => n - (intOf i).toNat)
    case atStart => exact ⟨0, (n : Int) - 1, T, rfl, rfl, by omega, by omega, H0.out, fun p hp => by rw [if_neg (by omega)], World.grownBy.refl _ _⟩
    case round =>
      obtain ⟨m, z, T', rfl, rfl, hz, hm, hO, hP, hG⟩ := hrel
      have HO := Lib.hid hO; have HPP := Lib.hid hP; have HG := Lib.hid hG
      have HTL := Lib.hid hO.len
      clear hO hP hG
      by_cases hmz : (m : Int) < z
      · obtain ⟨jj, rfl⟩ : ∃ jj : Nat, z = jj := ⟨z.toNat, by omega⟩
        have hmn : m < n := by omega
        have hjn : jj < n := by omega
        have hmT : m < T'.length := by have := HTL.out; omega
        have hjT : jj < T'.length := by have := HTL.out; omega
        obtain ⟨tx, x1, x2, x3, x4, x5, x6, htx, ⟨c0, c1, c2, c3, c4, c5, c6, c7, c8, c9⟩, hTx⟩ := HO.out.at' m hmT
        obtain ⟨ty, y1, y2, y3, y4, y5, y6, hty, ⟨d0, d1, d2, d3, d4, d5, d6, d7, d8, d9⟩, hTy⟩ := HO.out.at' jj hjT
        have fr := fun j => HO.out.free j
        have hm1 : (m : Int) < (n : Int) := by omega
        have hj1 : (jj : Int) < (n : Int) := by omega
        have HZ := Lib.hid hz
        clear hz
        go_upto_region 3 with (fail)
        obtain ⟨W5, hW5⟩ : ∃ W5, (set10o (set10o wr g (m * 10) (.int .i64 ty.fld.op) (.slice y1 y2 y3) (.int .i32 ty.fld.rune) (.slice y4 y5 y6) (.int .i64 ty.fld.at') (.int .i64 ty.fld.cap) (.string ty.fld.name) (.int .i64 ty.fld.min) (.int .i64 ty.fld.max) (.bool ty.fld.lazy)) g (jj * 10) (.int .i64 tx.fld.op) (.slice x1 x2 x3) (.int .i32 tx.fld.rune) (.slice x4 x5 x6) (.int .i64 tx.fld.at') (.int .i64 tx.fld.cap) (.string tx.fld.name) (.int .i64 tx.fld.min) (.int .i64 tx.fld.max) (.bool tx.fld.lazy)).drew = W5 := ⟨_, rfl⟩
        have hO5 : OwnT F W5 B (.slice (some ⟨g, 0, none⟩) n cap) ((T'.set m ty).set jj tx) := by
          rw [← hW5, set10o_eq, set10o_eq]
          have h1 := ownT_set HO.out m hmT hTy
          have h2 := ownT_set h1 jj (by rw [List.length_set]; exact hjT) (hTx.same (fun b hb _ => setsW_block _ wr _ b (fun e => hb.1 (by rw [e]; rfl))) (fun b h _ => h))
          exact h2.below (below_draws _ 1)
        have hG5 : wr.grownBy W5 (some g) := by
          rw [← hW5, set10o_eq, set10o_eq]
          have h1 := setsW_grown (g := g) (#[.int .i64 ty.fld.op, .slice y1 y2 y3, .int .i32 ty.fld.rune, .slice y4 y5 y6, .int .i64 ty.fld.at', .int .i64 ty.fld.cap, .string ty.fld.name, .int .i64 ty.fld.min, .int .i64 ty.fld.max, .bool ty.fld.lazy] : Array Value).toList wr (m * 10)
          have h2 := setsW_grown (g := g) (#[.int .i64 tx.fld.op, .slice x1 x2 x3, .int .i32 tx.fld.rune, .slice x4 x5 x6, .int .i64 tx.fld.at', .int .i64 tx.fld.cap, .string tx.fld.name, .int .i64 tx.fld.min, .int .i64 tx.fld.max, .bool tx.fld.lazy] : Array Value).toList (setsW wr g (m * 10) (#[.int .i64 ty.fld.op, .slice y1 y2 y3, .int .i32 ty.fld.rune, .slice y4 y5 y6, .int .i64 ty.fld.at', .int .i64 ty.fld.cap, .string ty.fld.name, .int .i64 ty.fld.min, .int .i64 ty.fld.max, .bool ty.fld.lazy] : Array Value).toList) (jj * 10)
          have h3 := below_draws (setsW (setsW wr g (m * 10) (#[.int .i64 ty.fld.op, .slice y1 y2 y3, .int .i32 ty.fld.rune, .slice y4 y5 y6, .int .i64 ty.fld.at', .int .i64 ty.fld.cap, .string ty.fld.name, .int .i64 ty.fld.min, .int .i64 ty.fld.max, .bool ty.fld.lazy] : Array Value).toList) g (jj * 10) (#[.int .i64 tx.fld.op, .slice x1 x2 x3, .int .i32 tx.fld.rune, .slice x4 x5 x6, .int .i64 tx.fld.at', .int .i64 tx.fld.cap, .string tx.fld.name, .int .i64 tx.fld.min, .int .i64 tx.fld.max, .bool tx.fld.lazy] : Array Value).toList) 1
          exact ⟨(h3.os.trans h2.os).trans h1.os, (h3.tape.trans h2.tape).trans h1.tape, (h3.output.trans h2.output).trans h1.output, Nat.le_trans (Nat.le_trans h1.size h2.size) h3.size, fun k hk hn => (h3.block k (Nat.lt_of_lt_of_le hk (Nat.le_trans h1.size h2.size))).trans ((h2.block k (Nat.lt_of_lt_of_le hk h1.size) hn).trans (h1.block k hk hn))⟩
        have hP5 : ∀ p : Nat, p < n → ((T'.set m ty).set jj tx)[p]? = if p < m + 1 ∨ n ≤ p + (m + 1) then T[n - 1 - p]? else T[p]? := by
          intro p hp
          have hz := HZ.out
          have hTl := HTL.out
          by_cases hpj : p = jj
          · subst hpj
            rw [List.getElem?_set_self (by rw [List.length_set]; exact hjT), if_pos (by omega), show n - 1 - p = m by omega, ← htx, ← List.getElem?_eq_getElem hmT, HPP.out m hmn, if_neg (by omega)]
          · rw [List.getElem?_set_ne (fun e => hpj e.symm)]
            by_cases hpm : p = m
            · subst hpm
              rw [List.getElem?_set_self hmT, if_pos (by omega), show n - 1 - p = jj by omega, ← hty, ← List.getElem?_eq_getElem hjT, HPP.out jj hjn, if_neg (by omega)]
            · rw [List.getElem?_set_ne (fun e => hpm e.symm), HPP.out p hp]
              by_cases hc : p < m ∨ n ≤ p + m
              · rw [if_pos hc, if_pos (by omega)]
              · rw [if_neg hc, if_neg (by omega)]
        have HO5 := Lib.hid hO5; have HG5 := Lib.hid (show w.grownBy W5 (some g) from ⟨hG5.os.trans HG.out.os, hG5.tape.trans HG.out.tape, hG5.output.trans HG.out.output, Nat.le_trans HG.out.size hG5.size, fun k hk hn => (hG5.block k (Nat.lt_of_lt_of_le hk HG.out.size) hn).trans (HG.out.block k hk hn)⟩); have HP5 := Lib.hid hP5
        unfold set10o at hW5
        have HW5 := Lib.hid hW5
        clear hO5 hG5 hP5 hW5
        go_region
        rw [HW5.out]
        clear c0 c1 c2 c3 c4 c5 c6 c7 c8 c9 d0 d1 d2 d3 d4 d5 d6 d7 d8 d9 fr hTx hTy htx hty
        have hwz : IntKind.i64.wrap ((jj : Int) - 1) = (jj : Int) - 1 := by
          unfold IntKind.wrap
          simp [IntKind.bits, IntKind.signed]
          omega
        go_wp2_with fail
        go_roundw
        case rel => exact ⟨m + 1, (jj : Int) - 1, _, by go_num, rfl, by have := HZ.out; omega, by have := HZ.out; omega, HO5.out, HP5.out, HG5.out⟩
        case measure => simp [intOf]; omega
      · have hall : T' = T.reverse := by
          have hTl := HTL.out
          refine List.ext_getElem? fun p => ?_
          by_cases hp : p < n
          · have h1 := HN.out
            rw [HPP.out p hp, List.getElem?_reverse (by omega), h1]
            by_cases hc : p < m ∨ n ≤ p + m
            · rw [if_pos hc]
            · rw [if_neg hc]
              congr 1
              omega
          · rw [List.getElem?_eq_none (by omega), List.getElem?_eq_none (by rw [List.length_reverse, HN.out]; omega)]
        have HA := Lib.hid hall
        clear hall
        go_wp2_with fail
        go_end0
        exact ⟨⟨_, rfl⟩, by rw [← HA.out]; exact HO.out, HG.out⟩
end Go.Proofs.Ytaaadimkbhkpiaa
