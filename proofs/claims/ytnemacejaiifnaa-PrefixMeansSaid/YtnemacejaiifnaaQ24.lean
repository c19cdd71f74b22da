/- Texts merged by program: TrRow, TrCell. No condition. -/
import Derived.Test.YtnemacejaiifnaaQ4
import Derived.OwnWalk
import Derived.Laws.OwnMore
import Derived.Laws.AppendOwnNone
import Derived.Maps.AppendAt
import Derived.Lib.SmallJoins
import Derived.Laws.Rows
set_option linter.unusedVariables false
/- Rows of trees that the call makes itself: what they hold, appends onto them. -/
namespace Go.Proofs.Ytnemacejaiifnaa
open Go Go.RowKit

def cells10 (L : List (Array Value)) : List Value := L.flatMap (·.toList)
def AllTen (L : List (Array Value)) : Prop := ∀ cs ∈ L, cs.size = 10 ∧ ∀ u ∈ cs.toList, u.oneCell' = true
theorem cells10_append (a b : List (Array Value)) : cells10 (a ++ b) = cells10 a ++ cells10 b := by simp [cells10]
theorem cells10_length : ∀ (L : List (Array Value)), AllTen L → (cells10 L).length = L.length * 10
  | [], _ => rfl
  | a :: L, h => by
    have h1 := (h a (by simp)).1
    have h2 := cells10_length L fun cs hc => h cs (by simp [hc])
    have e : cells10 (a :: L) = a.toList ++ cells10 L := rfl
    rw [e, List.length_append, h2, Array.length_toList, h1, List.length_cons]
    omega
theorem cells10_at : ∀ (L : List (Array Value)), AllTen L → ∀ (i : Nat) (hi : i < L.length) (j : Nat) (hj : j < 10), (cells10 L)[i * 10 + j]? = L[i][j]?
  | a :: L, h, 0, _, j, hj => by
    have h1 := (h a (by simp)).1
    have e : cells10 (a :: L) = a.toList ++ cells10 L := rfl
    rw [e, Nat.zero_mul, Nat.zero_add, List.getElem?_append_left (by rw [Array.length_toList, h1]; exact hj)]
    simp
  | a :: L, h, i + 1, hi, j, hj => by
    have h1 := (h a (by simp)).1
    have h2 := cells10_at L (fun cs hc => h cs (by simp [hc])) i (by simpa using hi) j hj
    have e : cells10 (a :: L) = a.toList ++ cells10 L := rfl
    rw [e, List.getElem?_append_right (by rw [Array.length_toList, h1]; omega), Array.length_toList, h1, show (i + 1) * 10 + j - 10 = i * 10 + j by omega, h2]
    simp
theorem cells10_one {L : List (Array Value)} (h : AllTen L) : ∀ u ∈ cells10 L, u.oneCell' = true := fun u hu => by
  obtain ⟨cs, hcs, hu⟩ := List.mem_flatMap.1 hu
  exact (h cs hcs).2 u hu
theorem cells10_get {L : List (Array Value)} (h : AllTen L) (j : Nat) (u : Value) (hu : (cells10 L)[j]? = some u) : ∃ i, ∃ hi : i < L.length, ∃ k, k < 10 ∧ j = i * 10 + k ∧ L[i][k]? = some u := by
  have hl := (List.getElem?_eq_some_iff.1 hu).1
  rw [cells10_length L h] at hl
  have hi : j / 10 < L.length := by omega
  refine ⟨j / 10, hi, j % 10, by omega, by omega, ?_⟩
  rw [← cells10_at L h (j / 10) hi (j % 10) (by omega), show j / 10 * 10 + j % 10 = j by omega]
  exact hu
theorem choose_list {α : Type} {n : Nat} {P : Nat → α → Prop} (h : ∀ i, i < n → ∃ x, P i x) : ∃ L : List α, L.length = n ∧ ∀ i (hi : i < L.length), P i L[i] := by
  induction n with
  | zero => exact ⟨[], rfl, fun i hi => by simp at hi⟩
  | succ n ih =>
    obtain ⟨L, hl, hL⟩ := ih fun i hi => h i (by omega)
    obtain ⟨x, hx⟩ := h n (by omega)
    refine ⟨L ++ [x], by simp [hl], fun i hi => ?_⟩
    by_cases hin : i < L.length
    · rw [List.getElem_append_left hin]
      exact hL i hin
    · have : i = n := by simp at hi; omega
      subst this
      rw [List.getElem_append_right (by omega)]
      simpa using hx
theorem treC_one {F : Nat → Prop} {w : World} {t : Tr} {f : Fld} {kv sv : Value} (h : TreF F w t (.agg (treC f kv sv))) : (treC f kv sv).size = 10 ∧ ∀ u ∈ (treC f kv sv).toList, u.oneCell' = true := by
  rw [treF_iff] at h
  obtain ⟨kv', sv', e, h2, -, A, c, rfl, -⟩ := h
  injection e with e
  rw [e]
  obtain ⟨a, c', rfl, -⟩ := h2.1
  refine ⟨rfl, fun u hu => ?_⟩
  simp only [treC, List.mem_cons, List.not_mem_nil, or_false] at hu
  rcases hu with rfl | rfl | rfl | rfl | rfl | rfl | rfl | rfl | rfl | rfl <;> rfl
/-- A tree's value is ten cells. -/
theorem treF_form {F : Nat → Prop} {w : World} {t : Tr} {cs : Array Value} (h : TreF F w t (.agg cs)) : (∃ kv sv, cs = treC t.fld kv sv) ∧ cs.size = 10 ∧ ∀ u ∈ cs.toList, u.oneCell' = true := by
  have h' := h
  rw [treF_iff] at h
  obtain ⟨kv, sv, e, -⟩ := h
  injection e with e
  subst e
  exact ⟨⟨kv, sv, rfl⟩, treC_one h'⟩
/-- Not the row's own block. -/
abbrev Off (v : Value) (b : Nat) : Prop := v.ownBlock ≠ some b
/-- The value v owns a row of the trees T, among the blocks from B on; what they hold lies in blocks of F, and in no block of the row. -/
def OwnT (F : Nat → Prop) (w : World) (B : Nat) (v : Value) (T : List Tr) : Prop :=
  ∃ L : List (Array Value), L.length = T.length ∧ w.ownsRow B 27 10 v T.length (cells10 L) ∧ ∀ (i : Nat) (h : i < T.length) (h' : i < L.length), TreF (fun b => Off v b ∧ F b) w T[i] (.agg L[i])
/-- The slice value v holds the trees ks, and what they hold lies in blocks of F. -/
def KdsE (F : Nat → Prop) (w : World) (ks : List Tr) (v : Value) : Prop :=
  ∃ (A : Option Addr) (c : Nat), v = .slice A ks.length c ∧ ks.length ≤ c ∧ c ≤ maxLen ∧ ks.length ≤ 1172812402961 ∧ (A = none → c = 0) ∧
    (ks = [] ∨ ∃ b o, A = some ⟨b, o, none⟩ ∧ ∀ (i : Nat) (h : i < ks.length), ∃ cs : Array Value, CellsAt w b (o + i * 10) cs ∧ TreF F w (ks[i]) (.agg cs))
theorem own_slice10 {w : World} {base : Nat} {e : TypeId} {n : Nat} {v : Value} {xs : List Value} (h : w.ownsRow base e 10 v n xs) : (v = .slice none 0 0 ∧ n = 0) ∨ ∃ g c, v = .slice (some ⟨g, 0, none⟩) n c ∧ n ≤ c ∧ c ≤ maxLen ∧ base ≤ g := by
  rcases h.2 with h | ⟨q, cap, cur, rfl, hb, _, hn, hm, _⟩
  · exact .inl h
  · exact .inr ⟨_, _, rfl, hn, hm, hb⟩
theorem allTen {F : Nat → Prop} {w : World} {T : List Tr} {L : List (Array Value)} (hl : L.length = T.length) (h : ∀ (i : Nat) (h : i < T.length) (h' : i < L.length), TreF F w T[i] (.agg L[i])) : AllTen L := fun cs hcs => by
  obtain ⟨i, hi, rfl⟩ := List.mem_iff_getElem.1 hcs
  exact (treF_form (h i (by omega) hi)).2
theorem OwnT.kdsE {F : Nat → Prop} {w : World} {B : Nat} {v : Value} {T : List Tr} (h : OwnT F w B v T) (hn : T.length ≤ 1172812402961) : KdsE (fun b => Off v b ∧ F b) w T v := by
  obtain ⟨L, hl, ho, ht⟩ := h
  have hA := allTen hl ht
  rcases own_slice10 ho with ⟨rfl, h0⟩ | ⟨g, c, rfl, h1, h2, -⟩
  · exact ⟨none, 0, by rw [h0], by omega, Nat.zero_le _, hn, fun _ => rfl, .inl (List.eq_nil_of_length_eq_zero h0)⟩
  · refine ⟨_, c, rfl, h1, h2, hn, fun e => (by cases e), .inr ⟨g, 0, rfl, fun i hi => ⟨L[i], fun j hj => ?_, ht i hi (by omega)⟩⟩⟩
    have h10 := (hA L[i] (List.getElem_mem (by omega))).1
    have hj' : j < 10 := by omega
    have hx := cells10_at L hA i (by omega) j hj'
    rw [Array.getElem?_eq_getElem hj] at hx
    have := ho.cells (g := g) rfl _ _ hx
    rw [show (⟨g, 0, none⟩ : Addr).add (i * 10 + j) = ⟨g, 0 + (i * 10 + j), none⟩ by unfold Addr.add; split <;> simp_all] at this
    rw [show 0 + i * 10 + j = 0 + (i * 10 + j) by omega]
    exact this
theorem KdsE.mono {F G : Nat → Prop} {w : World} {ks : List Tr} {v : Value} (h : KdsE F w ks v) (hFG : ∀ b, F b → b < w.heap.size → G b) : KdsE G w ks v := by
  obtain ⟨A, c, h1, h2, h3, h4, h5, h6⟩ := h
  refine ⟨A, c, h1, h2, h3, h4, h5, h6.imp id ?_⟩
  rintro ⟨b, o, e, hc⟩
  refine ⟨b, o, e, fun i hi => ?_⟩
  obtain ⟨cs, q1, q2⟩ := hc i hi
  exact ⟨cs, q1, q2.same (fun _ _ _ => rfl) hFG⟩
theorem KdsE.kds {F : Nat → Prop} {w : World} {ks : List Tr} {v : Value} (h : KdsE F w ks v) : Kds w ks v := by
  obtain ⟨A, c, h1, h2, h3, h4, h5, h6⟩ := h
  refine ⟨A, c, h1, h2, h3, h4, h5, h6.imp id ?_⟩
  rintro ⟨b, o, e, hc⟩
  refine ⟨b, o, e, trivial, fun i hi => ?_⟩
  obtain ⟨cs, q1, q2⟩ := hc i hi
  exact ⟨cs, q1, q2.tre⟩
theorem OwnT.kdsF {F G : Nat → Prop} {w : World} {B : Nat} {v : Value} {T : List Tr} (h : OwnT F w B v T) (hn : T.length ≤ 1172812402961) (h1 : ∀ b, B ≤ b → G b) (h2 : ∀ b, F b → G b) : KdsF G w T v := by
  have hB : ∀ j, v.ownBlock = some j → B ≤ j := by
    obtain ⟨L, _, ho, _⟩ := h
    exact fun j hj => (ho.lt j hj).1
  obtain ⟨A, c, k1, k2, k3, k4, k5, k6⟩ := (h.kdsE hn).mono (G := G) fun b hb _ => h2 b hb.2
  refine ⟨A, c, k1, k2, k3, k4, k5, k6.imp id ?_⟩
  rintro ⟨b, o, e, hc⟩
  exact ⟨b, o, e, h1 b (hB b (by rw [k1, e]; rfl)), hc⟩
theorem KdsF.kds {F : Nat → Prop} {w : World} {ks : List Tr} {v : Value} (h : KdsF F w ks v) : Kds w ks v := h.same (fun _ _ _ => rfl) fun _ _ _ => trivial
/-- What an append onto a row does to all that lies off it. -/
theorem off_next {w w' : World} {v v' : Value} (hg : w.grownBy w' v.ownBlock) (hat : v'.ownBlock = v.ownBlock ∨ v'.ownBlock = some w.heap.size) : SameOn (Off v) w w' ∧ ∀ b, Off v b → b < w.heap.size → Off v' b :=
  ⟨fun b hb hlt => hg.block b hlt (fun e => hb e.symm), fun b hb hlt e => by
    rcases hat with h | h
    · rw [h] at e; exact hb e
    · rw [h] at e
      have : w.heap.size = b := Option.some.inj e
      omega⟩
theorem OwnT.kds {F : Nat → Prop} {w : World} {B : Nat} {v : Value} {T : List Tr} (h : OwnT F w B v T) (hn : T.length ≤ 1172812402961) : Kds w T v := (h.kdsE hn).kds
theorem OwnT.below {F : Nat → Prop} {w w' : World} {B : Nat} {v : Value} {T : List Tr} (h : OwnT F w B v T) (hb : Below w.heap.size w w') : OwnT F w' B v T := by
  obtain ⟨L, hl, ho, ht⟩ := h
  exact ⟨L, hl, ho.kept (row := none) ⟨hb.os, hb.tape, hb.output, hb.size, fun k hk _ => hb.block k hk⟩ (by cases v.ownBlock <;> simp), fun i h h' => (ht i h h').same (same_below hb) fun _ h _ => h⟩
theorem OwnT.mono {F : Nat → Prop} {w : World} {B B' : Nat} {v : Value} {T : List Tr} (h : OwnT F w B v T) (hb : B' ≤ B) : OwnT F w B' v T := by
  obtain ⟨L, hl, ho, ht⟩ := h
  exact ⟨L, hl, Go.Joins.ownsRow_le ho hb, ht⟩
theorem ownT_none (F : Nat → Prop) (w : World) (B : Nat) : OwnT F w B (.slice none 0 0) [] := ⟨[], rfl, World.ownsRow_nil _ _ _ _, fun i h => by simp at h⟩
theorem OwnT.slice {F : Nat → Prop} {w : World} {B : Nat} {v : Value} {T : List Tr} (h : OwnT F w B v T) : ∃ a n c, v = .slice a n c := by
  obtain ⟨L, _, ho, _⟩ := h
  rcases own_slice10 ho with ⟨rfl, _⟩ | ⟨g, c, rfl, -⟩
  · exact ⟨_, _, _, rfl⟩
  · exact ⟨_, _, _, rfl⟩
theorem info_tree : (Try.prog.info? 27).map (fun i => (i.zero, i.size, i.bytes)) = some (some (.agg #[.int .i64 0, .slice none 0 0, .int .i32 0, .slice none 0 0, .int .i64 0, .int .i64 0, .string ⟨#[]⟩, .int .i64 0, .int .i64 0, .bool false]), 10, 120) := by kernel_rfl
/-- What an append leaves of a row of trees. -/
theorem ownT_appended {F : Nat → Prop} {w w' : World} {B : Nat} {v v' : Value} {T K : List Tr} {L L2 : List (Array Value)} (hl : L.length = T.length) (ht : ∀ (i : Nat) (h : i < T.length) (h' : i < L.length), TreF (fun b => Off v b ∧ F b) w T[i] (.agg L[i]))
    (hl2 : L2.length = K.length) (hk : ∀ (i : Nat) (h : i < K.length) (h' : i < L2.length), TreF (fun b => Off v b ∧ F b) w K[i] (.agg L2[i]))
    (ho : w'.ownsRow B 27 10 v' (T.length + K.length) (cells10 L ++ cells10 L2)) (hg : w.grownBy w' v.ownBlock) (hat : v'.ownBlock = v.ownBlock ∨ v'.ownBlock = some w.heap.size) : OwnT F w' B v' (T ++ K) := by
  have hs : SameOn (fun b => Off v b ∧ F b) w w' := fun b hb hlt => hg.block b hlt (fun e => hb.1 e.symm)
  have hFG : ∀ b, (Off v b ∧ F b) → b < w.heap.size → (Off v' b ∧ F b) := fun b hb hlt => ⟨fun e => by
    rcases hat with h | h
    · rw [h] at e; exact hb.1 e
    · rw [h] at e
      have : w.heap.size = b := Option.some.inj e
      omega, hb.2⟩
  refine ⟨L ++ L2, by simp [hl, hl2], by rw [cells10_append, List.length_append]; exact ho, fun i h h' => ?_⟩
  by_cases hi : i < T.length
  · rw [List.getElem_append_left hi, List.getElem_append_left (by omega)]
    exact (ht i hi (by omega)).same hs hFG
  · have h1 : i - T.length < K.length := by simp at h; omega
    have e1 : (L ++ L2)[i] = L2[i - T.length]'(by omega) := by rw [List.getElem_append_right (by omega)]; congr 1; omega
    rw [List.getElem_append_right (by omega), e1]
    exact (hk (i - T.length) h1 (by omega)).same hs hFG

/-- An append of trees onto a row of the call's own. -/
theorem append_trs {w : World} {ops : Array Oper} {rest : List Oper} {o : Oper} {a : Act} {Q : Exit → Act → World → Prop} (hgd : o.guard = none) (x y : Operand)
    (ho : o.op = .call { callee := .builtin .append, args := #[x, y], argTypes := #[23, 23] })
    (F : Nat → Prop) (base : Nat) (v : Value) (T : List Tr) (hs : a.eval x = v) (hown : OwnT F w base v T)
    (A : Option Addr) (m c : Nat) (K : List Tr) (hx : a.eval y = .slice A m c) (ht : KdsE (fun b => Off v b ∧ F b) w K (.slice A m c)) (hn : T.length + K.length ≤ 1172812402961) (hbase : base ≤ w.heap.size)
    (h : ∀ v' w', OwnT F w' base v' (T ++ K) → w.grownBy w' v.ownBlock → (v'.ownBlock = v.ownBlock ∨ v'.ownBlock = some w.heap.size) → wpList Try.prog ops Q rest (a.put o.dst v') w') : wpList Try.prog ops Q (o :: rest) a w := by
  obtain ⟨i, hi, hz, hsize, hby⟩ := info_parts info_tree
  obtain ⟨L, hl, hro, hT⟩ := hown
  obtain ⟨A', c', h1, h2, h3, h6, h4, h5⟩ := ht
  injection h1 with e1 e2 e3
  subst e1 e2 e3
  have hAT := allTen hl hT
  rcases A with _ | ad
  · have hc := h4 rfl
    have h0 : K.length = 0 := by omega
    have hn0 : K = [] := List.eq_nil_of_length_eq_zero h0
    rw [h0, hc] at hx
    refine wpList_append_own_none hgd x y 23 ho base 27 i 10 Try.underlying23 hi v T.length (cells10 L) hs hro hx (h v w ?_ (World.grownBy.refl w _) (.inl rfl))
    rw [hn0, List.append_nil]
    exact ⟨L, hl, hro, hT⟩
  · obtain ⟨L2, hl2, hL2⟩ : ∃ L2 : List (Array Value), L2.length = K.length ∧ ∀ i (hi : i < L2.length), (∀ j (hj : j < L2[i].size), w.cell? (ad.add (i * 10 + j)) = some L2[i][j]) ∧ ∀ h : i < K.length, TreF (fun b => Off v b ∧ F b) w K[i] (.agg L2[i]) := by
      refine choose_list (P := fun i (cs : Array Value) => (∀ j (hj : j < cs.size), w.cell? (ad.add (i * 10 + j)) = some cs[j]) ∧ ∀ h : i < K.length, TreF (fun b => Off v b ∧ F b) w K[i] (.agg cs)) fun i hi => ?_
      rcases h5 with h5 | ⟨b, off, e, hc⟩
      · rw [h5] at hi
        simp at hi
      · injection e with e
        subst e
        obtain ⟨cs, q1, q2⟩ := hc i hi
        refine ⟨cs, fun j hj => ?_, fun _ => q2⟩
        rw [show (⟨b, off, none⟩ : Addr).add (i * 10 + j) = ⟨b, off + i * 10 + j, none⟩ by unfold Addr.add; split <;> simp_all [Nat.add_assoc]]
        exact q1 j hj
    have hA2 : AllTen L2 := allTen (T := K) hl2 fun i h h' => (hL2 i h').2 h
    refine wpList_append_own_at w hgd x y 23 ho base 27 i _ 10 120 Try.underlying23 hi hz hsize hby rfl (by omega) v T.length (cells10 L) hs hro ad K.length c (cells10 L2) hx (by rw [cells10_length L2 hA2, hl2]) ?_ (cells10_one hA2) (by unfold maxLen; omega) (by omega) hbase (fun v' w' g1 g2 _ g3 => h v' w' (ownT_appended hl hT hl2 (fun i h h' => (hL2 i h').2 h) g1 g2 g3) g2 g3)
    intro j u hu
    obtain ⟨q, hq, k, hk, rfl, hh⟩ := cells10_get hA2 j u hu
    obtain ⟨hks, rfl⟩ := Array.getElem?_eq_some_iff.1 hh
    exact (hL2 q hq).1 k hks
/-- One tree, laid in a block of its own. -/
theorem kds_one {F : Nat → Prop} {w : World} {t : Tr} {kv sv : Value} (h : TreF F w t (.agg (treC t.fld kv sv))) (G : Nat → Prop) (hFG : ∀ b, F b → b < w.heap.size → G b) : KdsE G (w.alloc (.cells (treC t.fld kv sv) 27)) [t] (.slice (some ⟨w.heap.size, 0, none⟩) 1 1) := by
  refine ⟨_, 1, rfl, Nat.le_refl _, by unfold maxLen; omega, by simp, fun e => (by cases e), .inr ⟨w.heap.size, 0, rfl, fun i hi => ?_⟩⟩
  have : i = 0 := by simpa using hi
  subst this
  exact ⟨treC t.fld kv sv, by simpa using cellsAt_new w _ _, h.same (same_below ((Below.refl _ w).alloc (Nat.le_refl _) _)) hFG⟩
theorem OwnT.off {F : Nat → Prop} {w : World} {B : Nat} {v : Value} {T : List Tr} (h : OwnT F w B v T) (b : Nat) (hb : w.heap.size ≤ b) : Off v b := by
  obtain ⟨L, _, ho, _⟩ := h
  rcases ho.2 with ⟨rfl, _⟩ | ⟨q, cap, cur, rfl, _, hh, _⟩
  · simp [Off, Value.ownBlock]
  · intro e
    obtain rfl : q = b := by simpa [Value.ownBlock] using e
    have := (Array.getElem?_eq_some_iff.1 hh).1
    omega
theorem OwnT.base {F : Nat → Prop} {w : World} {B : Nat} {v : Value} {T : List Tr} (h : OwnT F w B v T) : ∀ j, v.ownBlock = some j → B ≤ j := by
  obtain ⟨L, _, ho, _⟩ := h
  exact fun j hj => (ho.lt j hj).1
end Go.Proofs.Ytnemacejaiifnaa
/- Trees in cells of their own: set anew, handed back. No condition. -/
namespace Go.Proofs.Ytnemacejaiifnaa
open Go Go.RowKit

/-- Ten cells, set anew. -/
def set10 (w2 : World) (b : Nat) (x0 x1 x2 x3 x4 x5 x6 x7 x8 x9 : Value) : World := (((((((((w2.setCell ⟨b, 0, none⟩ x0).setCell ⟨b, 1, none⟩ x1).setCell ⟨b, 2, none⟩ x2).setCell ⟨b, 3, none⟩ x3).setCell ⟨b, 4, none⟩ x4).setCell ⟨b, 5, none⟩ x5).setCell ⟨b, 6, none⟩ x6).setCell ⟨b, 7, none⟩ x7).setCell ⟨b, 8, none⟩ x8).setCell ⟨b, 9, none⟩ x9
theorem set10_whole {w : World} {b : Nat} {t : TypeId} {y0 y1 y2 y3 y4 y5 y6 y7 y8 y9 : Value} (h : Whole w b t #[y0, y1, y2, y3, y4, y5, y6, y7, y8, y9]) (x0 x1 x2 x3 x4 x5 x6 x7 x8 x9 : Value) : Whole (set10 w b x0 x1 x2 x3 x4 x5 x6 x7 x8 x9) b t #[x0, x1, x2, x3, x4, x5, x6, x7, x8, x9] := by
  have h10 := (((((((((h.store 0 x0).store 1 x1).store 2 x2).store 3 x3).store 4 x4).store 5 x5).store 6 x6).store 7 x7).store 8 x8).store 9 x9
  simp only [List.setIfInBounds_toArray, List.set_cons_zero, List.set_cons_succ] at h10
  exact h10
theorem set10_same (w : World) (b : Nat) (x0 x1 x2 x3 x4 x5 x6 x7 x8 x9 : Value) : SameOn (fun k => k ≠ b) w (set10 w b x0 x1 x2 x3 x4 x5 x6 x7 x8 x9) := fun k hk _ => by
  unfold set10
  have h : ∀ (W : World) (j : Nat) (u : Value), (W.setCell ⟨b, j, none⟩ u).heap[k]? = W.heap[k]? := fun W j u => Below.heap_setCell W _ u k hk
  simp only [h]
theorem set10_size (w : World) (b : Nat) (x0 x1 x2 x3 x4 x5 x6 x7 x8 x9 : Value) : (set10 w b x0 x1 x2 x3 x4 x5 x6 x7 x8 x9).heap.size = w.heap.size := by
  unfold set10
  simp [World.setCell]
theorem set10_below {B b : Nat} {w0 w : World} (h : Below B w0 w) (hb : B ≤ b) (x0 x1 x2 x3 x4 x5 x6 x7 x8 x9 : Value) : Below B w0 (set10 w b x0 x1 x2 x3 x4 x5 x6 x7 x8 x9) :=
  (((((((((h.setCell (p := ⟨b, 0, none⟩) hb x0).setCell (p := ⟨b, 1, none⟩) hb x1).setCell (p := ⟨b, 2, none⟩) hb x2).setCell (p := ⟨b, 3, none⟩) hb x3).setCell (p := ⟨b, 4, none⟩) hb x4).setCell (p := ⟨b, 5, none⟩) hb x5).setCell (p := ⟨b, 6, none⟩) hb x6).setCell (p := ⟨b, 7, none⟩) hb x7).setCell (p := ⟨b, 8, none⟩) hb x8).setCell (p := ⟨b, 9, none⟩) hb x9
/-- A function that hands back a tree out of its result's cells. -/
theorem tree_ret {f : Func} (hres : f.results = #[.cell 2 27]) {post : Ending → World → Prop} {w2 : World} {tmps : Array Value} (b : Nat) {x0 x1 x2 x3 x4 x5 x6 x7 x8 x9 y0 y1 y2 y3 y4 y5 y6 y7 y8 y9 : Value} (hp : tmps.getD 2 undef = .pointer (some ⟨b, 0, none⟩))
    (hR : Whole w2 b 27 #[y0, y1, y2, y3, y4, y5, y6, y7, y8, y9]) (hpost : post (.returned (.agg #[x0, x1, x2, x3, x4, x5, x6, x7, x8, x9])) (set10 w2 b x0 x1 x2 x3 x4 x5 x6 x7 x8 x9)) : bodyPost Try.prog f post Exit.ret { tmps := tmps, defers := [] } (set10 w2 b x0 x1 x2 x3 x4 x5 x6 x7 x8 x9) :=
  bodyPost_ret (v := .agg #[x0, x1, x2, x3, x4, x5, x6, x7, x8, x9]) (results_cell_row hres tmps _ b 27 _ (0, 0) _ hp (set10_whole hR _ _ _ _ _ _ _ _ _ _) Try.underlying27 rfl (by kernel_rfl)) rfl hpost
theorem Whole.ten {W : World} {b : Nat} {t : TypeId} {x0 x1 x2 x3 x4 x5 x6 x7 x8 x9 : Value} (h : Whole W b t #[x0, x1, x2, x3, x4, x5, x6, x7, x8, x9]) : Box10 W b x0 x1 x2 x3 x4 x5 x6 x7 x8 x9 :=
  ⟨h.cell 0, h.cell 1, h.cell 2, h.cell 3, h.cell 4, h.cell 5, h.cell 6, h.cell 7, h.cell 8, h.cell 9⟩
def Free10 (W : World) (b : Nat) : Prop := W.frozen? ⟨b, 0, none⟩ = false ∧ W.frozen? ⟨b, 1, none⟩ = false ∧ W.frozen? ⟨b, 2, none⟩ = false ∧ W.frozen? ⟨b, 3, none⟩ = false ∧ W.frozen? ⟨b, 4, none⟩ = false ∧ W.frozen? ⟨b, 5, none⟩ = false ∧ W.frozen? ⟨b, 6, none⟩ = false ∧ W.frozen? ⟨b, 7, none⟩ = false ∧ W.frozen? ⟨b, 8, none⟩ = false ∧ W.frozen? ⟨b, 9, none⟩ = false
theorem whole_free {W : World} {b : Nat} {t : TypeId} {cs : Array Value} (h : Whole W b t cs) : Free10 W b := ⟨h.free 0, h.free 1, h.free 2, h.free 3, h.free 4, h.free 5, h.free 6, h.free 7, h.free 8, h.free 9⟩
/-- A tree's value, cell by cell. -/
theorem TreF.ten {F : Nat → Prop} {w : World} {t : Tr} {v : Value} (h : TreF F w t v) : ∃ kv sv, v = .agg #[.int .i64 t.fld.op, kv, .int .i32 t.fld.rune, sv, .int .i64 t.fld.at', .int .i64 t.fld.cap, .string t.fld.name, .int .i64 t.fld.min, .int .i64 t.fld.max, .bool t.fld.lazy] ∧ (∃ a n c, kv = .slice a n c) ∧ (∃ a n c, sv = .slice a n c) := by
  rw [treF_iff] at h
  obtain ⟨kv, sv, rfl, ⟨⟨a, c, rfl, -⟩, -⟩, -, A, c', rfl, -⟩ := h
  exact ⟨_, _, rfl, ⟨_, _, _, rfl⟩, ⟨_, _, _, rfl⟩⟩
end Go.Proofs.Ytnemacejaiifnaa
