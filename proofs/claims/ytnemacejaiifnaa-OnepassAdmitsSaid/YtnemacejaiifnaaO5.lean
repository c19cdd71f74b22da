/- Texts merged by program: PgInts, PgIn, PgSets. No condition. -/
import Derived.Test.YtnemacejaiifnaaO4
import Derived.Test.YtnemacejaiifnaaO1
import Derived.Deep.DeepAppendWide
set_option linter.unusedVariables false
/- Lists of ints in memory: rows that the call owns, appends onto them. -/
set_option linter.unusedSimpArgs false
namespace Go.Proofs.Ytnemacejaiifnaa
open Go Go.RowKit

def R64 (x : Int) : Prop := -9223372036854775808 ≤ x ∧ x ≤ 9223372036854775807

def litsZ (l : List Int) : List Value := l.map (Value.int .i64)
theorem litsZ_length (l : List Int) : (litsZ l).length = l.length := by simp [litsZ]
theorem litsZ_append (a b : List Int) : litsZ (a ++ b) = litsZ a ++ litsZ b := by simp [litsZ]
theorem litsZ_get (l : List Int) (i : Nat) (h : i < l.length) : (litsZ l)[i]? = some (.int .i64 l[i]) := by simp [litsZ, h]
theorem litsZ_one (l : List Int) : ∀ u ∈ litsZ l, u.oneCell' = true := fun u hu => by
  obtain ⟨x, _, rfl⟩ := List.mem_map.1 hu
  rfl
/-- The slice value v holds the ints l. -/
def Zs (w : World) (v : Value) (l : List Int) : Prop :=
  ∃ a c, v = .slice a l.length c ∧ l.length ≤ c ∧ c ≤ maxLen ∧ (a = none → c = 0) ∧
    (l = [] ∨ ∃ b o, a = some ⟨b, o, none⟩ ∧ ∀ i (h : i < l.length), w.cell? ⟨b, o + i, none⟩ = some (.int .i64 l[i])) ∧ ∀ x ∈ l, R64 x
theorem Zs.below {w w' : World} {v : Value} {l : List Int} (h : Zs w v l) (hb : Below w.heap.size w w') : Zs w' v l := by
  obtain ⟨a, c, h1, h2, h3, h4, h5, h6⟩ := h
  refine ⟨a, c, h1, h2, h3, h4, ?_, h6⟩
  rcases h5 with h5 | ⟨b, o, e, hc⟩
  · exact .inl h5
  · exact .inr ⟨b, o, e, fun i hi => (hb.cell (World.block_lt_of_cell? w _ (hc i hi))).trans (hc i hi)⟩
theorem info_int8 : (Try.prog.info? 3).map (fun i => (i.zero, i.size, i.bytes)) = some (some (.int .i64 0), 1, 8) := by kernel_rfl
/-- The value v owns a row of the ints l, among the blocks from B on. -/
def OwnZ (w : World) (B : Nat) (v : Value) (l : List Int) : Prop := w.ownsRow B 3 1 v l.length (litsZ l) ∧ ∀ x ∈ l, R64 x
theorem own_sliceZ {w : World} {base : Nat} {e : TypeId} {n : Nat} {v : Value} {xs : List Value} (h : w.ownsRow base e 1 v n xs) : (v = .slice none 0 0 ∧ n = 0) ∨ ∃ g c, v = .slice (some ⟨g, 0, none⟩) n c ∧ n ≤ c ∧ c ≤ maxLen ∧ base ≤ g := by
  rcases h.2 with h | ⟨q, cap, cur, rfl, hb, _, hn, hm, _⟩
  · exact .inl h
  · exact .inr ⟨_, _, rfl, hn, hm, hb⟩
theorem addr_ofZ (g j : Nat) : (⟨g, 0, none⟩ : Addr).add j = ⟨g, 0 + j, none⟩ := by unfold Addr.add; split <;> simp_all
theorem OwnZ.zs {w : World} {B : Nat} {v : Value} {l : List Int} (h : OwnZ w B v l) : Zs w v l := by
  obtain ⟨ho, hi⟩ := h
  rcases own_sliceZ ho with ⟨rfl, hn⟩ | ⟨g, c, rfl, h1, h2, h3⟩
  · exact ⟨none, 0, by rw [hn], by omega, Nat.zero_le _, fun _ => rfl, .inl (List.eq_nil_of_length_eq_zero hn), hi⟩
  · refine ⟨_, c, rfl, h1, h2, fun e => (by cases e), .inr ⟨g, 0, rfl, fun i hi' => ?_⟩, hi⟩
    have q1 := ho.cells (g := g) rfl _ _ (litsZ_get l i hi')
    rw [addr_ofZ] at q1
    exact q1
theorem OwnZ.below {w w' : World} {B : Nat} {v : Value} {l : List Int} (h : OwnZ w B v l) (hb : Below w.heap.size w w') : OwnZ w' B v l :=
  ⟨h.1.kept (row := none) ⟨hb.os, hb.tape, hb.output, hb.size, fun k hk _ => hb.block k hk⟩ (by cases v.ownBlock <;> simp), h.2⟩
theorem OwnZ.mono {w : World} {B B' : Nat} {v : Value} {l : List Int} (h : OwnZ w B v l) (hb : B' ≤ B) : OwnZ w B' v l := ⟨Go.Joins.ownsRow_le h.1 hb, h.2⟩
theorem ownZ_none (w : World) (B : Nat) : OwnZ w B (.slice none 0 0) [] := ⟨World.ownsRow_nil _ _ _ _, by simp⟩
theorem ownZ_lit (w : World) (B : Nat) (hB : B ≤ w.heap.size) (l : List Int) (n : Nat) (cs : Array Value) (hc : cs.toList = litsZ l) (hn : l.length = n) (hm : n ≤ maxLen) (hi : ∀ x ∈ l, R64 x) : OwnZ (w.alloc (.cells cs 3)) B (.slice (some ⟨w.heap.size, 0, none⟩) n n) l := by
  subst hn
  have hs : cs.size = l.length := by rw [← Array.length_toList, hc, litsZ_length]
  refine ⟨⟨by rw [litsZ_length, Nat.mul_one], .inr ⟨w.heap.size, l.length, cs, rfl, hB, heap_alloc_new w _, Nat.le_refl _, hm, by omega, ?_⟩⟩, hi⟩
  rw [hc, Nat.mul_one]
  exact List.take_of_length_le (by rw [litsZ_length]; omega)

theorem zs_take {w : World} {A : Option Addr} {n c : Nat} {S : List Int} (h : Zs w (.slice A n c) S) (k : Nat) (hk : k ≤ n) : Zs w (.slice A k c) (S.take k) := by
  obtain ⟨a, c', h1, h2, h3, h4, h5, h6⟩ := h
  injection h1 with e1 e2 e3
  subst e1 e2 e3
  have hl : (S.take k).length = k := by rw [List.length_take]; omega
  refine ⟨A, c, by rw [hl], by omega, h3, h4, ?_, fun r hr => h6 r (List.mem_of_mem_take hr)⟩
  rcases h5 with h5 | ⟨b, o, e, hc⟩
  · left
    rw [h5]
    simp
  · refine .inr ⟨b, o, e, fun i hi => ?_⟩
    have hi' : i < S.length := by omega
    have := hc i hi'
    simpa using this
theorem zs_nil (w : World) (A : Option Addr) (c : Nat) (hc : c ≤ maxLen) (hA : A = none → c = 0) : Zs w (.slice A 0 c) [] := ⟨A, c, rfl, Nat.zero_le _, hc, hA, .inl rfl, by simp⟩
theorem zs_new (w : World) (x : Int) (h : R64 x) : Zs (w.alloc (.cells #[.int .i64 x] 3)) (.slice (some ⟨w.heap.size, 0, none⟩) 1 1) [x] := by
  refine ⟨_, 1, rfl, by simp, by unfold maxLen; omega, fun e => (by cases e), .inr ⟨w.heap.size, 0, rfl, fun i hi => ?_⟩, by simpa using h⟩
  have : i = 0 := by simpa using hi
  subst this
  simp

/-- An append of ints onto a row of the call's own. -/
theorem append_zs {w : World} {ops : Array Oper} {rest : List Oper} {o : Oper} {a : Act} {Q : Exit → Act → World → Prop} (hgd : o.guard = none) (x y : Operand)
    (ho : o.op = .call { callee := .builtin .append, args := #[x, y], argTypes := #[38, 38] })
    (base : Nat) (v : Value) (O : List Int) (hs : a.eval x = v) (hown : OwnZ w base v O)
    (A : Option Addr) (m c : Nat) (K : List Int) (hx : a.eval y = .slice A m c) (ht : Zs w (.slice A m c) K) (hn : O.length + K.length ≤ 20000000000000) (hbase : base ≤ w.heap.size)
    (h : ∀ v' w', OwnZ w' base v' (O ++ K) → w.grownBy w' v.ownBlock → wpList Try.prog ops Q rest (a.put o.dst v') w') : wpList Try.prog ops Q (o :: rest) a w := by
  obtain ⟨i, hi, hz, hsize, hby⟩ := info_parts info_int8
  obtain ⟨A', c', h1, h2, h3, h4, h5, h6⟩ := ht
  injection h1 with e1 e2 e3
  subst e1 e2 e3
  have hall : ∀ r ∈ O ++ K, R64 r := fun r hr => (List.mem_append.1 hr).elim (hown.2 r) (h6 r)
  rcases A with _ | ad
  · have hc := h4 rfl
    have h0 : K.length = 0 := by omega
    have hn0 : K = [] := List.eq_nil_of_length_eq_zero h0
    rw [h0, hc] at hx
    refine wpList_append_own_none hgd x y 38 ho base 3 i 1 Try.underlying38 hi v O.length (litsZ O) hs hown.1 hx (h v w ?_ (World.grownBy.refl w _))
    rw [hn0, List.append_nil]
    exact hown
  · refine wpList_append_own_wide w hgd x y 38 ho base 3 i (.int .i64 0) 1 8 Try.underlying38 hi hz hsize hby rfl (by omega) v O.length (litsZ O) hs hown.1 ad K.length c (litsZ K) hx (by rw [litsZ_length]; omega) ?_ (litsZ_one K) (by unfold maxLen; omega) (by omega) hbase (fun v' w' g1 g2 _ => h v' w' ⟨?_, hall⟩ g2)
    · intro j u hu
      have hj : j < K.length := by
        have := (List.getElem?_eq_some_iff.1 hu).1
        rwa [litsZ_length] at this
      rw [litsZ_get K j hj] at hu
      rcases h5 with h5 | ⟨b, off, e, hc⟩
      · rw [h5] at hj
        simp at hj
      · have e := Option.some.inj e
        subst e
        have hadd : (⟨b, off, none⟩ : Addr).add j = ⟨b, off + j, none⟩ := by unfold Addr.add; split <;> simp_all
        rw [hadd, hc j hj]
        exact hu
    · rw [litsZ_append, List.length_append]
      exact g1

end Go.Proofs.Ytnemacejaiifnaa
/- Programs in memory: what a value holds, and that it stays. No condition. -/
namespace Go.Proofs.Ytnemacejaiifnaa
open Go Go.RowKit

/-- A bool that says P; what lay below stays. -/
def SaysG (P : Prop) (w : World) (e : Ending) (w' : World) : Prop := ∃ B : Bool, e = .returned (.bool B) ∧ (B = true ↔ P) ∧ Below w.heap.size w w'
theorem below_steps {w W W' : World} (h : Below w.heap.size w W) (k : Below W.heap.size W W') : Below w.heap.size w W' := h.trans (k.mono h.size)
theorem below_of_drew {w w' : World} (h : Below w.drew.heap.size w.drew w') : Below w.heap.size w w' := (Below.refl _ w).drew.trans h
theorem cell_on {w w' : World} {b j : Nat} {u : Value} (hb : Below w.heap.size w w') (h : w.cell? ⟨b, j, none⟩ = some u) : w'.cell? ⟨b, j, none⟩ = some u := (hb.cell (World.block_lt_of_cell? w _ h)).trans h
def Five (w : World) (b o : Nat) (x0 x1 x2 x3 x4 : Value) : Prop :=
  w.cell? ⟨b, o, none⟩ = some x0 ∧ w.cell? ⟨b, o + 1, none⟩ = some x1 ∧ w.cell? ⟨b, o + 2, none⟩ = some x2 ∧ w.cell? ⟨b, o + 3, none⟩ = some x3 ∧ w.cell? ⟨b, o + 4, none⟩ = some x4
theorem Five.below {w w' : World} {b o : Nat} {x0 x1 x2 x3 x4 : Value} (h : Five w b o x0 x1 x2 x3 x4) (hb : Below w.heap.size w w') : Five w' b o x0 x1 x2 x3 x4 := by
  obtain ⟨h0, h1, h2, h3, h4⟩ := h
  have g : ∀ j u, w.cell? ⟨b, j, none⟩ = some u → w'.cell? ⟨b, j, none⟩ = some u := fun j u hu => (hb.cell (World.block_lt_of_cell? w _ hu)).trans hu
  exact ⟨g _ _ h0, g _ _ h1, g _ _ h2, g _ _ h3, g _ _ h4⟩
/-- The five cells of an instruction, the Set's value being v. -/
def insC (x : Ins) (v : Value) : Array Value := #[.int .i64 x.op, .int .i64 x.out, .int .i64 x.arg, v, .int .i64 x.at']
def Bds (x : Ins) : Prop := R64 x.op ∧ R64 x.out ∧ R64 x.arg ∧ R64 x.at' ∧ x.set.length ≤ 17592186044416
def InsV (w : World) (x : Ins) (v : Value) : Prop := ∃ (a : Option Addr) (c : Nat), v = .agg (insC x (.slice a x.set.length c)) ∧ Rgs w (.slice a x.set.length c) x.set ∧ Bds x
/-- The slice value v holds the instructions L. -/
def Inss (w : World) (v : Value) (L : List Ins) : Prop :=
  ∃ (A : Option Addr) (c : Nat), v = .slice A L.length c ∧ L.length ≤ c ∧ c ≤ maxLen ∧ (A = none → c = 0) ∧
    (L = [] ∨ ∃ b o, A = some ⟨b, o, none⟩ ∧ ∀ (i : Nat) (h : i < L.length), ∃ (a : Option Addr) (c : Nat),
      Five w b (o + i * 5) (.int .i64 L[i].op) (.int .i64 L[i].out) (.int .i64 L[i].arg) (.slice a L[i].set.length c) (.int .i64 L[i].at') ∧ Rgs w (.slice a L[i].set.length c) L[i].set ∧ Bds L[i])
theorem Inss.below {w w' : World} {v : Value} {L : List Ins} (h : Inss w v L) (hb : Below w.heap.size w w') : Inss w' v L := by
  obtain ⟨A, c, h1, h2, h3, h4, h5⟩ := h
  refine ⟨A, c, h1, h2, h3, h4, ?_⟩
  rcases h5 with h5 | ⟨b, o, e, hc⟩
  · exact .inl h5
  · refine .inr ⟨b, o, e, fun i hi => ?_⟩
    obtain ⟨a, c, k1, k2, k3⟩ := hc i hi
    exact ⟨a, c, k1.below hb, k2.below hb, k3⟩
theorem InsV.below {w w' : World} {x : Ins} {v : Value} (h : InsV w x v) (hb : Below w.heap.size w w') : InsV w' x v := by
  obtain ⟨a, c, h1, h2, h3⟩ := h
  exact ⟨a, c, h1, h2.below hb, h3⟩
/-- The instruction that stands at a place. -/
theorem Inss.at' {w : World} {A : Option Addr} {n c : Nat} {L : List Ins} (h : Inss w (.slice A n c) L) (i : Nat) (hi : i < L.length) :
    ∃ (b o : Nat) (x : Ins) (a : Option Addr) (s c2 : Nat), A = some ⟨b, o, none⟩ ∧ L[i] = x ∧ x ∈ L ∧ x.set.length = s ∧ atI L i = x ∧
      Five w b (o + i * 5) (.int .i64 x.op) (.int .i64 x.out) (.int .i64 x.arg) (.slice a s c2) (.int .i64 x.at') ∧ Rgs w (.slice a s c2) x.set ∧ Bds x ∧
      InsV w x (.agg #[.int .i64 x.op, .int .i64 x.out, .int .i64 x.arg, .slice a s c2, .int .i64 x.at']) := by
  obtain ⟨A', c', h1, h2, h3, h4, h5⟩ := h
  injection h1 with e1 e2 e3
  subst e1 e2 e3
  rcases h5 with h5 | ⟨b, o, e, hc⟩
  · rw [h5] at hi
    simp at hi
  · obtain ⟨a, c2, k1, k2, k3⟩ := hc i hi
    exact ⟨b, o, _, a, _, c2, e, rfl, List.getElem_mem hi, rfl, by simp [atI, hi], k1, k2, k3, a, c2, rfl, k2, k3⟩
/-- The int that stands at a place. -/
theorem Zs.at' {w : World} {A : Option Addr} {n c : Nat} {L : List Int} (h : Zs w (.slice A n c) L) (i : Nat) (hi : i < L.length) :
    ∃ (b o : Nat) (x : Int), A = some ⟨b, o, none⟩ ∧ L[i] = x ∧ x ∈ L ∧ w.cell? ⟨b, o + i, none⟩ = some (.int .i64 x) ∧ R64 x := by
  obtain ⟨A', c', h1, h2, h3, h4, h5, h6⟩ := h
  injection h1 with e1 e2 e3
  subst e1 e2 e3
  rcases h5 with h5 | ⟨b, o, e, hc⟩
  · rw [h5] at hi
    simp at hi
  · exact ⟨b, o, _, e, rfl, List.getElem_mem hi, hc i hi, h6 _ (List.getElem_mem hi)⟩
/-- The value v holds the program p. -/
def PgV (w : World) (p : Pg) (v : Value) : Prop := ∃ u, v = .agg #[u, .int .i64 p.start, .int .i64 p.caps] ∧ Inss w u p.ins ∧ R64 p.start ∧ R64 p.caps
theorem PgV.below {w w' : World} {p : Pg} {v : Value} (h : PgV w p v) (hb : Below w.heap.size w w') : PgV w' p v := by
  obtain ⟨u, h1, h2, h3⟩ := h
  exact ⟨u, h1, h2.below hb, h3⟩
theorem PgV.opened {w : World} {p : Pg} {v : Value} (h : PgV w p v) : ∃ (A : Option Addr) (n c : Nat), p.ins.length = n ∧ v = .agg #[.slice A n c, .int .i64 p.start, .int .i64 p.caps] ∧ Inss w (.slice A n c) p.ins ∧ R64 p.start ∧ R64 p.caps ∧ n ≤ 9223372036854775807 := by
  obtain ⟨u, rfl, hI, h3, h4⟩ := h
  obtain ⟨A, c, rfl, h5, h6, h7⟩ := hI
  exact ⟨A, _, c, rfl, rfl, ⟨A, c, rfl, h5, h6, h7⟩, h3, h4, by unfold maxLen at h6; omega⟩
/-- A box of three, of five cells. -/
theorem box_at (w : World) (t : TypeId) (cs : Array Value) (j : Nat) (u : Value) (h : cs[j]? = some u) : (w.alloc (.cells cs t)).cell? ⟨w.heap.size, j, none⟩ = some u := by
  rw [World.cell?_alloc_at _ _ _ _ rfl, h]
theorem box3_new (w : World) (t : TypeId) (x0 x1 x2 : Value) {W : World} (h : w.alloc (.cells #[x0, x1, x2] t) = W) :
    Below w.heap.size w W ∧ W.cell? ⟨w.heap.size, 0, none⟩ = some x0 ∧ W.cell? ⟨w.heap.size, 1, none⟩ = some x1 ∧ W.cell? ⟨w.heap.size, 2, none⟩ = some x2 ∧ W.heap.size = w.heap.size + 1 := by
  subst h
  exact ⟨(Below.refl _ _).alloc (Nat.le_refl _) _, box_at w t _ 0 _ rfl, box_at w t _ 1 _ rfl, box_at w t _ 2 _ rfl, World.size_alloc _ _⟩
theorem box5_new (w : World) (t : TypeId) (x0 x1 x2 x3 x4 : Value) {W : World} (h : w.alloc (.cells #[x0, x1, x2, x3, x4] t) = W) :
    Below w.heap.size w W ∧ (W.cell? ⟨w.heap.size, 0, none⟩ = some x0 ∧ W.cell? ⟨w.heap.size, 1, none⟩ = some x1 ∧ W.cell? ⟨w.heap.size, 2, none⟩ = some x2 ∧ W.cell? ⟨w.heap.size, 3, none⟩ = some x3 ∧ W.cell? ⟨w.heap.size, 4, none⟩ = some x4) ∧ W.heap.size = w.heap.size + 1 := by
  subst h
  exact ⟨(Below.refl _ _).alloc (Nat.le_refl _) _, ⟨box_at w t _ 0 _ rfl, box_at w t _ 1 _ rfl, box_at w t _ 2 _ rfl, box_at w t _ 3 _ rfl, box_at w t _ 4 _ rfl⟩, World.size_alloc _ _⟩
end Go.Proofs.Ytnemacejaiifnaa
/- The program's Right and Has: what the document asks, at any list. -/
namespace Go.Proofs.Ytnemacejaiifnaa
open Go Go.RowKit

set_option maxHeartbeats 1600000 in
set_option maxRecDepth 100000 in
theorem gright_any (v : Value) (l : List (Int × Int)) (w : World) (h : Rgs w v l) :
    Calls Try.prog 62 #[v] w (SaysG (RightR l) w) := by
  have HR := Lib.hid h
  obtain ⟨a, c, rfl, h2, h3, h4, h5, h6⟩ := h
  have hlen : l.length ≤ 9223372036854775807 := by unfold maxLen at h3; omega
  have H6 := Lib.hid h6
  clear h5 h6 h4 h2 h3
  go_enter Try.func62, Try.ntmps62
  go_wp2
  go_loopw [3, 8] (fun u i wr => ∃ m : Nat, m ≤ l.length ∧ i = .int .i64 m ∧ u = .int .i32 (endOf 0 (l.take m)) ∧ Below w.heap.size w wr ∧ RightR (l.take m)) (fun _ i _ => l.length - (intOf i).toNat)
  case atStart => exact ⟨0, Nat.zero_le _, rfl, rfl, Below.refl _ _, by simp [RightR, RightFrom]⟩
  case round =>
    obtain ⟨m, hm, rfl, rfl, hB, hR⟩ := hrel
    have HRT := Lib.hid hR; have HB := Lib.hid hB
    clear hR hB
    by_cases hlt : m < l.length
    · obtain ⟨a', c', e, q2, q3, q4, q5, q6⟩ := HR.out.below HB.out
      injection e with e1 e2 e3
      subst e1 e3
      rcases q5 with q5 | ⟨b, o, rfl, hc⟩
      · rw [q5] at hlt
        simp at hlt
      obtain ⟨c1, c2⟩ := hc m hlt
      have hE := end_take l m (by omega)
      have hi := H6.out _ (List.getElem_mem hlt)
      have hsp := right_split l m hlt
      obtain ⟨x, hx⟩ : ∃ x, l[m] = x := ⟨_, rfl⟩
      rw [hx] at c1 c2 hsp hE hi
      obtain ⟨x1, x2⟩ := x
      obtain ⟨ee, hee⟩ : ∃ ee, endOf 0 (l.take m) = ee := ⟨_, rfl⟩
      rw [hee] at hsp ⊢
      simp only at c1 c2 hsp hE hi
      unfold I32 at hi
      have HS := Lib.hid hsp; have HEE := Lib.hid hee; have HE := Lib.hid hE
      have hB1 : Below w.heap.size w (wr.alloc (.cells #[.int .i32 x1, .int .i32 x2] 131)) := HB.out.alloc HB.out.size _
      have HB1 := Lib.hid hB1
      clear hsp hc hx hee hE hB1 q6
      have bad : ¬ (ee ≤ x1 ∧ x1 ≤ x2 ∧ x2 ≤ 1114111) → ¬ RightR l := fun hb hr => hb (HS.out.1 (right_part l (m + 1) hr)).2
      by_cases q0 : x1 < ee
      · go_wp2
        go_ret
        have hno : ¬ RightR l := bad (by omega)
        exact ⟨false, rfl, ⟨fun h => (by cases h), fun h => (by first | exact h.elim | exact absurd h hno)⟩, HB1.out⟩
      · by_cases q1 : x2 < x1
        · go_wp2
          go_ret
          have hno : ¬ RightR l := bad (by omega)
          exact ⟨false, rfl, ⟨fun h => (by cases h), fun h => (by first | exact h.elim | exact absurd h hno)⟩, HB1.out⟩
        · by_cases q2 : 1114111 < x2
          · go_wp2
            go_ret
            have hno : ¬ RightR l := bad (by omega)
            exact ⟨false, rfl, ⟨fun h => (by cases h), fun h => (by first | exact h.elim | exact absurd h hno)⟩, HB1.out⟩
          · go_wp2
            go_roundw
            case rel => exact ⟨m + 1, by omega, by go_num, by rw [HE.out], HB1.out, HS.out.2 ⟨HRT.out, by omega⟩⟩
            case measure => simp [intOf]; omega
    · have e : l.take m = l := List.take_of_length_le (by omega)
      have hr := HRT.out
      rw [e] at hr
      have HRR := Lib.hid hr
      clear hr e
      go_wp2
      go_ret
      exact ⟨true, rfl, by simp [HRR.out], HB.out⟩

end Go.Proofs.Ytnemacejaiifnaa
