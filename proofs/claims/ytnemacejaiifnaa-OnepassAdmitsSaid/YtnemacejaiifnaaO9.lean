/- Texts merged by program: PgRow, OeWays, OeEach, OeKeep, OeRunB, OeEnd, OeThru, OeAnch, OeLead, OeHas, OePassM, OePass1, OeCome, OeQueue. No condition. -/
import Derived.Test.YtnemacejaiifnaaO8
import Derived.Test.YtnemacejaiifnaaO1
import Derived.Test.YtnemacejaiifnaaO7
import Derived.Test.YtnemacejaiifnaaO3
import Derived.Maps.AppendAt
import Derived.Deep.RegionLaw
import Derived.Deep.RegionHeld3
import Derived.Deep.RegionWith
set_option linter.unusedVariables false
set_option linter.unusedSimpArgs false
/- Own rows of ints: cut, set, appended to with the place of the new row; the library's Clone and Reverse of ints. -/
namespace Go.Proofs.Ytnemacejaiifnaa
open Go Go.RowKit

theorem OwnZ.take {w : World} {B : Nat} {A : Option Addr} {n c : Nat} {l : List Int} (h : OwnZ w B (.slice A n c) l) (k : Nat) (hk : k ≤ l.length) : OwnZ w B (.slice A k c) (l.take k) := by
  obtain ⟨⟨h0, h1⟩, h2⟩ := h
  have hl : (l.take k).length = k := by rw [List.length_take]; omega
  refine ⟨⟨by rw [litsZ_length, Nat.mul_one], ?_⟩, fun x hx => h2 x (List.mem_of_mem_take hx)⟩
  rcases h1 with ⟨e, h1⟩ | ⟨g, cap, cur, e, hb, hh, hn, hm, hs, ht⟩
  · injection e with e1 e2 e3
    subst e1 e2 e3
    have : k = 0 := by omega
    subst this
    exact .inl ⟨rfl, rfl⟩
  · injection e with e1 e2 e3
    subst e1 e2 e3
    refine .inr ⟨g, c, cur, by rw [hl], hb, hh, by omega, hm, hs, ?_⟩
    rw [hl]
    have h3 : litsZ (l.take k) = (litsZ l).take k := by simp [litsZ, List.map_take]
    rw [h3, ← ht, List.take_take, Nat.mul_one, Nat.min_eq_left (by omega)]
theorem OwnZ.len {w : World} {B n c : Nat} {A : Option Addr} {l : List Int} (h : OwnZ w B (.slice A n c) l) : n = l.length := by
  rcases h.1.2 with ⟨e, h1⟩ | ⟨g, cap, cur, e, _⟩
  · injection e with e1 e2 e3
    omega
  · injection e with e1 e2 e3
theorem OwnZ.block {w : World} {B g n c : Nat} {l : List Int} (h : OwnZ w B (.slice (some ⟨g, 0, none⟩) n c) l) : ∃ cs, Whole w g 3 cs ∧ l.length ≤ cs.size ∧ B ≤ g ∧ cs.size = c := by
  rcases h.1.2 with ⟨e, _⟩ | ⟨g', cap, cur, e, hb, hh, hn, hm, hs, ht⟩
  · cases e
  · injection e with e1 e2 e3
    injection e1 with e1
    injection e1 with e1
    subst e1 e3
    exact ⟨cur, hh, by omega, hb, by omega⟩
theorem OwnZ.at' {w : World} {B g n c : Nat} {l : List Int} (h : OwnZ w B (.slice (some ⟨g, 0, none⟩) n c) l) (i : Nat) (hi : i < l.length) : w.cell? ⟨g, i, none⟩ = some (.int .i64 l[i]) ∧ w.frozen? ⟨g, i, none⟩ = false := by
  obtain ⟨cs, hw, _⟩ := h.block
  have h1 := h.1.cells (g := g) (by rw [h.len]; rfl) _ _ (litsZ_get l i hi)
  rw [addr_ofZ, Nat.zero_add] at h1
  exact ⟨h1, hw.free i⟩
theorem OwnZ.set {w : World} {B g n c : Nat} {l : List Int} (h : OwnZ w B (.slice (some ⟨g, 0, none⟩) n c) l) (i : Nat) (hi : i < l.length) (x : Int) (hx : R64 x) : OwnZ (w.setCell ⟨g, i, none⟩ (.int .i64 x)) B (.slice (some ⟨g, 0, none⟩) n c) (l.set i x) := by
  obtain ⟨⟨h0, h1⟩, h2⟩ := h
  refine ⟨⟨by rw [litsZ_length, Nat.mul_one], ?_⟩, fun y hy => ?_⟩
  · rcases h1 with ⟨e, _⟩ | ⟨g', cap, cur, e, hb, hh, hn, hm, hs, ht⟩
    · cases e
    · injection e with e1 e2 e3
      injection e1 with e1
      injection e1 with e1
      subst e1 e2 e3
      refine .inr ⟨g, c, cur.setIfInBounds i (.int .i64 x), by rw [List.length_set], hb, Whole.store hh i _, by rw [List.length_set]; exact hn, hm, by simpa using hs, ?_⟩
      have h3 : litsZ (l.set i x) = (litsZ l).set i (.int .i64 x) := by simp [litsZ, List.map_set]
      rw [h3, ← ht, List.length_set, Array.toList_setIfInBounds, List.take_set]
  · rcases List.mem_or_eq_of_mem_set hy with hy | rfl
    · exact h2 y hy
    · exact hx
def CloneZ (l : List Int) (w : World) (e : Ending) (w' : World) : Prop := ∃ v, e = .returned v ∧ OwnZ w' w.heap.size v l ∧ Below w.heap.size w w'
set_option maxHeartbeats 1600000 in
set_option maxRecDepth 100000 in
theorem cloneZ_any (v : Value) (l : List Int) (w : World) (h : Zs w v l) (hlen : l.length ≤ 17592186044416) : Calls Try.prog 86 #[v] w (CloneZ l w) := by
  have H0 := Lib.hid h
  obtain ⟨A, c, rfl, h2, h3, h4, h5, h6⟩ := h
  rcases A with _ | ad
  · have hc := h4 rfl
    have hl : l = [] := List.eq_nil_of_length_eq_zero (by omega)
    subst hl hc
    have he : ∀ w : World, (binOp .eql 38 (.slice none 0 0) (.slice none 0 0)).run Try.prog w = .ok (.bool true) w := fun _ => rfl
    clear h5 h6 h4 H0
    go_enter Try.func86, Try.ntmps86
    go_wp2_with fail
    go_ret
    exact ⟨_, rfl, ownZ_none _ _, Below.refl _ _⟩
  · obtain ⟨n, hn⟩ : ∃ n, l.length = n := ⟨_, rfl⟩
    rw [hn] at H0 hlen ⊢
    have he : ∀ w : World, (binOp .eql 38 (.slice (some ad) n c) (.slice none 0 0)).run Try.prog w = .ok (.bool false) w := fun _ => rfl
    have HN := Lib.hid hn
    clear h5 h6 h4 h2 hn
    have HO1 := Lib.hid (ownZ_lit w w.heap.size (Nat.le_refl _) [] 0 #[] rfl rfl (Nat.zero_le _) (by simp))
    have hb1 : Below w.heap.size w (w.alloc (.cells #[] 3)) := (Below.refl _ _).alloc (Nat.le_refl _) _
    have HB1 := Lib.hid hb1; have HR1 := Lib.hid (H0.out.below hb1)
    clear hb1
    go_enter Try.func86, Try.ntmps86
    go_wp2_with (at_builtin; refine append_zs rfl (.tmp 5) (.tmp 6) rfl w.heap.size _ [] rfl HO1.out (some ad) n c l rfl HR1.out (by have := HN.out; simp; omega) (by simp) ?_; intro v2 w2 ho2 hg2; have HO2 := Lib.hid ho2; have HG2 := Lib.hid hg2; clear ho2 hg2)
    go_ret
    exact ⟨v2, rfl, HO2.out, HB1.out.grown HG2.out HB1.out.size (fun j e => by cases e; exact Nat.le_refl _)⟩
def RevZ (B : Nat) (v : Value) (l : List Int) (w : World) (e : Ending) (w' : World) : Prop := e = .returned (.tuple #[]) ∧ OwnZ w' B v l.reverse ∧ w.grownBy w' v.ownBlock
theorem grown_set (w : World) (g j : Nat) (u : Value) : w.grownBy (w.setCell ⟨g, j, none⟩ u) (some g) :=
  ⟨rfl, rfl, rfl, by simp [World.setCell], fun k _ hk => Below.heap_setCell w _ u k (fun e => hk (by rw [e]))⟩
theorem grown_step {w w1 w2 : World} {r : Option Nat} (h1 : w.grownBy w1 r) (h2 : w1.grownBy w2 r) : w.grownBy w2 r :=
  ⟨h2.os.trans h1.os, h2.tape.trans h1.tape, h2.output.trans h1.output, Nat.le_trans h1.size h2.size, fun k hk hn => (h2.block k (Nat.lt_of_lt_of_le hk h1.size) hn).trans (h1.block k hk hn)⟩
theorem grown_below {w w' : World} {r : Option Nat} (h : Below w.heap.size w w') : w.grownBy w' r := ⟨h.os, h.tape, h.output, h.size, fun k hk _ => h.block k hk⟩
/-- Where a row lies that one int has been put behind: where it lay, or in a new block. -/
theorem own_place {w : World} {B : Nat} {v : Value} {O : List Int} (hown : OwnZ w B v O) (ty : TypeId) (b : Nat) (r : Int) (hc : w.cell? ⟨b, 0, none⟩ = some (.int .i64 r)) (hn : O.length + 1 ≤ 20000000000000) {v' : Value} {w' : World}
    (hr : (Builtin.append_ #[38, 38] ty #[v, .slice (some ⟨b, 0, none⟩) 1 1]).run Try.prog w = .ok v' w') : v'.ownBlock = v.ownBlock ∨ v'.ownBlock = some w.heap.size := by
  obtain ⟨i, hi, hz, hsize, hby⟩ := info_parts info_int8
  have hnews : ∀ j u, ([.int .i64 r] : List Value)[j]? = some u → w.cell? ((⟨b, 0, none⟩ : Addr).add j) = some u := fun j u hu => by
    match j, hu with
    | 0, hu => simp at hu; subst hu; rw [addr_ofZ]; exact hc
    | j + 1, hu => simp at hu
  have hl : ([.int .i64 r] : List Value).length = 1 * i.size := by rw [hsize]; rfl
  obtain ⟨⟨h0, h1⟩, h2⟩ := hown
  rcases h1 with ⟨rfl, h1⟩ | ⟨g, cap, cur, rfl, hb, hh, hnc, hm, hs, ht⟩
  · have := run_append_nil (P := Try.prog) w 38 ty 3 i _ Try.underlying38 hi hz ⟨b, 0, none⟩ 1 1 [.int .i64 r] hl hnews (by decide) (by decide) (by rw [hby]; decide)
    rw [this] at hr
    injection hr with e1 e2
    subst e1
    exact .inr rfl
  · by_cases hroom : O.length + 1 ≤ cap
    · have := run_append_room (P := Try.prog) w 38 ty 3 i Try.underlying38 hi g O.length cap cur hh ⟨b, 0, none⟩ 1 1 [.int .i64 r] hl hnews (by intro u hu; simp at hu; subst hu; rfl) hroom (by rw [hsize]; simp; omega)
      rw [this] at hr
      injection hr with e1 e2
      subst e1
      exact .inl rfl
    · have := run_append_grow (P := Try.prog) w 38 ty 3 i _ Try.underlying38 hi hz ⟨g, 0, none⟩ O.length cap (litsZ O) (by rw [litsZ_length, hsize]; simp) (World.ownsRow.cells (g := g) ⟨h0, .inr ⟨g, cap, cur, rfl, hb, hh, hnc, hm, hs, ht⟩⟩ rfl) ⟨b, 0, none⟩ 1 1 [.int .i64 r] hl hnews (by omega) (by omega) (growslice_fits_wide (by omega) (by rw [hby]; omega))
      rw [this] at hr
      injection hr with e1 e2
      subst e1
      exact .inr rfl
/-- An append of one int onto a row of the call's own, with its place. -/
theorem append_zs_at {w : World} {ops : Array Oper} {rest : List Oper} {o : Oper} {a : Act} {Q : Exit → Act → World → Prop} (hgd : o.guard = none) (x y : Operand)
    (ho : o.op = .call { callee := .builtin .append, args := #[x, y], argTypes := #[38, 38] })
    (base : Nat) (v : Value) (O : List Int) (hs : a.eval x = v) (hown : OwnZ w base v O)
    (b : Nat) (r : Int) (hx : a.eval y = .slice (some ⟨b, 0, none⟩) 1 1) (hc : w.cell? ⟨b, 0, none⟩ = some (.int .i64 r)) (hr64 : R64 r) (hn : O.length + 1 ≤ 20000000000000) (hbase : base ≤ w.heap.size)
    (h : ∀ v' w', OwnZ w' base v' (O ++ [r]) → w.grownBy w' v.ownBlock → (v'.ownBlock = v.ownBlock ∨ v'.ownBlock = some w.heap.size) → wpList Try.prog ops Q rest (a.put o.dst v') w') : wpList Try.prog ops Q (o :: rest) a w := by
  obtain ⟨i, hi, hz, hsize, hby⟩ := info_parts info_int8
  refine wpList_plain hgd fun K hK => ?_
  obtain ⟨v', w', hr, h2, h3, _⟩ := run_append_own_wide (P := Try.prog) w base 38 o.type 3 i _ 1 8 Try.underlying38 hi hz hsize hby rfl (by omega) v O.length (litsZ O) hown.1 ⟨b, 0, none⟩ 1 1 [.int .i64 r] rfl (fun j u hu => by
    match j, hu with
    | 0, hu => simp at hu; subst hu; rw [addr_ofZ]; exact hc
    | j + 1, hu => simp at hu) (by intro u hu; simp at hu; subst hu; rfl) (by unfold maxLen; omega) (by omega) hbase
  have hat := own_place hown o.type b r hc hn hr
  have ho' : OwnZ w' base v' (O ++ [r]) := ⟨by
    rw [litsZ_append, List.length_append]
    exact h2, fun y hy => (List.mem_append.1 hy).elim (hown.2 y) (fun hy => by rw [List.mem_singleton.1 hy]; exact hr64)⟩
  unfold Oper.wp execOp
  simp only [ho, resolve, invoke, builtin, Sem.run_bind, Sem.run_pure, Result.andThen_ok, List.map_toArray, List.map_cons, List.map_nil, hs, hx, hr]
  exact hK _ _ (h v' w' ho' h3 hat)
end Go.Proofs.Ytnemacejaiifnaa
/- The ways through a program as they lie in memory; one more is put ahead of what is left. No condition. -/
namespace Go.Proofs.Ytnemacejaiifnaa
open Go Go.RowKit

theorem ow_wrap (n : Int) (h : -9223372036854775808 ≤ n ∧ n ≤ 9223372036854775807) : IntKind.i64.wrap n = n := (IntWalk.i64_left n).trans (IntWalk.wrap64_in n h)
def natsO (l : List Nat) : List Int := l.map fun i : Nat => (i : Int)
theorem natsO_app (a b : List Nat) : natsO (a ++ b) = natsO a ++ natsO b := by simp [natsO]
theorem natsO_len (a : List Nat) : (natsO a).length = a.length := by simp [natsO]
theorem oown_lt {W : World} {B : Nat} {v : Value} {l : List Int} (h : OwnZ W B v l) {j : Nat} (hj : v.ownBlock = some j) : B ≤ j ∧ j < W.heap.size := by
  rcases h.1.2 with ⟨rfl, _⟩ | ⟨a, cap, cur, rfl, hb, hh, _⟩
  · simp [Value.ownBlock] at hj
  · simp [Value.ownBlock] at hj
    subst hj
    exact ⟨hb, (Array.getElem?_eq_some_iff.1 hh).1⟩
/-- The row stays where its block lies as it lay. -/
theorem oown_kept {W W' : World} {B : Nat} {v : Value} {l : List Int} (h : OwnZ W B v l) (hb : ∀ j, v.ownBlock = some j → W'.heap[j]? = W.heap[j]?) : OwnZ W' B v l := by
  refine ⟨⟨h.1.1, ?_⟩, h.2⟩
  rcases h.1.2 with hn | ⟨a, cap, cur, rfl, hb2, hh, rest⟩
  · exact .inl hn
  · exact .inr ⟨a, cap, cur, rfl, hb2, (hb a (by simp [Value.ownBlock])).trans hh, rest⟩
theorem oown_set {W : World} {B : Nat} {v : Value} {l : List Int} (h : OwnZ W B v l) (k j : Nat) (u : Value) (hne : v.ownBlock ≠ some k) : OwnZ (W.setCell ⟨k, j, none⟩ u) B v l :=
  oown_kept h fun i hi => Below.heap_setCell W _ _ i (fun e => hne (by rw [hi, e]))
theorem oset_map (l : List Int) (i : Nat) (x : Int) : ((litsZ l).toArray.setIfInBounds i (.int .i64 x)) = (litsZ (l.set i x)).toArray := by
  simp [litsZ, List.map_set]
/-- Two states of the ways' box that agree but for its round and what is left. -/
def AgreeW (cs cs' : Array Value) : Prop := cs'.size = cs.size ∧ ∀ j, j ≠ 3 → j ≠ 4 → cs'[j]? = cs[j]?
theorem AgreeW.refl (cs : Array Value) : AgreeW cs cs := ⟨rfl, fun _ _ _ => rfl⟩
theorem AgreeW.trans {a b c : Array Value} (h : AgreeW a b) (k : AgreeW b c) : AgreeW a c := ⟨k.1.trans h.1, fun j h3 h4 => (k.2 j h3 h4).trans (h.2 j h3 h4)⟩
theorem agree_set (cs : Array Value) (j : Nat) (hj : j = 3 ∨ j = 4) (u : Value) : AgreeW cs (cs.setIfInBounds j u) := by
  refine ⟨by simp, fun i h3 h4 => ?_⟩
  rw [Array.getElem?_setIfInBounds_ne (by omega)]
/-- What a step of the ways' own leaves be: all that lay, but for its box, its two tables and the row of what is left. -/
structure EStep (q gm gb : Nat) (lb lb' : Option Nat) (W W' : World) : Prop where
  size : W.heap.size ≤ W'.heap.size
  blk : ∀ k, k < W.heap.size → k ≠ q → k ≠ gm → k ≠ gb → lb ≠ some k → W'.heap[k]? = W.heap[k]?
  row : lb' = lb ∨ ∃ k, lb' = some k ∧ W.heap.size ≤ k
theorem EStep.trans {q gm gb : Nat} {l1 l2 l3 : Option Nat} {A B C : World} (h : EStep q gm gb l1 l2 A B) (k : EStep q gm gb l2 l3 B C) : EStep q gm gb l1 l3 A C := by
  refine ⟨Nat.le_trans h.size k.size, fun b hb h1 h2 h3 h4 => ?_, ?_⟩
  · have e := h.blk b hb h1 h2 h3 h4
    refine (k.blk b (Nat.lt_of_lt_of_le hb h.size) h1 h2 h3 ?_).trans e
    rcases h.row with h5 | ⟨j, h5, h6⟩
    · rw [h5]
      exact h4
    · rw [h5]
      intro e2
      injection e2 with e2
      omega
  · rcases k.row with h5 | ⟨j, h5, h6⟩
    · rw [h5]
      exact h.row
    · exact .inr ⟨j, h5, Nat.le_trans h.size h6⟩
theorem EStep.refl (q gm gb : Nat) (lb : Option Nat) (W : World) : EStep q gm gb lb lb W W := ⟨Nat.le_refl _, fun _ _ _ _ _ _ => rfl, .inl rfl⟩
theorem EStep.below {q gm gb : Nat} {lb : Option Nat} {W W' : World} (h : Below W.heap.size W W') : EStep q gm gb lb lb W W' := ⟨h.size, fun k hk _ _ _ _ => h.block k hk, .inl rfl⟩
theorem EStep.set {q gm gb : Nat} {lb : Option Nat} {W : World} {k j : Nat} (h : k = q ∨ k = gm ∨ k = gb) (u : Value) : EStep q gm gb lb lb W (W.setCell ⟨k, j, none⟩ u) :=
  ⟨Nat.le_of_eq (World.size_setCell _ _ _).symm, fun b _ h1 h2 h3 _ => Below.heap_setCell W _ _ b (by rintro rfl; rcases h with h | h | h <;> contradiction), .inl rfl⟩
/-- The ways' box q: its tables gm and gb, its round r, the row of what is left, the next one last. -/
structure WaysIn (W0 W : World) (q gm gb n : Nat) (IV : Value) (t : TypeId) (cs : Array Value) (M B : List Int) (r : Int) (lv : Value) (left : List Nat) : Prop where
  bel : Below W0.heap.size W0 W
  box : Whole W q t cs
  c0 : cs[0]? = some IV
  c1 : cs[1]? = some (.slice (some ⟨gm, 0, none⟩) n n)
  c2 : cs[2]? = some (.slice (some ⟨gb, 0, none⟩) n n)
  c3 : cs[3]? = some (.int .i64 r)
  c4 : cs[4]? = some lv
  met : Whole W gm 3 (litsZ M).toArray
  by' : Whole W gb 3 (litsZ B).toArray
  own : OwnZ W W0.heap.size lv (natsO left)
  hq : W0.heap.size ≤ q
  hgm : W0.heap.size ≤ gm
  hgb : W0.heap.size ≤ gb
  tne : t ≠ 3
  ne : gm ≠ gb
  lgm : lv.ownBlock ≠ some gm
  lgb : lv.ownBlock ≠ some gb
  lenM : M.length = n
  lenB : B.length = n
  r0 : 0 ≤ r
  low : ∀ x ∈ M, 0 ≤ x ∧ x ≤ r
  bB : ∀ x ∈ B, -1 ≤ x ∧ x ≤ 10000
section
variable {W0 W W' : World} {q gm gb n : Nat} {IV : Value} {t : TypeId} {cs : Array Value} {M B : List Int} {r : Int} {lv : Value} {left : List Nat}
theorem WaysIn.qgm (h : WaysIn W0 W q gm gb n IV t cs M B r lv left) : q ≠ gm := by
  rintro rfl
  have h1 := h.box
  have h2 := h.met
  unfold Whole at h1 h2
  rw [h1] at h2
  injection h2 with h2
  injection h2 with _ h2
  exact h.tne h2
theorem WaysIn.qgb (h : WaysIn W0 W q gm gb n IV t cs M B r lv left) : q ≠ gb := by
  rintro rfl
  have h1 := h.box
  have h2 := h.by'
  unfold Whole at h1 h2
  rw [h1] at h2
  injection h2 with h2
  injection h2 with _ h2
  exact h.tne h2
theorem WaysIn.lq (h : WaysIn W0 W q gm gb n IV t cs M B r lv left) : lv.ownBlock ≠ some q := own_whole_ne h.own.1 h.box (fun e => h.tne e.symm)
theorem WaysIn.below (h : WaysIn W0 W q gm gb n IV t cs M B r lv left) (hb : Below W.heap.size W W') : WaysIn W0 W' q gm gb n IV t cs M B r lv left :=
  ⟨h.bel.trans (hb.mono h.bel.size), h.box.below hb h.box.lt, h.c0, h.c1, h.c2, h.c3, h.c4, h.met.below hb h.met.lt, h.by'.below hb h.by'.lt, h.own.below hb, h.hq, h.hgm, h.hgb, h.tne, h.ne, h.lgm, h.lgb, h.lenM, h.lenB, h.r0, h.low, h.bB⟩
/-- A cell of the first table. -/
theorem WaysIn.putM (h : WaysIn W0 W q gm gb n IV t cs M B r lv left) (i : Nat) (x : Int) (hx : 0 ≤ x ∧ x ≤ r) : WaysIn W0 (W.setCell ⟨gm, i, none⟩ (.int .i64 x)) q gm gb n IV t cs (M.set i x) B r lv left := by
  refine ⟨h.bel.setCell (p := ⟨gm, i, none⟩) h.hgm _, h.box.far h.qgm _ _, h.c0, h.c1, h.c2, h.c3, h.c4, ?_, h.by'.far (fun e => h.ne e.symm) _ _, oown_set h.own gm i _ h.lgm, h.hq, h.hgm, h.hgb, h.tne, h.ne, h.lgm, h.lgb, by simpa using h.lenM, h.lenB, h.r0, fun y hy => ?_, h.bB⟩
  · rw [← oset_map]
    exact h.met.store i _
  · rcases List.mem_or_eq_of_mem_set hy with hy | rfl
    · exact h.low y hy
    · exact hx
/-- A cell of the other table. -/
theorem WaysIn.putB (h : WaysIn W0 W q gm gb n IV t cs M B r lv left) (i : Nat) (x : Int) (hx : -1 ≤ x ∧ x ≤ 10000) : WaysIn W0 (W.setCell ⟨gb, i, none⟩ (.int .i64 x)) q gm gb n IV t cs M (B.set i x) r lv left := by
  refine ⟨h.bel.setCell (p := ⟨gb, i, none⟩) h.hgb _, h.box.far h.qgb _ _, h.c0, h.c1, h.c2, h.c3, h.c4, h.met.far h.ne _ _, ?_, oown_set h.own gb i _ h.lgb, h.hq, h.hgm, h.hgb, h.tne, h.ne, h.lgm, h.lgb, h.lenM, by simpa using h.lenB, h.r0, h.low, fun y hy => ?_⟩
  · rw [← oset_map]
    exact h.by'.store i _
  · rcases List.mem_or_eq_of_mem_set hy with hy | rfl
    · exact h.bB y hy
    · exact hx
/-- The round goes on. -/
theorem WaysIn.putR (h : WaysIn W0 W q gm gb n IV t cs M B r lv left) (r' : Int) (hr : r ≤ r') : WaysIn W0 (W.setCell ⟨q, 3, none⟩ (.int .i64 r')) q gm gb n IV t (cs.setIfInBounds 3 (.int .i64 r')) M B r' lv left := by
  have h3 := (Array.getElem?_eq_some_iff.1 h.c3).1
  refine ⟨h.bel.setCell (p := ⟨q, 3, none⟩) h.hq _, h.box.store 3 _, ?_, ?_, ?_, ?_, ?_, h.met.far (fun e => h.qgm e.symm) _ _, h.by'.far (fun e => h.qgb e.symm) _ _, oown_set h.own q 3 _ h.lq, h.hq, h.hgm, h.hgb, h.tne, h.ne, h.lgm, h.lgb, h.lenM, h.lenB, Int.le_trans h.r0 hr, fun y hy => ⟨(h.low y hy).1, Int.le_trans (h.low y hy).2 hr⟩, h.bB⟩
  · rw [Array.getElem?_setIfInBounds_ne (by omega)]; exact h.c0
  · rw [Array.getElem?_setIfInBounds_ne (by omega)]; exact h.c1
  · rw [Array.getElem?_setIfInBounds_ne (by omega)]; exact h.c2
  · simp [h3]
  · rw [Array.getElem?_setIfInBounds_ne (by omega)]; exact h.c4
/-- The row of what is left is another one. -/
theorem WaysIn.putL (h : WaysIn W0 W q gm gb n IV t cs M B r lv left) {lv' : Value} {left' : List Nat} (hbel : Below W0.heap.size W0 W') (hq' : W'.heap[q]? = W.heap[q]?) (hgm' : W'.heap[gm]? = W.heap[gm]?) (hgb' : W'.heap[gb]? = W.heap[gb]?) (ho : OwnZ W' W0.heap.size lv' (natsO left')) (hm : lv'.ownBlock ≠ some gm) (hb : lv'.ownBlock ≠ some gb) :
    WaysIn W0 (W'.setCell ⟨q, 4, none⟩ lv') q gm gb n IV t (cs.setIfInBounds 4 lv') M B r lv' left' := by
  have h4 := (Array.getElem?_eq_some_iff.1 h.c4).1
  have hW : Whole W' q t cs := hq'.trans h.box
  have hM : Whole W' gm 3 (litsZ M).toArray := hgm'.trans h.met
  have hB : Whole W' gb 3 (litsZ B).toArray := hgb'.trans h.by'
  refine ⟨hbel.setCell (p := ⟨q, 4, none⟩) h.hq _, hW.store 4 _, ?_, ?_, ?_, ?_, ?_, hM.far (fun e => h.qgm e.symm) _ _, hB.far (fun e => h.qgb e.symm) _ _, oown_set ho q 4 _ (own_whole_ne ho.1 hW (fun e => h.tne e.symm)), h.hq, h.hgm, h.hgb, h.tne, h.ne, hm, hb, h.lenM, h.lenB, h.r0, h.low, h.bB⟩
  · rw [Array.getElem?_setIfInBounds_ne (by omega)]; exact h.c0
  · rw [Array.getElem?_setIfInBounds_ne (by omega)]; exact h.c1
  · rw [Array.getElem?_setIfInBounds_ne (by omega)]; exact h.c2
  · rw [Array.getElem?_setIfInBounds_ne (by omega)]; exact h.c3
  · simp [h4]
end
/-- What a call of lead leaves. -/
def LeadPost (W0 W : World) (q gm gb n : Nat) (IV : Value) (t : TypeId) (cs : Array Value) (M B : List Int) (r : Int) (lv : Value) (left : List Nat) (e : Ending) (W' : World) : Prop :=
  e = .returned (.tuple #[]) ∧ ∃ cs' lv', WaysIn W0 W' q gm gb n IV t cs' M B r lv' left ∧ AgreeW cs cs' ∧ EStep q gm gb lv.ownBlock lv'.ownBlock W W'
set_option maxHeartbeats 1600000 in
set_option maxRecDepth 100000 in
theorem plead_any (W0 W : World) (q gm gb n : Nat) (IV : Value) (t : TypeId) (cs : Array Value) (M B : List Int) (r : Int) (lv : Value) (left : List Nat) (h : WaysIn W0 W q gm gb n IV t cs M B r lv left) (by' : Int) (k1 : Nat) (hby : -1 ≤ by' ∧ by' ≤ 10000) (hto : k1 < n) (hn : n ≤ 10000) (hl : left.length ≤ 1000000) :
    Calls Try.prog 134 #[.pointer (some ⟨q, 0, none⟩), .int .i64 by', .int .i64 k1] W (LeadPost W0 W q gm gb n IV t cs M (B.set k1 by') r lv (left ++ [k1])) := by
  have H := Lib.hid h
  have q2 : W.cell? ⟨q, 2, none⟩ = some (.slice (some ⟨gb, 0, none⟩) n n) := (h.box.cell 2).trans h.c2
  have z0 := h.by'.free k1
  have hlb : k1 < B.length := by rw [h.lenB]; exact hto
  obtain ⟨b0, d0⟩ : ∃ b0, W.cell? ⟨gb, k1, none⟩ = some (.int .i64 b0) := ⟨B[k1], by
    rw [h.by'.cell k1]
    simp [litsZ, hlb]⟩
  have htz : (k1 : Int) < (n : Int) := by omega
  have h1 := h.putB k1 by' hby
  have e1 : EStep q gm gb lv.ownBlock lv.ownBlock W (W.setCell ⟨gb, k1, none⟩ (.int .i64 by')) := EStep.set (.inr (.inr rfl)) _
  have HL := Lib.hid hl; have HTO := Lib.hid hto; have HN := Lib.hid hn; have HBY := Lib.hid hby
  clear h hlb hby hto hn hl
  go_enter Try.func134, Try.ntmps134
  go_upto_region 1 with (fail)
  generalize W.setCell ⟨gb, k1, none⟩ (.int .i64 by') = W1 at h1 e1 ⊢
  clear q2 z0 d0 H
  have H1 := Lib.hid h1; have E1 := Lib.hid e1
  have q4 : W1.cell? ⟨q, 4, none⟩ = some lv := (h1.box.cell 4).trans h1.c4
  obtain ⟨la, lc, hlv⟩ := own_slice h1.own.1
  have hb2 : Below W1.heap.size W1 (W1.alloc (.cells #[.int .i64 (k1 : Int)] 3)) := (Below.refl _ W1).alloc (Nat.le_refl _) _
  have h2 := h1.below hb2
  have H2 := Lib.hid h2
  have HCE := Lib.hid (box_at W1 3 #[.int .i64 (k1 : Int)] 0 (.int .i64 (k1 : Int)) rfl)
  have E2 := Lib.hid (e1.trans (EStep.below (q := q) (gm := gm) (gb := gb) (lb := lv.ownBlock) hb2))
  clear h1 e1 hb2 h2 hlv
  go_wp2_with (at_builtin; refine append_zs_at rfl (.tmp 17) (.tmp 19) rfl W0.heap.size lv (natsO left) rfl H2.out.own W1.heap.size k1 rfl HCE.out ?c1 ?c2 ?c3 ?_)
  case c1 => unfold R64; have h1 := HTO.out; have h2 := HN.out; omega
  case c2 => rw [natsO_len]; have := HL.out; omega
  case c3 => exact H2.out.bel.size
  intro v' w' ho' hg' hat'
  have hbel : Below W0.heap.size W0 w' := H2.out.bel.grown hg' H2.out.bel.size (fun j hj => (oown_lt H2.out.own hj).1)
  have kq := hg'.block q H2.out.box.lt (fun e => H2.out.lq e.symm)
  have km := hg'.block gm H2.out.met.lt (fun e => H2.out.lgm e.symm)
  have kb := hg'.block gb H2.out.by'.lt (fun e => H2.out.lgb e.symm)
  have hnm : v'.ownBlock ≠ some gm := by
    rcases hat' with h | h
    · rw [h]; exact H2.out.lgm
    · rw [h]
      intro e
      injection e with e
      have := H1.out.met.lt
      omega
  have hnb : v'.ownBlock ≠ some gb := by
    rcases hat' with h | h
    · rw [h]; exact H2.out.lgb
    · rw [h]
      intro e
      injection e with e
      have := H1.out.by'.lt
      omega
  have hnew := H2.out.putL hbel kq km kb (left' := left ++ [k1]) (by rw [natsO_app]; exact ho') hnm hnb
  have z4 : w'.frozen? ⟨q, 4, none⟩ = false := Whole.free (kq.trans H2.out.box) 4
  have c4 : w'.cell? ⟨q, 4, none⟩ = some lv := (Whole.cell (kq.trans H2.out.box) 4).trans H2.out.c4
  have HNEW := Lib.hid hnew
  have E3 : Hid (EStep q gm gb lv.ownBlock v'.ownBlock W (w'.setCell ⟨q, 4, none⟩ v')) := Lib.hid (by
    refine (E2.out.trans (l3 := v'.ownBlock) ⟨hg'.size, fun k hk _ _ _ h4 => hg'.block k hk (fun e => h4 e.symm), ?_⟩).trans (EStep.set (.inl rfl) _)
    rcases hat' with h | h
    · exact .inl h
    · exact .inr ⟨_, h, Nat.le_of_eq (World.size_alloc _ _)⟩)
  obtain ⟨av, cv, hv⟩ := own_slice ho'.1
  obtain ⟨ln, hln⟩ : ∃ ln, (natsO left ++ [(k1 : Int)]).length = ln := ⟨_, rfl⟩
  rw [hln] at hv
  subst hv
  clear hbel kq km kb hnm hnb hnew ho' hg' hat' hln HCE
  go_wp2_with fail
  go_end0
  exact ⟨rfl, _, _, HNEW.out, agree_set _ 4 (.inr rfl) _, E3.out⟩
end Go.Proofs.Ytnemacejaiifnaa
/- The program's walk through the ways: what is come to is handed to a function, whatever that keeps. No condition. -/
namespace Go.Proofs.Ytnemacejaiifnaa
open Go Go.RowKit

abbrev CbO := World → Array Value → Option Nat → List (Nat × List Nat) → Prop
/-- What the function keeps stays where the walk alone turns memory. -/
def KeepC (W0 : World) (q gm gb n : Nat) (IV : Value) (t : TypeId) (Cb : CbO) : Prop :=
  ∀ ⦃W W' : World⦄ ⦃cs cs' : Array Value⦄ ⦃M B : List Int⦄ ⦃r : Int⦄ ⦃lv : Value⦄ ⦃left : List Nat⦄ ⦃lb' : Option Nat⦄ ⦃vis : List (Nat × List Nat)⦄, WaysIn W0 W q gm gb n IV t cs M B r lv left → Cb W cs lv.ownBlock vis → Whole W' q t cs' → AgreeW cs cs' → EStep q gm gb lv.ownBlock lb' W W' → Below W0.heap.size W0 W' → Cb W' cs' lb' vis
/-- What a call of the function leaves be. -/
structure CallW (gm gb : Nat) (lb : Option Nat) (W W' : World) (cs cs' : Array Value) : Prop where
  size : W.heap.size ≤ W'.heap.size
  gm : W'.heap[gm]? = W.heap[gm]?
  gb : W'.heap[gb]? = W.heap[gb]?
  row : ∀ k, lb = some k → W'.heap[k]? = W.heap[k]?
  cs : ∀ j, j < 5 → cs'[j]? = cs[j]?
def CallC (W0 : World) (q gm gb n : Nat) (IV : Value) (t : TypeId) (I : List Ins) (meets : Int → Bool) (r : Int) (g : Nat) (cap : Array Value) (Cb : CbO) (G : Prop) (V : List (Nat × List Nat)) : Prop :=
  ∀ W cs M B lv left vis x, WaysIn W0 W q gm gb n IV t cs M B r lv left → Cb W cs lv.ownBlock vis → x.1 < n → (∃ rest, vis ++ x :: rest = V) → (G → ChainB B (x.1 :: x.2)) →
    Calls Try.prog g (#[.int .i64 (x.1 : Int)] ++ cap) W fun e W' => e = .returned (.bool (tstI meets (atI I x.1))) ∧ ∃ cs', Whole W' q t cs' ∧ Below W0.heap.size W0 W' ∧ CallW gm gb lv.ownBlock W W' cs cs' ∧ Cb W' cs' lv.ownBlock (vis ++ [x])
theorem WaysIn.called {W0 W W' : World} {q gm gb n : Nat} {IV : Value} {t : TypeId} {cs cs' : Array Value} {M B : List Int} {r : Int} {lv : Value} {left : List Nat} (h : WaysIn W0 W q gm gb n IV t cs M B r lv left) (hw : Whole W' q t cs') (hb : Below W0.heap.size W0 W') (hc : CallW gm gb lv.ownBlock W W' cs cs') :
    WaysIn W0 W' q gm gb n IV t cs' M B r lv left :=
  ⟨hb, hw, (hc.cs 0 (by omega)).trans h.c0, (hc.cs 1 (by omega)).trans h.c1, (hc.cs 2 (by omega)).trans h.c2, (hc.cs 3 (by omega)).trans h.c3, (hc.cs 4 (by omega)).trans h.c4, hc.gm.trans h.met, hc.gb.trans h.by', oown_kept h.own hc.row, h.hq, h.hgm, h.hgb, h.tne, h.ne, h.lgm, h.lgb, h.lenM, h.lenB, h.r0, h.low, h.bB⟩
/-- What each tells and leaves. -/
def EachPost (W0 : World) (q gm gb n : Nat) (IV : Value) (t : TypeId) (I : List Ins) (meets : Int → Bool) (r : Int) (pc0 : Nat) (Cb : CbO) (G : Prop) (e : Ending) (W' : World) : Prop :=
  ∃ T vis, eachO meets I [(pc0, [])] (List.replicate n false) [] = (T, vis) ∧ e = .returned (.bool T) ∧ ∃ cs M B lv left, WaysIn W0 W' q gm gb n IV t cs M B (r + 1) lv left ∧ Cb W' cs lv.ownBlock vis ∧ (G → ∀ x ∈ vis, ChainB B (x.1 :: x.2))
theorem slice_own (a : Option Addr) (n c k : Nat) : (Value.slice a k c).ownBlock = (Value.slice a n c).ownBlock := by cases a <;> rfl
set_option maxHeartbeats 4000000 in
set_option maxRecDepth 100000 in
theorem peach_any (p : Pg) (W0 : World) (q gm gb n : Nat) (IV : Value) (t : TypeId) (hn : p.ins.length = n) (hI : Inss W0 IV p.ins) (hR : RightPg p) (g : Nat) (cap : Array Value)
    (eg : ∀ args w, (callFunc g args).run Try.prog w = .ok (.enter g args) w) (meets : Int → Bool) (pc0 : Nat) (hpc : pc0 < n) (r : Int) (hr : r ≤ 1000000000) (Cb : CbO) (G : Prop) (L : List (Nat × List Nat))
    (hk : KeepC W0 q gm gb n IV t Cb) (V : List (Nat × List Nat)) (hV : (eachO meets p.ins [(pc0, [])] (List.replicate n false) []).2 = V) (hc : CallC W0 q gm gb n IV t p.ins meets (r + 1) g cap Cb G V) (hG : G → Unf (nxI meets p.ins) [(pc0, [])] L ∧ (placesI L).Nodup)
    (W : World) (cs : Array Value) (M B : List Int) (lv : Value) (left : List Nat) (h : WaysIn W0 W q gm gb n IV t cs M B r lv left) (hcb : Cb W cs lv.ownBlock []) :
    Calls Try.prog 99 #[.pointer (some ⟨q, 0, none⟩), .int .i64 (pc0 : Int), .func (.func g) #[] cap] W (EachPost W0 q gm gb n IV t p.ins meets r pc0 Cb G) := by
  obtain ⟨IA, ic, hIV⟩ : ∃ A c, IV = .slice A n c := by
    obtain ⟨A, c, e, -⟩ := hI
    exact ⟨A, c, by rw [e, hn]⟩
  subst hIV
  have H := Lib.hid h; have HK := Lib.hid hk; have HC := Lib.hid hc; have HG := Lib.hid hG; have HCB := Lib.hid hcb; have HR := Lib.hid hR; have HN := Lib.hid hn; have HV := Lib.hid hV; have HIS := Lib.hid hI
  have hnb : n ≤ 10000 := by rw [← hn]; exact hR.2.1
  have HNB := Lib.hid hnb; have HPC := Lib.hid hpc
  obtain ⟨la, lc, hlv⟩ := own_slice h.own.1
  obtain ⟨ln, hln⟩ : ∃ ln, (natsO left).length = ln := ⟨_, rfl⟩
  rw [hln] at hlv
  subst hlv
  have q3 : W.cell? ⟨q, 3, none⟩ = some (.int .i64 r) := (h.box.cell 3).trans h.c3
  have z3 := h.box.free 3
  have hwr : IntKind.i64.wrap (r + 1) = r + 1 := ow_wrap _ ⟨by have := h.r0; omega, by omega⟩
  have h1 := h.putR (r + 1) (by omega)
  have e1 : EStep q gm gb (Value.slice la ln lc).ownBlock (Value.slice la ln lc).ownBlock W (W.setCell ⟨q, 3, none⟩ (.int .i64 (r + 1))) := EStep.set (.inl rfl) _
  have ROW := Lib.hid h.r0; have HRB := Lib.hid hr
  clear h hk hc hG hcb hR hn hI hnb hpc hln hr hV
  go_enter Try.func99, Try.ntmps99
  go_upto_region 1 with (fail)
  refine wp_scope_straight ?_
  go_upto_region 2 with (fail)
  clear q3 z3 hwr
  generalize W.setCell ⟨q, 3, none⟩ (.int .i64 (r + 1)) = W1 at h1 e1 ⊢
  obtain ⟨cs1, hcs1⟩ : ∃ cs1, cs.setIfInBounds 3 (.int .i64 (r + 1)) = cs1 := ⟨_, rfl⟩
  have ag1 : AgreeW cs cs1 := by rw [← hcs1]; exact agree_set cs 3 (.inl rfl) _
  rw [hcs1] at h1
  have q4 : W1.cell? ⟨q, 4, none⟩ = some (.slice la ln lc) := (h1.box.cell 4).trans h1.c4
  have z4 := h1.box.free 4
  have h2 := h1.putL (W' := W1) (lv' := .slice la 0 lc) (left' := []) h1.bel rfl rfl rfl (by have := h1.own.take 0 (by simp); simpa [natsO] using this) (by rw [slice_own la ln lc 0]; exact h1.lgm) (by rw [slice_own la ln lc 0]; exact h1.lgb)
  have e2 : EStep q gm gb (Value.slice la ln lc).ownBlock (Value.slice la 0 lc).ownBlock W (W1.setCell ⟨q, 4, none⟩ (.slice la 0 lc)) := e1.trans ⟨Nat.le_of_eq (World.size_setCell _ _ _).symm, fun b _ h1 _ _ _ => Below.heap_setCell W1 _ _ b h1, .inl (slice_own la ln lc 0)⟩
  have AG1 := Lib.hid ag1
  clear hcs1 e1 ag1
  have HB1 := Lib.hid h1.box
  clear h1
  go_upto_region 3 with (fail)
  generalize W1.setCell ⟨q, 4, none⟩ (.slice la 0 lc) = W2 at h2 e2 ⊢
  obtain ⟨cs2, hcs2⟩ : ∃ cs2, cs1.setIfInBounds 4 (.slice la 0 lc) = cs2 := ⟨_, rfl⟩
  have ag2 : AgreeW cs1 cs2 := by rw [← hcs2]; exact agree_set cs1 4 (.inr rfl) _
  rw [hcs2] at h2
  have H2 := Lib.hid h2; have E2 := Lib.hid e2; have AG2 := Lib.hid (AG1.out.trans ag2)
  have HLD := Lib.hid (plead_any W0 W2 q gm gb n _ t cs2 M B (r + 1) _ [] h2 (-1) pc0 (by omega) HPC.out HNB.out (by simp))
  clear q4 z4 hcs2 ag2 AG1 HB1 h2 e2
  go_wp2_with fail
  refine HLD.out.mono ?_
  rintro e W3 ⟨rfl, cs3, lv3, h3, ag3, e3⟩
  have H3 := Lib.hid h3; have AG3 := Lib.hid (AG2.out.trans ag3); have E3 := Lib.hid (E2.out.trans e3)
  clear h3 ag3 e3 HLD AG2 E2
  go_wp2_with fail
  refine wp_label ?_
  go_wp2_with fail
  have hcb3 : Cb W3 cs3 lv3.ownBlock [] := HK.out H.out HCB.out H3.out.box AG3.out E3.out H3.out.bel
  obtain ⟨T, hTV⟩ : ∃ T, eachO meets p.ins [(pc0, [])] (List.replicate n false) [] = (T, V) := ⟨_, by rw [← HV.out]⟩
  have hs0 : seenM (r + 1) M = List.replicate n false := by
    rw [seenM_new (fun x hx => by have := (H.out.low x hx).2; omega), H.out.lenM]
  have hg0 : G → GoodW (nxI meets p.ins) L (B.set pc0 (-1)) [(pc0, [])] [] := fun g => goodW_begin (HG.out g).1 (HG.out g).2 (by rw [H.out.lenB]; exact HPC.out)
  have HTV := Lib.hid hTV; have HS0 := Lib.hid hs0; have HG0 := Lib.hid hg0; have HCB3 := Lib.hid hcb3
  clear hTV hs0 hg0 hcb3 HCB E3 AG3 HG
  go_loopg [6] (2 * n + 2) (fun gk t6 wr => t6 = .bool false ∧ ∃ cs M B lv st vis, WaysIn W0 wr q gm gb n (.slice IA n ic) t cs M B (r + 1) lv (placesI st).reverse ∧ Cb wr cs lv.ownBlock vis ∧ eachO meets p.ins st (seenM (r + 1) M) vis = (T, V) ∧ (∀ x ∈ st, x.1 < n) ∧ (G → GoodW (nxI meets p.ins) L B st vis) ∧ 2 * (seenM (r + 1) M).count false + st.length < gk ∧ gk ≤ 2 * n + 2)
  case atStart =>
    refine ⟨rfl, cs3, M, _, lv3, [(pc0, [])], [], H3.out, HCB3.out, by rw [HS0.out]; exact HTV.out, by simpa using HPC.out, HG0.out, ?_, Nat.le_refl _⟩
    rw [HS0.out, List.count_replicate_self]
    simp
  case round =>
    clear H3 HS0 HG0 HCB3 H2 H
    obtain ⟨rfl, cs, M, B, lv, st, vis, h, hcb, hev, hst, hgw, hgk, hgn⟩ := hrel
    have H := Lib.hid h; have HCB := Lib.hid hcb; have HEV := Lib.hid hev; have HST := Lib.hid hst; have HGW := Lib.hid hgw; have HGK := Lib.hid hgk; have HGN := Lib.hid hgn
    have q4 : wr.cell? ⟨q, 4, none⟩ = some lv := (h.box.cell 4).trans h.c4
    rcases st with _ | ⟨x, st⟩
    · obtain ⟨la, lc, hlv⟩ := own_slice h.own.1
      have hl0 : (natsO (placesI ([] : List (Nat × List Nat))).reverse).length = 0 := rfl
      rw [hl0] at hlv
      subst hlv
      clear h hcb hev hst hgw hgk hgn hl0
      go_wp2_with fail
      rw [Exit.noGoto_ret]
      go_ret
      have hh := HEV.out
      rw [each_nil] at hh
      injection hh with hT hV
      subst hT hV
      exact ⟨_, _, HTV.out, rfl, _, _, _, _, _, H.out, HCB.out, fun gg => (HGW.out gg).chV⟩
    · have hpc := hst x (List.mem_cons_self ..)
      obtain ⟨pc, anc⟩ := x
      simp only at hpc
      obtain ⟨k, hk⟩ : ∃ k, st.length = k := ⟨_, rfl⟩
      have hrev : natsO (placesI ((pc, anc) :: st)).reverse = natsO (placesI st).reverse ++ [(pc : Int)] := by
        rw [show placesI ((pc, anc) :: st) = pc :: placesI st from rfl, List.reverse_cons, natsO_app]
        rfl
      have hrl : (natsO (placesI st).reverse).length = k := by rw [natsO_len, List.length_reverse, ← hk]; simp [placesI]
      have how := h.own
      rw [hrev] at how
      obtain ⟨lg, lc, hlv, hkc⟩ : ∃ g c, lv = .slice (some ⟨g, 0, none⟩) (k + 1) c ∧ k + 1 ≤ c := by
        rcases own_sliceZ how.1 with ⟨-, h0⟩ | ⟨g, c, h1, h2, -⟩
        · simp at h0
        · rw [List.length_append, hrl] at h1 h2
          exact ⟨g, c, h1, h2⟩
      subst hlv
      obtain ⟨d0, -⟩ := how.at' k (by rw [List.length_append, hrl]; simp)
      have hgt : (natsO (placesI st).reverse ++ [(pc : Int)])[k]'(by rw [List.length_append, hrl]; simp) = (pc : Int) := by
        rw [List.getElem_append_right (by omega)]
        simp [hrl]
      rw [hgt] at d0
      have hkc2 : k ≤ lc := by omega
      have hkn : k ≤ 1000000 := by have := HNB.out; simp only [List.length_cons] at hgk; omega
      have hwk : IntKind.i64.wrap (((k + 1 : Nat) : Int) - 1) = (k : Int) := by rw [ow_wrap _ ⟨by omega, by omega⟩]; omega
      have hwk2 : wrap64 ((k : Int) + 1 - 1) = (k : Int) := by rw [IntWalk.wrap64_in _ ⟨by omega, by omega⟩]; omega
      have z4 := h.box.free 4
      have h2 := h.putL (W' := wr) (lv' := .slice (some ⟨lg, 0, none⟩) k lc) (left' := (placesI st).reverse) h.bel rfl rfl rfl (by
        have := how.take k (by rw [List.length_append, hrl]; omega)
        rwa [List.take_append_of_le_length (by omega), List.take_of_length_le (by omega)] at this) h.lgm h.lgb
      have e2 : EStep q gm gb (Value.slice (some ⟨lg, 0, none⟩) (k + 1) lc).ownBlock (Value.slice (some ⟨lg, 0, none⟩) k lc).ownBlock wr (wr.setCell ⟨q, 4, none⟩ (.slice (some ⟨lg, 0, none⟩) k lc)) := EStep.set (.inl rfl) _
      have HK2 := Lib.hid hk; have HKN := Lib.hid hkn; have HPC2 := Lib.hid hpc
      clear h hcb hev hst hgw hgk hgn hrev hrl how hgt hk hpc hkc
      go_upto_region 7 with (fail)
      go_upto_region 8 with (fail)
      generalize wr.setCell ⟨q, 4, none⟩ (.slice (some ⟨lg, 0, none⟩) k lc) = W4 at h2 e2 ⊢
      obtain ⟨cs4, hcs4⟩ : ∃ cs4, cs.setIfInBounds 4 (.slice (some ⟨lg, 0, none⟩) k lc) = cs4 := ⟨_, rfl⟩
      have ag4 : AgreeW cs cs4 := by rw [← hcs4]; exact agree_set cs 4 (.inr rfl) _
      rw [hcs4] at h2
      have HCB4 := Lib.hid (HK.out H.out HCB.out h2.box ag4 e2 h2.bel)
      clear q4 z4 d0 hwk hwk2 hcs4 ag4 e2 hkc2
      obtain ⟨b, o, x, a2, s, cz, hA, hx, hmem, hsl2, hat, HFV, -, hbd, -⟩ := HIS.out.at' pc (by rw [HN.out]; exact HPC2.out)
      subst hA
      have hsd := HR.out.2.2.2.2.2.2 x hmem
      rw [HN.out] at hsd
      obtain ⟨xo, xu, xa, xs, xt⟩ := x
      simp only at HFV hbd
      have HF0 := Lib.hid HFV; have HAT := Lib.hid hat; have HSD := Lib.hid hsd
      clear hx hmem hsl2 hsd HFV hbd
      have q0 : W4.cell? ⟨q, 0, none⟩ = some (.slice (some ⟨b, o, none⟩) n ic) := (h2.box.cell 0).trans h2.c0
      have q1 : W4.cell? ⟨q, 1, none⟩ = some (.slice (some ⟨gm, 0, none⟩) n n) := (h2.box.cell 1).trans h2.c1
      have q3 : W4.cell? ⟨q, 3, none⟩ = some (.int .i64 (r + 1)) := (h2.box.cell 3).trans h2.c3
      have hml : pc < M.length := by rw [h2.lenM]; exact HPC2.out
      obtain ⟨m, hm⟩ : ∃ m, M[pc]? = some m := ⟨_, List.getElem?_eq_getElem hml⟩
      have m0 : W4.cell? ⟨gm, pc, none⟩ = some (.int .i64 m) := by
        rw [h2.met.cell pc]
        simp [litsZ, hm]
      have hnew := newB_M (r := r + 1) hm
      have hpz : (pc : Int) < (n : Int) := by have := HPC2.out; omega
      have H4 := Lib.hid h2; have HNW := Lib.hid hnew
      clear h2 hml hm hnew hat
      by_cases hmr : m = r + 1
      · have HMR : Hid (newB (seenM (r + 1) M) pc = false) := Lib.hid (by rw [HNW.out, hmr]; simp)
        subst hmr
        go_wp2_with fail
        go_big_quiet (fail)
        have hb5 := below_draws W4 nq
        have H5 := Lib.hid (H4.out.below hb5)
        have HCB5 := Lib.hid (HK.out H4.out HCB4.out H5.out.box (AgreeW.refl _) (EStep.below (q := q) (gm := gm) (gb := gb) hb5) H5.out.bel)
        clear hb5 q0 q1 q3 m0
        go_wp2_with fail
        rw [Exit.noGoto_ret]
        go_ret
        have hh := HEV.out
        rw [each_old _ _ HMR.out] at hh
        injection hh with hT hV
        subst hT hV
        exact ⟨_, _, HTV.out, rfl, _, _, _, _, _, H5.out, HCB5.out, fun gg => (HGW.out gg).chV⟩
      have HMR : Hid (newB (seenM (r + 1) M) pc = true) := Lib.hid (by rw [HNW.out]; simp [hmr])
      have hmd : (m == r + 1) = false := by simpa using hmr
      clear HNW
      go_wp2_with fail
      go_big_quiet (fail)
      have hb5 := below_draws W4 nq
      have h5 := H4.out.below hb5
      have HCB5 := HK.out H4.out HCB4.out h5.box (AgreeW.refl _) (EStep.below (q := q) (gm := gm) (gb := gb) hb5) h5.bel
      generalize W4.drewN nq = W5 at h5 HCB5 ⊢
      have HCC := Lib.hid (HC.out W5 cs4 M B _ _ vis (pc, anc) h5 HCB5 HPC2.out (by
        have hh := HEV.out
        rw [each_new _ _ HMR.out] at hh
        obtain ⟨rest, hr⟩ := each_prefix (meets := meets) (I := p.ins) (kidsI (nxI meets p.ins) (pc, anc) ++ st) ((seenM (r + 1) M).set pc true) (vis ++ [(pc, anc)])
        rw [hh] at hr
        exact ⟨rest, by rw [← show (vis ++ [(pc, anc)]) ++ rest = V from hr]; simp⟩) (fun gg => (HGW.out gg).chS _ (List.mem_cons_self ..)))
      have H5 := Lib.hid h5
      clear hb5 h5 HCB5 q0 q1 q3 m0 hmd HCB4
      go_wp2_with fail
      refine HCC.out.mono ?_
      rintro e W6 ⟨rfl, cs6, hw6, hb6, hcw6, hcb6⟩
      have H6 := Lib.hid (H5.out.called hw6 hb6 hcw6)
      have HCB6 := Lib.hid hcb6
      clear hw6 hb6 hcw6 hcb6 HCC H5 H4
      have HNEW : Hid (eachO meets p.ins (kidsI (nxI meets p.ins) (pc, anc) ++ st) ((seenM (r + 1) M).set pc true) (vis ++ [(pc, anc)]) = (T, V)) := Lib.hid (by rw [← HEV.out, each_new _ _ HMR.out])
      have HCNT : Hid (((seenM (r + 1) M).set pc true).count false + 1 = (seenM (r + 1) M).count false) := Lib.hid (newB_count HMR.out)
      -- what the rest of the round must come to, once the kids stand ahead of what is left
      have HEND : Hid (∀ (W7 : World) (cs7 : Array Value) (B7 : List Int) (lv7 : Value) (ks : List Nat), nxI meets p.ins pc = ks → WaysIn W0 W7 q gm gb n (.slice (some ⟨b, o, none⟩) n ic) t cs7 M B7 (r + 1) lv7 ((placesI st).reverse ++ ks.reverse) → Cb W7 cs7 lv7.ownBlock (vis ++ [(pc, anc)]) →
          (∀ a, a ∉ ks → B7.getD a 0 = B.getD a 0) → (∀ a ∈ ks, B7.getD a 0 = (pc : Int)) → ∃ g', g' < gk ∧ ∃ cs M B lv st vis, WaysIn W0 (W7.setCell ⟨gm, pc, none⟩ (.int .i64 (r + 1))).drew q gm gb n (.slice (some ⟨b, o, none⟩) n ic) t cs M B (r + 1) lv (placesI st).reverse ∧ Cb (W7.setCell ⟨gm, pc, none⟩ (.int .i64 (r + 1))).drew cs lv.ownBlock vis ∧ eachO meets p.ins st (seenM (r + 1) M) vis = (T, V) ∧ (∀ x ∈ st, x.1 < n) ∧ (G → GoodW (nxI meets p.ins) L B st vis) ∧ 2 * (seenM (r + 1) M).count false + st.length < g' ∧ g' ≤ 2 * n + 2) := Lib.hid (by
        intro W7 cs7 B7 lv7 ks hks h7 hcb7 hb1 hb2
        have hput0 := h7.putM pc (r + 1) ⟨by have := ROW.out; omega, Int.le_refl _⟩
        have hbd : Below (W7.setCell ⟨gm, pc, none⟩ (.int .i64 (r + 1))).heap.size (W7.setCell ⟨gm, pc, none⟩ (.int .i64 (r + 1))) (W7.setCell ⟨gm, pc, none⟩ (.int .i64 (r + 1))).drew := (Below.refl _ _).drew
        have hput := hput0.below hbd
        have hpl : (placesI (kidsI (nxI meets p.ins) (pc, anc) ++ st)).reverse = (placesI st).reverse ++ ks.reverse := by
          rw [places_kids, List.reverse_append]
          show _ ++ (nxI meets p.ins pc).reverse = _
          rw [hks]
        have h2 := nx_two meets p.ins pc
        have hc1 := HCNT.out
        have hg1 := HGK.out
        have hg2 := HGN.out
        simp only [List.length_cons] at hg1
        refine ⟨gk - 1, by omega, cs7, M.set pc (r + 1), B7, lv7, kidsI (nxI meets p.ins) (pc, anc) ++ st, vis ++ [(pc, anc)], by rw [hpl]; exact hput, HK.out h7 hcb7 hput.box (AgreeW.refl _) ((EStep.set (.inr (.inl rfl)) _).trans (EStep.below hbd)) hput.bel, by rw [seenM_set]; exact HNEW.out, fun y hy => ?_, fun gg => ?_, ?_, by omega⟩
        · rcases List.mem_append.1 hy with hy | hy
          · obtain ⟨j, hj, rfl⟩ := List.mem_map.1 hy
            rw [← HN.out]
            exact kids_lt HR.out meets hj
          · exact HST.out y (List.mem_cons_of_mem _ hy)
        · exact (HGW.out gg).step (by show ∀ a, a ∉ nxI meets p.ins pc → _; rw [hks]; exact hb1) (by show ∀ a ∈ nxI meets p.ins pc, _; rw [hks]; exact hb2)
        · rw [seenM_set]
          simp only [List.length_append, kidsI, List.length_map]
          omega)
      rw [HAT.out]
      have HGN0 : Hid (k ≤ 100000) := Lib.hid (by have h1 := HGK.out; have h2 := HGN.out; have h3 := HK2.out; have h4 := HNB.out; simp only [List.length_cons] at h1; omega)
      clear HNEW HCNT HMR HEV HST HGK HGN
      obtain ⟨k0, k1, k2, -, -⟩ := HF0.out.below H6.out.bel
      by_cases hpl : xo = 1 ∨ xo = 2 ∨ xo = 6
      · have ht : tstI meets ⟨xo, xu, xa, xs, xt⟩ = true := by
          unfold tstI
          simp only
          rw [decide_eq_false (by omega)]
          rfl
        have hks : nxI meets p.ins pc = [] := by
          unfold nxI nextI
          rw [HAT.out]
          simp only
          rw [if_neg (by omega), if_neg (by omega), if_neg (by omega)]
        rw [ht]
        have d3 : (xo == 3) = false := by simp; omega
        have d4 : (xo == 4) = false := by simp; omega
        have d5 : (xo == 5) = false := by simp; omega
        have HE := Lib.hid (HEND.out W6 cs6 B _ [] hks (by simpa using H6.out) HCB6.out (fun _ _ => rfl) (fun a ha => by simp at ha))
        have q1 : W6.cell? ⟨q, 1, none⟩ = some (.slice (some ⟨gm, 0, none⟩) n n) := (H6.out.box.cell 1).trans H6.out.c1
        have q3 : W6.cell? ⟨q, 3, none⟩ = some (.int .i64 (r + 1)) := (H6.out.box.cell 3).trans H6.out.c3
        have z1 := H6.out.met.free pc
        have hpz : (pc : Int) < (n : Int) := by have := HPC2.out; omega
        obtain ⟨m6, m0⟩ : ∃ m6, W6.cell? ⟨gm, pc, none⟩ = some m6 := by
          have : pc < (litsZ M).toArray.size := by rw [List.size_toArray, litsZ_length, H6.out.lenM]; exact HPC2.out
          exact ⟨_, (H6.out.met.cell pc).trans (Array.getElem?_eq_getElem this)⟩
        clear ht hks hpl
        go_wp2_with fail
        go_region
        go_wp2_with fail
        obtain ⟨g', hg', hrest⟩ := HE.out
        go_roundg g'
        case measure => exact hg'
        case rel => exact ⟨rfl, hrest⟩
      by_cases o4 : xo = 4
      · subst o4
        have hs4 := (sound_cap n p.caps xu xa xt xs).1 HSD.out
        obtain ⟨⟨hu0, hu1⟩, -⟩ := hs4
        obtain ⟨u, rfl⟩ := Int.eq_ofNat_of_zero_le hu0
        have HU : Hid (u < n) := Lib.hid (by omega)
        have ht : tstI meets ⟨4, (u : Int), xa, xs, xt⟩ = true := by
          unfold tstI
          simp
        have hks : nxI meets p.ins pc = [u] := by
          unfold nxI nextI
          rw [HAT.out]
          simp
        rw [ht]
        have HLD := Lib.hid (plead_any W0 W6 q gm gb n _ t cs6 M B (r + 1) _ _ H6.out (pc : Int) u ⟨by omega, by have := HPC2.out; have := HNB.out; omega⟩ HU.out HNB.out (by rw [List.length_reverse]; simp only [placesI, List.length_map]; have := HK2.out; have := HKN.out; omega))
        have HKS := Lib.hid hks
        clear ht hks hu0 hu1
        go_wp2_with fail
        refine HLD.out.mono ?_
        rintro e W7 ⟨rfl, cs7, lv7, h7, ag7, e7⟩
        have H7 := Lib.hid h7
        have HCB7 := Lib.hid (HK.out H6.out HCB6.out h7.box ag7 e7 h7.bel)
        have HUB : Hid (u < B.length) := Lib.hid (by rw [H6.out.lenB]; exact HU.out)
        have HE := Lib.hid (HEND.out W7 cs7 (B.set u (pc : Int)) lv7 [u] HKS.out h7 HCB7.out (fun a ha => getD_set_ne _ (fun e => ha (by simp [e])) _) (fun a ha => by
          obtain rfl : a = u := by simpa using ha
          exact getD_set_self HUB.out _))
        have q1 : W7.cell? ⟨q, 1, none⟩ = some (.slice (some ⟨gm, 0, none⟩) n n) := (H7.out.box.cell 1).trans H7.out.c1
        have q3 : W7.cell? ⟨q, 3, none⟩ = some (.int .i64 (r + 1)) := (H7.out.box.cell 3).trans H7.out.c3
        have z1 := H7.out.met.free pc
        have hpz : (pc : Int) < (n : Int) := by have := HPC2.out; omega
        obtain ⟨m6, m0⟩ : ∃ m6, W7.cell? ⟨gm, pc, none⟩ = some m6 := by
          have : pc < (litsZ M).toArray.size := by rw [List.size_toArray, litsZ_length, H7.out.lenM]; exact HPC2.out
          exact ⟨_, (H7.out.met.cell pc).trans (Array.getElem?_eq_getElem this)⟩
        clear h7 ag7 e7 HLD k0 k1 k2
        go_wp2_with fail
        go_region
        go_wp2_with fail
        obtain ⟨g', hg', hrest⟩ := HE.out
        go_roundg g'
        case measure => exact hg'
        case rel => exact ⟨rfl, hrest⟩
      by_cases o5 : xo = 5
      · subst o5
        have hs4 := (sound_at n p.caps xu xa xt xs).1 HSD.out
        obtain ⟨⟨hu0, hu1⟩, -⟩ := hs4
        obtain ⟨u, rfl⟩ := Int.eq_ofNat_of_zero_le hu0
        have HU : Hid (u < n) := Lib.hid (by omega)
        by_cases hme : meets xt = true
        rotate_left
        · have ht : tstI meets ⟨5, (u : Int), xa, xs, xt⟩ = false := by
            unfold tstI
            simp [hme]
          have hks : nxI meets p.ins pc = [] := by
            unfold nxI nextI
            rw [HAT.out]
            simp [hme]
          rw [ht]
          have HE := Lib.hid (HEND.out W6 cs6 B _ [] hks (by simpa using H6.out) HCB6.out (fun _ _ => rfl) (fun a ha => by simp at ha))
          have q1 : W6.cell? ⟨q, 1, none⟩ = some (.slice (some ⟨gm, 0, none⟩) n n) := (H6.out.box.cell 1).trans H6.out.c1
          have q3 : W6.cell? ⟨q, 3, none⟩ = some (.int .i64 (r + 1)) := (H6.out.box.cell 3).trans H6.out.c3
          have z1 := H6.out.met.free pc
          have hpz : (pc : Int) < (n : Int) := by have := HPC2.out; omega
          obtain ⟨m6, m0⟩ : ∃ m6, W6.cell? ⟨gm, pc, none⟩ = some m6 := by
            have : pc < (litsZ M).toArray.size := by rw [List.size_toArray, litsZ_length, H6.out.lenM]; exact HPC2.out
            exact ⟨_, (H6.out.met.cell pc).trans (Array.getElem?_eq_getElem this)⟩
          clear ht hks hme hu0 hu1
          go_wp2_with fail
          go_region
          go_wp2_with fail
          obtain ⟨g', hg', hrest⟩ := HE.out
          go_roundg g'
          case measure => exact hg'
          case rel => exact ⟨rfl, hrest⟩
        have ht : tstI meets ⟨5, (u : Int), xa, xs, xt⟩ = true := by
          unfold tstI
          simp [hme]
        have hks : nxI meets p.ins pc = [u] := by
          unfold nxI nextI
          rw [HAT.out]
          simp [hme]
        rw [ht]
        have HLD := Lib.hid (plead_any W0 W6 q gm gb n _ t cs6 M B (r + 1) _ _ H6.out (pc : Int) u ⟨by omega, by have := HPC2.out; have := HNB.out; omega⟩ HU.out HNB.out (by rw [List.length_reverse]; simp only [placesI, List.length_map]; have := HK2.out; have := HKN.out; omega))
        have HKS := Lib.hid hks
        clear ht hks hu0 hu1 hme
        go_wp2_with fail
        refine HLD.out.mono ?_
        rintro e W7 ⟨rfl, cs7, lv7, h7, ag7, e7⟩
        have H7 := Lib.hid h7
        have HCB7 := Lib.hid (HK.out H6.out HCB6.out h7.box ag7 e7 h7.bel)
        have HUB : Hid (u < B.length) := Lib.hid (by rw [H6.out.lenB]; exact HU.out)
        have HE := Lib.hid (HEND.out W7 cs7 (B.set u (pc : Int)) lv7 [u] HKS.out h7 HCB7.out (fun a ha => getD_set_ne _ (fun e => ha (by simp [e])) _) (fun a ha => by
          obtain rfl : a = u := by simpa using ha
          exact getD_set_self HUB.out _))
        have q1 : W7.cell? ⟨q, 1, none⟩ = some (.slice (some ⟨gm, 0, none⟩) n n) := (H7.out.box.cell 1).trans H7.out.c1
        have q3 : W7.cell? ⟨q, 3, none⟩ = some (.int .i64 (r + 1)) := (H7.out.box.cell 3).trans H7.out.c3
        have z1 := H7.out.met.free pc
        have hpz : (pc : Int) < (n : Int) := by have := HPC2.out; omega
        obtain ⟨m6, m0⟩ : ∃ m6, W7.cell? ⟨gm, pc, none⟩ = some m6 := by
          have : pc < (litsZ M).toArray.size := by rw [List.size_toArray, litsZ_length, H7.out.lenM]; exact HPC2.out
          exact ⟨_, (H7.out.met.cell pc).trans (Array.getElem?_eq_getElem this)⟩
        clear h7 ag7 e7 HLD k0 k1 k2
        go_wp2_with fail
        go_region
        go_wp2_with fail
        obtain ⟨g', hg', hrest⟩ := HE.out
        go_roundg g'
        case measure => exact hg'
        case rel => exact ⟨rfl, hrest⟩
      have o3 : xo = 3 := by
        have := HSD.out
        unfold SoundI at this
        simp only at this
        omega
      subst o3
      have hs3 := (sound_alt n p.caps xu xa xt xs).1 HSD.out
      obtain ⟨⟨hu0, hu1⟩, ⟨ha0, ha1⟩, -, -⟩ := hs3
      obtain ⟨u, rfl⟩ := Int.eq_ofNat_of_zero_le hu0
      obtain ⟨v, rfl⟩ := Int.eq_ofNat_of_zero_le ha0
      have HU : Hid (u < n) := Lib.hid (by omega)
      have HV : Hid (v < n) := Lib.hid (by omega)
      have ht : tstI meets ⟨3, (u : Int), (v : Int), xs, xt⟩ = true := by
        unfold tstI
        simp
      have hks : nxI meets p.ins pc = [u, v] := by
        unfold nxI nextI
        rw [HAT.out]
        simp
      rw [ht]
      have HLD := Lib.hid (plead_any W0 W6 q gm gb n _ t cs6 M B (r + 1) _ _ H6.out (pc : Int) v ⟨by omega, by have := HPC2.out; have := HNB.out; omega⟩ HV.out HNB.out (by rw [List.length_reverse]; simp only [placesI, List.length_map]; have := HK2.out; have := HKN.out; omega))
      have HKS := Lib.hid hks
      clear ht hks hu0 hu1 ha0 ha1 o4 o5 hpl
      go_wp2_with fail
      refine HLD.out.mono ?_
      rintro e W7 ⟨rfl, cs7, lv7, h7, ag7, e7⟩
      have HCB7 := Lib.hid (HK.out H6.out HCB6.out h7.box ag7 e7 h7.bel)
      have H7 := Lib.hid h7
      obtain ⟨j0, j1, j2, -, -⟩ := HF0.out.below h7.bel
      have HLE := Lib.hid (plead_any W0 W7 q gm gb n _ t cs7 M (B.set v (pc : Int)) (r + 1) _ _ h7 (pc : Int) u ⟨by omega, by have := HPC2.out; have := HNB.out; omega⟩ HU.out HNB.out (by rw [List.length_append, List.length_reverse]; simp only [placesI, List.length_map, List.length_cons, List.length_nil]; have := HK2.out; have := HPC2.out; have := HGN0.out; omega))
      clear h7 ag7 e7 HLD k0 k1 k2
      go_wp2_with fail
      refine HLE.out.mono ?_
      rintro e W8 ⟨rfl, cs8, lv8, h8, ag8, e8⟩
      have H8 := Lib.hid h8
      have HCB8 := Lib.hid (HK.out H7.out HCB7.out h8.box ag8 e8 h8.bel)
      have HUB : Hid (u < B.length ∧ v < B.length) := Lib.hid (by rw [H6.out.lenB]; exact ⟨HU.out, HV.out⟩)
      have HE := Lib.hid (HEND.out W8 cs8 ((B.set v (pc : Int)).set u (pc : Int)) lv8 [u, v] HKS.out (by simpa using h8) HCB8.out (fun a ha => by
        rw [getD_set_ne _ (fun e => ha (by simp [e])), getD_set_ne _ (fun e => ha (by simp [e]))]) (fun a ha => by
        by_cases hau : a = u
        · subst hau
          exact getD_set_self (by rw [List.length_set]; exact HUB.out.1) _
        · obtain rfl : a = v := by
            rcases List.mem_cons.1 ha with h | h
            · exact absurd h hau
            · simpa using h
          rw [getD_set_ne _ (fun e => hau e.symm), getD_set_self HUB.out.2]))
      have q1 : W8.cell? ⟨q, 1, none⟩ = some (.slice (some ⟨gm, 0, none⟩) n n) := (H8.out.box.cell 1).trans H8.out.c1
      have q3 : W8.cell? ⟨q, 3, none⟩ = some (.int .i64 (r + 1)) := (H8.out.box.cell 3).trans H8.out.c3
      have z1 := H8.out.met.free pc
      have hpz : (pc : Int) < (n : Int) := by have := HPC2.out; omega
      obtain ⟨m6, m0⟩ : ∃ m6, W8.cell? ⟨gm, pc, none⟩ = some m6 := by
        have : pc < (litsZ M).toArray.size := by rw [List.size_toArray, litsZ_length, H8.out.lenM]; exact HPC2.out
        exact ⟨_, (H8.out.met.cell pc).trans (Array.getElem?_eq_getElem this)⟩
      clear h8 ag8 e8 HLE j0 j1 j2
      go_wp2_with fail
      go_region
      go_wp2_with fail
      obtain ⟨g', hg', hrest⟩ := HE.out
      go_roundg g'
      case measure => exact hg'
      case rel => exact ⟨rfl, hrest⟩
end Go.Proofs.Ytnemacejaiifnaa
/- What a match keeps of groups: gathered from behind, along the way that one came. No condition. -/
namespace Go.Proofs.Ytnemacejaiifnaa
open Go Go.RowKit

section
variable {W0 W W' : World} {q gm gb n : Nat} {IV : Value} {t : TypeId} {cs : Array Value} {M B : List Int} {r : Int} {lv : Value} {left : List Nat}
/-- A cell of the box behind the ways'. -/
theorem WaysIn.putX (h : WaysIn W0 W q gm gb n IV t cs M B r lv left) (j : Nat) (hj : 5 ≤ j) (u : Value) : WaysIn W0 (W.setCell ⟨q, j, none⟩ u) q gm gb n IV t (cs.setIfInBounds j u) M B r lv left := by
  refine ⟨h.bel.setCell (p := ⟨q, j, none⟩) h.hq _, h.box.store j _, ?_, ?_, ?_, ?_, ?_, h.met.far (fun e => h.qgm e.symm) _ _, h.by'.far (fun e => h.qgb e.symm) _ _, oown_set h.own q j _ h.lq, h.hq, h.hgm, h.hgb, h.tne, h.ne, h.lgm, h.lgb, h.lenM, h.lenB, h.r0, h.low, h.bB⟩
  · rw [Array.getElem?_setIfInBounds_ne (by omega)]; exact h.c0
  · rw [Array.getElem?_setIfInBounds_ne (by omega)]; exact h.c1
  · rw [Array.getElem?_setIfInBounds_ne (by omega)]; exact h.c2
  · rw [Array.getElem?_setIfInBounds_ne (by omega)]; exact h.c3
  · rw [Array.getElem?_setIfInBounds_ne (by omega)]; exact h.c4
/-- Another block is turned. -/
theorem WaysIn.away (h : WaysIn W0 W q gm gb n IV t cs M B r lv left) (hb : Below W0.heap.size W0 W') (hk : ∀ k, k < W.heap.size → (k = q ∨ k = gm ∨ k = gb ∨ lv.ownBlock = some k) → W'.heap[k]? = W.heap[k]?) : WaysIn W0 W' q gm gb n IV t cs M B r lv left :=
  ⟨hb, (hk q h.box.lt (.inl rfl)).trans h.box, h.c0, h.c1, h.c2, h.c3, h.c4, (hk gm h.met.lt (.inr (.inl rfl))).trans h.met, (hk gb h.by'.lt (.inr (.inr (.inl rfl)))).trans h.by', oown_kept h.own (fun j hj => hk j (oown_lt h.own hj).2 (.inr (.inr (.inr hj)))), h.hq, h.hgm, h.hgb, h.tne, h.ne, h.lgm, h.lgb, h.lenM, h.lenB, h.r0, h.low, h.bB⟩
theorem cs_same {x : Value} {i j : Nat} (hne : j ≠ i) (h : cs[j]? = some x) (u : Value) : (cs.setIfInBounds i u)[j]? = some x := by
  rw [Array.getElem?_setIfInBounds_ne (by omega)]
  exact h
theorem cs_set {x : Value} {i : Nat} (h : cs[i]? = some x) (u : Value) : (cs.setIfInBounds i u)[i]? = some u := by
  have := (Array.getElem?_eq_some_iff.1 h).1
  simp [this]
end
/-- What keep leaves: the box but for its steps, the row that it puts into. -/
def KeepPost (W0 W : World) (q gm gb n : Nat) (IV : Value) (cs : Array Value) (M B : List Int) (r : Int) (lv : Value) (left : List Nat) (tv : Value) (c : List Int) (st : Nat) (e : Ending) (W' : World) : Prop :=
  e = .returned (.tuple #[]) ∧ ∃ cs', WaysIn W0 W' q gm gb n IV 139 cs' M B r lv left ∧ (∀ j, j ≠ 9 → cs'[j]? = cs[j]?) ∧ cs'[9]? = some (.int .i64 (st : Int)) ∧ OwnZ W' W0.heap.size tv c ∧ (∀ k, k < W.heap.size → k ≠ q → tv.ownBlock ≠ some k → W'.heap[k]? = W.heap[k]?) ∧ W'.heap.size = W.heap.size
def headZ : List Nat → Int
  | [] => -1
  | p :: _ => (p : Int)
theorem chain_next {B : List Int} {p : Nat} {ps : List Nat} (h : ChainB B (p :: ps)) : B.getD p 0 = headZ ps ∧ ChainB B ps := by
  rcases ps with _ | ⟨q, ps⟩
  · exact ⟨h, trivial⟩
  · exact h
set_option maxHeartbeats 4000000 in
set_option maxRecDepth 100000 in
theorem pkeep_any (p : Pg) (hR : RightPg p) (W0 W : World) (q gm gb n : Nat) (hn : p.ins.length = n) (IV : Value) (hI : Inss W0 IV p.ins) (cs : Array Value) (M B : List Int) (r : Int) (lv : Value) (left : List Nat) (h : WaysIn W0 W q gm gb n IV 139 cs M B r lv left)
    (tv : Value) (c : List Int) (ho : OwnZ W W0.heap.size tv c) (hc : (c.length : Int) = p.caps) (h1 : tv.ownBlock ≠ some gm) (h2 : tv.ownBlock ≠ some gb) (h3 : ∀ j, tv.ownBlock = some j → lv.ownBlock ≠ some j) (st : Nat) (hst : st ≤ 1000000000000) (h9 : cs[9]? = some (.int .i64 (st : Int)))
    (path : List Nat) (hch : ChainB B path) (hpl : path.length ≤ 10000) (hpn : ∀ a ∈ path, a < n) (j : Nat) (hj : j ≤ 1000000) :
    Calls Try.prog 148 #[.pointer (some ⟨q, 0, none⟩), tv, .int .i64 (headZ path), .int .i64 (j : Int)] W (KeepPost W0 W q gm gb n IV cs M B r lv left tv (keepI p.ins j path c) (st + path.length)) := by
  obtain ⟨IA, ic, hIV⟩ : ∃ A c, IV = .slice A n c := by
    obtain ⟨A, c, e, -⟩ := hI
    exact ⟨A, c, by rw [e, hn]⟩
  subst hIV
  obtain ⟨ta, tc, htv⟩ := own_slice ho.1
  obtain ⟨cl, hcl⟩ : ∃ cl, c.length = cl := ⟨_, rfl⟩
  rw [hcl] at htv hc
  subst htv
  have H := Lib.hid h; have HO := Lib.hid ho; have HI := Lib.hid hI; have HR := Lib.hid hR; have HN := Lib.hid hn; have HC := Lib.hid hc; have HCL := Lib.hid hcl; have H1 := Lib.hid h1; have H2 := Lib.hid h2; have H3 := Lib.hid h3; have H9 := Lib.hid h9; have HCH := Lib.hid hch; have HPL := Lib.hid hpl; have HPN := Lib.hid hpn; have HST := Lib.hid hst; have HJ := Lib.hid hj
  clear h ho hI hR hn hc hcl h1 h2 h3 h9 hch hpl hpn hst hj
  go_enter Try.func148, Try.ntmps148
  go_wp2_with fail
  go_loopg [2] (path.length + 1) (fun gk t2 wr => ∃ (ps : List Nat) (cs' : Array Value) (c' : List Int), t2 = .int .i64 (headZ ps) ∧ ps.length < gk ∧ gk ≤ path.length + 1 ∧ ChainB B ps ∧ (∀ a ∈ ps, a < n) ∧ c'.length = cl ∧ keepI p.ins j ps c' = keepI p.ins j path c ∧ WaysIn W0 wr q gm gb n (.slice IA n ic) 139 cs' M B r lv left ∧ (∀ j, j ≠ 9 → cs'[j]? = cs[j]?) ∧
      cs'[9]? = some (.int .i64 ((st + (path.length - ps.length) : Nat) : Int)) ∧ OwnZ wr W0.heap.size (.slice ta cl tc) c' ∧ (∀ k, k < W.heap.size → k ≠ q → (Value.slice ta cl tc).ownBlock ≠ some k → wr.heap[k]? = W.heap[k]?) ∧ wr.heap.size = W.heap.size ∧ ps.length ≤ path.length)
  case atStart => exact ⟨path, cs, c, rfl, Nat.lt_succ_self _, Nat.le_refl _, HCH.out, HPN.out, HCL.out, rfl, H.out, fun _ _ => rfl, by rw [Nat.sub_self]; exact H9.out, HO.out, fun _ _ _ _ => rfl, rfl, Nat.le_refl _⟩
  case round =>
    obtain ⟨ps, cs', c', rfl, hgk, hgn, hch, hpn, hcl', hkp, hw, hcs, hc9, ho, hfr, hsz, hpl⟩ := hrel
    have HW := Lib.hid hw; have HCS := Lib.hid hcs; have HO' := Lib.hid ho; have HFR := Lib.hid hfr; have HSZ := Lib.hid hsz; have HGK := Lib.hid hgk; have HGN := Lib.hid hgn; have HKP := Lib.hid hkp; have HCL' := Lib.hid hcl'; have HCH' := Lib.hid hch; have HPN' := Lib.hid hpn; have HPL' := Lib.hid hpl; have HC9 := Lib.hid hc9
    rcases ps with _ | ⟨x, ps⟩
    · clear hgk hgn hch hpn hcl' hkp hw hcs hc9 ho hfr hsz hpl
      unfold headZ
      go_wp2_with fail
      go_end0
      exact ⟨rfl, cs', HW.out, HCS.out, by simpa using HC9.out, by have := HO'.out; rw [← HKP.out]; exact this, HFR.out, HSZ.out⟩
    · obtain ⟨hnx, hch2⟩ := chain_next hch
      have hxn : x < n := hpn x (List.mem_cons_self ..)
      obtain ⟨s1, hs1⟩ : ∃ s1, st + (path.length - (x :: ps).length) = s1 := ⟨_, rfl⟩
      rw [hs1] at hc9
      have hs1b : s1 ≤ 1000000100000 := by have := HST.out; have := HPL.out; omega
      have hw1 : IntKind.i64.wrap ((s1 : Int) + 1) = (s1 : Int) + 1 := ow_wrap _ ⟨by omega, by omega⟩
      have hw2 : wrap64 ((s1 : Int) + 1) = (s1 : Int) + 1 := IntWalk.wrap64_in _ ⟨by omega, by omega⟩
      have q9 : wr.cell? ⟨q, 9, none⟩ = some (.int .i64 (s1 : Int)) := (hw.box.cell 9).trans hc9
      have z9 := hw.box.free 9
      have hput := hw.putX 9 (by omega) (.int .i64 ((s1 : Int) + 1))
      have hcs2 : ∀ j, j ≠ 9 → (cs'.setIfInBounds 9 (.int .i64 ((s1 : Int) + 1)))[j]? = cs[j]? := fun j hj => by
        rw [Array.getElem?_setIfInBounds_ne (by omega)]
        exact hcs j hj
      have hc92 := cs_set hc9 (.int .i64 ((s1 : Int) + 1))
      have hlo : OwnZ (wr.setCell ⟨q, 9, none⟩ (.int .i64 ((s1 : Int) + 1))) W0.heap.size (.slice ta cl tc) c' := oown_set ho q 9 _ (own_whole_ne ho.1 hw.box (by decide))
      have hfr2 : ∀ k, k < W.heap.size → k ≠ q → (Value.slice ta cl tc).ownBlock ≠ some k → (wr.setCell ⟨q, 9, none⟩ (.int .i64 ((s1 : Int) + 1))).heap[k]? = W.heap[k]? := fun k hk h1 h2 => (Below.heap_setCell wr _ _ k h1).trans (hfr k hk h1 h2)
      have hsz2 : (wr.setCell ⟨q, 9, none⟩ (.int .i64 ((s1 : Int) + 1))).heap.size = W.heap.size := by rw [World.size_setCell, hsz]
      obtain ⟨b, o, xi, a2, sl, cz, hA, hxi, hxm, hsl, hat, hF, -, hbd, -⟩ := HI.out.at' x (by rw [HN.out]; exact hxn)
      subst hA
      have hsd := HR.out.2.2.2.2.2.2 xi hxm
      rw [HN.out] at hsd
      obtain ⟨xo, xu, xa, xs, xt⟩ := xi
      simp only at hF
      obtain ⟨k0, -, k2, -, -⟩ := hF.below hput.bel
      have HPUT := Lib.hid hput; have HCS2 := Lib.hid hcs2; have HC92 := Lib.hid hc92; have HLO := Lib.hid hlo; have HFR2 := Lib.hid hfr2; have HSZ2 := Lib.hid hsz2; have HAT := Lib.hid hat; have HSD := Lib.hid hsd; have HNX := Lib.hid hnx; have HCH2 := Lib.hid hch2; have HXN := Lib.hid hxn; have HS1 := Lib.hid hs1
      have hxz : (x : Int) < (n : Int) := by omega
      have hx0 : (0 : Int) ≤ (x : Int) := by omega
      clear hgk hgn hch hpn hcl' hkp hw hcs hc9 ho hfr hsz hpl hput hcs2 hc92 hlo hfr2 hsz2 hat hsd hnx hch2 hxn hs1 hxi hxm hsl hF hbd
      have hhz : headZ (x :: ps) = (x : Int) := rfl
      rw [hhz]
      clear hhz
      go_upto_region 2 with (fail)
      generalize wr.setCell ⟨q, 9, none⟩ (.int .i64 ((s1 : Int) + 1)) = w2 at HPUT HLO HFR2 HSZ2 k0 k2 ⊢
      obtain ⟨cs2, hcs2⟩ : ∃ cs2, cs'.setIfInBounds 9 (.int .i64 ((s1 : Int) + 1)) = cs2 := ⟨_, rfl⟩
      rw [hcs2] at HPUT HCS2 HC92
      clear q9 z9 hw1 hw2 hcs2 hs1b
      have q0 : w2.cell? ⟨q, 0, none⟩ = some (.slice (some ⟨b, o, none⟩) n ic) := (HPUT.out.box.cell 0).trans HPUT.out.c0
      -- the row, with or without the group's place
      have hend : ∀ (w3 : World) (c3 : List Int), c3 = (if xo = 4 then c'.set xa.toNat (j : Int) else c') → WaysIn W0 w3 q gm gb n (.slice (some ⟨b, o, none⟩) n ic) 139 cs2 M B r lv left → OwnZ w3 W0.heap.size (.slice ta cl tc) c3 → (∀ k, k < W.heap.size → k ≠ q → (Value.slice ta cl tc).ownBlock ≠ some k → w3.heap[k]? = W.heap[k]?) → w3.heap.size = W.heap.size →
          ∃ g', g' < gk ∧ ∃ (ps' : List Nat) (cs' : Array Value) (c' : List Int), Value.int .i64 (headZ ps) = .int .i64 (headZ ps') ∧ ps'.length < g' ∧ g' ≤ path.length + 1 ∧ ChainB B ps' ∧ (∀ a ∈ ps', a < n) ∧ c'.length = cl ∧ keepI p.ins j ps' c' = keepI p.ins j path c ∧ WaysIn W0 w3 q gm gb n (.slice (some ⟨b, o, none⟩) n ic) 139 cs' M B r lv left ∧ (∀ j, j ≠ 9 → cs'[j]? = cs[j]?) ∧
            cs'[9]? = some (.int .i64 ((st + (path.length - ps'.length) : Nat) : Int)) ∧ OwnZ w3 W0.heap.size (.slice ta cl tc) c' ∧ (∀ k, k < W.heap.size → k ≠ q → (Value.slice ta cl tc).ownBlock ≠ some k → w3.heap[k]? = W.heap[k]?) ∧ w3.heap.size = W.heap.size ∧ ps'.length ≤ path.length := by
        intro w3 c3 hc3 hw3 ho3 hf3 hz3
        have hg := HGK.out
        have hg2 := HGN.out
        have hpl := HPL'.out
        simp only [List.length_cons] at hg hpl
        refine ⟨gk - 1, by omega, ps, cs2, c3, rfl, by omega, by omega, HCH2.out, fun a ha => HPN'.out a (List.mem_cons_of_mem _ ha), ?_, ?_, hw3, HCS2.out, ?_, ho3, hf3, hz3, by omega⟩
        · rw [hc3]
          split
          · rw [List.length_set]; exact HCL'.out
          · exact HCL'.out
        · rw [← HKP.out, hc3]
          show _ = keepI p.ins j ps (if (atI p.ins x).op = 4 then c'.set (atI p.ins x).arg.toNat (j : Int) else c')
          rw [HAT.out]
        · rw [HC92.out]
          have h5 := HS1.out
          simp only [List.length_cons] at h5
          have h6 : st + (path.length - ps.length) = s1 + 1 := by omega
          rw [h6]
          rfl
      have HEND := Lib.hid hend
      have b1 : ∀ w3 : World, w3.heap[q]? = w2.heap[q]? → w3.cell? ⟨q, 2, none⟩ = some (.slice (some ⟨gb, 0, none⟩) n n) := fun w3 e => by
        have := (HPUT.out.box.cell 2).trans HPUT.out.c2
        rw [World.cell?_of_block (w := w2) (w' := w3) (a := ⟨q, 2, none⟩) e]
        exact this
      have hxb : x < B.length := by rw [HPUT.out.lenB]; exact HXN.out
      have b2 : ∀ w3 : World, w3.heap[gb]? = w2.heap[gb]? → w3.cell? ⟨gb, x, none⟩ = some (.int .i64 (headZ ps)) := fun w3 e => by
        rw [World.cell?_of_block (w := w2) (w' := w3) (a := ⟨gb, x, none⟩) e, HPUT.out.by'.cell x, ← HNX.out]
        simp [litsZ, hxb]
      have HB1 := Lib.hid b1; have HB2 := Lib.hid b2
      clear hend b1 b2 hxb
      by_cases o4 : xo = 4
      · subst o4
        have hs4 := (sound_cap n p.caps xu xa xt xs).1 HSD.out
        obtain ⟨-, ⟨ha0, ha1⟩, -⟩ := hs4
        obtain ⟨a, rfl⟩ := Int.eq_ofNat_of_zero_le (show 0 ≤ xa by omega)
        have hac : a < cl := by have := HC.out; omega
        obtain ⟨tg, htg⟩ : ∃ tg, ta = some ⟨tg, 0, none⟩ := by
          rcases own_sliceZ HLO.out.1 with ⟨-, h0⟩ | ⟨g, c, h, -⟩
          · rw [HCL'.out] at h0
            omega
          · injection h with h
            exact ⟨g, h⟩
        subst htg
        have hacl : a < c'.length := by rw [HCL'.out]; exact hac
        obtain ⟨t0, zt⟩ := HLO.out.at' a hacl
        obtain ⟨x0, hx0'⟩ : ∃ x0, c'[a] = x0 := ⟨_, rfl⟩
        rw [hx0'] at t0
        have hset := HLO.out.set a hacl (j : Int) (by unfold R64; have := HJ.out; omega)
        have haz : (a : Int) < (cl : Int) := by omega
        have htq : tg ≠ q := fun e => own_whole_ne HLO.out.1 HPUT.out.box (by decide) (by rw [← e]; rfl)
        have htb : tg ≠ gb := fun e => H2.out (by rw [← e]; rfl)
        have htm : tg ≠ gm := fun e => H1.out (by rw [← e]; rfl)
        have htl : lv.ownBlock ≠ some tg := H3.out tg rfl
        have hways := HPUT.out.away (W' := w2.setCell ⟨tg, a, none⟩ (.int .i64 (j : Int))) (HPUT.out.bel.setCell (p := ⟨tg, a, none⟩) (oown_lt HLO.out rfl).1 _) (fun k hk hh => Below.heap_setCell w2 _ _ k (by
          rcases hh with rfl | rfl | rfl | hh
          · exact fun e => htq e.symm
          · exact fun e => htm e.symm
          · exact fun e => htb e.symm
          · exact fun e => htl (hh.trans (by rw [show k = tg from e]))))
        have hE := HEND.out (w2.setCell ⟨tg, a, none⟩ (.int .i64 (j : Int))) _ (by rw [if_pos rfl]; rfl) hways hset (fun k hk h1 h2 => (Below.heap_setCell w2 _ _ k (fun e => h2 (by rw [e]; rfl))).trans (HFR2.out k hk h1 h2)) (by rw [World.size_setCell]; exact HSZ2.out)
        have g1 := HB1.out (w2.setCell ⟨tg, a, none⟩ (.int .i64 (j : Int))) (Below.heap_setCell w2 _ _ q (fun e => htq e.symm))
        have g2 := HB2.out (w2.setCell ⟨tg, a, none⟩ (.int .i64 (j : Int))) (Below.heap_setCell w2 _ _ gb (fun e => htb e.symm))
        have HE := Lib.hid hE
        clear hE hset hways hacl hac ha0 ha1 hx0' htq htb htm htl
        go_upto_region 5 with (fail)
        generalize w2.setCell ⟨tg, a, none⟩ (.int .i64 (j : Int)) = w3 at HE g1 g2 ⊢
        clear t0 zt q0 k0 k2
        go_wp2_with fail
        obtain ⟨g', hg', hrest⟩ := HE.out
        go_roundg g'
        case measure => exact hg'
        case rel => exact hrest
      · have d4 : (xo == 4) = false := by simp [o4]
        have hE := HEND.out w2 _ (by rw [if_neg o4]) HPUT.out HLO.out HFR2.out HSZ2.out
        have g1 := HB1.out w2 rfl
        have g2 := HB2.out w2 rfl
        have HE := Lib.hid hE
        clear hE o4 k2
        go_wp2_with fail
        obtain ⟨g', hg', hrest⟩ := HE.out
        go_roundg g'
        case measure => exact hg'
        case rel => exact hrest
end Go.Proofs.Ytnemacejaiifnaa
/- What a run keeps beside its ways: its text, its two fits, its steps; an append of numbers onto a row of the call's own. No condition. -/
namespace Go.Proofs.Ytnemacejaiifnaa
open Go Go.RowKit

structure RunB (W0 W : World) (q gm gb : Nat) (cs : Array Value) (lb : Option Nat) (caps : Nat) (iv : Value) (long : Bool) (fv : Value) (fit : List Int) (mv : Value) (got : Option (List Int)) (steps : Nat) : Prop where
  c5 : cs[5]? = some iv
  c6 : cs[6]? = some (.bool long)
  c7 : cs[7]? = some fv
  c8 : cs[8]? = some mv
  c9 : cs[9]? = some (.int .i64 (steps : Int))
  ownF : OwnZ W W0.heap.size fv fit
  lenF : fit.length = caps
  ownM : OwnZ W W0.heap.size mv (got.getD [])
  nilM : got = none → mv = .slice none 0 0
  lenM : ∀ m, got = some m → m.length = caps
  fgm : fv.ownBlock ≠ some gm
  fgb : fv.ownBlock ≠ some gb
  mgm : mv.ownBlock ≠ some gm
  mgb : mv.ownBlock ≠ some gb
  fl : ∀ j, fv.ownBlock = some j → lb ≠ some j
  ml : ∀ j, mv.ownBlock = some j → lb ≠ some j
  fm : ∀ j, fv.ownBlock = some j → mv.ownBlock ≠ some j
section
variable {W0 W W' : World} {q gm gb : Nat} {cs cs' : Array Value} {lb lb' : Option Nat} {caps : Nat} {iv : Value} {long : Bool} {fv : Value} {fit : List Int} {mv : Value} {got : Option (List Int)} {steps : Nat}
theorem RunB.kept (h : RunB W0 W q gm gb cs lb caps iv long fv fit mv got steps) (hb : ∀ k, (fv.ownBlock = some k ∨ mv.ownBlock = some k) → W'.heap[k]? = W.heap[k]?) (hcs : ∀ j, 5 ≤ j → cs'[j]? = cs[j]?) (hl : ∀ k, lb' = some k → lb = some k ∨ W.heap.size ≤ k) :
    RunB W0 W' q gm gb cs' lb' caps iv long fv fit mv got steps := by
  have hn : ∀ {v : Value} {l : List Int}, OwnZ W W0.heap.size v l → (∀ j, v.ownBlock = some j → lb ≠ some j) → ∀ j, v.ownBlock = some j → lb' ≠ some j := fun ho hne j hj e => by
    rcases hl j e with h1 | h1
    · exact hne j hj h1
    · have := (oown_lt ho hj).2
      omega
  exact ⟨(hcs 5 (by omega)).trans h.c5, (hcs 6 (by omega)).trans h.c6, (hcs 7 (by omega)).trans h.c7, (hcs 8 (by omega)).trans h.c8, (hcs 9 (by omega)).trans h.c9, oown_kept h.ownF (fun j hj => hb j (.inl hj)), h.lenF, oown_kept h.ownM (fun j hj => hb j (.inr hj)), h.nilM, h.lenM, h.fgm, h.fgb, h.mgm, h.mgb, hn h.ownF h.fl, hn h.ownM h.ml, h.fm⟩
/-- The steps are others. -/
theorem RunB.steps' (h : RunB W0 W q gm gb cs lb caps iv long fv fit mv got steps) {t : TypeId} (hw : Whole W q t cs) (ht : t ≠ 3) (s : Nat) : RunB W0 (W.setCell ⟨q, 9, none⟩ (.int .i64 (s : Int))) q gm gb (cs.setIfInBounds 9 (.int .i64 (s : Int))) lb caps iv long fv fit mv got s :=
  ⟨cs_same (by decide) h.c5 _, cs_same (by decide) h.c6 _, cs_same (by decide) h.c7 _, cs_same (by decide) h.c8 _, cs_set h.c9 _, oown_set h.ownF q 9 _ (own_whole_ne h.ownF.1 hw (fun e => ht e.symm)), h.lenF, oown_set h.ownM q 9 _ (own_whole_ne h.ownM.1 hw (fun e => ht e.symm)), h.nilM, h.lenM, h.fgm, h.fgb, h.mgm, h.mgb, h.fl, h.ml, h.fm⟩
theorem RunB.step (h : RunB W0 W q gm gb cs lb caps iv long fv fit mv got steps) {l2 : Option Nat} (hq : ∀ v : Value, (v = fv ∨ v = mv) → v.ownBlock ≠ some q) (ha : AgreeW cs cs') (he : EStep q gm gb lb l2 W W') : RunB W0 W' q gm gb cs' l2 caps iv long fv fit mv got steps := by
  refine h.kept (fun k hk => ?_) (fun j hj => ha.2 j (by omega) (by omega)) (fun k hk => ?_)
  · rcases hk with hk | hk
    · exact he.blk k (oown_lt h.ownF hk).2 (fun e => hq fv (.inl rfl) (by rw [hk, e])) (fun e => h.fgm (by rw [hk, e])) (fun e => h.fgb (by rw [hk, e])) (h.fl k hk)
    · exact he.blk k (oown_lt h.ownM hk).2 (fun e => hq mv (.inr rfl) (by rw [hk, e])) (fun e => h.mgm (by rw [hk, e])) (fun e => h.mgb (by rw [hk, e])) (h.ml k hk)
  · rcases he.row with e | ⟨j, e, hj⟩
    · exact .inl (by rw [← e]; exact hk)
    · rw [e] at hk
      injection hk with hk
      exact .inr (by omega)
theorem RunB.ne (h : RunB W0 W q gm gb cs lb caps iv long fv fit mv got steps) {b : Nat} {t : TypeId} {ds : Array Value} (hw : Whole W b t ds) (ht : t ≠ 3) : ∀ v : Value, (v = fv ∨ v = mv) → v.ownBlock ≠ some b := by
  rintro v (rfl | rfl)
  · exact own_whole_ne h.ownF.1 hw (fun e => ht e.symm)
  · exact own_whole_ne h.ownM.1 hw (fun e => ht e.symm)
end
/-- An append of a row onto a row of the call's own, as one operation of a region that draws its order. -/
theorem step_append_zall {w : World} {ops : Array Oper} {o : Oper} {a : Act} {Kk : Act → World → Prop} {Q : Exit → Act → World → Prop} {E : Prop} (hgd : o.guard = none) (x y : Operand)
    (ho : o.op = .call { callee := .builtin .append, args := #[x, y], argTypes := #[38, 38] })
    (base : Nat) (v : Value) (O : List Int) (hs : a.eval x = v) (hown : OwnZ w base v O)
    (b m c : Nat) (K : List Int) (hx : a.eval y = .slice (some ⟨b, 0, none⟩) m c) (hm : K.length = m) (hc : ∀ (j : Nat) (h : j < K.length), w.cell? ⟨b, j, none⟩ = some (.int .i64 K[j])) (hr : ∀ k ∈ K, R64 k) (hn : O.length + K.length ≤ 4398046511104) (hbase : base ≤ w.heap.size)
    (h : ∀ v' w', OwnZ w' base v' (O ++ K) → w.grownBy w' v.ownBlock → (v'.ownBlock = v.ownBlock ∨ v'.ownBlock = some w.heap.size) → Kk (a.put o.dst v') w') :
    if Region.wanted o (yielded ops a.tmps) = true then Oper.wp Try.prog o a w Kk Q else E := by
  have hw : Region.wanted o (yielded ops a.tmps) = true := by
    unfold Region.wanted
    rw [hgd]
  rw [if_pos hw]
  obtain ⟨i, hi, hz, hsize, hby⟩ := info_parts info_int8
  have hnw : ∀ j u, (litsZ K)[j]? = some u → w.cell? ((⟨b, 0, none⟩ : Addr).add j) = some u := fun j u hu => by
    have hadd : (⟨b, 0, none⟩ : Addr).add j = ⟨b, j, none⟩ := by unfold Addr.add; split <;> simp_all
    rw [hadd]
    unfold litsZ at hu
    rw [List.getElem?_map] at hu
    cases hk : K[j]? with
    | none => rw [hk] at hu; cases hu
    | some q =>
      rw [hk] at hu
      obtain ⟨hj, rfl⟩ := List.getElem?_eq_some_iff.1 hk
      rw [← Option.some.inj hu]
      exact hc j hj
  obtain ⟨v', w', hr', g1, g2, -, g3⟩ := run_append_own_at (P := Try.prog) w base 38 o.type 3 i (.int .i64 0) 1 8 Try.underlying38 hi hz hsize hby rfl (by omega) v O.length (litsZ O) hown.1 ⟨b, 0, none⟩ m c (litsZ K) (by simp [litsZ, hm]) hnw (fun u hu => by obtain ⟨q, -, rfl⟩ := List.mem_map.1 hu; rfl) (by unfold maxLen; omega) (by omega) hbase
  unfold Oper.wp execOp
  simp only [ho, resolve, invoke, builtin, Sem.run_bind, Sem.run_pure, Result.andThen_ok, List.map_toArray, List.map_cons, List.map_nil, hs, hx, hr']
  refine h v' w' ⟨?_, fun k hk => (List.mem_append.1 hk).elim (hown.2 k) (hr k)⟩ g2 g3
  · unfold litsZ
    rw [List.map_append, List.length_append, hm]
    exact g1
end Go.Proofs.Ytnemacejaiifnaa
/- A match is kept: the fit is copied onto match[:0], then the groups' places along the way are put into it (the walk by gen15end.py). No condition. -/
namespace Go.Proofs.Ytnemacejaiifnaa
open Go Go.RowKit

def EndPost (W0 W : World) (q gm gb n : Nat) (IV : Value) (cs : Array Value) (M B : List Int) (r : Int) (lv : Value) (left : List Nat) (caps : Nat) (iv : Value) (long : Bool) (fv : Value) (fit : List Int) (mv : Value) (m2 : List Int) (s2 : Nat) (e : Ending) (W' : World) : Prop :=
  e = .returned (.tuple #[]) ∧ ∃ cs' mv', WaysIn W0 W' q gm gb n IV 139 cs' M B r lv left ∧ RunB W0 W' q gm gb cs' lv.ownBlock caps iv long fv fit mv' (some m2) s2 ∧ (∀ j, j < 8 → cs'[j]? = cs[j]?) ∧ W.heap.size ≤ W'.heap.size ∧ (∀ k, k < W.heap.size → k ≠ q → mv.ownBlock ≠ some k → W'.heap[k]? = W.heap[k]?) ∧ (mv'.ownBlock = mv.ownBlock ∨ ∃ k, mv'.ownBlock = some k ∧ W.heap.size ≤ k)
set_option maxHeartbeats 8000000 in
set_option maxRecDepth 100000 in
theorem pend_any (p : Pg) (hR : RightPg p) (W0 W : World) (q gm gb n : Nat) (hn : p.ins.length = n) (IV : Value) (hI : Inss W0 IV p.ins) (cs : Array Value) (M B : List Int) (r : Int) (lv : Value) (left : List Nat) (h : WaysIn W0 W q gm gb n IV 139 cs M B r lv left)
    (caps : Nat) (iv : Value) (long : Bool) (fv : Value) (fit : List Int) (mv : Value) (got : Option (List Int)) (st : Nat) (hb : RunB W0 W q gm gb cs lv.ownBlock caps iv long fv fit mv got st) (hc : (caps : Int) = p.caps) (hc2 : 2 ≤ caps) (hc3 : caps ≤ 100000000) (hst : st ≤ 100000000000)
    (x : Nat × List Nat) (hch : ChainB B (x.1 :: x.2)) (hpl : x.2.length < 10000) (hpn : ∀ a ∈ x.1 :: x.2, a < n) (j : Nat) (hj : j ≤ 1000000) (hit : isHit p.ins x.1 = true) :
    Calls Try.prog 147 #[.pointer (some ⟨q, 0, none⟩), .int .i64 (x.1 : Int), .int .i64 (j : Int)] W (EndPost W0 W q gm gb n IV cs M B r lv left caps iv long fv fit mv ((keepI p.ins j x.2 fit).set 1 (j : Int)) (st + (fit.length + (x.2.length + 1)))) := by
  have tne : 139 ≠ 3 := by decide
  obtain ⟨fg, fc, hfv⟩ : ∃ g c, fv = .slice (some ⟨g, 0, none⟩) caps c := by
    rcases own_sliceZ hb.ownF.1 with ⟨-, h0⟩ | ⟨g, c, e, -⟩
    · have := hb.lenF; omega
    · exact ⟨g, c, by rw [e, hb.lenF]⟩
  subst hfv
  have h7 := h.putX 9 (by omega) (.int .i64 ((st + caps : Nat) : Int))
  have hb7 := hb.steps' h.box tne (st + caps)
  have hk7 : ∀ k, k ≠ q → (W.setCell ⟨q, 9, none⟩ (.int .i64 ((st + caps : Nat) : Int))).heap[k]? = W.heap[k]? := fun k hk => Below.heap_setCell W _ _ k hk
  have hs7 := World.size_setCell W ⟨q, 9, none⟩ (.int .i64 ((st + caps : Nat) : Int))
  have hcs7 : ∀ j, j < 8 → (cs.setIfInBounds 9 (.int .i64 ((st + caps : Nat) : Int)))[j]? = cs[j]? := fun j hj => by rw [Array.getElem?_setIfInBounds_ne (by omega)]
  have hz : IntKind.i64.wrap ((st : Int) + (caps : Int)) = ((st + caps : Nat) : Int) := by rw [ow_wrap _ ⟨by omega, by omega⟩]; omega
  have hz2 : wrap64 ((st : Int) + (caps : Int)) = ((st + caps : Nat) : Int) := by rw [IntWalk.wrap64_in _ ⟨by omega, by omega⟩]; omega
  have q9 : W.cell? ⟨q, 9, none⟩ = some (.int .i64 (st : Int)) := (h.box.cell 9).trans hb.c9
  have q7 : W.cell? ⟨q, 7, none⟩ = some (.slice (some ⟨fg, 0, none⟩) caps fc) := (h.box.cell 7).trans hb.c7
  have z9 := h.box.free 9
  have hbd7 : Below (W.setCell ⟨q, 9, none⟩ (.int .i64 ((st + caps : Nat) : Int))).heap.size (W.setCell ⟨q, 9, none⟩ (.int .i64 ((st + caps : Nat) : Int))) (W.setCell ⟨q, 9, none⟩ (.int .i64 ((st + caps : Nat) : Int))).drew := (Below.refl _ _).drew
  have h1 := h7.below hbd7
  have hb1 : RunB W0 (W.setCell ⟨q, 9, none⟩ (.int .i64 ((st + caps : Nat) : Int))).drew q gm gb (cs.setIfInBounds 9 (.int .i64 ((st + caps : Nat) : Int))) lv.ownBlock caps iv long (.slice (some ⟨fg, 0, none⟩) caps fc) fit mv got (st + caps) := hb7.kept (fun _ _ => rfl) (fun _ _ => rfl) (fun k hk => .inl hk)
  have hk1 : ∀ k, k ≠ q → (W.setCell ⟨q, 9, none⟩ (.int .i64 ((st + caps : Nat) : Int))).drew.heap[k]? = W.heap[k]? := hk7
  have hs1 : (W.setCell ⟨q, 9, none⟩ (.int .i64 ((st + caps : Nat) : Int))).drew.heap.size = W.heap.size := hs7
  have hz0 : (st : Int) + (caps : Int) = ((st + caps : Nat) : Int) := by omega
  have HZ0 := Lib.hid hz0
  have HI := Lib.hid hI; have HR := Lib.hid hR; have HN := Lib.hid hn; have HC := Lib.hid hc; have HC2 := Lib.hid hc2; have HC3 := Lib.hid hc3; have HST := Lib.hid hst; have HCH := Lib.hid hch; have HPL := Lib.hid hpl; have HPN := Lib.hid hpn; have HJ := Lib.hid hj; have HIT := Lib.hid hit; have H1 := Lib.hid h1; have HB1 := Lib.hid hb1; have HK1 := Lib.hid hk1; have HS1 := Lib.hid hs1; have HCS1 := Lib.hid hcs7
  clear hI hR hn hc hc2 hc3 hst hch hpl hpn hj hit h7 hb7 hk7 hs7 hcs7 tne h hb h1 hb1 hk1 hs1 hbd7 hz0
  go_enter Try.func147, Try.ntmps147
  go_wp2_with fail
  go_region
  rw [HZ0.out]
  generalize (W.setCell ⟨q, 9, none⟩ (.int .i64 ((st + caps : Nat) : Int))).drew = W1 at H1 HB1 HK1 HS1 ⊢
  obtain ⟨cs1, hcs1⟩ : ∃ cs1, cs.setIfInBounds 9 (.int .i64 ((st + caps : Nat) : Int)) = cs1 := ⟨_, rfl⟩
  rw [hcs1] at H1 HB1 HCS1
  clear hz hz2 q9 q7 z9 hcs1 HZ0
  have c7 : W1.cell? ⟨q, 7, none⟩ = some (.slice (some ⟨fg, 0, none⟩) caps fc) := (H1.out.box.cell 7).trans HB1.out.c7
  have c8 : W1.cell? ⟨q, 8, none⟩ = some mv := (H1.out.box.cell 8).trans HB1.out.c8
  have HFC := Lib.hid (show ∀ (j : Nat) (h : j < fit.length), W1.cell? ⟨fg, j, none⟩ = some (.int .i64 fit[j]) from fun j h => (HB1.out.ownF.at' j h).1)
  have HKB : Hid (∀ k, (k = q ∨ k = gm ∨ k = gb ∨ lv.ownBlock = some k) → mv.ownBlock ≠ some k) := Lib.hid (by
    rintro k (rfl | rfl | rfl | e)
    · exact HB1.out.ne H1.out.box (by decide) _ (.inr rfl)
    · exact HB1.out.mgm
    · exact HB1.out.mgb
    · exact fun e2 => HB1.out.ml k e2 e)
  have HMB : Hid (∀ k, mv.ownBlock = some k → W0.heap.size ≤ k) := Lib.hid (fun k e => (oown_lt HB1.out.ownM e).1)
  obtain ⟨cv, hcv, hcb, hex⟩ : ∃ cv, OwnZ W1 W0.heap.size cv [] ∧ cv.ownBlock = mv.ownBlock ∧ ((mv = .slice none 0 0 ∧ cv = .slice none 0 0) ∨ ∃ g mn mc, mv = .slice (some ⟨g, 0, none⟩) mn mc ∧ cv = .slice (some ⟨g, 0, none⟩) 0 mc ∧ mn ≤ mc) := by
    have hm := HB1.out.ownM
    rcases own_sliceZ hm.1 with ⟨e, h0⟩ | ⟨g, c, e, hle, -⟩
    · rw [e] at hm
      exact ⟨.slice none 0 0, by have := hm.take 0 (by omega); simpa using this, by rw [e], .inl ⟨e, rfl⟩⟩
    · rw [e] at hm
      exact ⟨.slice (some ⟨g, 0, none⟩) 0 c, by have := hm.take 0 (by omega); simpa using this, by rw [e]; rfl, .inr ⟨g, _, c, e, rfl, hle⟩⟩
  have HCV := Lib.hid hcv; have HCB := Lib.hid hcb
  clear hcv hcb
  rcases hex with ⟨rfl, rfl⟩ | ⟨rg, mn, mc, rfl, rfl, hle⟩
  · go_wp2_with fail
    refine wp_region_held_drew (S := (fun W => W.cell? ⟨q, 7, none⟩ = some (.slice (some ⟨fg, 0, none⟩) caps fc))) (by kernel_rfl) c7 (fun hHeld => ?_)
    refine wpAnyH_take (i := 0) (oi := _) (v := ?_) rfl (by kernel_rfl) (by kernel_rfl) (by kernel_rfl) (fun _ _ _ h => h) (Or.inl ⟨by rfl, ?_⟩) (by assumption) ?_
    rotate_left 1
    · (intro w hSw; (try dsimp only at hSw); go_simp; (try with_reducible rfl))
    try simp only [List.getElem_toArray, List.getElem_cons_zero, List.getElem_cons_succ, Act.put, List.setIfInBounds_toArray, List.set_cons_zero, List.set_cons_succ]
    refine wpAnyH_take (i := 1) (oi := _) (v := ?_) rfl (by kernel_rfl) (by kernel_rfl) (by kernel_rfl) (fun _ _ _ h => h) (Or.inl ⟨by rfl, ?_⟩) (by assumption) ?_
    rotate_left 1
    · (intro w hSw; (try dsimp only at hSw); go_simp; (try with_reducible rfl))
    try simp only [List.getElem_toArray, List.getElem_cons_zero, List.getElem_cons_succ, Act.put, List.setIfInBounds_toArray, List.set_cons_zero, List.set_cons_succ]
    refine wpAnyH_take (i := 2) (oi := _) (v := ?_) rfl (by kernel_rfl) (by kernel_rfl) (by kernel_rfl) (fun _ _ _ h => h) (Or.inl ⟨by rfl, ?_⟩) (by assumption) ?_
    rotate_left 1
    · (intro w hSw; (try dsimp only at hSw); go_simp; (try with_reducible rfl))
    try simp only [List.getElem_toArray, List.getElem_cons_zero, List.getElem_cons_succ, Act.put, List.setIfInBounds_toArray, List.set_cons_zero, List.set_cons_succ]
    refine wpAnyH_take (i := 3) (oi := _) (v := ?_) rfl (by kernel_rfl) (by kernel_rfl) (by kernel_rfl) (fun _ _ _ h => h) (Or.inl ⟨by rfl, ?_⟩) (by assumption) ?_
    rotate_left 1
    · (intro w hSw; (try dsimp only at hSw); go_simp; (try with_reducible rfl))
    try simp only [List.getElem_toArray, List.getElem_cons_zero, List.getElem_cons_succ, Act.put, List.setIfInBounds_toArray, List.set_cons_zero, List.set_cons_succ]
    refine wpAnyH_take (i := 6) (oi := _) (v := ?_) rfl (by kernel_rfl) (by kernel_rfl) (by kernel_rfl) (fun _ _ _ h => h) (Or.inl ⟨by rfl, ?_⟩) (by assumption) ?_
    rotate_left 1
    · (intro w hSw; (try dsimp only at hSw); go_simp; (try with_reducible rfl))
    try simp only [List.getElem_toArray, List.getElem_cons_zero, List.getElem_cons_succ, Act.put, List.setIfInBounds_toArray, List.set_cons_zero, List.set_cons_succ]
    refine wpAnyH_take (i := 7) (oi := _) (v := ?_) rfl (by kernel_rfl) (by kernel_rfl) (by kernel_rfl) (fun _ _ _ h => h) (Or.inl ⟨by rfl, ?_⟩) (by assumption) ?_
    rotate_left 1
    · (intro w hSw; (try dsimp only at hSw); go_simp; (try with_reducible rfl))
    try simp only [List.getElem_toArray, List.getElem_cons_zero, List.getElem_cons_succ, Act.put, List.setIfInBounds_toArray, List.set_cons_zero, List.set_cons_succ]
    refine wpAnyH_take (i := 8) (oi := _) (v := ?_) rfl (by kernel_rfl) (by kernel_rfl) (by kernel_rfl) (fun _ _ _ h => h) (Or.inl ⟨by rfl, ?_⟩) (by assumption) ?_
    rotate_left 1
    · (intro w hSw; (try dsimp only at hSw); go_simp; (try with_reducible rfl))
    try simp only [List.getElem_toArray, List.getElem_cons_zero, List.getElem_cons_succ, Act.put, List.setIfInBounds_toArray, List.set_cons_zero, List.set_cons_succ]
    refine wpAnyH_take (i := 9) (oi := _) (v := ?_) rfl (by kernel_rfl) (by kernel_rfl) (by kernel_rfl) (fun _ _ _ h => h) (Or.inl ⟨by rfl, ?_⟩) (by assumption) ?_
    rotate_left 1
    · (intro w hSw; (try dsimp only at hSw); go_simp; (try with_reducible rfl))
    try simp only [List.getElem_toArray, List.getElem_cons_zero, List.getElem_cons_succ, Act.put, List.setIfInBounds_toArray, List.set_cons_zero, List.set_cons_succ]
    refine wpAnyH_ready (rs := [4]) (by kernel_rfl) (by simp) ?_
    refine AllReadyH.cons (o := _) rfl (fun K hK => ?_) ?_
    · go_simp
      refine hK.out _ _ c7 (fun hHeld => ?_)
      clear hK K
      try simp only [List.getElem_toArray, List.getElem_cons_zero, List.getElem_cons_succ, Act.put, List.setIfInBounds_toArray, List.set_cons_zero, List.set_cons_succ]
      refine wpAnyH_take (i := 5) (oi := _) (v := ?_) rfl (by kernel_rfl) (by kernel_rfl) (by kernel_rfl) (fun _ _ _ h => h) (Or.inl ⟨by rfl, ?_⟩) (by assumption) ?_
      rotate_left 1
      · (intro w hSw; (try dsimp only at hSw); go_simp; (try with_reducible rfl))
      try simp only [List.getElem_toArray, List.getElem_cons_zero, List.getElem_cons_succ, Act.put, List.setIfInBounds_toArray, List.set_cons_zero, List.set_cons_succ]
      refine wpAnyH_ready (rs := [10]) (by kernel_rfl) (by simp) ?_
      refine AllReadyH.cons (o := _) rfl (fun K hK => ?_) ?_
      · refine step_append_zall rfl (.tmp 23) (.tmp 27) rfl W0.heap.size (.slice none 0 0) [] rfl HCV.out fg caps fc fit rfl HB1.out.lenF HFC.out HB1.out.ownF.2 (by have := HB1.out.lenF; have := HC3.out; simp; omega) H1.out.bel.size ?_
        intro v2 w2 ho2 hg2 hat
        rw [List.nil_append] at ho2
        obtain ⟨g, c, rfl⟩ : ∃ g c, v2 = .slice (some ⟨g, 0, none⟩) caps c := by
          rcases own_sliceZ ho2.1 with ⟨-, h0⟩ | ⟨g, c, e, -⟩
          · have := HB1.out.lenF; have := HC2.out; omega
          · exact ⟨g, c, by rw [e, HB1.out.lenF]⟩
        have hg2 : W1.grownBy w2 ((.slice none 0 0) : Value).ownBlock := ⟨hg2.os, hg2.tape, hg2.output, hg2.size, hg2.block⟩
        have hk2 : ∀ k, k < W1.heap.size → ((.slice none 0 0) : Value).ownBlock ≠ some k → w2.heap[k]? = W1.heap[k]? := fun k hk e => hg2.block k hk (fun e2 => e (e2.symm))
        have h2 := H1.out.away (W' := w2) (H1.out.bel.grown hg2 H1.out.bel.size (fun k e => HMB.out k (e))) (fun k hk hh => hk2 k hk (HKB.out k hh))
        have d7 : w2.cell? ⟨q, 7, none⟩ = some (.slice (some ⟨fg, 0, none⟩) caps fc) := (h2.box.cell 7).trans HB1.out.c7
        have d8 : w2.cell? ⟨q, 8, none⟩ = some (.slice none 0 0) := (h2.box.cell 8).trans HB1.out.c8
        have f8 := h2.box.free 8
        have HF2 := Lib.hid (oown_kept (W' := w2) HB1.out.ownF (fun j hj => hk2 j (oown_lt HB1.out.ownF hj).2 (HB1.out.fm j hj)))
        have H2 := Lib.hid h2; have HV2 : Hid (OwnZ w2 W0.heap.size (.slice (some ⟨g, 0, none⟩) caps c) fit) := Lib.hid ho2; have HK2 := Lib.hid hk2; have HZ2 := Lib.hid hg2.size
        have HAT : Hid (((.slice none 0 0) : Value).ownBlock = some g ∨ g = W1.heap.size) := Lib.hid (hat.elim (fun e => .inl (e.symm)) fun e => .inr (Option.some.inj e))
        clear h2 ho2 hg2 hk2 c7 c8 hat
        refine hK.out _ _ d7 (fun hHeld => ?_)
        clear hK K
        try simp only [List.getElem_toArray, List.getElem_cons_zero, List.getElem_cons_succ, Act.put, List.setIfInBounds_toArray, List.set_cons_zero, List.set_cons_succ]
        refine wpAnyH_take (i := 11) (oi := _) (v := ?_) rfl (by kernel_rfl) (by kernel_rfl) (by kernel_rfl) (fun _ _ _ h => h) (Or.inl ⟨by rfl, ?_⟩) (by assumption) ?_
        rotate_left 1
        · (intro w hSw; (try dsimp only at hSw); go_simp; (try with_reducible rfl))
        try simp only [List.getElem_toArray, List.getElem_cons_zero, List.getElem_cons_succ, Act.put, List.setIfInBounds_toArray, List.set_cons_zero, List.set_cons_succ]
        refine wpAnyH_take (i := 12) (oi := _) (v := ?_) rfl (by kernel_rfl) (by kernel_rfl) (by kernel_rfl) (fun _ _ _ h => h) (Or.inl ⟨by rfl, ?_⟩) (by assumption) ?_
        rotate_left 1
        · (intro w hSw; (try dsimp only at hSw); go_simp; (try with_reducible rfl))
        try simp only [List.getElem_toArray, List.getElem_cons_zero, List.getElem_cons_succ, Act.put, List.setIfInBounds_toArray, List.set_cons_zero, List.set_cons_succ]
        refine wpAnyH_ready (rs := [13]) (by kernel_rfl) (by simp) ?_
        refine AllReadyH.cons (o := _) rfl (fun K hK => ?_) ?_
        · obtain ⟨w3, hw3⟩ : ∃ w3, w2.setCell ⟨q, 8, none⟩ (.slice (some ⟨g, 0, none⟩) caps c) = w3 := ⟨_, rfl⟩
          have h3 : WaysIn W0 w3 q gm gb n IV 139 (cs1.setIfInBounds 8 (.slice (some ⟨g, 0, none⟩) caps c)) M B r lv left := by rw [← hw3]; exact H2.out.putX 8 (by omega) _
          have d3 : w3.cell? ⟨q, 7, none⟩ = some (.slice (some ⟨fg, 0, none⟩) caps fc) := (h3.box.cell 7).trans (cs_same (by decide) HB1.out.c7 _)
          have d38 : w3.cell? ⟨q, 8, none⟩ = some (.slice (some ⟨g, 0, none⟩) caps c) := (h3.box.cell 8).trans (cs_set HB1.out.c8 _)
          go_simp
          try rw [hw3]
          refine hK.out _ _ d3 (fun hHeld => ?_)
          clear hK K
          try simp only [List.getElem_toArray, List.getElem_cons_zero, List.getElem_cons_succ, Act.put, List.setIfInBounds_toArray, List.set_cons_zero, List.set_cons_succ]
          refine wpAnyH_done (by kernel_rfl) ?_ _
          have hv3 : OwnZ w3 W0.heap.size (.slice (some ⟨g, 0, none⟩) caps c) fit := by rw [← hw3]; exact oown_set HV2.out q 8 _ (own_whole_ne HV2.out.1 H2.out.box (by decide))
          have hl1 : 1 < fit.length := by have := HB1.out.lenF; have := HC2.out; omega
          obtain ⟨t0, zt⟩ := hv3.at' 1 hl1
          obtain ⟨x0, hx0⟩ : ∃ x0, fit[1] = x0 := ⟨_, rfl⟩
          rw [hx0] at t0
          have hset := hv3.set 1 hl1 (j : Int) (by unfold R64; have := HJ.out; omega)
          have hgG : (1 : Int) < (caps : Nat) := by have := HC2.out; omega
          have hgne : ∀ k, (k = q ∨ k = gm ∨ k = gb ∨ lv.ownBlock = some k) → k ≠ g := by
            intro k hk e
            rcases HAT.out with e2 | e2
            · exact HKB.out k hk (by rw [e2, e])
            · have hlt : k < W1.heap.size := by
                rcases hk with rfl | rfl | rfl | e3
                · exact H1.out.box.lt
                · exact H1.out.met.lt
                · exact H1.out.by'.lt
                · exact (oown_lt H1.out.own e3).2
              omega
          have hfgg : fg ≠ g := by
            intro e
            rcases HAT.out with e2 | e2
            · exact HB1.out.fm fg rfl (by rw [e2, e])
            · have := (oown_lt HB1.out.ownF (j := fg) rfl).2
              omega
          have h4 := h3.away (W' := w3.setCell ⟨g, 1, none⟩ (.int .i64 (j : Int))) (h3.bel.setCell (p := ⟨g, 1, none⟩) (oown_lt hv3 rfl).1 _) (fun k hk hh => Below.heap_setCell w3 _ _ k (hgne k hh))
          have HKP : Hid (Calls Try.prog 148 #[.pointer (some ⟨q, 0, none⟩), .slice (some ⟨g, 0, none⟩) caps c, .int .i64 (x.1 : Int), .int .i64 (j : Int)] (w3.setCell ⟨g, 1, none⟩ (.int .i64 (j : Int))) _) := Lib.hid (pkeep_any p HR.out W0 (w3.setCell ⟨g, 1, none⟩ (.int .i64 (j : Int))) q gm gb n HN.out IV HI.out _ M B r lv left h4 _ _ hset (by rw [List.length_set, HB1.out.lenF]; exact HC.out) (fun e => hgne gm (.inr (.inl rfl)) (by injection e with e; exact e.symm)) (fun e => hgne gb (.inr (.inr (.inl rfl))) (by injection e with e; exact e.symm)) (fun k e e2 => hgne k (.inr (.inr (.inr e2))) (by injection e with e; exact e.symm)) (st + caps) (by have := HST.out; have := HC3.out; omega) (cs_same (by decide) HB1.out.c9 _) (x.1 :: x.2) HCH.out (by simp only [List.length_cons]; have := HPL.out; omega) HPN.out j HJ.out)
          have d48 : (w3.setCell ⟨g, 1, none⟩ (.int .i64 (j : Int))).cell? ⟨q, 8, none⟩ = some (.slice (some ⟨g, 0, none⟩) caps c) := (h4.box.cell 8).trans (cs_set HB1.out.c8 _)
          have H4 := Lib.hid h4; have HV3 := Lib.hid hv3; have HW3 := Lib.hid hw3; have HGN := Lib.hid hgne; have HFG := Lib.hid hfgg
          clear h3 hv3 hw3 hgne hfgg h4 hset hl1 hx0 d3
          go_upto_region 3 with (fail)
          obtain ⟨W4, hW4⟩ : ∃ W4, w3.setCell ⟨g, 1, none⟩ (.int .i64 (j : Int)) = W4 := ⟨_, rfl⟩
          have HW4 := Lib.hid hW4
          rw [hW4] at HKP H4 d48 ⊢
          clear t0 zt hgG hW4 d7 d8 f8 d38
          go_wp2_with fail
          refine HKP.out.mono ?_
          rintro e W5 ⟨rfl, cs5, h5, hcs5, h59, ho5, hf5, hz5⟩
          have H5 := Lib.hid h5; have HCS5 := Lib.hid hcs5; have H59 := Lib.hid h59; have HO5 := Lib.hid ho5; have HF5 := Lib.hid hf5; have HZ5 := Lib.hid hz5
          clear h5 hcs5 h59 ho5 hf5 hz5 HKP
          go_wp2_with fail
          go_end0
          have hkk : ∀ k, k < W1.heap.size → k ≠ q → ((.slice none 0 0) : Value).ownBlock ≠ some k → W5.heap[k]? = W1.heap[k]? := fun k hk h1 h2 => by
            have hkg : k ≠ g := fun e => by
              rcases HAT.out with e2 | e2
              · exact h2 (by rw [e2, e])
              · omega
            have hk4 : k < W4.heap.size := by rw [← HW4.out, World.size_setCell, ← HW3.out, World.size_setCell]; exact Nat.lt_of_lt_of_le hk HZ2.out
            have e4 : W4.heap[k]? = W1.heap[k]? := by rw [← HW4.out, Below.heap_setCell _ _ _ k hkg, ← HW3.out, Below.heap_setCell _ _ _ k h1]; exact HK2.out k hk h2
            exact (HF5.out k hk4 h1 (fun e => hkg (by injection e with e; exact e.symm))).trans e4
          have hce : ∀ i u, i ≠ 8 → i ≠ 9 → cs1[i]? = some u → cs5[i]? = some u := fun i u h8 h9 e => (HCS5.out i h9).trans (cs_same h8 e _)
          have hkp : keepI p.ins j (x.1 :: x.2) (fit.set 1 (j : Int)) = (keepI p.ins j x.2 fit).set 1 (j : Int) := by
            have hh := of_decide_eq_true HIT.out
            show keepI p.ins j x.2 (if (atI p.ins x.1).op = 4 then _ else _) = _
            rw [if_neg (by omega), show (fit.set 1 (j : Int)) = fit.set 1 (j : Int) from rfl, keepI_set]
          have ho6 := HO5.out
          rw [hkp] at ho6
          refine ⟨rfl, cs5, .slice (some ⟨g, 0, none⟩) caps c, H5.out, ⟨hce 5 _ (by decide) (by decide) HB1.out.c5, hce 6 _ (by decide) (by decide) HB1.out.c6, hce 7 _ (by decide) (by decide) HB1.out.c7, (HCS5.out 8 (by decide)).trans (cs_set HB1.out.c8 _), ?_, oown_kept HB1.out.ownF (fun k hk => hkk k (oown_lt HB1.out.ownF hk).2 (fun e => HB1.out.ne H1.out.box (by decide) _ (.inl rfl) (by rw [hk, e])) (HB1.out.fm k hk)), HB1.out.lenF, ho6, fun e => (by cases e), fun m e => ?_, HB1.out.fgm, HB1.out.fgb, fun e => HGN.out gm (.inr (.inl rfl)) (by injection e with e; exact e.symm), fun e => HGN.out gb (.inr (.inr (.inl rfl))) (by injection e with e; exact e.symm), HB1.out.fl, fun k e e2 => HGN.out k (.inr (.inr (.inr e2))) (by injection e with e; exact e.symm), fun k e e2 => HFG.out (by injection e with e; injection e2 with e2; exact e.trans e2.symm)⟩, fun i hi => ?_, ?_, fun k hk h1 h2 => ?_, ?_⟩
          · rw [H59.out, HB1.out.lenF]
            simp only [List.length_cons]
            congr 3
            omega
          · injection e with e
            rw [← e, List.length_set, keepI_len, HB1.out.lenF]
          · rw [HCS5.out i (by omega), ← HCS1.out i hi, Array.getElem?_setIfInBounds_ne (by omega)]
          · rw [HZ5.out, ← HW4.out, World.size_setCell, ← HW3.out, World.size_setCell, ← HS1.out]
            exact HZ2.out
          · rw [← HK1.out k h1]
            exact hkk k (by rw [HS1.out]; exact hk) h1 h2
          · rcases HAT.out with e | e
            · exact .inl e.symm
            · exact .inr ⟨g, rfl, by rw [e, HS1.out]; exact Nat.le_refl _⟩
        exact AllReadyH.nil
      exact AllReadyH.nil
    exact AllReadyH.nil
  · go_wp2_with fail
    refine wp_region_held_drew (S := (fun W => W.cell? ⟨q, 7, none⟩ = some (.slice (some ⟨fg, 0, none⟩) caps fc))) (by kernel_rfl) c7 (fun hHeld => ?_)
    refine wpAnyH_take (i := 0) (oi := _) (v := ?_) rfl (by kernel_rfl) (by kernel_rfl) (by kernel_rfl) (fun _ _ _ h => h) (Or.inl ⟨by rfl, ?_⟩) (by assumption) ?_
    rotate_left 1
    · (intro w hSw; (try dsimp only at hSw); go_simp; (try with_reducible rfl))
    try simp only [List.getElem_toArray, List.getElem_cons_zero, List.getElem_cons_succ, Act.put, List.setIfInBounds_toArray, List.set_cons_zero, List.set_cons_succ]
    refine wpAnyH_take (i := 1) (oi := _) (v := ?_) rfl (by kernel_rfl) (by kernel_rfl) (by kernel_rfl) (fun _ _ _ h => h) (Or.inl ⟨by rfl, ?_⟩) (by assumption) ?_
    rotate_left 1
    · (intro w hSw; (try dsimp only at hSw); go_simp; (try with_reducible rfl))
    try simp only [List.getElem_toArray, List.getElem_cons_zero, List.getElem_cons_succ, Act.put, List.setIfInBounds_toArray, List.set_cons_zero, List.set_cons_succ]
    refine wpAnyH_take (i := 2) (oi := _) (v := ?_) rfl (by kernel_rfl) (by kernel_rfl) (by kernel_rfl) (fun _ _ _ h => h) (Or.inl ⟨by rfl, ?_⟩) (by assumption) ?_
    rotate_left 1
    · (intro w hSw; (try dsimp only at hSw); go_simp; (try with_reducible rfl))
    try simp only [List.getElem_toArray, List.getElem_cons_zero, List.getElem_cons_succ, Act.put, List.setIfInBounds_toArray, List.set_cons_zero, List.set_cons_succ]
    refine wpAnyH_take (i := 3) (oi := _) (v := ?_) rfl (by kernel_rfl) (by kernel_rfl) (by kernel_rfl) (fun _ _ _ h => h) (Or.inl ⟨by rfl, ?_⟩) (by assumption) ?_
    rotate_left 1
    · (intro w hSw; (try dsimp only at hSw); go_simp; (try with_reducible rfl))
    try simp only [List.getElem_toArray, List.getElem_cons_zero, List.getElem_cons_succ, Act.put, List.setIfInBounds_toArray, List.set_cons_zero, List.set_cons_succ]
    refine wpAnyH_take (i := 6) (oi := _) (v := ?_) rfl (by kernel_rfl) (by kernel_rfl) (by kernel_rfl) (fun _ _ _ h => h) (Or.inl ⟨by rfl, ?_⟩) (by assumption) ?_
    rotate_left 1
    · (intro w hSw; (try dsimp only at hSw); go_simp; (try with_reducible rfl))
    try simp only [List.getElem_toArray, List.getElem_cons_zero, List.getElem_cons_succ, Act.put, List.setIfInBounds_toArray, List.set_cons_zero, List.set_cons_succ]
    refine wpAnyH_take (i := 7) (oi := _) (v := ?_) rfl (by kernel_rfl) (by kernel_rfl) (by kernel_rfl) (fun _ _ _ h => h) (Or.inl ⟨by rfl, ?_⟩) (by assumption) ?_
    rotate_left 1
    · (intro w hSw; (try dsimp only at hSw); go_simp; (try with_reducible rfl))
    try simp only [List.getElem_toArray, List.getElem_cons_zero, List.getElem_cons_succ, Act.put, List.setIfInBounds_toArray, List.set_cons_zero, List.set_cons_succ]
    refine wpAnyH_take (i := 8) (oi := _) (v := ?_) rfl (by kernel_rfl) (by kernel_rfl) (by kernel_rfl) (fun _ _ _ h => h) (Or.inl ⟨by rfl, ?_⟩) (by assumption) ?_
    rotate_left 1
    · (intro w hSw; (try dsimp only at hSw); go_simp; (try with_reducible rfl))
    try simp only [List.getElem_toArray, List.getElem_cons_zero, List.getElem_cons_succ, Act.put, List.setIfInBounds_toArray, List.set_cons_zero, List.set_cons_succ]
    refine wpAnyH_take (i := 9) (oi := _) (v := ?_) rfl (by kernel_rfl) (by kernel_rfl) (by kernel_rfl) (fun _ _ _ h => h) (Or.inl ⟨by rfl, ?_⟩) (by assumption) ?_
    rotate_left 1
    · (intro w hSw; (try dsimp only at hSw); go_simp; (try with_reducible rfl))
    try simp only [List.getElem_toArray, List.getElem_cons_zero, List.getElem_cons_succ, Act.put, List.setIfInBounds_toArray, List.set_cons_zero, List.set_cons_succ]
    refine wpAnyH_ready (rs := [4]) (by kernel_rfl) (by simp) ?_
    refine AllReadyH.cons (o := _) rfl (fun K hK => ?_) ?_
    · go_simp
      refine hK.out _ _ c7 (fun hHeld => ?_)
      clear hK K
      try simp only [List.getElem_toArray, List.getElem_cons_zero, List.getElem_cons_succ, Act.put, List.setIfInBounds_toArray, List.set_cons_zero, List.set_cons_succ]
      refine wpAnyH_take (i := 5) (oi := _) (v := ?_) rfl (by kernel_rfl) (by kernel_rfl) (by kernel_rfl) (fun _ _ _ h => h) (Or.inl ⟨by rfl, ?_⟩) (by assumption) ?_
      rotate_left 1
      · (intro w hSw; (try dsimp only at hSw); go_simp; (try with_reducible rfl))
      try simp only [List.getElem_toArray, List.getElem_cons_zero, List.getElem_cons_succ, Act.put, List.setIfInBounds_toArray, List.set_cons_zero, List.set_cons_succ]
      refine wpAnyH_ready (rs := [10]) (by kernel_rfl) (by simp) ?_
      refine AllReadyH.cons (o := _) rfl (fun K hK => ?_) ?_
      · refine step_append_zall rfl (.tmp 23) (.tmp 27) rfl W0.heap.size (.slice (some ⟨rg, 0, none⟩) 0 mc) [] rfl HCV.out fg caps fc fit rfl HB1.out.lenF HFC.out HB1.out.ownF.2 (by have := HB1.out.lenF; have := HC3.out; simp; omega) H1.out.bel.size ?_
        intro v2 w2 ho2 hg2 hat
        rw [List.nil_append] at ho2
        obtain ⟨g, c, rfl⟩ : ∃ g c, v2 = .slice (some ⟨g, 0, none⟩) caps c := by
          rcases own_sliceZ ho2.1 with ⟨-, h0⟩ | ⟨g, c, e, -⟩
          · have := HB1.out.lenF; have := HC2.out; omega
          · exact ⟨g, c, by rw [e, HB1.out.lenF]⟩
        have hg2 : W1.grownBy w2 ((.slice (some ⟨rg, 0, none⟩) 0 mc) : Value).ownBlock := ⟨hg2.os, hg2.tape, hg2.output, hg2.size, hg2.block⟩
        have hk2 : ∀ k, k < W1.heap.size → ((.slice (some ⟨rg, 0, none⟩) mn mc) : Value).ownBlock ≠ some k → w2.heap[k]? = W1.heap[k]? := fun k hk e => hg2.block k hk (fun e2 => e (e2.symm))
        have h2 := H1.out.away (W' := w2) (H1.out.bel.grown hg2 H1.out.bel.size (fun k e => HMB.out k (e))) (fun k hk hh => hk2 k hk (HKB.out k hh))
        have d7 : w2.cell? ⟨q, 7, none⟩ = some (.slice (some ⟨fg, 0, none⟩) caps fc) := (h2.box.cell 7).trans HB1.out.c7
        have d8 : w2.cell? ⟨q, 8, none⟩ = some (.slice (some ⟨rg, 0, none⟩) mn mc) := (h2.box.cell 8).trans HB1.out.c8
        have f8 := h2.box.free 8
        have HF2 := Lib.hid (oown_kept (W' := w2) HB1.out.ownF (fun j hj => hk2 j (oown_lt HB1.out.ownF hj).2 (HB1.out.fm j hj)))
        have H2 := Lib.hid h2; have HV2 : Hid (OwnZ w2 W0.heap.size (.slice (some ⟨g, 0, none⟩) caps c) fit) := Lib.hid ho2; have HK2 := Lib.hid hk2; have HZ2 := Lib.hid hg2.size
        have HAT : Hid (((.slice (some ⟨rg, 0, none⟩) mn mc) : Value).ownBlock = some g ∨ g = W1.heap.size) := Lib.hid (hat.elim (fun e => .inl (e.symm)) fun e => .inr (Option.some.inj e))
        clear h2 ho2 hg2 hk2 c7 c8 hat
        refine hK.out _ _ d7 (fun hHeld => ?_)
        clear hK K
        try simp only [List.getElem_toArray, List.getElem_cons_zero, List.getElem_cons_succ, Act.put, List.setIfInBounds_toArray, List.set_cons_zero, List.set_cons_succ]
        refine wpAnyH_take (i := 11) (oi := _) (v := ?_) rfl (by kernel_rfl) (by kernel_rfl) (by kernel_rfl) (fun _ _ _ h => h) (Or.inl ⟨by rfl, ?_⟩) (by assumption) ?_
        rotate_left 1
        · (intro w hSw; (try dsimp only at hSw); go_simp; (try with_reducible rfl))
        try simp only [List.getElem_toArray, List.getElem_cons_zero, List.getElem_cons_succ, Act.put, List.setIfInBounds_toArray, List.set_cons_zero, List.set_cons_succ]
        refine wpAnyH_take (i := 12) (oi := _) (v := ?_) rfl (by kernel_rfl) (by kernel_rfl) (by kernel_rfl) (fun _ _ _ h => h) (Or.inl ⟨by rfl, ?_⟩) (by assumption) ?_
        rotate_left 1
        · (intro w hSw; (try dsimp only at hSw); go_simp; (try with_reducible rfl))
        try simp only [List.getElem_toArray, List.getElem_cons_zero, List.getElem_cons_succ, Act.put, List.setIfInBounds_toArray, List.set_cons_zero, List.set_cons_succ]
        refine wpAnyH_ready (rs := [13]) (by kernel_rfl) (by simp) ?_
        refine AllReadyH.cons (o := _) rfl (fun K hK => ?_) ?_
        · obtain ⟨w3, hw3⟩ : ∃ w3, w2.setCell ⟨q, 8, none⟩ (.slice (some ⟨g, 0, none⟩) caps c) = w3 := ⟨_, rfl⟩
          have h3 : WaysIn W0 w3 q gm gb n IV 139 (cs1.setIfInBounds 8 (.slice (some ⟨g, 0, none⟩) caps c)) M B r lv left := by rw [← hw3]; exact H2.out.putX 8 (by omega) _
          have d3 : w3.cell? ⟨q, 7, none⟩ = some (.slice (some ⟨fg, 0, none⟩) caps fc) := (h3.box.cell 7).trans (cs_same (by decide) HB1.out.c7 _)
          have d38 : w3.cell? ⟨q, 8, none⟩ = some (.slice (some ⟨g, 0, none⟩) caps c) := (h3.box.cell 8).trans (cs_set HB1.out.c8 _)
          go_simp
          try rw [hw3]
          refine hK.out _ _ d3 (fun hHeld => ?_)
          clear hK K
          try simp only [List.getElem_toArray, List.getElem_cons_zero, List.getElem_cons_succ, Act.put, List.setIfInBounds_toArray, List.set_cons_zero, List.set_cons_succ]
          refine wpAnyH_done (by kernel_rfl) ?_ _
          have hv3 : OwnZ w3 W0.heap.size (.slice (some ⟨g, 0, none⟩) caps c) fit := by rw [← hw3]; exact oown_set HV2.out q 8 _ (own_whole_ne HV2.out.1 H2.out.box (by decide))
          have hl1 : 1 < fit.length := by have := HB1.out.lenF; have := HC2.out; omega
          obtain ⟨t0, zt⟩ := hv3.at' 1 hl1
          obtain ⟨x0, hx0⟩ : ∃ x0, fit[1] = x0 := ⟨_, rfl⟩
          rw [hx0] at t0
          have hset := hv3.set 1 hl1 (j : Int) (by unfold R64; have := HJ.out; omega)
          have hgG : (1 : Int) < (caps : Nat) := by have := HC2.out; omega
          have hgne : ∀ k, (k = q ∨ k = gm ∨ k = gb ∨ lv.ownBlock = some k) → k ≠ g := by
            intro k hk e
            rcases HAT.out with e2 | e2
            · exact HKB.out k hk (by rw [e2, e])
            · have hlt : k < W1.heap.size := by
                rcases hk with rfl | rfl | rfl | e3
                · exact H1.out.box.lt
                · exact H1.out.met.lt
                · exact H1.out.by'.lt
                · exact (oown_lt H1.out.own e3).2
              omega
          have hfgg : fg ≠ g := by
            intro e
            rcases HAT.out with e2 | e2
            · exact HB1.out.fm fg rfl (by rw [e2, e])
            · have := (oown_lt HB1.out.ownF (j := fg) rfl).2
              omega
          have h4 := h3.away (W' := w3.setCell ⟨g, 1, none⟩ (.int .i64 (j : Int))) (h3.bel.setCell (p := ⟨g, 1, none⟩) (oown_lt hv3 rfl).1 _) (fun k hk hh => Below.heap_setCell w3 _ _ k (hgne k hh))
          have HKP : Hid (Calls Try.prog 148 #[.pointer (some ⟨q, 0, none⟩), .slice (some ⟨g, 0, none⟩) caps c, .int .i64 (x.1 : Int), .int .i64 (j : Int)] (w3.setCell ⟨g, 1, none⟩ (.int .i64 (j : Int))) _) := Lib.hid (pkeep_any p HR.out W0 (w3.setCell ⟨g, 1, none⟩ (.int .i64 (j : Int))) q gm gb n HN.out IV HI.out _ M B r lv left h4 _ _ hset (by rw [List.length_set, HB1.out.lenF]; exact HC.out) (fun e => hgne gm (.inr (.inl rfl)) (by injection e with e; exact e.symm)) (fun e => hgne gb (.inr (.inr (.inl rfl))) (by injection e with e; exact e.symm)) (fun k e e2 => hgne k (.inr (.inr (.inr e2))) (by injection e with e; exact e.symm)) (st + caps) (by have := HST.out; have := HC3.out; omega) (cs_same (by decide) HB1.out.c9 _) (x.1 :: x.2) HCH.out (by simp only [List.length_cons]; have := HPL.out; omega) HPN.out j HJ.out)
          have d48 : (w3.setCell ⟨g, 1, none⟩ (.int .i64 (j : Int))).cell? ⟨q, 8, none⟩ = some (.slice (some ⟨g, 0, none⟩) caps c) := (h4.box.cell 8).trans (cs_set HB1.out.c8 _)
          have H4 := Lib.hid h4; have HV3 := Lib.hid hv3; have HW3 := Lib.hid hw3; have HGN := Lib.hid hgne; have HFG := Lib.hid hfgg
          clear h3 hv3 hw3 hgne hfgg h4 hset hl1 hx0 d3
          go_upto_region 3 with (fail)
          obtain ⟨W4, hW4⟩ : ∃ W4, w3.setCell ⟨g, 1, none⟩ (.int .i64 (j : Int)) = W4 := ⟨_, rfl⟩
          have HW4 := Lib.hid hW4
          rw [hW4] at HKP H4 d48 ⊢
          clear t0 zt hgG hW4 d7 d8 f8 d38
          go_wp2_with fail
          refine HKP.out.mono ?_
          rintro e W5 ⟨rfl, cs5, h5, hcs5, h59, ho5, hf5, hz5⟩
          have H5 := Lib.hid h5; have HCS5 := Lib.hid hcs5; have H59 := Lib.hid h59; have HO5 := Lib.hid ho5; have HF5 := Lib.hid hf5; have HZ5 := Lib.hid hz5
          clear h5 hcs5 h59 ho5 hf5 hz5 HKP
          go_wp2_with fail
          go_end0
          have hkk : ∀ k, k < W1.heap.size → k ≠ q → ((.slice (some ⟨rg, 0, none⟩) mn mc) : Value).ownBlock ≠ some k → W5.heap[k]? = W1.heap[k]? := fun k hk h1 h2 => by
            have hkg : k ≠ g := fun e => by
              rcases HAT.out with e2 | e2
              · exact h2 (by rw [e2, e])
              · omega
            have hk4 : k < W4.heap.size := by rw [← HW4.out, World.size_setCell, ← HW3.out, World.size_setCell]; exact Nat.lt_of_lt_of_le hk HZ2.out
            have e4 : W4.heap[k]? = W1.heap[k]? := by rw [← HW4.out, Below.heap_setCell _ _ _ k hkg, ← HW3.out, Below.heap_setCell _ _ _ k h1]; exact HK2.out k hk h2
            exact (HF5.out k hk4 h1 (fun e => hkg (by injection e with e; exact e.symm))).trans e4
          have hce : ∀ i u, i ≠ 8 → i ≠ 9 → cs1[i]? = some u → cs5[i]? = some u := fun i u h8 h9 e => (HCS5.out i h9).trans (cs_same h8 e _)
          have hkp : keepI p.ins j (x.1 :: x.2) (fit.set 1 (j : Int)) = (keepI p.ins j x.2 fit).set 1 (j : Int) := by
            have hh := of_decide_eq_true HIT.out
            show keepI p.ins j x.2 (if (atI p.ins x.1).op = 4 then _ else _) = _
            rw [if_neg (by omega), show (fit.set 1 (j : Int)) = fit.set 1 (j : Int) from rfl, keepI_set]
          have ho6 := HO5.out
          rw [hkp] at ho6
          refine ⟨rfl, cs5, .slice (some ⟨g, 0, none⟩) caps c, H5.out, ⟨hce 5 _ (by decide) (by decide) HB1.out.c5, hce 6 _ (by decide) (by decide) HB1.out.c6, hce 7 _ (by decide) (by decide) HB1.out.c7, (HCS5.out 8 (by decide)).trans (cs_set HB1.out.c8 _), ?_, oown_kept HB1.out.ownF (fun k hk => hkk k (oown_lt HB1.out.ownF hk).2 (fun e => HB1.out.ne H1.out.box (by decide) _ (.inl rfl) (by rw [hk, e])) (HB1.out.fm k hk)), HB1.out.lenF, ho6, fun e => (by cases e), fun m e => ?_, HB1.out.fgm, HB1.out.fgb, fun e => HGN.out gm (.inr (.inl rfl)) (by injection e with e; exact e.symm), fun e => HGN.out gb (.inr (.inr (.inl rfl))) (by injection e with e; exact e.symm), HB1.out.fl, fun k e e2 => HGN.out k (.inr (.inr (.inr e2))) (by injection e with e; exact e.symm), fun k e e2 => HFG.out (by injection e with e; injection e2 with e2; exact e.trans e2.symm)⟩, fun i hi => ?_, ?_, fun k hk h1 h2 => ?_, ?_⟩
          · rw [H59.out, HB1.out.lenF]
            simp only [List.length_cons]
            congr 3
            omega
          · injection e with e
            rw [← e, List.length_set, keepI_len, HB1.out.lenF]
          · rw [HCS5.out i (by omega), ← HCS1.out i hi, Array.getElem?_setIfInBounds_ne (by omega)]
          · rw [HZ5.out, ← HW4.out, World.size_setCell, ← HW3.out, World.size_setCell, ← HS1.out]
            exact HZ2.out
          · rw [← HK1.out k h1]
            exact hkk k (by rw [HS1.out]; exact hk) h1 h2
          · rcases HAT.out with e | e
            · exact .inl e.symm
            · exact .inr ⟨g, rfl, by rw [e, HS1.out]; exact Nat.le_refl _⟩
        exact AllReadyH.nil
      exact AllReadyH.nil
    exact AllReadyH.nil
end Go.Proofs.Ytnemacejaiifnaa
/- The ways through a program, made. No condition. -/
namespace Go.Proofs.Ytnemacejaiifnaa
open Go Go.RowKit

theorem info_int15 : (Try.prog.info? 3).map (fun i => (i.zero, i.size, i.bytes)) = some (some (.int .i64 0), 1, 8) := by kernel_rfl
theorem make_ints15 (n : Nat) (h : n ≤ 1000000) (W : World) : (Instr.makeSlice 38 (.int .i64 (n : Int)) (.int .i64 (n : Int))).run Try.prog W = .ok (.slice (some ⟨W.heap.size, 0, none⟩) n n) (W.alloc (.cells (litsZ (List.replicate n 0)).toArray 3)) := by
  have h1 := run_make_row' (P := Try.prog) 38 3 (.int .i64 0) 8 Try.underlying38 info_int15 rfl .i64 .i64 n (by omega) (by omega) W
  have e : madeCells #[.int .i64 0] n = (litsZ (List.replicate n 0)).toArray := by
    apply Array.toList_inj.1
    rw [toList_madeCells_one]
    simp [litsZ]
  rw [e] at h1
  exact h1
theorem run_ways15 {w : World} {b : Nat} {cs : Array Value} (h : Whole w b 100 cs) (hn : cs.size = 5) : (loadVar 100 ⟨b, 0, none⟩).run Try.prog w = .ok (.agg cs) w :=
  run_loadVar_row w b _ _ cs (0, 0) _ h Try.underlying100 rfl (by rw [hn]; kernel_rfl)
theorem results_w15 {fn : Func} {r : Tmp} (h : fn.results = #[.cell r 100]) (tmps : Array Value) {w : World} {b : Nat} {cs : Array Value} (hp : tmps.getD r undef = .pointer (some ⟨b, 0, none⟩)) (hW : Whole w b 100 cs) (hn : cs.size = 5) :
    (results fn tmps).run Try.prog w = .ok (.agg cs) w := by
  have hp' : tmps[r]?.getD undef = .pointer (some ⟨b, 0, none⟩) := by simpa using hp
  simp [results, h, hp', asAddr, run_ways15 hW hn]
theorem thru_end (w : World) (R C : Array Value) (t t' : TypeId) : Whole (((w.alloc (.cells R t)).alloc (.cells C t')).alloc (.cells C t')).drew w.heap.size t R ∧ Whole (((w.alloc (.cells R t)).alloc (.cells C t')).alloc (.cells C t')).drew (w.heap.size + 1) t' C ∧
    Whole (((w.alloc (.cells R t)).alloc (.cells C t')).alloc (.cells C t')).drew (w.heap.size + 1 + 1) t' C ∧ Below w.heap.size w (((w.alloc (.cells R t)).alloc (.cells C t')).alloc (.cells C t')).drew := by
  have h1 : Whole (w.alloc (.cells R t)) w.heap.size t R := heap_alloc_new w _
  have s1 : (w.alloc (.cells R t)).heap.size = w.heap.size + 1 := World.size_alloc _ _
  have h2 : Whole ((w.alloc (.cells R t)).alloc (.cells C t')) (w.heap.size + 1) t' C := by rw [← s1]; exact heap_alloc_new _ _
  have s2 : ((w.alloc (.cells R t)).alloc (.cells C t')).heap.size = w.heap.size + 1 + 1 := by rw [World.size_alloc, s1]
  have h3 : Whole (((w.alloc (.cells R t)).alloc (.cells C t')).alloc (.cells C t')) (w.heap.size + 1 + 1) t' C := by rw [← s2]; exact heap_alloc_new _ _
  exact ⟨((h1.alloc _).alloc _).drew, (h2.alloc _).drew, h3.drew, ((((Below.refl _ w).alloc (Nat.le_refl _) _).alloc (by rw [s1]; omega) _).alloc (by rw [s2]; omega) _).drew⟩
def ThruPost (IV : Value) (n : Nat) (w : World) (e : Ending) (w' : World) : Prop :=
  ∃ gm gb, e = .returned (.agg #[IV, .slice (some ⟨gm, 0, none⟩) n n, .slice (some ⟨gb, 0, none⟩) n n, .int .i64 0, .slice none 0 0]) ∧ Whole w' gm 3 (litsZ (List.replicate n 0)).toArray ∧ Whole w' gb 3 (litsZ (List.replicate n 0)).toArray ∧ gm ≠ gb ∧ w.heap.size ≤ gm ∧ w.heap.size ≤ gb ∧ Below w.heap.size w w'
set_option maxHeartbeats 1600000 in
set_option maxRecDepth 100000 in
theorem pthrough_any (A : Option Addr) (n c : Nat) (hn : n ≤ 10000) (w : World) : Calls Try.prog 52 #[.slice A n c] w (ThruPost (.slice A n c) n w) := by
  have hmk := make_ints15 n (by omega)
  obtain ⟨C, hC⟩ : ∃ C, (litsZ (List.replicate n 0)).toArray = C := ⟨_, rfl⟩
  unfold ThruPost
  rw [hC]
  rw [hC] at hmk
  clear hC
  go_enter Try.func52, Try.ntmps52
  go_upto_region 1 with (fail)
  go_region
  · go_wp2_with fail
    obtain ⟨k1, k2, k3, k4⟩ := thru_end w #[.slice A n c, .slice (some ⟨w.heap.size + 1, 0, none⟩) n n, .slice (some ⟨w.heap.size + 1 + 1, 0, none⟩) n n, .int .i64 0, .slice none 0 0] C 100 3
    exact ⟨rfl, _, results_w15 rfl _ rfl k1 rfl, _, _, rfl, k2, k3, by omega, by omega, by omega, k4⟩
  · go_wp2_with fail
    obtain ⟨k1, k2, k3, k4⟩ := thru_end w #[.slice A n c, .slice (some ⟨w.heap.size + 1 + 1, 0, none⟩) n n, .slice (some ⟨w.heap.size + 1, 0, none⟩) n n, .int .i64 0, .slice none 0 0] C 100 3
    exact ⟨rfl, _, results_w15 rfl _ rfl k1 rfl, _, _, rfl, k3, k2, by omega, by omega, by omega, k4⟩
end Go.Proofs.Ytnemacejaiifnaa
/- Is a program one that begins where a text begins alone: the program's question. No condition. -/
namespace Go.Proofs.Ytnemacejaiifnaa
open Go Go.RowKit

def looseL (I : List Ins) (l : List Nat) : Bool := l.any fun k => isHit I k || isSet I k
/-- Where block k alone is turned. -/
theorem kept_set (W : World) (b j : Nat) (u : Value) : ∀ k, k < W.heap.size → k ≠ b → (W.setCell ⟨b, j, none⟩ u).heap[k]? = W.heap[k]? := fun k _ h => Below.heap_setCell W _ u k h
def AnchPost (W0 W : World) (bl : Nat) (B b : Bool) (e : Ending) (W' : World) : Prop :=
  e = .returned (.bool B) ∧ Whole W' bl 4 #[.bool b] ∧ (∀ k, k < W.heap.size → k ≠ bl → W'.heap[k]? = W.heap[k]?) ∧ W.heap.size ≤ W'.heap.size ∧ Below W0.heap.size W0 W'
set_option maxHeartbeats 1600000 in
set_option maxRecDepth 100000 in
theorem panch1_any (p : Pg) (hR : RightPg p) (W0 W : World) (q gm gb n : Nat) (hn : p.ins.length = n) (IV : Value) (hI : Inss W0 IV p.ins) (t : TypeId) (cs : Array Value) (M B : List Int) (r : Int) (lv : Value) (left : List Nat) (h : WaysIn W0 W q gm gb n IV t cs M B r lv left) (bw bl : Nat) (hbl : W0.heap.size ≤ bl) (b : Bool)
    (hw : Whole W bw 140 #[.pointer (some ⟨q, 0, none⟩)]) (hb : Whole W bl 4 #[.bool b]) (pc : Nat) (hpc : pc < n) :
    Calls Try.prog 100 #[.int .i64 (pc : Int), .pointer (some ⟨bw, 0, none⟩), .pointer (some ⟨bl, 0, none⟩)] W (AnchPost W0 W bl (tstI noB (atI p.ins pc)) (b || (isHit p.ins pc || isSet p.ins pc))) := by
  obtain ⟨IA, ic, hIV⟩ : ∃ A c, IV = .slice A n c := by
    obtain ⟨A, c, e, -⟩ := hI
    exact ⟨A, c, by rw [e, hn]⟩
  subst hIV
  obtain ⟨bb, o, x, a2, s, cz, hA, hx, hmem, hsl2, hat, HFV, -, hbd, -⟩ := hI.at' pc (by rw [hn]; exact hpc)
  subst hA
  obtain ⟨k0, -, -, -, k4⟩ := HFV.below h.bel
  have q0 : W.cell? ⟨q, 0, none⟩ = some (.slice (some ⟨bb, o, none⟩) n ic) := (h.box.cell 0).trans h.c0
  have w0 : W.cell? ⟨bw, 0, none⟩ = some (.pointer (some ⟨q, 0, none⟩)) := hw.cell 0
  have b0 : W.cell? ⟨bl, 0, none⟩ = some (.bool b) := hb.cell 0
  have z0 := hb.free 0
  have hpz : (pc : Int) < (n : Int) := by omega
  obtain ⟨xo, xu, xa, xs, xt⟩ := x
  simp only at k0 k4
  have hst : Whole (W.setCell ⟨bl, 0, none⟩ (.bool true)) bl 4 #[.bool true] := by
    have := hb.store 0 (.bool true)
    simpa using this
  have hks := kept_set W bl 0 (.bool true)
  have hb2 : Below W0.heap.size W0 (W.setCell ⟨bl, 0, none⟩ (.bool true)) := h.bel.setCell (p := ⟨bl, 0, none⟩) hbl _
  have hz2 : (W.setCell ⟨bl, 0, none⟩ (.bool true)).heap.size = W.heap.size := World.size_setCell _ _ _
  have hneb : bb ≠ bl := by
    have h1 := World.block_lt_of_cell? W0 _ HFV.1
    simp only at h1
    omega
  have k0' : (W.setCell ⟨bl, 0, none⟩ (.bool true)).cell? ⟨bb, o + pc * 5, none⟩ = some (.int .i64 xo) := (World.cell?_setCell_other _ _ _ _ (by simp)).trans k0
  have HS := Lib.hid hst; have HKS := Lib.hid hks; have HB2 := Lib.hid hb2; have HZ2 := Lib.hid hz2; have HB := Lib.hid hb; have HBEL := Lib.hid h.bel
  have HAT := Lib.hid hat; have HK0 := Lib.hid k0'
  have hH : isHit p.ins pc = decide (xo = 1) := by unfold isHit; rw [hat]
  have hS : isSet p.ins pc = decide (xo = 2) := by unfold isSet; rw [hat]
  rw [hH, hS, hat]
  clear hst hks hb2 hz2 hb hat hI HFV hbd hx hmem hsl2 hneb h hw hbl k0' hH hS
  by_cases hl : xo = 2 ∨ xo = 1
  · have hb' : (b || (decide (xo = 1) || decide (xo = 2))) = true := by
      rcases hl with rfl | rfl <;> simp
    have hT : tstI noB ⟨xo, xu, xa, xs, xt⟩ = true := by
      rcases hl with rfl | rfl <;> rfl
    rw [hb', hT]
    have d5 : (xo != 5) = true := by rcases hl with rfl | rfl <;> rfl
    clear hb' hT
    rcases hl with rfl | rfl
    all_goals
      go_enter Try.func100, Try.ntmps100
      go_upto_region 4 with (fail)
      have k0'' := HK0.out
      clear q0 w0 b0 z0 k0 k4
      generalize W.setCell ⟨bl, 0, none⟩ (.bool true) = W2 at HS HKS HB2 HZ2 k0'' ⊢
      clear HK0
      go_wp2_with fail
      go_ret
      exact ⟨rfl, HS.out, HKS.out, Nat.le_of_eq HZ2.out.symm, HB2.out⟩
  · have hb' : (b || (decide (xo = 1) || decide (xo = 2))) = b := by
      have h1 : decide (xo = 1) = false := decide_eq_false (by omega)
      have h2 : decide (xo = 2) = false := decide_eq_false (by omega)
      rw [h1, h2]
      simp
    rw [hb']
    have d2 : (xo == 2) = false := by simp; omega
    have d1 : (xo == 1) = false := by simp; omega
    clear hb' hl
    by_cases h5 : xo = 5
    · subst h5
      by_cases h1 : xt = 1
      · subst h1
        go_enter Try.func100, Try.ntmps100
        go_wp2_with fail
        go_ret
        exact ⟨rfl, HB.out, fun _ _ _ => rfl, Nat.le_refl _, HBEL.out⟩
      · have d6 : (xt != 1) = true := by simp [h1]
        have hT : tstI noB ⟨5, xu, xa, xs, xt⟩ = true := by simp [tstI, noB, h1]
        rw [hT]
        clear h1 hT
        go_enter Try.func100, Try.ntmps100
        go_wp2_with fail
        go_ret
        exact ⟨rfl, HB.out, fun _ _ _ => rfl, Nat.le_refl _, HBEL.out⟩
    · have d5 : (xo != 5) = true := by simp [h5]
      have hT : tstI noB ⟨xo, xu, xa, xs, xt⟩ = true := by simp [tstI, h5]
      rw [hT]
      clear h5 hT
      go_enter Try.func100, Try.ntmps100
      go_wp2_with fail
      go_ret
      exact ⟨rfl, HB.out, fun _ _ _ => rfl, Nat.le_refl _, HBEL.out⟩
/-- What anchored tells and leaves. -/
def AnchP (W0 : World) (q gm gb n : Nat) (IV : Value) (t : TypeId) (I : List Ins) (r : Int) (pc : Nat) (e : Ending) (W' : World) : Prop :=
  ∃ T vis, eachO noB I [(pc, [])] (List.replicate n false) [] = (T, vis) ∧ e = .returned (.bool (!(looseL I (placesI vis)))) ∧ ∃ cs M B lv left, WaysIn W0 W' q gm gb n IV t cs M B (r + 1) lv left
set_option maxHeartbeats 1600000 in
set_option maxRecDepth 100000 in
theorem panch_any (p : Pg) (hR : RightPg p) (W0 W : World) (q gm gb n : Nat) (hn : p.ins.length = n) (IV : Value) (hI : Inss W0 IV p.ins) (t : TypeId) (ht : t ≠ 140) (ht2 : t ≠ 4) (cs : Array Value) (M B : List Int) (r : Int) (hr : r ≤ 1000000000) (lv : Value) (left : List Nat) (h : WaysIn W0 W q gm gb n IV t cs M B r lv left) (pc : Nat) (hpc : pc < n) :
    Calls Try.prog 53 #[.pointer (some ⟨q, 0, none⟩), .int .i64 (pc : Int)] W (AnchP W0 q gm gb n IV t p.ins r pc) := by
  have eg : ∀ args w, (callFunc 100 args).run Try.prog w = .ok (.enter 100 args) w := enters_of Try.func100 (by kernel_rfl) rfl
  obtain ⟨W1, hW1⟩ : ∃ W1, W.alloc (.cells #[.pointer (some ⟨q, 0, none⟩)] 140) = W1 := ⟨_, rfl⟩
  obtain ⟨W2, hW2⟩ : ∃ W2, W1.alloc (.cells #[.bool false] 4) = W2 := ⟨_, rfl⟩
  have hz1 : W1.heap.size = W.heap.size + 1 := by rw [← hW1]; exact World.size_alloc _ _
  have hb1 : Below W.heap.size W W1 := by rw [← hW1]; exact (Below.refl _ _).alloc (Nat.le_refl _) _
  have hb2 : Below W1.heap.size W1 W2 := by rw [← hW2]; exact (Below.refl _ _).alloc (Nat.le_refl _) _
  have hw1 : Whole W1 W.heap.size 140 #[.pointer (some ⟨q, 0, none⟩)] := by rw [← hW1]; exact heap_alloc_new W _
  have hw2 : Whole W2 W.heap.size 140 #[.pointer (some ⟨q, 0, none⟩)] := hw1.below hb2 (by omega)
  have hl2 : Whole W2 W1.heap.size 4 #[.bool false] := by rw [← hW2]; exact heap_alloc_new W1 _
  have h2 : WaysIn W0 W2 q gm gb n IV t cs M B r lv left := (h.below hb1).below hb2
  have hbs := h.bel.size
  have hcl : W0.heap.size ≤ W1.heap.size := by omega
  let Cb : CbO := fun W' _ _ vis => Whole W' W.heap.size 140 #[.pointer (some ⟨q, 0, none⟩)] ∧ Whole W' W1.heap.size 4 #[.bool (looseL p.ins (placesI vis))]
  have hkeep : KeepC W0 q gm gb n IV t Cb := by
    intro V V' cs cs' M B r lv left lb' vis hv hc hbx _ hes _
    have key : ∀ (k : Nat) (ty : TypeId) (cc : Array Value), ty ≠ t → ty ≠ 3 → Whole V k ty cc → Whole V' k ty cc := by
      intro k ty cc h1 h2 hk
      have hne : ∀ (g : Nat) (ty' : TypeId) (cc' : Array Value), Whole V g ty' cc' → ty ≠ ty' → k ≠ g := by
        rintro g ty' cc' hg hty rfl
        unfold Whole at hk hg
        rw [hk] at hg
        injection hg with hg
        injection hg with _ hg
        exact hty hg
      exact (hes.blk k hk.lt (hne q t _ hv.box h1) (hne gm _ _ hv.met h2) (hne gb _ _ hv.by' h2) (own_whole_ne hv.own.1 hk (fun e => h2 e.symm))).trans hk
    exact ⟨key _ _ _ (fun e => ht e.symm) (by decide) hc.1, key _ _ _ (fun e => ht2 e.symm) (by decide) hc.2⟩
  have hcall : CallC W0 q gm gb n IV t p.ins noB (r + 1) 100 #[.pointer (some ⟨W.heap.size, 0, none⟩), .pointer (some ⟨W1.heap.size, 0, none⟩)] Cb False (eachO noB p.ins [(pc, [])] (List.replicate n false) []).2 := by
    intro V cs M B lv left vis x hv hc hx _ _
    refine (panch1_any p hR W0 V q gm gb n hn IV hI t cs M B (r + 1) lv left hv W.heap.size W1.heap.size hcl _ hc.1 hc.2 x.1 hx).mono ?_
    rintro e V' ⟨rfl, g1, g2, g3, g4⟩
    have hq : q ≠ W1.heap.size := by
      rintro rfl
      have h1 := hv.box
      have h2 := hc.2
      unfold Whole at h1 h2
      rw [h1] at h2
      injection h2 with h2
      injection h2 with _ h2
      exact ht2 h2
    have hgm : gm ≠ W1.heap.size := by
      rintro rfl
      have h1 := hv.met
      have h2 := hc.2
      unfold Whole at h1 h2
      rw [h1] at h2
      injection h2 with h2
      injection h2 with _ h2
      exact absurd h2 (by decide)
    have hgb : gb ≠ W1.heap.size := by
      rintro rfl
      have h1 := hv.by'
      have h2 := hc.2
      unfold Whole at h1 h2
      rw [h1] at h2
      injection h2 with h2
      injection h2 with _ h2
      exact absurd h2 (by decide)
    refine ⟨rfl, cs, (g2 q hv.box.lt hq).trans hv.box, g4, ⟨g3, g2 gm hv.met.lt hgm, g2 gb hv.by'.lt hgb, fun k hk => g2 k (oown_lt hv.own hk).2 (fun e => own_whole_ne hv.own.1 hc.2 (by decide) (by rw [hk, e])), fun _ _ => rfl⟩, (g2 _ hc.1.lt (by omega)).trans hc.1, ?_⟩
    rw [places_app, show placesI [x] = [x.1] from rfl]
    unfold looseL at g1 ⊢
    rw [List.any_append]
    simpa using g1
  have hE := peach_any p W0 q gm gb n IV t hn hI hR _ _ eg noB pc hpc r hr Cb False [] hkeep _ rfl hcall (fun f => f.elim) W2 cs M B lv left h2 ⟨hw2, hl2⟩
  rw [hz1] at hE
  have HE := Lib.hid hE
  have HW1 := Lib.hid hW1; have HW2 := Lib.hid hW2; have HZ1 := Lib.hid hz1
  have w0 : W2.cell? ⟨W.heap.size, 0, none⟩ = some (.pointer (some ⟨q, 0, none⟩)) := hw2.cell 0
  clear hE hkeep hcall h hW1 hW2 hb1 hb2 hw1 hw2 hl2 h2 hbs hcl hz1
  go_enter Try.func53, Try.ntmps53
  go_upto_region 2 with (fail)
  rw [HW1.out, HW2.out]
  go_wp2_with fail
  refine HE.out.mono ?_
  rintro e W3 ⟨T, vis, hev, rfl, cs3, M3, B3, lv3, left3, h3, hc3, -⟩
  have l0 : W3.cell? ⟨W.heap.size + 1, 0, none⟩ = some (.bool (looseL p.ins (placesI vis))) := by
    have := hc3.2.cell 0
    rw [HZ1.out] at this
    exact this
  have HEV := Lib.hid hev; have H3 := Lib.hid h3
  clear hev h3 hc3 w0 HE
  go_wp2_with fail
  go_ret
  exact ⟨T, vis, HEV.out, rfl, cs3, M3, B3, lv3, left3, H3.out⟩
end Go.Proofs.Ytnemacejaiifnaa
/- What is still to be looked at, as it lies in memory: the function that one more is handed to. No condition. -/
namespace Go.Proofs.Ytnemacejaiifnaa
open Go Go.RowKit

/-- What was begun (gd) and what is still to be looked at (sv), in the boxes bd and bs. -/
structure LeadM (W : World) (B0 bd gd bs n : Nat) (sv : Value) (qq : List Bool × List Nat) : Prop where
  box : Whole W bd 105 #[.slice (some ⟨gd, 0, none⟩) n n]
  done : Whole W gd 4 (qq.1.map Value.bool).toArray
  todo : Whole W bs 38 #[sv]
  row : OwnZ W B0 sv (natsO qq.2)
  len : qq.1.length = n
  hbd : B0 ≤ bd
  hgd : B0 ≤ gd
  hbs : B0 ≤ bs
  cnt : qq.1.count false + qq.2.length ≤ n + 1
  lt : ∀ i ∈ qq.2, i < n
theorem ne_types {W : World} {a b : Nat} {t t' : TypeId} {x y : Array Value} (h : Whole W a t x) (k : Whole W b t' y) (hne : t ≠ t') : a ≠ b := by
  rintro rfl
  unfold Whole at h k
  rw [h] at k
  injection k with k
  injection k with _ k
  exact hne k
theorem LeadM.kept {W W' : World} {B0 bd gd bs n : Nat} {sv : Value} {qq : List Bool × List Nat} (h : LeadM W B0 bd gd bs n sv qq) (h1 : W'.heap[bd]? = W.heap[bd]?) (h2 : W'.heap[gd]? = W.heap[gd]?) (h3 : W'.heap[bs]? = W.heap[bs]?) (h4 : ∀ j, sv.ownBlock = some j → W'.heap[j]? = W.heap[j]?) : LeadM W' B0 bd gd bs n sv qq :=
  ⟨h1.trans h.box, h2.trans h.done, h3.trans h.todo, oown_kept h.row h4, h.len, h.hbd, h.hgd, h.hbs, h.cnt, h.lt⟩
theorem LeadM.below {W W' : World} {B0 bd gd bs n : Nat} {sv : Value} {qq : List Bool × List Nat} (h : LeadM W B0 bd gd bs n sv qq) (hb : Below W.heap.size W W') : LeadM W' B0 bd gd bs n sv qq :=
  h.kept (hb.block _ h.box.lt) (hb.block _ h.done.lt) (hb.block _ h.todo.lt) (fun j hj => hb.block _ (oown_lt h.row hj).2)
def Lead1Post (W0 W : World) (B0 bd gd bs n : Nat) (sv : Value) (qq : List Bool × List Nat) (e : Ending) (W' : World) : Prop :=
  e = .returned (.tuple #[]) ∧ ∃ sv', LeadM W' B0 bd gd bs n sv' qq ∧ (∀ j, j < W.heap.size → j ≠ gd → j ≠ bs → sv.ownBlock ≠ some j → W'.heap[j]? = W.heap[j]?) ∧ W.heap.size ≤ W'.heap.size ∧ (sv'.ownBlock = sv.ownBlock ∨ ∃ j, sv'.ownBlock = some j ∧ W.heap.size ≤ j) ∧ Below W0.heap.size W0 W'
theorem obools_at {W : World} {g : Nat} {l : List Bool} (h : Whole W g 4 (l.map Value.bool).toArray) (i : Nat) (hi : i < l.length) : W.cell? ⟨g, i, none⟩ = some (.bool l[i]) := by
  rw [h.cell i]
  simp [hi]
theorem obools_set (l : List Bool) (i : Nat) (b : Bool) : ((l.map Value.bool).toArray.setIfInBounds i (.bool b)) = ((l.set i b).map Value.bool).toArray := by
  simp [List.map_set]
set_option maxHeartbeats 1600000 in
set_option maxRecDepth 100000 in
theorem plead1_any (W0 W : World) (B0 : Nat) (hB0 : W0.heap.size ≤ B0) (hbel : Below W0.heap.size W0 W) (hBW : B0 ≤ W.heap.size) (bd gd bs n : Nat) (hn : n ≤ 10000) (sv : Value) (qq : List Bool × List Nat) (h : LeadM W B0 bd gd bs n sv qq) (k1 : Nat) (hk : k1 < n) :
    Calls Try.prog 101 #[.int .i64 (k1 : Int), .pointer (some ⟨bd, 0, none⟩), .pointer (some ⟨bs, 0, none⟩)] W (Lead1Post W0 W B0 bd gd bs n sv (pushQ k1 qq)) := by
  have hl : k1 < qq.1.length := by rw [h.len]; exact hk
  have b0 : W.cell? ⟨bd, 0, none⟩ = some (.slice (some ⟨gd, 0, none⟩) n n) := h.box.cell 0
  have hz : (k1 : Int) < (n : Int) := by omega
  obtain ⟨x, hx⟩ : ∃ x, qq.1[k1] = x := ⟨_, rfl⟩
  have d0 := obools_at h.done k1 hl
  rw [hx] at d0
  have hnew : newB qq.1 k1 = !x := by
    unfold newB
    rw [List.getD_eq_getElem?_getD, List.getElem?_eq_getElem hl, hx]
    rfl
  have H := Lib.hid h; have HX := Lib.hid hnew; have HBEL := Lib.hid hbel; have HB0 := Lib.hid hB0; have HN := Lib.hid hn; have HBW := Lib.hid hBW; have HK := Lib.hid hk
  cases x
  rotate_left
  · have hp : pushQ k1 qq = qq := by
      unfold pushQ
      rw [HX.out]
      rfl
    rw [hp]
    clear h hl hx hnew hbel hB0 hn hp hBW hk
    go_enter Try.func101, Try.ntmps101
    go_wp2_with fail
    go_end0
    exact ⟨rfl, sv, H.out, fun _ _ _ _ _ => rfl, Nat.le_refl _, .inl rfl, HBEL.out⟩
  · have hp : pushQ k1 qq = (qq.1.set k1 true, qq.2 ++ [k1]) := by
      unfold pushQ
      rw [HX.out]
      rfl
    have hcn := newB_count (show newB qq.1 k1 = true from HX.out)
    have HCN := Lib.hid hcn
    have z0 := h.done.free k1
    have hst : Whole (W.setCell ⟨gd, k1, none⟩ (.bool true)) gd 4 ((qq.1.set k1 true).map Value.bool).toArray := by
      rw [← obools_set]
      exact h.done.store k1 (.bool true)
    have hks := kept_set W gd k1 (.bool true)
    have hbl1 : Below W0.heap.size W0 (W.setCell ⟨gd, k1, none⟩ (.bool true)) := hbel.setCell (p := ⟨gd, k1, none⟩) (Nat.le_trans hB0 h.hgd) _
    have hsz : (W.setCell ⟨gd, k1, none⟩ (.bool true)).heap.size = W.heap.size := World.size_setCell _ _ _
    rw [hp]
    have HST := Lib.hid hst; have HKS := Lib.hid hks; have HB1 := Lib.hid hbl1; have HSZ := Lib.hid hsz
    clear hl hx hnew hbel hB0 hn hp hcn hst hks hbl1 hsz h hBW hk
    go_enter Try.func101, Try.ntmps101
    go_upto_region 2 with (fail)
    generalize W.setCell ⟨gd, k1, none⟩ (.bool true) = W1 at HST HKS HB1 HSZ ⊢
    have htd : Whole W1 bs 38 #[sv] := (HKS.out bs H.out.todo.lt (ne_types H.out.todo H.out.done (by decide))).trans H.out.todo
    have hrow : OwnZ W1 B0 sv (natsO qq.2) := oown_kept H.out.row fun j hj => HKS.out j (oown_lt H.out.row hj).2 (fun e => own_whole_ne H.out.row.1 H.out.done (by decide) (by rw [hj, e]))
    have hbx : Whole W1 bd 105 #[.slice (some ⟨gd, 0, none⟩) n n] := (HKS.out bd H.out.box.lt (ne_types H.out.box H.out.done (by decide))).trans H.out.box
    have s0 : W1.cell? ⟨bs, 0, none⟩ = some sv := htd.cell 0
    obtain ⟨sa, sc, hsv⟩ := own_slice hrow.1
    have hb2 : Below W1.heap.size W1 (W1.alloc (.cells #[.int .i64 (k1 : Int)] 3)) := (Below.refl _ W1).alloc (Nat.le_refl _) _
    have HROW := Lib.hid (hrow.below hb2)
    have HTD := Lib.hid (htd.below hb2 htd.lt); have HBX := Lib.hid (hbx.below hb2 hbx.lt); have HDN := Lib.hid (HST.out.below hb2 HST.out.lt)
    have HB2 := Lib.hid hb2
    have HCE := Lib.hid (box_at W1 3 #[.int .i64 (k1 : Int)] 0 (.int .i64 (k1 : Int)) rfl)
    clear b0 d0 z0 htd hrow hbx hsv hb2
    go_wp2_with (at_builtin; refine append_zs_at rfl (.tmp 12) (.tmp 14) rfl B0 sv (natsO qq.2) rfl HROW.out W1.heap.size k1 rfl HCE.out ?c1 ?c2 ?c3 ?_)
    case c1 => unfold R64; have h1 := HK.out; have h2 := HN.out; omega
    case c2 => rw [natsO_len]; have h1 := H.out.cnt; have h2 := HN.out; omega
    case c3 => rw [World.size_alloc]; have h1 := HBW.out; have h2 := HSZ.out; omega
    intro v' w' ho' hg' hat'
    have htd' : Whole w' bs 38 #[sv] := HTD.out.grown hg' (own_whole_ne HROW.out.1 HTD.out (by decide))
    have hbx' : Whole w' bd 105 #[.slice (some ⟨gd, 0, none⟩) n n] := HBX.out.grown hg' (own_whole_ne HROW.out.1 HBX.out (by decide))
    have hdn' : Whole w' gd 4 ((qq.1.set k1 true).map Value.bool).toArray := HDN.out.grown hg' (own_whole_ne HROW.out.1 HDN.out (by decide))
    have hbl' : Below W0.heap.size W0 w' := (HB1.out.trans (HB2.out.mono HB1.out.size)).grown hg' (by rw [World.size_alloc]; have := HB1.out.size; omega) (fun j hj => by have h1 := (oown_lt HROW.out hj).1; have h2 := HB0.out; omega)
    have s0' : w'.cell? ⟨bs, 0, none⟩ = some sv := htd'.cell 0
    have z0' := htd'.free 0
    have hnb : v'.ownBlock ≠ some bs := own_whole_ne ho'.1 htd' (by decide)
    have htd2 : Whole (w'.setCell ⟨bs, 0, none⟩ v') bs 38 #[v'] := by
      have := htd'.store 0 v'
      simpa using this
    have hnew2 : LeadM (w'.setCell ⟨bs, 0, none⟩ v') B0 bd gd bs n v' (qq.1.set k1 true, qq.2 ++ [k1]) := by
      refine ⟨hbx'.far (ne_types hbx' htd' (by decide)) _ _, hdn'.far (ne_types hdn' htd' (by decide)) _ _, htd2, oown_set (by rw [natsO_app]; exact ho') bs 0 _ hnb, by simpa using H.out.len, H.out.hbd, H.out.hgd, H.out.hbs, ?_, fun i hi => ?_⟩
      · have h1 := H.out.cnt
        have h2 := HCN.out
        simp only [List.length_append, List.length_cons, List.length_nil]
        omega
      · rcases List.mem_append.1 hi with hi | hi
        · exact H.out.lt i hi
        · obtain rfl : i = k1 := by simpa using hi
          exact HK.out
    have hfr : ∀ j, j < W.heap.size → j ≠ gd → j ≠ bs → sv.ownBlock ≠ some j → (w'.setCell ⟨bs, 0, none⟩ v').heap[j]? = W.heap[j]? := fun j hj h1 h2 h3 => by
      have hj1 : j < W1.heap.size := by rw [HSZ.out]; exact hj
      rw [Below.heap_setCell w' _ _ j h2, hg'.block j (by rw [World.size_alloc]; omega) (fun e => h3 e.symm), HB2.out.block j hj1]
      exact HKS.out j hj h1
    have hsz2 : W.heap.size ≤ (w'.setCell ⟨bs, 0, none⟩ v').heap.size := by
      rw [World.size_setCell]
      have h1 := hg'.size
      rw [World.size_alloc] at h1
      have h2 := HSZ.out
      omega
    have hat2 : v'.ownBlock = sv.ownBlock ∨ ∃ j, v'.ownBlock = some j ∧ W.heap.size ≤ j := by
      rcases hat' with h | h
      · exact .inl h
      · exact .inr ⟨_, h, by have := HSZ.out; omega⟩
    have hbl2 : Below W0.heap.size W0 (w'.setCell ⟨bs, 0, none⟩ v') := hbl'.setCell (p := ⟨bs, 0, none⟩) (by have h1 := H.out.hbs; have h2 := HB0.out; simp only; omega) _
    have HNEW := Lib.hid hnew2; have HFR := Lib.hid hfr; have HSZ2 := Lib.hid hsz2; have HAT2 := Lib.hid hat2; have HBL2 := Lib.hid hbl2
    obtain ⟨av, cv, hv⟩ := own_slice ho'.1
    obtain ⟨ln, hln⟩ : ∃ ln, (natsO qq.2 ++ [(k1 : Int)]).length = ln := ⟨_, rfl⟩
    rw [hln] at hv
    subst hv
    clear htd' hbx' hdn' hbl' hnb htd2 hnew2 hfr hsz2 hat2 hbl2 ho' hg' hat' hln HCE s0
    go_wp2_with fail
    go_end0
    exact ⟨rfl, _, HNEW.out, HFR.out, HSZ2.out, HAT2.out, HBL2.out⟩
end Go.Proofs.Ytnemacejaiifnaa
/- Is a rune in a set: the search. No condition. -/
namespace Go.Proofs.Ytnemacejaiifnaa
open Go Go.RowKit

def fitsSO (S : List (Int × Int)) (c : Int) : Bool := S.any fun r => decide (r.1 ≤ c) && decide (c ≤ r.2)
def cmpRO (r : Int × Int) (c : Int) : Int := if r.2 < c then -1 else if c < r.1 then 1 else 0
theorem cmp_anyO (y1 y2 c : Int) (w : World) :
    Calls Try.prog 113 #[.agg #[.int .i32 y1, .int .i32 y2], .int .i32 c] w fun e w' => e = .returned (.int .i64 (cmpRO (y1, y2) c)) ∧ Below w.heap.size w w' := by
  have HB := Lib.hid ((Below.refl w.heap.size w).alloc (Nat.le_refl _) (.cells #[.int .i32 y1, .int .i32 y2] 131))
  go_enter Try.func113, Try.ntmps113
  by_cases q0 : y2 < c
  · go_wp2
    go_ret
    exact ⟨by simp [cmpRO, q0], HB.out⟩
  · by_cases q1 : c < y1
    · go_wp2
      go_ret
      exact ⟨by simp [cmpRO, q0, q1], HB.out⟩
    · go_wp2
      go_ret
      exact ⟨by simp [cmpRO]; omega, HB.out⟩
theorem right_allO : ∀ (l : List (Int × Int)) (lo : Int), RightFrom lo l → ∀ x ∈ l, lo ≤ x.1 ∧ x.1 ≤ x.2
  | [], _, _, _, hx => by cases hx
  | r :: l, lo, ⟨h1, h2, h3, h4⟩, x, hx => by
    rcases List.mem_cons.1 hx with rfl | hx
    · exact ⟨h1, h2⟩
    · have := right_allO l (r.2 + 2) h4 x hx
      exact ⟨by omega, this.2⟩
theorem right_pairO : ∀ (l : List (Int × Int)) (lo : Int), RightFrom lo l → l.Pairwise (fun a b => a.2 < b.1)
  | [], _, _ => List.Pairwise.nil
  | r :: l, lo, ⟨h1, h2, h3, h4⟩ => List.pairwise_cons.2 ⟨fun x hx => by have := (right_allO l (r.2 + 2) h4 x hx).1; omega, right_pairO l (r.2 + 2) h4⟩
theorem right_monoO (l : List (Int × Int)) (hS : RightR l) (j k : Nat) (hj : j < l.length) (hk : k < l.length) (h : j ≤ k) : l[j].2 ≤ l[k].2 := by
  by_cases e : j = k
  · subst e; exact Int.le_refl _
  · have h1 := List.pairwise_iff_getElem.1 (right_pairO l 0 hS) j k hj hk (by omega)
    have h2 := (right_allO l 0 hS _ (List.getElem_mem hk)).2
    omega
theorem search_fitsO (l : List (Int × Int)) (hS : RightR l) (c : Int) (p : Nat) (hL : ∀ k (hk : k < l.length), k < p → l[k].2 < c) (hR : ∀ k (hk : k < l.length), p ≤ k → c ≤ l[k].2) : fitsSO l c = if h : p < l.length then decide (cmpRO l[p] c = 0) else false := by
  have hP := right_pairO l 0 hS
  rw [Bool.eq_iff_iff]
  unfold fitsSO
  rw [List.any_eq_true]
  constructor
  · rintro ⟨r, hr, h⟩
    rw [Bool.and_eq_true, decide_eq_true_eq, decide_eq_true_eq] at h
    obtain ⟨k, hk, rfl⟩ := List.getElem_of_mem hr
    have hkp : ¬ k < p := fun e => by have := hL k hk e; omega
    have hke : k = p := by
      by_cases e : k = p
      · exact e
      · have h1 := List.pairwise_iff_getElem.1 hP p k (by omega) hk (by omega)
        have h2 := hR p (by omega) (Nat.le_refl _)
        omega
    subst hke
    rw [dif_pos hk, decide_eq_true_eq]
    unfold cmpRO
    rw [if_neg (by omega), if_neg (by omega)]
  · intro h
    split at h
    · rename_i hp
      rw [decide_eq_true_eq] at h
      refine ⟨l[p], List.getElem_mem hp, ?_⟩
      rw [Bool.and_eq_true, decide_eq_true_eq, decide_eq_true_eq]
      unfold cmpRO at h
      split at h
      · cases h
      · split at h
        · cases h
        · omega
    · cases h
set_option maxRecDepth 4000 in
set_option maxHeartbeats 1600000 in
theorem search_anyO (l : List (Int × Int)) (hS : RightR l) (v : Value) (c : Int) (w : World) (h : Rgs w v l) :
    Calls Try.prog 112 #[v, .int .i32 c, .func (.func 113) #[] #[]] w fun e w' => ∃ m : Nat, e = .returned (.tuple #[.int .i64 m, .bool (fitsSO l c)]) ∧ Below w.heap.size w w' := by
  have HR := Lib.hid h
  obtain ⟨a, cp, rfl, h2, h3, h4, h5, h6⟩ := h
  have hlen : l.length ≤ 1114112 := by have := right_len l 0 (by omega) hS; omega
  clear h5 h6 h4 h2 h3
  obtain ⟨n, hn⟩ : ∃ n, l.length = n := ⟨_, rfl⟩
  have HN := Lib.hid hn
  have HSS := Lib.hid hS
  rw [hn] at hlen ⊢
  clear hn hS
  go_enter Try.func112, Try.ntmps112
  go_wp2
  go_loopw [9, 10] (fun i j wr => ∃ p q : Nat, p ≤ q ∧ q ≤ n ∧ i = .int .i64 p ∧ j = .int .i64 q ∧ Below w.heap.size w wr ∧ Hid (∀ k (hk : k < l.length), k < p → l[k].2 < c) ∧ Hid (∀ k (hk : k < l.length), q ≤ k → c ≤ l[k].2)) (fun i j _ => (intOf j).toNat - (intOf i).toNat)
  case atStart => exact ⟨0, n, by omega, by omega, rfl, rfl, Below.refl _ _, Lib.hid fun k hk h => by omega, Lib.hid fun k hk h => by have := HN.out; omega⟩
  case round =>
    obtain ⟨p, q, hpq, hq, rfl, rfl, hB, hL, hR⟩ := hrel
    have HB := Lib.hid hB
    clear hB
    by_cases hlt : p < q
    · obtain ⟨m, hm⟩ : ∃ m, (p + q) / 2 = m := ⟨_, rfl⟩
      have e1 : IntKind.i64.wrap ((p : Int) + q) = ((p + q : Nat) : Int) := (IntWalk.i64_left _).trans ((IntWalk.wrap64_in _ ⟨by omega, by omega⟩).trans (by omega))
      have e2 : wrap64 (IntKind.u64.wrap ((p : Int) + q) / 2) = (m : Int) := by
        have h1 : IntKind.u64.wrap ((p : Int) + q) = (p : Int) + q := by simp [IntKind.wrap, IntKind.signed, IntKind.bits]; omega
        rw [h1, IntWalk.wrap64_in _ ⟨by omega, by omega⟩]
        omega
      have hml : m < n := by omega
      have HMP := Lib.hid (show p ≤ m by omega); have HMQ := Lib.hid (show m < q by omega); have HQN := Lib.hid hq
      obtain ⟨a', c', e, q2, q3, q4, q5, q6⟩ := HR.out.below HB.out
      injection e with g1 g2 g3
      subst g1 g3
      rcases q5 with q5 | ⟨b, o, rfl, hc⟩
      · exact absurd HN.out (by rw [q5]; simp; omega)
      have hm' : m < l.length := by rw [HN.out]; exact hml
      obtain ⟨c1, c2⟩ := hc m hm'
      obtain ⟨y, hy⟩ : ∃ y, l[m] = y := ⟨_, rfl⟩
      rw [hy] at c1 c2
      have HP := Lib.hid (right_monoO l HSS.out)
      have HY := Lib.hid (show ∃ h : m < l.length, l[m] = y from ⟨hm', hy⟩)
      obtain ⟨y1, y2⟩ := y
      simp only at c1 c2
      have HM := Lib.hid hm
      clear hc hy q6 hpq hq hm hm' q2 q3 q4 g2
      go_upto_region 5 with (fail)
      by_cases q0 : y2 < c
      · have HC := Lib.hid (show Calls Try.prog 113 #[.agg #[.int .i32 y1, .int .i32 y2], .int .i32 c] wr fun e w' => e = .returned (.int .i64 (-1)) ∧ Below wr.heap.size wr w' from by have := cmp_anyO y1 y2 c wr; simp only [cmpRO, if_pos q0] at this; exact this)
        go_wp2_with fail
        refine HC.out.mono ?_
        rintro e w' ⟨rfl, hb⟩
        have HB2 := Lib.hid hb
        clear hb
        go_wp2_with fail
        go_roundw
        case rel => exact ⟨m + 1, q, by have := HMQ.out; omega, HQN.out, by go_num, rfl, HB.out.trans (HB2.out.mono HB.out.size), Lib.hid fun k hk hkm => by
          obtain ⟨h1, h2⟩ := HY.out
          have h3 := HP.out k m hk h1 (by omega)
          rw [h2] at h3
          dsimp only at h3
          omega, hR⟩
        case measure =>
          have := HMQ.out; have := HMP.out
          simp [intOf]; omega
      · obtain ⟨cv, hcv⟩ : ∃ cv, cmpRO (y1, y2) c = cv := ⟨_, rfl⟩
        have hcv0 : ¬ cv < 0 := by
          subst hcv
          unfold cmpRO
          split
          · exact absurd ‹_› q0
          · split <;> omega
        have HC := Lib.hid (cmp_anyO y1 y2 c wr)
        rw [hcv] at HC
        clear hcv
        go_wp2_with fail
        refine HC.out.mono ?_
        rintro e w' ⟨rfl, hb⟩
        have HB2 := Lib.hid hb
        clear hb
        go_wp2_with fail
        go_roundw
        case rel => exact ⟨p, m, HMP.out, by have := HMQ.out; have := HQN.out; omega, rfl, rfl, HB.out.trans (HB2.out.mono HB.out.size), hL, Lib.hid fun k hk hkm => by
          obtain ⟨h1, h2⟩ := HY.out
          have h3 := HP.out m k h1 hk hkm
          rw [h2] at h3
          dsimp only at h3
          omega⟩
        case measure =>
          have := HMQ.out; have := HMP.out
          simp [intOf]; omega
    · obtain rfl : p = q := by omega
      have HF := Lib.hid (search_fitsO l HSS.out c p hL.out hR.out)
      by_cases hpn : p < n
      · obtain ⟨a', c', e, q2, q3, q4, q5, q6⟩ := HR.out.below HB.out
        injection e with g1 g2 g3
        subst g1 g3
        rcases q5 with q5 | ⟨b, o, rfl, hc⟩
        · exact absurd HN.out (by rw [q5]; simp; omega)
        have hm' : p < l.length := by rw [HN.out]; exact hpn
        obtain ⟨c1, c2⟩ := hc p hm'
        obtain ⟨y, hy⟩ : ∃ y, l[p] = y := ⟨_, rfl⟩
        rw [hy] at c1 c2
        obtain ⟨y1, y2⟩ := y
        simp only at c1 c2
        have HFF := HF.out
        rw [dif_pos hm', hy] at HFF
        obtain ⟨cv, hcv⟩ : ∃ cv, cmpRO (y1, y2) c = cv := ⟨_, rfl⟩
        have HC := Lib.hid (cmp_anyO y1 y2 c wr)
        rw [hcv] at HC HFF
        have HFF := Lib.hid HFF
        clear hcv hc hy q6 hpq hq hm' q2 q3 q4 g2
        go_wp2_with fail
        refine HC.out.mono ?_
        rintro e w' ⟨rfl, hb⟩
        have HB2 := Lib.hid hb
        clear hb
        go_wp2_with fail
        go_ret2
        exact ⟨p, by rw [HFF.out]; rfl, HB.out.trans (HB2.out.mono HB.out.size)⟩
      · have HFF := HF.out
        rw [dif_neg (by rw [HN.out]; exact hpn)] at HFF
        replace HFF := Lib.hid HFF
        go_wp2_with fail
        go_ret2
        exact ⟨p, by rw [HFF.out]; rfl, HB.out⟩
theorem has_inO (l : List (Int × Int)) (hS : RightR l) (v : Value) (c : Int) (w : World) (h : Rgs w v l) :
    Calls Try.prog 75 #[v, .int .i32 c] w fun e w' => e = .returned (.bool (fitsSO l c)) ∧ Below w.heap.size w w' := by
  have HS := Lib.hid (search_anyO l hS v c w h)
  clear h hS
  go_enter Try.func75, Try.ntmps75
  go_wp2_with fail
  refine HS.out.mono ?_
  rintro e w' ⟨m, rfl, hb⟩
  have HB := Lib.hid hb
  clear hb
  go_wp2_with fail
  go_ret
  exact ⟨rfl, HB.out⟩
end Go.Proofs.Ytnemacejaiifnaa
/- What a pass keeps in its boxes, and that it stays where the walk alone turns memory. No condition. -/
namespace Go.Proofs.Ytnemacejaiifnaa
open Go Go.RowKit

theorem right_in : ∀ (l : List (Int × Int)) (lo : Int), RightFrom lo l → 0 ≤ lo → ∀ r ∈ l, 0 ≤ r.1 ∧ r.2 ≤ 1114111
  | [], _, _, _, r, hr => by simp at hr
  | x :: l, lo, h, h0, r, hr => by
    obtain ⟨h1, h2, h3, h4⟩ := h
    rcases List.mem_cons.1 hr with rfl | hr
    · exact ⟨by omega, h3⟩
    · exact right_in l (x.2 + 2) h4 (by omega) r hr
theorem fits_has {l : List (Int × Int)} (h : RightR l) (c : Int) : fitsSO l c = hasB l c := by
  have hin := right_in l 0 h (by omega)
  rw [Bool.eq_iff_iff]
  unfold fitsSO hasB
  rw [List.any_eq_true, decide_eq_true_iff]
  unfold HasR
  constructor
  · rintro ⟨r, hr, e⟩
    rw [Bool.and_eq_true, decide_eq_true_eq, decide_eq_true_eq] at e
    have := hin r hr
    exact ⟨by omega, by omega, r, hr, e⟩
  · rintro ⟨-, -, r, hr, e1, e2⟩
    exact ⟨r, hr, by rw [Bool.and_eq_true, decide_eq_true_eq, decide_eq_true_eq]; exact ⟨e1, e2⟩⟩
def readZ : Option (Nat × List Nat) → Int
  | none => -1
  | some x => (x.1 : Int)
/-- A box of an int, apart from all rows that a run owns. -/
structure ApBox (gm gb : Nat) (lb : Option Nat) (fv mv : Value) (b : Nat) : Prop where
  nm : b ≠ gm
  nb : b ≠ gb
  nl : lb ≠ some b
  nf : fv.ownBlock ≠ some b
  nv : mv.ownBlock ≠ some b
structure PassM (W0 W : World) (q gm gb : Nat) (cs : Array Value) (lb : Option Nat) (caps : Nat) (iv : Value) (long : Bool) (fv : Value) (fit : List Int) (mv : Value) (br ba bo bc bd bi : Nat) (j : Nat) (c is : Int) (s : Ps) : Prop where
  run : RunB W0 W q gm gb cs lb caps iv long fv fit mv s.got s.steps
  r : Whole W br 165 #[.pointer (some ⟨q, 0, none⟩)]
  a : Whole W ba 3 #[.int .i64 (j : Int)]
  o : Whole W bo 4 #[.bool s.over]
  c : Whole W bc 21 #[.int .i32 c]
  d : Whole W bd 3 #[.int .i64 (readZ s.read)]
  i : Whole W bi 25 #[.int .i64 is]
  ho : W0.heap.size ≤ bo
  hd : W0.heap.size ≤ bd
  apA : ApBox gm gb lb fv mv ba
  apD : ApBox gm gb lb fv mv bd
  ne : ba ≠ bd
section
variable {W0 W W' : World} {q gm gb n : Nat} {IV : Value} {cs cs' : Array Value} {M B : List Int} {rr : Int} {lv : Value} {left : List Nat} {lb lb' : Option Nat} {caps : Nat} {iv : Value} {long : Bool} {fv : Value} {fit : List Int} {mv mv' : Value} {br ba bo bc bd bi j : Nat} {c is : Int} {s : Ps}
theorem ApBox.other (h : ApBox gm gb lb fv mv ba) (hb : ba < W.heap.size) (hl : lb' = lb ∨ ∃ k, lb' = some k ∧ W.heap.size ≤ k) (hv : mv'.ownBlock = mv.ownBlock ∨ ∃ k, mv'.ownBlock = some k ∧ W.heap.size ≤ k) : ApBox gm gb lb' fv mv' ba := by
  refine ⟨h.nm, h.nb, fun e => ?_, h.nf, fun e => ?_⟩
  · rcases hl with e2 | ⟨k, e2, hk⟩
    · exact h.nl (by rw [← e2, e])
    · rw [e2] at e
      injection e with e
      omega
  · rcases hv with e2 | ⟨k, e2, hk⟩
    · exact h.nv (by rw [← e2, e])
    · rw [e2] at e
      injection e with e
      omega
theorem PassM.estep (hv : WaysIn W0 W q gm gb n IV 139 cs M B rr lv left) (h : PassM W0 W q gm gb cs lv.ownBlock caps iv long fv fit mv br ba bo bc bd bi j c is s) (ha : AgreeW cs cs') (he : EStep q gm gb lv.ownBlock lb' W W') :
    PassM W0 W' q gm gb cs' lb' caps iv long fv fit mv br ba bo bc bd bi j c is s := by
  have key : ∀ {k : Nat} {ty : TypeId} {cc : Array Value}, Whole W k ty cc → ty ≠ 139 → ty ≠ 3 → Whole W' k ty cc := fun hk h1 h2 =>
    (he.blk _ hk.lt (ne_types hk hv.box h1) (ne_types hk hv.met h2) (ne_types hk hv.by' h2) (own_whole_ne hv.own.1 hk (fun e => h2 e.symm))).trans hk
  have kbox : ∀ {k : Nat} {cc : Array Value}, ApBox gm gb lv.ownBlock fv mv k → Whole W k 3 cc → Whole W' k 3 cc := fun hp hk =>
    (he.blk _ hk.lt (ne_types hk hv.box (by decide)) hp.nm hp.nb hp.nl).trans hk
  exact ⟨h.run.step (fun v e => h.run.ne hv.box (by decide) v e) ha he, key h.r (by decide) (by decide), kbox h.apA h.a, key h.o (by decide) (by decide), key h.c (by decide) (by decide), kbox h.apD h.d, key h.i (by decide) (by decide), h.ho, h.hd, h.apA.other h.a.lt he.row (.inl rfl), h.apD.other h.d.lt he.row (.inl rfl), h.ne⟩
/-- The run's box and its match alone are turned. -/
theorem PassM.moved {s' : Ps} (hv : WaysIn W0 W q gm gb n IV 139 cs M B rr lv left) (h : PassM W0 W q gm gb cs lv.ownBlock caps iv long fv fit mv br ba bo bc bd bi j c is s) (hk : ∀ k, k < W.heap.size → k ≠ q → mv.ownBlock ≠ some k → W'.heap[k]? = W.heap[k]?)
    (hm : mv'.ownBlock = mv.ownBlock ∨ ∃ k, mv'.ownBlock = some k ∧ W.heap.size ≤ k) (hr : RunB W0 W' q gm gb cs' lv.ownBlock caps iv long fv fit mv' s'.got s'.steps) (h1 : s'.read = s.read) (h2 : s'.over = s.over) : PassM W0 W' q gm gb cs' lv.ownBlock caps iv long fv fit mv' br ba bo bc bd bi j c is s' := by
  have key : ∀ {k : Nat} {ty : TypeId} {cc : Array Value}, Whole W k ty cc → ty ≠ 139 → ty ≠ 3 → Whole W' k ty cc := fun hk' h1 h2 =>
    (hk _ hk'.lt (ne_types hk' hv.box h1) (h.run.ne hk' h2 _ (.inr rfl))).trans hk'
  have kbox : ∀ {k : Nat} {cc : Array Value}, ApBox gm gb lv.ownBlock fv mv k → Whole W k 3 cc → Whole W' k 3 cc := fun hp hk' =>
    (hk _ hk'.lt (ne_types hk' hv.box (by decide)) hp.nv).trans hk'
  exact ⟨hr, key h.r (by decide) (by decide), kbox h.apA h.a, by rw [h2]; exact key h.o (by decide) (by decide), key h.c (by decide) (by decide), by rw [h1]; exact kbox h.apD h.d, key h.i (by decide) (by decide), h.ho, h.hd, h.apA.other h.a.lt (.inl rfl) hm, h.apD.other h.d.lt (.inl rfl) hm, h.ne⟩
/-- Whether all is over. -/
theorem PassM.putO (hv : WaysIn W0 W q gm gb n IV 139 cs M B rr lv left) (h : PassM W0 W q gm gb cs lv.ownBlock caps iv long fv fit mv br ba bo bc bd bi j c is s) (b : Bool) :
    PassM W0 (W.setCell ⟨bo, 0, none⟩ (.bool b)) q gm gb cs lv.ownBlock caps iv long fv fit mv br ba bo bc bd bi j c is ⟨s.steps, s.got, s.read, b⟩ := by
  have ho := h.o.store 0 (.bool b)
  refine ⟨h.run.kept (fun k hk => Below.heap_setCell W _ _ k (fun e => ?_)) (fun _ _ => rfl) (fun k hk => .inl hk), h.r.far (ne_types h.r h.o (by decide)) _ _, h.a.far (ne_types h.a h.o (by decide)) _ _, by simpa using ho, h.c.far (ne_types h.c h.o (by decide)) _ _, h.d.far (ne_types h.d h.o (by decide)) _ _, h.i.far (ne_types h.i h.o (by decide)) _ _, h.ho, h.hd, h.apA, h.apD, h.ne⟩
  subst e
  rcases hk with hk | hk
  · exact h.run.ne h.o (by decide) _ (.inl rfl) hk
  · exact h.run.ne h.o (by decide) _ (.inr rfl) hk
/-- What reads. -/
theorem PassM.putD (hv : WaysIn W0 W q gm gb n IV 139 cs M B rr lv left) (h : PassM W0 W q gm gb cs lv.ownBlock caps iv long fv fit mv br ba bo bc bd bi j c is s) (x : Nat × List Nat) :
    PassM W0 (W.setCell ⟨bd, 0, none⟩ (.int .i64 (x.1 : Int))) q gm gb cs lv.ownBlock caps iv long fv fit mv br ba bo bc bd bi j c is ⟨s.steps, s.got, some x, s.over⟩ := by
  have hd := h.d.store 0 (.int .i64 (x.1 : Int))
  refine ⟨h.run.kept (fun k hk => Below.heap_setCell W _ _ k (fun e => ?_)) (fun _ _ => rfl) (fun k hk => .inl hk), h.r.far (ne_types h.r h.d (by decide)) _ _, h.a.far h.ne _ _, h.o.far (ne_types h.o h.d (by decide)) _ _, h.c.far (ne_types h.c h.d (by decide)) _ _, by simpa [readZ] using hd, h.i.far (ne_types h.i h.d (by decide)) _ _, h.ho, h.hd, h.apA, h.apD, h.ne⟩
  subst e
  rcases hk with hk | hk
  · exact h.apD.nf hk
  · exact h.apD.nv hk
theorem PassM.below (hv : WaysIn W0 W q gm gb n IV 139 cs M B rr lv left) (h : PassM W0 W q gm gb cs lv.ownBlock caps iv long fv fit mv br ba bo bc bd bi j c is s) (hb : Below W.heap.size W W') : PassM W0 W' q gm gb cs lv.ownBlock caps iv long fv fit mv br ba bo bc bd bi j c is s :=
  h.estep hv (AgreeW.refl _) (EStep.below hb)
end
end Go.Proofs.Ytnemacejaiifnaa
/- What a pass does with each that it comes to. No condition. -/
namespace Go.Proofs.Ytnemacejaiifnaa
open Go Go.RowKit

def Pass1Post (W0 W : World) (q gm gb n : Nat) (IV : Value) (M B : List Int) (rr : Int) (lv : Value) (left : List Nat) (cs : Array Value) (caps : Nat) (iv : Value) (long : Bool) (fv : Value) (fit : List Int) (br ba bo bc bd bi j : Nat) (c is : Int) (s' : Ps) (T : Bool) (e : Ending) (W' : World) : Prop :=
  e = .returned (.bool T) ∧ ∃ cs' mv', WaysIn W0 W' q gm gb n IV 139 cs' M B rr lv left ∧ (∀ j, j < 5 → cs'[j]? = cs[j]?) ∧ W.heap.size ≤ W'.heap.size ∧ (∀ k, lv.ownBlock = some k → W'.heap[k]? = W.heap[k]?) ∧ PassM W0 W' q gm gb cs' lv.ownBlock caps iv long fv fit mv' br ba bo bc bd bi j c is s'
set_option maxHeartbeats 8000000 in
set_option maxRecDepth 100000 in
theorem ppass1_any (p : Pg) (hR : RightPg p) (W0 W : World) (q gm gb n : Nat) (hn : p.ins.length = n) (IV : Value) (hI : Inss W0 IV p.ins) (cs : Array Value) (M B : List Int) (rr : Int) (lv : Value) (left : List Nat) (h : WaysIn W0 W q gm gb n IV 139 cs M B rr lv left)
    (caps : Nat) (iv : Value) (long : Bool) (fv : Value) (fit : List Int) (mv : Value) (br ba bo bc bd bi j : Nat) (c is : Int) (s : Ps) (hb : PassM W0 W q gm gb cs lv.ownBlock caps iv long fv fit mv br ba bo bc bd bi j c is s) (hc : (caps : Int) = p.caps) (hst : s.steps ≤ 90000000000)
    (x : Nat × List Nat) (hx : x.1 < n) (hch : ChainB B (x.1 :: x.2)) (hpl : x.2.length < 10000) (hpn : ∀ a ∈ x.1 :: x.2, a < n) (hj : j ≤ 1000000) (meets : Int → Bool) (hmt : ∀ t, meets t = (bits .and .i64 t is != 0)) :
    Calls Try.prog 146 #[.int .i64 (x.1 : Int), .pointer (some ⟨br, 0, none⟩), .pointer (some ⟨ba, 0, none⟩), .pointer (some ⟨bo, 0, none⟩), .pointer (some ⟨bc, 0, none⟩), .pointer (some ⟨bd, 0, none⟩), .pointer (some ⟨bi, 0, none⟩)] W (Pass1Post W0 W q gm gb n IV M B rr lv left cs caps iv long fv fit br ba bo bc bd bi j c is (stepP p.ins long j c fit s x) (tstI meets (atI p.ins x.1))) := by
  obtain ⟨IA, ic, hIV⟩ : ∃ A c, IV = .slice A n c := by
    obtain ⟨A, c, e, -⟩ := hI
    exact ⟨A, c, by rw [e, hn]⟩
  subst hIV
  have hc2 : 2 ≤ caps := by have := hR.2.2.2.1; omega
  have hc3 : caps ≤ 100000000 := by have := hR.2.2.2.2.1; omega
  have h1 := h.putX 9 (by omega) (.int .i64 ((s.steps + 1 : Nat) : Int))
  have hb1 : PassM W0 (W.setCell ⟨q, 9, none⟩ (.int .i64 ((s.steps + 1 : Nat) : Int))) q gm gb (cs.setIfInBounds 9 (.int .i64 ((s.steps + 1 : Nat) : Int))) lv.ownBlock caps iv long fv fit mv br ba bo bc bd bi j c is ⟨s.steps + 1, s.got, s.read, s.over⟩ :=
    hb.moved h (fun k _ hk _ => Below.heap_setCell W _ _ k hk) (.inl rfl) (hb.run.steps' h.box (by decide) (s.steps + 1)) rfl rfl
  have hcs1 : ∀ j, j < 5 → (cs.setIfInBounds 9 (.int .i64 ((s.steps + 1 : Nat) : Int)))[j]? = cs[j]? := fun j hj => by rw [Array.getElem?_setIfInBounds_ne (by omega)]
  have hs1 := World.size_setCell W ⟨q, 9, none⟩ (.int .i64 ((s.steps + 1 : Nat) : Int))
  have hlw : ∀ k, lv.ownBlock = some k → (W.setCell ⟨q, 9, none⟩ (.int .i64 ((s.steps + 1 : Nat) : Int))).heap[k]? = W.heap[k]? := fun k hk => Below.heap_setCell W _ _ k (fun e => own_whole_ne h.own.1 h.box (by decide) (by rw [hk, e]))
  have hlk : ∀ k, lv.ownBlock = some k → k < W.heap.size ∧ k ≠ q ∧ k ≠ bo ∧ k ≠ bd ∧ mv.ownBlock ≠ some k := fun k hk => ⟨(oown_lt h.own hk).2, fun e => own_whole_ne h.own.1 h.box (by decide) (by rw [hk, e]), fun e => own_whole_ne h.own.1 hb.o (by decide) (by rw [hk, e]), fun e => hb.apD.nl (by rw [hk, e]), fun e => hb.run.ml k e hk⟩
  obtain ⟨st, hst'⟩ : ∃ st, s.steps = st := ⟨_, rfl⟩
  rw [hst'] at h1 hb1 hcs1 hs1 hst hlw
  have hz : IntKind.i64.wrap ((st : Int) + 1) = ((st + 1 : Nat) : Int) := by rw [ow_wrap _ ⟨by omega, by omega⟩]; omega
  have hz2 : wrap64 ((st : Int) + 1) = ((st + 1 : Nat) : Int) := by rw [IntWalk.wrap64_in _ ⟨by omega, by omega⟩]; omega
  have hz0 : (st : Int) + 1 = ((st + 1 : Nat) : Int) := by omega
  have r0 : W.cell? ⟨br, 0, none⟩ = some (.pointer (some ⟨q, 0, none⟩)) := hb.r.cell 0
  have q9 : W.cell? ⟨q, 9, none⟩ = some (.int .i64 (st : Int)) := by rw [← hst']; exact (h.box.cell 9).trans hb.run.c9
  have z9 := h.box.free 9
  obtain ⟨b, o, y, a2, sl, cz, hA, hy, hym, hsl, hat, hF, hrg, hbd, -⟩ := hI.at' x.1 (by rw [hn]; exact hx)
  subst hA
  have hsd := hR.2.2.2.2.2.2 y hym
  rw [hn] at hsd
  have HSP : Hid (stepP p.ins long j c fit s x = stepP p.ins long j c fit s x) := Lib.hid rfl
  have hxz : (x.1 : Int) < (n : Int) := by omega
  have H1 := Lib.hid h1; have HB1 := Lib.hid hb1; have HCS1 := Lib.hid hcs1; have HS1 := Lib.hid hs1; have HZ0 := Lib.hid hz0; have HI := Lib.hid hI; have HR := Lib.hid hR; have HN := Lib.hid hn; have HC := Lib.hid hc; have HC2 := Lib.hid hc2; have HC3 := Lib.hid hc3; have HST := Lib.hid hst; have HCH := Lib.hid hch; have HPL := Lib.hid hpl; have HPN := Lib.hid hpn; have HJ := Lib.hid hj; have HAT := Lib.hid hat; have HF0 := Lib.hid hF; have HRG := Lib.hid hrg; have HSD := Lib.hid hsd; have HSS := Lib.hid hst'; have HMT := Lib.hid hmt; have HX := Lib.hid hx; have HLW := Lib.hid hlw; have HLK := Lib.hid (show ∀ k, lv.ownBlock = some k → k < (W.setCell ⟨q, 9, none⟩ (.int .i64 ((st + 1 : Nat) : Int))).heap.size ∧ k ≠ q ∧ k ≠ bo ∧ k ≠ bd ∧ mv.ownBlock ≠ some k from fun k hk => ⟨by rw [World.size_setCell]; exact (hlk k hk).1, (hlk k hk).2⟩)
  clear hlw hlk h hb h1 hb1 hcs1 hs1 hz0 hI hR hn hc hc2 hc3 hst hch hpl hpn hj hat hF hrg hsd hst' hbd hsl hy hym hmt HSP hx
  go_enter Try.func146, Try.ntmps146
  go_upto_region 2 with (fail)
  rw [HZ0.out]
  generalize W.setCell ⟨q, 9, none⟩ (.int .i64 ((st + 1 : Nat) : Int)) = W1 at H1 HB1 HS1 HLW HLK ⊢
  obtain ⟨cs1, hcs1⟩ : ∃ cs1, cs.setIfInBounds 9 (.int .i64 ((st + 1 : Nat) : Int)) = cs1 := ⟨_, rfl⟩
  rw [hcs1] at H1 HB1 HCS1
  clear hz hz2 q9 r0 z9 hcs1 HZ0
  have r0 : W1.cell? ⟨br, 0, none⟩ = some (.pointer (some ⟨q, 0, none⟩)) := HB1.out.r.cell 0
  have q0 : W1.cell? ⟨q, 0, none⟩ = some (.slice (some ⟨b, o, none⟩) n ic) := (H1.out.box.cell 0).trans H1.out.c0
  obtain ⟨yo, yu, ya, ys, yt⟩ := y
  obtain ⟨k0, k1, k2, k3, k4⟩ := HF0.out.below H1.out.bel
  simp only at k0 k3 k4
  have hhit : isHit p.ins x.1 = decide (yo = 1) := by unfold isHit; rw [HAT.out]
  have hset : isSet p.ins x.1 = decide (yo = 2) := by unfold isSet; rw [HAT.out]
  by_cases o1 : yo = 1
  · subst o1
    have hT : tstI meets ⟨1, yu, ya, ys, yt⟩ = true := by simp [tstI]
    have HT := Lib.hid hT
    have HE := Lib.hid (pend_any p HR.out W0 W1 q gm gb n HN.out _ HI.out cs1 M B rr lv left H1.out caps iv long fv fit mv s.got (st + 1) HB1.out.run HC.out HC2.out HC3.out (by have := HST.out; omega) x HCH.out HPL.out HPN.out j HJ.out hhit)
    have a0 : W1.cell? ⟨ba, 0, none⟩ = some (.int .i64 (j : Int)) := HB1.out.a.cell 0
    have HHIT := Lib.hid hhit
    clear hT hhit hset k1 k2 k3 k4
    go_wp2_with fail
    refine HE.out.mono ?_
    rintro e W2 ⟨rfl, cs2, mv2, h2, hr2, hcs2, hs2, hf2, hm2⟩
    have hp2 := HB1.out.moved (s' := ⟨st + 1 + (fit.length + (x.2.length + 1)), some ((keepI p.ins j x.2 fit).set 1 (j : Int)), s.read, s.over⟩) H1.out hf2 hm2 hr2 rfl rfl
    have r2 : W2.cell? ⟨br, 0, none⟩ = some (.pointer (some ⟨q, 0, none⟩)) := hp2.r.cell 0
    have q6 : W2.cell? ⟨q, 6, none⟩ = some (.bool long) := (h2.box.cell 6).trans hp2.run.c6
    have o2 : W2.cell? ⟨bo, 0, none⟩ = some (.bool s.over) := hp2.o.cell 0
    have z2 := hp2.o.free 0
    have hp3 := hp2.putO h2 (!long)
    have h3 := h2.away (W' := W2.setCell ⟨bo, 0, none⟩ (.bool (!long))) (h2.bel.setCell (p := ⟨bo, 0, none⟩) hp2.ho _) (fun k hk hh => Below.heap_setCell W2 _ _ k (by
      rintro rfl
      rcases hh with e | e | e | e
      · exact ne_types h2.box hp2.o (by decide) e.symm
      · exact ne_types h2.met hp2.o (by decide) e.symm
      · exact ne_types h2.by' hp2.o (by decide) e.symm
      · exact own_whole_ne h2.own.1 hp2.o (by decide) e))
    have hz3 := World.size_setCell W2 ⟨bo, 0, none⟩ (.bool (!long))
    have hfin : stepP p.ins long j c fit s x = ⟨st + 1 + (fit.length + (x.2.length + 1)), some ((keepI p.ins j x.2 fit).set 1 (j : Int)), s.read, !long⟩ := by
      unfold stepP
      rw [HHIT.out, HSS.out]
      simp
    have HFIN := Lib.hid hfin
    have HP3 := Lib.hid hp3; have H3 := Lib.hid h3; have HKW : Hid (∀ k, lv.ownBlock = some k → (W2.setCell ⟨bo, 0, none⟩ (.bool (!long))).heap[k]? = W.heap[k]?) := Lib.hid (fun k hk => by
      obtain ⟨g1, g2, g3, g4, g5⟩ := HLK.out k hk
      exact ((Below.heap_setCell W2 _ _ k g3).trans (hf2 k g1 g2 g5)).trans (HLW.out k hk))
    have HZ3 := Lib.hid hz3; have HS2 := Lib.hid hs2; have HCS2 := Lib.hid hcs2
    clear h2 hr2 hcs2 hs2 hf2 hm2 hp2 hp3 h3 hz3 hfin HE
    go_upto_region 12 with (fail)
    generalize W2.setCell ⟨bo, 0, none⟩ (.bool (!long)) = W3 at HP3 H3 HZ3 HKW ⊢
    clear r2 q6 o2 z2
    go_wp2_with fail
    go_ret
    exact ⟨by rw [HAT.out, HT.out]; rfl, cs2, mv2, H3.out, fun j hj => (HCS2.out j (by omega)).trans (HCS1.out j hj), by rw [HZ3.out, ← HS1.out]; exact HS2.out, HKW.out, by rw [HFIN.out]; exact HP3.out⟩
  have d1 : (yo == 1) = false := by simp [o1]
  have nohit : isHit p.ins x.1 = false := by rw [hhit]; exact decide_eq_false o1
  by_cases o2 : yo = 2
  · subst o2
    have hs2 := (sound_set n p.caps yu ya yt ys).1 HSD.out
    obtain ⟨-, -, ⟨hne, hrs⟩, -⟩ := hs2
    have hT : tstI meets ⟨2, yu, ya, ys, yt⟩ = true := by simp [tstI]
    have HT := Lib.hid hT
    have hread : readsI p.ins c x = hasB ys c := by
      unfold readsI
      rw [hset, HAT.out]
      simp
    have o0 : W1.cell? ⟨bo, 0, none⟩ = some (.bool s.over) := HB1.out.o.cell 0
    have c0 : W1.cell? ⟨bc, 0, none⟩ = some (.int .i32 c) := HB1.out.c.cell 0
    have hst : stepP p.ins long j c fit s x = ⟨st + 1, s.got, if (!s.over && hasB ys c) = true then some x else s.read, s.over⟩ := by
      unfold stepP
      rw [nohit, hread, HSS.out]
      simp
    have HST2 := Lib.hid hst
    have HHS := Lib.hid (has_inO ys hrs (.slice a2 sl cz) c W1.drew (HRG.out.below (show Below W0.heap.size W0 W1.drew from H1.out.bel.drew)))
    clear hT hread hst hhit hset nohit o1 hne k1 k2 k4
    have HEND : Hid (∀ (W2 : World) (s2 : Ps), s2 = stepP p.ins long j c fit s x → WaysIn W0 W2 q gm gb n (.slice (some ⟨b, o, none⟩) n ic) 139 cs1 M B rr lv left → W1.heap.size ≤ W2.heap.size → (∀ k, lv.ownBlock = some k → W2.heap[k]? = W1.heap[k]?) → PassM W0 W2 q gm gb cs1 lv.ownBlock caps iv long fv fit mv br ba bo bc bd bi j c is s2 →
        Pass1Post W0 W q gm gb n (.slice (some ⟨b, o, none⟩) n ic) M B rr lv left cs caps iv long fv fit br ba bo bc bd bi j c is (stepP p.ins long j c fit s x) (tstI meets (atI p.ins x.1)) (.returned (.bool true)) W2) := Lib.hid fun W2 s2 e h2 hz hk hp => ⟨by rw [HAT.out, HT.out], cs1, mv, h2, HCS1.out, by rw [← HS1.out]; exact hz, fun k e => (hk k e).trans (HLW.out k e), by rw [← e]; exact hp⟩
    cases hov : s.over
    · rw [hov] at o0
      have HOV := Lib.hid hov
      clear hov
      go_upto_region 8 with (fail)
      go_region_with (go_at_call 75; refine HHS.out.mono ?_; rintro e W2 ⟨rfl, hb2⟩)
      all_goals
        have hb2' : Below W1.heap.size W1 W2 := ((Below.refl _ W1).drew).trans hb2
        have h2 := H1.out.below hb2'
        have hp2 := HB1.out.below H1.out hb2'
        have d0 : W2.cell? ⟨bd, 0, none⟩ = some (.int .i64 (readZ s.read)) := hp2.d.cell 0
        have zd := hp2.d.free 0
        have HFH := Lib.hid (fits_has hrs c)
        have H2 := Lib.hid h2; have HP2 := Lib.hid hp2; have HB2 := Lib.hid hb2'
        clear hb2 hb2' h2 hp2 HHS k0 k3 o0 c0 q0 r0 hrs
        cases hf : fitsSO ys c
        · rw [hf] at HFH
          clear hf
          go_wp2_with fail
          go_ret
          exact HEND.out W2 _ (by rw [HST2.out, HOV.out, ← HFH.out]; rfl) H2.out HB2.out.size (fun k hk => HB2.out.block k (HLK.out k hk).1) HP2.out
        · rw [hf] at HFH
          clear hf
          have hput := HP2.out.putD H2.out x
          have h3 := H2.out.away (W' := W2.setCell ⟨bd, 0, none⟩ (.int .i64 (x.1 : Int))) (H2.out.bel.setCell (p := ⟨bd, 0, none⟩) HP2.out.hd _) (fun k hk hh => Below.heap_setCell W2 _ _ k (by
            rintro rfl
            rcases hh with e | e | e | e
            · exact ne_types H2.out.box HP2.out.d (by decide) e.symm
            · exact HP2.out.apD.nm e
            · exact HP2.out.apD.nb e
            · exact HP2.out.apD.nl e))
          have hz3 := World.size_setCell W2 ⟨bd, 0, none⟩ (.int .i64 (x.1 : Int))
          have HKW : Hid (∀ k, lv.ownBlock = some k → (W2.setCell ⟨bd, 0, none⟩ (.int .i64 (x.1 : Int))).heap[k]? = W1.heap[k]?) := Lib.hid (fun k hk => (Below.heap_setCell W2 _ _ k (HLK.out k hk).2.2.2.1).trans (HB2.out.block k (HLK.out k hk).1))
          have HPUT := Lib.hid hput; have H3 := Lib.hid h3; have HZ3 := Lib.hid hz3
          clear hput h3 hz3
          go_upto_region 12 with (fail)
          generalize W2.setCell ⟨bd, 0, none⟩ (.int .i64 (x.1 : Int)) = W3 at HPUT H3 HZ3 HKW ⊢
          clear d0 zd
          go_wp2_with fail
          go_ret
          exact HEND.out W3 _ (by rw [HST2.out, HOV.out, ← HFH.out]; rfl) H3.out (by rw [HZ3.out]; exact HB2.out.size) HKW.out HPUT.out
    · rw [hov] at o0
      have HOV := Lib.hid hov
      clear hov
      go_wp2_with fail
      go_big_quiet (fail)
      have hb2' := below_draws W1 nq
      have H2 := Lib.hid (H1.out.below hb2')
      have HP2 := Lib.hid (HB1.out.below H1.out hb2')
      clear hb2' HHS k0 k3 o0 c0 q0 r0 hrs
      go_wp2_with fail
      go_ret
      exact HEND.out _ _ (by rw [HST2.out, HOV.out]; rfl) H2.out (below_draws W1 nq).size (fun k hk => (below_draws W1 nq).block k (HLK.out k hk).1) HP2.out
  have d2 : (yo == 2) = false := by simp [o2]
  have noset : isSet p.ins x.1 = false := by rw [hset]; exact decide_eq_false o2
  have hst2 : stepP p.ins long j c fit s x = ⟨st + 1, s.got, s.read, s.over⟩ := by
    unfold stepP readsI
    rw [nohit, noset, HSS.out]
    simp
  have HST2 := Lib.hid hst2
  clear hhit hset nohit noset hst2
  have HEND : Hid (∀ (T : Bool) (W2 : World), tstI meets (atI p.ins x.1) = T → WaysIn W0 W2 q gm gb n (.slice (some ⟨b, o, none⟩) n ic) 139 cs1 M B rr lv left → W1.heap.size ≤ W2.heap.size → (∀ k, lv.ownBlock = some k → W2.heap[k]? = W1.heap[k]?) → PassM W0 W2 q gm gb cs1 lv.ownBlock caps iv long fv fit mv br ba bo bc bd bi j c is ⟨st + 1, s.got, s.read, s.over⟩ →
      Pass1Post W0 W q gm gb n (.slice (some ⟨b, o, none⟩) n ic) M B rr lv left cs caps iv long fv fit br ba bo bc bd bi j c is (stepP p.ins long j c fit s x) (tstI meets (atI p.ins x.1)) (.returned (.bool T)) W2) := Lib.hid fun T W2 e h2 hz hk hp => ⟨by rw [e], cs1, mv, h2, HCS1.out, by rw [← HS1.out]; exact hz, fun k e => (hk k e).trans (HLW.out k e), by rw [HST2.out]; exact hp⟩
  by_cases o5 : yo = 5
  · subst o5
    have hs5 := (sound_at n p.caps yu ya yt ys).1 HSD.out
    obtain ⟨-, -, -, hok⟩ := hs5
    have hT : tstI meets ⟨5, yu, ya, ys, yt⟩ = meets yt := by simp [tstI]
    have i0 : W1.cell? ⟨bi, 0, none⟩ = some (.int .i64 is) := HB1.out.i.cell 0
    have HT := Lib.hid hT; have HOK := Lib.hid hok
    clear hT hok k1 k2 k3 o1 o2
    go_wp2_with fail
    go_big_quiet (fail)
    have hb2' := below_draws W1 nq
    have H2 := Lib.hid (H1.out.below hb2')
    have HP2 := Lib.hid (HB1.out.below H1.out hb2')
    have HZ2 := Lib.hid hb2'.size; have HK2 := Lib.hid (fun k hk => hb2'.block k (HLK.out k hk).1)
    clear hb2' k0 k4 q0 r0 i0
    go_wp2_with fail
    go_ret
    refine HEND.out _ _ ?_ H2.out HZ2.out HK2.out HP2.out
    rw [HAT.out, HT.out, HMT.out]
  · have d5 : (yo == 5) = false := by simp [o5]
    have hT : tstI meets ⟨yo, yu, ya, ys, yt⟩ = true := by simp [tstI, o5]
    have HT := Lib.hid hT
    clear hT o5 o1 o2 k1 k2 k3 k4
    go_wp2_with fail
    go_ret
    exact HEND.out true W1 (by rw [HAT.out, HT.out]) H1.out (Nat.le_refl _) (fun _ _ => rfl) HB1.out
end Go.Proofs.Ytnemacejaiifnaa
/- The document's walk from one instruction, that tells what is come to twice. No condition. -/
namespace Go.Proofs.Ytnemacejaiifnaa
open Go Go.RowKit

def begM (beg : Bool) : Int → Bool := if beg then allM else noB
/-- The document's Ways lies at block q, its Seen at block g; all else lies as it lay in W0. -/
structure WyIn (W0 W : World) (q g : Nat) (IV : Value) (p : Pg) (n : Nat) (beg : Bool) (lv : Value) (s : Wy) : Prop where
  bel : Below W0.heap.size W0 W
  box : Whole W q 107 #[IV, .int .i64 p.start, .int .i64 p.caps, .bool beg, .slice (some ⟨g, 0, none⟩) n n, lv, .int .i64 ((s.hits : Nat) : Int), .bool s.twice]
  seen : Whole W g 4 (s.seen.map Value.bool).toArray
  own : OwnZ W W0.heap.size lv (natsO s.out)
  hq : W0.heap.size ≤ q
  hg : W0.heap.size ≤ g
  ne : q ≠ g
  len : s.seen.length = n
  few : s.out.length + s.hits + s.seen.count false ≤ n
section
variable {W0 W W' : World} {q g : Nat} {IV : Value} {p : Pg} {n : Nat} {beg : Bool} {lv : Value} {s : Wy}
theorem wy_ne_box (h : WyIn W0 W q g IV p n beg lv s) : lv.ownBlock ≠ some q := own_whole_ne h.own.1 h.box (by decide)
theorem wy_ne_seen (h : WyIn W0 W q g IV p n beg lv s) : lv.ownBlock ≠ some g := own_whole_ne h.own.1 h.seen (by decide)
theorem WyIn.below (h : WyIn W0 W q g IV p n beg lv s) (hb : Below W.heap.size W W') : WyIn W0 W' q g IV p n beg lv s :=
  ⟨below_steps h.bel hb, h.box.below hb h.box.lt, h.seen.below hb h.seen.lt, h.own.below hb, h.hq, h.hg, h.ne, h.len, h.few⟩
theorem wy_set_map (l : List Bool) (i : Nat) (b : Bool) : ((l.map Value.bool).toArray.setIfInBounds i (.bool b)) = ((l.set i b).map Value.bool).toArray := by
  simp [List.map_set]
/-- One more is come to. -/
theorem WyIn.mark (h : WyIn W0 W q g IV p n beg lv s) (pc : Nat) (hn : newB s.seen pc = true) : WyIn W0 (W.setCell ⟨g, pc, none⟩ (.bool true)) q g IV p n beg lv ⟨s.seen.set pc true, s.out, s.hits, s.twice⟩ :=
  ⟨h.bel.setCell (p := ⟨g, pc, none⟩) h.hg _, h.box.far h.ne _ _, by rw [← wy_set_map]; exact h.seen.store pc (.bool true), oown_set h.own g pc _ (wy_ne_seen h), h.hq, h.hg, h.ne, by simpa using h.len, by have h1 := h.few; have h2 := newB_count hn; show s.out.length + s.hits + (s.seen.set pc true).count false ≤ n; omega⟩
/-- One is come to twice. -/
theorem WyIn.two (h : WyIn W0 W q g IV p n beg lv s) : WyIn W0 (W.setCell ⟨q, 7, none⟩ (.bool true)) q g IV p n beg lv ⟨s.seen, s.out, s.hits, true⟩ := by
  refine ⟨h.bel.setCell (p := ⟨q, 7, none⟩) h.hq _, ?_, h.seen.far (fun e => h.ne e.symm) _ _, oown_set h.own q 7 _ (wy_ne_box h), h.hq, h.hg, h.ne, h.len, h.few⟩
  have := h.box.store 7 (.bool true)
  simpa using this
/-- A match is come to. -/
theorem WyIn.hit (h : WyIn W0 W q g IV p n beg lv s) (hf : s.out.length + (s.hits + 1) + s.seen.count false ≤ n) : WyIn W0 (W.setCell ⟨q, 6, none⟩ (.int .i64 ((s.hits : Int) + 1))) q g IV p n beg lv ⟨s.seen, s.out, s.hits + 1, s.twice⟩ := by
  refine ⟨h.bel.setCell (p := ⟨q, 6, none⟩) h.hq _, ?_, h.seen.far (fun e => h.ne e.symm) _ _, oown_set h.own q 6 _ (wy_ne_box h), h.hq, h.hg, h.ne, h.len, hf⟩
  have := h.box.store 6 (.int .i64 ((s.hits : Int) + 1))
  simpa using this
/-- The list is another one. -/
theorem WyIn.list (h : WyIn W0 W q g IV p n beg lv s) {lv' : Value} {l : List Nat} (hbel : Below W0.heap.size W0 W') (hq' : W'.heap[q]? = W.heap[q]?) (hg' : W'.heap[g]? = W.heap[g]?) (ho : OwnZ W' W0.heap.size lv' (natsO l)) (hl : l.length + s.hits + s.seen.count false ≤ n) :
    WyIn W0 (W'.setCell ⟨q, 5, none⟩ lv') q g IV p n beg lv' ⟨s.seen, l, s.hits, s.twice⟩ := by
  have hW : Whole W' q 107 #[IV, .int .i64 p.start, .int .i64 p.caps, .bool beg, .slice (some ⟨g, 0, none⟩) n n, lv, .int .i64 ((s.hits : Nat) : Int), .bool s.twice] := hq'.trans h.box
  have hS : Whole W' g 4 (s.seen.map Value.bool).toArray := hg'.trans h.seen
  refine ⟨hbel.setCell (p := ⟨q, 5, none⟩) h.hq _, ?_, hS.far (fun e => h.ne e.symm) _ _, oown_set ho q 5 _ (own_whole_ne ho.1 hW (by decide)), h.hq, h.hg, h.ne, h.len, hl⟩
  have := hW.store 5 lv'
  simpa using this
end
/-- Instructions that lie as values of their own stay. -/
def KeepsO (W W' : World) : Prop := ∀ (k : Nat) (cs : Array Value), Whole W k 95 cs → Whole W' k 95 cs
theorem KeepsO.trans {A B C : World} (h : KeepsO A B) (k : KeepsO B C) : KeepsO A C := fun j cs hj => k j cs (h j cs hj)
theorem keepsO_below {W W' : World} (h : Below W.heap.size W W') : KeepsO W W' := fun k cs hk => hk.below h hk.lt
theorem keepsO_set {W : World} {b : Nat} {t : TypeId} {cs : Array Value} (h : Whole W b t cs) (hne : t ≠ 95) (j : Nat) (u : Value) : KeepsO W (W.setCell ⟨b, j, none⟩ u) := fun k xs hk => hk.far (by
  rintro rfl
  unfold Whole at h hk
  rw [h] at hk
  injection hk with e
  injection e with _ e2
  exact hne e2) j u
theorem keepsO_grown {W W' : World} {B : Nat} {v : Value} {l : List Int} (h : OwnZ W B v l) (hg : W.grownBy W' v.ownBlock) : KeepsO W W' := fun k cs hk => hk.grown hg (own_whole_ne h.1 hk (by decide))
/-- What a call of come leaves. -/
def WComePost (W0 W : World) (q g : Nat) (IV : Value) (p : Pg) (n : Nat) (beg : Bool) (s : Wy) (e : Ending) (W' : World) : Prop := e = .returned (.tuple #[]) ∧ KeepsO W W' ∧ ∃ lv, WyIn W0 W' q g IV p n beg lv s
set_option maxHeartbeats 1600000 in
set_option maxRecDepth 100000 in
theorem wcome_any (W0 : World) (q g : Nat) (IV : Value) (p : Pg) (n : Nat) (hn : p.ins.length = n) (beg : Bool) (hI : Inss W0 IV p.ins) (hR : RightPg p) : ∀ (m : Nat) (W : World) (lv : Value) (s : Wy) (pc : Nat), s.seen.count false < m → pc < n → WyIn W0 W q g IV p n beg lv s →
    Calls Try.prog 104 #[.pointer (some ⟨q, 0, none⟩), .int .i64 pc] W (WComePost W0 W q g IV p n beg (goO (begM beg) p.ins [pc] s)) := by
  intro m
  induction m with
  | zero =>
    intro W lv s pc hm
    omega
  | succ m ih =>
    intro W lv s pc hm hpc h
    have IH := Lib.hid ih
    clear ih
    have H := Lib.hid h
    have hnb : n ≤ 10000 := by rw [← hn]; exact hR.2.1
    obtain ⟨A, c, rfl, -⟩ := id hI
    rw [hn] at h H hI IH ⊢
    have hsl : pc < s.seen.length := by rw [h.len]; exact hpc
    have c0 := h.box.cell 0; have c4 := h.box.cell 4; have z7 := h.box.free 7; have c7 := h.box.cell 7
    simp only [List.getElem?_toArray, List.getElem?_cons_zero, List.getElem?_cons_succ] at c0 c4 c7
    have d0 := h.seen.cell pc
    have fz := h.seen.free pc
    obtain ⟨b, hb⟩ : ∃ b, s.seen[pc]? = some b := ⟨_, List.getElem?_eq_getElem hsl⟩
    simp only [List.getElem?_toArray, List.getElem?_map, hb, Option.map_some] at d0
    have hnew : newB s.seen pc = !b := by simp [newB, List.getD_eq_getElem?_getD, hb]
    have hpz : (pc : Int) < (n : Int) := by omega
    have HNW := Lib.hid hnew; have HPC := Lib.hid hpc; have HI := Lib.hid hI; have HM := Lib.hid hm; have HRT := Lib.hid hR
    clear h hI hb hsl hnew hR hm
    go_enter Try.func104, Try.ntmps104
    cases b
    rotate_left
    · go_wp2_with fail
      go_end0
      exact ⟨rfl, keepsO_set H.out.box (by decide) 7 _, lv, by rw [go_old [] HNW.out, go_nil]; exact H.out.two⟩
    have HW : Hid (goO (begM beg) p.ins [pc] s = goO (begM beg) p.ins (nxI (begM beg) p.ins pc) (visitO pc (atI p.ins pc) s)) := Lib.hid (by rw [go_new [] HNW.out, List.append_nil])
    obtain ⟨b, o, x, a2, sl, cz, hA, hx, hm, hsl2, hat, HFV, HRG, hbd, hIV⟩ := HI.out.at' pc (by rw [hn]; exact HPC.out)
    have hsd := HRT.out.2.2.2.2.2.2 x hm
    rw [hn] at hsd
    obtain ⟨xo, xu, xa, xs, xt⟩ := x
    simp only at HFV hsl2
    have HF5 := Lib.hid HFV; have HSL := Lib.hid hsl2; have HAT := Lib.hid hat; have HSD := Lib.hid hsd
    clear HFV HRG hbd hIV hx hsl2 hat hm hsd z7 c7
    subst hA
    go_upto_region 2 with (fail)
    go_upto_region 3 with (fail)
    have hx1 := H.out.mark pc HNW.out
    have hk1 := keepsO_set H.out.seen (by decide) pc (.bool true)
    have HFW : Hid (s.out.length + s.hits + 1 + (s.seen.set pc true).count false ≤ n) := Lib.hid (by have h1 := H.out.few; have h2 := newB_count HNW.out; omega)
    generalize W.setCell ⟨g, pc, none⟩ (.bool true) = W1 at hx1 hk1 ⊢
    have HX1 := Lib.hid hx1
    have hi1 := HF5.out.below hx1.bel
    clear c0 c4 d0 fz
    obtain ⟨k0, k1, k2, k3, k4⟩ := hi1
    have c0 := hx1.box.cell 0
    simp only [List.getElem?_toArray, List.getElem?_cons_zero] at c0
    clear hx1
    go_upto_region 4 with (fail)
    obtain ⟨W2, hW2⟩ : ∃ W2, W1.alloc (.cells #[.int .i64 xo, .int .i64 xu, .int .i64 xa, .slice a2 sl cz, .int .i64 xt] 95) = W2 := ⟨_, rfl⟩
    rw [hW2]
    obtain ⟨hb2, ⟨f0, f1, f2, f3, f4⟩, hz2⟩ := box5_new W1 _ _ _ _ _ _ hW2
    have hx2 := HX1.out.below hb2
    have HX2 := Lib.hid hx2
    have hr : Whole W2 W1.heap.size 95 #[.int .i64 xo, .int .i64 xu, .int .i64 xa, .slice a2 sl cz, .int .i64 xt] := by rw [← hW2]; exact heap_alloc_new W1 _
    have HR := Lib.hid hr
    have HK2 := Lib.hid (hk1.trans (keepsO_below hb2))
    have HLS : Hid ((s.seen.set pc true).count false < m) := Lib.hid (by
      have h1 := newB_count HNW.out
      have h2 := HM.out
      omega)
    have c3 := hx2.box.cell 3; have c5 := hx2.box.cell 5; have c6 := hx2.box.cell 6
    have z5 := hx2.box.free 5; have z6 := hx2.box.free 6
    simp only [List.getElem?_toArray, List.getElem?_cons_zero, List.getElem?_cons_succ] at c3 c5 c6
    clear hW2 hb2 hz2 hr hk1 k0 k1 k2 k3 k4 c0 hx2 H
    by_cases o1 : xo = 1
    · subst o1
      have HE : Hid (goO (begM beg) p.ins [pc] s = ⟨s.seen.set pc true, s.out, s.hits + 1, s.twice⟩) := Lib.hid (by rw [HW.out]; unfold nxI; rw [HAT.out]; simp [nextI, visitO, go_nil])
      obtain ⟨hs, hhs⟩ : ∃ hs, s.hits = hs := ⟨_, rfl⟩
      rw [hhs] at c6
      have hw : IntKind.i64.wrap ((hs : Int) + 1) = (hs : Int) + 1 := ow_wrap _ ⟨by omega, by have := HFW.out; omega⟩
      have hw2 : wrap64 ((hs : Int) + 1) = (hs : Int) + 1 := IntWalk.wrap64_in _ ⟨by omega, by have := HFW.out; omega⟩
      have HHS := Lib.hid hhs
      clear hhs
      go_wp2_with fail
      go_end0
      refine ⟨rfl, HK2.out.trans (keepsO_set HX2.out.box (by decide) 6 _), lv, ?_⟩
      rw [HE.out]
      have := HX2.out.hit (by have := HFW.out; simp only; omega)
      simp only at this
      rw [HHS.out] at this ⊢
      exact this
    by_cases o2 : xo = 2
    · subst o2
      have HE : Hid (goO (begM beg) p.ins [pc] s = ⟨s.seen.set pc true, s.out ++ [pc], s.hits, s.twice⟩) := Lib.hid (by rw [HW.out]; unfold nxI; rw [HAT.out]; simp [nextI, visitO, go_nil])
      have hb3 : Below W2.heap.size W2 (W2.alloc (.cells #[.int .i64 pc] 3)) := (Below.refl _ W2).alloc (Nat.le_refl _) _
      have HX3 := Lib.hid (HX2.out.below hb3)
      have HZ := Lib.hid (zs_new W2 (pc : Int) (by unfold R64; omega))
      have HK3 := Lib.hid (HK2.out.trans (keepsO_below hb3))
      clear hb3
      go_wp2_with (at_builtin; refine append_zs rfl (.tmp 46) (.tmp 48) rfl W0.heap.size lv (natsO s.out) rfl HX3.out.own (some ⟨W2.heap.size, 0, none⟩) 1 1 [(pc : Int)] rfl HZ.out ?b2 ?b3 ?_)
      case b2 => have := HFW.out; simp [natsO]; omega
      case b3 => exact HX3.out.bel.size
      intro v' w' ho' hg'
      obtain ⟨av, cv, hv⟩ := own_slice ho'.1
      obtain ⟨ln, hln⟩ : ∃ ln, (natsO s.out ++ [(pc : Int)]).length = ln := ⟨_, rfl⟩
      rw [hln] at hv
      subst hv
      have hb' : Below W0.heap.size W0 w' := HX3.out.bel.grown hg' HX3.out.bel.size (fun j hj => (oown_lt HX3.out.own hj).1)
      have hq' := hg'.block q HX3.out.box.lt (fun e => wy_ne_box HX3.out e.symm)
      have hg2 := hg'.block g HX3.out.seen.lt (fun e => wy_ne_seen HX3.out e.symm)
      have hl' := HX3.out.list hb' hq' hg2 (l := s.out ++ [pc]) (by rw [natsO_app]; exact ho') (by have := HFW.out; rw [List.length_append]; simp only [List.length_cons, List.length_nil]; omega)
      have zq : w'.frozen? ⟨q, 5, none⟩ = false := by
        have := hq'.trans HX3.out.box
        exact Whole.free this 5
      have cq : w'.cell? ⟨q, 5, none⟩ = some lv := Whole.cell (hq'.trans HX3.out.box) 5
      have HL' := Lib.hid hl'
      have HKE := Lib.hid ((HK3.out.trans (keepsO_grown HX3.out.own hg')).trans (keepsO_set (hq'.trans HX3.out.box) (by decide) 5 (.slice av ln cv)))
      clear hb' hq' hg2 hl' ho' hg' z5 z6 hln
      go_wp2_with fail
      go_end0
      exact ⟨rfl, HKE.out, _, by rw [HE.out]; exact HL'.out⟩
    by_cases o3 : xo = 3
    · subst o3
      have hs3 := (sound_alt n p.caps xu xa xt xs).1 HSD.out
      obtain ⟨⟨hu0, hu1⟩, ⟨ha0, ha1⟩, -, -⟩ := hs3
      obtain ⟨u, rfl⟩ := Int.eq_ofNat_of_zero_le hu0
      obtain ⟨v, rfl⟩ := Int.eq_ofNat_of_zero_le ha0
      have HE : Hid (goO (begM beg) p.ins [pc] s = goO (begM beg) p.ins [v] (goO (begM beg) p.ins [u] ⟨s.seen.set pc true, s.out, s.hits, s.twice⟩)) := Lib.hid (by
        rw [HW.out]; unfold nxI; rw [HAT.out, ← go_append]
        simp [nextI, visitO])
      have HI1 := Lib.hid (IH.out W2 lv _ u HLS.out (by omega) HX2.out)
      clear hu0 hu1 ha0
      go_wp2_with fail
      refine HI1.out.mono ?_
      rintro e W3 ⟨rfl, hk3, lv3, hx3⟩
      have HVL : Hid (v < n) := Lib.hid (by omega)
      have g2 := (hk3 _ _ HR.out).cell 2
      simp only [List.getElem?_toArray, List.getElem?_cons_zero, List.getElem?_cons_succ] at g2
      have HK3 := Lib.hid (HK2.out.trans hk3)
      have HI2 := Lib.hid (IH.out W3 lv3 _ v (Nat.lt_of_le_of_lt (go_left _ _) HLS.out) HVL.out hx3)
      clear HI1 hx3 hk3 f0 f1 f2 f3 f4 ha1
      go_wp2_with fail
      refine HI2.out.mono ?_
      rintro e W4 ⟨rfl, hk4, lv4, hx4⟩
      have HX4 := Lib.hid hx4; have HK4 := Lib.hid (HK3.out.trans hk4)
      clear hx4 hk4 HI2 c3 c5 c6 z5 z6
      go_wp2_with fail
      go_end0
      exact ⟨rfl, HK4.out, lv4, by rw [HE.out]; exact HX4.out⟩
    by_cases o4 : xo = 4
    · subst o4
      have hs4 := (sound_cap n p.caps xu xa xt xs).1 HSD.out
      obtain ⟨⟨hu0, hu1⟩, -⟩ := hs4
      obtain ⟨u, rfl⟩ := Int.eq_ofNat_of_zero_le hu0
      have HE : Hid (goO (begM beg) p.ins [pc] s = goO (begM beg) p.ins [u] ⟨s.seen.set pc true, s.out, s.hits, s.twice⟩) := Lib.hid (by
        rw [HW.out]; unfold nxI; rw [HAT.out]
        simp [nextI, visitO])
      have HI1 := Lib.hid (IH.out W2 lv _ u HLS.out (by omega) HX2.out)
      clear hu0 hu1
      go_wp2_with fail
      refine HI1.out.mono ?_
      rintro e W3 ⟨rfl, hk3, lv3, hx3⟩
      have HX4 := Lib.hid hx3; have HK4 := Lib.hid (HK2.out.trans hk3)
      clear HI1 hx3 hk3 f0 f1 f2 f3 f4 c3 c5 c6 z5 z6
      go_wp2_with fail
      go_end0
      exact ⟨rfl, HK4.out, lv3, by rw [HE.out]; exact HX4.out⟩
    by_cases o5 : xo = 5
    · subst o5
      have hs5 := (sound_at n p.caps xu xa xt xs).1 HSD.out
      obtain ⟨⟨hu0, hu1⟩, -⟩ := hs5
      obtain ⟨u, rfl⟩ := Int.eq_ofNat_of_zero_le hu0
      by_cases hm0 : beg = true ∨ xt ≠ 1
      · have hme : begM beg xt = true := by
          unfold begM allM noB
          rcases hm0 with rfl | h
          · rfl
          · cases beg
            · simp [h]
            · rfl
        have HE : Hid (goO (begM beg) p.ins [pc] s = goO (begM beg) p.ins [u] ⟨s.seen.set pc true, s.out, s.hits, s.twice⟩) := Lib.hid (by
          rw [HW.out]; unfold nxI; rw [HAT.out]
          simp [nextI, visitO, hme])
        have HI1 := Lib.hid (IH.out W2 lv _ u HLS.out (by omega) HX2.out)
        clear hu0 hu1 hme IH
        rcases hm0 with rfl | hx
        · go_wp2_with fail
          refine HI1.out.mono ?_
          rintro e W4 ⟨rfl, hk4, lv4, hx4⟩
          have HX4 := Lib.hid hx4; have HK4 := Lib.hid (HK2.out.trans hk4)
          clear HI1 hx4 hk4 f0 f1 f2 f3 f4 c3 c5 c6 z5 z6
          go_wp2_with fail
          go_end0
          exact ⟨rfl, HK4.out, lv4, by rw [HE.out]; exact HX4.out⟩
        · cases beg
          · have dx : (xt != 1) = true := by simpa using hx
            clear hx
            go_wp2_with fail
            refine HI1.out.mono ?_
            rintro e W4 ⟨rfl, hk4, lv4, hx4⟩
            have HX4 := Lib.hid hx4; have HK4 := Lib.hid (HK2.out.trans hk4)
            clear HI1 hx4 hk4 f0 f1 f2 f3 f4 c3 c5 c6 z5 z6
            go_wp2_with fail
            go_end0
            exact ⟨rfl, HK4.out, lv4, by rw [HE.out]; exact HX4.out⟩
          · clear hx
            go_wp2_with fail
            refine HI1.out.mono ?_
            rintro e W4 ⟨rfl, hk4, lv4, hx4⟩
            have HX4 := Lib.hid hx4; have HK4 := Lib.hid (HK2.out.trans hk4)
            clear HI1 hx4 hk4 f0 f1 f2 f3 f4 c3 c5 c6 z5 z6
            go_wp2_with fail
            go_end0
            exact ⟨rfl, HK4.out, lv4, by rw [HE.out]; exact HX4.out⟩
      · have hx : xt = 1 := Classical.byContradiction fun h => hm0 (.inr h)
        have hbg : beg = false := by
          cases beg
          · rfl
          · exact absurd (.inl rfl) hm0
        subst hx hbg
        have HE : Hid (goO (begM false) p.ins [pc] s = ⟨s.seen.set pc true, s.out, s.hits, s.twice⟩) := Lib.hid (by rw [HW.out]; unfold nxI; rw [HAT.out]; simp [nextI, visitO, go_nil, begM, noB])
        clear hm0 hu0 hu1
        go_wp2_with fail
        go_end0
        exact ⟨rfl, HK2.out, lv, by rw [HE.out]; exact HX2.out⟩
    have hs6 : xo = 6 := by
      have := HSD.out
      unfold SoundI at this
      simp only at this
      omega
    subst hs6
    have HE : Hid (goO (begM beg) p.ins [pc] s = ⟨s.seen.set pc true, s.out, s.hits, s.twice⟩) := Lib.hid (by rw [HW.out]; unfold nxI; rw [HAT.out]; simp [nextI, visitO, go_nil])
    go_wp2_with fail
    go_end0
    exact ⟨rfl, HK2.out, lv, by rw [HE.out]; exact HX2.out⟩
end Go.Proofs.Ytnemacejaiifnaa
/- A list that is taken from ahead and appended to behind: a row of the call's own that begins anywhere in its block. No condition. -/
namespace Go.Proofs.Ytnemacejaiifnaa
open Go Go.RowKit

/-- The value v owns a row of the ints l, somewhere in a block from B on. -/
def OwnQ (w : World) (B : Nat) (v : Value) (l : List Nat) : Prop :=
  ∃ b o c cur, v = .slice (some ⟨b, o, none⟩) l.length c ∧ B ≤ b ∧ Whole w b 3 cur ∧ o + c ≤ cur.size ∧ l.length ≤ c ∧ c ≤ maxLen ∧ ∀ (i : Nat) (h : i < l.length), cur[o + i]? = some (.int .i64 (l[i] : Int))
theorem OwnQ.kept {w w' : World} {B : Nat} {v : Value} {l : List Nat} (h : OwnQ w B v l) (hk : ∀ j, v.ownBlock = some j → w'.heap[j]? = w.heap[j]?) : OwnQ w' B v l := by
  obtain ⟨b, o, c, cur, rfl, h1, h2, h3⟩ := h
  exact ⟨b, o, c, cur, rfl, h1, (hk b rfl).trans h2, h3⟩
theorem OwnQ.lt {w : World} {B : Nat} {v : Value} {l : List Nat} (h : OwnQ w B v l) {j : Nat} (hj : v.ownBlock = some j) : B ≤ j ∧ j < w.heap.size := by
  obtain ⟨b, o, c, cur, rfl, h1, h2, h3⟩ := h
  obtain rfl : b = j := by simpa [Value.ownBlock] using hj
  exact ⟨h1, h2.lt⟩
theorem OwnQ.below {w w' : World} {B : Nat} {v : Value} {l : List Nat} (h : OwnQ w B v l) (hb : Below w.heap.size w w') : OwnQ w' B v l := h.kept fun j hj => hb.block j (h.lt hj).2
theorem OwnQ.ne {w : World} {B g : Nat} {v : Value} {l : List Nat} {t : TypeId} {cs : Array Value} (h : OwnQ w B v l) (hg : Whole w g t cs) (ht : t ≠ 3) : v.ownBlock ≠ some g := by
  obtain ⟨b, o, c, cur, rfl, h1, h2, h3⟩ := h
  intro e
  obtain rfl : b = g := by simpa [Value.ownBlock] using e
  unfold Whole at hg h2
  rw [hg] at h2
  injection h2 with h2
  injection h2 with _ h2
  exact ht h2
theorem ownQ_one (w : World) (B : Nat) (hB : B ≤ w.heap.size) (k : Nat) : OwnQ (w.alloc (.cells #[.int .i64 (k : Int)] 3)) B (.slice (some ⟨w.heap.size, 0, none⟩) 1 1) [k] := by
  refine ⟨w.heap.size, 0, 1, #[.int .i64 (k : Int)], rfl, hB, heap_alloc_new w _, by simp, by simp, by unfold maxLen; omega, fun i hi => ?_⟩
  obtain rfl : i = 0 := by simpa using hi
  rfl
/-- Its first one. -/
theorem OwnQ.first {w : World} {B b o n c : Nat} {x : Nat} {l : List Nat} (h : OwnQ w B (.slice (some ⟨b, o, none⟩) n c) (x :: l)) : w.cell? ⟨b, o, none⟩ = some (.int .i64 (x : Int)) := by
  obtain ⟨b', o', c', cur, e, h1, h2, h3, h4, h5, h6⟩ := h
  injection e with e1 e2 e3
  injection e1 with e1
  injection e1 with e1 e4
  subst e1 e4
  rw [h2.cell o]
  have := h6 0 (by simp)
  simpa using this
/-- It without its first one. -/
theorem OwnQ.rest {w : World} {B b o n c : Nat} {x : Nat} {l : List Nat} (h : OwnQ w B (.slice (some ⟨b, o, none⟩) n c) (x :: l)) (hn : n = l.length + 1) : OwnQ w B (.slice (if c = 1 then some ⟨b, o, none⟩ else some ⟨b, o + 1, none⟩) l.length (c - 1)) l := by
  obtain ⟨b', o', c', cur, e, h1, h2, h3, h4, h5, h6⟩ := h
  injection e with e1 e2 e3
  injection e1 with e1
  injection e1 with e1 e4
  subst e1 e4 e3
  simp only [List.length_cons] at h4
  by_cases hc : c = 1
  · subst hc
    have hl : l = [] := List.eq_nil_of_length_eq_zero (by omega)
    subst hl
    exact ⟨b, o, 0, cur, rfl, h1, h2, by omega, by simp, by unfold maxLen; omega, fun i hi => by simp at hi⟩
  · rw [if_neg hc]
    refine ⟨b, o + 1, c - 1, cur, rfl, h1, h2, by omega, by omega, by omega, fun i hi => ?_⟩
    have := h6 (i + 1) (by simpa using hi)
    rw [show o + 1 + i = o + (i + 1) by omega, this]
    simp
theorem set_mid (cur : Array Value) (k : Nat) (u : Value) (hk : k < cur.size) : (cur.toList.take k ++ [u] ++ cur.toList.drop (k + 1)).toArray = cur.setIfInBounds k u := by
  apply Array.toList_inj.1
  rw [Array.toList_setIfInBounds, List.set_eq_take_append_cons_drop, if_pos (by simpa using hk)]
  simp
/-- One more behind it. -/
theorem run_append_q {w : World} {B : Nat} {v : Value} {l : List Nat} (hown : OwnQ w B v l) (ty : TypeId) (b1 : Nat) (k : Nat) (hc : w.cell? ⟨b1, 0, none⟩ = some (.int .i64 (k : Int))) (hn : l.length + 1 ≤ 1000000) (hB : B ≤ w.heap.size) :
    ∃ v' w', (Builtin.append_ #[38, 38] ty #[v, .slice (some ⟨b1, 0, none⟩) 1 1]).run Try.prog w = .ok v' w' ∧ OwnQ w' B v' (l ++ [k]) ∧ w.grownBy w' v.ownBlock ∧ (v'.ownBlock = v.ownBlock ∨ v'.ownBlock = some w.heap.size) := by
  obtain ⟨i, hi, hz, hsize, hby⟩ := info_parts info_int8
  have hnews : ∀ j u, ([.int .i64 (k : Int)] : List Value)[j]? = some u → w.cell? ((⟨b1, 0, none⟩ : Addr).add j) = some u := fun j u hu => by
    match j, hu with
    | 0, hu => simp at hu; subst hu; rw [addr_ofZ]; exact hc
    | j + 1, hu => simp at hu
  have hl : ([.int .i64 (k : Int)] : List Value).length = 1 * i.size := by rw [hsize]; rfl
  obtain ⟨b, o, c, cur, rfl, h1, h2, h3, h4, h5, h6⟩ := hown
  by_cases hroom : l.length + 1 ≤ c
  · have hf := run_firstCells_some (P := Try.prog) w i.size 1 ⟨b1, 0, none⟩ 1 1 [.int .i64 (k : Int)] hl hnews
    have hst := run_storeCells_at Try.prog b (o + l.length) 3 [.int .i64 (k : Int)] 0 cur w h2 (by simp; omega) (by intro u hu; simp at hu; subst hu; rfl)
    simp only [Nat.add_zero, List.length_cons, List.length_nil, Nat.zero_add] at hst
    rw [set_mid cur (o + l.length) _ (by omega)] at hst
    have hadd : (⟨b, o, none⟩ : Addr).add (l.length * i.size) = ⟨b, o + l.length, none⟩ := by
      rw [hsize, Nat.mul_one]
      unfold Addr.add
      split <;> simp_all
    refine ⟨.slice (some ⟨b, o, none⟩) (l.length + 1) c, w.setRow b (cur.setIfInBounds (o + l.length) (.int .i64 (k : Int))), ?_, ⟨b, o, c, cur.setIfInBounds (o + l.length) (.int .i64 (k : Int)), by simp, h1, ?_, by simpa using h3, by simpa using hroom, h5, fun j hj => ?_⟩, ⟨rfl, rfl, rfl, by simp [World.setRow], fun j hj hne => ?_⟩, .inl rfl⟩
    · simp [Builtin.append_, run_underlying Try.underlying38, sizeOf, typeInfo, hi, Builtin.lenOf, hroom, hf, hadd, hst]
    · unfold Whole at h2 ⊢
      simp [World.setRow, Array.getElem?_modify, h2]
    · rw [List.length_append] at hj
      simp only [List.length_cons, List.length_nil] at hj
      by_cases hjl : j < l.length
      · rw [Array.getElem?_setIfInBounds_ne (by omega), h6 j hjl]
        simp [List.getElem_append_left hjl]
      · obtain rfl : j = l.length := by omega
        have hlt : o + l.length < cur.size := by omega
        simp [hlt]
    · have : b ≠ j := fun e => hne (by rw [e]; rfl)
      simp [World.setRow, Array.getElem?_modify, this]
  · have hol : ∀ j u, (litsZ (natsO l))[j]? = some u → w.cell? ((⟨b, o, none⟩ : Addr).add j) = some u := fun j u hu => by
      have hj : j < l.length := by
        have := (List.getElem?_eq_some_iff.1 hu).1
        rwa [litsZ_length, natsO_len] at this
      have hadd : (⟨b, o, none⟩ : Addr).add j = ⟨b, o + j, none⟩ := by unfold Addr.add; split <;> simp_all
      rw [hadd, h2.cell, h6 j hj, ← hu, litsZ_get _ j (by rw [natsO_len]; exact hj)]
      simp [natsO]
    have hr := run_append_grow (P := Try.prog) w 38 ty 3 i _ Try.underlying38 hi hz ⟨b, o, none⟩ l.length c (litsZ (natsO l)) (by rw [litsZ_length, natsO_len, hsize]; simp) hol ⟨b1, 0, none⟩ 1 1 [.int .i64 (k : Int)] hl hnews (by omega) (by omega) (growslice_fits_wide (by omega) (by rw [hby]; omega))
    have hge := grownCap_ge w (l.length + 1) c 3
    refine ⟨_, _, hr, ⟨w.heap.size, 0, grownCap w (l.length + 1) c 3, _, by simp, hB, heap_alloc_new w.drew _, ?_, by simpa using hge, grownCap_le_maxLen w _ _ _ (by unfold maxLen; omega), fun j hj => ?_⟩, ⟨rfl, rfl, rfl, by simp, fun j hj _ => Below.heap_alloc w.drew _ j hj⟩, .inr rfl⟩
    · simp only [Array.size_append, List.size_toArray, size_zeroCells, litsZ_length, natsO_len, List.length_cons, List.length_nil]
      have h2 : (Value.int IntKind.i64 0).cells.size = 1 := rfl
      rw [h2]
      omega
    · rw [List.length_append] at hj
      simp only [List.length_cons, List.length_nil] at hj
      rw [Nat.zero_add, Array.getElem?_append_left (by simp [litsZ_length, natsO_len]; omega)]
      by_cases hjl : j < l.length
      · rw [Array.getElem?_append_left (by simp [litsZ_length, natsO_len]; omega)]
        rw [List.getElem?_toArray, litsZ_get _ j (by rw [natsO_len]; exact hjl)]
        simp [natsO, List.getElem_append_left hjl]
      · obtain rfl : j = l.length := by omega
        rw [Array.getElem?_append_right (by simp [litsZ_length, natsO_len])]
        simp [litsZ_length, natsO_len]
theorem append_q {w : World} {ops : Array Oper} {rest : List Oper} {o : Oper} {a : Act} {Q : Exit → Act → World → Prop} (hgd : o.guard = none) (x y : Operand)
    (ho : o.op = .call { callee := .builtin .append, args := #[x, y], argTypes := #[38, 38] })
    (B : Nat) (v : Value) (l : List Nat) (hs : a.eval x = v) (hown : OwnQ w B v l)
    (b1 : Nat) (k : Nat) (hx : a.eval y = .slice (some ⟨b1, 0, none⟩) 1 1) (hc : w.cell? ⟨b1, 0, none⟩ = some (.int .i64 (k : Int))) (hn : l.length + 1 ≤ 1000000) (hB : B ≤ w.heap.size)
    (h : ∀ v' w', OwnQ w' B v' (l ++ [k]) → w.grownBy w' v.ownBlock → (v'.ownBlock = v.ownBlock ∨ v'.ownBlock = some w.heap.size) → wpList Try.prog ops Q rest (a.put o.dst v') w') : wpList Try.prog ops Q (o :: rest) a w := by
  refine wpList_plain hgd fun K hK => ?_
  obtain ⟨v', w', hr, h1, h2, h3⟩ := run_append_q hown o.type b1 k hc hn hB
  unfold Oper.wp execOp
  simp only [ho, resolve, invoke, builtin, Sem.run_bind, Sem.run_pure, Result.andThen_ok, List.map_toArray, List.map_cons, List.map_nil, hs, hx, hr]
  exact hK _ _ (h v' w' h1 h2 h3)
end Go.Proofs.Ytnemacejaiifnaa
