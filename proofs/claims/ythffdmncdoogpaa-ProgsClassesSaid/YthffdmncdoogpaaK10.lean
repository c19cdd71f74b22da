/- Texts merged by program: PgRow, PgTo, PgProg, PgHead, PgLawA, PgLawB. No condition. -/
import Derived.Test.YthffdmncdoogpaaK8
import Derived.Test.YthffdmncdoogpaaK9
import Derived.Maps.AppendAt
import Derived.Deep.RegionLaw
set_option linter.unusedVariables false
/- Own rows of ints: cut, set, appended to with the place of the new row; the library's Clone and Reverse of ints. -/
namespace Go.Proofs.Ythffdmncdoogpaa
open Go Go.RowKit

theorem OwnZ.take {w : World} {B : Nat} {A : Option Addr} {n c : Nat} {l : List Int} (h : OwnZ w B (.slice A n c) l) (k : Nat) (hk : k ≤ l.length) : OwnZ w B (.slice A k c) (l.take k) := by
  obtain ⟨⟨h0, h1⟩, h2⟩ := h
  have hl : (l.take k).length = k := by rw [List.length_take]; omega
  refine ⟨⟨by rw [litsZ_length, Nat.mul_one], ?_⟩, fun x hx => h2 x (List.mem_of_mem_take hx)⟩
  rcases h1 with ⟨e, h1⟩ | ⟨g, cap, cur, e, hb, hh, hn, hm, hs, ht⟩
  · injection e with e1 e2 e3
    subst e1 e2 e3
    have : k = 0 := by omega
    subst this
    exact .inl ⟨rfl, rfl⟩
  · injection e with e1 e2 e3
    subst e1 e2 e3
    refine .inr ⟨g, c, cur, by rw [hl], hb, hh, by omega, hm, hs, ?_⟩
    rw [hl]
    have h3 : litsZ (l.take k) = (litsZ l).take k := by simp [litsZ, List.map_take]
    rw [h3, ← ht, List.take_take, Nat.mul_one, Nat.min_eq_left (by omega)]
theorem OwnZ.len {w : World} {B n c : Nat} {A : Option Addr} {l : List Int} (h : OwnZ w B (.slice A n c) l) : n = l.length := by
  rcases h.1.2 with ⟨e, h1⟩ | ⟨g, cap, cur, e, _⟩
  · injection e with e1 e2 e3
    omega
  · injection e with e1 e2 e3
theorem OwnZ.block {w : World} {B g n c : Nat} {l : List Int} (h : OwnZ w B (.slice (some ⟨g, 0, none⟩) n c) l) : ∃ cs, Whole w g 3 cs ∧ l.length ≤ cs.size ∧ B ≤ g ∧ cs.size = c := by
  rcases h.1.2 with ⟨e, _⟩ | ⟨g', cap, cur, e, hb, hh, hn, hm, hs, ht⟩
  · cases e
  · injection e with e1 e2 e3
    injection e1 with e1
    injection e1 with e1
    subst e1 e3
    exact ⟨cur, hh, by omega, hb, by omega⟩
theorem OwnZ.at' {w : World} {B g n c : Nat} {l : List Int} (h : OwnZ w B (.slice (some ⟨g, 0, none⟩) n c) l) (i : Nat) (hi : i < l.length) : w.cell? ⟨g, i, none⟩ = some (.int .i64 l[i]) ∧ w.frozen? ⟨g, i, none⟩ = false := by
  obtain ⟨cs, hw, _⟩ := h.block
  have h1 := h.1.cells (g := g) (by rw [h.len]; rfl) _ _ (litsZ_get l i hi)
  rw [addr_ofZ, Nat.zero_add] at h1
  exact ⟨h1, hw.free i⟩
theorem OwnZ.set {w : World} {B g n c : Nat} {l : List Int} (h : OwnZ w B (.slice (some ⟨g, 0, none⟩) n c) l) (i : Nat) (hi : i < l.length) (x : Int) (hx : R64 x) : OwnZ (w.setCell ⟨g, i, none⟩ (.int .i64 x)) B (.slice (some ⟨g, 0, none⟩) n c) (l.set i x) := by
  obtain ⟨⟨h0, h1⟩, h2⟩ := h
  refine ⟨⟨by rw [litsZ_length, Nat.mul_one], ?_⟩, fun y hy => ?_⟩
  · rcases h1 with ⟨e, _⟩ | ⟨g', cap, cur, e, hb, hh, hn, hm, hs, ht⟩
    · cases e
    · injection e with e1 e2 e3
      injection e1 with e1
      injection e1 with e1
      subst e1 e2 e3
      refine .inr ⟨g, c, cur.setIfInBounds i (.int .i64 x), by rw [List.length_set], hb, Whole.store hh i _, by rw [List.length_set]; exact hn, hm, by simpa using hs, ?_⟩
      have h3 : litsZ (l.set i x) = (litsZ l).set i (.int .i64 x) := by simp [litsZ, List.map_set]
      rw [h3, ← ht, List.length_set, Array.toList_setIfInBounds, List.take_set]
  · rcases List.mem_or_eq_of_mem_set hy with hy | rfl
    · exact h2 y hy
    · exact hx
def CloneZ (l : List Int) (w : World) (e : Ending) (w' : World) : Prop := ∃ v, e = .returned v ∧ OwnZ w' w.heap.size v l ∧ Below w.heap.size w w'
set_option maxHeartbeats 1600000 in
set_option maxRecDepth 100000 in
theorem cloneZ_any (v : Value) (l : List Int) (w : World) (h : Zs w v l) (hlen : l.length ≤ 17592186044416) : Calls Try.prog 73 #[v] w (CloneZ l w) := by
  have H0 := Lib.hid h
  obtain ⟨A, c, rfl, h2, h3, h4, h5, h6⟩ := h
  rcases A with _ | ad
  · have hc := h4 rfl
    have hl : l = [] := List.eq_nil_of_length_eq_zero (by omega)
    subst hl hc
    have he : ∀ w : World, (binOp .eql 56 (.slice none 0 0) (.slice none 0 0)).run Try.prog w = .ok (.bool true) w := fun _ => rfl
    clear h5 h6 h4 H0
    go_enter Try.func73, Try.ntmps73
    go_wp2_with fail
    go_ret
    exact ⟨_, rfl, ownZ_none _ _, Below.refl _ _⟩
  · obtain ⟨n, hn⟩ : ∃ n, l.length = n := ⟨_, rfl⟩
    rw [hn] at H0 hlen ⊢
    have he : ∀ w : World, (binOp .eql 56 (.slice (some ad) n c) (.slice none 0 0)).run Try.prog w = .ok (.bool false) w := fun _ => rfl
    have HN := Lib.hid hn
    clear h5 h6 h4 h2 hn
    have HO1 := Lib.hid (ownZ_lit w w.heap.size (Nat.le_refl _) [] 0 #[] rfl rfl (Nat.zero_le _) (by simp))
    have hb1 : Below w.heap.size w (w.alloc (.cells #[] 3)) := (Below.refl _ _).alloc (Nat.le_refl _) _
    have HB1 := Lib.hid hb1; have HR1 := Lib.hid (H0.out.below hb1)
    clear hb1
    go_enter Try.func73, Try.ntmps73
    go_wp2_with (at_builtin; refine append_zs rfl (.tmp 5) (.tmp 6) rfl w.heap.size _ [] rfl HO1.out (some ad) n c l rfl HR1.out (by have := HN.out; simp; omega) (by simp) ?_; intro v2 w2 ho2 hg2; have HO2 := Lib.hid ho2; have HG2 := Lib.hid hg2; clear ho2 hg2)
    go_ret
    exact ⟨v2, rfl, HO2.out, HB1.out.grown HG2.out HB1.out.size (fun j e => by cases e; exact Nat.le_refl _)⟩
def RevZ (B : Nat) (v : Value) (l : List Int) (w : World) (e : Ending) (w' : World) : Prop := e = .returned (.tuple #[]) ∧ OwnZ w' B v l.reverse ∧ w.grownBy w' v.ownBlock
theorem grown_set (w : World) (g j : Nat) (u : Value) : w.grownBy (w.setCell ⟨g, j, none⟩ u) (some g) :=
  ⟨rfl, rfl, rfl, by simp [World.setCell], fun k _ hk => Below.heap_setCell w _ u k (fun e => hk (by rw [e]))⟩
theorem grown_step {w w1 w2 : World} {r : Option Nat} (h1 : w.grownBy w1 r) (h2 : w1.grownBy w2 r) : w.grownBy w2 r :=
  ⟨h2.os.trans h1.os, h2.tape.trans h1.tape, h2.output.trans h1.output, Nat.le_trans h1.size h2.size, fun k hk hn => (h2.block k (Nat.lt_of_lt_of_le hk h1.size) hn).trans (h1.block k hk hn)⟩
theorem grown_below {w w' : World} {r : Option Nat} (h : Below w.heap.size w w') : w.grownBy w' r := ⟨h.os, h.tape, h.output, h.size, fun k hk _ => h.block k hk⟩
set_option maxHeartbeats 4000000 in
set_option maxRecDepth 100000 in
theorem revZ_any (B : Nat) (v : Value) (l : List Int) (w : World) (h : OwnZ w B v l) (hlen : l.length ≤ 17592186044416) : Calls Try.prog 74 #[v] w (RevZ B v l w) := by
  have H0 := Lib.hid h
  rcases own_sliceZ h.1 with ⟨rfl, h0⟩ | ⟨g, cap, rfl, -⟩
  · have hl : l = [] := List.eq_nil_of_length_eq_zero h0
    subst hl
    clear h
    go_enter Try.func74, Try.ntmps74
    go_wp2_with fail
    go_loopw [2, 3] (fun i j wr => i = .int .i64 0 ∧ j = .int .i64 (-1) ∧ wr = w) (fun _ _ _ => 0)
    case atStart => exact ⟨rfl, rfl, rfl⟩
    case round =>
      obtain ⟨rfl, rfl, rfl⟩ := hrel
      go_wp2_with fail
      go_end0
      exact ⟨rfl, by simpa using H0.out, World.grownBy.refl _ _⟩
  · obtain ⟨n, hn⟩ : ∃ n, l.length = n := ⟨_, rfl⟩
    rw [hn] at H0 hlen ⊢
    have HN := Lib.hid hn
    clear h hn
    go_enter Try.func74, Try.ntmps74
    have hwn : IntKind.i64.wrap ((n : Int) - 1) = (n : Int) - 1 := by
      unfold IntKind.wrap
      simp [IntKind.bits, IntKind.signed]
      omega
    go_wp2_with fail
    go_loopw [2, 3] (fun i j wr => ∃ (m : Nat) (z : Int) (T' : List Int), i = .int .i64 m ∧ j = .int .i64 z ∧ z = (n : Int) - 1 - m ∧ 2 * m ≤ n ∧ OwnZ wr B (.slice (some ⟨g, 0, none⟩) n cap) T' ∧ (∀ p : Nat, p < n → T'[p]? = if p < m ∨ n ≤ p + m then l[n - 1 - p]? else l[p]?) ∧ w.grownBy wr (some g)) (fun i _ _ => n - (intOf i).toNat)
    case atStart => exact ⟨0, (n : Int) - 1, l, rfl, rfl, by omega, by omega, H0.out, fun p hp => by rw [if_neg (by omega)], World.grownBy.refl _ _⟩
    case round =>
      obtain ⟨m, z, T', rfl, rfl, hz, hm, hO, hP, hG⟩ := hrel
      have HO := Lib.hid hO; have HPP := Lib.hid hP; have HG := Lib.hid hG
      have HTL := Lib.hid hO.len
      clear hO hP hG
      by_cases hmz : (m : Int) < z
      · obtain ⟨jj, rfl⟩ : ∃ jj : Nat, z = jj := ⟨z.toNat, by omega⟩
        have hmn : m < n := by omega
        have hjn : jj < n := by omega
        have hmT : m < T'.length := by have := HTL.out; omega
        have hjT : jj < T'.length := by have := HTL.out; omega
        obtain ⟨c0, fr0⟩ := HO.out.at' m hmT
        obtain ⟨d0, fr1⟩ := HO.out.at' jj hjT
        obtain ⟨tx, htx⟩ : ∃ x, T'[m] = x := ⟨_, rfl⟩
        obtain ⟨ty, hty⟩ : ∃ x, T'[jj] = x := ⟨_, rfl⟩
        have hbx : R64 tx := by rw [← htx]; exact HO.out.2 _ (List.getElem_mem hmT)
        have hby : R64 ty := by rw [← hty]; exact HO.out.2 _ (List.getElem_mem hjT)
        rw [htx] at c0
        rw [hty] at d0
        have hm1 : (m : Int) < (n : Int) := by omega
        have hj1 : (jj : Int) < (n : Int) := by omega
        have HZ := Lib.hid hz
        clear hz
        go_upto_region 3 with (fail)
        obtain ⟨W5, hW5⟩ : ∃ W5, ((wr.setCell ⟨g, m, none⟩ (.int .i64 ty)).setCell ⟨g, jj, none⟩ (.int .i64 tx)).drew = W5 := ⟨_, rfl⟩
        have hO5 : OwnZ W5 B (.slice (some ⟨g, 0, none⟩) n cap) ((T'.set m ty).set jj tx) := by
          rw [← hW5]
          have h1 := HO.out.set m hmT ty hby
          have h2 := h1.set jj (by rw [List.length_set]; exact hjT) tx hbx
          exact h2.below (below_draws _ 1)
        have hG5 : wr.grownBy W5 (some g) := by
          rw [← hW5]
          exact grown_step (grown_step (grown_set wr g m _) (grown_set _ g jj _)) (grown_below (below_draws _ 1))
        have hP5 : ∀ p : Nat, p < n → ((T'.set m ty).set jj tx)[p]? = if p < m + 1 ∨ n ≤ p + (m + 1) then l[n - 1 - p]? else l[p]? := by
          intro p hp
          have hz := HZ.out
          have hTl := HTL.out
          by_cases hpj : p = jj
          · subst hpj
            rw [List.getElem?_set_self (by rw [List.length_set]; exact hjT), if_pos (by omega), show n - 1 - p = m by omega, ← htx, ← List.getElem?_eq_getElem hmT, HPP.out m hmn, if_neg (by omega)]
          · rw [List.getElem?_set_ne (fun e => hpj e.symm)]
            by_cases hpm : p = m
            · subst hpm
              rw [List.getElem?_set_self hmT, if_pos (by omega), show n - 1 - p = jj by omega, ← hty, ← List.getElem?_eq_getElem hjT, HPP.out jj hjn, if_neg (by omega)]
            · rw [List.getElem?_set_ne (fun e => hpm e.symm), HPP.out p hp]
              by_cases hc : p < m ∨ n ≤ p + m
              · rw [if_pos hc, if_pos (by omega)]
              · rw [if_neg hc, if_neg (by omega)]
        have HO5 := Lib.hid hO5; have HG5 := Lib.hid (grown_step HG.out hG5); have HP5 := Lib.hid hP5; have HW5 := Lib.hid hW5
        clear hO5 hG5 hP5 hW5
        go_region
        rw [HW5.out]
        clear c0 d0 fr0 fr1 htx hty hbx hby
        have hwz : IntKind.i64.wrap ((jj : Int) - 1) = (jj : Int) - 1 := by
          unfold IntKind.wrap
          simp [IntKind.bits, IntKind.signed]
          omega
        go_wp2_with fail
        go_roundw
        case rel => exact ⟨m + 1, (jj : Int) - 1, _, by go_num, rfl, by have := HZ.out; omega, by have := HZ.out; omega, HO5.out, HP5.out, HG5.out⟩
        case measure => simp [intOf]; omega
      · have hall : T' = l.reverse := by
          have hTl := HTL.out
          refine List.ext_getElem? fun p => ?_
          by_cases hp : p < n
          · rw [HPP.out p hp, List.getElem?_reverse (by have := HN.out; omega), HN.out]
            split
            · rfl
            · rw [show n - 1 - p = p by omega]
          · rw [List.getElem?_eq_none (by omega), List.getElem?_eq_none (by rw [List.length_reverse]; have := HN.out; omega)]
        have HE := Lib.hid hall
        clear hall hz
        go_wp2_with fail
        go_end0
        exact ⟨rfl, by rw [← HE.out]; exact HO.out, HG.out⟩
/-- Where a row lies that one int has been put behind: where it lay, or in a new block. -/
theorem own_place {w : World} {B : Nat} {v : Value} {O : List Int} (hown : OwnZ w B v O) (ty : TypeId) (b : Nat) (r : Int) (hc : w.cell? ⟨b, 0, none⟩ = some (.int .i64 r)) (hn : O.length + 1 ≤ 20000000000000) {v' : Value} {w' : World}
    (hr : (Builtin.append_ #[56, 56] ty #[v, .slice (some ⟨b, 0, none⟩) 1 1]).run Try.prog w = .ok v' w') : v'.ownBlock = v.ownBlock ∨ v'.ownBlock = some w.heap.size := by
  obtain ⟨i, hi, hz, hsize, hby⟩ := info_parts info_int8
  have hnews : ∀ j u, ([.int .i64 r] : List Value)[j]? = some u → w.cell? ((⟨b, 0, none⟩ : Addr).add j) = some u := fun j u hu => by
    match j, hu with
    | 0, hu => simp at hu; subst hu; rw [addr_ofZ]; exact hc
    | j + 1, hu => simp at hu
  have hl : ([.int .i64 r] : List Value).length = 1 * i.size := by rw [hsize]; rfl
  obtain ⟨⟨h0, h1⟩, h2⟩ := hown
  rcases h1 with ⟨rfl, h1⟩ | ⟨g, cap, cur, rfl, hb, hh, hnc, hm, hs, ht⟩
  · have := run_append_nil (P := Try.prog) w 56 ty 3 i _ Try.underlying56 hi hz ⟨b, 0, none⟩ 1 1 [.int .i64 r] hl hnews (by decide) (by decide) (by rw [hby]; decide)
    rw [this] at hr
    injection hr with e1 e2
    subst e1
    exact .inr rfl
  · by_cases hroom : O.length + 1 ≤ cap
    · have := run_append_room (P := Try.prog) w 56 ty 3 i Try.underlying56 hi g O.length cap cur hh ⟨b, 0, none⟩ 1 1 [.int .i64 r] hl hnews (by intro u hu; simp at hu; subst hu; rfl) hroom (by rw [hsize]; simp; omega)
      rw [this] at hr
      injection hr with e1 e2
      subst e1
      exact .inl rfl
    · have := run_append_grow (P := Try.prog) w 56 ty 3 i _ Try.underlying56 hi hz ⟨g, 0, none⟩ O.length cap (litsZ O) (by rw [litsZ_length, hsize]; simp) (World.ownsRow.cells (g := g) ⟨h0, .inr ⟨g, cap, cur, rfl, hb, hh, hnc, hm, hs, ht⟩⟩ rfl) ⟨b, 0, none⟩ 1 1 [.int .i64 r] hl hnews (by omega) (by omega) (growslice_fits_wide (by omega) (by rw [hby]; omega))
      rw [this] at hr
      injection hr with e1 e2
      subst e1
      exact .inr rfl
/-- An append of one int onto a row of the call's own, with its place. -/
theorem append_zs_at {w : World} {ops : Array Oper} {rest : List Oper} {o : Oper} {a : Act} {Q : Exit → Act → World → Prop} (hgd : o.guard = none) (x y : Operand)
    (ho : o.op = .call { callee := .builtin .append, args := #[x, y], argTypes := #[56, 56] })
    (base : Nat) (v : Value) (O : List Int) (hs : a.eval x = v) (hown : OwnZ w base v O)
    (b : Nat) (r : Int) (hx : a.eval y = .slice (some ⟨b, 0, none⟩) 1 1) (hc : w.cell? ⟨b, 0, none⟩ = some (.int .i64 r)) (hr64 : R64 r) (hn : O.length + 1 ≤ 20000000000000) (hbase : base ≤ w.heap.size)
    (h : ∀ v' w', OwnZ w' base v' (O ++ [r]) → w.grownBy w' v.ownBlock → (v'.ownBlock = v.ownBlock ∨ v'.ownBlock = some w.heap.size) → wpList Try.prog ops Q rest (a.put o.dst v') w') : wpList Try.prog ops Q (o :: rest) a w := by
  obtain ⟨i, hi, hz, hsize, hby⟩ := info_parts info_int8
  refine wpList_plain hgd fun K hK => ?_
  obtain ⟨v', w', hr, h2, h3, _⟩ := run_append_own_wide (P := Try.prog) w base 56 o.type 3 i _ 1 8 Try.underlying56 hi hz hsize hby rfl (by omega) v O.length (litsZ O) hown.1 ⟨b, 0, none⟩ 1 1 [.int .i64 r] rfl (fun j u hu => by
    match j, hu with
    | 0, hu => simp at hu; subst hu; rw [addr_ofZ]; exact hc
    | j + 1, hu => simp at hu) (by intro u hu; simp at hu; subst hu; rfl) (by unfold maxLen; omega) (by omega) hbase
  have hat := own_place hown o.type b r hc hn hr
  have ho' : OwnZ w' base v' (O ++ [r]) := ⟨by
    rw [litsZ_append, List.length_append]
    exact h2, fun y hy => (List.mem_append.1 hy).elim (hown.2 y) (fun hy => by rw [List.mem_singleton.1 hy]; exact hr64)⟩
  unfold Oper.wp execOp
  simp only [ho, resolve, invoke, builtin, Sem.run_bind, Sem.run_pure, Result.andThen_ok, List.map_toArray, List.map_cons, List.map_nil, hs, hx, hr]
  exact hK _ _ (h v' w' ho' h3 hat)
end Go.Proofs.Ythffdmncdoogpaa
/- The program's walk with a stack of its own. -/
namespace Go.Proofs.Ythffdmncdoogpaa
open Go Go.RowKit

def meetsP (at' a : Int) : Bool := bits .and .i64 a at' != 0
theorem meetsP_is (at' : Int) : meetsP at' = meetsI at' := funext fun a => by unfold meetsP meetsI; rw [and_swap]
/-- The rows of the walk: what has been met at block g, what reads in rv, what is left in lv (the next one last). -/
structure CtIn (W0 W : World) (g n N : Nat) (rv lv : Value) (st : List Nat) (s : Wk) : Prop where
  bel : Below W0.heap.size W0 W
  met : Whole W g 4 (s.seen.map Value.bool).toArray
  reads : OwnZ W W0.heap.size rv (natsZ s.out)
  left : OwnZ W W0.heap.size lv (natsZ st.reverse)
  hg : W0.heap.size ≤ g
  apart : ∀ j, rv.ownBlock = some j → lv.ownBlock ≠ some j
  len : s.seen.length = n
  few : s.out.length + s.seen.count false ≤ n
  deep : st.length + s.seen.count false ≤ N
  lt : ∀ x ∈ st, x < n
theorem natsZ_app (a b : List Nat) : natsZ (a ++ b) = natsZ a ++ natsZ b := by simp [natsZ]
theorem natsZ_len (a : List Nat) : (natsZ a).length = a.length := by simp [natsZ]
section
variable {W0 W W' : World} {g n N : Nat} {rv lv : Value} {st : List Nat} {s : Wk}
theorem CtIn.below (h : CtIn W0 W g n N rv lv st s) (hb : Below W.heap.size W W') : CtIn W0 W' g n N rv lv st s :=
  ⟨below_steps h.bel hb, h.met.below hb h.met.lt, h.reads.below hb, h.left.below hb, h.hg, h.apart, h.len, h.few, h.deep, h.lt⟩
theorem CtIn.mark (h : CtIn W0 W g n N rv lv st s) (pc : Nat) (hn : newI s pc = true) : CtIn W0 (W.setCell ⟨g, pc, none⟩ (.bool true)) g n N rv lv st ⟨s.seen.set pc true, s.out, s.hit⟩ := by
  have hc := mark_few pc hn
  refine ⟨h.bel.setCell (p := ⟨g, pc, none⟩) h.hg _, ?_, own_set h.reads g pc _ (own_whole_ne h.reads.1 h.met (by decide)), own_set h.left g pc _ (own_whole_ne h.left.1 h.met (by decide)), h.hg, h.apart, by simpa using h.len, ?_, ?_, h.lt⟩
  · rw [← set_map]
    exact h.met.store pc (.bool true)
  · have := h.few
    show s.out.length + (s.seen.set pc true).count false ≤ n
    omega
  · have := h.deep
    show st.length + (s.seen.set pc true).count false ≤ N
    omega
theorem CtIn.hitTo (h : CtIn W0 W g n N rv lv st s) (b : Bool) : CtIn W0 W g n N rv lv st ⟨s.seen, s.out, b⟩ := ⟨h.bel, h.met, h.reads, h.left, h.hg, h.apart, h.len, h.few, h.deep, h.lt⟩
theorem own_lt {B : Nat} {v : Value} {l : List Int} (h : OwnZ W B v l) {j : Nat} (hj : v.ownBlock = some j) : j < W.heap.size := by
  rcases h.1.2 with ⟨rfl, _⟩ | ⟨a, cap, cur, rfl, hb, hh, _⟩
  · simp [Value.ownBlock] at hj
  · simp [Value.ownBlock] at hj
    subst hj
    exact (Array.getElem?_eq_some_iff.1 hh).1
theorem own_far {B : Nat} {v : Value} {l : List Int} {r : Option Nat} (h : OwnZ W B v l) (hg : W.grownBy W' r) (hne : ∀ j, v.ownBlock = some j → r ≠ some j) : OwnZ W' B v l :=
  ⟨h.1.kept hg (by
    rcases hv : v.ownBlock with _ | j
    · exact .inl rfl
    · exact .inr (fun e => hne j hv e.symm)), h.2⟩
/-- One more is left. -/
theorem CtIn.push (h : CtIn W0 W g n N rv lv st s) {lv' : Value} {x : Nat} (hx : x < n) (ho : OwnZ W' W0.heap.size lv' (natsZ st.reverse ++ [(x : Int)])) (hg : W.grownBy W' lv.ownBlock) (hat : lv'.ownBlock = lv.ownBlock ∨ lv'.ownBlock = some W.heap.size) (hd : st.length + 1 + s.seen.count false ≤ N) :
    CtIn W0 W' g n N rv lv' (x :: st) s := by
  refine ⟨h.bel.grown hg h.bel.size (fun j hj => own_ge h.left hj), h.met.grown hg (own_whole_ne h.left.1 h.met (by decide)), own_far h.reads hg (fun j hj => h.apart j hj), ?_, h.hg, ?_, h.len, h.few, by simpa using hd, ?_⟩
  · rw [List.reverse_cons, natsZ_app]
    exact ho
  · intro j hj e
    rcases hat with hat | hat
    · rw [hat] at e
      exact h.apart j hj e
    · rw [hat] at e
      have := own_lt h.reads hj
      injection e with e
      omega
  · intro y hy
    rcases List.mem_cons.1 hy with rfl | hy
    · exact hx
    · exact h.lt y hy
/-- One more reads. -/
theorem CtIn.read (h : CtIn W0 W g n N rv lv st s) {rv' : Value} {pc : Nat} (ho : OwnZ W' W0.heap.size rv' (natsZ s.out ++ [(pc : Int)])) (hg : W.grownBy W' rv.ownBlock) (hat : rv'.ownBlock = rv.ownBlock ∨ rv'.ownBlock = some W.heap.size) (hf : s.out.length + 1 + s.seen.count false ≤ n) :
    CtIn W0 W' g n N rv' lv st ⟨s.seen, s.out ++ [pc], s.hit⟩ := by
  refine ⟨h.bel.grown hg h.bel.size (fun j hj => own_ge h.reads hj), h.met.grown hg (own_whole_ne h.reads.1 h.met (by decide)), ?_, own_far h.left hg (fun j hj e => h.apart j e hj), h.hg, ?_, h.len, ?_, h.deep, h.lt⟩
  · rw [natsZ_app]
    exact ho
  · intro j hj e
    rcases hat with hat | hat
    · rw [hat] at hj
      exact h.apart j hj e
    · rw [hat] at hj
      have := own_lt h.left e
      injection hj with hj
      omega
  · rw [List.length_append]
    simpa using hf
/-- The next one is taken. -/
theorem CtIn.pop {A : Option Addr} {m c pc : Nat} (h : CtIn W0 W g n N rv (.slice A m c) (pc :: st) s) (k : Nat) (hk : k = st.length) : CtIn W0 W g n N rv (.slice A k c) st s := by
  subst hk
  refine ⟨h.bel, h.met, h.reads, ?_, h.hg, ?_, h.len, h.few, by have := h.deep; simp at this; omega, fun y hy => h.lt y (List.mem_cons_of_mem _ hy)⟩
  · have := h.left.take st.length (by rw [natsZ_len]; simp)
    rw [List.reverse_cons, natsZ_app] at this
    rwa [List.take_append_of_le_length (by rw [natsZ_len]; simp), List.take_of_length_le (by rw [natsZ_len]; simp)] at this
  · intro j hj e
    refine h.apart j hj ?_
    cases A <;> exact e
end
/-- What stands in the frame and in memory at a jump: to 'back', to 'on'. -/
def AtJump (W0 : World) (I : List Ins) (meets : Int → Bool) (A : Option Addr) (c n N : Nat) (at' : Int) (long : Bool) (R : Wk) (on : Bool) (k : Nat) (a : Act) (W : World) : Prop :=
  ∃ (g : Nat) (rv lv : Value) (st : List Nat) (s : Wk) (pc : Nat), a.defers = [] ∧ a.tmps.size = 95 ∧ a.tmps.getD 0 undef = .slice A n c ∧ a.tmps.getD 2 undef = .int .i64 at' ∧ a.tmps.getD 3 undef = .bool long ∧
    a.tmps.getD 8 undef = rv ∧ a.tmps.getD 9 undef = .bool s.hit ∧ a.tmps.getD 10 undef = .slice (some ⟨g, 0, none⟩) n n ∧ a.tmps.getD 11 undef = lv ∧ (on = true → a.tmps.getD 12 undef = .int .i64 pc) ∧
    CtIn W0 W g n N rv lv st s ∧ (on = true → pc < n) ∧ walkI meets long I (if on then pc :: st else st) s = R ∧ (s.hit = true → long = true) ∧ k = 2 * leftI s + st.length + (if on then 1 else 0)
theorem frame95 {a : Act} {i0 i2 i3 i8 i9 i10 i11 : Value} (hd : a.defers = []) (hs : a.tmps.size = 95) (h0 : a.tmps.getD 0 undef = i0) (h2 : a.tmps.getD 2 undef = i2) (h3 : a.tmps.getD 3 undef = i3) (h8 : a.tmps.getD 8 undef = i8) (h9 : a.tmps.getD 9 undef = i9) (h10 : a.tmps.getD 10 undef = i10) (h11 : a.tmps.getD 11 undef = i11) :
    ∃ f : Nat → Value, f 12 = a.tmps.getD 12 undef ∧ a = { tmps := #[i0, f 1, i2, i3, f 4, f 5, f 6, f 7, i8, i9, i10, i11, f 12, f 13, f 14, f 15, f 16, f 17, f 18, f 19, f 20, f 21, f 22, f 23, f 24, f 25, f 26, f 27, f 28, f 29, f 30, f 31, f 32, f 33, f 34, f 35, f 36, f 37, f 38, f 39, f 40, f 41, f 42, f 43, f 44, f 45, f 46, f 47, f 48, f 49, f 50, f 51, f 52, f 53, f 54, f 55, f 56, f 57, f 58, f 59, f 60, f 61, f 62, f 63, f 64, f 65, f 66, f 67, f 68, f 69, f 70, f 71, f 72, f 73, f 74, f 75, f 76, f 77, f 78, f 79, f 80, f 81, f 82, f 83, f 84, f 85, f 86, f 87, f 88, f 89, f 90, f 91, f 92, f 93, f 94], defers := [] } := by
  refine ⟨fun k => a.tmps.getD k undef, rfl, ?_⟩
  obtain ⟨tmps, defers⟩ := a
  simp only at hd hs h0 h2 h3 h8 h9 h10 h11
  subst hd h0 h2 h3 h8 h9 h10 h11
  congr 1
  exact (frame_list tmps 95 hs).trans rfl

set_option maxHeartbeats 4000000 in
set_option maxRecDepth 100000 in
theorem pto_any (p : Pg) (v u : Value) (pcs : List Int) (at' : Int) (long : Bool) (w : World) (h : Inss w v p.ins) (g : Zs w u pcs) (hG : GoodPg p pcs) (hlen : pcs.length ≤ 17592186044416) :
    Calls Try.prog 42 #[v, u, .int .i64 at', .bool long] w (ClosePost (closeG p pcs at' long) w) := by
  have H0 := Lib.hid h; have HZ := Lib.hid g; have HG := Lib.hid hG
  obtain ⟨A, c, rfl, -⟩ := h
  obtain ⟨A2, c2, rfl, -⟩ := g
  obtain ⟨n, hn⟩ : ∃ n, p.ins.length = n := ⟨_, rfl⟩
  obtain ⟨m, hm⟩ : ∃ m, pcs.length = m := ⟨_, rfl⟩
  have hnn : n ≤ 10000 := by rw [← hn]; exact hG.1.2.1
  have hcl : closeI (meetsI at') long p.ins (natsI pcs) = walkI (meetsP at') long p.ins (natsI pcs) (wk0 n) := by unfold closeI; rw [hn, meetsP_is]
  have hcg := close_good at' long hG
  rw [hcl] at hcg
  obtain ⟨R, hR⟩ : ∃ R, walkI (meetsP at') long p.ins (natsI pcs) (wk0 n) = R := ⟨_, rfl⟩
  rw [hR] at hcg
  rw [hcg]
  rw [hn] at H0 ⊢
  rw [hm] at HZ hlen ⊢
  have HN := Lib.hid hn; have HM := Lib.hid hm; have HR := Lib.hid hR
  clear hn hm hcl hcg hR hG
  have hmk := make_bools n (by omega)
  obtain ⟨C, hC⟩ : ∃ C, Array.replicate n (Value.bool false) = C := ⟨_, rfl⟩
  rw [hC] at hmk
  obtain ⟨w1, hw1⟩ : ∃ w1, w.alloc (.cells C 4) = w1 := ⟨_, rfl⟩
  have hm1 : Whole w1 w.heap.size 4 C := by rw [← hw1]; exact heap_alloc_new w _
  have hx1 : Below w.heap.size w w1 := by rw [← hw1]; exact (Below.refl _ w).alloc (Nat.le_refl _) _
  have HW1 := Lib.hid hw1; have HM1 := Lib.hid hm1; have HX1 := Lib.hid hx1; have HC := Lib.hid hC
  clear hw1 hm1 hx1 hC
  go_enter Try.func42, Try.ntmps42
  go_upto_region 1 with (fail)
  apply wp_scope_two (fun k a W => AtJump w p.ins (meetsP at') A c n (m + n) at' long R false k a W) (fun k a W => AtJump w p.ins (meetsP at') A c n (m + n) at' long R true k a W)
  case h0 => exact rfl
  case h1 => exact rfl
  case p1 =>
    rintro k a W ⟨g, rv, lv, st, s, pc, hd, hs, i0, i2, i3, i8, i9, i10, i11, i12, hct, hpc, hwk, hhl, hk⟩
    obtain ⟨f, hf12, rfl⟩ := frame95 hd hs i0 i2 i3 i8 i9 i10 i11
    have hpc' := hpc rfl
    rw [← hf12] at i12
    rw [i12 rfl]
    clear hd hs i0 i2 i3 i8 i9 i10 i11 i12 hpc hf12
    have CT := Lib.hid hct
    simp only [if_true] at hwk hk
    have HWK := Lib.hid hwk; have HK := Lib.hid hk; have HHL := Lib.hid hhl; have HPC := Lib.hid hpc'
    have hsl : pc < s.seen.length := by rw [hct.len]; exact hpc'
    have d0 := hct.met.cell pc
    have fz := hct.met.free pc
    obtain ⟨b0, hb0⟩ : ∃ b, s.seen[pc]? = some b := ⟨_, List.getElem?_eq_getElem hsl⟩
    simp only [List.getElem?_toArray, List.getElem?_map, hb0, Option.map_some] at d0
    have hnew : newI s pc = !b0 := by simp [newI, List.getD_eq_getElem?_getD, hb0]
    have HNW := Lib.hid hnew
    have hpz : (pc : Int) < (n : Int) := by omega
    obtain ⟨b, o, x, a2, sl, cz, hA, hx, hmem, hsl2, hat, HFV, HRG, hbd, hIV⟩ := H0.out.at' pc (by rw [HN.out]; exact hpc')
    have hsd := HG.out.1.2.2.2.2.2.2 x hmem
    rw [HN.out] at hsd
    obtain ⟨xo, xu, xa, xs, xt⟩ := x
    simp only at HFV hsl2 hbd
    subst hA
    have hbw : b < w.heap.size := World.block_lt_of_cell? w _ HFV.1
    have HF5 := Lib.hid (HFV.below hct.bel); have HAT := Lib.hid hat; have HSD := Lib.hid hsd; have HBD := Lib.hid hbd
    clear HFV HRG hbd hIV hx hsl2 hat hmem hsd hct hwk hk hhl hpc' hb0 hsl hnew
    cases b0
    rotate_left
    · go_wp2_with fail
      go_step3
      show ∃ j, j < k ∧ AtJump w p.ins (meetsP at') _ c n (m + n) at' _ R false j _ _
      refine ⟨2 * leftI s + (st).length + 0, ?_, ?_⟩
      · have := HK.out
        omega
      refine ⟨g, rv, lv, st, s, 0, rfl, rfl, rfl, rfl, rfl, rfl, rfl, rfl, rfl, fun e => (by cases e), CT.out, fun e => (by cases e), ?_, HHL.out, rfl⟩
      rw [← HWK.out, walk_old _ HNW.out]
      rfl
    have HW : Hid (walkI (meetsP at') long p.ins (nextI (meetsP at') (atI p.ins pc) ++ st) (visitI pc (atI p.ins pc) s) = R) := Lib.hid (by rw [← HWK.out, walk_new st HNW.out HHL.out])
    have HLV : Hid (leftI ⟨s.seen.set pc true, s.out, s.hit⟩ + 1 = leftI s) := Lib.hid (left_visit s pc zeroI HNW.out)
    have hc1 := CT.out.mark pc HNW.out
    have HF1 : Hid (Five (W.setCell ⟨g, pc, none⟩ (.bool true)) b (o + pc * 5) (.int .i64 xo) (.int .i64 xu) (.int .i64 xa) (.slice a2 sl cz) (.int .i64 xt)) := Lib.hid (by
      obtain ⟨k0, k1, k2, k3, k4⟩ := HF5.out
      have hne : b ≠ g := fun e => by
        have h2 := CT.out.hg
        omega
      exact ⟨(World.cell?_setCell_other _ _ _ _ (by simp)).trans k0, (World.cell?_setCell_other _ _ _ _ (by simp)).trans k1, (World.cell?_setCell_other _ _ _ _ (by simp)).trans k2, (World.cell?_setCell_other _ _ _ _ (by simp)).trans k3, (World.cell?_setCell_other _ _ _ _ (by simp)).trans k4⟩)
    go_upto_region 10 with (fail)
    have hfew : s.out.length + 1 + (s.seen.set pc true).count false ≤ n := by have h1 := CT.out.few; have h2 := mark_few pc HNW.out; omega
    have hdeep : st.length + 1 + (s.seen.set pc true).count false ≤ m + n := by have h1 := CT.out.deep; have h2 := mark_few pc HNW.out; omega
    generalize W.setCell ⟨g, pc, none⟩ (.bool true) = W1 at hc1 HF1 ⊢
    have HC1 := Lib.hid hc1; have HFW := Lib.hid hfew; have HDP := Lib.hid hdeep
    obtain ⟨k0, k1, k2, k3, k4⟩ := HF1.out
    clear hc1 d0 fz hfew hdeep CT hbw
    by_cases o1 : xo = 1
    · subst o1
      cases long
      · have HE : Hid (R = ⟨s.seen.set pc true, s.out, true⟩) := Lib.hid (by rw [← HW.out, walk_stop (by simp [visitI, HAT.out]) rfl, HAT.out]; simp [visitI])
        go_wp2_with fail
        rw [two_ret]
        go_ret2
        exact ⟨rv, by rw [HE.out]; rfl, by rw [HE.out]; exact HC1.out.reads, HC1.out.bel⟩
      · go_wp2_with fail
        go_step3
        show ∃ j, j < k ∧ AtJump w p.ins (meetsP at') _ c n (m + n) at' _ R false j _ _
        refine ⟨2 * leftI ⟨s.seen.set pc true, s.out, true⟩ + (st).length + 0, ?_, ?_⟩
        · have h1 := HK.out
          have h2 : leftI ⟨s.seen.set pc true, s.out, true⟩ + 1 = leftI s := HLV.out
          skip
          omega
        refine ⟨g, rv, lv, st, ⟨s.seen.set pc true, s.out, true⟩, 0, rfl, rfl, rfl, rfl, rfl, rfl, rfl, rfl, rfl, fun e => (by cases e), HC1.out.hitTo true, fun e => (by cases e), ?_, (fun _ => rfl), rfl⟩
        rw [← HW.out, HAT.out]
        simp [nextI, visitI]
    by_cases o2 : xo = 2
    · subst o2
      have hb3 : Below W1.heap.size W1 (W1.alloc (.cells #[.int .i64 pc] 3)) := (Below.refl _ W1).alloc (Nat.le_refl _) _
      have HC3 := Lib.hid (HC1.out.below hb3)
      have HCE := Lib.hid (box_at W1 3 #[.int .i64 pc] 0 (.int .i64 pc) rfl)
      clear hb3
      go_wp2_with (at_builtin; refine append_zs_at rfl (.tmp 59) (.tmp 61) rfl w.heap.size rv (natsZ s.out) rfl HC3.out.reads W1.heap.size pc rfl HCE.out ?c1 ?c2 ?c3 ?_)
      case c1 => unfold R64; omega
      case c2 => rw [natsZ_len]; have := HFW.out; omega
      case c3 => exact HC3.out.bel.size
      intro v' w' ho' hg' hat'
      have HC4 := Lib.hid (HC3.out.read ho' hg' (by rw [World.size_alloc]; exact hat') HFW.out)
      clear ho' hg' hat' HC3 HCE
      go_wp2_with fail
      go_step3
      show ∃ j, j < k ∧ AtJump w p.ins (meetsP at') _ c n (m + n) at' _ R false j _ _
      refine ⟨2 * leftI ⟨s.seen.set pc true, s.out ++ [pc], s.hit⟩ + (st).length + 0, ?_, ?_⟩
      · have h1 := HK.out
        have h2 : leftI ⟨s.seen.set pc true, s.out ++ [pc], s.hit⟩ + 1 = leftI s := HLV.out
        skip
        omega
      refine ⟨g, v', lv, st, ⟨s.seen.set pc true, s.out ++ [pc], s.hit⟩, 0, rfl, rfl, rfl, rfl, rfl, rfl, rfl, rfl, rfl, fun e => (by cases e), HC4.out, fun e => (by cases e), ?_, HHL.out, rfl⟩
      rw [← HW.out, HAT.out]
      simp [nextI, visitI]
    by_cases o3 : xo = 3
    · subst o3
      have hs3 := (sound_alt n p.caps xu xa xt xs).1 HSD.out
      obtain ⟨⟨hu0, hu1⟩, ⟨ha0, ha1⟩, -, -⟩ := hs3
      obtain ⟨u, rfl⟩ := Int.eq_ofNat_of_zero_le hu0
      obtain ⟨v, rfl⟩ := Int.eq_ofNat_of_zero_le ha0
      have HU : Hid (u < n) := Lib.hid (by omega)
      have HV : Hid (v < n) := Lib.hid (by omega)
      have hb3 : Below W1.heap.size W1 (W1.alloc (.cells #[.int .i64 (v : Int)] 3)) := (Below.refl _ W1).alloc (Nat.le_refl _) _
      have HC3 := Lib.hid (HC1.out.below hb3)
      have HCE := Lib.hid (box_at W1 3 #[.int .i64 (v : Int)] 0 (.int .i64 (v : Int)) rfl)
      clear hb3 hu0 hu1 ha0 ha1
      go_wp2_with (at_builtin; refine append_zs_at rfl (.tmp 65) (.tmp 70) rfl w.heap.size lv (natsZ st.reverse) rfl HC3.out.left W1.heap.size v rfl HCE.out ?c1 ?c2 ?c3 ?_)
      case c1 => unfold R64; have := HV.out; omega
      case c2 => rw [natsZ_len, List.length_reverse]; have := HDP.out; omega
      case c3 => exact HC3.out.bel.size
      intro v' w' ho' hg' hat'
      have HC4 := Lib.hid (HC3.out.push HV.out ho' hg' (by rw [World.size_alloc]; exact hat') HDP.out)
      have HF4 : Hid (w'.cell? ⟨b, o + pc * 5 + 1, none⟩ = some (.int .i64 (u : Int))) := Lib.hid (by
        have h1 := (H0.out.below HC4.out.bel).at' pc (by rw [HN.out]; exact HPC.out)
        obtain ⟨b', o', x', a2', sl', cz', hA', hx', -, -, hat2, ⟨-, q1, -⟩, -⟩ := h1
        injection hA' with hA'
        injection hA' with e1 e2
        rw [HAT.out] at hat2
        subst hat2 e1 e2
        exact q1)
      have f1 := HF4.out
      clear ho' hg' hat' HC3 HCE k0 k1 k2 k3 k4
      go_wp2_with fail
      go_step3
      show ∃ j, j < k ∧ AtJump w p.ins (meetsP at') _ c n (m + n) at' _ R true j _ _
      refine ⟨2 * leftI ⟨s.seen.set pc true, s.out, s.hit⟩ + (v :: st).length + 1, ?_, ?_⟩
      · have h1 := HK.out
        have h2 : leftI ⟨s.seen.set pc true, s.out, s.hit⟩ + 1 = leftI s := HLV.out
        simp only [List.length_cons]
        omega
      refine ⟨g, rv, v', v :: st, ⟨s.seen.set pc true, s.out, s.hit⟩, u, rfl, rfl, rfl, rfl, rfl, rfl, rfl, rfl, rfl, fun _ => rfl, HC4.out, fun _ => HU.out, ?_, HHL.out, rfl⟩
      rw [← HW.out, HAT.out]
      simp [nextI, visitI]
    by_cases o4 : xo = 4
    · subst o4
      have hs4 := (sound_cap n p.caps xu xa xt xs).1 HSD.out
      obtain ⟨⟨hu0, hu1⟩, -⟩ := hs4
      obtain ⟨u, rfl⟩ := Int.eq_ofNat_of_zero_le hu0
      have HU : Hid (u < n) := Lib.hid (by omega)
      clear hu0 hu1
      go_wp2_with fail
      go_step3
      show ∃ j, j < k ∧ AtJump w p.ins (meetsP at') _ c n (m + n) at' _ R true j _ _
      refine ⟨2 * leftI ⟨s.seen.set pc true, s.out, s.hit⟩ + (st).length + 1, ?_, ?_⟩
      · have h1 := HK.out
        have h2 : leftI ⟨s.seen.set pc true, s.out, s.hit⟩ + 1 = leftI s := HLV.out
        skip
        omega
      refine ⟨g, rv, lv, st, ⟨s.seen.set pc true, s.out, s.hit⟩, u, rfl, rfl, rfl, rfl, rfl, rfl, rfl, rfl, rfl, fun _ => rfl, HC1.out, fun _ => HU.out, ?_, HHL.out, rfl⟩
      rw [← HW.out, HAT.out]
      simp [nextI, visitI]
    by_cases o5 : xo = 5
    · subst o5
      have hs5 := (sound_at n p.caps xu xa xt xs).1 HSD.out
      obtain ⟨⟨hu0, hu1⟩, -⟩ := hs5
      obtain ⟨u, rfl⟩ := Int.eq_ofNat_of_zero_le hu0
      have HU : Hid (u < n) := Lib.hid (by omega)
      clear hu0 hu1
      by_cases hme : meetsP at' xt = true
      · have hm0 : (bits .and .i64 xt at' != 0) = true := hme
        have HME := Lib.hid hme
        clear hme
        go_wp2_with fail
        go_step3
        show ∃ j, j < k ∧ AtJump w p.ins (meetsP at') _ c n (m + n) at' _ R true j _ _
        refine ⟨2 * leftI ⟨s.seen.set pc true, s.out, s.hit⟩ + (st).length + 1, ?_, ?_⟩
        · have h1 := HK.out
          have h2 : leftI ⟨s.seen.set pc true, s.out, s.hit⟩ + 1 = leftI s := HLV.out
          skip
          omega
        refine ⟨g, rv, lv, st, ⟨s.seen.set pc true, s.out, s.hit⟩, u, rfl, rfl, rfl, rfl, rfl, rfl, rfl, rfl, rfl, fun _ => rfl, HC1.out, fun _ => HU.out, ?_, HHL.out, rfl⟩
        rw [← HW.out, HAT.out]
        simp [nextI, visitI, HME.out]
      · have hm0 : (bits .and .i64 xt at' != 0) = false := Bool.eq_false_iff.2 hme
        have HME := Lib.hid (Bool.eq_false_iff.2 hme)
        clear hme
        go_wp2_with fail
        go_step3
        show ∃ j, j < k ∧ AtJump w p.ins (meetsP at') _ c n (m + n) at' _ R false j _ _
        refine ⟨2 * leftI ⟨s.seen.set pc true, s.out, s.hit⟩ + (st).length + 0, ?_, ?_⟩
        · have h1 := HK.out
          have h2 : leftI ⟨s.seen.set pc true, s.out, s.hit⟩ + 1 = leftI s := HLV.out
          skip
          omega
        refine ⟨g, rv, lv, st, ⟨s.seen.set pc true, s.out, s.hit⟩, 0, rfl, rfl, rfl, rfl, rfl, rfl, rfl, rfl, rfl, fun e => (by cases e), HC1.out, fun e => (by cases e), ?_, HHL.out, rfl⟩
        rw [← HW.out, HAT.out]
        simp [nextI, visitI, HME.out]
    have hs6 : xo = 6 := by
      have := HSD.out
      unfold SoundI at this
      simp only at this
      omega
    subst hs6
    go_wp2_with fail
    go_step3
    show ∃ j, j < k ∧ AtJump w p.ins (meetsP at') _ c n (m + n) at' _ R false j _ _
    refine ⟨2 * leftI ⟨s.seen.set pc true, s.out, s.hit⟩ + (st).length + 0, ?_, ?_⟩
    · have h1 := HK.out
      have h2 : leftI ⟨s.seen.set pc true, s.out, s.hit⟩ + 1 = leftI s := HLV.out
      skip
      omega
    refine ⟨g, rv, lv, st, ⟨s.seen.set pc true, s.out, s.hit⟩, 0, rfl, rfl, rfl, rfl, rfl, rfl, rfl, rfl, rfl, fun e => (by cases e), HC1.out, fun e => (by cases e), ?_, HHL.out, rfl⟩
    rw [← HW.out, HAT.out]
    simp [nextI, visitI]
  case p0 =>
    intro P1
    rintro k a W ⟨g, rv, lv, st, s, pc, hd, hs, i0, i2, i3, i8, i9, i10, i11, i12, hct, hpc, hwk, hhl, hk⟩
    obtain ⟨f, hf12, rfl⟩ := frame95 hd hs i0 i2 i3 i8 i9 i10 i11
    clear hd hs i0 i2 i3 i8 i9 i10 i11 i12 hpc hf12
    have CT := Lib.hid hct; have HHL := Lib.hid hhl
    simp only [Bool.false_eq_true, if_false] at hwk hk
    rcases st with _ | ⟨pc, st⟩
    · have HE : Hid (s = R) := Lib.hid (by rw [← hwk, walk_nil])
      obtain ⟨al, cl, hlv⟩ := own_slice hct.left.1
      subst hlv
      have h0 : (natsZ (List.reverse ([] : List Nat))).length = 0 := rfl
      rw [h0]
      clear hct hwk hk hhl h0
      go_wp2_with fail
      rw [two_ret]
      go_ret2
      exact ⟨rv, by rw [← HE.out]; rfl, by rw [← HE.out]; exact CT.out.reads, CT.out.bel⟩
    · obtain ⟨q, hq⟩ : ∃ q, st.length = q := ⟨_, rfl⟩
      have hll : (natsZ (pc :: st).reverse).length = q + 1 := by rw [natsZ_len, List.length_reverse, List.length_cons, hq]
      have hqb : q + 1 ≤ m + n := by have := hct.deep; rw [List.length_cons, hq] at this; omega
      rcases own_sliceZ hct.left.1 with ⟨-, h0⟩ | ⟨gl, cl, hlv, hcap, hcm, -⟩
      · omega
      rw [hll] at hlv hcap
      subst hlv
      obtain ⟨d0, -⟩ := hct.left.at' q (by omega)
      have hget : (natsZ (pc :: st).reverse)[q]'(by omega) = (pc : Int) := by
        subst hq
        simp [natsZ]
      rw [hget] at d0
      have HPOP := Lib.hid (hct.pop q hq.symm)
      have HPC : Hid (pc < n) := Lib.hid (hct.lt pc (List.mem_cons_self ..))
      have HWK := Lib.hid hwk; have HK := Lib.hid hk; have HQ := Lib.hid hq
      have e1 : IntKind.i64.wrap (((q + 1 : Nat) : Int) - 1) = (q : Int) := by
        rw [show ((q + 1 : Nat) : Int) - 1 = (q : Int) by omega]
        exact wrap64_nat q (by omega)
      have e2 : IntKind.i64.wrap ((q : Int) + 1 - 1) = (q : Int) := by
        rw [show (q : Int) + 1 - 1 = (q : Int) by omega]
        exact wrap64_nat q (by omega)
      have e3 : IntKind.i64.wrap (q : Int) = (q : Int) := wrap64_nat q (by omega)
      have e4 : (q : Int) + 1 ≠ 0 := by omega
      have e5 : (q : Int) ≤ (cl : Int) := by omega
      clear hct hwk hk hhl hll hget hq CT
      go_wp2_with fail
      go_big_quiet (fail)
      go_wp2_with fail
      rename_i hK
      go_step3
      refine hK _ _ ?_
      refine P1 k _ _ ?_
      refine ⟨g, rv, .slice (some ⟨gl, 0, none⟩) q cl, st, s, pc, rfl, rfl, rfl, rfl, rfl, rfl, rfl, rfl, rfl, fun _ => rfl, HPOP.out.below (below_draws W nq), fun _ => HPC.out, ?_, HHL.out, ?_⟩
      · exact HWK.out
      · have h1 := HK.out
        rw [List.length_cons] at h1
        simp only [if_true]
        omega
  case first =>
    intro P0
    go_upto_region 2 with (fail)
    rw [HW1.out]
    clear hmk
    go_wp2_with fail
    refine (cloneZ_any _ pcs w1 (HZ.out.below HX1.out) (by have := HM.out; omega)).mono ?_
    rintro e w2 ⟨lv, rfl, ho2, hb2⟩
    have HO2 := Lib.hid (ho2.mono HX1.out.size); have HX2 := Lib.hid (below_steps HX1.out hb2); have HM2 := Lib.hid (HM1.out.below hb2 HM1.out.lt)
    have HFAR : Hid (∀ j, lv.ownBlock = some j → j ≠ w.heap.size) := Lib.hid fun j hj => by
      have h1 := own_ge ho2 hj
      have h2 := HM1.out.lt
      omega
    clear ho2 hb2
    go_wp2_with fail
    refine (revZ_any w.heap.size lv pcs w2 HO2.out (by have := HM.out; omega)).mono ?_
    rintro e w3 ⟨rfl, ho3, hg3⟩
    have HO3 := Lib.hid ho3
    have HX3 := Lib.hid (HX2.out.grown hg3 HX2.out.size (fun j hj => own_ge HO2.out hj))
    have HM3 := Lib.hid (HM2.out.grown hg3 (own_whole_ne HO2.out.1 HM2.out (by decide)))
    clear ho3 hg3
    go_wp2_with fail
    rename_i hK
    go_step3
    refine hK _ _ ?_
    refine P0 (2 * leftI (wk0 n) + (natsI pcs).length) _ _ ?_
    refine ⟨w.heap.size, .slice none 0 0, lv, natsI pcs, wk0 n, 0, rfl, rfl, rfl, rfl, rfl, rfl, rfl, rfl, rfl, fun e => (by cases e), ?_, fun e => (by cases e), HR.out, fun e => (by cases e), rfl⟩
    refine ⟨HX3.out, ?_, ownZ_none _ _, ?_, Nat.le_refl _, fun j hj => by simp [Value.ownBlock] at hj, by simp [wk0], by simp [wk0], ?_, ?_⟩
    · have e : ((wk0 n).seen.map Value.bool).toArray = Array.replicate n (.bool false) := by simp [wk0]
      rw [e]
      rw [HC.out]
      exact HM3.out
    · have e : natsZ (natsI pcs).reverse = pcs.reverse := by
        unfold natsZ natsI
        rw [← List.map_reverse, List.map_map]
        refine (List.map_congr_left (g := id) fun x hx => ?_).trans (List.map_id _)
        have := (HG.out.2 x (List.mem_reverse.1 hx)).1
        simp
        omega
      rw [e]
      exact HO3.out
    · have := HM.out
      simp [wk0, natsI]
      omega
    · intro x hx
      obtain ⟨y, hy, rfl⟩ := List.mem_map.1 hx
      have := (HG.out.2 y hy).2
      have h0 := (HG.out.2 y hy).1
      rw [HN.out] at this
      omega
end Go.Proofs.Ythffdmncdoogpaa
/- The program's Closure, at any program and any places. -/
namespace Go.Proofs.Ythffdmncdoogpaa
open Go Go.RowKit

set_option maxHeartbeats 1600000 in
set_option maxRecDepth 100000 in
theorem pclose_any (p : Pg) (v u : Value) (pcs : List Int) (at' : Int) (long : Bool) (w : World) (h : PgV w p v) (g : Zs w u pcs) (hlen : pcs.length ≤ 17592186044416) :
    Calls Try.prog 25 #[v, u, .int .i64 at', .bool long] w (ClosePost (closeG p pcs at' long) w) := by
  have H0 := Lib.hid h
  obtain ⟨A, n, c, hn, rfl, hI, hs, hc, hnb⟩ := h.opened
  obtain ⟨w1, hw1⟩ : ∃ w1, w.alloc (.cells #[.slice A n c, .int .i64 p.start, .int .i64 p.caps] 24) = w1 := ⟨_, rfl⟩
  obtain ⟨hb1, e0, e1, e2, hz1⟩ := box3_new w _ _ _ _ hw1
  have HRT := Lib.hid (pright12_any p _ w1 (H0.out.below hb1))
  have HAP := Lib.hid fun W (hW : Below w1.heap.size w1 W) => pplaces_any p _ u pcs W (H0.out.below (below_steps hb1 hW)) (g.below (below_steps hb1 hW))
  have HTO := Lib.hid fun W (hW : Below w1.heap.size w1 W) (hG : GoodPg p pcs) => pto_any p (.slice A n c) u pcs at' long W (hI.below (below_steps hb1 hW)) (g.below (below_steps hb1 hW)) hG hlen
  have HF : Hid (∀ W, Below w1.heap.size w1 W → W.cell? ⟨w.heap.size, 0, none⟩ = some (.slice A n c) ∧ W.cell? ⟨w.heap.size, 1, none⟩ = some (.int .i64 p.start) ∧ W.cell? ⟨w.heap.size, 2, none⟩ = some (.int .i64 p.caps)) := Lib.hid fun W hW => ⟨cell_on hW e0, cell_on hW e1, cell_on hW e2⟩
  obtain ⟨A2, c2, rfl, -⟩ := g
  obtain ⟨m, hm⟩ : ∃ m, pcs.length = m := ⟨_, rfl⟩
  rw [hm] at HAP HTO ⊢
  have HB1 := Lib.hid hb1; have HW1 := Lib.hid hw1
  clear h hI hs hc hw1 hb1 hz1 hn hm hlen H0
  go_enter Try.func25, Try.ntmps25
  go_upto_region 1 with (fail)
  rw [HW1.out]
  go_wp2_with fail
  refine HRT.out.mono ?_
  rintro e w3 ⟨B, rfl, hq, hb3⟩
  have HB3 := Lib.hid hb3; have HQ := Lib.hid hq
  clear hb3 hq HRT e0 e1 e2
  obtain ⟨e0, e1, e2⟩ := HF.out _ HB3.out
  cases B
  · have hbad := close_bad (p := p) (pcs := pcs) at' long (fun h => Bool.false_ne_true (HQ.out.2 h.1))
    have HBAD := Lib.hid hbad
    clear HQ hbad
    go_wp2_with fail
    go_ret2
    exact ⟨.slice none 0 0, by rw [HBAD.out]; rfl, by rw [HBAD.out]; exact ownZ_none _ _, below_steps HB1.out HB3.out⟩
  have HR := Lib.hid (HQ.out.1 rfl)
  clear HQ
  go_wp2_with fail
  refine (HAP.out _ HB3.out).mono ?_
  rintro e w4 ⟨B, rfl, hq, hb4⟩
  have HB4 := Lib.hid (below_steps HB3.out hb4); have HQ := Lib.hid hq
  clear hb4 hq HAP e0 e1 e2
  obtain ⟨e0, e1, e2⟩ := HF.out _ HB4.out
  cases B
  · have hbad := close_bad (p := p) (pcs := pcs) at' long (fun h => Bool.false_ne_true (HQ.out.2 h.2))
    have HBAD := Lib.hid hbad
    clear HQ hbad
    go_wp2_with fail
    go_ret2
    exact ⟨.slice none 0 0, by rw [HBAD.out]; rfl, by rw [HBAD.out]; exact ownZ_none _ _, below_steps HB1.out HB4.out⟩
  have HG : Hid (GoodPg p pcs) := Lib.hid ⟨HR.out, HQ.out.1 rfl⟩
  clear HQ
  go_wp2_with fail
  refine (HTO.out _ HB4.out HG.out).mono ?_
  rintro e w5 ⟨v5, rfl, ho5, hb5⟩
  have HO5 := Lib.hid ho5; have HB5 := Lib.hid (below_steps (below_steps HB1.out HB4.out) hb5)
  have HS := Lib.hid (below_steps HB1.out HB4.out).size
  clear hb5 ho5 HTO e0 e1 e2
  go_wp2_with fail
  go_ret2
  exact ⟨v5, rfl, HO5.out.mono HS.out, HB5.out⟩
end Go.Proofs.Ythffdmncdoogpaa
/- The fixed question. -/
namespace Go.Proofs.Ythffdmncdoogpaa
open Go Go.RowKit

def headP : Pg := ⟨[⟨1, 0, 0, [], 0⟩, ⟨2, 0, 0, [(97, 97)], 0⟩, ⟨3, 1, 0, [], 0⟩], 2, 2⟩
theorem head_right : RightPg headP := by
  refine ⟨by decide, by decide, by unfold PlaceI headP; simp, by decide, by decide, by decide, fun x hx => ?_⟩
  simp only [headP, List.mem_cons, List.not_mem_nil, or_false] at hx
  rcases hx with rfl | rfl | rfl
  · exact .inl ⟨.inl rfl, rfl, rfl, rfl, rfl⟩
  · exact .inr (.inl ⟨rfl, by unfold PlaceI headP; simp, rfl, ⟨by simp, by simp [RightR, RightFrom]⟩, rfl⟩)
  · exact .inr (.inr (.inl ⟨rfl, by unfold PlaceI headP; simp, by unfold PlaceI headP; simp, rfl, rfl⟩))
theorem head_bds : ∀ x ∈ headP.ins, Bds x := fun x hx => by
  simp only [headP, List.mem_cons, List.not_mem_nil, or_false] at hx
  unfold Bds R64
  rcases hx with rfl | rfl | rfl <;> decide
theorem head_close : closeG headP [2] 0 false = ([1], true) := by
  rw [close_good 0 false ⟨head_right, by unfold PlaceI headP; simp⟩]
  have h1 : closeI (meetsI 0) false headP.ins (natsI [2]) = ⟨[true, true, true], [1], true⟩ := by
    unfold closeI
    show walkI (meetsI 0) false headP.ins [2] ⟨[false, false, false], [], false⟩ = _
    rw [walk_new _ rfl (by decide)]
    show walkI (meetsI 0) false headP.ins [1, 0] ⟨[false, false, true], [], false⟩ = _
    rw [walk_new _ rfl (by decide)]
    show walkI (meetsI 0) false headP.ins [0] ⟨[false, true, true], [1], false⟩ = _
    rw [walk_new _ rfl (by decide)]
    show walkI (meetsI 0) false headP.ins [] ⟨[true, true, true], [1], true⟩ = _
    rw [walk_nil]
  rw [h1]
def zeroP : Pg := ⟨[], 0, 0⟩
theorem zero_wrong : ¬ RightPg zeroP := fun h => by
  have := h.1
  simp [zeroP] at this
theorem zero_pg (w : World) : PgV w zeroP (.agg #[.slice none 0 0, .int .i64 0, .int .i64 0]) :=
  ⟨_, rfl, ⟨none, 0, rfl, Nat.le_refl _, Nat.zero_le _, fun _ => rfl, .inl rfl⟩, by unfold R64 zeroP; simp, by unfold R64 zeroP; simp⟩
set_option maxHeartbeats 1600000 in
set_option maxRecDepth 100000 in
theorem head12_any (w : World) : Calls Try.prog 8 #[] w fun e w' => e = .returned (.bool true) ∧ Below w.heap.size w w' := by
  obtain ⟨w1, hw1⟩ : ∃ w1, w.alloc (.cells #[.int .i32 97, .int .i32 97] 55) = w1 := ⟨_, rfl⟩
  have hz1 : w1.heap.size = w.heap.size + 1 := by rw [← hw1]; exact World.size_alloc _ _
  have hr1 : Rgs w1 (.slice (some ⟨w.heap.size, 0, none⟩) 1 1) [(97, 97)] := by rw [← hw1]; exact rgs_new w 97 97 (by unfold I32; omega) (by unfold I32; omega)
  have hb1 : Below w.heap.size w w1 := by rw [← hw1]; exact (Below.refl _ _).alloc (Nat.le_refl _) _
  obtain ⟨C, hC⟩ : ∃ C : Array Value, #[.int .i64 1, .int .i64 0, .int .i64 0, .slice none 0 0, .int .i64 0, .int .i64 2, .int .i64 0, .int .i64 0, .slice (some ⟨w.heap.size, 0, none⟩) 1 1, .int .i64 0, .int .i64 3, .int .i64 1, .int .i64 0, .slice none 0 0, .int .i64 0] = C := ⟨_, rfl⟩
  obtain ⟨w2, hw2⟩ : ∃ w2, w1.alloc (.cells C 39) = w2 := ⟨_, rfl⟩
  have hz2 : w2.heap.size = w.heap.size + 2 := by rw [← hw2, World.size_alloc, hz1]
  have hb2 : Below w1.heap.size w1 w2 := by rw [← hw2]; exact (Below.refl _ _).alloc (Nat.le_refl _) _
  have hc2 : ∀ j u, C[j]? = some u → w2.cell? ⟨w.heap.size + 1, j, none⟩ = some u := fun j u h => by rw [← hw2, ← hz1]; exact box_at w1 _ C j u h
  have hI2 : Inss w2 (.slice (some ⟨w.heap.size + 1, 0, none⟩) 3 3) headP.ins := by
    refine ⟨_, 3, rfl, Nat.le_refl _, by unfold maxLen; omega, fun e => (by cases e), .inr ⟨w.heap.size + 1, 0, rfl, fun i hi => ?_⟩⟩
    subst hC
    have hn : ∀ W, Rgs W (.slice none 0 0) [] := fun W => ⟨none, 0, rfl, Nat.le_refl _, Nat.zero_le _, fun _ => rfl, .inl rfl, by simp⟩
    match i, hi with
    | 0, hi => exact ⟨none, 0, ⟨hc2 0 _ rfl, hc2 1 _ rfl, hc2 2 _ rfl, hc2 3 _ rfl, hc2 4 _ rfl⟩, hn _, head_bds _ (List.getElem_mem hi)⟩
    | 1, hi => exact ⟨_, 1, ⟨hc2 5 _ rfl, hc2 6 _ rfl, hc2 7 _ rfl, hc2 8 _ rfl, hc2 9 _ rfl⟩, hr1.below hb2, head_bds _ (List.getElem_mem hi)⟩
    | 2, hi => exact ⟨none, 0, ⟨hc2 10 _ rfl, hc2 11 _ rfl, hc2 12 _ rfl, hc2 13 _ rfl, hc2 14 _ rfl⟩, hn _, head_bds _ (List.getElem_mem hi)⟩
    | i + 3, hi => have h3 : headP.ins.length = 3 := rfl; omega
  obtain ⟨w3, hw3⟩ : ∃ w3, w2.alloc (.cells #[.slice (some ⟨w.heap.size + 1, 0, none⟩) 3 3, .int .i64 2, .int .i64 2] 24) = w3 := ⟨_, rfl⟩
  obtain ⟨hb3, e0, e1, e2, hz3⟩ := box3_new w2 _ _ _ _ hw3
  rw [hz2] at e0 e1 e2
  have hP : PgV w3 headP (.agg #[.slice (some ⟨w.heap.size + 1, 0, none⟩) 3 3, .int .i64 2, .int .i64 2]) := ⟨_, rfl, hI2.below hb3, by unfold R64 headP; simp, by unfold R64 headP; simp⟩
  have HF : Hid (∀ W, Below w3.heap.size w3 W → W.cell? ⟨w.heap.size + 1 + 1, 0, none⟩ = some (.slice (some ⟨w.heap.size + 1, 0, none⟩) 3 3) ∧ W.cell? ⟨w.heap.size + 1 + 1, 1, none⟩ = some (.int .i64 2) ∧ W.cell? ⟨w.heap.size + 1 + 1, 2, none⟩ = some (.int .i64 2)) := Lib.hid fun W hW => ⟨cell_on hW e0, cell_on hW e1, cell_on hW e2⟩
  have HP := Lib.hid hP
  have HB3 := Lib.hid (below_steps (below_steps hb1 hb2) hb3)
  have HW1 := Lib.hid hw1; have HW2 := Lib.hid hw2; have HW3 := Lib.hid hw3; have HC := Lib.hid hC
  clear hw1 hz1 hr1 hb1 hC hw2 hz2 hb2 hc2 hI2 hw3 hb3 e0 e1 e2 hz3 hP
  go_enter Try.func8, Try.ntmps8
  go_upto_region 2 with (fail)
  rw [HW1.out, HC.out, HW2.out, HW3.out]
  obtain ⟨w4, hw4⟩ : ∃ w4, w3.alloc (.cells #[.int .i64 2] 3) = w4 := ⟨_, rfl⟩
  have hb4 : Below w3.heap.size w3 w4 := by rw [← hw4]; exact (Below.refl _ _).alloc (Nat.le_refl _) _
  have hZ4 : Zs w4 (.slice (some ⟨w3.heap.size, 0, none⟩) 1 1) [2] := by rw [← hw4]; exact zs_new w3 2 (by unfold R64; omega)
  have HCL := Lib.hid (pclose_any headP _ _ [2] 0 false w4 (HP.out.below hb4) hZ4 (by decide))
  rw [head_close] at HCL
  have HW4 := Lib.hid hw4; have HB4 := Lib.hid hb4
  obtain ⟨e0, e1, e2⟩ := HF.out _ (Below.refl _ w3)
  clear hw4 hb4 hZ4
  go_wp2_with (go_at_call 25; rw [HW4.out]; refine HCL.out.mono ?_; rintro e w5 ⟨v5, rfl, ho5, hb5⟩; have HO5 := Lib.hid ho5; have HB5 := Lib.hid (below_steps HB4.out hb5); obtain ⟨q0, q1, q2⟩ := HF.out _ HB5.out; clear ho5 hb5)
  refine (pcheck_any headP _ w5 (HP.out.below HB5.out)).mono ?_
  rintro e w6 ⟨r, rfl, hr, hb6⟩
  obtain rfl : r = 0 := by
    rcases hr with ⟨h, -⟩ | ⟨-, h⟩
    · exact h
    · exact absurd head_right h
  have HB6 := Lib.hid (below_steps HB5.out hb6); have HO6 := Lib.hid (HO5.out.below hb6)
  clear hr hb6 q0 q1 q2 e0 e1 e2 HCL
  go_wp2_with fail
  refine (pcheck_any zeroP _ w6 (zero_pg w6)).mono ?_
  rintro e w7 ⟨r, rfl, hr, hb7⟩
  obtain rfl : r = 121 := by
    rcases hr with ⟨-, h⟩ | ⟨h, -⟩
    · exact absurd h zero_wrong
    · exact h
  have HB7 := Lib.hid (below_steps HB6.out hb7); have HO7 := Lib.hid (HO6.out.below hb7)
  clear hr hb7
  obtain ⟨g, cg, hv⟩ : ∃ g c, v5 = .slice (some ⟨g, 0, none⟩) 1 c := by
    rcases own_sliceZ HO7.out.1 with ⟨-, h0⟩ | ⟨g, c, h, -⟩
    · simp [natsZ] at h0
    · exact ⟨g, c, h⟩
  subst hv
  obtain ⟨d0, -⟩ := HO7.out.at' 0 (by simp [natsZ])
  have hd0 : w7.cell? ⟨g, 0, none⟩ = some (.int .i64 1) := d0
  clear d0
  go_wp2_with fail
  go_ret
  exact ⟨rfl, below_steps HB3.out HB7.out⟩
end Go.Proofs.Ythffdmncdoogpaa
/- The laws of Check and of Closure. -/
namespace Go.Proofs.Ythffdmncdoogpaa
open Go Go.RowKit

theorem lit_list (w : World) (T : TypeId) : Below w.heap.size w (w.alloc (.cells #[] T)) := (Below.refl _ _).alloc (Nat.le_refl _) _
end Go.Proofs.Ythffdmncdoogpaa
/- The law of Closure twice. -/
namespace Go.Proofs.Ythffdmncdoogpaa
open Go Go.RowKit

theorem nats_back (l : List Nat) : natsI (natsZ l) = l := by
  unfold natsI natsZ
  rw [List.map_map]
  refine (List.map_congr_left (g := id) fun x _ => ?_).trans (List.map_id _)
  simp
theorem close_places (p : Pg) (pcs : List Int) (at' : Int) (long : Bool) (hR : RightPg p) : GoodPg p (natsZ (closeG p pcs at' long).1) := by
  refine ⟨hR, fun x hx => ?_⟩
  by_cases hG : GoodPg p pcs
  · rw [close_good at' long hG] at hx
    obtain ⟨i, hi, rfl⟩ := List.mem_map.1 hx
    have hf := fine_walk (meets := meetsI at') (long := long) (natsI pcs) (wk0 p.ins.length) (fine_zero p.ins)
    have h1 := ((hf.2.2.1 i).1 hi).1
    exact ⟨by omega, by omega⟩
  · rw [close_bad at' long hG] at hx
    simp [natsZ] at hx
theorem close_short (p : Pg) (pcs : List Int) (at' : Int) (long : Bool) : (closeG p pcs at' long).1.length ≤ 10000 := by
  by_cases hG : GoodPg p pcs
  · rw [close_good at' long hG]
    have h1 := walk_keep (meets := meetsI at') (long := long) (I := p.ins) (fun _ t => t.out.length + leftI t ≤ p.ins.length) (fun t => t.out.length + leftI t ≤ p.ins.length) (fun _ h => h) (fun _ _ _ h _ => h) (fun pc st t h hn _ => by
      have h2 := left_visit t pc (atI p.ins pc) hn
      have h3 : (visitI pc (atI p.ins pc) t).out.length ≤ t.out.length + 1 := by
        unfold visitI
        simp only
        split <;> simp
      omega) _ (natsI pcs) (wk0 p.ins.length) rfl (by simp [wk0, leftI])
    have h4 := hG.1.2.1
    show (walkI (meetsI at') long p.ins (natsI pcs) (wk0 p.ins.length)).out.length ≤ 10000
    omega
  · rw [close_bad at' long hG]
    simp
theorem twice_facts (p : Pg) (pcs : List Int) (at' : Int) : ∃ e, (closeG p pcs at' true).1 = (closeG p pcs at' false).1 ++ e ∧ (closeG p pcs at' true).2 = (closeG p pcs at' false).2 ∧ ((closeG p pcs at' false).2 = false → e = []) ∧
    closeG p (natsZ (closeG p pcs at' false).1) at' false = ((closeG p pcs at' false).1, false) := by
  by_cases hR : RightPg p
  · have hG2 := close_places p pcs at' false hR
    rw [close_good at' false hG2, nats_back]
    by_cases hG : GoodPg p pcs
    · rw [close_good at' true hG, close_good at' false hG]
      obtain ⟨e, h1, h2, h3⟩ := walk_short (meets := meetsI at') (I := p.ins) (natsI pcs) (wk0 p.ins.length) rfl
      obtain ⟨h4, h5⟩ := close_twice (meetsI at') false false p.ins (natsI pcs)
      exact ⟨e, h1, h2, h3, by rw [h4, h5]⟩
    · rw [close_bad at' true hG, close_bad at' false hG]
      refine ⟨[], rfl, rfl, fun _ => rfl, ?_⟩
      unfold closeI
      simp only [walk_nil]
      rfl
  · rw [close_bad at' true (fun h => hR h.1), close_bad at' false (fun h => hR h.1), close_bad at' false (fun h => hR h.1)]
    exact ⟨[], rfl, rfl, fun _ => rfl, rfl⟩
end Go.Proofs.Ythffdmncdoogpaa
