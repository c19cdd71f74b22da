/- Texts merged by program: PgRow. No condition. -/
import Derived.Test.YthffdmncdoogpaaK19
import Derived.Maps.AppendAt
import Derived.Deep.RegionLaw
set_option linter.unusedVariables false
/- Own rows of ints: cut, set, appended to with the place of the new row; the library's Clone and Reverse of ints. -/
namespace Go.Proofs.Ythffdmncdoogpaa
open Go Go.RowKit

theorem OwnZ.take {w : World} {B : Nat} {A : Option Addr} {n c : Nat} {l : List Int} (h : OwnZ w B (.slice A n c) l) (k : Nat) (hk : k ≤ l.length) : OwnZ w B (.slice A k c) (l.take k) := by
  obtain ⟨⟨h0, h1⟩, h2⟩ := h
  have hl : (l.take k).length = k := by rw [List.length_take]; omega
  refine ⟨⟨by rw [litsZ_length, Nat.mul_one], ?_⟩, fun x hx => h2 x (List.mem_of_mem_take hx)⟩
  rcases h1 with ⟨e, h1⟩ | ⟨g, cap, cur, e, hb, hh, hn, hm, hs, ht⟩
  · injection e with e1 e2 e3
    subst e1 e2 e3
    have : k = 0 := by omega
    subst this
    exact .inl ⟨rfl, rfl⟩
  · injection e with e1 e2 e3
    subst e1 e2 e3
    refine .inr ⟨g, c, cur, by rw [hl], hb, hh, by omega, hm, hs, ?_⟩
    rw [hl]
    have h3 : litsZ (l.take k) = (litsZ l).take k := by simp [litsZ, List.map_take]
    rw [h3, ← ht, List.take_take, Nat.mul_one, Nat.min_eq_left (by omega)]
theorem OwnZ.len {w : World} {B n c : Nat} {A : Option Addr} {l : List Int} (h : OwnZ w B (.slice A n c) l) : n = l.length := by
  rcases h.1.2 with ⟨e, h1⟩ | ⟨g, cap, cur, e, _⟩
  · injection e with e1 e2 e3
    omega
  · injection e with e1 e2 e3
theorem OwnZ.block {w : World} {B g n c : Nat} {l : List Int} (h : OwnZ w B (.slice (some ⟨g, 0, none⟩) n c) l) : ∃ cs, Whole w g 3 cs ∧ l.length ≤ cs.size ∧ B ≤ g ∧ cs.size = c := by
  rcases h.1.2 with ⟨e, _⟩ | ⟨g', cap, cur, e, hb, hh, hn, hm, hs, ht⟩
  · cases e
  · injection e with e1 e2 e3
    injection e1 with e1
    injection e1 with e1
    subst e1 e3
    exact ⟨cur, hh, by omega, hb, by omega⟩
theorem OwnZ.at' {w : World} {B g n c : Nat} {l : List Int} (h : OwnZ w B (.slice (some ⟨g, 0, none⟩) n c) l) (i : Nat) (hi : i < l.length) : w.cell? ⟨g, i, none⟩ = some (.int .i64 l[i]) ∧ w.frozen? ⟨g, i, none⟩ = false := by
  obtain ⟨cs, hw, _⟩ := h.block
  have h1 := h.1.cells (g := g) (by rw [h.len]; rfl) _ _ (litsZ_get l i hi)
  rw [addr_ofZ, Nat.zero_add] at h1
  exact ⟨h1, hw.free i⟩
theorem OwnZ.set {w : World} {B g n c : Nat} {l : List Int} (h : OwnZ w B (.slice (some ⟨g, 0, none⟩) n c) l) (i : Nat) (hi : i < l.length) (x : Int) (hx : R64 x) : OwnZ (w.setCell ⟨g, i, none⟩ (.int .i64 x)) B (.slice (some ⟨g, 0, none⟩) n c) (l.set i x) := by
  obtain ⟨⟨h0, h1⟩, h2⟩ := h
  refine ⟨⟨by rw [litsZ_length, Nat.mul_one], ?_⟩, fun y hy => ?_⟩
  · rcases h1 with ⟨e, _⟩ | ⟨g', cap, cur, e, hb, hh, hn, hm, hs, ht⟩
    · cases e
    · injection e with e1 e2 e3
      injection e1 with e1
      injection e1 with e1
      subst e1 e2 e3
      refine .inr ⟨g, c, cur.setIfInBounds i (.int .i64 x), by rw [List.length_set], hb, Whole.store hh i _, by rw [List.length_set]; exact hn, hm, by simpa using hs, ?_⟩
      have h3 : litsZ (l.set i x) = (litsZ l).set i (.int .i64 x) := by simp [litsZ, List.map_set]
      rw [h3, ← ht, List.length_set, Array.toList_setIfInBounds, List.take_set]
  · rcases List.mem_or_eq_of_mem_set hy with hy | rfl
    · exact h2 y hy
    · exact hx
def CloneZ (l : List Int) (w : World) (e : Ending) (w' : World) : Prop := ∃ v, e = .returned v ∧ OwnZ w' w.heap.size v l ∧ Below w.heap.size w w'
set_option maxHeartbeats 1600000 in
set_option maxRecDepth 100000 in
theorem cloneZ_any (v : Value) (l : List Int) (w : World) (h : Zs w v l) (hlen : l.length ≤ 17592186044416) : Calls Try.prog 73 #[v] w (CloneZ l w) := by
  have H0 := Lib.hid h
  obtain ⟨A, c, rfl, h2, h3, h4, h5, h6⟩ := h
  rcases A with _ | ad
  · have hc := h4 rfl
    have hl : l = [] := List.eq_nil_of_length_eq_zero (by omega)
    subst hl hc
    have he : ∀ w : World, (binOp .eql 56 (.slice none 0 0) (.slice none 0 0)).run Try.prog w = .ok (.bool true) w := fun _ => rfl
    clear h5 h6 h4 H0
    go_enter Try.func73, Try.ntmps73
    go_wp2_with fail
    go_ret
    exact ⟨_, rfl, ownZ_none _ _, Below.refl _ _⟩
  · obtain ⟨n, hn⟩ : ∃ n, l.length = n := ⟨_, rfl⟩
    rw [hn] at H0 hlen ⊢
    have he : ∀ w : World, (binOp .eql 56 (.slice (some ad) n c) (.slice none 0 0)).run Try.prog w = .ok (.bool false) w := fun _ => rfl
    have HN := Lib.hid hn
    clear h5 h6 h4 h2 hn
    have HO1 := Lib.hid (ownZ_lit w w.heap.size (Nat.le_refl _) [] 0 #[] rfl rfl (Nat.zero_le _) (by simp))
    have hb1 : Below w.heap.size w (w.alloc (.cells #[] 3)) := (Below.refl _ _).alloc (Nat.le_refl _) _
    have HB1 := Lib.hid hb1; have HR1 := Lib.hid (H0.out.below hb1)
    clear hb1
    go_enter Try.func73, Try.ntmps73
    go_wp2_with (at_builtin; refine append_zs rfl (.tmp 5) (.tmp 6) rfl w.heap.size _ [] rfl HO1.out (some ad) n c l rfl HR1.out (by have := HN.out; simp; omega) (by simp) ?_; intro v2 w2 ho2 hg2; have HO2 := Lib.hid ho2; have HG2 := Lib.hid hg2; clear ho2 hg2)
    go_ret
    exact ⟨v2, rfl, HO2.out, HB1.out.grown HG2.out HB1.out.size (fun j e => by cases e; exact Nat.le_refl _)⟩
def RevZ (B : Nat) (v : Value) (l : List Int) (w : World) (e : Ending) (w' : World) : Prop := e = .returned (.tuple #[]) ∧ OwnZ w' B v l.reverse ∧ w.grownBy w' v.ownBlock
theorem grown_set (w : World) (g j : Nat) (u : Value) : w.grownBy (w.setCell ⟨g, j, none⟩ u) (some g) :=
  ⟨rfl, rfl, rfl, by simp [World.setCell], fun k _ hk => Below.heap_setCell w _ u k (fun e => hk (by rw [e]))⟩
theorem grown_step {w w1 w2 : World} {r : Option Nat} (h1 : w.grownBy w1 r) (h2 : w1.grownBy w2 r) : w.grownBy w2 r :=
  ⟨h2.os.trans h1.os, h2.tape.trans h1.tape, h2.output.trans h1.output, Nat.le_trans h1.size h2.size, fun k hk hn => (h2.block k (Nat.lt_of_lt_of_le hk h1.size) hn).trans (h1.block k hk hn)⟩
theorem grown_below {w w' : World} {r : Option Nat} (h : Below w.heap.size w w') : w.grownBy w' r := ⟨h.os, h.tape, h.output, h.size, fun k hk _ => h.block k hk⟩
set_option maxHeartbeats 4000000 in
set_option maxRecDepth 100000 in
theorem revZ_any (B : Nat) (v : Value) (l : List Int) (w : World) (h : OwnZ w B v l) (hlen : l.length ≤ 17592186044416) : Calls Try.prog 74 #[v] w (RevZ B v l w) := by
  have H0 := Lib.hid h
  rcases own_sliceZ h.1 with ⟨rfl, h0⟩ | ⟨g, cap, rfl, -⟩
  · have hl : l = [] := List.eq_nil_of_length_eq_zero h0
    subst hl
    clear h
    go_enter Try.func74, Try.ntmps74
    go_wp2_with fail
    go_loopw [2, 3] (fun i j wr => i = .int .i64 0 ∧ j = .int .i64 (-1) ∧ wr = w) (fun _ _ _ => 0)
    case atStart => exact ⟨rfl, rfl, rfl⟩
    case round =>
      obtain ⟨rfl, rfl, rfl⟩ := hrel
      go_wp2_with fail
      go_end0
      exact ⟨rfl, by simpa using H0.out, World.grownBy.refl _ _⟩
  · obtain ⟨n, hn⟩ : ∃ n, l.length = n := ⟨_, rfl⟩
    rw [hn] at H0 hlen ⊢
    have HN := Lib.hid hn
    clear h hn
    go_enter Try.func74, Try.ntmps74
    have hwn : IntKind.i64.wrap ((n : Int) - 1) = (n : Int) - 1 := by
      unfold IntKind.wrap
      simp [IntKind.bits, IntKind.signed]
      omega
    go_wp2_with fail
    go_loopw [2, 3] (fun i j wr => ∃ (m : Nat) (z : Int) (T' : List Int), i = .int .i64 m ∧ j = .int .i64 z ∧ z = (n : Int) - 1 - m ∧ 2 * m ≤ n ∧ OwnZ wr B (.slice (some ⟨g, 0, none⟩) n cap) T' ∧ (∀ p : Nat, p < n → T'[p]? = if p < m ∨ n ≤ p + m then l[n - 1 - p]? else l[p]?) ∧ w.grownBy wr (some g)) (fun i _ _ => n - (intOf i).toNat)
    case atStart => exact ⟨0, (n : Int) - 1, l, rfl, rfl, by omega, by omega, H0.out, fun p hp => by rw [if_neg (by omega)], World.grownBy.refl _ _⟩
    case round =>
      obtain ⟨m, z, T', rfl, rfl, hz, hm, hO, hP, hG⟩ := hrel
      have HO := Lib.hid hO; have HPP := Lib.hid hP; have HG := Lib.hid hG
      have HTL := Lib.hid hO.len
      clear hO hP hG
      by_cases hmz : (m : Int) < z
      · obtain ⟨jj, rfl⟩ : ∃ jj : Nat, z = jj := ⟨z.toNat, by omega⟩
        have hmn : m < n := by omega
        have hjn : jj < n := by omega
        have hmT : m < T'.length := by have := HTL.out; omega
        have hjT : jj < T'.length := by have := HTL.out; omega
        obtain ⟨c0, fr0⟩ := HO.out.at' m hmT
        obtain ⟨d0, fr1⟩ := HO.out.at' jj hjT
        obtain ⟨tx, htx⟩ : ∃ x, T'[m] = x := ⟨_, rfl⟩
        obtain ⟨ty, hty⟩ : ∃ x, T'[jj] = x := ⟨_, rfl⟩
        have hbx : R64 tx := by rw [← htx]; exact HO.out.2 _ (List.getElem_mem hmT)
        have hby : R64 ty := by rw [← hty]; exact HO.out.2 _ (List.getElem_mem hjT)
        rw [htx] at c0
        rw [hty] at d0
        have hm1 : (m : Int) < (n : Int) := by omega
        have hj1 : (jj : Int) < (n : Int) := by omega
        have HZ := Lib.hid hz
        clear hz
        go_upto_region 3 with (fail)
        obtain ⟨W5, hW5⟩ : ∃ W5, ((wr.setCell ⟨g, m, none⟩ (.int .i64 ty)).setCell ⟨g, jj, none⟩ (.int .i64 tx)).drew = W5 := ⟨_, rfl⟩
        have hO5 : OwnZ W5 B (.slice (some ⟨g, 0, none⟩) n cap) ((T'.set m ty).set jj tx) := by
          rw [← hW5]
          have h1 := HO.out.set m hmT ty hby
          have h2 := h1.set jj (by rw [List.length_set]; exact hjT) tx hbx
          exact h2.below (below_draws _ 1)
        have hG5 : wr.grownBy W5 (some g) := by
          rw [← hW5]
          exact grown_step (grown_step (grown_set wr g m _) (grown_set _ g jj _)) (grown_below (below_draws _ 1))
        have hP5 : ∀ p : Nat, p < n → ((T'.set m ty).set jj tx)[p]? = if p < m + 1 ∨ n ≤ p + (m + 1) then l[n - 1 - p]? else l[p]? := by
          intro p hp
          have hz := HZ.out
          have hTl := HTL.out
          by_cases hpj : p = jj
          · subst hpj
            rw [List.getElem?_set_self (by rw [List.length_set]; exact hjT), if_pos (by omega), show n - 1 - p = m by omega, ← htx, ← List.getElem?_eq_getElem hmT, HPP.out m hmn, if_neg (by omega)]
          · rw [List.getElem?_set_ne (fun e => hpj e.symm)]
            by_cases hpm : p = m
            · subst hpm
              rw [List.getElem?_set_self hmT, if_pos (by omega), show n - 1 - p = jj by omega, ← hty, ← List.getElem?_eq_getElem hjT, HPP.out jj hjn, if_neg (by omega)]
            · rw [List.getElem?_set_ne (fun e => hpm e.symm), HPP.out p hp]
              by_cases hc : p < m ∨ n ≤ p + m
              · rw [if_pos hc, if_pos (by omega)]
              · rw [if_neg hc, if_neg (by omega)]
        have HO5 := Lib.hid hO5; have HG5 := Lib.hid (grown_step HG.out hG5); have HP5 := Lib.hid hP5; have HW5 := Lib.hid hW5
        clear hO5 hG5 hP5 hW5
        go_region
        rw [HW5.out]
        clear c0 d0 fr0 fr1 htx hty hbx hby
        have hwz : IntKind.i64.wrap ((jj : Int) - 1) = (jj : Int) - 1 := by
          unfold IntKind.wrap
          simp [IntKind.bits, IntKind.signed]
          omega
        go_wp2_with fail
        go_roundw
        case rel => exact ⟨m + 1, (jj : Int) - 1, _, by go_num, rfl, by have := HZ.out; omega, by have := HZ.out; omega, HO5.out, HP5.out, HG5.out⟩
        case measure => simp [intOf]; omega
      · have hall : T' = l.reverse := by
          have hTl := HTL.out
          refine List.ext_getElem? fun p => ?_
          by_cases hp : p < n
          · rw [HPP.out p hp, List.getElem?_reverse (by have := HN.out; omega), HN.out]
            split
            · rfl
            · rw [show n - 1 - p = p by omega]
          · rw [List.getElem?_eq_none (by omega), List.getElem?_eq_none (by rw [List.length_reverse]; have := HN.out; omega)]
        have HE := Lib.hid hall
        clear hall hz
        go_wp2_with fail
        go_end0
        exact ⟨rfl, by rw [← HE.out]; exact HO.out, HG.out⟩
/-- Where a row lies that one int has been put behind: where it lay, or in a new block. -/
theorem own_place {w : World} {B : Nat} {v : Value} {O : List Int} (hown : OwnZ w B v O) (ty : TypeId) (b : Nat) (r : Int) (hc : w.cell? ⟨b, 0, none⟩ = some (.int .i64 r)) (hn : O.length + 1 ≤ 20000000000000) {v' : Value} {w' : World}
    (hr : (Builtin.append_ #[56, 56] ty #[v, .slice (some ⟨b, 0, none⟩) 1 1]).run Try.prog w = .ok v' w') : v'.ownBlock = v.ownBlock ∨ v'.ownBlock = some w.heap.size := by
  obtain ⟨i, hi, hz, hsize, hby⟩ := info_parts info_int8
  have hnews : ∀ j u, ([.int .i64 r] : List Value)[j]? = some u → w.cell? ((⟨b, 0, none⟩ : Addr).add j) = some u := fun j u hu => by
    match j, hu with
    | 0, hu => simp at hu; subst hu; rw [addr_ofZ]; exact hc
    | j + 1, hu => simp at hu
  have hl : ([.int .i64 r] : List Value).length = 1 * i.size := by rw [hsize]; rfl
  obtain ⟨⟨h0, h1⟩, h2⟩ := hown
  rcases h1 with ⟨rfl, h1⟩ | ⟨g, cap, cur, rfl, hb, hh, hnc, hm, hs, ht⟩
  · have := run_append_nil (P := Try.prog) w 56 ty 3 i _ Try.underlying56 hi hz ⟨b, 0, none⟩ 1 1 [.int .i64 r] hl hnews (by decide) (by decide) (by rw [hby]; decide)
    rw [this] at hr
    injection hr with e1 e2
    subst e1
    exact .inr rfl
  · by_cases hroom : O.length + 1 ≤ cap
    · have := run_append_room (P := Try.prog) w 56 ty 3 i Try.underlying56 hi g O.length cap cur hh ⟨b, 0, none⟩ 1 1 [.int .i64 r] hl hnews (by intro u hu; simp at hu; subst hu; rfl) hroom (by rw [hsize]; simp; omega)
      rw [this] at hr
      injection hr with e1 e2
      subst e1
      exact .inl rfl
    · have := run_append_grow (P := Try.prog) w 56 ty 3 i _ Try.underlying56 hi hz ⟨g, 0, none⟩ O.length cap (litsZ O) (by rw [litsZ_length, hsize]; simp) (World.ownsRow.cells (g := g) ⟨h0, .inr ⟨g, cap, cur, rfl, hb, hh, hnc, hm, hs, ht⟩⟩ rfl) ⟨b, 0, none⟩ 1 1 [.int .i64 r] hl hnews (by omega) (by omega) (growslice_fits_wide (by omega) (by rw [hby]; omega))
      rw [this] at hr
      injection hr with e1 e2
      subst e1
      exact .inr rfl
/-- An append of one int onto a row of the call's own, with its place. -/
theorem append_zs_at {w : World} {ops : Array Oper} {rest : List Oper} {o : Oper} {a : Act} {Q : Exit → Act → World → Prop} (hgd : o.guard = none) (x y : Operand)
    (ho : o.op = .call { callee := .builtin .append, args := #[x, y], argTypes := #[56, 56] })
    (base : Nat) (v : Value) (O : List Int) (hs : a.eval x = v) (hown : OwnZ w base v O)
    (b : Nat) (r : Int) (hx : a.eval y = .slice (some ⟨b, 0, none⟩) 1 1) (hc : w.cell? ⟨b, 0, none⟩ = some (.int .i64 r)) (hr64 : R64 r) (hn : O.length + 1 ≤ 20000000000000) (hbase : base ≤ w.heap.size)
    (h : ∀ v' w', OwnZ w' base v' (O ++ [r]) → w.grownBy w' v.ownBlock → (v'.ownBlock = v.ownBlock ∨ v'.ownBlock = some w.heap.size) → wpList Try.prog ops Q rest (a.put o.dst v') w') : wpList Try.prog ops Q (o :: rest) a w := by
  obtain ⟨i, hi, hz, hsize, hby⟩ := info_parts info_int8
  refine wpList_plain hgd fun K hK => ?_
  obtain ⟨v', w', hr, h2, h3, _⟩ := run_append_own_wide (P := Try.prog) w base 56 o.type 3 i _ 1 8 Try.underlying56 hi hz hsize hby rfl (by omega) v O.length (litsZ O) hown.1 ⟨b, 0, none⟩ 1 1 [.int .i64 r] rfl (fun j u hu => by
    match j, hu with
    | 0, hu => simp at hu; subst hu; rw [addr_ofZ]; exact hc
    | j + 1, hu => simp at hu) (by intro u hu; simp at hu; subst hu; rfl) (by unfold maxLen; omega) (by omega) hbase
  have hat := own_place hown o.type b r hc hn hr
  have ho' : OwnZ w' base v' (O ++ [r]) := ⟨by
    rw [litsZ_append, List.length_append]
    exact h2, fun y hy => (List.mem_append.1 hy).elim (hown.2 y) (fun hy => by rw [List.mem_singleton.1 hy]; exact hr64)⟩
  unfold Oper.wp execOp
  simp only [ho, resolve, invoke, builtin, Sem.run_bind, Sem.run_pure, Result.andThen_ok, List.map_toArray, List.map_cons, List.map_nil, hs, hx, hr]
  exact hK _ _ (h v' w' ho' h3 hat)
end Go.Proofs.Ythffdmncdoogpaa
