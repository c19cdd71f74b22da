/- The law's places; an append of ints at a step of a region that draws its order; what two lists of instructions come to. -/
import Derived.Test.YtlkbdbijlnjjbaaPgLawB
set_option linter.unusedVariables false
namespace Go.Proofs.Ytlkbdbijlnjjbaa
open Go Go.RowKit

set_option maxHeartbeats 1600000 in
set_option maxRecDepth 100000 in
theorem lplaces_any (p : Pg) (v u : Value) (pcs : List Int) (w : World) (h : PgV w p v) (g : Zs w u pcs) :
    Calls Try.prog 26 #[v, u] w (SaysG (∀ x ∈ pcs, PlaceI p.ins.length x) w) := by
  have H0 := Lib.hid h
  obtain ⟨A, n, c, hn, rfl, hI, hs, hc, hnb⟩ := h.opened
  obtain ⟨w1, hw1⟩ : ∃ w1, w.alloc (.cells #[.slice A n c, .int .i64 p.start, .int .i64 p.caps] 24) = w1 := ⟨_, rfl⟩
  obtain ⟨hb1, e0, e1, e2, hz1⟩ := box3_new w _ _ _ _ hw1
  have HZ := Lib.hid (g.below hb1)
  obtain ⟨A2, c2, rfl, hle, hmx, -⟩ := g
  obtain ⟨m, hm⟩ : ∃ m, pcs.length = m := ⟨_, rfl⟩
  have hmb : m ≤ 9223372036854775807 := by unfold maxLen at hmx; omega
  obtain ⟨P, hP⟩ : ∃ P, (∀ x ∈ pcs, PlaceI p.ins.length x) = P := ⟨_, rfl⟩
  have HP : Hid (P ↔ ∀ x ∈ pcs, PlaceI n x) := Lib.hid (by rw [← hP, hn])
  rw [hm] at HZ ⊢
  rw [hP]
  have HB1 := Lib.hid hb1; have HW1 := Lib.hid hw1; have HM := Lib.hid hm
  clear h hI hs hc hw1 hb1 hz1 hn hm hmx hle H0 hP
  go_enter Try.func26, Try.ntmps26
  go_upto_region 1 with (fail)
  rw [HW1.out]
  go_wp2_with fail
  go_loopw [5] (fun i wr => ∃ k : Nat, k ≤ m ∧ i = .int .i64 k ∧ Below w1.heap.size w1 wr ∧ ∀ x ∈ pcs.take k, PlaceI n x) (fun i _ => m - (intOf i).toNat)
  case atStart => exact ⟨0, Nat.zero_le _, rfl, Below.refl _ _, by simp⟩
  case round =>
    obtain ⟨k, hk, rfl, hT, hall⟩ := hrel
    have HALL := Lib.hid hall; have HT := Lib.hid hT
    have hZr := HZ.out.below hT
    have e0' := cell_on hT e0
    clear hall hT
    by_cases hkm : k < m
    · have hkl : k < pcs.length := by rw [HM.out]; exact hkm
      obtain ⟨b, o, x, rfl, hx, hmem, k0, hR64⟩ := hZr.at' k hkl
      have hts : pcs.take (k + 1) = pcs.take k ++ [x] := by rw [List.take_succ_eq_append_getElem hkl, hx]
      have HTS := Lib.hid hts; have HMEM := Lib.hid hmem
      clear hts hmem hx hZr
      by_cases q0 : x < 0
      · have d0 : decide (x < 0) = true := decide_eq_true q0
        have HNO : Hid (¬ P) := Lib.hid (fun h => by have := (HP.out.1 h x HMEM.out).1; omega)
        clear q0
        go_wp2_with fail
        go_big_quiet (fail)
        go_wp2_with fail
        go_ret
        exact ⟨false, rfl, ⟨fun h => (by cases h), fun h => absurd h HNO.out⟩, below_steps HB1.out (below_steps HT.out (below_draws _ nq))⟩
      have d0 : decide (x < 0) = false := decide_eq_false q0
      by_cases q1 : (n : Int) ≤ x
      · have d1 : decide ((n : Int) ≤ x) = true := decide_eq_true q1
        have HNO : Hid (¬ P) := Lib.hid (fun h => by have := (HP.out.1 h x HMEM.out).2; omega)
        clear q0 q1
        go_wp2_with fail
        go_big_quiet (fail)
        go_wp2_with fail
        go_ret
        exact ⟨false, rfl, ⟨fun h => (by cases h), fun h => absurd h HNO.out⟩, below_steps HB1.out (below_steps HT.out (below_draws _ nq))⟩
      have d1 : decide ((n : Int) ≤ x) = false := decide_eq_false q1
      have HPL : Hid (PlaceI n x) := Lib.hid ⟨by omega, by omega⟩
      clear q0 q1
      go_wp2_with fail
      go_big_quiet (fail)
      go_wp2_with fail
      go_roundw
      case rel =>
        refine ⟨k + 1, by omega, by go_num, below_steps HT.out (below_draws _ nq), fun y hy => ?_⟩
        rw [HTS.out] at hy
        rcases List.mem_append.1 hy with hy | hy
        · exact HALL.out y hy
        · rw [List.mem_singleton.1 hy]
          exact HPL.out
      case measure => simp [intOf]; omega
    · have hP : P := HP.out.2 (fun x hx => HALL.out x (by rwa [List.take_of_length_le (by rw [HM.out]; omega)]))
      have HPP := Lib.hid hP
      clear hP hZr
      go_wp2_with fail
      go_ret
      exact ⟨true, rfl, ⟨fun _ => HPP.out, fun _ => rfl⟩, below_steps HB1.out HT.out⟩
/-- An append of ints at a step of a region that draws its order. -/
theorem step_append_zs {w : World} {ops : Array Oper} {o : Oper} {a : Act} {Kk : Act → World → Prop} {Q : Exit → Act → World → Prop} {E : Prop} (hgd : o.guard = none) (x y : Operand)
    (ho : o.op = .call { callee := .builtin .append, args := #[x, y], argTypes := #[29, 29] })
    (base : Nat) (v : Value) (O : List Int) (hs : a.eval x = v) (hown : OwnZ w base v O)
    (A : Option Addr) (m c : Nat) (K : List Int) (hx : a.eval y = .slice A m c) (ht : Zs w (.slice A m c) K) (hn : O.length + K.length ≤ 20000000000000) (hbase : base ≤ w.heap.size)
    (h : ∀ v' w', OwnZ w' base v' (O ++ K) → w.grownBy w' v.ownBlock → Kk (a.put o.dst v') w') :
    if Region.wanted o (yielded ops a.tmps) = true then Oper.wp Try.prog o a w Kk Q else E := by
  have hw : Region.wanted o (yielded ops a.tmps) = true := by
    unfold Region.wanted
    rw [hgd]
  rw [if_pos hw]
  obtain ⟨i, hi, hz, hsize, hby⟩ := info_parts info_int8
  obtain ⟨A', c', h1, h2, h3, h4, h5, h6⟩ := ht
  injection h1 with e1 e2 e3
  subst e1 e2 e3
  have hall : ∀ r ∈ O ++ K, R64 r := fun r hr => (List.mem_append.1 hr).elim (hown.2 r) (h6 r)
  rcases A with _ | ad
  · have hc := h4 rfl
    have h0 : K.length = 0 := by omega
    have hn0 : K = [] := List.eq_nil_of_length_eq_zero h0
    rw [h0, hc] at hx
    have hrun := run_append_owned_none (P := Try.prog) (w := w) base 29 o.type 3 i 1 Try.underlying29 hi v O.length (litsZ O) hown.1
    have hO : OwnZ w base v (O ++ K) := by
      rw [hn0, List.append_nil]
      exact hown
    have hfin := h v w hO (World.grownBy.refl w _)
    unfold Oper.wp
    simp only [execOp, ho, resolve, invoke, builtin, Sem.run_bind, Sem.run_pure, Result.andThen_ok, List.map_toArray, List.map_cons, List.map_nil, hs, hx, hrun]
    exact hfin
  · refine wp_append_own_wide w x y 29 ho base 3 i (.int .i64 0) 1 8 Try.underlying29 hi hz hsize hby rfl (by omega) v O.length (litsZ O) hs hown.1 ad K.length c (litsZ K) hx (by rw [litsZ_length]; omega) ?_ (litsZ_one K) (by unfold maxLen; omega) (by omega) hbase (fun v' w' g1 g2 _ => h v' w' ⟨?_, hall⟩ g2)
    · intro j u hu
      have hj : j < K.length := by
        have := (List.getElem?_eq_some_iff.1 hu).1
        rwa [litsZ_length] at this
      rw [litsZ_get K j hj] at hu
      rcases h5 with h5 | ⟨b, off, e, hc⟩
      · rw [h5] at hj
        simp at hj
      · have e := Option.some.inj e
        subst e
        have hadd : (⟨b, off, none⟩ : Addr).add j = ⟨b, off + j, none⟩ := by unfold Addr.add; split <;> simp_all
        rw [hadd, hc j hj]
        exact hu
    · rw [litsZ_append, List.length_append]
      exact g1
theorem nats_app (a b : List Int) : natsI (a ++ b) = natsI a ++ natsI b := by simp [natsI]
theorem good_app (p : Pg) (a b : List Int) : GoodPg p (a ++ b) ↔ GoodPg p a ∧ GoodPg p b := by
  unfold GoodPg
  constructor
  · rintro ⟨h1, h2⟩
    exact ⟨⟨h1, fun x hx => h2 x (List.mem_append_left _ hx)⟩, h1, fun x hx => h2 x (List.mem_append_right _ hx)⟩
  · rintro ⟨⟨h1, h2⟩, -, h3⟩
    exact ⟨h1, fun x hx => (List.mem_append.1 hx).elim (h2 x) (h3 x)⟩
/-- The list that the law builds. -/
def wantZ (m k : List Int) : List Int := m ++ k.filter fun x => decide (x ∉ m)
/-- What is come to from two lists of instructions. -/
theorem parts_facts (p : Pg) (a b : List Int) (at' : Int) (hG : GoodPg p a ∧ GoodPg p b) :
    (∃ e, natsZ (closeG p (a ++ b) at' true).1 = natsZ (closeG p a at' true).1 ++ e) ∧
    (natsZ (closeG p (a ++ b) at' true).1).length = (wantZ (natsZ (closeG p a at' true).1) (natsZ (closeG p b at' true).1)).length ∧
    (∀ x ∈ natsZ (closeG p (a ++ b) at' true).1, x ∈ wantZ (natsZ (closeG p a at' true).1) (natsZ (closeG p b at' true).1)) ∧
    (closeG p (a ++ b) at' true).2 = ((closeG p a at' true).2 || (closeG p b at' true).2) := by
  rw [close_good at' true ((good_app p a b).2 hG), close_good at' true hG.1, close_good at' true hG.2, nats_app]
  obtain ⟨⟨e, h1⟩, h2, h3, h4⟩ := close_both (meetsI at') p.ins (natsI a) (natsI b)
  have nd : ∀ pcs, (closeI (meetsI at') true p.ins pcs).out.Nodup := fun pcs => (fine_walk (meets := meetsI at') (long := true) pcs (wk0 p.ins.length) (fine_zero p.ins)).2.1
  have inj : ∀ l : List Nat, l.Nodup → (natsZ l).Nodup := fun l hl => by
    unfold natsZ
    exact List.Pairwise.map _ (fun x y (hxy : x ≠ y) e => hxy (by omega)) hl
  have mem : ∀ (l : List Nat) (x : Int), x ∈ natsZ l ↔ 0 ≤ x ∧ x.toNat ∈ l := fun l x => by
    unfold natsZ
    rw [List.mem_map]
    constructor
    · rintro ⟨y, hy, rfl⟩
      exact ⟨by omega, by simpa using hy⟩
    · rintro ⟨h0, hx⟩
      exact ⟨x.toNat, hx, by omega⟩
  have key : ∀ x, x ∈ natsZ (closeI (meetsI at') true p.ins (natsI a ++ natsI b)).out ↔ x ∈ wantZ (natsZ (closeI (meetsI at') true p.ins (natsI a)).out) (natsZ (closeI (meetsI at') true p.ins (natsI b)).out) := fun x => by
    unfold wantZ
    rw [List.mem_append, List.mem_filter, decide_eq_true_eq, mem, mem, mem, h3]
    constructor
    · rintro ⟨h0, h | h⟩
      · exact .inl ⟨h0, h⟩
      · by_cases hm : 0 ≤ x ∧ x.toNat ∈ (closeI (meetsI at') true p.ins (natsI a)).out
        · exact .inl hm
        · exact .inr ⟨⟨h0, h⟩, hm⟩
    · rintro (⟨h0, h⟩ | ⟨⟨h0, h⟩, -⟩)
      · exact ⟨h0, .inl h⟩
      · exact ⟨h0, .inr h⟩
  have nw : (wantZ (natsZ (closeI (meetsI at') true p.ins (natsI a)).out) (natsZ (closeI (meetsI at') true p.ins (natsI b)).out)).Nodup := by
    unfold wantZ
    rw [List.nodup_append]
    refine ⟨inj _ (nd _), (inj _ (nd _)).filter _, fun x hx y hy => ?_⟩
    rw [List.mem_filter] at hy
    rintro rfl
    exact absurd hx (by simpa using hy.2)
  refine ⟨⟨natsZ e, by rw [h1, natsZ_app]⟩, ?_, fun x hx => (key x).1 hx, h4⟩
  exact ((List.perm_ext_iff_of_nodup (inj _ h2) nw).2 key).length_eq
theorem parts_bad (p : Pg) (a b : List Int) (at' : Int) (hG : ¬ (GoodPg p a ∧ GoodPg p b)) : closeG p (a ++ b) at' true = ([], false) := close_bad at' true (fun h => hG ((good_app p a b).1 h))
end Go.Proofs.Ytlkbdbijlnjjbaa
