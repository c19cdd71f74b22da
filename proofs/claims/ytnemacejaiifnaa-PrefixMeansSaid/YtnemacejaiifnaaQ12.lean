/- Texts merged by program: DnStar, DnBehind, DnPlus. No condition. -/
import Derived.Test.YtnemacejaiifnaaQ11
import Derived.Laws.EntriesVeiled
set_option linter.unusedVariables false
/- A star, a plus are laid. No condition. -/
namespace Go.Proofs.Ytnemacejaiifnaa
open Go Go.RowKit

/-- Trees are read in the world w, and the ways' block lies behind them. -/
structure Rd (E : Env) (w : World) : Prop where
  below : Below E.w0.heap.size E.w0 w
  q : E.w0.heap.size ≤ E.q
theorem Rd.grown {E : Env} {w w' : World} (h : Rd E w) (k : w.grownBy w' (some E.q)) : Rd E w' :=
  ⟨⟨k.os.trans h.below.os, k.tape.trans h.below.tape, k.output.trans h.below.output, Nat.le_trans h.below.size k.size, fun i hi => (k.block i (by have := h.below.size; omega) (by intro e; have := Option.some.inj e; have := h.q; omega)).trans (h.below.block i hi)⟩, h.q⟩
theorem Rd.then {E : Env} {w w' : World} (h : Rd E w) (k : Below w.heap.size w w') : Rd E w' := h.grown (below_grown k)
/-- A tree's ten cells, where it lies. -/
theorem TP.ten {E : Env} {w : World} {b o : Nat} {t : Tr} (h : TP E.w0 b o t) (hr : Rd E w) : ∃ kv sv, Kid10 w b o (.int .i64 t.fld.op) kv (.int .i32 t.fld.rune) sv (.int .i64 t.fld.at') (.int .i64 t.fld.cap) (.string t.fld.name) (.int .i64 t.fld.min) (.int .i64 t.fld.max) (.bool t.fld.lazy) ∧ KP E.w0 kv t.kids ∧ Rgs E.w0 sv t.fld.set ∧ FldOk t.fld := by
  obtain ⟨kv, sv, hc, ht⟩ := h
  obtain ⟨kv', sv', e, h1, h2, h3⟩ := ht.parts
  injection e with e
  have e1 : kv = kv' := by have := congrArg (fun a : Array Value => a[1]?) e; simpa [treC] using this
  have e2 : sv = sv' := by have := congrArg (fun a : Array Value => a[3]?) e; simpa [treC] using this
  subst e1 e2
  refine ⟨kv, sv, ?_, h3, h1, h2⟩
  exact CellsAt.ten (CellsAt.below hc hr.below)
/-- The one Kid's place. -/
theorem KP.one {w0 : World} {kv : Value} {k : Tr} {ks : List Tr} (h : KP w0 kv (k :: ks)) : ∃ b o c, kv = .slice (some ⟨b, o, none⟩) (k :: ks).length c ∧ TP w0 b o k := by
  have h' := h
  obtain ⟨A, c, e, -⟩ := h
  unfold KP at h'
  rw [e] at h'
  obtain ⟨b, o, hA, -, kv', sv', h1, h2⟩ := Kds.at' h' 0 (by simp)
  subst hA
  exact ⟨b, o, c, e, kv', sv', by simpa using h1, h2⟩

/-- 'lay' lays a tree as x. -/
def LayOf (E : Env) (x : Q) : Prop := ∀ (pb po : Nat) (t : Tr) (f : Fv) (K : Ks) (inp fv lv mv : Value) (n0 : Nat) (ev bv : Value) (w : World) [Nonempty (FitOk E fv)], TP E.w0 pb po t → ShapedP t → Mat E.R E.G t x → Rd E w → Om w E.q inp fv lv mv n0 ev bv → n0 + (idsQ x).length ≤ 100000000 →
  Calls Try.prog 39 #[ptrV E.q, .pointer (some ⟨pb, po, none⟩), f.v] w (LayPost E f K x inp fv lv mv n0 ev bv w)
theorem ids_len {N Z : List Nat} {l : List Nat} (h : ∀ a, N.count a + Z.count a = l.count a) : N.length + Z.length = l.length := by
  have := List.Perm.length_eq (l₁ := N ++ Z) (l₂ := l) (List.perm_iff_count.2 fun a => by rw [List.count_append]; exact h a)
  rw [List.length_append] at this
  exact this

/-- .. in a world in which orders were drawn. -/
theorem LayOf.drawn {E : Env} {x : Q} (h : LayOf E x) {pb po : Nat} {t : Tr} {f : Fv} {K : Ks} {inp fv lv mv : Value} {n0 : Nat} {ev bv : Value} {w : World} [Nonempty (FitOk E fv)] (hT : TP E.w0 pb po t) (hs : ShapedP t) (hM : Mat E.R E.G t x) (hr : Rd E w) (hO : Om w E.q inp fv lv mv n0 ev bv) (hn : n0 + (idsQ x).length ≤ 100000000) (k : Nat) :
    Calls Try.prog 39 #[ptrV E.q, .pointer (some ⟨pb, po, none⟩), f.v] (w.drewN k) (LayPost E f K x inp fv lv mv n0 ev bv w) := by
  have hb := below_draws w k
  refine (h pb po t f K inp fv lv mv n0 ev bv (w.drewN k) hT hs hM (hr.then hb) (hO.below hb hO.lt) hn).mono ?_
  rintro e w' ⟨v, N, T, Z, he, hl, ho⟩
  have hsz : (w.drewN k).heap.size = w.heap.size := rfl
  refine ⟨v, N, T, Z, he, ⟨grown_below hb hl.grown, ?_, hl.rep, hl.count, hl.nl⟩, ho⟩
  have := hl.stage
  rwa [hsz] at this
/-- What closes a stage that lays one closure over its own boxes. -/
theorem Stage.one {E : Env} {X : Fv → Ks → Prop} {lo hi n0 : Nat} {w : World} {N : List Nat} {v : Fv} {K : Ks} (hi_le : hi ≤ w.heap.size) (h : Loc E (ghOf X lo hi n0 w N [(v, K)] []) v K) : Stage E X lo hi n0 w N [(v, K)] [] :=
  ⟨hi_le, fun p hp => by rw [List.mem_singleton.1 hp]; exact h, fun z hz => (by cases hz), List.nodup_nil⟩
theorem bx_new {X : Fv → Ks → Prop} {lo hi n0 : Nat} {w : World} {N : List Nat} {T : List (Fv × Ks)} {b : Nat} {t : TypeId} {cs : Array Value} (h : Whole w b t cs) (h1 : lo ≤ b) (h2 : b < hi) : (ghOf X lo hi n0 w N T []).Bx b t cs :=
  ⟨h, h1, h2, fun z hz => by cases hz⟩
theorem nm_new {X : Fv → Ks → Prop} {lo hi n0 : Nat} {w : World} {a : Nat} {T : List (Fv × Ks)} {Z : List Lzy} : (ghOf X lo hi n0 w [a] T Z).Nm (n0 + 1) a := ⟨0, rfl, rfl⟩

theorem kp_away {w w' : World} {r : Nat} (h : w.grownBy w' (some r)) {b : Nat} {t : TypeId} {cs : Array Value} (k : Whole w b t cs) (hb : b ≠ r) : Whole w' b t cs := k.grown h (by intro e; exact hb (Option.some.inj e).symm)
theorem rp_inl {T : List (Fv × Ks)} {X : Fv → Ks → Prop} {v : Fv} {K : Ks} (h : Rp (fun v k => (v, k) ∈ T) v K) : Rp (fun v k => (v, k) ∈ T ∨ X v k) v K := h.mono fun _ _ h => .inl h
/-- A star's closures and its Kid's, put together. -/
theorem star_post {E : Env} {a : Nat} {x : Q} {z : Bool} {f : Fv} {K : Ks} {inp fv lv mv : Value} {n0 : Nat} {ev bv : Value} {w w4 w5 w6 : World} {pb po : Nat} {t : Tr} {b5 : Nat} {vk : Fv} {N : List Nat} {T : List (Fv × Ks)} {Z : List Lzy}
    (hT : TP E.w0 pb po t) (hz : t.fld.lazy = z) (hq : E.q < w.heap.size) (hb4 : Below w.heap.size w w4) (hs4 : w4.heap.size = w.heap.size + 4) (hg5 : w4.grownBy w5 (some E.q))
    (u1 : Whole w5 w.heap.size 71 #[ptrV E.q]) (u2 : Whole w5 (w.heap.size + 1) 77 #[.pointer (some ⟨pb, po, none⟩)]) (u3 : Whole w5 (w.heap.size + 2) 75 #[f.v]) (hu4 : Whole w6 (w.heap.size + 3) 75 #[.nilFunc])
    (q1 : Whole w5 b5 71 #[ptrV E.q]) (q2 : Whole w5 (b5 + 1) 75 #[.func (.func 119) #[] #[ptrV w.heap.size, ptrV (w.heap.size + 1), ptrV (w.heap.size + 3), ptrV (w.heap.size + 2)]]) (q3 : Whole w5 (b5 + 2) 3 #[.int .i64 ((n0 : Int) + 1)]) (hb5 : w4.heap.size ≤ b5)
    (hl : Laid E (onceF b5 (b5 + 2) (b5 + 1)) (.q (.star a z x) :: K) x (n0 + 1) w5 vk w6 N T Z) (ho6 : Om w6 E.q inp fv lv mv ((n0 + 1 + N.length : Nat) : Int) ev bv) :
    LayPost E f K (.star a z x) inp fv lv mv n0 ev bv w (.returned (.func (.func 84) #[] #[ptrV b5, ptrV (b5 + 2), ptrV (b5 + 1)])) (w6.setCell ⟨w.heap.size + 3, 0, none⟩ vk.v) := by
  have hs5 := hg5.size
  have hs6 := hl.grown.size
  have h56 := hl.grown
  obtain ⟨w7, hw7⟩ : ∃ w7, w6.setCell ⟨w.heap.size + 3, 0, none⟩ vk.v = w7 := ⟨_, rfl⟩
  have hg7 : w6.grownBy w7 (some (w.heap.size + 3)) := by rw [← hw7]; exact grown_set _ _ _ _
  have hs7 : w7.heap.size = w6.heap.size := by rw [← hw7]; simp [World.setCell]
  have hu7 : Whole w7 (w.heap.size + 3) 75 #[vk.v] := by have := hu4.store 0 vk.v; rw [hw7] at this; exact this
  have lt3 := q3.lt
  rw [hw7]
  have to7 : ∀ {b : Nat} {ty : TypeId} {cs : Array Value}, Whole w5 b ty cs → b ≠ E.q → b ≠ w.heap.size + 3 → Whole w7 b ty cs := fun h h1 h2 => kp_away hg7 (kp_away h56 h h1) h2
  have A : Stage E (fun v k => (v, k) ∈ T ∨ (v = f ∧ k = K)) w.heap.size w5.heap.size n0 w7 [a] [(onceF b5 (b5 + 2) (b5 + 1), .q (.star a z x) :: K)] [] := by
    refine Stage.one (by omega) (.star (nn := n0 + 1) (z := z) (bx_new (to7 q1 (by omega) (by omega)) (by omega) (by omega)) (bx_new (by have := to7 q3 (by omega) (by omega); push_cast; exact this) (by omega) (by omega)) (bx_new (to7 q2 (by omega) (by omega)) (by omega) (by omega)) nm_new ⟨_, _, _, _, pb, po, t, vk, f, rfl, bx_new (to7 u1 (by omega) (by omega)) (by omega) (by omega), bx_new (to7 u2 (by omega) (by omega)) (by omega) (by omega), hT, hz, bx_new hu7 (by omega) (by omega), ?_, bx_new (to7 u3 (by omega) (by omega)) (by omega) (by omega), .base (.inr (.inr ⟨rfl, rfl⟩))⟩)
    exact hl.rep.mono fun _ _ h => .inr (.inl h)
  have B := hl.stage.move (w' := w7) (by omega) fun b h1 h2 => hg7.block b (by omega) (by intro e; have := Option.some.inj e; omega)
  have J := A.join B (X := fun v k => v = f ∧ k = K) (by omega) (by omega) rfl (fun v k h => h) fun v k h => .inl (by rw [h.1, h.2]; exact List.mem_singleton.2 rfl)
  refine ⟨onceF b5 (b5 + 2) (b5 + 1), [a] ++ N, [(onceF b5 (b5 + 2) (b5 + 1), .q (.star a z x) :: K)] ++ T, [] ++ Z, rfl, ⟨?_, ?_, .base (List.mem_cons_self ..), fun b => ?_, fn_ne (by decide)⟩, ?_⟩
  · exact ⟨hg7.os.trans (h56.os.trans (hg5.os.trans hb4.os)), hg7.tape.trans (h56.tape.trans (hg5.tape.trans hb4.tape)), hg7.output.trans (h56.output.trans (hg5.output.trans hb4.output)), by omega, fun i hi hr => (hg7.block i (by omega) (by intro e; have := Option.some.inj e; omega)).trans ((h56.block i (by omega) hr).trans ((hg5.block i (by omega) hr).trans (hb4.block i hi)))⟩
  · rw [hs7]; exact J
  · have := hl.count b
    simp only [idsQ, List.nil_append, List.count_cons, List.singleton_append] at this ⊢
    omega
  · have h1 := kp_away hg7 ho6 (by omega)
    have e : n0 + ([a] ++ N).length = n0 + 1 + N.length := by simp; omega
    rw [e]
    exact h1

set_option maxHeartbeats 1600000 in
theorem dstar_any (E : Env) (a : Nat) (x : Q) (hL : LayOf E x) (pb po : Nat) (t k : Tr) (f : Fv) (K : Ks) (inp fv lv mv : Value) (n0 : Nat) (ev bv : Value) (w : World) [Nonempty (FitOk E fv)] (hT : TP E.w0 pb po t) (hk : t.kids = [k]) (hs : ShapedP k) (hM : Mat E.R E.G k x) (hr : Rd E w)
    (hO : Om w E.q inp fv lv mv n0 ev bv) (hn : n0 + (idsQ (.star a t.fld.lazy x)).length ≤ 100000000) :
    Calls Try.prog 78 #[ptrV E.q, .pointer (some ⟨pb, po, none⟩), f.v] w (LayPost E f K (.star a t.fld.lazy x) inp fv lv mv n0 ev bv w) := by
  obtain ⟨g, ff, c⟩ := f
  have hmf := mkf
  obtain ⟨w4, hw4, b1, b2, b3, b4, hb4, hs4⟩ := four_new w 71 77 75 75 (ptrV E.q) (.pointer (some ⟨pb, po, none⟩)) (.func g ff c) .nilFunc
  have hr4 := hr.then hb4
  have hO4 := hO.below hb4 hO.lt
  have hn1 : n0 + 1 + (idsQ x).length ≤ 100000000 := by simp only [idsQ, List.length_cons] at hn; omega
  have HON := Lib.hid (donce_any E.q ⟨.func 119, #[], #[ptrV w.heap.size, ptrV (w.heap.size + 1), ptrV (w.heap.size + 3), ptrV (w.heap.size + 2)]⟩ inp fv lv mv n0 ev bv w4 (by omega) (by omega) hO4)
  have HW4 := Lib.hid hw4; have HR4 := Lib.hid hr4; have HB1 := Lib.hid b1; have HB2 := Lib.hid b2; have HB3 := Lib.hid b3; have HB4 := Lib.hid b4; have HBL := Lib.hid hb4; have HS4 := Lib.hid hs4; have HTP := Lib.hid hT; have HSH := Lib.hid hs; have HM := Lib.hid hM; have HK := Lib.hid hk; have HN1 := Lib.hid hn1; have HL := Lib.hid hL; have HQ := Lib.hid hO.lt
  have c1 := (b1.cell 0).trans (rfl : _ = some (ptrV E.q))
  clear hw4 hr4 b1 b2 b3 b4 hb4 hs4 hT hs hM hk hn1 hL hr hO4 hn hO
  go_enter Try.func78, Try.ntmps78
  go_upto_region 2 with (fail)
  rw [HW4.out]
  go_wp2_with fail
  refine HON.out.mono ?_
  rintro e w5 ⟨b5, rfl, q1, q2, q3, hb5, hO5, hg5⟩
  have hr5 := HR4.out.grown hg5
  obtain ⟨kv, sv, ⟨-, d1, -⟩, hkp, -, -⟩ := HTP.out.ten hr5
  rw [HK.out] at hkp
  obtain ⟨kb, ko, kc, rfl, hkt⟩ := hkp.one
  have hkc : (0 : Int) < (([k] : List Tr).length : Nat) := by simp
  have HLAY := Lib.hid (fun d => HL.out.drawn (f := onceF b5 (b5 + 2) (b5 + 1)) (K := .q (.star a t.fld.lazy x) :: K) hkt HSH.out HM.out hr5 (n0 := n0 + 1) (by have := hO5; push_cast; exact this) HN1.out d)
  have u1 := HB1.out.grown hg5 (by intro e; have := Option.some.inj e; have := HQ.out; omega)
  have u2 := HB2.out.grown hg5 (by intro e; have := Option.some.inj e; have := HQ.out; omega)
  have u3 := HB3.out.grown hg5 (by intro e; have := Option.some.inj e; have := HQ.out; omega)
  have u4 := HB4.out.grown hg5 (by intro e; have := Option.some.inj e; have := HQ.out; omega)
  have U1 := Lib.hid u1; have U2 := Lib.hid u2; have U3 := Lib.hid u3; have U4 := Lib.hid u4
  have v1 := (u1.cell 0).trans (rfl : _ = some (ptrV E.q))
  have v2 := (u2.cell 0).trans (rfl : _ = some (Value.pointer (some ⟨pb, po, none⟩)))
  have Q1 := Lib.hid q1; have Q2 := Lib.hid q2; have Q3 := Lib.hid q3; have HB5 := Lib.hid hb5; have HG5 := Lib.hid hg5
  clear u1 u2 u3 u4 q1 q2 q3 hb5 hg5 hO5 hr5 hkt hkp hkc c1
  go_wp2_with fail
  go_region_with (go_at_call 39; refine (HLAY.out _).mono ?_; rintro e w6 ⟨⟨vg, vf, vc⟩, N, T, Z, he, hl, ho6⟩; obtain rfl : e = .returned (.func vg vf vc) := he; have hu4 := U4.out.grown hl.grown (by intro e; have := Option.some.inj e; have := HQ.out; omega); have hf : w6.frozen? ⟨w.heap.size + 1 + 1 + 1, 0, none⟩ = false := hu4.free 0; have hc4 : w6.cell? ⟨w.heap.size + 1 + 1 + 1, 0, none⟩ = some Value.nilFunc := (hu4.cell 0).trans (rfl : _ = some Value.nilFunc); replace hu4 := Lib.hid hu4; replace hl := Lib.hid hl; replace ho6 := Lib.hid ho6)
  all_goals
    go_wp2_with fail
    go_ret
    exact star_post HTP.out rfl HQ.out HBL.out HS4.out HG5.out U1.out U2.out U3.out hu4.out Q1.out Q2.out Q3.out HB5.out hl.out ho6.out
end Go.Proofs.Ytnemacejaiifnaa
/- What is laid behind a tree, when it is come to first. No condition. -/
namespace Go.Proofs.Ytnemacejaiifnaa
open Go Go.RowKit

set_option maxHeartbeats 1600000 in
theorem dbehind_leaf (E : Env) (pb po : Nat) (t : Tr) (hT : TP E.w0 pb po t) (hk : t.kids = []) (x : Fv) (w : World) (hr : Rd E w) :
    Calls Try.prog 123 #[ptrV E.q, .pointer (some ⟨pb, po, none⟩), x.v] w (LaterPost x w) := by
  obtain ⟨kv, sv, ⟨-, d1, -⟩, hkp, -, -⟩ := hT.ten hr
  rw [hk] at hkp
  obtain ⟨A, c, rfl, -⟩ := hkp
  have HL := Lib.hid (dlater_any x w)
  obtain ⟨g, f, c⟩ := x
  clear hT hr
  go_enter Try.func123, Try.ntmps123
  go_wp2_with fail
  refine HL.out.mono ?_
  rintro e w2 ⟨b, he, h⟩
  have H := Lib.hid h
  obtain rfl : e = .returned (.func (.func 155) #[] #[ptrV (b + 1), ptrV b]) := he
  clear h
  go_wp2_with fail
  go_ret
  exact ⟨b, rfl, H.out⟩
/-- Of a tree with Kids: gone on from once, too. -/
def BehindPost (E : Env) (x : Fv) (inp fv lv mv : Value) (p : Int) (ev bv : Value) (w : World) (e : Ending) (w' : World) : Prop :=
  ∃ b w1, Whole w1 b 157 #[x.v] ∧ Whole w1 (b + 1) 75 #[.nilFunc] ∧ w.heap.size ≤ b ∧ Below w.heap.size w w1 ∧ OncePost E.q (laterF (b + 1) b) inp fv lv mv p ev bv w1 e w'
set_option maxHeartbeats 1600000 in
theorem dbehind_node (E : Env) (pb po : Nat) (t : Tr) (hT : TP E.w0 pb po t) (hk : t.kids ≠ []) (x : Fv) (inp fv lv mv : Value) (p : Int) (ev bv : Value) (w : World) (hr : Rd E w) (hO : Om w E.q inp fv lv mv p ev bv) (hp0 : 0 ≤ p) (hp : p < 1000000000000) :
    Calls Try.prog 123 #[ptrV E.q, .pointer (some ⟨pb, po, none⟩), x.v] w (BehindPost E x inp fv lv mv p ev bv w) := by
  obtain ⟨kv, sv, ⟨-, d1, -⟩, hkp, -, -⟩ := hT.ten hr
  obtain ⟨A, c, rfl, -⟩ := hkp
  have HL := Lib.hid (dlater_any x w)
  have HO := Lib.hid hO; have HQ := Lib.hid hO.lt
  obtain ⟨n, hn⟩ : ∃ n, t.kids.length = n := ⟨_, rfl⟩
  have hn0 : ((n : Int) == 0) = false := by
    have := List.length_pos_iff.2 hk
    simp only [beq_eq_false_iff_ne]
    omega
  rw [hn] at d1
  obtain ⟨g, f, c⟩ := x
  clear hT hr hk hn hO
  go_enter Try.func123, Try.ntmps123
  go_wp2_with fail
  refine HL.out.mono ?_
  rintro e w2 ⟨b, he, h1, h2, h3, h4⟩
  obtain rfl : e = .returned (.func (.func 155) #[] #[ptrV (b + 1), ptrV b]) := he
  have HON := Lib.hid (donce_any E.q (laterF (b + 1) b) inp fv lv mv p ev bv w2 hp0 hp (HO.out.below h4 HQ.out))
  have H1 := Lib.hid h1; have H2 := Lib.hid h2; have H3 := Lib.hid h3; have H4 := Lib.hid h4
  clear h1 h2 h3 h4
  go_wp2_with fail
  refine HON.out.mono ?_
  rintro e w3 ⟨b7, he, h⟩
  obtain rfl : e = .returned (.func (.func 84) #[] #[ptrV b7, ptrV (b7 + 2), ptrV (b7 + 1)]) := he
  have H := Lib.hid h
  clear h
  go_wp2_with fail
  go_ret
  exact ⟨b, w2, H1.out, H2.out, H3.out, H4.out, b7, rfl, H.out⟩

/-- What is laid behind a tree: as y' is laid what y is, marked if the tree has Kids. -/
def BehPost (E : Env) (x : Fv) (y y' : Q) (K : Ks) (inp fv lv mv : Value) (n0 : Nat) (ev bv : Value) (w : World) (e : Ending) (w' : World) : Prop :=
  ∃ v N T l b, e = .returned (Fv.v v) ∧ (v, .q y' :: K) ∈ T ∧ w.grownBy w' (some E.q) ∧ Whole w' l 157 #[x.v] ∧ Whole w' b 75 #[.nilFunc] ∧ w.heap.size ≤ l ∧ w.heap.size ≤ b ∧ b ≠ l ∧
    (∀ X lo, lo ≤ w.heap.size → Thunk E (ghOf X lo w'.heap.size n0 w' N T [⟨b, x, y, K⟩]) x y K → Stage E X lo w'.heap.size n0 w' N T [⟨b, x, y, K⟩]) ∧ (∀ a, N.count a + (idsQ y).count a = (idsQ y').count a) ∧ Om w' E.q inp fv lv mv ((n0 + N.length : Nat) : Int) ev bv
theorem dbehind_any (E : Env) (pb po : Nat) (t : Tr) (hT : TP E.w0 pb po t) (x : Fv) (y y' : Q) (K : Ks) (hB : Beh (t.kids = []) y y') (inp fv lv mv : Value) (n0 : Nat) (ev bv : Value) (w : World) (hr : Rd E w) (hO : Om w E.q inp fv lv mv n0 ev bv) (hn : n0 ≤ 100000000) :
    Calls Try.prog 123 #[ptrV E.q, .pointer (some ⟨pb, po, none⟩), x.v] w (BehPost E x y y' K inp fv lv mv n0 ev bv w) := by
  rcases hB with ⟨hk, rfl⟩ | ⟨hk, a, rfl⟩
  · refine (dbehind_leaf E pb po t hT hk x w hr).mono ?_
    rintro e w' ⟨b, rfl, h1, h2, h3, h4⟩
    have l2 := h2.lt
    refine ⟨laterF (b + 1) b, [], [(laterF (b + 1) b, .q y' :: K)], b, b + 1, rfl, List.mem_singleton.2 rfl, below_grown h4, h1, h2, h3, by omega, by omega, fun X lo hlo hX => ?_, by simp, by simpa using hO.below h4 hO.lt⟩
    refine ⟨Nat.le_refl _, fun p hp => ?_, fun z hz => ?_, by simp⟩
    · rw [List.mem_singleton.1 hp]
      exact .later ⟨h1, by omega, by omega, fun z hz => by rw [List.mem_singleton.1 hz]; show b + 1 ≠ b; omega⟩ ⟨_, List.mem_singleton.2 rfl, rfl, rfl, rfl⟩
    · rw [List.mem_singleton.1 hz]
      exact ⟨h2, by show lo ≤ b + 1; omega, l2, hX⟩
  · refine (dbehind_node E pb po t hT hk x inp fv lv mv n0 ev bv w hr hO (by omega) (by omega)).mono ?_
    rintro e w' ⟨b, w1, h1, h2, h3, h4, b7, rfl, k1, k2, k3, k4, k5, k6⟩
    have l2 := h2.lt
    have l7 := k3.lt
    have hs := k6.size
    have hq := hO.lt
    have e1 := kp_away k6 h1 (by omega)
    have e2 := kp_away k6 h2 (by omega)
    refine ⟨onceF b7 (b7 + 2) (b7 + 1), [a], [(laterF (b + 1) b, .q y :: K), (onceF b7 (b7 + 2) (b7 + 1), .q (.mk a y) :: K)], b, b + 1, rfl, by simp, grown_below h4 k6, e1, e2, h3, by omega, by omega, fun X lo hlo hX => ?_, fun c => by simp [idsQ, List.count_cons]; omega, by simpa using k5⟩
    refine ⟨Nat.le_refl _, fun p hp => ?_, fun z hz => ?_, by simp⟩
    · have hb : ∀ b', w1.heap.size ≤ b' → ∀ z ∈ [(⟨b + 1, x, y, K⟩ : Lzy)], z.b ≠ b' := fun b' hb z hz => by rw [List.mem_singleton.1 hz]; show b + 1 ≠ b'; omega
      rcases List.mem_cons.1 hp with rfl | hp
      · exact .later ⟨e1, by omega, by omega, fun z hz => by rw [List.mem_singleton.1 hz]; show b + 1 ≠ b; omega⟩ ⟨_, List.mem_singleton.2 rfl, rfl, rfl, rfl⟩
      · rw [List.mem_singleton.1 hp]
        exact .mk (nn := n0 + 1) ⟨k1, by omega, by omega, hb _ (by omega)⟩ ⟨by have := k3; push_cast; exact this, by omega, by omega, hb _ (by omega)⟩ ⟨k2, by omega, by omega, hb _ (by omega)⟩ ⟨0, rfl, rfl⟩ (.base (.inl (List.mem_cons_self ..)))
    · rw [List.mem_singleton.1 hz]
      exact ⟨e2, by show lo ≤ b + 1; omega, by show b + 1 < _; omega, hX⟩
end Go.Proofs.Ytnemacejaiifnaa
/- A plus is laid. Written by gen11plus.py. No condition. -/
namespace Go.Proofs.Ytnemacejaiifnaa
open Go Go.RowKit

/-- The Kid's part, gone on from once. -/
theorem plus_once {E : Env} {t : Fv} {K : Ks} {x : Q} {inp fv lv mv : Value} {n0 : Nat} {ev bv : Value} {w w' : World} {f : Fv} {N : List Nat} {T : List (Fv × Ks)} {Z : List Lzy} (hl : Laid E t K x (n0 + 1) w f w' N T Z) (hO : Om w' E.q inp fv lv mv ((n0 + 1 + N.length : Nat) : Int) ev bv) (hn : n0 + 2 + (idsQ x).length ≤ 100000000) :
    Calls Try.prog 40 #[ptrV E.q, f.v] w' (OncePost E.q f inp fv lv mv ((n0 + 1 + N.length : Nat) : Int) ev bv w') := by
  have hc := ids_len hl.count
  exact donce_any E.q f inp fv lv mv _ ev bv w' (by omega) (by omega) hO
/-- A plus' closures and its Kid's, put together. -/
theorem plus_post {E : Env} {a a' : Nat} {x : Q} {z : Bool} {f : Fv} {K : Ks} {inp fv lv mv : Value} {n0 : Nat} {ev bv : Value} {w w4 w5 w6 w8 : World} {pb po : Nat} {t : Tr} {b5 b7 : Nat} {vk : Fv} {N : List Nat} {T : List (Fv × Ks)} {Z : List Lzy}
    (hT : TP E.w0 pb po t) (hz : t.fld.lazy = z) (hq : E.q < w.heap.size) (hb4 : Below w.heap.size w w4) (hs4 : w4.heap.size = w.heap.size + 4) (hg5 : w4.grownBy w5 (some E.q))
    (u1 : Whole w5 w.heap.size 71 #[ptrV E.q]) (u2 : Whole w5 (w.heap.size + 1) 77 #[.pointer (some ⟨pb, po, none⟩)]) (u3 : Whole w5 (w.heap.size + 2) 75 #[f.v]) (hu4 : Whole w8 (w.heap.size + 3) 75 #[.nilFunc])
    (q1 : Whole w5 b5 71 #[ptrV E.q]) (q2 : Whole w5 (b5 + 1) 75 #[.func (.func 121) #[] #[ptrV w.heap.size, ptrV (w.heap.size + 1), ptrV (w.heap.size + 3), ptrV (w.heap.size + 2)]]) (q3 : Whole w5 (b5 + 2) 3 #[.int .i64 ((n0 : Int) + 1)]) (hb5 : w4.heap.size ≤ b5)
    (hl : Laid E (onceF b5 (b5 + 2) (b5 + 1)) (.ask a a' z x :: K) x (n0 + 1) w5 vk w6 N T Z)
    (p1 : Whole w8 b7 71 #[ptrV E.q]) (p2 : Whole w8 (b7 + 1) 75 #[vk.v]) (p3 : Whole w8 (b7 + 2) 3 #[.int .i64 (((n0 + 1 + N.length : Nat) : Int) + 1)]) (hb7 : w6.heap.size ≤ b7) (hg8 : w6.grownBy w8 (some E.q)) (ho8 : Om w8 E.q inp fv lv mv (((n0 + 1 + N.length : Nat) : Int) + 1) ev bv) :
    LayPost E f K (.plus a a' z x) inp fv lv mv n0 ev bv w (.returned (.func (.func 84) #[] #[ptrV b7, ptrV (b7 + 2), ptrV (b7 + 1)])) (w8.setCell ⟨w.heap.size + 3, 0, none⟩ (.func (.func 84) #[] #[ptrV b7, ptrV (b7 + 2), ptrV (b7 + 1)])) := by
  have hs5 := hg5.size
  have hs6 := hl.grown.size
  have hs8 := hg8.size
  have h56 := hl.grown
  obtain ⟨w7, hw7⟩ : ∃ w7, w8.setCell ⟨w.heap.size + 3, 0, none⟩ (.func (.func 84) #[] #[ptrV b7, ptrV (b7 + 2), ptrV (b7 + 1)]) = w7 := ⟨_, rfl⟩
  have hg7 : w8.grownBy w7 (some (w.heap.size + 3)) := by rw [← hw7]; exact grown_set _ _ _ _
  have hs7 : w7.heap.size = w8.heap.size := by rw [← hw7]; simp [World.setCell]
  have hu7 : Whole w7 (w.heap.size + 3) 75 #[(onceF b7 (b7 + 2) (b7 + 1)).v] := by have := hu4.store 0 (onceF b7 (b7 + 2) (b7 + 1)).v; rw [hw7] at this; exact this
  have lt3 := q3.lt
  have lt7 := p3.lt
  rw [hw7]
  have to7 : ∀ {b : Nat} {ty : TypeId} {cs : Array Value}, Whole w5 b ty cs → b ≠ E.q → b ≠ w.heap.size + 3 → Whole w7 b ty cs := fun h h1 h2 => kp_away hg7 (kp_away hg8 (kp_away h56 h h1) h1) h2
  have A : Stage E (fun v k => (v, k) ∈ T ++ [(onceF b7 (b7 + 2) (b7 + 1), .q (.plus a a' z x) :: K)] ∨ (v = f ∧ k = K)) w.heap.size w5.heap.size n0 w7 [a'] [(onceF b5 (b5 + 2) (b5 + 1), .ask a a' z x :: K)] [] :=
    Stage.one (by omega) (.ask (nn := n0 + 1) (z := z) (bx_new (to7 q1 (by omega) (by omega)) (by omega) (by omega)) (bx_new (by have := to7 q3 (by omega) (by omega); push_cast; exact this) (by omega) (by omega)) (bx_new (to7 q2 (by omega) (by omega)) (by omega) (by omega)) nm_new ⟨_, _, _, _, pb, po, t, onceF b7 (b7 + 2) (b7 + 1), f, rfl, bx_new (to7 u1 (by omega) (by omega)) (by omega) (by omega), bx_new (to7 u2 (by omega) (by omega)) (by omega) (by omega), hT, hz, bx_new hu7 (by omega) (by omega), .base (.inr (.inl (List.mem_append_right _ (List.mem_singleton.2 rfl)))), bx_new (to7 u3 (by omega) (by omega)) (by omega) (by omega), .base (.inr (.inr ⟨rfl, rfl⟩))⟩)
  have B := hl.stage.move (w' := w7) (by omega) fun b h1 h2 => (hg7.block b (by omega) (by intro e; have := Option.some.inj e; omega)).trans (hg8.block b h2 (by intro e; have := Option.some.inj e; omega))
  have C : Stage E (fun v k => (v, k) ∈ T) w6.heap.size w7.heap.size (n0 + 1 + N.length) w7 [a] [(onceF b7 (b7 + 2) (b7 + 1), .q (.plus a a' z x) :: K)] [] := by
    refine Stage.one (by omega) (.plus (nn := n0 + 1 + N.length + 1) (bx_new (kp_away hg7 p1 (by omega)) (by omega) (by omega)) (bx_new (by have := kp_away hg7 p3 (by omega); push_cast at this ⊢; exact this) (by omega) (by omega)) (bx_new (kp_away hg7 p2 (by omega)) (by omega) (by omega)) nm_new ?_)
    exact hl.rep.mono fun _ _ h => .inr h
  have BC := B.join C (X := fun v k => v = onceF b5 (b5 + 2) (b5 + 1) ∧ k = .ask a a' z x :: K) (by omega) (by omega) rfl (fun v k h => .inr h) fun v k h => .inl h
  have J := A.join BC (X := fun v k => v = f ∧ k = K) (by omega) (by omega) rfl (fun v k h => h) fun v k h => .inl (by rw [h.1, h.2]; exact List.mem_singleton.2 rfl)
  refine ⟨onceF b7 (b7 + 2) (b7 + 1), [a'] ++ (N ++ [a]), _, [] ++ (Z ++ []), rfl, ⟨?_, J, .base (List.mem_append_right _ (List.mem_append_right _ (List.mem_singleton.2 rfl))), fun b => ?_, fn_ne (by decide)⟩, ?_⟩
  · exact ⟨hg7.os.trans (hg8.os.trans (h56.os.trans (hg5.os.trans hb4.os))), hg7.tape.trans (hg8.tape.trans (h56.tape.trans (hg5.tape.trans hb4.tape))), hg7.output.trans (hg8.output.trans (h56.output.trans (hg5.output.trans hb4.output))), by omega, fun i hi hr => (hg7.block i (by omega) (by intro e; have := Option.some.inj e; omega)).trans ((hg8.block i (by omega) hr).trans ((h56.block i (by omega) hr).trans ((hg5.block i (by omega) hr).trans (hb4.block i hi))))⟩
  · have := hl.count b
    simp only [idsQ, List.nil_append, List.append_nil, List.count_cons, List.singleton_append, List.count_append, List.count_nil] at this ⊢
    omega
  · have h1 := kp_away hg7 ho8 (by omega)
    have e : ((n0 + ([a'] ++ (N ++ [a])).length : Nat) : Int) = ((n0 + 1 + N.length : Nat) : Int) + 1 := by simp; omega
    rw [e]
    exact h1

set_option maxHeartbeats 1600000 in
theorem dplus_any (E : Env) (a a' : Nat) (x : Q) (hL : LayOf E x) (pb po : Nat) (t k : Tr) (f : Fv) (K : Ks) (inp fv lv mv : Value) (n0 : Nat) (ev bv : Value) (w : World) [Nonempty (FitOk E fv)] (hT : TP E.w0 pb po t) (hk : t.kids = [k]) (hs : ShapedP k) (hM : Mat E.R E.G k x) (hr : Rd E w)
    (hO : Om w E.q inp fv lv mv n0 ev bv) (hn : n0 + (idsQ (.plus a a' t.fld.lazy x)).length ≤ 100000000) :
    Calls Try.prog 79 #[ptrV E.q, .pointer (some ⟨pb, po, none⟩), f.v] w (LayPost E f K (.plus a a' t.fld.lazy x) inp fv lv mv n0 ev bv w) := by
  obtain ⟨g, ff, c⟩ := f
  have hmf := mkf
  obtain ⟨w4, hw4, b1, b2, b3, b4, hb4, hs4⟩ := four_new w 71 77 75 75 (ptrV E.q) (.pointer (some ⟨pb, po, none⟩)) (.func g ff c) .nilFunc
  have hr4 := hr.then hb4
  have hO4 := hO.below hb4 hO.lt
  have hn1 : n0 + 2 + (idsQ x).length ≤ 100000000 := by simp only [idsQ, List.length_cons] at hn; omega
  have HON := Lib.hid (donce_any E.q ⟨.func 121, #[], #[ptrV w.heap.size, ptrV (w.heap.size + 1), ptrV (w.heap.size + 3), ptrV (w.heap.size + 2)]⟩ inp fv lv mv n0 ev bv w4 (by omega) (by omega) hO4)
  have HW4 := Lib.hid hw4; have HR4 := Lib.hid hr4; have HB1 := Lib.hid b1; have HB2 := Lib.hid b2; have HB3 := Lib.hid b3; have HB4 := Lib.hid b4; have HBL := Lib.hid hb4; have HS4 := Lib.hid hs4; have HTP := Lib.hid hT; have HSH := Lib.hid hs; have HM := Lib.hid hM; have HK := Lib.hid hk; have HN1 := Lib.hid hn1; have HL := Lib.hid hL; have HQ := Lib.hid hO.lt
  have c1 := (b1.cell 0).trans (rfl : _ = some (ptrV E.q))
  clear hw4 hr4 b1 b2 b3 b4 hb4 hs4 hT hs hM hk hn1 hL hr hO4 hn hO
  go_enter Try.func79, Try.ntmps79
  go_upto_region 2 with (fail)
  rw [HW4.out]
  go_wp2_with fail
  refine HON.out.mono ?_
  rintro e w5 ⟨b5, rfl, q1, q2, q3, hb5, hO5, hg5⟩
  have hr5 := HR4.out.grown hg5
  obtain ⟨kv, sv, ⟨-, d1, -⟩, hkp, -, -⟩ := HTP.out.ten hr5
  rw [HK.out] at hkp
  obtain ⟨kb, ko, kc, rfl, hkt⟩ := hkp.one
  have hkc : (0 : Int) < (([k] : List Tr).length : Nat) := by simp
  have HLAY := Lib.hid (fun d => HL.out.drawn (f := onceF b5 (b5 + 2) (b5 + 1)) (K := .ask a a' t.fld.lazy x :: K) hkt HSH.out HM.out hr5 (n0 := n0 + 1) (by have := hO5; push_cast; exact this) (by have := HN1.out; omega) d)
  have u1 := HB1.out.grown hg5 (by intro e; have := Option.some.inj e; have := HQ.out; omega)
  have u2 := HB2.out.grown hg5 (by intro e; have := Option.some.inj e; have := HQ.out; omega)
  have u3 := HB3.out.grown hg5 (by intro e; have := Option.some.inj e; have := HQ.out; omega)
  have u4 := HB4.out.grown hg5 (by intro e; have := Option.some.inj e; have := HQ.out; omega)
  have U1 := Lib.hid u1; have U2 := Lib.hid u2; have U3 := Lib.hid u3; have U4 := Lib.hid u4
  have v1 := (u1.cell 0).trans (rfl : _ = some (ptrV E.q))
  have v2 := (u2.cell 0).trans (rfl : _ = some (Value.pointer (some ⟨pb, po, none⟩)))
  have Q1 := Lib.hid q1; have Q2 := Lib.hid q2; have Q3 := Lib.hid q3; have HB5 := Lib.hid hb5; have HG5 := Lib.hid hg5
  clear u1 u2 u3 u4 q1 q2 q3 hb5 hg5 hO5 hr5 hkt hkp hkc c1
  go_wp2_with fail
  have HP5 := Lib.hid (HR4.out.grown HG5.out)
  go_region_with (first
    | (go_at_call 39; refine (HLAY.out _).mono ?_; rintro e w6 ⟨⟨vg, vf, vc⟩, N, T, Z, he, hl, ho6⟩; obtain rfl : e = .returned (.func vg vf vc) := he; have HONC := Lib.hid (plus_once (f := ⟨vg, vf, vc⟩) hl ho6 (by have := HN1.out; omega)); have hu4 := U4.out.grown hl.grown (by intro e; have := Option.some.inj e; have := HQ.out; omega); have v1' := ((U1.out.grown hl.grown (by intro e; have := Option.some.inj e; have := HQ.out; omega)).cell 0).trans (rfl : _ = some (ptrV E.q)); replace hu4 := Lib.hid hu4; replace hl := Lib.hid hl; replace ho6 := Lib.hid ho6)
    | (go_at_call 40; refine HONC.out.mono ?_; rintro e w7 ⟨b7, he, p1, p2, p3, hb7, hO7, hg7⟩; obtain rfl : e = .returned (.func (.func 84) #[] #[ptrV b7, ptrV (b7 + 2), ptrV (b7 + 1)]) := he; replace hu4 := Lib.hid (hu4.out.grown hg7 (by intro e; have := Option.some.inj e; have := HQ.out; omega)); have hf : w7.frozen? ⟨w.heap.size + 1 + 1 + 1, 0, none⟩ = false := hu4.out.free 0; have hc4 : w7.cell? ⟨w.heap.size + 1 + 1 + 1, 0, none⟩ = some Value.nilFunc := (hu4.out.cell 0).trans (rfl : _ = some Value.nilFunc); replace p1 := Lib.hid p1; replace p2 := Lib.hid p2; replace p3 := Lib.hid p3; replace hb7 := Lib.hid hb7; replace hO7 := Lib.hid hO7; replace hg7 := Lib.hid hg7))
  all_goals
    have h8 : ∀ u t, (w7.setCell ⟨w.heap.size + 1 + 1 + 1, 0, none⟩ u).cell? ⟨w.heap.size + 1 + 1 + 1, 0, none⟩ = some t ↔ u = t := fun u t => by
      have := (hu4.out.store 0 u).cell 0
      rw [show (⟨w.heap.size + 1 + 1 + 1, 0, none⟩ : Addr) = ⟨w.heap.size + 3, 0, none⟩ from rfl, this]
      exact ⟨fun h => Option.some.inj h, fun h => congrArg some h⟩
    have h9 := (h8 _ _).2 (rfl : Value.func (.func 84) #[] #[ptrV b7, ptrV (b7 + 2), ptrV (b7 + 1)] = _)
    clear h8
    go_wp2_with fail
    go_ret
    exact plus_post HTP.out rfl HQ.out HBL.out HS4.out HG5.out U1.out U2.out U3.out hu4.out Q1.out Q2.out Q3.out HB5.out hl.out p1.out p2.out p3.out hb7.out hg7.out hO7.out
end Go.Proofs.Ytnemacejaiifnaa
