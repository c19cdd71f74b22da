/- Texts merged by program: DnPick, DnGo, DnAdd, DnFin, DnKeep, DnGoF, DnFirst, DnGoFst. No condition. -/
import Derived.Test.YtnemacejaiifnaaQ18
import Derived.Sort.CutIn
import Derived.Deep.RegionHeld3
import Derived.Deep.RegionWith
import Derived.Maps.AppendAt
set_option linter.unusedVariables false
set_option linter.unusedSimpArgs false
/- A choice's closure, come to: each Kid's turn is laid onto the stack, the first on top. No condition. -/
namespace Go.Proofs.Ytnemacejaiifnaa
open Go Go.RowKit Go.Shelf
attribute [local go_sem] Oper.semAt_some

theorem alt_ents : ∀ (x : Q) (K : Ks) (i : Nat), AltQ x → altEnts x K i = (altKids x).map fun y => .go (.q y :: K) i
  | .altC x r, K, i, h => by
    show _ :: altEnts r K i = _
    rw [alt_ents r K i h]
    rfl
  | .altN, _, _, _ => rfl
  | .none, _, _, h => h.elim
  | .eps, _, _, h => h.elim
  | .sym _, _, _, h => h.elim
  | .look _, _, _, h => h.elim
  | .cap _ _, _, _, h => h.elim
  | .seq _ _, _, _, h => h.elim
  | .quest _ _, _, _, h => h.elim
  | .mk _ _, _, _, h => h.elim
  | .star _ _ _, _, _, h => h.elim
  | .plus _ _ _ _, _, _, h => h.elim
theorem alt_call (x : Q) (K : Ks) (i : Nat) (s : Am) (h : AltQ x) : callQ x K i s = { s with left := altEnts x K i ++ s.left } := by
  cases x <;> first | exact h.elim | rfl
theorem alt_turns {E : Env} {g : Gh} {l : List Tn} {es : List Ent} (h : TurnsR E g l es) (K : Ks) (i : Nat) (hi : i ≤ E.R.length) : ∀ (vs : List Fv) (ks : List Q), vs.length = ks.length → (∀ (j : Nat) (h : j < vs.length) (h' : j < ks.length), Rp g.Tb vs[j] (.q ks[j] :: K)) →
    TurnsR E g (l ++ vs.reverse.map fun v => (v, (i : Int))) ((ks.map fun y => Ent.go (.q y :: K) i) ++ es)
  | [], [], _, _ => by simpa using h
  | v :: vs, k :: ks, hl, hr => by
    have ih := alt_turns h K i hi vs ks (by simpa using hl) fun j h1 h2 => by
      have := hr (j + 1) (by simpa using h1) (by simpa using h2)
      simpa using this
    have := TurnsR.snoc ih (.go (hr 0 (by simp) (by simp)) hi)
    simpa [List.append_assoc] using this
  | [], _ :: _, hl, _ => by simp at hl
  | _ :: _, [], hl, _ => by simp at hl
theorem zip_two (t : Array Value) (p q : Tmp) (u v : Value) : ((#[p, q] : Array Tmp).zip #[u, v]).foldl (fun t (p, v) => t.setIfInBounds p v) t = (t.setIfInBounds p u).setIfInBounds q v := by
  rw [show (#[p, q] : Array Tmp).zip #[u, v] = #[(p, u), (q, v)] from by simp]
  rfl
/-- What stands in memory while Kids are laid onto the stack. -/
structure PkI (E : Env) (w : World) (x : Wst) (l : List Tn) (i : Int) (pre : List Tel) (W : World) : Prop where
  st : St W E.q E.w0.heap.size x (l ++ pre.map fun y => (y.2, i))
  kp : Kp (TurnsAt w E.q E.w0.heap.size) w W
  box : Whole W w.heap.size 3 #[.int .i64 i]
theorem st_grown {q B : Nat} {x : Wst} {l : List Tn} {W W' : World} {row : Option Nat} (h : St W q B x l) (hg : W.grownBy W' row) (hr : ∀ r, row = some r → ∃ o : Obj, W.heap[r]? = some o ∧ o.isCells = false) : St W' q B x l := by
  obtain ⟨lv, h1, h2, h3⟩ := h
  have hne : ∀ {b : Nat} {t : TypeId} {cs : Array Value}, W.heap[b]? = some (.cells cs t (0, 0)) → some b ≠ row := fun {b t cs} hb e => by
    obtain ⟨o, ho, hc⟩ := hr b e.symm
    rw [hb] at ho
    cases ho
    cases hc
  refine ⟨lv, (hg.block _ (Array.getElem?_eq_some_iff.1 h1).1 (hne h1)).trans h1, World.ownsRow.kept h2 hg ?_, Nat.le_trans h3 hg.size⟩
  rcases h2.2 with ⟨e, -⟩ | ⟨g, cap, cur, e, -, hh, -⟩
  · rw [e]; exact .inl rfl
  · right
    rw [e]
    intro e2
    exact hne hh e2
theorem pk_own (E : Env) (w : World) (x : Wst) (l : List Tn) (i : Int) (B : Nat) (hB : w.heap.size + 1 ≤ B) : OwnFrom B (fun pre W => PkI E w x l i pre W) := by
  intro pre W W' row h hg hr
  refine ⟨st_grown h.st hg fun r e => (hr r e).2, ⟨hg.os.trans h.kp.os, hg.tape.trans h.kp.tape, hg.output.trans h.kp.output, Nat.le_trans h.kp.size hg.size, fun k hk hn => (hg.block k (by have := h.kp.size; omega) (fun e => by have := (hr _ e.symm).1; omega)).trans (h.kp.block k hk hn)⟩, ?_⟩
  · refine (hg.block _ h.box.lt fun e => ?_).trans h.box
    have := (hr _ e.symm).1
    omega
/-- One Kid more. -/
theorem pk_step {E : Env} {w W W' : World} {x : Wst} {l : List Tn} {i : Int} {pre : List Tel} {y : Tel} (h : PkI E w x l i pre W) (hq : E.q < w.heap.size) (hst : St W' E.q E.w0.heap.size x ((l ++ pre.map fun y => (y.2, i)) ++ [(y.2, i)])) (hk : Kp (TurnsAt W E.q E.w0.heap.size) W W') (B : Nat) : KeepsFrom B W W' ∧ KeepsP W W' ∧ PkI E w x l i (pre ++ [y]) W' := by
  obtain ⟨lv, h1, -, -⟩ := h.st
  have hA : ∀ b, TurnsAt W E.q E.w0.heap.size b → ∃ cs t, W.heap[b]? = some (.cells cs t (0, 0)) ∧ (t = 82 ∨ t = 119) := fun b hA => by
    rcases hA with rfl | ⟨-, cs, h2⟩
    · exact ⟨_, _, h1, .inl rfl⟩
    · exact ⟨_, _, h2, .inr rfl⟩
  have hc : ∀ b t cs, t ≠ 82 → t ≠ 119 → Whole W b t cs → Whole W' b t cs := fun b t cs n1 n2 hw => hk.whole hw fun e => by
    obtain ⟨cs', t', e1, e2⟩ := hA b e
    unfold Whole at hw
    rw [e1] at hw
    injection hw with hw
    injection hw with _ hw
    subst hw
    rcases e2 with e2 | e2
    · exact n1 e2
    · exact n2 e2
  refine ⟨⟨hk.size, fun k o _ hko ho => (hk.block k (Array.getElem?_eq_some_iff.1 hko).1 fun e => ?_).trans hko⟩, fun b t cs ht hw => hc b t cs (by rcases ht with rfl | rfl <;> decide) (by rcases ht with rfl | rfl <;> decide) hw, ⟨by rw [List.map_append, ← List.append_assoc]; exact hst, h.kp.turns hk, hc _ _ _ (by decide) (by decide) h.box⟩⟩
  obtain ⟨cs', t', e1, -⟩ := hA k e
  rw [hko] at e1
  cases e1
  cases ho
theorem keepsP_put (W : World) (l : Nat) (o o' : Obj) (h : W.heap[l]? = some o) (hc : o.isCells = false) : KeepsP W (W.putObj l o') := fun b t cs ht hw => ((grownBy_putObj' W l o').block b hw.lt fun e => by
  have e := Option.some.inj e
  subst e
  unfold Whole at hw
  rw [hw] at h
  cases h
  cases hc).trans hw
set_option maxHeartbeats 4000000 in
set_option maxRecDepth 100000 in
theorem choice_all (E : Env) (M : Md E) (fin : Fv) : ChoiceC E M fin := by
  intro w s G ba bw x K A c vs i hI h1 h2 hc1 hc2 hlen hx hR hrow hi hl
  obtain ⟨lv, mb, n, f, ev, bv, l, hm⟩ := hI.mem
  have hll := hm.turns.len
  rw [alt_call x K i s hx] at hl ⊢
  have hal : (altEnts x K i).length = vs.length := by rw [alt_ents x K i hx, List.length_map, hlen]
  simp only [List.length_append, hal] at hl
  have HT := Lib.hid (show TurnsR E (ghR w G) (l ++ vs.reverse.map fun v => (v, (i : Int))) (altEnts x K i ++ s.left) by rw [alt_ents x K i hx]; exact alt_turns hm.turns K i hi vs _ hlen hR)
  have HI := Lib.hid hI; have HM := Lib.hid hm
  have c1 := bx_cell h1; have c2 := bx_cell h2
  have HST := Lib.hid (rm_st hI hm)
  have hq := hm.om.lt
  have HQ := Lib.hid hq
  have hF := turns_fine (E := E) hm.om hm.words
  have HNB := Lib.hid (bx_not hF h1)
  obtain ⟨w1, hw1, b1, hb1, hs1⟩ := new_box w 3 (.int .i64 (i : Int))
  obtain ⟨w2, hw2, b2, hb2, hs2⟩ := new_box w1 158 (.slice A vs.length c)
  have hb12 := below_two hb1 hb2
  have HP := Lib.hid (show PRow w2 (w.heap.size + 1) A c vs from ⟨by rw [← hs1]; exact b2, hrow.imp id fun ⟨ab, cur, e, hw, hcc⟩ => ⟨ab, cur, e, hw.1.below hb12 hw.1.lt, hcc⟩⟩)
  have HI0 := Lib.hid (show PkI E w ⟨ptrV E.ib, E.fv, .map (some mb), G.N.length, ev, bv⟩ l i [] w2 from ⟨by simpa using (rm_st hI hm).over hb12, Kp.of_below hb12, b1.below hb2 b1.lt⟩)
  have HB12 := Lib.hid hb12
  have hsz2 : w2.heap.size = w.heap.size + 2 := by omega
  have HS2 := Lib.hid hsz2
  have HL := Lib.hid (show l.length + vs.length ≤ 4000000000000 by omega)
  have d2 : w1.cell? ⟨ba, 0, none⟩ = some (.slice A vs.length c) := be_cell hb1 c2
  obtain ⟨N, hN⟩ : ∃ N, vs.length = N := ⟨_, rfl⟩
  have HN := Lib.hid hN
  have HW1 := Lib.hid hw1
  rw [hN] at hw2 d2
  have HW2 := Lib.hid hw2
  clear hI hm h1 h2 hc1 hc2 hlen hx hR hrow hi hl hll hal hq hF b1 b2 hb1 hb2 hs2 hb12 hsz2 hN c2 hw1 hw2
  refine (callsIn_wide (n := 8)).1 ?_
  refine callsIn_of_wp_marks Try.func126 rfl trivial ?_ rfl
  simp only [Try.ntmps126, List.size_toArray, List.length_cons, List.length_nil, Nat.reduceAdd, Nat.reduceSub, Array.replicate_succ, Array.replicate_zero, List.push_toArray, List.append_toArray, List.nil_append, List.cons_append]
  gi_upto_region 1 with (fail)
  rw [HW1.out]
  gi_wp2_with (refine ⟨trivial, ?_⟩; gi_at_call 127; refine (callsIn_wide.2 (back_any A N c _)).mono ?_; rintro e W1 ⟨rfl, rfl⟩)
  rw [HW2.out]
  have hw21 : w.heap.size + 1 = w1.heap.size := hs1.symm
  refine wpIn_rangeFunc_ownG rfl (by decide) (gf := 145) (lb := #[.pointer (some ⟨w.heap.size + 1, 0, none⟩)]) rfl trivial (enters_of Try.func145 (by kernel_rfl) rfl)
    (back_stops 7 (w.heap.size + 1) (by decide) A c vs (by have := HL.out; omega) w2 HP.out) KeepsP.trans
    (fun W l ob ob' _ h1 h2 _ => keepsP_put W l ob ob' h1 h2) (Below.refl _ _) (fun _ => rfl)
    (fun pre W => PkI E w ⟨ptrV E.ib, E.fv, .map (some mb), G.N.length, ev, bv⟩ l i pre W)
    (fun _ _ _ => False)
    (pk_own E w _ l i _ (by have := HS2.out; omega))
    (fun _ _ _ _ _ hs _ _ => hs)
    HI0.out
    (fun x => { tmps := #[.int .i64 (i : Int), ptrV ba, ptrV bw, .pointer (some ⟨w.heap.size, 0, none⟩), undef, x.2.v, .slice A N c, .func (.func 145) #[] #[.pointer (some ⟨w.heap.size + 1, 0, none⟩)], .int .i64 (x.1 : Int), x.2.v, undef, undef, undef, undef], defers := [] }) ?assign ?body ?done ?stop
  case assign =>
    intro l x W K hK
    obtain ⟨xm, xg, xf, xc⟩ := x
    rw [show Tel.vals (xm, ⟨xg, xf, xc⟩) = #[.int .i64 (xm : Int), (⟨xg, xf, xc⟩ : Fv).v] from rfl, zip_two]
    simp only [List.setIfInBounds_toArray, List.set_cons_zero, List.set_cons_succ]
    gi_wp2
    exact hK
  case body =>
    rintro l2 pre ⟨xm, xg, xf, xc⟩ W hP hlt
    have HPK := Lib.hid hP
    have d1 : W.cell? ⟨bw, 0, none⟩ = some (ptrV E.q) := kp_cell hP.kp c1 HNB.out
    have d3 : W.cell? ⟨w.heap.size, 0, none⟩ = some (.int .i64 (i : Int)) := (hP.box.cell 0).trans rfl
    have HON := Lib.hid (st_on hP.st (by have := HL.out; simp only [List.length_append, List.length_map]; omega) ⟨xg, xf, xc⟩ i)
    clear hP c1
    dsimp only
    gi_wp2_with (refine ⟨trivial, ?_⟩; refine (CallsIn.inRound l2 (callsIn_wide.2 HON.out)).mono ?_; rintro e W1 ⟨rfl, hst, hk⟩)
    exact pk_step HPK.out HQ.out hst hk _
  case done =>
    rintro D xs W hD hS hP hK
    have hP2 := (pk_own E w ⟨ptrV E.ib, E.fv, .map (some mb), G.N.length, ev, bv⟩ l i w2.heap.size (by have := HS2.out; omega)).putObj (.deferred none) hP hD hK rfl
    have hfin : RInv E M fin (W.putObj D (.deferred none)) { s with left := altEnts x K i ++ s.left } G := by
      refine rinv_turns HI.out HM.out hP2.kp hP2.st ?_
      have e : (xs.map fun y => (y.2, (i : Int))) = vs.reverse.map fun v => (v, (i : Int)) := by rw [← hS, List.map_map]; rfl
      rw [e]
      exact HT.out
    have HF := Lib.hid hfin; have HK := Lib.hid hK
    clear hfin hP2 hP hS
    refine ⟨by simp, .inl ⟨_, _, rfl, run_takeDeferred HK.out, ?_⟩⟩
    exact ⟨_, results_none rfl _ _ _, rfl, G, HF.out⟩
  case stop =>
    rintro D c pre W _ _ h _
    exact h.elim
end Go.Proofs.Ytnemacejaiifnaa
/- All ways from a place are gone, till nothing is left of them. No condition. -/
namespace Go.Proofs.Ytnemacejaiifnaa
open Go Go.RowKit

theorem least_ex (P : Nat → Prop) : ∀ n, P n → ∃ m, P m ∧ ∀ k, P k → m ≤ k := by
  suffices h : ∀ n, ∀ m, m ≤ n → P m → ∃ m, P m ∧ ∀ k, P k → m ≤ k from fun n hn => h n n (Nat.le_refl _) hn
  intro n
  induction n with
  | zero => intro m hm h; exact ⟨m, h, fun k _ => by omega⟩
  | succ n ih =>
    intro m hm h
    by_cases e : ∃ k, k ≤ n ∧ P k
    · obtain ⟨k, h1, h2⟩ := e
      exact ih k h1 h2
    · refine ⟨m, h, fun k hk => ?_⟩
      by_cases hkn : k ≤ n
      · exact absurd ⟨k, hkn, hk⟩ e
      · omega
noncomputable def least (P : Nat → Prop) : Nat := Classical.epsilon fun m => P m ∧ ∀ k, P k → m ≤ k
theorem least_is {P : Nat → Prop} {n : Nat} (h : P n) : P (least P) ∧ ∀ k, P k → least P ≤ k := Classical.epsilon_spec (p := fun m => P m ∧ ∀ k, P k → m ≤ k) (least_ex P n h)
theorem turns_last {E : Env} {g : Gh} {l : List Tn} {e : Ent} {es : List Ent} (h : TurnsR E g l (e :: es)) : ∃ l0 t, l = l0 ++ [t] ∧ TurnsR E g l0 es ∧ TurnR E g t e := by
  cases h with
  | snoc h1 h2 => exact ⟨_, _, rfl, h1, h2⟩
theorem turns_none {E : Env} {g : Gh} {l : List Tn} (h : TurnsR E g l []) : l = [] := by
  cases h with
  | nil => rfl
/-- The last turn is taken from the stack. -/
theorem rinv_pop {E : Env} {M : Md E} {fin : Fv} {w W : World} {s : Am} {G : Gt} {A : Option Addr} {c mb n : Nat} {f : Nat → Nat → Nat} {ev bv : Value} {l : List Tn} {t : Tn} {e : Ent} {es : List Ent} (h : RInv E M fin w s G) (hm : RM E M w s G (.slice A (l ++ [t]).length c) mb n f ev bv (l ++ [t])) (hs : s.left = e :: es) (hW : Below w.heap.size w W) (ht : TurnsR E (ghR w G) l es) :
    RInv E M fin (W.setCell ⟨E.q, 2, none⟩ (.slice A l.length c)) { s with left := es } G ∧ KpZ G w (W.setCell ⟨E.q, 2, none⟩ (.slice A l.length c)) := by
  obtain ⟨W2, hW2⟩ : ∃ W2, W.setCell ⟨E.q, 2, none⟩ (.slice A l.length c) = W2 := ⟨_, rfl⟩
  have hg : W.grownBy W2 (some E.q) := by rw [← hW2]; exact grown_set _ _ _ _
  have hO := hm.om.below hW hm.om.lt
  have hO2 : Om W2 E.q (ptrV E.ib) E.fv (.slice A l.length c) (.map (some mb)) (G.N.length : Int) ev bv := by
    have := Whole.store hO 2 (.slice A l.length c)
    rw [hW2] at this
    exact this
  rw [hW2]
  have hK : Kp (TurnsAt w E.q E.w0.heap.size) w W2 := (Kp.of_below hW).trans ⟨hg.os, hg.tape, hg.output, hg.size, fun k hk hn => hg.block k hk fun e => hn (.inl (Option.some.inj e))⟩
  refine ⟨?_, fine_kpz (turns_fine hm.om hm.words) hK⟩
  refine rinv_turns h hm hK ⟨_, hO2, ?_, Nat.le_trans (Nat.le_trans h.rd.below.size hW.size) hg.size⟩ ht
  have h1 : OwnTn W E.w0.heap.size (.slice A (l ++ [t]).length c) (l ++ [t]) := OwnTn.below hm.own hW
  refine World.ownsRow.kept (OwnTn.take h1) hg ?_
  rcases (OwnTn.take h1).2 with ⟨e, -⟩ | ⟨g, cap, cur, e, -, hh, -⟩
  · rw [e]; exact .inl rfl
  · right
    rw [e]
    intro e2
    have e3 := Option.some.inj (show some g = some E.q from e2)
    subst e3
    unfold Om Whole at hO
    rw [hh] at hO
    injection hO with hO
    injection hO with _ hO
    exact absurd hO (by decide)
/-- The turn that was taken is done. -/
theorem step_call {E : Env} {M : Md E} {fin : Fv} (hIn : InE E) {W : World} {s : Am} {G : Gt} {e : Ent} {es : List Ent} {t : Tn} (hFin : ∀ i, e = .go [] i → FinC E M fin) (hs : s.left = e :: es) (hI : RInv E M fin W { s with left := es } G) (ht : TurnR E (ghR W G) t e) (hb : (step s).left.length ≤ 4000000000000) : CallsV t.1 t.2 W (After E M fin (step s)) := by
  unfold step at hb ⊢
  rw [hs] at hb ⊢
  cases ht with
  | go h1 h2 => exact call_all E M fin hIn (choice_all E M fin) _ (fun e => hFin _ (by rw [e])) W _ G _ _ hI h1 h2 hb
  | put h1 h2 h3 => exact ⟨_, rfl, enters_of Try.func143 (by kernel_rfl) rfl, cl_put E M fin W _ G hI h1 h2 h3 _⟩
theorem runs_bound {B n : Nat} {s s' : Am} (h : Runs B n s s') (he : s'.left = []) : s.left.length ≤ B := by
  cases h with
  | zero => rw [he]; simp
  | succ _ h _ => exact h
/-- How many steps are left. -/
def LeftP (E : Env) (M : Md E) (fin : Fv) (s1 : Am) (w : World) (m : Nat) : Prop := ∃ s G B, RInv E M fin w s G ∧ B ≤ 4000000000000 ∧ Runs B m s s1
set_option maxHeartbeats 4000000 in
theorem goFrom_any (E : Env) (M : Md E) (fin : Fv) (hIn : InE E) (hFin : FinC E M fin) (w : World) (s : Am) (G : Gt) (v : Fv) (K : Ks) (i n B : Nat) (s1 : Am) (hI : RInv E M fin w s G) (hs : s.left = []) (hR : Rp (fun v k => (v, k) ∈ G.T) v K) (hi : i ≤ E.R.length) (hB : B ≤ 4000000000000)
    (hr : Runs B n { s with fit := s.fit.set 0 (i : Int), left := [.go K i] } s1) (h1 : s1.left = []) :
    Calls Try.prog 38 #[ptrV E.q, .int .i64 (i : Int), v.v] w (After E M fin s1) := by
  obtain ⟨lv, mb, nw, f, ev, bv, l, hm⟩ := hI.mem
  obtain ⟨G2, hG2⟩ : ∃ G2, 2 * (E.G + 1) = G2 := ⟨_, rfl⟩
  have f1 : w.cell? ⟨E.q, 1, none⟩ = some (.slice (some ⟨E.fb, 0, none⟩) G2 G2) := fv_cell (rm_st hI hm) hG2
  obtain ⟨x, hx⟩ : ∃ x, w.cell? ⟨E.fb, 0, none⟩ = some x := ⟨_, (hI.fit.1.cell 0).trans (Array.getElem?_eq_getElem (by simp [fitC, hI.fit.2]))⟩
  have hf := hI.fit.1.free 0
  have hg2 : 0 < G2 := by omega
  have hI0 := rinv_fit hI 0 (i : Int)
  have HPU := Lib.hid (cl_push (s := { s with fit := s.fit.set 0 (i : Int) }) hI0 hR i hi (by show s.left.length + 1 ≤ _; rw [hs]; simp))
  have HPS := Lib.hid (show Am.push { s with fit := s.fit.set 0 (i : Int) } (.go K i) = { s with fit := s.fit.set 0 (i : Int), left := [.go K i] } by unfold Am.push; rw [hs])
  have HR := Lib.hid hr; have HB := Lib.hid hB; have H1 := Lib.hid h1; have HIN := Lib.hid hIn; have HFIN := Lib.hid hFin
  clear hI hs hR hi hr h1 hm hI0 hG2 hIn hFin hB
  obtain ⟨vg, vf, vc⟩ := v
  go_enter Try.func38, Try.ntmps38
  go_wp2_with fail
  refine HPU.out.mono ?_
  rintro e w1 ⟨rfl, G1, hI1⟩
  rw [HPS.out] at hI1
  have HI1 := Lib.hid (show LeftP E M fin s1 w1 n from ⟨_, _, _, hI1, HB.out, HR.out⟩)
  clear hI1 f1 hx hf hg2 HPU
  go_wp2_with fail
  go_loopw [6] (fun _ wr => ∃ m, LeftP E M fin s1 wr m) (fun _ wr => least (LeftP E M fin s1 wr))
  case atStart => exact ⟨n, HI1.out⟩
  case round =>
    obtain ⟨m, hm⟩ := hrel
    obtain ⟨hl1, hl2⟩ := least_is hm
    obtain ⟨M0, hM0⟩ : ∃ M0, least (LeftP E M fin s1 wr) = M0 := ⟨_, rfl⟩
    have HM0 := Lib.hid hM0
    rw [hM0] at hl1
    clear hl2 hm hM0
    obtain ⟨s2, G2, B2, hI2, hB2, hr2⟩ := hl1
    obtain ⟨lv, mb, nw, f, ev, bv, l, hm2⟩ := hI2.mem
    have c2 : wr.cell? ⟨E.q, 2, none⟩ = some lv := (om_ten hm2.om).2.2.1
    cases hr2 with
    | zero =>
      have hl0 : l = [] := turns_none (by have := hm2.turns; rw [H1.out] at this; exact this)
      subst hl0
      obtain ⟨A, c, rfl⟩ : ∃ A c, lv = .slice A 0 c := by
        rcases own_slice_t hm2.own with ⟨e, -⟩ | ⟨g, c, e, -⟩
        · exact ⟨_, _, e⟩
        · exact ⟨_, _, e⟩
      have HI2 := Lib.hid hI2
      clear hI2 hm2
      go_wp2_with fail
      go_end0
      exact ⟨rfl, G2, HI2.out⟩
    | @succ m' _ _ hne hle hr3 =>
      obtain ⟨e, es, hse⟩ : ∃ e es, s2.left = e :: es := by
        cases h : s2.left with
        | nil => exact absurd h hne
        | cons e es => exact ⟨e, es, rfl⟩
      obtain ⟨l0, t, rfl, ht0, ht⟩ := turns_last (by have := hm2.turns; rw [hse] at this; exact this)
      have hlen := hm2.turns.len
      obtain ⟨k, hk⟩ : ∃ k, l0.length = k := ⟨_, rfl⟩
      have hk1 : (l0 ++ [t]).length = k + 1 := by simp [hk]
      have hkB : k + 1 ≤ 4000000000000 := by omega
      rcases hm2.own.2 with ⟨-, h0⟩ | ⟨g, c, cur, hlv, -, hcur, hnc, hmc, -, htk⟩
      · rw [hk1] at h0; omega
      rw [hk1] at hlv hnc htk
      subst hlv
      obtain ⟨⟨tg, tf, tc⟩, ti⟩ := t
      have hget : ∀ j, j < (k + 1) * 2 → wr.cell? ⟨g, j, none⟩ = (cellsT (l0 ++ [(⟨tg, tf, tc⟩, ti)]))[j]? := fun j hj => by
        rw [cell_of_row wr g j cur _ (0, 0) hcur, ← htk, List.getElem?_take_of_lt hj, Array.getElem?_toList]
      have hat := cellsT_at (l0 ++ [(⟨tg, tf, tc⟩, ti)]) k (by omega)
      have hlast : (l0 ++ [((⟨tg, tf, tc⟩ : Fv), ti)])[k]'(by omega) = (⟨tg, tf, tc⟩, ti) := by
        subst hk
        simp
      rw [hlast] at hat
      have d0 : wr.cell? ⟨g, k * 2, none⟩ = some (.func tg tf tc) := (hget _ (by omega)).trans hat.1
      have d1 : wr.cell? ⟨g, k * 2 + 1, none⟩ = some (.int .i64 ti) := (hget _ (by omega)).trans hat.2
      have hfr := hm2.om.free 2
      have e1 : wrap64 (k : Int) = (k : Int) := IntWalk.wrap64_in _ ⟨by omega, by omega⟩
      have HNC := Lib.hid hnc; have HMC := Lib.hid hmc
      have HI2 := Lib.hid hI2; have HM2 := Lib.hid hm2; have HSE := Lib.hid hse; have HT0 := Lib.hid ht0; have HT := Lib.hid ht; have HR3 := Lib.hid hr3; have HB2 := Lib.hid hB2; have HK := Lib.hid hk; have HK1 := Lib.hid hk1
      clear hI2 hm2 hse ht0 ht hr3 hB2 hk hk1 hat hlast hget hcur htk hlen hle hne hkB hmc
      obtain ⟨W, hW⟩ : ∃ W, wr.alloc (.cells #[.func tg tf tc, .int .i64 ti] 119) = W := ⟨_, rfl⟩
      have hbW : Below wr.heap.size wr W := by rw [← hW]; exact (Below.refl _ _).alloc (Nat.le_refl _) _
      have bW : Whole W wr.heap.size 119 #[.func tg tf tc, .int .i64 ti] := by rw [← hW]; exact heap_alloc_new wr _
      have k2 : W.cell? ⟨E.q, 2, none⟩ = some (.slice (some ⟨g, 0, none⟩) (k + 1) c) := be_cell hbW c2
      have kf : W.frozen? ⟨E.q, 2, none⟩ = false := (HM2.out.om.below hbW HM2.out.om.lt).free 2
      have HBW := Lib.hid hbW; have BW := Lib.hid bW; have HW := Lib.hid hW
      clear hbW bW hW
      go_upto_region 5 with (fail)
      rw [HW.out]
      clear c2 hfr d0 d1
      go_upto_region 6 with (fail)
      have hpop := rinv_pop (A := some ⟨g, 0, none⟩) (c := c) (t := (⟨tg, tf, tc⟩, ti)) HI2.out (by rw [HK1.out]; exact HM2.out) HSE.out HBW.out HT0.out
      rw [HK.out] at hpop
      have hne : wr.heap.size ≠ E.q := by have := HM2.out.om.lt; omega
      have b3 := BW.out.far hne 2 (.slice (some ⟨g, 0, none⟩) k c)
      obtain ⟨W3, hW3⟩ : ∃ W3, W.setCell ⟨E.q, 2, none⟩ (.slice (some ⟨g, 0, none⟩) k c) = W3 := ⟨_, rfl⟩
      rw [hW3] at hpop b3 ⊢
      obtain ⟨hI3, hz3⟩ := hpop
      have hbd := runs_bound HR3.out H1.out
      obtain ⟨g', hg', eg', hcall⟩ := step_call HIN.out (fun _ _ => HFIN.out) HSE.out hI3 (HT.out.mono (ghR_move hz3)) (by have := HB2.out; omega)
      obtain rfl : tg = .func g' := hg'
      have x0 : W3.cell? ⟨wr.heap.size, 0, none⟩ = some (.func (.func g') tf tc) := (b3.cell 0).trans rfl
      have x1 : W3.cell? ⟨wr.heap.size, 1, none⟩ = some (.int .i64 ti) := (b3.cell 1).trans rfl
      have HC := Lib.hid hcall
      clear hI3 hz3 hbd hcall b3 hne hW3 k2 kf hnc
      go_wp2_with fail
      refine HC.out.mono ?_
      rintro e' w4 ⟨rfl, G3, hI4⟩
      have HL4 := Lib.hid (show LeftP E M fin s1 w4 m' from ⟨_, G3, B2, hI4, HB2.out, HR3.out⟩)
      clear hI4 x0 x1
      go_wp2_with fail
      go_roundw
      case rel => exact ⟨m', HL4.out⟩
      case measure =>
        rw [HM0.out]
        exact Nat.lt_succ_of_le ((least_is HL4.out).2 _ HL4.out)
end Go.Proofs.Ytnemacejaiifnaa
/- An end is kept behind those that are kept: the fit is copied. No condition. -/
namespace Go.Proofs.Ytnemacejaiifnaa
open Go Go.RowKit

def cellsI (k : List Int) : List Value := k.map fun x => .int .i64 x
/-- The value v owns a row of numbers, among the blocks from B on. -/
def OwnI (w : World) (B : Nat) (v : Value) (k : List Int) : Prop := w.ownsRow B 3 1 v k.length (cellsI k)
theorem info_int11 : (Try.prog.info? 3).map (fun i => (i.zero, i.size, i.bytes)) = some (some (.int .i64 0), 1, 8) := by kernel_rfl
/-- An append of numbers onto a row of the call's own. -/
theorem append_ints {w : World} {ops : Array Oper} {rest : List Oper} {o : Oper} {a : Act} {Q : Exit → Act → World → Prop} (hgd : o.guard = none) (x y : Operand)
    (ho : o.op = .call { callee := .builtin .append, args := #[x, y], argTypes := #[38, 38] })
    (base : Nat) (v : Value) (O : List Int) (hs : a.eval x = v) (hown : OwnI w base v O)
    (b m c : Nat) (K : List Int) (hx : a.eval y = .slice (some ⟨b, 0, none⟩) m c) (hm : K.length = m) (hc : ∀ (j : Nat) (h : j < K.length), w.cell? ⟨b, j, none⟩ = some (.int .i64 K[j])) (hn : O.length + K.length ≤ 4398046511104) (hbase : base ≤ w.heap.size)
    (h : ∀ v' w', OwnI w' base v' (O ++ K) → w.grownBy w' v.ownBlock → wpList Try.prog ops Q rest (a.put o.dst v') w') : wpList Try.prog ops Q (o :: rest) a w := by
  obtain ⟨i, hi, hz, hsize, hby⟩ := info_parts info_int11
  refine wpList_append_own w hgd x y 38 ho base 3 i (.int .i64 0) 1 8 Try.underlying38 hi hz hsize hby rfl (by omega) v O.length (cellsI O) hs hown ⟨b, 0, none⟩ m c (cellsI K) hx (by simp [cellsI, hm]) ?_ (fun u hu => by obtain ⟨q, -, rfl⟩ := List.mem_map.1 hu; rfl) (by unfold maxLen; omega) (by omega) hbase (fun v' w' g1 g2 _ => h v' w' ?_ g2)
  · intro j u hu
    have hadd : (⟨b, 0, none⟩ : Addr).add j = ⟨b, j, none⟩ := by unfold Addr.add; split <;> simp_all
    rw [hadd]
    unfold cellsI at hu
    rw [List.getElem?_map] at hu
    cases hk : K[j]? with
    | none => rw [hk] at hu; cases hu
    | some q =>
      rw [hk] at hu
      obtain ⟨hj, rfl⟩ := List.getElem?_eq_some_iff.1 hk
      rw [← Option.some.inj hu]
      exact hc j hj
  · unfold OwnI cellsI
    rw [List.map_append, List.length_append, hm]
    exact g1
set_option maxHeartbeats 1600000 in
set_option maxRecDepth 100000 in
theorem clone_ints (b n : Nat) (k : List Int) (w : World) (hn : k.length = n) (hw : Whole w b 3 (fitC k)) (hlen : n ≤ 4398046511104) : Calls Try.prog 86 #[.slice (some ⟨b, 0, none⟩) n n] w fun e w' => ∃ v, e = .returned v ∧ OwnI w' w.heap.size v k ∧ Below w.heap.size w w' := by
  have he : ∀ w : World, (binOp .eql 38 (.slice (some ⟨b, 0, none⟩) n n) (.slice none 0 0)).run Try.prog w = .ok (.bool false) w := fun _ => rfl
  have HO1 := Lib.hid (show OwnI (w.alloc (.cells #[] 3)) w.heap.size (.slice (some ⟨w.heap.size, 0, none⟩) 0 0) [] from World.ownsRow_lit w #[] 0 (Nat.le_refl _) (Nat.zero_le _) rfl)
  have hb1 : Below w.heap.size w (w.alloc (.cells #[] 3)) := (Below.refl _ _).alloc (Nat.le_refl _) _
  have HC := Lib.hid (show ∀ (j : Nat) (h : j < k.length), (w.alloc (.cells #[] 3)).cell? ⟨b, j, none⟩ = some (.int .i64 k[j]) from fun j h => be_cell hb1 ((hw.cell j).trans (by simp [fitC, h])))
  have HB1 := Lib.hid hb1; have HN := Lib.hid hn
  clear hb1 hw hn
  go_enter Try.func86, Try.ntmps86
  go_wp2_with (at_builtin; refine append_ints rfl (.tmp 5) (.tmp 6) rfl w.heap.size _ [] rfl HO1.out b n n k rfl HN.out HC.out (by have := HN.out; simp; omega) (by simp) ?_; intro v2 w2 ho2 hg2; have HO2 := Lib.hid ho2; have HG2 := Lib.hid hg2; clear ho2 hg2)
  go_ret
  exact ⟨v2, rfl, HO2.out, HB1.out.grown HG2.out HB1.out.size (fun j e => by cases e; exact Nat.le_refl _)⟩
theorem info_row11 : (Try.prog.info? 38).map (fun i => (i.zero, i.size, i.bytes)) = some (some (.slice none 0 0), 1, 24) := by kernel_rfl
/-- An append of a row onto a row of rows of the call's own. -/
theorem append_row {w : World} {ops : Array Oper} {rest : List Oper} {o : Oper} {a : Act} {Q : Exit → Act → World → Prop} (hgd : o.guard = none) (x y : Operand)
    (ho : o.op = .call { callee := .builtin .append, args := #[x, y], argTypes := #[36, 36] })
    (base : Nat) (v : Value) (O : List Value) (hs : a.eval x = v) (hown : w.ownsRow base 38 1 v O.length O)
    (b : Nat) (r : Value) (h1 : r.oneCell' = true) (hx : a.eval y = .slice (some ⟨b, 0, none⟩) 1 1) (h0 : w.cell? ⟨b, 0, none⟩ = some r) (hn : O.length + 1 ≤ 4398046511104) (hbase : base ≤ w.heap.size)
    (h : ∀ v' w', w'.ownsRow base 38 1 v' (O ++ [r]).length (O ++ [r]) → w.grownBy w' v.ownBlock → wpList Try.prog ops Q rest (a.put o.dst v') w') : wpList Try.prog ops Q (o :: rest) a w := by
  obtain ⟨i, hi, hz, hsize, hby⟩ := info_parts info_row11
  refine wpList_append_own w hgd x y 36 ho base 38 i (.slice none 0 0) 1 24 Try.underlying36 hi hz hsize hby rfl (by omega) v O.length O hs hown ⟨b, 0, none⟩ 1 1 [r] hx rfl ?_ (fun u hu => by rw [List.mem_singleton.1 hu]; exact h1) (by unfold maxLen; omega) (by omega) hbase (fun v' w' g1 g2 _ => h v' w' ?_ g2)
  · intro j u hu
    have hadd : (⟨b, 0, none⟩ : Addr).add j = ⟨b, j, none⟩ := by unfold Addr.add; split <;> simp_all
    rw [hadd]
    match j, hu with
    | 0, hu => simpa using h0.trans (by simpa using hu)
    | j + 1, hu => simp at hu
  · rw [List.length_append]
    exact g1
/-- A row of numbers, one of them written. -/
theorem own_set_i {w : World} {base g n c : Nat} {k : List Int} (h : OwnI w base (.slice (some ⟨g, 0, none⟩) n c) k) (j : Nat) (hj : j < k.length) (u : Int) : (∃ u0, w.cell? ⟨g, j, none⟩ = some u0) ∧ w.frozen? ⟨g, j, none⟩ = false ∧ base ≤ g ∧ OwnI (w.setCell ⟨g, j, none⟩ (.int .i64 u)) base (.slice (some ⟨g, 0, none⟩) n c) (k.set j u) := by
  rcases h.2 with ⟨e, -⟩ | ⟨q, cap, cur, e, hb, hh, hn, hm, hs, ht⟩
  · cases e
  injection e with e1 e2 e3
  injection e1 with e1
  injection e1 with e1
  subst e1 e2 e3
  have hw : Whole w g 3 cur := hh
  have hjc : j < cur.size := by omega
  refine ⟨⟨_, (hw.cell j).trans (Array.getElem?_eq_getElem hjc)⟩, hw.free j, hb, ?_⟩
  refine ⟨by simp [cellsI], .inr ⟨g, c, cur.setIfInBounds j (.int .i64 u), by simp, hb, hw.store j _, by simpa using hn, hm, by simpa using hs, ?_⟩⟩
  have e : cellsI (k.set j u) = (cellsI k).set j (.int .i64 u) := by unfold cellsI; rw [List.map_set]
  rw [e, ← ht]
  simp [List.take_set]
theorem own_num_ne {w : World} {base q : Nat} {v : Value} {k : List Int} {t : TypeId} {cs : Array Value} (h : OwnI w base v k) (hq : Whole w q t cs) (ht : t ≠ 3) : v.ownBlock ≠ some q := down_ne h hq (fun e => ht e.symm)
set_option maxHeartbeats 3200000 in
set_option maxRecDepth 100000 in
theorem add_any (q fb G2 : Nat) (k : List Int) (vs : List Value) (inp lv mv : Value) (p : Int) (ev bv : Value) (w : World) (hO : Om w q inp (.slice (some ⟨fb, 0, none⟩) G2 G2) lv mv p ev bv) (hk : k.length = G2) (hfit : Whole w fb 3 (fitC k)) (hG : 2 ≤ G2) (hG2 : G2 ≤ 4398046511104)
    (hown : w.ownsRow (fb + 1) 38 1 ev vs.length vs) (hvs : vs.length + 1 ≤ 4398046511104) (i : Int) :
    Calls Try.prog 41 #[ptrV q, .int .i64 i] w fun e w' => e = .returned noResult ∧ ∃ ev' v, OwnI w' (fb + 1) v (k.set 1 i) ∧ Om w' q inp (.slice (some ⟨fb, 0, none⟩) G2 G2) lv mv p ev' bv ∧ w'.ownsRow (fb + 1) 38 1 ev' (vs ++ [v]).length (vs ++ [v]) ∧ Kp (fun b => b = q ∨ ev.ownBlock = some b) w w' := by
  have HCL := Lib.hid (clone_ints fb G2 k w hk hfit hG2)
  have c1 : w.cell? ⟨q, 1, none⟩ = some (.slice (some ⟨fb, 0, none⟩) G2 G2) := (om_ten hO).2.1
  have HO := Lib.hid hO; have HOW := Lib.hid hown; have HK := Lib.hid hk; have HF := Lib.hid hfit; have HVS := Lib.hid hvs; have HGG := Lib.hid hG
  clear hO hown hk hfit hvs hG hG2
  go_enter Try.func41, Try.ntmps41
  go_wp2_with fail
  refine HCL.out.mono ?_
  rintro e w1 ⟨v, rfl, hv, hb1⟩
  obtain ⟨g, c, rfl, hgc, hcm, hg⟩ : ∃ g c, v = .slice (some ⟨g, 0, none⟩) G2 c ∧ G2 ≤ c ∧ c ≤ maxLen ∧ w.heap.size ≤ g := by
    have h1 := own_slice_t hv
    rw [HK.out] at h1
    rcases h1 with ⟨-, h2⟩ | h1
    · have := HGG.out; omega
    · exact h1
  obtain ⟨⟨u0, hu0⟩, hfr, -, hv2⟩ := own_set_i hv 1 (by rw [HK.out]; exact HGG.out) i
  obtain ⟨w2, hw2⟩ : ∃ w2, w1.setCell ⟨g, 1, none⟩ (.int .i64 i) = w2 := ⟨_, rfl⟩
  have hb2 : Below w.heap.size w w2 := by rw [← hw2]; exact hb1.setCell (p := ⟨g, 1, none⟩) hg _
  rw [hw2] at hv2
  have hv3 : OwnI w2 (fb + 1) (.slice (some ⟨g, 0, none⟩) G2 c) (k.set 1 i) := by
    refine ⟨hv2.1, hv2.2.imp id ?_⟩
    rintro ⟨q', cap', cur', a1, a2, a3⟩
    exact ⟨q', cap', cur', a1, by have := HF.out.lt; omega, a3⟩
  have k1 : w2.cell? ⟨q, 5, none⟩ = some ev := be_cell hb2 (om_ten HO.out).2.2.2.2.2.1
  have hgG : (1 : Int) < (G2 : Nat) := by have := HGG.out; omega
  have HW2 := Lib.hid hw2; have HB2 := Lib.hid hb2; have HV3 := Lib.hid hv3
  clear hv hb1 hgc hcm hg hv2 hw2 hb2 hv3 c1 HCL
  go_upto_region 2 with (fail)
  rw [HW2.out]
  clear hu0 hfr
  have hne := down_ne HOW.out HO.out (by decide)
  have HNE := Lib.hid hne
  obtain ⟨w3, hw3, b3, hb3, hs3⟩ := new_box w2 38 (.slice (some ⟨g, 0, none⟩) G2 c)
  have hb23 : Below w.heap.size w w3 := HB2.out.trans (hb3.mono HB2.out.size)
  have HB23 := Lib.hid hb23; have HB3 := Lib.hid b3; have HBB3 := Lib.hid hb3; have HW3 := Lib.hid hw3
  have hb : fb + 1 ≤ w.heap.size := HF.out.lt
  have HBF := Lib.hid hb
  have HOW3 := Lib.hid (show w3.ownsRow (fb + 1) 38 1 ev vs.length vs from World.ownsRow.kept HOW.out (row := none) ⟨hb23.os, hb23.tape, hb23.output, hb23.size, fun k hk _ => hb23.block k hk⟩ (by cases ev.ownBlock <;> simp))
  have HV4 := Lib.hid (show OwnI w3 (fb + 1) (.slice (some ⟨g, 0, none⟩) G2 c) (k.set 1 i) from World.ownsRow.kept HV3.out (row := none) ⟨hb3.os, hb3.tape, hb3.output, hb3.size, fun k hk _ => hb3.block k hk⟩ (by simp [Value.ownBlock]))
  have hvr : (Value.slice (some ⟨g, 0, none⟩) G2 c).ownBlock = none ∨ (Value.slice (some ⟨g, 0, none⟩) G2 c).ownBlock ≠ ev.ownBlock := by
    right
    rcases HOW3.out.2 with ⟨rfl, -⟩ | ⟨r, cap, cur, rfl, -, hh, -⟩
    · simp [Value.ownBlock]
    · exact down_ne HV4.out (show Whole w3 r 38 cur from hh) (by decide)
  have HVR := Lib.hid hvr
  clear hvr
  have HOL := Lib.hid (own_slice_t HOW.out)
  rcases HOL.out with ⟨rfl, -⟩ | ⟨r, cap, rfl, -⟩
  all_goals
    clear hne hw3 b3 hb3 hs3 hb23 hb
    go_wp2_with (at_builtin; refine append_row rfl (.tmp 17) (.tmp 19) rfl (fb + 1) _ vs rfl ?a1 w2.heap.size (.slice (some ⟨g, 0, none⟩) G2 c) rfl rfl ?a3 HVS.out ?a4 ?_)
    case a1 => rw [HW3.out]; exact HOW3.out
    case a4 => have := HBF.out; have := HB2.out.size; simp; omega
    try (case a3 => rw [HW3.out]; exact (HB3.out.cell 0).trans rfl)
    rw [HW3.out]
    intro v' w' ho hg
    have hO' : Om w' q inp (.slice (some ⟨fb, 0, none⟩) G2 G2) lv mv p _ bv := (HO.out.below HB23.out HO.out.lt).grown hg HNE.out
    have h2f := hO'.free 5
    obtain ⟨u5, hu5⟩ : ∃ u, w'.cell? ⟨q, 5, none⟩ = some u := ⟨_, (om_ten hO').2.2.2.2.2.1⟩
    have HO2 := Lib.hid hO'; have HT := Lib.hid ho
    have HK2 := Lib.hid (show Kp (fun b => b = q ∨ _ = some b) w w' from (Kp.of_below HB23.out).trans ((Kp.of_grown hg).mono fun b _ e => .inr e.symm))
    have HNE2 := Lib.hid (down_ne ho hO' (by decide))
    have HG := Lib.hid hg
    clear k1 ho hg hO'
    obtain ⟨A, n, c', rfl⟩ : ∃ A n c', v' = .slice A n c' := by
      rcases own_slice_t HT.out with ⟨rfl, -⟩ | ⟨r, cap, rfl, -⟩ <;> exact ⟨_, _, _, rfl⟩
    go_wp2_with fail
    go_end0
    refine ⟨rfl, _, .slice (some ⟨g, 0, none⟩) G2 c, ?_, HO2.out.store 5 _, by rw [List.length_append]; exact World.ownsRow.kept HT.out (grown_set _ _ _ _) (.inr HNE2.out), kp_set HK2.out q 5 _ (.inl rfl)⟩
    have hv5 : OwnI w' (fb + 1) (.slice (some ⟨g, 0, none⟩) G2 c) (k.set 1 i) := World.ownsRow.kept HV4.out HG.out HVR.out
    exact World.ownsRow.kept hv5 (grown_set _ _ _ _) (.inr (own_num_ne hv5 HO2.out (by decide)))
end Go.Proofs.Ytnemacejaiifnaa
/- The end of all ways, where ends are listed: each place once. No condition. -/
namespace Go.Proofs.Ytnemacejaiifnaa
open Go Go.RowKit

theorem own_move {w w' : World} {base : Nat} {t : TypeId} {s n : Nat} {v : Value} {xs : List Value} (h : w.ownsRow base t s v n xs) (hk : ∀ b cs, base ≤ b → w.heap[b]? = some (.cells cs t (0, 0)) → w'.heap[b]? = some (.cells cs t (0, 0))) : w'.ownsRow base t s v n xs := by
  refine ⟨h.1, h.2.imp id ?_⟩
  rintro ⟨g, c, cur, a1, a2, a3, a4⟩
  exact ⟨g, c, cur, a1, a2, hk g cur a2 a3, a4⟩
theorem firsts_in : ∀ (P : List Nat) (L : List Out) (x : Out), x.1 ∈ P ++ L.map Prod.fst → firsts P (L ++ [x]) = firsts P L
  | P, [], x, h => by
    simp only [List.map_nil, List.append_nil] at h
    simp [firsts, h]
  | P, y :: L, x, h => by
    simp only [List.cons_append, firsts]
    split
    · rename_i hy
      exact firsts_in P L x (by simp only [List.map_cons, List.mem_append, List.mem_cons] at h ⊢; grind)
    · rw [firsts_in (y.1 :: P) L x (by simp only [List.map_cons, List.mem_append, List.mem_cons, List.cons_append] at h ⊢; grind)]
theorem firsts_out : ∀ (P : List Nat) (L : List Out) (x : Out), x.1 ∉ P ++ L.map Prod.fst → firsts P (L ++ [x]) = firsts P L ++ [x]
  | P, [], x, h => by
    simp only [List.map_nil, List.append_nil] at h
    simp [firsts, h]
  | P, y :: L, x, h => by
    simp only [List.cons_append, firsts]
    split
    · exact firsts_out P L x (by simp only [List.map_cons, List.mem_append, List.mem_cons] at h ⊢; grind)
    · rw [firsts_out (y.1 :: P) L x (by simp only [List.map_cons, List.mem_append, List.mem_cons, List.cons_append] at h ⊢; grind)]
      rfl
/-- The row of an end. -/
def rowOf (x : Out) : List Int := x.2.set 1 (x.1 : Int)
/-- The ends that are kept. -/
def EndsAt (E : Env) (w : World) (ev : Value) (L : List Out) : Prop := ∃ vs : List Value, w.ownsRow (E.fb + 1) 38 1 ev vs.length vs ∧ vs.length = L.length ∧ ∀ (j : Nat) (h : j < vs.length) (h' : j < L.length), OwnI w (E.fb + 1) vs[j] (rowOf L[j])
theorem EndsAt.move {E : Env} {w w' : World} {ev : Value} {L : List Out} (h : EndsAt E w ev L) (hk : ∀ b t cs, (t = 3 ∨ t = 38) → b ≠ E.fb → w.heap[b]? = some (.cells cs t (0, 0)) → w'.heap[b]? = some (.cells cs t (0, 0))) : EndsAt E w' ev L := by
  obtain ⟨vs, h1, h2, h3⟩ := h
  exact ⟨vs, own_move h1 fun b cs hb hw => hk b _ cs (.inr rfl) (by omega) hw, h2, fun j a b => own_move (h3 j a b) fun b cs hb hw => hk b _ cs (.inl rfl) (by omega) hw⟩
abbrev addF (E : Env) : Fv := ⟨.func 41, #[ptrV E.q], #[]⟩
/-- Where ends are listed. -/
def MdL (E : Env) (b n t : Nat) : Md E where
  Ed w ev bv arr := (bv = .slice none 0 0 ∧ ∀ x ∈ arr, x.1 ≤ 1000) ∧ EndsAt E w ev (firsts [] arr)
  move h _ hk := ⟨h.1, h.2.move hk⟩
  FB N g := (∃ M : List Nat, N = none :: M.map some) ∧ g.Bx b 71 #[ptrV E.q] ∧ g.Bx n 3 #[.int .i64 1] ∧ g.Bx t 75 #[(addF E).v]
  fmono := by
    rintro N N' g g' hg ⟨N2, rfl⟩ ⟨⟨M, rfl⟩, h1, h2, h3⟩
    exact ⟨⟨M ++ N2, by simp⟩, hg.bx _ _ _ (ct1 (by decide)) h1, hg.bx _ _ _ ⟨by decide, fun _ => rfl⟩ h2, hg.bx _ _ _ (ct1 (by decide)) h3⟩
theorem firsts_nodup : ∀ (P : List Nat) (L : List Out), ((firsts P L).map Prod.fst).Nodup ∧ (∀ x ∈ firsts P L, x ∈ L ∧ x.1 ∉ P)
  | P, [] => by simp [firsts]
  | P, y :: L => by
    unfold firsts
    split
    · have := firsts_nodup P L
      exact ⟨this.1, fun x hx => ⟨List.mem_cons_of_mem _ (this.2 x hx).1, (this.2 x hx).2⟩⟩
    · rename_i hy
      have := firsts_nodup (y.1 :: P) L
      refine ⟨List.nodup_cons.2 ⟨fun hm => ?_, this.1⟩, fun x hx => ?_⟩
      · obtain ⟨x, hx, e⟩ := List.mem_map.1 hm
        exact (this.2 x hx).2 (by rw [e]; simp)
      · rcases List.mem_cons.1 hx with rfl | hx
        · exact ⟨by simp, hy⟩
        · exact ⟨List.mem_cons_of_mem _ (this.2 x hx).1, fun h => (this.2 x hx).2 (List.mem_cons_of_mem _ h)⟩
theorem firsts_len (L : List Out) (h : ∀ x ∈ L, x.1 ≤ 1000) : (firsts [] L).length ≤ 1001 := by
  have h1 := firsts_nodup [] L
  have := nodup_le 1001 _ h1.1 fun x hx => by
    obtain ⟨y, hy, rfl⟩ := List.mem_map.1 hx
    have := h y (h1.2 y hy).1
    omega
  simpa using this
theorem MetR.again {N V P n f} (h : MetR N V P n f) (i : Nat) (hi : i ∈ P) : MetR N V (P ++ [i]) n f := ⟨h.here, fun j hj m hm => by
  rw [h.fin j hj m hm, decide_eq_decide, List.mem_append, List.mem_singleton]
  exact ⟨.inl, fun e => e.elim id fun e => e ▸ hi⟩, h.out, h.free, h.cnt⟩
/-- The end's mark. -/
theorem MetR.endMark {N V P n f} (h : MetR N V P n f) (M : List Nat) (hN : N = none :: M.map some) (i : Nat) (hi : i ≤ 1000) (hl : N.length ≤ 99999999) (hb : i ∉ P) : MetR N V (P ++ [i]) (n + 1) (fun c b => if c = 0 + 1 ∧ b = i / 64 then f (0 + 1) (i / 64) ||| 2 ^ (i % 64) else f c b) := by
  subst hN
  refine ⟨fun j' a' hj' m hm => ?_, fun j' hj' m hm => ?_, fun k hk r => ?_, fun b hb' m => h.free b hb' m, h.cntPut (0 + 1) i (by omega) hi (by rw [h.fin 0 rfl i hi]; exact decide_eq_false hb)⟩
  · rw [bit_put, h.here j' a' hj' m hm]
    have : j' ≠ 0 := fun e => by subst e; cases hj'
    simp [this]
  · have h0 : j' = 0 := by
      cases j' with
      | zero => rfl
      | succ j => 
        simp only [List.getElem?_cons_succ, List.getElem?_map] at hj'
        cases hM : M[j]? <;> rw [hM] at hj' <;> cases hj'
    subst h0
    rw [bit_put, h.fin 0 hj' m hm, beq_self_eq_true, Bool.true_and, Bool.eq_iff_iff]
    simp
  · have : k ≠ 0 + 1 := by simp at hk; omega
    show (if k = 0 + 1 ∧ r = i / 64 then _ else f k r) = 0
    rw [if_neg (fun e => this e.1)]
    exact h.out k hk r
/-- An end was come to. -/
theorem rinv_end {E : Env} {M : Md E} {fin : Fv} {w w2 : World} {s : Am} {G : Gt} {lv : Value} {mb n : Nat} {f : Nat → Nat → Nat} {ev bv : Value} {l : List Tn} (h : RInv E M fin w s G) (hm : RM E M w s G lv mb n f ev bv l) {m : Nat} {xs : List Value} (hev : w.ownsRow (E.fb + 1) 38 1 ev m xs) (hk : Kp (fun b => b = mb ∨ b = E.q ∨ ev.ownBlock = some b) w w2)
    {arr' : List Out} {ev' : Value} {n' : Nat} {f' : Nat → Nat → Nat} (hO : Om w2 E.q (ptrV E.ib) E.fv lv (.map (some mb)) (G.N.length : Int) ev' bv) (hw : Words w2 mb n' f') (hmet : MetR G.N s.V (arr'.map Prod.fst) n' f') (hed : M.Ed w2 ev' bv arr') : RInv E M fin w2 { s with arr := arr' } G := by
  obtain ⟨es, clock, hmb⟩ := words_at hm.words
  have hq := hm.om
  have hc : ∀ {b : Nat} {t : TypeId} {cs : Array Value}, w.heap[b]? = some (.cells cs t (0, 0)) → t ≠ 82 → t ≠ 38 → w2.heap[b]? = some (.cells cs t (0, 0)) := fun {b t cs} hb n1 n2 => (hk.block b (Array.getElem?_eq_some_iff.1 hb).1 fun hA => by
    rcases hA with rfl | rfl | e
    · rw [hmb] at hb; cases hb
    · unfold Om Whole at hq
      rw [hq] at hb
      injection hb with hb
      injection hb with _ hb
      exact n1 hb.symm
    · exact down_ne hev (show Whole w b t cs from hb) (fun e => n2 e.symm) e).trans hb
  have hz : KpZ G w w2 := ⟨hk.size, fun b t cs hct _ hb => hc hb hct.1.1 hct.1.2.2⟩
  refine ⟨⟨⟨hk.os.trans h.rd.below.os, hk.tape.trans h.rd.below.tape, hk.output.trans h.rd.below.output, Nat.le_trans h.rd.below.size hk.size, fun i hi => (hk.block i (by have := h.rd.below.size; omega) fun hA => ?_).trans (h.rd.below.block i hi)⟩, h.rd.q⟩, ⟨lv, mb, n', f', ev', bv, l, hO, own_move hm.own fun b cs _ hb => hc hb (by decide) (by decide), hm.turns.mono (ghR_move hz), hw, hmet, hed, hm.base⟩, ⟨hc h.fit.1 (by decide) (by decide), h.fit.2⟩, h.tab.move hz fun z _ cs hw => hc hw (by decide) (by decide), h.fb, M.fmono (ghR_move hz) ⟨[], by simp⟩ h.fbx⟩
  have h1 := hm.base; have h2 := h.rd.q; have h3 := h.fb.1
  rcases hA with rfl | rfl | e
  · omega
  · omega
  · rcases hev.2 with ⟨rfl, -⟩ | ⟨g, cap, cur, rfl, hb, -⟩
    · cases e
    · have : g = i := by simpa [Value.ownBlock] using e
      omega
set_option maxHeartbeats 1600000 in
theorem fin_list (E : Env) (b n t : Nat) : FinC E (MdL E b n t) (onceF b n t) := by
  intro w s G i hI hi
  obtain ⟨lv, mb, nw, f, ev, bv, l, hm⟩ := hI.mem
  obtain ⟨⟨Mx, hN⟩, h1, h2, h3⟩ := hI.fbx
  obtain ⟨⟨hbv, hle⟩, vs, hown, hvl, hvr⟩ := hm.ed
  have hi1 : i ≤ 1000 := Nat.le_trans hi hI.fb.2.2
  have hNl := (idsZ_count hI.tab).2
  have hsm := hm.met.small
  have h0 : G.N[0]? = some none := by rw [hN]; rfl
  have hbit := hm.met.fin 0 h0 i hi1
  have HMT := Lib.hid (show Calls Try.prog 85 #[ptrV E.q, .int .i64 1, .int .i64 (i : Int)] w (MeetPost E.q mb nw f 1 i w) from dmeet_any E.q mb nw f _ _ _ _ _ _ 1 i (by omega) (by omega) w hm.om hm.words (by unfold maxLen; omega))
  refine ⟨_, rfl, enters_of Try.func84 (by kernel_rfl) rfl, ?_⟩
  show Calls Try.prog 84 #[.int .i64 i, ptrV b, ptrV n, ptrV t] w (After E (MdL E b n t) (onceF b n t) { s with arr := s.arr ++ [(i, s.fit)] })
  have c1 := bx_cell h1; have c2 := bx_cell h2
  have hle' : ∀ x ∈ s.arr ++ [(i, s.fit)], x.1 ≤ 1000 := fun x hx => (List.mem_append.1 hx).elim (hle x) fun h => by rw [List.mem_singleton.1 h]; exact hi1
  have HI := Lib.hid hI; have HM := Lib.hid hm; have HLE := Lib.hid hle'; have HOWN := Lib.hid hown; have HVL := Lib.hid hvl; have HVR := Lib.hid hvr; have HBV := Lib.hid hbv
  by_cases hP : i ∈ s.arr.map Prod.fst
  · have HB0 := Lib.hid (show bitAt f 1 i = true from hbit.trans (decide_eq_true hP))
    have HP := Lib.hid hP
    clear hI hm h1 h2 h3 hN hown hvl hvr hi hi1 hNl hsm h0 hbit hP hle hle' hbv
    go_enter Try.func84, Try.ntmps84
    go_wp2_with fail
    refine HMT.out.mono ?_
    intro e w1 hp
    unfold MeetPost at hp
    rw [if_pos (by have := HB0.out; unfold bitAt at this; exact this)] at hp
    obtain ⟨rfl, hb⟩ := hp
    have HR := Lib.hid (rinv_end (arr' := s.arr ++ [(i, s.fit)]) HI.out HM.out HOWN.out (Kp.of_below hb) (HM.out.om.below hb HM.out.om.lt) (HM.out.words.kept (hb.block mb HM.out.words.lt)) (by rw [List.map_append]; exact HM.out.met.again i HP.out)
      ⟨⟨HBV.out, HLE.out⟩, by rw [firsts_in [] s.arr (i, s.fit) (by simpa using HP.out)]; exact EndsAt.move ⟨vs, HOWN.out, HVL.out, HVR.out⟩ fun b t cs _ _ hw => (hb.block b (Array.getElem?_eq_some_iff.1 hw).1).trans hw⟩)
    clear hb c1 c2
    go_wp2_with fail
    go_end0
    exact ⟨rfl, G, HR.out⟩
  · have HB0 := Lib.hid (show bitAt f 1 i = false from hbit.trans (decide_eq_false hP))
    have HP := Lib.hid hP; have H3 := Lib.hid h3; have HNN := Lib.hid hN; have HI1 := Lib.hid hi1; have HNL := Lib.hid hNl; have HLE0 := Lib.hid hle
    clear hI hm h1 h2 h3 hN hown hvl hvr hi hi1 hNl hsm h0 hbit hP hle hle' hbv
    go_enter Try.func84, Try.ntmps84
    go_wp2_with fail
    refine HMT.out.mono ?_
    intro e w1 hp
    unfold MeetPost at hp
    rw [if_neg (by have := HB0.out; unfold bitAt at this; rw [this]; decide), put_same] at hp
    obtain ⟨rfl, hg, hw1⟩ := hp
    obtain ⟨es, clock, hmb⟩ := words_at HM.out.words
    have hc : ∀ {b : Nat} {t : TypeId} {cs : Array Value}, w.heap[b]? = some (.cells cs t (0, 0)) → w1.heap[b]? = some (.cells cs t (0, 0)) := fun {b t cs} hb => (hg.block b (Array.getElem?_eq_some_iff.1 hb).1 (by
      intro e
      have e := Option.some.inj e
      subst e
      rw [hmb] at hb
      cases hb)).trans hb
    have hO1 : Om w1 E.q (ptrV E.ib) E.fv lv (.map (some mb)) (G.N.length : Int) ev bv := hc HM.out.om
    have hown1 := own_move (w' := w1) HOWN.out fun b cs _ hb => hc hb
    have hvr1 : ∀ (j : Nat) (h : j < vs.length) (h' : j < (firsts [] s.arr).length), OwnI w1 (E.fb + 1) vs[j] (rowOf (firsts [] s.arr)[j]) := fun j a b => own_move (HVR.out j a b) fun b cs _ hb => hc hb
    have hadd := add_any E.q E.fb (2 * (E.G + 1)) s.fit vs _ _ _ _ _ _ w1 hO1 HI.out.fit.2 (hc HI.out.fit.1) (by omega) (by have := HI.out.fb.2.1; omega) hown1 (by have := firsts_len s.arr HLE0.out; have := HVL.out; omega) i
    have e3 : w1.cell? ⟨t, 0, none⟩ = some (.func (.func 41) #[ptrV E.q] #[]) := (Whole.cell (hc H3.out.1) 0).trans rfl
    have HADD := Lib.hid hadd; have HO1 := Lib.hid hO1; have HOWN1 := Lib.hid hown1; have HVR1 := Lib.hid hvr1; have HG := Lib.hid hg; have HW1 := Lib.hid hw1
    clear hadd hO1 hown1 hvr1 hg hw1 hc hmb c1 c2
    have eg := enters_of Try.func41 (by kernel_rfl) rfl
    go_wp2_with fail
    refine HADD.out.mono ?_
    rintro e w2 ⟨rfl, ev', v, hv, hO2, hown2, hk2⟩
    have hkt : Kp (fun b => b = mb ∨ b = E.q ∨ ev.ownBlock = some b) w w2 := ((Kp.of_grown HG.out).mono fun b _ e => .inl (Option.some.inj e)).trans (hk2.mono fun b _ e => .inr e)
    have hi2 : ∀ (b : Nat) (cs : Array Value), w1.heap[b]? = some (Obj.cells cs 3 (0, 0)) → w2.heap[b]? = some (Obj.cells cs 3 (0, 0)) := fun b cs hb => (hk2.block b (Array.getElem?_eq_some_iff.1 hb).1 fun hA => by
      rcases hA with rfl | e
      · have h1 := HO1.out
        unfold Om Whole at h1
        rw [hb] at h1
        injection h1 with h1
        injection h1 with _ h1
        exact absurd h1 (by decide)
      · exact down_ne HOWN1.out (show Whole w1 b 3 cs from hb) (by decide) e).trans hb
    have hw2 := HW1.out.kept (hk2.block mb HW1.out.lt fun hA => by
      obtain ⟨es, clock, hmb⟩ := words_at HW1.out
      rcases hA with rfl | e
      · have h1 := HO1.out
        unfold Om Whole at h1
        rw [hmb] at h1
        cases h1
      · rcases HOWN1.out.2 with ⟨rfl, -⟩ | ⟨g, cap, cur, rfl, -, hh, -⟩
        · cases e
        · have : g = mb := by simpa [Value.ownBlock] using e
          subst this
          rw [hmb] at hh
          cases hh)
    have hmet2 := HM.out.met.endMark Mx HNN.out i HI1.out HNL.out HP.out
    have hfo := firsts_out [] s.arr (i, s.fit) (by simpa using HP.out)
    have hed : EndsAt E w2 ev' (firsts [] (s.arr ++ [(i, s.fit)])) := by
      rw [hfo]
      refine ⟨vs ++ [v], hown2, by simp [HVL.out], fun j a a' => ?_⟩
      by_cases hj : j < vs.length
      · rw [List.getElem_append_left hj, List.getElem_append_left (by rw [← HVL.out]; exact hj)]
        exact own_move (HVR1.out j hj (by rw [← HVL.out]; exact hj)) fun b cs _ hb => hi2 b cs hb
      · have hjl : j = vs.length := by simp at a; omega
        subst hjl
        have e1 : (vs ++ [v])[vs.length]'a = v := by simp
        have e2 : (firsts [] s.arr ++ [(i, s.fit)])[vs.length]'a' = (i, s.fit) := by
          rw [List.getElem_append_right (by have := HVL.out; omega)]
          simp
        rw [e1, e2]
        exact hv
    have HR := Lib.hid (rinv_end (arr' := s.arr ++ [(i, s.fit)]) HI.out HM.out HOWN.out hkt hO2 hw2 (by rw [List.map_append]; exact hmet2) ⟨⟨HBV.out, HLE.out⟩, hed⟩)
    clear hkt hi2 hw2 hmet2 hfo hed hv hO2 hown2 hk2 e3
    go_wp2_with fail
    go_end0
    exact ⟨rfl, G, HR.out⟩
end Go.Proofs.Ytnemacejaiifnaa
/- An end is kept in the place of the one that was kept: the fit is copied onto best[:0] (the walk by gen13keep.py). No condition. -/
namespace Go.Proofs.Ytnemacejaiifnaa
open Go Go.RowKit

/-- A row of the call's own, cut to nothing. -/
theorem own_cut {w : World} {base g n c : Nat} {k : List Int} (h : OwnI w base (.slice (some ⟨g, 0, none⟩) n c) k) : OwnI w base (.slice (some ⟨g, 0, none⟩) 0 c) [] := by
  rcases h.2 with ⟨e, -⟩ | ⟨q, cap, cur, e, hb, hh, hn, hm, hs, ht⟩
  · cases e
  injection e with e1 e2 e3
  injection e1 with e1
  injection e1 with e1
  subst e1 e3
  exact ⟨rfl, .inr ⟨g, c, cur, rfl, hb, hh, Nat.zero_le _, hm, hs, by simp [cellsI]⟩⟩
/-- An append of numbers onto a row of the call's own, as one operation of a region that draws its order. -/
theorem step_append_ints {w : World} {ops : Array Oper} {o : Oper} {a : Act} {Kk : Act → World → Prop} {Q : Exit → Act → World → Prop} {E : Prop} (hgd : o.guard = none) (x y : Operand)
    (ho : o.op = .call { callee := .builtin .append, args := #[x, y], argTypes := #[38, 38] })
    (base : Nat) (v : Value) (O : List Int) (hs : a.eval x = v) (hown : OwnI w base v O)
    (b m c : Nat) (K : List Int) (hx : a.eval y = .slice (some ⟨b, 0, none⟩) m c) (hm : K.length = m) (hc : ∀ (j : Nat) (h : j < K.length), w.cell? ⟨b, j, none⟩ = some (.int .i64 K[j])) (hn : O.length + K.length ≤ 4398046511104) (hbase : base ≤ w.heap.size)
    (h : ∀ v' w', OwnI w' base v' (O ++ K) → w.grownBy w' v.ownBlock → (v'.ownBlock = v.ownBlock ∨ v'.ownBlock = some w.heap.size) → Kk (a.put o.dst v') w') :
    if Region.wanted o (yielded ops a.tmps) = true then Oper.wp Try.prog o a w Kk Q else E := by
  have hw : Region.wanted o (yielded ops a.tmps) = true := by
    unfold Region.wanted
    rw [hgd]
  rw [if_pos hw]
  obtain ⟨i, hi, hz, hsize, hby⟩ := info_parts info_int11
  have hnw : ∀ j u, (cellsI K)[j]? = some u → w.cell? ((⟨b, 0, none⟩ : Addr).add j) = some u := fun j u hu => by
    have hadd : (⟨b, 0, none⟩ : Addr).add j = ⟨b, j, none⟩ := by unfold Addr.add; split <;> simp_all
    rw [hadd]
    unfold cellsI at hu
    rw [List.getElem?_map] at hu
    cases hk : K[j]? with
    | none => rw [hk] at hu; cases hu
    | some q =>
      rw [hk] at hu
      obtain ⟨hj, rfl⟩ := List.getElem?_eq_some_iff.1 hk
      rw [← Option.some.inj hu]
      exact hc j hj
  obtain ⟨v', w', hr, g1, g2, -, g3⟩ := run_append_own_at (P := Try.prog) w base 38 o.type 3 i (.int .i64 0) 1 8 Try.underlying38 hi hz hsize hby rfl (by omega) v O.length (cellsI O) hown ⟨b, 0, none⟩ m c (cellsI K) (by simp [cellsI, hm]) hnw (fun u hu => by obtain ⟨q, -, rfl⟩ := List.mem_map.1 hu; rfl) (by unfold maxLen; omega) (by omega) hbase
  unfold Oper.wp execOp
  simp only [ho, resolve, invoke, builtin, Sem.run_bind, Sem.run_pure, Result.andThen_ok, List.map_toArray, List.map_cons, List.map_nil, hs, hx, hr]
  refine h v' w' ?_ g2 g3
  · unfold OwnI cellsI
    rw [List.map_append, List.length_append, hm]
    exact g1
theorem kp_new {A : Nat → Prop} {w w' : World} (h : Kp A w w') (j : Nat) (u : Value) : Kp A w (w'.setCell ⟨w.heap.size, j, none⟩ u) :=
  ⟨h.os, h.tape, h.output, by simpa [World.setCell] using h.size, fun k hk hA => (Below.heap_setCell _ _ _ _ (by simp; omega)).trans (h.block k hk hA)⟩
set_option maxHeartbeats 3200000 in
set_option maxRecDepth 100000 in
theorem keep_any (q fb G2 : Nat) (k kb : List Int) (inp lv mv : Value) (p : Int) (ev bv : Value) (w : World) (hO : Om w q inp (.slice (some ⟨fb, 0, none⟩) G2 G2) lv mv p ev bv) (hk : k.length = G2) (hfit : Whole w fb 3 (fitC k)) (hG : 2 ≤ G2) (hG2 : G2 ≤ 4398046511104)
    (hown : OwnI w (fb + 1) bv kb) (i : Int) :
    Calls Try.prog 128 #[ptrV q, .int .i64 i] w fun e w' => e = .returned noResult ∧ ∃ g c, OwnI w' (fb + 1) (.slice (some ⟨g, 0, none⟩) G2 c) (k.set 1 i) ∧ Om w' q inp (.slice (some ⟨fb, 0, none⟩) G2 G2) lv mv p ev (.slice (some ⟨g, 0, none⟩) G2 c) ∧ Kp (fun b => b = q ∨ bv.ownBlock = some b) w w' := by
  have c1 : w.cell? ⟨q, 1, none⟩ = some (.slice (some ⟨fb, 0, none⟩) G2 G2) := (om_ten hO).2.1
  obtain ⟨-, -, -, -, -, -, c6⟩ := om_ten hO
  have HO := Lib.hid hO; have HK := Lib.hid hk; have HF := Lib.hid hfit; have HGG := Lib.hid hG; have HG2 := Lib.hid hG2
  have HFC := Lib.hid (show ∀ (j : Nat) (h : j < k.length), w.cell? ⟨fb, j, none⟩ = some (.int .i64 k[j]) from fun j h => (hfit.cell j).trans (by simp [fitC, h]))
  have hb : fb + 1 ≤ w.heap.size := hfit.lt
  have HB := Lib.hid hb
  have HNE := Lib.hid (own_num_ne hown hO (by decide))
  obtain ⟨cv, hcv, hcn, hcb, hex⟩ : ∃ cv, OwnI w (fb + 1) cv [] ∧ cv.ownBlock ≠ some q ∧ cv.ownBlock = bv.ownBlock ∧ ((bv = .slice none 0 0 ∧ cv = .slice none 0 0) ∨ ∃ r cap, bv = .slice (some ⟨r, 0, none⟩) kb.length cap ∧ cv = .slice (some ⟨r, 0, none⟩) 0 cap ∧ kb.length ≤ cap) := by
    rcases own_slice_t hown with ⟨rfl, -⟩ | ⟨r, cap, rfl, hle, hcap, hr⟩
    · exact ⟨.slice none 0 0, ⟨rfl, .inl ⟨rfl, rfl⟩⟩, HNE.out, rfl, .inl ⟨rfl, rfl⟩⟩
    · exact ⟨.slice (some ⟨r, 0, none⟩) 0 cap, own_cut hown, HNE.out, rfl, .inr ⟨r, cap, rfl, rfl, hle⟩⟩
  have HC := Lib.hid hcv; have HCN := Lib.hid hcn; have HCB := Lib.hid hcb
  clear hO hk hfit hG hG2 hown hb hcv hcn hcb
  rcases hex with ⟨rfl, rfl⟩ | ⟨r, cap, rfl, rfl, hle⟩
  · go_enter Try.func128, Try.ntmps128
    go_wp2_with fail
    refine wp_region_held_drew (S := (fun W => W.cell? ⟨q, 1, none⟩ = some (.slice (some ⟨fb, 0, none⟩) G2 G2))) (by kernel_rfl) c1 (fun hHeld => ?_)
    refine wpAnyH_take (i := 0) (oi := _) (v := ?_) rfl (by kernel_rfl) (by kernel_rfl) (by kernel_rfl) (fun _ _ _ h => h) (Or.inl ⟨by rfl, ?_⟩) (by assumption) ?_
    rotate_left 1
    · (intro w hSw; (try dsimp only at hSw); go_simp; (try with_reducible rfl))
    try simp only [List.getElem_toArray, List.getElem_cons_zero, List.getElem_cons_succ, Act.put, List.setIfInBounds_toArray, List.set_cons_zero, List.set_cons_succ]
    refine wpAnyH_take (i := 1) (oi := _) (v := ?_) rfl (by kernel_rfl) (by kernel_rfl) (by kernel_rfl) (fun _ _ _ h => h) (Or.inl ⟨by rfl, ?_⟩) (by assumption) ?_
    rotate_left 1
    · (intro w hSw; (try dsimp only at hSw); go_simp; (try with_reducible rfl))
    try simp only [List.getElem_toArray, List.getElem_cons_zero, List.getElem_cons_succ, Act.put, List.setIfInBounds_toArray, List.set_cons_zero, List.set_cons_succ]
    refine wpAnyH_take (i := 2) (oi := _) (v := ?_) rfl (by kernel_rfl) (by kernel_rfl) (by kernel_rfl) (fun _ _ _ h => h) (Or.inl ⟨by rfl, ?_⟩) (by assumption) ?_
    rotate_left 1
    · (intro w hSw; (try dsimp only at hSw); go_simp; (try with_reducible rfl))
    try simp only [List.getElem_toArray, List.getElem_cons_zero, List.getElem_cons_succ, Act.put, List.setIfInBounds_toArray, List.set_cons_zero, List.set_cons_succ]
    refine wpAnyH_take (i := 3) (oi := _) (v := ?_) rfl (by kernel_rfl) (by kernel_rfl) (by kernel_rfl) (fun _ _ _ h => h) (Or.inl ⟨by rfl, ?_⟩) (by assumption) ?_
    rotate_left 1
    · (intro w hSw; (try dsimp only at hSw); go_simp; (try with_reducible rfl))
    try simp only [List.getElem_toArray, List.getElem_cons_zero, List.getElem_cons_succ, Act.put, List.setIfInBounds_toArray, List.set_cons_zero, List.set_cons_succ]
    refine wpAnyH_take (i := 6) (oi := _) (v := ?_) rfl (by kernel_rfl) (by kernel_rfl) (by kernel_rfl) (fun _ _ _ h => h) (Or.inl ⟨by rfl, ?_⟩) (by assumption) ?_
    rotate_left 1
    · (intro w hSw; (try dsimp only at hSw); go_simp; (try with_reducible rfl))
    try simp only [List.getElem_toArray, List.getElem_cons_zero, List.getElem_cons_succ, Act.put, List.setIfInBounds_toArray, List.set_cons_zero, List.set_cons_succ]
    refine wpAnyH_take (i := 7) (oi := _) (v := ?_) rfl (by kernel_rfl) (by kernel_rfl) (by kernel_rfl) (fun _ _ _ h => h) (Or.inl ⟨by rfl, ?_⟩) (by assumption) ?_
    rotate_left 1
    · (intro w hSw; (try dsimp only at hSw); go_simp; (try with_reducible rfl))
    try simp only [List.getElem_toArray, List.getElem_cons_zero, List.getElem_cons_succ, Act.put, List.setIfInBounds_toArray, List.set_cons_zero, List.set_cons_succ]
    refine wpAnyH_take (i := 8) (oi := _) (v := ?_) rfl (by kernel_rfl) (by kernel_rfl) (by kernel_rfl) (fun _ _ _ h => h) (Or.inl ⟨by rfl, ?_⟩) (by assumption) ?_
    rotate_left 1
    · (intro w hSw; (try dsimp only at hSw); go_simp; (try with_reducible rfl))
    try simp only [List.getElem_toArray, List.getElem_cons_zero, List.getElem_cons_succ, Act.put, List.setIfInBounds_toArray, List.set_cons_zero, List.set_cons_succ]
    refine wpAnyH_take (i := 9) (oi := _) (v := ?_) rfl (by kernel_rfl) (by kernel_rfl) (by kernel_rfl) (fun _ _ _ h => h) (Or.inl ⟨by rfl, ?_⟩) (by assumption) ?_
    rotate_left 1
    · (intro w hSw; (try dsimp only at hSw); go_simp; (try with_reducible rfl))
    try simp only [List.getElem_toArray, List.getElem_cons_zero, List.getElem_cons_succ, Act.put, List.setIfInBounds_toArray, List.set_cons_zero, List.set_cons_succ]
    refine wpAnyH_ready (rs := [4]) (by kernel_rfl) (by simp) ?_
    refine AllReadyH.cons (o := _) rfl (fun K hK => ?_) ?_
    · go_simp
      refine hK.out _ _ c1 (fun hHeld => ?_)
      clear hK K
      try simp only [List.getElem_toArray, List.getElem_cons_zero, List.getElem_cons_succ, Act.put, List.setIfInBounds_toArray, List.set_cons_zero, List.set_cons_succ]
      refine wpAnyH_take (i := 5) (oi := _) (v := ?_) rfl (by kernel_rfl) (by kernel_rfl) (by kernel_rfl) (fun _ _ _ h => h) (Or.inl ⟨by rfl, ?_⟩) (by assumption) ?_
      rotate_left 1
      · (intro w hSw; (try dsimp only at hSw); go_simp; (try with_reducible rfl))
      try simp only [List.getElem_toArray, List.getElem_cons_zero, List.getElem_cons_succ, Act.put, List.setIfInBounds_toArray, List.set_cons_zero, List.set_cons_succ]
      refine wpAnyH_ready (rs := [10]) (by kernel_rfl) (by simp) ?_
      refine AllReadyH.cons (o := _) rfl (fun K hK => ?_) ?_
      · refine step_append_ints rfl (.tmp 9) (.tmp 13) rfl (fb + 1) (.slice none 0 0) [] rfl HC.out fb G2 G2 k rfl HK.out HFC.out (by have := HK.out; have := HG2.out; simp; omega) HB.out ?_
        intro v2 w2 ho2 hg2 hat
        obtain ⟨g, c, rfl⟩ : ∃ g c, v2 = .slice (some ⟨g, 0, none⟩) G2 c := by
          have h1 := own_slice_t ho2
          rw [List.nil_append, HK.out] at h1
          rcases h1 with ⟨-, h2⟩ | ⟨g, c, h1, -⟩
          · have := HGG.out; omega
          · exact ⟨g, c, h1⟩
        have hg2 : w.grownBy w2 ((.slice none 0 0) : Value).ownBlock := ⟨hg2.os, hg2.tape, hg2.output, hg2.size, hg2.block⟩
        have hO2 : Om w2 q inp (.slice (some ⟨fb, 0, none⟩) G2 G2) lv mv p ev _ := HO.out.grown hg2 HCN.out
        have d1 : w2.cell? ⟨q, 1, none⟩ = some (.slice (some ⟨fb, 0, none⟩) G2 G2) := (om_ten hO2).2.1
        obtain ⟨u6, d6⟩ : ∃ u, w2.cell? ⟨q, 6, none⟩ = some u := ⟨_, (om_ten hO2).2.2.2.2.2.2⟩
        have f6 := hO2.free 6
        have HO2 := Lib.hid hO2; have HV2 : Hid (OwnI w2 (fb + 1) (.slice (some ⟨g, 0, none⟩) G2 c) k) := Lib.hid ho2; have HG3 := Lib.hid hg2
        have HAT : Hid (((.slice none 0 0) : Value).ownBlock = some g ∨ g = w.heap.size) := Lib.hid (hat.elim (fun e => .inl e.symm) fun e => .inr (Option.some.inj e))
        clear hO2 ho2 hg2 c1 c6 hat
        refine hK.out _ _ d1 (fun hHeld => ?_)
        clear hK K
        try simp only [List.getElem_toArray, List.getElem_cons_zero, List.getElem_cons_succ, Act.put, List.setIfInBounds_toArray, List.set_cons_zero, List.set_cons_succ]
        refine wpAnyH_take (i := 11) (oi := _) (v := ?_) rfl (by kernel_rfl) (by kernel_rfl) (by kernel_rfl) (fun _ _ _ h => h) (Or.inl ⟨by rfl, ?_⟩) (by assumption) ?_
        rotate_left 1
        · (intro w hSw; (try dsimp only at hSw); go_simp; (try with_reducible rfl))
        try simp only [List.getElem_toArray, List.getElem_cons_zero, List.getElem_cons_succ, Act.put, List.setIfInBounds_toArray, List.set_cons_zero, List.set_cons_succ]
        refine wpAnyH_take (i := 12) (oi := _) (v := ?_) rfl (by kernel_rfl) (by kernel_rfl) (by kernel_rfl) (fun _ _ _ h => h) (Or.inl ⟨by rfl, ?_⟩) (by assumption) ?_
        rotate_left 1
        · (intro w hSw; (try dsimp only at hSw); go_simp; (try with_reducible rfl))
        try simp only [List.getElem_toArray, List.getElem_cons_zero, List.getElem_cons_succ, Act.put, List.setIfInBounds_toArray, List.set_cons_zero, List.set_cons_succ]
        refine wpAnyH_ready (rs := [13]) (by kernel_rfl) (by simp) ?_
        refine AllReadyH.cons (o := _) rfl (fun K hK => ?_) ?_
        · obtain ⟨w3, hw3⟩ : ∃ w3, w2.setCell ⟨q, 6, none⟩ (.slice (some ⟨g, 0, none⟩) G2 c) = w3 := ⟨_, rfl⟩
          have hO3 : Om w3 q inp (.slice (some ⟨fb, 0, none⟩) G2 G2) lv mv p ev (.slice (some ⟨g, 0, none⟩) G2 c) := by rw [← hw3]; exact HO2.out.store 6 _
          have d3 : w3.cell? ⟨q, 1, none⟩ = some (.slice (some ⟨fb, 0, none⟩) G2 G2) := (om_ten hO3).2.1
          have d6' : w3.cell? ⟨q, 6, none⟩ = some (.slice (some ⟨g, 0, none⟩) G2 c) := (om_ten hO3).2.2.2.2.2.2
          go_simp
          try rw [hw3]
          refine hK.out _ _ d3 (fun hHeld => ?_)
          clear hK K
          try simp only [List.getElem_toArray, List.getElem_cons_zero, List.getElem_cons_succ, Act.put, List.setIfInBounds_toArray, List.set_cons_zero, List.set_cons_succ]
          refine wpAnyH_done (by kernel_rfl) ?_ _
          have hv3 : OwnI w3 (fb + 1) (.slice (some ⟨g, 0, none⟩) G2 c) k := by rw [← hw3]; exact own_set HV2.out q 6 _ (own_num_ne HV2.out HO2.out (by decide))
          obtain ⟨⟨u0, hu0⟩, hfr, -, hv4⟩ := own_set_i hv3 1 (by rw [HK.out]; exact HGG.out) i
          have hgG : (1 : Int) < (G2 : Nat) := by have := HGG.out; omega
          have HO3 := Lib.hid hO3; have HV3 := Lib.hid hv3; have HV4 := Lib.hid hv4; have HW3 := Lib.hid hw3
          clear hO3 hv3 hv4 hw3
          go_wp2_with fail
          go_end0
          refine ⟨rfl, g, c, HV4.out, HO3.out.grown (grown_set w3 g 1 _) (own_num_ne HV3.out HO3.out (by decide)), ?_⟩
          have k2 : Kp (fun b => b = q ∨ ((.slice none 0 0) : Value).ownBlock = some b) w w3 := by rw [← HW3.out]; exact kp_set ((Kp.of_grown HG3.out).mono fun b _ e => .inr e.symm) q 6 _ (.inl rfl)
          rcases HAT.out with e | rfl
          · exact kp_set k2 g 1 _ (.inr e)
          · exact kp_new k2 1 _
        exact AllReadyH.nil
      exact AllReadyH.nil
    exact AllReadyH.nil
  · go_enter Try.func128, Try.ntmps128
    go_wp2_with fail
    refine wp_region_held_drew (S := (fun W => W.cell? ⟨q, 1, none⟩ = some (.slice (some ⟨fb, 0, none⟩) G2 G2))) (by kernel_rfl) c1 (fun hHeld => ?_)
    refine wpAnyH_take (i := 0) (oi := _) (v := ?_) rfl (by kernel_rfl) (by kernel_rfl) (by kernel_rfl) (fun _ _ _ h => h) (Or.inl ⟨by rfl, ?_⟩) (by assumption) ?_
    rotate_left 1
    · (intro w hSw; (try dsimp only at hSw); go_simp; (try with_reducible rfl))
    try simp only [List.getElem_toArray, List.getElem_cons_zero, List.getElem_cons_succ, Act.put, List.setIfInBounds_toArray, List.set_cons_zero, List.set_cons_succ]
    refine wpAnyH_take (i := 1) (oi := _) (v := ?_) rfl (by kernel_rfl) (by kernel_rfl) (by kernel_rfl) (fun _ _ _ h => h) (Or.inl ⟨by rfl, ?_⟩) (by assumption) ?_
    rotate_left 1
    · (intro w hSw; (try dsimp only at hSw); go_simp; (try with_reducible rfl))
    try simp only [List.getElem_toArray, List.getElem_cons_zero, List.getElem_cons_succ, Act.put, List.setIfInBounds_toArray, List.set_cons_zero, List.set_cons_succ]
    refine wpAnyH_take (i := 2) (oi := _) (v := ?_) rfl (by kernel_rfl) (by kernel_rfl) (by kernel_rfl) (fun _ _ _ h => h) (Or.inl ⟨by rfl, ?_⟩) (by assumption) ?_
    rotate_left 1
    · (intro w hSw; (try dsimp only at hSw); go_simp; (try with_reducible rfl))
    try simp only [List.getElem_toArray, List.getElem_cons_zero, List.getElem_cons_succ, Act.put, List.setIfInBounds_toArray, List.set_cons_zero, List.set_cons_succ]
    refine wpAnyH_take (i := 3) (oi := _) (v := ?_) rfl (by kernel_rfl) (by kernel_rfl) (by kernel_rfl) (fun _ _ _ h => h) (Or.inl ⟨by rfl, ?_⟩) (by assumption) ?_
    rotate_left 1
    · (intro w hSw; (try dsimp only at hSw); go_simp; (try with_reducible rfl))
    try simp only [List.getElem_toArray, List.getElem_cons_zero, List.getElem_cons_succ, Act.put, List.setIfInBounds_toArray, List.set_cons_zero, List.set_cons_succ]
    refine wpAnyH_take (i := 6) (oi := _) (v := ?_) rfl (by kernel_rfl) (by kernel_rfl) (by kernel_rfl) (fun _ _ _ h => h) (Or.inl ⟨by rfl, ?_⟩) (by assumption) ?_
    rotate_left 1
    · (intro w hSw; (try dsimp only at hSw); go_simp; (try with_reducible rfl))
    try simp only [List.getElem_toArray, List.getElem_cons_zero, List.getElem_cons_succ, Act.put, List.setIfInBounds_toArray, List.set_cons_zero, List.set_cons_succ]
    refine wpAnyH_take (i := 7) (oi := _) (v := ?_) rfl (by kernel_rfl) (by kernel_rfl) (by kernel_rfl) (fun _ _ _ h => h) (Or.inl ⟨by rfl, ?_⟩) (by assumption) ?_
    rotate_left 1
    · (intro w hSw; (try dsimp only at hSw); go_simp; (try with_reducible rfl))
    try simp only [List.getElem_toArray, List.getElem_cons_zero, List.getElem_cons_succ, Act.put, List.setIfInBounds_toArray, List.set_cons_zero, List.set_cons_succ]
    refine wpAnyH_take (i := 8) (oi := _) (v := ?_) rfl (by kernel_rfl) (by kernel_rfl) (by kernel_rfl) (fun _ _ _ h => h) (Or.inl ⟨by rfl, ?_⟩) (by assumption) ?_
    rotate_left 1
    · (intro w hSw; (try dsimp only at hSw); go_simp; (try with_reducible rfl))
    try simp only [List.getElem_toArray, List.getElem_cons_zero, List.getElem_cons_succ, Act.put, List.setIfInBounds_toArray, List.set_cons_zero, List.set_cons_succ]
    refine wpAnyH_take (i := 9) (oi := _) (v := ?_) rfl (by kernel_rfl) (by kernel_rfl) (by kernel_rfl) (fun _ _ _ h => h) (Or.inl ⟨by rfl, ?_⟩) (by assumption) ?_
    rotate_left 1
    · (intro w hSw; (try dsimp only at hSw); go_simp; (try with_reducible rfl))
    try simp only [List.getElem_toArray, List.getElem_cons_zero, List.getElem_cons_succ, Act.put, List.setIfInBounds_toArray, List.set_cons_zero, List.set_cons_succ]
    refine wpAnyH_ready (rs := [4]) (by kernel_rfl) (by simp) ?_
    refine AllReadyH.cons (o := _) rfl (fun K hK => ?_) ?_
    · go_simp
      refine hK.out _ _ c1 (fun hHeld => ?_)
      clear hK K
      try simp only [List.getElem_toArray, List.getElem_cons_zero, List.getElem_cons_succ, Act.put, List.setIfInBounds_toArray, List.set_cons_zero, List.set_cons_succ]
      refine wpAnyH_take (i := 5) (oi := _) (v := ?_) rfl (by kernel_rfl) (by kernel_rfl) (by kernel_rfl) (fun _ _ _ h => h) (Or.inl ⟨by rfl, ?_⟩) (by assumption) ?_
      rotate_left 1
      · (intro w hSw; (try dsimp only at hSw); go_simp; (try with_reducible rfl))
      try simp only [List.getElem_toArray, List.getElem_cons_zero, List.getElem_cons_succ, Act.put, List.setIfInBounds_toArray, List.set_cons_zero, List.set_cons_succ]
      refine wpAnyH_ready (rs := [10]) (by kernel_rfl) (by simp) ?_
      refine AllReadyH.cons (o := _) rfl (fun K hK => ?_) ?_
      · refine step_append_ints rfl (.tmp 9) (.tmp 13) rfl (fb + 1) (.slice (some ⟨r, 0, none⟩) 0 cap) [] rfl HC.out fb G2 G2 k rfl HK.out HFC.out (by have := HK.out; have := HG2.out; simp; omega) HB.out ?_
        intro v2 w2 ho2 hg2 hat
        obtain ⟨g, c, rfl⟩ : ∃ g c, v2 = .slice (some ⟨g, 0, none⟩) G2 c := by
          have h1 := own_slice_t ho2
          rw [List.nil_append, HK.out] at h1
          rcases h1 with ⟨-, h2⟩ | ⟨g, c, h1, -⟩
          · have := HGG.out; omega
          · exact ⟨g, c, h1⟩
        have hg2 : w.grownBy w2 ((.slice (some ⟨r, 0, none⟩) 0 cap) : Value).ownBlock := ⟨hg2.os, hg2.tape, hg2.output, hg2.size, hg2.block⟩
        have hO2 : Om w2 q inp (.slice (some ⟨fb, 0, none⟩) G2 G2) lv mv p ev _ := HO.out.grown hg2 HCN.out
        have d1 : w2.cell? ⟨q, 1, none⟩ = some (.slice (some ⟨fb, 0, none⟩) G2 G2) := (om_ten hO2).2.1
        obtain ⟨u6, d6⟩ : ∃ u, w2.cell? ⟨q, 6, none⟩ = some u := ⟨_, (om_ten hO2).2.2.2.2.2.2⟩
        have f6 := hO2.free 6
        have HO2 := Lib.hid hO2; have HV2 : Hid (OwnI w2 (fb + 1) (.slice (some ⟨g, 0, none⟩) G2 c) k) := Lib.hid ho2; have HG3 := Lib.hid hg2
        have HAT : Hid (((.slice (some ⟨r, 0, none⟩) 0 cap) : Value).ownBlock = some g ∨ g = w.heap.size) := Lib.hid (hat.elim (fun e => .inl e.symm) fun e => .inr (Option.some.inj e))
        clear hO2 ho2 hg2 c1 c6 hat
        refine hK.out _ _ d1 (fun hHeld => ?_)
        clear hK K
        try simp only [List.getElem_toArray, List.getElem_cons_zero, List.getElem_cons_succ, Act.put, List.setIfInBounds_toArray, List.set_cons_zero, List.set_cons_succ]
        refine wpAnyH_take (i := 11) (oi := _) (v := ?_) rfl (by kernel_rfl) (by kernel_rfl) (by kernel_rfl) (fun _ _ _ h => h) (Or.inl ⟨by rfl, ?_⟩) (by assumption) ?_
        rotate_left 1
        · (intro w hSw; (try dsimp only at hSw); go_simp; (try with_reducible rfl))
        try simp only [List.getElem_toArray, List.getElem_cons_zero, List.getElem_cons_succ, Act.put, List.setIfInBounds_toArray, List.set_cons_zero, List.set_cons_succ]
        refine wpAnyH_take (i := 12) (oi := _) (v := ?_) rfl (by kernel_rfl) (by kernel_rfl) (by kernel_rfl) (fun _ _ _ h => h) (Or.inl ⟨by rfl, ?_⟩) (by assumption) ?_
        rotate_left 1
        · (intro w hSw; (try dsimp only at hSw); go_simp; (try with_reducible rfl))
        try simp only [List.getElem_toArray, List.getElem_cons_zero, List.getElem_cons_succ, Act.put, List.setIfInBounds_toArray, List.set_cons_zero, List.set_cons_succ]
        refine wpAnyH_ready (rs := [13]) (by kernel_rfl) (by simp) ?_
        refine AllReadyH.cons (o := _) rfl (fun K hK => ?_) ?_
        · obtain ⟨w3, hw3⟩ : ∃ w3, w2.setCell ⟨q, 6, none⟩ (.slice (some ⟨g, 0, none⟩) G2 c) = w3 := ⟨_, rfl⟩
          have hO3 : Om w3 q inp (.slice (some ⟨fb, 0, none⟩) G2 G2) lv mv p ev (.slice (some ⟨g, 0, none⟩) G2 c) := by rw [← hw3]; exact HO2.out.store 6 _
          have d3 : w3.cell? ⟨q, 1, none⟩ = some (.slice (some ⟨fb, 0, none⟩) G2 G2) := (om_ten hO3).2.1
          have d6' : w3.cell? ⟨q, 6, none⟩ = some (.slice (some ⟨g, 0, none⟩) G2 c) := (om_ten hO3).2.2.2.2.2.2
          go_simp
          try rw [hw3]
          refine hK.out _ _ d3 (fun hHeld => ?_)
          clear hK K
          try simp only [List.getElem_toArray, List.getElem_cons_zero, List.getElem_cons_succ, Act.put, List.setIfInBounds_toArray, List.set_cons_zero, List.set_cons_succ]
          refine wpAnyH_done (by kernel_rfl) ?_ _
          have hv3 : OwnI w3 (fb + 1) (.slice (some ⟨g, 0, none⟩) G2 c) k := by rw [← hw3]; exact own_set HV2.out q 6 _ (own_num_ne HV2.out HO2.out (by decide))
          obtain ⟨⟨u0, hu0⟩, hfr, -, hv4⟩ := own_set_i hv3 1 (by rw [HK.out]; exact HGG.out) i
          have hgG : (1 : Int) < (G2 : Nat) := by have := HGG.out; omega
          have HO3 := Lib.hid hO3; have HV3 := Lib.hid hv3; have HV4 := Lib.hid hv4; have HW3 := Lib.hid hw3
          clear hO3 hv3 hv4 hw3
          go_wp2_with fail
          go_end0
          refine ⟨rfl, g, c, HV4.out, HO3.out.grown (grown_set w3 g 1 _) (own_num_ne HV3.out HO3.out (by decide)), ?_⟩
          have k2 : Kp (fun b => b = q ∨ ((.slice (some ⟨r, 0, none⟩) kb.length cap) : Value).ownBlock = some b) w w3 := by rw [← HW3.out]; exact kp_set ((Kp.of_grown HG3.out).mono fun b _ e => .inr e.symm) q 6 _ (.inl rfl)
          rcases HAT.out with e | rfl
          · exact kp_set k2 g 1 _ (.inr e)
          · exact kp_new k2 1 _
        exact AllReadyH.nil
      exact AllReadyH.nil
    exact AllReadyH.nil
end Go.Proofs.Ytnemacejaiifnaa
/- All ways from a place are gone, whatever is counted: the loop of goFrom. No condition. -/
namespace Go.Proofs.Ytnemacejaiifnaa
open Go Go.RowKit

/-- P w m: from w on so many turns are taken, and then nothing is left and Post is so. -/
structure Prc (E : Env) (M : Md E) (fin : Fv) (P : World → Nat → Prop) (Post : World → Prop) : Prop where
  stop : ∀ w, P w 0 → (∃ A c, w.cell? ⟨E.q, 2, none⟩ = some (.slice A 0 c)) ∧ Post w
  step : ∀ w m, P w (m + 1) → ∃ s G e es, RInv E M fin w s G ∧ s.left = e :: es ∧ s.left.length ≤ 4000000000000 ∧
    ∀ (W : World) (t : Tn), RInv E M fin W { s with left := es } G → TurnR E (ghR W G) t e → CallsV t.1 t.2 W fun r w' => r = .returned noResult ∧ P w' m
set_option maxHeartbeats 4000000 in
theorem goFrom_run (E : Env) (M : Md E) (fin : Fv) (P : World → Nat → Prop) (Post : World → Prop) (hP : Prc E M fin P Post) (w : World) (s : Am) (G : Gt) (v : Fv) (K : Ks) (i : Nat) (hI : RInv E M fin w s G) (hs : s.left = []) (hR : Rp (fun v k => (v, k) ∈ G.T) v K) (hi : i ≤ E.R.length)
    (hst : ∀ w1 G1, RInv E M fin w1 { s with fit := s.fit.set 0 (i : Int), left := [.go K i] } G1 → ∃ n, P w1 n) :
    Calls Try.prog 38 #[ptrV E.q, .int .i64 (i : Int), v.v] w fun e w' => e = .returned noResult ∧ Post w' := by
  obtain ⟨lv, mb, nw, f, ev, bv, l, hm⟩ := hI.mem
  obtain ⟨G2, hG2⟩ : ∃ G2, 2 * (E.G + 1) = G2 := ⟨_, rfl⟩
  have f1 : w.cell? ⟨E.q, 1, none⟩ = some (.slice (some ⟨E.fb, 0, none⟩) G2 G2) := fv_cell (rm_st hI hm) hG2
  obtain ⟨x, hx⟩ : ∃ x, w.cell? ⟨E.fb, 0, none⟩ = some x := ⟨_, (hI.fit.1.cell 0).trans (Array.getElem?_eq_getElem (by simp [fitC, hI.fit.2]))⟩
  have hf := hI.fit.1.free 0
  have hg2 : 0 < G2 := by omega
  have hI0 := rinv_fit hI 0 (i : Int)
  have HPU := Lib.hid (cl_push (s := { s with fit := s.fit.set 0 (i : Int) }) hI0 hR i hi (by show s.left.length + 1 ≤ _; rw [hs]; simp))
  have HPS := Lib.hid (show Am.push { s with fit := s.fit.set 0 (i : Int) } (.go K i) = { s with fit := s.fit.set 0 (i : Int), left := [.go K i] } by unfold Am.push; rw [hs])
  have HST := Lib.hid hst; have HPR := Lib.hid hP
  clear hI hs hR hi hst hm hI0 hG2 hP
  obtain ⟨vg, vf, vc⟩ := v
  go_enter Try.func38, Try.ntmps38
  go_wp2_with fail
  refine HPU.out.mono ?_
  rintro e w1 ⟨rfl, G1, hI1⟩
  rw [HPS.out] at hI1
  obtain ⟨n, hn⟩ := HST.out w1 G1 hI1
  have HI1 := Lib.hid hn
  clear hn
  clear hI1 f1 hx hf hg2 HPU
  go_wp2_with fail
  go_loopw [6] (fun _ wr => ∃ m, P wr m) (fun _ wr => least (P wr))
  case atStart => exact ⟨n, HI1.out⟩
  case round =>
    obtain ⟨m, hm⟩ := hrel
    obtain ⟨hl1, hl2⟩ := least_is hm
    obtain ⟨M0, hM0⟩ : ∃ M0, least (P wr) = M0 := ⟨_, rfl⟩
    have HM0 := Lib.hid hM0
    rw [hM0] at hl1
    clear hl2 hm hM0
    clear HI1 HST
    cases M0 with
    | zero =>
      obtain ⟨⟨A, c, c2⟩, hpo⟩ := HPR.out.stop _ hl1
      have HPO := Lib.hid hpo
      clear hpo hl1
      go_wp2_with fail
      go_end0
      exact ⟨rfl, HPO.out⟩
    | succ m' =>
      obtain ⟨s2, G2, e, es, hI2, hse, hB2, hcl⟩ := HPR.out.step _ _ hl1
      obtain ⟨lv, mb, nw, f, ev, bv, l, hm2⟩ := hI2.mem
      have c2 : wr.cell? ⟨E.q, 2, none⟩ = some lv := (om_ten hm2.om).2.2.1
      obtain ⟨l0, t, rfl, ht0, ht⟩ := turns_last (by have := hm2.turns; rw [hse] at this; exact this)
      have hlen := hm2.turns.len
      obtain ⟨k, hk⟩ : ∃ k, l0.length = k := ⟨_, rfl⟩
      have hk1 : (l0 ++ [t]).length = k + 1 := by simp [hk]
      have hkB : k + 1 ≤ 4000000000000 := by omega
      rcases hm2.own.2 with ⟨-, h0⟩ | ⟨g, c, cur, hlv, -, hcur, hnc, hmc, -, htk⟩
      · rw [hk1] at h0; omega
      rw [hk1] at hlv hnc htk
      subst hlv
      obtain ⟨⟨tg, tf, tc⟩, ti⟩ := t
      have hget : ∀ j, j < (k + 1) * 2 → wr.cell? ⟨g, j, none⟩ = (cellsT (l0 ++ [(⟨tg, tf, tc⟩, ti)]))[j]? := fun j hj => by
        rw [cell_of_row wr g j cur _ (0, 0) hcur, ← htk, List.getElem?_take_of_lt hj, Array.getElem?_toList]
      have hat := cellsT_at (l0 ++ [(⟨tg, tf, tc⟩, ti)]) k (by omega)
      have hlast : (l0 ++ [((⟨tg, tf, tc⟩ : Fv), ti)])[k]'(by omega) = (⟨tg, tf, tc⟩, ti) := by
        subst hk
        simp
      rw [hlast] at hat
      have d0 : wr.cell? ⟨g, k * 2, none⟩ = some (.func tg tf tc) := (hget _ (by omega)).trans hat.1
      have d1 : wr.cell? ⟨g, k * 2 + 1, none⟩ = some (.int .i64 ti) := (hget _ (by omega)).trans hat.2
      have hfr := hm2.om.free 2
      have e1 : wrap64 (k : Int) = (k : Int) := IntWalk.wrap64_in _ ⟨by omega, by omega⟩
      have HNC := Lib.hid hnc; have HMC := Lib.hid hmc
      have HI2 := Lib.hid hI2; have HM2 := Lib.hid hm2; have HSE := Lib.hid hse; have HT0 := Lib.hid ht0; have HT := Lib.hid ht; have HCL := Lib.hid hcl; have HK := Lib.hid hk; have HK1 := Lib.hid hk1
      clear hI2 hm2 hse ht0 ht hcl hB2 hl1 hk hk1 hat hlast hget hcur htk hlen hkB hmc
      obtain ⟨W, hW⟩ : ∃ W, wr.alloc (.cells #[.func tg tf tc, .int .i64 ti] 119) = W := ⟨_, rfl⟩
      have hbW : Below wr.heap.size wr W := by rw [← hW]; exact (Below.refl _ _).alloc (Nat.le_refl _) _
      have bW : Whole W wr.heap.size 119 #[.func tg tf tc, .int .i64 ti] := by rw [← hW]; exact heap_alloc_new wr _
      have k2 : W.cell? ⟨E.q, 2, none⟩ = some (.slice (some ⟨g, 0, none⟩) (k + 1) c) := be_cell hbW c2
      have kf : W.frozen? ⟨E.q, 2, none⟩ = false := (HM2.out.om.below hbW HM2.out.om.lt).free 2
      have HBW := Lib.hid hbW; have BW := Lib.hid bW; have HW := Lib.hid hW
      clear hbW bW hW
      go_upto_region 5 with (fail)
      rw [HW.out]
      clear c2 hfr d0 d1
      go_upto_region 6 with (fail)
      have hpop := rinv_pop (A := some ⟨g, 0, none⟩) (c := c) (t := (⟨tg, tf, tc⟩, ti)) HI2.out (by rw [HK1.out]; exact HM2.out) HSE.out HBW.out HT0.out
      rw [HK.out] at hpop
      have hne : wr.heap.size ≠ E.q := by have := HM2.out.om.lt; omega
      have b3 := BW.out.far hne 2 (.slice (some ⟨g, 0, none⟩) k c)
      obtain ⟨W3, hW3⟩ : ∃ W3, W.setCell ⟨E.q, 2, none⟩ (.slice (some ⟨g, 0, none⟩) k c) = W3 := ⟨_, rfl⟩
      rw [hW3] at hpop b3 ⊢
      obtain ⟨hI3, hz3⟩ := hpop
      obtain ⟨g', hg', eg', hcall⟩ := HCL.out _ _ hI3 (HT.out.mono (ghR_move hz3))
      obtain rfl : tg = .func g' := hg'
      have x0 : W3.cell? ⟨wr.heap.size, 0, none⟩ = some (.func (.func g') tf tc) := (b3.cell 0).trans rfl
      have x1 : W3.cell? ⟨wr.heap.size, 1, none⟩ = some (.int .i64 ti) := (b3.cell 1).trans rfl
      have HC := Lib.hid hcall
      clear hI3 hz3 hcall b3 hne hW3 k2 kf hnc
      go_wp2_with fail
      refine HC.out.mono ?_
      rintro e' w4 ⟨rfl, hI4⟩
      have HL4 := Lib.hid hI4
      clear hI4 x0 x1
      go_wp2_with fail
      go_roundw
      case rel => exact ⟨m', HL4.out⟩
      case measure =>
        rw [HM0.out]
        exact Nat.lt_succ_of_le ((least_is HL4.out).2 _ HL4.out)
end Go.Proofs.Ytnemacejaiifnaa
/- The first end is kept, and all other ways are left. No condition. -/
namespace Go.Proofs.Ytnemacejaiifnaa
open Go Go.RowKit

/-- Behind first: the end's row is kept, nothing is left. -/
def FirstPost (q fb G2 : Nat) (k : List Int) (inp mv : Value) (p : Int) (ev bv : Value) (i : Int) (w : World) (e : Ending) (w' : World) : Prop :=
  e = .returned noResult ∧ ∃ g c, OwnI w' (fb + 1) (.slice (some ⟨g, 0, none⟩) G2 c) (k.set 1 i) ∧ Om w' q inp (.slice (some ⟨fb, 0, none⟩) G2 G2) (.slice none 0 0) mv p ev (.slice (some ⟨g, 0, none⟩) G2 c) ∧ Kp (fun b => b = q ∨ bv.ownBlock = some b) w w'
set_option maxHeartbeats 1600000 in
set_option maxRecDepth 100000 in
theorem first_any (q fb G2 : Nat) (k kb : List Int) (inp lv mv : Value) (p : Int) (ev bv : Value) (w : World) (hO : Om w q inp (.slice (some ⟨fb, 0, none⟩) G2 G2) lv mv p ev bv) (hk : k.length = G2) (hfit : Whole w fb 3 (fitC k)) (hG : 2 ≤ G2) (hG2 : G2 ≤ 4398046511104)
    (hown : OwnI w (fb + 1) bv kb) (i : Int) :
    Calls Try.prog 94 #[ptrV q, .int .i64 i] w (FirstPost q fb G2 k inp mv p ev bv i w) := by
  have HC := Lib.hid (keep_any q fb G2 k kb inp lv mv p ev bv w hO hk hfit hG hG2 hown i)
  clear hO hk hfit hG hG2 hown
  go_enter Try.func94, Try.ntmps94
  go_wp2_with fail
  refine HC.out.mono ?_
  rintro e w1 ⟨rfl, g, c, hv, hO1, hk1⟩
  have c2 : w1.cell? ⟨q, 2, none⟩ = some lv := (om_ten hO1).2.2.1
  have f2 := hO1.free 2
  have HV := Lib.hid hv; have HO1 := Lib.hid hO1; have HK1 := Lib.hid hk1
  clear hv hO1 hk1
  go_wp2_with fail
  go_end0
  exact ⟨rfl, g, c, own_set HV.out q 2 _ (own_num_ne HV.out HO1.out (by decide)), HO1.out.store 2 _, kp_set HK1.out q 2 _ (.inl rfl)⟩
end Go.Proofs.Ytnemacejaiifnaa
/- goFrom up to the first end: what it was. No condition. -/
namespace Go.Proofs.Ytnemacejaiifnaa
open Go Go.RowKit

theorem callQ_arr : ∀ (x : Q) (K : Ks) (i : Nat) (s : Am), (callQ x K i s).arr = s.arr := by
  intro x
  induction x with
  | none => intro K i s; rfl
  | eps => intro K i s; rfl
  | sym p => intro K i s; unfold callQ; split <;> rfl
  | look p => intro K i s; unfold callQ; split <;> rfl
  | cap g x _ => intro K i s; rfl
  | seq x y ih _ => intro K i s; unfold callQ; exact ih _ _ _
  | altN => intro K i s; rfl
  | altC x r _ _ => intro K i s; rfl
  | quest z x _ => intro K i s; unfold callQ Am.two; split <;> rfl
  | star a z x _ => intro K i s; unfold callQ; split; (· rfl); (· unfold Am.two; split <;> rfl)
  | plus a b z x ih => intro K i s; unfold callQ; split; (· rfl); (· exact ih _ _ _)
  | mk a y ih => intro K i s; unfold callQ; split; (· rfl); (· exact ih _ _ _)
theorem call_arr (K : Ks) (i : Nat) (s : Am) : (call K i s).arr.length = s.arr.length + if K = [] then 1 else 0 := by
  cases K with
  | nil => simp [call]
  | cons f K =>
    rw [if_neg (by simp)]
    cases f with
    | q x => exact congrArg List.length (callQ_arr x K i s)
    | capEnd g => rfl
    | ask a b z x =>
      show (if s.V b i then s else (s.mark b i).two z (.q (.plus a b z x) :: K) K i).arr.length = s.arr.length + 0
      split
      · rfl
      · unfold Am.two
        split <;> rfl
theorem step_arr (s : Am) : s.arr.length ≤ (step s).arr.length := by
  unfold step
  split
  · exact Nat.le_refl _
  · rename_i K i l h
    rw [call_arr]
    exact Nat.le_add_right _ _
  · exact Nat.le_refl _
theorem runs_arr {B n : Nat} {s s' : Am} (h : Runs B n s s') : s.arr.length ≤ s'.arr.length := by
  induction h with
  | zero => exact Nat.le_refl _
  | succ _ _ _ ih => exact Nat.le_trans (step_arr _) ih
theorem runs_top {B n : Nat} {s s' : Am} (h : Runs B n s s') (he : s'.left.length ≤ B) : s.left.length ≤ B := by
  cases h with
  | zero => exact he
  | succ _ h _ => exact h

/-- Nothing has been kept yet. -/
def MdF (E : Env) : Md E where
  Ed w ev bv arr := arr = [] ∧ bv = .slice none 0 0
  move h _ _ := h
  FB _ _ := True
  fmono _ _ _ := trivial
abbrev firstF (E : Env) : Fv := ⟨.func 94, #[ptrV E.q], #[]⟩
/-- The first end, with its fit, is kept. -/
def Kept (E : Env) (r : List Int) (w : World) : Prop :=
  ∃ g c mv p ev, OwnI w (E.fb + 1) (.slice (some ⟨g, 0, none⟩) (2 * (E.G + 1)) c) r ∧ Om w E.q (ptrV E.ib) E.fv (.slice none 0 0) mv p ev (.slice (some ⟨g, 0, none⟩) (2 * (E.G + 1)) c) ∧ Below E.w0.heap.size E.w0 w
def GoF (E : Env) (s1 : Am) (i1 : Nat) (w : World) : Nat → Prop
  | 0 => Kept E (rowOf (i1, s1.fit)) w
  | m + 1 => ∃ s G B, RInv E (MdF E) (firstF E) w s G ∧ B ≤ 4000000000000 ∧ s1.left.length ≤ B ∧ Runs B m s s1
/-- The end's turn: it is kept. -/
theorem end_first (E : Env) {w : World} {s : Am} {G : Gt} (hI : RInv E (MdF E) (firstF E) w s G) (i : Nat) : CallsV (firstF E) (i : Int) w fun e w' => e = .returned noResult ∧ Kept E (rowOf (i, s.fit)) w' := by
  obtain ⟨lv, mb, n, f, ev, bv, l, hm⟩ := hI.mem
  obtain ⟨ha, rfl⟩ := hm.ed
  have h0 : OwnI w (E.fb + 1) (.slice none 0 0) [] := ⟨rfl, .inl ⟨rfl, rfl⟩⟩
  refine ⟨_, rfl, enters_of Try.func94 (by kernel_rfl) rfl, ?_⟩
  refine (first_any E.q E.fb (2 * (E.G + 1)) s.fit [] (ptrV E.ib) lv (.map (some mb)) (G.N.length : Int) ev (.slice none 0 0) w hm.om hI.fit.2 hI.fit.1 (by omega) (by have := hI.fb.2.1; omega) h0 (i : Int)).mono ?_
  rintro e w' ⟨rfl, g, c, hv, hO, hk⟩
  refine ⟨rfl, g, c, _, _, _, hv, hO, ?_⟩
  have hd := hI.rd.below
  refine ⟨hk.os.trans hd.os, hk.tape.trans hd.tape, hk.output.trans hd.output, Nat.le_trans hd.size hk.size, fun b hb => (hk.block b (by have := hd.size; omega) fun hA => ?_).trans (hd.block b hb)⟩
  rcases hA with rfl | e
  · have := hI.rd.q; omega
  · cases e
theorem goF_prc (E : Env) (hIn : InE E) (s1 : Am) (i1 : Nat) (es1 : List Ent) (h1 : s1.left = .go [] i1 :: es1) (ha : s1.arr = []) : Prc E (MdF E) (firstF E) (GoF E s1 i1) (Kept E (rowOf (i1, s1.fit))) := by
  refine ⟨fun w h => ?_, fun w m h => ?_⟩
  · obtain ⟨g, c, mv, p, ev, hv, hO, hb⟩ := id h
    exact ⟨⟨none, 0, (om_ten hO).2.2.1⟩, h⟩
  · obtain ⟨s, G, B, hI, hB, hl, hr⟩ := h
    cases hr with
    | zero =>
      refine ⟨s1, G, _, _, hI, h1, by omega, fun W t hW ht => ?_⟩
      cases ht with
      | go h2 h3 =>
        cases h2 with
        | base hT =>
          rcases hW.tab.locs _ hT with he | hLoc
          · cases he
            exact end_first E hW i1
          · cases hLoc with
            | later h4 h5 =>
              obtain ⟨z, hz, -, -, e⟩ := h5
              cases e
    | @succ m' _ _ hne hle hr3 =>
      obtain ⟨e, es, hse⟩ : ∃ e es, s.left = e :: es := by
        cases h : s.left with
        | nil => exact absurd h hne
        | cons e es => exact ⟨e, es, rfl⟩
      have hb2 := runs_top hr3 hl
      refine ⟨s, G, e, es, hI, hse, by omega, fun W t hW ht => ?_⟩
      obtain ⟨g', hg', eg', hc⟩ := step_call hIn (fun i he => by
        exfalso
        have h4 := runs_arr hr3
        have h5 : (step s).arr.length = s.arr.length + 1 := by
          unfold step
          rw [hse, he]
          simp [call]
        rw [ha, h5] at h4
        simp at h4) hse hW ht (by omega)
      refine ⟨g', hg', eg', hc.mono ?_⟩
      rintro e' w' ⟨rfl, G', hI'⟩
      exact ⟨rfl, _, G', B, hI', hB, hl, hr3⟩
/-- goFrom, asked for the first end: if the machine comes to one, it is kept. -/
theorem goFrom_first (E : Env) (hIn : InE E) (w : World) (s : Am) (G : Gt) (v : Fv) (K : Ks) (i n B : Nat) (s1 : Am) (i1 : Nat) (es1 : List Ent) (hI : RInv E (MdF E) (firstF E) w s G) (hs : s.left = []) (hR : Rp (fun v k => (v, k) ∈ G.T) v K) (hi : i ≤ E.R.length) (hB : B ≤ 4000000000000)
    (hr : Runs B n { s with fit := s.fit.set 0 (i : Int), left := [.go K i] } s1) (h1 : s1.left = .go [] i1 :: es1) (ha : s1.arr = []) (hl : s1.left.length ≤ B) :
    Calls Try.prog 38 #[ptrV E.q, .int .i64 (i : Int), v.v] w fun e w' => e = .returned noResult ∧ Kept E (rowOf (i1, s1.fit)) w' :=
  goFrom_run E (MdF E) (firstF E) _ _ (goF_prc E hIn s1 i1 es1 h1 ha) w s G v K i hI hs hR hi fun w1 G1 h => ⟨n + 1, _, G1, B, h, hB, hl, hr⟩
end Go.Proofs.Ytnemacejaiifnaa
