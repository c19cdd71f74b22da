/- Texts merged by program: DnChoice, DnLay, DnRun, DnInv, DnClo. No condition. -/
import Derived.Test.YtnemacejaiifnaaQ13
import Derived.Test.YtnemacejaiifnaaQ15
import Derived.Test.YtnemacejaiifnaaQ8
import Derived.Test.YtnemacejaiifnaaQ1
import Derived.Laws.EntriesVeiled
import Derived.Deep.RegionLaw
import Derived.Deep.AppendLies
import Derived.Deep.RegionHeld3
set_option linter.unusedVariables false
/- A choice is laid. No condition. -/
namespace Go.Proofs.Ytnemacejaiifnaa
open Go Go.RowKit

theorem AltM.len {M : Tr → Q → Prop} {ks : List Tr} {x : Q} (h : AltM M ks x) : (altKids x).length = ks.length ∧ AltQ x ∧ (∀ i (h1 : i < ks.length) (h2 : i < (altKids x).length), M ks[i] (altKids x)[i]) ∧ idsQ x = (altKids x).flatMap idsQ ∧ ∀ y ∈ altKids x, SizeOf.sizeOf y < SizeOf.sizeOf x := by
  induction h with
  | nil => exact ⟨rfl, trivial, fun i h1 _ => absurd h1 (by simp), rfl, fun y hy => by cases hy⟩
  | @cons k ks x y h1 _ ih =>
    obtain ⟨e1, e2, e3, e4, e5⟩ := ih
    refine ⟨by simp [altKids, e1], e2, fun i g1 g2 => ?_, by simp [altKids, idsQ, e4], fun z hz => ?_⟩
    · cases i with
      | zero => exact h1
      | succ i => exact e3 i (by simpa using g1) (by simpa [altKids] using g2)
    · simp only [Q.altC.sizeOf_spec]
      rcases List.mem_cons.1 hz with rfl | hz
      · omega
      · have := e5 z hz
        omega
/-- What is known of parts that were laid with boxes of D. -/
def ghD (X : Fv → Ks → Prop) (D : Nat → Prop) (n0 : Nat) (w : World) (N : List Nat) (T : List (Fv × Ks)) (Z : List Lzy) : Gh where
  Bx b t cs := Whole w b t cs ∧ D b ∧ ∀ z ∈ Z, z.b ≠ b
  Tb v K := (v, K) ∈ T ∨ X v K
  Lz b x K := ∃ z ∈ Z, z.b = b ∧ z.x = x ∧ K = .q z.y :: z.K
  Nm n a := ∃ j, N[j]? = some a ∧ n = n0 + j + 1
structure StageD (E : Env) (X : Fv → Ks → Prop) (D : Nat → Prop) (n0 : Nat) (w : World) (N : List Nat) (T : List (Fv × Ks)) (Z : List Lzy) : Prop where
  locs : ∀ p ∈ T, Loc E (ghD X D n0 w N T Z) p.1 p.2
  lazies : ∀ z ∈ Z, Whole w z.b 75 #[.nilFunc] ∧ D z.b ∧ Thunk E (ghD X D n0 w N T Z) z.x z.y z.K
  nodup : (Z.map Lzy.b).Nodup
theorem StageD.move {E X D n0 w w' N T Z} (h : StageD E X D n0 w N T Z) (hk : ∀ b, D b → w'.heap[b]? = w.heap[b]?) : StageD E X D n0 w' N T Z := by
  have hg : (ghD X D n0 w N T Z).le (ghD X D n0 w' N T Z) := ⟨fun b t cs _ ⟨h1, h2, h4⟩ => ⟨(hk b h2).trans h1, h2, h4⟩, fun _ _ h => h, fun _ _ _ h => h, fun _ _ h => h⟩
  exact ⟨fun p hp => (h.locs p hp).mono hg, fun z hz => ⟨(hk z.b (h.lazies z hz).2.1).trans (h.lazies z hz).1, (h.lazies z hz).2.1, (h.lazies z hz).2.2.mono hg⟩, h.nodup⟩
/-- A stage more behind. -/
theorem StageD.join {E X D lo hi n0 n1 w N1 N2 T1 T2 Z1 Z2} (h : StageD E X D n0 w N1 T1 Z1) (k : Stage E X lo hi n1 w N2 T2 Z2) (hD : ∀ b, D b → b < lo) (hn : n1 = n0 + N1.length) : StageD E X (fun b => D b ∨ (lo ≤ b ∧ b < hi)) n0 w (N1 ++ N2) (T1 ++ T2) (Z1 ++ Z2) := by
  have hz1 : ∀ z ∈ Z1, D z.b := fun z hz => (h.lazies z hz).2.1
  have hz2 : ∀ z ∈ Z2, lo ≤ z.b := fun z hz => (k.lazies z hz).2.1
  have g1 : (ghD X D n0 w N1 T1 Z1).le (ghD X (fun b => D b ∨ (lo ≤ b ∧ b < hi)) n0 w (N1 ++ N2) (T1 ++ T2) (Z1 ++ Z2)) := by
    refine ⟨fun b t cs _ ⟨h1, h2, h4⟩ => ⟨h1, .inl h2, fun z hz => ?_⟩, fun v K h => h.imp (List.mem_append_left _) id, fun b x K ⟨z, hz, e⟩ => ⟨z, List.mem_append_left _ hz, e⟩, fun n a ⟨j, hj, e⟩ => ⟨j, ?_, e⟩⟩
    · rcases List.mem_append.1 hz with hz | hz
      · exact h4 z hz
      · have := hz2 z hz
        have := hD b h2
        omega
    · rw [List.getElem?_append_left ((List.getElem?_eq_some_iff.1 hj).1)]; exact hj
  have g2 : (ghOf X lo hi n1 w N2 T2 Z2).le (ghD X (fun b => D b ∨ (lo ≤ b ∧ b < hi)) n0 w (N1 ++ N2) (T1 ++ T2) (Z1 ++ Z2)) := by
    refine ⟨fun b t cs _ ⟨h1, h2, h3, h4⟩ => ⟨h1, .inr ⟨h2, h3⟩, fun z hz => ?_⟩, fun v K h => h.imp (List.mem_append_right _) id, fun b x K ⟨z, hz, e⟩ => ⟨z, List.mem_append_right _ hz, e⟩, fun n a ⟨j, hj, e⟩ => ⟨N1.length + j, ?_, by omega⟩⟩
    · rcases List.mem_append.1 hz with hz | hz
      · have := hD z.b (hz1 z hz)
        omega
      · exact h4 z hz
    · rw [List.getElem?_append_right (by omega), Nat.add_sub_cancel_left]; exact hj
  refine ⟨fun p hp => ?_, fun z hz => ?_, ?_⟩
  · rcases List.mem_append.1 hp with hp | hp
    · exact (h.locs p hp).mono g1
    · exact (k.locs p hp).mono g2
  · rcases List.mem_append.1 hz with hz | hz
    · obtain ⟨a, b, d⟩ := h.lazies z hz
      exact ⟨a, .inl b, d.mono g1⟩
    · obtain ⟨a, b, c, d⟩ := k.lazies z hz
      exact ⟨a, .inr ⟨b, c⟩, d.mono g2⟩
  · rw [List.map_append]
    refine List.nodup_append.2 ⟨h.nodup, k.nodup, fun a ha b hb => ?_⟩
    obtain ⟨z, hz, rfl⟩ := List.mem_map.1 ha
    obtain ⟨z', hz', rfl⟩ := List.mem_map.1 hb
    have := hD _ (hz1 z hz)
    have := hz2 z' hz'
    omega
/-- What the loop over an Alt's Kids keeps: of k of them, the parts vs. -/
def ChI (E : Env) (f : Fv) (KK : Ks) (x : Q) (inp fv lv mv : Value) (n0 : Nat) (ev bv : Value) (w : World) (k : Nat) (wr : World) : Prop :=
  ∃ (vs : List Fv) (N : List Nat) (T : List (Fv × Ks)) (Z : List Lzy) (D : Nat → Prop) (av : Value), vs.length = k ∧ w.grownBy wr (some E.q) ∧ Whole wr w.heap.size 71 #[ptrV E.q] ∧ Whole wr (w.heap.size + 1) 158 #[av] ∧
    wr.ownsRow (w.heap.size + 2) 75 1 av k (vs.map Fv.v) ∧ w.heap.size + 2 ≤ wr.heap.size ∧ (∀ b, D b → w.heap.size + 2 ≤ b ∧ b < wr.heap.size ∧ av.ownBlock ≠ some b) ∧ StageD E (fun v c => v = f ∧ c = KK) D n0 wr N T Z ∧
    (∀ i (h : i < vs.length) (h' : i < (altKids x).length), Rp (fun v c => (v, c) ∈ T) vs[i] (.q (altKids x)[i] :: KK)) ∧ (∀ a, N.count a + (idsZ Z).count a = (((altKids x).take k).flatMap idsQ).count a) ∧ Om wr E.q inp fv lv mv ((n0 + N.length : Nat) : Int) ev bv
/-- One Kid more. -/
theorem chI_step {E : Env} {f : Fv} {KK : Ks} {x : Q} {inp fv lv mv : Value} {n0 : Nat} {ev bv : Value} {w wr w5 w7 : World} {k : Nat} {vs : List Fv} {N : List Nat} {T : List (Fv × Ks)} {Z : List Lzy} {D : Nat → Prop} {av : Value} {v : Fv} {N2 : List Nat} {T2 : List (Fv × Ks)} {Z2 : List Lzy} {g cap : Nat} {y : Q}
    (hvs : vs.length = k) (hq : E.q < w.heap.size) (hg : w.grownBy wr (some E.q)) (hw : Whole wr w.heap.size 71 #[ptrV E.q]) (ha : Whole wr (w.heap.size + 1) 158 #[av]) (ho : wr.ownsRow (w.heap.size + 2) 75 1 av k (vs.map Fv.v)) (hs : w.heap.size + 2 ≤ wr.heap.size)
    (hD : ∀ b, D b → w.heap.size + 2 ≤ b ∧ b < wr.heap.size ∧ av.ownBlock ≠ some b) (hst : StageD E (fun v c => v = f ∧ c = KK) D n0 wr N T Z) (hrp : ∀ i (h : i < vs.length) (h' : i < (altKids x).length), Rp (fun v c => (v, c) ∈ T) vs[i] (.q (altKids x)[i] :: KK))
    (hc : ∀ a, N.count a + (idsZ Z).count a = (((altKids x).take k).flatMap idsQ).count a) (hy : (altKids x)[k]? = some y) (hl : Laid E f KK y (n0 + N.length) wr v w5 N2 T2 Z2) (ho5 : Om w5 E.q inp fv lv mv ((n0 + N.length + N2.length : Nat) : Int) ev bv)
    {w6 : World} (hb6 : Below w5.heap.size w5 w6) (ho7 : w7.ownsRow (w.heap.size + 2) 75 1 (.slice (some ⟨g, 0, none⟩) (k + 1) cap) (k + 1) (vs.map Fv.v ++ [v.v])) (hg7 : w6.grownBy w7 av.ownBlock) (hblk : av.ownBlock = some g ∨ g = w6.heap.size) :
    ChI E f KK x inp fv lv mv n0 ev bv w (k + 1) (w7.setCell ⟨w.heap.size + 1, 0, none⟩ (.slice (some ⟨g, 0, none⟩) (k + 1) cap)) := by
  have h5 := hl.grown
  have hs5 := h5.size
  have hs6 := hb6.size
  have hs7 := hg7.size
  obtain ⟨w8, hw8⟩ : ∃ w8, w7.setCell ⟨w.heap.size + 1, 0, none⟩ (.slice (some ⟨g, 0, none⟩) (k + 1) cap) = w8 := ⟨_, rfl⟩
  have hg8 : w7.grownBy w8 (some (w.heap.size + 1)) := by rw [← hw8]; exact grown_set _ _ _ _
  have hs8 : w8.heap.size = w7.heap.size := by rw [← hw8]; simp [World.setCell]
  have hob : ∀ c, av.ownBlock = some c → w.heap.size + 2 ≤ c ∧ c < wr.heap.size := fun c hc => ho.lt c hc
  rw [hw8]
  have t7 : ∀ {b : Nat} {ty : TypeId} {cs : Array Value}, Whole w5 b ty cs → av.ownBlock ≠ some b → Whole w7 b ty cs := fun h hne => (h.below hb6 h.lt).grown hg7 hne
  have hblock : ∀ b, b < wr.heap.size → b ≠ E.q → b ≠ w.heap.size + 1 → av.ownBlock ≠ some b → w8.heap[b]? = wr.heap[b]? := fun b h1 h2 h3 h4 => (hg8.block b (by omega) (by intro e; exact h3 (Option.some.inj e))).trans ((hg7.block b (by omega) (fun e => h4 e.symm)).trans ((hb6.block b (by omega)).trans (h5.block b h1 (by intro e; exact h2 (Option.some.inj e)))))
  have A := hst.move (w' := w8) fun b hb => hblock b (hD b hb).2.1 (by have := (hD b hb).1; omega) (by have := (hD b hb).1; omega) (hD b hb).2.2
  have B := hl.stage.move (w' := w8) (by omega) fun b h1 h2 => (hg8.block b (by omega) (by intro e; have := Option.some.inj e; omega)).trans ((hg7.block b (by omega) (fun e => by have := hob b e.symm; omega)).trans (hb6.block b h2))
  have J := A.join B (fun b hb => (hD b hb).2.1) rfl
  have hk : k < (altKids x).length := (List.getElem?_eq_some_iff.1 hy).1
  have hyk : (altKids x)[k] = y := (List.getElem?_eq_some_iff.1 hy).2
  refine ⟨vs ++ [v], N ++ N2, T ++ T2, Z ++ Z2, _, .slice (some ⟨g, 0, none⟩) (k + 1) cap, by simp [hvs], ?_, ?_, ?_, ?_, by omega, ?_, J, ?_, ?_, ?_⟩
  · refine ⟨hg8.os.trans (hg7.os.trans (hb6.os.trans (h5.os.trans hg.os))), hg8.tape.trans (hg7.tape.trans (hb6.tape.trans (h5.tape.trans hg.tape))), hg8.output.trans (hg7.output.trans (hb6.output.trans (h5.output.trans hg.output))), by omega, fun i hi hr => ?_⟩
    exact (hblock i (by omega) (fun e => hr (by rw [e])) (by omega) (fun e => by have := hob i e; omega)).trans (hg.block i hi hr)
  · exact kp_away hg8 (t7 (kp_away h5 hw (by omega)) (fun e => by have := hob _ e; omega)) (by omega)
  · have := (t7 (kp_away h5 ha (by omega)) (fun e => by have := hob _ e; omega)).store 0 (.slice (some ⟨g, 0, none⟩) (k + 1) cap)
    rw [hw8] at this
    exact this
  · rw [List.map_append]
    have hgb : w.heap.size + 2 ≤ g := (ho7.lt g rfl).1
    exact ho7.kept hg8 (.inr (by intro e; simp [Value.ownBlock] at e; omega))
  · intro b hb
    have hne : g ≠ b := by
      rcases hb with hb | hb
      · rcases hblk with h | h
        · exact fun e => (hD b hb).2.2 (by rw [h, e])
        · have := (hD b hb).2.1; omega
      · rcases hblk with h | h
        · have := hob g h; omega
        · omega
    refine ⟨?_, ?_, fun e => hne (by simpa [Value.ownBlock] using e)⟩
    · rcases hb with hb | hb
      · exact (hD b hb).1
      · omega
    · rcases hb with hb | hb
      · have := (hD b hb).2.1; omega
      · omega
  · intro i h h'
    by_cases hi : i < vs.length
    · rw [List.getElem_append_left hi]
      exact (hrp i hi h').mono fun _ _ h => List.mem_append_left _ h
    · have : i = k := by simp at h; omega
      subst this
      rw [List.getElem_append_right (by omega)]
      simp only [hvs, Nat.sub_self, List.getElem_cons_zero, hyk]
      exact hl.rep.mono fun _ _ h => List.mem_append_right _ h
  · intro a
    have h1 := hc a
    have h2 := hl.count a
    have e : idsZ (Z ++ Z2) = idsZ Z ++ idsZ Z2 := by simp [idsZ]
    rw [e, List.take_succ_eq_append_getElem hk, List.flatMap_append, hyk]
    simp only [List.count_append, List.flatMap_cons, List.flatMap_nil, List.append_nil] at h1 h2 ⊢
    omega
  · rw [List.length_append, ← Nat.add_assoc]
    exact kp_away hg8 (t7 ho5 (fun e => by have := hob _ e; omega)) (by omega)
/-- All Kids are laid. -/
theorem chI_end {E : Env} {f : Fv} {KK : Ks} {x : Q} {inp fv lv mv : Value} {n0 : Nat} {ev bv : Value} {w wr : World} {k : Nat} (h : ChI E f KK x inp fv lv mv n0 ev bv w k wr) (hk : (altKids x).length = k) (hA : AltQ x) (hi : idsQ x = (altKids x).flatMap idsQ) :
    LayPost E f KK x inp fv lv mv n0 ev bv w (.returned (.func (.func 126) #[] #[ptrV (w.heap.size + 1), ptrV w.heap.size])) wr := by
  obtain ⟨vs, N, T, Z, D, av, hvs, hg, hw, ha, ho, hs, hD, hst, hrp, hc, hO⟩ := h
  have hlt := ha.lt
  have hz : ∀ z ∈ Z, w.heap.size + 2 ≤ z.b ∧ av.ownBlock ≠ some z.b := fun z hz => by have := hD z.b (hst.lazies z hz).2.1; exact ⟨this.1, this.2.2⟩
  have hgh : (ghD (fun v c => v = f ∧ c = KK) D n0 wr N T Z).le (ghOf (fun v c => v = f ∧ c = KK) w.heap.size wr.heap.size n0 wr N (T ++ [(⟨.func 126, #[], #[ptrV (w.heap.size + 1), ptrV w.heap.size]⟩, .q x :: KK)]) Z) :=
    ⟨fun b t cs _ ⟨h1, h2, h4⟩ => ⟨h1, by have := hD b h2; omega, by have := hD b h2; omega, h4⟩, fun _ _ h => h.imp (List.mem_append_left _) id, fun _ _ _ h => h, fun _ _ h => h⟩
  have hrow := own_slice_t ho
  refine ⟨⟨_, _, _⟩, N, T ++ [(_, .q x :: KK)], Z, rfl, ⟨hg, ⟨Nat.le_refl _, fun p hp => ?_, fun z hz' => ?_, hst.nodup⟩, .base (List.mem_append_right _ (List.mem_singleton.2 rfl)), fun a => ?_, fn_ne (by decide)⟩, hO⟩
  · rcases List.mem_append.1 hp with hp | hp
    · exact (hst.locs p hp).mono hgh
    · rw [List.mem_singleton.1 hp]
      have hbx1 : ∀ {b : Nat} {ty : TypeId} {cs : Array Value}, Whole wr b ty cs → w.heap.size ≤ b → (∀ z ∈ Z, z.b ≠ b) → (ghOf (fun v c => v = f ∧ c = KK) w.heap.size wr.heap.size n0 wr N (T ++ [(⟨.func 126, #[], #[ptrV (w.heap.size + 1), ptrV w.heap.size]⟩, .q x :: KK)]) Z).Bx b ty cs := fun h hb hn => ⟨h, hb, h.lt, hn⟩
      rcases hrow with ⟨rfl, h0⟩ | ⟨gb, c, rfl, h1, h2, h3⟩
      · have hv0 : vs = [] := List.eq_nil_of_length_eq_zero (by omega)
        subst hv0
        exact .alts none 0 [] (hbx1 hw (Nat.le_refl _) fun z hz' => by have := hz z hz'; omega) (hbx1 ha (by omega) fun z hz' => by have := hz z hz'; omega) (Nat.le_refl _) (Nat.zero_le _) (by simp at hvs ⊢; omega) hA (fun i h => absurd h (by simp)) (.inl rfl)
      · rcases ho.2 with ⟨hh, -⟩ | ⟨q2, cap2, cur, hh, hb2, hcur, hn2, hm2, hsz2, htk⟩
        · cases hh
        · injection hh with e1 e2 e3
          injection e1 with e1
          injection e1 with e1
          subst e1 e3
          have hav : Whole wr (w.heap.size + 1) 158 #[.slice (some ⟨gb, 0, none⟩) vs.length c] := by rw [hvs]; exact ha
          refine .alts (some ⟨gb, 0, none⟩) c vs (hbx1 hw (Nat.le_refl _) fun z hz' => by have := hz z hz'; omega) (hbx1 hav (by omega) fun z hz' => by have := hz z hz'; omega) (by omega) h2 (by omega) hA (fun i a b => ((hrp i a b).mono fun _ _ h => .inl (List.mem_append_left _ h))) (.inr ⟨gb, cur, rfl, hbx1 hcur (by omega) fun z hz' e => (hz z hz').2 (by rw [e]; rfl), fun i h => ?_⟩)
          have h5 : (vs.map Fv.v)[i]? = some vs[i].v := by simp [h]
          rw [← htk, List.getElem?_take] at h5
          split at h5
          · simpa using h5
          · cases h5
  · obtain ⟨a, b, d⟩ := hst.lazies z hz'
    have := hD z.b b
    exact ⟨a, by omega, by omega, d.mono hgh⟩
  · have := hc a
    rw [List.take_of_length_le (by omega), ← hi] at this
    exact this

theorem row_not {w : World} {base : Nat} {e : TypeId} {z n : Nat} {v : Value} {xs : List Value} (h : w.ownsRow base e z v n xs) {b : Nat} (hb : b < base) : v.ownBlock ≠ some b := fun e => by have := h.lt b e; omega
theorem row_off {w : World} {base : Nat} {e : TypeId} {z n : Nat} {v : Value} {xs : List Value} (h : w.ownsRow base e z v n xs) {b : Nat} (hb : b < base) : v.ownBlock = none ∨ v.ownBlock ≠ some b := .inr (row_not h hb)
theorem info_part : (Try.prog.info? 75).map (fun i => (i.zero, i.size, i.bytes)) = some (some .nilFunc, 1, 8) := by kernel_rfl
/-- A Kid of a list, by its number. -/
theorem KP.at' {w0 : World} {kv : Value} {ks : List Tr} (h : KP w0 kv ks) (i : Nat) (hi : i < ks.length) : ∃ b o c, kv = .slice (some ⟨b, o, none⟩) ks.length c ∧ TP w0 b (o + i * 10) ks[i] := by
  have h' := h
  obtain ⟨A, c, e, -⟩ := h
  unfold KP at h'
  rw [e] at h'
  obtain ⟨b, o, hA, -, kv', sv', h1, h2⟩ := Kds.at' h' i hi
  subst hA
  exact ⟨b, o, c, e, kv', sv', h1, h2⟩
set_option maxHeartbeats 6400000 in
theorem dchoice_any (E : Env) (x : Q) (hL : ∀ y : Q, SizeOf.sizeOf y < SizeOf.sizeOf x → LayOf E y) (kv : Value) (ks : List Tr) (f : Fv) (KK : Ks) (inp fv lv mv : Value) (n0 : Nat) (ev bv : Value) (w : World) [hfit : Nonempty (FitOk E fv)] (hK : KP E.w0 kv ks) (hs : ∀ t ∈ ks, ShapedP t) (hM : AltM (Mat E.R E.G) ks x) (hr : Rd E w)
    (hO : Om w E.q inp fv lv mv n0 ev bv) (hn : n0 + (idsQ x).length ≤ 100000000) :
    Calls Try.prog 83 #[ptrV E.q, kv, f.v] w (LayPost E f KK x inp fv lv mv n0 ev bv w) := by
  obtain ⟨hlen, hAQ, hMK, hids, hsz⟩ := hM.len
  have hmf := mkf
  have hK0 := hK
  obtain ⟨A, c, hkv, -, -, hkl, -⟩ := hK0
  obtain ⟨n, hnl⟩ : ∃ n, ks.length = n := ⟨_, rfl⟩
  obtain rfl : kv = .slice A n c := by rw [hkv, hnl]
  rw [hnl] at hkl
  obtain ⟨w2, hw2, b1, b2, hb2, hs2⟩ := dtwo_new w 71 158 (ptrV E.q) (.slice none 0 0)
  have hO2 := hO.below hb2 hO.lt
  have hI0 : ChI E f KK x inp fv lv mv n0 ev bv w 0 w2 := ⟨[], [], [], [], fun _ => False, .slice none 0 0, rfl, below_grown hb2, b1, b2, World.ownsRow_nil _ _ _ _, by omega, fun b hb => hb.elim, ⟨fun p hp => (by cases hp), fun z hz => (by cases hz), List.nodup_nil⟩, fun i h => absurd h (by simp), fun a => by simp [idsZ], by simpa using hO2⟩
  have HQ := Lib.hid hO.lt; have HW := Lib.hid hw2; have HI0 := Lib.hid hI0; have HR := Lib.hid hr; have HKP := Lib.hid hK; have HSH := Lib.hid hs; have HMK := Lib.hid hMK; have HL := Lib.hid hL; have HN := Lib.hid hn; have HLEN := Lib.hid hlen; have HAQ := Lib.hid hAQ; have HIDS := Lib.hid hids; have HSZ := Lib.hid hsz; have HNL := Lib.hid hnl; have HFI := Lib.hid hfit
  obtain ⟨g, ff, fc⟩ := f
  clear hw2 b1 b2 hb2 hs2 hO2 hI0 hO hr hK hs hMK hL hn hlen hAQ hids hsz hnl hM hfit hkv
  go_enter Try.func83, Try.ntmps83
  go_upto_region 2 with (fail)
  rw [HW.out]
  go_wp2_with fail
  go_loopw [11] (fun i wr => ∃ k : Nat, k ≤ n ∧ i = .int .i64 k ∧ ChI E ⟨g, ff, fc⟩ KK x inp fv lv mv n0 ev bv w k wr) (fun i _ => n - (intOf i).toNat)
  case atStart => exact ⟨0, Nat.zero_le _, rfl, HI0.out⟩
  case round =>
    obtain ⟨k, hk, rfl, hI⟩ := hrel
    by_cases hkn : k < n
    · have hkl : k < ks.length := by rw [HNL.out]; exact hkn
      have hkx : k < (altKids x).length := by rw [HLEN.out]; exact hkl
      obtain ⟨vs, N, T, Z, D, av, hvs, hg, hw, ha, ho, hs, hD, hst, hrp, hc, hO⟩ := hI
      obtain ⟨b, o, c', hkv, htk⟩ := KP.at' HKP.out k hkl
      rw [HNL.out] at hkv
      injection hkv with hA1 hA2 hA3
      subst hA1
      have hrr := HR.out.grown hg
      have hcn := ids_len hc
      have hle : N.length + (idsQ (altKids x)[k]).length ≤ (idsQ x).length := by
        have h1 := List.take_append_drop (k + 1) (altKids x)
        have h2 : (idsQ x).length = (((altKids x).take (k + 1)).flatMap idsQ).length + (((altKids x).drop (k + 1)).flatMap idsQ).length := by rw [HIDS.out, ← List.length_append, ← List.flatMap_append, h1]
        rw [List.take_succ_eq_append_getElem hkx, List.flatMap_append, List.length_append] at h2
        simp at h2 hcn ⊢
        omega
      have hmem : (altKids x)[k] ∈ altKids x := List.getElem_mem hkx
      have hFI := HFI.out
      have HI := Lib.hid (fun W (hW : Below wr.heap.size wr W) => (HL.out _ (HSZ.out _ hmem) b (o + k * 10) ks[k] ⟨g, ff, fc⟩ KK inp fv lv mv (n0 + N.length) ev bv W htk (HSH.out _ (List.getElem_mem hkl)) (HMK.out k hkl hkx) (hrr.then hW) (hO.below hW hO.lt) (by have := HN.out; omega)).mono fun e w' h => lay_from hW h)
      obtain ⟨y, hy⟩ : ∃ y, (altKids x)[k] = y := ⟨_, rfl⟩
      have hyk : (altKids x)[k]? = some y := by rw [List.getElem?_eq_getElem hkx, hy]
      rw [hy] at HI
      obtain ⟨a1, a2, a3, rfl⟩ : ∃ a1 a2 a3, av = .slice a1 a2 a3 := by rcases own_slice_t ho with ⟨rfl, -⟩ | ⟨g', cap', rfl, -⟩ <;> exact ⟨_, _, _, rfl⟩
      have c1 := (hw.cell 0).trans (rfl : _ = some (ptrV E.q))
      have c2 : wr.cell? ⟨w.heap.size + 1, 0, none⟩ = some (.slice a1 a2 a3) := (ha.cell 0).trans rfl
      have HVS := Lib.hid hvs; have HG := Lib.hid hg; have HWB := Lib.hid hw; have HAB := Lib.hid ha; have HO := Lib.hid ho; have HS := Lib.hid hs; have HD := Lib.hid hD; have HST := Lib.hid hst; have HRP := Lib.hid hrp; have HC := Lib.hid hc; have HY := Lib.hid hyk; have HB0 := Lib.hid (below_draws wr 1)
      have hkk : decide ((k : Int) < (n : Int)) = true := decide_eq_true (by omega)
      have hKB : k + 1 ≤ 4398046511104 := by omega
      clear hvs hg hw ha ho hs hD hst hrp hc hO hyk hy hmem hle hcn hrr htk hFI
      go_upto_region 5 with (fail)
      have hlt : w.heap.size < wr.heap.size := by have := HS.out; omega
      have hlt2 : w.heap.size + 1 < wr.heap.size := by have := HS.out; omega
      go_region_law (first
        | (go_simp; refine (HI.out _ (Below.refl _ wr).drew).mono ?_; rintro e w5 ⟨⟨vg, vf, vc⟩, N2, T2, Z2, he, hl, ho5⟩; obtain rfl : e = .returned (.func vg vf vc) := he; have g0 : w5.cell? ⟨w.heap.size + 1, 0, none⟩ = some (.slice a1 a2 a3) := ((kp_away hl.grown HAB.out (by have := HQ.out; omega)).cell 0).trans rfl; have g1 : (w5.alloc (.cells #[.func vg vf vc] 75)).cell? ⟨w.heap.size + 1, 0, none⟩ = some (.slice a1 a2 a3) := (((kp_away hl.grown HAB.out (by have := HQ.out; omega)).alloc (.cells #[.func vg vf vc] 75)).cell 0).trans rfl; have HLD := Lib.hid hl; have HO5 := Lib.hid ho5; clear hl ho5)
        | (obtain ⟨i, hi, hz, hsize, hby⟩ := info_parts info_part
           refine step_append_lies _ rfl (.tmp 14) (.tmp 21) 158 rfl (w.heap.size + 2) 75 i .nilFunc 1 8 Try.underlying158 hi hz hsize hby rfl (by omega) (.slice a1 a2 a3) k (vs.map Fv.v) rfl ?ho ⟨w5.heap.size, 0, none⟩ 1 1 [.func vg vf vc] rfl rfl ?hn ?h1 (by omega) (by unfold maxLen; omega) (by omega) ?hb _ rfl ?_
           case ho => exact (HO.out.kept HLD.out.grown (row_off HO.out (by have := HQ.out; omega))).alloc _
           case hn => exact one_new w5 (.func vg vf vc) 75
           case h1 => exact fun u hu => by rw [List.mem_singleton.1 hu]; rfl
           case hb => have := HLD.out.grown.size; have := HS.out; simp; omega
           intro ga cap w7 ho7 hg7 hblk hlt7
           have hB7 := ((kp_away HLD.out.grown HAB.out (by have := HQ.out; omega)).alloc (.cells #[.func vg vf vc] 75)).grown hg7 (row_not HO.out (by omega))
           have hb7 : w7.cell? ⟨w.heap.size + 1, 0, none⟩ = some (.slice a1 a2 a3) := (hB7.cell 0).trans rfl
           have hf7 : w7.frozen? ⟨w.heap.size + 1, 0, none⟩ = false := hB7.free 0
           have HO7 := Lib.hid ho7; have HG7 := Lib.hid hg7; have HBK := Lib.hid hblk
           clear ho7 hg7 hblk hlt7 hB7))
      all_goals
        have HCI := Lib.hid (chI_step (f := ⟨g, ff, fc⟩) HVS.out HQ.out HG.out HWB.out HAB.out HO.out HS.out HD.out HST.out HRP.out HC.out HY.out HLD.out HO5.out ((Below.refl _ w5).alloc (Nat.le_refl _) _) HO7.out HG7.out HBK.out)
        go_wp2_with fail
        go_roundw
        case rel => exact ⟨k + 1, by omega, by go_num, HCI.out⟩
        case measure => simp [intOf]; omega
    · have hke : k = n := by omega
      subst hke
      have HE := Lib.hid (chI_end hI (by rw [HLEN.out, HNL.out]) HAQ.out HIDS.out)
      clear hI
      go_wp2_with fail
      go_ret
      exact HE.out
end Go.Proofs.Ytnemacejaiifnaa
/- 'lay' lays a tree. Written by gen11lay.py. No condition. -/
namespace Go.Proofs.Ytnemacejaiifnaa
open Go Go.RowKit

/-- One closure alone was laid. -/
theorem laid_one {E : Env} {f : Fv} {KK : Ks} {x : Q} {inp fv lv mv : Value} {n0 : Nat} {ev bv : Value} {w w1 w' : World} {v : Fv} (hb : Below w.heap.size w w1) (hb' : Below w1.heap.size w1 w') (hO : Om w E.q inp fv lv mv n0 ev bv) (hi : idsQ x = []) (hv : v.g ≠ .func 155)
    (hl : Loc E (ghOf (fun v k => v = f ∧ k = KK) w.heap.size w'.heap.size n0 w' [] [(v, .q x :: KK)] []) v (.q x :: KK)) : LayPost E f KK x inp fv lv mv n0 ev bv w (.returned v.v) w' :=
  ⟨v, [], [(v, .q x :: KK)], [], rfl, ⟨below_grown (below_two hb hb'), Stage.one (Nat.le_refl _) hl, .base (List.mem_singleton.2 rfl), fun a => by simp [idsZ, hi], hv⟩, by simpa using (hO.below hb hO.lt).below hb' (hO.below hb hO.lt).lt⟩
theorem shaped_rune {t : Tr} (h : ShapedP t) (ho : t.fld.op = 3) : 0 ≤ t.fld.rune ∧ t.fld.rune ≤ 1114111 := by
  obtain ⟨hf, -⟩ := (shapedP_iff t).1 h
  obtain ⟨-, -, -, -, -, -, -, -, h9, -⟩ := hf
  have := h9 ho
  constructor <;> omega
theorem shaped_set {t : Tr} (h : ShapedP t) (ho : t.fld.op = 4) : RightR t.fld.set := by
  obtain ⟨hf, -⟩ := (shapedP_iff t).1 h
  obtain ⟨-, -, -, -, -, -, -, -, -, h10, -⟩ := hf
  exact (h10 ho).1
theorem shaped_rep {t : Tr} (h : ShapedP t) (ho : t.fld.op = 10) : 0 ≤ t.fld.min ∧ t.fld.min ≤ 1000 ∧ -3000 ≤ t.fld.max - t.fld.min ∧ t.fld.max ≤ 1000 := by
  obtain ⟨hf, -⟩ := (shapedP_iff t).1 h
  obtain ⟨-, -, -, -, -, -, -, -, -, -, -, -, h13⟩ := hf
  have := h13 ho
  omega
theorem shaped_cap {t : Tr} (h : ShapedP t) (ho : t.fld.op = 6) : 1 ≤ t.fld.cap := by
  obtain ⟨-, -, hc, -⟩ := (shapedP_iff t).1 h
  have : ¬ t.fld.cap < 1 := fun e => hc ⟨ho, e⟩
  omega

set_option maxHeartbeats 1600000 in
theorem dlay_none (E : Env) (pb po : Nat) (t : Tr) (f : Fv) (KK : Ks) (inp fv lv mv : Value) (n0 : Nat) (ev bv : Value) (w : World) [hfit : Nonempty (FitOk E fv)] (hT : TP E.w0 pb po t) (hs : ShapedP t) (hr : Rd E w) (hO : Om w E.q inp fv lv mv n0 ev bv) (ho : t.fld.op = 1) :
    Calls Try.prog 39 #[ptrV E.q, .pointer (some ⟨pb, po, none⟩), f.v] w (LayPost E f KK .none inp fv lv mv n0 ev bv w) := by
  obtain ⟨w1, hw1, b1, hb1, hs1⟩ := new_box w 77 (.pointer (some ⟨pb, po, none⟩))
  have hr1 := hr.then hb1
  have hO1 := hO.below hb1 hO.lt
  obtain ⟨kv, sv, ⟨d0, d1, d2, d3, d4, d5, d6, d7, d8, d9⟩, hkp, hsp, -⟩ := hT.ten hr1
  rw [ho] at d0
  have c1 := (b1.cell 0).trans (rfl : _ = some (Value.pointer (some ⟨pb, po, none⟩)))
  have hmf := mkf
  have HW := Lib.hid hw1; have HB := Lib.hid hb1; have HO := Lib.hid hO; have HB1 := Lib.hid b1; have HT := Lib.hid hT; have HS := Lib.hid hs; have HQ0 := Lib.hid hO.lt; have HFI := Lib.hid hfit; have HS1 := Lib.hid hs1
  obtain ⟨g, ff, fc⟩ := f
  clear hw1 hb1 hO b1 hT hs hr hs1 hfit d1 d2 d3 d4 d5 d6 d7 d8 d9 hr1 hO1 hkp hsp ho
  go_enter Try.func39, Try.ntmps39
  go_upto_region 1 with (fail)
  rw [HW.out]
  go_wp2_with fail
  go_ret
  exact laid_one (v := ⟨.func 70, #[], #[]⟩) HB.out (Below.refl _ _) HO.out rfl (fn_ne (by decide)) .none

set_option maxHeartbeats 1600000 in
theorem dlay_eps (E : Env) (pb po : Nat) (t : Tr) (f : Fv) (KK : Ks) (inp fv lv mv : Value) (n0 : Nat) (ev bv : Value) (w : World) [hfit : Nonempty (FitOk E fv)] (hT : TP E.w0 pb po t) (hs : ShapedP t) (hr : Rd E w) (hO : Om w E.q inp fv lv mv n0 ev bv) (ho : t.fld.op = 2) :
    Calls Try.prog 39 #[ptrV E.q, .pointer (some ⟨pb, po, none⟩), f.v] w (LayPost E f KK .eps inp fv lv mv n0 ev bv w) := by
  obtain ⟨w1, hw1, b1, hb1, hs1⟩ := new_box w 77 (.pointer (some ⟨pb, po, none⟩))
  have hr1 := hr.then hb1
  have hO1 := hO.below hb1 hO.lt
  obtain ⟨kv, sv, ⟨d0, d1, d2, d3, d4, d5, d6, d7, d8, d9⟩, hkp, hsp, -⟩ := hT.ten hr1
  rw [ho] at d0
  have c1 := (b1.cell 0).trans (rfl : _ = some (Value.pointer (some ⟨pb, po, none⟩)))
  have hmf := mkf
  have HP := Lib.hid (dpass_any E.q f w1)
  have HW := Lib.hid hw1; have HB := Lib.hid hb1; have HO := Lib.hid hO; have HB1 := Lib.hid b1; have HT := Lib.hid hT; have HS := Lib.hid hs; have HQ0 := Lib.hid hO.lt; have HFI := Lib.hid hfit; have HS1 := Lib.hid hs1
  obtain ⟨g, ff, fc⟩ := f
  clear hw1 hb1 hO b1 hT hs hr hs1 hfit d1 d2 d3 d4 d5 d6 d7 d8 d9 hr1 hO1 hkp hsp ho
  go_enter Try.func39, Try.ntmps39
  go_upto_region 1 with (fail)
  rw [HW.out]
  go_wp2_with fail
  refine HP.out.mono ?_
  rintro e w4 ⟨b, he, h⟩
  obtain rfl : e = .returned (.func (.func 110) #[] #[ptrV b, ptrV (b + 1)]) := he
  have H := Lib.hid h
  clear h
  go_wp2_with fail
  go_ret
  exact laid_pass HB.out HO.out ⟨b, rfl, H.out⟩

set_option maxHeartbeats 1600000 in
theorem dlay_rune (E : Env) (pb po : Nat) (t : Tr) (f : Fv) (KK : Ks) (inp fv lv mv : Value) (n0 : Nat) (ev bv : Value) (w : World) [hfit : Nonempty (FitOk E fv)] (hT : TP E.w0 pb po t) (hs : ShapedP t) (hr : Rd E w) (hO : Om w E.q inp fv lv mv n0 ev bv) (ho : t.fld.op = 3) :
    Calls Try.prog 39 #[ptrV E.q, .pointer (some ⟨pb, po, none⟩), f.v] w (LayPost E f KK (.sym fun i => runeAt E.R i == t.fld.rune) inp fv lv mv n0 ev bv w) := by
  obtain ⟨w1, hw1, b1, hb1, hs1⟩ := new_box w 77 (.pointer (some ⟨pb, po, none⟩))
  have hr1 := hr.then hb1
  have hO1 := hO.below hb1 hO.lt
  obtain ⟨kv, sv, ⟨d0, d1, d2, d3, d4, d5, d6, d7, d8, d9⟩, hkp, hsp, -⟩ := hT.ten hr1
  rw [ho] at d0
  have c1 := (b1.cell 0).trans (rfl : _ = some (Value.pointer (some ⟨pb, po, none⟩)))
  have hmf := mkf
  have HP := Lib.hid (dread_any E.q ⟨.func 73, #[], #[ptrV w.heap.size]⟩ f w1)
  have HOP := Lib.hid ho
  have HW := Lib.hid hw1; have HB := Lib.hid hb1; have HO := Lib.hid hO; have HB1 := Lib.hid b1; have HT := Lib.hid hT; have HS := Lib.hid hs; have HQ0 := Lib.hid hO.lt; have HFI := Lib.hid hfit; have HS1 := Lib.hid hs1
  obtain ⟨g, ff, fc⟩ := f
  clear hw1 hb1 hO b1 hT hs hr hs1 hfit d1 d2 d3 d4 d5 d6 d7 d8 d9 hr1 hO1 hkp hsp ho
  go_enter Try.func39, Try.ntmps39
  go_upto_region 1 with (fail)
  rw [HW.out]
  go_wp2_with fail
  refine HP.out.mono ?_
  rintro e w4 ⟨b, he, h⟩
  obtain rfl : e = .returned (.func (.func 111) #[] #[ptrV (b + 1), ptrV b, ptrV (b + 2)]) := he
  have H := Lib.hid h
  clear h
  go_wp2_with fail
  go_ret
  obtain ⟨k1, k2, k3, k4, k5⟩ := H.out
  have l3 := k3.lt
  have hs1 := HS1.out
  exact laid_one (v := ⟨_, _, _⟩) HB.out k5 HO.out rfl (fn_ne (by decide)) (.rune (t := ⟨g, ff, fc⟩) (bx_new k1 (by omega) (by omega)) (bx_new k2 (by omega) (by omega)) (bx_new k3 (by omega) (by omega)) (bx_new (HB1.out.below k5 HB1.out.lt) (Nat.le_refl _) (by omega)) HT.out (shaped_rune HS.out HOP.out) (.base (.inr ⟨rfl, rfl⟩)))

set_option maxHeartbeats 1600000 in
theorem dlay_set (E : Env) (pb po : Nat) (t : Tr) (f : Fv) (KK : Ks) (inp fv lv mv : Value) (n0 : Nat) (ev bv : Value) (w : World) [hfit : Nonempty (FitOk E fv)] (hT : TP E.w0 pb po t) (hs : ShapedP t) (hr : Rd E w) (hO : Om w E.q inp fv lv mv n0 ev bv) (ho : t.fld.op = 4) :
    Calls Try.prog 39 #[ptrV E.q, .pointer (some ⟨pb, po, none⟩), f.v] w (LayPost E f KK (.sym fun i => fitsS t.fld.set (runeAt E.R i)) inp fv lv mv n0 ev bv w) := by
  obtain ⟨w1, hw1, b1, hb1, hs1⟩ := new_box w 77 (.pointer (some ⟨pb, po, none⟩))
  have hr1 := hr.then hb1
  have hO1 := hO.below hb1 hO.lt
  obtain ⟨kv, sv, ⟨d0, d1, d2, d3, d4, d5, d6, d7, d8, d9⟩, hkp, hsp, -⟩ := hT.ten hr1
  rw [ho] at d0
  have c1 := (b1.cell 0).trans (rfl : _ = some (Value.pointer (some ⟨pb, po, none⟩)))
  have hmf := mkf
  have HP := Lib.hid (dread_any E.q ⟨.func 74, #[], #[ptrV w.heap.size]⟩ f w1)
  have HOP := Lib.hid ho
  have HW := Lib.hid hw1; have HB := Lib.hid hb1; have HO := Lib.hid hO; have HB1 := Lib.hid b1; have HT := Lib.hid hT; have HS := Lib.hid hs; have HQ0 := Lib.hid hO.lt; have HFI := Lib.hid hfit; have HS1 := Lib.hid hs1
  obtain ⟨g, ff, fc⟩ := f
  clear hw1 hb1 hO b1 hT hs hr hs1 hfit d1 d2 d3 d4 d5 d6 d7 d8 d9 hr1 hO1 hkp hsp ho
  go_enter Try.func39, Try.ntmps39
  go_upto_region 1 with (fail)
  rw [HW.out]
  go_wp2_with fail
  refine HP.out.mono ?_
  rintro e w4 ⟨b, he, h⟩
  obtain rfl : e = .returned (.func (.func 111) #[] #[ptrV (b + 1), ptrV b, ptrV (b + 2)]) := he
  have H := Lib.hid h
  clear h
  go_wp2_with fail
  go_ret
  obtain ⟨k1, k2, k3, k4, k5⟩ := H.out
  have l3 := k3.lt
  have hs1 := HS1.out
  exact laid_one (v := ⟨_, _, _⟩) HB.out k5 HO.out rfl (fn_ne (by decide)) (.set (t := ⟨g, ff, fc⟩) (bx_new k1 (by omega) (by omega)) (bx_new k2 (by omega) (by omega)) (bx_new k3 (by omega) (by omega)) (bx_new (HB1.out.below k5 HB1.out.lt) (Nat.le_refl _) (by omega)) HT.out (shaped_set HS.out HOP.out) (.base (.inr ⟨rfl, rfl⟩)))

set_option maxHeartbeats 1600000 in
theorem dlay_at (E : Env) (pb po : Nat) (t : Tr) (f : Fv) (KK : Ks) (inp fv lv mv : Value) (n0 : Nat) (ev bv : Value) (w : World) [hfit : Nonempty (FitOk E fv)] (hT : TP E.w0 pb po t) (hs : ShapedP t) (hr : Rd E w) (hO : Om w E.q inp fv lv mv n0 ev bv) (ho : t.fld.op = 5) :
    Calls Try.prog 39 #[ptrV E.q, .pointer (some ⟨pb, po, none⟩), f.v] w (LayPost E f KK (.look fun i => bits .and .i64 (atOf E.R i) t.fld.at' != 0) inp fv lv mv n0 ev bv w) := by
  obtain ⟨w1, hw1, b1, hb1, hs1⟩ := new_box w 77 (.pointer (some ⟨pb, po, none⟩))
  have hr1 := hr.then hb1
  have hO1 := hO.below hb1 hO.lt
  obtain ⟨kv, sv, ⟨d0, d1, d2, d3, d4, d5, d6, d7, d8, d9⟩, hkp, hsp, -⟩ := hT.ten hr1
  rw [ho] at d0
  have c1 := (b1.cell 0).trans (rfl : _ = some (Value.pointer (some ⟨pb, po, none⟩)))
  have hmf := mkf
  have HP := Lib.hid (dstand_any E.q t.fld.at' f w1)
  have HW := Lib.hid hw1; have HB := Lib.hid hb1; have HO := Lib.hid hO; have HB1 := Lib.hid b1; have HT := Lib.hid hT; have HS := Lib.hid hs; have HQ0 := Lib.hid hO.lt; have HFI := Lib.hid hfit; have HS1 := Lib.hid hs1
  obtain ⟨g, ff, fc⟩ := f
  clear hw1 hb1 hO b1 hT hs hr hs1 hfit d1 d2 d3 d5 d6 d7 d8 d9 hr1 hO1 hkp hsp ho
  go_enter Try.func39, Try.ntmps39
  go_upto_region 1 with (fail)
  rw [HW.out]
  go_wp2_with fail
  refine HP.out.mono ?_
  rintro e w4 ⟨b, he, h⟩
  obtain rfl : e = .returned (.func (.func 114) #[] #[ptrV b, ptrV (b + 1), ptrV (b + 2)]) := he
  have H := Lib.hid h
  clear h
  go_wp2_with fail
  go_ret
  obtain ⟨k1, k2, k3, k4, k5⟩ := H.out
  have l3 := k3.lt
  have hs1 := HS1.out
  exact laid_one (v := ⟨_, _, _⟩) HB.out k5 HO.out rfl (fn_ne (by decide)) (.stand (t := ⟨g, ff, fc⟩) (bx_new k1 (by omega) (by omega)) (bx_new k2 (by omega) (by omega)) (bx_new k3 (by omega) (by omega)) (.base (.inr ⟨rfl, rfl⟩)))

set_option maxHeartbeats 1600000 in
theorem dlay_cap (E : Env) (x : Q) (hL : LayOf E x) (cn : Nat) (k : Tr) (pb po : Nat) (t : Tr) (f : Fv) (KK : Ks) (inp fv lv mv : Value) (n0 : Nat) (ev bv : Value) (w : World) [hfit : Nonempty (FitOk E fv)] (hT : TP E.w0 pb po t) (hs : ShapedP t) (hr : Rd E w) (hO : Om w E.q inp fv lv mv n0 ev bv) (ho : t.fld.op = 6) (hcn : t.fld.cap = cn) (hc : cn ≤ E.G) (hk : t.kids = [k]) (hsk : ShapedP k) (hM : Mat E.R E.G k x) (hn : n0 + (idsQ x).length ≤ 100000000) :
    Calls Try.prog 39 #[ptrV E.q, .pointer (some ⟨pb, po, none⟩), f.v] w (LayPost E f KK (.cap cn x) inp fv lv mv n0 ev bv w) := by
  obtain ⟨w1, hw1, b1, hb1, hs1⟩ := new_box w 77 (.pointer (some ⟨pb, po, none⟩))
  have hr1 := hr.then hb1
  have hO1 := hO.below hb1 hO.lt
  obtain ⟨kv, sv, ⟨d0, d1, d2, d3, d4, d5, d6, d7, d8, d9⟩, hkp, hsp, -⟩ := hT.ten hr1
  rw [ho] at d0
  have c1 := (b1.cell 0).trans (rfl : _ = some (Value.pointer (some ⟨pb, po, none⟩)))
  have hmf := mkf
  have HP := Lib.hid (dgroup_cap E x hL pb po t k f KK inp fv lv mv n0 ev bv w1 hT hk hsk hM cn hcn hc (by have := shaped_cap hs ho; omega) hr1 hO1 hn)
  have HW := Lib.hid hw1; have HB := Lib.hid hb1; have HO := Lib.hid hO; have HB1 := Lib.hid b1; have HT := Lib.hid hT; have HS := Lib.hid hs; have HQ0 := Lib.hid hO.lt; have HFI := Lib.hid hfit; have HS1 := Lib.hid hs1
  obtain ⟨g, ff, fc⟩ := f
  clear hw1 hb1 hO b1 hT hs hr hs1 hfit d1 d2 d3 d4 d5 d6 d7 d8 d9 hr1 hO1 hkp hsp ho hk hsk hM hn hL hcn hc
  go_enter Try.func39, Try.ntmps39
  go_upto_region 1 with (fail)
  rw [HW.out]
  go_wp2_with fail
  refine HP.out.mono ?_
  intro e w4 hp
  obtain ⟨⟨vg, vf, vc⟩, he, H⟩ := lay_value hp
  obtain rfl : e = .returned (.func vg vf vc) := he
  replace H := Lib.hid H
  clear hp
  go_wp2_with fail
  go_ret
  exact lay_from HB.out H.out

set_option maxHeartbeats 1600000 in
theorem dlay_bare (E : Env) (x : Q) (k : Tr) (pb po : Nat) (t : Tr) (f : Fv) (KK : Ks) (inp fv lv mv : Value) (n0 : Nat) (ev bv : Value) (w : World) [hfit : Nonempty (FitOk E fv)] (hT : TP E.w0 pb po t) (hs : ShapedP t) (hr : Rd E w) (hO : Om w E.q inp fv lv mv n0 ev bv) (hL : LayAt E x k) (ho : t.fld.op = 6) (hc : (E.G : Int) < t.fld.cap) (hk : t.kids = [k]) (hsk : ShapedP k) (hM : Mat E.R E.G k x) (hn : n0 + (idsQ x).length ≤ 100000000) :
    Calls Try.prog 39 #[ptrV E.q, .pointer (some ⟨pb, po, none⟩), f.v] w (LayPost E f KK x inp fv lv mv n0 ev bv w) := by
  obtain ⟨w1, hw1, b1, hb1, hs1⟩ := new_box w 77 (.pointer (some ⟨pb, po, none⟩))
  have hr1 := hr.then hb1
  have hO1 := hO.below hb1 hO.lt
  obtain ⟨kv, sv, ⟨d0, d1, d2, d3, d4, d5, d6, d7, d8, d9⟩, hkp, hsp, -⟩ := hT.ten hr1
  rw [ho] at d0
  have c1 := (b1.cell 0).trans (rfl : _ = some (Value.pointer (some ⟨pb, po, none⟩)))
  have hmf := mkf
  have HP := Lib.hid (dgroup_bare E x t k hL pb po f KK inp fv lv mv n0 ev bv w1 hT hk hsk hM hc hr1 hO1 hn)
  have HW := Lib.hid hw1; have HB := Lib.hid hb1; have HO := Lib.hid hO; have HB1 := Lib.hid b1; have HT := Lib.hid hT; have HS := Lib.hid hs; have HQ0 := Lib.hid hO.lt; have HFI := Lib.hid hfit; have HS1 := Lib.hid hs1
  obtain ⟨g, ff, fc⟩ := f
  clear hw1 hb1 hO b1 hT hs hr hs1 hfit d1 d2 d3 d4 d5 d6 d7 d8 d9 hr1 hO1 hkp hsp ho hk hsk hM hn hL hc
  go_enter Try.func39, Try.ntmps39
  go_upto_region 1 with (fail)
  rw [HW.out]
  go_wp2_with fail
  refine HP.out.mono ?_
  intro e w4 hp
  obtain ⟨⟨vg, vf, vc⟩, he, H⟩ := lay_value hp
  obtain rfl : e = .returned (.func vg vf vc) := he
  replace H := Lib.hid H
  clear hp
  go_wp2_with fail
  go_ret
  exact lay_from HB.out H.out

set_option maxHeartbeats 1600000 in
theorem dlay_star (E : Env) (a : Nat) (x : Q) (hL : LayOf E x) (k : Tr) (pb po : Nat) (t : Tr) (f : Fv) (KK : Ks) (inp fv lv mv : Value) (n0 : Nat) (ev bv : Value) (w : World) [hfit : Nonempty (FitOk E fv)] (hT : TP E.w0 pb po t) (hs : ShapedP t) (hr : Rd E w) (hO : Om w E.q inp fv lv mv n0 ev bv) (ho : t.fld.op = 7) (hk : t.kids = [k]) (hsk : ShapedP k) (hM : Mat E.R E.G k x) (hn : n0 + (idsQ (.star a t.fld.lazy x)).length ≤ 100000000) :
    Calls Try.prog 39 #[ptrV E.q, .pointer (some ⟨pb, po, none⟩), f.v] w (LayPost E f KK (.star a t.fld.lazy x) inp fv lv mv n0 ev bv w) := by
  obtain ⟨w1, hw1, b1, hb1, hs1⟩ := new_box w 77 (.pointer (some ⟨pb, po, none⟩))
  have hr1 := hr.then hb1
  have hO1 := hO.below hb1 hO.lt
  obtain ⟨kv, sv, ⟨d0, d1, d2, d3, d4, d5, d6, d7, d8, d9⟩, hkp, hsp, -⟩ := hT.ten hr1
  rw [ho] at d0
  have c1 := (b1.cell 0).trans (rfl : _ = some (Value.pointer (some ⟨pb, po, none⟩)))
  have hmf := mkf
  have HP := Lib.hid (dstar_any E a x hL pb po t k f KK inp fv lv mv n0 ev bv w1 hT hk hsk hM hr1 hO1 hn)
  have HW := Lib.hid hw1; have HB := Lib.hid hb1; have HO := Lib.hid hO; have HB1 := Lib.hid b1; have HT := Lib.hid hT; have HS := Lib.hid hs; have HQ0 := Lib.hid hO.lt; have HFI := Lib.hid hfit; have HS1 := Lib.hid hs1
  obtain ⟨g, ff, fc⟩ := f
  clear hw1 hb1 hO b1 hT hs hr hs1 hfit d1 d2 d3 d4 d5 d6 d7 d8 d9 hr1 hO1 hkp hsp ho hk hsk hM hn hL
  go_enter Try.func39, Try.ntmps39
  go_upto_region 1 with (fail)
  rw [HW.out]
  go_wp2_with fail
  refine HP.out.mono ?_
  intro e w4 hp
  obtain ⟨⟨vg, vf, vc⟩, he, H⟩ := lay_value hp
  obtain rfl : e = .returned (.func vg vf vc) := he
  replace H := Lib.hid H
  clear hp
  go_wp2_with fail
  go_ret
  exact lay_from HB.out H.out

set_option maxHeartbeats 1600000 in
theorem dlay_plus (E : Env) (a a' : Nat) (x : Q) (hL : LayOf E x) (k : Tr) (pb po : Nat) (t : Tr) (f : Fv) (KK : Ks) (inp fv lv mv : Value) (n0 : Nat) (ev bv : Value) (w : World) [hfit : Nonempty (FitOk E fv)] (hT : TP E.w0 pb po t) (hs : ShapedP t) (hr : Rd E w) (hO : Om w E.q inp fv lv mv n0 ev bv) (ho : t.fld.op = 8) (hk : t.kids = [k]) (hsk : ShapedP k) (hM : Mat E.R E.G k x) (hn : n0 + (idsQ (.plus a a' t.fld.lazy x)).length ≤ 100000000) :
    Calls Try.prog 39 #[ptrV E.q, .pointer (some ⟨pb, po, none⟩), f.v] w (LayPost E f KK (.plus a a' t.fld.lazy x) inp fv lv mv n0 ev bv w) := by
  obtain ⟨w1, hw1, b1, hb1, hs1⟩ := new_box w 77 (.pointer (some ⟨pb, po, none⟩))
  have hr1 := hr.then hb1
  have hO1 := hO.below hb1 hO.lt
  obtain ⟨kv, sv, ⟨d0, d1, d2, d3, d4, d5, d6, d7, d8, d9⟩, hkp, hsp, -⟩ := hT.ten hr1
  rw [ho] at d0
  have c1 := (b1.cell 0).trans (rfl : _ = some (Value.pointer (some ⟨pb, po, none⟩)))
  have hmf := mkf
  have HP := Lib.hid (dplus_any E a a' x hL pb po t k f KK inp fv lv mv n0 ev bv w1 hT hk hsk hM hr1 hO1 hn)
  have HW := Lib.hid hw1; have HB := Lib.hid hb1; have HO := Lib.hid hO; have HB1 := Lib.hid b1; have HT := Lib.hid hT; have HS := Lib.hid hs; have HQ0 := Lib.hid hO.lt; have HFI := Lib.hid hfit; have HS1 := Lib.hid hs1
  obtain ⟨g, ff, fc⟩ := f
  clear hw1 hb1 hO b1 hT hs hr hs1 hfit d1 d2 d3 d4 d5 d6 d7 d8 d9 hr1 hO1 hkp hsp ho hk hsk hM hn hL
  go_enter Try.func39, Try.ntmps39
  go_upto_region 1 with (fail)
  rw [HW.out]
  go_wp2_with fail
  refine HP.out.mono ?_
  intro e w4 hp
  obtain ⟨⟨vg, vf, vc⟩, he, H⟩ := lay_value hp
  obtain rfl : e = .returned (.func vg vf vc) := he
  replace H := Lib.hid H
  clear hp
  go_wp2_with fail
  go_ret
  exact lay_from HB.out H.out

set_option maxHeartbeats 1600000 in
theorem dlay_cat (E : Env) (x : Q) (hL : ∀ y : Q, SizeOf.sizeOf y < SizeOf.sizeOf x → LayOf E y) (pb po : Nat) (t : Tr) (f : Fv) (KK : Ks) (inp fv lv mv : Value) (n0 : Nat) (ev bv : Value) (w : World) [hfit : Nonempty (FitOk E fv)] (hT : TP E.w0 pb po t) (hs : ShapedP t) (hr : Rd E w) (hO : Om w E.q inp fv lv mv n0 ev bv) (ho : t.fld.op = 11) (hks : ∀ k ∈ t.kids, ShapedP k) (hM : RowM (Mat E.R E.G) t.kids x) (hn : n0 + (idsQ x).length ≤ 100000000) :
    Calls Try.prog 39 #[ptrV E.q, .pointer (some ⟨pb, po, none⟩), f.v] w (LayPost E f KK x inp fv lv mv n0 ev bv w) := by
  obtain ⟨w1, hw1, b1, hb1, hs1⟩ := new_box w 77 (.pointer (some ⟨pb, po, none⟩))
  have hr1 := hr.then hb1
  have hO1 := hO.below hb1 hO.lt
  obtain ⟨kv, sv, ⟨d0, d1, d2, d3, d4, d5, d6, d7, d8, d9⟩, hkp, hsp, -⟩ := hT.ten hr1
  rw [ho] at d0
  have c1 := (b1.cell 0).trans (rfl : _ = some (Value.pointer (some ⟨pb, po, none⟩)))
  have hmf := mkf
  have HP := Lib.hid (drow_any E x hL kv t.kids f KK inp fv lv mv n0 ev bv w1 hkp hks hM hr1 hO1 hn)
  obtain ⟨A, c, rfl, -⟩ := hkp
  have HW := Lib.hid hw1; have HB := Lib.hid hb1; have HO := Lib.hid hO; have HB1 := Lib.hid b1; have HT := Lib.hid hT; have HS := Lib.hid hs; have HQ0 := Lib.hid hO.lt; have HFI := Lib.hid hfit; have HS1 := Lib.hid hs1
  obtain ⟨g, ff, fc⟩ := f
  clear hw1 hb1 hO b1 hT hs hr hs1 hfit d2 d3 d4 d5 d6 d7 d8 d9 hr1 hO1 hsp ho hks hM hn hL
  go_enter Try.func39, Try.ntmps39
  go_upto_region 1 with (fail)
  rw [HW.out]
  go_wp2_with fail
  refine HP.out.mono ?_
  intro e w4 hp
  obtain ⟨⟨vg, vf, vc⟩, he, H⟩ := lay_value hp
  obtain rfl : e = .returned (.func vg vf vc) := he
  replace H := Lib.hid H
  clear hp
  go_wp2_with fail
  go_ret
  exact lay_from HB.out H.out

set_option maxHeartbeats 1600000 in
theorem dlay_alt (E : Env) (x : Q) (hL : ∀ y : Q, SizeOf.sizeOf y < SizeOf.sizeOf x → LayOf E y) (pb po : Nat) (t : Tr) (f : Fv) (KK : Ks) (inp fv lv mv : Value) (n0 : Nat) (ev bv : Value) (w : World) [hfit : Nonempty (FitOk E fv)] (hT : TP E.w0 pb po t) (hs : ShapedP t) (hr : Rd E w) (hO : Om w E.q inp fv lv mv n0 ev bv) (ho : t.fld.op = 12) (hks : ∀ k ∈ t.kids, ShapedP k) (hM : AltM (Mat E.R E.G) t.kids x) (hn : n0 + (idsQ x).length ≤ 100000000) :
    Calls Try.prog 39 #[ptrV E.q, .pointer (some ⟨pb, po, none⟩), f.v] w (LayPost E f KK x inp fv lv mv n0 ev bv w) := by
  obtain ⟨w1, hw1, b1, hb1, hs1⟩ := new_box w 77 (.pointer (some ⟨pb, po, none⟩))
  have hr1 := hr.then hb1
  have hO1 := hO.below hb1 hO.lt
  obtain ⟨kv, sv, ⟨d0, d1, d2, d3, d4, d5, d6, d7, d8, d9⟩, hkp, hsp, -⟩ := hT.ten hr1
  rw [ho] at d0
  have c1 := (b1.cell 0).trans (rfl : _ = some (Value.pointer (some ⟨pb, po, none⟩)))
  have hmf := mkf
  have HP := Lib.hid (dchoice_any E x hL kv t.kids f KK inp fv lv mv n0 ev bv w1 hkp hks hM hr1 hO1 hn)
  obtain ⟨A, c, rfl, -⟩ := hkp
  have HW := Lib.hid hw1; have HB := Lib.hid hb1; have HO := Lib.hid hO; have HB1 := Lib.hid b1; have HT := Lib.hid hT; have HS := Lib.hid hs; have HQ0 := Lib.hid hO.lt; have HFI := Lib.hid hfit; have HS1 := Lib.hid hs1
  obtain ⟨g, ff, fc⟩ := f
  clear hw1 hb1 hO b1 hT hs hr hs1 hfit d2 d3 d4 d5 d6 d7 d8 d9 hr1 hO1 hsp ho hks hM hn hL
  go_enter Try.func39, Try.ntmps39
  go_upto_region 1 with (fail)
  rw [HW.out]
  go_wp2_with fail
  refine HP.out.mono ?_
  intro e w4 hp
  obtain ⟨⟨vg, vf, vc⟩, he, H⟩ := lay_value hp
  obtain rfl : e = .returned (.func vg vf vc) := he
  replace H := Lib.hid H
  clear hp
  go_wp2_with fail
  go_ret
  exact lay_from HB.out H.out

theorem lay_grows {E : Env} {f : Fv} {KK : Ks} {x : Q} {inp fv lv mv : Value} {n0 : Nat} {ev bv : Value} {w w' : World} {e : Ending} (h : LayPost E f KK x inp fv lv mv n0 ev bv w e w') : w.grownBy w' (some E.q) := by
  obtain ⟨v, N, T, Z, -, hl, -⟩ := h
  exact hl.grown
theorem lay_om2 {E : Env} {f : Fv} {KK : Ks} {x : Q} {inp fv lv mv : Value} {n0 : Nat} {ev bv : Value} {w w' : World} {e : Ending} (h : LayPost E f KK x inp fv lv mv n0 ev bv w e w') : ∃ cs, Whole w' E.q 82 cs := by
  obtain ⟨v, N, T, Z, -, -, ho⟩ := h
  exact ⟨_, ho⟩
theorem lay_om {E : Env} {f : Fv} {KK : Ks} {x : Q} {inp fv lv mv : Value} {n0 : Nat} {ev bv : Value} {w w' : World} {e : Ending} (h : LayPost E f KK x inp fv lv mv n0 ev bv w e w') : ∃ cs, Whole w' E.q 82 cs := lay_om2 h
theorem lay_from2 {E : Env} {f : Fv} {KK : Ks} {x : Q} {inp fv lv mv : Value} {n0 : Nat} {ev bv : Value} {w w1 w2 w' : World} {e : Ending} (h1 : Below w.heap.size w w1) (h2 : Below w1.heap.size w1 w2) (h : LayPost E f KK x inp fv lv mv n0 ev bv w2 e w') : LayPost E f KK x inp fv lv mv n0 ev bv w e w' := lay_from (below_two h1 h2) h
set_option maxHeartbeats 3200000 in
theorem dlay_rep (E : Env) (x : Q) (hREP : DRepOf E x) (k : Tr) (pb po : Nat) (t : Tr) (f : Fv) (KK : Ks) (inp fv lv mv : Value) (n0 : Nat) (ev bv : Value) (w : World) [hfit : Nonempty (FitOk E fv)] (hT : TP E.w0 pb po t) (hs : ShapedP t) (hr : Rd E w) (hO : Om w E.q inp fv lv mv n0 ev bv) (ho : t.fld.op = 10) (hk : t.kids = [k]) (hsk : ShapedP k) (hM : RepM (Mat E.R E.G k) (k.kids = []) t.fld.lazy t.fld.min t.fld.max x) (hn : n0 + (idsQ x).length ≤ 100000000) :
    Calls Try.prog 39 #[ptrV E.q, .pointer (some ⟨pb, po, none⟩), f.v] w (LayPost E f KK x inp fv lv mv n0 ev bv w) := by
  obtain ⟨w1, hw1, b1, hb1, hs1⟩ := new_box w 77 (.pointer (some ⟨pb, po, none⟩))
  have hr1 := hr.then hb1
  have hO1 := hO.below hb1 hO.lt
  obtain ⟨kv, sv, ⟨d0, d1, d2, d3, d4, d5, d6, d7, d8, d9⟩, hkp, hsp, -⟩ := hT.ten hr1
  rw [ho] at d0
  have c1 := (b1.cell 0).trans (rfl : _ = some (Value.pointer (some ⟨pb, po, none⟩)))
  have hmf := mkf
  have HREP := Lib.hid hREP; have HK := Lib.hid hk; have HSK := Lib.hid hsk; have HM := Lib.hid hM; have HN := Lib.hid hn; have HOP := Lib.hid ho; have HR1 := Lib.hid hr1; have HOM := Lib.hid hO1
  have HW := Lib.hid hw1; have HB := Lib.hid hb1; have HO := Lib.hid hO; have HB1 := Lib.hid b1; have HT := Lib.hid hT; have HS := Lib.hid hs; have HQ0 := Lib.hid hO.lt; have HFI := Lib.hid hfit; have HS1 := Lib.hid hs1
  obtain ⟨g, ff, fc⟩ := f
  clear hw1 hb1 hO b1 hT hs hr hs1 hfit d1 d2 d3 d4 d5 d6 d9 hr1 hO1 hkp hsp ho hk hsk hM hn hREP
  go_enter Try.func39, Try.ntmps39
  go_upto_region 1 with (fail)
  rw [HW.out]
  go_wp2_with fail
  have n1 : some w.heap.size ≠ some E.q := fun e => by have := Option.some.inj e; have := HQ0.out; omega
  have n2 : some pb ≠ some E.q := fun e => by have := Option.some.inj e; have := HR1.out.q; have := TP_lt HT.out; omega
  have HQ := Lib.hid (show E.q < w1.heap.size from HOM.out.lt)
  go_upto_region 21 with (fail)
  refine wp_region_held_drew (S := fun w' => w1.grownBy w' (some E.q)) (by kernel_rfl) (below_grown ((Below.refl _ _).drew)) (fun hHeld => ?_)
  obtain ⟨u0, hu0⟩ : ∃ x, w1.drew = x := ⟨_, rfl⟩
  rw [hu0] at hHeld ⊢
  have HG0 := Lib.hid hHeld; have HS0 := Lib.hid (show u0.heap.size = w1.heap.size by rw [← hu0]; rfl)
  have HOM0 := Lib.hid (show Whole u0 E.q _ _ by rw [← hu0]; exact HOM.out)
  have HU0 := Lib.hid (show Below w1.heap.size w1 u0 by rw [← hu0]; exact (Below.refl _ _).drew)
  clear hu0
  refine wpAnyH_take (i := 0) (oi := _) (v := ?_) rfl (by kernel_rfl) (by kernel_rfl) (by kernel_rfl) (fun _ _ _ h => h) (Or.inl ⟨by rfl, ?_⟩) hHeld ?_
  rotate_left 1
  · (intro w hSw; (try dsimp only at hSw); have e0 := hSw.cell c1 n1; have e1 := hSw.cell d7 n2; have e2 := hSw.cell d8 n2; go_simp; (try with_reducible rfl))
  try simp only [List.getElem_toArray, List.getElem_cons_zero, Act.put, List.setIfInBounds_toArray, List.set_cons_zero, List.set_cons_succ]
  refine wpAnyH_take (i := 1) (oi := _) (v := ?_) rfl (by kernel_rfl) (by kernel_rfl) (by kernel_rfl) (fun _ _ _ h => h) (Or.inl ⟨by rfl, ?_⟩) hHeld ?_
  rotate_left 1
  · (intro w hSw; (try dsimp only at hSw); have e0 := hSw.cell c1 n1; have e1 := hSw.cell d7 n2; have e2 := hSw.cell d8 n2; go_simp; (try with_reducible rfl))
  try simp only [List.getElem_toArray, List.getElem_cons_zero, List.getElem_cons_succ, Act.put, List.setIfInBounds_toArray, List.set_cons_zero, List.set_cons_succ]
  refine wpAnyH_take (i := 2) (oi := _) (v := ?_) rfl (by kernel_rfl) (by kernel_rfl) (by kernel_rfl) (fun _ _ _ h => h) (Or.inl ⟨by rfl, ?_⟩) hHeld ?_
  rotate_left 1
  · (intro w hSw; (try dsimp only at hSw); have e0 := hSw.cell c1 n1; have e1 := hSw.cell d7 n2; have e2 := hSw.cell d8 n2; go_simp; (try with_reducible rfl))
  try simp only [List.getElem_toArray, List.getElem_cons_zero, List.getElem_cons_succ, Act.put, List.setIfInBounds_toArray, List.set_cons_zero, List.set_cons_succ]
  refine wpAnyH_take (i := 3) (oi := _) (v := ?_) rfl (by kernel_rfl) (by kernel_rfl) (by kernel_rfl) (fun _ _ _ h => h) (Or.inl ⟨by rfl, ?_⟩) hHeld ?_
  rotate_left 1
  · (intro w hSw; (try dsimp only at hSw); have e0 := hSw.cell c1 n1; have e1 := hSw.cell d7 n2; have e2 := hSw.cell d8 n2; go_simp; (try with_reducible rfl))
  try simp only [List.getElem_toArray, List.getElem_cons_zero, List.getElem_cons_succ, Act.put, List.setIfInBounds_toArray, List.set_cons_zero, List.set_cons_succ]
  refine wpAnyH_take (i := 4) (oi := _) (v := ?_) rfl (by kernel_rfl) (by kernel_rfl) (by kernel_rfl) (fun _ _ _ h => h) (Or.inl ⟨by rfl, ?_⟩) hHeld ?_
  rotate_left 1
  · (intro w hSw; (try dsimp only at hSw); have e0 := hSw.cell c1 n1; have e1 := hSw.cell d7 n2; have e2 := hSw.cell d8 n2; go_simp; (try with_reducible rfl))
  try simp only [List.getElem_toArray, List.getElem_cons_zero, List.getElem_cons_succ, Act.put, List.setIfInBounds_toArray, List.set_cons_zero, List.set_cons_succ]
  refine wpAnyH_take (i := 5) (oi := _) (v := ?_) rfl (by kernel_rfl) (by kernel_rfl) (by kernel_rfl) (fun _ _ _ h => h) (Or.inl ⟨by rfl, ?_⟩) hHeld ?_
  rotate_left 1
  · (intro w hSw; (try dsimp only at hSw); have e0 := hSw.cell c1 n1; have e1 := hSw.cell d7 n2; have e2 := hSw.cell d8 n2; go_simp; (try with_reducible rfl))
  try simp only [List.getElem_toArray, List.getElem_cons_zero, List.getElem_cons_succ, Act.put, List.setIfInBounds_toArray, List.set_cons_zero, List.set_cons_succ]
  refine wpAnyH_take (i := 6) (oi := _) (v := ?_) rfl (by kernel_rfl) (by kernel_rfl) (by kernel_rfl) (fun _ _ _ h => h) (Or.inl ⟨by rfl, ?_⟩) hHeld ?_
  rotate_left 1
  · (intro w hSw; (try dsimp only at hSw); have e0 := hSw.cell c1 n1; have e1 := hSw.cell d7 n2; have e2 := hSw.cell d8 n2; go_simp; (try with_reducible rfl))
  try simp only [List.getElem_toArray, List.getElem_cons_zero, List.getElem_cons_succ, Act.put, List.setIfInBounds_toArray, List.set_cons_zero, List.set_cons_succ]
  refine wpAnyH_take (i := 7) (oi := _) (v := ?_) rfl (by kernel_rfl) (by kernel_rfl) (by kernel_rfl) (fun _ _ _ h => h) (Or.inl ⟨by rfl, ?_⟩) hHeld ?_
  rotate_left 1
  · (intro w hSw; (try dsimp only at hSw); have e0 := hSw.cell c1 n1; have e1 := hSw.cell d7 n2; have e2 := hSw.cell d8 n2; go_simp; (try with_reducible rfl))
  try simp only [List.getElem_toArray, List.getElem_cons_zero, List.getElem_cons_succ, Act.put, List.setIfInBounds_toArray, List.set_cons_zero, List.set_cons_succ]
  refine wpAnyH_take (i := 8) (oi := _) (v := ?_) rfl (by kernel_rfl) (by kernel_rfl) (by kernel_rfl) (fun _ _ _ h => h) (Or.inl ⟨by rfl, ?_⟩) hHeld ?_
  rotate_left 1
  · (intro w hSw; (try dsimp only at hSw); have e0 := hSw.cell c1 n1; have e1 := hSw.cell d7 n2; have e2 := hSw.cell d8 n2; go_simp; (try with_reducible rfl))
  try simp only [List.getElem_toArray, List.getElem_cons_zero, List.getElem_cons_succ, Act.put, List.setIfInBounds_toArray, List.set_cons_zero, List.set_cons_succ]
  refine wpAnyH_take (i := 9) (oi := _) (v := ?_) rfl (by kernel_rfl) (by kernel_rfl) (by kernel_rfl) (fun _ _ _ h => h) (Or.inl ⟨by rfl, ?_⟩) hHeld ?_
  rotate_left 1
  · (intro w hSw; (try dsimp only at hSw); have e0 := hSw.cell c1 n1; have e1 := hSw.cell d7 n2; have e2 := hSw.cell d8 n2; go_simp; (try with_reducible rfl))
  try simp only [List.getElem_toArray, List.getElem_cons_zero, List.getElem_cons_succ, Act.put, List.setIfInBounds_toArray, List.set_cons_zero, List.set_cons_succ]
  refine wpAnyH_take (i := 10) (oi := _) (v := ?_) rfl (by kernel_rfl) (by kernel_rfl) (by kernel_rfl) (fun _ _ _ h => h) (Or.inl ⟨by rfl, ?_⟩) hHeld ?_
  rotate_left 1
  · (intro w hSw; (try dsimp only at hSw); have e0 := hSw.cell c1 n1; have e1 := hSw.cell d7 n2; have e2 := hSw.cell d8 n2; go_simp; (try with_reducible rfl))
  try simp only [List.getElem_toArray, List.getElem_cons_zero, List.getElem_cons_succ, Act.put, List.setIfInBounds_toArray, List.set_cons_zero, List.set_cons_succ]
  refine wpAnyH_ready (rs := [11]) (by kernel_rfl) (by simp) ?_
  refine AllReadyH.cons (o := _) rfl (fun K hK => ?_) ?_
  · go_simp
    have hFI := HFI.out
    have HCL := Lib.hid (HREP.out pb po t k t.fld.min t.fld.max ⟨g, ff, fc⟩ KK inp fv lv mv n0 ev bv u0 HT.out HK.out HSK.out HM.out (shaped_rep HS.out HOP.out) (HR1.out.grown HG0.out) HOM0.out HN.out)
    refine HCL.out.mono ?_
    intro e u1 hp
    obtain ⟨⟨vg, vf, vc⟩, he, H⟩ := lay_value hp
    obtain rfl : e = .returned (.func vg vf vc) := he
    have hb := lay_grows H; have hom := lay_om H
    have HFIN := Lib.hid (lay_from2 HB.out HU0.out H)
    clear hp H hFI HCL
    have HG1 := Lib.hid (grown_trans HG0.out hb); have HS1 := Lib.hid hb.size
    have HOM1 := Lib.hid hom
    clear hom
    clear hb
    go_wp2_with fail
    refine hK.out _ _ HG1.out (fun hHeld => ?_)
    clear hK K
    try simp only [List.getElem_toArray, List.getElem_cons_zero, List.getElem_cons_succ, Act.put, List.setIfInBounds_toArray, List.set_cons_zero, List.set_cons_succ]
    refine wpAnyH_take (i := 12) (oi := _) (v := ?_) rfl (by kernel_rfl) (by kernel_rfl) (by kernel_rfl) (fun _ _ _ h => h) (Or.inl ⟨by rfl, ?_⟩) hHeld ?_
    rotate_left 1
    · (intro w hSw; (try dsimp only at hSw); have e0 := hSw.cell c1 n1; have e1 := hSw.cell d7 n2; have e2 := hSw.cell d8 n2; go_simp; (try with_reducible rfl))
    try simp only [List.getElem_toArray, List.getElem_cons_zero, List.getElem_cons_succ, Act.put, List.setIfInBounds_toArray, List.set_cons_zero, List.set_cons_succ]
    refine wpAnyH_done (by kernel_rfl) ?_ _
    go_wp2_with fail
    go_ret
    exact HFIN.out
  exact AllReadyH.nil

set_option maxHeartbeats 3200000 in
theorem dlay_quest (E : Env) (x : Q) (hL : LayOf E x) (k : Tr) (pb po : Nat) (t : Tr) (f : Fv) (KK : Ks) (inp fv lv mv : Value) (n0 : Nat) (ev bv : Value) (w : World) [hfit : Nonempty (FitOk E fv)] (hT : TP E.w0 pb po t) (hs : ShapedP t) (hr : Rd E w) (hO : Om w E.q inp fv lv mv n0 ev bv) (ho : t.fld.op = 9) (hk : t.kids = [k]) (hsk : ShapedP k) (hM : Mat E.R E.G k x) (hn : n0 + (idsQ x).length ≤ 100000000) :
    Calls Try.prog 39 #[ptrV E.q, .pointer (some ⟨pb, po, none⟩), f.v] w (LayPost E f KK (.quest t.fld.lazy x) inp fv lv mv n0 ev bv w) := by
  obtain ⟨w1, hw1, b1, hb1, hs1⟩ := new_box w 77 (.pointer (some ⟨pb, po, none⟩))
  have hr1 := hr.then hb1
  have hO1 := hO.below hb1 hO.lt
  obtain ⟨kv, sv, ⟨d0, d1, d2, d3, d4, d5, d6, d7, d8, d9⟩, hkp, hsp, -⟩ := hT.ten hr1
  rw [ho] at d0
  have c1 := (b1.cell 0).trans (rfl : _ = some (Value.pointer (some ⟨pb, po, none⟩)))
  have hmf := mkf
  rw [hk] at hkp
  obtain ⟨kb, ko, kc, rfl, hkt⟩ := hkp.one
  have hkc : (0 : Int) < (([k] : List Tr).length : Nat) := by simp
  have HL := Lib.hid hL; have HKT := Lib.hid hkt; have HSK := Lib.hid hsk; have HM := Lib.hid hM; have HN := Lib.hid hn; have HR1 := Lib.hid hr1; have HOM := Lib.hid hO1
  have HW := Lib.hid hw1; have HB := Lib.hid hb1; have HO := Lib.hid hO; have HB1 := Lib.hid b1; have HT := Lib.hid hT; have HS := Lib.hid hs; have HQ0 := Lib.hid hO.lt; have HFI := Lib.hid hfit; have HS1 := Lib.hid hs1
  obtain ⟨g, ff, fc⟩ := f
  clear hw1 hb1 hO b1 hT hs hr hs1 hfit d2 d3 d4 d5 d6 d7 d8 hr1 hO1 hkp hkt hsp ho hk hsk hM hn hL
  go_enter Try.func39, Try.ntmps39
  go_upto_region 1 with (fail)
  rw [HW.out]
  go_wp2_with fail
  have n1 : some w.heap.size ≠ some E.q := fun e => by have := Option.some.inj e; have := HQ0.out; omega
  have n2 : some pb ≠ some E.q := fun e => by have := Option.some.inj e; have := HR1.out.q; have := TP_lt HT.out; omega
  have HQ := Lib.hid (show E.q < w1.heap.size from HOM.out.lt)
  go_upto_region 19 with (fail)
  refine wp_region_held_drew (S := fun w' => w1.grownBy w' (some E.q)) (by kernel_rfl) (below_grown ((Below.refl _ _).drew)) (fun hHeld => ?_)
  obtain ⟨u0, hu0⟩ : ∃ x, w1.drew = x := ⟨_, rfl⟩
  rw [hu0] at hHeld ⊢
  have HG0 := Lib.hid hHeld; have HS0 := Lib.hid (show u0.heap.size = w1.heap.size by rw [← hu0]; rfl)
  have HOM0 := Lib.hid (show Whole u0 E.q _ _ by rw [← hu0]; exact HOM.out)
  have HU0 := Lib.hid (show Below w1.heap.size w1 u0 by rw [← hu0]; exact (Below.refl _ _).drew)
  clear hu0
  refine wpAnyH_take (i := 0) (oi := _) (v := ?_) rfl (by kernel_rfl) (by kernel_rfl) (by kernel_rfl) (fun _ _ _ h => h) (Or.inl ⟨by rfl, ?_⟩) hHeld ?_
  rotate_left 1
  · (intro w hSw; (try dsimp only at hSw); have e0 := hSw.cell c1 n1; have e1 := hSw.cell d9 n2; have e2 := hSw.cell d1 n2; go_simp; (try with_reducible rfl))
  try simp only [List.getElem_toArray, List.getElem_cons_zero, Act.put, List.setIfInBounds_toArray, List.set_cons_zero, List.set_cons_succ]
  refine wpAnyH_take (i := 1) (oi := _) (v := ?_) rfl (by kernel_rfl) (by kernel_rfl) (by kernel_rfl) (fun _ _ _ h => h) (Or.inl ⟨by rfl, ?_⟩) hHeld ?_
  rotate_left 1
  · (intro w hSw; (try dsimp only at hSw); have e0 := hSw.cell c1 n1; have e1 := hSw.cell d9 n2; have e2 := hSw.cell d1 n2; go_simp; (try with_reducible rfl))
  try simp only [List.getElem_toArray, List.getElem_cons_zero, List.getElem_cons_succ, Act.put, List.setIfInBounds_toArray, List.set_cons_zero, List.set_cons_succ]
  refine wpAnyH_take (i := 2) (oi := _) (v := ?_) rfl (by kernel_rfl) (by kernel_rfl) (by kernel_rfl) (fun _ _ _ h => h) (Or.inl ⟨by rfl, ?_⟩) hHeld ?_
  rotate_left 1
  · (intro w hSw; (try dsimp only at hSw); have e0 := hSw.cell c1 n1; have e1 := hSw.cell d9 n2; have e2 := hSw.cell d1 n2; go_simp; (try with_reducible rfl))
  try simp only [List.getElem_toArray, List.getElem_cons_zero, List.getElem_cons_succ, Act.put, List.setIfInBounds_toArray, List.set_cons_zero, List.set_cons_succ]
  refine wpAnyH_take (i := 3) (oi := _) (v := ?_) rfl (by kernel_rfl) (by kernel_rfl) (by kernel_rfl) (fun _ _ _ h => h) (Or.inl ⟨by rfl, ?_⟩) hHeld ?_
  rotate_left 1
  · (intro w hSw; (try dsimp only at hSw); have e0 := hSw.cell c1 n1; have e1 := hSw.cell d9 n2; have e2 := hSw.cell d1 n2; go_simp; (try with_reducible rfl))
  try simp only [List.getElem_toArray, List.getElem_cons_zero, List.getElem_cons_succ, Act.put, List.setIfInBounds_toArray, List.set_cons_zero, List.set_cons_succ]
  refine wpAnyH_take (i := 4) (oi := _) (v := ?_) rfl (by kernel_rfl) (by kernel_rfl) (by kernel_rfl) (fun _ _ _ h => h) (Or.inl ⟨by rfl, ?_⟩) hHeld ?_
  rotate_left 1
  · (intro w hSw; (try dsimp only at hSw); have e0 := hSw.cell c1 n1; have e1 := hSw.cell d9 n2; have e2 := hSw.cell d1 n2; go_simp; (try with_reducible rfl))
  try simp only [List.getElem_toArray, List.getElem_cons_zero, List.getElem_cons_succ, Act.put, List.setIfInBounds_toArray, List.set_cons_zero, List.set_cons_succ]
  refine wpAnyH_take (i := 5) (oi := _) (v := ?_) rfl (by kernel_rfl) (by kernel_rfl) (by kernel_rfl) (fun _ _ _ h => h) (Or.inl ⟨by rfl, ?_⟩) hHeld ?_
  rotate_left 1
  · (intro w hSw; (try dsimp only at hSw); have e0 := hSw.cell c1 n1; have e1 := hSw.cell d9 n2; have e2 := hSw.cell d1 n2; go_simp; (try with_reducible rfl))
  try simp only [List.getElem_toArray, List.getElem_cons_zero, List.getElem_cons_succ, Act.put, List.setIfInBounds_toArray, List.set_cons_zero, List.set_cons_succ]
  refine wpAnyH_take (i := 6) (oi := _) (v := ?_) rfl (by kernel_rfl) (by kernel_rfl) (by kernel_rfl) (fun _ _ _ h => h) (Or.inl ⟨by rfl, ?_⟩) hHeld ?_
  rotate_left 1
  · (intro w hSw; (try dsimp only at hSw); have e0 := hSw.cell c1 n1; have e1 := hSw.cell d9 n2; have e2 := hSw.cell d1 n2; go_simp; (try with_reducible rfl))
  try simp only [List.getElem_toArray, List.getElem_cons_zero, List.getElem_cons_succ, Act.put, List.setIfInBounds_toArray, List.set_cons_zero, List.set_cons_succ]
  refine wpAnyH_take (i := 7) (oi := _) (v := ?_) rfl (by kernel_rfl) (by kernel_rfl) (by kernel_rfl) (fun _ _ _ h => h) (Or.inl ⟨by rfl, ?_⟩) hHeld ?_
  rotate_left 1
  · (intro w hSw; (try dsimp only at hSw); have e0 := hSw.cell c1 n1; have e1 := hSw.cell d9 n2; have e2 := hSw.cell d1 n2; go_simp; (try with_reducible rfl))
  try simp only [List.getElem_toArray, List.getElem_cons_zero, List.getElem_cons_succ, Act.put, List.setIfInBounds_toArray, List.set_cons_zero, List.set_cons_succ]
  refine wpAnyH_take (i := 8) (oi := _) (v := ?_) rfl (by kernel_rfl) (by kernel_rfl) (by kernel_rfl) (fun _ _ _ h => h) (Or.inl ⟨by rfl, ?_⟩) hHeld ?_
  rotate_left 1
  · (intro w hSw; (try dsimp only at hSw); have e0 := hSw.cell c1 n1; have e1 := hSw.cell d9 n2; have e2 := hSw.cell d1 n2; go_simp; (try with_reducible rfl))
  try simp only [List.getElem_toArray, List.getElem_cons_zero, List.getElem_cons_succ, Act.put, List.setIfInBounds_toArray, List.set_cons_zero, List.set_cons_succ]
  refine wpAnyH_take (i := 9) (oi := _) (v := ?_) rfl (by kernel_rfl) (by kernel_rfl) (by kernel_rfl) (fun _ _ _ h => h) (Or.inl ⟨by rfl, ?_⟩) hHeld ?_
  rotate_left 1
  · (intro w hSw; (try dsimp only at hSw); have e0 := hSw.cell c1 n1; have e1 := hSw.cell d9 n2; have e2 := hSw.cell d1 n2; go_simp; (try with_reducible rfl))
  try simp only [List.getElem_toArray, List.getElem_cons_zero, List.getElem_cons_succ, Act.put, List.setIfInBounds_toArray, List.set_cons_zero, List.set_cons_succ]
  refine wpAnyH_take (i := 10) (oi := _) (v := ?_) rfl (by kernel_rfl) (by kernel_rfl) (by kernel_rfl) (fun _ _ _ h => h) (Or.inl ⟨by rfl, ?_⟩) hHeld ?_
  rotate_left 1
  · (intro w hSw; (try dsimp only at hSw); have e0 := hSw.cell c1 n1; have e1 := hSw.cell d9 n2; have e2 := hSw.cell d1 n2; go_simp; (try with_reducible rfl))
  try simp only [List.getElem_toArray, List.getElem_cons_zero, List.getElem_cons_succ, Act.put, List.setIfInBounds_toArray, List.set_cons_zero, List.set_cons_succ]
  refine wpAnyH_take (i := 11) (oi := _) (v := ?_) rfl (by kernel_rfl) (by kernel_rfl) (by kernel_rfl) (fun _ _ _ h => h) (Or.inl ⟨by rfl, ?_⟩) hHeld ?_
  rotate_left 1
  · (intro w hSw; (try dsimp only at hSw); have e0 := hSw.cell c1 n1; have e1 := hSw.cell d9 n2; have e2 := hSw.cell d1 n2; go_simp; (try with_reducible rfl))
  try simp only [List.getElem_toArray, List.getElem_cons_zero, List.getElem_cons_succ, Act.put, List.setIfInBounds_toArray, List.set_cons_zero, List.set_cons_succ]
  refine wpAnyH_take (i := 13) (oi := _) (v := ?_) rfl (by kernel_rfl) (by kernel_rfl) (by kernel_rfl) (fun _ _ _ h => h) (Or.inl ⟨by rfl, ?_⟩) hHeld ?_
  rotate_left 1
  · (intro w hSw; (try dsimp only at hSw); have e0 := hSw.cell c1 n1; have e1 := hSw.cell d9 n2; have e2 := hSw.cell d1 n2; go_simp; (try with_reducible rfl))
  try simp only [List.getElem_toArray, List.getElem_cons_zero, List.getElem_cons_succ, Act.put, List.setIfInBounds_toArray, List.set_cons_zero, List.set_cons_succ]
  refine wpAnyH_ready (rs := [12]) (by kernel_rfl) (by simp) ?_
  refine AllReadyH.cons (o := _) rfl (fun K hK => ?_) ?_
  · go_simp
    have hFI := HFI.out
    have HCL := Lib.hid (HL.out kb ko k ⟨g, ff, fc⟩ KK inp fv lv mv n0 ev bv u0 HKT.out HSK.out HM.out (HR1.out.grown HG0.out) HOM0.out HN.out)
    refine HCL.out.mono ?_
    intro e u1 hp
    obtain ⟨⟨vg, vf, vc⟩, he, H⟩ := lay_value hp
    obtain rfl : e = .returned (.func vg vf vc) := he
    have hb := lay_grows H; have hom := lay_om2 H
    have HFIN := Lib.hid (lay_from2 HB.out HU0.out H)
    have HQST := Lib.hid (dquest_any E.q t.fld.lazy ⟨vg, vf, vc⟩ ⟨g, ff, fc⟩ u1)
    clear hp H hFI HCL
    have HG1 := Lib.hid (grown_trans HG0.out hb); have HS1 := Lib.hid hb.size
    have HOM1 := Lib.hid hom
    clear hom
    clear hb
    go_wp2_with fail
    refine hK.out _ _ HG1.out (fun hHeld => ?_)
    clear hK K
    try simp only [List.getElem_toArray, List.getElem_cons_zero, List.getElem_cons_succ, Act.put, List.setIfInBounds_toArray, List.set_cons_zero, List.set_cons_succ]
    refine wpAnyH_ready (rs := [14]) (by kernel_rfl) (by simp) ?_
    refine AllReadyH.cons (o := _) rfl (fun K hK => ?_) ?_
    · go_simp
      refine HQST.out.mono ?_
      rintro e u2 ⟨b8, he, hq8⟩
      obtain rfl : e = .returned (.func (.func 122) #[] #[ptrV b8, ptrV (b8 + 1), ptrV (b8 + 2), ptrV (b8 + 3)]) := he
      have hb : u1.grownBy u2 (some E.q) := below_grown hq8.2.2.2.2.2
      have hom : ∃ cs, Whole u2 E.q 82 cs := HOM1.out.imp fun _ h => h.below hq8.2.2.2.2.2 h.lt
      replace hq8 := Lib.hid hq8
      have HG2 := Lib.hid (grown_trans HG1.out hb); have HS2 := Lib.hid hb.size
      have HOM2 := Lib.hid hom
      clear hom
      clear hb
      go_wp2_with fail
      refine hK.out _ _ HG2.out (fun hHeld => ?_)
      clear hK K
      try simp only [List.getElem_toArray, List.getElem_cons_zero, List.getElem_cons_succ, Act.put, List.setIfInBounds_toArray, List.set_cons_zero, List.set_cons_succ]
      refine wpAnyH_take (i := 15) (oi := _) (v := ?_) rfl (by kernel_rfl) (by kernel_rfl) (by kernel_rfl) (fun _ _ _ h => h) (Or.inl ⟨by rfl, ?_⟩) hHeld ?_
      rotate_left 1
      · (intro w hSw; (try dsimp only at hSw); have e0 := hSw.cell c1 n1; have e1 := hSw.cell d9 n2; have e2 := hSw.cell d1 n2; go_simp; (try with_reducible rfl))
      try simp only [List.getElem_toArray, List.getElem_cons_zero, List.getElem_cons_succ, Act.put, List.setIfInBounds_toArray, List.set_cons_zero, List.set_cons_succ]
      refine wpAnyH_done (by kernel_rfl) ?_ _
      go_wp2_with fail
      go_ret
      exact quest_post HFIN.out ⟨b8, rfl, hq8.out⟩
    exact AllReadyH.nil
  exact AllReadyH.nil

/-- Every tree is laid. -/
theorem dlay_any (E : Env) : ∀ x : Q, LayOf E x := by
  suffices h : ∀ n, ∀ x : Q, SizeOf.sizeOf x < n → LayOf E x from fun x => h _ x (Nat.lt_succ_self _)
  intro n
  induction n with
  | zero => intro x hx; omega
  | succ n ih =>
  intro x hx
  have hL : ∀ y : Q, SizeOf.sizeOf y < SizeOf.sizeOf x → LayOf E y := fun y hy => ih y (by omega)
  suffices h : ∀ t : Tr, LayAt E x t from fun pb po t f K inp fv lv mv n0 ev bv w _ => h t pb po f K inp fv lv mv n0 ev bv w
  refine Tr.ind (P := LayAt E x) fun t iht => ?_
  intro pb po f K inp fv lv mv n0 ev bv w _ hT hs hM hr hO hn
  have hkids := ((shapedP_iff t).1 hs).2.2.2
  cases (mat_iff ..).1 hM with
  | none ho => exact dlay_none E pb po t f K inp fv lv mv n0 ev bv w hT hs hr hO ho
  | eps ho => exact dlay_eps E pb po t f K inp fv lv mv n0 ev bv w hT hs hr hO ho
  | rune ho => exact dlay_rune E pb po t f K inp fv lv mv n0 ev bv w hT hs hr hO ho
  | set ho => exact dlay_set E pb po t f K inp fv lv mv n0 ev bv w hT hs hr hO ho
  | at' ho => exact dlay_at E pb po t f K inp fv lv mv n0 ev bv w hT hs hr hO ho
  | @cap k y ho hc hk hm =>
    have h1 := shaped_cap hs ho
    exact dlay_cap E y (hL y (by simp only [Q.cap.sizeOf_spec]; omega)) t.fld.cap.toNat k pb po t f K inp fv lv mv n0 ev bv w hT hs hr hO ho (by omega) (by omega) hk (hkids k (by rw [hk]; simp)) hm (by simpa [idsQ] using hn)
  | @bare k y ho hc hk hm => exact dlay_bare E x k pb po t f K inp fv lv mv n0 ev bv w hT hs hr hO (iht k (by rw [hk]; simp)) ho hc hk (hkids k (by rw [hk]; simp)) hm hn
  | @star k a y ho hk hm => exact dlay_star E a y (hL y (by simp only [Q.star.sizeOf_spec]; omega)) k pb po t f K inp fv lv mv n0 ev bv w hT hs hr hO ho hk (hkids k (by rw [hk]; simp)) hm hn
  | @plus k a b y ho hk hm => exact dlay_plus E a b y (hL y (by simp only [Q.plus.sizeOf_spec]; omega)) k pb po t f K inp fv lv mv n0 ev bv w hT hs hr hO ho hk (hkids k (by rw [hk]; simp)) hm hn
  | @quest k y ho hk hm => exact dlay_quest E y (hL y (by simp only [Q.quest.sizeOf_spec]; omega)) k pb po t f K inp fv lv mv n0 ev bv w hT hs hr hO ho hk (hkids k (by rw [hk]; simp)) hm (by simpa [idsQ] using hn)
  | @rep k q ho hk hm => exact dlay_rep E x (drep_any E x hL) k pb po t f K inp fv lv mv n0 ev bv w hT hs hr hO ho hk (hkids k (by rw [hk]; simp)) hm hn
  | cat ho hm => exact dlay_cat E x hL pb po t f K inp fv lv mv n0 ev bv w hT hs hr hO ho hkids hm hn
  | alt ho hm => exact dlay_alt E x hL pb po t f K inp fv lv mv n0 ev bv w hT hs hr hO ho hkids hm hn
theorem drow_all (E : Env) (x : Q) : RowOf E x := drow_any E x fun y _ => dlay_any E y
theorem drep_all (E : Env) (x : Q) : DRepOf E x := drep_any E x fun y _ => dlay_any E y
end Go.Proofs.Ytnemacejaiifnaa
/- While ways are gone: what stands in memory, and that it is the machine's state. No condition. -/
namespace Go.Proofs.Ytnemacejaiifnaa
open Go Go.RowKit

/-- What is known of the parts: their numbers (none: of the end), the parts, those that were to be laid when they are come to, those that still are. -/
structure Gt where
  N : List (Option Nat)
  T : List (Fv × Ks)
  Z : List Lzy
  Y : List Lzy
def ghR (w : World) (G : Gt) : Gh where
  Bx b t cs := Whole w b t cs ∧ CT t cs ∧ ∀ z ∈ G.Z, z.b ≠ b
  Tb v K := (v, K) ∈ G.T
  Lz b x K := ∃ z ∈ G.Z, z.b = b ∧ z.x = x ∧ K = .q z.y :: z.K
  Nm n a := ∃ j, G.N[j]? = some (some a) ∧ n = j + 1
structure Tab (E : Env) (fin : Fv) (w : World) (G : Gt) : Prop where
  locs : ∀ p ∈ G.T, p = (fin, []) ∨ Loc E (ghR w G) p.1 p.2
  lazies : ∀ z ∈ G.Z, (z ∈ G.Y ∧ Whole w z.b 75 #[.nilFunc] ∧ Thunk E (ghR w G) z.x z.y z.K) ∨ ∃ v : Fv, Whole w z.b 75 #[v.v] ∧ Rp (fun v k => (v, k) ∈ G.T) v (.q z.y :: z.K) ∧ v.g ≠ .func 155
  sub : ∀ z ∈ G.Y, z ∈ G.Z
  nodup : (G.Z.map Lzy.b).Nodup
  own : ∀ a, G.N.count (some a) + (idsZ G.Y).count a ≤ 1
  tot : G.N.length + (idsZ G.Y).length ≤ 50000000
  base : ∀ z ∈ G.Z, E.w0.heap.size ≤ z.b
/-- Blocks that are kept while ways are gone: all of those types, but the boxes of Z. -/
def KpZ (G : Gt) (w w' : World) : Prop := w.heap.size ≤ w'.heap.size ∧ ∀ b t cs, CT t cs → (∀ z ∈ G.Z, z.b ≠ b) → Whole w b t cs → Whole w' b t cs
theorem ghR_move {w w' : World} {G : Gt} (h : KpZ G w w') : (ghR w G).le (ghR w' G) := ⟨fun b t cs _ ⟨h1, h2, h3⟩ => ⟨h.2 b t cs h2 h3 h1, h2, h3⟩, fun _ _ h => h, fun _ _ _ h => h, fun _ _ h => h⟩
theorem Tab.move {E : Env} {fin : Fv} {w w' : World} {G : Gt} (h : Tab E fin w G) (hk : KpZ G w w') (hz : ∀ z ∈ G.Z, ∀ cs, Whole w z.b 75 cs → Whole w' z.b 75 cs) : Tab E fin w' G :=
  ⟨fun p hp => (h.locs p hp).imp id fun h => h.mono (ghR_move hk), fun z hz' => (h.lazies z hz').imp (fun ⟨a, b, c⟩ => ⟨a, hz z hz' _ b, c.mono (ghR_move hk)⟩) fun ⟨v, a, b, c⟩ => ⟨v, hz z hz' _ a, b, c⟩, h.sub, h.nodup, h.own, h.tot, h.base⟩
/-- A turn stands for what is left. -/
inductive TurnR (E : Env) (g : Gh) : Tn → Ent → Prop where
  | go {v K} {i : Nat} : Rp g.Tb v K → i ≤ E.R.length → TurnR E g (v, (i : Int)) (.go K i)
  | put {bw bi} {k : Nat} {val : Int} : g.Bx bw 71 #[ptrV E.q] → g.Bx bi 3 #[.int .i64 (k : Int)] → k < 2 * (E.G + 1) → TurnR E g (⟨.func 143, #[], #[ptrV bw, ptrV bi]⟩, val) (.put k val)
inductive TurnsR (E : Env) (g : Gh) : List Tn → List Ent → Prop where
  | nil : TurnsR E g [] []
  | snoc {l t e es} : TurnsR E g l es → TurnR E g t e → TurnsR E g (l ++ [t]) (e :: es)
theorem TurnR.mono {E : Env} {g g' : Gh} (h : g.le g') {t : Tn} {e : Ent} (k : TurnR E g t e) : TurnR E g' t e := by
  cases k with
  | go h1 h2 => exact .go (h1.mono h.tb) h2
  | put h1 h2 h3 => exact .put (h.bx _ _ _ (ct1 (by decide)) h1) (h.bx _ _ _ ⟨by decide, fun _ => rfl⟩ h2) h3
theorem TurnsR.mono {E : Env} {g g' : Gh} (h : g.le g') {l : List Tn} {es : List Ent} (k : TurnsR E g l es) : TurnsR E g' l es := by
  induction k with
  | nil => exact .nil
  | snoc _ h2 ih => exact .snoc ih (h2.mono h)
theorem TurnsR.len {E : Env} {g : Gh} {l : List Tn} {es : List Ent} (k : TurnsR E g l es) : l.length = es.length := by
  induction k with
  | nil => rfl
  | snoc _ _ ih => simp [ih]
def bitAt (f : Nat → Nat → Nat) (k i : Nat) : Bool := (f k (i / 64)).testBit (i % 64)
/-- The words say where each part was come to. -/
structure MetR (N : List (Option Nat)) (V : Nat → Nat → Bool) (P : List Nat) (n : Nat) (f : Nat → Nat → Nat) : Prop where
  here : ∀ j a, N[j]? = some (some a) → ∀ i, i ≤ 1000 → bitAt f (j + 1) i = V a i
  fin : ∀ j, N[j]? = some none → ∀ i, i ≤ 1000 → bitAt f (j + 1) i = decide (i ∈ P)
  out : ∀ k, N.length < k → ∀ r, f k r = 0
  free : ∀ a, some a ∉ N → ∀ i, V a i = false
  cnt : ∃ M : List Nat, M.Nodup ∧ n ≤ M.length ∧ (∀ x ∈ M, x < 100000001 * 1001) ∧ ∀ k i, i ≤ 1000 → (k * 1001 + i ∈ M ↔ bitAt f k i = true)
theorem nodup_le : ∀ (n : Nat) (l : List Nat), l.Nodup → (∀ x ∈ l, x < n) → l.length ≤ n
  | 0, l, _, h => by
    cases l with
    | nil => simp
    | cons x l => exact absurd (h x (by simp)) (by omega)
  | n + 1, l, hn, h => by
    have h1 := nodup_le n (l.erase n) (hn.erase n) fun x hx => by
      have h2 := h x (List.mem_of_mem_erase hx)
      have h3 : x ≠ n := fun e => by subst e; exact absurd hx (by rw [hn.mem_erase_iff]; simp)
      omega
    have h4 := List.length_erase (a := n) (l := l)
    split at h4 <;> omega
theorem MetR.small {N V P n f} (h : MetR N V P n f) : n ≤ 100000001 * 1001 := by
  obtain ⟨M, h1, h2, h3, -⟩ := h.cnt
  exact Nat.le_trans h2 (nodup_le _ _ h1 h3)
theorem bit_put (f : Nat → Nat → Nat) (k i k' i' : Nat) : bitAt (fun a b => if a = k ∧ b = i / 64 then f k (i / 64) ||| 2 ^ (i % 64) else f a b) k' i' = (bitAt f k' i' || (k' == k && i' == i)) := by
  unfold bitAt
  dsimp only
  by_cases h : k' = k ∧ i' / 64 = i / 64
  · rw [if_pos h, or_bit, h.2, h.1]
    congr 1
    rw [beq_self_eq_true, Bool.true_and, show (i' == i) = decide (i' = i) from rfl, decide_eq_decide]
    omega
  · rw [if_neg h]
    by_cases hk : k' = k
    · have : i' ≠ i := fun e => h ⟨hk, by rw [e]⟩
      simp [this]
    · simp [hk]
/-- The word that is written, in the map's own words. -/
theorem put_same (f : Nat → Nat → Nat) (k i : Nat) : (fun k' r' => if k' = k ∧ r' = i / 64 then f k r' ||| 2 ^ (i % 64) else f k' r') = fun a b => if a = k ∧ b = i / 64 then f k (i / 64) ||| 2 ^ (i % 64) else f a b := by
  funext a b
  by_cases h : a = k ∧ b = i / 64
  · rw [if_pos h, if_pos h, h.2]
  · rw [if_neg h, if_neg h]
theorem MetR.cntPut {N V P n f} (h : MetR N V P n f) (k i : Nat) (hk : k ≤ 100000000) (hi : i ≤ 1000) (hb : bitAt f k i = false) : ∃ M : List Nat, M.Nodup ∧ n + 1 ≤ M.length ∧ (∀ x ∈ M, x < 100000001 * 1001) ∧ ∀ k' i', i' ≤ 1000 → (k' * 1001 + i' ∈ M ↔ bitAt (fun a b => if a = k ∧ b = i / 64 then f k (i / 64) ||| 2 ^ (i % 64) else f a b) k' i' = true) := by
  obtain ⟨M, h1, h2, h3, h4⟩ := h.cnt
  refine ⟨(k * 1001 + i) :: M, List.nodup_cons.2 ⟨fun hm => (by rw [h4 k i hi, hb] at hm; cases hm), h1⟩, by simp; omega, fun x hx => ?_, fun k' i' hi' => ?_⟩
  · rcases List.mem_cons.1 hx with rfl | hx
    · omega
    · exact h3 x hx
  · rw [List.mem_cons, h4 k' i' hi', bit_put, Bool.or_eq_true, Bool.and_eq_true, beq_iff_eq, beq_iff_eq]
    constructor
    · rintro (h | h)
      · right; omega
      · exact .inl h
    · rintro (h | ⟨rfl, rfl⟩)
      · exact .inr h
      · exact .inl rfl
/-- A part's mark. -/
theorem MetR.mark {N V P n f} (h : MetR N V P n f) (hn : ∀ a, N.count (some a) ≤ 1) (j a i : Nat) (hj : N[j]? = some (some a)) (hl : N.length ≤ 99999999) (hi : i ≤ 1000) (hb : V a i = false) : MetR N (fun b m => V b m || (b == a && m == i)) P (n + 1) (fun c b => if c = j + 1 ∧ b = i / 64 then f (j + 1) (i / 64) ||| 2 ^ (i % 64) else f c b) := by
  have hjl := (List.getElem?_eq_some_iff.1 hj).1
  have huniq : ∀ j' , N[j']? = some (some a) → j' = j := fun j' h' => by
    have hnd : (N.filter (fun x => x == some a)).length ≤ 1 := by have := hn a; rwa [List.count_eq_length_filter] at this
    rcases Nat.lt_trichotomy j' j with hlt | rfl | hlt
    · exact absurd hnd (by have := two_hits N (some a) j' j hlt h' hj; omega)
    · rfl
    · exact absurd hnd (by have := two_hits N (some a) j j' hlt hj h'; omega)
  refine ⟨fun j' a' hj' m hm => ?_, fun j' hj' m hm => ?_, fun k hk r => ?_, fun b hb' m => ?_, h.cntPut (j + 1) i (by omega) hi (by rw [h.here j a hj i hi, hb])⟩
  · rw [bit_put, h.here j' a' hj' m hm]
    congr 1
    by_cases e : a' = a
    · subst e
      rw [huniq j' hj']
      simp
    · have : j' ≠ j := fun e' => by subst e'; rw [hj] at hj'; exact e (Option.some.inj (Option.some.inj hj')).symm
      rw [show (j' + 1 == j + 1) = false from beq_eq_false_iff_ne.2 (by omega), show (a' == a) = false from beq_eq_false_iff_ne.2 e]
  · rw [bit_put, h.fin j' hj' m hm]
    have : j' ≠ j := fun e' => by subst e'; rw [hj] at hj'; cases hj'
    simp [this]
  · have : k ≠ j + 1 := by omega
    show (if k = j + 1 ∧ r = i / 64 then _ else f k r) = 0
    rw [if_neg (fun e => this e.1)]
    exact h.out k hk r
  · have : b ≠ a := fun e => hb' (by rw [e]; exact List.mem_of_getElem? hj)
    show (V b m || (b == a && m == i)) = false
    rw [h.free b hb' m]
    simp [this]
where
  two_hits (N : List (Option Nat)) (x : Option Nat) (j k : Nat) (hlt : j < k) (hj : N[j]? = some x) (hk : N[k]? = some x) : 2 ≤ (N.filter (fun y => y == x)).length := by
    obtain ⟨h1, e1⟩ := List.getElem?_eq_some_iff.1 hj
    obtain ⟨h2, e2⟩ := List.getElem?_eq_some_iff.1 hk
    have : N = N.take (j + 1) ++ N.drop (j + 1) := (List.take_append_drop ..).symm
    rw [this, List.filter_append, List.length_append]
    have m1 : x ∈ (N.take (j + 1)).filter (fun y => y == x) := List.mem_filter.2 ⟨by rw [List.mem_take_iff_getElem]; exact ⟨j, by omega, e1⟩, by simp⟩
    have m2 : x ∈ (N.drop (j + 1)).filter (fun y => y == x) := List.mem_filter.2 ⟨List.mem_of_getElem? (i := k - (j + 1)) (by rw [List.getElem?_drop, show j + 1 + (k - (j + 1)) = k by omega]; exact hk), by simp⟩
    have := List.length_pos_of_mem m1
    have := List.length_pos_of_mem m2
    omega
end Go.Proofs.Ytnemacejaiifnaa
/- The state of what goes the ways, in memory; turns laid onto the stack. No condition. -/
namespace Go.Proofs.Ytnemacejaiifnaa
open Go Go.RowKit

def fitC (c : List Int) : Array Value := (c.map fun x => Value.int .i64 x).toArray
/-- Where ends are kept: what stands of those that were come to; it lies in rows of numbers, and of such rows. -/
structure Md (E : Env) where
  Ed : World → Value → Value → List Out → Prop
  move : ∀ {w w' : World} {ev bv : Value} {arr : List Out}, Ed w ev bv arr → w.heap.size ≤ w'.heap.size → (∀ b t cs, (t = 3 ∨ t = 38) → b ≠ E.fb → w.heap[b]? = some (.cells cs t (0, 0)) → w'.heap[b]? = some (.cells cs t (0, 0))) → Ed w' ev bv arr
  FB : List (Option Nat) → Gh → Prop
  fmono : ∀ {N N' : List (Option Nat)} {g g' : Gh}, g.le g' → (∃ N2 : List Nat, N' = N ++ N2.map some) → FB N g → FB N' g'
structure RM (E : Env) (M : Md E) (w : World) (s : Am) (G : Gt) (lv : Value) (mb n : Nat) (f : Nat → Nat → Nat) (ev bv : Value) (l : List Tn) : Prop where
  om : Om w E.q (ptrV E.ib) E.fv lv (.map (some mb)) (G.N.length : Int) ev bv
  own : OwnTn w E.w0.heap.size lv l
  turns : TurnsR E (ghR w G) l s.left
  words : Words w mb n f
  met : MetR G.N s.V (s.arr.map Prod.fst) n f
  ed : M.Ed w ev bv s.arr
  base : E.w0.heap.size ≤ mb
structure RInv (E : Env) (M : Md E) (fin : Fv) (w : World) (s : Am) (G : Gt) : Prop where
  rd : Rd E w
  mem : ∃ lv mb n f ev bv l, RM E M w s G lv mb n f ev bv l
  fit : Whole w E.fb 3 (fitC s.fit) ∧ s.fit.length = 2 * (E.G + 1)
  tab : Tab E fin w G
  fb : E.w0.heap.size ≤ E.fb ∧ E.G ≤ 2000 ∧ E.R.length ≤ 1000
  fbx : M.FB G.N (ghR w G)
theorem words_at {w : World} {mb n : Nat} {f : Nat → Nat → Nat} (h : Words w mb n f) : ∃ es clock, w.heap[mb]? = some (.map es clock) := by
  obtain ⟨D, ⟨es, clock, hb, -⟩, -⟩ := h
  exact ⟨es, clock, hb⟩
/-- The blocks of A may turn: none of them bears what is kept. -/
structure DFine (E : Env) (w : World) (mb : Nat) (A : Nat → Prop) : Prop where
  cells : ∀ b t cs, A b → w.heap[b]? = some (.cells cs t (0, 0)) → t = 82 ∨ t = 119
  map : ¬ A mb
theorem turns_fine {E : Env} {w : World} {mb n : Nat} {f : Nat → Nat → Nat} {cs : Array Value} (ho : Whole w E.q 82 cs) (hw : Words w mb n f) : DFine E w mb (TurnsAt w E.q E.w0.heap.size) := by
  refine ⟨fun b t cs' hA hb => ?_, fun hA => ?_⟩
  · rcases hA with rfl | ⟨-, cs2, h2⟩
    · left
      unfold Whole at ho
      rw [ho] at hb
      injection hb with hb
      injection hb with _ h
      exact h.symm
    · right
      rw [h2] at hb
      injection hb with hb
      injection hb with _ h
      exact h.symm
  · obtain ⟨es, clock, h1⟩ := words_at hw
    rcases hA with rfl | ⟨-, cs2, h2⟩
    · unfold Whole at ho
      rw [h1] at ho
      cases ho
    · rw [h1] at h2
      cases h2
theorem fine_kpz {E : Env} {w w' : World} {mb : Nat} {A : Nat → Prop} {G : Gt} (h : DFine E w mb A) (k : Kp A w w') : KpZ G w w' :=
  ⟨k.size, fun b t cs hc _ hw => k.whole hw fun hA => by
    rcases h.cells b t cs hA hw with e | e
    · exact hc.1.1 e
    · exact hc.1.2.1 e⟩
theorem fine_cells {E : Env} {w w' : World} {mb : Nat} {A : Nat → Prop} (h : DFine E w mb A) (k : Kp A w w') {b : Nat} {t : TypeId} {cs : Array Value} (h1 : t ≠ 82) (h2 : t ≠ 119) (hw : w.heap[b]? = some (.cells cs t (0, 0))) : w'.heap[b]? = some (.cells cs t (0, 0)) :=
  (k.block b (Array.getElem?_eq_some_iff.1 hw).1 fun hA => (h.cells b t cs hA hw).elim h1 h2).trans hw
theorem kp_base {E : Env} {w w' : World} (hr : Rd E w) (hk : Kp (TurnsAt w E.q E.w0.heap.size) w w') : Below E.w0.heap.size E.w0 w' :=
  ⟨hk.os.trans hr.below.os, hk.tape.trans hr.below.tape, hk.output.trans hr.below.output, Nat.le_trans hr.below.size hk.size, fun i hi => (hk.block i (by have := hr.below.size; omega) fun hA => by
    rcases hA with rfl | ⟨hA, -⟩
    · have := hr.q; omega
    · omega).trans (hr.below.block i hi)⟩
/-- Turns were laid onto the stack, or taken from it. -/
theorem rinv_turns {E : Env} {M : Md E} {fin : Fv} {w w' : World} {s : Am} {G : Gt} {lv : Value} {mb n : Nat} {f : Nat → Nat → Nat} {ev bv : Value} {l l' : List Tn} {es : List Ent} (h : RInv E M fin w s G) (hm : RM E M w s G lv mb n f ev bv l) (hk : Kp (TurnsAt w E.q E.w0.heap.size) w w') (hst : St w' E.q E.w0.heap.size ⟨ptrV E.ib, E.fv, .map (some mb), G.N.length, ev, bv⟩ l')
    (ht : TurnsR E (ghR w G) l' es) : RInv E M fin w' { s with left := es } G := by
  have hF := turns_fine (E := E) hm.om hm.words
  have hz := fine_kpz (G := G) hF hk
  obtain ⟨lv', hO, hL, hB⟩ := hst
  refine ⟨⟨kp_base h.rd hk, h.rd.q⟩, ⟨lv', mb, n, f, ev, bv, l', hO, hL, ht.mono (ghR_move hz), hm.words.kept (hk.block mb hm.words.lt hF.map), hm.met, M.move hm.ed hk.size fun b t cs ht _ hw => fine_cells hF hk (by rcases ht with rfl | rfl <;> decide) (by rcases ht with rfl | rfl <;> decide) hw, hm.base⟩, ⟨fine_cells hF hk (by decide) (by decide) h.fit.1, h.fit.2⟩, h.tab.move hz fun z hz' cs hw => fine_cells hF hk (by decide) (by decide) hw, h.fb, M.fmono (ghR_move hz) ⟨[], by simp⟩ h.fbx⟩
/-- A place of the fit was written. -/
theorem rinv_fit {E : Env} {M : Md E} {fin : Fv} {w : World} {s : Am} {G : Gt} (h : RInv E M fin w s G) (k : Nat) (v : Int) : RInv E M fin (w.setCell ⟨E.fb, k, none⟩ (.int .i64 v)) { s with fit := s.fit.set k v } G := by
  obtain ⟨lv, mb, n, f, ev, bv, l, hm⟩ := h.mem
  obtain ⟨w', hw'⟩ : ∃ w', w.setCell ⟨E.fb, k, none⟩ (.int .i64 v) = w' := ⟨_, rfl⟩
  have hg : w.grownBy w' (some E.fb) := by rw [← hw']; exact grown_set _ _ _ _
  rw [hw']
  have hfit := h.fit.1
  have hsz : (fitC s.fit).size = 2 * (E.G + 1) := by simp [fitC, h.fit.2]
  have hne : ∀ {b : Nat} {t : TypeId} {cs : Array Value}, w.heap[b]? = some (.cells cs t (0, 0)) → (t ≠ 3 ∨ cs.size = 1) → b ≠ E.fb := fun {b t cs} hb hc e => by
    subst e
    unfold Whole at hfit
    rw [hb] at hfit
    injection hfit with hfit
    injection hfit with h1 h2
    rcases hc with hc | hc
    · exact hc h2
    · rw [h1, hsz] at hc; omega
  have hc : ∀ {b : Nat} {t : TypeId} {cs : Array Value}, w.heap[b]? = some (.cells cs t (0, 0)) → b ≠ E.fb → w'.heap[b]? = some (.cells cs t (0, 0)) := fun {b t cs} hb hn => (hg.block b (Array.getElem?_eq_some_iff.1 hb).1 (by intro e; exact hn (Option.some.inj e))).trans hb
  have hz : KpZ G w w' := ⟨hg.size, fun b t cs hct _ hb => hc hb (hne hb (by
    by_cases e : t = 3
    · exact .inr (hct.2 e)
    · exact .inl e))⟩
  obtain ⟨es, clock, hmb⟩ := words_at hm.words
  have hmf : mb ≠ E.fb := fun e => by
    subst e
    unfold Whole at hfit
    rw [hmb] at hfit
    cases hfit
  refine ⟨⟨⟨hg.os.trans h.rd.below.os, hg.tape.trans h.rd.below.tape, hg.output.trans h.rd.below.output, Nat.le_trans h.rd.below.size hg.size, fun i hi => (hg.block i (by have := h.rd.below.size; omega) (by intro e; have := Option.some.inj e; have := h.fb.1; omega)).trans (h.rd.below.block i hi)⟩, h.rd.q⟩, ⟨lv, mb, n, f, ev, bv, l, hc hm.om (hne hm.om (.inl (by decide))), ?_, hm.turns.mono (ghR_move hz), hm.words.kept (hg.block mb hm.words.lt (by intro e; exact hmf (Option.some.inj e))), hm.met, M.move hm.ed hg.size fun b t cs _ hn hb => hc hb hn, hm.base⟩, ⟨?_, by simp [h.fit.2]⟩, h.tab.move hz fun z hz' cs hw => hc hw (hne hw (.inl (by decide))), h.fb, M.fmono (ghR_move hz) ⟨[], by simp⟩ h.fbx⟩
  · exact World.ownsRow.kept hm.own hg (by
      rcases hm.own.2 with ⟨e, -⟩ | ⟨g, cap, cur, e, -, hh, -⟩
      · rw [e]; exact .inl rfl
      · right
        rw [e]
        intro e2
        have e3 : g = E.fb := by simpa [Value.ownBlock] using e2
        exact hne hh (.inl (by decide)) e3)
  · have := hfit.store k (.int .i64 v)
    rw [hw'] at this
    have e : fitC (s.fit.set k v) = (fitC s.fit).setIfInBounds k (.int .i64 v) := by
      unfold fitC
      rw [List.map_set, List.setIfInBounds_toArray]
    show Whole w' E.fb _ (fitC (s.fit.set k v))
    rw [e]
    exact this
/-- A part that is called by its value. -/
def CallsV (v : Fv) (i : Int) (w : World) (Q : Ending → World → Prop) : Prop := ∃ g, v.g = .func g ∧ (∀ args w, (callFunc g args).run Try.prog w = .ok (.enter g args) w) ∧ Calls Try.prog g (v.f.push (.int .i64 i) ++ v.c) w Q
/-- What is left to do at a place is done by the part v. -/
def CallC (E : Env) (M : Md E) (fin : Fv) (K : Ks) : Prop := ∀ (w : World) (s : Am) (G : Gt) (v : Fv) (i : Nat), RInv E M fin w s G → Rp (fun v k => (v, k) ∈ G.T) v K → i ≤ E.R.length → (call K i s).left.length ≤ 4000000000000 →
  CallsV v i w fun e w' => e = .returned noResult ∧ ∃ G', RInv E M fin w' (call K i s) G'
end Go.Proofs.Ytnemacejaiifnaa
/- What a part does where it is come to: the parts that lay turns onto the stack. No condition. -/
namespace Go.Proofs.Ytnemacejaiifnaa
open Go Go.RowKit

theorem rm_st {E : Env} {M : Md E} {fin : Fv} {w : World} {s : Am} {G : Gt} {lv : Value} {mb n : Nat} {f : Nat → Nat → Nat} {ev bv : Value} {l : List Tn} (h : RInv E M fin w s G) (hm : RM E M w s G lv mb n f ev bv l) : St w E.q E.w0.heap.size ⟨ptrV E.ib, E.fv, .map (some mb), G.N.length, ev, bv⟩ l := ⟨lv, hm.om, hm.own, h.rd.below.size⟩
/-- What a call leaves: the machine's next state. -/
abbrev After (E : Env) (M : Md E) (fin : Fv) (s : Am) : Ending → World → Prop := fun e w' => e = .returned noResult ∧ ∃ G', RInv E M fin w' s G'
theorem bx_cell {w : World} {G : Gt} {b : Nat} {t : TypeId} {v : Value} (h : (ghR w G).Bx b t #[v]) : w.cell? ⟨b, 0, none⟩ = some v := (h.1.cell 0).trans rfl
set_option maxHeartbeats 800000 in
theorem cl_pass (E : Env) (M : Md E) (fin : Fv) (w : World) (s : Am) (G : Gt) (hI : RInv E M fin w s G) {b c : Nat} {t : Fv} {K : Ks} (h1 : (ghR w G).Bx b 71 #[ptrV E.q]) (h2 : (ghR w G).Bx c 75 #[t.v]) (h3 : Rp (ghR w G).Tb t K) (i : Nat) (hi : i ≤ E.R.length) (hl : (call (.q .eps :: K) i s).left.length ≤ 4000000000000) :
    Calls Try.prog 110 #[.int .i64 i, ptrV b, ptrV c] w (After E M fin (call (.q .eps :: K) i s)) := by
  obtain ⟨lv, mb, n, f, ev, bv, l, hm⟩ := hI.mem
  have hlen := hm.turns.len
  have HON := Lib.hid (st_on (rm_st hI hm) (by simp [call, callQ, Am.push] at hl; omega) t i)
  have HI := Lib.hid hI; have HM := Lib.hid hm; have HT := Lib.hid (TurnR.go (E := E) h3 hi)
  have c1 := bx_cell h1; have c2 := bx_cell h2
  obtain ⟨tg, tf, tc⟩ := t
  clear hI hm h1 h2 h3 hl hlen hi
  go_enter Try.func110, Try.ntmps110
  go_wp2_with fail
  refine HON.out.mono ?_
  rintro e w' ⟨rfl, hst, hk⟩
  have HS := Lib.hid hst; have HK := Lib.hid hk
  clear hst hk c1 c2
  go_wp2_with fail
  go_end0
  exact ⟨rfl, G, rinv_turns HI.out HM.out HK.out HS.out (.snoc HM.out.turns HT.out)⟩
/-- Two turns more. -/
theorem rinv_two {E : Env} {M : Md E} {fin : Fv} {w w' : World} {s : Am} {G : Gt} {lv : Value} {mb n : Nat} {f : Nat → Nat → Nat} {ev bv : Value} {l : List Tn} (h : RInv E M fin w s G) (hm : RM E M w s G lv mb n f ev bv l) (hk : Kp (TurnsAt w E.q E.w0.heap.size) w w') {z : Bool} {vk vs : Fv} {K1 K2 : Ks} {i : Nat}
    (hst : St w' E.q E.w0.heap.size ⟨ptrV E.ib, E.fv, .map (some mb), G.N.length, ev, bv⟩ (l ++ twoT z vk vs i)) (h1 : Rp (ghR w G).Tb vk K1) (h2 : Rp (ghR w G).Tb vs K2) (hi : i ≤ E.R.length) : RInv E M fin w' (s.two z K1 K2 i) G := by
  cases z
  · refine rinv_turns (s := s) (es := .go K1 i :: .go K2 i :: s.left) h hm hk hst ?_
    exact TurnsR.snoc (l := l ++ [(vs, (i : Int))]) (.snoc hm.turns (.go h2 hi)) (.go h1 hi) |> fun x => by simpa [twoT] using x
  · refine rinv_turns (s := s) (es := .go K2 i :: .go K1 i :: s.left) h hm hk hst ?_
    exact TurnsR.snoc (l := l ++ [(vk, (i : Int))]) (.snoc hm.turns (.go h1 hi)) (.go h2 hi) |> fun x => by simpa [twoT] using x
theorem two_len (s : Am) (z : Bool) (K1 K2 : Ks) (i : Nat) : (s.two z K1 K2 i).left.length = s.left.length + 2 := by cases z <;> rfl
set_option maxHeartbeats 800000 in
theorem cl_quest (E : Env) (M : Md E) (fin : Fv) (w : World) (s : Am) (G : Gt) (hI : RInv E M fin w s G) {bw bz bk bt : Nat} {z : Bool} {vk t : Fv} {K1 K : Ks} (h1 : (ghR w G).Bx bw 71 #[ptrV E.q]) (h2 : (ghR w G).Bx bz 4 #[.bool z]) (h3 : (ghR w G).Bx bk 75 #[vk.v]) (h4 : (ghR w G).Bx bt 75 #[t.v])
    (h5 : Rp (ghR w G).Tb vk K1) (h6 : Rp (ghR w G).Tb t K) (i : Nat) (hi : i ≤ E.R.length) (hl : (s.two z K1 K i).left.length ≤ 4000000000000) :
    Calls Try.prog 122 #[.int .i64 i, ptrV bw, ptrV bz, ptrV bk, ptrV bt] w (After E M fin (s.two z K1 K i)) := by
  obtain ⟨lv, mb, n, f, ev, bv, l, hm⟩ := hI.mem
  have hlen := hm.turns.len
  have HON := Lib.hid (st_either (rm_st hI hm) (by rw [two_len] at hl; omega) z vk t i)
  have HI := Lib.hid hI; have HM := Lib.hid hm; have H5 := Lib.hid h5; have H6 := Lib.hid h6; have HL := Lib.hid hi
  have c1 := bx_cell h1; have c2 := bx_cell h2; have c3 := bx_cell h3; have c4 := bx_cell h4
  obtain ⟨tg, tf, tc⟩ := t
  obtain ⟨kg, kf, kc⟩ := vk
  clear hI hm h1 h2 h3 h4 h5 h6 hl hlen hi
  go_enter Try.func122, Try.ntmps122
  go_wp2_with fail
  refine HON.out.mono ?_
  rintro e w' ⟨rfl, hst, hk⟩
  have HS := Lib.hid hst; have HK := Lib.hid hk
  clear hst hk c1 c2 c3 c4
  go_wp2_with fail
  go_end0
  exact ⟨rfl, G, rinv_two HI.out HM.out HK.out HS.out H5.out H6.out HL.out⟩
/-- A mark was set. -/
theorem rinv_met {E : Env} {M : Md E} {fin : Fv} {w w' : World} {s : Am} {G : Gt} {lv : Value} {mb n : Nat} {f : Nat → Nat → Nat} {ev bv : Value} {l : List Tn} (h : RInv E M fin w s G) (hm : RM E M w s G lv mb n f ev bv l) (hg : w.grownBy w' (some mb)) {V' : Nat → Nat → Bool} {n' : Nat} {f' : Nat → Nat → Nat} (hw : Words w' mb n' f') (hmet : MetR G.N V' (s.arr.map Prod.fst) n' f') :
    RInv E M fin w' { s with V := V' } G := by
  obtain ⟨es, clock, hmb⟩ := words_at hm.words
  have hc : ∀ {b : Nat} {t : TypeId} {cs : Array Value}, w.heap[b]? = some (.cells cs t (0, 0)) → w'.heap[b]? = some (.cells cs t (0, 0)) := fun {b t cs} hb => (hg.block b (Array.getElem?_eq_some_iff.1 hb).1 (by
    intro e
    have e := Option.some.inj e
    subst e
    rw [hmb] at hb
    cases hb)).trans hb
  have hz : KpZ G w w' := ⟨hg.size, fun b t cs _ _ hw => hc hw⟩
  have hlt := hm.words.lt
  have hmq := hm.base
  refine ⟨⟨⟨hg.os.trans h.rd.below.os, hg.tape.trans h.rd.below.tape, hg.output.trans h.rd.below.output, Nat.le_trans h.rd.below.size hg.size, fun i hi => (hg.block i (by have := h.rd.below.size; omega) (by intro e; have := Option.some.inj e; omega)).trans (h.rd.below.block i hi)⟩, h.rd.q⟩, ⟨lv, mb, n', f', ev, bv, l, hc hm.om, ?_, hm.turns.mono (ghR_move hz), hw, hmet, M.move hm.ed hg.size fun b t cs _ _ hb => hc hb, hm.base⟩, ⟨hc h.fit.1, h.fit.2⟩, h.tab.move hz fun z hz' cs hw => hc hw, h.fb, M.fmono (ghR_move hz) ⟨[], by simp⟩ h.fbx⟩
  exact World.ownsRow.kept hm.own hg (by
    rcases hm.own.2 with ⟨e, -⟩ | ⟨g, cap, cur, e, -, hh, -⟩
    · rw [e]; exact .inl rfl
    · right
      rw [e]
      intro e2
      have e3 : g = mb := by simpa [Value.ownBlock] using e2
      subst e3
      rw [hmb] at hh
      cases hh)
end Go.Proofs.Ytnemacejaiifnaa
