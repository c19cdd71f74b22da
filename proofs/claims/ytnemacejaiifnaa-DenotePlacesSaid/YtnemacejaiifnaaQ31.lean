/- Texts merged by program: DnAsk, DnStart, DnList, DnAll, DnSmall, DnPartsM, DnEnds, DnEndsP, DnStartF, DnFind. No condition. -/
import Derived.Test.YtnemacejaiifnaaQ19
import Derived.Test.YtnemacejaiifnaaQ21
import Derived.Test.YtnemacejaiifnaaQ29
import Derived.Test.YtnemacejaiifnaaQ1
import Derived.Test.YtnemacejaiifnaaQ5
import Derived.Test.YtnemacejaiifnaaQ8
import Derived.Test.YtnemacejaiifnaaQ6
import Derived.Test.YtnemacejaiifnaaQ30
set_option linter.unusedVariables false
/- Whether ways may be asked for; whether a place is one. No condition. -/
namespace Go.Proofs.Ytnemacejaiifnaa
open Go Go.RowKit

set_option maxHeartbeats 800000 in
theorem dplace_in {B : Nat} {k : Int} {s : ByteArray} {b : Nat} {w : World} (h : In w B k s b) (i : Int) :
    Calls Try.prog 36 #[ptrV b, .int .i64 i] w fun e w' => e = .returned (.bool (decide (0 ≤ offAt (offsOf s) i))) ∧ w = w' := by
  have HO := Lib.hid (off_any h i)
  obtain ⟨u, c1⟩ := in_cells h
  obtain ⟨x, hx⟩ : ∃ x, offAt (offsOf s) i = x := ⟨_, rfl⟩
  rw [hx] at HO ⊢
  clear h hx
  go_enter Try.func36, Try.ntmps36
  go_wp2_with fail
  refine HO.out.mono ?_
  rintro e w' ⟨rfl, rfl⟩
  go_wp2_with fail
  go_ret
  exact ⟨rfl, rfl⟩
/-- What 'through' leaves: the ways' block, the fit, the map. -/
def ThruPost (ib : Nat) (G : Nat) (w : World) (e : Ending) (w' : World) : Prop := ∃ q fb mb, e = .returned (ptrV q) ∧ w.heap.size ≤ fb ∧ fb < w'.heap.size ∧ w.heap.size ≤ q ∧ w.heap.size ≤ mb ∧
  Om w' q (ptrV ib) (.slice (some ⟨fb, 0, none⟩) (2 * (G + 1)) (2 * (G + 1))) (.slice none 0 0) (.map (some mb)) 0 (.slice none 0 0) (.slice none 0 0) ∧ Whole w' fb 3 (fitC (List.replicate (2 * (G + 1)) (-1))) ∧ Words w' mb 0 (fun _ _ => 0) ∧ Below w.heap.size w w'
set_option maxHeartbeats 1600000 in
theorem through_any (ib G : Nat) (hG : G ≤ 2000) (w : World) : Calls Try.prog 37 #[.int .i64 (G : Int), ptrV ib] w (ThruPost ib G w) := by
  obtain ⟨w1, hw1, b1, hb1, hs1⟩ := new_box w 3 (.int .i64 (-1))
  have HR := Lib.hid (drepeat_any (2 * (G + 1)) (by omega) w.heap.size w1 b1)
  have e1 : IntKind.i64.wrap ((G : Int) + 1) = ((G + 1 : Nat) : Int) := (IntWalk.i64_left _).trans ((IntWalk.wrap64_in _ ⟨by omega, by omega⟩).trans (by omega))
  have e2 : IntKind.i64.wrap (2 * ((G + 1 : Nat) : Int)) = ((2 * (G + 1) : Nat) : Int) := (IntWalk.i64_left _).trans ((IntWalk.wrap64_in _ ⟨by omega, by omega⟩).trans (by omega))
  have HW1 := Lib.hid hw1; have HB1 := Lib.hid hb1
  clear b1 hb1 hs1 hw1
  go_enter Try.func37, Try.ntmps37
  go_wp2_with fail
  rw [HW1.out]
  refine HR.out.mono ?_
  rintro e w2 ⟨g, rfl, hg, hf, hb⟩
  obtain ⟨n, hn⟩ : ∃ n, 2 * (G + 1) = n := ⟨_, rfl⟩
  have HN := Lib.hid hn; have HG := Lib.hid hg; have HF := Lib.hid hf; have HB := Lib.hid hb
  rw [hn] at e2 ⊢
  have hmm := @run_makeMap Try.prog
  clear hg hf hb hn
  go_wp2_with fail
  go_ret
  have h1 := HB1.out.size
  have h2 := HB.out.size
  have h3 := HF.out.lt
  have h4 := HG.out
  have hb2 : Below w.heap.size w w2 := HB1.out.trans (HB.out.mono HB1.out.size)
  obtain ⟨w3, hw3⟩ : ∃ w3, w2.alloc (.map #[] 0) = w3 := ⟨_, rfl⟩
  have hb3 : Below w2.heap.size w2 w3 := by rw [← hw3]; exact (Below.refl _ _).alloc (Nat.le_refl _) _
  have hs3 : w3.heap.size = w2.heap.size + 1 := by rw [← hw3]; simp
  have hwo : Words w3 w2.heap.size 0 fun _ _ => 0 := by rw [← hw3]; exact words_new w2
  rw [hw3]
  obtain ⟨cs, hcs⟩ : ∃ cs : Array Value, #[ptrV ib, .slice (some ⟨g, 0, none⟩) n n, .slice none 0 0, .map (some w2.heap.size), .int .i64 0, .slice none 0 0, .slice none 0 0] = cs := ⟨_, rfl⟩
  have hb4 : Below w3.heap.size w3 (w3.alloc (.cells cs 82)) := (Below.refl _ _).alloc (Nat.le_refl _) _
  have hO : Whole (w3.alloc (.cells cs 82)) w3.heap.size 82 cs := heap_alloc_new w3 _
  rw [hcs, ← hs3]
  refine ⟨w3.heap.size, g, w2.heap.size, rfl, by omega, by simp; omega, by omega, by omega, ?_, ?_, hwo.kept (hb4.block _ (by omega)), hb2.trans ((hb3.trans (hb4.mono hb3.size)).mono hb2.size)⟩
  · subst hcs
    rw [HN.out]
    exact hO
  · have := HF.out.below hb3 HF.out.lt
    exact this.below hb4 this.lt
/-- What List, Match and Find ask ahead. -/
def AskedP (t : Tr) (G : Int) (p : Option Addr) : Prop := p ≠ none ∧ 0 ≤ G ∧ G ≤ 2000 ∧ ShapedP t
set_option maxHeartbeats 3200000 in
theorem asked_any (t : Tr) (hp : partsR t ≤ 10000000000) (v : Value) (G : Int) (p : Option Addr) (w : World) (h : Tre w t v) : Calls Try.prog 35 #[v, .int .i64 G, .pointer p] w (SaysB (AskedP t G p) w) := by
  obtain ⟨kv, sv, rfl, -⟩ := h.parts
  obtain ⟨w1, hw1⟩ : ∃ w1, w.alloc (.cells (treC t.fld kv sv) 27) = w1 := ⟨_, rfl⟩
  have hb1 : Below w.heap.size w w1 := by rw [← hw1]; exact (Below.refl _ _).alloc (Nat.le_refl _) _
  have HS := Lib.hid (pshaped_any t hp _ w1 (h.below hb1))
  have HB1 := Lib.hid hb1; have HW1 := Lib.hid hw1
  clear h hb1 hw1
  unfold treC at HS HW1 ⊢
  cases p with
  | none =>
    go_enter Try.func35, Try.ntmps35
    go_wp2_with fail
    go_ret
    rw [HW1.out]
    exact ⟨false, rfl, by simp [AskedP], HB1.out⟩
  | some ad =>
    by_cases h0 : 0 ≤ G
    · by_cases h1 : G ≤ 2000
      · go_enter Try.func35, Try.ntmps35
        go_wp2_with fail
        rw [HW1.out]
        refine HS.out.mono ?_
        rintro e w2 ⟨B, rfl, hB, hb2⟩
        have HB := Lib.hid hB; have HB2 := Lib.hid hb2
        clear hB hb2
        go_wp2_with fail
        go_ret
        exact ⟨B, rfl, HB.out.trans ⟨fun h => ⟨by simp, h0, h1, h⟩, fun h => h.2.2.2⟩, HB1.out.trans (HB2.out.mono HB1.out.size)⟩
      · go_enter Try.func35, Try.ntmps35
        go_wp2_with fail
        go_ret
        rw [HW1.out]
        exact ⟨false, rfl, ⟨fun h => (by cases h), fun h => absurd h.2.2.1 (by omega)⟩, HB1.out⟩
    · go_enter Try.func35, Try.ntmps35
      go_wp2_with fail
      go_ret
      rw [HW1.out]
      exact ⟨false, rfl, ⟨fun h => (by cases h), fun h => absurd h.2.1 (by omega)⟩, HB1.out⟩
end Go.Proofs.Ytnemacejaiifnaa
/- The beginning: a tree is laid, and ends are listed. No condition. -/
namespace Go.Proofs.Ytnemacejaiifnaa
open Go Go.RowKit

theorem metR_new (N : List (Option Nat)) : MetR N (fun _ _ => false) [] 0 (fun _ _ => 0) :=
  ⟨fun _ _ _ i _ => by simp [bitAt], fun _ _ i _ => by simp [bitAt], fun _ _ _ => rfl, fun _ _ _ => rfl, [], List.nodup_nil, Nat.le_refl _, fun _ h => (by cases h), fun k i _ => by simp [bitAt]⟩
/-- The state ahead of the first way. -/
def am0 (E : Env) : Am := ⟨fun _ _ => false, List.replicate (2 * (E.G + 1)) (-1), [], []⟩
theorem rinv_start {E : Env} {b n t : Nat} {w4 w5 : World} {v : Fv} {N : List Nat} {T : List (Fv × Ks)} {Z : List Lzy} {q : Q} {mb : Nat} (hrd : Rd E w4) (hO4 : Om w4 E.q (ptrV E.ib) E.fv (.slice none 0 0) (.map (some mb)) 1 (.slice none 0 0) (.slice none 0 0))
    (hO5 : Om w5 E.q (ptrV E.ib) E.fv (.slice none 0 0) (.map (some mb)) ((1 + N.length : Nat) : Int) (.slice none 0 0) (.slice none 0 0)) (hl : Laid E (onceF b n t) [] q 1 w4 v w5 N T Z) (hw : Words w4 mb 0 fun _ _ => 0) (hmb : E.w0.heap.size ≤ mb)
    (hfit : Whole w4 E.fb 3 (fitC (List.replicate (2 * (E.G + 1)) (-1)))) (hfb : E.w0.heap.size ≤ E.fb) (hG : E.G ≤ 2000) (hR : E.R.length ≤ 1000) (bb : Whole w4 b 71 #[ptrV E.q]) (bn : Whole w4 n 3 #[.int .i64 1]) (bt : Whole w4 t 75 #[(addF E).v]) (hnd : ∀ a, (idsQ q).count a ≤ 1) (htot : (idsQ q).length ≤ 49999999) :
    RInv E (MdL E b n t) (onceF b n t) w5 (am0 E) ⟨none :: N.map some, (onceF b n t, []) :: T, Z, Z⟩ ∧ Rp (fun v k => (v, k) ∈ (onceF b n t, []) :: T) v [.q q] := by
  have hg := hl.grown
  have hs := hg.size
  have hne : ∀ {b : Nat} {t : TypeId} {cs : Array Value}, Whole w4 b t cs → t ≠ 82 → b ≠ E.q := fun {b t cs} hb ht e => by
    subst e
    have h1 := hO4
    unfold Om Whole at h1
    unfold Whole at hb
    rw [hb] at h1
    injection h1 with h1
    injection h1 with _ h2
    exact ht h2
  have hk : ∀ {b : Nat} {t : TypeId} {cs : Array Value}, Whole w4 b t cs → t ≠ 82 → Whole w5 b t cs := fun {b t cs} hb ht => kp_away hg hb (hne hb ht)
  have hzb : ∀ z ∈ Z, w4.heap.size ≤ z.b := fun z hz => (hl.stage.lazies z hz).2.1
  have hmq : mb ≠ E.q := fun e => by
    obtain ⟨es, clock, h1⟩ := words_at hw
    rw [e] at h1
    have h2 := hO4
    unfold Om Whole at h2
    rw [h1] at h2
    cases h2
  have hln : (ghOf (fun v k => v = onceF b n t ∧ k = []) w4.heap.size w5.heap.size 1 w5 N T Z).le (ghR w5 ⟨none :: N.map some, (onceF b n t, []) :: T, Z, Z⟩) := ⟨fun b ty cs hct ⟨h1, h2, h3, h4⟩ => ⟨h1, hct, h4⟩, fun v k hv => by
      rcases hv with hv | ⟨rfl, rfl⟩
      · exact List.mem_cons_of_mem _ hv
      · exact List.mem_cons_self .., fun b x K ⟨y, hy, e⟩ => ⟨y, hy, e⟩, fun k a ⟨j, hj, e⟩ => ⟨j + 1, by
      show (none :: N.map some)[j + 1]? = _
      simp [hj], by omega⟩⟩
  have hbx : ∀ {b : Nat} {t : TypeId} {cs : Array Value}, Whole w4 b t cs → t ≠ 82 → CT t cs → (ghR w5 ⟨none :: N.map some, (onceF b n t, []) :: T, Z, Z⟩).Bx b t cs := fun {b t cs} hb ht hct => ⟨hk hb ht, hct, fun z hz e => by have := hzb z hz; have := hb.lt; omega⟩
  refine ⟨⟨hrd.grown hg, ⟨.slice none 0 0, mb, 0, fun _ _ => 0, .slice none 0 0, .slice none 0 0, [], ?_, World.ownsRow_nil _ _ _ _, .nil, hw.kept (hg.block mb hw.lt (by intro e; exact hmq (Option.some.inj e))), metR_new _, ⟨⟨rfl, fun x hx => (by cases hx)⟩, [], World.ownsRow_nil _ _ _ _, rfl, fun j h => (by cases h)⟩, hmb⟩, ⟨hk hfit (by decide), by simp [am0]⟩, ?_, ⟨hfb, hG, hR⟩, ?_⟩, hl.rep.mono fun _ _ h => List.mem_cons_of_mem _ h⟩
  · have e : (((none :: N.map some : List (Option Nat)).length : Nat) : Int) = ((1 + N.length : Nat) : Int) := by simp; omega
    rw [e]
    exact hO5
  · refine ⟨fun p hp => ?_, fun z hz => ?_, fun z hz => hz, hl.stage.nodup, fun a => ?_, ?_, fun z hz => by have := hzb z hz; have := hrd.below.size; omega⟩
    · rcases List.mem_cons.1 hp with rfl | hp
      · exact .inl rfl
      · exact .inr ((hl.stage.locs p hp).mono hln)
    · obtain ⟨a, b', c, d⟩ := hl.stage.lazies z hz
      exact .inl ⟨hz, a, d.mono hln⟩
    · have h1 := hl.count a
      have h2 := hnd a
      have : (none :: N.map some : List (Option Nat)).count (some a) = N.count a := by
        rw [List.count_cons]
        simp [count_some]
      show (none :: N.map some : List (Option Nat)).count (some a) + (idsZ Z).count a ≤ 1
      rw [this]
      omega
    · have := ids_len hl.count
      simp only [List.length_cons, List.length_map]
      omega
  · exact ⟨⟨N, rfl⟩, hbx bb (by decide) (ct1 (by decide)), hbx bn (by decide) ⟨by decide, fun _ => rfl⟩, hbx bt (by decide) (ct1 (by decide))⟩
end Go.Proofs.Ytnemacejaiifnaa
/- List: all ends, in their order. No condition. -/
namespace Go.Proofs.Ytnemacejaiifnaa
open Go Go.RowKit

set_option maxHeartbeats 3200000 in
theorem list_any (t : Tr) (hp : partsR t ≤ 10000000000) (v : Value) (G ib : Nat) (B : Nat) (kk : Int) (s : ByteArray) (i : Nat) (w : World) (h : Tre w t v) (hin : In w B kk s ib) (hsh : ShapedP t) (hG : G ≤ 2000) (hR : (runesOf s).length ≤ 1000) (hi : i ≤ (runesOf s).length) (hpl : 0 ≤ offAt (offsOf s) i) (q : Q) (hM : Mat (runesOf s) G t q) (hnd : ∀ a, (idsQ q).count a ≤ 1) (htot : (idsQ q).length ≤ 49999999)
    (nst Bd : Nat) (s1 : Am) (hB : Bd ≤ 4000000000000) (hr : Runs Bd nst ⟨fun _ _ => false, (List.replicate (2 * (G + 1)) (-1)).set 0 (i : Int), [.go [.q q] i], []⟩ s1) (h1 : s1.left = []) :
    Calls Try.prog 14 #[v, .int .i64 (G : Int), ptrV ib, .int .i64 (i : Int)] w fun e w' => ∃ (ev : Value) (E : Env), e = .returned ev ∧ w.heap.size ≤ E.fb ∧ EndsAt E w' ev (firsts [] s1.arr) ∧ Below w.heap.size w w' := by
  obtain ⟨kv, sv, rfl, -⟩ := h.parts
  obtain ⟨w1, hw1⟩ : ∃ w1, w.alloc (.cells (treC t.fld kv sv) 27) = w1 := ⟨_, rfl⟩
  have hb1 : Below w.heap.size w w1 := by rw [← hw1]; exact (Below.refl _ _).alloc (Nat.le_refl _) _
  have b1 : Whole w1 w.heap.size 27 (treC t.fld kv sv) := by rw [← hw1]; exact heap_alloc_new w _
  have HAS := Lib.hid (asked_any t hp (.agg (treC t.fld kv sv)) (G : Int) (some ⟨ib, 0, none⟩) w1 (h.below hb1))
  have hT1 := h.below hb1
  have hin1 := hin.below hb1
  have HT1 := Lib.hid hT1; have HIN1 := Lib.hid hin1; have HB1 := Lib.hid hb1; have HB1W := Lib.hid b1; have HW1 := Lib.hid hw1; have HSH := Lib.hid hsh; have HG := Lib.hid hG; have HR := Lib.hid hR; have HI := Lib.hid hi; have HPL := Lib.hid hpl; have HM := Lib.hid hM; have HND := Lib.hid hnd; have HTOT := Lib.hid htot; have HB := Lib.hid hB; have HRU := Lib.hid hr; have H1 := Lib.hid h1
  have hmf := mkf
  clear h hin hsh hG hR hi hpl hM hnd htot hB hr h1 hb1 b1 hw1 hT1 hin1 hp
  unfold treC at HAS HW1 ⊢
  go_enter Try.func14, Try.ntmps14
  go_wp2_with fail
  rw [HW1.out]
  refine HAS.out.mono ?_
  rintro e w2 ⟨Bq, rfl, hBq, hb2⟩
  obtain rfl : Bq = true := hBq.2 ⟨by simp, by omega, by have := HG.out; omega, HSH.out⟩
  have hin2 := HIN1.out.below hb2
  have HPI := Lib.hid (dplace_in hin2 (i : Int))
  have hdp : decide (0 ≤ offAt (offsOf s) i) = true := decide_eq_true HPL.out
  have HTH := Lib.hid (through_any ib G HG.out w2)
  have HB2 := Lib.hid hb2; have HIN2 := Lib.hid hin2
  rw [hdp] at HPI
  clear hBq hb2 hin2 hdp
  go_wp2_with fail
  refine HPI.out.mono ?_
  rintro e w' ⟨rfl, rfl⟩
  go_wp2_with fail
  refine HTH.out.mono ?_
  rintro e w3 ⟨qb, fb, mb, rfl, hfb, hfb2, hqb, hmb, hO3, hfit3, hwo3, hb3⟩
  obtain ⟨E, hE⟩ : ∃ E : Env, E = ⟨w2, qb, ib, s, G, fb⟩ := ⟨_, rfl⟩
  have e0 : w2 = E.w0 := by rw [hE]
  have e1 : qb = E.q := by rw [hE]
  have e2 : ib = E.ib := by rw [hE]
  have e3 : s = E.s := by rw [hE]
  have e4 : G = E.G := by rw [hE]
  have e5 : fb = E.fb := by rw [hE]
  have HFB0 := Lib.hid hfb; have HFB2 := Lib.hid hfb2; have HQB := Lib.hid hqb; have HMB := Lib.hid hmb; have HO3 := Lib.hid hO3; have HF3 := Lib.hid hfit3; have HWO3 := Lib.hid hwo3; have HB3 := Lib.hid hb3
  have HE := Lib.hid hE; have HE0 := Lib.hid e0
  clear hfb hfb2 hqb hmb hO3 hfit3 hwo3 hb3 hE HAS HPI HTH e0
  subst e1 e2 e3 e4 e5
  have HON := Lib.hid (donce_any E.q (addF E) _ _ _ _ 0 _ _ w3 (by omega) (by omega) HO3.out)
  go_wp2_with fail
  refine HON.out.mono ?_
  rintro e w4 ⟨b, rfl, bb, bt, bn, hbw, hO4, hg4⟩
  have hw2e : w2 = E.w0 := HE0.out
  have hrd3 : Rd E w3 := ⟨by rw [← hw2e]; exact HB3.out, by rw [← hw2e]; exact HQB.out⟩
  have hrd4 := hrd3.grown hg4
  have hTP : TP E.w0 w.heap.size 0 t := by
    rw [← hw2e]
    refine ⟨kv, sv, fun j hj => ?_, HT1.out.below HB2.out⟩
    have := (HB1W.out.below HB2.out HB1W.out.lt).cell j
    rw [Nat.zero_add, this, Array.getElem?_eq_getElem hj]
  have hfo : Nonempty (FitOk E E.fv) := ⟨rfl, HG.out⟩
  have HLAY := Lib.hid (dlay_any E q w.heap.size 0 t (onceF b (b + 2) (b + 1)) [] _ _ _ _ 1 _ _ w4 hTP HSH.out HM.out hrd4 hO4 (by have := HTOT.out; omega))
  have HBB := Lib.hid bb; have HBT := Lib.hid bt; have HBN := Lib.hid bn; have HO4 := Lib.hid hO4; have HG4 := Lib.hid hg4; have HRD4 := Lib.hid hrd4
  clear bb bt bn hO4 hg4 hrd4 hrd3 hTP HON
  go_wp2_with fail
  refine HLAY.out.mono ?_
  rintro e w5 ⟨vf, N, T, Z, rfl, hl, hO5⟩
  have hmq : mb ≠ E.q := fun e => by
    obtain ⟨es, clock, h1⟩ := words_at HWO3.out
    rw [e] at h1
    have h2 := HO3.out
    unfold Om Whole at h2
    rw [h1] at h2
    cases h2
  have hfq : E.fb ≠ E.q := fun e => by
    have h1 := HF3.out
    rw [e] at h1
    have h2 := HO3.out
    unfold Om Whole at h2
    unfold Whole at h1
    rw [h1] at h2
    injection h2 with h2
    injection h2 with _ h2
    exact absurd h2 (by decide)
  have hst := rinv_start (mb := mb) HRD4.out HO4.out hO5 hl (HWO3.out.kept (HG4.out.block mb HWO3.out.lt (by intro e; exact hmq (Option.some.inj e)))) (by rw [← hw2e]; exact HMB.out) (kp_away HG4.out HF3.out hfq) (by rw [← hw2e]; exact HFB0.out) HG.out HR.out HBB.out HBN.out HBT.out HND.out HTOT.out
  have HGO := Lib.hid (goFrom_any E (MdL E b (b + 2) (b + 1)) (onceF b (b + 2) (b + 1)) ⟨B, kk, by rw [← hw2e]; exact HIN2.out⟩ (fin_list E b (b + 2) (b + 1)) w5 (am0 E) _ vf [.q q] i nst Bd s1 hst.1 rfl hst.2 HI.out HB.out HRU.out H1.out)
  obtain ⟨vg, vff, vc⟩ := vf
  clear hst hl hO5 hmq hfq
  go_wp2_with fail
  refine HGO.out.mono ?_
  rintro e w6 ⟨rfl, G6, hI6⟩
  obtain ⟨lv6, mb6, n6, f6, ev6, bv6, l6, hm6⟩ := hI6.mem
  have c6 : w6.cell? ⟨E.q, 5, none⟩ = some ev6 := (om_ten hm6.om).2.2.2.2.2.1
  have HED := Lib.hid hm6.ed.2
  have hb6 := hI6.rd.below
  rw [← hw2e] at hb6
  have HB6 := Lib.hid hb6
  have HFB := Lib.hid hI6.fb.1
  clear hI6 hm6 hb6
  go_wp2_with fail
  go_ret
  refine ⟨ev6, E, rfl, ?_, HED.out, (HB1.out.trans (HB2.out.mono HB1.out.size)).trans (HB6.out.mono ?_)⟩
  · have := HFB.out; have := HB1.out.size; have := HB2.out.size; rw [← hw2e] at *; omega
  · have := HB1.out.size; have := HB2.out.size; omega
set_option maxHeartbeats 1600000 in
theorem list_unasked (t : Tr) (hp : partsR t ≤ 10000000000) (v : Value) (G : Int) (p : Option Addr) (i : Int) (w : World) (h : Tre w t v) (hno : ¬ AskedP t G p) :
    Calls Try.prog 14 #[v, .int .i64 G, .pointer p, .int .i64 i] w fun e w' => e = .returned (.slice none 0 0) ∧ Below w.heap.size w w' := by
  obtain ⟨kv, sv, rfl, -⟩ := h.parts
  obtain ⟨w1, hw1⟩ : ∃ w1, w.alloc (.cells (treC t.fld kv sv) 27) = w1 := ⟨_, rfl⟩
  have hb1 : Below w.heap.size w w1 := by rw [← hw1]; exact (Below.refl _ _).alloc (Nat.le_refl _) _
  have HAS := Lib.hid (asked_any t hp (.agg (treC t.fld kv sv)) G p w1 (h.below hb1))
  have HB1 := Lib.hid hb1; have HW1 := Lib.hid hw1; have HNO := Lib.hid hno
  clear h hb1 hw1 hp hno
  unfold treC at HAS HW1 ⊢
  go_enter Try.func14, Try.ntmps14
  go_wp2_with fail
  rw [HW1.out]
  refine HAS.out.mono ?_
  rintro e w2 ⟨Bq, rfl, hBq, hb2⟩
  obtain rfl : Bq = false := by
    cases Bq with
    | false => rfl
    | true => exact absurd (hBq.1 rfl) HNO.out
  have HB2 := Lib.hid hb2
  clear hBq hb2
  go_wp2_with fail
  go_ret
  exact ⟨rfl, HB1.out.trans (HB2.out.mono HB1.out.size)⟩
set_option maxHeartbeats 1600000 in
theorem list_noplace (t : Tr) (hp : partsR t ≤ 10000000000) (v : Value) (G : Int) (ib B : Nat) (kk : Int) (s : ByteArray) (i : Int) (w : World) (h : Tre w t v) (hin : In w B kk s ib) (hyes : AskedP t G (some ⟨ib, 0, none⟩)) (hno : offAt (offsOf s) i < 0) :
    Calls Try.prog 14 #[v, .int .i64 G, ptrV ib, .int .i64 i] w fun e w' => e = .returned (.slice none 0 0) ∧ Below w.heap.size w w' := by
  obtain ⟨kv, sv, rfl, -⟩ := h.parts
  obtain ⟨w1, hw1⟩ : ∃ w1, w.alloc (.cells (treC t.fld kv sv) 27) = w1 := ⟨_, rfl⟩
  have hb1 : Below w.heap.size w w1 := by rw [← hw1]; exact (Below.refl _ _).alloc (Nat.le_refl _) _
  have HAS := Lib.hid (asked_any t hp (.agg (treC t.fld kv sv)) G (some ⟨ib, 0, none⟩) w1 (h.below hb1))
  have HIN1 := Lib.hid (hin.below hb1)
  have HB1 := Lib.hid hb1; have HW1 := Lib.hid hw1; have HYES := Lib.hid hyes; have HNO := Lib.hid hno
  clear h hb1 hw1 hp hno hyes hin
  unfold treC at HAS HW1 ⊢
  go_enter Try.func14, Try.ntmps14
  go_wp2_with fail
  rw [HW1.out]
  refine HAS.out.mono ?_
  rintro e w2 ⟨Bq, rfl, hBq, hb2⟩
  obtain rfl : Bq = true := hBq.2 HYES.out
  have HPI := Lib.hid (dplace_in (HIN1.out.below hb2) i)
  have hdp : decide (0 ≤ offAt (offsOf s) i) = false := decide_eq_false (by have := HNO.out; omega)
  rw [hdp] at HPI
  have HB2 := Lib.hid hb2
  clear hBq hb2 hdp
  go_wp2_with fail
  refine HPI.out.mono ?_
  rintro e w' ⟨rfl, rfl⟩
  go_wp2_with fail
  go_ret
  exact ⟨rfl, HB1.out.trans (HB2.out.mono HB1.out.size)⟩
end Go.Proofs.Ytnemacejaiifnaa
/- List of a tree that is laid as q: the first way to each place, in order. No condition. -/
namespace Go.Proofs.Ytnemacejaiifnaa
open Go Go.RowKit

theorem list_ways (t : Tr) (hp : partsR t ≤ 10000000000) (v : Value) (G ib : Nat) (B : Nat) (kk : Int) (s : ByteArray) (i : Nat) (w : World) (h : Tre w t v) (hin : In w B kk s ib) (hsh : ShapedP t) (hG : G ≤ 2000) (hR : (runesOf s).length ≤ 1000) (hi : i ≤ (runesOf s).length) (q : Q) (hM : Mat (runesOf s) G t q) (hnd : (idsQ q).Nodup) (htot : (idsQ q).length ≤ 49999999)
    (C : Nat) (hC : 3 ≤ C) (hS : SymQ (runesOf s).length C q) (hmu : mu (runesOf s).length C (idsQ q).length i (idsQ q).length (wQ q + 1) ≤ 4000000000000) :
    ∃ n L, GW n [.q q] i ((List.replicate (2 * (G + 1)) (-1)).set 0 (i : Int)) [] L ∧
      Calls Try.prog 14 #[v, .int .i64 (G : Int), ptrV ib, .int .i64 (i : Int)] w fun e w' => ∃ (ev : Value) (E : Env), e = .returned ev ∧ w.heap.size ≤ E.fb ∧ EndsAt E w' ev (firsts [] L) ∧ Below w.heap.size w w' := by
  obtain ⟨n, L, m, s1, h1, h2, h3, h4⟩ := runs_all q (runesOf s).length C i hC hnd hS hi ((List.replicate (2 * (G + 1)) (-1)).set 0 (i : Int)) _ hmu
  refine ⟨n, L, h1, ?_⟩
  rw [← h4]
  exact list_any t hp v G ib B kk s i w h hin hsh hG hR hi ((off_place s i).2 ⟨by omega, by omega⟩) q hM (fun a => List.nodup_iff_count.1 hnd a) htot m _ s1 (Nat.le_refl _) h2 h3
end Go.Proofs.Ytnemacejaiifnaa
/- List of a small tree over a small text: the first way to each place, in order; none of what is no tree, at what is no place. No condition. -/
namespace Go.Proofs.Ytnemacejaiifnaa
open Go Go.RowKit

/-- The ends that List tells of a tree at i. -/
def WaysOf (R : List Int) (G : Nat) (t : Tr) (i : Int) (L : List Out) : Prop := (¬ (ShapedP t ∧ 0 ≤ i ∧ i ≤ (R.length : Int)) ∧ L = []) ∨
  ∃ (a : Nat) (q : Q) (n : Nat) (W : List Out), i = (a : Int) ∧ a ≤ R.length ∧ ShapedP t ∧ Mat R G t q ∧ (idsQ q).Nodup ∧ SymQ R.length 2400 q ∧ GW n [.q q] a ((List.replicate (2 * (G + 1)) (-1)).set 0 (a : Int)) [] W ∧ L = firsts [] W
def ListPost (s : ByteArray) (G : Nat) (t : Tr) (i : Int) (w : World) (e : Ending) (w' : World) : Prop := ∃ (ev : Value) (E : Env) (L : List Out), e = .returned ev ∧ w.heap.size ≤ E.fb ∧ EndsAt E w' ev L ∧ Below w.heap.size w w' ∧ WaysOf (runesOf s) G t i L
theorem ends_none (w W : World) (s : ByteArray) : ∃ E : Env, w.heap.size ≤ E.fb ∧ EndsAt E W (.slice none 0 0) [] := ⟨⟨w, 0, 0, s, 0, w.heap.size⟩, Nat.le_refl _, [], World.ownsRow_nil _ _ _ _, rfl, fun j h => by simp at h⟩
theorem list_small (t : Tr) (v : Value) (G ib B : Nat) (kk : Int) (s : ByteArray) (i : Int) (w : World) (h : Tre w t v) (hin : In w B kk s ib) (hs : s.size ≤ 60) (hp : partsR t ≤ 120) (hw : weightR t ≤ 300) (hG : G ≤ 2000) :
    Calls Try.prog 14 #[v, .int .i64 (G : Int), ptrV ib, .int .i64 i] w (ListPost s G t i w) := by
  have hR : (runesOf s).length ≤ 60 := by have := length_runesOf s; omega
  by_cases hsh : ShapedP t
  · by_cases hpl : 0 ≤ i ∧ i ≤ ((runesOf s).length : Int)
    · obtain ⟨a, rfl⟩ : ∃ a : Nat, i = (a : Int) := ⟨i.toNat, by omega⟩
      obtain ⟨q, hM, hN⟩ := mat_has (runesOf s) G 2400 t hsh (by omega) (by omega) 0
      obtain ⟨n, L, h1, h2⟩ := list_ways t (by omega) v G ib B kk s a w h hin hsh hG (by omega) (by omega) q hM hN.once (by have := hN.few; omega) 2400 (by omega) hN.sym (mu_small hR (by have := hN.few; omega) (by have := hN.w; omega))
      refine h2.mono ?_
      rintro e w' ⟨ev, E, rfl, hE, hEnd, hb⟩
      exact ⟨ev, E, _, rfl, hE, hEnd, hb, .inr ⟨a, q, n, L, rfl, by omega, hsh, hM, hN.once, hN.sym, h1, rfl⟩⟩
    · refine (list_noplace t (by omega) v (G : Int) ib B kk s i w h hin ⟨by simp, by omega, by omega, hsh⟩ ?_).mono ?_
      · have := off_place s i
        omega
      · rintro e w' ⟨rfl, hb⟩
        obtain ⟨E, h1, h2⟩ := ends_none w w' s
        exact ⟨_, E, [], rfl, h1, h2, hb, .inl ⟨fun h => hpl h.2, rfl⟩⟩
  · refine (list_unasked t (by omega) v (G : Int) (some ⟨ib, 0, none⟩) i w h (fun h => hsh h.2.2.2)).mono ?_
    rintro e w' ⟨rfl, hb⟩
    obtain ⟨E, h1, h2⟩ := ends_none w w' s
    exact ⟨_, E, [], rfl, h1, h2, hb, .inl ⟨fun h => hsh h.1, rfl⟩⟩
end Go.Proofs.Ytnemacejaiifnaa
/- What trees of one or two Kids are laid as, and where they may fit. No memory but List's. -/
namespace Go.Proofs.Ytnemacejaiifnaa
open Go Go.RowKit

/-- All ways are what they are, whatever the stack. -/
theorem gw_det {n : Nat} {K : Ks} {i : Nat} {c : List Int} {S : List Nat} {L : List Out} (h : GW n K i c S L) : ∀ {m : Nat} {L' : List Out}, GW m K i c S L' → L = L' := by
  induction h with
  | fin => intro m L' h; cases h; rfl
  | none => intro m L' h; cases h; rfl
  | eps _ ih => intro m L' h; cases h with | eps h => exact ih h
  | symT hp _ ih => intro m L' h; cases h with | symT _ h => exact ih h | symF hq => rw [hp] at hq; cases hq
  | symF hp => intro m L' h; cases h with | symT hq h => rw [hp] at hq; cases hq | symF hq => rfl
  | lookT hp _ ih => intro m L' h; cases h with | lookT _ h => exact ih h | lookF hq => rw [hp] at hq; cases hq
  | lookF hp => intro m L' h; cases h with | lookT hq h => rw [hp] at hq; cases hq | lookF hq => rfl
  | cap _ ih => intro m L' h; cases h with | cap h => exact ih h
  | capEnd _ ih => intro m L' h; cases h with | capEnd h => exact ih h
  | seq _ ih => intro m L' h; cases h with | seq h => exact ih h
  | altN => intro m L' h; cases h; rfl
  | altC _ _ _ _ ih1 ih2 => intro m L' h; cases h with | altC h1 h2 => rw [ih1 h1, ih2 h2]
  | quest _ _ ih1 ih2 => intro m L' h; cases h with | quest h1 h2 => rw [ih1 h1, ih2 h2]
  | mkF ha => intro m L' h; cases h with | mkF => rfl | mkT hb => exact absurd ha hb
  | mkT ha _ ih => intro m L' h; cases h with | mkF hb => exact absurd hb ha | mkT _ h => exact ih h
  | starF ha => intro m L' h; cases h with | starF => rfl | starT hb => exact absurd ha hb
  | starT ha _ _ ih1 ih2 => intro m L' h; cases h with | starF hb => exact absurd hb ha | starT _ h1 h2 => rw [ih1 h1, ih2 h2]
  | plusF ha => intro m L' h; cases h with | plusF => rfl | plusT hb => exact absurd ha hb
  | plusT ha _ ih => intro m L' h; cases h with | plusF hb => exact absurd hb ha | plusT _ h => exact ih h
  | askF ha => intro m L' h; cases h with | askF => rfl | askT hb => exact absurd ha hb
  | askT ha _ _ ih1 ih2 => intro m L' h; cases h with | askF hb => exact absurd hb ha | askT _ h1 h2 => rw [ih1 h1, ih2 h2]

/-- The ends of a tree that is laid as q. -/
def EndsQ (G : Nat) (q : Q) (a : Nat) (L : List Out) : Prop := ∃ n W, GW n [.q q] a ((List.replicate (2 * (G + 1)) (-1)).set 0 (a : Int)) [] W ∧ L = firsts [] W
theorem firsts_has : ∀ (P : List Nat) (L : List Out) (o : Out), o ∈ L → o.1 ∉ P → ∃ p ∈ firsts P L, p.1 = o.1
  | P, [], o, h, _ => by cases h
  | P, x :: L, o, h, hP => by
    unfold firsts
    rcases List.mem_cons.1 h with rfl | h
    · rw [if_neg hP]; exact ⟨_, List.mem_cons_self .., rfl⟩
    · split
      · exact firsts_has P L o h hP
      · by_cases e : o.1 = x.1
        · exact ⟨x, List.mem_cons_self .., e.symm⟩
        · obtain ⟨p, h1, h2⟩ := firsts_has (x.1 :: P) L o h (by simp [e, hP])
          exact ⟨p, List.mem_cons_of_mem _ h1, h2⟩
/-- They are where the tree may fit. -/
theorem endsQ_reach {R : List Int} {G : Nat} {t : Tr} {q : Q} {a : Nat} {L : List Out} (h : EndsQ G q a L) (hM : Mat R G t q) (hsh : ShapedP t) (hn : (idsQ q).Nodup) (j : Nat) : (∃ o ∈ L, o.1 = j) ↔ TreeR R t a j := by
  obtain ⟨n, W, hW, rfl⟩ := h
  rw [← mat_reach R G t hsh q hM, ← ways_reach hn hW]
  constructor
  · rintro ⟨o, ho, e⟩; exact ⟨o, ((firsts_nodup [] W).2 o ho).1, e⟩
  · rintro ⟨o, ho, rfl⟩; exact firsts_has [] W o ho (by simp)
/-- The first end of an Alt is the first one of its first Kid, if that has any. -/
theorem endsQ_head {G : Nat} {x r : Q} {a : Nat} {L M : List Out} (h : EndsQ G x a L) (k : EndsQ G (.altC x r) a M) (o : Out) (hL : L.head? = some o) : M.head? = some o := by
  obtain ⟨n, W, hW, rfl⟩ := h
  obtain ⟨m, V, hV, rfl⟩ := k
  cases hV with
  | altC h1 h2 =>
    obtain rfl := gw_det hW h1
    cases W with
    | nil => cases hL
    | cons p W =>
      simp only [firsts, List.not_mem_nil, if_false, List.head?_cons] at hL ⊢
      simp only [List.cons_append, firsts, List.not_mem_nil, if_false, List.head?_cons]
      exact hL
/-- List of a tree that is laid as q. -/
theorem list_laid (t : Tr) (v : Value) (ib B : Nat) (kk : Int) (s : ByteArray) (a : Nat) (w : World) (h : Tre w t v) (hin : In w B kk s ib) (hs : s.size ≤ 60) (hp : partsR t ≤ 1000) (ha : a ≤ (runesOf s).length) (hsh : ShapedP t) (q : Q) (hM : Mat (runesOf s) 0 t q) (n : Nat) (hN : Numd (runesOf s).length 4000 n 2000 4000 q) :
    Calls Try.prog 14 #[v, .int .i64 0, ptrV ib, .int .i64 a] w fun e w' => ∃ (ev : Value) (E : Env) (L : List Out), e = .returned ev ∧ w.heap.size ≤ E.fb ∧ EndsAt E w' ev L ∧ Below w.heap.size w w' ∧ EndsQ 0 q a L := by
  have hR : (runesOf s).length ≤ 60 := by have := length_runesOf s; omega
  have hf := hN.few
  have hw := hN.w
  have hmu : mu (runesOf s).length 4000 (idsQ q).length a (idsQ q).length (wQ q + 1) ≤ 4000000000000 := by
    have h1 : ((runesOf s).length - a) * (4000 * ((idsQ q).length + 1)) ≤ 480240000 := Nat.le_trans (Nat.mul_le_mul (show (runesOf s).length - a ≤ 60 by omega) (Nat.mul_le_mul_left 4000 (show (idsQ q).length + 1 ≤ 2001 by omega))) (by decide)
    have h2 : 4000 * (idsQ q).length ≤ 8000000 := by omega
    have e : mu (runesOf s).length 4000 (idsQ q).length a (idsQ q).length (wQ q + 1) = ((runesOf s).length - a) * (4000 * ((idsQ q).length + 1)) + 4000 * (idsQ q).length + (wQ q + 1) := rfl
    omega
  obtain ⟨m, L, h1, h2⟩ := list_ways t (by omega) v 0 ib B kk s a w h hin hsh (by omega) (by omega) ha q hM hN.once (by omega) 4000 (by omega) hN.sym hmu
  refine h2.mono ?_
  rintro e w' ⟨ev, E, rfl, hE, hEnd, hb⟩
  exact ⟨ev, E, _, rfl, hE, hEnd, hb, m, L, h1, rfl⟩
/-- A tree of an Op with Kids is shaped, if they are. -/
theorem opX_shapedP {op : Int} {ks : List Tr} (ho : (op = 7 ∧ ks.length = 1) ∨ (op = 9 ∧ ks.length = 1) ∨ op = 11 ∨ (op = 12 ∧ 2 ≤ ks.length)) (h : ∀ k ∈ ks, ShapedP k) : ShapedP (opX op 0 ks) := by
  rw [shapedP_iff]
  refine ⟨?_, ?_, ?_, h⟩
  · rcases ho with ⟨rfl, -⟩ | ⟨rfl, -⟩ | rfl | ⟨rfl, -⟩ <;> simp [FieldsOk, opX, Tr.fld] <;> decide
  · rcases ho with ⟨rfl, hk⟩ | ⟨rfl, hk⟩ | rfl | ⟨rfl, hk⟩ <;> simp [KidsOk, opX, Tr.fld, Tr.kids] <;> first | exact hk | omega | trivial
  · rcases ho with ⟨rfl, -⟩ | ⟨rfl, -⟩ | rfl | ⟨rfl, -⟩ <;> simp [opX, Tr.fld]
theorem opX_kids (op cap : Int) (ks : List Tr) : (opX op cap ks).kids = ks := rfl
theorem opX_op (op cap : Int) (ks : List Tr) : (opX op cap ks).fld.op = op := rfl
theorem alt_fits (R : List Int) (a b : Tr) (i j : Nat) : TreeR R (opX 12 0 [a, b]) i j ↔ TreeR R a i j ∨ TreeR R b i j := by
  rw [treeR_eq]
  simp [TreeX, opX_kids, opX_op, AltR]
theorem quest_fits (R : List Int) (a : Tr) (i j : Nat) : TreeR R (opX 9 0 [a]) i j ↔ TreeR R a i j ∨ j = i := by
  rw [treeR_eq]
  simp [TreeX, opX_kids, opX_op]
  exact or_comm
theorem star_fits (R : List Int) (a : Tr) (i j : Nat) : TreeR R (opX 7 0 [a]) i j ↔ StarR (TreeR R a) i j := by
  rw [treeR_eq]
  simp [TreeX, opX_kids, opX_op]
theorem cat_fits (R : List Int) (a b : Tr) (i j : Nat) : TreeR R (opX 11 0 [a, b]) i j ↔ ∃ k, TreeR R a i k ∧ TreeR R b k j := by
  rw [treeR_eq]
  simp [TreeX, opX_kids, opX_op, RowR]
/-- What the six trees of the law are laid as. -/
structure Laid6 (R : List Int) (a b : Tr) (qa qb x q s c : Q) : Prop where
  ma : Mat R 0 a qa
  mb : Mat R 0 b qb
  mx : Mat R 0 (opX 12 0 [a, b]) x
  mq : Mat R 0 (opX 9 0 [a]) q
  ms : Mat R 0 (opX 7 0 [a]) s
  mc : Mat R 0 (opX 11 0 [a, b]) c
  na : ∃ n, Numd R.length 4000 n 2000 4000 qa
  nb : ∃ n, Numd R.length 4000 n 2000 4000 qb
  nx : ∃ n, Numd R.length 4000 n 2000 4000 x
  nq : ∃ n, Numd R.length 4000 n 2000 4000 q
  ns : ∃ n, Numd R.length 4000 n 2000 4000 s
  nc : ∃ n, Numd R.length 4000 n 2000 4000 c
  head : ∃ r, x = .altC qa r
theorem weight_opX {op : Int} {ks : List Tr} (h : op = 7 ∨ op = 9 ∨ op = 11) (hw : (ks.map weightR).sum ≤ 301) : weightR (opX op 0 ks) = 1 + (ks.map weightR).sum := by
  rw [weightR_eq]
  rcases h with rfl | rfl | rfl <;> simp [weightN, clipR, opX, Tr.fld, Tr.kids] <;> omega
theorem laid6 (R : List Int) (a b : Tr) (ha : ShapedP a) (hb : ShapedP b) (hw : weightR a + weightR b ≤ 300) : ∃ qa qb x q s c, Laid6 R a b qa qb x q s c := by
  have pa := weight_pos a ha
  have pb := weight_pos b hb
  obtain ⟨qa, m1, n1⟩ := mat_has R 0 4000 a ha (by omega) (by omega) 0
  obtain ⟨qb, m2, n2⟩ := mat_has R 0 4000 b hb (by omega) (by omega) (0 + (3 * weightR a - 1))
  have hs1 : ShapedP (opX 9 0 [a]) := opX_shapedP (.inr (.inl ⟨rfl, rfl⟩)) (by simpa using ha)
  have hs2 : ShapedP (opX 7 0 [a]) := opX_shapedP (.inl ⟨rfl, rfl⟩) (by simpa using ha)
  have hs3 : ShapedP (opX 11 0 [a, b]) := opX_shapedP (.inr (.inr (.inl rfl))) (by simpa using ⟨ha, hb⟩)
  have w1 := weight_opX (op := 9) (ks := [a]) (by simp) (by simp; omega)
  have w2 := weight_opX (op := 7) (ks := [a]) (by simp) (by simp; omega)
  have w3 := weight_opX (op := 11) (ks := [a, b]) (by simp) (by simp; omega)
  simp only [List.map_cons, List.map_nil, List.sum_cons, List.sum_nil] at w1 w2 w3
  obtain ⟨q, m4, n4⟩ := mat_has R 0 4000 _ hs1 (by omega) (by omega) 0
  obtain ⟨s, m5, n5⟩ := mat_has R 0 4000 _ hs2 (by omega) (by omega) 0
  obtain ⟨c, m6, n6⟩ := mat_has R 0 4000 _ hs3 (by omega) (by omega) 0
  have n7 : Numd R.length 4000 (0 + (3 * weightR a - 1) + (3 * weightR b - 1)) 0 1 .altN := .leaf rfl rfl trivial (Nat.le_refl _)
  have n8 := n1.altC (n2.altC n7)
  exact ⟨qa, qb, _, q, s, c, m1, m2, (mat_iff R 0 _ _).2 (.alt rfl (.cons m1 (.cons m2 .nil))), m4, m5, m6, ⟨_, n1.up (by omega) (by omega)⟩, ⟨_, n2.up (by omega) (by omega)⟩, ⟨_, n8.up (by omega) (by omega)⟩, ⟨_, n4.up (by omega) (by omega)⟩, ⟨_, n5.up (by omega) (by omega)⟩, ⟨_, n6.up (by omega) (by omega)⟩, _, rfl⟩
end Go.Proofs.Ytnemacejaiifnaa
/- The ends that List tells, as rows in memory; each lies in the text, its groups between. No condition. -/
namespace Go.Proofs.Ytnemacejaiifnaa
open Go Go.RowKit

/-- Each end lies in the text, not ahead of where the match begins, and its groups lie between. -/
theorem ways_fit {R : List Int} {G : Nat} {t : Tr} {i : Int} {L : List Out} (h : WaysOf R G t i L) : ∀ o ∈ L, 0 ≤ i ∧ i ≤ (o.1 : Int) ∧ o.1 ≤ R.length ∧ FitOf i G [] o.1 o.2 := by
  rcases h with ⟨-, rfl⟩ | ⟨a, q, n, W, rfl, ha, hsh, hM, hnd, hS, hW, rfl⟩
  · intro o ho; cases ho
  · intro o ho
    have hm := ((firsts_nodup [] W).2 o ho).1
    obtain ⟨h1, h2, h3⟩ := gw_groups (a := (a : Int)) (G := G) (N := R.length) (C := 2400) hW ⟨hS, trivial⟩ ⟨mat_caps R G t hsh q hM, trivial⟩ (fit_start G a q) ha o hm
    exact ⟨by omega, by omega, h3, h1⟩
/-- What an own row of ints holds. -/
theorem ownI_cell {w : World} {B g n c : Nat} {k : List Int} (h : OwnI w B (.slice (some ⟨g, 0, none⟩) n c) k) (i : Nat) (hi : i < k.length) : w.cell? ⟨g, i, none⟩ = some (.int .i64 k[i]) := by
  have h1 := h.cells (g := g) rfl i (.int .i64 k[i]) (by simp [cellsI, hi])
  have : (⟨g, 0, none⟩ : Addr).add i = ⟨g, i, none⟩ := by unfold Addr.add; split <;> simp_all
  rw [this] at h1
  exact h1
theorem ownI_slice {w : World} {B : Nat} {v : Value} {k : List Int} (h : OwnI w B v k) (hk : k ≠ []) : ∃ g c, v = .slice (some ⟨g, 0, none⟩) k.length c ∧ k.length ≤ c ∧ c ≤ maxLen := by
  rcases own_slice1 h with ⟨-, hn⟩ | ⟨g, c, e, h1, h2, -⟩
  · exact absurd (List.eq_nil_of_length_eq_zero hn) hk
  · exact ⟨g, c, e, h1, h2⟩
/-- The row of ends in memory: a slice of so many; the end of the j-th. -/
structure EndsV (W : World) (ev : Value) (L : List Out) : Prop where
  sl : ∃ A c, ev = .slice A L.length c ∧ L.length ≤ c ∧ c ≤ maxLen
  at' : ∀ (A : Option Addr) (n c : Nat), ev = .slice A n c → ∀ (j : Nat) (h : j < L.length), ∃ (g r rc : Nat), A = some ⟨g, 0, none⟩ ∧ W.cell? ⟨g, j, none⟩ = some (.slice (some ⟨r, 0, none⟩) L[j].2.length rc) ∧ L[j].2.length ≤ rc ∧ rc ≤ maxLen ∧ ∀ (i : Nat) (hi : i < (rowOf L[j]).length), W.cell? ⟨r, i, none⟩ = some (.int .i64 (rowOf L[j])[i])
theorem EndsAt.ev {E : Env} {W : World} {ev : Value} {L : List Out} (h : EndsAt E W ev L) (hl : ∀ o ∈ L, 1 ≤ o.2.length) : EndsV W ev L := by
  obtain ⟨vs, h1, h2, h3⟩ := h
  refine ⟨?_, fun A n c e j hj => ?_⟩
  · rcases own_slice1 h1 with ⟨rfl, hn⟩ | ⟨g, c, rfl, a1, a2, -⟩
    · exact ⟨none, 0, by rw [← h2, hn], by omega, Nat.zero_le _⟩
    · exact ⟨_, c, by rw [← h2], by omega, a2⟩
  · have hjv : j < vs.length := by omega
    have hrow := h3 j hjv hj
    have hl1 : (rowOf L[j]).length = L[j].2.length := by simp [rowOf]
    have hne : rowOf L[j] ≠ [] := List.ne_nil_of_length_pos (by rw [hl1]; exact hl _ (List.getElem_mem hj))
    obtain ⟨r, rc, e2, a1, a2⟩ := ownI_slice hrow hne
    rcases own_slice1 h1 with ⟨rfl, hn⟩ | ⟨g, c', rfl, -⟩
    · omega
    · injection e with ea
      subst ea
      rw [e2] at hrow
      have hc := h1.cells (g := g) rfl j vs[j] (by simp [hjv])
      rw [show (⟨g, 0, none⟩ : Addr).add j = ⟨g, j, none⟩ by unfold Addr.add; split <;> simp_all, e2] at hc
      rw [hl1] at hc a1
      exact ⟨g, r, rc, rfl, hc, a1, a2, fun i hi => ownI_cell hrow i hi⟩
theorem EndsV.below {W W' : World} {ev : Value} {L : List Out} (h : EndsV W ev L) (hb : Below W.heap.size W W') : EndsV W' ev L := by
  have lift : ∀ {a : Addr} {u : Value}, W.cell? a = some u → W'.cell? a = some u := fun h => (hb.cell (World.block_lt_of_cell? W _ h)).trans h
  refine ⟨h.sl, fun A n c e j hj => ?_⟩
  obtain ⟨g, r, rc, h1, h2, h3, h4, h5⟩ := h.at' A n c e j hj
  exact ⟨g, r, rc, h1, lift h2, h3, h4, fun i hi => lift (h5 i hi)⟩
end Go.Proofs.Ytnemacejaiifnaa
/- Does one of the ends stand at a place: the law's own question. No condition. -/
namespace Go.Proofs.Ytnemacejaiifnaa
open Go Go.RowKit

def hasE (L : List Out) (j : Nat) : Bool := L.any fun o => decide (o.1 = j)
theorem hasE_iff {L : List Out} {j : Nat} : hasE L j = true ↔ ∃ o ∈ L, o.1 = j := by simp [hasE]
/-- Of a tree that is laid as q: each end lies in the text, behind where it begins; its fit has two places. -/
theorem endsQ_fit {R : List Int} {t : Tr} {q : Q} {a n : Nat} {L : List Out} (h : EndsQ 0 q a L) (hM : Mat R 0 t q) (hsh : ShapedP t) (hN : Numd R.length 4000 n 2000 4000 q) (ha : a ≤ R.length) : ∀ o ∈ L, a ≤ o.1 ∧ o.1 ≤ R.length ∧ o.2.length = 2 := by
  obtain ⟨n, W, hW, rfl⟩ := h
  intro o ho
  have hm := ((firsts_nodup [] W).2 o ho).1
  obtain ⟨h1, h2, h3⟩ := gw_groups (a := (a : Int)) (G := 0) (N := R.length) (C := 4000) hW ⟨hN.sym, trivial⟩ ⟨mat_caps R 0 t hsh q hM, trivial⟩ (fit_start 0 a q) ha o hm
  have := h1.len
  exact ⟨by omega, h3, by omega⟩

set_option maxHeartbeats 1600000 in
set_option maxRecDepth 100000 in
theorem ends_any {W : World} {ev : Value} {L : List Out} (h : EndsV W ev L) (hl : ∀ o ∈ L, o.1 ≤ 60 ∧ o.2.length = 2) (j : Nat) (hj : j ≤ 60) : Calls Try.prog 18 #[ev, .int .i64 (j : Int)] W fun e w' => e = .returned (.bool (hasE L j)) ∧ W = w' := by
  obtain ⟨A, c, rfl, hle, hlm⟩ := h.sl
  have HAT := Lib.hid (h.at' A L.length c rfl)
  obtain ⟨N, hN⟩ : ∃ N, L.length = N := ⟨_, rfl⟩
  rw [hN] at hle ⊢
  have HNN := Lib.hid hN; have HL := Lib.hid hl
  have hNb : N ≤ 9223372036854775807 := by unfold maxLen at hlm; omega
  obtain ⟨B, hB⟩ : ∃ B, hasE L j = B := ⟨_, rfl⟩
  have HB := Lib.hid hB
  rw [hB]
  clear h hl hN hlm hB
  go_enter Try.func18, Try.ntmps18
  go_wp2_with fail
  go_loopw [5] (fun i wr => ∃ k : Nat, k ≤ N ∧ i = .int .i64 (k : Int) ∧ wr = W ∧ ∀ p, p < k → L[p]?.map Prod.fst ≠ some j) (fun i _ => N - (intOf i).toNat)
  case atStart => exact ⟨0, by omega, rfl, rfl, fun p hp => by omega⟩
  case round =>
    obtain ⟨k, hk, rfl, rfl, hno⟩ := hrel
    have HNO := Lib.hid hno
    clear hno
    by_cases hkN : k < N
    · have hd : decide ((k : Int) < (N : Int)) = true := decide_eq_true (by omega)
      have hkl : k < L.length := by rw [HNN.out]; exact hkN
      obtain ⟨g, r, rc, rfl, c1, hrc, hrm, hcell⟩ := HAT.out k hkl
      obtain ⟨e1, e2⟩ := HL.out _ (List.getElem_mem hkl)
      rw [e2] at c1 hrc
      have c2 := hcell 1 (by simp [rowOf]; omega)
      rw [show (rowOf L[k])[1]'(by simp [rowOf]; omega) = (L[k].1 : Int) by simp [rowOf]] at c2
      obtain ⟨o1, ho⟩ : ∃ o1, L[k].1 = o1 := ⟨_, rfl⟩
      rw [ho] at c2 e1
      have HO := Lib.hid ho
      clear hcell ho
      by_cases hoj : o1 = j
      · have hoe : ((o1 : Int) == (j : Int)) = true := by rw [hoj]; simp
        obtain rfl : B = true := by rw [← HB.out, hasE_iff]; exact ⟨_, List.getElem_mem hkl, HO.out.trans hoj⟩
        as_aux_lemma =>
          go_wp2_with fail
          go_ret
          exact ⟨rfl, rfl⟩
      · have hoe : ((o1 : Int) == (j : Int)) = false := beq_eq_false_iff_ne.2 (by omega)
        have hnx : ∀ p, p < k + 1 → L[p]?.map Prod.fst ≠ some j := fun p hp => by
          by_cases e : p = k
          · subst e; rw [List.getElem?_eq_getElem hkl]; simp [HO.out, hoj]
          · exact HNO.out p (by omega)
        as_aux_lemma =>
          go_wp2_with fail
          exact ⟨⟨k + 1, by omega, by go_num, (by first | rfl | trivial), hnx⟩, by simp only [intOf]; omega⟩
    · have hd : decide ((k : Int) < (N : Int)) = false := decide_eq_false (by omega)
      obtain rfl : B = false := by
        rw [← HB.out]
        refine Bool.eq_false_iff.2 fun h => ?_
        obtain ⟨o, ho, e⟩ := hasE_iff.1 h
        obtain ⟨p, hp, rfl⟩ := List.mem_iff_getElem.1 ho
        exact HNO.out p (by rw [HNN.out] at hp; omega) (by rw [List.getElem?_eq_getElem hp]; simp [e])
      as_aux_lemma =>
        go_wp2_with fail
        go_ret
        exact ⟨rfl, rfl⟩
theorem ends_row {W : World} {A : Option Addr} {n c : Nat} {L : List Out} (h : EndsV W (.slice A n c) L) (hl : ∀ o ∈ L, o.1 ≤ 60 ∧ o.2.length = 2) (k : Nat) (hk : k < L.length) :
    ∃ g r rc, A = some ⟨g, 0, none⟩ ∧ W.cell? ⟨g, k, none⟩ = some (.slice (some ⟨r, 0, none⟩) 2 rc) ∧ 2 ≤ rc ∧ rc ≤ maxLen ∧ W.cell? ⟨r, 1, none⟩ = some (.int .i64 (L[k].1 : Int)) := by
  obtain ⟨g, r, rc, e, c1, hrc, hrm, hcell⟩ := h.at' A n c rfl k hk
  have e2 := (hl _ (List.getElem_mem hk)).2
  rw [e2] at c1 hrc
  have c2 := hcell 1 (by simp [rowOf]; omega)
  rw [show (rowOf L[k])[1]'(by simp [rowOf]; omega) = (L[k].1 : Int) by simp [rowOf]] at c2
  exact ⟨g, r, rc, e, c1, hrc, hrm, c2⟩
/-- What List tells of a tree that is laid as q. -/
def ListQ (R : List Int) (t : Tr) (q : Q) (a : Nat) (w : World) (e : Ending) (w' : World) : Prop := ∃ (ev : Value) (L : List Out), e = .returned ev ∧ EndsV w' ev L ∧ Below w.heap.size w w' ∧ (∀ o ∈ L, o.1 ≤ R.length ∧ o.2.length = 2) ∧ EndsQ 0 q a L ∧ ∀ j, hasE L j = true ↔ TreeR R t a j
theorem list_q {t : Tr} {v : Value} {ib B : Nat} {kk : Int} {s : ByteArray} {a : Nat} {w : World} (h : Tre w t v) (hin : In w B kk s ib) (hs : s.size ≤ 60) (hp : partsR t ≤ 1000) (ha : a ≤ (runesOf s).length) (hsh : ShapedP t) {q : Q} (hM : Mat (runesOf s) 0 t q) (hN : ∃ n, Numd (runesOf s).length 4000 n 2000 4000 q) :
    Calls Try.prog 14 #[v, .int .i64 0, .pointer (some ⟨ib, 0, none⟩), .int .i64 a] w (ListQ (runesOf s) t q a w) := by
  obtain ⟨n, hN⟩ := hN
  refine (list_laid t v ib B kk s a w h hin hs hp ha hsh q hM n hN).mono ?_
  rintro e w' ⟨ev, E, L, rfl, -, hend, hb, hq⟩
  have hf := endsQ_fit hq hM hsh hN ha
  exact ⟨ev, L, rfl, hend.ev fun o ho => by have := (hf o ho).2.2; omega, hb, fun o ho => (hf o ho).2, hq, fun j => hasE_iff.trans (endsQ_reach hq hM hsh hN.once j)⟩
end Go.Proofs.Ytnemacejaiifnaa
/- The beginning of Find: a tree is laid, its end keeps the first. No condition. -/
namespace Go.Proofs.Ytnemacejaiifnaa
open Go Go.RowKit

theorem rinv_find {E : Env} {w4 w5 : World} {v : Fv} {N : List Nat} {T : List (Fv × Ks)} {Z : List Lzy} {q : Q} {mb : Nat} (hrd : Rd E w4) (hO4 : Om w4 E.q (ptrV E.ib) E.fv (.slice none 0 0) (.map (some mb)) 0 (.slice none 0 0) (.slice none 0 0))
    (hO5 : Om w5 E.q (ptrV E.ib) E.fv (.slice none 0 0) (.map (some mb)) ((N.length : Nat) : Int) (.slice none 0 0) (.slice none 0 0)) (hl : Laid E (firstF E) [] q 0 w4 v w5 N T Z) (hw : Words w4 mb 0 fun _ _ => 0) (hmb : E.w0.heap.size ≤ mb)
    (hfit : Whole w4 E.fb 3 (fitC (List.replicate (2 * (E.G + 1)) (-1)))) (hfb : E.w0.heap.size ≤ E.fb) (hG : E.G ≤ 2000) (hR : E.R.length ≤ 1000) (hnd : ∀ a, (idsQ q).count a ≤ 1) (htot : (idsQ q).length ≤ 49999999) :
    RInv E (MdF E) (firstF E) w5 (am0 E) ⟨N.map some, (firstF E, []) :: T, Z, Z⟩ ∧ Rp (fun v k => (v, k) ∈ (firstF E, []) :: T) v [.q q] := by
  have hg := hl.grown
  have hs := hg.size
  have hne : ∀ {b : Nat} {t : TypeId} {cs : Array Value}, Whole w4 b t cs → t ≠ 82 → b ≠ E.q := fun {b t cs} hb ht e => by
    subst e
    have h1 := hO4
    unfold Om Whole at h1
    unfold Whole at hb
    rw [hb] at h1
    injection h1 with h1
    injection h1 with _ h2
    exact ht h2
  have hk : ∀ {b : Nat} {t : TypeId} {cs : Array Value}, Whole w4 b t cs → t ≠ 82 → Whole w5 b t cs := fun {b t cs} hb ht => kp_away hg hb (hne hb ht)
  have hzb : ∀ z ∈ Z, w4.heap.size ≤ z.b := fun z hz => (hl.stage.lazies z hz).2.1
  have hmq : mb ≠ E.q := fun e => by
    obtain ⟨es, clock, h1⟩ := words_at hw
    rw [e] at h1
    have h2 := hO4
    unfold Om Whole at h2
    rw [h1] at h2
    cases h2
  have hln : (ghOf (fun v k => v = firstF E ∧ k = []) w4.heap.size w5.heap.size 0 w5 N T Z).le (ghR w5 ⟨N.map some, (firstF E, []) :: T, Z, Z⟩) := ⟨fun b ty cs hct ⟨h1, h2, h3, h4⟩ => ⟨h1, hct, h4⟩, fun v k hv => by
      rcases hv with hv | ⟨rfl, rfl⟩
      · exact List.mem_cons_of_mem _ hv
      · exact List.mem_cons_self .., fun b x K ⟨y, hy, e⟩ => ⟨y, hy, e⟩, fun k a ⟨j, hj, e⟩ => ⟨j, by
      show (N.map some)[j]? = _
      simp [hj], by omega⟩⟩
  refine ⟨⟨hrd.grown hg, ⟨.slice none 0 0, mb, 0, fun _ _ => 0, .slice none 0 0, .slice none 0 0, [], ?_, World.ownsRow_nil _ _ _ _, .nil, hw.kept (hg.block mb hw.lt (by intro e; exact hmq (Option.some.inj e))), metR_new _, ⟨rfl, rfl⟩, hmb⟩, ⟨hk hfit (by decide), by simp [am0]⟩, ?_, ⟨hfb, hG, hR⟩, ?_⟩, hl.rep.mono fun _ _ h => List.mem_cons_of_mem _ h⟩
  · have e : (((N.map some : List (Option Nat)).length : Nat) : Int) = ((N.length : Nat) : Int) := by simp
    rw [e]
    exact hO5
  · refine ⟨fun p hp => ?_, fun z hz => ?_, fun z hz => hz, hl.stage.nodup, fun a => ?_, ?_, fun z hz => by have := hzb z hz; have := hrd.below.size; omega⟩
    · rcases List.mem_cons.1 hp with rfl | hp
      · exact .inl rfl
      · exact .inr ((hl.stage.locs p hp).mono hln)
    · obtain ⟨a, b', c, d⟩ := hl.stage.lazies z hz
      exact .inl ⟨hz, a, d.mono hln⟩
    · have h1 := hl.count a
      have h2 := hnd a
      have : (N.map some : List (Option Nat)).count (some a) = N.count a := by
        simp [count_some]
      show (N.map some : List (Option Nat)).count (some a) + (idsZ Z).count a ≤ 1
      rw [this]
      omega
    · have := ids_len hl.count
      simp only [List.length_map]
      omega
  · trivial
end Go.Proofs.Ytnemacejaiifnaa
/- Find, where the first place has a match. No condition. -/
namespace Go.Proofs.Ytnemacejaiifnaa
open Go Go.RowKit

set_option maxRecDepth 100000 in
theorem ending_first (E : Env) (w : World) : Calls Try.prog 46 #[ptrV E.q, .bool false] w fun e w' => e = .returned (firstF E).v ∧ w' = w := by
  go_enter Try.func46, Try.ntmps46
  go_wp2
  go_ret
  exact ⟨rfl, rfl⟩
set_option maxHeartbeats 3200000 in
set_option maxRecDepth 100000 in
theorem find_hit (t : Tr) (hp : partsR t ≤ 10000000000) (v : Value) (G ib : Nat) (B : Nat) (kk : Int) (s : ByteArray) (i : Nat) (w : World) (h : Tre w t v) (hin : In w B kk s ib) (hsh : ShapedP t) (hG : G ≤ 2000) (hR : (runesOf s).length ≤ 1000) (hi : i ≤ (runesOf s).length) (hpl : 0 ≤ offAt (offsOf s) i) (q : Q) (hM : Mat (runesOf s) G t q) (hnd : ∀ a, (idsQ q).count a ≤ 1) (htot : (idsQ q).length ≤ 49999999)
    (nst Bd : Nat) (s1 : Am) (i1 : Nat) (es1 : List Ent) (hB : Bd ≤ 4000000000000) (hr : Runs Bd nst ⟨fun _ _ => false, (List.replicate (2 * (G + 1)) (-1)).set 0 (i : Int), [.go [.q q] i], []⟩ s1) (h1 : s1.left = .go [] i1 :: es1) (ha : s1.arr = []) (hl1 : s1.left.length ≤ Bd) :
    Calls Try.prog 19 #[v, .int .i64 (G : Int), ptrV ib, .int .i64 (i : Int), .bool false] w fun e w' => ∃ (g c : Nat), e = .returned (.tuple #[.slice (some ⟨g, 0, none⟩) (2 * (G + 1)) c, .bool true]) ∧ OwnI w' w.heap.size (.slice (some ⟨g, 0, none⟩) (2 * (G + 1)) c) (rowOf (i1, s1.fit)) ∧ Below w.heap.size w w' := by
  obtain ⟨kv, sv, rfl, -⟩ := h.parts
  obtain ⟨w1, hw1⟩ : ∃ w1, w.alloc (.cells (treC t.fld kv sv) 27) = w1 := ⟨_, rfl⟩
  have hb1 : Below w.heap.size w w1 := by rw [← hw1]; exact (Below.refl _ _).alloc (Nat.le_refl _) _
  have b1 : Whole w1 w.heap.size 27 (treC t.fld kv sv) := by rw [← hw1]; exact heap_alloc_new w _
  have HAS := Lib.hid (asked_any t hp (.agg (treC t.fld kv sv)) (G : Int) (some ⟨ib, 0, none⟩) w1 (h.below hb1))
  have hT1 := h.below hb1
  have hin1 := hin.below hb1
  have HT1 := Lib.hid hT1; have HIN1 := Lib.hid hin1; have HB1 := Lib.hid hb1; have HB1W := Lib.hid b1; have HW1 := Lib.hid hw1; have HSH := Lib.hid hsh; have HG := Lib.hid hG; have HR := Lib.hid hR; have HI := Lib.hid hi; have HPL := Lib.hid hpl; have HM := Lib.hid hM; have HND := Lib.hid hnd; have HTOT := Lib.hid htot; have HB := Lib.hid hB; have HRU := Lib.hid hr; have H1 := Lib.hid h1; have HA := Lib.hid ha; have HL1 := Lib.hid hl1
  have hmf := mkf
  clear h hin hsh hG hR hi hpl hM hnd htot hB hr h1 ha hl1 hb1 b1 hw1 hT1 hin1 hp
  unfold treC at HAS HW1 ⊢
  go_enter Try.func19, Try.ntmps19
  go_wp2_with fail
  rw [HW1.out]
  refine HAS.out.mono ?_
  rintro e w2 ⟨Bq, rfl, hBq, hb2⟩
  obtain rfl : Bq = true := hBq.2 ⟨by simp, by omega, by have := HG.out; omega, HSH.out⟩
  have hin2 := HIN1.out.below hb2
  have HPI := Lib.hid (dplace_in hin2 (i : Int))
  have HTH := Lib.hid (through_any ib G HG.out w2)
  have HB2 := Lib.hid hb2; have HIN2 := Lib.hid hin2
  clear hBq hb2 hin2 HPI
  go_wp2_with fail
  refine HTH.out.mono ?_
  rintro e w3 ⟨qb, fb, mb, rfl, hfb, hfb2, hqb, hmb, hO3, hfit3, hwo3, hb3⟩
  obtain ⟨E, hE⟩ : ∃ E : Env, E = ⟨w2, qb, ib, s, G, fb⟩ := ⟨_, rfl⟩
  have e0 : w2 = E.w0 := by rw [hE]
  have e1 : qb = E.q := by rw [hE]
  have e2 : ib = E.ib := by rw [hE]
  have e3 : s = E.s := by rw [hE]
  have e4 : G = E.G := by rw [hE]
  have e5 : fb = E.fb := by rw [hE]
  have HFB0 := Lib.hid hfb; have HFB2 := Lib.hid hfb2; have HQB := Lib.hid hqb; have HMB := Lib.hid hmb; have HO3 := Lib.hid hO3; have HF3 := Lib.hid hfit3; have HWO3 := Lib.hid hwo3; have HB3 := Lib.hid hb3
  have HE := Lib.hid hE; have HE0 := Lib.hid e0
  clear hfb hfb2 hqb hmb hO3 hfit3 hwo3 hb3 hE HAS HTH e0
  subst e1 e2 e3 e4 e5
  have HON := Lib.hid (ending_first E w3)
  go_wp2_with fail
  refine HON.out.mono ?_
  rintro e w4 ⟨rfl, hw4⟩
  obtain rfl := hw4
  have hw2e : w2 = E.w0 := HE0.out
  have hrd3 : Rd E w4 := ⟨by rw [← hw2e]; exact HB3.out, by rw [← hw2e]; exact HQB.out⟩
  have hTP : TP E.w0 w.heap.size 0 t := by
    rw [← hw2e]
    refine ⟨kv, sv, fun j hj => ?_, HT1.out.below HB2.out⟩
    have := (HB1W.out.below HB2.out HB1W.out.lt).cell j
    rw [Nat.zero_add, this, Array.getElem?_eq_getElem hj]
  have hfo : Nonempty (FitOk E E.fv) := ⟨rfl, HG.out⟩
  have HLAY := Lib.hid (dlay_any E q w.heap.size 0 t (firstF E) [] _ _ _ _ 0 _ _ w4 hTP HSH.out HM.out hrd3 HO3.out (by have := HTOT.out; omega))
  have HRD3 := Lib.hid hrd3
  clear hrd3 hTP HON
  go_wp2_with fail
  refine HLAY.out.mono ?_
  rintro e w5 ⟨vf, N, T, Z, rfl, hl, hO5⟩
  have hmq : mb ≠ E.q := fun e => by
    obtain ⟨es, clock, h1⟩ := words_at HWO3.out
    rw [e] at h1
    have h2 := HO3.out
    unfold Om Whole at h2
    rw [h1] at h2
    cases h2
  have hst := rinv_find (mb := mb) HRD3.out HO3.out (by simpa using hO5) hl HWO3.out (by rw [← hw2e]; exact HMB.out) HF3.out (by rw [← hw2e]; exact HFB0.out) HG.out HR.out HND.out HTOT.out
  have HGO := Lib.hid (goFrom_first E ⟨B, kk, by rw [← hw2e]; exact HIN2.out⟩ w5 (am0 E) _ vf [.q q] i nst Bd s1 i1 es1 hst.1 rfl hst.2 HI.out HB.out HRU.out H1.out HA.out HL1.out)
  obtain ⟨vg, vff, vc⟩ := vf
  have HST := Lib.hid hst; have HO5 := Lib.hid hO5
  clear hst hl hO5 hmq
  have hq1 : ∀ (g c : Nat) (W : World), (binOp .eql 38 (.slice (some ⟨g, 0, none⟩) (2 * (E.G + 1)) c) (.slice none 0 0)).run Try.prog W = .ok (.bool false) W := fun _ _ _ => rfl
  have hq2 : ∀ (g c : Nat) (W : World), (binOp .neq 38 (.slice (some ⟨g, 0, none⟩) (2 * (E.G + 1)) c) (.slice none 0 0)).run Try.prog W = .ok (.bool true) W := fun _ _ _ => rfl
  have hq3 : ∀ (W : World), (binOp .eql 38 (.slice none 0 0) (.slice none 0 0)).run Try.prog W = .ok (.bool true) W := fun _ => rfl
  have HPL2 : Hid (∀ (W : World) (j : Int), Below E.w0.heap.size E.w0 W → Calls Try.prog 36 #[ptrV E.ib, .int .i64 j] W fun e w' => e = .returned (.bool (decide (0 ≤ offAt (offsOf E.s) j))) ∧ w' = W) := Lib.hid fun W j hW => by
    have hin5 := HIN2.out
    rw [hw2e] at hin5
    refine (dplace_in (hin5.below hW) j).mono ?_
    rintro e w' ⟨rfl, h⟩
    exact ⟨rfl, by first | exact h | exact h.symm⟩
  have HB5 := Lib.hid HST.out.1.rd.below
  clear HLAY
  go_wp2_with fail
  go_loopw [14] (fun at' wr => (at' = .int .i64 (i : Int) ∧ wr = w5) ∨ (at' = .int .i64 ((i : Int) + 1) ∧ Kept E (rowOf (i1, s1.fit)) wr)) (fun at' _ => ((i : Int) + 1 - intOf at').toNat)
  case atStart => exact .inl ⟨by go_num, rfl⟩
  case round =>
    rcases hrel with ⟨rfl, rfl⟩ | ⟨rfl, hK⟩
    · have c6 := (om_ten HO5.out).2.2.2.2.2.2
      have hp1 := HPL2.out wr i HB5.out
      have hd : decide (0 ≤ offAt (offsOf E.s) (i : Int)) = true := decide_eq_true HPL.out
      rw [hd] at hp1
      clear hd
      go_wp2_with (first | (go_at_call 36; refine hp1.mono ?_; rintro e w' ⟨rfl, rfl⟩) | (go_at_call 38; refine HGO.out.mono ?_; rintro e w6 ⟨rfl, hK6⟩))
      have hi9 : i ≤ 1000 := Nat.le_trans HI.out HR.out
      have e9 : wrap64 ((i : Int) + 1) = (i : Int) + 1 := IntWalk.wrap64_in _ ⟨by omega, by omega⟩
      rw [e9]
      exact ⟨.inr ⟨rfl, hK6⟩, by simp [intOf]⟩
    · have HKE := Lib.hid hK
      obtain ⟨g, c, mv, p9, ev, hv, hO9, hb9⟩ := hK
      have c6 := (om_ten hO9).2.2.2.2.2.2
      have h1 := hq1 g c
      have h2 := hq2 g c
      have hp1 := HPL2.out wr ((i : Int) + 1) hb9
      have HV := Lib.hid hv; have HB9 := Lib.hid hb9
      obtain ⟨D, hD⟩ : ∃ D, decide (0 ≤ offAt (offsOf E.s) ((i : Int) + 1)) = D := ⟨_, rfl⟩
      rw [hD] at hp1
      clear hv hO9 hb9 hD hq1 hq2 hq3
      cases D
      all_goals
        go_wp2_with (go_at_call 36; refine hp1.mono ?_; rintro e w' ⟨rfl, rfl⟩)
        go_region
        all_goals go_wp2_with fail
        go_ret2
        refine ⟨g, c, rfl, ?_, ?_⟩
        · refine ⟨HV.out.1, HV.out.2.imp id ?_⟩
          rintro ⟨q', cap', cur', a1, a2, a3⟩
          exact ⟨q', cap', cur', a1, by have := HFB0.out; have := HB1.out.size; have := HB2.out.size; omega, a3⟩
        · have hb9 := HB9.out
          rw [← hw2e] at hb9
          exact (HB1.out.trans (HB2.out.mono HB1.out.size)).trans (hb9.drew.mono (by have := HB1.out.size; have := HB2.out.size; omega))
end Go.Proofs.Ytnemacejaiifnaa
