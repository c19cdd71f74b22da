/- The document's walk from one instruction. -/
import Derived.Test.YtlkbdbijlnjjbaaPgCheck
import Derived.Test.YtlkbdbijlnjjbaaPgSame
set_option linter.unusedVariables false
namespace Go.Proofs.Ytlkbdbijlnjjbaa
open Go Go.RowKit

def natsZ (l : List Nat) : List Int := l.map fun i : Nat => (i : Int)
/-- Is an instruction's At in what the place is? -/
def meetsI (at' a : Int) : Bool := bits .and .i64 at' a != 0
theorem and_swap (a b : Int) : bits .and .i64 a b = bits .and .i64 b a := by
  show IntKind.i64.wrap ((BitVec.ofInt 64 a &&& BitVec.ofInt 64 b).toNat : Int) = IntKind.i64.wrap ((BitVec.ofInt 64 b &&& BitVec.ofInt 64 a).toNat : Int)
  rw [BitVec.and_comm]
/-- The document's Walk lies at block q, its Seen at block g; all else lies as it lay in W0. -/
structure WkIn (W0 W : World) (q g : Nat) (IV : Value) (p : Pg) (n : Nat) (at' : Int) (long : Bool) (lv : Value) (s : Wk) : Prop where
  bel : Below W0.heap.size W0 W
  box : Whole W q 59 #[IV, .int .i64 p.start, .int .i64 p.caps, .int .i64 at', .bool long, .slice (some ⟨g, 0, none⟩) n n, lv, .bool s.hit]
  seen : Whole W g 4 (s.seen.map Value.bool).toArray
  own : OwnZ W W0.heap.size lv (natsZ s.out)
  hq : W0.heap.size ≤ q
  hg : W0.heap.size ≤ g
  ne : q ≠ g
  len : s.seen.length = n
  few : s.out.length + s.seen.count false ≤ n
section
variable {W0 W W' : World} {q g : Nat} {IV : Value} {p : Pg} {n : Nat} {at' : Int} {long : Bool} {lv : Value} {s : Wk}
theorem own_ne_box (h : WkIn W0 W q g IV p n at' long lv s) : lv.ownBlock ≠ some q := own_whole_ne h.own.1 h.box (by decide)
theorem own_ne_seen (h : WkIn W0 W q g IV p n at' long lv s) : lv.ownBlock ≠ some g := own_whole_ne h.own.1 h.seen (by decide)
theorem WkIn.below (h : WkIn W0 W q g IV p n at' long lv s) (hb : Below W.heap.size W W') : WkIn W0 W' q g IV p n at' long lv s :=
  ⟨below_steps h.bel hb, h.box.below hb h.box.lt, h.seen.below hb h.seen.lt, h.own.below hb, h.hq, h.hg, h.ne, h.len, h.few⟩
theorem set_map (l : List Bool) (i : Nat) (b : Bool) : ((l.map Value.bool).toArray.setIfInBounds i (.bool b)) = ((l.set i b).map Value.bool).toArray := by
  simp [List.map_set]
theorem own_set {B : Nat} {v : Value} {l : List Int} (h : OwnZ W B v l) (k j : Nat) (u : Value) (hne : v.ownBlock ≠ some k) : OwnZ (W.setCell ⟨k, j, none⟩ u) B v l := by
  refine ⟨⟨h.1.1, ?_⟩, h.2⟩
  rcases h.1.2 with hn | ⟨a, cap, cur, rfl, hb, hh, rest⟩
  · exact .inl hn
  · refine .inr ⟨a, cap, cur, rfl, hb, ?_, rest⟩
    rw [Below.heap_setCell _ _ _ _ (by intro e1; exact hne (by simp [Value.ownBlock, e1]))]
    exact hh
theorem mark_few (pc : Nat) (hn : newI s pc = true) : (s.seen.set pc true).count false + 1 = s.seen.count false := left_visit s pc zeroI hn
/-- One more is come to. -/
theorem WkIn.mark (h : WkIn W0 W q g IV p n at' long lv s) (pc : Nat) (hn : newI s pc = true) : WkIn W0 (W.setCell ⟨g, pc, none⟩ (.bool true)) q g IV p n at' long lv ⟨s.seen.set pc true, s.out, s.hit⟩ :=
  ⟨h.bel.setCell (p := ⟨g, pc, none⟩) h.hg _, h.box.far h.ne _ _, by rw [← set_map]; exact h.seen.store pc (.bool true), own_set h.own g pc _ (own_ne_seen h), h.hq, h.hg, h.ne, by simpa using h.len, by have h1 := h.few; have h2 := mark_few pc hn; show s.out.length + (s.seen.set pc true).count false ≤ n; omega⟩
/-- A match is come to. -/
theorem WkIn.match' (h : WkIn W0 W q g IV p n at' long lv s) : WkIn W0 (W.setCell ⟨q, 7, none⟩ (.bool true)) q g IV p n at' long lv ⟨s.seen, s.out, true⟩ := by
  refine ⟨h.bel.setCell (p := ⟨q, 7, none⟩) h.hq _, ?_, h.seen.far (fun e => h.ne e.symm) _ _, own_set h.own q 7 _ (own_ne_box h), h.hq, h.hg, h.ne, h.len, h.few⟩
  have := h.box.store 7 (.bool true)
  simpa using this
/-- The list is another one. -/
theorem WkIn.list (h : WkIn W0 W q g IV p n at' long lv s) {lv' : Value} {l : List Nat} (hbel : Below W0.heap.size W0 W') (hq' : W'.heap[q]? = W.heap[q]?) (hg' : W'.heap[g]? = W.heap[g]?) (ho : OwnZ W' W0.heap.size lv' (natsZ l)) (hl : l.length + s.seen.count false ≤ n) :
    WkIn W0 (W'.setCell ⟨q, 6, none⟩ lv') q g IV p n at' long lv' ⟨s.seen, l, s.hit⟩ := by
  have hW : Whole W' q 59 #[IV, .int .i64 p.start, .int .i64 p.caps, .int .i64 at', .bool long, .slice (some ⟨g, 0, none⟩) n n, lv, .bool s.hit] := hq'.trans h.box
  have hS : Whole W' g 4 (s.seen.map Value.bool).toArray := hg'.trans h.seen
  refine ⟨hbel.setCell (p := ⟨q, 6, none⟩) h.hq _, ?_, hS.far (fun e => h.ne e.symm) _ _, own_set ho q 6 _ (own_whole_ne ho.1 hW (by decide)), h.hq, h.hg, h.ne, h.len, hl⟩
  have := hW.store 6 lv'
  simpa using this
end
/-- Instructions that lie as values of their own stay. -/
def KeepsI (W W' : World) : Prop := ∀ (k : Nat) (cs : Array Value), Whole W k 46 cs → Whole W' k 46 cs
theorem KeepsI.trans {A B C : World} (h : KeepsI A B) (k : KeepsI B C) : KeepsI A C := fun j cs hj => k j cs (h j cs hj)
theorem keepsI_below {W W' : World} (h : Below W.heap.size W W') : KeepsI W W' := fun k cs hk => hk.below h hk.lt
theorem keepsI_set {W : World} {b : Nat} {t : TypeId} {cs : Array Value} (h : Whole W b t cs) (hne : t ≠ 46) (j : Nat) (u : Value) : KeepsI W (W.setCell ⟨b, j, none⟩ u) := fun k xs hk => hk.far (by
  rintro rfl
  unfold Whole at h hk
  rw [h] at hk
  injection hk with e
  injection e with _ e2
  exact hne e2) j u
theorem own_ge {W : World} {B : Nat} {v : Value} {l : List Int} (h : OwnZ W B v l) {j : Nat} (hj : v.ownBlock = some j) : B ≤ j := by
  rcases h.1.2 with ⟨rfl, _⟩ | ⟨a, cap, cur, rfl, hb, _⟩
  · simp [Value.ownBlock] at hj
  · simp [Value.ownBlock] at hj
    omega
theorem keepsI_grown {W W' : World} {B : Nat} {v : Value} {l : List Int} (h : OwnZ W B v l) (hg : W.grownBy W' v.ownBlock) : KeepsI W W' := fun k cs hk => hk.grown hg (own_whole_ne h.1 hk (by decide))
theorem walk_left {meets : Int → Bool} {long : Bool} {I : List Ins} (st : List Nat) (s : Wk) : leftI (walkI meets long I st s) ≤ leftI s :=
  walk_keep (meets := meets) (long := long) (I := I) (fun _ t => leftI t ≤ leftI s) (fun t => leftI t ≤ leftI s) (fun _ h => h) (fun _ _ _ h _ => h) (fun pc _ t h hn _ => by have := left_visit t pc (atI I pc) hn; omega) _ st s rfl (Nat.le_refl _)
/-- What a call of come leaves. -/
def ComePost (W0 W : World) (q g : Nat) (IV : Value) (p : Pg) (n : Nat) (at' : Int) (long : Bool) (s : Wk) (e : Ending) (W' : World) : Prop := e = .returned (.tuple #[]) ∧ KeepsI W W' ∧ ∃ lv, WkIn W0 W' q g IV p n at' long lv s
set_option maxHeartbeats 1600000 in
set_option maxRecDepth 100000 in
theorem rcome_any (W0 : World) (q g : Nat) (IV : Value) (p : Pg) (n : Nat) (hn : p.ins.length = n) (at' : Int) (long : Bool) (hI : Inss W0 IV p.ins) (hR : RightPg p) : ∀ (m : Nat) (W : World) (lv : Value) (s : Wk) (pc : Nat), leftI s < m → pc < n → WkIn W0 W q g IV p n at' long lv s →
    Calls Try.prog 31 #[.pointer (some ⟨q, 0, none⟩), .int .i64 pc] W (ComePost W0 W q g IV p n at' long (walkI (meetsI at') long p.ins [pc] s)) := by
  intro m
  induction m with
  | zero =>
    intro W lv s pc hm
    omega
  | succ m ih =>
    intro W lv s pc hm hpc h
    have IH := Lib.hid ih
    clear ih
    have H := Lib.hid h
    have hnb : n ≤ 10000 := by rw [← hn]; exact hR.2.1
    obtain ⟨A, c, rfl, -⟩ := id hI
    rw [hn] at h H hI IH ⊢
    have hsl : pc < s.seen.length := by rw [h.len]; exact hpc
    have c0 := h.box.cell 0; have c1 := h.box.cell 1; have c2 := h.box.cell 2; have c3 := h.box.cell 3; have c4 := h.box.cell 4; have c5 := h.box.cell 5; have c6 := h.box.cell 6; have c7 := h.box.cell 7
    simp only [List.getElem?_toArray, List.getElem?_cons_zero, List.getElem?_cons_succ] at c0 c1 c2 c3 c4 c5 c6 c7
    have d0 := h.seen.cell pc
    have fz := h.seen.free pc
    obtain ⟨b, hb⟩ : ∃ b, s.seen[pc]? = some b := ⟨_, List.getElem?_eq_getElem hsl⟩
    simp only [List.getElem?_toArray, List.getElem?_map, hb, Option.map_some] at d0
    have hnew : newI s pc = !b := by simp [newI, List.getD_eq_getElem?_getD, hb]
    have hpz : (pc : Int) < (n : Int) := by omega
    have HNW := Lib.hid hnew; have HPC := Lib.hid hpc; have HI := Lib.hid hI; have HM := Lib.hid hm; have HRT := Lib.hid hR
    clear h hI hb hsl hnew hR hm
    go_enter Try.func31, Try.ntmps31
    cases b
    rotate_left
    · go_wp2_with fail
      go_end0
      exact ⟨rfl, fun _ _ h => h, lv, by rw [walk_old _ HNW.out, walk_nil]; exact H.out⟩
    by_cases hst : s.hit = true ∧ long = false
    · obtain ⟨h1, h2⟩ := hst
      have HST : Hid (walkI (meetsI at') long p.ins [pc] s = s) := Lib.hid (walk_stop h1 h2 _)
      rw [h1] at c7
      subst h2
      clear h1
      go_wp2_with fail
      go_end0
      exact ⟨rfl, fun _ _ h => h, lv, by rw [HST.out]; exact H.out⟩
    have hgo : s.hit = true → long = true := fun e => by cases hl : long; exact absurd ⟨e, hl⟩ hst; rfl
    have HW : Hid (walkI (meetsI at') long p.ins [pc] s = walkI (meetsI at') long p.ins (nextI (meetsI at') (atI p.ins pc)) (visitI pc (atI p.ins pc) s)) := Lib.hid (by rw [walk_new [] HNW.out hgo, List.append_nil])
    obtain ⟨hit, hhit⟩ : ∃ b, s.hit = b := ⟨_, rfl⟩
    rw [hhit] at c7 hgo
    have HHT := Lib.hid hhit
    clear hst hhit
    have hl : hit = true → Hid (long = true) := fun e => Lib.hid (hgo e)
    clear hgo
    obtain ⟨b, o, x, a2, sl, cz, hA, hx, hm, hsl2, hat, HFV, HRG, hbd, hIV⟩ := HI.out.at' pc (by rw [hn]; exact HPC.out)
    have hsd := HRT.out.2.2.2.2.2.2 x hm
    rw [hn] at hsd
    obtain ⟨xo, xu, xa, xs, xt⟩ := x
    simp only at HFV hsl2
    have HF5 := Lib.hid HFV; have HSL := Lib.hid hsl2; have HAT := Lib.hid hat; have HSD := Lib.hid hsd
    clear HFV HRG hbd hIV hx hsl2 hat hm hsd
    subst hA
    cases hit
    rotate_left
    · have HL := hl rfl
      rw [HL.out] at c4
      clear hl
      go_upto_region 1 with (fail)
      go_upto_region 2 with (fail)
      have hx1 := H.out.mark pc HNW.out
      have hk1 := keepsI_set H.out.seen (by decide) pc (.bool true)
      have HFW : Hid (s.out.length + 1 + (s.seen.set pc true).count false ≤ n) := Lib.hid (by have h1 := H.out.few; have h2 := mark_few pc HNW.out; omega)
      generalize W.setCell ⟨g, pc, none⟩ (.bool true) = W1 at hx1 hk1 ⊢
      have HX1 := Lib.hid hx1
      have hi1 := HF5.out.below hx1.bel
      clear c0 c1 c2 c3 c4 c5 c6 c7 d0 fz
      obtain ⟨k0, k1, k2, k3, k4⟩ := hi1
      have c0 := hx1.box.cell 0
      simp only [List.getElem?_toArray, List.getElem?_cons_zero] at c0
      clear hx1
      go_upto_region 3 with (fail)
      obtain ⟨W2, hW2⟩ : ∃ W2, W1.alloc (.cells #[.int .i64 xo, .int .i64 xu, .int .i64 xa, .slice a2 sl cz, .int .i64 xt] 46) = W2 := ⟨_, rfl⟩
      rw [hW2]
      obtain ⟨hb2, ⟨f0, f1, f2, f3, f4⟩, hz2⟩ := box5_new W1 _ _ _ _ _ _ hW2
      have hx2 := HX1.out.below hb2
      have HX2 := Lib.hid hx2
      have hr : Whole W2 W1.heap.size 46 #[.int .i64 xo, .int .i64 xu, .int .i64 xa, .slice a2 sl cz, .int .i64 xt] := by rw [← hW2]; exact heap_alloc_new W1 _
      have HR := Lib.hid hr
      have HK2 := Lib.hid (hk1.trans (keepsI_below hb2))
      have HLS : Hid (leftI ⟨s.seen.set pc true, s.out, s.hit⟩ < m) := Lib.hid (by
        have h1 := left_visit s pc (atI p.ins pc) HNW.out
        have h2 := HM.out
        have h3 : leftI (visitI pc (atI p.ins pc) s) = leftI ⟨s.seen.set pc true, s.out, s.hit⟩ := rfl
        omega)
      have c3 := hx2.box.cell 3; have c6 := hx2.box.cell 6; have c7 := hx2.box.cell 7
      have z6 := hx2.box.free 6; have z7 := hx2.box.free 7
      simp only [List.getElem?_toArray, List.getElem?_cons_zero, List.getElem?_cons_succ] at c3 c6 c7
      clear hW2 hb2 hz2 hr hk1 k0 k1 k2 k3 k4 c0 hx2 H
      by_cases o1 : xo = 1
      · subst o1
        have HE : Hid (walkI (meetsI at') long p.ins [pc] s = ⟨s.seen.set pc true, s.out, true⟩) := Lib.hid (by rw [HW.out, HAT.out]; simp [nextI, visitI, walk_nil])
        go_wp2_with fail
        go_end0
        exact ⟨rfl, HK2.out.trans (keepsI_set HX2.out.box (by decide) 7 _), lv, by rw [HE.out]; exact HX2.out.match'⟩
      by_cases o2 : xo = 2
      · subst o2
        have HE : Hid (walkI (meetsI at') long p.ins [pc] s = ⟨s.seen.set pc true, s.out ++ [pc], s.hit⟩) := Lib.hid (by rw [HW.out, HAT.out]; simp [nextI, visitI, walk_nil])
        have hb3 : Below W2.heap.size W2 (W2.alloc (.cells #[.int .i64 pc] 3)) := (Below.refl _ W2).alloc (Nat.le_refl _) _
        have HX3 := Lib.hid (HX2.out.below hb3)
        have HZ := Lib.hid (zs_new W2 (pc : Int) (by unfold R64; omega))
        have HK3 := Lib.hid (HK2.out.trans (keepsI_below hb3))
        clear hb3
        go_wp2_with (at_builtin; refine append_zs rfl (.tmp 52) (.tmp 54) rfl W0.heap.size lv (natsZ s.out) rfl HX3.out.own (some ⟨W2.heap.size, 0, none⟩) 1 1 [(pc : Int)] rfl HZ.out ?b2 ?b3 ?_)
        case b2 => have := HFW.out; simp [natsZ]; omega
        case b3 => exact HX3.out.bel.size
        intro v' w' ho' hg'
        obtain ⟨av, cv, hv⟩ := own_slice ho'.1
        obtain ⟨ln, hln⟩ : ∃ ln, (natsZ s.out ++ [(pc : Int)]).length = ln := ⟨_, rfl⟩
        rw [hln] at hv
        subst hv
        have hb' : Below W0.heap.size W0 w' := HX3.out.bel.grown hg' HX3.out.bel.size (fun j hj => own_ge HX3.out.own hj)
        have hq' := hg'.block q HX3.out.box.lt (fun e => own_ne_box HX3.out e.symm)
        have hg2 := hg'.block g HX3.out.seen.lt (fun e => own_ne_seen HX3.out e.symm)
        have hl' := HX3.out.list hb' hq' hg2 (l := s.out ++ [pc]) (by unfold natsZ at ho' ⊢; rw [List.map_append]; exact ho') (by have := HFW.out; rw [List.length_append]; simpa using this)
        have zq : w'.frozen? ⟨q, 6, none⟩ = false := by
          have := hq'.trans HX3.out.box
          exact Whole.free this 6
        have cq : w'.cell? ⟨q, 6, none⟩ = some lv := Whole.cell (hq'.trans HX3.out.box) 6
        have HL' := Lib.hid hl'
        have HKE := Lib.hid ((HK3.out.trans (keepsI_grown HX3.out.own hg')).trans (keepsI_set (hq'.trans HX3.out.box) (by decide) 6 (.slice av ln cv)))
        clear hb' hq' hg2 hl' ho' hg' z6 z7 hln
        go_wp2_with fail
        go_end0
        exact ⟨rfl, HKE.out, _, by rw [HE.out]; exact HL'.out⟩
      by_cases o3 : xo = 3
      · subst o3
        have hs3 := (sound_alt n p.caps xu xa xt xs).1 HSD.out
        obtain ⟨⟨hu0, hu1⟩, ⟨ha0, ha1⟩, -, -⟩ := hs3
        obtain ⟨u, rfl⟩ := Int.eq_ofNat_of_zero_le hu0
        obtain ⟨v, rfl⟩ := Int.eq_ofNat_of_zero_le ha0
        have HE : Hid (walkI (meetsI at') long p.ins [pc] s = walkI (meetsI at') long p.ins [v] (walkI (meetsI at') long p.ins [u] ⟨s.seen.set pc true, s.out, s.hit⟩)) := Lib.hid (by
          rw [HW.out, HAT.out, ← walk_append]
          simp [nextI, visitI])
        have HI1 := Lib.hid (IH.out W2 lv _ u HLS.out (by omega) HX2.out)
        clear hu0 hu1 ha0
        go_wp2_with fail
        refine HI1.out.mono ?_
        rintro e W3 ⟨rfl, hk3, lv3, hx3⟩
        have HVL : Hid (v < n) := Lib.hid (by omega)
        have g2 := (hk3 _ _ HR.out).cell 2
        simp only [List.getElem?_toArray, List.getElem?_cons_zero, List.getElem?_cons_succ] at g2
        have HK3 := Lib.hid (HK2.out.trans hk3)
        have HI2 := Lib.hid (IH.out W3 lv3 _ v (Nat.lt_of_le_of_lt (walk_left _ _) HLS.out) HVL.out hx3)
        clear HI1 hx3 hk3 f0 f1 f2 f3 f4 ha1
        go_wp2_with fail
        refine HI2.out.mono ?_
        rintro e W4 ⟨rfl, hk4, lv4, hx4⟩
        have HX4 := Lib.hid hx4; have HK4 := Lib.hid (HK3.out.trans hk4)
        clear hx4 hk4 HI2 c3 c6 c7 z6 z7
        go_wp2_with fail
        go_end0
        exact ⟨rfl, HK4.out, lv4, by rw [HE.out]; exact HX4.out⟩
      by_cases o4 : xo = 4
      · subst o4
        have hs4 := (sound_cap n p.caps xu xa xt xs).1 HSD.out
        obtain ⟨⟨hu0, hu1⟩, -⟩ := hs4
        obtain ⟨u, rfl⟩ := Int.eq_ofNat_of_zero_le hu0
        have HE : Hid (walkI (meetsI at') long p.ins [pc] s = walkI (meetsI at') long p.ins [u] ⟨s.seen.set pc true, s.out, s.hit⟩) := Lib.hid (by
          rw [HW.out, HAT.out]
          simp [nextI, visitI])
        have HI1 := Lib.hid (IH.out W2 lv _ u HLS.out (by omega) HX2.out)
        clear hu0 hu1
        go_wp2_with fail
        refine HI1.out.mono ?_
        rintro e W3 ⟨rfl, hk3, lv3, hx3⟩
        have HX4 := Lib.hid hx3; have HK4 := Lib.hid (HK2.out.trans hk3)
        clear HI1 hx3 hk3 f0 f1 f2 f3 f4 c3 c6 c7 z6 z7
        go_wp2_with fail
        go_end0
        exact ⟨rfl, HK4.out, lv3, by rw [HE.out]; exact HX4.out⟩
      by_cases o5 : xo = 5
      · subst o5
        have hs5 := (sound_at n p.caps xu xa xt xs).1 HSD.out
        obtain ⟨⟨hu0, hu1⟩, -⟩ := hs5
        obtain ⟨u, rfl⟩ := Int.eq_ofNat_of_zero_le hu0
        go_wp2_with fail
        go_big_quiet (fail)
        have hb3 := below_draws W2 nq
        have hm0 : meetsI at' xt = (bits .and .i64 at' xt != 0) := rfl
        obtain ⟨M, hM⟩ : ∃ M, meetsI at' xt = M := ⟨_, rfl⟩
        rw [hM] at hm0
        rw [← hm0]
        have f1' : (W2.drewN nq).cell? ⟨W1.heap.size, 1, none⟩ = some (.int .i64 (u : Int)) := f1
        have HX3 := Lib.hid (HX2.out.below hb3); have HK3 := Lib.hid (HK2.out.trans (keepsI_below hb3))
        generalize W2.drewN nq = W3 at f1' HX3 HK3 ⊢
        have HMM := Lib.hid hM
        clear hb3 f0 f1 f2 f3 f4 c3 c6 c7 z6 z7 hm0 hM HX2 HK2 HR
        cases M
        · have HE : Hid (walkI (meetsI at') long p.ins [pc] s = ⟨s.seen.set pc true, s.out, s.hit⟩) := Lib.hid (by rw [HW.out, HAT.out]; simp [nextI, visitI, walk_nil, HMM.out])
          go_wp2_with fail
          go_end0
          exact ⟨rfl, HK3.out, lv, by rw [HE.out]; exact HX3.out⟩
        · have HE : Hid (walkI (meetsI at') long p.ins [pc] s = walkI (meetsI at') long p.ins [u] ⟨s.seen.set pc true, s.out, s.hit⟩) := Lib.hid (by
            rw [HW.out, HAT.out]
            simp [nextI, visitI, HMM.out])
          have HI1 := Lib.hid (IH.out W3 lv _ u HLS.out (by omega) HX3.out)
          clear hu0 hu1
          go_wp2_with fail
          refine HI1.out.mono ?_
          rintro e W4 ⟨rfl, hk4, lv4, hx4⟩
          have HX4 := Lib.hid hx4; have HK4 := Lib.hid (HK3.out.trans hk4)
          clear HI1 hx4 hk4 f1'
          go_wp2_with fail
          go_end0
          exact ⟨rfl, HK4.out, lv4, by rw [HE.out]; exact HX4.out⟩
      have hs6 : xo = 6 := by
        have := HSD.out
        unfold SoundI at this
        simp only at this
        omega
      subst hs6
      have HE : Hid (walkI (meetsI at') long p.ins [pc] s = ⟨s.seen.set pc true, s.out, s.hit⟩) := Lib.hid (by rw [HW.out, HAT.out]; simp [nextI, visitI, walk_nil])
      go_wp2_with fail
      go_end0
      exact ⟨rfl, HK2.out, lv, by rw [HE.out]; exact HX2.out⟩
    · clear hl
      go_upto_region 1 with (fail)
      go_upto_region 2 with (fail)
      have hx1 := H.out.mark pc HNW.out
      have hk1 := keepsI_set H.out.seen (by decide) pc (.bool true)
      have HFW : Hid (s.out.length + 1 + (s.seen.set pc true).count false ≤ n) := Lib.hid (by have h1 := H.out.few; have h2 := mark_few pc HNW.out; omega)
      generalize W.setCell ⟨g, pc, none⟩ (.bool true) = W1 at hx1 hk1 ⊢
      have HX1 := Lib.hid hx1
      have hi1 := HF5.out.below hx1.bel
      clear c0 c1 c2 c3 c4 c5 c6 c7 d0 fz
      obtain ⟨k0, k1, k2, k3, k4⟩ := hi1
      have c0 := hx1.box.cell 0
      simp only [List.getElem?_toArray, List.getElem?_cons_zero] at c0
      clear hx1
      go_upto_region 3 with (fail)
      obtain ⟨W2, hW2⟩ : ∃ W2, W1.alloc (.cells #[.int .i64 xo, .int .i64 xu, .int .i64 xa, .slice a2 sl cz, .int .i64 xt] 46) = W2 := ⟨_, rfl⟩
      rw [hW2]
      obtain ⟨hb2, ⟨f0, f1, f2, f3, f4⟩, hz2⟩ := box5_new W1 _ _ _ _ _ _ hW2
      have hx2 := HX1.out.below hb2
      have HX2 := Lib.hid hx2
      have hr : Whole W2 W1.heap.size 46 #[.int .i64 xo, .int .i64 xu, .int .i64 xa, .slice a2 sl cz, .int .i64 xt] := by rw [← hW2]; exact heap_alloc_new W1 _
      have HR := Lib.hid hr
      have HK2 := Lib.hid (hk1.trans (keepsI_below hb2))
      have HLS : Hid (leftI ⟨s.seen.set pc true, s.out, s.hit⟩ < m) := Lib.hid (by
        have h1 := left_visit s pc (atI p.ins pc) HNW.out
        have h2 := HM.out
        have h3 : leftI (visitI pc (atI p.ins pc) s) = leftI ⟨s.seen.set pc true, s.out, s.hit⟩ := rfl
        omega)
      have c3 := hx2.box.cell 3; have c6 := hx2.box.cell 6; have c7 := hx2.box.cell 7
      have z6 := hx2.box.free 6; have z7 := hx2.box.free 7
      simp only [List.getElem?_toArray, List.getElem?_cons_zero, List.getElem?_cons_succ] at c3 c6 c7
      clear hW2 hb2 hz2 hr hk1 k0 k1 k2 k3 k4 c0 hx2 H
      by_cases o1 : xo = 1
      · subst o1
        have HE : Hid (walkI (meetsI at') long p.ins [pc] s = ⟨s.seen.set pc true, s.out, true⟩) := Lib.hid (by rw [HW.out, HAT.out]; simp [nextI, visitI, walk_nil])
        go_wp2_with fail
        go_end0
        exact ⟨rfl, HK2.out.trans (keepsI_set HX2.out.box (by decide) 7 _), lv, by rw [HE.out]; exact HX2.out.match'⟩
      by_cases o2 : xo = 2
      · subst o2
        have HE : Hid (walkI (meetsI at') long p.ins [pc] s = ⟨s.seen.set pc true, s.out ++ [pc], s.hit⟩) := Lib.hid (by rw [HW.out, HAT.out]; simp [nextI, visitI, walk_nil])
        have hb3 : Below W2.heap.size W2 (W2.alloc (.cells #[.int .i64 pc] 3)) := (Below.refl _ W2).alloc (Nat.le_refl _) _
        have HX3 := Lib.hid (HX2.out.below hb3)
        have HZ := Lib.hid (zs_new W2 (pc : Int) (by unfold R64; omega))
        have HK3 := Lib.hid (HK2.out.trans (keepsI_below hb3))
        clear hb3
        go_wp2_with (at_builtin; refine append_zs rfl (.tmp 52) (.tmp 54) rfl W0.heap.size lv (natsZ s.out) rfl HX3.out.own (some ⟨W2.heap.size, 0, none⟩) 1 1 [(pc : Int)] rfl HZ.out ?b2 ?b3 ?_)
        case b2 => have := HFW.out; simp [natsZ]; omega
        case b3 => exact HX3.out.bel.size
        intro v' w' ho' hg'
        obtain ⟨av, cv, hv⟩ := own_slice ho'.1
        obtain ⟨ln, hln⟩ : ∃ ln, (natsZ s.out ++ [(pc : Int)]).length = ln := ⟨_, rfl⟩
        rw [hln] at hv
        subst hv
        have hb' : Below W0.heap.size W0 w' := HX3.out.bel.grown hg' HX3.out.bel.size (fun j hj => own_ge HX3.out.own hj)
        have hq' := hg'.block q HX3.out.box.lt (fun e => own_ne_box HX3.out e.symm)
        have hg2 := hg'.block g HX3.out.seen.lt (fun e => own_ne_seen HX3.out e.symm)
        have hl' := HX3.out.list hb' hq' hg2 (l := s.out ++ [pc]) (by unfold natsZ at ho' ⊢; rw [List.map_append]; exact ho') (by have := HFW.out; rw [List.length_append]; simpa using this)
        have zq : w'.frozen? ⟨q, 6, none⟩ = false := by
          have := hq'.trans HX3.out.box
          exact Whole.free this 6
        have cq : w'.cell? ⟨q, 6, none⟩ = some lv := Whole.cell (hq'.trans HX3.out.box) 6
        have HL' := Lib.hid hl'
        have HKE := Lib.hid ((HK3.out.trans (keepsI_grown HX3.out.own hg')).trans (keepsI_set (hq'.trans HX3.out.box) (by decide) 6 (.slice av ln cv)))
        clear hb' hq' hg2 hl' ho' hg' z6 z7 hln
        go_wp2_with fail
        go_end0
        exact ⟨rfl, HKE.out, _, by rw [HE.out]; exact HL'.out⟩
      by_cases o3 : xo = 3
      · subst o3
        have hs3 := (sound_alt n p.caps xu xa xt xs).1 HSD.out
        obtain ⟨⟨hu0, hu1⟩, ⟨ha0, ha1⟩, -, -⟩ := hs3
        obtain ⟨u, rfl⟩ := Int.eq_ofNat_of_zero_le hu0
        obtain ⟨v, rfl⟩ := Int.eq_ofNat_of_zero_le ha0
        have HE : Hid (walkI (meetsI at') long p.ins [pc] s = walkI (meetsI at') long p.ins [v] (walkI (meetsI at') long p.ins [u] ⟨s.seen.set pc true, s.out, s.hit⟩)) := Lib.hid (by
          rw [HW.out, HAT.out, ← walk_append]
          simp [nextI, visitI])
        have HI1 := Lib.hid (IH.out W2 lv _ u HLS.out (by omega) HX2.out)
        clear hu0 hu1 ha0
        go_wp2_with fail
        refine HI1.out.mono ?_
        rintro e W3 ⟨rfl, hk3, lv3, hx3⟩
        have HVL : Hid (v < n) := Lib.hid (by omega)
        have g2 := (hk3 _ _ HR.out).cell 2
        simp only [List.getElem?_toArray, List.getElem?_cons_zero, List.getElem?_cons_succ] at g2
        have HK3 := Lib.hid (HK2.out.trans hk3)
        have HI2 := Lib.hid (IH.out W3 lv3 _ v (Nat.lt_of_le_of_lt (walk_left _ _) HLS.out) HVL.out hx3)
        clear HI1 hx3 hk3 f0 f1 f2 f3 f4 ha1
        go_wp2_with fail
        refine HI2.out.mono ?_
        rintro e W4 ⟨rfl, hk4, lv4, hx4⟩
        have HX4 := Lib.hid hx4; have HK4 := Lib.hid (HK3.out.trans hk4)
        clear hx4 hk4 HI2 c3 c6 c7 z6 z7
        go_wp2_with fail
        go_end0
        exact ⟨rfl, HK4.out, lv4, by rw [HE.out]; exact HX4.out⟩
      by_cases o4 : xo = 4
      · subst o4
        have hs4 := (sound_cap n p.caps xu xa xt xs).1 HSD.out
        obtain ⟨⟨hu0, hu1⟩, -⟩ := hs4
        obtain ⟨u, rfl⟩ := Int.eq_ofNat_of_zero_le hu0
        have HE : Hid (walkI (meetsI at') long p.ins [pc] s = walkI (meetsI at') long p.ins [u] ⟨s.seen.set pc true, s.out, s.hit⟩) := Lib.hid (by
          rw [HW.out, HAT.out]
          simp [nextI, visitI])
        have HI1 := Lib.hid (IH.out W2 lv _ u HLS.out (by omega) HX2.out)
        clear hu0 hu1
        go_wp2_with fail
        refine HI1.out.mono ?_
        rintro e W3 ⟨rfl, hk3, lv3, hx3⟩
        have HX4 := Lib.hid hx3; have HK4 := Lib.hid (HK2.out.trans hk3)
        clear HI1 hx3 hk3 f0 f1 f2 f3 f4 c3 c6 c7 z6 z7
        go_wp2_with fail
        go_end0
        exact ⟨rfl, HK4.out, lv3, by rw [HE.out]; exact HX4.out⟩
      by_cases o5 : xo = 5
      · subst o5
        have hs5 := (sound_at n p.caps xu xa xt xs).1 HSD.out
        obtain ⟨⟨hu0, hu1⟩, -⟩ := hs5
        obtain ⟨u, rfl⟩ := Int.eq_ofNat_of_zero_le hu0
        go_wp2_with fail
        go_big_quiet (fail)
        have hb3 := below_draws W2 nq
        have hm0 : meetsI at' xt = (bits .and .i64 at' xt != 0) := rfl
        obtain ⟨M, hM⟩ : ∃ M, meetsI at' xt = M := ⟨_, rfl⟩
        rw [hM] at hm0
        rw [← hm0]
        have f1' : (W2.drewN nq).cell? ⟨W1.heap.size, 1, none⟩ = some (.int .i64 (u : Int)) := f1
        have HX3 := Lib.hid (HX2.out.below hb3); have HK3 := Lib.hid (HK2.out.trans (keepsI_below hb3))
        generalize W2.drewN nq = W3 at f1' HX3 HK3 ⊢
        have HMM := Lib.hid hM
        clear hb3 f0 f1 f2 f3 f4 c3 c6 c7 z6 z7 hm0 hM HX2 HK2 HR
        cases M
        · have HE : Hid (walkI (meetsI at') long p.ins [pc] s = ⟨s.seen.set pc true, s.out, s.hit⟩) := Lib.hid (by rw [HW.out, HAT.out]; simp [nextI, visitI, walk_nil, HMM.out])
          go_wp2_with fail
          go_end0
          exact ⟨rfl, HK3.out, lv, by rw [HE.out]; exact HX3.out⟩
        · have HE : Hid (walkI (meetsI at') long p.ins [pc] s = walkI (meetsI at') long p.ins [u] ⟨s.seen.set pc true, s.out, s.hit⟩) := Lib.hid (by
            rw [HW.out, HAT.out]
            simp [nextI, visitI, HMM.out])
          have HI1 := Lib.hid (IH.out W3 lv _ u HLS.out (by omega) HX3.out)
          clear hu0 hu1
          go_wp2_with fail
          refine HI1.out.mono ?_
          rintro e W4 ⟨rfl, hk4, lv4, hx4⟩
          have HX4 := Lib.hid hx4; have HK4 := Lib.hid (HK3.out.trans hk4)
          clear HI1 hx4 hk4 f1'
          go_wp2_with fail
          go_end0
          exact ⟨rfl, HK4.out, lv4, by rw [HE.out]; exact HX4.out⟩
      have hs6 : xo = 6 := by
        have := HSD.out
        unfold SoundI at this
        simp only at this
        omega
      subst hs6
      have HE : Hid (walkI (meetsI at') long p.ins [pc] s = ⟨s.seen.set pc true, s.out, s.hit⟩) := Lib.hid (by rw [HW.out, HAT.out]; simp [nextI, visitI, walk_nil])
      go_wp2_with fail
      go_end0
      exact ⟨rfl, HK2.out, lv, by rw [HE.out]; exact HX2.out⟩
end Go.Proofs.Ytlkbdbijlnjjbaa
