/- The program's walk with a stack of its own. -/
import Derived.Test.YtlkbdbijlnjjbaaPgRow
import Derived.Test.YtlkbdbijlnjjbaaPgScope
set_option linter.unusedVariables false
namespace Go.Proofs.Ytlkbdbijlnjjbaa
open Go Go.RowKit

def meetsP (at' a : Int) : Bool := bits .and .i64 a at' != 0
theorem meetsP_is (at' : Int) : meetsP at' = meetsI at' := funext fun a => by unfold meetsP meetsI; rw [and_swap]
/-- The rows of the walk: what has been met at block g, what reads in rv, what is left in lv (the next one last). -/
structure CtIn (W0 W : World) (g n N : Nat) (rv lv : Value) (st : List Nat) (s : Wk) : Prop where
  bel : Below W0.heap.size W0 W
  met : Whole W g 4 (s.seen.map Value.bool).toArray
  reads : OwnZ W W0.heap.size rv (natsZ s.out)
  left : OwnZ W W0.heap.size lv (natsZ st.reverse)
  hg : W0.heap.size ≤ g
  apart : ∀ j, rv.ownBlock = some j → lv.ownBlock ≠ some j
  len : s.seen.length = n
  few : s.out.length + s.seen.count false ≤ n
  deep : st.length + s.seen.count false ≤ N
  lt : ∀ x ∈ st, x < n
theorem natsZ_app (a b : List Nat) : natsZ (a ++ b) = natsZ a ++ natsZ b := by simp [natsZ]
theorem natsZ_len (a : List Nat) : (natsZ a).length = a.length := by simp [natsZ]
section
variable {W0 W W' : World} {g n N : Nat} {rv lv : Value} {st : List Nat} {s : Wk}
theorem CtIn.below (h : CtIn W0 W g n N rv lv st s) (hb : Below W.heap.size W W') : CtIn W0 W' g n N rv lv st s :=
  ⟨below_steps h.bel hb, h.met.below hb h.met.lt, h.reads.below hb, h.left.below hb, h.hg, h.apart, h.len, h.few, h.deep, h.lt⟩
theorem CtIn.mark (h : CtIn W0 W g n N rv lv st s) (pc : Nat) (hn : newI s pc = true) : CtIn W0 (W.setCell ⟨g, pc, none⟩ (.bool true)) g n N rv lv st ⟨s.seen.set pc true, s.out, s.hit⟩ := by
  have hc := mark_few pc hn
  refine ⟨h.bel.setCell (p := ⟨g, pc, none⟩) h.hg _, ?_, own_set h.reads g pc _ (own_whole_ne h.reads.1 h.met (by decide)), own_set h.left g pc _ (own_whole_ne h.left.1 h.met (by decide)), h.hg, h.apart, by simpa using h.len, ?_, ?_, h.lt⟩
  · rw [← set_map]
    exact h.met.store pc (.bool true)
  · have := h.few
    show s.out.length + (s.seen.set pc true).count false ≤ n
    omega
  · have := h.deep
    show st.length + (s.seen.set pc true).count false ≤ N
    omega
theorem CtIn.hitTo (h : CtIn W0 W g n N rv lv st s) (b : Bool) : CtIn W0 W g n N rv lv st ⟨s.seen, s.out, b⟩ := ⟨h.bel, h.met, h.reads, h.left, h.hg, h.apart, h.len, h.few, h.deep, h.lt⟩
theorem own_lt {B : Nat} {v : Value} {l : List Int} (h : OwnZ W B v l) {j : Nat} (hj : v.ownBlock = some j) : j < W.heap.size := by
  rcases h.1.2 with ⟨rfl, _⟩ | ⟨a, cap, cur, rfl, hb, hh, _⟩
  · simp [Value.ownBlock] at hj
  · simp [Value.ownBlock] at hj
    subst hj
    exact (Array.getElem?_eq_some_iff.1 hh).1
theorem own_far {B : Nat} {v : Value} {l : List Int} {r : Option Nat} (h : OwnZ W B v l) (hg : W.grownBy W' r) (hne : ∀ j, v.ownBlock = some j → r ≠ some j) : OwnZ W' B v l :=
  ⟨h.1.kept hg (by
    rcases hv : v.ownBlock with _ | j
    · exact .inl rfl
    · exact .inr (fun e => hne j hv e.symm)), h.2⟩
/-- One more is left. -/
theorem CtIn.push (h : CtIn W0 W g n N rv lv st s) {lv' : Value} {x : Nat} (hx : x < n) (ho : OwnZ W' W0.heap.size lv' (natsZ st.reverse ++ [(x : Int)])) (hg : W.grownBy W' lv.ownBlock) (hat : lv'.ownBlock = lv.ownBlock ∨ lv'.ownBlock = some W.heap.size) (hd : st.length + 1 + s.seen.count false ≤ N) :
    CtIn W0 W' g n N rv lv' (x :: st) s := by
  refine ⟨h.bel.grown hg h.bel.size (fun j hj => own_ge h.left hj), h.met.grown hg (own_whole_ne h.left.1 h.met (by decide)), own_far h.reads hg (fun j hj => h.apart j hj), ?_, h.hg, ?_, h.len, h.few, by simpa using hd, ?_⟩
  · rw [List.reverse_cons, natsZ_app]
    exact ho
  · intro j hj e
    rcases hat with hat | hat
    · rw [hat] at e
      exact h.apart j hj e
    · rw [hat] at e
      have := own_lt h.reads hj
      injection e with e
      omega
  · intro y hy
    rcases List.mem_cons.1 hy with rfl | hy
    · exact hx
    · exact h.lt y hy
/-- One more reads. -/
theorem CtIn.read (h : CtIn W0 W g n N rv lv st s) {rv' : Value} {pc : Nat} (ho : OwnZ W' W0.heap.size rv' (natsZ s.out ++ [(pc : Int)])) (hg : W.grownBy W' rv.ownBlock) (hat : rv'.ownBlock = rv.ownBlock ∨ rv'.ownBlock = some W.heap.size) (hf : s.out.length + 1 + s.seen.count false ≤ n) :
    CtIn W0 W' g n N rv' lv st ⟨s.seen, s.out ++ [pc], s.hit⟩ := by
  refine ⟨h.bel.grown hg h.bel.size (fun j hj => own_ge h.reads hj), h.met.grown hg (own_whole_ne h.reads.1 h.met (by decide)), ?_, own_far h.left hg (fun j hj e => h.apart j e hj), h.hg, ?_, h.len, ?_, h.deep, h.lt⟩
  · rw [natsZ_app]
    exact ho
  · intro j hj e
    rcases hat with hat | hat
    · rw [hat] at hj
      exact h.apart j hj e
    · rw [hat] at hj
      have := own_lt h.left e
      injection hj with hj
      omega
  · rw [List.length_append]
    simpa using hf
/-- The next one is taken. -/
theorem CtIn.pop {A : Option Addr} {m c pc : Nat} (h : CtIn W0 W g n N rv (.slice A m c) (pc :: st) s) (k : Nat) (hk : k = st.length) : CtIn W0 W g n N rv (.slice A k c) st s := by
  subst hk
  refine ⟨h.bel, h.met, h.reads, ?_, h.hg, ?_, h.len, h.few, by have := h.deep; simp at this; omega, fun y hy => h.lt y (List.mem_cons_of_mem _ hy)⟩
  · have := h.left.take st.length (by rw [natsZ_len]; simp)
    rw [List.reverse_cons, natsZ_app] at this
    rwa [List.take_append_of_le_length (by rw [natsZ_len]; simp), List.take_of_length_le (by rw [natsZ_len]; simp)] at this
  · intro j hj e
    refine h.apart j hj ?_
    cases A <;> exact e
end
/-- What stands in the frame and in memory at a jump: to 'back', to 'on'. -/
def AtJump (W0 : World) (I : List Ins) (meets : Int → Bool) (A : Option Addr) (c n N : Nat) (at' : Int) (long : Bool) (R : Wk) (on : Bool) (k : Nat) (a : Act) (W : World) : Prop :=
  ∃ (g : Nat) (rv lv : Value) (st : List Nat) (s : Wk) (pc : Nat), a.defers = [] ∧ a.tmps.size = 95 ∧ a.tmps.getD 0 undef = .slice A n c ∧ a.tmps.getD 2 undef = .int .i64 at' ∧ a.tmps.getD 3 undef = .bool long ∧
    a.tmps.getD 8 undef = rv ∧ a.tmps.getD 9 undef = .bool s.hit ∧ a.tmps.getD 10 undef = .slice (some ⟨g, 0, none⟩) n n ∧ a.tmps.getD 11 undef = lv ∧ (on = true → a.tmps.getD 12 undef = .int .i64 pc) ∧
    CtIn W0 W g n N rv lv st s ∧ (on = true → pc < n) ∧ walkI meets long I (if on then pc :: st else st) s = R ∧ (s.hit = true → long = true) ∧ k = 2 * leftI s + st.length + (if on then 1 else 0)
theorem frame95 {a : Act} {i0 i2 i3 i8 i9 i10 i11 : Value} (hd : a.defers = []) (hs : a.tmps.size = 95) (h0 : a.tmps.getD 0 undef = i0) (h2 : a.tmps.getD 2 undef = i2) (h3 : a.tmps.getD 3 undef = i3) (h8 : a.tmps.getD 8 undef = i8) (h9 : a.tmps.getD 9 undef = i9) (h10 : a.tmps.getD 10 undef = i10) (h11 : a.tmps.getD 11 undef = i11) :
    ∃ f : Nat → Value, f 12 = a.tmps.getD 12 undef ∧ a = { tmps := #[i0, f 1, i2, i3, f 4, f 5, f 6, f 7, i8, i9, i10, i11, f 12, f 13, f 14, f 15, f 16, f 17, f 18, f 19, f 20, f 21, f 22, f 23, f 24, f 25, f 26, f 27, f 28, f 29, f 30, f 31, f 32, f 33, f 34, f 35, f 36, f 37, f 38, f 39, f 40, f 41, f 42, f 43, f 44, f 45, f 46, f 47, f 48, f 49, f 50, f 51, f 52, f 53, f 54, f 55, f 56, f 57, f 58, f 59, f 60, f 61, f 62, f 63, f 64, f 65, f 66, f 67, f 68, f 69, f 70, f 71, f 72, f 73, f 74, f 75, f 76, f 77, f 78, f 79, f 80, f 81, f 82, f 83, f 84, f 85, f 86, f 87, f 88, f 89, f 90, f 91, f 92, f 93, f 94], defers := [] } := by
  refine ⟨fun k => a.tmps.getD k undef, rfl, ?_⟩
  obtain ⟨tmps, defers⟩ := a
  simp only at hd hs h0 h2 h3 h8 h9 h10 h11
  subst hd h0 h2 h3 h8 h9 h10 h11
  congr 1
  exact (frame_list tmps 95 hs).trans rfl

set_option maxHeartbeats 4000000 in
set_option maxRecDepth 100000 in
theorem pto_any (p : Pg) (v u : Value) (pcs : List Int) (at' : Int) (long : Bool) (w : World) (h : Inss w v p.ins) (g : Zs w u pcs) (hG : GoodPg p pcs) (hlen : pcs.length ≤ 17592186044416) :
    Calls Try.prog 30 #[v, u, .int .i64 at', .bool long] w (ClosePost (closeG p pcs at' long) w) := by
  have H0 := Lib.hid h; have HZ := Lib.hid g; have HG := Lib.hid hG
  obtain ⟨A, c, rfl, -⟩ := h
  obtain ⟨A2, c2, rfl, -⟩ := g
  obtain ⟨n, hn⟩ : ∃ n, p.ins.length = n := ⟨_, rfl⟩
  obtain ⟨m, hm⟩ : ∃ m, pcs.length = m := ⟨_, rfl⟩
  have hnn : n ≤ 10000 := by rw [← hn]; exact hG.1.2.1
  have hcl : closeI (meetsI at') long p.ins (natsI pcs) = walkI (meetsP at') long p.ins (natsI pcs) (wk0 n) := by unfold closeI; rw [hn, meetsP_is]
  have hcg := close_good at' long hG
  rw [hcl] at hcg
  obtain ⟨R, hR⟩ : ∃ R, walkI (meetsP at') long p.ins (natsI pcs) (wk0 n) = R := ⟨_, rfl⟩
  rw [hR] at hcg
  rw [hcg]
  rw [hn] at H0 ⊢
  rw [hm] at HZ hlen ⊢
  have HN := Lib.hid hn; have HM := Lib.hid hm; have HR := Lib.hid hR
  clear hn hm hcl hcg hR hG
  have hmk := make_bools n (by omega)
  obtain ⟨C, hC⟩ : ∃ C, Array.replicate n (Value.bool false) = C := ⟨_, rfl⟩
  rw [hC] at hmk
  obtain ⟨w1, hw1⟩ : ∃ w1, w.alloc (.cells C 4) = w1 := ⟨_, rfl⟩
  have hm1 : Whole w1 w.heap.size 4 C := by rw [← hw1]; exact heap_alloc_new w _
  have hx1 : Below w.heap.size w w1 := by rw [← hw1]; exact (Below.refl _ w).alloc (Nat.le_refl _) _
  have HW1 := Lib.hid hw1; have HM1 := Lib.hid hm1; have HX1 := Lib.hid hx1; have HC := Lib.hid hC
  clear hw1 hm1 hx1 hC
  go_enter Try.func30, Try.ntmps30
  go_upto_region 1 with (fail)
  apply wp_scope_two (fun k a W => AtJump w p.ins (meetsP at') A c n (m + n) at' long R false k a W) (fun k a W => AtJump w p.ins (meetsP at') A c n (m + n) at' long R true k a W)
  case h0 => exact rfl
  case h1 => exact rfl
  case p1 =>
    rintro k a W ⟨g, rv, lv, st, s, pc, hd, hs, i0, i2, i3, i8, i9, i10, i11, i12, hct, hpc, hwk, hhl, hk⟩
    obtain ⟨f, hf12, rfl⟩ := frame95 hd hs i0 i2 i3 i8 i9 i10 i11
    have hpc' := hpc rfl
    rw [← hf12] at i12
    rw [i12 rfl]
    clear hd hs i0 i2 i3 i8 i9 i10 i11 i12 hpc hf12
    have CT := Lib.hid hct
    simp only [if_true] at hwk hk
    have HWK := Lib.hid hwk; have HK := Lib.hid hk; have HHL := Lib.hid hhl; have HPC := Lib.hid hpc'
    have hsl : pc < s.seen.length := by rw [hct.len]; exact hpc'
    have d0 := hct.met.cell pc
    have fz := hct.met.free pc
    obtain ⟨b0, hb0⟩ : ∃ b, s.seen[pc]? = some b := ⟨_, List.getElem?_eq_getElem hsl⟩
    simp only [List.getElem?_toArray, List.getElem?_map, hb0, Option.map_some] at d0
    have hnew : newI s pc = !b0 := by simp [newI, List.getD_eq_getElem?_getD, hb0]
    have HNW := Lib.hid hnew
    have hpz : (pc : Int) < (n : Int) := by omega
    obtain ⟨b, o, x, a2, sl, cz, hA, hx, hmem, hsl2, hat, HFV, HRG, hbd, hIV⟩ := H0.out.at' pc (by rw [HN.out]; exact hpc')
    have hsd := HG.out.1.2.2.2.2.2.2 x hmem
    rw [HN.out] at hsd
    obtain ⟨xo, xu, xa, xs, xt⟩ := x
    simp only at HFV hsl2 hbd
    subst hA
    have hbw : b < w.heap.size := World.block_lt_of_cell? w _ HFV.1
    have HF5 := Lib.hid (HFV.below hct.bel); have HAT := Lib.hid hat; have HSD := Lib.hid hsd; have HBD := Lib.hid hbd
    clear HFV HRG hbd hIV hx hsl2 hat hmem hsd hct hwk hk hhl hpc' hb0 hsl hnew
    cases b0
    rotate_left
    · go_wp2_with fail
      go_step3
      show ∃ j, j < k ∧ AtJump w p.ins (meetsP at') _ c n (m + n) at' _ R false j _ _
      refine ⟨2 * leftI s + (st).length + 0, ?_, ?_⟩
      · have := HK.out
        omega
      refine ⟨g, rv, lv, st, s, 0, rfl, rfl, rfl, rfl, rfl, rfl, rfl, rfl, rfl, fun e => (by cases e), CT.out, fun e => (by cases e), ?_, HHL.out, rfl⟩
      rw [← HWK.out, walk_old _ HNW.out]
      rfl
    have HW : Hid (walkI (meetsP at') long p.ins (nextI (meetsP at') (atI p.ins pc) ++ st) (visitI pc (atI p.ins pc) s) = R) := Lib.hid (by rw [← HWK.out, walk_new st HNW.out HHL.out])
    have HLV : Hid (leftI ⟨s.seen.set pc true, s.out, s.hit⟩ + 1 = leftI s) := Lib.hid (left_visit s pc zeroI HNW.out)
    have hc1 := CT.out.mark pc HNW.out
    have HF1 : Hid (Five (W.setCell ⟨g, pc, none⟩ (.bool true)) b (o + pc * 5) (.int .i64 xo) (.int .i64 xu) (.int .i64 xa) (.slice a2 sl cz) (.int .i64 xt)) := Lib.hid (by
      obtain ⟨k0, k1, k2, k3, k4⟩ := HF5.out
      have hne : b ≠ g := fun e => by
        have h2 := CT.out.hg
        omega
      exact ⟨(World.cell?_setCell_other _ _ _ _ (by simp)).trans k0, (World.cell?_setCell_other _ _ _ _ (by simp)).trans k1, (World.cell?_setCell_other _ _ _ _ (by simp)).trans k2, (World.cell?_setCell_other _ _ _ _ (by simp)).trans k3, (World.cell?_setCell_other _ _ _ _ (by simp)).trans k4⟩)
    go_upto_region 10 with (fail)
    have hfew : s.out.length + 1 + (s.seen.set pc true).count false ≤ n := by have h1 := CT.out.few; have h2 := mark_few pc HNW.out; omega
    have hdeep : st.length + 1 + (s.seen.set pc true).count false ≤ m + n := by have h1 := CT.out.deep; have h2 := mark_few pc HNW.out; omega
    generalize W.setCell ⟨g, pc, none⟩ (.bool true) = W1 at hc1 HF1 ⊢
    have HC1 := Lib.hid hc1; have HFW := Lib.hid hfew; have HDP := Lib.hid hdeep
    obtain ⟨k0, k1, k2, k3, k4⟩ := HF1.out
    clear hc1 d0 fz hfew hdeep CT hbw
    by_cases o1 : xo = 1
    · subst o1
      cases long
      · have HE : Hid (R = ⟨s.seen.set pc true, s.out, true⟩) := Lib.hid (by rw [← HW.out, walk_stop (by simp [visitI, HAT.out]) rfl, HAT.out]; simp [visitI])
        go_wp2_with fail
        rw [two_ret]
        go_ret2
        exact ⟨rv, by rw [HE.out]; rfl, by rw [HE.out]; exact HC1.out.reads, HC1.out.bel⟩
      · go_wp2_with fail
        go_step3
        show ∃ j, j < k ∧ AtJump w p.ins (meetsP at') _ c n (m + n) at' _ R false j _ _
        refine ⟨2 * leftI ⟨s.seen.set pc true, s.out, true⟩ + (st).length + 0, ?_, ?_⟩
        · have h1 := HK.out
          have h2 : leftI ⟨s.seen.set pc true, s.out, true⟩ + 1 = leftI s := HLV.out
          skip
          omega
        refine ⟨g, rv, lv, st, ⟨s.seen.set pc true, s.out, true⟩, 0, rfl, rfl, rfl, rfl, rfl, rfl, rfl, rfl, rfl, fun e => (by cases e), HC1.out.hitTo true, fun e => (by cases e), ?_, (fun _ => rfl), rfl⟩
        rw [← HW.out, HAT.out]
        simp [nextI, visitI]
    by_cases o2 : xo = 2
    · subst o2
      have hb3 : Below W1.heap.size W1 (W1.alloc (.cells #[.int .i64 pc] 3)) := (Below.refl _ W1).alloc (Nat.le_refl _) _
      have HC3 := Lib.hid (HC1.out.below hb3)
      have HCE := Lib.hid (box_at W1 3 #[.int .i64 pc] 0 (.int .i64 pc) rfl)
      clear hb3
      go_wp2_with (at_builtin; refine append_zs_at rfl (.tmp 59) (.tmp 61) rfl w.heap.size rv (natsZ s.out) rfl HC3.out.reads W1.heap.size pc rfl HCE.out ?c1 ?c2 ?c3 ?_)
      case c1 => unfold R64; omega
      case c2 => rw [natsZ_len]; have := HFW.out; omega
      case c3 => exact HC3.out.bel.size
      intro v' w' ho' hg' hat'
      have HC4 := Lib.hid (HC3.out.read ho' hg' (by rw [World.size_alloc]; exact hat') HFW.out)
      clear ho' hg' hat' HC3 HCE
      go_wp2_with fail
      go_step3
      show ∃ j, j < k ∧ AtJump w p.ins (meetsP at') _ c n (m + n) at' _ R false j _ _
      refine ⟨2 * leftI ⟨s.seen.set pc true, s.out ++ [pc], s.hit⟩ + (st).length + 0, ?_, ?_⟩
      · have h1 := HK.out
        have h2 : leftI ⟨s.seen.set pc true, s.out ++ [pc], s.hit⟩ + 1 = leftI s := HLV.out
        skip
        omega
      refine ⟨g, v', lv, st, ⟨s.seen.set pc true, s.out ++ [pc], s.hit⟩, 0, rfl, rfl, rfl, rfl, rfl, rfl, rfl, rfl, rfl, fun e => (by cases e), HC4.out, fun e => (by cases e), ?_, HHL.out, rfl⟩
      rw [← HW.out, HAT.out]
      simp [nextI, visitI]
    by_cases o3 : xo = 3
    · subst o3
      have hs3 := (sound_alt n p.caps xu xa xt xs).1 HSD.out
      obtain ⟨⟨hu0, hu1⟩, ⟨ha0, ha1⟩, -, -⟩ := hs3
      obtain ⟨u, rfl⟩ := Int.eq_ofNat_of_zero_le hu0
      obtain ⟨v, rfl⟩ := Int.eq_ofNat_of_zero_le ha0
      have HU : Hid (u < n) := Lib.hid (by omega)
      have HV : Hid (v < n) := Lib.hid (by omega)
      have hb3 : Below W1.heap.size W1 (W1.alloc (.cells #[.int .i64 (v : Int)] 3)) := (Below.refl _ W1).alloc (Nat.le_refl _) _
      have HC3 := Lib.hid (HC1.out.below hb3)
      have HCE := Lib.hid (box_at W1 3 #[.int .i64 (v : Int)] 0 (.int .i64 (v : Int)) rfl)
      clear hb3 hu0 hu1 ha0 ha1
      go_wp2_with (at_builtin; refine append_zs_at rfl (.tmp 65) (.tmp 70) rfl w.heap.size lv (natsZ st.reverse) rfl HC3.out.left W1.heap.size v rfl HCE.out ?c1 ?c2 ?c3 ?_)
      case c1 => unfold R64; have := HV.out; omega
      case c2 => rw [natsZ_len, List.length_reverse]; have := HDP.out; omega
      case c3 => exact HC3.out.bel.size
      intro v' w' ho' hg' hat'
      have HC4 := Lib.hid (HC3.out.push HV.out ho' hg' (by rw [World.size_alloc]; exact hat') HDP.out)
      have HF4 : Hid (w'.cell? ⟨b, o + pc * 5 + 1, none⟩ = some (.int .i64 (u : Int))) := Lib.hid (by
        have h1 := (H0.out.below HC4.out.bel).at' pc (by rw [HN.out]; exact HPC.out)
        obtain ⟨b', o', x', a2', sl', cz', hA', hx', -, -, hat2, ⟨-, q1, -⟩, -⟩ := h1
        injection hA' with hA'
        injection hA' with e1 e2
        rw [HAT.out] at hat2
        subst hat2 e1 e2
        exact q1)
      have f1 := HF4.out
      clear ho' hg' hat' HC3 HCE k0 k1 k2 k3 k4
      go_wp2_with fail
      go_step3
      show ∃ j, j < k ∧ AtJump w p.ins (meetsP at') _ c n (m + n) at' _ R true j _ _
      refine ⟨2 * leftI ⟨s.seen.set pc true, s.out, s.hit⟩ + (v :: st).length + 1, ?_, ?_⟩
      · have h1 := HK.out
        have h2 : leftI ⟨s.seen.set pc true, s.out, s.hit⟩ + 1 = leftI s := HLV.out
        simp only [List.length_cons]
        omega
      refine ⟨g, rv, v', v :: st, ⟨s.seen.set pc true, s.out, s.hit⟩, u, rfl, rfl, rfl, rfl, rfl, rfl, rfl, rfl, rfl, fun _ => rfl, HC4.out, fun _ => HU.out, ?_, HHL.out, rfl⟩
      rw [← HW.out, HAT.out]
      simp [nextI, visitI]
    by_cases o4 : xo = 4
    · subst o4
      have hs4 := (sound_cap n p.caps xu xa xt xs).1 HSD.out
      obtain ⟨⟨hu0, hu1⟩, -⟩ := hs4
      obtain ⟨u, rfl⟩ := Int.eq_ofNat_of_zero_le hu0
      have HU : Hid (u < n) := Lib.hid (by omega)
      clear hu0 hu1
      go_wp2_with fail
      go_step3
      show ∃ j, j < k ∧ AtJump w p.ins (meetsP at') _ c n (m + n) at' _ R true j _ _
      refine ⟨2 * leftI ⟨s.seen.set pc true, s.out, s.hit⟩ + (st).length + 1, ?_, ?_⟩
      · have h1 := HK.out
        have h2 : leftI ⟨s.seen.set pc true, s.out, s.hit⟩ + 1 = leftI s := HLV.out
        skip
        omega
      refine ⟨g, rv, lv, st, ⟨s.seen.set pc true, s.out, s.hit⟩, u, rfl, rfl, rfl, rfl, rfl, rfl, rfl, rfl, rfl, fun _ => rfl, HC1.out, fun _ => HU.out, ?_, HHL.out, rfl⟩
      rw [← HW.out, HAT.out]
      simp [nextI, visitI]
    by_cases o5 : xo = 5
    · subst o5
      have hs5 := (sound_at n p.caps xu xa xt xs).1 HSD.out
      obtain ⟨⟨hu0, hu1⟩, -⟩ := hs5
      obtain ⟨u, rfl⟩ := Int.eq_ofNat_of_zero_le hu0
      have HU : Hid (u < n) := Lib.hid (by omega)
      clear hu0 hu1
      by_cases hme : meetsP at' xt = true
      · have hm0 : (bits .and .i64 xt at' != 0) = true := hme
        have HME := Lib.hid hme
        clear hme
        go_wp2_with fail
        go_step3
        show ∃ j, j < k ∧ AtJump w p.ins (meetsP at') _ c n (m + n) at' _ R true j _ _
        refine ⟨2 * leftI ⟨s.seen.set pc true, s.out, s.hit⟩ + (st).length + 1, ?_, ?_⟩
        · have h1 := HK.out
          have h2 : leftI ⟨s.seen.set pc true, s.out, s.hit⟩ + 1 = leftI s := HLV.out
          skip
          omega
        refine ⟨g, rv, lv, st, ⟨s.seen.set pc true, s.out, s.hit⟩, u, rfl, rfl, rfl, rfl, rfl, rfl, rfl, rfl, rfl, fun _ => rfl, HC1.out, fun _ => HU.out, ?_, HHL.out, rfl⟩
        rw [← HW.out, HAT.out]
        simp [nextI, visitI, HME.out]
      · have hm0 : (bits .and .i64 xt at' != 0) = false := Bool.eq_false_iff.2 hme
        have HME := Lib.hid (Bool.eq_false_iff.2 hme)
        clear hme
        go_wp2_with fail
        go_step3
        show ∃ j, j < k ∧ AtJump w p.ins (meetsP at') _ c n (m + n) at' _ R false j _ _
        refine ⟨2 * leftI ⟨s.seen.set pc true, s.out, s.hit⟩ + (st).length + 0, ?_, ?_⟩
        · have h1 := HK.out
          have h2 : leftI ⟨s.seen.set pc true, s.out, s.hit⟩ + 1 = leftI s := HLV.out
          skip
          omega
        refine ⟨g, rv, lv, st, ⟨s.seen.set pc true, s.out, s.hit⟩, 0, rfl, rfl, rfl, rfl, rfl, rfl, rfl, rfl, rfl, fun e => (by cases e), HC1.out, fun e => (by cases e), ?_, HHL.out, rfl⟩
        rw [← HW.out, HAT.out]
        simp [nextI, visitI, HME.out]
    have hs6 : xo = 6 := by
      have := HSD.out
      unfold SoundI at this
      simp only at this
      omega
    subst hs6
    go_wp2_with fail
    go_step3
    show ∃ j, j < k ∧ AtJump w p.ins (meetsP at') _ c n (m + n) at' _ R false j _ _
    refine ⟨2 * leftI ⟨s.seen.set pc true, s.out, s.hit⟩ + (st).length + 0, ?_, ?_⟩
    · have h1 := HK.out
      have h2 : leftI ⟨s.seen.set pc true, s.out, s.hit⟩ + 1 = leftI s := HLV.out
      skip
      omega
    refine ⟨g, rv, lv, st, ⟨s.seen.set pc true, s.out, s.hit⟩, 0, rfl, rfl, rfl, rfl, rfl, rfl, rfl, rfl, rfl, fun e => (by cases e), HC1.out, fun e => (by cases e), ?_, HHL.out, rfl⟩
    rw [← HW.out, HAT.out]
    simp [nextI, visitI]
  case p0 =>
    intro P1
    rintro k a W ⟨g, rv, lv, st, s, pc, hd, hs, i0, i2, i3, i8, i9, i10, i11, i12, hct, hpc, hwk, hhl, hk⟩
    obtain ⟨f, hf12, rfl⟩ := frame95 hd hs i0 i2 i3 i8 i9 i10 i11
    clear hd hs i0 i2 i3 i8 i9 i10 i11 i12 hpc hf12
    have CT := Lib.hid hct; have HHL := Lib.hid hhl
    simp only [Bool.false_eq_true, if_false] at hwk hk
    rcases st with _ | ⟨pc, st⟩
    · have HE : Hid (s = R) := Lib.hid (by rw [← hwk, walk_nil])
      obtain ⟨al, cl, hlv⟩ := own_slice hct.left.1
      subst hlv
      have h0 : (natsZ (List.reverse ([] : List Nat))).length = 0 := rfl
      rw [h0]
      clear hct hwk hk hhl h0
      go_wp2_with fail
      rw [two_ret]
      go_ret2
      exact ⟨rv, by rw [← HE.out]; rfl, by rw [← HE.out]; exact CT.out.reads, CT.out.bel⟩
    · obtain ⟨q, hq⟩ : ∃ q, st.length = q := ⟨_, rfl⟩
      have hll : (natsZ (pc :: st).reverse).length = q + 1 := by rw [natsZ_len, List.length_reverse, List.length_cons, hq]
      have hqb : q + 1 ≤ m + n := by have := hct.deep; rw [List.length_cons, hq] at this; omega
      rcases own_sliceZ hct.left.1 with ⟨-, h0⟩ | ⟨gl, cl, hlv, hcap, hcm, -⟩
      · omega
      rw [hll] at hlv hcap
      subst hlv
      obtain ⟨d0, -⟩ := hct.left.at' q (by omega)
      have hget : (natsZ (pc :: st).reverse)[q]'(by omega) = (pc : Int) := by
        subst hq
        simp [natsZ]
      rw [hget] at d0
      have HPOP := Lib.hid (hct.pop q hq.symm)
      have HPC : Hid (pc < n) := Lib.hid (hct.lt pc (List.mem_cons_self ..))
      have HWK := Lib.hid hwk; have HK := Lib.hid hk; have HQ := Lib.hid hq
      have e1 : IntKind.i64.wrap (((q + 1 : Nat) : Int) - 1) = (q : Int) := by
        rw [show ((q + 1 : Nat) : Int) - 1 = (q : Int) by omega]
        exact wrap64_nat q (by omega)
      have e2 : IntKind.i64.wrap ((q : Int) + 1 - 1) = (q : Int) := by
        rw [show (q : Int) + 1 - 1 = (q : Int) by omega]
        exact wrap64_nat q (by omega)
      have e3 : IntKind.i64.wrap (q : Int) = (q : Int) := wrap64_nat q (by omega)
      have e4 : (q : Int) + 1 ≠ 0 := by omega
      have e5 : (q : Int) ≤ (cl : Int) := by omega
      clear hct hwk hk hhl hll hget hq CT
      go_wp2_with fail
      go_big_quiet (fail)
      go_wp2_with fail
      rename_i hK
      go_step3
      refine hK _ _ ?_
      refine P1 k _ _ ?_
      refine ⟨g, rv, .slice (some ⟨gl, 0, none⟩) q cl, st, s, pc, rfl, rfl, rfl, rfl, rfl, rfl, rfl, rfl, rfl, fun _ => rfl, HPOP.out.below (below_draws W nq), fun _ => HPC.out, ?_, HHL.out, ?_⟩
      · exact HWK.out
      · have h1 := HK.out
        rw [List.length_cons] at h1
        simp only [if_true]
        omega
  case first =>
    intro P0
    go_upto_region 2 with (fail)
    rw [HW1.out]
    clear hmk
    go_wp2_with fail
    refine (cloneZ_any _ pcs w1 (HZ.out.below HX1.out) (by have := HM.out; omega)).mono ?_
    rintro e w2 ⟨lv, rfl, ho2, hb2⟩
    have HO2 := Lib.hid (ho2.mono HX1.out.size); have HX2 := Lib.hid (below_steps HX1.out hb2); have HM2 := Lib.hid (HM1.out.below hb2 HM1.out.lt)
    have HFAR : Hid (∀ j, lv.ownBlock = some j → j ≠ w.heap.size) := Lib.hid fun j hj => by
      have h1 := own_ge ho2 hj
      have h2 := HM1.out.lt
      omega
    clear ho2 hb2
    go_wp2_with fail
    refine (revZ_any w.heap.size lv pcs w2 HO2.out (by have := HM.out; omega)).mono ?_
    rintro e w3 ⟨rfl, ho3, hg3⟩
    have HO3 := Lib.hid ho3
    have HX3 := Lib.hid (HX2.out.grown hg3 HX2.out.size (fun j hj => own_ge HO2.out hj))
    have HM3 := Lib.hid (HM2.out.grown hg3 (own_whole_ne HO2.out.1 HM2.out (by decide)))
    clear ho3 hg3
    go_wp2_with fail
    rename_i hK
    go_step3
    refine hK _ _ ?_
    refine P0 (2 * leftI (wk0 n) + (natsI pcs).length) _ _ ?_
    refine ⟨w.heap.size, .slice none 0 0, lv, natsI pcs, wk0 n, 0, rfl, rfl, rfl, rfl, rfl, rfl, rfl, rfl, rfl, fun e => (by cases e), ?_, fun e => (by cases e), HR.out, fun e => (by cases e), rfl⟩
    refine ⟨HX3.out, ?_, ownZ_none _ _, ?_, Nat.le_refl _, fun j hj => by simp [Value.ownBlock] at hj, by simp [wk0], by simp [wk0], ?_, ?_⟩
    · have e : ((wk0 n).seen.map Value.bool).toArray = Array.replicate n (.bool false) := by simp [wk0]
      rw [e]
      rw [HC.out]
      exact HM3.out
    · have e : natsZ (natsI pcs).reverse = pcs.reverse := by
        unfold natsZ natsI
        rw [← List.map_reverse, List.map_map]
        refine (List.map_congr_left (g := id) fun x hx => ?_).trans (List.map_id _)
        have := (HG.out.2 x (List.mem_reverse.1 hx)).1
        simp
        omega
      rw [e]
      exact HO3.out
    · have := HM.out
      simp [wk0, natsI]
      omega
    · intro x hx
      obtain ⟨y, hy, rfl⟩ := List.mem_map.1 hx
      have := (HG.out.2 y hy).2
      have h0 := (HG.out.2 y hy).1
      rw [HN.out] at this
      omega
end Go.Proofs.Ytlkbdbijlnjjbaa
