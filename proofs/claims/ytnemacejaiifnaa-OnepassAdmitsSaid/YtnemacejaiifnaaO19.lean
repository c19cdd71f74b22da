/- Texts merged by program: OeSure, OeSure1, OeSureP, OeAdmits, OeRefA, OeFrom, OeRAdm. No condition. -/
import Derived.Test.YtnemacejaiifnaaO9
import Derived.Test.YtnemacejaiifnaaO17
import Derived.Test.YtnemacejaiifnaaO6
import Derived.Test.YtnemacejaiifnaaO18
import Derived.Deep.RegionLaw
set_option linter.unusedVariables false
set_option linter.unusedSimpArgs false
/- Is there no choice behind an instruction: the program's question, and whom it hands on what sets lead to. No condition. -/
namespace Go.Proofs.Ytnemacejaiifnaa
open Go Go.RowKit

/-- An append of ranges, as one operation of a region. -/
theorem step_append_rgsK {w : World} {ops : Array Oper} {o : Oper} {a : Act} {Kk : Act → World → Prop} {Q : Exit → Act → World → Prop} {E : Prop} (hgd : o.guard = none) (x y : Operand)
    (ho : o.op = .call { callee := .builtin .append, args := #[x, y], argTypes := #[24, 24] })
    (base : Nat) (v : Value) (O : List (Int × Int)) (hs : a.eval x = v) (hown : OwnR w base v O)
    (b off m c : Nat) (K : List (Int × Int)) (hm : K.length = m) (hx : a.eval y = .slice (some ⟨b, off, none⟩) m c) (ht : Rgs w (.slice (some ⟨b, off, none⟩) m c) K) (hn : O.length + K.length ≤ 17592186044416) (hbase : base ≤ w.heap.size)
    (h : ∀ v' w', OwnR w' base v' (O ++ K) → w.grownBy w' v.ownBlock → Kk (a.put o.dst v') w') :
    if Region.wanted o (yielded ops a.tmps) = true then Oper.wp Try.prog o a w Kk Q else E := by
  subst hm
  have hw : Region.wanted o (yielded ops a.tmps) = true := by
    unfold Region.wanted
    rw [hgd]
  rw [if_pos hw]
  obtain ⟨i, hi, hz, hsize, hby⟩ := info_parts info_range
  obtain ⟨A', c', h1, h2, h3, h4, h5, h6⟩ := ht
  have hall : AllI32 (O ++ K) := fun r hr => (List.mem_append.1 hr).elim (hown.2 r) (h6 r)
  injection h1 with e1 e2 e3
  subst e1 e3
  refine wp_append_own w x y 24 ho base 131 i (.agg #[.int .i32 0, .int .i32 0]) 2 8 Try.underlying24 hi hz hsize hby rfl (by omega) v O.length (cellsR O) hs hown.1 ⟨b, off, none⟩ K.length c (cellsR K) hx (by rw [cellsR_length]) ?_ (cellsR_one _) (by unfold maxLen; omega) (by omega) hbase (fun v' w' g1 g2 _ => h v' w' ⟨?_, hall⟩ g2)
  · intro j u hu
    obtain ⟨q, hq, hh⟩ := cellsR_get K j u hu
    rcases h5 with h5 | ⟨b', off', e, hc⟩
    · rw [h5] at hq
      simp at hq
    · have e := Option.some.inj e
      have e' := congrArg Addr.off e
      replace e := congrArg Addr.block e
      dsimp only at e e'
      subst e e'
      have hadd : (⟨b, off, none⟩ : Addr).add j = ⟨b, off + j, none⟩ := by unfold Addr.add; split <;> simp_all
      rw [hadd]
      rcases hh with ⟨rfl, rfl⟩ | ⟨rfl, rfl⟩
      · exact (hc q hq).1
      · have := (hc q hq).2
        rw [show off + (q * 2 + 1) = off + q * 2 + 1 by omega]
        exact this
  · rw [cellsR_append, List.length_append]
    exact g1
def outsI (I : List Ins) (l : List Nat) : List Nat := (l.filter (isSet I)).map fun k => (atI I k).out.toNat
def setsI (I : List Ins) (l : List Nat) : List (Int × Int) := (l.filter (isSet I)).flatMap fun k => (atI I k).set
theorem outsI_app (I : List Ins) (a b : List Nat) : outsI I (a ++ b) = outsI I a ++ outsI I b := by simp [outsI]
theorem setsI_app (I : List Ins) (a b : List Nat) : setsI I (a ++ b) = setsI I a ++ setsI I b := by simp [setsI]
theorem sets_few {I : List Ins} {m : Nat} (hm : ∀ x ∈ I, x.set.length ≤ m) : ∀ l : List Nat, (setsI I l).length ≤ l.length * m
  | [] => by simp [setsI]
  | k :: l => by
    have ih := sets_few hm l
    rw [show k :: l = [k] ++ l from rfl, setsI_app, List.length_append, List.length_append, Nat.add_mul]
    have h1 : (setsI I [k]).length ≤ m := by
      unfold setsI
      rw [List.filter_cons]
      split
      · simp only [List.filter_nil, List.flatMap_cons, List.flatMap_nil, List.append_nil]
        unfold atI
        by_cases hk : k < I.length
        · have : I.getD k zeroI = I[k] := by simp [hk]
          rw [this]
          exact hm _ (List.getElem_mem hk)
        · simp [hk, zeroI]
      · simp
    simp only [List.length_cons, List.length_nil]
    omega
/-- What the function keeps: the boxes, how many match, the ranges of the sets, what is still to be looked at. -/
structure SureM (W : World) (B0 q gm gb bw bm bl br bd gd bs n : Nat) (lb : Option Nat) (rv sv : Value) (I : List Ins) (qq : List Bool × List Nat) (l : List Nat) : Prop where
  w : Whole W bw 140 #[.pointer (some ⟨q, 0, none⟩)]
  m : Whole W bm 3 #[.int .i64 ((l.countP (isHit I) : Nat) : Int)]
  f : Whole W bl 74 #[.func (.func 101) #[] #[.pointer (some ⟨bd, 0, none⟩), .pointer (some ⟨bs, 0, none⟩)]]
  r : Whole W br 24 #[rv]
  row : OwnR W B0 rv (setsI I l)
  lead : LeadM W B0 bd gd bs n sv (pushAll (outsI I l) qq)
  hbw : B0 ≤ bw
  hbm : B0 ≤ bm
  hbl : B0 ≤ bl
  hbr : B0 ≤ br
  bm1 : bm ≠ gm
  bm2 : bm ≠ gb
  bm3 : lb ≠ some bm
  bm4 : sv.ownBlock ≠ some bm
  s1 : sv.ownBlock ≠ some gm
  s2 : sv.ownBlock ≠ some gb
  s3 : ∀ j, sv.ownBlock = some j → lb ≠ some j
theorem orow_kept {W W' : World} {B : Nat} {v : Value} {l : List (Int × Int)} (h : OwnR W B v l) (hb : ∀ j, v.ownBlock = some j → W'.heap[j]? = W.heap[j]?) : OwnR W' B v l := by
  refine ⟨⟨h.1.1, ?_⟩, h.2⟩
  rcases h.1.2 with hn | ⟨a, cap, cur, rfl, hb2, hh, rest⟩
  · exact .inl hn
  · exact .inr ⟨a, cap, cur, rfl, hb2, (hb a (by simp [Value.ownBlock])).trans hh, rest⟩
theorem orow_ne {W : World} {B g : Nat} {v : Value} {l : List (Int × Int)} {t : TypeId} {cs : Array Value} (h : OwnR W B v l) (hg : Whole W g t cs) (hne : t ≠ 131) : v.ownBlock ≠ some g := by
  rcases h.1.2 with ⟨rfl, _⟩ | ⟨q, cap, cur, rfl, _, hh, _⟩
  · simp [Value.ownBlock]
  · intro he
    obtain rfl : q = g := by simpa [Value.ownBlock] using he
    unfold Whole at hg
    rw [hg] at hh
    injection hh with h1
    injection h1 with _ h2
    exact hne h2
theorem orow_lt {W : World} {B : Nat} {v : Value} {l : List (Int × Int)} (h : OwnR W B v l) {j : Nat} (hj : v.ownBlock = some j) : B ≤ j ∧ j < W.heap.size := by
  rcases h.1.2 with ⟨rfl, _⟩ | ⟨a, cap, cur, rfl, hb, hh, _⟩
  · simp [Value.ownBlock] at hj
  · simp [Value.ownBlock] at hj
    subst hj
    exact ⟨hb, (Array.getElem?_eq_some_iff.1 hh).1⟩
theorem orow_own {W : World} {B B' : Nat} {v v' : Value} {l : List (Int × Int)} {l' : List Int} (h : OwnR W B v l) (h' : OwnZ W B' v' l') {j : Nat} (hj : v.ownBlock = some j) : v'.ownBlock ≠ some j := by
  rcases h.1.2 with ⟨rfl, _⟩ | ⟨q, cap, cur, rfl, _, hh, _⟩
  · simp [Value.ownBlock] at hj
  · obtain rfl : q = j := by simpa [Value.ownBlock] using hj
    rcases h'.1.2 with ⟨rfl, _⟩ | ⟨q', cap', cur', rfl, _, hh', _⟩
    · simp [Value.ownBlock]
    · intro he
      obtain rfl : q' = q := by simpa [Value.ownBlock] using he
      rw [hh] at hh'
      injection hh' with h1
      injection h1 with _ h2
      exact absurd h2 (by decide)
section
variable {W0 W W' : World} {q gm gb n : Nat} {IV : Value} {t : TypeId} {cs : Array Value} {M B : List Int} {r : Int} {lv : Value} {left : List Nat} {lb' : Option Nat}
/-- A block of another type stays where the walk alone turns memory. -/
theorem estep_whole (hv : WaysIn W0 W q gm gb n IV t cs M B r lv left) (hes : EStep q gm gb lv.ownBlock lb' W W') {k : Nat} {ty : TypeId} {cc : Array Value} (hk : Whole W k ty cc) (h1 : ty ≠ t) (h2 : ty ≠ 3) : Whole W' k ty cc :=
  (hes.blk k hk.lt (ne_types hk hv.box h1) (ne_types hk hv.met h2) (ne_types hk hv.by' h2) (own_whole_ne hv.own.1 hk (fun e => h2 e.symm))).trans hk
theorem estep_new (hes : EStep q gm gb lv.ownBlock lb' W W') {j : Nat} (hj : j < W.heap.size) (h : lv.ownBlock ≠ some j) : lb' ≠ some j := by
  rcases hes.row with h5 | ⟨k, h5, h6⟩
  · rw [h5]
    exact h
  · rw [h5]
    intro e
    injection e with e
    omega
theorem SureM.estep {B0 bw bm bl br bd gd bs : Nat} {rv sv : Value} {I : List Ins} {qq : List Bool × List Nat} {l : List Nat} (h : SureM W B0 q gm gb bw bm bl br bd gd bs n lv.ownBlock rv sv I qq l) (hv : WaysIn W0 W q gm gb n IV 100 cs M B r lv left) (hes : EStep q gm gb lv.ownBlock lb' W W') :
    SureM W' B0 q gm gb bw bm bl br bd gd bs n lb' rv sv I qq l := by
  have hsv : ∀ j, sv.ownBlock = some j → W'.heap[j]? = W.heap[j]? := fun j hj => hes.blk j (oown_lt h.lead.row hj).2 (fun e => own_whole_ne h.lead.row.1 hv.box (by decide) (by rw [hj, e])) (fun e => h.s1 (by rw [hj, e])) (fun e => h.s2 (by rw [hj, e])) (h.s3 j hj)
  refine ⟨estep_whole hv hes h.w (by decide) (by decide), (hes.blk bm h.m.lt (ne_types h.m hv.box (by decide)) h.bm1 h.bm2 h.bm3).trans h.m, estep_whole hv hes h.f (by decide) (by decide), estep_whole hv hes h.r (by decide) (by decide), ?_, ?_, h.hbw, h.hbm, h.hbl, h.hbr, h.bm1, h.bm2, estep_new hes h.m.lt h.bm3, h.bm4, h.s1, h.s2, fun j hj => estep_new hes (oown_lt h.lead.row hj).2 (h.s3 j hj)⟩
  · refine orow_kept h.row fun j hj => hes.blk j (orow_lt h.row hj).2 (fun e => orow_ne h.row hv.box (by decide) (by rw [hj, e])) (fun e => orow_ne h.row hv.met (by decide) (by rw [hj, e])) (fun e => orow_ne h.row hv.by' (by decide) (by rw [hj, e])) (orow_own h.row hv.own hj)
  · exact h.lead.kept ((estep_whole hv hes h.lead.box (by decide) (by decide)).trans h.lead.box.symm) ((estep_whole hv hes h.lead.done (by decide) (by decide)).trans h.lead.done.symm) ((estep_whole hv hes h.lead.todo (by decide) (by decide)).trans h.lead.todo.symm) hsv
end
end Go.Proofs.Ytnemacejaiifnaa
/- The function that is handed what is come to, of the program's question whether there is a choice. No condition. -/
namespace Go.Proofs.Ytnemacejaiifnaa
open Go Go.RowKit

theorem orow_slice {W : World} {B : Nat} {v : Value} {l : List (Int × Int)} (h : OwnR W B v l) : ∃ a n c, v = .slice a n c := by
  rcases own_slice2 h.1 with ⟨e, h0⟩ | ⟨g, c, e, -⟩
  · exact ⟨_, _, _, e⟩
  · exact ⟨_, _, _, e⟩
def Sure1Post (W0 W : World) (q gm gb bw bm bl br bd gd bs n : Nat) (lb : Option Nat) (I : List Ins) (qq : List Bool × List Nat) (l : List Nat) (e : Ending) (W' : World) : Prop :=
  e = .returned (.bool true) ∧ ∃ rv sv, SureM W' W0.heap.size q gm gb bw bm bl br bd gd bs n lb rv sv I qq l ∧ (∀ k, k = q ∨ k = gm ∨ k = gb ∨ lb = some k → W'.heap[k]? = W.heap[k]?) ∧ W.heap.size ≤ W'.heap.size ∧ Below W0.heap.size W0 W'
set_option maxHeartbeats 4000000 in
set_option maxRecDepth 100000 in
theorem psure1_any (p : Pg) (hR : RightPg p) (W0 W : World) (q gm gb n : Nat) (hn : p.ins.length = n) (IV : Value) (hI : Inss W0 IV p.ins) (cs : Array Value) (M B : List Int) (r : Int) (lv : Value) (left : List Nat) (h : WaysIn W0 W q gm gb n IV 100 cs M B r lv left)
    (bw bm bl br bd gd bs : Nat) (rv sv : Value) (qq : List Bool × List Nat) (l : List Nat) (hm : SureM W W0.heap.size q gm gb bw bm bl br bd gd bs n lv.ownBlock rv sv p.ins qq l) (hlen : (setsI p.ins l).length ≤ 1000000) (hcnt : l.countP (isHit p.ins) ≤ 1000000) (hsets : ∀ x ∈ p.ins, x.set.length ≤ 1000000) (pc : Nat) (hpc : pc < n) :
    Calls Try.prog 135 #[.int .i64 (pc : Int), .pointer (some ⟨bw, 0, none⟩), .pointer (some ⟨bm, 0, none⟩), .pointer (some ⟨bl, 0, none⟩), .pointer (some ⟨br, 0, none⟩)] W (Sure1Post W0 W q gm gb bw bm bl br bd gd bs n lv.ownBlock p.ins qq (l ++ [pc])) := by
  have hnb : n ≤ 10000 := by rw [← hn]; exact hR.2.1
  obtain ⟨IA, ic, hIV⟩ : ∃ A c, IV = .slice A n c := by
    obtain ⟨A, c, e, -⟩ := hI
    exact ⟨A, c, by rw [e, hn]⟩
  subst hIV
  obtain ⟨bb, o, x, a2, s, cz, hA, hx, hmem, hsl2, hat, HFV, HRG, hbd, -⟩ := hI.at' pc (by rw [hn]; exact hpc)
  subst hA
  have hsd := hR.2.2.2.2.2.2 x hmem
  rw [hn] at hsd
  obtain ⟨xo, xu, xa, xs, xt⟩ := x
  have hxl := hsets _ hmem
  simp only at HFV hbd hsl2 HRG hxl
  have HXL := Lib.hid hxl
  have q0 : W.cell? ⟨q, 0, none⟩ = some (.slice (some ⟨bb, o, none⟩) n ic) := (h.box.cell 0).trans h.c0
  have w0 : W.cell? ⟨bw, 0, none⟩ = some (.pointer (some ⟨q, 0, none⟩)) := hm.w.cell 0
  have m0 : W.cell? ⟨bm, 0, none⟩ = some (.int .i64 ((l.countP (isHit p.ins) : Nat) : Int)) := hm.m.cell 0
  have f0 : W.cell? ⟨bl, 0, none⟩ = some (.func (.func 101) #[] #[.pointer (some ⟨bd, 0, none⟩), .pointer (some ⟨bs, 0, none⟩)]) := hm.f.cell 0
  have zm := hm.m.free 0
  have hpz : (pc : Int) < (n : Int) := by omega
  obtain ⟨k0, k1, k2, k3, k4⟩ := HFV.below h.bel
  have H := Lib.hid h; have HM := Lib.hid hm; have HF := Lib.hid HFV; have HSD := Lib.hid hsd; have HAT := Lib.hid hat; have HNB := Lib.hid hnb; have HPC := Lib.hid hpc; have HN := Lib.hid hn
  have HRGS := Lib.hid HRG; have HSL := Lib.hid hsl2; have HLEN := Lib.hid hlen
  have hH : isHit p.ins pc = decide (xo = 1) := by unfold isHit; rw [hat]
  have hS : isSet p.ins pc = decide (xo = 2) := by unfold isSet; rw [hat]
  have HHIT := Lib.hid hH; have HSET := Lib.hid hS
  obtain ⟨cn, hcn⟩ : ∃ cn, l.countP (isHit p.ins) = cn := ⟨_, rfl⟩
  rw [hcn] at m0 hcnt
  have HCN := Lib.hid hcn
  clear h hm HFV hsd hat hnb hpc hn HRG hsl2 hI hx hmem hbd hR hH hS hcn hlen hxl hsets
  by_cases o1 : xo = 1
  · subst o1
    have hw : IntKind.i64.wrap ((cn : Int) + 1) = (cn : Int) + 1 := ow_wrap _ ⟨by omega, by omega⟩
    have hw64 : wrap64 ((cn : Int) + 1) = (cn : Int) + 1 := IntWalk.wrap64_in _ ⟨by omega, by omega⟩
    have hst : Whole (W.setCell ⟨bm, 0, none⟩ (.int .i64 ((cn : Int) + 1))) bm 3 #[.int .i64 ((cn : Int) + 1)] := by
      have := HM.out.m.store 0 (.int .i64 ((cn : Int) + 1))
      simpa using this
    have hks := kept_set W bm 0 (.int .i64 ((cn : Int) + 1))
    have hsz : (W.setCell ⟨bm, 0, none⟩ (.int .i64 ((cn : Int) + 1))).heap.size = W.heap.size := World.size_setCell _ _ _
    have hbel : Below W0.heap.size W0 (W.setCell ⟨bm, 0, none⟩ (.int .i64 ((cn : Int) + 1))) := H.out.bel.setCell (p := ⟨bm, 0, none⟩) HM.out.hbm _
    have HST := Lib.hid hst; have HKS := Lib.hid hks; have HSZ := Lib.hid hsz; have HBEL := Lib.hid hbel
    clear hst hks hsz hbel f0 k1 k2 k3 k4
    go_enter Try.func135, Try.ntmps135
    go_upto_region 9 with (fail)
    generalize W.setCell ⟨bm, 0, none⟩ (.int .i64 ((cn : Int) + 1)) = W2 at HST HKS HSZ HBEL ⊢
    clear q0 w0 m0 zm k0 hw hw64
    go_wp2_with fail
    go_ret
    have hm := HM.out
    have hh := H.out
    have e1 : (l ++ [pc]).countP (isHit p.ins) = cn + 1 := by
      rw [List.countP_append, HCN.out, List.countP_cons, HHIT.out]
      simp
    have e2 : setsI p.ins (l ++ [pc]) = setsI p.ins l := by
      rw [setsI_app]
      unfold setsI
      rw [List.filter_cons, HSET.out]
      simp
    have e3 : outsI p.ins (l ++ [pc]) = outsI p.ins l := by
      rw [outsI_app]
      unfold outsI
      rw [List.filter_cons, HSET.out]
      simp
    have kk : ∀ k, k < W.heap.size → k ≠ bm → W2.heap[k]? = W.heap[k]? := HKS.out
    have kt : ∀ {k : Nat} {ty : TypeId} {cc : Array Value}, Whole W k ty cc → ty ≠ 3 → W2.heap[k]? = W.heap[k]? := fun hk hne => kk _ hk.lt (ne_types hk hm.m hne)
    refine ⟨rfl, rv, sv, ⟨(kt hm.w (by decide)).trans hm.w, by rw [e1]; exact HST.out, (kt hm.f (by decide)).trans hm.f, (kt hm.r (by decide)).trans hm.r, by rw [e2]; exact orow_kept hm.row fun j hj => kk j (orow_lt hm.row hj).2 (fun e => orow_ne hm.row hm.m (by decide) (by rw [hj, e])), by rw [e3]; exact hm.lead.kept (kt hm.lead.box (by decide)) (kt hm.lead.done (by decide)) (kt hm.lead.todo (by decide)) (fun j hj => kk j (oown_lt hm.lead.row hj).2 (fun e => hm.bm4 (by rw [hj, e]))), hm.hbw, hm.hbm, hm.hbl, hm.hbr, hm.bm1, hm.bm2, hm.bm3, hm.bm4, hm.s1, hm.s2, hm.s3⟩, ?_, Nat.le_of_eq HSZ.out.symm, HBEL.out⟩
    rintro k (rfl | rfl | rfl | hk)
    · exact kt hh.box (by decide)
    · exact kk _ hh.met.lt (fun e => hm.bm1 e.symm)
    · exact kk _ hh.by'.lt (fun e => hm.bm2 e.symm)
    · exact kk _ (oown_lt hh.own hk).2 (fun e => hm.bm3 (by rw [hk, e]))
  have d1 : (xo == 1) = false := by simp [o1]
  by_cases o2 : xo = 2
  · subst o2
    have hs2 := (sound_set n p.caps xu xa xt xs).1 HSD.out
    obtain ⟨⟨hu0, hu1⟩, -, ⟨hne, hrs⟩, -⟩ := hs2
    obtain ⟨u, rfl⟩ := Int.eq_ofNat_of_zero_le hu0
    have HU : Hid (u < n) := Lib.hid (by omega)
    obtain ⟨g, off, hga, hRGW⟩ : ∃ g off, a2 = some ⟨g, off, none⟩ ∧ Rgs W (.slice a2 s cz) xs := by
      have hr := HRGS.out.below H.out.bel
      obtain ⟨A', c', h1, h2, h3, h4, h5, h6⟩ := id hr
      injection h1 with e1 e2 e3
      rcases h5 with h5 | ⟨b, o', e, -⟩
      · rw [h5] at hne
        exact absurd rfl hne
      · exact ⟨b, o', e1.trans e, hr⟩
    subst hga
    obtain ⟨ra, rl, rc, hrv, hrl⟩ : ∃ a n c, rv = .slice a n c ∧ n = (setsI p.ins l).length := by
      rcases own_slice2 HM.out.row.1 with ⟨e, h0⟩ | ⟨g, c, e, -⟩
      · exact ⟨none, 0, 0, e, h0.symm⟩
      · exact ⟨_, _, c, e, rfl⟩
    subst hrv
    have drl : decide ((rl : Int) ≤ 1114112) = true := decide_eq_true (by have := HLEN.out; omega)
    have HRL := Lib.hid hrl
    have HSUM : Hid ((setsI p.ins l).length + xs.length ≤ 17592186044416) := Lib.hid (by have := HLEN.out; have := HXL.out; omega)
    clear hrl
    have HLD := Lib.hid (plead1_any W0 W.drew W0.heap.size (Nat.le_refl _) H.out.bel.drew H.out.bel.size bd gd bs n HNB.out sv _ (HM.out.lead.below (Below.refl _ W).drew) u HU.out)
    clear hu0 hu1 hne hrs hRGW d1 o1
    go_enter Try.func135, Try.ntmps135
    go_upto_region 6 with (fail)
    go_region_with (go_at_call 101; refine HLD.out.mono ?_; rintro e W2 ⟨rfl, sv2, hl2, hfr2, hsz2, hat2, hb2⟩)
    all_goals
      have hm := HM.out
      have kk : ∀ k, k < W.heap.size → k ≠ gd → k ≠ bs → sv.ownBlock ≠ some k → W2.heap[k]? = W.heap[k]? := hfr2
      have kt : ∀ {k : Nat} {ty : TypeId} {cc : Array Value}, Whole W k ty cc → ty ≠ 3 → ty ≠ 4 → ty ≠ 38 → Whole W2 k ty cc := fun hk h1 h2 h3 => (kk _ hk.lt (ne_types hk hm.lead.done h2) (ne_types hk hm.lead.todo h3) (own_whole_ne hm.lead.row.1 hk (fun e => h1 e.symm))).trans hk
      have hrow2 : OwnR W2 W0.heap.size (.slice ra rl rc) (setsI p.ins l) := orow_kept hm.row fun j hj => kk j (orow_lt hm.row hj).2 (fun e => orow_ne hm.row hm.lead.done (by decide) (by rw [hj, e])) (fun e => orow_ne hm.row hm.lead.todo (by decide) (by rw [hj, e])) (orow_own hm.row hm.lead.row hj)
      have hr2 := kt hm.r (by decide) (by decide) (by decide)
      have hb2' : Below W0.heap.size W0 W2 := hb2
      have r0 : W2.cell? ⟨br, 0, none⟩ = some (.slice ra rl rc) := hr2.cell 0
      have zr := hr2.free 0
      obtain ⟨j0, j1, j2, j3, j4⟩ := HF.out.below hb2'
      have hrg2 := HRGS.out.below hb2'
      have hgw : Whole W2 gd 4 _ := hl2.done
      have hqk : ∀ k, k = q ∨ k = gm ∨ k = gb ∨ lv.ownBlock = some k → W2.heap[k]? = W.heap[k]? := by
        have hh := H.out
        rintro k (rfl | rfl | rfl | hk)
        · exact (kt hh.box (by decide) (by decide) (by decide)).trans hh.box.symm
        · exact kk _ hh.met.lt (ne_types hh.met hm.lead.done (by decide)) (ne_types hh.met hm.lead.todo (by decide)) (fun e => hm.s1 e)
        · exact kk _ hh.by'.lt (ne_types hh.by' hm.lead.done (by decide)) (ne_types hh.by' hm.lead.todo (by decide)) (fun e => hm.s2 e)
        · exact kk _ (oown_lt hh.own hk).2 (fun e => own_whole_ne hh.own.1 hm.lead.done (by decide) (by rw [hk, e])) (fun e => own_whole_ne hh.own.1 hm.lead.todo (by decide) (by rw [hk, e])) (fun e => hm.s3 k e hk)
      have hs4 : sv2.ownBlock ≠ some bm ∧ sv2.ownBlock ≠ some gm ∧ sv2.ownBlock ≠ some gb ∧ ∀ j, sv2.ownBlock = some j → lv.ownBlock ≠ some j := by
        rcases hat2 with e | ⟨j, e, hj⟩
        · rw [e]
          exact ⟨hm.bm4, hm.s1, hm.s2, hm.s3⟩
        · have hj' : W.heap.size ≤ j := hj
          rw [e]
          refine ⟨fun e2 => ?_, fun e2 => ?_, fun e2 => ?_, fun i hi hk => ?_⟩
          · injection e2 with e2
            have := hm.m.lt
            omega
          · injection e2 with e2
            have := H.out.met.lt
            omega
          · injection e2 with e2
            have := H.out.by'.lt
            omega
          · injection hi with hi
            have := (oown_lt H.out.own hk).2
            omega
      have hbm2 : Whole W2 bm 3 _ := (kk _ hm.m.lt (ne_types hm.m hm.lead.done (by decide)) (ne_types hm.m hm.lead.todo (by decide)) hm.bm4).trans hm.m
      have hsz2' : W.heap.size ≤ W2.heap.size := hsz2
      have HW2w := Lib.hid (kt hm.w (by decide) (by decide) (by decide)); have HW2f := Lib.hid (kt hm.f (by decide) (by decide) (by decide)); have HW2r := Lib.hid hr2; have HROW := Lib.hid hrow2; have HL2 := Lib.hid hl2; have HQK := Lib.hid hqk; have HS4 := Lib.hid hs4; have HBM2 := Lib.hid hbm2; have HSZ2 := Lib.hid hsz2'; have HB2 := Lib.hid hb2'; have HRG2 := Lib.hid hrg2
      clear hm kk kt hrow2 hr2 hb2' hgw hqk hs4 hbm2 hsz2' hl2 hfr2 hat2 hb2 hsz2 q0 w0 m0 f0 zm k0 k1 k2 k3 k4 HLD hrg2
      go_wp2_with fail
      go_region_law (first | (refine step_append_rgsK rfl (.tmp 33) (.tmp 37) rfl W0.heap.size (.slice ra rl rc) (setsI p.ins l) (by go_simp) (show OwnR W2.drew _ _ _ from HROW.out) g off s cz xs HSL.out (by go_simp) (show Rgs W2.drew _ _ from HRG2.out) HSUM.out (show W0.heap.size ≤ W2.drew.heap.size from HB2.out.size) ?_; intro v' w' ho' hg'; have hr3 := (show Whole W2.drew br _ _ from HW2r.out).grown hg' (orow_ne (show OwnR W2.drew _ _ _ from HROW.out) (show Whole W2.drew br _ _ from HW2r.out) (by decide)); have r0' : w'.cell? ⟨br, 0, none⟩ = some (.slice ra rl rc) := hr3.cell 0; have zr' := hr3.free 0; have HR3 := Lib.hid hr3; have HO3 := Lib.hid ho'; have HG3 := Lib.hid hg'; obtain ⟨va, vn, vc, rfl⟩ := orow_slice ho'; clear hr3 ho' hg'))
      all_goals
        have hG := HG3.out
        have kg : ∀ {k : Nat} {ty : TypeId} {cc : Array Value}, Whole W2 k ty cc → ty ≠ 131 → ty ≠ 24 → Whole (w'.setCell ⟨br, 0, none⟩ (.slice va vn vc)) k ty cc := fun hk h1 h2 => ((show Whole W2.drew _ _ _ from hk).grown hG (orow_ne (show OwnR W2.drew _ _ _ from HROW.out) (show Whole W2.drew _ _ _ from hk) h1)).far (ne_types ((show Whole W2.drew _ _ _ from hk).grown hG (orow_ne (show OwnR W2.drew _ _ _ from HROW.out) (show Whole W2.drew _ _ _ from hk) h1)) HR3.out h2) _ _
        have kb : ∀ k, k < W2.heap.size → (Value.slice ra rl rc).ownBlock ≠ some k → k ≠ br → (w'.setCell ⟨br, 0, none⟩ (.slice va vn vc)).heap[k]? = W2.heap[k]? := fun k hk h1 h2 => (Below.heap_setCell w' _ _ k h2).trans (hG.block k hk (fun e => h1 e.symm))
        have hfin : Whole (w'.setCell ⟨br, 0, none⟩ (.slice va vn vc)) br 24 #[.slice va vn vc] := by
          have := HR3.out.store 0 (.slice va vn vc)
          simpa using this
        have hrow : OwnR (w'.setCell ⟨br, 0, none⟩ (.slice va vn vc)) W0.heap.size (.slice va vn vc) (setsI p.ins l ++ xs) := orow_kept HO3.out fun j hj => Below.heap_setCell w' _ _ j (fun e => orow_ne HO3.out HR3.out (by decide) (by rw [hj, e]))
        have hbel : Below W0.heap.size W0 (w'.setCell ⟨br, 0, none⟩ (.slice va vn vc)) := (HB2.out.drew.grown hG HB2.out.size (fun j hj => (orow_lt HROW.out hj).1)).setCell (p := ⟨br, 0, none⟩) HM.out.hbr _
        have hsz : W.heap.size ≤ (w'.setCell ⟨br, 0, none⟩ (.slice va vn vc)).heap.size := by
          rw [World.size_setCell]
          exact Nat.le_trans HSZ2.out hG.size
        have hqf : ∀ k, k = q ∨ k = gm ∨ k = gb ∨ lv.ownBlock = some k → (w'.setCell ⟨br, 0, none⟩ (.slice va vn vc)).heap[k]? = W.heap[k]? := by
          intro k hk
          have h1 := HQK.out k hk
          have hh := H.out
          have hW : k < W.heap.size ∧ (∀ cs, ¬ Whole W k 131 cs) ∧ ∀ cs, ¬ Whole W k 24 cs := by
            rcases hk with rfl | rfl | rfl | hk
            · exact ⟨hh.box.lt, fun cs h => ne_types hh.box h (by decide) rfl, fun cs h => ne_types hh.box h (by decide) rfl⟩
            · exact ⟨hh.met.lt, fun cs h => ne_types hh.met h (by decide) rfl, fun cs h => ne_types hh.met h (by decide) rfl⟩
            · exact ⟨hh.by'.lt, fun cs h => ne_types hh.by' h (by decide) rfl, fun cs h => ne_types hh.by' h (by decide) rfl⟩
            · exact ⟨(oown_lt hh.own hk).2, fun cs h => own_whole_ne hh.own.1 h (by decide) hk, fun cs h => own_whole_ne hh.own.1 h (by decide) hk⟩
          refine (kb k (Nat.lt_of_lt_of_le hW.1 HSZ2.out) (fun e => ?_) (fun e => ?_)).trans h1
          · rcases HROW.out.1.2 with ⟨e2, _⟩ | ⟨g2, cap, cur, e2, _, hcur, _⟩
            · rw [e2] at e
              simp [Value.ownBlock] at e
            · rw [e2] at e
              obtain rfl : g2 = k := by simpa [Value.ownBlock] using e
              exact hW.2.1 cur (h1.symm.trans hcur)
          · subst e
            exact hW.2.2 _ (h1.symm.trans HW2r.out)
        have hlead := HL2.out.kept (W' := w'.setCell ⟨br, 0, none⟩ (.slice va vn vc)) ((kg HL2.out.box (by decide) (by decide)).trans HL2.out.box.symm) ((kg HL2.out.done (by decide) (by decide)).trans HL2.out.done.symm) ((kg HL2.out.todo (by decide) (by decide)).trans HL2.out.todo.symm) (fun j hj => kb j (oown_lt HL2.out.row hj).2 (fun e => orow_own HROW.out HL2.out.row e hj) (fun e => own_whole_ne HL2.out.row.1 HW2r.out (by decide) (by rw [hj, e])))
        have e1 : (l ++ [pc]).countP (isHit p.ins) = l.countP (isHit p.ins) := by
          rw [List.countP_append, List.countP_cons, HHIT.out]
          simp
        have e2 : setsI p.ins (l ++ [pc]) = setsI p.ins l ++ xs := by
          rw [setsI_app]
          unfold setsI
          rw [List.filter_cons, HSET.out]
          simp [HAT.out]
        have e3 : outsI p.ins (l ++ [pc]) = outsI p.ins l ++ [u] := by
          rw [outsI_app]
          unfold outsI
          rw [List.filter_cons, HSET.out]
          simp [HAT.out]
        have hm := HM.out
        have hfinal : SureM (w'.setCell ⟨br, 0, none⟩ (.slice va vn vc)) W0.heap.size q gm gb bw bm bl br bd gd bs n lv.ownBlock (.slice va vn vc) sv2 p.ins qq (l ++ [pc]) :=
          ⟨kg HW2w.out (by decide) (by decide), by rw [e1]; exact kg HBM2.out (by decide) (by decide), kg HW2f.out (by decide) (by decide), hfin, by rw [e2]; exact hrow, by rw [e3, pushAll_app]; exact hlead, hm.hbw, hm.hbm, hm.hbl, hm.hbr, hm.bm1, hm.bm2, hm.bm3, HS4.out.1, HS4.out.2.1, HS4.out.2.2.1, HS4.out.2.2.2⟩
        have HFIN := Lib.hid hfinal; have HQF := Lib.hid hqf; have HBF := Lib.hid hbel; have HSF := Lib.hid hsz
        clear hG kg kb hfin hrow hbel hsz hqf hlead e1 e2 e3 hm hfinal r0' zr'
        go_wp2_with fail
        go_ret
        exact ⟨rfl, _, _, HFIN.out, HQF.out, HSF.out, HBF.out⟩
  · have d2 : (xo == 2) = false := by simp [o2]
    have e1 : (l ++ [pc]).countP (isHit p.ins) = l.countP (isHit p.ins) := by
      rw [List.countP_append, List.countP_cons, HHIT.out]
      simp [o1]
    have e2 : setsI p.ins (l ++ [pc]) = setsI p.ins l := by
      rw [setsI_app]
      unfold setsI
      rw [List.filter_cons, HSET.out]
      simp [o2]
    have e3 : outsI p.ins (l ++ [pc]) = outsI p.ins l := by
      rw [outsI_app]
      unfold outsI
      rw [List.filter_cons, HSET.out]
      simp [o2]
    have hm := HM.out
    have hfinal : SureM W W0.heap.size q gm gb bw bm bl br bd gd bs n lv.ownBlock rv sv p.ins qq (l ++ [pc]) :=
      ⟨hm.w, by rw [e1]; exact hm.m, hm.f, hm.r, by rw [e2]; exact hm.row, by rw [e3]; exact hm.lead, hm.hbw, hm.hbm, hm.hbl, hm.hbr, hm.bm1, hm.bm2, hm.bm3, hm.bm4, hm.s1, hm.s2, hm.s3⟩
    have HFIN := Lib.hid hfinal
    clear e1 e2 e3 hm hfinal o1 o2 f0 m0 zm k1 k2 k3 k4
    go_enter Try.func135, Try.ntmps135
    go_wp2_with fail
    go_ret
    exact ⟨rfl, rv, sv, HFIN.out, fun _ _ => rfl, Nat.le_refl _, H.out.bel⟩
end Go.Proofs.Ytnemacejaiifnaa
/- Is there no choice behind an instruction: the program's question whole. No condition. -/
namespace Go.Proofs.Ytnemacejaiifnaa
open Go Go.RowKit

/-- The row of what is still to be looked at lies apart. -/
structure SvApart (sv : Value) (gm gb : Nat) (lb : Option Nat) : Prop where
  s1 : sv.ownBlock ≠ some gm
  s2 : sv.ownBlock ≠ some gb
  s3 : ∀ j, sv.ownBlock = some j → lb ≠ some j
/-- What sure tells and leaves. -/
def SureP (p : Pg) (W0 : World) (q gm gb n : Nat) (IV : Value) (r : Int) (bd gd bs : Nat) (qq : List Bool × List Nat) (pc : Nat) (e : Ending) (W' : World) : Prop :=
  ∃ (b : Bool) (vis : List (Nat × List Nat)), e = .returned (.bool b) ∧ (b = true ↔ GoodI p.ins pc) ∧ (b = true → Unf (nxI allM p.ins) [(pc, [])] vis) ∧
    ∃ cs M B lv left sv, WaysIn W0 W' q gm gb n IV 100 cs M B (r + 1) lv left ∧ LeadM W' W0.heap.size bd gd bs n sv (pushAll (outsI p.ins (placesI vis)) qq) ∧ SvApart sv gm gb lv.ownBlock
theorem tot_mem {I : List Ins} {x : Ins} (h : x ∈ I) : I.length + x.set.length ≤ totI I := by
  unfold totI
  have : x.set.length ≤ (I.map fun x => x.set.length).sum := by
    induction I with
    | nil => simp at h
    | cons y I ih =>
      rcases List.mem_cons.1 h with rfl | h
      · simp
      · have := ih h
        simp only [List.map_cons, List.sum_cons]
        omega
  omega
theorem few_mul (a n : Nat) (h1 : a ≤ n) (h2 : n ≤ 2000) : a * (2000 - n) ≤ 1000000 := by
  refine Nat.le_trans (Nat.mul_le_mul_right _ h1) ?_
  rcases Nat.lt_or_ge n 1000 with h | h
  · obtain ⟨d, hd, rfl⟩ : ∃ d, d ≤ 1000 ∧ n = 1000 - d := ⟨1000 - n, by omega, by omega⟩
    rw [show 2000 - (1000 - d) = 1000 + d by omega, Nat.sub_mul]
    have : 1000 * (1000 + d) = 1000000 + 1000 * d := by omega
    have : d * (1000 + d) = d * 1000 + d * d := Nat.mul_add ..
    omega
  · obtain ⟨d, rfl⟩ : ∃ d, n = 1000 + d := ⟨n - 1000, by omega⟩
    rw [show 2000 - (1000 + d) = 1000 - d by omega, Nat.add_mul]
    have h1 : 1000 * (1000 - d) = 1000000 - 1000 * d := by omega
    have h2 : d * (1000 - d) ≤ d * 1000 := Nat.mul_le_mul_left _ (by omega)
    omega
theorem sets_right {p : Pg} (hR : RightPg p) {k : Nat} (hk : isSet p.ins k = true) : RightR (atI p.ins k).set := by
  unfold isSet at hk
  have ho := of_decide_eq_true hk
  have hlt : k < p.ins.length := by
    rcases Nat.lt_or_ge k p.ins.length with h | h
    · exact h
    · simp [atI, List.getElem?_eq_none h, zeroI] at ho
  have hm : atI p.ins k ∈ p.ins := by
    have : atI p.ins k = p.ins[k] := by simp [atI, hlt]
    rw [this]
    exact List.getElem_mem hlt
  have := hR.2.2.2.2.2.2 _ hm
  unfold SoundI at this
  rcases this with h | h | h | h | h
  · omega
  · exact h.2.2.2.1.2
  · omega
  · omega
  · omega
theorem sets_apart {p : Pg} (hR : RightPg p) (l : List Nat) : ApartL (setsI p.ins l) ↔ ApartI p.ins (l.filter (isSet p.ins)) :=
  apart_flat fun k hk => sets_right hR (List.mem_filter.1 hk).2
theorem sets_fit {p : Pg} (hR : RightPg p) (l : List Nat) : ∀ r ∈ setsI p.ins l, r.1 ≤ r.2 := by
  intro r hr
  obtain ⟨k, hk, hm⟩ := List.mem_flatMap.1 hr
  exact ((rightFrom_apart _ 0 (sets_right hR (List.mem_filter.1 hk).2)).1 r hm).2.1
set_option maxHeartbeats 4000000 in
set_option maxRecDepth 100000 in
theorem psure_any (p : Pg) (hR : RightPg p) (hS : ¬ LongPg p) (W0 W : World) (q gm gb n : Nat) (hn : p.ins.length = n) (IV : Value) (hI : Inss W0 IV p.ins) (cs : Array Value) (M B : List Int) (r : Int) (hr : r ≤ 1000000000) (lv : Value) (left : List Nat) (h : WaysIn W0 W q gm gb n IV 100 cs M B r lv left)
    (bd gd bs : Nat) (sv : Value) (qq : List Bool × List Nat) (hl : LeadM W W0.heap.size bd gd bs n sv qq) (ha : SvApart sv gm gb lv.ownBlock) (pc : Nat) (hpc : pc < n) :
    Calls Try.prog 102 #[.pointer (some ⟨q, 0, none⟩), .int .i64 (pc : Int), .func (.func 101) #[] #[.pointer (some ⟨bd, 0, none⟩), .pointer (some ⟨bs, 0, none⟩)]] W (SureP p W0 q gm gb n IV r bd gd bs qq pc) := by
  have eg : ∀ args w, (callFunc 135 args).run Try.prog w = .ok (.enter 135 args) w := enters_of Try.func135 (by kernel_rfl) rfl
  obtain ⟨W1, hW1⟩ : ∃ W1, W.alloc (.cells #[.pointer (some ⟨q, 0, none⟩)] 140) = W1 := ⟨_, rfl⟩
  obtain ⟨W2, hW2⟩ : ∃ W2, W1.alloc (.cells #[.func (.func 101) #[] #[.pointer (some ⟨bd, 0, none⟩), .pointer (some ⟨bs, 0, none⟩)]] 74) = W2 := ⟨_, rfl⟩
  obtain ⟨W3, hW3⟩ : ∃ W3, W2.alloc (.cells #[.int .i64 0] 3) = W3 := ⟨_, rfl⟩
  obtain ⟨W4, hW4⟩ : ∃ W4, W3.alloc (.cells #[.slice none 0 0] 24) = W4 := ⟨_, rfl⟩
  have hz1 : W1.heap.size = W.heap.size + 1 := by rw [← hW1]; exact World.size_alloc _ _
  have hz2 : W2.heap.size = W.heap.size + 1 + 1 := by rw [← hW2, World.size_alloc, hz1]
  have hz3 : W3.heap.size = W.heap.size + 1 + 1 + 1 := by rw [← hW3, World.size_alloc, hz2]
  have hb1 : Below W.heap.size W W1 := by rw [← hW1]; exact (Below.refl _ _).alloc (Nat.le_refl _) _
  have hb2 : Below W1.heap.size W1 W2 := by rw [← hW2]; exact (Below.refl _ _).alloc (Nat.le_refl _) _
  have hb3 : Below W2.heap.size W2 W3 := by rw [← hW3]; exact (Below.refl _ _).alloc (Nat.le_refl _) _
  have hb4 : Below W3.heap.size W3 W4 := by rw [← hW4]; exact (Below.refl _ _).alloc (Nat.le_refl _) _
  have b14 : Below W1.heap.size W1 W4 := (hb2.trans (hb3.mono hb2.size)).trans (hb4.mono (Nat.le_trans hb2.size hb3.size))
  have b24 : Below W2.heap.size W2 W4 := hb3.trans (hb4.mono hb3.size)
  have b04 : Below W.heap.size W W4 := hb1.trans (b14.mono hb1.size)
  have w1 : Whole W1 W.heap.size 140 #[.pointer (some ⟨q, 0, none⟩)] := by rw [← hW1]; exact heap_alloc_new W _
  have w2 : Whole W2 W1.heap.size 74 #[.func (.func 101) #[] #[.pointer (some ⟨bd, 0, none⟩), .pointer (some ⟨bs, 0, none⟩)]] := by rw [← hW2]; exact heap_alloc_new W1 _
  have w3 : Whole W3 W2.heap.size 3 #[.int .i64 0] := by rw [← hW3]; exact heap_alloc_new W2 _
  have w4 : Whole W4 W3.heap.size 24 #[.slice none 0 0] := by rw [← hW4]; exact heap_alloc_new W3 _
  have h4 : WaysIn W0 W4 q gm gb n IV 100 cs M B r lv left := h.below b04
  have hbs := h.bel.size
  have hml := h.met.lt
  have hbl := h.by'.lt
  have hm4 : SureM W4 W0.heap.size q gm gb W.heap.size W2.heap.size W1.heap.size W3.heap.size bd gd bs n lv.ownBlock (.slice none 0 0) sv p.ins qq [] :=
    ⟨w1.below b14 (by omega), w3.below hb4 (by omega), w2.below b24 (by omega), w4, own_none _ _, hl.below b04, by omega, by omega, by omega, by omega, by omega, by omega, fun e => by have := (oown_lt h.own e).2; omega, fun e => by have := (oown_lt hl.row e).2; omega, ha.s1, ha.s2, ha.s3⟩
  rw [hz1, hz2, hz3] at hm4
  have htot : totI p.ins ≤ 2000 := Nat.le_of_not_lt hS
  have hn2 : n ≤ 2000 := by
    have : p.ins.length ≤ totI p.ins := Nat.le_add_right _ _
    omega
  have hset : ∀ x ∈ p.ins, x.set.length ≤ 2000 - n := fun x hx => by
    have := tot_mem hx
    omega
  obtain ⟨V, hV⟩ : ∃ V, (eachO allM p.ins [(pc, [])] (List.replicate n false) []).2 = V := ⟨_, rfl⟩
  have hvis := each_vis (meets := allM) (I := p.ins) [(pc, [])] (List.replicate n false)
  rw [hV] at hvis
  have hVl : V.length ≤ n := by
    have := nodupLt n (placesI V) hvis.1 (fun k hk => by
      obtain ⟨x, hx, rfl⟩ := List.mem_map.1 hk
      have := hvis.2 x hx
      simpa using this)
    simpa [placesI] using this
  let Cb : CbO := fun W' _ lb vis => ∃ rv sv, SureM W' W0.heap.size q gm gb W.heap.size (W.heap.size + 1 + 1) (W.heap.size + 1) (W.heap.size + 1 + 1 + 1) bd gd bs n lb rv sv p.ins qq (placesI vis)
  have hkeep : KeepC W0 q gm gb n IV 100 Cb := by
    rintro V V' cs cs' M B r lv left lb' vis hv ⟨rv, sv, hc⟩ hbx _ hes _
    exact ⟨rv, sv, hc.estep hv hes⟩
  have hcall : CallC W0 q gm gb n IV 100 p.ins allM (r + 1) 135 #[.pointer (some ⟨W.heap.size, 0, none⟩), .pointer (some ⟨W.heap.size + 1 + 1, 0, none⟩), .pointer (some ⟨W.heap.size + 1, 0, none⟩), .pointer (some ⟨W.heap.size + 1 + 1 + 1, 0, none⟩)] Cb False V := by
    rintro Y cs M B lv left vis x hv ⟨rv, sv, hc⟩ hx ⟨rest, hrest⟩ _
    have hvl : vis.length ≤ n := by
      have := congrArg List.length hrest
      simp only [List.length_append, List.length_cons] at this
      omega
    have h1 : (setsI p.ins (placesI vis)).length ≤ 1000000 := by
      refine Nat.le_trans (sets_few hset _) ?_
      have := few_mul vis.length n hvl hn2
      simpa [placesI] using this
    have h2 : (placesI vis).countP (isHit p.ins) ≤ 1000000 := by
      refine Nat.le_trans List.countP_le_length ?_
      simp only [placesI, List.length_map]
      omega
    refine (psure1_any p hR W0 Y q gm gb n hn IV hI cs M B (r + 1) lv left hv _ _ _ _ bd gd bs rv sv qq (placesI vis) hc h1 h2 (fun x hx => Nat.le_trans (hset x hx) (by omega)) x.1 hx).mono ?_
    rintro e V' ⟨rfl, rv', sv', g1, g2, g3, g4⟩
    refine ⟨by rw [show tstI allM (atI p.ins x.1) = true by simp [tstI, allM]], cs, (g2 q (.inl rfl)).trans hv.box, g4, ⟨g3, g2 gm (.inr (.inl rfl)), g2 gb (.inr (.inr (.inl rfl))), fun k hk => g2 k (.inr (.inr (.inr hk))), fun _ _ => rfl⟩, rv', sv', ?_⟩
    rw [places_app, show placesI [x] = [x.1] from rfl]
    exact g1
  have hE := peach_any p W0 q gm gb n IV _ hn hI hR _ _ eg allM pc hpc r hr Cb False [] hkeep V hV hcall (fun f => f.elim) W4 cs M B lv left h4 ⟨_, sv, hm4⟩
  have HE := Lib.hid hE
  have HW1 := Lib.hid hW1; have HW2 := Lib.hid hW2; have HW3 := Lib.hid hW3; have HW4 := Lib.hid hW4
  have x0 : W4.cell? ⟨W.heap.size, 0, none⟩ = some (.pointer (some ⟨q, 0, none⟩)) := hm4.w.cell 0
  have HR := Lib.hid hR; have HN := Lib.hid hn; have HBS := Lib.hid hbs; have HPC := Lib.hid hpc; have HSET := Lib.hid hset; have HN2 := Lib.hid hn2; have HVL := Lib.hid hVl
  have HV := Lib.hid hV
  clear hE hkeep hcall h hl ha hW1 hW2 hW3 hW4 hb1 hb2 hb3 hb4 b14 b24 b04 w1 w2 w3 w4 h4 hbs hml hbl hm4 hz1 hz2 hz3 htot hn2 hset hvis hVl hV hn hI hr hS
  go_enter Try.func102, Try.ntmps102
  go_upto_region 3 with (fail)
  rw [HW1.out, HW2.out, HW3.out, HW4.out]
  go_wp2_with fail
  refine HE.out.mono ?_
  rintro e W5 ⟨T, vis, hev, rfl, cs5, M5, B5, lv5, left5, h5, ⟨rv, sv5, hm5⟩, -⟩
  have hvV : vis = V := by rw [← HV.out, hev]
  have hgood := good_each HR.out (by rw [HN.out]; exact HPC.out) T vis (by rw [HN.out]; exact hev)
  have m0 : W5.cell? ⟨W.heap.size + 1 + 1, 0, none⟩ = some (.int .i64 (((placesI vis).countP (isHit p.ins) : Nat) : Int)) := hm5.m.cell 0
  have r0 : W5.cell? ⟨W.heap.size + 1 + 1 + 1, 0, none⟩ = some rv := hm5.r.cell 0
  obtain ⟨cn, hcn⟩ : ∃ cn, (placesI vis).countP (isHit p.ins) = cn := ⟨_, rfl⟩
  rw [hcn] at m0 hgood
  have hslen : (setsI p.ins (placesI vis)).length ≤ 1000000 := by
    refine Nat.le_trans (sets_few HSET.out _) ?_
    rw [hvV]
    have := few_mul V.length n HVL.out HN2.out
    simpa [placesI] using this
  have HG := Lib.hid hgood; have H5 := Lib.hid h5; have HM5 := Lib.hid hm5
  have HAP := Lib.hid (papart_any W0.heap.size rv (setsI p.ins (placesI vis)) W5 hm5.row (by have := h5.bel.size; omega) hslen (sets_fit HR.out _))
  have HEND : Hid (∀ b : Bool, (b = true ↔ GoodI p.ins pc) → SureP p W0 q gm gb n IV r bd gd bs qq pc (.returned (.bool b)) W5) := Lib.hid fun b hb =>
    ⟨b, vis, rfl, hb, fun e => hgood.2 (hgood.1.1 (hb.1 e)).1, cs5, M5, B5, lv5, left5, sv5, h5, hm5.lead, ⟨hm5.s1, hm5.s2, hm5.s3⟩⟩
  clear x0 HE hev hgood h5 hm5 hslen hvV hcn
  cases T
  rotate_left
  · go_wp2_with fail
    go_ret
    exact HEND.out false ⟨fun h => (by cases h), fun h => (by have := (HG.out.1.1 h).1; cases this)⟩
  by_cases hc : cn ≤ 1
  rotate_left
  · have dc : decide ((cn : Int) ≤ 1) = false := decide_eq_false (by omega)
    have HC := Lib.hid hc
    clear hc
    go_wp2_with fail
    go_ret
    exact HEND.out false ⟨fun h => (by cases h), fun h => absurd (HG.out.1.1 h).2.1 HC.out⟩
  have dc : decide ((cn : Int) ≤ 1) = true := decide_eq_true (by omega)
  have HC := Lib.hid hc
  clear hc
  obtain ⟨ra, rl, rc, hrv⟩ := orow_slice HM5.out.row
  subst hrv
  go_wp2_with fail
  refine HAP.out.mono ?_
  rintro e W6 ⟨b, rfl, hb, W5', hg, hb6⟩
  have hok : b = true ↔ GoodI p.ins pc := by
    rw [hb, sets_apart HR.out, HG.out.1]
    exact ⟨fun h => ⟨(by first | rfl | trivial), HC.out, h⟩, fun h => h.2.2⟩
  have hkk : ∀ {k : Nat} {ty : TypeId} {cc : Array Value}, Whole W5 k ty cc → ty ≠ 131 → Whole W6 k ty cc := fun hk h1 => (hk.grown hg (orow_ne HM5.out.row hk h1)).below hb6 (hk.grown hg (orow_ne HM5.out.row hk h1)).lt
  have hoo : ∀ {v : Value} {l : List Int}, OwnZ W5 W0.heap.size v l → OwnZ W6 W0.heap.size v l := fun ho => (oown_kept ho fun j hj => hg.block j (oown_lt ho hj).2 (fun e => orow_own HM5.out.row ho e.symm hj)).below hb6
  have hbel : Below W0.heap.size W0 W6 := (H5.out.bel.grown hg H5.out.bel.size (fun j hj => (orow_lt HM5.out.row hj).1)).trans (hb6.mono (Nat.le_trans H5.out.bel.size hg.size))
  have h5 := H5.out
  have h6 : WaysIn W0 W6 q gm gb n IV 100 cs5 M5 B5 (r + 1) lv5 left5 := ⟨hbel, hkk h5.box (by decide), h5.c0, h5.c1, h5.c2, h5.c3, h5.c4, hkk h5.met (by decide), hkk h5.by' (by decide), hoo h5.own, h5.hq, h5.hgm, h5.hgb, h5.tne, h5.ne, h5.lgm, h5.lgb, h5.lenM, h5.lenB, h5.r0, h5.low, h5.bB⟩
  have hl5 := HM5.out.lead
  have hl6 : LeadM W6 W0.heap.size bd gd bs n sv5 (pushAll (outsI p.ins (placesI vis)) qq) := ⟨hkk hl5.box (by decide), hkk hl5.done (by decide), hkk hl5.todo (by decide), hoo hl5.row, hl5.len, hl5.hbd, hl5.hgd, hl5.hbs, hl5.cnt, hl5.lt⟩
  have hfin : SureP p W0 q gm gb n IV r bd gd bs qq pc (.returned (.bool b)) W6 :=
    ⟨b, vis, rfl, hok, fun e => HG.out.2 (by first | rfl | trivial), cs5, M5, B5, lv5, left5, sv5, h6, hl6, ⟨HM5.out.s1, HM5.out.s2, HM5.out.s3⟩⟩
  have HFIN := Lib.hid hfin
  clear hok hkk hoo hbel h5 h6 hl5 hl6 hfin hb hg hb6 m0 r0
  go_wp2_with fail
  go_ret
  exact HFIN.out
end Go.Proofs.Ytnemacejaiifnaa
/- Programs that need no choice: the program's answer, at any program that is not too long. No condition. -/
namespace Go.Proofs.Ytnemacejaiifnaa
open Go Go.RowKit

/-- What onePass tells. -/
def OnePP (p : Pg) (W0 : World) (pc : Nat) (e : Ending) (W' : World) : Prop :=
  ∃ b : Bool, e = .returned (.bool b) ∧ (b = true ↔ ∀ k, ReachI p.ins pc k → GoodI p.ins k) ∧ Below W0.heap.size W0 W'
set_option maxHeartbeats 4000000 in
set_option maxRecDepth 100000 in
theorem ponePass_any (p : Pg) (hR : RightPg p) (hS : ¬ LongPg p) (W0 W : World) (q gm gb n : Nat) (hn : p.ins.length = n) (IV : Value) (hI : Inss W0 IV p.ins) (cs : Array Value) (M B : List Int) (r : Int) (hr : r ≤ 1000) (lv : Value) (left : List Nat) (h : WaysIn W0 W q gm gb n IV 100 cs M B r lv left) :
    Calls Try.prog 54 #[.pointer (some ⟨q, 0, none⟩), .int .i64 (p.start.toNat : Int)] W (OnePP p W0 p.start.toNat) := by
  have hpc : p.start.toNat < n := by rw [← hn]; exact start_lt hR
  have hqb := que_begin hR
  rw [hn] at hqb
  obtain ⟨pc, hpcd⟩ : ∃ pc, p.start.toNat = pc := ⟨_, rfl⟩
  have hend : ∀ done : List Bool, done.length = n → QueI p.ins pc (done, []) → ∀ k, ReachI p.ins pc k → GoodI p.ins k := fun done hl hq => by rw [← hpcd] at hq ⊢; exact que_end hR (by rw [hl, hn]) hq
  rw [hpcd] at hpc hqb ⊢
  clear hpcd
  obtain ⟨IA, ic, hIV⟩ : ∃ A c, IV = .slice A n c := by
    obtain ⟨A, c, e, -⟩ := hI
    exact ⟨A, c, by rw [e, hn]⟩
  subst hIV
  have hnb : n ≤ 10000 := by rw [← hn]; exact hR.2.1
  have hmk := make_bools n (by omega)
  obtain ⟨C, hC⟩ : ∃ C, Array.replicate n (Value.bool false) = C := ⟨_, rfl⟩
  rw [hC] at hmk
  obtain ⟨W1, hW1⟩ : ∃ W1, W.alloc (.cells C 4) = W1 := ⟨_, rfl⟩
  obtain ⟨W2, hW2⟩ : ∃ W2, W1.alloc (.cells #[.slice (some ⟨W.heap.size, 0, none⟩) n n] 105) = W2 := ⟨_, rfl⟩
  obtain ⟨W3, hW3⟩ : ∃ W3, W2.setCell ⟨W.heap.size, pc, none⟩ (.bool true) = W3 := ⟨_, rfl⟩
  obtain ⟨W4, hW4⟩ : ∃ W4, W3.alloc (.cells #[.int .i64 (pc : Int)] 3) = W4 := ⟨_, rfl⟩
  obtain ⟨W5, hW5⟩ : ∃ W5, W4.alloc (.cells #[.slice (some ⟨W3.heap.size, 0, none⟩) 1 1] 38) = W5 := ⟨_, rfl⟩
  have hz1 : W1.heap.size = W.heap.size + 1 := by rw [← hW1]; exact World.size_alloc _ _
  have hz2 : W2.heap.size = W.heap.size + 1 + 1 := by rw [← hW2, World.size_alloc, hz1]
  have hz3 : W3.heap.size = W.heap.size + 1 + 1 := by rw [← hW3, World.size_setCell, hz2]
  have hz4 : W4.heap.size = W.heap.size + 1 + 1 + 1 := by rw [← hW4, World.size_alloc, hz3]
  have hbs := h.bel.size
  have a1 : Whole W1 W.heap.size 4 ((List.replicate n false).map Value.bool).toArray := by
    have e : ((List.replicate n false).map Value.bool).toArray = C := by rw [← hC]; simp
    rw [e, ← hW1]
    exact heap_alloc_new W _
  have a2 : Whole W2 W.heap.size 4 ((List.replicate n false).map Value.bool).toArray := by rw [← hW2]; exact a1.alloc _
  have a3 : Whole W3 W.heap.size 4 (((List.replicate n false).set pc true).map Value.bool).toArray := by
    rw [← hW3, ← obools_set]
    exact a2.store pc _
  have b2 : Whole W2 (W.heap.size + 1) 105 #[.slice (some ⟨W.heap.size, 0, none⟩) n n] := by rw [← hW2, ← hz1]; exact heap_alloc_new W1 _
  have b3 : Whole W3 (W.heap.size + 1) 105 #[.slice (some ⟨W.heap.size, 0, none⟩) n n] := by rw [← hW3]; exact b2.far (by omega) _ _
  have hb4 : Below W3.heap.size W3 W4 := by rw [← hW4]; exact (Below.refl _ _).alloc (Nat.le_refl _) _
  have hb5 : Below W4.heap.size W4 W5 := by rw [← hW5]; exact (Below.refl _ _).alloc (Nat.le_refl _) _
  have hb35 : Below W3.heap.size W3 W5 := hb4.trans (hb5.mono hb4.size)
  have hrow : OwnZ W5 W0.heap.size (.slice (some ⟨W3.heap.size, 0, none⟩) 1 1) (natsO [pc]) := by
    have := ownZ_lit W3 W0.heap.size (by omega) [(pc : Int)] 1 #[.int .i64 (pc : Int)] rfl rfl (by unfold maxLen; omega) (by unfold R64; simp; omega)
    rw [hW4] at this
    exact this.below hb5
  have c5 : Whole W5 (W3.heap.size + 1) 38 #[.slice (some ⟨W3.heap.size, 0, none⟩) 1 1] := by rw [← hW5, show W3.heap.size + 1 = W4.heap.size by omega]; exact heap_alloc_new W4 _
  have hl5 : LeadM W5 W0.heap.size (W.heap.size + 1) W.heap.size (W3.heap.size + 1) n (.slice (some ⟨W3.heap.size, 0, none⟩) 1 1) ((List.replicate n false).set pc true, [pc]) := by
    refine ⟨b3.below hb35 (by omega), a3.below hb35 (by omega), c5, hrow, by simp, by omega, by omega, by omega, ?_, by simpa using hpc⟩
    have := newB_count (seen := List.replicate n false) (pc := pc) (by simp [newB, hpc])
    rw [List.count_replicate_self] at this
    simp only [List.length_cons, List.length_nil]
    omega
  have hb1 : Below W.heap.size W W1 := by rw [← hW1]; exact (Below.refl _ _).alloc (Nat.le_refl _) _
  have hb2 : Below W.heap.size W W2 := by rw [← hW2]; exact hb1.alloc (by omega) _
  have hb3 : Below W.heap.size W W3 := by rw [← hW3]; exact hb2.setCell (p := ⟨W.heap.size, pc, none⟩) (Nat.le_refl _) _
  have h5 := h.below (hb3.trans (hb35.mono (by omega)))
  have ha5 : SvApart (.slice (some ⟨W3.heap.size, 0, none⟩) 1 1) gm gb lv.ownBlock := by
    refine ⟨fun e => ?_, fun e => ?_, fun j e1 e2 => ?_⟩
    · have h1 : W3.heap.size = gm := by simpa [Value.ownBlock] using e
      have := h.met.lt
      omega
    · have h1 : W3.heap.size = gb := by simpa [Value.ownBlock] using e
      have := h.by'.lt
      omega
    · have h1 : W3.heap.size = j := by simpa [Value.ownBlock] using e1
      have := (oown_lt h.own e2).2
      omega
  have q0 : W.cell? ⟨q, 0, none⟩ = some (.slice IA n ic) := (h.box.cell 0).trans h.c0
  have s1 : W2.cell? ⟨W.heap.size + 1, 0, none⟩ = some (.slice (some ⟨W.heap.size, 0, none⟩) n n) := b2.cell 0
  have d1 : W2.cell? ⟨W.heap.size, pc, none⟩ = some (.bool false) := by
    have := obools_at a2 pc (by simpa using hpc)
    simpa using this
  have z1 := a2.free pc
  have hpz : (pc : Int) < (n : Int) := by omega
  have HW1 := Lib.hid hW1; have HW2 := Lib.hid hW2; have HW3 := Lib.hid hW3; have HW4 := Lib.hid hW4; have HW5 := Lib.hid hW5
  have H5 := Lib.hid h5; have HL5 := Lib.hid hl5; have HA5 := Lib.hid ha5; have HQB := Lib.hid hqb; have HEND : Hid (∀ done : List Bool, done.length = n → QueI p.ins pc (done, []) → ∀ k, ReachI p.ins pc k → GoodI p.ins k) := Lib.hid hend
  have HR := Lib.hid hR; have HS := Lib.hid hS; have HN := Lib.hid hn; have HI := Lib.hid hI; have HNB := Lib.hid hnb; have HRB := Lib.hid hr; have HPC := Lib.hid hpc
  clear hR hS hn hI hr h hpc hqb hend hnb hC hW1 hW2 hW3 hW4 hW5 hz1 hz2 hz3 hz4 hbs a1 a2 a3 b2 b3 hb4 hb5 hb35 hrow c5 hl5 hb1 hb2 hb3 h5 ha5
  go_enter Try.func54, Try.ntmps54
  go_upto_region 2 with (fail)
  rw [HW1.out, HW2.out]
  clear hmk q0
  go_upto_region 3 with (fail)
  rw [HW3.out]
  clear s1 d1 z1
  go_wp2_with fail
  rw [HW4.out, HW5.out]
  go_loopg [] (n + 2) (fun gk wr => ∃ cs M B r' lv left sv qq, WaysIn W0 wr q gm gb n (.slice IA n ic) 100 cs M B r' lv left ∧ LeadM wr W0.heap.size (W.heap.size + 1) W.heap.size (W3.heap.size + 1) n sv qq ∧ SvApart sv gm gb lv.ownBlock ∧ QueI p.ins pc qq ∧ qq.1.count false + qq.2.length < gk ∧ gk ≤ n + 2 ∧ r' + gk ≤ 1000 + n + 2)
  case atStart =>
    refine ⟨cs, M, B, r, lv, left, _, _, H5.out, HL5.out, HA5.out, HQB.out, ?_, Nat.le_refl _, ?_⟩
    · have := HL5.out.cnt
      simp only at this ⊢
      omega
    · have := HRB.out
      omega
  case round =>
    clear HL5 HA5 HQB H5
    obtain ⟨cs, M, B, r', lv, left, sv, ⟨done, todo⟩, h, hl, ha, hq, hgk, hgn, hrg⟩ := hrel
    have H := Lib.hid h; have HL := Lib.hid hl; have HA := Lib.hid ha; have HQ := Lib.hid hq; have HGK := Lib.hid hgk; have HGN := Lib.hid hgn; have HRG := Lib.hid hrg
    have s0 : wr.cell? ⟨W3.heap.size + 1, 0, none⟩ = some sv := hl.todo.cell 0
    rcases List.eq_nil_or_concat todo with e0 | ⟨init, fm, e0⟩
    · subst e0
      obtain ⟨sa, sc, hsv⟩ := own_slice hl.row.1
      have hl0 : (natsO ((done, ([] : List Nat)).2)).length = 0 := rfl
      rw [hl0] at hsv
      subst hsv
      clear h hl ha hq hgk hgn hrg hl0
      go_wp2_with fail
      go_ret
      exact ⟨true, rfl, ⟨fun _ => HEND.out done HL.out.len HQ.out, fun _ => rfl⟩, H.out.bel⟩
    · rw [List.concat_eq_append] at e0
      subst e0
      obtain ⟨k, hk⟩ : ∃ k, init.length = k := ⟨_, rfl⟩
      have hrl : (natsO init).length = k := by rw [natsO_len, hk]
      have how : OwnZ wr W0.heap.size sv (natsO init ++ [(fm : Int)]) := by
        have := hl.row
        rw [natsO_app] at this
        exact this
      obtain ⟨lg, lc, hlv, hkc⟩ : ∃ g c, sv = .slice (some ⟨g, 0, none⟩) (k + 1) c ∧ k + 1 ≤ c := by
        rcases own_sliceZ how.1 with ⟨-, h0⟩ | ⟨g, c, h1, h2, -⟩
        · simp at h0
        · rw [List.length_append, hrl] at h1 h2
          exact ⟨g, c, h1, h2⟩
      subst hlv
      obtain ⟨d0, -⟩ := how.at' k (by rw [List.length_append, hrl]; simp)
      have hgt : (natsO init ++ [(fm : Int)])[k]'(by rw [List.length_append, hrl]; simp) = (fm : Int) := by
        rw [List.getElem_append_right (by omega)]
        simp [hrl]
      rw [hgt] at d0
      have hkc2 : k ≤ lc := by omega
      have hkn : k ≤ 1000000 := by have := HNB.out; simp only [List.length_append, List.length_cons, List.length_nil] at hgk; omega
      have hwk : IntKind.i64.wrap (((k + 1 : Nat) : Int) - 1) = (k : Int) := by rw [ow_wrap _ ⟨by omega, by omega⟩]; omega
      have hwk2 : wrap64 ((k : Int) + 1 - 1) = (k : Int) := by rw [IntWalk.wrap64_in _ ⟨by omega, by omega⟩]; omega
      have hfm : fm < n := hl.lt fm (by simp)
      have z0 := hl.todo.free 0
      have htd : Whole (wr.setCell ⟨W3.heap.size + 1, 0, none⟩ (.slice (some ⟨lg, 0, none⟩) k lc)) (W3.heap.size + 1) 38 #[.slice (some ⟨lg, 0, none⟩) k lc] := by
        have := hl.todo.store 0 (.slice (some ⟨lg, 0, none⟩) k lc)
        simpa using this
      have hrow : OwnZ wr W0.heap.size (.slice (some ⟨lg, 0, none⟩) k lc) (natsO init) := by
        have := how.take k (by rw [List.length_append, hrl]; omega)
        rwa [List.take_append_of_le_length (by omega), List.take_of_length_le (by omega)] at this
      have hl2 : LeadM (wr.setCell ⟨W3.heap.size + 1, 0, none⟩ (.slice (some ⟨lg, 0, none⟩) k lc)) W0.heap.size (W.heap.size + 1) W.heap.size (W3.heap.size + 1) n (.slice (some ⟨lg, 0, none⟩) k lc) (done, init) :=
        ⟨hl.box.far (ne_types hl.box hl.todo (by decide)) _ _, hl.done.far (ne_types hl.done hl.todo (by decide)) _ _, htd, oown_set hrow _ 0 _ (own_whole_ne hrow.1 hl.todo (by decide)), hl.len, hl.hbd, hl.hgd, hl.hbs, by have := hl.cnt; simp only [List.length_append, List.length_cons, List.length_nil] at this ⊢; omega, fun i hi => hl.lt i (by simp [hi])⟩
      have hneq := ne_types h.box hl.todo (by decide)
      have hnem := ne_types h.met hl.todo (by decide)
      have hneb := ne_types h.by' hl.todo (by decide)
      have h2 : WaysIn W0 (wr.setCell ⟨W3.heap.size + 1, 0, none⟩ (.slice (some ⟨lg, 0, none⟩) k lc)) q gm gb n (.slice IA n ic) 100 cs M B r' lv left :=
        ⟨h.bel.setCell (p := ⟨W3.heap.size + 1, 0, none⟩) hl.hbs _, h.box.far hneq _ _, h.c0, h.c1, h.c2, h.c3, h.c4, h.met.far hnem _ _, h.by'.far hneb _ _, oown_set h.own _ 0 _ (own_whole_ne h.own.1 hl.todo (by decide)), h.hq, h.hgm, h.hgb, h.tne, h.ne, h.lgm, h.lgb, h.lenM, h.lenB, h.r0, h.low, h.bB⟩
      have ha2 : SvApart (.slice (some ⟨lg, 0, none⟩) k lc) gm gb lv.ownBlock := ⟨ha.s1, ha.s2, ha.s3⟩
      have hr9 : r' ≤ 1000000000 := by have := HNB.out; omega
      have HSU := Lib.hid (psure_any p HR.out HS.out W0 _ q gm gb n HN.out _ HI.out cs M B r' hr9 lv left h2 (W.heap.size + 1) W.heap.size (W3.heap.size + 1) _ _ hl2 ha2 fm hfm)
      have HFM := Lib.hid hfm; have HK := Lib.hid hk
      clear h hl ha hq hgk hgn hrg hrl how hgt hk hkc hfm htd hrow hl2 hneq hnem hneb h2 ha2 hr9
      go_upto_region 9 with (fail)
      go_wp2_with fail
      refine HSU.out.mono ?_
      rintro e W7 ⟨b, vis, rfl, hb, hu, cs7, M7, B7, lv7, left7, sv7, h7, hl7, ha7⟩
      have H7 := Lib.hid h7; have HL7 := Lib.hid hl7; have HA7 := Lib.hid ha7
      cases b
      · have HNG : Hid (¬ GoodI p.ins fm) := Lib.hid fun hg => (by have := hb.2 hg; cases this)
        clear h7 hl7 ha7 hb hu HSU s0 d0 z0 hwk hwk2 hkc2
        go_wp2_with fail
        go_ret
        refine ⟨false, rfl, ⟨fun e => (by cases e), fun hall => ?_⟩, H7.out.bel⟩
        have ht := HQ.out.todo fm (by simp)
        exact absurd (hall fm (HQ.out.reach fm ht.1 ht.2)) HNG.out
      · have hg := hb.1 rfl
        have hq7 := que_step HQ.out (pc := fm) (todo := init) (by simp) (fun i hi => by
          rcases List.mem_append.1 hi with hi | hi
          · exact .inr hi
          · exact .inl (by simpa using hi)) (fun i hi => by simp [hi]) hg (hu rfl)
        have HQ7 := Lib.hid hq7
        clear h7 hl7 ha7 hb hu HSU s0 d0 z0 hwk hwk2 hkc2 hg hq7
        go_wp2_with fail
        have hgk := HGK.out
        have hgn := HGN.out
        have hrg := HRG.out
        simp only [List.length_append, List.length_cons, List.length_nil] at hgk
        go_roundg (gk - 1)
        case measure => omega
        case rel =>
          refine ⟨cs7, M7, B7, r' + 1, lv7, left7, sv7, _, H7.out, HL7.out, HA7.out, HQ7.out, ?_, by omega, by omega⟩
          rw [pushAll_count]
          simp only
          omega
set_option maxHeartbeats 4000000 in
set_option maxRecDepth 100000 in
/-- Admits, at any program that is not too long. -/
theorem padmits_any (p : Pg) (v : Value) (w : World) (h : PgV w p v) (hS : ¬ LongPg p) : Calls Try.prog 26 #[v] w (SaysG (OneI p) w) := by
  have H0 := Lib.hid h
  obtain ⟨A, n, c, hn, rfl, hI, hs, hc, hnb⟩ := h.opened
  obtain ⟨w1, hw1⟩ : ∃ w1, w.alloc (.cells #[.slice A n c, .int .i64 p.start, .int .i64 p.caps] 58) = w1 := ⟨_, rfl⟩
  obtain ⟨hb1, e0, e1, e2, hz1⟩ := box3_new w _ _ _ _ hw1
  have HCK := Lib.hid (pcheck_any p _ w1 (H0.out.below hb1))
  have HF : Hid (∀ W, Below w1.heap.size w1 W → W.cell? ⟨w.heap.size, 0, none⟩ = some (.slice A n c) ∧ W.cell? ⟨w.heap.size, 1, none⟩ = some (.int .i64 p.start) ∧ W.cell? ⟨w.heap.size, 2, none⟩ = some (.int .i64 p.caps)) := Lib.hid fun W hW => ⟨cell_on hW e0, cell_on hW e1, cell_on hW e2⟩
  have HIS := Lib.hid hI; have HB1 := Lib.hid hb1; have HW1 := Lib.hid hw1; have HN := Lib.hid hn; have HS := Lib.hid hS
  clear h hI hs hc hw1 hb1 hz1 hn hS
  go_enter Try.func26, Try.ntmps26
  go_upto_region 1 with (fail)
  rw [HW1.out]
  go_wp2_with fail
  refine HCK.out.mono ?_
  rintro e w2 ⟨rr, rfl, hr, hb2⟩
  have HB2 := Lib.hid hb2
  obtain ⟨q0, q1, q2⟩ := HF.out w2 hb2
  clear e0 e1 e2 HCK
  rcases hr with ⟨rfl, hR⟩ | ⟨rfl, hR⟩
  rotate_left
  · have HR := Lib.hid hR
    clear hR hb2
    go_wp2_with fail
    go_ret
    exact ⟨false, rfl, ⟨fun h => (by cases h), fun h => absurd h.1 HR.out⟩, below_steps HB1.out HB2.out⟩
  have hnn : n ≤ 10000 := by rw [← HN.out]; exact hR.2.1
  have hst := start_lt hR
  have hs0 : p.start = (p.start.toNat : Int) := by have := hR.2.2.1.1; omega
  rw [HN.out] at hst
  have HTH := Lib.hid (pthrough_any A n c hnn w2)
  have HR := Lib.hid hR; have HNN := Lib.hid hnn; have HST := Lib.hid hst; have HS0 := Lib.hid hs0
  clear hR hnn hst hs0 hb2
  go_wp2_with fail
  refine HTH.out.mono ?_
  rintro e w3 ⟨gm, gb, rfl, hgm, hgb, hne, hlm, hlb, hb3⟩
  obtain ⟨w4, hw4⟩ : ∃ w4, w3.alloc (.cells #[.slice A n c, .slice (some ⟨gm, 0, none⟩) n n, .slice (some ⟨gb, 0, none⟩) n n, .int .i64 0, .slice none 0 0] 100) = w4 := ⟨_, rfl⟩
  have hb4 : Below w3.heap.size w3 w4 := by rw [← hw4]; exact (Below.refl _ _).alloc (Nat.le_refl _) _
  have hq4 : Whole w4 w3.heap.size 100 #[.slice A n c, .slice (some ⟨gm, 0, none⟩) n n, .slice (some ⟨gb, 0, none⟩) n n, .int .i64 0, .slice none 0 0] := by rw [← hw4]; exact heap_alloc_new w3 _
  have hB4 : Below w1.heap.size w1 w4 := below_steps (below_steps HB2.out hb3) hb4
  have hb24 : Below w2.heap.size w2 w4 := below_steps hb3 hb4
  have hwI : Inss w1 (.slice A n c) p.ins := HIS.out.below HB1.out
  have hw24 := HB2.out.size
  have hways : WaysIn w1 w4 w3.heap.size gm gb n (.slice A n c) 100 #[.slice A n c, .slice (some ⟨gm, 0, none⟩) n n, .slice (some ⟨gb, 0, none⟩) n n, .int .i64 0, .slice none 0 0] (List.replicate n 0) (List.replicate n 0) 0 (.slice none 0 0) [] :=
    ⟨hB4, hq4, rfl, rfl, rfl, rfl, rfl, hgm.below hb4 hgm.lt, hgb.below hb4 hgb.lt, ownZ_none _ _, by have := hb3.size; omega, by omega, by omega, by decide, hne, by simp [Value.ownBlock], by simp [Value.ownBlock], by simp, by simp, Int.le_refl _, fun x hx => by rw [List.eq_of_mem_replicate hx]; omega, fun x hx => by rw [List.eq_of_mem_replicate hx]; omega⟩
  have HAN := Lib.hid (panch_any p HR.out w1 w4 w3.heap.size gm gb n HN.out _ hwI 100 (by decide) (by decide) _ _ _ 0 (by omega) _ _ hways p.start.toNat HST.out)
  have HB4 := Lib.hid hB4; have HW4 := Lib.hid hw4; have HWI := Lib.hid hwI; have HB24 := Lib.hid (below_steps HB2.out hb24)
  obtain ⟨q0, q1, q2⟩ := HF.out w4 HB4.out
  obtain ⟨s0, hs0⟩ : ∃ s0, p.start.toNat = s0 := ⟨_, rfl⟩
  have hps : p.start = (s0 : Int) := by rw [← hs0]; exact HS0.out
  rw [hs0] at HAN
  rw [hps] at q1
  have HONE := Lib.hid fun (W' : World) (cs : Array Value) (M B : List Int) (lv : Value) (left : List Nat) (hw : WaysIn w1 W' w3.heap.size gm gb n (.slice A n c) 100 cs M B (0 + 1) lv left) => ponePass_any p HR.out HS.out w1 W' w3.heap.size gm gb n HN.out _ hwI cs M B (0 + 1) (by omega) lv left hw
  rw [hs0] at HONE
  have HS0' := Lib.hid hs0; have HPS := Lib.hid hps
  clear hgm hgb hne hlm hlb hb3 hw4 hb4 hq4 hB4 hb24 hwI hw24 hways HTH hs0 hps HS0
  go_upto_region 4 with (fail)
  rw [HW4.out]
  clear q0 q2
  go_wp2_with fail
  refine HAN.out.mono ?_
  rintro e w5 ⟨T, vis, hev, rfl, cs5, M5, B5, lv5, left5, h5⟩
  obtain ⟨L, hL⟩ : ∃ L, looseL p.ins (placesI vis) = L := ⟨_, rfl⟩
  rw [hL]
  have hl2 : L = true ↔ ∃ x ∈ vis, isHit p.ins x.1 = true ∨ isSet p.ins x.1 = true := by
    rw [← hL]
    unfold looseL placesI
    rw [List.any_map, List.any_eq_true]
    simp
  obtain ⟨-, q1', -⟩ := HF.out w5 h5.bel
  rw [HPS.out] at q1'
  have hone := HONE.out w5 cs5 M5 B5 lv5 left5 h5
  have hnl : T = false → (LooseI p.ins s0 ↔ L = true) := fun ht => by
    rw [hl2, ← HS0'.out]
    exact loose_each T vis (by rw [HS0'.out, HN.out]; exact hev) ht
  have htw : T = true → ¬ GoodI p.ins s0 := fun ht => by
    rw [← HS0'.out]
    exact twice_each HR.out vis (by rw [HS0'.out, HN.out, ← ht]; exact hev)
  have HNL := Lib.hid hnl; have HTW := Lib.hid htw; have HO := Lib.hid hone; have HB5 := Lib.hid (below_steps HB1.out h5.bel)
  have HRS : Hid (ReachI p.ins s0 s0) := Lib.hid .start
  have HOI : Hid (OneI p ↔ ¬ LooseI p.ins s0 ∧ ∀ k, ReachI p.ins s0 k → GoodI p.ins k) := Lib.hid (by
    unfold OneI
    rw [HS0'.out]
    exact ⟨fun h => h.2, fun h => ⟨HR.out, h⟩⟩)
  clear hev h5 hl2 hone hnl htw HAN HONE q1 hL
  cases L
  rotate_left
  · have HNO : Hid (¬ OneI p) := Lib.hid fun h => by
      have h2 := HOI.out.1 h
      cases T
      · exact h2.1 ((HNL.out rfl).2 rfl)
      · exact HTW.out rfl (h2.2 s0 HRS.out)
    clear HNL HTW
    go_wp2_with fail
    go_ret
    exact ⟨false, rfl, ⟨fun h => (by cases h), fun h => absurd h HNO.out⟩, HB5.out⟩
  · have HLF : Hid ((∀ k, ReachI p.ins s0 k → GoodI p.ins k) → ¬ LooseI p.ins s0) := Lib.hid fun hall hl => by
      cases T
      · have := (HNL.out rfl).1 hl
        cases this
      · exact HTW.out rfl (hall s0 HRS.out)
    clear HNL HTW
    go_wp2_with fail
    refine HO.out.mono ?_
    rintro e w6 ⟨b, rfl, hb, hb6⟩
    have HB6 := Lib.hid (below_steps HB1.out hb6)
    have HBO : Hid (b = true ↔ OneI p) := Lib.hid ⟨fun e => HOI.out.2 ⟨HLF.out (hb.1 e), hb.1 e⟩, fun h => hb.2 (HOI.out.1 h).2⟩
    clear hb hb6 q1'
    go_wp2_with fail
    go_ret
    exact ⟨b, rfl, HBO.out, HB6.out⟩
end Go.Proofs.Ytnemacejaiifnaa
/- The document's apart: have the sets of some instructions no rune in common? No condition. -/
namespace Go.Proofs.Ytnemacejaiifnaa
open Go Go.RowKit

theorem orow_form {W : World} {B : Nat} {v : Value} {l : List (Int × Int)} (h : OwnR W B v l) : ∃ a n c, v = .slice a n c ∧ n = l.length := by
  rcases own_slice2 h.1 with ⟨e, h0⟩ | ⟨g, c, e, -⟩
  · exact ⟨none, 0, 0, e, h0.symm⟩
  · exact ⟨_, _, c, e, rfl⟩
theorem right_none {k : List (Int × Int)} (h : RightR k) (hn : ∀ c, ¬ HasR k c) : k = [] := by
  rcases k with _ | ⟨r, k⟩
  · rfl
  · obtain ⟨h1, h2, h3, -⟩ := h
    exact absurd ⟨h1, by omega, r, List.mem_cons_self .., Int.le_refl _, h2⟩ (hn r.1)
theorem apartI_iff (I : List Ins) (L : List Nat) : ApartI I L ↔ ∀ a b (hb : b < L.length) (hab : a < b), ApartR (atI I L[b]).set (atI I L[a]).set := by
  unfold ApartI
  rw [List.pairwise_iff_getElem]
  constructor
  · intro h a b hb hab c hc
    exact h a b (by omega) hb hab c ⟨hc.2, hc.1⟩
  · intro h a b ha hb hab c hc
    exact h a b hb hab c ⟨hc.2, hc.1⟩
set_option maxHeartbeats 4000000 in
set_option maxRecDepth 100000 in
theorem rapart_any (p : Pg) (L : List Nat) (hL : ∀ k ∈ L, k < p.ins.length) (v u : Value) (w : World) (h : PgV w p v) (g : Zs w u (natsO L)) (hset : ∀ x ∈ p.ins, x.set.length ≤ 1000000) :
    Calls Try.prog 57 #[v, u] w (SaysG (ApartI p.ins L) w) := by
  have H0 := Lib.hid h
  obtain ⟨A, n, pc, hn, rfl, hI, hs, hc, hnb⟩ := h.opened
  obtain ⟨w1, hw1⟩ : ∃ w1, w.alloc (.cells #[.slice A n pc, .int .i64 p.start, .int .i64 p.caps] 58) = w1 := ⟨_, rfl⟩
  obtain ⟨hb1, e0, e1, e2, hz1⟩ := box3_new w _ _ _ _ hw1
  obtain ⟨LA, lc, hu, hlc, hlm, -⟩ := id g
  obtain ⟨m, hm⟩ : ∃ m, L.length = m := ⟨_, rfl⟩
  have hml : (natsO L).length = m := by rw [natsO_len, hm]
  rw [hml] at hu hlc
  subst hu
  have hmb : m ≤ 9223372036854775807 := by unfold maxLen at hlm; omega
  have HG1 := Lib.hid (g.below hb1)
  have HIS := Lib.hid (hI.below hb1); have HB1 := Lib.hid hb1; have HW1 := Lib.hid hw1; have HN := Lib.hid hn; have HM := Lib.hid hm; have HL := Lib.hid hL; have HSET := Lib.hid hset
  have HE0 : Hid (∀ W, Below w1.heap.size w1 W → W.cell? ⟨w.heap.size, 0, none⟩ = some (.slice A n pc)) := Lib.hid fun W hW => cell_on hW e0
  clear h g hI hs hc hw1 hz1 hn hml hm hlm hlc hL hset hb1 e0 e1 e2 H0
  go_enter Try.func57, Try.ntmps57
  go_upto_region 1 with (fail)
  rw [HW1.out]
  go_wp2_with fail
  go_loopw [5] (fun vi wr => ∃ i : Nat, i ≤ m ∧ vi = .int .i64 i ∧ Below w1.heap.size w1 wr ∧ ∀ a b (hb : b < L.length) (hab : a < b), b < i → ApartR (atI p.ins L[b]).set (atI p.ins L[a]).set) (fun vi _ => m - (intOf vi).toNat)
  case atStart => exact ⟨0, Nat.zero_le _, rfl, Below.refl _ _, fun a b _ _ h => by omega⟩
  case round =>
    obtain ⟨i, hi, rfl, hB, hall⟩ := hrel
    have HB0 := Lib.hid hB; have HALL := Lib.hid hall
    clear hB hall
    by_cases him : i < m
    rotate_left
    · have hz : ¬ (i : Int) < (m : Int) := by omega
      have HIM := Lib.hid him
      clear him hi
      go_wp2_with fail
      go_ret
      exact ⟨true, rfl, ⟨fun _ => (apartI_iff p.ins L).2 fun a b hb hab => HALL.out a b hb hab (by have := HIM.out; have := HM.out; omega), fun _ => rfl⟩, below_steps HB1.out HB0.out⟩
    have hz : (i : Int) < (m : Int) := by omega
    have HI := Lib.hid hi; have HIM := Lib.hid him
    clear hi him
    go_wp2_with fail
    go_loopw [6] (fun vj wr => ∃ j : Nat, j ≤ i ∧ vj = .int .i64 j ∧ Below w1.heap.size w1 wr ∧ ∀ a (ha : i < L.length) (hai : a < i), a < j → ApartR (atI p.ins L[i]).set (atI p.ins L[a]).set) (fun vj _ => i - (intOf vj).toNat)
    case atStart => exact ⟨0, Nat.zero_le _, rfl, HB0.out, fun a _ _ h => by omega⟩
    case round =>
      obtain ⟨j, hj, rfl, hB2, hin⟩ := hrel
      have HB := Lib.hid hB2; have HIN := Lib.hid hin
      clear hB2 hin
      by_cases hji : j < i
      rotate_left
      · have hzj : ¬ (j : Int) < (i : Int) := by omega
        have HJI := Lib.hid hji
        have hib : i ≤ 9223372036854775806 := by have := HIM.out; omega
        clear hji hj
        go_wp2_with fail
        go_roundw
        case rel =>
          refine ⟨i + 1, HIM.out, by go_num, HB.out, fun a b hb hab hbi => ?_⟩
          by_cases hbi2 : b < i
          · exact HALL.out a b hb hab hbi2
          · obtain rfl : b = i := by omega
            exact HIN.out a hb hab (by have := HJI.out; omega)
        case measure => simp [intOf]; have := HIM.out; omega
      have hzj : (j : Int) < (i : Int) := by omega
      have hil : i < L.length := by rw [HM.out]; exact HIM.out
      have hjl : j < L.length := by omega
      obtain ⟨x, hx⟩ : ∃ x, L[i] = x := ⟨_, rfl⟩
      obtain ⟨y, hy⟩ : ∃ y, L[j] = y := ⟨_, rfl⟩
      have hxn : x < p.ins.length := HL.out x (by rw [← hx]; exact List.getElem_mem hil)
      have hyn : y < p.ins.length := HL.out y (by rw [← hy]; exact List.getElem_mem hjl)
      obtain ⟨pb, po, xi, xa, xl, xc, hA, hxi, hxm, hxl, hxat, hxF, hxR, -, -⟩ := HIS.out.at' x hxn
      obtain ⟨pb', po', yi, ya, yl, yc, hA', hyi, hym, hyl, hyat, hyF, hyR, -, -⟩ := HIS.out.at' y hyn
      subst hA
      injection hA' with hA'
      injection hA' with hA1 hA2
      subst hA1 hA2
      obtain ⟨lb, lo, x', hLA, hx1, -, hxc, -⟩ := HG1.out.at' i (by rw [natsO_len]; exact hil)
      obtain ⟨lb', lo', y', hLA', hy1, -, hyc, -⟩ := HG1.out.at' j (by rw [natsO_len]; exact hjl)
      subst hLA
      injection hLA' with hLA'
      injection hLA' with hL1 hL2
      subst hL1 hL2
      have hx2 : x' = (x : Int) := by rw [← hx1, ← hx]; simp [natsO]
      have hy2 : y' = (y : Int) := by rw [← hy1, ← hy]; simp [natsO]
      subst hx2 hy2
      have hxz : (x : Int) < (n : Int) := by rw [← HN.out]; omega
      have hyz : (y : Int) < (n : Int) := by rw [← HN.out]; omega
      have hjz : (j : Int) < (m : Int) := by omega
      have HCELL : Hid (∀ W, Below w1.heap.size w1 W → W.cell? ⟨w.heap.size, 0, none⟩ = some (.slice (some ⟨pb, po, none⟩) n pc) ∧ W.cell? ⟨lb, lo + i, none⟩ = some (.int .i64 (x : Int)) ∧ W.cell? ⟨lb, lo + j, none⟩ = some (.int .i64 (y : Int)) ∧ W.cell? ⟨pb, po + x * 5 + 3, none⟩ = some (.slice xa xl xc) ∧ W.cell? ⟨pb, po + y * 5 + 3, none⟩ = some (.slice ya yl yc)) :=
        Lib.hid fun W hW => ⟨HE0.out W hW, cell_on hW hxc, cell_on hW hyc, cell_on hW hxF.2.2.2.1, cell_on hW hyF.2.2.2.1⟩
      obtain ⟨c0, c1, c2, c3, c4⟩ := HCELL.out wr.drew HB.out.drew
      have hxsl : xi.set.length ≤ 1099511627776 := Nat.le_trans (HSET.out xi hxm) (by omega)
      have hysl : yi.set.length ≤ 1099511627776 := Nat.le_trans (HSET.out yi hym) (by omega)
      have HME := Lib.hid (rmeet_any (.slice xa xl xc) (.slice ya yl yc) xi.set yi.set wr.drew (by rw [← hxl] at hxR ⊢; exact hxR.below (HB.out.drew)) (by rw [← hyl] at hyR ⊢; exact hyR.below (HB.out.drew)) hxsl hysl)
      have HX := Lib.hid hx; have HY := Lib.hid hy; have HXA := Lib.hid hxat; have HYA := Lib.hid hyat; have HJI := Lib.hid hji; have HIL := Lib.hid hil; have HJL := Lib.hid hjl
      have hib : i ≤ 9223372036854775806 := by have := HIM.out; omega
      clear hx hy hxn hyn hxi hyi hxm hym hxl hyl hxat hyat hxF hyF hxR hyR hx1 hy1 hxc hyc hxsl hysl hji hj
      go_wp2_with fail
      refine wp_region_held_drew (S := fun w' => (w'.cell? ⟨w.heap.size, 0, none⟩ = some (.slice (some ⟨pb, po, none⟩) n pc) ∧ w'.cell? ⟨lb, lo + i, none⟩ = some (.int .i64 (x : Int)) ∧ w'.cell? ⟨lb, lo + j, none⟩ = some (.int .i64 (y : Int)) ∧ w'.cell? ⟨pb, po + x * 5 + 3, none⟩ = some (.slice xa xl xc) ∧ w'.cell? ⟨pb, po + y * 5 + 3, none⟩ = some (.slice ya yl yc))) (by kernel_rfl) (⟨c0, c1, c2, c3, c4⟩) (fun hHeld => ?_)
      refine wpAnyH_take (i := 0) (oi := _) (v := ?_) rfl (by kernel_rfl) (by kernel_rfl) (by kernel_rfl) (fun _ _ _ h => h) (Or.inl ⟨by rfl, ?_⟩) hHeld ?_
      rotate_left 1
      · (intro w hSw; (try dsimp only at hSw); have e0 := hSw.1; have e1 := hSw.2.1; have e2 := hSw.2.2.1; have e3 := hSw.2.2.2.1; have e4 := hSw.2.2.2.2; go_simp; (try with_reducible rfl))
      try simp only [List.getElem_toArray, List.getElem_cons_zero, Act.put, List.setIfInBounds_toArray, List.set_cons_zero, List.set_cons_succ]
      refine wpAnyH_take (i := 1) (oi := _) (v := ?_) rfl (by kernel_rfl) (by kernel_rfl) (by kernel_rfl) (fun _ _ _ h => h) (Or.inl ⟨by rfl, ?_⟩) hHeld ?_
      rotate_left 1
      · (intro w hSw; (try dsimp only at hSw); have e0 := hSw.1; have e1 := hSw.2.1; have e2 := hSw.2.2.1; have e3 := hSw.2.2.2.1; have e4 := hSw.2.2.2.2; go_simp; (try with_reducible rfl))
      try simp only [List.getElem_toArray, List.getElem_cons_zero, List.getElem_cons_succ, Act.put, List.setIfInBounds_toArray, List.set_cons_zero, List.set_cons_succ]
      refine wpAnyH_take (i := 2) (oi := _) (v := ?_) rfl (by kernel_rfl) (by kernel_rfl) (by kernel_rfl) (fun _ _ _ h => h) (Or.inl ⟨by rfl, ?_⟩) hHeld ?_
      rotate_left 1
      · (intro w hSw; (try dsimp only at hSw); have e0 := hSw.1; have e1 := hSw.2.1; have e2 := hSw.2.2.1; have e3 := hSw.2.2.2.1; have e4 := hSw.2.2.2.2; go_simp; (try with_reducible rfl))
      try simp only [List.getElem_toArray, List.getElem_cons_zero, List.getElem_cons_succ, Act.put, List.setIfInBounds_toArray, List.set_cons_zero, List.set_cons_succ]
      refine wpAnyH_take (i := 3) (oi := _) (v := ?_) rfl (by kernel_rfl) (by kernel_rfl) (by kernel_rfl) (fun _ _ _ h => h) (Or.inl ⟨by rfl, ?_⟩) hHeld ?_
      rotate_left 1
      · (intro w hSw; (try dsimp only at hSw); have e0 := hSw.1; have e1 := hSw.2.1; have e2 := hSw.2.2.1; have e3 := hSw.2.2.2.1; have e4 := hSw.2.2.2.2; go_simp; (try with_reducible rfl))
      try simp only [List.getElem_toArray, List.getElem_cons_zero, List.getElem_cons_succ, Act.put, List.setIfInBounds_toArray, List.set_cons_zero, List.set_cons_succ]
      refine wpAnyH_take (i := 4) (oi := _) (v := ?_) rfl (by kernel_rfl) (by kernel_rfl) (by kernel_rfl) (fun _ _ _ h => h) (Or.inl ⟨by rfl, ?_⟩) hHeld ?_
      rotate_left 1
      · (intro w hSw; (try dsimp only at hSw); have e0 := hSw.1; have e1 := hSw.2.1; have e2 := hSw.2.2.1; have e3 := hSw.2.2.2.1; have e4 := hSw.2.2.2.2; go_simp; (try with_reducible rfl))
      try simp only [List.getElem_toArray, List.getElem_cons_zero, List.getElem_cons_succ, Act.put, List.setIfInBounds_toArray, List.set_cons_zero, List.set_cons_succ]
      refine wpAnyH_take (i := 5) (oi := _) (v := ?_) rfl (by kernel_rfl) (by kernel_rfl) (by kernel_rfl) (fun _ _ _ h => h) (Or.inl ⟨by rfl, ?_⟩) hHeld ?_
      rotate_left 1
      · (intro w hSw; (try dsimp only at hSw); have e0 := hSw.1; have e1 := hSw.2.1; have e2 := hSw.2.2.1; have e3 := hSw.2.2.2.1; have e4 := hSw.2.2.2.2; go_simp; (try with_reducible rfl))
      try simp only [List.getElem_toArray, List.getElem_cons_zero, List.getElem_cons_succ, Act.put, List.setIfInBounds_toArray, List.set_cons_zero, List.set_cons_succ]
      refine wpAnyH_take (i := 6) (oi := _) (v := ?_) rfl (by kernel_rfl) (by kernel_rfl) (by kernel_rfl) (fun _ _ _ h => h) (Or.inl ⟨by rfl, ?_⟩) hHeld ?_
      rotate_left 1
      · (intro w hSw; (try dsimp only at hSw); have e0 := hSw.1; have e1 := hSw.2.1; have e2 := hSw.2.2.1; have e3 := hSw.2.2.2.1; have e4 := hSw.2.2.2.2; go_simp; (try with_reducible rfl))
      try simp only [List.getElem_toArray, List.getElem_cons_zero, List.getElem_cons_succ, Act.put, List.setIfInBounds_toArray, List.set_cons_zero, List.set_cons_succ]
      refine wpAnyH_take (i := 7) (oi := _) (v := ?_) rfl (by kernel_rfl) (by kernel_rfl) (by kernel_rfl) (fun _ _ _ h => h) (Or.inl ⟨by rfl, ?_⟩) hHeld ?_
      rotate_left 1
      · (intro w hSw; (try dsimp only at hSw); have e0 := hSw.1; have e1 := hSw.2.1; have e2 := hSw.2.2.1; have e3 := hSw.2.2.2.1; have e4 := hSw.2.2.2.2; go_simp; (try with_reducible rfl))
      try simp only [List.getElem_toArray, List.getElem_cons_zero, List.getElem_cons_succ, Act.put, List.setIfInBounds_toArray, List.set_cons_zero, List.set_cons_succ]
      refine wpAnyH_take (i := 8) (oi := _) (v := ?_) rfl (by kernel_rfl) (by kernel_rfl) (by kernel_rfl) (fun _ _ _ h => h) (Or.inl ⟨by rfl, ?_⟩) hHeld ?_
      rotate_left 1
      · (intro w hSw; (try dsimp only at hSw); have e0 := hSw.1; have e1 := hSw.2.1; have e2 := hSw.2.2.1; have e3 := hSw.2.2.2.1; have e4 := hSw.2.2.2.2; go_simp; (try with_reducible rfl))
      try simp only [List.getElem_toArray, List.getElem_cons_zero, List.getElem_cons_succ, Act.put, List.setIfInBounds_toArray, List.set_cons_zero, List.set_cons_succ]
      refine wpAnyH_take (i := 9) (oi := _) (v := ?_) rfl (by kernel_rfl) (by kernel_rfl) (by kernel_rfl) (fun _ _ _ h => h) (Or.inl ⟨by rfl, ?_⟩) hHeld ?_
      rotate_left 1
      · (intro w hSw; (try dsimp only at hSw); have e0 := hSw.1; have e1 := hSw.2.1; have e2 := hSw.2.2.1; have e3 := hSw.2.2.2.1; have e4 := hSw.2.2.2.2; go_simp; (try with_reducible rfl))
      try simp only [List.getElem_toArray, List.getElem_cons_zero, List.getElem_cons_succ, Act.put, List.setIfInBounds_toArray, List.set_cons_zero, List.set_cons_succ]
      refine wpAnyH_take (i := 10) (oi := _) (v := ?_) rfl (by kernel_rfl) (by kernel_rfl) (by kernel_rfl) (fun _ _ _ h => h) (Or.inl ⟨by rfl, ?_⟩) hHeld ?_
      rotate_left 1
      · (intro w hSw; (try dsimp only at hSw); have e0 := hSw.1; have e1 := hSw.2.1; have e2 := hSw.2.2.1; have e3 := hSw.2.2.2.1; have e4 := hSw.2.2.2.2; go_simp; (try with_reducible rfl))
      try simp only [List.getElem_toArray, List.getElem_cons_zero, List.getElem_cons_succ, Act.put, List.setIfInBounds_toArray, List.set_cons_zero, List.set_cons_succ]
      refine wpAnyH_take (i := 11) (oi := _) (v := ?_) rfl (by kernel_rfl) (by kernel_rfl) (by kernel_rfl) (fun _ _ _ h => h) (Or.inl ⟨by rfl, ?_⟩) hHeld ?_
      rotate_left 1
      · (intro w hSw; (try dsimp only at hSw); have e0 := hSw.1; have e1 := hSw.2.1; have e2 := hSw.2.2.1; have e3 := hSw.2.2.2.1; have e4 := hSw.2.2.2.2; go_simp; (try with_reducible rfl))
      try simp only [List.getElem_toArray, List.getElem_cons_zero, List.getElem_cons_succ, Act.put, List.setIfInBounds_toArray, List.set_cons_zero, List.set_cons_succ]
      refine wpAnyH_take (i := 12) (oi := _) (v := ?_) rfl (by kernel_rfl) (by kernel_rfl) (by kernel_rfl) (fun _ _ _ h => h) (Or.inl ⟨by rfl, ?_⟩) hHeld ?_
      rotate_left 1
      · (intro w hSw; (try dsimp only at hSw); have e0 := hSw.1; have e1 := hSw.2.1; have e2 := hSw.2.2.1; have e3 := hSw.2.2.2.1; have e4 := hSw.2.2.2.2; go_simp; (try with_reducible rfl))
      try simp only [List.getElem_toArray, List.getElem_cons_zero, List.getElem_cons_succ, Act.put, List.setIfInBounds_toArray, List.set_cons_zero, List.set_cons_succ]
      refine wpAnyH_take (i := 13) (oi := _) (v := ?_) rfl (by kernel_rfl) (by kernel_rfl) (by kernel_rfl) (fun _ _ _ h => h) (Or.inl ⟨by rfl, ?_⟩) hHeld ?_
      rotate_left 1
      · (intro w hSw; (try dsimp only at hSw); have e0 := hSw.1; have e1 := hSw.2.1; have e2 := hSw.2.2.1; have e3 := hSw.2.2.2.1; have e4 := hSw.2.2.2.2; go_simp; (try with_reducible rfl))
      try simp only [List.getElem_toArray, List.getElem_cons_zero, List.getElem_cons_succ, Act.put, List.setIfInBounds_toArray, List.set_cons_zero, List.set_cons_succ]
      refine wpAnyH_take (i := 14) (oi := _) (v := ?_) rfl (by kernel_rfl) (by kernel_rfl) (by kernel_rfl) (fun _ _ _ h => h) (Or.inl ⟨by rfl, ?_⟩) hHeld ?_
      rotate_left 1
      · (intro w hSw; (try dsimp only at hSw); have e0 := hSw.1; have e1 := hSw.2.1; have e2 := hSw.2.2.1; have e3 := hSw.2.2.2.1; have e4 := hSw.2.2.2.2; go_simp; (try with_reducible rfl))
      try simp only [List.getElem_toArray, List.getElem_cons_zero, List.getElem_cons_succ, Act.put, List.setIfInBounds_toArray, List.set_cons_zero, List.set_cons_succ]
      refine wpAnyH_take (i := 15) (oi := _) (v := ?_) rfl (by kernel_rfl) (by kernel_rfl) (by kernel_rfl) (fun _ _ _ h => h) (Or.inl ⟨by rfl, ?_⟩) hHeld ?_
      rotate_left 1
      · (intro w hSw; (try dsimp only at hSw); have e0 := hSw.1; have e1 := hSw.2.1; have e2 := hSw.2.2.1; have e3 := hSw.2.2.2.1; have e4 := hSw.2.2.2.2; go_simp; (try with_reducible rfl))
      try simp only [List.getElem_toArray, List.getElem_cons_zero, List.getElem_cons_succ, Act.put, List.setIfInBounds_toArray, List.set_cons_zero, List.set_cons_succ]
      refine wpAnyH_take (i := 16) (oi := _) (v := ?_) rfl (by kernel_rfl) (by kernel_rfl) (by kernel_rfl) (fun _ _ _ h => h) (Or.inl ⟨by rfl, ?_⟩) hHeld ?_
      rotate_left 1
      · (intro w hSw; (try dsimp only at hSw); have e0 := hSw.1; have e1 := hSw.2.1; have e2 := hSw.2.2.1; have e3 := hSw.2.2.2.1; have e4 := hSw.2.2.2.2; go_simp; (try with_reducible rfl))
      try simp only [List.getElem_toArray, List.getElem_cons_zero, List.getElem_cons_succ, Act.put, List.setIfInBounds_toArray, List.set_cons_zero, List.set_cons_succ]
      refine wpAnyH_take (i := 17) (oi := _) (v := ?_) rfl (by kernel_rfl) (by kernel_rfl) (by kernel_rfl) (fun _ _ _ h => h) (Or.inl ⟨by rfl, ?_⟩) hHeld ?_
      rotate_left 1
      · (intro w hSw; (try dsimp only at hSw); have e0 := hSw.1; have e1 := hSw.2.1; have e2 := hSw.2.2.1; have e3 := hSw.2.2.2.1; have e4 := hSw.2.2.2.2; go_simp; (try with_reducible rfl))
      try simp only [List.getElem_toArray, List.getElem_cons_zero, List.getElem_cons_succ, Act.put, List.setIfInBounds_toArray, List.set_cons_zero, List.set_cons_succ]
      refine wpAnyH_ready (rs := [18]) (by kernel_rfl) (by simp) ?_
      refine AllReadyH.cons (o := _) rfl (fun K hK => ?_) ?_
      · go_simp
        refine (HME.out.mono ?_)
        rintro e W2 ⟨mv, mk, rfl, hmo, hmr, hmi, hmb⟩
        obtain ⟨ma, mn, mc, hmv, hmn⟩ := orow_form hmo
        subst hmv
        have HB2 : Hid (Below w1.heap.size w1 W2) := Lib.hid ((HB.out.drew).trans (hmb.mono HB.out.size))
        obtain ⟨g0, g1, g2, g3, g4⟩ := HCELL.out W2 HB2.out
        have HMR := Lib.hid hmr; have HMI := Lib.hid hmi; have HMN := Lib.hid hmn
        clear hmo hmr hmi hmb hmn
        go_wp2_with fail
        refine hK.out _ _ (⟨g0, g1, g2, g3, g4⟩) (fun hHeld => ?_)
        clear hK K
        try simp only [List.getElem_toArray, List.getElem_cons_zero, List.getElem_cons_succ, Act.put, List.setIfInBounds_toArray, List.set_cons_zero, List.set_cons_succ]
        refine wpAnyH_take (i := 19) (oi := _) (v := ?_) rfl (by kernel_rfl) (by kernel_rfl) (by kernel_rfl) (fun _ _ _ h => h) (Or.inl ⟨by rfl, ?_⟩) hHeld ?_
        rotate_left 1
        · (intro w hSw; (try dsimp only at hSw); have e0 := hSw.1; have e1 := hSw.2.1; have e2 := hSw.2.2.1; have e3 := hSw.2.2.2.1; have e4 := hSw.2.2.2.2; go_simp; (try with_reducible rfl))
        try simp only [List.getElem_toArray, List.getElem_cons_zero, List.getElem_cons_succ, Act.put, List.setIfInBounds_toArray, List.set_cons_zero, List.set_cons_succ]
        refine wpAnyH_take (i := 20) (oi := _) (v := ?_) rfl (by kernel_rfl) (by kernel_rfl) (by kernel_rfl) (fun _ _ _ h => h) (Or.inl ⟨by rfl, ?_⟩) hHeld ?_
        rotate_left 1
        · (intro w hSw; (try dsimp only at hSw); have e0 := hSw.1; have e1 := hSw.2.1; have e2 := hSw.2.2.1; have e3 := hSw.2.2.2.1; have e4 := hSw.2.2.2.2; go_simp; (try with_reducible rfl))
        try simp only [List.getElem_toArray, List.getElem_cons_zero, List.getElem_cons_succ, Act.put, List.setIfInBounds_toArray, List.set_cons_zero, List.set_cons_succ]
        refine wpAnyH_done (by kernel_rfl) ?_ _
        by_cases hmz : mn = 0
        · have HNO : Hid (ApartR xi.set yi.set) := Lib.hid fun c hc => by
            have h0 : mk = [] := List.eq_nil_of_length_eq_zero (by rw [← HMN.out]; exact hmz)
            have := (HMI.out c).2 hc
            rw [h0] at this
            obtain ⟨-, -, r, hr, -⟩ := this
            simp at hr
          subst hmz
          clear c0 c1 c2 c3 c4 g0 g1 g2 g3 g4
          go_wp2_with fail
          go_roundw
          case rel =>
            refine ⟨j + 1, HJI.out, by go_num, HB2.out, fun a ha hai haj => ?_⟩
            by_cases haj2 : a < j
            · exact HIN.out a ha hai haj2
            · obtain rfl : a = j := by omega
              rw [HX.out, HY.out, HXA.out, HYA.out]
              exact HNO.out
          case measure => simp [intOf]; have := HJI.out; omega
        · have hmp : (0 : Int) < (mn : Int) := by omega
          have hmp2 : 0 < mn := by omega
          have HYES : Hid (¬ ApartR xi.set yi.set) := Lib.hid fun hno => hmz (by
            rw [HMN.out, right_none HMR.out (fun c hc => hno c ((HMI.out c).1 hc))]
            rfl)
          clear c0 c1 c2 c3 c4 g0 g1 g2 g3 g4 hmz
          go_wp2_with fail
          go_ret
          refine ⟨false, rfl, ⟨fun h => (by cases h), fun h => ?_⟩, below_steps HB1.out HB2.out⟩
          have := (apartI_iff p.ins L).1 h j i HIL.out HJI.out
          rw [HX.out, HY.out, HXA.out, HYA.out] at this
          exact absurd this HYES.out
      exact AllReadyH.nil
end Go.Proofs.Ytnemacejaiifnaa
/- The document's walk from an instruction, begun. No condition. -/
namespace Go.Proofs.Ytnemacejaiifnaa
open Go Go.RowKit

def wy0 (n : Nat) : Wy := ⟨List.replicate n false, [], 0, false⟩
/-- What from tells: a Ways that holds what was come to. -/
def FromPost (p : Pg) (n : Nat) (IV : Value) (beg : Bool) (pc : Nat) (w : World) (e : Ending) (w' : World) : Prop :=
  ∃ q g lv, e = .returned (.pointer (some ⟨q, 0, none⟩)) ∧ WyIn w w' q g IV p n beg lv (goO (begM beg) p.ins [pc] (wy0 n))
set_option maxHeartbeats 1600000 in
set_option maxRecDepth 100000 in
theorem rfrom_any (p : Pg) (hR : RightPg p) (A : Option Addr) (n c : Nat) (hn : p.ins.length = n) (w : World) (h : PgV w p (.agg #[.slice A n c, .int .i64 p.start, .int .i64 p.caps])) (pc : Nat) (hpc : pc < n) (beg : Bool) :
    Calls Try.prog 56 #[.agg #[.slice A n c, .int .i64 p.start, .int .i64 p.caps], .int .i64 (pc : Int), .bool beg] w (FromPost p n (.slice A n c) beg pc w) := by
  have hI : Inss w (.slice A n c) p.ins := by
    obtain ⟨u, e, hI, -⟩ := h
    injection e with e
    have e := congrArg Array.toList e
    simp only [List.cons.injEq] at e
    rw [e.1]
    exact hI
  have hnb : n ≤ 10000 := by rw [← hn]; exact hR.2.1
  obtain ⟨w1, hw1⟩ : ∃ w1, w.alloc (.cells #[.slice A n c, .int .i64 p.start, .int .i64 p.caps] 58) = w1 := ⟨_, rfl⟩
  obtain ⟨hb1, e0, e1, e2, hz1⟩ := box3_new w _ _ _ _ hw1
  have hwb : Whole w1 w.heap.size 58 #[.slice A n c, .int .i64 p.start, .int .i64 p.caps] := by rw [← hw1]; exact heap_alloc_new w _
  have hmk := make_bools n (by omega)
  obtain ⟨C, hC⟩ : ∃ C, Array.replicate n (Value.bool false) = C := ⟨_, rfl⟩
  rw [hC] at hmk
  have hCM : ((List.replicate n false).map Value.bool).toArray = C := by rw [← hC]; simp
  obtain ⟨w3, hw3⟩ : ∃ w3, (w1.alloc (.cells C 4)).alloc (.cells #[.slice A n c, .int .i64 p.start, .int .i64 p.caps, .bool beg, .slice (some ⟨w.heap.size + 1, 0, none⟩) n n, .slice none 0 0, .int .i64 0, .bool false] 107) = w3 := ⟨_, rfl⟩
  have hzz : (w1.alloc (.cells C 4)).heap.size = w.heap.size + 1 + 1 := by rw [World.size_alloc, hz1]
  have hg2 : Whole (w1.alloc (.cells C 4)) (w.heap.size + 1) 4 C := by rw [← hz1]; exact heap_alloc_new w1 _
  have hq3 : Whole w3 (w.heap.size + 1 + 1) 107 #[.slice A n c, .int .i64 p.start, .int .i64 p.caps, .bool beg, .slice (some ⟨w.heap.size + 1, 0, none⟩) n n, .slice none 0 0, .int .i64 0, .bool false] := by rw [← hw3, ← hzz]; exact heap_alloc_new _ _
  have hb3 : Below w.heap.size w w3 := by rw [← hw3]; exact ((hb1.alloc (by omega) _).alloc (by rw [hzz]; omega) _)
  have hwy : WyIn w w3 (w.heap.size + 1 + 1) (w.heap.size + 1) (.slice A n c) p n beg (.slice none 0 0) (wy0 n) :=
    ⟨hb3, hq3, by unfold wy0; simp only; rw [hCM, ← hw3]; exact hg2.alloc _, ownZ_none _ _, by omega, by omega, by omega, by simp [wy0], by simp [wy0]⟩
  have hwd : WyIn w w3.drew (w.heap.size + 1 + 1) (w.heap.size + 1) (.slice A n c) p n beg (.slice none 0 0) (wy0 n) := hwy.below (Below.refl _ _).drew
  have HCO := Lib.hid (wcome_any w _ _ (.slice A n c) p n hn beg hI hR (n + 1) w3.drew _ (wy0 n) pc (by simp [wy0]) hpc hwd)
  have HW1 := Lib.hid hw1; have HW3 := Lib.hid hw3; have HZ1 := Lib.hid hz1
  have e0' : w1.drew.cell? ⟨w.heap.size, 0, none⟩ = some (.slice A n c) := e0
  clear h hI hn hR hnb hC hCM hw1 hb1 hwb hw3 hzz hg2 hq3 hb3 hwy hwd hpc
  go_enter Try.func56, Try.ntmps56
  go_upto_region 1 with (fail)
  rw [HW1.out]
  go_region
  rw [HW3.out]
  clear e0 e1 e2 hz1 hmk e0'
  go_wp2_with fail
  refine HCO.out.mono ?_
  rintro e w4 ⟨rfl, -, lv, h4⟩
  have H4 := Lib.hid h4
  clear h4 HCO
  go_wp2_with fail
  go_ret
  exact ⟨_, _, lv, rfl, H4.out⟩
end Go.Proofs.Ytnemacejaiifnaa
/- Programs that need no choice: the document's answer, at any program that is not too long. No condition. -/
namespace Go.Proofs.Ytnemacejaiifnaa
open Go Go.RowKit

theorem wy_not {p : Pg} (hR : RightPg p) {n : Nat} (hn : p.ins.length = n) (hx : 0 < (goO noB p.ins [p.start.toNat] (wy0 n)).hits ∨ (goO noB p.ins [p.start.toNat] (wy0 n)).out ≠ []) : ¬ OneI p := by
  subst hn
  intro h
  cases ht : (goO noB p.ins [p.start.toNat] (wy0 p.ins.length)).twice
  · exact h.2.1 ((loose_go hR _ rfl ht).2 hx)
  · exact twice_go hR _ rfl ht (h.2.2 _ .start)
theorem wy_tight {p : Pg} (hR : RightPg p) {n : Nat} (hn : p.ins.length = n) (h0 : (goO noB p.ins [p.start.toNat] (wy0 n)).hits = 0) (h1 : (goO noB p.ins [p.start.toNat] (wy0 n)).out = []) : OneI p ↔ ∀ k, ReachI p.ins p.start.toNat k → GoodI p.ins k := by
  subst hn
  refine ⟨fun h => h.2.2, fun h => ⟨hR, fun hl => ?_, h⟩⟩
  cases ht : (goO noB p.ins [p.start.toNat] (wy0 p.ins.length)).twice
  · rcases (loose_go hR _ rfl ht).1 hl with h2 | h2
    · unfold wy0 at h0
      omega
    · exact h2 h1
  · exact twice_go hR _ rfl ht (h _ .start)
set_option maxHeartbeats 8000000 in
set_option maxRecDepth 100000 in
theorem radmits_any (p : Pg) (v : Value) (w : World) (h : PgV w p v) (hS : ¬ LongPg p) : Calls Try.prog 27 #[v] w (SaysG (OneI p) w) := by
  have H0 := Lib.hid h
  obtain ⟨A, n, c, hn, rfl, hI, hs, hc, hnb⟩ := h.opened
  obtain ⟨w1, hw1⟩ : ∃ w1, w.alloc (.cells #[.slice A n c, .int .i64 p.start, .int .i64 p.caps] 58) = w1 := ⟨_, rfl⟩
  obtain ⟨hb1, e0, e1, e2, hz1⟩ := box3_new w _ _ _ _ hw1
  have HCK := Lib.hid (rcheck_any p _ w1 (H0.out.below hb1))
  have HF : Hid (∀ W, Below w1.heap.size w1 W → W.cell? ⟨w.heap.size, 0, none⟩ = some (.slice A n c) ∧ W.cell? ⟨w.heap.size, 1, none⟩ = some (.int .i64 p.start) ∧ W.cell? ⟨w.heap.size, 2, none⟩ = some (.int .i64 p.caps)) := Lib.hid fun W hW => ⟨cell_on hW e0, cell_on hW e1, cell_on hW e2⟩
  have HIS := Lib.hid hI; have HB1 := Lib.hid hb1; have HW1 := Lib.hid hw1; have HN := Lib.hid hn; have HS := Lib.hid hS
  by_cases hR : RightPg p
  rotate_left
  · have HR := Lib.hid hR
    clear hR h hI hs hc hw1 hb1 hz1 hn hS
    go_enter Try.func27, Try.ntmps27
    go_upto_region 1 with (fail)
    rw [HW1.out]
    go_wp2_with fail
    refine HCK.out.mono ?_
    rintro e w2 ⟨rr, rfl, hr, hb2⟩
    have HB2 := Lib.hid hb2
    obtain rfl : rr = 121 := by
      rcases hr with ⟨-, h⟩ | ⟨h, -⟩
      · exact absurd h HR.out
      · exact h
    clear hr hb2
    go_wp2_with fail
    go_ret
    exact ⟨false, rfl, ⟨fun h => (by cases h), fun h => absurd h.1 HR.out⟩, below_steps HB1.out HB2.out⟩
  obtain ⟨I, st, cp⟩ := p
  obtain ⟨s0, rfl⟩ : ∃ s0 : Nat, st = (s0 : Int) := ⟨st.toNat, by have := hR.2.2.1.1; simp only at this; omega⟩
  have hsn : s0 < n := by
    have := start_lt hR
    rw [hn] at this
    exact this
  have hnn : n ≤ 10000 := by rw [← hn]; exact hR.2.1
  have hset : ∀ x ∈ I, x.set.length ≤ 1000000 := fun x hx => by
    have h1 := tot_mem hx
    have h2 : totI I ≤ 2000 := Nat.le_of_not_lt hS
    omega
  obtain ⟨pb, po, hA⟩ : ∃ pb po, A = some ⟨pb, po, none⟩ := by
    obtain ⟨b, o, x, a2, s, c2, hA, -⟩ := hI.at' 0 (by simp only at hn hsn ⊢; omega)
    exact ⟨b, o, hA⟩
  subst hA
  have HR := Lib.hid hR; have HSN := Lib.hid hsn; have HNN := Lib.hid hnn; have HSET := Lib.hid hset
  simp only at e1 e2
  clear hR hsn hnn hset h hI hs hc hw1 hb1 hz1 hn hS
  go_enter Try.func27, Try.ntmps27
  go_upto_region 1 with (fail)
  rw [HW1.out]
  go_wp2_with fail
  refine HCK.out.mono ?_
  rintro e w2 ⟨rr, rfl, hr, hb2⟩
  have HB2 := Lib.hid hb2
  obtain ⟨q0, q1, q2⟩ := HF.out w2 hb2
  obtain rfl : rr = 0 := by
    rcases hr with ⟨h, -⟩ | ⟨-, h⟩
    · exact h
    · exact absurd HR.out h
  have HFR := Lib.hid (rfrom_any _ HR.out _ n c HN.out w2 (H0.out.below (below_steps HB1.out hb2)) s0 HSN.out false)
  clear e0 e1 e2 HCK hr hb2
  have hnot := wy_not HR.out HN.out
  have htight := wy_tight HR.out HN.out
  have hloop : ∀ done : List Bool, done.length = n → QueI I s0 (done, []) → ∀ k, ReachI I s0 k → GoodI I k := fun done hl hq => que_end HR.out (by rw [hl, ← HN.out]) hq
  have hqb : QueI I s0 ((List.replicate n false).set s0 true, [s0]) := by
    have := que_begin HR.out
    rw [HN.out] at this
    exact this
  have HNOT : Hid (0 < (goO noB I [s0] (wy0 n)).hits ∨ (goO noB I [s0] (wy0 n)).out ≠ [] → ¬ OneI ⟨I, (s0 : Int), cp⟩) := Lib.hid hnot
  have HTI : Hid ((goO noB I [s0] (wy0 n)).hits = 0 → (goO noB I [s0] (wy0 n)).out = [] → (OneI ⟨I, (s0 : Int), cp⟩ ↔ ∀ k, ReachI I s0 k → GoodI I k)) := Lib.hid htight
  have HLP := Lib.hid hloop; have HQB := Lib.hid hqb
  clear hnot htight hloop hqb
  go_wp2_with fail
  refine HFR.out.mono ?_
  rintro e w3 ⟨q, g, lv, rfl, hwy⟩
  obtain ⟨S, hS⟩ : ∃ S, goO (begM false) I [s0] (wy0 n) = S := ⟨_, rfl⟩
  have hS2 : goO noB I [s0] (wy0 n) = S := hS
  rw [hS] at hwy
  rw [hS2] at HNOT HTI
  have hb3 := hwy.bel
  have c6 : w3.cell? ⟨q, 6, none⟩ = some (.int .i64 ((S.hits : Nat) : Int)) := hwy.box.cell 6
  have c5 : w3.cell? ⟨q, 5, none⟩ = some lv := hwy.box.cell 5
  obtain ⟨la, lc, hlv⟩ := own_slice hwy.own.1
  rw [natsO_len] at hlv
  subst hlv
  obtain ⟨hh, hhh⟩ : ∃ hh, S.hits = hh := ⟨_, rfl⟩
  obtain ⟨ol, hol⟩ : ∃ ol, S.out.length = ol := ⟨_, rfl⟩
  rw [hhh] at c6 HNOT HTI
  rw [hol] at c5
  have HB3 := Lib.hid (below_steps HB2.out hb3)
  have HOL := Lib.hid hol
  clear hwy hS hS2 hb3 hhh hol HFR
  by_cases hz : 0 < hh
  · have HNO := Lib.hid (HNOT.out (.inl hz))
    have dz : decide ((0 : Int) < (hh : Int)) = true := decide_eq_true (by omega)
    have dz2 : (0 : Int) < (hh : Int) := by omega
    clear HNOT HTI hz
    go_wp2_with fail
    go_ret
    exact ⟨false, rfl, ⟨fun h => (by cases h), fun h => absurd h HNO.out⟩, below_steps HB1.out HB3.out⟩
  obtain rfl : hh = 0 := by omega
  by_cases ho : ol = 0
  rotate_left
  · have HNO := Lib.hid (HNOT.out (.inr (fun e => ho (by rw [← HOL.out, e]; rfl))))
    have dz2 : (0 : Int) < (ol : Int) := by omega
    have dz3 : 0 < ol := by omega
    clear HNOT HTI hz ho
    go_wp2_with fail
    go_ret
    exact ⟨false, rfl, ⟨fun h => (by cases h), fun h => absurd h HNO.out⟩, below_steps HB1.out HB3.out⟩
  subst ho
  have HT := Lib.hid (HTI.out rfl (List.eq_nil_of_length_eq_zero HOL.out))
  clear HNOT HTI hz
  have hmk := make_bools n (by have := HNN.out; omega)
  obtain ⟨C, hC⟩ : ∃ C, Array.replicate n (Value.bool false) = C := ⟨_, rfl⟩
  rw [hC] at hmk
  obtain ⟨w4, hw4⟩ : ∃ w4, w3.alloc (.cells #[.int .i64 (s0 : Int)] 3) = w4 := ⟨_, rfl⟩
  obtain ⟨w5, hw5⟩ : ∃ w5, w4.alloc (.cells C 4) = w5 := ⟨_, rfl⟩
  obtain ⟨w6, hw6⟩ : ∃ w6, w5.setCell ⟨w4.heap.size, s0, none⟩ (.bool true) = w6 := ⟨_, rfl⟩
  have hz4 : w4.heap.size = w3.heap.size + 1 := by rw [← hw4]; exact World.size_alloc _ _
  have hs3 := HB3.out.size
  have hb4 : Below w3.heap.size w3 w4 := by rw [← hw4]; exact (Below.refl _ _).alloc (Nat.le_refl _) _
  have hb5 : Below w4.heap.size w4 w5 := by rw [← hw5]; exact (Below.refl _ _).alloc (Nat.le_refl _) _
  have g5 : Whole w5 w4.heap.size 4 ((List.replicate n false).map Value.bool).toArray := by
    have e : ((List.replicate n false).map Value.bool).toArray = C := by rw [← hC]; simp
    rw [e, ← hw5]
    exact heap_alloc_new w4 _
  have g6 : Whole w6 w4.heap.size 4 (((List.replicate n false).set s0 true).map Value.bool).toArray := by
    rw [← hw6, ← obools_set]
    exact g5.store s0 _
  have hb6 : Below w1.heap.size w1 w6 := by
    rw [← hw6]
    exact (below_steps (below_steps HB3.out hb4) hb5).setCell (p := ⟨w4.heap.size, s0, none⟩) (by simp only; omega) _
  have hq6 : OwnQ w6 w1.heap.size (.slice (some ⟨w3.heap.size, 0, none⟩) 1 1) [s0] := by
    have h1 := (ownQ_one w3 w1.heap.size hs3 s0)
    rw [hw4] at h1
    have h2 := h1.below hb5
    rw [← hw6]
    exact h2.kept fun j hj => Below.heap_setCell w5 _ _ j (by
      have : w3.heap.size = j := by simpa [Value.ownBlock] using hj
      simp only
      omega)
  have d5 : w5.cell? ⟨w4.heap.size, s0, none⟩ = some (.bool false) := by
    have := obools_at g5 s0 (by simpa using HSN.out)
    simpa using this
  have z5 := g5.free s0
  have hsz : (s0 : Int) < (n : Int) := by have := HSN.out; omega
  have q0 : w4.cell? ⟨w.heap.size, 0, none⟩ = some (.slice (some ⟨pb, po, none⟩) n c) := (HF.out w4 (below_steps HB3.out hb4)).1
  have q1 : w5.cell? ⟨w.heap.size, 1, none⟩ = some (.int .i64 (s0 : Int)) := (HF.out w5 (below_steps (below_steps HB3.out hb4) hb5)).2.1
  have q1' : w3.cell? ⟨w.heap.size, 1, none⟩ = some (.int .i64 (s0 : Int)) := (HF.out w3 HB3.out).2.1
  have HW4 := Lib.hid hw4; have HW5 := Lib.hid hw5; have HW6 := Lib.hid hw6; have HB6 := Lib.hid hb6; have HQ6 := Lib.hid hq6; have HG6 := Lib.hid g6
  have HGD : Hid (w1.heap.size ≤ w4.heap.size) := Lib.hid (by omega)
  clear hw4 hw5 hw6 hz4 hs3 hb4 hb5 g5 g6 hb6 hq6 hC
  go_upto_region 7 with (fail)
  rw [HW4.out]
  go_upto_region 8 with (fail)
  rw [HW5.out]
  go_upto_region 9 with (fail)
  rw [HW6.out]
  clear hmk q0 q1 q1' d5 z5 c5 c6 q2
  go_loopg [4] (n + 2) (fun gk t4 wr => ∃ tv done todo, t4 = tv ∧ OwnQ wr w1.heap.size tv todo ∧ Whole wr w4.heap.size 4 (done.map Value.bool).toArray ∧ done.length = n ∧ QueI I s0 (done, todo) ∧ done.count false + todo.length < gk ∧ gk ≤ n + 2 ∧ Below w1.heap.size w1 wr)
  case atStart =>
    refine ⟨_, _, _, rfl, HQ6.out, HG6.out, by simp, HQB.out, ?_, Nat.le_refl _, HB6.out⟩
    have := newB_count (seen := List.replicate n false) (pc := s0) (by have := HSN.out; simp [newB, this])
    rw [List.count_replicate_self] at this
    simp only [List.length_cons, List.length_nil]
    omega
  case round =>
    obtain ⟨tv, done, todo, rfl, htq, hdn, hdl, hq, hgk, hgn, hbr⟩ := hrel
    have HTQ := Lib.hid htq; have HDN := Lib.hid hdn; have HDL := Lib.hid hdl; have HQ := Lib.hid hq; have HGK := Lib.hid hgk; have HGN := Lib.hid hgn; have HBR := Lib.hid hbr
    obtain ⟨tb, to', tc, cur, htv, -⟩ := id htq
    obtain ⟨tl, htl⟩ : ∃ tl, todo.length = tl := ⟨_, rfl⟩
    rw [htl] at htv
    subst htv
    rcases todo with _ | ⟨x, rest⟩
    · obtain rfl : tl = 0 := htl.symm
      clear htq hdn hdl hq hgk hgn hbr htl
      go_wp2_with fail
      go_ret
      exact ⟨true, rfl, ⟨fun _ => HT.out.2 (HLP.out done HDL.out HQ.out), fun _ => rfl⟩, below_steps HB1.out HBR.out⟩
    · obtain ⟨k, hk⟩ : ∃ k, rest.length = k := ⟨_, rfl⟩
      obtain rfl : tl = k + 1 := by rw [← htl, ← hk]; rfl
      have hxn : x < n := by
        have := (hq.todo x (by simp)).1
        simp only at this
        omega
      have t0 : wr.drew.cell? ⟨tb, to', none⟩ = some (.int .i64 (x : Int)) := htq.first
      have hrest := htq.rest (by rw [hk])
      rw [hk] at hrest
      have HREST := Lib.hid hrest
      have HFR := Lib.hid (rfrom_any ⟨I, (s0 : Int), cp⟩ HR.out _ n c HN.out wr.drew (H0.out.below (below_steps HB1.out hbr.drew)) x hxn true)
      obtain ⟨p0, p1, p2⟩ := HF.out wr.drew hbr.drew
      obtain ⟨r0, r1, r2⟩ := HF.out wr hbr
      have HXN := Lib.hid hxn; have HK := Lib.hid hk
      have hkz : (0 : Int) < ((k + 1 : Nat) : Int) := by omega
      have hkz2 : 0 < k + 1 := by omega
      clear htq hdn hdl hq hgk hgn hbr htl hxn hrest hk
      simp only at HFR
      go_upto_region 10 with (fail)
      go_cut [3] (fun s3 wx => ∃ q g lv, s3 = .pointer (some ⟨q, 0, none⟩) ∧ WyIn wr.drew wx q g (.slice (some ⟨pb, po, none⟩) n c) ⟨I, (s0 : Int), cp⟩ n true lv (goO (begM true) I [x] (wy0 n)))
      case first =>
        go_region_with (go_at_call 56; refine HFR.out.mono ?_; rintro e W7 ⟨q, g, lv, rfl, hwy⟩)
        all_goals
          go_wp2_with fail
          go_meet
          exact ⟨q, g, lv, rfl, hwy⟩
      case rest =>
        obtain ⟨wo, rfl⟩ : ∃ W, W = wc := ⟨_, rfl⟩
        obtain ⟨q, g, lv, rfl, hwy⟩ := hcut
        obtain ⟨S, hS⟩ : ∃ S, goO (begM true) I [x] (wy0 n) = S := ⟨_, rfl⟩
        rw [hS] at hwy
        have hgood := good_go HR.out (pc := x) (by rw [HN.out]; exact HXN.out) S (by rw [HN.out]; exact hS.symm)
        simp only at hgood
        have hbd : Below wr.heap.size wr wo := below_of_drew hwy.bel
        have hbc : Below w1.heap.size w1 wo := HBR.out.trans (hbd.mono HBR.out.size)
        have hrc := HREST.out.below hbd
        have hdc : Whole wo w4.heap.size 4 (done.map Value.bool).toArray := HDN.out.below hbd HDN.out.lt
        obtain ⟨la, lc, hlv⟩ := own_slice hwy.own.1
        obtain ⟨ol, hol⟩ : ∃ ol, S.out.length = ol := ⟨_, rfl⟩
        rw [natsO_len, hol] at hlv
        subst hlv
        obtain ⟨tw, htw⟩ : ∃ tw, S.twice = tw := ⟨_, rfl⟩
        obtain ⟨hh, hhh⟩ : ∃ hh, S.hits = hh := ⟨_, rfl⟩
        have c7 : wo.drew.cell? ⟨q, 7, none⟩ = some (.bool tw) := by rw [← htw]; exact hwy.box.cell 7
        have c6 : wo.drew.cell? ⟨q, 6, none⟩ = some (.int .i64 ((hh : Nat) : Int)) := by rw [← hhh]; exact hwy.box.cell 6
        have c5 : wo.drew.cell? ⟨q, 5, none⟩ = some (.slice la ol lc) := hwy.box.cell 5
        rw [htw, hhh] at hgood
        obtain ⟨g0, g1, g2⟩ := HF.out wo.drew hbc.drew
        have HOUT : Hid (∀ k ∈ S.out, k < I.length) := Lib.hid (by have := go_out (meets := begM true) (I := I) [x] (wy0 n) (by simp [wy0]); rw [hS] at this; simpa [wy0, HN.out] using this)
        have HAP := Lib.hid (rapart_any ⟨I, (s0 : Int), cp⟩ S.out HOUT.out (.agg #[.slice (some ⟨pb, po, none⟩) n c, .int .i64 (s0 : Int), .int .i64 cp]) (.slice la ol lc) wo.drew (H0.out.below (below_steps HB1.out hbc.drew)) (show Zs wo.drew (.slice la ol lc) (natsO S.out) from hwy.own.zs) HSET.out)
        have HWY := Lib.hid hwy; have HGOOD := Lib.hid hgood; have HBC := Lib.hid hbc; have HRC := Lib.hid hrc; have HDC := Lib.hid hdc; have HOL := Lib.hid hol
        have htc : k + 1 ≤ tc := by
          obtain ⟨b', o', c', cur', e, -, -, -, h4, -⟩ := HTQ.out
          injection e with e1 e2 e3
          subst e3
          simp only [List.length_cons] at h4
          have := HK.out
          omega
        have htc1 : (1 : Int) ≤ (tc : Int) := by omega
        obtain ⟨ta, hta⟩ : ∃ ta : Option Addr, (if tc = 1 then some ⟨tb, to', none⟩ else some ⟨tb, to' + 1, none⟩) = ta := ⟨_, rfl⟩
        rw [hta] at HREST HRC
        clear hwy hgood hbc hbd hrc hdc hol htw hhh hS HFR t0 p0 p1 p2 r0 r1 r2
        go_upto_region 12 with (fail)
        go_cut [68] (fun s68 wx => ∃ b : Bool, s68 = .bool b ∧ (b = true ↔ ¬ GoodI I x) ∧ Below wo.heap.size wo wx)
        case first =>
          have hS0 : wo.drew.cell? ⟨q, 7, none⟩ = some (.bool tw) ∧ wo.drew.cell? ⟨q, 6, none⟩ = some (.int .i64 ((hh : Nat) : Int)) ∧ wo.drew.cell? ⟨q, 5, none⟩ = some (.slice la ol lc) ∧ wo.drew.cell? ⟨w.heap.size, 0, none⟩ = some (.slice (some ⟨pb, po, none⟩) n c) ∧ wo.drew.cell? ⟨w.heap.size, 1, none⟩ = some (.int .i64 (s0 : Int)) ∧ wo.drew.cell? ⟨w.heap.size, 2, none⟩ = some (.int .i64 cp) := ⟨c7, c6, c5, g0, g1, g2⟩
          cases tw
          rotate_left
          · have HNG : Hid (¬ GoodI I x) := Lib.hid fun hg => (by have := (HGOOD.out.1.1 hg).1; cases this)
            clear HAP HGOOD
            refine wp_region_held_drew (S := fun w' => (w'.cell? ⟨q, 7, none⟩ = some (.bool true) ∧ w'.cell? ⟨q, 6, none⟩ = some (.int .i64 ((hh : Nat) : Int)) ∧ w'.cell? ⟨q, 5, none⟩ = some (.slice la ol lc) ∧ w'.cell? ⟨w.heap.size, 0, none⟩ = some (.slice (some ⟨pb, po, none⟩) n c) ∧ w'.cell? ⟨w.heap.size, 1, none⟩ = some (.int .i64 (s0 : Int)) ∧ w'.cell? ⟨w.heap.size, 2, none⟩ = some (.int .i64 cp))) (by kernel_rfl) hS0 (fun hHeld => ?_)
            refine wpAnyH_take (i := 0) (oi := _) (v := ?_) rfl (by kernel_rfl) (by kernel_rfl) (by kernel_rfl) (fun _ _ _ h => h) (Or.inl ⟨by rfl, ?_⟩) hHeld ?_
            rotate_left 1
            · (intro w hSw; (try dsimp only at hSw); go_simp; (try with_reducible rfl))
            try simp only [List.getElem_toArray, List.getElem_cons_zero, List.getElem_cons_succ, Act.put, List.setIfInBounds_toArray, List.set_cons_zero, List.set_cons_succ]
            refine wpAnyH_take (i := 1) (oi := _) (v := ?_) rfl (by kernel_rfl) (by kernel_rfl) (by kernel_rfl) (fun _ _ _ h => h) (Or.inl ⟨by rfl, ?_⟩) hHeld ?_
            rotate_left 1
            · (intro w hSw; (try dsimp only at hSw); go_simp; (try with_reducible rfl))
            try simp only [List.getElem_toArray, List.getElem_cons_zero, List.getElem_cons_succ, Act.put, List.setIfInBounds_toArray, List.set_cons_zero, List.set_cons_succ]
            refine wpAnyH_take (i := 2) (oi := _) (v := ?_) rfl (by kernel_rfl) (by kernel_rfl) (by kernel_rfl) (fun _ _ _ h => h) (Or.inl ⟨by rfl, ?_⟩) hHeld ?_
            rotate_left 1
            · (intro w hSw; (try dsimp only at hSw); go_simp; (try with_reducible rfl))
            try simp only [List.getElem_toArray, List.getElem_cons_zero, List.getElem_cons_succ, Act.put, List.setIfInBounds_toArray, List.set_cons_zero, List.set_cons_succ]
            refine wpAnyH_take (i := 3) (oi := _) (v := ?_) rfl (by kernel_rfl) (by kernel_rfl) (by kernel_rfl) (fun _ _ _ h => h) (Or.inl ⟨by rfl, ?_⟩) hHeld ?_
            rotate_left 1
            · (intro w hSw; (try dsimp only at hSw); go_simp; (try with_reducible rfl))
            try simp only [List.getElem_toArray, List.getElem_cons_zero, List.getElem_cons_succ, Act.put, List.setIfInBounds_toArray, List.set_cons_zero, List.set_cons_succ]
            refine wpAnyH_take (i := 4) (oi := _) (v := ?_) rfl (by kernel_rfl) (by kernel_rfl) (by kernel_rfl) (fun _ _ _ h => h) (Or.inl ⟨by rfl, ?_⟩) hHeld ?_
            rotate_left 1
            · (intro w hSw; (try dsimp only at hSw); go_simp; (try with_reducible rfl))
            try simp only [List.getElem_toArray, List.getElem_cons_zero, List.getElem_cons_succ, Act.put, List.setIfInBounds_toArray, List.set_cons_zero, List.set_cons_succ]
            refine wpAnyH_take (i := 5) (oi := _) (v := undef) rfl (by kernel_rfl) (by kernel_rfl) (by kernel_rfl) (fun _ _ _ h => h) (Or.inr ⟨by rfl, rfl⟩) hHeld ?_
            try simp only [List.getElem_toArray, List.getElem_cons_zero, List.getElem_cons_succ, Act.put, List.setIfInBounds_toArray, List.set_cons_zero, List.set_cons_succ]
            refine wpAnyH_take (i := 6) (oi := _) (v := undef) rfl (by kernel_rfl) (by kernel_rfl) (by kernel_rfl) (fun _ _ _ h => h) (Or.inr ⟨by rfl, rfl⟩) hHeld ?_
            try simp only [List.getElem_toArray, List.getElem_cons_zero, List.getElem_cons_succ, Act.put, List.setIfInBounds_toArray, List.set_cons_zero, List.set_cons_succ]
            refine wpAnyH_take (i := 7) (oi := _) (v := undef) rfl (by kernel_rfl) (by kernel_rfl) (by kernel_rfl) (fun _ _ _ h => h) (Or.inr ⟨by rfl, rfl⟩) hHeld ?_
            try simp only [List.getElem_toArray, List.getElem_cons_zero, List.getElem_cons_succ, Act.put, List.setIfInBounds_toArray, List.set_cons_zero, List.set_cons_succ]
            refine wpAnyH_take (i := 8) (oi := _) (v := undef) rfl (by kernel_rfl) (by kernel_rfl) (by kernel_rfl) (fun _ _ _ h => h) (Or.inr ⟨by rfl, rfl⟩) hHeld ?_
            try simp only [List.getElem_toArray, List.getElem_cons_zero, List.getElem_cons_succ, Act.put, List.setIfInBounds_toArray, List.set_cons_zero, List.set_cons_succ]
            refine wpAnyH_take (i := 9) (oi := _) (v := undef) rfl (by kernel_rfl) (by kernel_rfl) (by kernel_rfl) (fun _ _ _ h => h) (Or.inr ⟨by rfl, rfl⟩) hHeld ?_
            try simp only [List.getElem_toArray, List.getElem_cons_zero, List.getElem_cons_succ, Act.put, List.setIfInBounds_toArray, List.set_cons_zero, List.set_cons_succ]
            refine wpAnyH_take (i := 10) (oi := _) (v := ?_) rfl (by kernel_rfl) (by kernel_rfl) (by kernel_rfl) (fun _ _ _ h => h) (Or.inl ⟨by rfl, ?_⟩) hHeld ?_
            rotate_left 1
            · (intro w hSw; (try dsimp only at hSw); go_simp; (try with_reducible rfl))
            try simp only [List.getElem_toArray, List.getElem_cons_zero, List.getElem_cons_succ, Act.put, List.setIfInBounds_toArray, List.set_cons_zero, List.set_cons_succ]
            refine wpAnyH_take (i := 11) (oi := _) (v := ?_) rfl (by kernel_rfl) (by kernel_rfl) (by kernel_rfl) (fun _ _ _ h => h) (Or.inl ⟨by rfl, ?_⟩) hHeld ?_
            rotate_left 1
            · (intro w hSw; (try dsimp only at hSw); go_simp; (try with_reducible rfl))
            try simp only [List.getElem_toArray, List.getElem_cons_zero, List.getElem_cons_succ, Act.put, List.setIfInBounds_toArray, List.set_cons_zero, List.set_cons_succ]
            refine wpAnyH_take (i := 12) (oi := _) (v := undef) rfl (by kernel_rfl) (by kernel_rfl) (by kernel_rfl) (fun _ _ _ h => h) (Or.inr ⟨by rfl, rfl⟩) hHeld ?_
            try simp only [List.getElem_toArray, List.getElem_cons_zero, List.getElem_cons_succ, Act.put, List.setIfInBounds_toArray, List.set_cons_zero, List.set_cons_succ]
            refine wpAnyH_take (i := 13) (oi := _) (v := undef) rfl (by kernel_rfl) (by kernel_rfl) (by kernel_rfl) (fun _ _ _ h => h) (Or.inr ⟨by rfl, rfl⟩) hHeld ?_
            try simp only [List.getElem_toArray, List.getElem_cons_zero, List.getElem_cons_succ, Act.put, List.setIfInBounds_toArray, List.set_cons_zero, List.set_cons_succ]
            refine wpAnyH_take (i := 14) (oi := _) (v := undef) rfl (by kernel_rfl) (by kernel_rfl) (by kernel_rfl) (fun _ _ _ h => h) (Or.inr ⟨by rfl, rfl⟩) hHeld ?_
            try simp only [List.getElem_toArray, List.getElem_cons_zero, List.getElem_cons_succ, Act.put, List.setIfInBounds_toArray, List.set_cons_zero, List.set_cons_succ]
            refine wpAnyH_take (i := 15) (oi := _) (v := undef) rfl (by kernel_rfl) (by kernel_rfl) (by kernel_rfl) (fun _ _ _ h => h) (Or.inr ⟨by rfl, rfl⟩) hHeld ?_
            try simp only [List.getElem_toArray, List.getElem_cons_zero, List.getElem_cons_succ, Act.put, List.setIfInBounds_toArray, List.set_cons_zero, List.set_cons_succ]
            refine wpAnyH_take (i := 16) (oi := _) (v := undef) rfl (by kernel_rfl) (by kernel_rfl) (by kernel_rfl) (fun _ _ _ h => h) (Or.inr ⟨by rfl, rfl⟩) hHeld ?_
            try simp only [List.getElem_toArray, List.getElem_cons_zero, List.getElem_cons_succ, Act.put, List.setIfInBounds_toArray, List.set_cons_zero, List.set_cons_succ]
            refine wpAnyH_take (i := 17) (oi := _) (v := undef) rfl (by kernel_rfl) (by kernel_rfl) (by kernel_rfl) (fun _ _ _ h => h) (Or.inr ⟨by rfl, rfl⟩) hHeld ?_
            try simp only [List.getElem_toArray, List.getElem_cons_zero, List.getElem_cons_succ, Act.put, List.setIfInBounds_toArray, List.set_cons_zero, List.set_cons_succ]
            refine wpAnyH_take (i := 18) (oi := _) (v := undef) rfl (by kernel_rfl) (by kernel_rfl) (by kernel_rfl) (fun _ _ _ h => h) (Or.inr ⟨by rfl, rfl⟩) hHeld ?_
            try simp only [List.getElem_toArray, List.getElem_cons_zero, List.getElem_cons_succ, Act.put, List.setIfInBounds_toArray, List.set_cons_zero, List.set_cons_succ]
            refine wpAnyH_take (i := 19) (oi := _) (v := ?_) rfl (by kernel_rfl) (by kernel_rfl) (by kernel_rfl) (fun _ _ _ h => h) (Or.inl ⟨by rfl, ?_⟩) hHeld ?_
            rotate_left 1
            · (intro w hSw; (try dsimp only at hSw); go_simp; (try with_reducible rfl))
            try simp only [List.getElem_toArray, List.getElem_cons_zero, List.getElem_cons_succ, Act.put, List.setIfInBounds_toArray, List.set_cons_zero, List.set_cons_succ]
            refine wpAnyH_done (by kernel_rfl) ?_ _
            skip
            go_wp2_with fail
            go_meet
            exact ⟨true, rfl, ⟨fun _ => HNG.out, fun _ => rfl⟩, (Below.refl _ wo).drew⟩
          by_cases h1 : hh ≤ 1
          rotate_left
          · have HNG : Hid (¬ GoodI I x) := Lib.hid fun hg => h1 (HGOOD.out.1.1 hg).2.1
            have d1 : (1 : Int) < (hh : Int) := by omega
            have d2 : 1 < hh := by omega
            clear HAP HGOOD h1
            refine wp_region_held_drew (S := fun w' => (w'.cell? ⟨q, 7, none⟩ = some (.bool false) ∧ w'.cell? ⟨q, 6, none⟩ = some (.int .i64 ((hh : Nat) : Int)) ∧ w'.cell? ⟨q, 5, none⟩ = some (.slice la ol lc) ∧ w'.cell? ⟨w.heap.size, 0, none⟩ = some (.slice (some ⟨pb, po, none⟩) n c) ∧ w'.cell? ⟨w.heap.size, 1, none⟩ = some (.int .i64 (s0 : Int)) ∧ w'.cell? ⟨w.heap.size, 2, none⟩ = some (.int .i64 cp))) (by kernel_rfl) hS0 (fun hHeld => ?_)
            refine wpAnyH_take (i := 0) (oi := _) (v := ?_) rfl (by kernel_rfl) (by kernel_rfl) (by kernel_rfl) (fun _ _ _ h => h) (Or.inl ⟨by rfl, ?_⟩) hHeld ?_
            rotate_left 1
            · (intro w hSw; (try dsimp only at hSw); go_simp; (try with_reducible rfl))
            try simp only [List.getElem_toArray, List.getElem_cons_zero, List.getElem_cons_succ, Act.put, List.setIfInBounds_toArray, List.set_cons_zero, List.set_cons_succ]
            refine wpAnyH_take (i := 1) (oi := _) (v := ?_) rfl (by kernel_rfl) (by kernel_rfl) (by kernel_rfl) (fun _ _ _ h => h) (Or.inl ⟨by rfl, ?_⟩) hHeld ?_
            rotate_left 1
            · (intro w hSw; (try dsimp only at hSw); go_simp; (try with_reducible rfl))
            try simp only [List.getElem_toArray, List.getElem_cons_zero, List.getElem_cons_succ, Act.put, List.setIfInBounds_toArray, List.set_cons_zero, List.set_cons_succ]
            refine wpAnyH_take (i := 2) (oi := _) (v := ?_) rfl (by kernel_rfl) (by kernel_rfl) (by kernel_rfl) (fun _ _ _ h => h) (Or.inl ⟨by rfl, ?_⟩) hHeld ?_
            rotate_left 1
            · (intro w hSw; (try dsimp only at hSw); go_simp; (try with_reducible rfl))
            try simp only [List.getElem_toArray, List.getElem_cons_zero, List.getElem_cons_succ, Act.put, List.setIfInBounds_toArray, List.set_cons_zero, List.set_cons_succ]
            refine wpAnyH_take (i := 3) (oi := _) (v := ?_) rfl (by kernel_rfl) (by kernel_rfl) (by kernel_rfl) (fun _ _ _ h => h) (Or.inl ⟨by rfl, ?_⟩) hHeld ?_
            rotate_left 1
            · (intro w hSw; (try dsimp only at hSw); go_simp; (try with_reducible rfl))
            try simp only [List.getElem_toArray, List.getElem_cons_zero, List.getElem_cons_succ, Act.put, List.setIfInBounds_toArray, List.set_cons_zero, List.set_cons_succ]
            refine wpAnyH_take (i := 4) (oi := _) (v := ?_) rfl (by kernel_rfl) (by kernel_rfl) (by kernel_rfl) (fun _ _ _ h => h) (Or.inl ⟨by rfl, ?_⟩) hHeld ?_
            rotate_left 1
            · (intro w hSw; (try dsimp only at hSw); go_simp; (try with_reducible rfl))
            try simp only [List.getElem_toArray, List.getElem_cons_zero, List.getElem_cons_succ, Act.put, List.setIfInBounds_toArray, List.set_cons_zero, List.set_cons_succ]
            refine wpAnyH_take (i := 5) (oi := _) (v := ?_) rfl (by kernel_rfl) (by kernel_rfl) (by kernel_rfl) (fun _ _ _ h => h) (Or.inl ⟨by rfl, ?_⟩) hHeld ?_
            rotate_left 1
            · (intro w hSw; (try dsimp only at hSw); go_simp; (try with_reducible rfl))
            try simp only [List.getElem_toArray, List.getElem_cons_zero, List.getElem_cons_succ, Act.put, List.setIfInBounds_toArray, List.set_cons_zero, List.set_cons_succ]
            refine wpAnyH_take (i := 6) (oi := _) (v := ?_) rfl (by kernel_rfl) (by kernel_rfl) (by kernel_rfl) (fun _ _ _ h => h) (Or.inl ⟨by rfl, ?_⟩) hHeld ?_
            rotate_left 1
            · (intro w hSw; (try dsimp only at hSw); go_simp; (try with_reducible rfl))
            try simp only [List.getElem_toArray, List.getElem_cons_zero, List.getElem_cons_succ, Act.put, List.setIfInBounds_toArray, List.set_cons_zero, List.set_cons_succ]
            refine wpAnyH_take (i := 7) (oi := _) (v := ?_) rfl (by kernel_rfl) (by kernel_rfl) (by kernel_rfl) (fun _ _ _ h => h) (Or.inl ⟨by rfl, ?_⟩) hHeld ?_
            rotate_left 1
            · (intro w hSw; (try dsimp only at hSw); go_simp; (try with_reducible rfl))
            try simp only [List.getElem_toArray, List.getElem_cons_zero, List.getElem_cons_succ, Act.put, List.setIfInBounds_toArray, List.set_cons_zero, List.set_cons_succ]
            refine wpAnyH_take (i := 8) (oi := _) (v := ?_) rfl (by kernel_rfl) (by kernel_rfl) (by kernel_rfl) (fun _ _ _ h => h) (Or.inl ⟨by rfl, ?_⟩) hHeld ?_
            rotate_left 1
            · (intro w hSw; (try dsimp only at hSw); go_simp; (try with_reducible rfl))
            try simp only [List.getElem_toArray, List.getElem_cons_zero, List.getElem_cons_succ, Act.put, List.setIfInBounds_toArray, List.set_cons_zero, List.set_cons_succ]
            refine wpAnyH_take (i := 9) (oi := _) (v := ?_) rfl (by kernel_rfl) (by kernel_rfl) (by kernel_rfl) (fun _ _ _ h => h) (Or.inl ⟨by rfl, ?_⟩) hHeld ?_
            rotate_left 1
            · (intro w hSw; (try dsimp only at hSw); go_simp; (try with_reducible rfl))
            try simp only [List.getElem_toArray, List.getElem_cons_zero, List.getElem_cons_succ, Act.put, List.setIfInBounds_toArray, List.set_cons_zero, List.set_cons_succ]
            refine wpAnyH_take (i := 10) (oi := _) (v := ?_) rfl (by kernel_rfl) (by kernel_rfl) (by kernel_rfl) (fun _ _ _ h => h) (Or.inl ⟨by rfl, ?_⟩) hHeld ?_
            rotate_left 1
            · (intro w hSw; (try dsimp only at hSw); go_simp; (try with_reducible rfl))
            try simp only [List.getElem_toArray, List.getElem_cons_zero, List.getElem_cons_succ, Act.put, List.setIfInBounds_toArray, List.set_cons_zero, List.set_cons_succ]
            refine wpAnyH_take (i := 11) (oi := _) (v := ?_) rfl (by kernel_rfl) (by kernel_rfl) (by kernel_rfl) (fun _ _ _ h => h) (Or.inl ⟨by rfl, ?_⟩) hHeld ?_
            rotate_left 1
            · (intro w hSw; (try dsimp only at hSw); go_simp; (try with_reducible rfl))
            try simp only [List.getElem_toArray, List.getElem_cons_zero, List.getElem_cons_succ, Act.put, List.setIfInBounds_toArray, List.set_cons_zero, List.set_cons_succ]
            refine wpAnyH_take (i := 12) (oi := _) (v := undef) rfl (by kernel_rfl) (by kernel_rfl) (by kernel_rfl) (fun _ _ _ h => h) (Or.inr ⟨by rfl, rfl⟩) hHeld ?_
            try simp only [List.getElem_toArray, List.getElem_cons_zero, List.getElem_cons_succ, Act.put, List.setIfInBounds_toArray, List.set_cons_zero, List.set_cons_succ]
            refine wpAnyH_take (i := 13) (oi := _) (v := undef) rfl (by kernel_rfl) (by kernel_rfl) (by kernel_rfl) (fun _ _ _ h => h) (Or.inr ⟨by rfl, rfl⟩) hHeld ?_
            try simp only [List.getElem_toArray, List.getElem_cons_zero, List.getElem_cons_succ, Act.put, List.setIfInBounds_toArray, List.set_cons_zero, List.set_cons_succ]
            refine wpAnyH_take (i := 14) (oi := _) (v := undef) rfl (by kernel_rfl) (by kernel_rfl) (by kernel_rfl) (fun _ _ _ h => h) (Or.inr ⟨by rfl, rfl⟩) hHeld ?_
            try simp only [List.getElem_toArray, List.getElem_cons_zero, List.getElem_cons_succ, Act.put, List.setIfInBounds_toArray, List.set_cons_zero, List.set_cons_succ]
            refine wpAnyH_take (i := 15) (oi := _) (v := undef) rfl (by kernel_rfl) (by kernel_rfl) (by kernel_rfl) (fun _ _ _ h => h) (Or.inr ⟨by rfl, rfl⟩) hHeld ?_
            try simp only [List.getElem_toArray, List.getElem_cons_zero, List.getElem_cons_succ, Act.put, List.setIfInBounds_toArray, List.set_cons_zero, List.set_cons_succ]
            refine wpAnyH_take (i := 16) (oi := _) (v := undef) rfl (by kernel_rfl) (by kernel_rfl) (by kernel_rfl) (fun _ _ _ h => h) (Or.inr ⟨by rfl, rfl⟩) hHeld ?_
            try simp only [List.getElem_toArray, List.getElem_cons_zero, List.getElem_cons_succ, Act.put, List.setIfInBounds_toArray, List.set_cons_zero, List.set_cons_succ]
            refine wpAnyH_take (i := 17) (oi := _) (v := undef) rfl (by kernel_rfl) (by kernel_rfl) (by kernel_rfl) (fun _ _ _ h => h) (Or.inr ⟨by rfl, rfl⟩) hHeld ?_
            try simp only [List.getElem_toArray, List.getElem_cons_zero, List.getElem_cons_succ, Act.put, List.setIfInBounds_toArray, List.set_cons_zero, List.set_cons_succ]
            refine wpAnyH_take (i := 18) (oi := _) (v := undef) rfl (by kernel_rfl) (by kernel_rfl) (by kernel_rfl) (fun _ _ _ h => h) (Or.inr ⟨by rfl, rfl⟩) hHeld ?_
            try simp only [List.getElem_toArray, List.getElem_cons_zero, List.getElem_cons_succ, Act.put, List.setIfInBounds_toArray, List.set_cons_zero, List.set_cons_succ]
            refine wpAnyH_take (i := 19) (oi := _) (v := ?_) rfl (by kernel_rfl) (by kernel_rfl) (by kernel_rfl) (fun _ _ _ h => h) (Or.inl ⟨by rfl, ?_⟩) hHeld ?_
            rotate_left 1
            · (intro w hSw; (try dsimp only at hSw); go_simp; (try with_reducible rfl))
            try simp only [List.getElem_toArray, List.getElem_cons_zero, List.getElem_cons_succ, Act.put, List.setIfInBounds_toArray, List.set_cons_zero, List.set_cons_succ]
            refine wpAnyH_done (by kernel_rfl) ?_ _
            skip
            go_wp2_with fail
            go_meet
            exact ⟨true, rfl, ⟨fun _ => HNG.out, fun _ => rfl⟩, (Below.refl _ wo).drew⟩
          · have HGA : Hid (GoodI I x ↔ ApartI I S.out) := Lib.hid (HGOOD.out.1.trans ⟨fun h => h.2.2, fun h => ⟨(by first | rfl | trivial), h1, h⟩⟩)
            have d1 : ¬ (1 : Int) < (hh : Int) := by omega
            have d2 : ¬ 1 < hh := by omega
            have d3 : decide (1 < hh) = false := decide_eq_false d2
            clear HGOOD h1
            refine wp_region_held_drew (S := fun w' => (w'.cell? ⟨q, 7, none⟩ = some (.bool false) ∧ w'.cell? ⟨q, 6, none⟩ = some (.int .i64 ((hh : Nat) : Int)) ∧ w'.cell? ⟨q, 5, none⟩ = some (.slice la ol lc) ∧ w'.cell? ⟨w.heap.size, 0, none⟩ = some (.slice (some ⟨pb, po, none⟩) n c) ∧ w'.cell? ⟨w.heap.size, 1, none⟩ = some (.int .i64 (s0 : Int)) ∧ w'.cell? ⟨w.heap.size, 2, none⟩ = some (.int .i64 cp))) (by kernel_rfl) (hS0) (fun hHeld => ?_)
            refine wpAnyH_take (i := 0) (oi := _) (v := ?_) rfl (by kernel_rfl) (by kernel_rfl) (by kernel_rfl) (fun _ _ _ h => h) (Or.inl ⟨by rfl, ?_⟩) hHeld ?_
            rotate_left 1
            · (intro w hSw; (try dsimp only at hSw); have e0 := hSw.1; have e1 := hSw.2.1; have e2 := hSw.2.2.1; have e3 := hSw.2.2.2.1; have e4 := hSw.2.2.2.2.1; have e5 := hSw.2.2.2.2.2; go_simp; (try with_reducible rfl))
            try simp only [List.getElem_toArray, List.getElem_cons_zero, Act.put, List.setIfInBounds_toArray, List.set_cons_zero, List.set_cons_succ]
            refine wpAnyH_take (i := 1) (oi := _) (v := ?_) rfl (by kernel_rfl) (by kernel_rfl) (by kernel_rfl) (fun _ _ _ h => h) (Or.inl ⟨by rfl, ?_⟩) hHeld ?_
            rotate_left 1
            · (intro w hSw; (try dsimp only at hSw); have e0 := hSw.1; have e1 := hSw.2.1; have e2 := hSw.2.2.1; have e3 := hSw.2.2.2.1; have e4 := hSw.2.2.2.2.1; have e5 := hSw.2.2.2.2.2; go_simp; (try with_reducible rfl))
            try simp only [List.getElem_toArray, List.getElem_cons_zero, List.getElem_cons_succ, Act.put, List.setIfInBounds_toArray, List.set_cons_zero, List.set_cons_succ]
            refine wpAnyH_take (i := 2) (oi := _) (v := ?_) rfl (by kernel_rfl) (by kernel_rfl) (by kernel_rfl) (fun _ _ _ h => h) (Or.inl ⟨by rfl, ?_⟩) hHeld ?_
            rotate_left 1
            · (intro w hSw; (try dsimp only at hSw); have e0 := hSw.1; have e1 := hSw.2.1; have e2 := hSw.2.2.1; have e3 := hSw.2.2.2.1; have e4 := hSw.2.2.2.2.1; have e5 := hSw.2.2.2.2.2; go_simp; (try with_reducible rfl))
            try simp only [List.getElem_toArray, List.getElem_cons_zero, List.getElem_cons_succ, Act.put, List.setIfInBounds_toArray, List.set_cons_zero, List.set_cons_succ]
            refine wpAnyH_take (i := 3) (oi := _) (v := ?_) rfl (by kernel_rfl) (by kernel_rfl) (by kernel_rfl) (fun _ _ _ h => h) (Or.inl ⟨by rfl, ?_⟩) hHeld ?_
            rotate_left 1
            · (intro w hSw; (try dsimp only at hSw); have e0 := hSw.1; have e1 := hSw.2.1; have e2 := hSw.2.2.1; have e3 := hSw.2.2.2.1; have e4 := hSw.2.2.2.2.1; have e5 := hSw.2.2.2.2.2; go_simp; (try with_reducible rfl))
            try simp only [List.getElem_toArray, List.getElem_cons_zero, List.getElem_cons_succ, Act.put, List.setIfInBounds_toArray, List.set_cons_zero, List.set_cons_succ]
            refine wpAnyH_take (i := 4) (oi := _) (v := ?_) rfl (by kernel_rfl) (by kernel_rfl) (by kernel_rfl) (fun _ _ _ h => h) (Or.inl ⟨by rfl, ?_⟩) hHeld ?_
            rotate_left 1
            · (intro w hSw; (try dsimp only at hSw); have e0 := hSw.1; have e1 := hSw.2.1; have e2 := hSw.2.2.1; have e3 := hSw.2.2.2.1; have e4 := hSw.2.2.2.2.1; have e5 := hSw.2.2.2.2.2; go_simp; (try with_reducible rfl))
            try simp only [List.getElem_toArray, List.getElem_cons_zero, List.getElem_cons_succ, Act.put, List.setIfInBounds_toArray, List.set_cons_zero, List.set_cons_succ]
            refine wpAnyH_take (i := 5) (oi := _) (v := ?_) rfl (by kernel_rfl) (by kernel_rfl) (by kernel_rfl) (fun _ _ _ h => h) (Or.inl ⟨by rfl, ?_⟩) hHeld ?_
            rotate_left 1
            · (intro w hSw; (try dsimp only at hSw); have e0 := hSw.1; have e1 := hSw.2.1; have e2 := hSw.2.2.1; have e3 := hSw.2.2.2.1; have e4 := hSw.2.2.2.2.1; have e5 := hSw.2.2.2.2.2; go_simp; (try with_reducible rfl))
            try simp only [List.getElem_toArray, List.getElem_cons_zero, List.getElem_cons_succ, Act.put, List.setIfInBounds_toArray, List.set_cons_zero, List.set_cons_succ]
            refine wpAnyH_take (i := 6) (oi := _) (v := ?_) rfl (by kernel_rfl) (by kernel_rfl) (by kernel_rfl) (fun _ _ _ h => h) (Or.inl ⟨by rfl, ?_⟩) hHeld ?_
            rotate_left 1
            · (intro w hSw; (try dsimp only at hSw); have e0 := hSw.1; have e1 := hSw.2.1; have e2 := hSw.2.2.1; have e3 := hSw.2.2.2.1; have e4 := hSw.2.2.2.2.1; have e5 := hSw.2.2.2.2.2; go_simp; (try with_reducible rfl))
            try simp only [List.getElem_toArray, List.getElem_cons_zero, List.getElem_cons_succ, Act.put, List.setIfInBounds_toArray, List.set_cons_zero, List.set_cons_succ]
            refine wpAnyH_take (i := 7) (oi := _) (v := ?_) rfl (by kernel_rfl) (by kernel_rfl) (by kernel_rfl) (fun _ _ _ h => h) (Or.inl ⟨by rfl, ?_⟩) hHeld ?_
            rotate_left 1
            · (intro w hSw; (try dsimp only at hSw); have e0 := hSw.1; have e1 := hSw.2.1; have e2 := hSw.2.2.1; have e3 := hSw.2.2.2.1; have e4 := hSw.2.2.2.2.1; have e5 := hSw.2.2.2.2.2; go_simp; (try with_reducible rfl))
            try simp only [List.getElem_toArray, List.getElem_cons_zero, List.getElem_cons_succ, Act.put, List.setIfInBounds_toArray, List.set_cons_zero, List.set_cons_succ]
            refine wpAnyH_take (i := 8) (oi := _) (v := ?_) rfl (by kernel_rfl) (by kernel_rfl) (by kernel_rfl) (fun _ _ _ h => h) (Or.inl ⟨by rfl, ?_⟩) hHeld ?_
            rotate_left 1
            · (intro w hSw; (try dsimp only at hSw); have e0 := hSw.1; have e1 := hSw.2.1; have e2 := hSw.2.2.1; have e3 := hSw.2.2.2.1; have e4 := hSw.2.2.2.2.1; have e5 := hSw.2.2.2.2.2; go_simp; (try with_reducible rfl))
            try simp only [List.getElem_toArray, List.getElem_cons_zero, List.getElem_cons_succ, Act.put, List.setIfInBounds_toArray, List.set_cons_zero, List.set_cons_succ]
            refine wpAnyH_take (i := 9) (oi := _) (v := ?_) rfl (by kernel_rfl) (by kernel_rfl) (by kernel_rfl) (fun _ _ _ h => h) (Or.inl ⟨by rfl, ?_⟩) hHeld ?_
            rotate_left 1
            · (intro w hSw; (try dsimp only at hSw); have e0 := hSw.1; have e1 := hSw.2.1; have e2 := hSw.2.2.1; have e3 := hSw.2.2.2.1; have e4 := hSw.2.2.2.2.1; have e5 := hSw.2.2.2.2.2; go_simp; (try with_reducible rfl))
            try simp only [List.getElem_toArray, List.getElem_cons_zero, List.getElem_cons_succ, Act.put, List.setIfInBounds_toArray, List.set_cons_zero, List.set_cons_succ]
            refine wpAnyH_take (i := 10) (oi := _) (v := ?_) rfl (by kernel_rfl) (by kernel_rfl) (by kernel_rfl) (fun _ _ _ h => h) (Or.inl ⟨by rfl, ?_⟩) hHeld ?_
            rotate_left 1
            · (intro w hSw; (try dsimp only at hSw); have e0 := hSw.1; have e1 := hSw.2.1; have e2 := hSw.2.2.1; have e3 := hSw.2.2.2.1; have e4 := hSw.2.2.2.2.1; have e5 := hSw.2.2.2.2.2; go_simp; (try with_reducible rfl))
            try simp only [List.getElem_toArray, List.getElem_cons_zero, List.getElem_cons_succ, Act.put, List.setIfInBounds_toArray, List.set_cons_zero, List.set_cons_succ]
            refine wpAnyH_take (i := 11) (oi := _) (v := ?_) rfl (by kernel_rfl) (by kernel_rfl) (by kernel_rfl) (fun _ _ _ h => h) (Or.inl ⟨by rfl, ?_⟩) hHeld ?_
            rotate_left 1
            · (intro w hSw; (try dsimp only at hSw); have e0 := hSw.1; have e1 := hSw.2.1; have e2 := hSw.2.2.1; have e3 := hSw.2.2.2.1; have e4 := hSw.2.2.2.2.1; have e5 := hSw.2.2.2.2.2; go_simp; (try with_reducible rfl))
            try simp only [List.getElem_toArray, List.getElem_cons_zero, List.getElem_cons_succ, Act.put, List.setIfInBounds_toArray, List.set_cons_zero, List.set_cons_succ]
            refine wpAnyH_take (i := 12) (oi := _) (v := ?_) rfl (by kernel_rfl) (by kernel_rfl) (by kernel_rfl) (fun _ _ _ h => h) (Or.inl ⟨by rfl, ?_⟩) hHeld ?_
            rotate_left 1
            · (intro w hSw; (try dsimp only at hSw); have e0 := hSw.1; have e1 := hSw.2.1; have e2 := hSw.2.2.1; have e3 := hSw.2.2.2.1; have e4 := hSw.2.2.2.2.1; have e5 := hSw.2.2.2.2.2; go_simp; (try with_reducible rfl))
            try simp only [List.getElem_toArray, List.getElem_cons_zero, List.getElem_cons_succ, Act.put, List.setIfInBounds_toArray, List.set_cons_zero, List.set_cons_succ]
            refine wpAnyH_take (i := 13) (oi := _) (v := ?_) rfl (by kernel_rfl) (by kernel_rfl) (by kernel_rfl) (fun _ _ _ h => h) (Or.inl ⟨by rfl, ?_⟩) hHeld ?_
            rotate_left 1
            · (intro w hSw; (try dsimp only at hSw); have e0 := hSw.1; have e1 := hSw.2.1; have e2 := hSw.2.2.1; have e3 := hSw.2.2.2.1; have e4 := hSw.2.2.2.2.1; have e5 := hSw.2.2.2.2.2; go_simp; (try with_reducible rfl))
            try simp only [List.getElem_toArray, List.getElem_cons_zero, List.getElem_cons_succ, Act.put, List.setIfInBounds_toArray, List.set_cons_zero, List.set_cons_succ]
            refine wpAnyH_take (i := 14) (oi := _) (v := ?_) rfl (by kernel_rfl) (by kernel_rfl) (by kernel_rfl) (fun _ _ _ h => h) (Or.inl ⟨by rfl, ?_⟩) hHeld ?_
            rotate_left 1
            · (intro w hSw; (try dsimp only at hSw); have e0 := hSw.1; have e1 := hSw.2.1; have e2 := hSw.2.2.1; have e3 := hSw.2.2.2.1; have e4 := hSw.2.2.2.2.1; have e5 := hSw.2.2.2.2.2; go_simp; (try with_reducible rfl))
            try simp only [List.getElem_toArray, List.getElem_cons_zero, List.getElem_cons_succ, Act.put, List.setIfInBounds_toArray, List.set_cons_zero, List.set_cons_succ]
            refine wpAnyH_take (i := 15) (oi := _) (v := ?_) rfl (by kernel_rfl) (by kernel_rfl) (by kernel_rfl) (fun _ _ _ h => h) (Or.inl ⟨by rfl, ?_⟩) hHeld ?_
            rotate_left 1
            · (intro w hSw; (try dsimp only at hSw); have e0 := hSw.1; have e1 := hSw.2.1; have e2 := hSw.2.2.1; have e3 := hSw.2.2.2.1; have e4 := hSw.2.2.2.2.1; have e5 := hSw.2.2.2.2.2; go_simp; (try with_reducible rfl))
            try simp only [List.getElem_toArray, List.getElem_cons_zero, List.getElem_cons_succ, Act.put, List.setIfInBounds_toArray, List.set_cons_zero, List.set_cons_succ]
            refine wpAnyH_take (i := 16) (oi := _) (v := ?_) rfl (by kernel_rfl) (by kernel_rfl) (by kernel_rfl) (fun _ _ _ h => h) (Or.inl ⟨by rfl, ?_⟩) hHeld ?_
            rotate_left 1
            · (intro w hSw; (try dsimp only at hSw); have e0 := hSw.1; have e1 := hSw.2.1; have e2 := hSw.2.2.1; have e3 := hSw.2.2.2.1; have e4 := hSw.2.2.2.2.1; have e5 := hSw.2.2.2.2.2; go_simp; (try with_reducible rfl))
            try simp only [List.getElem_toArray, List.getElem_cons_zero, List.getElem_cons_succ, Act.put, List.setIfInBounds_toArray, List.set_cons_zero, List.set_cons_succ]
            refine wpAnyH_ready (rs := [17]) (by kernel_rfl) (by simp) ?_
            refine AllReadyH.cons (o := _) rfl (fun K hK => ?_) ?_
            · go_simp
              refine HAP.out.mono ?_
              rintro e W8 ⟨b, rfl, hb, hb8⟩
              have HB8 : Hid (Below wo.heap.size wo W8) := Lib.hid (below_of_drew hb8)
              have HBB := Lib.hid hb
              have hS8 : W8.cell? ⟨q, 7, none⟩ = some (.bool false) ∧ W8.cell? ⟨q, 6, none⟩ = some (.int .i64 ((hh : Nat) : Int)) ∧ W8.cell? ⟨q, 5, none⟩ = some (.slice la ol lc) ∧ W8.cell? ⟨w.heap.size, 0, none⟩ = some (.slice (some ⟨pb, po, none⟩) n c) ∧ W8.cell? ⟨w.heap.size, 1, none⟩ = some (.int .i64 (s0 : Int)) ∧ W8.cell? ⟨w.heap.size, 2, none⟩ = some (.int .i64 cp) := ⟨cell_on hb8 hS0.1, cell_on hb8 hS0.2.1, cell_on hb8 hS0.2.2.1, cell_on hb8 hS0.2.2.2.1, cell_on hb8 hS0.2.2.2.2.1, cell_on hb8 hS0.2.2.2.2.2⟩
              clear hb hb8
              go_wp2_with fail
              refine hK.out _ _ (hS8) (fun hHeld => ?_)
              clear hK K
              try simp only [List.getElem_toArray, List.getElem_cons_zero, List.getElem_cons_succ, Act.put, List.setIfInBounds_toArray, List.set_cons_zero, List.set_cons_succ]
              refine wpAnyH_take (i := 18) (oi := _) (v := ?_) rfl (by kernel_rfl) (by kernel_rfl) (by kernel_rfl) (fun _ _ _ h => h) (Or.inl ⟨by rfl, ?_⟩) hHeld ?_
              rotate_left 1
              · (intro w hSw; (try dsimp only at hSw); have e0 := hSw.1; have e1 := hSw.2.1; have e2 := hSw.2.2.1; have e3 := hSw.2.2.2.1; have e4 := hSw.2.2.2.2.1; have e5 := hSw.2.2.2.2.2; go_simp; (try with_reducible rfl))
              try simp only [List.getElem_toArray, List.getElem_cons_zero, List.getElem_cons_succ, Act.put, List.setIfInBounds_toArray, List.set_cons_zero, List.set_cons_succ]
              refine wpAnyH_take (i := 19) (oi := _) (v := ?_) rfl (by kernel_rfl) (by kernel_rfl) (by kernel_rfl) (fun _ _ _ h => h) (Or.inl ⟨by rfl, ?_⟩) hHeld ?_
              rotate_left 1
              · (intro w hSw; (try dsimp only at hSw); have e0 := hSw.1; have e1 := hSw.2.1; have e2 := hSw.2.2.1; have e3 := hSw.2.2.2.1; have e4 := hSw.2.2.2.2.1; have e5 := hSw.2.2.2.2.2; go_simp; (try with_reducible rfl))
              try simp only [List.getElem_toArray, List.getElem_cons_zero, List.getElem_cons_succ, Act.put, List.setIfInBounds_toArray, List.set_cons_zero, List.set_cons_succ]
              refine wpAnyH_done (by kernel_rfl) ?_ _
              go_wp2_with fail
              go_meet
              refine ⟨!b, rfl, ?_, HB8.out⟩
              rw [HGA.out, ← HBB.out]
              cases b <;> simp
            exact AllReadyH.nil
        case rest =>
          obtain ⟨b, rfl, hb, hbx⟩ := hcut
          have HBX := Lib.hid hbx
          cases b
          rotate_left
          · have HNG := Lib.hid (hb.1 rfl)
            clear hb hbx HAP
            go_wp2_with fail
            go_ret
            refine ⟨false, rfl, ⟨fun h => (by cases h), fun h => ?_⟩, below_steps HB1.out (HBC.out.trans (HBX.out.mono HBC.out.size))⟩
            have ht := HQ.out.todo x (by simp)
            exact absurd (HT.out.1 h x (HQ.out.reach x ht.1 ht.2)) HNG.out
          have hg : GoodI I x := Classical.byContradiction fun h => (by have := hb.2 h; cases this)
          obtain ⟨l, hul, hout⟩ := HGOOD.out.2 (HGOOD.out.1.1 hg).1
          have hq2 := que_step HQ.out (pc := x) (todo := rest) (by simp) (fun i hi => by
            rcases List.mem_cons.1 hi with hi | hi
            · exact .inl hi
            · exact .inr hi) (fun i hi => by simp [hi]) hg hul
          rw [← hout] at hq2
          simp only at hq2
          have hsets : ∀ y ∈ S.out, isSet I y = true := fun y hy => by
            rw [hout] at hy
            exact (List.mem_filter.1 hy).2
          have HQ2 := Lib.hid hq2; have HSETS := Lib.hid hsets
          have hrow := HRC.out.below hbx
          have hdn := HDC.out.below hbx HDC.out.lt
          have hbox := HWY.out.box.below hbx HWY.out.box.lt
          have hlv := HWY.out.own.below hbx
          have hdis : ∀ j, (Value.slice la ol lc).ownBlock = some j → (Value.slice ta k (tc - 1)).ownBlock ≠ some j := fun j h1 h2 => by
            have h3 := (HREST.out.lt h2).2
            have h4 := (oown_lt HWY.out.own h1).1
            have h5 : wr.drew.heap.size = wr.heap.size := rfl
            omega
          have HROW := Lib.hid hrow; have HDN2 := Lib.hid hdn; have HBOX := Lib.hid hbox; have HLV := Lib.hid hlv; have HDIS := Lib.hid hdis
          have HBCC := Lib.hid (HBC.out.trans (hbx.mono HBC.out.size))
          have holn : ol ≤ 1000000 := by
            have := HWY.out.few
            have h1 := HOL.out
            have h2 := HNN.out
            omega
          have HOLN := Lib.hid holn
          clear hb hbx HAP hg hul hout hq2 hsets hrow hdn hbox hlv hdis holn c5 c6 c7 g0 g1 g2 HGOOD
          go_upto_region 15 with (fail)
          obtain ⟨cs, hcs⟩ : ∃ cs, #[Value.slice (some ⟨pb, po, none⟩) n c, .int .i64 ((s0 : Nat) : Int), .int .i64 cp, .bool true, .slice (some ⟨g, 0, none⟩) n n, .slice la ol lc, .int .i64 ((S.hits : Nat) : Int), .bool S.twice] = cs := ⟨_, rfl⟩
          have HC5 : Hid (cs[5]? = some (.slice la ol lc)) := Lib.hid (by rw [← hcs]; rfl)
          have HBOX2 : Hid (Whole wc q 107 cs) := Lib.hid (by rw [← hcs]; exact HBOX.out)
          clear hcs HBOX
          obtain ⟨wz, rfl⟩ : ∃ W, W = wr := ⟨_, rfl⟩
          go_loopw [4, 6] (fun t4 t6 w' => ∃ (i : Nat) (tv : Value) (dn : List Bool) (td : List Nat), i ≤ ol ∧ t6 = .int .i64 i ∧ t4 = tv ∧ (dn, td) = pushAll ((S.out.take i).map fun k => (atI I k).out.toNat) (done, rest) ∧ OwnQ w' w1.heap.size tv td ∧ Whole w' w4.heap.size 4 (dn.map Value.bool).toArray ∧ Whole w' q 107 cs ∧ OwnZ w' wz.drew.heap.size (.slice la ol lc) (natsO S.out) ∧ (∀ j, (Value.slice la ol lc).ownBlock = some j → tv.ownBlock ≠ some j) ∧ Below w1.heap.size w1 w') (fun _ t6 _ => ol - (intOf t6).toNat)
          case atStart => exact ⟨0, _, _, _, Nat.zero_le _, rfl, rfl, rfl, HROW.out, HDN2.out, HBOX2.out, HLV.out, HDIS.out, HBCC.out⟩
          case round =>
            clear HROW HDN2 HBOX2 HLV HDIS HBCC
            obtain ⟨i, tv, dn, td, hi, rfl, rfl, hpq, hrow, hdn, hbox, hlv, hdis, hbel⟩ := hrel
            have HROW := Lib.hid hrow; have HDN2 := Lib.hid hdn; have HBOX2 := Lib.hid hbox; have HLV := Lib.hid hlv; have HDIS := Lib.hid hdis; have HBEL := Lib.hid hbel; have HPQ := Lib.hid hpq
            have b5 : wr.cell? ⟨q, 5, none⟩ = some (.slice la ol lc) := (hbox.cell 5).trans HC5.out
            have hiN : i ≤ 1000000 := by have := HOLN.out; omega
            have hdnl : dn.length = n := by
              have := congrArg (fun z => z.1.length) hpq
              simp only [pushAll_len] at this
              rw [this]
              exact HDL.out
            have htdl : dn.count false + td.length = done.count false + rest.length := by
              have := pushAll_count ((S.out.take i).map fun k => (atI I k).out.toNat) (done, rest)
              rw [← hpq] at this
              exact this
            have HDNL := Lib.hid hdnl; have HTDL := Lib.hid htdl
            obtain ⟨tb2, to2, tc2, cur2, htv, -⟩ := id hrow
            obtain ⟨tl, htl⟩ : ∃ tl, td.length = tl := ⟨_, rfl⟩
            rw [htl] at htv
            subst htv
            have HTL := Lib.hid htl
            clear hrow hdn hbox hlv hdis hbel hpq hdnl htdl htl
            by_cases him : i < ol
            rotate_left
            · have hz : ¬ (i : Int) < (ol : Int) := by omega
              have HIO : Hid (i = ol) := Lib.hid (by omega)
              clear him hi
              go_wp2_with fail
              have hfull : (dn, td) = pushAll (S.out.map fun k => (atI I k).out.toNat) (done, rest) := by
                have := HPQ.out
                rwa [HIO.out, List.take_of_length_le (Nat.le_of_eq HOL.out)] at this
              have hgk := HGK.out
              have hgn := HGN.out
              have htd := HTDL.out
              simp only [List.length_cons] at hgk
              go_roundg (gk - 1)
              case measure => omega
              case rel => exact ⟨_, dn, td, rfl, HROW.out, HDN2.out, HDNL.out, by rw [hfull]; exact HQ2.out, by omega, by omega, HBEL.out⟩
            have hz : (i : Int) < (ol : Int) := by omega
            have hil : i < S.out.length := by rw [HOL.out]; exact him
            obtain ⟨y, hy⟩ : ∃ y, S.out[i] = y := ⟨_, rfl⟩
            have hys : isSet I y = true := HSETS.out y (by rw [← hy]; exact List.getElem_mem hil)
            have hyn : y < n := by
              have := HOUT.out y (by rw [← hy]; exact List.getElem_mem hil)
              rw [HN.out] at this
              exact this
            obtain ⟨b2, o2, xi, xa, xl, xc, hA, hxi, hxm, hxl, hxat, hxF, -, -, -⟩ := HIS.out.at' y (by rw [HN.out]; exact hyn)
            injection hA with hA
            injection hA with hA1 hA2
            subst hA1 hA2
            have hun : (atI I y).out.toNat < n := by
              have := outs_lt HR.out hys
              simp only at this
              rw [HN.out] at this
              exact this
            have hu0 : xi.out = ((atI I y).out.toNat : Int) := by
              have h1 := HR.out.2.2.2.2.2.2 xi hxm
              have h2 : xi.op = 2 := by
                unfold isSet at hys
                rw [hxat] at hys
                exact of_decide_eq_true hys
              rw [hxat]
              unfold SoundI PlaceI at h1
              omega
            obtain ⟨u, hu⟩ : ∃ u, (atI I y).out.toNat = u := ⟨_, rfl⟩
            rw [hu] at hun hu0
            obtain ⟨-, k1, -, -, -⟩ := hxF.below (below_steps HB1.out HBEL.out)
            rw [hu0] at k1
            obtain ⟨lg, hla⟩ : ∃ lg, la = some ⟨lg, 0, none⟩ := by
              rcases own_sliceZ HLV.out.1 with ⟨-, h0⟩ | ⟨g, c, h, -⟩
              · rw [natsO_len, HOL.out] at h0
                omega
              · injection h with h
                exact ⟨g, h⟩
            subst hla
            obtain ⟨l0, -⟩ := HLV.out.at' i (by rw [natsO_len]; exact hil)
            have hl0 : (natsO S.out)[i]'(by rw [natsO_len]; exact hil) = (y : Int) := by
              rw [← hy]
              simp [natsO]
            rw [hl0] at l0
            have w0 := (HF.out wr HBEL.out).1
            have hyz : (y : Int) < (n : Int) := by omega
            have hps : pushAll ((S.out.take (i + 1)).map fun k => (atI I k).out.toNat) (done, rest) = pushQ u (dn, td) := by
              rw [List.take_succ_eq_append_getElem hil, List.map_append, pushAll_app, ← HPQ.out, hy]
              show pushQ (atI I y).out.toNat (dn, td) = _
              rw [hu]
            have HPS := Lib.hid hps; have HUN := Lib.hid hun; have HIM := Lib.hid him
            have huz : (u : Int) < (n : Int) := by omega
            clear hi hz hys hxi hxm hxl hxat hxF hu0 hu hl0 hps hy hil
            have hz : (i : Int) < (ol : Int) := by omega
            clear him hun hyn
            go_wp2_with fail
            go_big_quiet (fail)
            have hbq := below_draws wr nq
            have HROW9 := Lib.hid (HROW.out.below hbq); have HDN9 := Lib.hid (HDN2.out.below hbq HDN2.out.lt); have HBOX9 := Lib.hid (HBOX2.out.below hbq HBOX2.out.lt); have HLV9 := Lib.hid (HLV.out.below hbq); have HBEL9 := Lib.hid (HBEL.out.trans (hbq.mono HBEL.out.size))
            generalize wr.drewN nq = w9 at HROW9 HDN9 HBOX9 HLV9 HBEL9 ⊢
            clear hbq b5 k1 l0 w0 HROW HDN2 HBOX2 HLV HBEL
            obtain ⟨dx, hdx⟩ : ∃ dx, dn[u]'(by rw [HDNL.out]; exact HUN.out) = dx := ⟨_, rfl⟩
            have d0 := obools_at HDN9.out u (by rw [HDNL.out]; exact HUN.out)
            rw [hdx] at d0
            have hnw : newB dn u = !dx := by
              unfold newB
              rw [List.getD_eq_getElem?_getD, List.getElem?_eq_getElem (by rw [HDNL.out]; exact HUN.out), hdx]
              rfl
            have HNW := Lib.hid hnw
            clear hdx hnw
            cases dx
            rotate_left
            · go_wp2_with fail
              go_roundw
              case rel =>
                refine ⟨i + 1, _, dn, td, HIM.out, by go_num, rfl, ?_, HROW9.out, HDN9.out, HBOX9.out, HLV9.out, HDIS.out, HBEL9.out⟩
                rw [HPS.out]
                unfold pushQ
                rw [HNW.out]
                rfl
              case measure => simp [intOf]; have := HIM.out; omega
            have z0 := HDN9.out.free u
            have hst : Whole (w9.setCell ⟨w4.heap.size, u, none⟩ (.bool true)) w4.heap.size 4 ((dn.set u true).map Value.bool).toArray := by
              rw [← obools_set]
              exact HDN9.out.store u _
            have hne1 := HROW9.out.ne HDN9.out (by decide)
            have hr1 : OwnQ (w9.setCell ⟨w4.heap.size, u, none⟩ (.bool true)) w1.heap.size (.slice (some ⟨tb2, to2, none⟩) tl tc2) td := HROW9.out.kept fun j hj => Below.heap_setCell w9 _ _ j (fun e => hne1 (by rw [hj, e]))
            have hbx1 := HBOX9.out.far (ne_types HBOX9.out HDN9.out (by decide)) u (.bool true)
            have hlv1 := oown_set HLV9.out w4.heap.size u (.bool true) (own_whole_ne HLV9.out.1 HDN9.out (by decide))
            have hbl1 : Below w1.heap.size w1 (w9.setCell ⟨w4.heap.size, u, none⟩ (.bool true)) := HBEL9.out.setCell (p := ⟨w4.heap.size, u, none⟩) HGD.out _
            have HST := Lib.hid hst; have HR1 := Lib.hid hr1; have HBX1 := Lib.hid hbx1; have HLV1 := Lib.hid hlv1; have HBL1 := Lib.hid hbl1
            clear hst hr1 hbx1 hlv1 hbl1 hne1
            go_upto_region 20 with (fail)
            generalize w9.setCell ⟨w4.heap.size, u, none⟩ (.bool true) = wA at HST HR1 HBX1 HLV1 HBL1 ⊢
            clear d0 z0 HROW9 HDN9 HBOX9 HLV9 HBEL9
            have hbB : Below wA.heap.size wA (wA.alloc (.cells #[.int .i64 (u : Int)] 3)) := (Below.refl _ wA).alloc (Nat.le_refl _) _
            have HRB := Lib.hid (HR1.out.below hbB)
            have HCE := Lib.hid (box_at wA 3 #[.int .i64 (u : Int)] 0 (.int .i64 (u : Int)) rfl)
            have HBB := Lib.hid hbB
            have hszB : w1.heap.size ≤ (wA.alloc (.cells #[.int .i64 (u : Int)] 3)).heap.size := by rw [World.size_alloc]; have := HBL1.out.size; omega
            have HSZB := Lib.hid hszB
            have htn : td.length + 1 ≤ 1000000 := by
              have h1 := HTDL.out
              have h2 := HGK.out
              have h3 := HGN.out
              have h4 := HNN.out
              simp only [List.length_cons] at h2
              omega
            have HTN := Lib.hid htn
            clear hbB hszB htn
            go_wp2_with (at_builtin; refine append_q rfl (.tmp 98) (.tmp 100) rfl w1.heap.size (.slice (some ⟨tb2, to2, none⟩) tl tc2) td rfl HRB.out wA.heap.size u rfl HCE.out HTN.out HSZB.out ?_)
            intro v' w' ho' hg' hat'
            have hdn' := (HST.out.below HBB.out HST.out.lt).grown hg' (HRB.out.ne (HST.out.below HBB.out HST.out.lt) (by decide))
            have hbx' := (HBX1.out.below HBB.out HBX1.out.lt).grown hg' (HRB.out.ne (HBX1.out.below HBB.out HBX1.out.lt) (by decide))
            have hlv' : OwnZ w' wz.drew.heap.size (.slice (some ⟨lg, 0, none⟩) ol lc) (natsO S.out) := oown_kept (HLV1.out.below HBB.out) fun j hj => hg'.block j (oown_lt (HLV1.out.below HBB.out) hj).2 (fun e => HDIS.out j hj e.symm)
            have hdis' : ∀ j, (Value.slice (some ⟨lg, 0, none⟩) ol lc).ownBlock = some j → v'.ownBlock ≠ some j := fun j hj e => by
              rcases hat' with h | h
              · exact HDIS.out j hj (by rw [← h, e])
              · rw [e] at h
                injection h with h
                have := (oown_lt HLV1.out hj).2
                omega
            have hbl' : Below w1.heap.size w1 w' := (HBL1.out.trans (HBB.out.mono HBL1.out.size)).grown hg' HSZB.out (fun j hj => (HRB.out.lt hj).1)
            have HO := Lib.hid ho'; have HDN' := Lib.hid hdn'; have HBX' := Lib.hid hbx'; have HLV' := Lib.hid hlv'; have HDIS' := Lib.hid hdis'; have HBL' := Lib.hid hbl'
            obtain ⟨b5, o5, c5, cur5, hv5, -⟩ := id ho'
            obtain ⟨ln, hln⟩ : ∃ ln, (td ++ [u]).length = ln := ⟨_, rfl⟩
            rw [hln] at hv5
            subst hv5
            clear hdn' hbx' hlv' hdis' hbl' ho' hg' hat' hln
            go_wp2_with fail
            go_roundw
            case rel =>
              refine ⟨i + 1, _, dn.set u true, td ++ [u], HIM.out, by go_num, rfl, ?_, HO.out, HDN'.out, HBX'.out, HLV'.out, HDIS'.out, HBL'.out⟩
              rw [HPS.out]
              unfold pushQ
              rw [HNW.out]
              rfl
            case measure => simp [intOf]; have := HIM.out; omega
end Go.Proofs.Ytnemacejaiifnaa
