/- Texts merged by program: OePass, OeGo. No condition. -/
import Derived.Test.YtnemacejaiifnaaO9
import Derived.Test.YtnemacejaiifnaaO12
import Derived.Deep.RegionHeld3
import Derived.Deep.RegionWith
set_option linter.unusedVariables false
set_option linter.unusedSimpArgs false
/- A pass: what is read at a place, all ways from an instruction, where the rune leads (the walk by gen15pass.py). No condition. -/
namespace Go.Proofs.Ytnemacejaiifnaa
open Go Go.RowKit

/-- A text of runes as a walk sees it. -/
def textT (R : List Int) : Tx := ⟨fun j => atOf R j, fun j => runeAt R j, R.length, fun a t => bits .and .i64 t a != 0, fun j hj => by
  unfold runeAt
  rw [if_neg (by omega)]
  decide⟩
def RunS (W0 W : World) (q gm gb n : Nat) (IV : Value) (caps : Nat) (iv : Value) (long : Bool) (fv : Value) (rr : Int) (fit : List Int) (got : Option (List Int)) (st : Nat) : Prop :=
  ∃ cs M B lv left mv, WaysIn W0 W q gm gb n IV 139 cs M B rr lv left ∧ RunB W0 W q gm gb cs lv.ownBlock caps iv long fv fit mv got st
def PassPost (W0 : World) (q gm gb n : Nat) (IV : Value) (caps : Nat) (iv : Value) (long : Bool) (fv : Value) (rr : Int) (I : List Ins) (j : Nat) (fit : List Int) (S : Ps) (e : Ending) (W' : World) : Prop :=
  match S.read with
  | none => e = .returned (.int .i64 (-1)) ∧ RunS W0 W' q gm gb n IV caps iv long fv rr fit S.got S.steps
  | some x => e = .returned (.int .i64 (atI I x.1).out) ∧ RunS W0 W' q gm gb n IV caps iv long fv rr (keepI I j x.2 fit) S.got (S.steps + (x.2.length + 1))
/-- The fit of the walk is another one. -/
theorem RunB.fitted {W0 W W' : World} {q gm gb : Nat} {cs cs' : Array Value} {lb : Option Nat} {caps : Nat} {iv : Value} {long : Bool} {fv : Value} {fit fit' : List Int} {mv : Value} {got : Option (List Int)} {st s2 : Nat} {t : TypeId} (h : RunB W0 W q gm gb cs lb caps iv long fv fit mv got st) (hw : Whole W q t cs) (ht : t ≠ 3)
    (hk : ∀ k, k < W.heap.size → k ≠ q → fv.ownBlock ≠ some k → W'.heap[k]? = W.heap[k]?) (hcs : ∀ j, j ≠ 9 → cs'[j]? = cs[j]?) (h9 : cs'[9]? = some (.int .i64 (s2 : Int))) (ho : OwnZ W' W0.heap.size fv fit') (hl : fit'.length = caps) : RunB W0 W' q gm gb cs' lb caps iv long fv fit' mv got s2 :=
  ⟨(hcs 5 (by omega)).trans h.c5, (hcs 6 (by omega)).trans h.c6, (hcs 7 (by omega)).trans h.c7, (hcs 8 (by omega)).trans h.c8, h9, ho, hl, oown_kept h.ownM (fun j hj => hk j (oown_lt h.ownM hj).2 (fun e => h.ne hw ht _ (.inr rfl) (by rw [hj, e])) (fun e => h.fm j e hj)), h.nilM, h.lenM, h.fgm, h.fgb, h.mgm, h.mgb, h.fl, h.ml, h.fm⟩
theorem fold_steps (I : List Ins) (long : Bool) (j : Nat) (r : Int) (fit : List Int) (M : Nat) : ∀ (l : List (Nat × List Nat)) (s : Ps), (∀ x ∈ l, x.2.length ≤ M) → (foldP I long j r fit s l).steps ≤ s.steps + l.length * (fit.length + M + 2)
  | [], s, _ => Nat.le_add_right _ _
  | x :: l, s, h => by
    have h1 := h x (List.mem_cons_self ..)
    have h2 : (stepP I long j r fit s x).steps ≤ s.steps + (fit.length + M + 2) := by
      unfold stepP
      split <;> simp only <;> omega
    have ih := fold_steps I long j r fit M l (stepP I long j r fit s x) fun y hy => h y (List.mem_cons_of_mem _ hy)
    refine Nat.le_trans ih ?_
    simp only [List.length_cons, Nat.add_mul, Nat.one_mul]
    omega
set_option maxHeartbeats 8000000 in
set_option maxRecDepth 100000 in
theorem ppass_any (p : Pg) (hR : RightPg p) (hG : ∀ pc, ReachI p.ins p.start.toNat pc → GoodI p.ins pc) (W0 W : World) (q gm gb n : Nat) (hn : p.ins.length = n) (IV : Value) (hI : Inss W0 IV p.ins) (caps : Nat) (hc : (caps : Int) = p.caps) (B0 : Nat) (k0 : Int) (s : ByteArray) (ib : Nat) (hIn : In W0 B0 k0 s ib)
    (hlen : (runesOf s).length ≤ 1000000) (long : Bool) (fv : Value) (rr : Int) (hrr : rr ≤ 100000000) (fit : List Int) (got : Option (List Int)) (st : Nat) (hst : st ≤ 80000000000) (h : RunS W0 W q gm gb n IV caps (.pointer (some ⟨ib, 0, none⟩)) long fv rr fit got st)
    (pc : Nat) (hr : ReachI p.ins p.start.toNat pc) (j : Nat) (hj : j ≤ (runesOf s).length) (S : Ps) (hS : S = foldP p.ins long j ((textT (runesOf s)).rn j) fit ⟨st, got, none, false⟩ (closI ((textT (runesOf s)).meets ((textT (runesOf s)).at' j)) p.ins pc)) :
    Calls Try.prog 129 #[.pointer (some ⟨q, 0, none⟩), .int .i64 (pc : Int), .int .i64 (j : Int)] W (PassPost W0 q gm gb n IV caps (.pointer (some ⟨ib, 0, none⟩)) long fv (rr + 1) p.ins j fit S) := by
  have eg : ∀ args w, (callFunc 146 args).run Try.prog w = .ok (.enter 146 args) w := enters_of Try.func146 (by kernel_rfl) rfl
  obtain ⟨IA, ic, hIV⟩ : ∃ A c, IV = .slice A n c := by
    obtain ⟨A, c, e, -⟩ := hI
    exact ⟨A, c, by rw [e, hn]⟩
  subst hIV
  obtain ⟨cs, M, B, lv, left, mv, hw, hb⟩ := h
  obtain ⟨c, hcE⟩ : ∃ c, runeAt (runesOf s) j = c := ⟨_, rfl⟩
  obtain ⟨is, hisE⟩ : ∃ is, atOf (runesOf s) j = is := ⟨_, rfl⟩
  obtain ⟨meets, hme⟩ : ∃ m, (textT (runesOf s)).meets ((textT (runesOf s)).at' j) = m := ⟨_, rfl⟩
  have hmt : ∀ t, meets t = (bits .and .i64 t is != 0) := fun t => by rw [← hme, ← hisE]; rfl
  have hrn : (textT (runesOf s)).rn j = c := hcE
  obtain ⟨hU, hND, hVl, hVx, hSt, -, hSr⟩ := pass_is (T := textT (runesOf s)) hR hG hr j fit st got 0 S hS
  rw [hrn, hme] at hS
  rw [hme] at hU hND hVl hVx hSr
  obtain ⟨V, hV⟩ : ∃ V, closI meets p.ins pc = V := ⟨_, rfl⟩
  rw [hV] at hS hU hND hVl hVx hSr
  have hpc : pc < n := by rw [← hn]; exact reach_lt hR hr
  have hVp : ∀ x ∈ V, ∀ a ∈ x.1 :: x.2, a < n := fun x hx a ha => by
    obtain ⟨y, hy, rfl⟩ := List.mem_map.1 (way_mem hU (p := x.1) (ps := x.2) hx a ha)
    rw [← hn]
    exact (hVx y hy).1
  have hnb : n ≤ 10000 := by rw [← hn]; exact hR.2.1
  have hcb : caps ≤ 4002 := by have := hR.2.2.2.2.1; omega
  have hfb : ∀ vis x rest, vis ++ x :: rest = V → (foldP p.ins long j c fit ⟨st, got, none, false⟩ vis).steps ≤ 90000000000 := fun vis x rest e => by
    have h1 := fold_steps p.ins long j c fit 10000 vis ⟨st, got, none, false⟩ (fun y hy => by
      have := (hVx y (by rw [← e]; exact List.mem_append_left _ hy)).2
      omega)
    have h2 : vis.length ≤ 10000 := by
      have := congrArg List.length e
      simp only [List.length_append, List.length_cons] at this
      omega
    have h3 : vis.length * (fit.length + 10000 + 2) ≤ 10000 * (4002 + 10000 + 2) := Nat.mul_le_mul h2 (by rw [hb.lenF]; omega)
    simp only at h1
    omega
  obtain ⟨W1, hW1⟩ : ∃ W1, (W.alloc (.cells #[.pointer (some ⟨q, 0, none⟩)] 165)).alloc (.cells #[.int .i64 (j : Int)] 3) = W1 := ⟨_, rfl⟩
  have z0 : (W.alloc (.cells #[.pointer (some ⟨q, 0, none⟩)] 165)).heap.size = W.heap.size + 1 := World.size_alloc _ _
  have z1 : W1.heap.size = W.heap.size + 1 + 1 := by rw [← hW1, World.size_alloc, z0]
  have b1 : Below W.heap.size W W1 := by rw [← hW1]; exact ((Below.refl _ _).alloc (Nat.le_refl _) _).alloc (by rw [z0]; omega) _
  have rB : Whole W1 W.heap.size 165 #[.pointer (some ⟨q, 0, none⟩)] := by rw [← hW1]; exact Whole.alloc (heap_alloc_new W _) _
  have aB : Whole W1 (W.heap.size + 1) 3 #[.int .i64 (j : Int)] := by rw [← hW1, ← z0]; exact heap_alloc_new _ _
  have hw1 := hw.below b1
  have RB := Lib.hid rB; have AB := Lib.hid aB; have QB := Lib.hid hw1.box; have QC := Lib.hid hb.c5
  have hIn1 : ∀ w', Below W1.heap.size W1 w' → In w' B0 k0 s ib := fun w' hb' => hIn.keep fun i _ hi => by
    have h1 : i < W1.heap.size := by have := hw1.bel.size; omega
    exact (hb'.block i h1).trans (hw1.bel.block i hi)
  have HRU : Hid (∀ w', Below W1.heap.size W1 w' → Calls Try.prog 44 #[.pointer (some ⟨ib, 1, none⟩), .int .i64 (j : Int)] w' fun e w'' => e = .returned (.int .i32 c) ∧ w' = w'') := Lib.hid fun w' hb' => by
    have := rune_any (hIn1 w' hb') (j : Int)
    rwa [hcE] at this
  have HAU : Hid (∀ w', Below W1.heap.size W1 w' → Calls Try.prog 115 #[.pointer (some ⟨ib, 1, none⟩), .int .i64 (j : Int)] w' fun e w'' => e = .returned (.int .i64 is) ∧ w' = w'') := Lib.hid fun w' hb' => by
    have := at_in (hIn1 w' hb') (j : Int) (by omega) (by omega)
    rwa [hisE] at this
  have HW := Lib.hid hw; have HB := Lib.hid hb; have HW1 := Lib.hid hW1; have HB1 := Lib.hid b1; have HZ1 := Lib.hid z1
  have HR := Lib.hid hR; have HN := Lib.hid hn; have HI := Lib.hid hI; have HC := Lib.hid hc; have HST := Lib.hid hst; have HS := Lib.hid hS; have HV := Lib.hid hV; have HU := Lib.hid hU; have HND := Lib.hid hND; have HVX := Lib.hid hVx; have HVP := Lib.hid hVp; have HNB := Lib.hid hnb; have HCB := Lib.hid hcb; have HFB := Lib.hid hfb; have HPC := Lib.hid hpc; have HSS := Lib.hid hSt; have HSR := Lib.hid hSr; have HMT := Lib.hid hmt; have HJ := Lib.hid (show j ≤ 1000000 by omega); have HRR := Lib.hid hrr; have HEG := Lib.hid eg
  clear hw hb hW1 b1 z0 z1 rB aB hw1 hIn1 hR hn hI hc hst hS hV hU hND hVx hVp hnb hcb hfb hpc hSt hSr hmt hj hrr hlen hcE hisE hme hrn hIn hG hr hVl eg
  go_enter Try.func129, Try.ntmps129
  go_upto_region 1 with (fail)
  rw [HW1.out]
  go_cut [7, 8] (fun s7 s8 wx => ∃ W, W = wx ∧ ∃ p7 p8, s7 = .pointer (some ⟨p7, 0, none⟩) ∧ s8 = .pointer (some ⟨p8, 0, none⟩) ∧ Whole wx p7 21 #[.int .i32 c] ∧ Whole wx p8 25 #[.int .i64 is] ∧ W1.heap.size ≤ p7 ∧ W1.heap.size ≤ p8 ∧ Below W1.heap.size W1 wx)
  case first =>
    refine wp_region_held_drew (S := fun w' => Below W1.heap.size W1 w') (by kernel_rfl) ((Below.refl _ W1).drew) (fun hHeld => ?_)
    obtain ⟨u0, hu0⟩ : ∃ x, W1.drew = x := ⟨_, rfl⟩
    rw [hu0] at hHeld ⊢
    have HB0 := Lib.hid hHeld
    clear hu0
    refine wpAnyH_take (i := 0) (oi := _) (v := ?_) rfl (by kernel_rfl) (by kernel_rfl) (by kernel_rfl) (fun _ _ _ h => h) (Or.inl ⟨by rfl, ?_⟩) hHeld ?_
    rotate_left 1
    · (intro w hSw; (try dsimp only at hSw); have e0 := (RB.out.below hSw RB.out.lt).cell 0; have e1 := (AB.out.below hSw AB.out.lt).cell 0; have e2 := ((QB.out.below hSw QB.out.lt).cell 5).trans QC.out; go_simp; (try with_reducible rfl))
    try simp only [List.getElem_toArray, List.getElem_cons_zero, List.getElem_cons_succ, Act.put, List.setIfInBounds_toArray, List.set_cons_zero, List.set_cons_succ]
    refine wpAnyH_take (i := 1) (oi := _) (v := ?_) rfl (by kernel_rfl) (by kernel_rfl) (by kernel_rfl) (fun _ _ _ h => h) (Or.inl ⟨by rfl, ?_⟩) hHeld ?_
    rotate_left 1
    · (intro w hSw; (try dsimp only at hSw); have e0 := (RB.out.below hSw RB.out.lt).cell 0; have e1 := (AB.out.below hSw AB.out.lt).cell 0; have e2 := ((QB.out.below hSw QB.out.lt).cell 5).trans QC.out; go_simp; (try with_reducible rfl))
    try simp only [List.getElem_toArray, List.getElem_cons_zero, List.getElem_cons_succ, Act.put, List.setIfInBounds_toArray, List.set_cons_zero, List.set_cons_succ]
    refine wpAnyH_take (i := 2) (oi := _) (v := ?_) rfl (by kernel_rfl) (by kernel_rfl) (by kernel_rfl) (fun _ _ _ h => h) (Or.inl ⟨by rfl, ?_⟩) hHeld ?_
    rotate_left 1
    · (intro w hSw; (try dsimp only at hSw); have e0 := (RB.out.below hSw RB.out.lt).cell 0; have e1 := (AB.out.below hSw AB.out.lt).cell 0; have e2 := ((QB.out.below hSw QB.out.lt).cell 5).trans QC.out; go_simp; (try with_reducible rfl))
    try simp only [List.getElem_toArray, List.getElem_cons_zero, List.getElem_cons_succ, Act.put, List.setIfInBounds_toArray, List.set_cons_zero, List.set_cons_succ]
    refine wpAnyH_take (i := 3) (oi := _) (v := ?_) rfl (by kernel_rfl) (by kernel_rfl) (by kernel_rfl) (fun _ _ _ h => h) (Or.inl ⟨by rfl, ?_⟩) hHeld ?_
    rotate_left 1
    · (intro w hSw; (try dsimp only at hSw); have e0 := (RB.out.below hSw RB.out.lt).cell 0; have e1 := (AB.out.below hSw AB.out.lt).cell 0; have e2 := ((QB.out.below hSw QB.out.lt).cell 5).trans QC.out; go_simp; (try with_reducible rfl))
    try simp only [List.getElem_toArray, List.getElem_cons_zero, List.getElem_cons_succ, Act.put, List.setIfInBounds_toArray, List.set_cons_zero, List.set_cons_succ]
    refine wpAnyH_take (i := 4) (oi := _) (v := ?_) rfl (by kernel_rfl) (by kernel_rfl) (by kernel_rfl) (fun _ _ _ h => h) (Or.inl ⟨by rfl, ?_⟩) hHeld ?_
    rotate_left 1
    · (intro w hSw; (try dsimp only at hSw); have e0 := (RB.out.below hSw RB.out.lt).cell 0; have e1 := (AB.out.below hSw AB.out.lt).cell 0; have e2 := ((QB.out.below hSw QB.out.lt).cell 5).trans QC.out; go_simp; (try with_reducible rfl))
    try simp only [List.getElem_toArray, List.getElem_cons_zero, List.getElem_cons_succ, Act.put, List.setIfInBounds_toArray, List.set_cons_zero, List.set_cons_succ]
    refine wpAnyH_take (i := 5) (oi := _) (v := ?_) rfl (by kernel_rfl) (by kernel_rfl) (by kernel_rfl) (fun _ _ _ h => h) (Or.inl ⟨by rfl, ?_⟩) hHeld ?_
    rotate_left 1
    · (intro w hSw; (try dsimp only at hSw); have e0 := (RB.out.below hSw RB.out.lt).cell 0; have e1 := (AB.out.below hSw AB.out.lt).cell 0; have e2 := ((QB.out.below hSw QB.out.lt).cell 5).trans QC.out; go_simp; (try with_reducible rfl))
    try simp only [List.getElem_toArray, List.getElem_cons_zero, List.getElem_cons_succ, Act.put, List.setIfInBounds_toArray, List.set_cons_zero, List.set_cons_succ]
    refine wpAnyH_take (i := 6) (oi := _) (v := ?_) rfl (by kernel_rfl) (by kernel_rfl) (by kernel_rfl) (fun _ _ _ h => h) (Or.inl ⟨by rfl, ?_⟩) hHeld ?_
    rotate_left 1
    · (intro w hSw; (try dsimp only at hSw); have e0 := (RB.out.below hSw RB.out.lt).cell 0; have e1 := (AB.out.below hSw AB.out.lt).cell 0; have e2 := ((QB.out.below hSw QB.out.lt).cell 5).trans QC.out; go_simp; (try with_reducible rfl))
    try simp only [List.getElem_toArray, List.getElem_cons_zero, List.getElem_cons_succ, Act.put, List.setIfInBounds_toArray, List.set_cons_zero, List.set_cons_succ]
    refine wpAnyH_take (i := 8) (oi := _) (v := ?_) rfl (by kernel_rfl) (by kernel_rfl) (by kernel_rfl) (fun _ _ _ h => h) (Or.inl ⟨by rfl, ?_⟩) hHeld ?_
    rotate_left 1
    · (intro w hSw; (try dsimp only at hSw); have e0 := (RB.out.below hSw RB.out.lt).cell 0; have e1 := (AB.out.below hSw AB.out.lt).cell 0; have e2 := ((QB.out.below hSw QB.out.lt).cell 5).trans QC.out; go_simp; (try with_reducible rfl))
    try simp only [List.getElem_toArray, List.getElem_cons_zero, List.getElem_cons_succ, Act.put, List.setIfInBounds_toArray, List.set_cons_zero, List.set_cons_succ]
    refine wpAnyH_take (i := 9) (oi := _) (v := ?_) rfl (by kernel_rfl) (by kernel_rfl) (by kernel_rfl) (fun _ _ _ h => h) (Or.inl ⟨by rfl, ?_⟩) hHeld ?_
    rotate_left 1
    · (intro w hSw; (try dsimp only at hSw); have e0 := (RB.out.below hSw RB.out.lt).cell 0; have e1 := (AB.out.below hSw AB.out.lt).cell 0; have e2 := ((QB.out.below hSw QB.out.lt).cell 5).trans QC.out; go_simp; (try with_reducible rfl))
    try simp only [List.getElem_toArray, List.getElem_cons_zero, List.getElem_cons_succ, Act.put, List.setIfInBounds_toArray, List.set_cons_zero, List.set_cons_succ]
    refine wpAnyH_take (i := 10) (oi := _) (v := ?_) rfl (by kernel_rfl) (by kernel_rfl) (by kernel_rfl) (fun _ _ _ h => h) (Or.inl ⟨by rfl, ?_⟩) hHeld ?_
    rotate_left 1
    · (intro w hSw; (try dsimp only at hSw); have e0 := (RB.out.below hSw RB.out.lt).cell 0; have e1 := (AB.out.below hSw AB.out.lt).cell 0; have e2 := ((QB.out.below hSw QB.out.lt).cell 5).trans QC.out; go_simp; (try with_reducible rfl))
    try simp only [List.getElem_toArray, List.getElem_cons_zero, List.getElem_cons_succ, Act.put, List.setIfInBounds_toArray, List.set_cons_zero, List.set_cons_succ]
    refine wpAnyH_take (i := 11) (oi := _) (v := ?_) rfl (by kernel_rfl) (by kernel_rfl) (by kernel_rfl) (fun _ _ _ h => h) (Or.inl ⟨by rfl, ?_⟩) hHeld ?_
    rotate_left 1
    · (intro w hSw; (try dsimp only at hSw); have e0 := (RB.out.below hSw RB.out.lt).cell 0; have e1 := (AB.out.below hSw AB.out.lt).cell 0; have e2 := ((QB.out.below hSw QB.out.lt).cell 5).trans QC.out; go_simp; (try with_reducible rfl))
    try simp only [List.getElem_toArray, List.getElem_cons_zero, List.getElem_cons_succ, Act.put, List.setIfInBounds_toArray, List.set_cons_zero, List.set_cons_succ]
    refine wpAnyH_take (i := 12) (oi := _) (v := ?_) rfl (by kernel_rfl) (by kernel_rfl) (by kernel_rfl) (fun _ _ _ h => h) (Or.inl ⟨by rfl, ?_⟩) hHeld ?_
    rotate_left 1
    · (intro w hSw; (try dsimp only at hSw); have e0 := (RB.out.below hSw RB.out.lt).cell 0; have e1 := (AB.out.below hSw AB.out.lt).cell 0; have e2 := ((QB.out.below hSw QB.out.lt).cell 5).trans QC.out; go_simp; (try with_reducible rfl))
    try simp only [List.getElem_toArray, List.getElem_cons_zero, List.getElem_cons_succ, Act.put, List.setIfInBounds_toArray, List.set_cons_zero, List.set_cons_succ]
    refine wpAnyH_take (i := 13) (oi := _) (v := ?_) rfl (by kernel_rfl) (by kernel_rfl) (by kernel_rfl) (fun _ _ _ h => h) (Or.inl ⟨by rfl, ?_⟩) hHeld ?_
    rotate_left 1
    · (intro w hSw; (try dsimp only at hSw); have e0 := (RB.out.below hSw RB.out.lt).cell 0; have e1 := (AB.out.below hSw AB.out.lt).cell 0; have e2 := ((QB.out.below hSw QB.out.lt).cell 5).trans QC.out; go_simp; (try with_reducible rfl))
    try simp only [List.getElem_toArray, List.getElem_cons_zero, List.getElem_cons_succ, Act.put, List.setIfInBounds_toArray, List.set_cons_zero, List.set_cons_succ]
    refine wpAnyH_take (i := 14) (oi := _) (v := ?_) rfl (by kernel_rfl) (by kernel_rfl) (by kernel_rfl) (fun _ _ _ h => h) (Or.inl ⟨by rfl, ?_⟩) hHeld ?_
    rotate_left 1
    · (intro w hSw; (try dsimp only at hSw); have e0 := (RB.out.below hSw RB.out.lt).cell 0; have e1 := (AB.out.below hSw AB.out.lt).cell 0; have e2 := ((QB.out.below hSw QB.out.lt).cell 5).trans QC.out; go_simp; (try with_reducible rfl))
    try simp only [List.getElem_toArray, List.getElem_cons_zero, List.getElem_cons_succ, Act.put, List.setIfInBounds_toArray, List.set_cons_zero, List.set_cons_succ]
    refine wpAnyH_ready (rs := [7, 16, 17]) (by kernel_rfl) (by simp) ?_
    refine AllReadyH.cons (o := _) rfl (fun K hK => ?_) ?_
    · go_simp
      refine (HRU.out u0 HB0.out).mono ?_
      rintro e wc ⟨rfl, rfl⟩
      go_wp2_with fail
      refine hK.out _ _ HB0.out (fun hHeld => ?_)
      clear hK K
      try simp only [List.getElem_toArray, List.getElem_cons_zero, List.getElem_cons_succ, Act.put, List.setIfInBounds_toArray, List.set_cons_zero, List.set_cons_succ]
      refine wpAnyH_ready (rs := [15, 16, 17]) (by kernel_rfl) (by simp) ?_
      refine AllReadyH.cons (o := _) rfl (fun K hK => ?_) ?_
      · go_simp
        refine (HAU.out u0 HB0.out).mono ?_
        rintro e wc ⟨rfl, rfl⟩
        go_wp2_with fail
        refine hK.out _ _ HB0.out (fun hHeld => ?_)
        clear hK K
        try simp only [List.getElem_toArray, List.getElem_cons_zero, List.getElem_cons_succ, Act.put, List.setIfInBounds_toArray, List.set_cons_zero, List.set_cons_succ]
        refine wpAnyH_ready (rs := [16, 17]) (by kernel_rfl) (by simp) ?_
        refine AllReadyH.cons (o := _) rfl (fun K hK => ?_) ?_
        · go_simp
          refine hK.out _ _ (HB0.out.alloc HB0.out.size _) (fun hHeld => ?_)
          clear hK K
          try simp only [List.getElem_toArray, List.getElem_cons_zero, List.getElem_cons_succ, Act.put, List.setIfInBounds_toArray, List.set_cons_zero, List.set_cons_succ]
          obtain ⟨u3, hu3⟩ : ∃ x, u0.alloc (.cells #[.int .i32 0] 21) = x := ⟨_, rfl⟩
          rw [hu3] at hHeld ⊢
          have HB3 := Lib.hid hHeld
          have HX3_7 := Lib.hid (show Whole u3 u0.heap.size 21 #[.int .i32 0] by rw [← hu3]; exact heap_alloc_new u0 _)
          clear hu3
          refine wpAnyH_ready (rs := [17]) (by kernel_rfl) (by simp) ?_
          refine AllReadyH.cons (o := _) rfl (fun K hK => ?_) ?_
          · go_simp
            refine hK.out _ _ (HB3.out.alloc HB3.out.size _) (fun hHeld => ?_)
            clear hK K
            try simp only [List.getElem_toArray, List.getElem_cons_zero, List.getElem_cons_succ, Act.put, List.setIfInBounds_toArray, List.set_cons_zero, List.set_cons_succ]
            obtain ⟨u4, hu4⟩ : ∃ x, u3.alloc (.cells #[.int .i64 0] 25) = x := ⟨_, rfl⟩
            rw [hu4] at hHeld ⊢
            have HB4 := Lib.hid hHeld
            have HX4_8 := Lib.hid (show Whole u4 u3.heap.size 25 #[.int .i64 0] by rw [← hu4]; exact heap_alloc_new u3 _)
            have HX4_7 := Lib.hid (show Whole u4 (u0.heap.size) _ _ by rw [← hu4]; exact Whole.alloc HX3_7.out _)
            clear hu4
            refine wpAnyH_ready (rs := [18]) (by kernel_rfl) (by simp) ?_
            refine AllReadyH.cons (o := _) rfl (fun K hK => ?_) ?_
            · have l0 := HX4_7.out.cell 0; have n0' := HX4_7.out.free 0
              have hset := HB4.out.setCell (p := ⟨u0.heap.size, 0, none⟩) HB0.out.size (.int .i32 c)
              go_simp
              clear l0 n0'
              refine hK.out _ _ hset (fun hHeld => ?_)
              clear hK K
              try simp only [List.getElem_toArray, List.getElem_cons_zero, List.getElem_cons_succ, Act.put, List.setIfInBounds_toArray, List.set_cons_zero, List.set_cons_succ]
              obtain ⟨u5, hu5⟩ : ∃ x, u4.setCell ⟨u0.heap.size, 0, none⟩ (.int .i32 c) = x := ⟨_, rfl⟩
              rw [hu5] at hHeld ⊢
              have HB5 := Lib.hid hHeld
              have HX5_7 := Lib.hid (show Whole u5 (u0.heap.size) _ #[.int .i32 c] by rw [← hu5]; exact HX4_7.out.store 0 _)
              have HX5_8 := Lib.hid (show Whole u5 (u3.heap.size) _ _ by rw [← hu5]; exact HX4_8.out.far (ne_types HX4_8.out HX4_7.out (by decide)) _ _)
              clear hset hu5
              refine wpAnyH_ready (rs := [19]) (by kernel_rfl) (by simp) ?_
              refine AllReadyH.cons (o := _) rfl (fun K hK => ?_) ?_
              · have l0 := HX5_8.out.cell 0; have n0' := HX5_8.out.free 0
                have hset := HB5.out.setCell (p := ⟨u3.heap.size, 0, none⟩) HB3.out.size (.int .i64 is)
                go_simp
                clear l0 n0'
                refine hK.out _ _ hset (fun hHeld => ?_)
                clear hK K
                try simp only [List.getElem_toArray, List.getElem_cons_zero, List.getElem_cons_succ, Act.put, List.setIfInBounds_toArray, List.set_cons_zero, List.set_cons_succ]
                obtain ⟨u6, hu6⟩ : ∃ x, u5.setCell ⟨u3.heap.size, 0, none⟩ (.int .i64 is) = x := ⟨_, rfl⟩
                rw [hu6] at hHeld ⊢
                have HB6 := Lib.hid hHeld
                have HX6_8 := Lib.hid (show Whole u6 (u3.heap.size) _ #[.int .i64 is] by rw [← hu6]; exact HX5_8.out.store 0 _)
                have HX6_7 := Lib.hid (show Whole u6 (u0.heap.size) _ _ by rw [← hu6]; exact HX5_7.out.far (ne_types HX5_7.out HX5_8.out (by decide)) _ _)
                clear hset hu6
                refine wpAnyH_done (by kernel_rfl) ?_ _
                go_wp2_with fail
                go_meet
                exact ⟨_, rfl, _, _, rfl, rfl, HX6_7.out, HX6_8.out, HB0.out.size, HB3.out.size, HB6.out⟩
              exact AllReadyH.nil
            exact AllReadyH.nil
          exact AllReadyH.nil
        refine AllReadyH.cons (o := _) rfl (fun K hK => ?_) ?_
        · go_simp
          refine hK.out _ _ (HB0.out.alloc HB0.out.size _) (fun hHeld => ?_)
          clear hK K
          try simp only [List.getElem_toArray, List.getElem_cons_zero, List.getElem_cons_succ, Act.put, List.setIfInBounds_toArray, List.set_cons_zero, List.set_cons_succ]
          obtain ⟨u7, hu7⟩ : ∃ x, u0.alloc (.cells #[.int .i64 0] 25) = x := ⟨_, rfl⟩
          rw [hu7] at hHeld ⊢
          have HB7 := Lib.hid hHeld
          have HX7_8 := Lib.hid (show Whole u7 u0.heap.size 25 #[.int .i64 0] by rw [← hu7]; exact heap_alloc_new u0 _)
          clear hu7
          refine wpAnyH_ready (rs := [16]) (by kernel_rfl) (by simp) ?_
          refine AllReadyH.cons (o := _) rfl (fun K hK => ?_) ?_
          · go_simp
            refine hK.out _ _ (HB7.out.alloc HB7.out.size _) (fun hHeld => ?_)
            clear hK K
            try simp only [List.getElem_toArray, List.getElem_cons_zero, List.getElem_cons_succ, Act.put, List.setIfInBounds_toArray, List.set_cons_zero, List.set_cons_succ]
            obtain ⟨u8, hu8⟩ : ∃ x, u7.alloc (.cells #[.int .i32 0] 21) = x := ⟨_, rfl⟩
            rw [hu8] at hHeld ⊢
            have HB8 := Lib.hid hHeld
            have HX8_7 := Lib.hid (show Whole u8 u7.heap.size 21 #[.int .i32 0] by rw [← hu8]; exact heap_alloc_new u7 _)
            have HX8_8 := Lib.hid (show Whole u8 (u0.heap.size) _ _ by rw [← hu8]; exact Whole.alloc HX7_8.out _)
            clear hu8
            refine wpAnyH_ready (rs := [18]) (by kernel_rfl) (by simp) ?_
            refine AllReadyH.cons (o := _) rfl (fun K hK => ?_) ?_
            · have l0 := HX8_7.out.cell 0; have n0' := HX8_7.out.free 0
              have hset := HB8.out.setCell (p := ⟨u7.heap.size, 0, none⟩) HB7.out.size (.int .i32 c)
              go_simp
              clear l0 n0'
              refine hK.out _ _ hset (fun hHeld => ?_)
              clear hK K
              try simp only [List.getElem_toArray, List.getElem_cons_zero, List.getElem_cons_succ, Act.put, List.setIfInBounds_toArray, List.set_cons_zero, List.set_cons_succ]
              obtain ⟨u9, hu9⟩ : ∃ x, u8.setCell ⟨u7.heap.size, 0, none⟩ (.int .i32 c) = x := ⟨_, rfl⟩
              rw [hu9] at hHeld ⊢
              have HB9 := Lib.hid hHeld
              have HX9_7 := Lib.hid (show Whole u9 (u7.heap.size) _ #[.int .i32 c] by rw [← hu9]; exact HX8_7.out.store 0 _)
              have HX9_8 := Lib.hid (show Whole u9 (u0.heap.size) _ _ by rw [← hu9]; exact HX8_8.out.far (ne_types HX8_8.out HX8_7.out (by decide)) _ _)
              clear hset hu9
              refine wpAnyH_ready (rs := [19]) (by kernel_rfl) (by simp) ?_
              refine AllReadyH.cons (o := _) rfl (fun K hK => ?_) ?_
              · have l0 := HX9_8.out.cell 0; have n0' := HX9_8.out.free 0
                have hset := HB9.out.setCell (p := ⟨u0.heap.size, 0, none⟩) HB0.out.size (.int .i64 is)
                go_simp
                clear l0 n0'
                refine hK.out _ _ hset (fun hHeld => ?_)
                clear hK K
                try simp only [List.getElem_toArray, List.getElem_cons_zero, List.getElem_cons_succ, Act.put, List.setIfInBounds_toArray, List.set_cons_zero, List.set_cons_succ]
                obtain ⟨u10, hu10⟩ : ∃ x, u9.setCell ⟨u0.heap.size, 0, none⟩ (.int .i64 is) = x := ⟨_, rfl⟩
                rw [hu10] at hHeld ⊢
                have HB10 := Lib.hid hHeld
                have HX10_8 := Lib.hid (show Whole u10 (u0.heap.size) _ #[.int .i64 is] by rw [← hu10]; exact HX9_8.out.store 0 _)
                have HX10_7 := Lib.hid (show Whole u10 (u7.heap.size) _ _ by rw [← hu10]; exact HX9_7.out.far (ne_types HX9_7.out HX9_8.out (by decide)) _ _)
                clear hset hu10
                refine wpAnyH_done (by kernel_rfl) ?_ _
                go_wp2_with fail
                go_meet
                exact ⟨_, rfl, _, _, rfl, rfl, HX10_7.out, HX10_8.out, HB7.out.size, HB0.out.size, HB10.out⟩
              exact AllReadyH.nil
            exact AllReadyH.nil
          exact AllReadyH.nil
        exact AllReadyH.nil
      refine AllReadyH.cons (o := _) rfl (fun K hK => ?_) ?_
      · go_simp
        refine hK.out _ _ (HB0.out.alloc HB0.out.size _) (fun hHeld => ?_)
        clear hK K
        try simp only [List.getElem_toArray, List.getElem_cons_zero, List.getElem_cons_succ, Act.put, List.setIfInBounds_toArray, List.set_cons_zero, List.set_cons_succ]
        obtain ⟨u11, hu11⟩ : ∃ x, u0.alloc (.cells #[.int .i32 0] 21) = x := ⟨_, rfl⟩
        rw [hu11] at hHeld ⊢
        have HB11 := Lib.hid hHeld
        have HX11_7 := Lib.hid (show Whole u11 u0.heap.size 21 #[.int .i32 0] by rw [← hu11]; exact heap_alloc_new u0 _)
        clear hu11
        refine wpAnyH_ready (rs := [15, 17]) (by kernel_rfl) (by simp) ?_
        refine AllReadyH.cons (o := _) rfl (fun K hK => ?_) ?_
        · go_simp
          refine (HAU.out u11 HB11.out).mono ?_
          rintro e wc ⟨rfl, rfl⟩
          go_wp2_with fail
          refine hK.out _ _ HB11.out (fun hHeld => ?_)
          clear hK K
          try simp only [List.getElem_toArray, List.getElem_cons_zero, List.getElem_cons_succ, Act.put, List.setIfInBounds_toArray, List.set_cons_zero, List.set_cons_succ]
          refine wpAnyH_ready (rs := [17]) (by kernel_rfl) (by simp) ?_
          refine AllReadyH.cons (o := _) rfl (fun K hK => ?_) ?_
          · go_simp
            refine hK.out _ _ (HB11.out.alloc HB11.out.size _) (fun hHeld => ?_)
            clear hK K
            try simp only [List.getElem_toArray, List.getElem_cons_zero, List.getElem_cons_succ, Act.put, List.setIfInBounds_toArray, List.set_cons_zero, List.set_cons_succ]
            obtain ⟨u13, hu13⟩ : ∃ x, u11.alloc (.cells #[.int .i64 0] 25) = x := ⟨_, rfl⟩
            rw [hu13] at hHeld ⊢
            have HB13 := Lib.hid hHeld
            have HX13_8 := Lib.hid (show Whole u13 u11.heap.size 25 #[.int .i64 0] by rw [← hu13]; exact heap_alloc_new u11 _)
            have HX13_7 := Lib.hid (show Whole u13 (u0.heap.size) _ _ by rw [← hu13]; exact Whole.alloc HX11_7.out _)
            clear hu13
            refine wpAnyH_ready (rs := [18]) (by kernel_rfl) (by simp) ?_
            refine AllReadyH.cons (o := _) rfl (fun K hK => ?_) ?_
            · have l0 := HX13_7.out.cell 0; have n0' := HX13_7.out.free 0
              have hset := HB13.out.setCell (p := ⟨u0.heap.size, 0, none⟩) HB0.out.size (.int .i32 c)
              go_simp
              clear l0 n0'
              refine hK.out _ _ hset (fun hHeld => ?_)
              clear hK K
              try simp only [List.getElem_toArray, List.getElem_cons_zero, List.getElem_cons_succ, Act.put, List.setIfInBounds_toArray, List.set_cons_zero, List.set_cons_succ]
              obtain ⟨u14, hu14⟩ : ∃ x, u13.setCell ⟨u0.heap.size, 0, none⟩ (.int .i32 c) = x := ⟨_, rfl⟩
              rw [hu14] at hHeld ⊢
              have HB14 := Lib.hid hHeld
              have HX14_7 := Lib.hid (show Whole u14 (u0.heap.size) _ #[.int .i32 c] by rw [← hu14]; exact HX13_7.out.store 0 _)
              have HX14_8 := Lib.hid (show Whole u14 (u11.heap.size) _ _ by rw [← hu14]; exact HX13_8.out.far (ne_types HX13_8.out HX13_7.out (by decide)) _ _)
              clear hset hu14
              refine wpAnyH_ready (rs := [19]) (by kernel_rfl) (by simp) ?_
              refine AllReadyH.cons (o := _) rfl (fun K hK => ?_) ?_
              · have l0 := HX14_8.out.cell 0; have n0' := HX14_8.out.free 0
                have hset := HB14.out.setCell (p := ⟨u11.heap.size, 0, none⟩) HB11.out.size (.int .i64 is)
                go_simp
                clear l0 n0'
                refine hK.out _ _ hset (fun hHeld => ?_)
                clear hK K
                try simp only [List.getElem_toArray, List.getElem_cons_zero, List.getElem_cons_succ, Act.put, List.setIfInBounds_toArray, List.set_cons_zero, List.set_cons_succ]
                obtain ⟨u15, hu15⟩ : ∃ x, u14.setCell ⟨u11.heap.size, 0, none⟩ (.int .i64 is) = x := ⟨_, rfl⟩
                rw [hu15] at hHeld ⊢
                have HB15 := Lib.hid hHeld
                have HX15_8 := Lib.hid (show Whole u15 (u11.heap.size) _ #[.int .i64 is] by rw [← hu15]; exact HX14_8.out.store 0 _)
                have HX15_7 := Lib.hid (show Whole u15 (u0.heap.size) _ _ by rw [← hu15]; exact HX14_7.out.far (ne_types HX14_7.out HX14_8.out (by decide)) _ _)
                clear hset hu15
                refine wpAnyH_done (by kernel_rfl) ?_ _
                go_wp2_with fail
                go_meet
                exact ⟨_, rfl, _, _, rfl, rfl, HX15_7.out, HX15_8.out, HB0.out.size, HB11.out.size, HB15.out⟩
              exact AllReadyH.nil
            exact AllReadyH.nil
          exact AllReadyH.nil
        refine AllReadyH.cons (o := _) rfl (fun K hK => ?_) ?_
        · go_simp
          refine hK.out _ _ (HB11.out.alloc HB11.out.size _) (fun hHeld => ?_)
          clear hK K
          try simp only [List.getElem_toArray, List.getElem_cons_zero, List.getElem_cons_succ, Act.put, List.setIfInBounds_toArray, List.set_cons_zero, List.set_cons_succ]
          obtain ⟨u16, hu16⟩ : ∃ x, u11.alloc (.cells #[.int .i64 0] 25) = x := ⟨_, rfl⟩
          rw [hu16] at hHeld ⊢
          have HB16 := Lib.hid hHeld
          have HX16_8 := Lib.hid (show Whole u16 u11.heap.size 25 #[.int .i64 0] by rw [← hu16]; exact heap_alloc_new u11 _)
          have HX16_7 := Lib.hid (show Whole u16 (u0.heap.size) _ _ by rw [← hu16]; exact Whole.alloc HX11_7.out _)
          clear hu16
          refine wpAnyH_ready (rs := [15]) (by kernel_rfl) (by simp) ?_
          refine AllReadyH.cons (o := _) rfl (fun K hK => ?_) ?_
          · go_simp
            refine (HAU.out u16 HB16.out).mono ?_
            rintro e wc ⟨rfl, rfl⟩
            go_wp2_with fail
            refine hK.out _ _ HB16.out (fun hHeld => ?_)
            clear hK K
            try simp only [List.getElem_toArray, List.getElem_cons_zero, List.getElem_cons_succ, Act.put, List.setIfInBounds_toArray, List.set_cons_zero, List.set_cons_succ]
            refine wpAnyH_ready (rs := [18]) (by kernel_rfl) (by simp) ?_
            refine AllReadyH.cons (o := _) rfl (fun K hK => ?_) ?_
            · have l0 := HX16_7.out.cell 0; have n0' := HX16_7.out.free 0
              have hset := HB16.out.setCell (p := ⟨u0.heap.size, 0, none⟩) HB0.out.size (.int .i32 c)
              go_simp
              clear l0 n0'
              refine hK.out _ _ hset (fun hHeld => ?_)
              clear hK K
              try simp only [List.getElem_toArray, List.getElem_cons_zero, List.getElem_cons_succ, Act.put, List.setIfInBounds_toArray, List.set_cons_zero, List.set_cons_succ]
              obtain ⟨u18, hu18⟩ : ∃ x, u16.setCell ⟨u0.heap.size, 0, none⟩ (.int .i32 c) = x := ⟨_, rfl⟩
              rw [hu18] at hHeld ⊢
              have HB18 := Lib.hid hHeld
              have HX18_7 := Lib.hid (show Whole u18 (u0.heap.size) _ #[.int .i32 c] by rw [← hu18]; exact HX16_7.out.store 0 _)
              have HX18_8 := Lib.hid (show Whole u18 (u11.heap.size) _ _ by rw [← hu18]; exact HX16_8.out.far (ne_types HX16_8.out HX16_7.out (by decide)) _ _)
              clear hset hu18
              refine wpAnyH_ready (rs := [19]) (by kernel_rfl) (by simp) ?_
              refine AllReadyH.cons (o := _) rfl (fun K hK => ?_) ?_
              · have l0 := HX18_8.out.cell 0; have n0' := HX18_8.out.free 0
                have hset := HB18.out.setCell (p := ⟨u11.heap.size, 0, none⟩) HB11.out.size (.int .i64 is)
                go_simp
                clear l0 n0'
                refine hK.out _ _ hset (fun hHeld => ?_)
                clear hK K
                try simp only [List.getElem_toArray, List.getElem_cons_zero, List.getElem_cons_succ, Act.put, List.setIfInBounds_toArray, List.set_cons_zero, List.set_cons_succ]
                obtain ⟨u19, hu19⟩ : ∃ x, u18.setCell ⟨u11.heap.size, 0, none⟩ (.int .i64 is) = x := ⟨_, rfl⟩
                rw [hu19] at hHeld ⊢
                have HB19 := Lib.hid hHeld
                have HX19_8 := Lib.hid (show Whole u19 (u11.heap.size) _ #[.int .i64 is] by rw [← hu19]; exact HX18_8.out.store 0 _)
                have HX19_7 := Lib.hid (show Whole u19 (u0.heap.size) _ _ by rw [← hu19]; exact HX18_7.out.far (ne_types HX18_7.out HX18_8.out (by decide)) _ _)
                clear hset hu19
                refine wpAnyH_done (by kernel_rfl) ?_ _
                go_wp2_with fail
                go_meet
                exact ⟨_, rfl, _, _, rfl, rfl, HX19_7.out, HX19_8.out, HB0.out.size, HB11.out.size, HB19.out⟩
              exact AllReadyH.nil
            exact AllReadyH.nil
          exact AllReadyH.nil
        exact AllReadyH.nil
      refine AllReadyH.cons (o := _) rfl (fun K hK => ?_) ?_
      · go_simp
        refine hK.out _ _ (HB0.out.alloc HB0.out.size _) (fun hHeld => ?_)
        clear hK K
        try simp only [List.getElem_toArray, List.getElem_cons_zero, List.getElem_cons_succ, Act.put, List.setIfInBounds_toArray, List.set_cons_zero, List.set_cons_succ]
        obtain ⟨u20, hu20⟩ : ∃ x, u0.alloc (.cells #[.int .i64 0] 25) = x := ⟨_, rfl⟩
        rw [hu20] at hHeld ⊢
        have HB20 := Lib.hid hHeld
        have HX20_8 := Lib.hid (show Whole u20 u0.heap.size 25 #[.int .i64 0] by rw [← hu20]; exact heap_alloc_new u0 _)
        clear hu20
        refine wpAnyH_ready (rs := [15, 16]) (by kernel_rfl) (by simp) ?_
        refine AllReadyH.cons (o := _) rfl (fun K hK => ?_) ?_
        · go_simp
          refine (HAU.out u20 HB20.out).mono ?_
          rintro e wc ⟨rfl, rfl⟩
          go_wp2_with fail
          refine hK.out _ _ HB20.out (fun hHeld => ?_)
          clear hK K
          try simp only [List.getElem_toArray, List.getElem_cons_zero, List.getElem_cons_succ, Act.put, List.setIfInBounds_toArray, List.set_cons_zero, List.set_cons_succ]
          refine wpAnyH_ready (rs := [16]) (by kernel_rfl) (by simp) ?_
          refine AllReadyH.cons (o := _) rfl (fun K hK => ?_) ?_
          · go_simp
            refine hK.out _ _ (HB20.out.alloc HB20.out.size _) (fun hHeld => ?_)
            clear hK K
            try simp only [List.getElem_toArray, List.getElem_cons_zero, List.getElem_cons_succ, Act.put, List.setIfInBounds_toArray, List.set_cons_zero, List.set_cons_succ]
            obtain ⟨u22, hu22⟩ : ∃ x, u20.alloc (.cells #[.int .i32 0] 21) = x := ⟨_, rfl⟩
            rw [hu22] at hHeld ⊢
            have HB22 := Lib.hid hHeld
            have HX22_7 := Lib.hid (show Whole u22 u20.heap.size 21 #[.int .i32 0] by rw [← hu22]; exact heap_alloc_new u20 _)
            have HX22_8 := Lib.hid (show Whole u22 (u0.heap.size) _ _ by rw [← hu22]; exact Whole.alloc HX20_8.out _)
            clear hu22
            refine wpAnyH_ready (rs := [18]) (by kernel_rfl) (by simp) ?_
            refine AllReadyH.cons (o := _) rfl (fun K hK => ?_) ?_
            · have l0 := HX22_7.out.cell 0; have n0' := HX22_7.out.free 0
              have hset := HB22.out.setCell (p := ⟨u20.heap.size, 0, none⟩) HB20.out.size (.int .i32 c)
              go_simp
              clear l0 n0'
              refine hK.out _ _ hset (fun hHeld => ?_)
              clear hK K
              try simp only [List.getElem_toArray, List.getElem_cons_zero, List.getElem_cons_succ, Act.put, List.setIfInBounds_toArray, List.set_cons_zero, List.set_cons_succ]
              obtain ⟨u23, hu23⟩ : ∃ x, u22.setCell ⟨u20.heap.size, 0, none⟩ (.int .i32 c) = x := ⟨_, rfl⟩
              rw [hu23] at hHeld ⊢
              have HB23 := Lib.hid hHeld
              have HX23_7 := Lib.hid (show Whole u23 (u20.heap.size) _ #[.int .i32 c] by rw [← hu23]; exact HX22_7.out.store 0 _)
              have HX23_8 := Lib.hid (show Whole u23 (u0.heap.size) _ _ by rw [← hu23]; exact HX22_8.out.far (ne_types HX22_8.out HX22_7.out (by decide)) _ _)
              clear hset hu23
              refine wpAnyH_ready (rs := [19]) (by kernel_rfl) (by simp) ?_
              refine AllReadyH.cons (o := _) rfl (fun K hK => ?_) ?_
              · have l0 := HX23_8.out.cell 0; have n0' := HX23_8.out.free 0
                have hset := HB23.out.setCell (p := ⟨u0.heap.size, 0, none⟩) HB0.out.size (.int .i64 is)
                go_simp
                clear l0 n0'
                refine hK.out _ _ hset (fun hHeld => ?_)
                clear hK K
                try simp only [List.getElem_toArray, List.getElem_cons_zero, List.getElem_cons_succ, Act.put, List.setIfInBounds_toArray, List.set_cons_zero, List.set_cons_succ]
                obtain ⟨u24, hu24⟩ : ∃ x, u23.setCell ⟨u0.heap.size, 0, none⟩ (.int .i64 is) = x := ⟨_, rfl⟩
                rw [hu24] at hHeld ⊢
                have HB24 := Lib.hid hHeld
                have HX24_8 := Lib.hid (show Whole u24 (u0.heap.size) _ #[.int .i64 is] by rw [← hu24]; exact HX23_8.out.store 0 _)
                have HX24_7 := Lib.hid (show Whole u24 (u20.heap.size) _ _ by rw [← hu24]; exact HX23_7.out.far (ne_types HX23_7.out HX23_8.out (by decide)) _ _)
                clear hset hu24
                refine wpAnyH_done (by kernel_rfl) ?_ _
                go_wp2_with fail
                go_meet
                exact ⟨_, rfl, _, _, rfl, rfl, HX24_7.out, HX24_8.out, HB20.out.size, HB0.out.size, HB24.out⟩
              exact AllReadyH.nil
            exact AllReadyH.nil
          exact AllReadyH.nil
        refine AllReadyH.cons (o := _) rfl (fun K hK => ?_) ?_
        · go_simp
          refine hK.out _ _ (HB20.out.alloc HB20.out.size _) (fun hHeld => ?_)
          clear hK K
          try simp only [List.getElem_toArray, List.getElem_cons_zero, List.getElem_cons_succ, Act.put, List.setIfInBounds_toArray, List.set_cons_zero, List.set_cons_succ]
          obtain ⟨u25, hu25⟩ : ∃ x, u20.alloc (.cells #[.int .i32 0] 21) = x := ⟨_, rfl⟩
          rw [hu25] at hHeld ⊢
          have HB25 := Lib.hid hHeld
          have HX25_7 := Lib.hid (show Whole u25 u20.heap.size 21 #[.int .i32 0] by rw [← hu25]; exact heap_alloc_new u20 _)
          have HX25_8 := Lib.hid (show Whole u25 (u0.heap.size) _ _ by rw [← hu25]; exact Whole.alloc HX20_8.out _)
          clear hu25
          refine wpAnyH_ready (rs := [15]) (by kernel_rfl) (by simp) ?_
          refine AllReadyH.cons (o := _) rfl (fun K hK => ?_) ?_
          · go_simp
            refine (HAU.out u25 HB25.out).mono ?_
            rintro e wc ⟨rfl, rfl⟩
            go_wp2_with fail
            refine hK.out _ _ HB25.out (fun hHeld => ?_)
            clear hK K
            try simp only [List.getElem_toArray, List.getElem_cons_zero, List.getElem_cons_succ, Act.put, List.setIfInBounds_toArray, List.set_cons_zero, List.set_cons_succ]
            refine wpAnyH_ready (rs := [18]) (by kernel_rfl) (by simp) ?_
            refine AllReadyH.cons (o := _) rfl (fun K hK => ?_) ?_
            · have l0 := HX25_7.out.cell 0; have n0' := HX25_7.out.free 0
              have hset := HB25.out.setCell (p := ⟨u20.heap.size, 0, none⟩) HB20.out.size (.int .i32 c)
              go_simp
              clear l0 n0'
              refine hK.out _ _ hset (fun hHeld => ?_)
              clear hK K
              try simp only [List.getElem_toArray, List.getElem_cons_zero, List.getElem_cons_succ, Act.put, List.setIfInBounds_toArray, List.set_cons_zero, List.set_cons_succ]
              obtain ⟨u27, hu27⟩ : ∃ x, u25.setCell ⟨u20.heap.size, 0, none⟩ (.int .i32 c) = x := ⟨_, rfl⟩
              rw [hu27] at hHeld ⊢
              have HB27 := Lib.hid hHeld
              have HX27_7 := Lib.hid (show Whole u27 (u20.heap.size) _ #[.int .i32 c] by rw [← hu27]; exact HX25_7.out.store 0 _)
              have HX27_8 := Lib.hid (show Whole u27 (u0.heap.size) _ _ by rw [← hu27]; exact HX25_8.out.far (ne_types HX25_8.out HX25_7.out (by decide)) _ _)
              clear hset hu27
              refine wpAnyH_ready (rs := [19]) (by kernel_rfl) (by simp) ?_
              refine AllReadyH.cons (o := _) rfl (fun K hK => ?_) ?_
              · have l0 := HX27_8.out.cell 0; have n0' := HX27_8.out.free 0
                have hset := HB27.out.setCell (p := ⟨u0.heap.size, 0, none⟩) HB0.out.size (.int .i64 is)
                go_simp
                clear l0 n0'
                refine hK.out _ _ hset (fun hHeld => ?_)
                clear hK K
                try simp only [List.getElem_toArray, List.getElem_cons_zero, List.getElem_cons_succ, Act.put, List.setIfInBounds_toArray, List.set_cons_zero, List.set_cons_succ]
                obtain ⟨u28, hu28⟩ : ∃ x, u27.setCell ⟨u0.heap.size, 0, none⟩ (.int .i64 is) = x := ⟨_, rfl⟩
                rw [hu28] at hHeld ⊢
                have HB28 := Lib.hid hHeld
                have HX28_8 := Lib.hid (show Whole u28 (u0.heap.size) _ #[.int .i64 is] by rw [← hu28]; exact HX27_8.out.store 0 _)
                have HX28_7 := Lib.hid (show Whole u28 (u20.heap.size) _ _ by rw [← hu28]; exact HX27_7.out.far (ne_types HX27_7.out HX27_8.out (by decide)) _ _)
                clear hset hu28
                refine wpAnyH_done (by kernel_rfl) ?_ _
                go_wp2_with fail
                go_meet
                exact ⟨_, rfl, _, _, rfl, rfl, HX28_7.out, HX28_8.out, HB20.out.size, HB0.out.size, HB28.out⟩
              exact AllReadyH.nil
            exact AllReadyH.nil
          exact AllReadyH.nil
        exact AllReadyH.nil
      exact AllReadyH.nil
    refine AllReadyH.cons (o := _) rfl (fun K hK => ?_) ?_
    · go_simp
      refine hK.out _ _ (HB0.out.alloc HB0.out.size _) (fun hHeld => ?_)
      clear hK K
      try simp only [List.getElem_toArray, List.getElem_cons_zero, List.getElem_cons_succ, Act.put, List.setIfInBounds_toArray, List.set_cons_zero, List.set_cons_succ]
      obtain ⟨u29, hu29⟩ : ∃ x, u0.alloc (.cells #[.int .i32 0] 21) = x := ⟨_, rfl⟩
      rw [hu29] at hHeld ⊢
      have HB29 := Lib.hid hHeld
      have HX29_7 := Lib.hid (show Whole u29 u0.heap.size 21 #[.int .i32 0] by rw [← hu29]; exact heap_alloc_new u0 _)
      clear hu29
      refine wpAnyH_ready (rs := [7, 17]) (by kernel_rfl) (by simp) ?_
      refine AllReadyH.cons (o := _) rfl (fun K hK => ?_) ?_
      · go_simp
        refine (HRU.out u29 HB29.out).mono ?_
        rintro e wc ⟨rfl, rfl⟩
        go_wp2_with fail
        refine hK.out _ _ HB29.out (fun hHeld => ?_)
        clear hK K
        try simp only [List.getElem_toArray, List.getElem_cons_zero, List.getElem_cons_succ, Act.put, List.setIfInBounds_toArray, List.set_cons_zero, List.set_cons_succ]
        refine wpAnyH_ready (rs := [15, 17]) (by kernel_rfl) (by simp) ?_
        refine AllReadyH.cons (o := _) rfl (fun K hK => ?_) ?_
        · go_simp
          refine (HAU.out u29 HB29.out).mono ?_
          rintro e wc ⟨rfl, rfl⟩
          go_wp2_with fail
          refine hK.out _ _ HB29.out (fun hHeld => ?_)
          clear hK K
          try simp only [List.getElem_toArray, List.getElem_cons_zero, List.getElem_cons_succ, Act.put, List.setIfInBounds_toArray, List.set_cons_zero, List.set_cons_succ]
          refine wpAnyH_ready (rs := [17]) (by kernel_rfl) (by simp) ?_
          refine AllReadyH.cons (o := _) rfl (fun K hK => ?_) ?_
          · go_simp
            refine hK.out _ _ (HB29.out.alloc HB29.out.size _) (fun hHeld => ?_)
            clear hK K
            try simp only [List.getElem_toArray, List.getElem_cons_zero, List.getElem_cons_succ, Act.put, List.setIfInBounds_toArray, List.set_cons_zero, List.set_cons_succ]
            obtain ⟨u32, hu32⟩ : ∃ x, u29.alloc (.cells #[.int .i64 0] 25) = x := ⟨_, rfl⟩
            rw [hu32] at hHeld ⊢
            have HB32 := Lib.hid hHeld
            have HX32_8 := Lib.hid (show Whole u32 u29.heap.size 25 #[.int .i64 0] by rw [← hu32]; exact heap_alloc_new u29 _)
            have HX32_7 := Lib.hid (show Whole u32 (u0.heap.size) _ _ by rw [← hu32]; exact Whole.alloc HX29_7.out _)
            clear hu32
            refine wpAnyH_ready (rs := [18]) (by kernel_rfl) (by simp) ?_
            refine AllReadyH.cons (o := _) rfl (fun K hK => ?_) ?_
            · have l0 := HX32_7.out.cell 0; have n0' := HX32_7.out.free 0
              have hset := HB32.out.setCell (p := ⟨u0.heap.size, 0, none⟩) HB0.out.size (.int .i32 c)
              go_simp
              clear l0 n0'
              refine hK.out _ _ hset (fun hHeld => ?_)
              clear hK K
              try simp only [List.getElem_toArray, List.getElem_cons_zero, List.getElem_cons_succ, Act.put, List.setIfInBounds_toArray, List.set_cons_zero, List.set_cons_succ]
              obtain ⟨u33, hu33⟩ : ∃ x, u32.setCell ⟨u0.heap.size, 0, none⟩ (.int .i32 c) = x := ⟨_, rfl⟩
              rw [hu33] at hHeld ⊢
              have HB33 := Lib.hid hHeld
              have HX33_7 := Lib.hid (show Whole u33 (u0.heap.size) _ #[.int .i32 c] by rw [← hu33]; exact HX32_7.out.store 0 _)
              have HX33_8 := Lib.hid (show Whole u33 (u29.heap.size) _ _ by rw [← hu33]; exact HX32_8.out.far (ne_types HX32_8.out HX32_7.out (by decide)) _ _)
              clear hset hu33
              refine wpAnyH_ready (rs := [19]) (by kernel_rfl) (by simp) ?_
              refine AllReadyH.cons (o := _) rfl (fun K hK => ?_) ?_
              · have l0 := HX33_8.out.cell 0; have n0' := HX33_8.out.free 0
                have hset := HB33.out.setCell (p := ⟨u29.heap.size, 0, none⟩) HB29.out.size (.int .i64 is)
                go_simp
                clear l0 n0'
                refine hK.out _ _ hset (fun hHeld => ?_)
                clear hK K
                try simp only [List.getElem_toArray, List.getElem_cons_zero, List.getElem_cons_succ, Act.put, List.setIfInBounds_toArray, List.set_cons_zero, List.set_cons_succ]
                obtain ⟨u34, hu34⟩ : ∃ x, u33.setCell ⟨u29.heap.size, 0, none⟩ (.int .i64 is) = x := ⟨_, rfl⟩
                rw [hu34] at hHeld ⊢
                have HB34 := Lib.hid hHeld
                have HX34_8 := Lib.hid (show Whole u34 (u29.heap.size) _ #[.int .i64 is] by rw [← hu34]; exact HX33_8.out.store 0 _)
                have HX34_7 := Lib.hid (show Whole u34 (u0.heap.size) _ _ by rw [← hu34]; exact HX33_7.out.far (ne_types HX33_7.out HX33_8.out (by decide)) _ _)
                clear hset hu34
                refine wpAnyH_done (by kernel_rfl) ?_ _
                go_wp2_with fail
                go_meet
                exact ⟨_, rfl, _, _, rfl, rfl, HX34_7.out, HX34_8.out, HB0.out.size, HB29.out.size, HB34.out⟩
              exact AllReadyH.nil
            exact AllReadyH.nil
          exact AllReadyH.nil
        refine AllReadyH.cons (o := _) rfl (fun K hK => ?_) ?_
        · go_simp
          refine hK.out _ _ (HB29.out.alloc HB29.out.size _) (fun hHeld => ?_)
          clear hK K
          try simp only [List.getElem_toArray, List.getElem_cons_zero, List.getElem_cons_succ, Act.put, List.setIfInBounds_toArray, List.set_cons_zero, List.set_cons_succ]
          obtain ⟨u35, hu35⟩ : ∃ x, u29.alloc (.cells #[.int .i64 0] 25) = x := ⟨_, rfl⟩
          rw [hu35] at hHeld ⊢
          have HB35 := Lib.hid hHeld
          have HX35_8 := Lib.hid (show Whole u35 u29.heap.size 25 #[.int .i64 0] by rw [← hu35]; exact heap_alloc_new u29 _)
          have HX35_7 := Lib.hid (show Whole u35 (u0.heap.size) _ _ by rw [← hu35]; exact Whole.alloc HX29_7.out _)
          clear hu35
          refine wpAnyH_ready (rs := [15]) (by kernel_rfl) (by simp) ?_
          refine AllReadyH.cons (o := _) rfl (fun K hK => ?_) ?_
          · go_simp
            refine (HAU.out u35 HB35.out).mono ?_
            rintro e wc ⟨rfl, rfl⟩
            go_wp2_with fail
            refine hK.out _ _ HB35.out (fun hHeld => ?_)
            clear hK K
            try simp only [List.getElem_toArray, List.getElem_cons_zero, List.getElem_cons_succ, Act.put, List.setIfInBounds_toArray, List.set_cons_zero, List.set_cons_succ]
            refine wpAnyH_ready (rs := [18]) (by kernel_rfl) (by simp) ?_
            refine AllReadyH.cons (o := _) rfl (fun K hK => ?_) ?_
            · have l0 := HX35_7.out.cell 0; have n0' := HX35_7.out.free 0
              have hset := HB35.out.setCell (p := ⟨u0.heap.size, 0, none⟩) HB0.out.size (.int .i32 c)
              go_simp
              clear l0 n0'
              refine hK.out _ _ hset (fun hHeld => ?_)
              clear hK K
              try simp only [List.getElem_toArray, List.getElem_cons_zero, List.getElem_cons_succ, Act.put, List.setIfInBounds_toArray, List.set_cons_zero, List.set_cons_succ]
              obtain ⟨u37, hu37⟩ : ∃ x, u35.setCell ⟨u0.heap.size, 0, none⟩ (.int .i32 c) = x := ⟨_, rfl⟩
              rw [hu37] at hHeld ⊢
              have HB37 := Lib.hid hHeld
              have HX37_7 := Lib.hid (show Whole u37 (u0.heap.size) _ #[.int .i32 c] by rw [← hu37]; exact HX35_7.out.store 0 _)
              have HX37_8 := Lib.hid (show Whole u37 (u29.heap.size) _ _ by rw [← hu37]; exact HX35_8.out.far (ne_types HX35_8.out HX35_7.out (by decide)) _ _)
              clear hset hu37
              refine wpAnyH_ready (rs := [19]) (by kernel_rfl) (by simp) ?_
              refine AllReadyH.cons (o := _) rfl (fun K hK => ?_) ?_
              · have l0 := HX37_8.out.cell 0; have n0' := HX37_8.out.free 0
                have hset := HB37.out.setCell (p := ⟨u29.heap.size, 0, none⟩) HB29.out.size (.int .i64 is)
                go_simp
                clear l0 n0'
                refine hK.out _ _ hset (fun hHeld => ?_)
                clear hK K
                try simp only [List.getElem_toArray, List.getElem_cons_zero, List.getElem_cons_succ, Act.put, List.setIfInBounds_toArray, List.set_cons_zero, List.set_cons_succ]
                obtain ⟨u38, hu38⟩ : ∃ x, u37.setCell ⟨u29.heap.size, 0, none⟩ (.int .i64 is) = x := ⟨_, rfl⟩
                rw [hu38] at hHeld ⊢
                have HB38 := Lib.hid hHeld
                have HX38_8 := Lib.hid (show Whole u38 (u29.heap.size) _ #[.int .i64 is] by rw [← hu38]; exact HX37_8.out.store 0 _)
                have HX38_7 := Lib.hid (show Whole u38 (u0.heap.size) _ _ by rw [← hu38]; exact HX37_7.out.far (ne_types HX37_7.out HX37_8.out (by decide)) _ _)
                clear hset hu38
                refine wpAnyH_done (by kernel_rfl) ?_ _
                go_wp2_with fail
                go_meet
                exact ⟨_, rfl, _, _, rfl, rfl, HX38_7.out, HX38_8.out, HB0.out.size, HB29.out.size, HB38.out⟩
              exact AllReadyH.nil
            exact AllReadyH.nil
          exact AllReadyH.nil
        exact AllReadyH.nil
      refine AllReadyH.cons (o := _) rfl (fun K hK => ?_) ?_
      · go_simp
        refine hK.out _ _ (HB29.out.alloc HB29.out.size _) (fun hHeld => ?_)
        clear hK K
        try simp only [List.getElem_toArray, List.getElem_cons_zero, List.getElem_cons_succ, Act.put, List.setIfInBounds_toArray, List.set_cons_zero, List.set_cons_succ]
        obtain ⟨u39, hu39⟩ : ∃ x, u29.alloc (.cells #[.int .i64 0] 25) = x := ⟨_, rfl⟩
        rw [hu39] at hHeld ⊢
        have HB39 := Lib.hid hHeld
        have HX39_8 := Lib.hid (show Whole u39 u29.heap.size 25 #[.int .i64 0] by rw [← hu39]; exact heap_alloc_new u29 _)
        have HX39_7 := Lib.hid (show Whole u39 (u0.heap.size) _ _ by rw [← hu39]; exact Whole.alloc HX29_7.out _)
        clear hu39
        refine wpAnyH_ready (rs := [7]) (by kernel_rfl) (by simp) ?_
        refine AllReadyH.cons (o := _) rfl (fun K hK => ?_) ?_
        · go_simp
          refine (HRU.out u39 HB39.out).mono ?_
          rintro e wc ⟨rfl, rfl⟩
          go_wp2_with fail
          refine hK.out _ _ HB39.out (fun hHeld => ?_)
          clear hK K
          try simp only [List.getElem_toArray, List.getElem_cons_zero, List.getElem_cons_succ, Act.put, List.setIfInBounds_toArray, List.set_cons_zero, List.set_cons_succ]
          refine wpAnyH_ready (rs := [15]) (by kernel_rfl) (by simp) ?_
          refine AllReadyH.cons (o := _) rfl (fun K hK => ?_) ?_
          · go_simp
            refine (HAU.out u39 HB39.out).mono ?_
            rintro e wc ⟨rfl, rfl⟩
            go_wp2_with fail
            refine hK.out _ _ HB39.out (fun hHeld => ?_)
            clear hK K
            try simp only [List.getElem_toArray, List.getElem_cons_zero, List.getElem_cons_succ, Act.put, List.setIfInBounds_toArray, List.set_cons_zero, List.set_cons_succ]
            refine wpAnyH_ready (rs := [18]) (by kernel_rfl) (by simp) ?_
            refine AllReadyH.cons (o := _) rfl (fun K hK => ?_) ?_
            · have l0 := HX39_7.out.cell 0; have n0' := HX39_7.out.free 0
              have hset := HB39.out.setCell (p := ⟨u0.heap.size, 0, none⟩) HB0.out.size (.int .i32 c)
              go_simp
              clear l0 n0'
              refine hK.out _ _ hset (fun hHeld => ?_)
              clear hK K
              try simp only [List.getElem_toArray, List.getElem_cons_zero, List.getElem_cons_succ, Act.put, List.setIfInBounds_toArray, List.set_cons_zero, List.set_cons_succ]
              obtain ⟨u42, hu42⟩ : ∃ x, u39.setCell ⟨u0.heap.size, 0, none⟩ (.int .i32 c) = x := ⟨_, rfl⟩
              rw [hu42] at hHeld ⊢
              have HB42 := Lib.hid hHeld
              have HX42_7 := Lib.hid (show Whole u42 (u0.heap.size) _ #[.int .i32 c] by rw [← hu42]; exact HX39_7.out.store 0 _)
              have HX42_8 := Lib.hid (show Whole u42 (u29.heap.size) _ _ by rw [← hu42]; exact HX39_8.out.far (ne_types HX39_8.out HX39_7.out (by decide)) _ _)
              clear hset hu42
              refine wpAnyH_ready (rs := [19]) (by kernel_rfl) (by simp) ?_
              refine AllReadyH.cons (o := _) rfl (fun K hK => ?_) ?_
              · have l0 := HX42_8.out.cell 0; have n0' := HX42_8.out.free 0
                have hset := HB42.out.setCell (p := ⟨u29.heap.size, 0, none⟩) HB29.out.size (.int .i64 is)
                go_simp
                clear l0 n0'
                refine hK.out _ _ hset (fun hHeld => ?_)
                clear hK K
                try simp only [List.getElem_toArray, List.getElem_cons_zero, List.getElem_cons_succ, Act.put, List.setIfInBounds_toArray, List.set_cons_zero, List.set_cons_succ]
                obtain ⟨u43, hu43⟩ : ∃ x, u42.setCell ⟨u29.heap.size, 0, none⟩ (.int .i64 is) = x := ⟨_, rfl⟩
                rw [hu43] at hHeld ⊢
                have HB43 := Lib.hid hHeld
                have HX43_8 := Lib.hid (show Whole u43 (u29.heap.size) _ #[.int .i64 is] by rw [← hu43]; exact HX42_8.out.store 0 _)
                have HX43_7 := Lib.hid (show Whole u43 (u0.heap.size) _ _ by rw [← hu43]; exact HX42_7.out.far (ne_types HX42_7.out HX42_8.out (by decide)) _ _)
                clear hset hu43
                refine wpAnyH_done (by kernel_rfl) ?_ _
                go_wp2_with fail
                go_meet
                exact ⟨_, rfl, _, _, rfl, rfl, HX43_7.out, HX43_8.out, HB0.out.size, HB29.out.size, HB43.out⟩
              exact AllReadyH.nil
            exact AllReadyH.nil
          exact AllReadyH.nil
        exact AllReadyH.nil
      exact AllReadyH.nil
    refine AllReadyH.cons (o := _) rfl (fun K hK => ?_) ?_
    · go_simp
      refine hK.out _ _ (HB0.out.alloc HB0.out.size _) (fun hHeld => ?_)
      clear hK K
      try simp only [List.getElem_toArray, List.getElem_cons_zero, List.getElem_cons_succ, Act.put, List.setIfInBounds_toArray, List.set_cons_zero, List.set_cons_succ]
      obtain ⟨u44, hu44⟩ : ∃ x, u0.alloc (.cells #[.int .i64 0] 25) = x := ⟨_, rfl⟩
      rw [hu44] at hHeld ⊢
      have HB44 := Lib.hid hHeld
      have HX44_8 := Lib.hid (show Whole u44 u0.heap.size 25 #[.int .i64 0] by rw [← hu44]; exact heap_alloc_new u0 _)
      clear hu44
      refine wpAnyH_ready (rs := [7, 16]) (by kernel_rfl) (by simp) ?_
      refine AllReadyH.cons (o := _) rfl (fun K hK => ?_) ?_
      · go_simp
        refine (HRU.out u44 HB44.out).mono ?_
        rintro e wc ⟨rfl, rfl⟩
        go_wp2_with fail
        refine hK.out _ _ HB44.out (fun hHeld => ?_)
        clear hK K
        try simp only [List.getElem_toArray, List.getElem_cons_zero, List.getElem_cons_succ, Act.put, List.setIfInBounds_toArray, List.set_cons_zero, List.set_cons_succ]
        refine wpAnyH_ready (rs := [15, 16]) (by kernel_rfl) (by simp) ?_
        refine AllReadyH.cons (o := _) rfl (fun K hK => ?_) ?_
        · go_simp
          refine (HAU.out u44 HB44.out).mono ?_
          rintro e wc ⟨rfl, rfl⟩
          go_wp2_with fail
          refine hK.out _ _ HB44.out (fun hHeld => ?_)
          clear hK K
          try simp only [List.getElem_toArray, List.getElem_cons_zero, List.getElem_cons_succ, Act.put, List.setIfInBounds_toArray, List.set_cons_zero, List.set_cons_succ]
          refine wpAnyH_ready (rs := [16]) (by kernel_rfl) (by simp) ?_
          refine AllReadyH.cons (o := _) rfl (fun K hK => ?_) ?_
          · go_simp
            refine hK.out _ _ (HB44.out.alloc HB44.out.size _) (fun hHeld => ?_)
            clear hK K
            try simp only [List.getElem_toArray, List.getElem_cons_zero, List.getElem_cons_succ, Act.put, List.setIfInBounds_toArray, List.set_cons_zero, List.set_cons_succ]
            obtain ⟨u47, hu47⟩ : ∃ x, u44.alloc (.cells #[.int .i32 0] 21) = x := ⟨_, rfl⟩
            rw [hu47] at hHeld ⊢
            have HB47 := Lib.hid hHeld
            have HX47_7 := Lib.hid (show Whole u47 u44.heap.size 21 #[.int .i32 0] by rw [← hu47]; exact heap_alloc_new u44 _)
            have HX47_8 := Lib.hid (show Whole u47 (u0.heap.size) _ _ by rw [← hu47]; exact Whole.alloc HX44_8.out _)
            clear hu47
            refine wpAnyH_ready (rs := [18]) (by kernel_rfl) (by simp) ?_
            refine AllReadyH.cons (o := _) rfl (fun K hK => ?_) ?_
            · have l0 := HX47_7.out.cell 0; have n0' := HX47_7.out.free 0
              have hset := HB47.out.setCell (p := ⟨u44.heap.size, 0, none⟩) HB44.out.size (.int .i32 c)
              go_simp
              clear l0 n0'
              refine hK.out _ _ hset (fun hHeld => ?_)
              clear hK K
              try simp only [List.getElem_toArray, List.getElem_cons_zero, List.getElem_cons_succ, Act.put, List.setIfInBounds_toArray, List.set_cons_zero, List.set_cons_succ]
              obtain ⟨u48, hu48⟩ : ∃ x, u47.setCell ⟨u44.heap.size, 0, none⟩ (.int .i32 c) = x := ⟨_, rfl⟩
              rw [hu48] at hHeld ⊢
              have HB48 := Lib.hid hHeld
              have HX48_7 := Lib.hid (show Whole u48 (u44.heap.size) _ #[.int .i32 c] by rw [← hu48]; exact HX47_7.out.store 0 _)
              have HX48_8 := Lib.hid (show Whole u48 (u0.heap.size) _ _ by rw [← hu48]; exact HX47_8.out.far (ne_types HX47_8.out HX47_7.out (by decide)) _ _)
              clear hset hu48
              refine wpAnyH_ready (rs := [19]) (by kernel_rfl) (by simp) ?_
              refine AllReadyH.cons (o := _) rfl (fun K hK => ?_) ?_
              · have l0 := HX48_8.out.cell 0; have n0' := HX48_8.out.free 0
                have hset := HB48.out.setCell (p := ⟨u0.heap.size, 0, none⟩) HB0.out.size (.int .i64 is)
                go_simp
                clear l0 n0'
                refine hK.out _ _ hset (fun hHeld => ?_)
                clear hK K
                try simp only [List.getElem_toArray, List.getElem_cons_zero, List.getElem_cons_succ, Act.put, List.setIfInBounds_toArray, List.set_cons_zero, List.set_cons_succ]
                obtain ⟨u49, hu49⟩ : ∃ x, u48.setCell ⟨u0.heap.size, 0, none⟩ (.int .i64 is) = x := ⟨_, rfl⟩
                rw [hu49] at hHeld ⊢
                have HB49 := Lib.hid hHeld
                have HX49_8 := Lib.hid (show Whole u49 (u0.heap.size) _ #[.int .i64 is] by rw [← hu49]; exact HX48_8.out.store 0 _)
                have HX49_7 := Lib.hid (show Whole u49 (u44.heap.size) _ _ by rw [← hu49]; exact HX48_7.out.far (ne_types HX48_7.out HX48_8.out (by decide)) _ _)
                clear hset hu49
                refine wpAnyH_done (by kernel_rfl) ?_ _
                go_wp2_with fail
                go_meet
                exact ⟨_, rfl, _, _, rfl, rfl, HX49_7.out, HX49_8.out, HB44.out.size, HB0.out.size, HB49.out⟩
              exact AllReadyH.nil
            exact AllReadyH.nil
          exact AllReadyH.nil
        refine AllReadyH.cons (o := _) rfl (fun K hK => ?_) ?_
        · go_simp
          refine hK.out _ _ (HB44.out.alloc HB44.out.size _) (fun hHeld => ?_)
          clear hK K
          try simp only [List.getElem_toArray, List.getElem_cons_zero, List.getElem_cons_succ, Act.put, List.setIfInBounds_toArray, List.set_cons_zero, List.set_cons_succ]
          obtain ⟨u50, hu50⟩ : ∃ x, u44.alloc (.cells #[.int .i32 0] 21) = x := ⟨_, rfl⟩
          rw [hu50] at hHeld ⊢
          have HB50 := Lib.hid hHeld
          have HX50_7 := Lib.hid (show Whole u50 u44.heap.size 21 #[.int .i32 0] by rw [← hu50]; exact heap_alloc_new u44 _)
          have HX50_8 := Lib.hid (show Whole u50 (u0.heap.size) _ _ by rw [← hu50]; exact Whole.alloc HX44_8.out _)
          clear hu50
          refine wpAnyH_ready (rs := [15]) (by kernel_rfl) (by simp) ?_
          refine AllReadyH.cons (o := _) rfl (fun K hK => ?_) ?_
          · go_simp
            refine (HAU.out u50 HB50.out).mono ?_
            rintro e wc ⟨rfl, rfl⟩
            go_wp2_with fail
            refine hK.out _ _ HB50.out (fun hHeld => ?_)
            clear hK K
            try simp only [List.getElem_toArray, List.getElem_cons_zero, List.getElem_cons_succ, Act.put, List.setIfInBounds_toArray, List.set_cons_zero, List.set_cons_succ]
            refine wpAnyH_ready (rs := [18]) (by kernel_rfl) (by simp) ?_
            refine AllReadyH.cons (o := _) rfl (fun K hK => ?_) ?_
            · have l0 := HX50_7.out.cell 0; have n0' := HX50_7.out.free 0
              have hset := HB50.out.setCell (p := ⟨u44.heap.size, 0, none⟩) HB44.out.size (.int .i32 c)
              go_simp
              clear l0 n0'
              refine hK.out _ _ hset (fun hHeld => ?_)
              clear hK K
              try simp only [List.getElem_toArray, List.getElem_cons_zero, List.getElem_cons_succ, Act.put, List.setIfInBounds_toArray, List.set_cons_zero, List.set_cons_succ]
              obtain ⟨u52, hu52⟩ : ∃ x, u50.setCell ⟨u44.heap.size, 0, none⟩ (.int .i32 c) = x := ⟨_, rfl⟩
              rw [hu52] at hHeld ⊢
              have HB52 := Lib.hid hHeld
              have HX52_7 := Lib.hid (show Whole u52 (u44.heap.size) _ #[.int .i32 c] by rw [← hu52]; exact HX50_7.out.store 0 _)
              have HX52_8 := Lib.hid (show Whole u52 (u0.heap.size) _ _ by rw [← hu52]; exact HX50_8.out.far (ne_types HX50_8.out HX50_7.out (by decide)) _ _)
              clear hset hu52
              refine wpAnyH_ready (rs := [19]) (by kernel_rfl) (by simp) ?_
              refine AllReadyH.cons (o := _) rfl (fun K hK => ?_) ?_
              · have l0 := HX52_8.out.cell 0; have n0' := HX52_8.out.free 0
                have hset := HB52.out.setCell (p := ⟨u0.heap.size, 0, none⟩) HB0.out.size (.int .i64 is)
                go_simp
                clear l0 n0'
                refine hK.out _ _ hset (fun hHeld => ?_)
                clear hK K
                try simp only [List.getElem_toArray, List.getElem_cons_zero, List.getElem_cons_succ, Act.put, List.setIfInBounds_toArray, List.set_cons_zero, List.set_cons_succ]
                obtain ⟨u53, hu53⟩ : ∃ x, u52.setCell ⟨u0.heap.size, 0, none⟩ (.int .i64 is) = x := ⟨_, rfl⟩
                rw [hu53] at hHeld ⊢
                have HB53 := Lib.hid hHeld
                have HX53_8 := Lib.hid (show Whole u53 (u0.heap.size) _ #[.int .i64 is] by rw [← hu53]; exact HX52_8.out.store 0 _)
                have HX53_7 := Lib.hid (show Whole u53 (u44.heap.size) _ _ by rw [← hu53]; exact HX52_7.out.far (ne_types HX52_7.out HX52_8.out (by decide)) _ _)
                clear hset hu53
                refine wpAnyH_done (by kernel_rfl) ?_ _
                go_wp2_with fail
                go_meet
                exact ⟨_, rfl, _, _, rfl, rfl, HX53_7.out, HX53_8.out, HB44.out.size, HB0.out.size, HB53.out⟩
              exact AllReadyH.nil
            exact AllReadyH.nil
          exact AllReadyH.nil
        exact AllReadyH.nil
      refine AllReadyH.cons (o := _) rfl (fun K hK => ?_) ?_
      · go_simp
        refine hK.out _ _ (HB44.out.alloc HB44.out.size _) (fun hHeld => ?_)
        clear hK K
        try simp only [List.getElem_toArray, List.getElem_cons_zero, List.getElem_cons_succ, Act.put, List.setIfInBounds_toArray, List.set_cons_zero, List.set_cons_succ]
        obtain ⟨u54, hu54⟩ : ∃ x, u44.alloc (.cells #[.int .i32 0] 21) = x := ⟨_, rfl⟩
        rw [hu54] at hHeld ⊢
        have HB54 := Lib.hid hHeld
        have HX54_7 := Lib.hid (show Whole u54 u44.heap.size 21 #[.int .i32 0] by rw [← hu54]; exact heap_alloc_new u44 _)
        have HX54_8 := Lib.hid (show Whole u54 (u0.heap.size) _ _ by rw [← hu54]; exact Whole.alloc HX44_8.out _)
        clear hu54
        refine wpAnyH_ready (rs := [7]) (by kernel_rfl) (by simp) ?_
        refine AllReadyH.cons (o := _) rfl (fun K hK => ?_) ?_
        · go_simp
          refine (HRU.out u54 HB54.out).mono ?_
          rintro e wc ⟨rfl, rfl⟩
          go_wp2_with fail
          refine hK.out _ _ HB54.out (fun hHeld => ?_)
          clear hK K
          try simp only [List.getElem_toArray, List.getElem_cons_zero, List.getElem_cons_succ, Act.put, List.setIfInBounds_toArray, List.set_cons_zero, List.set_cons_succ]
          refine wpAnyH_ready (rs := [15]) (by kernel_rfl) (by simp) ?_
          refine AllReadyH.cons (o := _) rfl (fun K hK => ?_) ?_
          · go_simp
            refine (HAU.out u54 HB54.out).mono ?_
            rintro e wc ⟨rfl, rfl⟩
            go_wp2_with fail
            refine hK.out _ _ HB54.out (fun hHeld => ?_)
            clear hK K
            try simp only [List.getElem_toArray, List.getElem_cons_zero, List.getElem_cons_succ, Act.put, List.setIfInBounds_toArray, List.set_cons_zero, List.set_cons_succ]
            refine wpAnyH_ready (rs := [18]) (by kernel_rfl) (by simp) ?_
            refine AllReadyH.cons (o := _) rfl (fun K hK => ?_) ?_
            · have l0 := HX54_7.out.cell 0; have n0' := HX54_7.out.free 0
              have hset := HB54.out.setCell (p := ⟨u44.heap.size, 0, none⟩) HB44.out.size (.int .i32 c)
              go_simp
              clear l0 n0'
              refine hK.out _ _ hset (fun hHeld => ?_)
              clear hK K
              try simp only [List.getElem_toArray, List.getElem_cons_zero, List.getElem_cons_succ, Act.put, List.setIfInBounds_toArray, List.set_cons_zero, List.set_cons_succ]
              obtain ⟨u57, hu57⟩ : ∃ x, u54.setCell ⟨u44.heap.size, 0, none⟩ (.int .i32 c) = x := ⟨_, rfl⟩
              rw [hu57] at hHeld ⊢
              have HB57 := Lib.hid hHeld
              have HX57_7 := Lib.hid (show Whole u57 (u44.heap.size) _ #[.int .i32 c] by rw [← hu57]; exact HX54_7.out.store 0 _)
              have HX57_8 := Lib.hid (show Whole u57 (u0.heap.size) _ _ by rw [← hu57]; exact HX54_8.out.far (ne_types HX54_8.out HX54_7.out (by decide)) _ _)
              clear hset hu57
              refine wpAnyH_ready (rs := [19]) (by kernel_rfl) (by simp) ?_
              refine AllReadyH.cons (o := _) rfl (fun K hK => ?_) ?_
              · have l0 := HX57_8.out.cell 0; have n0' := HX57_8.out.free 0
                have hset := HB57.out.setCell (p := ⟨u0.heap.size, 0, none⟩) HB0.out.size (.int .i64 is)
                go_simp
                clear l0 n0'
                refine hK.out _ _ hset (fun hHeld => ?_)
                clear hK K
                try simp only [List.getElem_toArray, List.getElem_cons_zero, List.getElem_cons_succ, Act.put, List.setIfInBounds_toArray, List.set_cons_zero, List.set_cons_succ]
                obtain ⟨u58, hu58⟩ : ∃ x, u57.setCell ⟨u0.heap.size, 0, none⟩ (.int .i64 is) = x := ⟨_, rfl⟩
                rw [hu58] at hHeld ⊢
                have HB58 := Lib.hid hHeld
                have HX58_8 := Lib.hid (show Whole u58 (u0.heap.size) _ #[.int .i64 is] by rw [← hu58]; exact HX57_8.out.store 0 _)
                have HX58_7 := Lib.hid (show Whole u58 (u44.heap.size) _ _ by rw [← hu58]; exact HX57_7.out.far (ne_types HX57_7.out HX57_8.out (by decide)) _ _)
                clear hset hu58
                refine wpAnyH_done (by kernel_rfl) ?_ _
                go_wp2_with fail
                go_meet
                exact ⟨_, rfl, _, _, rfl, rfl, HX58_7.out, HX58_8.out, HB44.out.size, HB0.out.size, HB58.out⟩
              exact AllReadyH.nil
            exact AllReadyH.nil
          exact AllReadyH.nil
        exact AllReadyH.nil
      exact AllReadyH.nil
    exact AllReadyH.nil
  case rest =>
    obtain ⟨w2, rfl, bc, bi, rfl, rfl, hbc, hbi, hlc, hli, hb2⟩ := hcut
    have z3 : (w2.alloc (.cells #[.int .i64 (-1)] 3)).heap.size = w2.heap.size + 1 := World.size_alloc _ _
    obtain ⟨W4, hW4⟩ : ∃ W4, (w2.alloc (.cells #[.int .i64 (-1)] 3)).alloc (.cells #[.bool false] 4) = W4 := ⟨_, rfl⟩
    have b4 : Below w2.heap.size w2 W4 := by rw [← hW4]; exact ((Below.refl _ _).alloc (Nat.le_refl _) _).alloc (by rw [z3]; omega) _
    have dB : Whole W4 w2.heap.size 3 #[.int .i64 (-1)] := by rw [← hW4]; exact Whole.alloc (heap_alloc_new w2 _) _
    have oB : Whole W4 (w2.heap.size + 1) 4 #[.bool false] := by rw [← hW4, ← z3]; exact heap_alloc_new _ _
    have b14 : Below W1.heap.size W1 W4 := below_steps hb2 b4
    have b04 : Below W.heap.size W W4 := below_steps HB1.out b14
    have h4 := HW.out.below b04
    have hwz := HZ1.out
    have hs2 := hb2.size
    have hbs := HW.out.bel.size
    have hap : ∀ b, W.heap.size ≤ b → ApBox gm gb lv.ownBlock fv mv b := fun b hb => ⟨fun e => by have := HW.out.met.lt; omega, fun e => by have := HW.out.by'.lt; omega, fun e => by have := (oown_lt HW.out.own e).2; omega, fun e => by have := (oown_lt HB.out.ownF e).2; omega, fun e => by have := (oown_lt HB.out.ownM e).2; omega⟩
    have hp4 : PassM W0 W4 q gm gb cs lv.ownBlock caps (.pointer (some ⟨ib, 0, none⟩)) long fv fit mv W.heap.size (W.heap.size + 1) (w2.heap.size + 1) bc w2.heap.size bi j c is ⟨st, got, none, false⟩ :=
      ⟨HB.out.kept (fun k hk => b04.block k (hk.elim (fun e => (oown_lt HB.out.ownF e).2) fun e => (oown_lt HB.out.ownM e).2)) (fun _ _ => rfl) (fun k hk => .inl hk), RB.out.below b14 RB.out.lt, AB.out.below b14 AB.out.lt, oB, hbc.below b4 hbc.lt, dB, hbi.below b4 hbi.lt, by omega, by omega, hap _ (by omega), hap _ (by omega), by omega⟩
    let Cb : CbO := fun W' cs lb vis => ∃ mv, PassM W0 W' q gm gb cs lb caps (.pointer (some ⟨ib, 0, none⟩)) long fv fit mv W.heap.size (W.heap.size + 1) (w2.heap.size + 1) bc w2.heap.size bi j c is (foldP p.ins long j c fit ⟨st, got, none, false⟩ vis)
    have hkeep : KeepC W0 q gm gb n (.slice IA n ic) 139 Cb := by
      rintro Y Y' cs cs' M B r lv left lb' vis hv ⟨mv, hc⟩ hbx ag hes _
      exact ⟨mv, hc.estep hv ag hes⟩
    have hcall : CallC W0 q gm gb n (.slice IA n ic) 139 p.ins meets (rr + 1) 146 #[.pointer (some ⟨W.heap.size, 0, none⟩), .pointer (some ⟨W.heap.size + 1, 0, none⟩), .pointer (some ⟨w2.heap.size + 1, 0, none⟩), .pointer (some ⟨bc, 0, none⟩), .pointer (some ⟨w2.heap.size, 0, none⟩), .pointer (some ⟨bi, 0, none⟩)] Cb True V := by
      rintro Y cs M B lv left vis x hv ⟨mv, hc'⟩ hx ⟨rest, hrest⟩ hch
      have hxV : x ∈ V := by rw [← hrest]; simp
      refine (ppass1_any p HR.out W0 Y q gm gb n HN.out _ HI.out cs M B (rr + 1) lv left hv caps _ long fv fit mv _ _ _ _ _ _ j c is _ hc' HC.out (HFB.out vis x rest hrest) x hx (hch trivial) (by have := (HVX.out x hxV).2; have := HNB.out; have := HN.out; omega) (HVP.out x hxV) HJ.out meets HMT.out).mono ?_
      rintro e Y' ⟨rfl, cs', mv', h', hcs', hz', hrow, hp'⟩
      refine ⟨rfl, cs', h'.box, h'.bel, ⟨hz', h'.met.trans hv.met.symm, h'.by'.trans hv.by'.symm, hrow, hcs'⟩, mv', ?_⟩
      rw [show foldP p.ins long j c fit ⟨st, got, none, false⟩ (vis ++ [x]) = stepP p.ins long j c fit (foldP p.ins long j c fit ⟨st, got, none, false⟩ vis) x from by simp [foldP]]
      exact hp'
    have hE := peach_any p W0 q gm gb n _ _ HN.out HI.out HR.out _ _ HEG.out meets pc HPC.out rr (by have := HRR.out; omega) Cb True V hkeep V (by rw [← HN.out]; exact HV.out) hcall (fun _ => ⟨HU.out, HND.out⟩) W4 cs M B lv left h4 ⟨mv, hp4⟩
    have HE := Lib.hid hE; have HW4 := Lib.hid hW4
    have r4 : W4.cell? ⟨W.heap.size, 0, none⟩ = some (.pointer (some ⟨q, 0, none⟩)) := hp4.r.cell 0
    clear hE hkeep hcall hW4 z3 b4 dB oB b14 b04 h4 hwz hs2 hbs hap hp4 hbc hbi hlc hli hb2
    go_upto_region 3 with (fail)
    rw [HW4.out]
    go_wp2_with fail
    refine HE.out.mono ?_
    rintro e W5 ⟨T, vis, hev, rfl, cs5, M5, B5, lv5, left5, h5, ⟨mv5, hp5⟩, hch5⟩
    have hvV : vis = V := by
      have := HV.out
      unfold closI at this
      rw [HN.out, hev] at this
      exact this
    subst hvV
    rw [← HS.out] at hp5
    have r5 : W5.cell? ⟨W.heap.size, 0, none⟩ = some (.pointer (some ⟨q, 0, none⟩)) := hp5.r.cell 0
    have a5 : W5.cell? ⟨W.heap.size + 1, 0, none⟩ = some (.int .i64 (j : Int)) := hp5.a.cell 0
    have d5 : W5.cell? ⟨w2.heap.size, 0, none⟩ = some (.int .i64 (readZ S.read)) := hp5.d.cell 0
    have q7 : W5.cell? ⟨q, 7, none⟩ = some fv := (h5.box.cell 7).trans hp5.run.c7
    have H5 := Lib.hid h5; have HP5 := Lib.hid hp5; have HCH5 := Lib.hid hch5
    clear h5 hp5 hch5 hev HE r4 HW4
    cases hrd : S.read with
    | none =>
      rw [hrd] at d5
      have HRD := Lib.hid hrd
      clear hrd
      unfold readZ at d5
      go_wp2_with fail
      go_ret
      unfold PassPost
      rw [HRD.out]
      exact ⟨rfl, cs5, M5, B5, lv5, left5, mv5, H5.out, HP5.out.run⟩
    | some x =>
      rw [hrd] at d5
      have hx := HSR.out x hrd
      obtain ⟨hxV, hxr, -⟩ := hx
      have HXV := Lib.hid hxV
      have HRD := Lib.hid hrd
      have hxn : x.1 < n := HVP.out x hxV x.1 (List.mem_cons_self ..)
      have hset : isSet p.ins x.1 = true := by
        unfold readsI at hxr
        rw [Bool.and_eq_true] at hxr
        exact hxr.1
      have hkp : keepI p.ins j (x.1 :: x.2) fit = keepI p.ins j x.2 fit := by
        have hh := of_decide_eq_true hset
        show keepI p.ins j x.2 (if (atI p.ins x.1).op = 4 then _ else _) = _
        rw [if_neg (by omega)]
      obtain ⟨b, o, y, a2, sl, cz, hA, hy, hym, hsl, hat, hF, hrg, hbd, -⟩ := HI.out.at' x.1 (by rw [HN.out]; exact hxn)
      subst hA
      have HF0 := Lib.hid hF; have HAT := Lib.hid hat; have HKPE := Lib.hid hkp
      have HKP : Hid (Calls Try.prog 148 #[.pointer (some ⟨q, 0, none⟩), fv, .int .i64 (x.1 : Int), .int .i64 (j : Int)] W5.drew _) := Lib.hid (pkeep_any p HR.out W0 W5.drew q gm gb n HN.out _ HI.out cs5 M5 B5 (rr + 1) lv5 left5 (H5.out.below (Below.refl _ _).drew) fv fit HP5.out.run.ownF (by rw [HP5.out.run.lenF]; exact HC.out) HP5.out.run.fgm HP5.out.run.fgb HP5.out.run.fl S.steps (by have := HSS.out; have := HP5.out.run.lenF; have := HCB.out; have := HST.out; have := HNB.out; have := HN.out; omega) HP5.out.run.c9 (x.1 :: x.2) (HCH5.out trivial x hxV) (by simp only [List.length_cons]; have := (HVX.out x hxV).2; have := HNB.out; have := HN.out; omega) (HVP.out x hxV) j HJ.out)
      have hrz : readZ (some x) = (x.1 : Int) := rfl
      rw [hrz] at d5
      have hx0 : decide ((x.1 : Int) < 0) = false := decide_eq_false (by omega)
      have hxz : (x.1 : Int) < (n : Int) := by omega
      clear hrd hxV hxr hxn hset hkp hy hym hsl hat hF hrg hbd hrz
      go_upto_region 6 with (fail)
      refine wp_region_held_drew (S := fun w' => (w'.cell? ⟨W.heap.size, 0, none⟩ = some (.pointer (some ⟨q, 0, none⟩)) ∧ w'.cell? ⟨q, 7, none⟩ = some fv ∧ w'.cell? ⟨w2.heap.size, 0, none⟩ = some (.int .i64 (x.1 : Int)) ∧ w'.cell? ⟨W.heap.size + 1, 0, none⟩ = some (.int .i64 (j : Int)))) (by kernel_rfl) (⟨r5, q7, d5, a5⟩) (fun hHeld => ?_)
      refine wpAnyH_take (i := 0) (oi := _) (v := ?_) rfl (by kernel_rfl) (by kernel_rfl) (by kernel_rfl) (fun _ _ _ h => h) (Or.inl ⟨by rfl, ?_⟩) hHeld ?_
      rotate_left 1
      · (intro w hSw; (try dsimp only at hSw); have e0 := hSw.1; have e1 := hSw.2.1; have e2 := hSw.2.2.1; have e3 := hSw.2.2.2; go_simp; (try with_reducible rfl))
      try simp only [List.getElem_toArray, List.getElem_cons_zero, List.getElem_cons_succ, Act.put, List.setIfInBounds_toArray, List.set_cons_zero, List.set_cons_succ]
      refine wpAnyH_take (i := 1) (oi := _) (v := ?_) rfl (by kernel_rfl) (by kernel_rfl) (by kernel_rfl) (fun _ _ _ h => h) (Or.inl ⟨by rfl, ?_⟩) hHeld ?_
      rotate_left 1
      · (intro w hSw; (try dsimp only at hSw); have e0 := hSw.1; have e1 := hSw.2.1; have e2 := hSw.2.2.1; have e3 := hSw.2.2.2; go_simp; (try with_reducible rfl))
      try simp only [List.getElem_toArray, List.getElem_cons_zero, List.getElem_cons_succ, Act.put, List.setIfInBounds_toArray, List.set_cons_zero, List.set_cons_succ]
      refine wpAnyH_take (i := 2) (oi := _) (v := ?_) rfl (by kernel_rfl) (by kernel_rfl) (by kernel_rfl) (fun _ _ _ h => h) (Or.inl ⟨by rfl, ?_⟩) hHeld ?_
      rotate_left 1
      · (intro w hSw; (try dsimp only at hSw); have e0 := hSw.1; have e1 := hSw.2.1; have e2 := hSw.2.2.1; have e3 := hSw.2.2.2; go_simp; (try with_reducible rfl))
      try simp only [List.getElem_toArray, List.getElem_cons_zero, List.getElem_cons_succ, Act.put, List.setIfInBounds_toArray, List.set_cons_zero, List.set_cons_succ]
      refine wpAnyH_take (i := 3) (oi := _) (v := ?_) rfl (by kernel_rfl) (by kernel_rfl) (by kernel_rfl) (fun _ _ _ h => h) (Or.inl ⟨by rfl, ?_⟩) hHeld ?_
      rotate_left 1
      · (intro w hSw; (try dsimp only at hSw); have e0 := hSw.1; have e1 := hSw.2.1; have e2 := hSw.2.2.1; have e3 := hSw.2.2.2; go_simp; (try with_reducible rfl))
      try simp only [List.getElem_toArray, List.getElem_cons_zero, List.getElem_cons_succ, Act.put, List.setIfInBounds_toArray, List.set_cons_zero, List.set_cons_succ]
      refine wpAnyH_take (i := 4) (oi := _) (v := ?_) rfl (by kernel_rfl) (by kernel_rfl) (by kernel_rfl) (fun _ _ _ h => h) (Or.inl ⟨by rfl, ?_⟩) hHeld ?_
      rotate_left 1
      · (intro w hSw; (try dsimp only at hSw); have e0 := hSw.1; have e1 := hSw.2.1; have e2 := hSw.2.2.1; have e3 := hSw.2.2.2; go_simp; (try with_reducible rfl))
      try simp only [List.getElem_toArray, List.getElem_cons_zero, List.getElem_cons_succ, Act.put, List.setIfInBounds_toArray, List.set_cons_zero, List.set_cons_succ]
      refine wpAnyH_take (i := 5) (oi := _) (v := ?_) rfl (by kernel_rfl) (by kernel_rfl) (by kernel_rfl) (fun _ _ _ h => h) (Or.inl ⟨by rfl, ?_⟩) hHeld ?_
      rotate_left 1
      · (intro w hSw; (try dsimp only at hSw); have e0 := hSw.1; have e1 := hSw.2.1; have e2 := hSw.2.2.1; have e3 := hSw.2.2.2; go_simp; (try with_reducible rfl))
      try simp only [List.getElem_toArray, List.getElem_cons_zero, List.getElem_cons_succ, Act.put, List.setIfInBounds_toArray, List.set_cons_zero, List.set_cons_succ]
      refine wpAnyH_take (i := 6) (oi := _) (v := ?_) rfl (by kernel_rfl) (by kernel_rfl) (by kernel_rfl) (fun _ _ _ h => h) (Or.inl ⟨by rfl, ?_⟩) hHeld ?_
      rotate_left 1
      · (intro w hSw; (try dsimp only at hSw); have e0 := hSw.1; have e1 := hSw.2.1; have e2 := hSw.2.2.1; have e3 := hSw.2.2.2; go_simp; (try with_reducible rfl))
      try simp only [List.getElem_toArray, List.getElem_cons_zero, List.getElem_cons_succ, Act.put, List.setIfInBounds_toArray, List.set_cons_zero, List.set_cons_succ]
      refine wpAnyH_ready (rs := [7]) (by kernel_rfl) (by simp) ?_
      refine AllReadyH.cons (o := _) rfl (fun K hK => ?_) ?_
      · go_simp
        refine HKP.out.mono ?_
        rintro e W6 ⟨rfl, cs6, h6, hcs6, h69, ho6, hf6, hz6⟩
        have hf : ∀ k, k < W5.heap.size → k ≠ q → fv.ownBlock ≠ some k → W6.heap[k]? = W5.heap[k]? := hf6
        have hrun : RunB W0 W6 q gm gb cs6 lv5.ownBlock caps (.pointer (some ⟨ib, 0, none⟩)) long fv (keepI p.ins j x.2 fit) mv5 S.got (S.steps + (x.2.length + 1)) :=
          HP5.out.run.fitted H5.out.box (by decide) hf hcs6 h69 (by rw [← HKPE.out]; exact ho6) (by rw [keepI_len, HP5.out.run.lenF])
        have r6 : W6.cell? ⟨W.heap.size, 0, none⟩ = some (.pointer (some ⟨q, 0, none⟩)) := (show Whole W6 _ _ _ from (hf _ HP5.out.r.lt (ne_types HP5.out.r H5.out.box (by decide)) (HP5.out.run.ne HP5.out.r (by decide) _ (.inl rfl))).trans HP5.out.r).cell 0
        have d6 : W6.cell? ⟨w2.heap.size, 0, none⟩ = some (.int .i64 (x.1 : Int)) := by
          have := (show Whole W6 _ _ _ from (hf _ HP5.out.d.lt (ne_types HP5.out.d H5.out.box (by decide)) HP5.out.apD.nf).trans HP5.out.d).cell 0
          rw [HRD.out] at this
          exact this
        have a6 : W6.cell? ⟨W.heap.size + 1, 0, none⟩ = some (.int .i64 (j : Int)) := (show Whole W6 _ _ _ from (hf _ HP5.out.a.lt (ne_types HP5.out.a H5.out.box (by decide)) HP5.out.apA.nf).trans HP5.out.a).cell 0
        have q67 : W6.cell? ⟨q, 7, none⟩ = some fv := (h6.box.cell 7).trans hrun.c7
        have q0 : W6.cell? ⟨q, 0, none⟩ = some (.slice (some ⟨b, o, none⟩) n ic) := (h6.box.cell 0).trans h6.c0
        obtain ⟨-, k1, -⟩ := HF0.out.below h6.bel
        have H6 := Lib.hid h6; have HRUN := Lib.hid hrun
        clear h6 hcs6 h69 ho6 hf6 hz6 hf hrun r5 a5 d5 q7 HKP
        go_wp2_with fail
        refine hK.out _ _ (⟨r6, q67, d6, a6⟩) (fun hHeld => ?_)
        clear hK K
        try simp only [List.getElem_toArray, List.getElem_cons_zero, List.getElem_cons_succ, Act.put, List.setIfInBounds_toArray, List.set_cons_zero, List.set_cons_succ]
        refine wpAnyH_done (by kernel_rfl) ?_ _
        go_wp2_with fail
        go_big_quiet (fail)
        have hb7 := below_draws W6 nq
        have H7 := Lib.hid (H6.out.below hb7)
        have HRUN7 := Lib.hid (HRUN.out.kept (W' := W6.drewN nq) (fun _ _ => rfl) (fun _ _ => rfl) (fun k hk => .inl hk))
        clear hb7 r6 d6 q0 k1 a6 q67
        go_wp2_with fail
        go_ret
        unfold PassPost
        rw [HRD.out]
        exact ⟨by rw [HAT.out]; rfl, cs6, M5, B5, lv5, left5, mv5, H7.out, HRUN7.out⟩
      exact AllReadyH.nil
end Go.Proofs.Ytnemacejaiifnaa
/- A run from a place on: a pass behind a pass, as far as runes lead. No condition. -/
namespace Go.Proofs.Ytnemacejaiifnaa
open Go Go.RowKit

/-- What a run leaves: the match that it found, in some number of steps. -/
def GoPost (W0 : World) (q gm gb n : Nat) (IV : Value) (caps : Nat) (iv : Value) (long : Bool) (fv : Value) (m : Option (List Int)) (top : Nat) (e : Ending) (W' : World) : Prop :=
  e = .returned (.tuple #[]) ∧ ∃ rr fit st, st ≤ top ∧ RunS W0 W' q gm gb n IV caps iv long fv rr fit m st
theorem RunS.zero {W0 W : World} {q gm gb n : Nat} {IV : Value} {caps : Nat} {iv : Value} {long : Bool} {fg fc : Nat} {rr : Int} {fit : List Int} {got : Option (List Int)} {st : Nat} (h : RunS W0 W q gm gb n IV caps iv long (.slice (some ⟨fg, 0, none⟩) caps fc) rr fit got st) (h0 : 0 < fit.length) :
    RunS W0 (W.setCell ⟨fg, 0, none⟩ (.int .i64 0)) q gm gb n IV caps iv long (.slice (some ⟨fg, 0, none⟩) caps fc) rr (fit.set 0 0) got st := by
  obtain ⟨cs, M, B, lv, left, mv, hw, hb⟩ := h
  have hlt := oown_lt hb.ownF (j := fg) rfl
  refine ⟨cs, M, B, lv, left, mv, hw.away (hw.bel.setCell (p := ⟨fg, 0, none⟩) hlt.1 _) (fun k hk hh => Below.heap_setCell W _ _ k ?_), ⟨hb.c5, hb.c6, hb.c7, hb.c8, hb.c9, hb.ownF.set 0 h0 0 (by unfold R64; omega), by rw [List.length_set]; exact hb.lenF, oown_set hb.ownM fg 0 _ (hb.fm fg rfl), hb.nilM, hb.lenM, hb.fgm, hb.fgb, hb.mgm, hb.mgb, hb.fl, hb.ml, hb.fm⟩⟩
  rintro rfl
  rcases hh with e | e | e | e
  · exact hb.ne hw.box (by decide) _ (.inl rfl) (by rw [← e]; rfl)
  · exact hb.fgm (by rw [← e]; rfl)
  · exact hb.fgb (by rw [← e]; rfl)
  · exact hb.fl _ rfl e
theorem atI_mem15 {I : List Ins} {k : Nat} (h : k < I.length) : atI I k ∈ I := by
  unfold atI
  rw [List.getD_eq_getElem?_getD, List.getElem?_eq_getElem h]
  exact List.getElem_mem h
set_option maxHeartbeats 8000000 in
set_option maxRecDepth 100000 in
theorem pgo_any (p : Pg) (hR : RightPg p) (hG : ∀ pc, ReachI p.ins p.start.toNat pc → GoodI p.ins pc) (W0 W : World) (q gm gb n : Nat) (hn : p.ins.length = n) (IV : Value) (hI : Inss W0 IV p.ins) (caps : Nat) (hc : (caps : Int) = p.caps) (B0 : Nat) (k0 : Int) (s : ByteArray) (ib : Nat) (hIn : In W0 B0 k0 s ib)
    (L : Nat) (hL : (runesOf s).length = L) (hlen : L ≤ 1000000) (long : Bool) (fg fc : Nat) (rr : Int) (hrr : rr ≤ 1) (fit : List Int) (st : Nat) (hst : st ≤ 1) (h : RunS W0 W q gm gb n IV caps (.pointer (some ⟨ib, 0, none⟩)) long (.slice (some ⟨fg, 0, none⟩) caps fc) rr fit none st) (hfl : fit.length = caps)
    (pc : Nat) (hpc : p.start = (pc : Int)) :
    Calls Try.prog 97 #[.pointer (some ⟨q, 0, none⟩), .int .i64 (pc : Int)] W (GoPost W0 q gm gb n IV caps (.pointer (some ⟨ib, 0, none⟩)) long (.slice (some ⟨fg, 0, none⟩) caps fc) (findF p.ins (textT (runesOf s)) long (L + 1) pc 0 (fit.set 0 0)) (1 + (L + 1) * (3 * n + caps + 2))) := by
  have hc2 : 2 ≤ caps := by have := hR.2.2.2.1; omega
  have hcb : caps ≤ 4002 := by have := hR.2.2.2.2.1; omega
  have hnb : n ≤ 10000 := by rw [← hn]; exact hR.2.1
  have hz := h.zero (by omega)
  obtain ⟨cs, M, B, lv, left, mv, hw, hb⟩ := id h
  have q7 : W.cell? ⟨q, 7, none⟩ = some (.slice (some ⟨fg, 0, none⟩) caps fc) := (hw.box.cell 7).trans hb.c7
  obtain ⟨t0, zt⟩ := hb.ownF.at' 0 (by omega)
  have hg0 : (0 : Int) < (caps : Nat) := by omega
  obtain ⟨x0, hx0⟩ : ∃ x0, fit[0]'(by omega) = x0 := ⟨_, rfl⟩
  rw [hx0] at t0
  have hf0 : ∃ m, findF p.ins (textT (runesOf s)) long (L + 1) pc 0 (fit.set 0 0) = m := ⟨_, rfl⟩
  obtain ⟨m, hm⟩ := hf0
  rw [hm]
  have hr0 : ReachI p.ins p.start.toNat pc := by
    rw [hpc, Int.toNat_natCast]
    exact .start
  have HPP := Lib.hid (fun (W : World) (rr : Int) (hrr : rr ≤ 100000000) (fit : List Int) (got : Option (List Int)) (st : Nat) (hst : st ≤ 80000000000) (h : RunS W0 W q gm gb n IV caps (.pointer (some ⟨ib, 0, none⟩)) long (.slice (some ⟨fg, 0, none⟩) caps fc) rr fit got st) (pc : Nat) (hr : ReachI p.ins p.start.toNat pc) (j : Nat) (hj : j ≤ L) => ppass_any p hR hG W0 W q gm gb n hn IV hI caps hc B0 k0 s ib hIn (by rw [hL]; exact hlen) long _ rr hrr fit got st hst h pc hr j (by rw [hL]; exact hj) _ rfl)
  have HIS := Lib.hid (fun (pc : Nat) (hr : ReachI p.ins p.start.toNat pc) (j : Nat) (fit : List Int) (n0 : Nat) (g0 : Option (List Int)) (d : Nat) => pass_is (T := textT (runesOf s)) (long := long) hR hG hr j fit n0 g0 d _ rfl)
  have HZ := Lib.hid hz; have HM := Lib.hid hm; have HFL := Lib.hid hfl; have HL := Lib.hid hL; have HLEN := Lib.hid hlen; have HC2 := Lib.hid hc2; have HCB := Lib.hid hcb; have HNB := Lib.hid hnb; have HR0 := Lib.hid hr0; have HRR := Lib.hid hrr; have HST := Lib.hid hst; have HN := Lib.hid hn; have HR := Lib.hid hR
  have HSD := Lib.hid (show ∀ x, x.1 < p.ins.length → isSet p.ins x.1 = true → ∃ u : Nat, (atI p.ins x.1).out = (u : Int) from fun (x : Nat × List Nat) hx hset => by
    have hmem : atI p.ins x.1 ∈ p.ins := atI_mem15 hx
    have hsd := hR.2.2.2.2.2.2 _ hmem
    have h2 := of_decide_eq_true hset
    obtain ⟨y, hy⟩ : ∃ y, atI p.ins x.1 = y := ⟨_, rfl⟩
    rw [hy] at hsd h2 ⊢
    obtain ⟨yo, yu, ya, ys, yt⟩ := y
    have h2 : yo = 2 := h2
    subst h2
    obtain ⟨⟨hu0, -⟩, -⟩ := (sound_set _ p.caps yu ya yt ys).1 hsd
    exact Int.eq_ofNat_of_zero_le hu0)
  clear h hw hb hz hm hfl hL hlen hc2 hcb hnb hr0 hrr hst hn hR hG hI hc hIn hpc hx0
  go_enter Try.func97, Try.ntmps97
  go_upto_region 1 with (fail)
  obtain ⟨W1, hW1⟩ : ∃ W1, W.setCell ⟨fg, 0, none⟩ (.int .i64 0) = W1 := ⟨_, rfl⟩
  rw [hW1] at HZ ⊢
  clear q7 t0 zt hg0 hW1
  obtain ⟨K, hK⟩ : ∃ K, 3 * n + caps + 2 = K := ⟨_, rfl⟩
  have HK := Lib.hid hK
  rw [hK]
  clear hK
  go_wp2_with fail
  go_loopg [1, 4] (L + 3) (fun gk t1 t4 wr => ∃ (j : Nat) (rr : Int) (fit : List Int) (got : Option (List Int)) (st : Nat), t4 = .int .i64 (j : Int) ∧ rr ≤ (j : Int) + 1 ∧ st ≤ 1 + j * K ∧ j ≤ L + 1 ∧ RunS W0 wr q gm gb n IV caps (.pointer (some ⟨ib, 0, none⟩)) long (.slice (some ⟨fg, 0, none⟩) caps fc) rr fit got st ∧
      ((∃ pc : Nat, t1 = .int .i64 (pc : Int) ∧ ReachI p.ins p.start.toNat pc ∧ j ≤ L ∧ (findF p.ins (textT (runesOf s)) long (L + 1 - j) pc j fit).or got = m ∧ L + 2 - j < gk ∧ gk ≤ L + 3) ∨ (t1 = .int .i64 (-1) ∧ got = m ∧ 0 < gk ∧ gk ≤ L + 3)))
  case atStart =>
    refine ⟨0, rr, _, none, st, rfl, by have := HRR.out; omega, by have := HST.out; omega, by omega, HZ.out, .inl ⟨pc, rfl, HR0.out, by omega, ?_, by omega, Nat.le_refl _⟩⟩
    rw [Option.or_none, Nat.sub_zero]
    exact HM.out
  case round =>
    clear HZ HRR HST HR0
    obtain ⟨j, rr, fit, got, st, rfl, hrr, hst, hj1, hrun, hor⟩ := hrel
    have HRR := Lib.hid hrr; have HST := Lib.hid hst; have HJ1 := Lib.hid hj1; have HRUN := Lib.hid hrun
    clear hrr hst hj1 hrun
    rcases hor with ⟨pc, rfl, hreach, hjL, hfind, hgk, hgn⟩ | ⟨rfl, hgot, hgk, hgn⟩
    rotate_left
    · have HG := Lib.hid hgot
      clear hgot hgk hgn
      go_wp2_with fail
      go_end0
      refine ⟨rfl, rr, fit, st, ?_, by rw [← HG.out]; exact HRUN.out⟩
      rw [HK.out]
      have := HST.out
      have h2 : j * K ≤ (L + 1) * K := Nat.mul_le_mul_right _ HJ1.out
      omega
    · have hkb : K ≤ 34010 := by have := HK.out; have := HCB.out; have := HNB.out; omega
      have hjb : j ≤ 1000000 := by have := HLEN.out; omega
      have hjk : j * K ≤ 1000000 * 34010 := Nat.mul_le_mul hjb hkb
      obtain ⟨S, hS⟩ : ∃ S, foldP p.ins long j ((textT (runesOf s)).rn j) fit ⟨st, got, none, false⟩ (closI ((textT (runesOf s)).meets ((textT (runesOf s)).at' j)) p.ins pc) = S := ⟨_, rfl⟩
      have hpp := HPP.out wr rr (by have := HRR.out; omega) fit got st (by have := HST.out; omega) HRUN.out pc hreach j hjL
      rw [hS] at hpp
      obtain ⟨-, -, -, hVx, hSt, hSn, hSs⟩ := HIS.out pc hreach j fit st got (L - j)
      rw [hS] at hSt hSn hSs
      have hd : L - j + 1 = L + 1 - j := by omega
      rw [hd, hfind] at hSn hSs
      have hfl : fit.length = caps := by
        obtain ⟨_, _, _, _, _, _, _, hb⟩ := HRUN.out
        exact hb.lenF
      have hjk1 : (j + 1) * K = j * K + K := by rw [Nat.add_mul, Nat.one_mul]
      have hw1 : IntKind.i64.wrap ((j : Int) + 1) = ((j + 1 : Nat) : Int) := by rw [ow_wrap _ ⟨by omega, by omega⟩]; omega
      have hw2 : wrap64 ((j : Int) + 1) = ((j + 1 : Nat) : Int) := by rw [IntWalk.wrap64_in _ ⟨by omega, by omega⟩]; omega
      have hge : (0 : Int) ≤ (pc : Int) := by omega
      have HPASS := Lib.hid hpp; have HVX := Lib.hid hVx; have HSST := Lib.hid hSt; have HSN := Lib.hid hSn; have HSS := Lib.hid hSs; have HFLJ := Lib.hid hfl; have HJK := Lib.hid hjk1; have HJL := Lib.hid hjL; have HGK := Lib.hid hgk; have HGN := Lib.hid hgn; have HJ0 := Lib.hid (show ((j : Int) + 1) = ((j + 1 : Nat) : Int) by omega)
      clear hkb hjb hjk hS hpp hVx hSt hSn hSs hfl hjk1 hjL hgk hgn hfind hd hreach
      go_wp2_with fail
      refine HPASS.out.mono ?_
      rintro e W2 hpost
      have hor : ∃ (t : Int) (rr2 : Int) (fit2 : List Int) (st2 : Nat), e = .returned (.int .i64 t) ∧ rr2 ≤ ((j + 1 : Nat) : Int) + 1 ∧ st2 ≤ 1 + (j + 1) * K ∧ RunS W0 W2 q gm gb n IV caps (.pointer (some ⟨ib, 0, none⟩)) long (.slice (some ⟨fg, 0, none⟩) caps fc) rr2 fit2 S.got st2 ∧
          ((∃ pc : Nat, t = (pc : Int) ∧ ReachI p.ins p.start.toNat pc ∧ j + 1 ≤ L ∧ (findF p.ins (textT (runesOf s)) long (L + 1 - (j + 1)) pc (j + 1) fit2).or S.got = m) ∨ (t = -1 ∧ S.got = m)) := by
        unfold PassPost at hpost
        have h1 := HRR.out; have h2 := HST.out; have h3 := HSST.out; have h4 := HFLJ.out; have h5 := HJK.out; have h6 := HK.out; have h7 := HN.out
        cases hrd : S.read with
        | none =>
          rw [hrd] at hpost
          obtain ⟨rfl, hr2⟩ := hpost
          exact ⟨-1, rr + 1, fit, S.steps, rfl, by omega, by rw [h5]; omega, hr2, .inr ⟨rfl, (HSN.out hrd).symm⟩⟩
        | some x =>
          rw [hrd] at hpost
          obtain ⟨rfl, hr2⟩ := hpost
          obtain ⟨hxV, hxr, hjl, hrch, heq⟩ := HSS.out x hrd
          have hx2 := HVX.out x hxV
          have hjl' : j < L := by
            have := HL.out
            have h8 : (textT (runesOf s)).len = (runesOf s).length := rfl
            omega
          have hset : isSet p.ins x.1 = true := by
            unfold readsI at hxr
            rw [Bool.and_eq_true] at hxr
            exact hxr.1
          obtain ⟨u, hu⟩ := HSD.out x hx2.1 hset
          refine ⟨(atI p.ins x.1).out, rr + 1, _, S.steps + (x.2.length + 1), rfl, by omega, by rw [h5]; omega, hr2, .inl ⟨u, hu, by have := hrch; rw [hu] at this; simpa using this, hjl', ?_⟩⟩
          rw [hu, Int.toNat_natCast] at heq
          rw [show L + 1 - (j + 1) = L - j by omega]
          exact heq.symm
      obtain ⟨t, rr2, fit2, st2, rfl, h1, h2, h3, h4⟩ := hor
      have H1 := Lib.hid h1; have H2 := Lib.hid h2; have H3 := Lib.hid h3; have H4 := Lib.hid h4
      clear h1 h2 h3 h4 hpost HPASS
      go_wp2_with fail
      go_roundg (gk - 1)
      case measure => have := HGK.out; omega
      case rel =>
        have hgk := HGK.out; have hgn := HGN.out; have hjl := HJL.out
        refine ⟨j + 1, rr2, fit2, S.got, st2, by rw [HJ0.out], H1.out, H2.out, by omega, H3.out, ?_⟩
        rcases H4.out with ⟨pc2, e, g1, g2, g3⟩ | ⟨e, g1⟩
        · exact .inl ⟨pc2, by rw [e], g1, g2, g3, by omega, by omega⟩
        · exact .inr ⟨by rw [e], g1, by omega, by omega⟩
end Go.Proofs.Ytnemacejaiifnaa
