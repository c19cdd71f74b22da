/- Texts merged by program: PxIndex. No condition. -/
import Derived.Test.YtnemacejaiifnaaQ56
import Derived.Test.YtnemacejaiifnaaQ2
import Derived.Deep.RegionLaw
import Derived.BigQuiet
import Derived.WalkMore
import Derived.Sort.QuietIn
import Derived.Deep.RegionHeld3
import Derived.Deep.RegionWith
set_option linter.unusedVariables false
set_option linter.unusedSimpArgs false
/- Index: where runes stand first. No condition. -/
namespace Go.Proofs.Ytnemacejaiifnaa
open Go Go.RowKit Go.Shelf
attribute [local go_sem] Oper.semAt_some

section
variable {F : Fence} {n : Nat} {P : Program} {ops : Array Oper} {Q : Exit → Act → World → Prop} {md : Region.Mode}
theorem operIn_round (l : Nat) (hro : F.round = none) {o : Oper} (ho : ∀ c, o.op ≠ .defer c) {a : Act} {w : World} {K K' : Act → World → Prop} (hK : ∀ a w, K a w → K' a w) (h : o.wpIn F n P a w K Q) : o.wpIn (F.inRound l) n P a w K' Q := by
  have h := Oper.wpIn_mono hK h
  unfold Oper.wpIn at h ⊢
  rw [hro, Oper.semAt_none] at h
  rw [Fence.inRound_round, Oper.semAt_some l _ _ ho]
  refine ⟨h.1, ?_⟩
  have h := h.2
  generalize (execOp a.eval o).run P w = r at h ⊢
  cases r with
  | ok x w' => cases x <;> exact h
  | halt x w' => cases x <;> exact h
theorem anyIn_round (l : Nat) (hro : F.round = none) (ho : ∀ o ∈ ops, ∀ c, o.op ≠ .defer c) : ∀ (fuel : Nat) (listed : Array Bool) (a : Act) (w : World), wpAnyIn F n P md ops Q fuel listed a w → wpAnyIn (F.inRound l) n P md ops Q fuel listed a w
  | 0, _, _, _, h => h
  | fuel + 1, _, _, _, h => ⟨h.1, fun i hi => by
      have h2 := h.2 i hi
      unfold wpOpIn at h2 ⊢
      split at h2
      · exact anyIn_round l hro ho fuel _ _ _ h2
      · rename_i o he
        split at h2
        · rename_i hw
          rw [if_pos hw]
          exact operIn_round l hro (ho o (Array.mem_of_getElem? he)) (anyIn_round l hro ho fuel _) h2
        · rename_i hw
          rw [if_neg hw]
          exact ⟨h2.1, anyIn_round l hro ho fuel _ _ _ h2.2⟩⟩
/-- A REGION THAT DRAWS, WHOSE OPERATIONS AND CALLEES ONLY READ, WITHIN A ROUND. -/
theorem quiet_round {l id : Nat} {a : Act} {w : World} {os : List Oper} (hro : F.round = none) (hF : F.depth = none) (hm : P.follows .mixedOrders = true) (hB : Region.lexB .any os.toArray = true) (ho : ∀ o ∈ os, ∀ c, o.op ≠ .defer c)
    (h : wpQuietIn F n P os.toArray (fun w' => ∃ n, w' = w.drewN n) (fun a' => ∀ w', (∃ n, w' = w.drewN n) → Q .normal a' w') os a) : (Code.region id os.toArray true).wpIn (F.inRound l) n P Q a w := by
  simp only [Region.lexB, Bool.and_eq_true] at hB
  refine wpIn_region_any hm (anyIn_round l hro (by simpa using ho) _ _ _ _ (wpAnyIn_of_quiet (C := fun w' => ∃ n, w' = w.drewN n) (Q := fun a' => ∀ w', (∃ n, w' = w.drewN n) → Q .normal a' w') hro (fun _ w' hw' h => h w' hw') _ _ _ _ ⟨1, rfl⟩ ?_))
  have := wpAnyQIn_lex (F := F) (n := n) (C := fun w' => ∃ n, w' = w.drewN n) (md := .any) hB.1 os 0 (Array.replicate os.toArray.size false) a (by simp) (by simpa using hB.2) h
  simpa using this
end
/-- The marks that ranges over functions have left, among the blocks from B on, each once. -/
def Marks (B : Nat) (W : World) (ds : List Deferred) : Prop := ∃ l : List Nat, ds = l.map (fun D => { target := .collected D, args := #[] }) ∧ l.Nodup ∧ ∀ D ∈ l, B ≤ D ∧ W.heap[D]? = some (.deferred (some []))
theorem Marks.nil (B : Nat) (W : World) : Marks B W [] := ⟨[], rfl, List.nodup_nil, by simp⟩
/-- With all marks on its frame a function leaves. -/
theorem leaves_marks {F : Fence} {n : Nat} {P : Program} {fn : Func} {tmps : Array Value} {R : Ending → World → Prop} {B : Nat} {u : FrameMode} (hu : u ≠ .run) : ∀ (l : List Nat) (W : World), l.Nodup → (∀ D ∈ l, B ≤ D ∧ W.heap[D]? = some (.deferred (some []))) →
    (∀ W', Below B W W' → LeavesIn F n P fn tmps R [] u W') → B ≤ W.heap.size → LeavesInM F n P fn tmps R (l.map (fun D => { target := .collected D, args := #[] })) u W
  | [], W, _, _, h, hB => h W (Below.refl _ _)
  | D :: l, W, hn, hd, h, hB => by
    have hn' := List.nodup_cons.1 hn
    have hD := hd D (List.mem_cons_self ..)
    have hg := grownBy_putObj' W D (.deferred none)
    have hb : Below B W (W.putObj D (.deferred none)) := ⟨hg.os, hg.tape, hg.output, hg.size, fun k hk => hg.block k (Nat.lt_of_lt_of_le hk hB) (fun e => by have := Option.some.inj e; omega)⟩
    refine ⟨hu, .inl ⟨D, W.putObj D (.deferred none), rfl, run_takeDeferred hD.2, ?_⟩⟩
    refine leaves_marks hu l _ hn'.2 (fun E hE => ⟨(hd E (List.mem_cons_of_mem _ hE)).1, ?_⟩) (fun W' hW' => h W' (hb.trans hW')) (Nat.le_trans hB hg.size)
    have hE' := (hd E (List.mem_cons_of_mem _ hE)).2
    have hlt : E < W.heap.size := (Array.getElem?_eq_some_iff.1 hE').1
    refine (hg.block E hlt (fun e => ?_)).trans hE'
    have := Option.some.inj e
    subst this
    exact hn'.1 hE
theorem Marks.below {B : Nat} {W W' : World} {ds : List Deferred} (h : Marks B W ds) (hk : ∀ D, B ≤ D → D < W.heap.size → W.heap[D]? = some (.deferred (some [])) → W'.heap[D]? = W.heap[D]?) : Marks B W' ds := by
  obtain ⟨l, e, hn, hd⟩ := h
  exact ⟨l, e, hn, fun D hD => ⟨(hd D hD).1, (hk D (hd D hD).1 (Array.getElem?_eq_some_iff.1 (hd D hD).2).1 (hd D hD).2).trans (hd D hD).2⟩⟩
theorem Marks.cons {B D : Nat} {W : World} {ds : List Deferred} (h : Marks B W ds) (hD : B ≤ D) (hw : W.heap[D]? = some (.deferred (some []))) (hne : ∀ E, E ≥ D → ¬ ({ target := .collected E, args := #[] } : Deferred) ∈ ds) : Marks B W ({ target := .collected D, args := #[] } :: ds) := by
  obtain ⟨l, rfl, hn, hd⟩ := h
  refine ⟨D :: l, rfl, List.nodup_cons.2 ⟨fun hm => hne D (Nat.le_refl _) (List.mem_map.2 ⟨D, hm, rfl⟩), hn⟩, fun E hE => ?_⟩
  rcases List.mem_cons.1 hE with rfl | hE
  · exact ⟨hD, hw⟩
  · exact hd E hE

theorem zip_two14 (t : Array Value) (p q : Tmp) (u v : Value) : ((#[p, q] : Array Tmp).zip #[u, v]).foldl (fun t (p, v) => t.setIfInBounds p v) t = (t.setIfInBounds p u).setIfInBounds q v := by
  rw [show (#[p, q] : Array Tmp).zip #[u, v] = #[(p, u), (q, v)] from by simp]
  rfl
/-- The place that a round of Index asks at. -/
def ixK (a : Act) (W : World) : Nat := match a.tmps.getD 10 undef with
  | .pointer (some p) => (match W.cell? p with | some (.int _ x) => x.toNat | _ => 0)
  | _ => 0
/-- What stands in memory at a round of Index: B is the heap's end ahead of it. -/
structure IxI (w3 : World) (ab k : Nat) (W : World) (ds : List Deferred) : Prop where
  low : Below w3.heap.size w3 W
  box : Whole W ab 3 #[.int .i64 (k : Int)]
  ab3 : w3.heap.size ≤ ab
  marks : Marks w3.heap.size W ds

/-- One mark more. -/
theorem marks_next {B D : Nat} {W V w3 : World} {ds : List Deferred} (h : Marks B W ds) (hB : B ≤ W.heap.size) (hV : Below W.heap.size W V) (hD : W.heap.size ≤ D) (hDD : V.heap[D]? = some (.deferred (some []))) : Marks B V ({ target := .collected D, args := #[] } :: ds) := by
  have h2 : Marks B V ds := h.below fun E _ hE _ => hV.block E hE
  refine h2.cons (Nat.le_trans hB hD) hDD fun E hE hm => ?_
  obtain ⟨l, rfl, -, hd⟩ := h
  obtain ⟨F, hF, e⟩ := List.mem_map.1 hm
  have hlt := (Array.getElem?_eq_some_iff.1 (hd F hF).2).1
  injection e with e
  injection e with e
  omega

set_option maxHeartbeats 6400000 in
set_option maxRecDepth 100000 in
theorem index_any (B : Nat) (kk : Int) (s : ByteArray) (ib : Nat) (w : World) (hin : In w B kk s ib) (v : Value) (l : List Int) (hR : Rns w v l) (hlen : l.length ≤ 1000000000000) (f : Int) (hf : I64 f) :
    Calls Try.prog 23 #[.pointer (some ⟨ib, 0, none⟩), v, .int .i64 f] w fun e w' => ∃ r : Int, e = .returned (.int .i64 r) ∧ IndexIs (runesOf s) l (max f 0) r ∧ Below w.heap.size w w' := by
  obtain ⟨A, cc, rfl, hlc, -⟩ := id hR
  obtain ⟨w3, hw3⟩ : ∃ x, ((w.alloc (.cells #[.pointer (some ⟨ib, 0, none⟩)] 30)).alloc (.cells #[.slice A l.length cc] 41)).alloc (.cells #[.int .i64 ((l.length : Int) - 1)] 3) = x := ⟨_, rfl⟩
  have hs3 : w3.heap.size = w.heap.size + 1 + 1 + 1 := by rw [← hw3]; simp
  have hb3 : Below w.heap.size w w3 := by rw [← hw3]; exact (((Below.refl _ w).alloc (Nat.le_refl _) _).alloc (by simp) _).alloc (by simp; omega) _
  have x0 : Whole w3 w.heap.size 30 #[.pointer (some ⟨ib, 0, none⟩)] := by rw [← hw3]; exact Whole.alloc (Whole.alloc (heap_alloc_new w _) _) _
  have x1 : Whole w3 (w.heap.size + 1) 41 #[.slice A l.length cc] := by
    rw [← hw3]; refine Whole.alloc ?_ _
    have := heap_alloc_new (w.alloc (.cells #[.pointer (some ⟨ib, 0, none⟩)] 30)) (.cells #[.slice A l.length cc] 41)
    simpa [Whole] using this
  have x2 : Whole w3 (w.heap.size + 1 + 1) 3 #[.int .i64 ((l.length : Int) - 1)] := by
    rw [← hw3]
    have := heap_alloc_new ((w.alloc (.cells #[.pointer (some ⟨ib, 0, none⟩)] 30)).alloc (.cells #[.slice A l.length cc] 41)) (.cells #[.int .i64 ((l.length : Int) - 1)] 3)
    simpa [Whole] using this
  have HX0 := Lib.hid x0; have HX1 := Lib.hid x1; have HX2 := Lib.hid x2; have HW3 := Lib.hid hw3; have HS3 := Lib.hid hs3; have HB3 := Lib.hid hb3; have HIN := Lib.hid (hin.below hb3); have HR := Lib.hid (hR.below hb3); have HLEN := Lib.hid hlen; have HF := Lib.hid hf
  have HRL : Hid ((runesOf s).length ≤ 2147483648) := Lib.hid (by have := length_runesOf s; have := hin.1; omega)
  clear hin hR hw3 hs3 hb3 x0 x1 x2
  refine (callsIn_wide (n := 8)).1 ?_
  refine callsIn_of_wp_marks Try.func23 rfl trivial ?_ rfl
  simp only [Try.ntmps23, List.size_toArray, List.length_cons, List.length_nil, Nat.reduceAdd, Nat.reduceSub, Array.replicate_succ, Array.replicate_zero, List.push_toArray, List.append_toArray, List.nil_append, List.cons_append]
  refine wpIn_wide.2 ?_
  obtain ⟨M, hM, hMf⟩ : ∃ M : Nat, max f 0 = (M : Int) ∧ ((0 ≤ f ∧ f = M) ∨ (f < 0 ∧ M = 0)) := ⟨(max f 0).toNat, by omega, by omega⟩
  have HM := Lib.hid hM
  rw [hM]
  clear hM
  obtain ⟨n, hn⟩ : ∃ n, (runesOf s).length = n := ⟨_, rfl⟩
  obtain ⟨m, hm⟩ : ∃ m, l.length = m := ⟨_, rfl⟩
  have HN := Lib.hid hn; have HMM := Lib.hid hm
  rw [hn] at HRL
  rw [hm] at HX1 HX2 HR HLEN HW3 hlc hlen ⊢
  have hrl := HRL.out
  have hk64 : (M : Int) ≤ 9223372036854775807 := by have := hf.2; omega
  have HLIN : Hid (∀ (W : World), Below w3.heap.size w3 W → ∀ q, Calls Try.prog 15 #[.pointer (some ⟨ib, 1, none⟩)] (W.drewN q) fun e w' => e = .returned (.int .i64 (n : Nat)) ∧ W.drewN q = w') := Lib.hid fun W hW q => by
    have h := len_any ((HIN.out.below hW).below (below_draws W q))
    rw [HN.out] at h
    exact h
  clear hn hm hf
  have hfin : Hid (∀ (fr : Array Value) (W : World) (ds : List Deferred) (r : Int), fr.getD 6 undef = .int .i64 r → Marks w3.heap.size W ds → Below w3.heap.size w3 W → IndexIs (runesOf s) l M r → bodyPostM Fence.wide 8 Try.prog Try.f23 (fun e w' => ∃ r : Int, e = .returned (.int .i64 r) ∧ IndexIs (runesOf s) l M r ∧ Below w.heap.size w w') .ret { tmps := fr, defers := ds } W) := Lib.hid fun fr W ds r hr hmk hW hix => by
    obtain ⟨L, rfl, hnd, hd⟩ := hmk
    refine leaves_marks (B := w3.heap.size) (by simp) L W hnd hd (fun W' hW' => ?_) hW.size
    refine ⟨_, results_tmp rfl _ _ _, r, ?_, hix, HB3.out.trans ((hW.trans hW').mono HB3.out.size)⟩
    rw [hr]
  have HMF := Lib.hid hMf
  rcases hMf with ⟨h0, rfl⟩ | ⟨h0, hM0⟩
  all_goals
    go_wp2_with fail
    go_step3
    go_wp2_with fail
    go_step3
    go_upto_region 7 with (fail)
    rw [HW3.out]
    refine wp_loop (fun a W => ∃ (u2 u13 u14 u15 u16 u17 u18 u19 u20 u21 u22 u23 u24 u25 u26 u27 u28 u29 u30 u31 u32 u33 u34 u35 u36 u37 u38 u39 u40 u41 u42 u43 u44 u45 u46 u47 u48 u49 u50 u51 u52 u53 u54 u55 u56 : Value) (ab k : Nat) (ds : List Deferred), a = { tmps := #[.pointer (some ⟨ib, 0, none⟩), .slice A m cc, u2, .pointer (some ⟨w.heap.size, 0, none⟩), .pointer (some ⟨w.heap.size + 1, 0, none⟩), undef, .int .i64 0, .pointer (some ⟨w.heap.size + 1 + 1, 0, none⟩), .func (.func 48) #[] #[.pointer (some ⟨w.heap.size + 1 + 1, 0, none⟩), .pointer (some ⟨w.heap.size + 1, 0, none⟩)], .int .i64 (-1), .pointer (some ⟨ab, 0, none⟩), undef, undef, u13, u14, u15, u16, u17, u18, u19, u20, u21, u22, u23, u24, u25, u26, u27, u28, u29, u30, u31, u32, u33, u34, u35, u36, u37, u38, u39, u40, u41, u42, u43, u44, u45, u46, u47, u48, u49, u50, u51, u52, u53, u54, u55, u56], defers := ds } ∧ M ≤ k ∧ (k : Int) ≤ 9223372036854775807 ∧ (∀ j, M ≤ j → j < k → ¬ Lies (runesOf s) l j) ∧ IxI w3 ab k W ds) (fun a W => n + 1 - ixK a W) ?_ ?_
    · have hz : ∀ x : Int, x = (M : Int) → IxI w3 w3.heap.size M (w3.alloc (.cells #[.int .i64 x] 3)) [] := fun x hx => by
        subst hx
        exact ⟨(Below.refl _ _).alloc (Nat.le_refl _) _, heap_alloc_new w3 _, Nat.le_refl _, Marks.nil _ _⟩
      refine ⟨_, _, _, _, _, _, _, _, _, _, _, _, _, _, _, _, _, _, _, _, _, _, _, _, _, _, _, _, _, _, _, _, _, _, _, _, _, _, _, _, _, _, _, _, _, w.heap.size + 1 + 1 + 1, M, [], rfl, Nat.le_refl _, hk64, fun j h1 h2 => by omega, ?_⟩
      rw [← HS3.out]
      exact hz _ (by first | rfl | (rw [hM0]; rfl))
    · clear hk64 h0
      try clear hM0
      rintro a W ⟨u2, u13, u14, u15, u16, u17, u18, u19, u20, u21, u22, u23, u24, u25, u26, u27, u28, u29, u30, u31, u32, u33, u34, u35, u36, u37, u38, u39, u40, u41, u42, u43, u44, u45, u46, u47, u48, u49, u50, u51, u52, u53, u54, u55, u56, ab, k, ds, rfl, hMk, hk64, hno, hI⟩
      have HNO := Lib.hid hno; have HI := Lib.hid hI
      have hLW := Lib.hid (HLIN.out W hI.low)
      have d0 : W.cell? ⟨w.heap.size, 0, none⟩ = some (.pointer (some ⟨ib, 0, none⟩)) := ((HX0.out.below hI.low HX0.out.lt).cell 0).trans rfl
      have d1 : W.cell? ⟨w.heap.size + 1, 0, none⟩ = some (.slice A m cc) := ((HX1.out.below hI.low HX1.out.lt).cell 0).trans rfl
      have d2 : W.cell? ⟨w.heap.size + 1 + 1, 0, none⟩ = some (.int .i64 ((m : Int) - 1)) := ((HX2.out.below hI.low HX2.out.lt).cell 0).trans rfl
      have d3 : W.cell? ⟨ab, 0, none⟩ = some (.int .i64 (k : Int)) := (hI.box.cell 0).trans rfl
      have hmu : ∀ ds, ixK { tmps := #[.pointer (some ⟨ib, 0, none⟩), .slice A m cc, u2, .pointer (some ⟨w.heap.size, 0, none⟩), .pointer (some ⟨w.heap.size + 1, 0, none⟩), undef, .int .i64 0, .pointer (some ⟨w.heap.size + 1 + 1, 0, none⟩), .func (.func 48) #[] #[.pointer (some ⟨w.heap.size + 1 + 1, 0, none⟩), .pointer (some ⟨w.heap.size + 1, 0, none⟩)], .int .i64 (-1), .pointer (some ⟨ab, 0, none⟩), undef, undef, u13, u14, u15, u16, u17, u18, u19, u20, u21, u22, u23, u24, u25, u26, u27, u28, u29, u30, u31, u32, u33, u34, u35, u36, u37, u38, u39, u40, u41, u42, u43, u44, u45, u46, u47, u48, u49, u50, u51, u52, u53, u54, u55, u56], defers := ds } W = k := fun ds => by
        show (match W.cell? ⟨ab, 0, none⟩ with | some (.int _ x) => x.toNat | _ => 0) = k
        rw [d3]
        simp
      have HMU := Lib.hid (hmu ds)
      rw [HMU.out]
      have hwr : IntKind.i64.wrap ((n : Int) - (m : Int)) = (n : Int) - (m : Int) := (IntWalk.i64_left _).trans (IntWalk.wrap64_in _ ⟨by omega, by omega⟩)
      clear hmu hno hI
      by_cases hkn : (k : Int) ≤ (n : Int) - m
      · have hde : decide ((k : Int) ≤ (n : Int) - m) = true := decide_eq_true hkn
        go_upto_region 7 with (fail)
        go_quiet (first | (go_at_call 15; refine quiet_here (hLW.out _)))
        go_upto_region 9 with (fail)
        obtain ⟨W1, hW1⟩ : ∃ x, W.drewN nq = x := ⟨_, rfl⟩
        obtain ⟨W2, hW2⟩ : ∃ x, W1.alloc (.cells #[.slice A m cc] 41) = x := ⟨_, rfl⟩
        have hb1 : Below W.heap.size W W1 := by rw [← hW1]; exact below_draws W nq
        have hb2 : Below W1.heap.size W1 W2 := by rw [← hW2]; exact (Below.refl _ _).alloc (Nat.le_refl _) _
        have hs1 : W1.heap.size = W.heap.size := by rw [← hW1]; simp
        have hs2 : W2.heap.size = W1.heap.size + 1 := by rw [← hW2]; simp
        have xb : Whole W2 W1.heap.size 41 #[.slice A m cc] := by rw [← hW2]; exact heap_alloc_new W1 _
        have hb12 : Below W.heap.size W W2 := hb1.trans (hb2.mono hb1.size)
        have hl2 : Below w3.heap.size w3 W2 := HI.out.low.trans (hb12.mono HI.out.low.size)
        have HB12 := Lib.hid hb12; have HL2 := Lib.hid hl2; have HS1 := Lib.hid hs1; have HS2 := Lib.hid hs2; have HXB := Lib.hid xb; have HW2 := Lib.hid hW2
        have d1' : W1.cell? ⟨w.heap.size + 1, 0, none⟩ = some (.slice A m cc) := (hb1.cell (World.block_lt_of_cell? W _ d1)).trans d1
        have hKeep : Hid (∀ V, Below W2.heap.size W2 V → V.cell? ⟨w.heap.size, 0, none⟩ = some (.pointer (some ⟨ib, 0, none⟩)) ∧ V.cell? ⟨w.heap.size + 1 + 1, 0, none⟩ = some (.int .i64 ((m : Int) - 1)) ∧ V.cell? ⟨w.heap.size + 1, 0, none⟩ = some (.slice A m cc) ∧ Whole V ab 3 #[.int .i64 (k : Int)] ∧ In V B kk s ib ∧ Rns V (.slice A m cc) l) := Lib.hid fun V hV => by
          have hV0 : Below W.heap.size W V := hb12.trans (hV.mono hb12.size)
          have lift : ∀ {a : Addr} {u : Value}, W.cell? a = some u → V.cell? a = some u := fun h => (hV0.cell (World.block_lt_of_cell? W _ h)).trans h
          have hV3 : Below w3.heap.size w3 V := HI.out.low.trans (hV0.mono HI.out.low.size)
          exact ⟨lift d0, lift d2, lift d1, HI.out.box.below hV0 HI.out.box.lt, HIN.out.below hV3, HR.out.below hV3⟩
        rw [hW1]
        clear hW1 hW2 hb1 hb2 hs1 hs2 xb hb12 hl2 d0 d1 d2 d3 hLW
        go_wp2_with (go_at_call 49; refine (backN_any A m cc _).mono ?_; rintro e W' ⟨rfl, rfl⟩)
        rw [HW2.out]
        refine (wpIn_wide (n := 8)).1 ?_
        refine wpIn_rangeFunc_ownG rfl (by decide) (gf := 96) (lb := #[.pointer (some ⟨W1.heap.size, 0, none⟩)]) rfl trivial (enters_of Try.func96 (by kernel_rfl) rfl)
          (backN_stops 7 W1.heap.size (by decide) A cc l W2 (by rw [HMM.out]; exact (HXB.out.cell 0).trans rfl) (by rw [HMM.out]; exact (hKeep.out W2 (Below.refl _ _)).2.2.2.2.2) (by rw [HMM.out]; omega)) KeepsW.trans
          (fun V lp ob ob' hlp h1 h2 _ => keepsW_put W2 V lp ob ob' hlp) (Below.refl _ _) (fun _ => rfl)
          (fun pre V => Below W2.heap.size W2 V ∧ ∀ x ∈ pre, runeAt (runesOf s) ((k + x.1 : Nat) : Int) = l[x.1])
          (fun c pre V => c = .exit 1 ∧ Below W2.heap.size W2 V ∧ ∃ x : Fin l.length, runeAt (runesOf s) ((k + x.1 : Nat) : Int) ≠ l[x.1])
          ?own ?ownx
          ⟨Below.refl _ _, by simp⟩
          (fun x => { tmps := #[.pointer (some ⟨ib, 0, none⟩), .slice A m cc, u2, .pointer (some ⟨w.heap.size, 0, none⟩), .pointer (some ⟨w.heap.size + 1, 0, none⟩), undef, .int .i64 0, .pointer (some ⟨w.heap.size + 1 + 1, 0, none⟩), .func (.func 48) #[] #[.pointer (some ⟨w.heap.size + 1 + 1, 0, none⟩), .pointer (some ⟨w.heap.size + 1, 0, none⟩)], .int .i64 (-1), .pointer (some ⟨ab, 0, none⟩), .int .i64 (x.1 : Int), .int .i32 l[x.1], u13, u14, u15, u16, u17, u18, u19, u20, .int .i64 (k : Int), .pointer (some ⟨ib, 0, none⟩), .pointer (some ⟨ib, 0, none⟩), .pointer (some ⟨ib, 1, none⟩), .int .i64 (n : Int), .slice A m cc, .int .i64 (m : Int), .int .i64 ((n : Int) - (m : Int)), .bool true, u30, u31, u32, u33, u34, u35, u36, u37, u38, u39, u40, .slice A m cc, .func (.func 96) #[] #[.pointer (some ⟨W1.heap.size, 0, none⟩)], .int .i64 (x.1 : Int), .int .i32 l[x.1], u45, u46, u47, u48, u49, u50, u51, u52, u53, u54, u55, u56], defers := [] }) ?assign ?body ?done ?stop
        case own => exact OwnFrom.and (ownFrom_below (Nat.le_refl _) (Nat.le_refl _)) (fun _ _ _ _ h _ _ => h)
        case ownx => exact fun c => OwnFrom.and (fun _ _ _ _ h _ _ => h) (OwnFrom.and (ownFrom_below (Nat.le_refl _) (Nat.le_refl _)) (fun _ _ _ _ h _ _ => h))
        case assign =>
          intro lp x V K hK
          rw [show telN x = #[.int .i64 (x.1 : Int), .int .i32 l[x.1]] from rfl, zip_two14]
          simp only [List.setIfInBounds_toArray, List.set_cons_zero, List.set_cons_succ]
          gi_wp2
          exact hK
        case body =>
          rintro lp pre ⟨X, hXl⟩ V ⟨hV, hP⟩ hlt
          obtain ⟨d0, d2, d1, hab, hinV, -⟩ := hKeep.out V hV
          have d3 : V.cell? ⟨ab, 0, none⟩ = some (.int .i64 (k : Int)) := (hab.cell 0).trans rfl
          have hxm : X < m := by rw [← HMM.out]; exact hXl
          have HRU : Hid (∀ q, CallsIn Fence.wide 5 Try.prog 44 #[.pointer (some ⟨ib, 1, none⟩), .int .i64 ((k : Int) + (X : Int))] (V.drewN q) fun e w' => e = .returned (.int .i32 (runeAt (runesOf s) ((k + X : Nat) : Int))) ∧ w' = V.drewN q) := Lib.hid fun q => by
            have h := rune_any (hinV.below (below_draws V q)) ((k : Int) + (X : Int))
            refine (callsIn_wide.2 h).mono ?_
            rintro e w' ⟨rfl, rfl⟩
            exact ⟨by rw [show ((k : Int) + (X : Int)) = ((k + X : Nat) : Int) by omega], rfl⟩
          have HV := Lib.hid hV; have HP := Lib.hid hP
          have e8 : IntKind.i64.wrap ((k : Int) + (X : Int)) = (k : Int) + (X : Int) := (IntWalk.i64_left _).trans (IntWalk.wrap64_in _ ⟨by omega, by omega⟩)
          obtain ⟨Y, hY⟩ : ∃ Y, l[X] = Y := ⟨_, rfl⟩
          obtain ⟨Z, hZ⟩ : ∃ Z, runeAt (runesOf s) ((k + X : Nat) : Int) = Z := ⟨_, rfl⟩
          have HY := Lib.hid hY; have HZ := Lib.hid hZ
          rw [hZ] at HRU
          dsimp only
          rw [hY]
          clear hV hP hab hinV d1 d2 hY hZ
          by_cases hyz : Z = Y
          · have hne : (Z != Y) = false := by simp [hyz]
            gi_wp2
            refine quiet_round rfl rfl (by kernel_rfl) (by kernel_rfl) (by simp) ?_
            repeat (refine wpQuietIn_step (fun _ _ _ _ => trivial) (fun K hK => ?_); go_simp; first | (refine hK _ ?_; clear hK K) | (apply Exists.intro; refine ⟨fun _ => ?_, hK _ ?_⟩; (gi_at_call 44; refine CallsIn.quiet_of_same (HRU.out _)); clear hK K))
            refine wpQuietIn_nil ?_
            rintro _ ⟨nq2, rfl⟩
            gi_wp2
            have hbq : Below W2.heap.size W2 (V.drewN nq2) := HV.out.trans ((below_draws V nq2).mono HV.out.size)
            refine ⟨⟨by simp, fun i o _ hi _ => by simpa using hi⟩, fun h => h.trans ((below_draws V nq2).mono h.size), hbq, fun y hy => ?_⟩
            rcases List.mem_append.1 hy with hy | hy
            · exact HP.out y hy
            · obtain rfl := List.mem_singleton.1 hy
              exact HZ.out.trans (hyz.trans HY.out.symm)
          · have hne : (Z != Y) = true := by simp [hyz]
            gi_wp2
            refine quiet_round rfl rfl (by kernel_rfl) (by kernel_rfl) (by simp) ?_
            repeat (refine wpQuietIn_step (fun _ _ _ _ => trivial) (fun K hK => ?_); go_simp; first | (refine hK _ ?_; clear hK K) | (apply Exists.intro; refine ⟨fun _ => ?_, hK _ ?_⟩; (gi_at_call 44; refine CallsIn.quiet_of_same (HRU.out _)); clear hK K))
            refine wpQuietIn_nil ?_
            rintro _ ⟨nq2, rfl⟩
            gi_wp2
            have hbq : Below W2.heap.size W2 (V.drewN nq2) := HV.out.trans ((below_draws V nq2).mono HV.out.size)
            exact ⟨⟨by simp, fun i o _ hi _ => by simpa using hi⟩, rfl, hbq, ⟨X, hXl⟩, fun e => hyz (HZ.out.symm.trans (e.trans HY.out))⟩
        case done =>
          rintro D xs V hD hS ⟨hV, hP⟩ hDD
          obtain ⟨d0, d2, d1, hab, hinV, hRV⟩ := hKeep.out V hV
          have d3 : V.cell? ⟨ab, 0, none⟩ = some (.int .i64 (k : Int)) := (hab.cell 0).trans rfl
          have HMK := Lib.hid (marks_next HI.out.marks (w3 := w3) HI.out.low.size (HB12.out.trans (hV.mono HB12.out.size)) (by have := HB12.out.size; omega) hDD)
          have HLV := Lib.hid (HL2.out.trans (hV.mono HL2.out.size))
          have HLI : Hid (Lies (runesOf s) l k) := Lib.hid ⟨by rw [HN.out, HMM.out]; omega, fun j hj => by
            have hm : j ∈ valsN xs := by rw [hS]; simpa using hj
            obtain ⟨y, hy, rfl⟩ := List.mem_map.1 hm
            rw [hP y hy]
            simp [List.getD, y.2]⟩
          clear hV hP hS hab hinV hRV d0 d1 d2
          go_wp2_with fail
          exact hfin.out _ _ _ (k : Int) rfl HMK.out HLV.out (.inr ⟨k, rfl, by omega, HLI.out, fun j h1 h2 => HNO.out j (by omega) h2⟩)
        case stop =>
          rintro D c pre V hD - ⟨rfl, hV, x, hx⟩ hDD
          obtain ⟨d0, d2, d1, hab, hinV, hRV⟩ := hKeep.out V hV
          have d3 : V.cell? ⟨ab, 0, none⟩ = some (.int .i64 (k : Int)) := (hab.cell 0).trans rfl
          have HMK := Lib.hid (marks_next HI.out.marks (w3 := w3) HI.out.low.size (HB12.out.trans (hV.mono HB12.out.size)) (by have := HB12.out.size; omega) hDD)
          have HLV := Lib.hid (HL2.out.trans (hV.mono HL2.out.size))
          have hm1 : 1 ≤ m := by rw [← HMM.out]; exact Nat.lt_of_le_of_lt (Nat.zero_le _) x.2
          have HNL : Hid (¬ Lies (runesOf s) l k) := Lib.hid fun h => hx (by rw [h.2 x.1 x.2]; simp [List.getD, x.2])
          have HINV := Lib.hid hinV; have HRV := Lib.hid hRV
          have HD0 := Lib.hid d0; have HD1 := Lib.hid d1; have HD2 := Lib.hid d2
          clear hV hx hab hinV hRV d0 d1 d2
          refine wpIn_wide.2 ?_
          go_upto_region 8 with (fail)
          obtain ⟨V1, hV1⟩ : ∃ x, V.alloc (.cells #[.int .i64 (k : Int)] 3) = x := ⟨_, rfl⟩
          rw [hV1]
          obtain ⟨u0, hu0⟩ : ∃ x, V1.drew = x := ⟨_, rfl⟩
          have hbu : Below V.heap.size V u0 := by rw [← hu0, ← hV1]; exact ((Below.refl _ _).alloc (Nat.le_refl _) _).drew
          have xat : Whole u0 V.heap.size 3 #[.int .i64 (k : Int)] := by
            have h1 : Whole V1 V.heap.size 3 #[.int .i64 (k : Int)] := by rw [← hV1]; exact heap_alloc_new V _
            have h2 : Below V1.heap.size V1 u0 := by rw [← hu0]; exact (Below.refl _ _).drew
            exact h1.below h2 h1.lt
          have lift : ∀ {a : Addr} {u : Value}, V.cell? a = some u → u0.cell? a = some u := fun h => (hbu.cell (World.block_lt_of_cell? V _ h)).trans h
          have g0 := lift HD0.out
          have g1 := lift HD1.out
          have g2 := lift HD2.out
          have g3 : u0.cell? ⟨V.heap.size, 0, none⟩ = some (.int .i64 (k : Int)) := (xat.cell 0).trans rfl
          have g4 := xat.free 0
          have hne0 : w.heap.size ≠ V.heap.size := Nat.ne_of_lt (World.block_lt_of_cell? V _ HD0.out)
          have hne2 : w.heap.size + 1 + 1 ≠ V.heap.size := Nat.ne_of_lt (World.block_lt_of_cell? V _ HD2.out)
          have hvi : ((k + l.length : Nat) : Int) - 1 = (k : Int) + ((m : Int) - 1) := by rw [HMM.out]; omega
          obtain ⟨Z, hZ⟩ : ∃ Z, runeAt (runesOf s) ((k : Int) + ((m : Int) - 1)) = Z := ⟨_, rfl⟩
          have HRU := Lib.hid (rune_any (HINV.out.below hbu) ((k : Int) + ((m : Int) - 1)))
          rw [hZ] at HRU
          have HMV := Lib.hid (moved_any l (by rw [HMM.out]; omega) Z u0 (w.heap.size + 1 + 1) (w.heap.size + 1) (.slice A m cc) (by rw [HMM.out]; exact g2) g1 (HRV.out.below hbu))
          have HZ := Lib.hid hZ
          have HXAT := Lib.hid xat; have HBU := Lib.hid hbu; have HVI := Lib.hid hvi; have HNE0 := Lib.hid hne0; have HNE2 := Lib.hid hne2
          have e7 : IntKind.i64.wrap ((k : Int) + ((m : Int) - 1)) = (k : Int) + ((m : Int) - 1) := (IntWalk.i64_left _).trans (IntWalk.wrap64_in _ ⟨by omega, by omega⟩)
          refine wp_onlyP ?_
          refine wp_region_held_drew (S := fun W' => W'.cell? ⟨w.heap.size, 0, none⟩ = some (.pointer (some ⟨ib, 0, none⟩)) ∧ W'.cell? ⟨w.heap.size + 1 + 1, 0, none⟩ = some (.int .i64 ((m : Int) - 1))) (by kernel_rfl) (by rw [hu0]; exact ⟨g0, g2⟩) (fun hHeld => ?_)
          rw [hu0] at hHeld ⊢
          clear hV1 hu0 hbu xat lift hvi hZ hne0 hne2
          refine wpAnyH_take (i := 1) (oi := _) (v := ?_) rfl (by kernel_rfl) (by kernel_rfl) (by kernel_rfl) (fun _ _ _ h => h) (Or.inl ⟨by rfl, ?_⟩) hHeld ?_
          rotate_left 1
          · (intro w hSw; (try dsimp only at hSw); go_simp; (try with_reducible rfl))
          try simp only [List.getElem_toArray, List.getElem_cons_zero, List.getElem_cons_succ, Act.put, List.setIfInBounds_toArray, List.set_cons_zero, List.set_cons_succ]
          refine wpAnyH_take (i := 2) (oi := _) (v := ?_) rfl (by kernel_rfl) (by kernel_rfl) (by kernel_rfl) (fun _ _ _ h => h) (Or.inl ⟨by rfl, ?_⟩) hHeld ?_
          rotate_left 1
          · (intro w hSw; (try dsimp only at hSw); go_simp; (try with_reducible rfl))
          try simp only [List.getElem_toArray, List.getElem_cons_zero, List.getElem_cons_succ, Act.put, List.setIfInBounds_toArray, List.set_cons_zero, List.set_cons_succ]
          refine wpAnyH_take (i := 3) (oi := _) (v := ?_) rfl (by kernel_rfl) (by kernel_rfl) (by kernel_rfl) (fun _ _ _ h => h) (Or.inl ⟨by rfl, ?_⟩) hHeld ?_
          rotate_left 1
          · (intro w hSw; (try dsimp only at hSw); go_simp; (try with_reducible rfl))
          try simp only [List.getElem_toArray, List.getElem_cons_zero, List.getElem_cons_succ, Act.put, List.setIfInBounds_toArray, List.set_cons_zero, List.set_cons_succ]
          refine wpAnyH_take (i := 4) (oi := _) (v := ?_) rfl (by kernel_rfl) (by kernel_rfl) (by kernel_rfl) (fun _ _ _ h => h) (Or.inl ⟨by rfl, ?_⟩) hHeld ?_
          rotate_left 1
          · (intro w hSw; (try dsimp only at hSw); go_simp; (try with_reducible rfl))
          try simp only [List.getElem_toArray, List.getElem_cons_zero, List.getElem_cons_succ, Act.put, List.setIfInBounds_toArray, List.set_cons_zero, List.set_cons_succ]
          refine wpAnyH_take (i := 6) (oi := _) (v := ?_) rfl (by kernel_rfl) (by kernel_rfl) (by kernel_rfl) (fun _ _ _ h => h) (Or.inl ⟨by rfl, ?_⟩) hHeld ?_
          rotate_left 1
          · (intro w hSw; (try dsimp only at hSw); go_simp; (try with_reducible rfl))
          try simp only [List.getElem_toArray, List.getElem_cons_zero, List.getElem_cons_succ, Act.put, List.setIfInBounds_toArray, List.set_cons_zero, List.set_cons_succ]
          refine wpAnyH_ready (rs := [0, 5]) (by kernel_rfl) (by simp) ?_
          refine AllReadyH.cons (o := _) rfl (fun K hK => ?_) ?_
          · go_simp
            refine hK.out _ _ ⟨g0, g2⟩ (fun hHeld => ?_)
            clear hK K
            try simp only [List.getElem_toArray, List.getElem_cons_zero, List.getElem_cons_succ, Act.put, List.setIfInBounds_toArray, List.set_cons_zero, List.set_cons_succ]
            refine wpAnyH_ready (rs := [5]) (by kernel_rfl) (by simp) ?_
            refine AllReadyH.cons (o := _) rfl (fun K hK => ?_) ?_
            · go_simp
              refine hK.out _ _ ⟨g0, g2⟩ (fun hHeld => ?_)
              clear hK K
              try simp only [List.getElem_toArray, List.getElem_cons_zero, List.getElem_cons_succ, Act.put, List.setIfInBounds_toArray, List.set_cons_zero, List.set_cons_succ]
              refine wpAnyH_take (i := 7) (oi := _) (v := ?_) rfl (by kernel_rfl) (by kernel_rfl) (by kernel_rfl) (fun _ _ _ h => h) (Or.inl ⟨by rfl, ?_⟩) hHeld ?_
              rotate_left 1
              · (intro w hSw; (try dsimp only at hSw); go_simp; (try with_reducible rfl))
              try simp only [List.getElem_toArray, List.getElem_cons_zero, List.getElem_cons_succ, Act.put, List.setIfInBounds_toArray, List.set_cons_zero, List.set_cons_succ]
              refine wpAnyH_ready (rs := [8]) (by kernel_rfl) (by simp) ?_
              refine AllReadyH.cons (o := _) rfl (fun K hK => ?_) ?_
              · go_simp
                refine HRU.out.mono ?_
                rintro e w' ⟨rfl, hw'⟩
                subst hw'
                dsimp only
                refine hK.out _ _ ⟨g0, g2⟩ (fun hHeld => ?_)
                clear hK K
                try simp only [List.getElem_toArray, List.getElem_cons_zero, List.getElem_cons_succ, Act.put, List.setIfInBounds_toArray, List.set_cons_zero, List.set_cons_succ]
                refine wpAnyH_ready (rs := [9]) (by kernel_rfl) (by simp) ?_
                refine AllReadyH.cons (o := _) rfl (fun K hK => ?_) ?_
                · go_simp
                  refine HMV.out.mono ?_
                  rintro e w' ⟨r, rfl, hw', hmv⟩
                  replace hw' := hw'.symm
                  subst hw'
                  dsimp only
                  have HMVR := Lib.hid hmv
                  have hrm : r ≤ m := by rw [← HMM.out]; exact hmv.1
                  have hr1 : 1 ≤ r := hmv.2.1 (by rw [HMM.out]; exact hm1)
                  have e10 : IntKind.i64.wrap ((k : Int) + (r : Int)) = (k : Int) + (r : Int) := by rw [IntWalk.i64_left, IntWalk.wrap64_in _ ⟨by omega, by omega⟩]
                  clear hmv
                  refine hK.out _ _ ⟨g0, g2⟩ (fun hHeld => ?_)
                  clear hK K
                  try simp only [List.getElem_toArray, List.getElem_cons_zero, List.getElem_cons_succ, Act.put, List.setIfInBounds_toArray, List.set_cons_zero, List.set_cons_succ]
                  refine wpAnyH_take (i := 10) (oi := _) (v := ?_) rfl (by kernel_rfl) (by kernel_rfl) (by kernel_rfl) (fun _ _ _ h => h) (Or.inl ⟨by rfl, ?_⟩) hHeld ?_
                  rotate_left 1
                  · (intro w hSw; (try dsimp only at hSw); go_simp; (try with_reducible rfl))
                  try simp only [List.getElem_toArray, List.getElem_cons_zero, List.getElem_cons_succ, Act.put, List.setIfInBounds_toArray, List.set_cons_zero, List.set_cons_succ]
                  refine wpAnyH_ready (rs := [11]) (by kernel_rfl) (by simp) ?_
                  refine AllReadyH.cons (o := _) rfl (fun K hK => ?_) ?_
                  · go_simp
                    obtain ⟨u1, hu1⟩ : ∃ x, u0.setCell ⟨V.heap.size, 0, none⟩ (.int .i64 ((k : Int) + (r : Int))) = x := ⟨_, rfl⟩
                    have hx1 : Whole u1 V.heap.size 3 #[.int .i64 ((k + r : Nat) : Int)] := by rw [← hu1, Int.natCast_add]; exact HXAT.out.store 0 _
                    have hb1 : Below V.heap.size V u1 := by rw [← hu1]; exact HBU.out.setCell (p := ⟨V.heap.size, 0, none⟩) (Nat.le_refl _) _
                    have HX1' := Lib.hid hx1; have HB1' := Lib.hid hb1
                    try rw [hu1]
                    clear hx1 hb1 g3 g4
                    refine hK.out _ _ ⟨(HB1'.out.cell (World.block_lt_of_cell? V _ HD0.out)).trans HD0.out, (HB1'.out.cell (World.block_lt_of_cell? V _ HD2.out)).trans HD2.out⟩ (fun hHeld => ?_)
                    clear hK K
                    try simp only [List.getElem_toArray, List.getElem_cons_zero, List.getElem_cons_succ, Act.put, List.setIfInBounds_toArray, List.set_cons_zero, List.set_cons_succ]
                    refine wpAnyH_done (by kernel_rfl) ?_ _
                    dsimp only [onlyP]
                    go_wp2_with fail
                    refine ⟨⟨_, _, _, _, _, _, _, _, _, _, _, _, _, _, _, _, _, _, _, _, _, _, _, _, _, _, _, _, _, _, _, _, _, _, _, _, _, _, _, _, _, _, _, _, _, V.heap.size, k + r, _, rfl, by omega, by omega, fun j h1 h2 => ?_, ⟨HLV.out.trans (HB1'.out.mono HLV.out.size), HX1'.out, HLV.out.size, HMK.out.below fun E _ hE _ => HB1'.out.block E hE⟩⟩, ?_⟩
                    · by_cases hjk : j < k
                      · exact HNO.out j h1 hjk
                      · exact moved_far (i := k) (r := r) (by rw [HVI.out, HZ.out]; exact HMVR.out) HNL.out j (by omega) h2
                    · show n + 1 - (match u1.cell? ⟨V.heap.size, 0, none⟩ with | some (.int _ x) => x.toNat | _ => 0) < _
                      have hc1 : u1.cell? ⟨V.heap.size, 0, none⟩ = some (.int .i64 ((k + r : Nat) : Int)) := (HX1'.out.cell 0).trans rfl
                      rw [hc1]
                      show n + 1 - ((k + r : Nat) : Int).toNat < n + 1 - k
                      rw [Int.toNat_natCast]
                      omega
                  exact AllReadyH.nil
                exact AllReadyH.nil
              exact AllReadyH.nil
            exact AllReadyH.nil
          refine AllReadyH.cons (o := _) rfl (fun K hK => ?_) ?_
          · go_simp
            refine hK.out _ _ ⟨g0, g2⟩ (fun hHeld => ?_)
            clear hK K
            try simp only [List.getElem_toArray, List.getElem_cons_zero, List.getElem_cons_succ, Act.put, List.setIfInBounds_toArray, List.set_cons_zero, List.set_cons_succ]
            refine wpAnyH_take (i := 7) (oi := _) (v := ?_) rfl (by kernel_rfl) (by kernel_rfl) (by kernel_rfl) (fun _ _ _ h => h) (Or.inl ⟨by rfl, ?_⟩) hHeld ?_
            rotate_left 1
            · (intro w hSw; (try dsimp only at hSw); go_simp; (try with_reducible rfl))
            try simp only [List.getElem_toArray, List.getElem_cons_zero, List.getElem_cons_succ, Act.put, List.setIfInBounds_toArray, List.set_cons_zero, List.set_cons_succ]
            refine wpAnyH_ready (rs := [0, 8]) (by kernel_rfl) (by simp) ?_
            refine AllReadyH.cons (o := _) rfl (fun K hK => ?_) ?_
            · go_simp
              refine hK.out _ _ ⟨g0, g2⟩ (fun hHeld => ?_)
              clear hK K
              try simp only [List.getElem_toArray, List.getElem_cons_zero, List.getElem_cons_succ, Act.put, List.setIfInBounds_toArray, List.set_cons_zero, List.set_cons_succ]
              refine wpAnyH_ready (rs := [8]) (by kernel_rfl) (by simp) ?_
              refine AllReadyH.cons (o := _) rfl (fun K hK => ?_) ?_
              · go_simp
                refine HRU.out.mono ?_
                rintro e w' ⟨rfl, hw'⟩
                subst hw'
                dsimp only
                refine hK.out _ _ ⟨g0, g2⟩ (fun hHeld => ?_)
                clear hK K
                try simp only [List.getElem_toArray, List.getElem_cons_zero, List.getElem_cons_succ, Act.put, List.setIfInBounds_toArray, List.set_cons_zero, List.set_cons_succ]
                refine wpAnyH_ready (rs := [9]) (by kernel_rfl) (by simp) ?_
                refine AllReadyH.cons (o := _) rfl (fun K hK => ?_) ?_
                · go_simp
                  refine HMV.out.mono ?_
                  rintro e w' ⟨r, rfl, hw', hmv⟩
                  replace hw' := hw'.symm
                  subst hw'
                  dsimp only
                  have HMVR := Lib.hid hmv
                  have hrm : r ≤ m := by rw [← HMM.out]; exact hmv.1
                  have hr1 : 1 ≤ r := hmv.2.1 (by rw [HMM.out]; exact hm1)
                  have e10 : IntKind.i64.wrap ((k : Int) + (r : Int)) = (k : Int) + (r : Int) := by rw [IntWalk.i64_left, IntWalk.wrap64_in _ ⟨by omega, by omega⟩]
                  clear hmv
                  refine hK.out _ _ ⟨g0, g2⟩ (fun hHeld => ?_)
                  clear hK K
                  try simp only [List.getElem_toArray, List.getElem_cons_zero, List.getElem_cons_succ, Act.put, List.setIfInBounds_toArray, List.set_cons_zero, List.set_cons_succ]
                  refine wpAnyH_take (i := 10) (oi := _) (v := ?_) rfl (by kernel_rfl) (by kernel_rfl) (by kernel_rfl) (fun _ _ _ h => h) (Or.inl ⟨by rfl, ?_⟩) hHeld ?_
                  rotate_left 1
                  · (intro w hSw; (try dsimp only at hSw); go_simp; (try with_reducible rfl))
                  try simp only [List.getElem_toArray, List.getElem_cons_zero, List.getElem_cons_succ, Act.put, List.setIfInBounds_toArray, List.set_cons_zero, List.set_cons_succ]
                  refine wpAnyH_ready (rs := [11]) (by kernel_rfl) (by simp) ?_
                  refine AllReadyH.cons (o := _) rfl (fun K hK => ?_) ?_
                  · go_simp
                    obtain ⟨u1, hu1⟩ : ∃ x, u0.setCell ⟨V.heap.size, 0, none⟩ (.int .i64 ((k : Int) + (r : Int))) = x := ⟨_, rfl⟩
                    have hx1 : Whole u1 V.heap.size 3 #[.int .i64 ((k + r : Nat) : Int)] := by rw [← hu1, Int.natCast_add]; exact HXAT.out.store 0 _
                    have hb1 : Below V.heap.size V u1 := by rw [← hu1]; exact HBU.out.setCell (p := ⟨V.heap.size, 0, none⟩) (Nat.le_refl _) _
                    have HX1' := Lib.hid hx1; have HB1' := Lib.hid hb1
                    try rw [hu1]
                    clear hx1 hb1 g3 g4
                    refine hK.out _ _ ⟨(HB1'.out.cell (World.block_lt_of_cell? V _ HD0.out)).trans HD0.out, (HB1'.out.cell (World.block_lt_of_cell? V _ HD2.out)).trans HD2.out⟩ (fun hHeld => ?_)
                    clear hK K
                    try simp only [List.getElem_toArray, List.getElem_cons_zero, List.getElem_cons_succ, Act.put, List.setIfInBounds_toArray, List.set_cons_zero, List.set_cons_succ]
                    refine wpAnyH_done (by kernel_rfl) ?_ _
                    dsimp only [onlyP]
                    go_wp2_with fail
                    refine ⟨⟨_, _, _, _, _, _, _, _, _, _, _, _, _, _, _, _, _, _, _, _, _, _, _, _, _, _, _, _, _, _, _, _, _, _, _, _, _, _, _, _, _, _, _, _, _, V.heap.size, k + r, _, rfl, by omega, by omega, fun j h1 h2 => ?_, ⟨HLV.out.trans (HB1'.out.mono HLV.out.size), HX1'.out, HLV.out.size, HMK.out.below fun E _ hE _ => HB1'.out.block E hE⟩⟩, ?_⟩
                    · by_cases hjk : j < k
                      · exact HNO.out j h1 hjk
                      · exact moved_far (i := k) (r := r) (by rw [HVI.out, HZ.out]; exact HMVR.out) HNL.out j (by omega) h2
                    · show n + 1 - (match u1.cell? ⟨V.heap.size, 0, none⟩ with | some (.int _ x) => x.toNat | _ => 0) < _
                      have hc1 : u1.cell? ⟨V.heap.size, 0, none⟩ = some (.int .i64 ((k + r : Nat) : Int)) := (HX1'.out.cell 0).trans rfl
                      rw [hc1]
                      show n + 1 - ((k + r : Nat) : Int).toNat < n + 1 - k
                      rw [Int.toNat_natCast]
                      omega
                  exact AllReadyH.nil
                exact AllReadyH.nil
              exact AllReadyH.nil
            refine AllReadyH.cons (o := _) rfl (fun K hK => ?_) ?_
            · go_simp
              refine HRU.out.mono ?_
              rintro e w' ⟨rfl, hw'⟩
              subst hw'
              dsimp only
              refine hK.out _ _ ⟨g0, g2⟩ (fun hHeld => ?_)
              clear hK K
              try simp only [List.getElem_toArray, List.getElem_cons_zero, List.getElem_cons_succ, Act.put, List.setIfInBounds_toArray, List.set_cons_zero, List.set_cons_succ]
              refine wpAnyH_ready (rs := [0, 9]) (by kernel_rfl) (by simp) ?_
              refine AllReadyH.cons (o := _) rfl (fun K hK => ?_) ?_
              · go_simp
                refine hK.out _ _ ⟨g0, g2⟩ (fun hHeld => ?_)
                clear hK K
                try simp only [List.getElem_toArray, List.getElem_cons_zero, List.getElem_cons_succ, Act.put, List.setIfInBounds_toArray, List.set_cons_zero, List.set_cons_succ]
                refine wpAnyH_ready (rs := [9]) (by kernel_rfl) (by simp) ?_
                refine AllReadyH.cons (o := _) rfl (fun K hK => ?_) ?_
                · go_simp
                  refine HMV.out.mono ?_
                  rintro e w' ⟨r, rfl, hw', hmv⟩
                  replace hw' := hw'.symm
                  subst hw'
                  dsimp only
                  have HMVR := Lib.hid hmv
                  have hrm : r ≤ m := by rw [← HMM.out]; exact hmv.1
                  have hr1 : 1 ≤ r := hmv.2.1 (by rw [HMM.out]; exact hm1)
                  have e10 : IntKind.i64.wrap ((k : Int) + (r : Int)) = (k : Int) + (r : Int) := by rw [IntWalk.i64_left, IntWalk.wrap64_in _ ⟨by omega, by omega⟩]
                  clear hmv
                  refine hK.out _ _ ⟨g0, g2⟩ (fun hHeld => ?_)
                  clear hK K
                  try simp only [List.getElem_toArray, List.getElem_cons_zero, List.getElem_cons_succ, Act.put, List.setIfInBounds_toArray, List.set_cons_zero, List.set_cons_succ]
                  refine wpAnyH_take (i := 10) (oi := _) (v := ?_) rfl (by kernel_rfl) (by kernel_rfl) (by kernel_rfl) (fun _ _ _ h => h) (Or.inl ⟨by rfl, ?_⟩) hHeld ?_
                  rotate_left 1
                  · (intro w hSw; (try dsimp only at hSw); go_simp; (try with_reducible rfl))
                  try simp only [List.getElem_toArray, List.getElem_cons_zero, List.getElem_cons_succ, Act.put, List.setIfInBounds_toArray, List.set_cons_zero, List.set_cons_succ]
                  refine wpAnyH_ready (rs := [11]) (by kernel_rfl) (by simp) ?_
                  refine AllReadyH.cons (o := _) rfl (fun K hK => ?_) ?_
                  · go_simp
                    obtain ⟨u1, hu1⟩ : ∃ x, u0.setCell ⟨V.heap.size, 0, none⟩ (.int .i64 ((k : Int) + (r : Int))) = x := ⟨_, rfl⟩
                    have hx1 : Whole u1 V.heap.size 3 #[.int .i64 ((k + r : Nat) : Int)] := by rw [← hu1, Int.natCast_add]; exact HXAT.out.store 0 _
                    have hb1 : Below V.heap.size V u1 := by rw [← hu1]; exact HBU.out.setCell (p := ⟨V.heap.size, 0, none⟩) (Nat.le_refl _) _
                    have HX1' := Lib.hid hx1; have HB1' := Lib.hid hb1
                    try rw [hu1]
                    clear hx1 hb1 g3 g4
                    refine hK.out _ _ ⟨(HB1'.out.cell (World.block_lt_of_cell? V _ HD0.out)).trans HD0.out, (HB1'.out.cell (World.block_lt_of_cell? V _ HD2.out)).trans HD2.out⟩ (fun hHeld => ?_)
                    clear hK K
                    try simp only [List.getElem_toArray, List.getElem_cons_zero, List.getElem_cons_succ, Act.put, List.setIfInBounds_toArray, List.set_cons_zero, List.set_cons_succ]
                    refine wpAnyH_done (by kernel_rfl) ?_ _
                    dsimp only [onlyP]
                    go_wp2_with fail
                    refine ⟨⟨_, _, _, _, _, _, _, _, _, _, _, _, _, _, _, _, _, _, _, _, _, _, _, _, _, _, _, _, _, _, _, _, _, _, _, _, _, _, _, _, _, _, _, _, _, V.heap.size, k + r, _, rfl, by omega, by omega, fun j h1 h2 => ?_, ⟨HLV.out.trans (HB1'.out.mono HLV.out.size), HX1'.out, HLV.out.size, HMK.out.below fun E _ hE _ => HB1'.out.block E hE⟩⟩, ?_⟩
                    · by_cases hjk : j < k
                      · exact HNO.out j h1 hjk
                      · exact moved_far (i := k) (r := r) (by rw [HVI.out, HZ.out]; exact HMVR.out) HNL.out j (by omega) h2
                    · show n + 1 - (match u1.cell? ⟨V.heap.size, 0, none⟩ with | some (.int _ x) => x.toNat | _ => 0) < _
                      have hc1 : u1.cell? ⟨V.heap.size, 0, none⟩ = some (.int .i64 ((k + r : Nat) : Int)) := (HX1'.out.cell 0).trans rfl
                      rw [hc1]
                      show n + 1 - ((k + r : Nat) : Int).toNat < n + 1 - k
                      rw [Int.toNat_natCast]
                      omega
                  exact AllReadyH.nil
                exact AllReadyH.nil
              refine AllReadyH.cons (o := _) rfl (fun K hK => ?_) ?_
              · go_simp
                refine HMV.out.mono ?_
                rintro e w' ⟨r, rfl, hw', hmv⟩
                replace hw' := hw'.symm
                subst hw'
                dsimp only
                have HMVR := Lib.hid hmv
                have hrm : r ≤ m := by rw [← HMM.out]; exact hmv.1
                have hr1 : 1 ≤ r := hmv.2.1 (by rw [HMM.out]; exact hm1)
                have e10 : IntKind.i64.wrap ((k : Int) + (r : Int)) = (k : Int) + (r : Int) := by rw [IntWalk.i64_left, IntWalk.wrap64_in _ ⟨by omega, by omega⟩]
                clear hmv
                refine hK.out _ _ ⟨g0, g2⟩ (fun hHeld => ?_)
                clear hK K
                try simp only [List.getElem_toArray, List.getElem_cons_zero, List.getElem_cons_succ, Act.put, List.setIfInBounds_toArray, List.set_cons_zero, List.set_cons_succ]
                refine wpAnyH_ready (rs := [0]) (by kernel_rfl) (by simp) ?_
                refine AllReadyH.cons (o := _) rfl (fun K hK => ?_) ?_
                · go_simp
                  refine hK.out _ _ ⟨g0, g2⟩ (fun hHeld => ?_)
                  clear hK K
                  try simp only [List.getElem_toArray, List.getElem_cons_zero, List.getElem_cons_succ, Act.put, List.setIfInBounds_toArray, List.set_cons_zero, List.set_cons_succ]
                  refine wpAnyH_take (i := 10) (oi := _) (v := ?_) rfl (by kernel_rfl) (by kernel_rfl) (by kernel_rfl) (fun _ _ _ h => h) (Or.inl ⟨by rfl, ?_⟩) hHeld ?_
                  rotate_left 1
                  · (intro w hSw; (try dsimp only at hSw); go_simp; (try with_reducible rfl))
                  try simp only [List.getElem_toArray, List.getElem_cons_zero, List.getElem_cons_succ, Act.put, List.setIfInBounds_toArray, List.set_cons_zero, List.set_cons_succ]
                  refine wpAnyH_ready (rs := [11]) (by kernel_rfl) (by simp) ?_
                  refine AllReadyH.cons (o := _) rfl (fun K hK => ?_) ?_
                  · go_simp
                    obtain ⟨u1, hu1⟩ : ∃ x, u0.setCell ⟨V.heap.size, 0, none⟩ (.int .i64 ((k : Int) + (r : Int))) = x := ⟨_, rfl⟩
                    have hx1 : Whole u1 V.heap.size 3 #[.int .i64 ((k + r : Nat) : Int)] := by rw [← hu1, Int.natCast_add]; exact HXAT.out.store 0 _
                    have hb1 : Below V.heap.size V u1 := by rw [← hu1]; exact HBU.out.setCell (p := ⟨V.heap.size, 0, none⟩) (Nat.le_refl _) _
                    have HX1' := Lib.hid hx1; have HB1' := Lib.hid hb1
                    try rw [hu1]
                    clear hx1 hb1 g3 g4
                    refine hK.out _ _ ⟨(HB1'.out.cell (World.block_lt_of_cell? V _ HD0.out)).trans HD0.out, (HB1'.out.cell (World.block_lt_of_cell? V _ HD2.out)).trans HD2.out⟩ (fun hHeld => ?_)
                    clear hK K
                    try simp only [List.getElem_toArray, List.getElem_cons_zero, List.getElem_cons_succ, Act.put, List.setIfInBounds_toArray, List.set_cons_zero, List.set_cons_succ]
                    refine wpAnyH_done (by kernel_rfl) ?_ _
                    dsimp only [onlyP]
                    go_wp2_with fail
                    refine ⟨⟨_, _, _, _, _, _, _, _, _, _, _, _, _, _, _, _, _, _, _, _, _, _, _, _, _, _, _, _, _, _, _, _, _, _, _, _, _, _, _, _, _, _, _, _, _, V.heap.size, k + r, _, rfl, by omega, by omega, fun j h1 h2 => ?_, ⟨HLV.out.trans (HB1'.out.mono HLV.out.size), HX1'.out, HLV.out.size, HMK.out.below fun E _ hE _ => HB1'.out.block E hE⟩⟩, ?_⟩
                    · by_cases hjk : j < k
                      · exact HNO.out j h1 hjk
                      · exact moved_far (i := k) (r := r) (by rw [HVI.out, HZ.out]; exact HMVR.out) HNL.out j (by omega) h2
                    · show n + 1 - (match u1.cell? ⟨V.heap.size, 0, none⟩ with | some (.int _ x) => x.toNat | _ => 0) < _
                      have hc1 : u1.cell? ⟨V.heap.size, 0, none⟩ = some (.int .i64 ((k + r : Nat) : Int)) := (HX1'.out.cell 0).trans rfl
                      rw [hc1]
                      show n + 1 - ((k + r : Nat) : Int).toNat < n + 1 - k
                      rw [Int.toNat_natCast]
                      omega
                  exact AllReadyH.nil
                exact AllReadyH.nil
              exact AllReadyH.nil
            exact AllReadyH.nil
          exact AllReadyH.nil
      · have hde : decide ((k : Int) ≤ (n : Int) - m) = false := decide_eq_false hkn
        go_upto_region 7 with (fail)
        go_quiet (first | (go_at_call 15; refine quiet_here (hLW.out _)))
        go_wp2_with fail
        refine hfin.out _ _ _ (-1) rfl (Marks.below HI.out.marks fun D _ _ _ => by simp) (HI.out.low.trans ((below_draws W _).mono HI.out.low.size)) (.inl ⟨rfl, fun i hi hL => ?_⟩)
        by_cases hik : i < k
        · exact HNO.out i (by omega) hik hL
        · have := hL.1
          rw [HN.out, HMM.out] at this
          omega
end Go.Proofs.Ytnemacejaiifnaa
