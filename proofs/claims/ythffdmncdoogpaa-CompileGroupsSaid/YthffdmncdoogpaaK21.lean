/- Texts merged by program: CoAlt, CoChoice, CoCode. No condition. -/
import Derived.Test.YthffdmncdoogpaaK16
import Derived.Test.YthffdmncdoogpaaK20
import Derived.Deep.DeepAppendWide
set_option linter.unusedVariables false
/- The code of a choice: each Kid's, and the instructions that lead to them. No condition. -/
namespace Go.Proofs.Ythffdmncdoogpaa
open Go Go.RowKit Go.Shelf
attribute [local go_sem] Oper.semAt_some

/-- An append of one int at a step of a region that draws its order. -/
theorem step_append_z {w : World} {ops : Array Oper} {o : Oper} {a : Act} {Kk : Act → World → Prop} {Q : Exit → Act → World → Prop} {E : Prop} (hgd : o.guard = none) (x y : Operand)
    (ho : o.op = .call { callee := .builtin .append, args := #[x, y], argTypes := #[56, 56] })
    (base : Nat) (v : Value) (O : List Int) (hs : a.eval x = v) (hown : OwnZ w base v O)
    (b : Nat) (r : Int) (hx : a.eval y = .slice (some ⟨b, 0, none⟩) 1 1) (hc : w.cell? ⟨b, 0, none⟩ = some (.int .i64 r)) (hr : R64 r) (hn : O.length + 1 ≤ 20000000000000) (hbase : base ≤ w.heap.size)
    (h : ∀ v' w', OwnZ w' base v' (O ++ [r]) → w.grownBy w' v.ownBlock → Kk (a.put o.dst v') w') :
    if Region.wanted o (yielded ops a.tmps) = true then Oper.wp Try.prog o a w Kk Q else E := by
  have hw : Region.wanted o (yielded ops a.tmps) = true := by
    unfold Region.wanted
    rw [hgd]
  rw [if_pos hw]
  obtain ⟨i, hi, hz, hsize, hby⟩ := info_parts info_int8
  have hall : ∀ k ∈ O ++ [r], R64 k := fun k hk => (List.mem_append.1 hk).elim (hown.2 k) (fun h => by
    obtain rfl : k = r := by simpa using h
    exact hr)
  refine wp_append_own_wide w x y 56 ho base 3 i (.int .i64 0) 1 8 Try.underlying56 hi hz hsize hby rfl (by omega) v O.length (litsZ O) hs hown.1 ⟨b, 0, none⟩ 1 1 (litsZ [r]) hx rfl ?_ (litsZ_one [r]) (by unfold maxLen; omega) (by omega) hbase (fun v' w' g1 g2 _ => h v' w' ⟨?_, hall⟩ g2)
  · intro j u hu
    match j, hu with
    | 0, hu => simp [litsZ] at hu; subst hu; rw [addr_ofZ]; exact hc
    | j + 1, hu => simp [litsZ] at hu
  · rw [litsZ_append, List.length_append]
    exact g1
theorem OwnZ.kept {w w' : World} {B : Nat} {v : Value} {l : List Int} (h : OwnZ w B v l) (hv : ∀ b, v.ownBlock = some b → w'.heap[b]? = w.heap[b]?) : OwnZ w' B v l := by
  refine ⟨⟨h.1.1, ?_⟩, h.2⟩
  rcases h.1.2 with h2 | ⟨g, cap, cur, rfl, h3, hh, h4⟩
  · exact .inl h2
  · exact .inr ⟨g, cap, cur, rfl, h3, (hv g (by simp [Value.ownBlock])).trans hh, h4⟩
theorem OwnZ.whole {w : World} {B : Nat} {v : Value} {l : List Int} (h : OwnZ w B v l) {b : Nat} (hb : v.ownBlock = some b) : ∃ cs, Whole w b 3 cs ∧ B ≤ b := by
  rcases h.1.2 with ⟨rfl, _⟩ | ⟨g, cap, cur, rfl, h3, hh, _⟩
  · simp [Value.ownBlock] at hb
  · obtain rfl : g = b := by simpa [Value.ownBlock] using hb
    exact ⟨_, hh, h3⟩
theorem OwnZ.slice {w : World} {B : Nat} {v : Value} {l : List Int} (h : OwnZ w B v l) : ∃ a c, v = .slice a l.length c := by
  rcases own_sliceZ h.1 with ⟨rfl, h0⟩ | ⟨g, c, rfl, _⟩
  · exact ⟨_, _, by rw [h0]⟩
  · exact ⟨_, _, rfl⟩
theorem whole_ne {w : World} {a b : Nat} {t u : TypeId} {cs ds : Array Value} (h : Whole w a t cs) (k : Whole w b u ds) (hne : t ≠ u) : a ≠ b := by
  rintro rfl
  unfold Whole at h k
  rw [h] at k
  injection k with k
  injection k with _ k
  exact hne k
/-- An append onto a row of ints: the builder stays. -/
theorem bld_grownZ {w0 W W' : World} {q : Nat} {g : Int} {L : List Ins} {B : Nat} {v : Value} {l : List Int} (h : Bld w0 q g W L) (ho : OwnZ W B v l) (hB : w0.heap.size ≤ B) (hg : W.grownBy W' v.ownBlock) : Bld w0 q g W' L := by
  obtain ⟨u, hq, hu⟩ := h.row
  have hn : ∀ {b : Nat} {t : TypeId} {cs : Array Value}, Whole W b t cs → t ≠ 3 → some b ≠ v.ownBlock := fun {b t cs} hb ht e => by
    obtain ⟨ds, hw, -⟩ := ho.whole e.symm
    exact whole_ne hb hw ht rfl
  have hn2 : ∀ {b : Nat} {cs : Array Value} {t : TypeId} {f : Nat × Nat}, W.heap[b]? = some (.cells cs t f) → t ≠ 3 → some b ≠ v.ownBlock := fun {b cs t f} hb ht e => by
    obtain ⟨ds, hw, -⟩ := ho.whole e.symm
    unfold Whole at hw
    rw [hb] at hw
    injection hw with hw
    injection hw with _ hw
    exact ht hw
  refine ⟨h.below.grown hg h.below.size (fun j hj => by obtain ⟨-, -, hb⟩ := ho.whole hj; omega), h.base, u, (hg.block q hq.lt (hn hq (by decide))).trans hq, hu.kept (fun b hb => ?_) (fun b hb => ?_)⟩
  · obtain ⟨cs, f, hc⟩ := hu.kind hb
    exact hg.block b (hu.base b hb).2 (hn2 hc (by decide))
  · obtain ⟨cs, f, hc⟩ := hb
    exact hg.block b (Array.getElem?_eq_some_iff.1 hc).1 (hn2 hc (by decide))
theorem fr_grownZ {w W W' : World} {q : Nat} {B : Nat} {v : Value} {l : List Int} (h : Fr q w W) (ho : OwnZ W B v l) (hB : w.heap.size ≤ B) (hg : W.grownBy W' v.ownBlock) : Fr q w W' :=
  fr_grown h hg (fun r e => by obtain ⟨-, -, hb⟩ := ho.whole e; omega)
theorem whole_grownZ {W W' : World} {B : Nat} {v : Value} {l : List Int} {b : Nat} {t : TypeId} {cs : Array Value} (h : Whole W b t cs) (ho : OwnZ W B v l) (ht : t ≠ 3) (hg : W.grownBy W' v.ownBlock) : Whole W' b t cs :=
  (hg.block b h.lt (fun e => by obtain ⟨ds, hw, -⟩ := ho.whole e.symm; exact whole_ne h hw ht rfl)).trans h
theorem eachC_snoc : ∀ (cs : List Coder) (c : Coder) (k : Nat) (L : List Ins), eachC (cs ++ [c]) k L = ((eachC cs k L).1 ++ [(c k (eachC cs k L).2).1], (c k (eachC cs k L).2).2)
  | [], c, k, L => rfl
  | d :: cs, c, k, L => by
    show ((d k L).1 :: (eachC (cs ++ [c]) k (d k L).2).1, (eachC (cs ++ [c]) k (d k L).2).2) = _
    rw [eachC_snoc cs c k (d k L).2]
    rfl
/-- The entries of the first m Kids, and what is put then. -/
def entsM (g : Int) (ks : List Tr) (m k : Nat) (L : List Ins) : List Nat × List Ins := eachC ((ks.take m).map (codeT g)) k L
theorem entsM_step (g : Int) (ks : List Tr) (m k : Nat) (L : List Ins) (hm : m < ks.length) : entsM g ks (m + 1) k L = ((entsM g ks m k L).1 ++ [(codeT g ks[m] k (entsM g ks m k L).2).1], (codeT g ks[m] k (entsM g ks m k L).2).2) := by
  unfold entsM
  rw [List.take_succ_eq_append_getElem hm, List.map_append]
  exact eachC_snoc _ _ _ _
def zsN (l : List Nat) : List Int := l.map fun x : Nat => (x : Int)
theorem zsN_len (l : List Nat) : (zsN l).length = l.length := by simp [zsN]
/-- What is asked: the bounds of the entries. -/
theorem entsM_ok {w0 : World} {q : Nat} {g : Int} {w : World} {A : Option Addr} {c : Nat} {ks : List Tr} {k : Nat} {L : List Ins} {nd : Nat} (h : RowArg w0 q g w A c ks k L nd) : ∀ m, m ≤ ks.length → (entsM g ks m k L).1.length = m ∧ (∀ e ∈ (entsM g ks m k L).1, e < 100000000000) ∧ (entsM g ks m k L).2.length ≤ L.length + m * 10000
  | 0, _ => ⟨rfl, by simp [entsM, eachC], by simp [entsM, eachC]⟩
  | m + 1, hm => by
    obtain ⟨h1, h2, h3⟩ := entsM_ok h m (by omega)
    have hm' : m < ks.length := hm
    have hmem : ks[m] ∈ ks := List.getElem_mem hm'
    have h9 := h.l9
    have hn := h.nd9 _ hmem
    have hs := h.s9 _ hmem
    have hx := ((h.ok _ hmem).all k (entsM g ks m k L).2 h.k9 (by omega) (fun _ _ => trivial)).1
    have hl := (h.ok _ hmem).len k (entsM g ks m k L).2
    rw [entsM_step g ks m k L hm']
    refine ⟨by simp [h1], fun e he => ?_, by show (codeT g ks[m] k (entsM g ks m k L).2).2.length ≤ _; omega⟩
    rcases List.mem_append.1 he with he | he
    · exact h2 e he
    · obtain rfl : e = _ := by simpa using he
      exact hx
/-- The instructions that lead to entries, the last first. -/
def stepZ (s : Nat × List Ins) (x : Int) : Nat × List Ins := (s.2.length, s.2 ++ [⟨3, x, s.1, [], 0⟩])
def runZ (P : List Int) (s : Nat × List Ins) : Nat × List Ins := P.foldl stepZ s
theorem runZ_snoc (P : List Int) (s : Nat × List Ins) (x : Int) : runZ (P ++ [x]) s = stepZ (runZ P s) x := by simp [runZ]
theorem chainC_foldr : ∀ (es : List Nat) (e : Nat) (L : List Ins), chainC es e L = (zsN es).foldr (fun x s => stepZ s x) (e, L)
  | [], _, _ => rfl
  | x :: es, e, L => by
    show ((chainC es e L).2.length, (chainC es e L).2 ++ [_]) = _
    rw [chainC_foldr es e L]
    rfl
theorem runZ_all (es : List Nat) (e : Nat) (L : List Ins) : runZ (zsN es).reverse (e, L) = chainC es e L := by
  unfold runZ
  rw [List.foldl_reverse, chainC_foldr]
end Go.Proofs.Ythffdmncdoogpaa
/- The code of a choice, walked. No condition. -/
namespace Go.Proofs.Ythffdmncdoogpaa
open Go Go.RowKit Go.Shelf
attribute [local go_sem] Oper.semAt_some

theorem w64_small (M : Nat) (h : M + 1 ≤ 100000000000) : wrap64 (M : Int) = (M : Int) := IntWalk.wrap64_in _ (by omega)
/-- A piece of code that ends well. -/
def onlyN (K : Act → World → Prop) : Exit → Act → World → Prop
  | .normal, a, w => K a w
  | _, _, _ => False
theorem wp_onlyN {P : Program} {c : Code} {Q : Exit → Act → World → Prop} {a : Act} {w : World} (h : c.wp P (onlyN fun a w => Q .normal a w) a w) : c.wp P Q a w :=
  wp_mono h (fun e a w h => by cases e <;> first | exact h | exact h.elim)
/-- What stands in memory while entries are gone through. -/
structure AltI (w0 : World) (q : Nat) (g : Int) (w : World) (eb : Nat) (s0 : Nat × List Ins) (pre : List TelZ) (W : World) : Prop where
  bld : Bld w0 q g W (runZ (intsZ pre) s0).2
  fr : Fr q w W
  ebox : Whole W eb 3 #[.int .i64 (runZ (intsZ pre) s0).1]
  bbox : Whole W w.heap.size 85 #[.pointer (some ⟨q, 0, none⟩)]
  k9 : (runZ (intsZ pre) s0).1 < 100000000000
  l9 : (runZ (intsZ pre) s0).2.length ≤ s0.2.length + pre.length
theorem altI_own (w0 : World) (q : Nat) (g : Int) (w : World) (eb : Nat) (s0 : Nat × List Ins) (B : Nat) (hB : w.heap.size ≤ B) (hw : w0.heap.size ≤ w.heap.size) : OwnFrom B (fun pre W => AltI w0 q g w eb s0 pre W) := by
  intro pre W W' row h hg hr
  have hkeep : ∀ {b : Nat} {t : TypeId} {cs : Array Value}, Whole W b t cs → Whole W' b t cs := fun {b t cs} hb => (hg.block b hb.lt (fun e => by
    obtain ⟨-, o, h1, h2⟩ := hr b e.symm
    unfold Whole at hb
    rw [hb] at h1
    cases h1
    cases h2)).trans hb
  exact ⟨bld_grown h.bld hg (fun r e => ⟨by have := (hr r e).1; omega, (hr r e).2⟩), fr_grown h.fr hg (fun r e => by have := (hr r e).1; omega), hkeep h.ebox, hkeep h.bbox, h.k9, h.l9⟩
theorem ex_own (B b : Nat) (t : TypeId) : OwnFrom B (fun (_ : List TelZ) W => ∃ cs, Whole W b t cs) := by
  intro pre W W' row ⟨cs, hb⟩ hg hr
  exact ⟨cs, (hg.block b hb.lt (fun e => by
    obtain ⟨-, o, h1, h2⟩ := hr b e.symm
    unfold Whole at hb
    rw [hb] at h1
    cases h1
    cases h2)).trans hb⟩
/-- One entry more. -/
theorem altI_step {w0 : World} {q : Nat} {g : Int} {w : World} {eb : Nat} {s0 : Nat × List Ins} {pre : List TelZ} {x : TelZ} {W Wd W2 : World} (h : AltI w0 q g w eb s0 pre W) (hd : Below W.heap.size W Wd) (hq : q < w.heap.size) (hw : w0.heap.size ≤ w.heap.size) (heb : w.heap.size < eb)
    (hB : Bld w0 q g W2 (stepZ (runZ (intsZ pre) s0) x.1.2).2) (hF : Fr q Wd W2) (hk9 : (stepZ (runZ (intsZ pre) s0) x.1.2).1 < 100000000000) (B Bx : Nat) (A : Option Addr) (hBx : Bx ≠ eb ∧ Bx ≠ q) (hBt : ∀ b, A = some ⟨b, 0, none⟩ → b ≠ eb ∧ b ≠ q) (hKi : ∀ b, (b = Bx ∨ A = some ⟨b, 0, none⟩) → ¬ KindI W b) :
    KeepsFrom B W (W2.setCell ⟨eb, 0, none⟩ (.int .i64 (stepZ (runZ (intsZ pre) s0) x.1.2).1)) ∧ KeepsZ Bx A W (W2.setCell ⟨eb, 0, none⟩ (.int .i64 (stepZ (runZ (intsZ pre) s0) x.1.2).1)) ∧ AltI w0 q g w eb s0 (pre ++ [x]) (W2.setCell ⟨eb, 0, none⟩ (.int .i64 (stepZ (runZ (intsZ pre) s0) x.1.2).1)) := by
  have hF2 : Fr q W W2 := (Fr.of_below hd).trans hF
  have hkb : Whole W2 eb 3 #[.int .i64 (runZ (intsZ pre) s0).1] := hF2.whole h.ebox (by omega) (by decide)
  have hsp : stepZ (runZ (intsZ pre) s0) x.1.2 = runZ (intsZ (pre ++ [x])) s0 := by rw [intsZ_snoc, runZ_snoc]
  have hbl := hB.setBox hkb (by decide) (by decide) (by omega) (by omega) 0 (.int .i64 (stepZ (runZ (intsZ pre) s0) x.1.2).1)
  refine ⟨(fr_keeps hF2 (bld_whole h.bld)).trans ⟨by simp [World.setCell], fun b o _ hb hc => (Below.heap_setCell W2 _ _ b (fun e => ?_)).trans hb⟩, fun b t cs hb hx => (Below.heap_setCell W2 _ _ b (fun e => ?_)).trans ((hF2.block b hx.lt (fun e => ?_) (hKi b hb)).trans hx), ?_⟩
  · have e2 : b = eb := e
    subst e2
    unfold Whole at hkb
    rw [hb] at hkb
    cases hkb
    cases hc
  · have e2 : b = eb := e
    rcases hb with rfl | hb
    · exact hBx.1 e2
    · exact (hBt b hb).1 e2
  · rcases hb with rfl | hb
    · exact hBx.2 e
    · exact (hBt b hb).2 e
  · refine ⟨by rw [← hsp]; exact hbl, ?_, ?_, (Below.heap_setCell W2 _ _ _ (by show w.heap.size ≠ eb; omega)).trans (hF2.whole h.bbox (by omega) (by decide)), by rw [← hsp]; exact hk9, ?_⟩
    · exact ⟨(h.fr.trans hF2).os, (h.fr.trans hF2).tape, (h.fr.trans hF2).output, Nat.le_trans (h.fr.trans hF2).size (by simp [World.setCell]), fun b hb h1 h2 => (Below.heap_setCell W2 _ _ b (by show b ≠ eb; omega)).trans ((h.fr.trans hF2).block b hb h1 h2)⟩
    · rw [← hsp]
      have := hkb.store 0 (.int .i64 (stepZ (runZ (intsZ pre) s0) x.1.2).1)
      simpa using this
    · rw [← hsp]
      have := h.l9
      show ((runZ (intsZ pre) s0).2 ++ [_]).length ≤ _
      simp only [List.length_append, List.length_singleton]
      omega

set_option maxHeartbeats 4000000 in
set_option maxRecDepth 100000 in
theorem cchoice_any (w0 : World) (q : Nat) (g : Int) (w : World) (A : Option Addr) (c : Nat) (ks : List Tr) (k : Nat) (L : List Ins) (nd : Nat) (h : RowArg w0 q g w A c ks k L nd) (h1 : 1 ≤ ks.length) :
    Calls Try.prog 58 #[.pointer (some ⟨q, 0, none⟩), .slice A ks.length c, .int .i64 k] w (CodPost w0 q g w (choiceC (ks.map (codeT g)) k L)) := by
  obtain ⟨w1, hw1⟩ : ∃ W, w.alloc (.cells #[.pointer (some ⟨q, 0, none⟩)] 85) = W := ⟨_, rfl⟩
  have s1 : w1.heap.size = w.heap.size + 1 := by rw [← hw1]; exact World.size_alloc _ _
  have b1 : Below w.heap.size w w1 := by rw [← hw1]; exact (Below.refl _ _).alloc (Nat.le_refl _) _
  have x1 : Whole w1 w.heap.size 85 #[.pointer (some ⟨q, 0, none⟩)] := by rw [← hw1]; exact heap_alloc_new _ _
  have hq : q < w.heap.size := h.bld.lt
  have hbase : w0.heap.size ≤ w.heap.size := h.bld.below.size
  have HOK := Lib.hid (entsM_ok h)
  have HH := Lib.hid h; have HW1 := Lib.hid hw1; have HQ := Lib.hid hq; have HBS := Lib.hid hbase; have HS1 := Lib.hid s1
  have HB0 := Lib.hid (h.bld.on b1); have HF0 := Lib.hid (Fr.of_below (q := q) b1); have HX1 := Lib.hid x1
  obtain ⟨N, hN⟩ : ∃ N, ks.length = N := ⟨_, rfl⟩
  have HN := Lib.hid hN
  have hNb : N ≤ 100000000 := by have := h.len; have := h.l9; omega
  have hk9 := h.k9
  rw [hN] at h1 ⊢
  clear h hw1 hq hbase s1 b1 x1 hN
  refine (callsIn_wide (n := 8)).1 ?_
  refine callsIn_of_wp_marks Try.func58 rfl trivial ?_ rfl
  simp only [Try.ntmps58, List.size_toArray, List.length_cons, List.length_nil, Nat.reduceAdd, Nat.reduceSub, Array.replicate_succ, Array.replicate_zero, List.push_toArray, List.append_toArray, List.nil_append, List.cons_append]
  refine wpIn_wide.2 ?_
  go_upto_region 1 with (fail)
  rw [HW1.out]
  go_wp2_with fail
  go_loopw [7, 15] (fun v i wr => ∃ m : Nat, m ≤ N ∧ i = .int .i64 m ∧ OwnZ wr w1.heap.size v (zsN (entsM g ks m k L).1) ∧ Bld w0 q g wr (entsM g ks m k L).2 ∧ Fr q w wr ∧ Whole wr w.heap.size 85 #[.pointer (some ⟨q, 0, none⟩)] ∧ w1.heap.size ≤ wr.heap.size) (fun _ i _ => N - (intOf i).toNat)
  case atStart => exact ⟨0, Nat.zero_le _, rfl, ownZ_none _ _, HB0.out, HF0.out, HX1.out, Nat.le_refl _⟩
  case round =>
    obtain ⟨m, hm, rfl, hO, hB, hF, hX, hsz⟩ := hrel
    obtain ⟨oa, oc, rfl⟩ := hO.slice
    have HO := Lib.hid hO; have HB := Lib.hid hB; have HF := Lib.hid hF; have HX := Lib.hid hX; have HSZ := Lib.hid hsz
    obtain ⟨hl1, hl2, hl3⟩ := HOK.out m (by rw [HN.out]; exact hm)
    rw [zsN_len, hl1]
    by_cases hmN : m < N
    · have hmk : m < ks.length := by rw [HN.out]; exact hmN
      have hmem : ks[m] ∈ ks := List.getElem_mem hmk
      obtain ⟨kb, ko, hA, hT⟩ := TAt.kid HH.out.kds m hmk
      subst hA
      have hc9 := HH.out.nd9 _ hmem
      have hl9 := HH.out.l9
      have hs9 := HH.out.s9 _ hmem
      have d3 : wr.cell? ⟨w.heap.size, 0, none⟩ = some (.pointer (some ⟨q, 0, none⟩)) := hX.cell 0
      have hst := entsM_step g ks m k L hmk
      obtain ⟨E, hE⟩ : ∃ E, entsM g ks m k L = E := ⟨_, rfl⟩
      rw [hE] at hst hl1 hl2 hl3
      have hk1 := ((HH.out.ok _ hmem).all k E.2 hk9 (by omega) (fun _ _ => trivial)).1
      obtain ⟨r, hr⟩ : ∃ r, codeT g ks[m] k E.2 = r := ⟨_, rfl⟩
      rw [hr] at hst hk1
      have HC : Hid (∀ W', Below wr.heap.size wr W' → Calls Try.prog 35 #[.pointer (some ⟨q, 0, none⟩), .pointer (some ⟨kb, ko + m * 10, none⟩), .int .i64 k] W' (CodPost w0 q g W' r)) := Lib.hid fun W' hW' => by
        rw [← hr]
        have hB' := HB.out
        rw [hE] at hB'
        exact HH.out.code _ hmem w0 q W' k E.2 kb (ko + m * 10) ⟨hB'.on hW', hT, hk9, by omega, by omega⟩
      have HST := Lib.hid hst; have HE := Lib.hid hE; have HL1 := Lib.hid hl1
      have hr64 : R64 (r.1 : Int) := r64_small _ (by omega)
      clear hO hB hF hX hsz hmk hmem hT hc9 hl9 hs9 hst hE hr hl1 hl2 hl3
      go_upto_region 5 with (fail)
      refine wp_onlyN ?_
      go_region_law (first | (go_simp; refine (HC.out _ ?hb).mono ?_; (case hb => first | exact Below.refl _ _ | exact (Below.refl _ _).drew | exact below_draws _ _); rintro e W2 ⟨rfl, hB2, hF2⟩; have HB2 := Lib.hid hB2; have hF3 := (Fr.of_below (q := q) (w := wr) (by first | exact Below.refl _ _ | exact (Below.refl _ _).drew | exact below_draws _ _)).trans hF2; have HF2 := Lib.hid hF3; have HO2 := Lib.hid (HO.out.kept (w' := W2) (fun b hb => by obtain ⟨cs, hw, hbb⟩ := HO.out.whole hb; exact (hF3.block b hw.lt (by have := HQ.out; have := HS1.out; omega) (not_kindI hw (by decide))))); clear hB2 hF2 hF3) | (refine step_append_z rfl (.tmp 18) (.tmp 25) rfl w1.heap.size (.slice oa m oc) (zsN E.1) rfl (by have h := HO2.out; rw [HE.out, zsN_len, HL1.out] at h; first | exact h.below ((Below.refl _ W2).alloc (Nat.le_refl _) _) | exact h.below ((Below.refl _ W2).alloc (Nat.le_refl _) _).drew) W2.heap.size r.1 rfl (by first | exact box_at W2 _ _ 0 _ rfl) hr64 (by rw [zsN_len, HL1.out]; omega) (by have := HF2.out.size; have := HSZ.out; simp; omega) ?_; intro v3 w3 ho3 hg3; have HO3 := Lib.hid ho3; have HG3 := Lib.hid hg3; clear ho3 hg3))
      all_goals
        have hA2 : Below W2.heap.size W2 (W2.alloc (.cells #[.int .i64 (r.1 : Int)] 3)) := (Below.refl _ W2).alloc (Nat.le_refl _) _
        have hOA := HO2.out.below hA2
        rw [HE.out, zsN_len, HL1.out] at hOA
        have hBB := bld_grownZ (HB2.out.on hA2) hOA (by have := HBS.out; have := HS1.out; omega) HG3.out
        have hFF := fr_grownZ ((HF.out.trans HF2.out).trans (Fr.of_below hA2)) hOA (by have := HS1.out; omega) HG3.out
        have hXX := whole_grownZ ((HF2.out.whole HX.out (by have := HQ.out; omega) (by decide)).below hA2 (HF2.out.whole HX.out (by have := HQ.out; omega) (by decide)).lt) hOA (by decide) HG3.out
        have hZZ : w1.heap.size ≤ w3.heap.size := by have := HG3.out.size; have := HF2.out.size; have := HSZ.out; simp at *; omega
        have HBB := Lib.hid hBB; have HFF := Lib.hid hFF; have HXX := Lib.hid hXX; have HZZ := Lib.hid hZZ
        clear hA2 hOA hBB hFF hXX hZZ
        dsimp only [onlyN]
        go_wp2_with fail
        go_roundw
        case rel =>
          refine ⟨m + 1, by omega, by go_num, ?_, ?_, HFF.out, HXX.out, HZZ.out⟩
          · rw [HST.out]
            have := HO3.out
            simpa [zsN] using this
          · rw [HST.out]
            exact HBB.out
        case measure => simp [intOf]; omega
    · obtain rfl : m = N := by omega
      obtain ⟨M, rfl⟩ : ∃ M, m = M + 1 := ⟨m - 1, by omega⟩
      have hi : M < (zsN (entsM g ks (M + 1) k L).1).length := by rw [zsN_len, hl1]; omega
      obtain ⟨E, hE⟩ : ∃ E, entsM g ks (M + 1) k L = E := ⟨_, rfl⟩
      rw [hE] at hl1 hl2 hl3 hO hi hB
      obtain ⟨gE, hoa, hmoc⟩ : ∃ gE, oa = some ⟨gE, 0, none⟩ ∧ M + 1 ≤ oc := by
        rcases own_sliceZ hO.1 with ⟨e, h0⟩ | ⟨gE, c2, e, hle, _⟩
        · rw [zsN_len, hl1] at h0
          omega
        · injection e with e e2 e3
          rw [zsN_len, hl1] at hle
          exact ⟨gE, e, by omega⟩
      subst hoa
      have hcell := (hO.at' (M) hi).1
      obtain ⟨e0, he0⟩ : ∃ e, E.1.getLastD 0 = e := ⟨_, rfl⟩
      have hlast : (zsN E.1)[M]'hi = (e0 : Int) := by
        have hne : E.1 ≠ [] := fun h => by rw [h] at hl1; simp at hl1
        rw [← he0, List.getLastD_eq_getLast?, List.getLast?_eq_some_getLast hne]
        simp only [Option.getD_some, zsN, List.getElem_map]
        congr 1
        rw [List.getLast_eq_getElem]
        congr 1
        omega
      rw [hlast] at hcell
      have he9 : e0 < 100000000000 := by
        rw [← he0]
        have hne : E.1 ≠ [] := fun h => by rw [h] at hl1; simp at hl1
        rw [List.getLastD_eq_getLast?, List.getLast?_eq_some_getLast hne]
        exact hl2 _ (List.getLast_mem hne)
      obtain ⟨w5, hw5⟩ : ∃ W, wr.alloc (.cells #[.int .i64 (e0 : Int)] 3) = W := ⟨_, rfl⟩
      have b5 : Below wr.heap.size wr w5 := by rw [← hw5]; exact (Below.refl wr.heap.size wr).alloc (Nat.le_refl _) _
      have s5 : w5.heap.size = wr.heap.size + 1 := by rw [← hw5]; exact World.size_alloc _ _
      have x5 : Whole w5 wr.heap.size 3 #[.int .i64 (e0 : Int)] := by
        rw [← hw5]
        exact heap_alloc_new _ _
      obtain ⟨w6, hw6⟩ : ∃ W, w5.alloc (.cells #[.slice (some ⟨gE, 0, none⟩) (M) oc] 56) = W := ⟨_, rfl⟩
      have b6 : Below w5.heap.size w5 w6 := by rw [← hw6]; exact (Below.refl _ _).alloc (Nat.le_refl _) _
      have s6 : w6.heap.size = wr.heap.size + 2 := by rw [← hw6, World.size_alloc, s5]
      have x6 : Whole w6 (wr.heap.size + 1) 56 #[.slice (some ⟨gE, 0, none⟩) (M) oc] := by rw [← s5, ← hw6]; exact heap_alloc_new _ _
      have b56 := below_two b5 b6
      obtain ⟨cur, hcw, hcl, hcB, -⟩ := (by rw [zsN_len, hl1] at hO; exact hO : OwnZ wr w1.heap.size (.slice (some ⟨gE, 0, none⟩) (M + 1) oc) (zsN E.1)).block
      have hgq : w1.heap.size ≤ gE := hcB
      have hglt : gE < wr.heap.size := hcw.lt
      have hes : zsN E.1.dropLast = (zsN E.1).take (M) := by
        rw [List.dropLast_eq_take, hl1, Nat.add_sub_cancel]
        simp [zsN, List.map_take]
      have hesl : (zsN E.1.dropLast).length = M := by rw [zsN_len, List.length_dropLast, hl1]; rfl
      have HZR : Hid (ZRow w6 (wr.heap.size + 1) (some ⟨gE, 0, none⟩) oc (zsN E.1.dropLast)) := Lib.hid ⟨by rw [hesl]; exact x6, .inr ⟨gE, cur, rfl, hcw.below b56 hcw.lt, fun i hi => by
        have hi2 : i < (zsN E.1).length := by rw [hesl] at hi; rw [zsN_len, hl1]; omega
        have h1 := (hO.at' i hi2).1
        rw [hcw.cell i] at h1
        rw [h1]
        simp only [hes, List.getElem_take]⟩⟩
      have HV : Hid (∀ x ∈ zsN E.1.dropLast, 0 ≤ x ∧ x < 100000000000) := Lib.hid fun x hx => by
        obtain ⟨y, hy, rfl⟩ := List.mem_map.1 hx
        have := hl2 y (List.dropLast_subset _ hy)
        omega
      have HA0 : Hid (AltI w0 q g w wr.heap.size (e0, E.2) [] w6) := Lib.hid ⟨hB.on b56, hF.trans (Fr.of_below b56), x5.below b6 x5.lt, hX.below b56 hX.lt, he9, by simp [intsZ, runZ]⟩
      have HBK := Lib.hid (backZ_any (some ⟨gE, 0, none⟩) (M) oc w5)
      have HEF : Hid (choiceC (ks.map (codeT g)) k L = chainC E.1.dropLast e0 E.2) := Lib.hid (by
        unfold choiceC
        have e1 : eachC (ks.map (codeT g)) k L = E := by
          rw [← hE]
          unfold entsM
          rw [List.take_of_length_le (by rw [HN.out]; omega)]
        rw [e1, he0])
      have HW5 := Lib.hid hw5; have HW6 := Lib.hid hw6; have HS5 := Lib.hid s5; have HS6 := Lib.hid s6; have HE9 := Lib.hid he9; have HL3 := Lib.hid hl3; have HHB := Lib.hid hesl
      have HGW6 : Hid (∃ cs, Whole w6 gE 3 cs) := Lib.hid ⟨cur, hcw.below b56 hcw.lt⟩
      have HGQ := Lib.hid hgq; have HGL := Lib.hid hglt
      have hwM : wrap64 (M : Int) = (M : Int) := w64_small M (Nat.le_trans hNb (by decide))
      have hMoc : M ≤ oc := Nat.le_of_succ_le hmoc
      have hMN : M < M + 1 := Nat.lt_succ_self M
      clear hO hB hF hX hsz hi hl1 hl2 hl3 hlast he0 he9 hw5 b5 s5 x5 hw6 b6 s6 x6 b56 hcw hcl hcB hgq hglt hes hesl hE hmN
      go_upto_region 9 with (fail)
      rw [HW5.out]
      go_wp2_with (go_at_call 84; refine HBK.out.mono ?_; rintro e W1 ⟨rfl, rfl⟩)
      rw [HW6.out]
      clear hwM hMoc hMN hcell hmoc
      refine (wpIn_wide (n := 8)).1 ?_
      refine wpIn_rangeFunc_ownG rfl (by decide) (gf := 107) (lb := #[.pointer (some ⟨w5.heap.size, 0, none⟩)]) rfl trivial (enters_of Try.func107 (by kernel_rfl) rfl)
        (backZ_stops 7 w5.heap.size (by decide) (some ⟨gE, 0, none⟩) oc (zsN E.1.dropLast) (by have := HHB.out; omega) HV.out w6 (by rw [HS5.out]; exact HZR.out)) KeepsZ.trans
        (fun W l ob ob' hl h1 h2 _ => keepsZ_put w5.heap.size (some ⟨gE, 0, none⟩) W l ob ob' h1 h2) (Below.refl _ _) (fun _ => rfl)
        (fun pre W => AltI w0 q g w wr.heap.size (e0, E.2) pre W ∧ (∃ cs, Whole W gE 3 cs) ∧ (∃ cs, Whole W w5.heap.size 56 cs))
        (fun _ _ _ => False)
        ?own
        (fun _ _ _ _ _ hs _ _ => hs)
        ?init
        (fun x => { tmps := #[.pointer (some ⟨q, 0, none⟩), .slice A (M + 1) c, .int .i64 k, .pointer (some ⟨w.heap.size, 0, none⟩), undef, undef, .int .i64 0, .slice (some ⟨gE, 0, none⟩) (M + 1) oc, u8, .int .i64 (M : Int), .pointer (some ⟨wr.heap.size, 0, none⟩), undef, .int .i64 x.1.2, .slice A (M + 1) c, .int .i64 ((M : Int) + 1), .int .i64 ((M : Int) + 1), .bool false, u17, u18, u19, u20, u21, u22, u23, u24, u25, u26, u27, .slice (some ⟨gE, 0, none⟩) (M + 1) oc, .int .i64 ((M : Int) + 1), .int .i64 (M : Int), .slice (some ⟨gE, 0, none⟩) (M + 1) oc, .int .i64 (M : Int), .pointer (some ⟨gE, M, none⟩), .int .i64 (e0 : Int), .slice (some ⟨gE, 0, none⟩) (M + 1) oc, .int .i64 (M : Int), .slice (some ⟨gE, 0, none⟩) M oc, .func (.func 107) #[] #[.pointer (some ⟨w5.heap.size, 0, none⟩)], .int .i64 (x.1.1 : Int), .int .i64 x.1.2, undef, undef, undef, undef, undef, undef], defers := [] }) ?assign ?body ?done ?stop
      case own => exact OwnFrom.and (altI_own w0 q g w wr.heap.size (e0, E.2) _ (by have := HS6.out; have := HSZ.out; have := HS1.out; omega) HBS.out) (OwnFrom.and (ex_own _ gE _) (ex_own _ w5.heap.size _))
      case init =>
        obtain ⟨zb, zr⟩ := HZR.out
        refine ⟨HA0.out, ?_, by rw [HS5.out]; exact ⟨_, zb⟩⟩
        exact HGW6.out
      case assign =>
        intro l x W K hK
        obtain ⟨⟨xi, xv⟩, hx⟩ := x
        rw [show TelZ.vals ⟨(xi, xv), hx⟩ = #[.int .i64 (xi : Int), .int .i64 xv] from rfl, zip_two']
        simp only [List.setIfInBounds_toArray, List.set_cons_zero, List.set_cons_succ]
        gi_wp2
        exact hK
      case body =>
        rintro l2 pre ⟨⟨xi, xv⟩, hx⟩ W ⟨hI, hgW, hbW⟩ hlt
        have HI := Lib.hid hI
        have d3 : W.cell? ⟨w.heap.size, 0, none⟩ = some (.pointer (some ⟨q, 0, none⟩)) := hI.bbox.cell 0
        obtain ⟨s, hs⟩ : ∃ s, runZ (intsZ pre) (e0, E.2) = s := ⟨_, rfl⟩
        have d5 : W.cell? ⟨wr.heap.size, 0, none⟩ = some (.int .i64 s.1) := by rw [← hs]; exact hI.ebox.cell 0
        have hsk : s.1 < 100000000000 := by rw [← hs]; exact hI.k9
        have hsl : s.2.length ≤ E.2.length + pre.length := by rw [← hs]; exact hI.l9
        have hlen9 : s.2.length < 100000000000 := by
          have h1 := HL3.out
          have h2 := HHB.out
          have h3 := HH.out.l9
          have h4 := HH.out.len
          have h5 := HN.out
          omega
        have hB0 := hI.bld
        rw [hs] at hB0
        have HP := Lib.hid (cput_any w0 q g s.2 ⟨3, xv, s.1, [], 0⟩ _ W hB0 (insF_bare W 3 xv s.1 0 (r64_small _ (by omega)) (r64_small _ (by have := hx.1; have := hx.2; simp only at *; omega)) (r64_small _ (by omega)) (r64_small _ (by omega))) (by omega))
        have HS := Lib.hid hs; have HSK := Lib.hid hlen9; have HGW := Lib.hid hgW; have HBW := Lib.hid hbW
        clear hI hs hsk hsl hlen9 hB0 hgW hbW
        dsimp only
        gi_wp2_with (refine ⟨trivial, ?_⟩; refine (CallsIn.inRound l2 (callsIn_wide.2 HP.out)).mono ?_; rintro e W2 ⟨rfl, hB2, hF2⟩; have hkb2 := hF2.whole HI.out.ebox (by have := HQ.out; have := HSZ.out; have := HS1.out; omega) (by decide); have k6 : W2.cell? ⟨wr.heap.size, 0, none⟩ = some _ := hkb2.cell 0; have k5 : W2.frozen? ⟨wr.heap.size, 0, none⟩ = false := hkb2.free 0; have HB2 := Lib.hid hB2; have HF2 := Lib.hid hF2; clear hB2 hF2 hkb2)
        have hst := altI_step (x := ⟨(xi, xv), hx⟩) (Wd := W) (W2 := W2) HI.out (Below.refl _ _) HQ.out HBS.out (by have := HSZ.out; have := HS1.out; omega) (by rw [HS.out]; exact HB2.out) HF2.out (by rw [HS.out]; exact HSK.out) w6.heap.size w5.heap.size (some ⟨gE, 0, none⟩) (by have := HS5.out; have := HQ.out; have := HSZ.out; have := HS1.out; omega) (fun b hb => by
          injection hb with hb
          injection hb with hb
          subst hb
          have := HGQ.out; have := HGL.out; have := HQ.out; have := HS1.out
          omega) (fun b hb hk => by
          rcases hb with rfl | hb
          · obtain ⟨cs, hw⟩ := HBW.out
            exact not_kindI hw (by decide) hk
          · injection hb with hb
            injection hb with hb
            subst hb
            obtain ⟨cs, hw⟩ := HGW.out
            exact not_kindI hw (by decide) hk)
        simp only [HS.out] at hst
        refine ⟨hst.1, hst.2.1, hst.2.2, ?_, ?_⟩
        · obtain ⟨cs, hw⟩ := HGW.out
          exact ⟨cs, hst.2.1 _ _ _ (.inr rfl) hw⟩
        · obtain ⟨cs, hw⟩ := HBW.out
          exact ⟨cs, hst.2.1 _ _ _ (.inl rfl) hw⟩
      case done =>
        rintro D xs W hD hS ⟨hI, -, -⟩ hK
        have hend : runZ (intsZ xs) (e0, E.2) = choiceC (ks.map (codeT g)) k L := by rw [hS, runZ_all, HEF.out]
        have hBf : Bld w0 q g (W.putObj D (.deferred none)) (choiceC (ks.map (codeT g)) k L).2 := by
          rw [← hend]
          exact bld_grown hI.bld (grownBy_putObj' W D _) (fun r e => by
            obtain rfl : D = r := Option.some.inj e
            exact ⟨by have := HBS.out; have := HS6.out; have := HSZ.out; have := HS1.out; omega, _, hK, rfl⟩)
        have hFf : Fr q w (W.putObj D (.deferred none)) := fr_grown hI.fr (grownBy_putObj' W D _) (fun r e => by
          obtain rfl : D = r := Option.some.inj e
          have := HS6.out; have := HSZ.out; have := HS1.out
          omega)
        have c5 : W.cell? ⟨wr.heap.size, 0, none⟩ = some (.int .i64 (choiceC (ks.map (codeT g)) k L).1) := by rw [← hend]; exact hI.ebox.cell 0
        have HBF := Lib.hid hBf; have HFF := Lib.hid hFf; have HK := Lib.hid hK
        clear hS hI hK hend hBf hFf
        go_wp2
        refine ⟨by simp, .inl ⟨_, _, rfl, run_takeDeferred HK.out, ?_⟩⟩
        exact ⟨_, results_tmp rfl _ _ _, rfl, HBF.out, HFF.out⟩
      case stop =>
        rintro D c pre W _ _ h _
        exact h.elim
end Go.Proofs.Ythffdmncdoogpaa
/- The code of any shaped tree without counted repeats. No condition. -/
namespace Go.Proofs.Ythffdmncdoogpaa
open Go Go.RowKit

set_option maxHeartbeats 1600000 in
set_option maxRecDepth 100000 in
theorem ccode_cap (w0 : World) (q : Nat) (g : Int) (w : World) (t : Tr) (k : Nat) (L : List Ins) (pb po : Nat) (h : CodArg w0 q g w t k L pb po) (ho : t.fld.op = 6) (hc : Calls Try.prog 54 #[.pointer (some ⟨q, 0, none⟩), .pointer (some ⟨pb, po, none⟩), .int .i64 k] w (CodPost w0 q g w (codeT g t k L))) :
    Calls Try.prog 35 #[.pointer (some ⟨q, 0, none⟩), .pointer (some ⟨pb, po, none⟩), .int .i64 k] w (CodPost w0 q g w (codeT g t k L)) := by
  obtain ⟨A, n, cc, a2, s, c2, hn, -, ⟨d0, d1, -, -, -, -, -, -, -, -⟩, -⟩ := (h.at'.below h.bld.below).ten
  obtain ⟨R, hR⟩ : ∃ R, codeT g t k L = R := ⟨_, rfl⟩
  rw [hR] at hc ⊢
  rw [ho] at d0
  clear ho
  have HC := Lib.hid hc
  clear h hn hR hc
  go_enter Try.func35, Try.ntmps35
  go_wp2_with fail
  refine HC.out.mono ?_
  rintro e w1 ⟨rfl, h1⟩
  have H1 := Lib.hid h1
  clear h1 d0 d1
  go_wp2_with fail
  go_ret
  exact ⟨rfl, H1.out⟩

set_option maxHeartbeats 1600000 in
set_option maxRecDepth 100000 in
theorem ccode_loop (w0 : World) (q : Nat) (g : Int) (w : World) (t : Tr) (k : Nat) (L : List Ins) (pb po : Nat) (h : CodArg w0 q g w t k L pb po) (ho : t.fld.op = 7 ∨ t.fld.op = 8) (hc : Calls Try.prog 55 #[.pointer (some ⟨q, 0, none⟩), .pointer (some ⟨pb, po, none⟩), .int .i64 k] w (CodPost w0 q g w (codeT g t k L))) :
    Calls Try.prog 35 #[.pointer (some ⟨q, 0, none⟩), .pointer (some ⟨pb, po, none⟩), .int .i64 k] w (CodPost w0 q g w (codeT g t k L)) := by
  obtain ⟨A, n, cc, a2, s, c2, hn, -, ⟨d0, d1, -, -, -, -, -, -, -, -⟩, -⟩ := (h.at'.below h.bld.below).ten
  obtain ⟨R, hR⟩ : ∃ R, codeT g t k L = R := ⟨_, rfl⟩
  rw [hR] at hc ⊢
  have HC := Lib.hid hc
  clear h hn hR hc
  rcases ho with e | e
  all_goals
    rw [e] at d0
    clear e
    go_enter Try.func35, Try.ntmps35
    go_wp2_with fail
    refine HC.out.mono ?_
    rintro e w1 ⟨rfl, h1⟩
    have H1 := Lib.hid h1
    clear h1 d0 d1
    go_wp2_with fail
    go_ret
    exact ⟨rfl, H1.out⟩

set_option maxHeartbeats 1600000 in
set_option maxRecDepth 100000 in
theorem ccode_row (w0 : World) (q : Nat) (g : Int) (w : World) (t : Tr) (k : Nat) (L : List Ins) (pb po : Nat) (h : CodArg w0 q g w t k L pb po) (ho : t.fld.op = 11) (hc : ∀ (A : Option Addr) (c : Nat), Kds w0 t.kids (.slice A t.kids.length c) → Calls Try.prog 57 #[.pointer (some ⟨q, 0, none⟩), .slice A t.kids.length c, .int .i64 k] w (CodPost w0 q g w (codeT g t k L))) :
    Calls Try.prog 35 #[.pointer (some ⟨q, 0, none⟩), .pointer (some ⟨pb, po, none⟩), .int .i64 k] w (CodPost w0 q g w (codeT g t k L)) := by
  obtain ⟨A, n, cc, a2, s, c2, hn, -, ⟨e0, e1, -, -, -, -, -, -, -, -⟩, -, -, hK, -, -⟩ := h.at'.ten
  have d0 := (h.bld.below.cell (World.block_lt_of_cell? w0 _ e0)).trans e0
  have d1 := (h.bld.below.cell (World.block_lt_of_cell? w0 _ e1)).trans e1
  have hc' := hc A cc (by rw [hn]; exact hK)
  obtain ⟨R, hR⟩ : ∃ R, codeT g t k L = R := ⟨_, rfl⟩
  rw [hR] at hc' ⊢
  rw [hn] at hc'
  rw [ho] at d0
  have HC := Lib.hid hc'
  clear h hn hR hc hc' ho e0 e1 hK
  go_enter Try.func35, Try.ntmps35
  go_wp2_with fail
  refine HC.out.mono ?_
  rintro e w1 ⟨rfl, h1⟩
  have H1 := Lib.hid h1
  clear h1 d0 d1
  go_wp2_with fail
  go_ret
  exact ⟨rfl, H1.out⟩

set_option maxHeartbeats 1600000 in
set_option maxRecDepth 100000 in
theorem ccode_choice (w0 : World) (q : Nat) (g : Int) (w : World) (t : Tr) (k : Nat) (L : List Ins) (pb po : Nat) (h : CodArg w0 q g w t k L pb po) (ho : t.fld.op = 12) (hc : ∀ (A : Option Addr) (c : Nat), Kds w0 t.kids (.slice A t.kids.length c) → Calls Try.prog 58 #[.pointer (some ⟨q, 0, none⟩), .slice A t.kids.length c, .int .i64 k] w (CodPost w0 q g w (codeT g t k L))) :
    Calls Try.prog 35 #[.pointer (some ⟨q, 0, none⟩), .pointer (some ⟨pb, po, none⟩), .int .i64 k] w (CodPost w0 q g w (codeT g t k L)) := by
  obtain ⟨A, n, cc, a2, s, c2, hn, -, ⟨e0, e1, -, -, -, -, -, -, -, -⟩, -, -, hK, -, -⟩ := h.at'.ten
  have d0 := (h.bld.below.cell (World.block_lt_of_cell? w0 _ e0)).trans e0
  have d1 := (h.bld.below.cell (World.block_lt_of_cell? w0 _ e1)).trans e1
  have hc' := hc A cc (by rw [hn]; exact hK)
  obtain ⟨R, hR⟩ : ∃ R, codeT g t k L = R := ⟨_, rfl⟩
  rw [hR] at hc' ⊢
  rw [hn] at hc'
  rw [ho] at d0
  have HC := Lib.hid hc'
  clear h hn hR hc hc' ho e0 e1 hK
  go_enter Try.func35, Try.ntmps35
  go_wp2_with fail
  refine HC.out.mono ?_
  rintro e w1 ⟨rfl, h1⟩
  have H1 := Lib.hid h1
  clear h1 d0 d1
  go_wp2_with fail
  go_ret
  exact ⟨rfl, H1.out⟩

theorem rowArg_of {w0 : World} {q : Nat} {g : Int} {w : World} {t : Tr} {k : Nat} {L : List Ins} {pb po : Nat} (h : CodArg w0 q g w t k L pb po) (hs : ShapedP t) (hn : NoRep t) (ih : ∀ x ∈ t.kids, CodeC g x) {A : Option Addr} {c : Nat} (hK : Kds w0 t.kids (.slice A t.kids.length c)) : RowArg w0 q g w A c t.kids k L (nodesR t) :=
  ⟨h.bld, hK, h.k9, fun x hx => nodesR_kids t x hx, h.l9, fun x hx => Nat.le_trans (sizeT_kid g t x hx) h.s9, Nat.le_of_lt (nodesR_len t), ih, fun x hx => plain_ok (((shapedP_iff t).1 hs).2.2.2 x hx) (((noRep_iff t).1 hn).2 x hx)⟩
theorem code_all (g : Int) (hg : 0 ≤ g ∧ g ≤ 2000) (t : Tr) : ShapedP t → NoRep t → CodeC g t := by
  refine Tr.ind (P := fun t => ShapedP t → NoRep t → CodeC g t) (fun t ih hs hn => ?_) t
  intro w0 q w k L pb po h
  obtain ⟨hf, hk, -, hks⟩ := (shapedP_iff t).1 hs
  obtain ⟨h10, hns⟩ := (noRep_iff t).1 hn
  have ih' : ∀ x ∈ t.kids, CodeC g x := fun x hx => ih x hx (hks x hx) (hns x hx)
  have f1 := hf.1
  have f2 := hf.2.1
  have hone : t.fld.op = 6 ∨ t.fld.op = 7 ∨ t.fld.op = 8 ∨ t.fld.op = 9 → ∃ x, t.kids = [x] ∧ CodeC g x ∧ CodOk (sizeT g x) 100000000000 (fun _ => True) (codeT g x) := fun ho => by
    obtain ⟨x, e⟩ := one_kid (hk.1 (by omega))
    have hx : x ∈ t.kids := by rw [e]; simp
    exact ⟨x, e, ih' x hx, plain_ok (hks x hx) (hns x hx)⟩
  rcases (by omega : t.fld.op = 1 ∨ t.fld.op = 2 ∨ t.fld.op = 3 ∨ t.fld.op = 4 ∨ t.fld.op = 5 ∨ t.fld.op = 6 ∨ (t.fld.op = 7 ∨ t.fld.op = 8) ∨ t.fld.op = 9 ∨ t.fld.op = 11 ∨ t.fld.op = 12) with e | e | e | e | e | e | e | e | e | e
  · exact ccode_none w0 q g w t k L pb po h e
  · exact ccode_empty w0 q g w t k L pb po h e
  · exact ccode_rune w0 q g w t k L pb po h e
  · exact ccode_set w0 q g w t k L pb po h e
  · exact ccode_at w0 q g w t k L pb po h e
  · obtain ⟨x, hx, hc, hok⟩ := hone (by omega)
    exact ccode_cap w0 q g w t k L pb po h e (cgroup_any w0 q g hg w t x k L pb po h e hx hs hc hok)
  · obtain ⟨x, hx, hc, hok⟩ := hone (by omega)
    exact ccode_loop w0 q g w t k L pb po h e (cloop_any w0 q g w t x k L pb po h e hx hc hok)
  · obtain ⟨x, hx, hc, hok⟩ := hone (by omega)
    exact cquest_any w0 q g w t x k L pb po h e hx hc hok
  · refine ccode_row w0 q g w t k L pb po h e fun A c hK => ?_
    rw [codeT_row e]
    exact crow_any w0 q g w A c t.kids k L (nodesR t) (rowArg_of h hs hn ih' hK)
  · refine ccode_choice w0 q g w t k L pb po h e fun A c hK => ?_
    rw [codeT_choice e]
    exact cchoice_any w0 q g w A c t.kids k L (nodesR t) (rowArg_of h hs hn ih' hK) (hk.2.1 e)
end Go.Proofs.Ythffdmncdoogpaa
