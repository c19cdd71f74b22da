/- What turning the document's input answers: the document's input of the runes from behind, written as UTF-8. -/
import Derived.Test.YtiknfakelognpaaDoorTurned
import Derived.Test.YtiknfakelognpaaDoorRefBytes
import Derived.Deep.DeepCutAuto
namespace Go.Proofs.YtiknfakelognpaaDoor
open Go Go.RowKit

theorem placesR_snoc : ∀ (X : List Int) (p : Nat) (r : Int), placesR p (X ++ [r]) = placesR p X ++ [((p + (encR X).length : Nat) : Int)]
  | [], p, r => by simp [placesR, encR]
  | x :: X, p, r => by
    have h := placesR_snoc X (p + (Lib.encodeRune x).length) r
    have e : encR (x :: X) = Lib.encodeRune x ++ encR X := rfl
    simp only [List.cons_append, placesR, h, e, List.length_append, Nat.add_assoc]
theorem encR_snoc (X : List Int) (r : Int) : encR (X ++ [r]) = encR X ++ Lib.encodeRune r := by rw [encR_append]; simp [encR]
theorem length_placesR : ∀ (X : List Int) (p : Nat), (placesR p X).length = X.length
  | [], _ => rfl
  | _ :: X, _ => by simp [placesR, length_placesR X]

/-- One element appended to a row of the call's own, in a region that draws its order. -/
theorem step_append_one {w : World} {ops : Array Oper} {o : Oper} {a : Act} {K : Act → World → Prop} {Q : Exit → Act → World → Prop} {E : Prop} (hgd : o.guard = none) (x y : Operand) (t : TypeId)
    (ho : o.op = .call { callee := .builtin .append, args := #[x, y], argTypes := #[t, t] })
    (base : Nat) (e : TypeId) (i : TypeInfo) (z : Value) (bytes : Nat) (ht : Tryd.prog.underlying t = some (.slice e)) (hi : Tryd.prog.info? e = some i) (hz : i.zero = some z) (hsize : i.size = 1) (hby : i.bytes = bytes) (hz1 : z.cells.size = 1)
    (v : Value) (n : Nat) (xs : List Value) (hs : a.eval x = v) (hown : w.ownsRow base e 1 v n xs)
    (g : Nat) (u : Value) (hx : a.eval y = .slice (some ⟨g, 0, none⟩) 1 1) (hg : w.cell? ⟨g, 0, none⟩ = some u) (hu : u.oneCell' = true) (h63 : n + 1 ≤ maxLen) (hb : (n + 1) * bytes ≤ 140737488355328) (hbase : base ≤ w.heap.size)
    (h : ∀ v' w', w'.ownsRow base e 1 v' (n + 1) (xs ++ [u]) → w.grownBy w' v.ownBlock → K (a.put o.dst v') w') :
    if Region.wanted o (yielded ops a.tmps) = true then Oper.wp Tryd.prog o a w K Q else E := by
  have hw : Region.wanted o (yielded ops a.tmps) = true := by simp [Region.wanted, hgd]
  rw [if_pos hw]
  refine wp_append_own w x y t ho base e i z 1 bytes ht hi hz hsize hby hz1 (by omega) v n xs hs hown ⟨g, 0, none⟩ 1 1 [u] hx rfl ?_ ?_ h63 hb hbase (fun v' w' g1 g2 _ => h v' w' g1 g2)
  · intro j u' hj
    match j, hj with
    | 0, hj =>
      simp at hj
      subst hj
      rw [show (⟨g, 0, none⟩ : Addr).add 0 = ⟨g, 0, none⟩ by simp [Addr.add]]
      exact hg
  · intro u' hu'
    rw [List.mem_singleton.1 hu']
    exact hu

/-- The turned input while it is made: its bytes, its runes X, where they begin. -/
def TG (B o : Nat) (k : Int) (X : List Int) (w : World) : Prop :=
  B ≤ o ∧ ∃ ab cb ar cr ao co, Whole w o 52 #[.int .i64 k, .slice ab (encR X).length cb, .slice ar X.length cr, .slice ao (X.length + 1) co] ∧
    w.ownsRow B 5 1 (.slice ab (encR X).length cb) (encR X).length (Lib.byteCells (encR X)) ∧ w.ownsRow B 21 1 (.slice ar X.length cr) X.length (X.map (.int .i32)) ∧
    w.ownsRow B 3 1 (.slice ao (X.length + 1) co) (X.length + 1) ((placesR 0 X ++ [((encR X).length : Int)]).map (.int .i64))
/-- The same with the bytes of one rune more. -/
def T5 (B o : Nat) (k : Int) (X : List Int) (r : Int) (w : World) : Prop :=
  ∃ ab cb ar cr ao co, Whole w o 52 #[.int .i64 k, .slice ab (encR (X ++ [r])).length cb, .slice ar X.length cr, .slice ao (X.length + 1) co] ∧
    w.ownsRow B 5 1 (.slice ab (encR (X ++ [r])).length cb) (encR (X ++ [r])).length (Lib.byteCells (encR (X ++ [r]))) ∧ w.ownsRow B 21 1 (.slice ar X.length cr) X.length (X.map (.int .i32)) ∧
    w.ownsRow B 3 1 (.slice ao (X.length + 1) co) (X.length + 1) ((placesR 0 X ++ [((encR X).length : Int)]).map (.int .i64))
theorem t5_of {w0 w : World} {B o c3 cr co : Nat} {k r : Int} {X : List Int} {a3 ar ao : Option Addr} {v0 : Value} (h3 : w.ownsRow B 5 1 (.slice a3 ((encR X).length + (Lib.runeCells r).length) c3) ((encR X).length + (Lib.runeCells r).length) (Lib.byteCells (encR X) ++ Lib.runeCells r))
    (e1 : Whole w o 52 #[.int .i64 k, v0, .slice ar X.length cr, .slice ao (X.length + 1) co]) (e2 : w.ownsRow B 21 1 (.slice ar X.length cr) X.length (X.map (.int .i32)))
    (e3 : w.ownsRow B 3 1 (.slice ao (X.length + 1) co) (X.length + 1) ((placesR 0 X ++ [((encR X).length : Int)]).map (.int .i64))) (e5 : Below B w0 w) (hBo : B ≤ o) :
    T5 B o k X r (w.setCell ⟨o, 1, none⟩ (.slice a3 ((encR X).length + (Lib.runeCells r).length) c3)) ∧ Below B w0 (w.setCell ⟨o, 1, none⟩ (.slice a3 ((encR X).length + (Lib.runeCells r).length) c3)) := by
  have hl : (encR X).length + (Lib.runeCells r).length = (encR (X ++ [r])).length := by rw [encR_snoc, List.length_append, Lib.runeCells_length]
  have hx : Lib.byteCells (encR X) ++ Lib.runeCells r = Lib.byteCells (encR (X ++ [r])) := by rw [← Lib.byteCells_encodeRune, ← Lib.byteCells_append, ← encR_snoc]
  rw [hl, hx] at h3
  rw [hl]
  have p4 := e1.store 1 (.slice a3 (encR (X ++ [r])).length c3)
  refine ⟨⟨a3, c3, ar, cr, ao, co, ?_, own_store h3 e1 (by decide) 1 _, own_store e2 e1 (by decide) 1 _, own_store e3 e1 (by decide) 1 _⟩, e5.setCell (p := ⟨o, 1, none⟩) hBo _⟩
  simpa using p4
theorem turnT_cells (R : List Int) : (nums (turnT R)).map (Value.int .u8) = Lib.byteCells (encR R.reverse) := by simp [nums, turnT, Lib.byteCells, Function.comp_def]
theorem cell_new (w : World) (u : Value) (t : TypeId) : (w.alloc (.cells #[u] t)).drew.cell? ⟨w.heap.size, 0, none⟩ = some u := by
  have h := one_new w u t 0 u rfl
  rw [show (⟨w.heap.size, 0, none⟩ : Addr).add 0 = ⟨w.heap.size, 0, none⟩ by simp [Addr.add]] at h
  exact h
/-- The same with the rune itself: the places are the runes' own now. -/
def T6 (B o : Nat) (k : Int) (Y : List Int) (w : World) : Prop :=
  ∃ ab cb ar cr ao co, Whole w o 52 #[.int .i64 k, .slice ab (encR Y).length cb, .slice ar Y.length cr, .slice ao Y.length co] ∧
    w.ownsRow B 5 1 (.slice ab (encR Y).length cb) (encR Y).length (Lib.byteCells (encR Y)) ∧ w.ownsRow B 21 1 (.slice ar Y.length cr) Y.length (Y.map (.int .i32)) ∧
    w.ownsRow B 3 1 (.slice ao Y.length co) Y.length ((placesR 0 Y).map (.int .i64))
theorem t6_of {w0 w : World} {B o cb co c6 : Nat} {k r : Int} {X : List Int} {ab ao a6 : Option Addr} {v0 : Value} (h6 : w.ownsRow B 21 1 (.slice a6 (X.length + 1) c6) (X.length + 1) (X.map (.int .i32) ++ [.int .i32 r]))
    (e1 : Whole w o 52 #[.int .i64 k, .slice ab (encR (X ++ [r])).length cb, v0, .slice ao (X.length + 1) co])
    (e2 : w.ownsRow B 5 1 (.slice ab (encR (X ++ [r])).length cb) (encR (X ++ [r])).length (Lib.byteCells (encR (X ++ [r]))))
    (e3 : w.ownsRow B 3 1 (.slice ao (X.length + 1) co) (X.length + 1) ((placesR 0 X ++ [((encR X).length : Int)]).map (.int .i64))) (e5 : Below B w0 w) (hBo : B ≤ o) :
    T6 B o k (X ++ [r]) (w.setCell ⟨o, 2, none⟩ (.slice a6 (X.length + 1) c6)) ∧ Below B w0 (w.setCell ⟨o, 2, none⟩ (.slice a6 (X.length + 1) c6)) := by
  have hl : X.length + 1 = (X ++ [r]).length := by simp
  have hp : placesR 0 X ++ [((encR X).length : Int)] = placesR 0 (X ++ [r]) := by rw [placesR_snoc, Nat.zero_add]
  have hm : X.map (Value.int .i32) ++ [.int .i32 r] = (X ++ [r]).map (.int .i32) := by simp
  rw [hp] at e3
  rw [hm] at h6
  rw [hl] at h6 e1 e3 ⊢
  have p4 := e1.store 2 (.slice a6 (X ++ [r]).length c6)
  refine ⟨⟨ab, cb, a6, c6, ao, co, ?_, own_store e2 e1 (by decide) 2 _, own_store h6 e1 (by decide) 2 _, own_store e3 e1 (by decide) 2 _⟩, e5.setCell (p := ⟨o, 2, none⟩) hBo _⟩
  simpa using p4
theorem tg_of {w0 w : World} {B o cb cr c7 : Nat} {k : Int} {Y : List Int} {ab ar a7 : Option Addr} {v0 : Value} (h7 : w.ownsRow B 3 1 (.slice a7 (Y.length + 1) c7) (Y.length + 1) ((placesR 0 Y).map (.int .i64) ++ [.int .i64 ((encR Y).length : Int)]))
    (e1 : Whole w o 52 #[.int .i64 k, .slice ab (encR Y).length cb, .slice ar Y.length cr, v0])
    (e2 : w.ownsRow B 5 1 (.slice ab (encR Y).length cb) (encR Y).length (Lib.byteCells (encR Y)))
    (e3 : w.ownsRow B 21 1 (.slice ar Y.length cr) Y.length (Y.map (.int .i32))) (e5 : Below B w0 w) (hBo : B ≤ o) :
    TG B o k Y (w.setCell ⟨o, 3, none⟩ (.slice a7 (Y.length + 1) c7)) ∧ Below B w0 (w.setCell ⟨o, 3, none⟩ (.slice a7 (Y.length + 1) c7)) := by
  have hm : (placesR 0 Y).map (Value.int .i64) ++ [.int .i64 ((encR Y).length : Int)] = (placesR 0 Y ++ [((encR Y).length : Int)]).map (.int .i64) := by simp
  rw [hm] at h7
  have p4 := e1.store 3 (.slice a7 (Y.length + 1) c7)
  refine ⟨⟨hBo, ab, cb, ar, cr, a7, c7, ?_, own_store e2 e1 (by decide) 3 _, own_store e3 e1 (by decide) 3 _, own_store h7 e1 (by decide) 3 _⟩, e5.setCell (p := ⟨o, 3, none⟩) hBo _⟩
  simpa using p4
def RTurnedPost (k : Int) (T : ByteArray) (w : World) (e : Ending) (w' : World) : Prop :=
  ∃ b, e = .returned (.pointer (some ⟨b, 0, none⟩)) ∧ RefIn w' w.heap.size k T b ∧ Below w.heap.size w w'
theorem tg_start (w : World) (k : Int) : TG w.heap.size (w.heap.size + 1) k [] ((w.alloc (.cells #[.int .i64 0] 3)).alloc (.cells #[.int .i64 k, .slice none 0 0, .slice none 0 0, .slice (some ⟨w.heap.size, 0, none⟩) 1 1] 52)) := by
  have e : w.heap.size + 1 = (w.alloc (.cells #[.int .i64 0] 3)).heap.size := by simp
  refine ⟨by omega, none, 0, none, 0, some ⟨w.heap.size, 0, none⟩, 1, ?_, World.ownsRow_nil _ _ _ _, World.ownsRow_nil _ _ _ _, ?_⟩
  · unfold Whole
    rw [e]
    exact heap_alloc_new _ _
  · have := World.ownsRow_lit (base := w.heap.size) (e := 3) (size := 1) w #[.int .i64 0] 1 (Nat.le_refl _) (by unfold maxLen; omega) rfl
    exact this.alloc _

set_option maxHeartbeats 2000000 in
set_option maxRecDepth 100000 in
theorem rturned_any {B : Nat} {k : Int} {s : ByteArray} {d : Nat} {w : World} (h : RefIn w B k s d) (hl : (runesOf s).length ≤ 65536) :
    Calls Tryd.prog 27 #[.pointer (some ⟨d, 0, none⟩)] w (RTurnedPost k (turnT (runesOf s)) w) := by
  obtain ⟨R, hR⟩ : ∃ R, R = runesOf s := ⟨_, rfl⟩
  have hval : ∀ r ∈ R, IsRune r := by rw [hR]; exact runesFrom_isRune s _ _
  obtain ⟨h0, -, g, cg, ra, rc, a', c', h1, -, h3, -⟩ := h
  have ld := h1.lt
  have e0 := h1.cell 0
  have e2' := h1.cell 2
  simp at e0 e2'
  rw [← hR] at hl e2' h3 ⊢
  have HV := Lib.hid hval; have H3 := Lib.hid h3
  clear hR hval h1 h3
  obtain ⟨i21, hi21, hz21, hs21, hb21⟩ := info_parts info_rune'
  obtain ⟨i3, hi3, hz3, hs3, hb3⟩ := info_parts info_int'
  have hTG := Lib.hid (tg_start w k)
  have hB2 : Below w.heap.size w ((w.alloc (.cells #[.int .i64 0] 3)).alloc (.cells #[.int .i64 k, .slice none 0 0, .slice none 0 0, .slice (some ⟨w.heap.size, 0, none⟩) 1 1] 52)) := ((Below.refl _ w).alloc (Nat.le_refl _) _).alloc (by simp) _
  have HB2 := Lib.hid hB2; clear hB2
  go_enter Tryd.func27, Tryd.ntmps27
  go_wp2_with fail
  generalize ((w.alloc (.cells #[.int .i64 0] 3)).alloc (.cells #[.int .i64 k, .slice none 0 0, .slice none 0 0, .slice (some ⟨w.heap.size, 0, none⟩) 1 1] 52)) = w2 at hTG HB2 ⊢
  go_loopw [4] (fun i wr => ∃ m : Nat, m ≤ R.length ∧ i = .int .i64 ((m : Int) - 1) ∧ Below w.heap.size w wr ∧ TG w.heap.size (w.heap.size + 1) k (R.drop m).reverse wr) (fun i _ => (intOf i + 1).toNat)
  case atStart =>
    refine ⟨R.length, Nat.le_refl _, rfl, HB2.out, ?_⟩
    have e : R.drop R.length = [] := List.drop_length
    rw [e]
    exact hTG.out
  case round =>
    obtain ⟨m, hm, rfl, hBw, htg⟩ := hrel
    have HBw := Lib.hid hBw; clear hBw
    by_cases hlt : 1 ≤ m
    · obtain ⟨q, rfl⟩ : ∃ q, m = q + 1 := ⟨m - 1, by omega⟩
      have eq1 : ((q + 1 : Nat) : Int) - 1 = (q : Int) := by omega
      rw [eq1]
      clear eq1
      have hq : q < R.length := by omega
      obtain ⟨gr, hra, _, hgr⟩ := H3.out q hq
      subst hra
      obtain ⟨r, hr⟩ : ∃ r, r = R[q] := ⟨_, rfl⟩
      rw [← hr] at hgr
      have hir : IsRune r := by rw [hr]; exact HV.out _ (List.getElem_mem hq)
      have hdr := drop_rev R q hq
      rw [← hr] at hdr
      have hXl : (R.drop (q + 1)).reverse.length ≤ 65536 := by simp; omega
      have hXe := encR_le (R.drop (q + 1)).reverse
      have HDR := Lib.hid hdr; have HIR := Lib.hid hir
      clear hr hir hdr
      generalize (R.drop (q + 1)).reverse = X at htg HDR hXl hXe
      obtain ⟨hBo, ab, cb, ar, cr, ao, co, hW, hb, hrr, hoo⟩ := htg
      have lgr : gr < w.heap.size := World.block_lt_of_cell? w _ hgr
      have d2 := (HBw.out.cell (p := ⟨d, 2, none⟩) ld).trans e2'
      have d3 := (HBw.out.cell (p := ⟨gr, q, none⟩) lgr).trans hgr
      have c1 := hW.cell 1
      simp only [List.getElem?_toArray, List.getElem?_cons_succ, List.getElem?_cons_zero] at c1
      have b1 : (0 : Int) ≤ q := by omega
      have b2 : (q : Int) < R.length := by omega
      have hB0 := HBw.out.drew
      have ca := Tryd.utf8_AppendRune_plain w.heap.size _ _ _ r (by have := HIR.out.1; omega) (by have := HIR.out; unfold IsRune at this; omega) wr.drew (World.ownsRow.drew hb) (by omega) HBw.out.size
      have HA := Lib.hid ca
      clear ca
      go_upto_region 5 with (fail)
      go_cut [] (fun wx => T5 w.heap.size (w.heap.size + 1) k X r wx ∧ Below w.heap.size w wx)
      case first =>
        refine wp_region_held_drew (S := fun w' => w'.cell? ⟨d, 2, none⟩ = some (.slice (some ⟨gr, 0, none⟩) R.length rc) ∧ w'.cell? ⟨gr, q, none⟩ = some (.int .i32 r)) (by kernel_rfl) ⟨d2, d3⟩ (fun hHeld => ?_)
        refine wpAnyH_take (i := 0) (oi := _) (v := ?_) rfl (by kernel_rfl) (by kernel_rfl) (by kernel_rfl) (fun _ _ _ h => h) (Or.inl ⟨by rfl, ?_⟩) (by assumption) ?_
        rotate_left 1
        · (intro w hSw; (try dsimp only at hSw); go_simp; (try with_reducible rfl))
        try simp only [List.getElem_toArray, List.getElem_cons_zero, List.getElem_cons_succ, Act.put, List.setIfInBounds_toArray, List.set_cons_zero, List.set_cons_succ]
        refine wpAnyH_take (i := 1) (oi := _) (v := ?_) rfl (by kernel_rfl) (by kernel_rfl) (by kernel_rfl) (fun _ _ _ h => h) (Or.inl ⟨by rfl, ?_⟩) (by assumption) ?_
        rotate_left 1
        · (intro w hSw; (try dsimp only at hSw); go_simp; (try with_reducible rfl))
        try simp only [List.getElem_toArray, List.getElem_cons_zero, List.getElem_cons_succ, Act.put, List.setIfInBounds_toArray, List.set_cons_zero, List.set_cons_succ]
        refine wpAnyH_take (i := 2) (oi := _) (v := ?_) rfl (by kernel_rfl) (by kernel_rfl) (by kernel_rfl) (fun _ _ _ h => h) (Or.inl ⟨by rfl, ?_⟩) (by assumption) ?_
        rotate_left 1
        · (intro w hSw; (try dsimp only at hSw); go_simp; (try with_reducible rfl))
        try simp only [List.getElem_toArray, List.getElem_cons_zero, List.getElem_cons_succ, Act.put, List.setIfInBounds_toArray, List.set_cons_zero, List.set_cons_succ]
        refine wpAnyH_take (i := 3) (oi := _) (v := ?_) rfl (by kernel_rfl) (by kernel_rfl) (by kernel_rfl) (fun _ _ _ h => h) (Or.inl ⟨by rfl, ?_⟩) (by assumption) ?_
        rotate_left 1
        · (intro w hSw; (try dsimp only at hSw); go_simp; (try with_reducible rfl))
        try simp only [List.getElem_toArray, List.getElem_cons_zero, List.getElem_cons_succ, Act.put, List.setIfInBounds_toArray, List.set_cons_zero, List.set_cons_succ]
        refine wpAnyH_take (i := 5) (oi := _) (v := ?_) rfl (by kernel_rfl) (by kernel_rfl) (by kernel_rfl) (fun _ _ _ h => h) (Or.inl ⟨by rfl, ?_⟩) (by assumption) ?_
        rotate_left 1
        · (intro w hSw; (try dsimp only at hSw); go_simp; (try with_reducible rfl))
        try simp only [List.getElem_toArray, List.getElem_cons_zero, List.getElem_cons_succ, Act.put, List.setIfInBounds_toArray, List.set_cons_zero, List.set_cons_succ]
        refine wpAnyH_take (i := 6) (oi := _) (v := ?_) rfl (by kernel_rfl) (by kernel_rfl) (by kernel_rfl) (fun _ _ _ h => h) (Or.inl ⟨by rfl, ?_⟩) (by assumption) ?_
        rotate_left 1
        · (intro w hSw; (try dsimp only at hSw); go_simp; (try with_reducible rfl))
        try simp only [List.getElem_toArray, List.getElem_cons_zero, List.getElem_cons_succ, Act.put, List.setIfInBounds_toArray, List.set_cons_zero, List.set_cons_succ]
        refine wpAnyH_take (i := 7) (oi := _) (v := ?_) rfl (by kernel_rfl) (by kernel_rfl) (by kernel_rfl) (fun _ _ _ h => h) (Or.inl ⟨by rfl, ?_⟩) (by assumption) ?_
        rotate_left 1
        · (intro w hSw; (try dsimp only at hSw); go_simp; (try with_reducible rfl))
        try simp only [List.getElem_toArray, List.getElem_cons_zero, List.getElem_cons_succ, Act.put, List.setIfInBounds_toArray, List.set_cons_zero, List.set_cons_succ]
        refine wpAnyH_take (i := 8) (oi := _) (v := ?_) rfl (by kernel_rfl) (by kernel_rfl) (by kernel_rfl) (fun _ _ _ h => h) (Or.inl ⟨by rfl, ?_⟩) (by assumption) ?_
        rotate_left 1
        · (intro w hSw; (try dsimp only at hSw); go_simp; (try with_reducible rfl))
        try simp only [List.getElem_toArray, List.getElem_cons_zero, List.getElem_cons_succ, Act.put, List.setIfInBounds_toArray, List.set_cons_zero, List.set_cons_succ]
        refine wpAnyH_take (i := 9) (oi := _) (v := ?_) rfl (by kernel_rfl) (by kernel_rfl) (by kernel_rfl) (fun _ _ _ h => h) (Or.inl ⟨by rfl, ?_⟩) (by assumption) ?_
        rotate_left 1
        · (intro w hSw; (try dsimp only at hSw); go_simp; (try with_reducible rfl))
        try simp only [List.getElem_toArray, List.getElem_cons_zero, List.getElem_cons_succ, Act.put, List.setIfInBounds_toArray, List.set_cons_zero, List.set_cons_succ]
        refine wpAnyH_take (i := 10) (oi := _) (v := ?_) rfl (by kernel_rfl) (by kernel_rfl) (by kernel_rfl) (fun _ _ _ h => h) (Or.inl ⟨by rfl, ?_⟩) (by assumption) ?_
        rotate_left 1
        · (intro w hSw; (try dsimp only at hSw); go_simp; (try with_reducible rfl))
        try simp only [List.getElem_toArray, List.getElem_cons_zero, List.getElem_cons_succ, Act.put, List.setIfInBounds_toArray, List.set_cons_zero, List.set_cons_succ]
        refine wpAnyH_take (i := 11) (oi := _) (v := ?_) rfl (by kernel_rfl) (by kernel_rfl) (by kernel_rfl) (fun _ _ _ h => h) (Or.inl ⟨by rfl, ?_⟩) (by assumption) ?_
        rotate_left 1
        · (intro w hSw; (try dsimp only at hSw); go_simp; (try with_reducible rfl))
        try simp only [List.getElem_toArray, List.getElem_cons_zero, List.getElem_cons_succ, Act.put, List.setIfInBounds_toArray, List.set_cons_zero, List.set_cons_succ]
        refine wpAnyH_ready (rs := [4]) (by kernel_rfl) (by simp) ?_
        refine AllReadyH.cons (o := _) rfl (fun K hK => ?_) ?_
        · go_simp
          refine hK.out _ _ ⟨d2, d3⟩ (fun hHeld => ?_)
          clear hK K
          try simp only [List.getElem_toArray, List.getElem_cons_zero, List.getElem_cons_succ, Act.put, List.setIfInBounds_toArray, List.set_cons_zero, List.set_cons_succ]
          refine wpAnyH_ready (rs := [12]) (by kernel_rfl) (by simp) ?_
          refine AllReadyH.cons (o := _) rfl (fun K hK => ?_) ?_
          · go_simp
            refine HA.out.mono ?_
            rintro e w3 ⟨v3, rfl, hown3, o3, hg3⟩
            obtain ⟨a3, c3, hv3⟩ := own_slice hown3
            subst hv3
            have e1 := (hW.drew.alloc o3).grown hg3 (own_whole_ne hb hW (by decide))
            have e2 := ((World.ownsRow.drew hrr).alloc o3).kept hg3 (own_own_ne hrr hb (by decide))
            have e3 := ((World.ownsRow.drew hoo).alloc o3).kept hg3 (own_own_ne hoo hb (by decide))
            have e5 := (hB0.alloc HBw.out.size o3).grown hg3 (by have := HBw.out.size; simp; omega) (fun k hk => (hb.lt k hk).1)
            have q1 := e1.cell 1
            simp only [List.getElem?_toArray, List.getElem?_cons_succ, List.getElem?_cons_zero] at q1
            have f1 := e1.free 1
            have q2 := (e5.cell (p := ⟨d, 2, none⟩) ld).trans e2'
            have q3 := (e5.cell (p := ⟨gr, q, none⟩) lgr).trans hgr
            go_wp2_with fail
            refine hK.out _ _ ⟨q2, q3⟩ (fun hHeld => ?_)
            clear hK K
            try simp only [List.getElem_toArray, List.getElem_cons_zero, List.getElem_cons_succ, Act.put, List.setIfInBounds_toArray, List.set_cons_zero, List.set_cons_succ]
            refine wpAnyH_ready (rs := [13]) (by kernel_rfl) (by simp) ?_
            refine AllReadyH.cons (o := _) rfl (fun K hK => ?_) ?_
            · go_simp
              refine hK.out _ _ ⟨q2, q3⟩ (fun hHeld => ?_)
              clear hK K
              try simp only [List.getElem_toArray, List.getElem_cons_zero, List.getElem_cons_succ, Act.put, List.setIfInBounds_toArray, List.set_cons_zero, List.set_cons_succ]
              refine wpAnyH_ready (rs := [14]) (by kernel_rfl) (by simp) ?_
              refine AllReadyH.cons (o := _) rfl (fun K hK => ?_) ?_
              · go_simp
                refine hK.out _ _ ⟨q2, q3⟩ (fun hHeld => ?_)
                clear hK K
                try simp only [List.getElem_toArray, List.getElem_cons_zero, List.getElem_cons_succ, Act.put, List.setIfInBounds_toArray, List.set_cons_zero, List.set_cons_succ]
                refine wpAnyH_ready (rs := [15]) (by kernel_rfl) (by simp) ?_
                refine AllReadyH.cons (o := _) rfl (fun K hK => ?_) ?_
                · go_simp
                  refine hK.out _ _ ⟨(World.cell?_setCell_other _ _ _ _ (by intro e; injection e with e _; omega)).trans q2, (World.cell?_setCell_other _ _ _ _ (by intro e; injection e with e _; omega)).trans q3⟩ (fun hHeld => ?_)
                  clear hK K
                  try simp only [List.getElem_toArray, List.getElem_cons_zero, List.getElem_cons_succ, Act.put, List.setIfInBounds_toArray, List.set_cons_zero, List.set_cons_succ]
                  refine wpAnyH_done (by kernel_rfl) ?_ _
                  go_wp2_with fail
                  go_meet
                  exact t5_of hown3 e1 e2 e3 e5 hBo
                exact AllReadyH.nil
              exact AllReadyH.nil
            exact AllReadyH.nil
          exact AllReadyH.nil
        exact AllReadyH.nil
      case rest =>
        clear hW hb hrr hoo d2 d3 c1 hB0 HA
        obtain ⟨⟨ab, cb, ar, cr, ao, co, hW, hb, hrr, hoo⟩, hBc⟩ := hcut
        have d2 := (hBc.cell (p := ⟨d, 2, none⟩) ld).trans e2'
        have d3 := (hBc.cell (p := ⟨gr, q, none⟩) lgr).trans hgr
        have c2 := hW.cell 2
        simp only [List.getElem?_toArray, List.getElem?_cons_succ, List.getElem?_cons_zero] at c2
        have hB0 := hBc.drew
        go_upto_region 6 with (fail)
        go_cut [] (fun wx => T6 w.heap.size (w.heap.size + 1) k (X ++ [r]) wx ∧ Below w.heap.size w wx)
        case first =>
          refine wp_region_held_drew (S := fun w' => w'.cell? ⟨d, 2, none⟩ = some (.slice (some ⟨gr, 0, none⟩) R.length rc) ∧ w'.cell? ⟨gr, q, none⟩ = some (.int .i32 r)) (by kernel_rfl) ⟨d2, d3⟩ (fun hHeld => ?_)
          refine wpAnyH_take (i := 0) (oi := _) (v := ?_) rfl (by kernel_rfl) (by kernel_rfl) (by kernel_rfl) (fun _ _ _ h => h) (Or.inl ⟨by rfl, ?_⟩) (by assumption) ?_
          rotate_left 1
          · (intro w hSw; (try dsimp only at hSw); go_simp; (try with_reducible rfl))
          try simp only [List.getElem_toArray, List.getElem_cons_zero, List.getElem_cons_succ, Act.put, List.setIfInBounds_toArray, List.set_cons_zero, List.set_cons_succ]
          refine wpAnyH_take (i := 1) (oi := _) (v := ?_) rfl (by kernel_rfl) (by kernel_rfl) (by kernel_rfl) (fun _ _ _ h => h) (Or.inl ⟨by rfl, ?_⟩) (by assumption) ?_
          rotate_left 1
          · (intro w hSw; (try dsimp only at hSw); go_simp; (try with_reducible rfl))
          try simp only [List.getElem_toArray, List.getElem_cons_zero, List.getElem_cons_succ, Act.put, List.setIfInBounds_toArray, List.set_cons_zero, List.set_cons_succ]
          refine wpAnyH_take (i := 2) (oi := _) (v := ?_) rfl (by kernel_rfl) (by kernel_rfl) (by kernel_rfl) (fun _ _ _ h => h) (Or.inl ⟨by rfl, ?_⟩) (by assumption) ?_
          rotate_left 1
          · (intro w hSw; (try dsimp only at hSw); go_simp; (try with_reducible rfl))
          try simp only [List.getElem_toArray, List.getElem_cons_zero, List.getElem_cons_succ, Act.put, List.setIfInBounds_toArray, List.set_cons_zero, List.set_cons_succ]
          refine wpAnyH_take (i := 3) (oi := _) (v := ?_) rfl (by kernel_rfl) (by kernel_rfl) (by kernel_rfl) (fun _ _ _ h => h) (Or.inl ⟨by rfl, ?_⟩) (by assumption) ?_
          rotate_left 1
          · (intro w hSw; (try dsimp only at hSw); go_simp; (try with_reducible rfl))
          try simp only [List.getElem_toArray, List.getElem_cons_zero, List.getElem_cons_succ, Act.put, List.setIfInBounds_toArray, List.set_cons_zero, List.set_cons_succ]
          refine wpAnyH_take (i := 5) (oi := _) (v := ?_) rfl (by kernel_rfl) (by kernel_rfl) (by kernel_rfl) (fun _ _ _ h => h) (Or.inl ⟨by rfl, ?_⟩) (by assumption) ?_
          rotate_left 1
          · (intro w hSw; (try dsimp only at hSw); go_simp; (try with_reducible rfl))
          try simp only [List.getElem_toArray, List.getElem_cons_zero, List.getElem_cons_succ, Act.put, List.setIfInBounds_toArray, List.set_cons_zero, List.set_cons_succ]
          refine wpAnyH_take (i := 6) (oi := _) (v := ?_) rfl (by kernel_rfl) (by kernel_rfl) (by kernel_rfl) (fun _ _ _ h => h) (Or.inl ⟨by rfl, ?_⟩) (by assumption) ?_
          rotate_left 1
          · (intro w hSw; (try dsimp only at hSw); go_simp; (try with_reducible rfl))
          try simp only [List.getElem_toArray, List.getElem_cons_zero, List.getElem_cons_succ, Act.put, List.setIfInBounds_toArray, List.set_cons_zero, List.set_cons_succ]
          refine wpAnyH_take (i := 7) (oi := _) (v := ?_) rfl (by kernel_rfl) (by kernel_rfl) (by kernel_rfl) (fun _ _ _ h => h) (Or.inl ⟨by rfl, ?_⟩) (by assumption) ?_
          rotate_left 1
          · (intro w hSw; (try dsimp only at hSw); go_simp; (try with_reducible rfl))
          try simp only [List.getElem_toArray, List.getElem_cons_zero, List.getElem_cons_succ, Act.put, List.setIfInBounds_toArray, List.set_cons_zero, List.set_cons_succ]
          refine wpAnyH_take (i := 8) (oi := _) (v := ?_) rfl (by kernel_rfl) (by kernel_rfl) (by kernel_rfl) (fun _ _ _ h => h) (Or.inl ⟨by rfl, ?_⟩) (by assumption) ?_
          rotate_left 1
          · (intro w hSw; (try dsimp only at hSw); go_simp; (try with_reducible rfl))
          try simp only [List.getElem_toArray, List.getElem_cons_zero, List.getElem_cons_succ, Act.put, List.setIfInBounds_toArray, List.set_cons_zero, List.set_cons_succ]
          refine wpAnyH_take (i := 9) (oi := _) (v := ?_) rfl (by kernel_rfl) (by kernel_rfl) (by kernel_rfl) (fun _ _ _ h => h) (Or.inl ⟨by rfl, ?_⟩) (by assumption) ?_
          rotate_left 1
          · (intro w hSw; (try dsimp only at hSw); go_simp; (try with_reducible rfl))
          try simp only [List.getElem_toArray, List.getElem_cons_zero, List.getElem_cons_succ, Act.put, List.setIfInBounds_toArray, List.set_cons_zero, List.set_cons_succ]
          refine wpAnyH_take (i := 10) (oi := _) (v := ?_) rfl (by kernel_rfl) (by kernel_rfl) (by kernel_rfl) (fun _ _ _ h => h) (Or.inl ⟨by rfl, ?_⟩) (by assumption) ?_
          rotate_left 1
          · (intro w hSw; (try dsimp only at hSw); go_simp; (try with_reducible rfl))
          try simp only [List.getElem_toArray, List.getElem_cons_zero, List.getElem_cons_succ, Act.put, List.setIfInBounds_toArray, List.set_cons_zero, List.set_cons_succ]
          refine wpAnyH_take (i := 11) (oi := _) (v := ?_) rfl (by kernel_rfl) (by kernel_rfl) (by kernel_rfl) (fun _ _ _ h => h) (Or.inl ⟨by rfl, ?_⟩) (by assumption) ?_
          rotate_left 1
          · (intro w hSw; (try dsimp only at hSw); go_simp; (try with_reducible rfl))
          try simp only [List.getElem_toArray, List.getElem_cons_zero, List.getElem_cons_succ, Act.put, List.setIfInBounds_toArray, List.set_cons_zero, List.set_cons_succ]
          refine wpAnyH_ready (rs := [4, 12]) (by kernel_rfl) (by simp) ?_
          refine AllReadyH.cons (o := _) rfl (fun K hK => ?_) ?_
          · go_simp
            refine hK.out _ _ ⟨d2, d3⟩ (fun hHeld => ?_)
            clear hK K
            try simp only [List.getElem_toArray, List.getElem_cons_zero, List.getElem_cons_succ, Act.put, List.setIfInBounds_toArray, List.set_cons_zero, List.set_cons_succ]
            refine wpAnyH_ready (rs := [12]) (by kernel_rfl) (by simp) ?_
            refine AllReadyH.cons (o := _) rfl (fun K hK => ?_) ?_
            · go_simp
              have e4 := hB0.alloc hBc.size (.cells #[.int .i32 r] 21)
              have hW4 := hW.drew.alloc (.cells #[.int .i32 r] 21)
              have c4 := (hW.alloc (.cells #[.int .i32 r] 21)).cell 2
              simp only [List.getElem?_toArray, List.getElem?_cons_succ, List.getElem?_cons_zero] at c4
              have q2 := (e4.cell (p := ⟨d, 2, none⟩) ld).trans e2'
              have q3 := (e4.cell (p := ⟨gr, q, none⟩) lgr).trans hgr
              refine hK.out _ _ ⟨q2, q3⟩ (fun hHeld => ?_)
              clear hK K
              try simp only [List.getElem_toArray, List.getElem_cons_zero, List.getElem_cons_succ, Act.put, List.setIfInBounds_toArray, List.set_cons_zero, List.set_cons_succ]
              refine wpAnyH_ready (rs := [13]) (by kernel_rfl) (by simp) ?_
              refine AllReadyH.cons (o := _) rfl (fun K hK => ?_) ?_
              · refine step_append_one rfl (.tmp 41) (.tmp 49) 31 rfl w.heap.size 21 i21 (.int .i32 0) 4 Tryd.underlying31 hi21 hz21 hs21 hb21 rfl (.slice ar X.length cr) X.length (X.map (.int .i32)) (by rfl) ((World.ownsRow.drew hrr).alloc _) wc.heap.size (.int .i32 r) (by rfl) (cell_new _ _ _) rfl (by unfold maxLen; omega) (by omega) (by have := hBc.size; simp; omega) ?_
                intro v6 w6 hown6 hg6
                obtain ⟨a6, c6, hv6⟩ := own_slice hown6
                subst hv6
                have e1 := hW4.grown hg6 (own_whole_ne ((World.ownsRow.drew hrr).alloc _) hW4 (by decide))
                have e2 := ((World.ownsRow.drew hb).alloc (.cells #[.int .i32 r] 21)).kept hg6 (own_own_ne hb hrr (by decide))
                have e3 := ((World.ownsRow.drew hoo).alloc (.cells #[.int .i32 r] 21)).kept hg6 (own_own_ne hoo hrr (by decide))
                have e5 := e4.grown hg6 (by have := hBc.size; simp; omega) (fun k hk => (hrr.lt k hk).1)
                have f6 := e1.free 2
                have c6' := e1.cell 2
                simp only [List.getElem?_toArray, List.getElem?_cons_succ, List.getElem?_cons_zero] at c6'
                have y2 := (e5.cell (p := ⟨d, 2, none⟩) ld).trans e2'
                have y3 := (e5.cell (p := ⟨gr, q, none⟩) lgr).trans hgr
                refine hK.out _ _ ⟨y2, y3⟩ (fun hHeld => ?_)
                clear hK K
                try simp only [List.getElem_toArray, List.getElem_cons_zero, List.getElem_cons_succ, Act.put, List.setIfInBounds_toArray, List.set_cons_zero, List.set_cons_succ]
                refine wpAnyH_ready (rs := [14]) (by kernel_rfl) (by simp) ?_
                refine AllReadyH.cons (o := _) rfl (fun K hK => ?_) ?_
                · go_simp
                  refine hK.out _ _ ⟨y2, y3⟩ (fun hHeld => ?_)
                  clear hK K
                  try simp only [List.getElem_toArray, List.getElem_cons_zero, List.getElem_cons_succ, Act.put, List.setIfInBounds_toArray, List.set_cons_zero, List.set_cons_succ]
                  refine wpAnyH_ready (rs := [15]) (by kernel_rfl) (by simp) ?_
                  refine AllReadyH.cons (o := _) rfl (fun K hK => ?_) ?_
                  · go_simp
                    refine hK.out _ _ ⟨y2, y3⟩ (fun hHeld => ?_)
                    clear hK K
                    try simp only [List.getElem_toArray, List.getElem_cons_zero, List.getElem_cons_succ, Act.put, List.setIfInBounds_toArray, List.set_cons_zero, List.set_cons_succ]
                    refine wpAnyH_ready (rs := [16]) (by kernel_rfl) (by simp) ?_
                    refine AllReadyH.cons (o := _) rfl (fun K hK => ?_) ?_
                    · go_simp
                      refine hK.out _ _ ⟨(World.cell?_setCell_other _ _ _ _ (by intro e; injection e with e _; omega)).trans y2, (World.cell?_setCell_other _ _ _ _ (by intro e; injection e with e _; omega)).trans y3⟩ (fun hHeld => ?_)
                      clear hK K
                      try simp only [List.getElem_toArray, List.getElem_cons_zero, List.getElem_cons_succ, Act.put, List.setIfInBounds_toArray, List.set_cons_zero, List.set_cons_succ]
                      refine wpAnyH_done (by kernel_rfl) ?_ _
                      go_wp2_with fail
                      go_meet
                      exact t6_of hown6 e1 e2 e3 e5 hBo
                    exact AllReadyH.nil
                  exact AllReadyH.nil
                exact AllReadyH.nil
              exact AllReadyH.nil
            exact AllReadyH.nil
          refine AllReadyH.cons (o := _) rfl (fun K hK => ?_) ?_
          · go_simp
            have e4 := hB0.alloc hBc.size (.cells #[.int .i32 r] 21)
            have hW4 := hW.drew.alloc (.cells #[.int .i32 r] 21)
            have c4 := (hW.alloc (.cells #[.int .i32 r] 21)).cell 2
            simp only [List.getElem?_toArray, List.getElem?_cons_succ, List.getElem?_cons_zero] at c4
            have q2 := (e4.cell (p := ⟨d, 2, none⟩) ld).trans e2'
            have q3 := (e4.cell (p := ⟨gr, q, none⟩) lgr).trans hgr
            refine hK.out _ _ ⟨q2, q3⟩ (fun hHeld => ?_)
            clear hK K
            try simp only [List.getElem_toArray, List.getElem_cons_zero, List.getElem_cons_succ, Act.put, List.setIfInBounds_toArray, List.set_cons_zero, List.set_cons_succ]
            refine wpAnyH_ready (rs := [4]) (by kernel_rfl) (by simp) ?_
            refine AllReadyH.cons (o := _) rfl (fun K hK => ?_) ?_
            · go_simp
              refine hK.out _ _ ⟨q2, q3⟩ (fun hHeld => ?_)
              clear hK K
              try simp only [List.getElem_toArray, List.getElem_cons_zero, List.getElem_cons_succ, Act.put, List.setIfInBounds_toArray, List.set_cons_zero, List.set_cons_succ]
              refine wpAnyH_ready (rs := [13]) (by kernel_rfl) (by simp) ?_
              refine AllReadyH.cons (o := _) rfl (fun K hK => ?_) ?_
              · refine step_append_one rfl (.tmp 41) (.tmp 49) 31 rfl w.heap.size 21 i21 (.int .i32 0) 4 Tryd.underlying31 hi21 hz21 hs21 hb21 rfl (.slice ar X.length cr) X.length (X.map (.int .i32)) (by rfl) ((World.ownsRow.drew hrr).alloc _) wc.heap.size (.int .i32 r) (by rfl) (cell_new _ _ _) rfl (by unfold maxLen; omega) (by omega) (by have := hBc.size; simp; omega) ?_
                intro v6 w6 hown6 hg6
                obtain ⟨a6, c6, hv6⟩ := own_slice hown6
                subst hv6
                have e1 := hW4.grown hg6 (own_whole_ne ((World.ownsRow.drew hrr).alloc _) hW4 (by decide))
                have e2 := ((World.ownsRow.drew hb).alloc (.cells #[.int .i32 r] 21)).kept hg6 (own_own_ne hb hrr (by decide))
                have e3 := ((World.ownsRow.drew hoo).alloc (.cells #[.int .i32 r] 21)).kept hg6 (own_own_ne hoo hrr (by decide))
                have e5 := e4.grown hg6 (by have := hBc.size; simp; omega) (fun k hk => (hrr.lt k hk).1)
                have f6 := e1.free 2
                have c6' := e1.cell 2
                simp only [List.getElem?_toArray, List.getElem?_cons_succ, List.getElem?_cons_zero] at c6'
                have y2 := (e5.cell (p := ⟨d, 2, none⟩) ld).trans e2'
                have y3 := (e5.cell (p := ⟨gr, q, none⟩) lgr).trans hgr
                refine hK.out _ _ ⟨y2, y3⟩ (fun hHeld => ?_)
                clear hK K
                try simp only [List.getElem_toArray, List.getElem_cons_zero, List.getElem_cons_succ, Act.put, List.setIfInBounds_toArray, List.set_cons_zero, List.set_cons_succ]
                refine wpAnyH_ready (rs := [14]) (by kernel_rfl) (by simp) ?_
                refine AllReadyH.cons (o := _) rfl (fun K hK => ?_) ?_
                · go_simp
                  refine hK.out _ _ ⟨y2, y3⟩ (fun hHeld => ?_)
                  clear hK K
                  try simp only [List.getElem_toArray, List.getElem_cons_zero, List.getElem_cons_succ, Act.put, List.setIfInBounds_toArray, List.set_cons_zero, List.set_cons_succ]
                  refine wpAnyH_ready (rs := [15]) (by kernel_rfl) (by simp) ?_
                  refine AllReadyH.cons (o := _) rfl (fun K hK => ?_) ?_
                  · go_simp
                    refine hK.out _ _ ⟨y2, y3⟩ (fun hHeld => ?_)
                    clear hK K
                    try simp only [List.getElem_toArray, List.getElem_cons_zero, List.getElem_cons_succ, Act.put, List.setIfInBounds_toArray, List.set_cons_zero, List.set_cons_succ]
                    refine wpAnyH_ready (rs := [16]) (by kernel_rfl) (by simp) ?_
                    refine AllReadyH.cons (o := _) rfl (fun K hK => ?_) ?_
                    · go_simp
                      refine hK.out _ _ ⟨(World.cell?_setCell_other _ _ _ _ (by intro e; injection e with e _; omega)).trans y2, (World.cell?_setCell_other _ _ _ _ (by intro e; injection e with e _; omega)).trans y3⟩ (fun hHeld => ?_)
                      clear hK K
                      try simp only [List.getElem_toArray, List.getElem_cons_zero, List.getElem_cons_succ, Act.put, List.setIfInBounds_toArray, List.set_cons_zero, List.set_cons_succ]
                      refine wpAnyH_done (by kernel_rfl) ?_ _
                      go_wp2_with fail
                      go_meet
                      exact t6_of hown6 e1 e2 e3 e5 hBo
                    exact AllReadyH.nil
                  exact AllReadyH.nil
                exact AllReadyH.nil
              exact AllReadyH.nil
            exact AllReadyH.nil
          exact AllReadyH.nil
        case rest =>
          clear hW hb hrr hoo d2 d3 c2 hB0
          obtain ⟨⟨ab, cb, ar, cr, ao, co, hW, hb, hrr, hoo⟩, hBd⟩ := hcut
          have hYl : (X ++ [r]).length ≤ 65537 := by simp; omega
          have hYe := encR_le (X ++ [r])
          generalize X ++ [r] = Y at hW hb hrr hoo HDR hYl hYe
          have c1 := hW.cell 1
          have c3 := hW.cell 3
          simp only [List.getElem?_toArray, List.getElem?_cons_succ, List.getElem?_cons_zero] at c1 c3
          have hB0 := hBd.drew
          go_upto_region 7 with (fail)
          refine wp_region_held_drew (S := fun w' => w'.cell? ⟨w.heap.size + 1, 1, none⟩ = some (.slice ab (encR Y).length cb)) (by kernel_rfl) c1 (fun hHeld => ?_)
          refine wpAnyH_take (i := 0) (oi := _) (v := ?_) rfl (by kernel_rfl) (by kernel_rfl) (by kernel_rfl) (fun _ _ _ h => h) (Or.inl ⟨by rfl, ?_⟩) (by assumption) ?_
          rotate_left 1
          · (intro w hSw; (try dsimp only at hSw); go_simp; (try with_reducible rfl))
          try simp only [List.getElem_toArray, List.getElem_cons_zero, List.getElem_cons_succ, Act.put, List.setIfInBounds_toArray, List.set_cons_zero, List.set_cons_succ]
          refine wpAnyH_take (i := 1) (oi := _) (v := ?_) rfl (by kernel_rfl) (by kernel_rfl) (by kernel_rfl) (fun _ _ _ h => h) (Or.inl ⟨by rfl, ?_⟩) (by assumption) ?_
          rotate_left 1
          · (intro w hSw; (try dsimp only at hSw); go_simp; (try with_reducible rfl))
          try simp only [List.getElem_toArray, List.getElem_cons_zero, List.getElem_cons_succ, Act.put, List.setIfInBounds_toArray, List.set_cons_zero, List.set_cons_succ]
          refine wpAnyH_take (i := 2) (oi := _) (v := ?_) rfl (by kernel_rfl) (by kernel_rfl) (by kernel_rfl) (fun _ _ _ h => h) (Or.inl ⟨by rfl, ?_⟩) (by assumption) ?_
          rotate_left 1
          · (intro w hSw; (try dsimp only at hSw); go_simp; (try with_reducible rfl))
          try simp only [List.getElem_toArray, List.getElem_cons_zero, List.getElem_cons_succ, Act.put, List.setIfInBounds_toArray, List.set_cons_zero, List.set_cons_succ]
          refine wpAnyH_take (i := 3) (oi := _) (v := ?_) rfl (by kernel_rfl) (by kernel_rfl) (by kernel_rfl) (fun _ _ _ h => h) (Or.inl ⟨by rfl, ?_⟩) (by assumption) ?_
          rotate_left 1
          · (intro w hSw; (try dsimp only at hSw); go_simp; (try with_reducible rfl))
          try simp only [List.getElem_toArray, List.getElem_cons_zero, List.getElem_cons_succ, Act.put, List.setIfInBounds_toArray, List.set_cons_zero, List.set_cons_succ]
          refine wpAnyH_take (i := 5) (oi := _) (v := ?_) rfl (by kernel_rfl) (by kernel_rfl) (by kernel_rfl) (fun _ _ _ h => h) (Or.inl ⟨by rfl, ?_⟩) (by assumption) ?_
          rotate_left 1
          · (intro w hSw; (try dsimp only at hSw); go_simp; (try with_reducible rfl))
          try simp only [List.getElem_toArray, List.getElem_cons_zero, List.getElem_cons_succ, Act.put, List.setIfInBounds_toArray, List.set_cons_zero, List.set_cons_succ]
          refine wpAnyH_take (i := 6) (oi := _) (v := ?_) rfl (by kernel_rfl) (by kernel_rfl) (by kernel_rfl) (fun _ _ _ h => h) (Or.inl ⟨by rfl, ?_⟩) (by assumption) ?_
          rotate_left 1
          · (intro w hSw; (try dsimp only at hSw); go_simp; (try with_reducible rfl))
          try simp only [List.getElem_toArray, List.getElem_cons_zero, List.getElem_cons_succ, Act.put, List.setIfInBounds_toArray, List.set_cons_zero, List.set_cons_succ]
          refine wpAnyH_take (i := 7) (oi := _) (v := ?_) rfl (by kernel_rfl) (by kernel_rfl) (by kernel_rfl) (fun _ _ _ h => h) (Or.inl ⟨by rfl, ?_⟩) (by assumption) ?_
          rotate_left 1
          · (intro w hSw; (try dsimp only at hSw); go_simp; (try with_reducible rfl))
          try simp only [List.getElem_toArray, List.getElem_cons_zero, List.getElem_cons_succ, Act.put, List.setIfInBounds_toArray, List.set_cons_zero, List.set_cons_succ]
          refine wpAnyH_take (i := 8) (oi := _) (v := ?_) rfl (by kernel_rfl) (by kernel_rfl) (by kernel_rfl) (fun _ _ _ h => h) (Or.inl ⟨by rfl, ?_⟩) (by assumption) ?_
          rotate_left 1
          · (intro w hSw; (try dsimp only at hSw); go_simp; (try with_reducible rfl))
          try simp only [List.getElem_toArray, List.getElem_cons_zero, List.getElem_cons_succ, Act.put, List.setIfInBounds_toArray, List.set_cons_zero, List.set_cons_succ]
          refine wpAnyH_take (i := 9) (oi := _) (v := ?_) rfl (by kernel_rfl) (by kernel_rfl) (by kernel_rfl) (fun _ _ _ h => h) (Or.inl ⟨by rfl, ?_⟩) (by assumption) ?_
          rotate_left 1
          · (intro w hSw; (try dsimp only at hSw); go_simp; (try with_reducible rfl))
          try simp only [List.getElem_toArray, List.getElem_cons_zero, List.getElem_cons_succ, Act.put, List.setIfInBounds_toArray, List.set_cons_zero, List.set_cons_succ]
          refine wpAnyH_ready (rs := [4, 10]) (by kernel_rfl) (by simp) ?_
          refine AllReadyH.cons (o := _) rfl (fun K hK => ?_) ?_
          · go_simp
            refine hK.out _ _ c1 (fun hHeld => ?_)
            clear hK K
            try simp only [List.getElem_toArray, List.getElem_cons_zero, List.getElem_cons_succ, Act.put, List.setIfInBounds_toArray, List.set_cons_zero, List.set_cons_succ]
            refine wpAnyH_ready (rs := [10]) (by kernel_rfl) (by simp) ?_
            refine AllReadyH.cons (o := _) rfl (fun K hK => ?_) ?_
            · go_simp
              have e4 := hB0.alloc hBd.size (.cells #[.int .i64 ((encR Y).length : Int)] 3)
              have hW4 := hW.drew.alloc (.cells #[.int .i64 ((encR Y).length : Int)] 3)
              have c4 := (hW.alloc (.cells #[.int .i64 ((encR Y).length : Int)] 3)).cell 3
              have c5 := hW4.cell 1
              simp only [List.getElem?_toArray, List.getElem?_cons_succ, List.getElem?_cons_zero] at c4 c5
              refine hK.out _ _ c5 (fun hHeld => ?_)
              clear hK K
              try simp only [List.getElem_toArray, List.getElem_cons_zero, List.getElem_cons_succ, Act.put, List.setIfInBounds_toArray, List.set_cons_zero, List.set_cons_succ]
              refine wpAnyH_ready (rs := [11]) (by kernel_rfl) (by simp) ?_
              refine AllReadyH.cons (o := _) rfl (fun K hK => ?_) ?_
              · refine step_append_one rfl (.tmp 57) (.tmp 63) 32 rfl w.heap.size 3 i3 (.int .i64 0) 8 Tryd.underlying32 hi3 hz3 hs3 hb3 rfl (.slice ao Y.length co) Y.length ((placesR 0 Y).map (.int .i64)) (by rfl) ((World.ownsRow.drew hoo).alloc _) wc.heap.size (.int .i64 ((encR Y).length : Int)) (by rfl) (cell_new _ _ _) rfl (by unfold maxLen; omega) (by omega) (by have := hBd.size; simp; omega) ?_
                intro v7 w7 hown7 hg7
                obtain ⟨a7, c7, hv7⟩ := own_slice hown7
                subst hv7
                have e1 := hW4.grown hg7 (own_whole_ne ((World.ownsRow.drew hoo).alloc _) hW4 (by decide))
                have e2 := ((World.ownsRow.drew hb).alloc (.cells #[.int .i64 ((encR Y).length : Int)] 3)).kept hg7 (own_own_ne hb hoo (by decide))
                have e3 := ((World.ownsRow.drew hrr).alloc (.cells #[.int .i64 ((encR Y).length : Int)] 3)).kept hg7 (own_own_ne hrr hoo (by decide))
                have e5 := e4.grown hg7 (by have := hBd.size; simp; omega) (fun k hk => (hoo.lt k hk).1)
                have f7 := e1.free 3
                have c7' := e1.cell 3
                have y1 := e1.cell 1
                simp only [List.getElem?_toArray, List.getElem?_cons_succ, List.getElem?_cons_zero] at c7' y1
                refine hK.out _ _ y1 (fun hHeld => ?_)
                clear hK K
                try simp only [List.getElem_toArray, List.getElem_cons_zero, List.getElem_cons_succ, Act.put, List.setIfInBounds_toArray, List.set_cons_zero, List.set_cons_succ]
                refine wpAnyH_ready (rs := [12]) (by kernel_rfl) (by simp) ?_
                refine AllReadyH.cons (o := _) rfl (fun K hK => ?_) ?_
                · go_simp
                  refine hK.out _ _ y1 (fun hHeld => ?_)
                  clear hK K
                  try simp only [List.getElem_toArray, List.getElem_cons_zero, List.getElem_cons_succ, Act.put, List.setIfInBounds_toArray, List.set_cons_zero, List.set_cons_succ]
                  refine wpAnyH_ready (rs := [13]) (by kernel_rfl) (by simp) ?_
                  refine AllReadyH.cons (o := _) rfl (fun K hK => ?_) ?_
                  · go_simp
                    refine hK.out _ _ y1 (fun hHeld => ?_)
                    clear hK K
                    try simp only [List.getElem_toArray, List.getElem_cons_zero, List.getElem_cons_succ, Act.put, List.setIfInBounds_toArray, List.set_cons_zero, List.set_cons_succ]
                    refine wpAnyH_ready (rs := [14]) (by kernel_rfl) (by simp) ?_
                    refine AllReadyH.cons (o := _) rfl (fun K hK => ?_) ?_
                    · go_simp
                      refine hK.out _ _ ((World.cell?_setCell_other _ _ _ _ (by intro e; injection e with _ e _; omega)).trans y1) (fun hHeld => ?_)
                      clear hK K
                      try simp only [List.getElem_toArray, List.getElem_cons_zero, List.getElem_cons_succ, Act.put, List.setIfInBounds_toArray, List.set_cons_zero, List.set_cons_succ]
                      refine wpAnyH_done (by kernel_rfl) ?_ _
                      go_wp2_with fail
                      go_roundw
                      case rel =>
                        obtain ⟨z1, z2⟩ := tg_of hown7 e1 e2 e3 e5 hBo
                        refine ⟨q, by omega, by go_num, z2, ?_⟩
                        rw [HDR.out]
                        exact z1
                      case measure => simp [intOf]
                    exact AllReadyH.nil
                  exact AllReadyH.nil
                exact AllReadyH.nil
              exact AllReadyH.nil
            exact AllReadyH.nil
          refine AllReadyH.cons (o := _) rfl (fun K hK => ?_) ?_
          · go_simp
            have e4 := hB0.alloc hBd.size (.cells #[.int .i64 ((encR Y).length : Int)] 3)
            have hW4 := hW.drew.alloc (.cells #[.int .i64 ((encR Y).length : Int)] 3)
            have c4 := (hW.alloc (.cells #[.int .i64 ((encR Y).length : Int)] 3)).cell 3
            have c5 := hW4.cell 1
            simp only [List.getElem?_toArray, List.getElem?_cons_succ, List.getElem?_cons_zero] at c4 c5
            refine hK.out _ _ c5 (fun hHeld => ?_)
            clear hK K
            try simp only [List.getElem_toArray, List.getElem_cons_zero, List.getElem_cons_succ, Act.put, List.setIfInBounds_toArray, List.set_cons_zero, List.set_cons_succ]
            refine wpAnyH_ready (rs := [4]) (by kernel_rfl) (by simp) ?_
            refine AllReadyH.cons (o := _) rfl (fun K hK => ?_) ?_
            · go_simp
              refine hK.out _ _ c5 (fun hHeld => ?_)
              clear hK K
              try simp only [List.getElem_toArray, List.getElem_cons_zero, List.getElem_cons_succ, Act.put, List.setIfInBounds_toArray, List.set_cons_zero, List.set_cons_succ]
              refine wpAnyH_ready (rs := [11]) (by kernel_rfl) (by simp) ?_
              refine AllReadyH.cons (o := _) rfl (fun K hK => ?_) ?_
              · refine step_append_one rfl (.tmp 57) (.tmp 63) 32 rfl w.heap.size 3 i3 (.int .i64 0) 8 Tryd.underlying32 hi3 hz3 hs3 hb3 rfl (.slice ao Y.length co) Y.length ((placesR 0 Y).map (.int .i64)) (by rfl) ((World.ownsRow.drew hoo).alloc _) wc.heap.size (.int .i64 ((encR Y).length : Int)) (by rfl) (cell_new _ _ _) rfl (by unfold maxLen; omega) (by omega) (by have := hBd.size; simp; omega) ?_
                intro v7 w7 hown7 hg7
                obtain ⟨a7, c7, hv7⟩ := own_slice hown7
                subst hv7
                have e1 := hW4.grown hg7 (own_whole_ne ((World.ownsRow.drew hoo).alloc _) hW4 (by decide))
                have e2 := ((World.ownsRow.drew hb).alloc (.cells #[.int .i64 ((encR Y).length : Int)] 3)).kept hg7 (own_own_ne hb hoo (by decide))
                have e3 := ((World.ownsRow.drew hrr).alloc (.cells #[.int .i64 ((encR Y).length : Int)] 3)).kept hg7 (own_own_ne hrr hoo (by decide))
                have e5 := e4.grown hg7 (by have := hBd.size; simp; omega) (fun k hk => (hoo.lt k hk).1)
                have f7 := e1.free 3
                have c7' := e1.cell 3
                have y1 := e1.cell 1
                simp only [List.getElem?_toArray, List.getElem?_cons_succ, List.getElem?_cons_zero] at c7' y1
                refine hK.out _ _ y1 (fun hHeld => ?_)
                clear hK K
                try simp only [List.getElem_toArray, List.getElem_cons_zero, List.getElem_cons_succ, Act.put, List.setIfInBounds_toArray, List.set_cons_zero, List.set_cons_succ]
                refine wpAnyH_ready (rs := [12]) (by kernel_rfl) (by simp) ?_
                refine AllReadyH.cons (o := _) rfl (fun K hK => ?_) ?_
                · go_simp
                  refine hK.out _ _ y1 (fun hHeld => ?_)
                  clear hK K
                  try simp only [List.getElem_toArray, List.getElem_cons_zero, List.getElem_cons_succ, Act.put, List.setIfInBounds_toArray, List.set_cons_zero, List.set_cons_succ]
                  refine wpAnyH_ready (rs := [13]) (by kernel_rfl) (by simp) ?_
                  refine AllReadyH.cons (o := _) rfl (fun K hK => ?_) ?_
                  · go_simp
                    refine hK.out _ _ y1 (fun hHeld => ?_)
                    clear hK K
                    try simp only [List.getElem_toArray, List.getElem_cons_zero, List.getElem_cons_succ, Act.put, List.setIfInBounds_toArray, List.set_cons_zero, List.set_cons_succ]
                    refine wpAnyH_ready (rs := [14]) (by kernel_rfl) (by simp) ?_
                    refine AllReadyH.cons (o := _) rfl (fun K hK => ?_) ?_
                    · go_simp
                      refine hK.out _ _ ((World.cell?_setCell_other _ _ _ _ (by intro e; injection e with _ e _; omega)).trans y1) (fun hHeld => ?_)
                      clear hK K
                      try simp only [List.getElem_toArray, List.getElem_cons_zero, List.getElem_cons_succ, Act.put, List.setIfInBounds_toArray, List.set_cons_zero, List.set_cons_succ]
                      refine wpAnyH_done (by kernel_rfl) ?_ _
                      go_wp2_with fail
                      go_roundw
                      case rel =>
                        obtain ⟨z1, z2⟩ := tg_of hown7 e1 e2 e3 e5 hBo
                        refine ⟨q, by omega, by go_num, z2, ?_⟩
                        rw [HDR.out]
                        exact z1
                      case measure => simp [intOf]
                    exact AllReadyH.nil
                  exact AllReadyH.nil
                exact AllReadyH.nil
              exact AllReadyH.nil
            exact AllReadyH.nil
          exact AllReadyH.nil
    · obtain rfl : m = 0 := by omega
      obtain ⟨hBo, ab, cb, ar, cr, ao, co, hW, hb, hrr, hoo⟩ := htg
      rw [List.drop_zero] at hW hb hrr hoo
      have hru := runes_turnT R HV.out
      have hof := offs_turnT R HV.out
      have hsz : (turnT R).size = (encR R.reverse).length := rfl
      have hTs : (turnT R).size ≤ 2147483648 := by have := turnT_le R; omega
      go_wp2
      go_ret
      refine ⟨w.heap.size + 1, rfl, ⟨hTs, by omega, ab, cb, ar, cr, ao, co, ?_, ?_, ?_, ?_, ?_⟩, HBw.out⟩
      · rw [hru, hof, List.length_append, length_placesR, List.length_singleton, hsz]
        exact hW
      · have hb' : wr.ownsRow w.heap.size 5 1 (.slice ab (nums (turnT R)).length cb) (nums (turnT R)).length ((nums (turnT R)).map (.int .u8)) := by
          rw [length_nums, hsz, turnT_cells]
          exact hb
        exact RowAt.of_own hb'
      · rw [hru]
        exact RowAt.of_own hrr
      · rw [hof]
        exact RowAt.of_own (by rw [List.length_append, length_placesR, List.length_singleton]; exact hoo)
      · exact own_cap (by rw [hsz]; exact hb)
end Go.Proofs.YtiknfakelognpaaDoor
