/- Texts merged by program: DnLoop, DnGrp, DnOnce, DnMerge, DnThunk, DnLater, DnSay, DnHas, DnFits, DnCall. No condition. -/
import Derived.Test.YtnemacejaiifnaaQ16
import Derived.Shelf.Abstract
import Derived.Deep.RegionHeld3
set_option linter.unusedVariables false
/- A star, a plus, asked where they go on. Written by gen11clo.py. No condition. -/
namespace Go.Proofs.Ytnemacejaiifnaa
open Go Go.RowKit

theorem kp_cell {A : Nat → Prop} {w w' : World} {p : Addr} {v : Value} (h : Kp A w w') (hc : w.cell? p = some v) (hn : ¬ A p.block) : w'.cell? p = some v :=
  (World.cell?_of_block (w := w) (h.block p.block (World.block_lt_of_cell? w p hc) hn)).trans hc
theorem bx_not {E : Env} {w : World} {mb : Nat} {G : Gt} {b : Nat} {t : TypeId} {cs : Array Value} (h : DFine E w mb (TurnsAt w E.q E.w0.heap.size)) (k : (ghR w G).Bx b t cs) : ¬ TurnsAt w E.q E.w0.heap.size b := fun hA => by
  rcases h.cells b t cs hA k.1 with e | e
  · exact k.2.1.1.1 e
  · exact k.2.1.1.2.1 e
theorem old_not {E : Env} {w : World} {b : Nat} (h : Rd E w) (hb : b < E.w0.heap.size) : ¬ TurnsAt w E.q E.w0.heap.size b := fun hA => by
  rcases hA with rfl | ⟨hA, -⟩
  · have := h.q; omega
  · omega
theorem TurnsAt.over {w W : World} {q B b : Nat} (hW : Below w.heap.size w W) (h : TurnsAt W q B b) (hb : b < w.heap.size) : TurnsAt w q B b := by
  rcases h with h | ⟨h1, cs, h2⟩
  · exact .inl h
  · exact .inr ⟨h1, cs, by rw [← hW.block b hb]; exact h2⟩
theorem kp_over {w W w' : World} {q B : Nat} (hW : Below w.heap.size w W) (h : Kp (TurnsAt W q B) W w') : Kp (TurnsAt w q B) w w' :=
  ⟨h.os.trans hW.os, h.tape.trans hW.tape, h.output.trans hW.output, Nat.le_trans hW.size h.size, fun k hk hn => (h.block k (Nat.lt_of_lt_of_le hk hW.size) fun hA => hn (hA.over hW hk)).trans (hW.block k hk)⟩
theorem St.over {q B : Nat} {x : Wst} {l : List Tn} {w W : World} (h : St w q B x l) (hW : Below w.heap.size w W) : St W q B x l := by
  obtain ⟨lv, h1, h2, h3⟩ := h
  exact ⟨lv, h1.below hW h1.lt, OwnTn.below h2 hW, Nat.le_trans h3 hW.size⟩
theorem st_either_over {q B : Nat} {x : Wst} {l : List Tn} {w : World} (h : St w q B x l) (hl : l.length + 2 ≤ 4398046511104) (z : Bool) (more stop : Fv) (i : Int) (W : World) (hW : Below w.heap.size w W) :
    Calls Try.prog 120 #[ptrV q, .bool z, more.v, stop.v, .int .i64 i] W fun e w' => e = .returned noResult ∧ St w' q B x (l ++ twoT z more stop i) ∧ Kp (TurnsAt w q B) w w' :=
  (st_either (h.over hW) hl z more stop i).mono fun e w' ⟨h1, h2, h3⟩ => ⟨h1, h2, kp_over hW h3⟩
theorem st_on_over {q B : Nat} {x : Wst} {l : List Tn} {w : World} (h : St w q B x l) (hl : l.length + 1 ≤ 4398046511104) (f : Fv) (i : Int) (W : World) (hW : Below w.heap.size w W) :
    Calls Try.prog 69 #[ptrV q, f.v, .int .i64 i] W fun e w' => e = .returned noResult ∧ St w' q B x (l ++ [(f, i)]) ∧ Kp (TurnsAt w q B) w w' :=
  (st_on (h.over hW) hl f i).mono fun e w' ⟨h1, h2, h3⟩ => ⟨h1, h2, kp_over hW h3⟩
set_option maxHeartbeats 1600000 in
theorem cl_star (E : Env) (M : Md E) (fin : Fv) (w : World) (s : Am) (G : Gt) (hI : RInv E M fin w s G) {fo : Fv} {z : Bool} {K1 K2 : Ks} (hLo : Loop E (ghR w G) 119 fo z K1 K2) (i : Nat) (hi : i ≤ E.R.length) (hl : (s.two z K1 K2 i).left.length ≤ 4000000000000) :
    CallsV fo i w (After E M fin (s.two z K1 K2 i)) := by
  obtain ⟨bw, bt, bk, bs, pb, po, t, vk, vs, rfl, h1, h2, hT, hz, h3, h5, h4, h6⟩ := hLo.is
  refine ⟨_, rfl, enters_of Try.func119 (by kernel_rfl) rfl, ?_⟩
  show Calls Try.prog 119 #[.int .i64 i, ptrV bw, ptrV bt, ptrV bk, ptrV bs] w _
  obtain ⟨lv, mb, n, f, ev, bv, l, hm⟩ := hI.mem
  have hlen := hm.turns.len
  have hST := rm_st hI hm
  obtain ⟨kv, sv, ⟨-, -, -, -, -, -, -, -, -, c5⟩, -⟩ := hT.ten hI.rd
  rw [hz] at c5
  have HON := Lib.hid (fun W hW => st_either_over hST (by rw [two_len] at hl; omega) z vk vs i W hW)
  have HI := Lib.hid hI; have HM := Lib.hid hm; have H5 := Lib.hid h5; have H6 := Lib.hid h6; have HL := Lib.hid hi
  have c1 := bx_cell h1; have c2 := bx_cell h2; have c3 := bx_cell h3; have c4 := bx_cell h4
  have hF := turns_fine (E := E) hm.om hm.words
  have n1 := bx_not hF h1; have n2 := bx_not hF h2; have n3 := bx_not hF h3; have n4 := bx_not hF h4
  have n5 : ¬ TurnsAt w E.q E.w0.heap.size pb := old_not hI.rd (TP_lt hT)
  have HB0 := Lib.hid (below_draws w 1)
  obtain ⟨tg, tf, tc⟩ := vs
  obtain ⟨kg, kf, kc⟩ := vk
  clear hI hm h1 h2 h3 h4 h5 h6 hl hlen hi hT hz hST hLo hF
  go_enter Try.func119, Try.ntmps119
  refine wp_region_held_drew (S := fun w' => Kp (TurnsAt w E.q E.w0.heap.size) w w') (by kernel_rfl) (Kp.of_below ((Below.refl _ _).drew)) (fun hHeld => ?_)
  refine wpAnyH_take (i := 0) (oi := _) (v := ?_) rfl (by kernel_rfl) (by kernel_rfl) (by kernel_rfl) (fun _ _ _ h => h) (Or.inl ⟨by rfl, ?_⟩) hHeld ?_
  rotate_left 1
  · (intro w hSw; (try dsimp only at hSw); have e0 := kp_cell hSw c1 n1; have e1 := kp_cell hSw c2 n2; have e2 := kp_cell hSw c3 n3; have e3 := kp_cell hSw c4 n4; have e4 := kp_cell hSw c5 n5; go_simp; (try with_reducible rfl))
  try simp only [List.getElem_toArray, List.getElem_cons_zero, Act.put, List.setIfInBounds_toArray, List.set_cons_zero, List.set_cons_succ]
  refine wpAnyH_take (i := 1) (oi := _) (v := ?_) rfl (by kernel_rfl) (by kernel_rfl) (by kernel_rfl) (fun _ _ _ h => h) (Or.inl ⟨by rfl, ?_⟩) hHeld ?_
  rotate_left 1
  · (intro w hSw; (try dsimp only at hSw); have e0 := kp_cell hSw c1 n1; have e1 := kp_cell hSw c2 n2; have e2 := kp_cell hSw c3 n3; have e3 := kp_cell hSw c4 n4; have e4 := kp_cell hSw c5 n5; go_simp; (try with_reducible rfl))
  try simp only [List.getElem_toArray, List.getElem_cons_zero, List.getElem_cons_succ, Act.put, List.setIfInBounds_toArray, List.set_cons_zero, List.set_cons_succ]
  refine wpAnyH_take (i := 2) (oi := _) (v := ?_) rfl (by kernel_rfl) (by kernel_rfl) (by kernel_rfl) (fun _ _ _ h => h) (Or.inl ⟨by rfl, ?_⟩) hHeld ?_
  rotate_left 1
  · (intro w hSw; (try dsimp only at hSw); have e0 := kp_cell hSw c1 n1; have e1 := kp_cell hSw c2 n2; have e2 := kp_cell hSw c3 n3; have e3 := kp_cell hSw c4 n4; have e4 := kp_cell hSw c5 n5; go_simp; (try with_reducible rfl))
  try simp only [List.getElem_toArray, List.getElem_cons_zero, List.getElem_cons_succ, Act.put, List.setIfInBounds_toArray, List.set_cons_zero, List.set_cons_succ]
  refine wpAnyH_take (i := 3) (oi := _) (v := ?_) rfl (by kernel_rfl) (by kernel_rfl) (by kernel_rfl) (fun _ _ _ h => h) (Or.inl ⟨by rfl, ?_⟩) hHeld ?_
  rotate_left 1
  · (intro w hSw; (try dsimp only at hSw); have e0 := kp_cell hSw c1 n1; have e1 := kp_cell hSw c2 n2; have e2 := kp_cell hSw c3 n3; have e3 := kp_cell hSw c4 n4; have e4 := kp_cell hSw c5 n5; go_simp; (try with_reducible rfl))
  try simp only [List.getElem_toArray, List.getElem_cons_zero, List.getElem_cons_succ, Act.put, List.setIfInBounds_toArray, List.set_cons_zero, List.set_cons_succ]
  refine wpAnyH_take (i := 4) (oi := _) (v := ?_) rfl (by kernel_rfl) (by kernel_rfl) (by kernel_rfl) (fun _ _ _ h => h) (Or.inl ⟨by rfl, ?_⟩) hHeld ?_
  rotate_left 1
  · (intro w hSw; (try dsimp only at hSw); have e0 := kp_cell hSw c1 n1; have e1 := kp_cell hSw c2 n2; have e2 := kp_cell hSw c3 n3; have e3 := kp_cell hSw c4 n4; have e4 := kp_cell hSw c5 n5; go_simp; (try with_reducible rfl))
  try simp only [List.getElem_toArray, List.getElem_cons_zero, List.getElem_cons_succ, Act.put, List.setIfInBounds_toArray, List.set_cons_zero, List.set_cons_succ]
  refine wpAnyH_take (i := 5) (oi := _) (v := ?_) rfl (by kernel_rfl) (by kernel_rfl) (by kernel_rfl) (fun _ _ _ h => h) (Or.inl ⟨by rfl, ?_⟩) hHeld ?_
  rotate_left 1
  · (intro w hSw; (try dsimp only at hSw); have e0 := kp_cell hSw c1 n1; have e1 := kp_cell hSw c2 n2; have e2 := kp_cell hSw c3 n3; have e3 := kp_cell hSw c4 n4; have e4 := kp_cell hSw c5 n5; go_simp; (try with_reducible rfl))
  try simp only [List.getElem_toArray, List.getElem_cons_zero, List.getElem_cons_succ, Act.put, List.setIfInBounds_toArray, List.set_cons_zero, List.set_cons_succ]
  refine wpAnyH_take (i := 6) (oi := _) (v := ?_) rfl (by kernel_rfl) (by kernel_rfl) (by kernel_rfl) (fun _ _ _ h => h) (Or.inl ⟨by rfl, ?_⟩) hHeld ?_
  rotate_left 1
  · (intro w hSw; (try dsimp only at hSw); have e0 := kp_cell hSw c1 n1; have e1 := kp_cell hSw c2 n2; have e2 := kp_cell hSw c3 n3; have e3 := kp_cell hSw c4 n4; have e4 := kp_cell hSw c5 n5; go_simp; (try with_reducible rfl))
  try simp only [List.getElem_toArray, List.getElem_cons_zero, List.getElem_cons_succ, Act.put, List.setIfInBounds_toArray, List.set_cons_zero, List.set_cons_succ]
  refine wpAnyH_take (i := 7) (oi := _) (v := ?_) rfl (by kernel_rfl) (by kernel_rfl) (by kernel_rfl) (fun _ _ _ h => h) (Or.inl ⟨by rfl, ?_⟩) hHeld ?_
  rotate_left 1
  · (intro w hSw; (try dsimp only at hSw); have e0 := kp_cell hSw c1 n1; have e1 := kp_cell hSw c2 n2; have e2 := kp_cell hSw c3 n3; have e3 := kp_cell hSw c4 n4; have e4 := kp_cell hSw c5 n5; go_simp; (try with_reducible rfl))
  try simp only [List.getElem_toArray, List.getElem_cons_zero, List.getElem_cons_succ, Act.put, List.setIfInBounds_toArray, List.set_cons_zero, List.set_cons_succ]
  refine wpAnyH_ready (rs := [8]) (by kernel_rfl) (by simp) ?_
  refine AllReadyH.cons (o := _) rfl (fun K hK => ?_) ?_
  · go_simp
    refine (HON.out _ HB0.out).mono ?_
    rintro e w' ⟨rfl, hst, hk⟩
    have HS := Lib.hid hst; have HK := Lib.hid hk
    clear hst hk
    go_wp2_with fail
    refine hK.out _ _ (HK.out) (fun hHeld => ?_)
    clear hK K
    try simp only [List.getElem_toArray, List.getElem_cons_zero, List.getElem_cons_succ, Act.put, List.setIfInBounds_toArray, List.set_cons_zero, List.set_cons_succ]
    refine wpAnyH_done (by kernel_rfl) ?_ _
    go_wp2_with fail
    go_end0
    exact ⟨rfl, G, rinv_two HI.out HM.out HK.out HS.out H5.out H6.out HL.out⟩
  exact AllReadyH.nil
set_option maxHeartbeats 1600000 in
theorem cl_plus (E : Env) (M : Md E) (fin : Fv) (w : World) (s : Am) (G : Gt) (hI : RInv E M fin w s G) {fo : Fv} {z : Bool} {K1 K2 : Ks} (hLo : Loop E (ghR w G) 121 fo z K1 K2) (i : Nat) (hi : i ≤ E.R.length) (hl : (s.two z K1 K2 i).left.length ≤ 4000000000000) :
    CallsV fo i w (After E M fin (s.two z K1 K2 i)) := by
  obtain ⟨bw, bt, bk, bs, pb, po, t, vk, vs, rfl, h1, h2, hT, hz, h3, h5, h4, h6⟩ := hLo.is
  refine ⟨_, rfl, enters_of Try.func121 (by kernel_rfl) rfl, ?_⟩
  show Calls Try.prog 121 #[.int .i64 i, ptrV bw, ptrV bt, ptrV bk, ptrV bs] w _
  obtain ⟨lv, mb, n, f, ev, bv, l, hm⟩ := hI.mem
  have hlen := hm.turns.len
  have hST := rm_st hI hm
  obtain ⟨kv, sv, ⟨-, -, -, -, -, -, -, -, -, c5⟩, -⟩ := hT.ten hI.rd
  rw [hz] at c5
  have HON := Lib.hid (fun W hW => st_either_over hST (by rw [two_len] at hl; omega) z vk vs i W hW)
  have HI := Lib.hid hI; have HM := Lib.hid hm; have H5 := Lib.hid h5; have H6 := Lib.hid h6; have HL := Lib.hid hi
  have c1 := bx_cell h1; have c2 := bx_cell h2; have c3 := bx_cell h3; have c4 := bx_cell h4
  have hF := turns_fine (E := E) hm.om hm.words
  have n1 := bx_not hF h1; have n2 := bx_not hF h2; have n3 := bx_not hF h3; have n4 := bx_not hF h4
  have n5 : ¬ TurnsAt w E.q E.w0.heap.size pb := old_not hI.rd (TP_lt hT)
  have HB0 := Lib.hid (below_draws w 1)
  obtain ⟨tg, tf, tc⟩ := vs
  obtain ⟨kg, kf, kc⟩ := vk
  clear hI hm h1 h2 h3 h4 h5 h6 hl hlen hi hT hz hST hLo hF
  go_enter Try.func121, Try.ntmps121
  refine wp_region_held_drew (S := fun w' => Kp (TurnsAt w E.q E.w0.heap.size) w w') (by kernel_rfl) (Kp.of_below ((Below.refl _ _).drew)) (fun hHeld => ?_)
  refine wpAnyH_take (i := 0) (oi := _) (v := ?_) rfl (by kernel_rfl) (by kernel_rfl) (by kernel_rfl) (fun _ _ _ h => h) (Or.inl ⟨by rfl, ?_⟩) hHeld ?_
  rotate_left 1
  · (intro w hSw; (try dsimp only at hSw); have e0 := kp_cell hSw c1 n1; have e1 := kp_cell hSw c2 n2; have e2 := kp_cell hSw c3 n3; have e3 := kp_cell hSw c4 n4; have e4 := kp_cell hSw c5 n5; go_simp; (try with_reducible rfl))
  try simp only [List.getElem_toArray, List.getElem_cons_zero, Act.put, List.setIfInBounds_toArray, List.set_cons_zero, List.set_cons_succ]
  refine wpAnyH_take (i := 1) (oi := _) (v := ?_) rfl (by kernel_rfl) (by kernel_rfl) (by kernel_rfl) (fun _ _ _ h => h) (Or.inl ⟨by rfl, ?_⟩) hHeld ?_
  rotate_left 1
  · (intro w hSw; (try dsimp only at hSw); have e0 := kp_cell hSw c1 n1; have e1 := kp_cell hSw c2 n2; have e2 := kp_cell hSw c3 n3; have e3 := kp_cell hSw c4 n4; have e4 := kp_cell hSw c5 n5; go_simp; (try with_reducible rfl))
  try simp only [List.getElem_toArray, List.getElem_cons_zero, List.getElem_cons_succ, Act.put, List.setIfInBounds_toArray, List.set_cons_zero, List.set_cons_succ]
  refine wpAnyH_take (i := 2) (oi := _) (v := ?_) rfl (by kernel_rfl) (by kernel_rfl) (by kernel_rfl) (fun _ _ _ h => h) (Or.inl ⟨by rfl, ?_⟩) hHeld ?_
  rotate_left 1
  · (intro w hSw; (try dsimp only at hSw); have e0 := kp_cell hSw c1 n1; have e1 := kp_cell hSw c2 n2; have e2 := kp_cell hSw c3 n3; have e3 := kp_cell hSw c4 n4; have e4 := kp_cell hSw c5 n5; go_simp; (try with_reducible rfl))
  try simp only [List.getElem_toArray, List.getElem_cons_zero, List.getElem_cons_succ, Act.put, List.setIfInBounds_toArray, List.set_cons_zero, List.set_cons_succ]
  refine wpAnyH_take (i := 3) (oi := _) (v := ?_) rfl (by kernel_rfl) (by kernel_rfl) (by kernel_rfl) (fun _ _ _ h => h) (Or.inl ⟨by rfl, ?_⟩) hHeld ?_
  rotate_left 1
  · (intro w hSw; (try dsimp only at hSw); have e0 := kp_cell hSw c1 n1; have e1 := kp_cell hSw c2 n2; have e2 := kp_cell hSw c3 n3; have e3 := kp_cell hSw c4 n4; have e4 := kp_cell hSw c5 n5; go_simp; (try with_reducible rfl))
  try simp only [List.getElem_toArray, List.getElem_cons_zero, List.getElem_cons_succ, Act.put, List.setIfInBounds_toArray, List.set_cons_zero, List.set_cons_succ]
  refine wpAnyH_take (i := 4) (oi := _) (v := ?_) rfl (by kernel_rfl) (by kernel_rfl) (by kernel_rfl) (fun _ _ _ h => h) (Or.inl ⟨by rfl, ?_⟩) hHeld ?_
  rotate_left 1
  · (intro w hSw; (try dsimp only at hSw); have e0 := kp_cell hSw c1 n1; have e1 := kp_cell hSw c2 n2; have e2 := kp_cell hSw c3 n3; have e3 := kp_cell hSw c4 n4; have e4 := kp_cell hSw c5 n5; go_simp; (try with_reducible rfl))
  try simp only [List.getElem_toArray, List.getElem_cons_zero, List.getElem_cons_succ, Act.put, List.setIfInBounds_toArray, List.set_cons_zero, List.set_cons_succ]
  refine wpAnyH_take (i := 5) (oi := _) (v := ?_) rfl (by kernel_rfl) (by kernel_rfl) (by kernel_rfl) (fun _ _ _ h => h) (Or.inl ⟨by rfl, ?_⟩) hHeld ?_
  rotate_left 1
  · (intro w hSw; (try dsimp only at hSw); have e0 := kp_cell hSw c1 n1; have e1 := kp_cell hSw c2 n2; have e2 := kp_cell hSw c3 n3; have e3 := kp_cell hSw c4 n4; have e4 := kp_cell hSw c5 n5; go_simp; (try with_reducible rfl))
  try simp only [List.getElem_toArray, List.getElem_cons_zero, List.getElem_cons_succ, Act.put, List.setIfInBounds_toArray, List.set_cons_zero, List.set_cons_succ]
  refine wpAnyH_take (i := 6) (oi := _) (v := ?_) rfl (by kernel_rfl) (by kernel_rfl) (by kernel_rfl) (fun _ _ _ h => h) (Or.inl ⟨by rfl, ?_⟩) hHeld ?_
  rotate_left 1
  · (intro w hSw; (try dsimp only at hSw); have e0 := kp_cell hSw c1 n1; have e1 := kp_cell hSw c2 n2; have e2 := kp_cell hSw c3 n3; have e3 := kp_cell hSw c4 n4; have e4 := kp_cell hSw c5 n5; go_simp; (try with_reducible rfl))
  try simp only [List.getElem_toArray, List.getElem_cons_zero, List.getElem_cons_succ, Act.put, List.setIfInBounds_toArray, List.set_cons_zero, List.set_cons_succ]
  refine wpAnyH_take (i := 7) (oi := _) (v := ?_) rfl (by kernel_rfl) (by kernel_rfl) (by kernel_rfl) (fun _ _ _ h => h) (Or.inl ⟨by rfl, ?_⟩) hHeld ?_
  rotate_left 1
  · (intro w hSw; (try dsimp only at hSw); have e0 := kp_cell hSw c1 n1; have e1 := kp_cell hSw c2 n2; have e2 := kp_cell hSw c3 n3; have e3 := kp_cell hSw c4 n4; have e4 := kp_cell hSw c5 n5; go_simp; (try with_reducible rfl))
  try simp only [List.getElem_toArray, List.getElem_cons_zero, List.getElem_cons_succ, Act.put, List.setIfInBounds_toArray, List.set_cons_zero, List.set_cons_succ]
  refine wpAnyH_ready (rs := [8]) (by kernel_rfl) (by simp) ?_
  refine AllReadyH.cons (o := _) rfl (fun K hK => ?_) ?_
  · go_simp
    refine (HON.out _ HB0.out).mono ?_
    rintro e w' ⟨rfl, hst, hk⟩
    have HS := Lib.hid hst; have HK := Lib.hid hk
    clear hst hk
    go_wp2_with fail
    refine hK.out _ _ (HK.out) (fun hHeld => ?_)
    clear hK K
    try simp only [List.getElem_toArray, List.getElem_cons_zero, List.getElem_cons_succ, Act.put, List.setIfInBounds_toArray, List.set_cons_zero, List.set_cons_succ]
    refine wpAnyH_done (by kernel_rfl) ?_ _
    go_wp2_with fail
    go_end0
    exact ⟨rfl, G, rinv_two HI.out HM.out HK.out HS.out H5.out H6.out HL.out⟩
  exact AllReadyH.nil
end Go.Proofs.Ytnemacejaiifnaa
/- A group begins, ends. Written by gen11clo.py. No condition. -/
namespace Go.Proofs.Ytnemacejaiifnaa
open Go Go.RowKit

theorem fv_cell {E : Env} {w : World} {B : Nat} {a c : Value} {p : Int} {ev bv : Value} {l : List Tn} {G2 : Nat} (h : St w E.q B ⟨a, E.fv, c, p, ev, bv⟩ l) (hG : 2 * (E.G + 1) = G2) : w.cell? ⟨E.q, 1, none⟩ = some (.slice (some ⟨E.fb, 0, none⟩) G2 G2) := by
  obtain ⟨lv, h1, -⟩ := h
  subst hG
  exact (om_ten h1).2.1
theorem rinv_drew {E : Env} {M : Md E} {fin : Fv} {w : World} {s : Am} {G : Gt} (h : RInv E M fin w s G) (d : Nat) : RInv E M fin (w.drewN d) s G := by
  obtain ⟨lv, mb, n, f, ev, bv, l, hm⟩ := h.mem
  have hz : KpZ G w (w.drewN d) := ⟨Nat.le_refl _, fun b t cs _ _ hb => hb⟩
  exact ⟨h.rd.then (below_draws w d), ⟨lv, mb, n, f, ev, bv, l, hm.om, hm.own, hm.turns.mono (ghR_move hz), hm.words.kept rfl, hm.met, M.move hm.ed (Nat.le_refl _) fun b t cs _ _ hb => hb, hm.base⟩, h.fit, h.tab.move hz fun z _ cs hw => hw, h.fb, M.fmono (ghR_move hz) ⟨[], by simp⟩ h.fbx⟩
theorem fit_cell {E : Env} {M : Md E} {fin : Fv} {w : World} {s : Am} {G : Gt} (h : RInv E M fin w s G) {b : Nat} {t : TypeId} {u : Value} {k : Nat} {v : Int} (hb : (ghR w G).Bx b t #[u]) (ht : t ≠ 3) (hu : True = True) : ((w.setCell ⟨E.fb, k, none⟩ (.int .i64 v)).drew).cell? ⟨b, 0, none⟩ = some u := by
  have h1 : Whole w b t #[u] := hb.1
  have hne : b ≠ E.fb := fun e => by
    subst e
    have h2 := h.fit.1
    unfold Whole at h1 h2
    rw [h1] at h2
    injection h2 with h2
    injection h2 with _ h3
    exact ht h3
  exact ((Whole.far h1 hne k (.int .i64 v)).drew.cell 0).trans rfl
set_option maxHeartbeats 3200000 in
theorem cl_gend (E : Env) (M : Md E) (fin : Fv) (w : World) (s : Am) (G : Gt) (hI : RInv E M fin w s G) {bw bp bi bt pw pi k : Nat} {t : Fv} {K1 : Ks} (h1 : (ghR w G).Bx bw 71 #[ptrV E.q]) (h2 : (ghR w G).Bx bp 75 #[.func (.func 143) #[] #[ptrV pw, ptrV pi]])
    (hpw : (ghR w G).Bx pw 71 #[ptrV E.q]) (hpi : (ghR w G).Bx pi 3 #[.int .i64 (k : Int)]) (h3 : (ghR w G).Bx bi 3 #[.int .i64 (k : Int)]) (h4 : (ghR w G).Bx bt 75 #[t.v]) (h5 : Rp (ghR w G).Tb t K1) (hk : k < 2 * (E.G + 1)) (i : Nat) (hi : i ≤ E.R.length) (hl : ((s.keep k i).push (.go K1 i)).left.length ≤ 4000000000000) :
    Calls Try.prog 117 #[.int .i64 i, ptrV bw, ptrV bp, ptrV bi, ptrV bt] w (After E M fin ((s.keep k i).push (.go K1 i))) := by
  obtain ⟨lv, mb, n, f, ev, bv, l, hm⟩ := hI.mem
  have hlen := hm.turns.len
  have hST := rm_st hI hm
  obtain ⟨hfit, hfl⟩ := hI.fit
  have hkl : k < s.fit.length := by omega
  obtain ⟨x, hx⟩ : ∃ x, s.fit.getD k 0 = x := ⟨_, rfl⟩
  have c6 : w.cell? ⟨E.fb, k, none⟩ = some (.int .i64 x) := by
    rw [hfit.cell k, ← hx]
    simp [fitC, hkl]
  have HON := Lib.hid (fun W hW => st_on_over hST (by simp [Am.push, Am.keep] at hl; omega) ⟨.func 143, #[], #[ptrV pw, ptrV pi]⟩ x W hW)
  have HI := Lib.hid hI; have HM := Lib.hid hm; have H5 := Lib.hid h5; have HL := Lib.hid hi; have HX := Lib.hid hx
  have HPT := Lib.hid (TurnR.put (E := E) (val := x) hpw hpi hk)
  have hF := turns_fine (E := E) hm.om hm.words
  have HF := Lib.hid hF
  have c1 := bx_cell h1; have c2 := bx_cell h2; have c3 := bx_cell h3; have c4 := bx_cell h4
  have n1 := bx_not hF h1; have n2 := bx_not hF h2; have n3 := bx_not hF h3; have n4 := bx_not hF h4
  have n6 : ¬ TurnsAt w E.q E.w0.heap.size E.fb := fun hA => by rcases hF.cells _ _ _ hA hfit with e | e <;> exact absurd e (by decide)
  obtain ⟨-, f1, -⟩ := om_ten hm.om
  have H1 := Lib.hid h1; have H3 := Lib.hid h3; have H4 := Lib.hid h4; have HFT := Lib.hid hfit; have HN6 := Lib.hid n6; have HKL := Lib.hid hkl; have HLL := Lib.hid (show l.length + 2 ≤ 4398046511104 by simp [Am.push, Am.keep] at hl; omega)
  have HB0 := Lib.hid (below_draws w 1)
  have HFL := Lib.hid hfl
  obtain ⟨G2, hG2⟩ : ∃ G2, 2 * (E.G + 1) = G2 := ⟨_, rfl⟩
  have hd : decide ((k : Int) < (G2 : Int)) = true := decide_eq_true (by omega)
  have hkG : k < G2 := by omega
  unfold Env.fv at f1
  rw [hG2] at f1
  have HG2 := Lib.hid hG2
  obtain ⟨tg, tf, tc⟩ := t
  clear hI hm h1 h2 h3 h4 h5 hpw hpi hl hlen hi hk hfit hfl hkl hx hST hF hG2
  go_enter Try.func117, Try.ntmps117
  go_upto_region 0 with (fail)
  refine wp_region_held_drew (S := fun w' => (Kp (TurnsAt w E.q E.w0.heap.size) w w') ∧ w'.cell? ⟨E.q, 1, none⟩ = some (.slice (some ⟨E.fb, 0, none⟩) G2 G2)) (by kernel_rfl) (⟨Kp.of_below ((Below.refl _ _).drew), f1⟩) (fun hHeld => ?_)
  refine wpAnyH_take (i := 0) (oi := _) (v := ?_) rfl (by kernel_rfl) (by kernel_rfl) (by kernel_rfl) (fun _ _ _ h => h) (Or.inl ⟨by rfl, ?_⟩) hHeld ?_
  rotate_left 1
  · (intro w hSw; (try dsimp only at hSw); have e0 := kp_cell hSw.1 c1 n1; have e1 := kp_cell hSw.1 c2 n2; have e2 := kp_cell hSw.1 c3 n3; have e3 := kp_cell hSw.1 c6 n6; have e4 := hSw.2; go_simp; (try with_reducible rfl))
  try simp only [List.getElem_toArray, List.getElem_cons_zero, Act.put, List.setIfInBounds_toArray, List.set_cons_zero, List.set_cons_succ]
  refine wpAnyH_take (i := 1) (oi := _) (v := ?_) rfl (by kernel_rfl) (by kernel_rfl) (by kernel_rfl) (fun _ _ _ h => h) (Or.inl ⟨by rfl, ?_⟩) hHeld ?_
  rotate_left 1
  · (intro w hSw; (try dsimp only at hSw); have e0 := kp_cell hSw.1 c1 n1; have e1 := kp_cell hSw.1 c2 n2; have e2 := kp_cell hSw.1 c3 n3; have e3 := kp_cell hSw.1 c6 n6; have e4 := hSw.2; go_simp; (try with_reducible rfl))
  try simp only [List.getElem_toArray, List.getElem_cons_zero, List.getElem_cons_succ, Act.put, List.setIfInBounds_toArray, List.set_cons_zero, List.set_cons_succ]
  refine wpAnyH_take (i := 2) (oi := _) (v := ?_) rfl (by kernel_rfl) (by kernel_rfl) (by kernel_rfl) (fun _ _ _ h => h) (Or.inl ⟨by rfl, ?_⟩) hHeld ?_
  rotate_left 1
  · (intro w hSw; (try dsimp only at hSw); have e0 := kp_cell hSw.1 c1 n1; have e1 := kp_cell hSw.1 c2 n2; have e2 := kp_cell hSw.1 c3 n3; have e3 := kp_cell hSw.1 c6 n6; have e4 := hSw.2; go_simp; (try with_reducible rfl))
  try simp only [List.getElem_toArray, List.getElem_cons_zero, List.getElem_cons_succ, Act.put, List.setIfInBounds_toArray, List.set_cons_zero, List.set_cons_succ]
  refine wpAnyH_take (i := 3) (oi := _) (v := ?_) rfl (by kernel_rfl) (by kernel_rfl) (by kernel_rfl) (fun _ _ _ h => h) (Or.inl ⟨by rfl, ?_⟩) hHeld ?_
  rotate_left 1
  · (intro w hSw; (try dsimp only at hSw); have e0 := kp_cell hSw.1 c1 n1; have e1 := kp_cell hSw.1 c2 n2; have e2 := kp_cell hSw.1 c3 n3; have e3 := kp_cell hSw.1 c6 n6; have e4 := hSw.2; go_simp; (try with_reducible rfl))
  try simp only [List.getElem_toArray, List.getElem_cons_zero, List.getElem_cons_succ, Act.put, List.setIfInBounds_toArray, List.set_cons_zero, List.set_cons_succ]
  refine wpAnyH_take (i := 4) (oi := _) (v := ?_) rfl (by kernel_rfl) (by kernel_rfl) (by kernel_rfl) (fun _ _ _ h => h) (Or.inl ⟨by rfl, ?_⟩) hHeld ?_
  rotate_left 1
  · (intro w hSw; (try dsimp only at hSw); have e0 := kp_cell hSw.1 c1 n1; have e1 := kp_cell hSw.1 c2 n2; have e2 := kp_cell hSw.1 c3 n3; have e3 := kp_cell hSw.1 c6 n6; have e4 := hSw.2; go_simp; (try with_reducible rfl))
  try simp only [List.getElem_toArray, List.getElem_cons_zero, List.getElem_cons_succ, Act.put, List.setIfInBounds_toArray, List.set_cons_zero, List.set_cons_succ]
  refine wpAnyH_take (i := 5) (oi := _) (v := ?_) rfl (by kernel_rfl) (by kernel_rfl) (by kernel_rfl) (fun _ _ _ h => h) (Or.inl ⟨by rfl, ?_⟩) hHeld ?_
  rotate_left 1
  · (intro w hSw; (try dsimp only at hSw); have e0 := kp_cell hSw.1 c1 n1; have e1 := kp_cell hSw.1 c2 n2; have e2 := kp_cell hSw.1 c3 n3; have e3 := kp_cell hSw.1 c6 n6; have e4 := hSw.2; go_simp; (try with_reducible rfl))
  try simp only [List.getElem_toArray, List.getElem_cons_zero, List.getElem_cons_succ, Act.put, List.setIfInBounds_toArray, List.set_cons_zero, List.set_cons_succ]
  refine wpAnyH_take (i := 6) (oi := _) (v := ?_) rfl (by kernel_rfl) (by kernel_rfl) (by kernel_rfl) (fun _ _ _ h => h) (Or.inl ⟨by rfl, ?_⟩) hHeld ?_
  rotate_left 1
  · (intro w hSw; (try dsimp only at hSw); have e0 := kp_cell hSw.1 c1 n1; have e1 := kp_cell hSw.1 c2 n2; have e2 := kp_cell hSw.1 c3 n3; have e3 := kp_cell hSw.1 c6 n6; have e4 := hSw.2; go_simp; (try with_reducible rfl))
  try simp only [List.getElem_toArray, List.getElem_cons_zero, List.getElem_cons_succ, Act.put, List.setIfInBounds_toArray, List.set_cons_zero, List.set_cons_succ]
  refine wpAnyH_take (i := 7) (oi := _) (v := ?_) rfl (by kernel_rfl) (by kernel_rfl) (by kernel_rfl) (fun _ _ _ h => h) (Or.inl ⟨by rfl, ?_⟩) hHeld ?_
  rotate_left 1
  · (intro w hSw; (try dsimp only at hSw); have e0 := kp_cell hSw.1 c1 n1; have e1 := kp_cell hSw.1 c2 n2; have e2 := kp_cell hSw.1 c3 n3; have e3 := kp_cell hSw.1 c6 n6; have e4 := hSw.2; go_simp; (try with_reducible rfl))
  try simp only [List.getElem_toArray, List.getElem_cons_zero, List.getElem_cons_succ, Act.put, List.setIfInBounds_toArray, List.set_cons_zero, List.set_cons_succ]
  refine wpAnyH_take (i := 8) (oi := _) (v := ?_) rfl (by kernel_rfl) (by kernel_rfl) (by kernel_rfl) (fun _ _ _ h => h) (Or.inl ⟨by rfl, ?_⟩) hHeld ?_
  rotate_left 1
  · (intro w hSw; (try dsimp only at hSw); have e0 := kp_cell hSw.1 c1 n1; have e1 := kp_cell hSw.1 c2 n2; have e2 := kp_cell hSw.1 c3 n3; have e3 := kp_cell hSw.1 c6 n6; have e4 := hSw.2; go_simp; (try with_reducible rfl))
  try simp only [List.getElem_toArray, List.getElem_cons_zero, List.getElem_cons_succ, Act.put, List.setIfInBounds_toArray, List.set_cons_zero, List.set_cons_succ]
  refine wpAnyH_ready (rs := [9]) (by kernel_rfl) (by simp) ?_
  refine AllReadyH.cons (o := _) rfl (fun K hK => ?_) ?_
  · go_simp
    refine (HON.out _ HB0.out).mono ?_
    rintro e w1 ⟨rfl, hst, hk⟩
    have HS := Lib.hid hst; have HK := Lib.hid hk
    clear hst hk
    go_wp2_with fail
    refine hK.out _ _ (⟨HK.out, fv_cell HS.out HG2.out⟩) (fun hHeld => ?_)
    clear hK K
    try simp only [List.getElem_toArray, List.getElem_cons_zero, List.getElem_cons_succ, Act.put, List.setIfInBounds_toArray, List.set_cons_zero, List.set_cons_succ]
    refine wpAnyH_done (by kernel_rfl) ?_ _
    have hI1 := rinv_turns (s := s) HI.out HM.out HK.out HS.out (.snoc HM.out.turns HPT.out)
    have hz := fine_kpz (G := G) HF.out HK.out
    have e1 := bx_cell ((ghR_move hz).bx _ _ _ (ct1 (by decide)) H1.out); have e3 := bx_cell ((ghR_move hz).bx _ _ _ ⟨by decide, fun _ => rfl⟩ H3.out); have e4 := bx_cell ((ghR_move hz).bx _ _ _ (ct1 (by decide)) H4.out)
    have E1 := Lib.hid ((ghR_move hz).bx _ _ _ (ct1 (by decide)) H1.out); have E4 := Lib.hid ((ghR_move hz).bx _ _ _ (ct1 (by decide)) H4.out)
    have hfit1 := hI1.fit.1
    have e6 : w1.cell? ⟨E.fb, k, none⟩ = some (.int .i64 x) := kp_cell HK.out c6 HN6.out
    have e6f := hfit1.free k
    have f2 : w1.cell? ⟨E.q, 1, none⟩ = some (.slice (some ⟨E.fb, 0, none⟩) G2 G2) := fv_cell HS.out HG2.out
    have HI1 := Lib.hid hI1; have HZ := Lib.hid hz
    clear hI1 hz hfit1 c1 c2 c3 c4 c6 n1 n2 n3 n4 n6 f1
    go_wp2_with fail
    go_region
    all_goals
      have hI2 : RInv E M fin ((w1.setCell ⟨E.fb, k, none⟩ (.int .i64 i)).drew) _ G := rinv_drew (rinv_fit HI1.out k i) 1
      have HI2 := Lib.hid hI2
      obtain ⟨lv2, mb2, n2, f2', ev2, bv2, l2, hm2⟩ := hI2.mem
      have hlen2 := hm2.turns.len
      have HON2 := Lib.hid (st_on (rm_st hI2 hm2) (by simp only [List.length_cons] at hlen2; have := HLL.out; have := HM.out.turns.len; omega) ⟨tg, tf, tc⟩ i)
      have HM2 := Lib.hid hm2
      have hz2 := HZ.out
      have b1 := E1.out; have b4 := E4.out
      have g1 := fit_cell (k := k) (v := i) HI1.out E1.out (by decide) rfl; have g4 := fit_cell (k := k) (v := i) HI1.out E4.out (by decide) rfl
      have HRP := Lib.hid (TurnR.go (E := E) (g := ghR ((w1.setCell ⟨E.fb, k, none⟩ (.int .i64 i)).drew) G) (H5.out : Rp (ghR w G).Tb _ K1) HL.out)
      clear hI2 hm2 hlen2 hz2 b1 b4 e1 e3 e4 e6 e6f f2
      go_wp2_with fail
      refine HON2.out.mono ?_
      rintro e w3 ⟨rfl, hst3, hk3⟩
      have HS3 := Lib.hid hst3; have HK3 := Lib.hid hk3
      clear hst3 hk3
      go_wp2_with fail
      go_end0
      exact ⟨rfl, G, by rw [← HX.out] at HM2 HI2; exact rinv_turns HI2.out HM2.out HK3.out HS3.out (.snoc HM2.out.turns HRP.out)⟩
  exact AllReadyH.nil
set_option maxHeartbeats 3200000 in
theorem cl_group (E : Env) (M : Md E) (fin : Fv) (w : World) (s : Am) (G : Gt) (hI : RInv E M fin w s G) {bw bp bi bt pw pi k : Nat} {t : Fv} {K1 : Ks} (h1 : (ghR w G).Bx bw 71 #[ptrV E.q]) (h2 : (ghR w G).Bx bp 75 #[.func (.func 143) #[] #[ptrV pw, ptrV pi]])
    (hpw : (ghR w G).Bx pw 71 #[ptrV E.q]) (hpi : (ghR w G).Bx pi 3 #[.int .i64 (k : Int)]) (h3 : (ghR w G).Bx bi 3 #[.int .i64 (k : Int)]) (h4 : (ghR w G).Bx bt 75 #[t.v]) (h5 : Rp (ghR w G).Tb t K1) (hk : k < 2 * (E.G + 1)) (i : Nat) (hi : i ≤ E.R.length) (hl : ((s.keep k i).push (.go K1 i)).left.length ≤ 4000000000000) :
    Calls Try.prog 118 #[.int .i64 i, ptrV bw, ptrV bp, ptrV bi, ptrV bt] w (After E M fin ((s.keep k i).push (.go K1 i))) := by
  obtain ⟨lv, mb, n, f, ev, bv, l, hm⟩ := hI.mem
  have hlen := hm.turns.len
  have hST := rm_st hI hm
  obtain ⟨hfit, hfl⟩ := hI.fit
  have hkl : k < s.fit.length := by omega
  obtain ⟨x, hx⟩ : ∃ x, s.fit.getD k 0 = x := ⟨_, rfl⟩
  have c6 : w.cell? ⟨E.fb, k, none⟩ = some (.int .i64 x) := by
    rw [hfit.cell k, ← hx]
    simp [fitC, hkl]
  have HON := Lib.hid (fun W hW => st_on_over hST (by simp [Am.push, Am.keep] at hl; omega) ⟨.func 143, #[], #[ptrV pw, ptrV pi]⟩ x W hW)
  have HI := Lib.hid hI; have HM := Lib.hid hm; have H5 := Lib.hid h5; have HL := Lib.hid hi; have HX := Lib.hid hx
  have HPT := Lib.hid (TurnR.put (E := E) (val := x) hpw hpi hk)
  have hF := turns_fine (E := E) hm.om hm.words
  have HF := Lib.hid hF
  have c1 := bx_cell h1; have c2 := bx_cell h2; have c3 := bx_cell h3; have c4 := bx_cell h4
  have n1 := bx_not hF h1; have n2 := bx_not hF h2; have n3 := bx_not hF h3; have n4 := bx_not hF h4
  have n6 : ¬ TurnsAt w E.q E.w0.heap.size E.fb := fun hA => by rcases hF.cells _ _ _ hA hfit with e | e <;> exact absurd e (by decide)
  obtain ⟨-, f1, -⟩ := om_ten hm.om
  have H1 := Lib.hid h1; have H3 := Lib.hid h3; have H4 := Lib.hid h4; have HFT := Lib.hid hfit; have HN6 := Lib.hid n6; have HKL := Lib.hid hkl; have HLL := Lib.hid (show l.length + 2 ≤ 4398046511104 by simp [Am.push, Am.keep] at hl; omega)
  have HB0 := Lib.hid (below_draws w 1)
  have HFL := Lib.hid hfl
  obtain ⟨G2, hG2⟩ : ∃ G2, 2 * (E.G + 1) = G2 := ⟨_, rfl⟩
  have hd : decide ((k : Int) < (G2 : Int)) = true := decide_eq_true (by omega)
  have hkG : k < G2 := by omega
  unfold Env.fv at f1
  rw [hG2] at f1
  have HG2 := Lib.hid hG2
  obtain ⟨tg, tf, tc⟩ := t
  clear hI hm h1 h2 h3 h4 h5 hpw hpi hl hlen hi hk hfit hfl hkl hx hST hF hG2
  go_enter Try.func118, Try.ntmps118
  go_upto_region 0 with (fail)
  refine wp_region_held_drew (S := fun w' => (Kp (TurnsAt w E.q E.w0.heap.size) w w') ∧ w'.cell? ⟨E.q, 1, none⟩ = some (.slice (some ⟨E.fb, 0, none⟩) G2 G2)) (by kernel_rfl) (⟨Kp.of_below ((Below.refl _ _).drew), f1⟩) (fun hHeld => ?_)
  refine wpAnyH_take (i := 0) (oi := _) (v := ?_) rfl (by kernel_rfl) (by kernel_rfl) (by kernel_rfl) (fun _ _ _ h => h) (Or.inl ⟨by rfl, ?_⟩) hHeld ?_
  rotate_left 1
  · (intro w hSw; (try dsimp only at hSw); have e0 := kp_cell hSw.1 c1 n1; have e1 := kp_cell hSw.1 c2 n2; have e2 := kp_cell hSw.1 c3 n3; have e3 := kp_cell hSw.1 c6 n6; have e4 := hSw.2; go_simp; (try with_reducible rfl))
  try simp only [List.getElem_toArray, List.getElem_cons_zero, Act.put, List.setIfInBounds_toArray, List.set_cons_zero, List.set_cons_succ]
  refine wpAnyH_take (i := 1) (oi := _) (v := ?_) rfl (by kernel_rfl) (by kernel_rfl) (by kernel_rfl) (fun _ _ _ h => h) (Or.inl ⟨by rfl, ?_⟩) hHeld ?_
  rotate_left 1
  · (intro w hSw; (try dsimp only at hSw); have e0 := kp_cell hSw.1 c1 n1; have e1 := kp_cell hSw.1 c2 n2; have e2 := kp_cell hSw.1 c3 n3; have e3 := kp_cell hSw.1 c6 n6; have e4 := hSw.2; go_simp; (try with_reducible rfl))
  try simp only [List.getElem_toArray, List.getElem_cons_zero, List.getElem_cons_succ, Act.put, List.setIfInBounds_toArray, List.set_cons_zero, List.set_cons_succ]
  refine wpAnyH_take (i := 2) (oi := _) (v := ?_) rfl (by kernel_rfl) (by kernel_rfl) (by kernel_rfl) (fun _ _ _ h => h) (Or.inl ⟨by rfl, ?_⟩) hHeld ?_
  rotate_left 1
  · (intro w hSw; (try dsimp only at hSw); have e0 := kp_cell hSw.1 c1 n1; have e1 := kp_cell hSw.1 c2 n2; have e2 := kp_cell hSw.1 c3 n3; have e3 := kp_cell hSw.1 c6 n6; have e4 := hSw.2; go_simp; (try with_reducible rfl))
  try simp only [List.getElem_toArray, List.getElem_cons_zero, List.getElem_cons_succ, Act.put, List.setIfInBounds_toArray, List.set_cons_zero, List.set_cons_succ]
  refine wpAnyH_take (i := 3) (oi := _) (v := ?_) rfl (by kernel_rfl) (by kernel_rfl) (by kernel_rfl) (fun _ _ _ h => h) (Or.inl ⟨by rfl, ?_⟩) hHeld ?_
  rotate_left 1
  · (intro w hSw; (try dsimp only at hSw); have e0 := kp_cell hSw.1 c1 n1; have e1 := kp_cell hSw.1 c2 n2; have e2 := kp_cell hSw.1 c3 n3; have e3 := kp_cell hSw.1 c6 n6; have e4 := hSw.2; go_simp; (try with_reducible rfl))
  try simp only [List.getElem_toArray, List.getElem_cons_zero, List.getElem_cons_succ, Act.put, List.setIfInBounds_toArray, List.set_cons_zero, List.set_cons_succ]
  refine wpAnyH_take (i := 4) (oi := _) (v := ?_) rfl (by kernel_rfl) (by kernel_rfl) (by kernel_rfl) (fun _ _ _ h => h) (Or.inl ⟨by rfl, ?_⟩) hHeld ?_
  rotate_left 1
  · (intro w hSw; (try dsimp only at hSw); have e0 := kp_cell hSw.1 c1 n1; have e1 := kp_cell hSw.1 c2 n2; have e2 := kp_cell hSw.1 c3 n3; have e3 := kp_cell hSw.1 c6 n6; have e4 := hSw.2; go_simp; (try with_reducible rfl))
  try simp only [List.getElem_toArray, List.getElem_cons_zero, List.getElem_cons_succ, Act.put, List.setIfInBounds_toArray, List.set_cons_zero, List.set_cons_succ]
  refine wpAnyH_take (i := 5) (oi := _) (v := ?_) rfl (by kernel_rfl) (by kernel_rfl) (by kernel_rfl) (fun _ _ _ h => h) (Or.inl ⟨by rfl, ?_⟩) hHeld ?_
  rotate_left 1
  · (intro w hSw; (try dsimp only at hSw); have e0 := kp_cell hSw.1 c1 n1; have e1 := kp_cell hSw.1 c2 n2; have e2 := kp_cell hSw.1 c3 n3; have e3 := kp_cell hSw.1 c6 n6; have e4 := hSw.2; go_simp; (try with_reducible rfl))
  try simp only [List.getElem_toArray, List.getElem_cons_zero, List.getElem_cons_succ, Act.put, List.setIfInBounds_toArray, List.set_cons_zero, List.set_cons_succ]
  refine wpAnyH_take (i := 6) (oi := _) (v := ?_) rfl (by kernel_rfl) (by kernel_rfl) (by kernel_rfl) (fun _ _ _ h => h) (Or.inl ⟨by rfl, ?_⟩) hHeld ?_
  rotate_left 1
  · (intro w hSw; (try dsimp only at hSw); have e0 := kp_cell hSw.1 c1 n1; have e1 := kp_cell hSw.1 c2 n2; have e2 := kp_cell hSw.1 c3 n3; have e3 := kp_cell hSw.1 c6 n6; have e4 := hSw.2; go_simp; (try with_reducible rfl))
  try simp only [List.getElem_toArray, List.getElem_cons_zero, List.getElem_cons_succ, Act.put, List.setIfInBounds_toArray, List.set_cons_zero, List.set_cons_succ]
  refine wpAnyH_take (i := 7) (oi := _) (v := ?_) rfl (by kernel_rfl) (by kernel_rfl) (by kernel_rfl) (fun _ _ _ h => h) (Or.inl ⟨by rfl, ?_⟩) hHeld ?_
  rotate_left 1
  · (intro w hSw; (try dsimp only at hSw); have e0 := kp_cell hSw.1 c1 n1; have e1 := kp_cell hSw.1 c2 n2; have e2 := kp_cell hSw.1 c3 n3; have e3 := kp_cell hSw.1 c6 n6; have e4 := hSw.2; go_simp; (try with_reducible rfl))
  try simp only [List.getElem_toArray, List.getElem_cons_zero, List.getElem_cons_succ, Act.put, List.setIfInBounds_toArray, List.set_cons_zero, List.set_cons_succ]
  refine wpAnyH_take (i := 8) (oi := _) (v := ?_) rfl (by kernel_rfl) (by kernel_rfl) (by kernel_rfl) (fun _ _ _ h => h) (Or.inl ⟨by rfl, ?_⟩) hHeld ?_
  rotate_left 1
  · (intro w hSw; (try dsimp only at hSw); have e0 := kp_cell hSw.1 c1 n1; have e1 := kp_cell hSw.1 c2 n2; have e2 := kp_cell hSw.1 c3 n3; have e3 := kp_cell hSw.1 c6 n6; have e4 := hSw.2; go_simp; (try with_reducible rfl))
  try simp only [List.getElem_toArray, List.getElem_cons_zero, List.getElem_cons_succ, Act.put, List.setIfInBounds_toArray, List.set_cons_zero, List.set_cons_succ]
  refine wpAnyH_ready (rs := [9]) (by kernel_rfl) (by simp) ?_
  refine AllReadyH.cons (o := _) rfl (fun K hK => ?_) ?_
  · go_simp
    refine (HON.out _ HB0.out).mono ?_
    rintro e w1 ⟨rfl, hst, hk⟩
    have HS := Lib.hid hst; have HK := Lib.hid hk
    clear hst hk
    go_wp2_with fail
    refine hK.out _ _ (⟨HK.out, fv_cell HS.out HG2.out⟩) (fun hHeld => ?_)
    clear hK K
    try simp only [List.getElem_toArray, List.getElem_cons_zero, List.getElem_cons_succ, Act.put, List.setIfInBounds_toArray, List.set_cons_zero, List.set_cons_succ]
    refine wpAnyH_done (by kernel_rfl) ?_ _
    have hI1 := rinv_turns (s := s) HI.out HM.out HK.out HS.out (.snoc HM.out.turns HPT.out)
    have hz := fine_kpz (G := G) HF.out HK.out
    have e1 := bx_cell ((ghR_move hz).bx _ _ _ (ct1 (by decide)) H1.out); have e3 := bx_cell ((ghR_move hz).bx _ _ _ ⟨by decide, fun _ => rfl⟩ H3.out); have e4 := bx_cell ((ghR_move hz).bx _ _ _ (ct1 (by decide)) H4.out)
    have E1 := Lib.hid ((ghR_move hz).bx _ _ _ (ct1 (by decide)) H1.out); have E4 := Lib.hid ((ghR_move hz).bx _ _ _ (ct1 (by decide)) H4.out)
    have hfit1 := hI1.fit.1
    have e6 : w1.cell? ⟨E.fb, k, none⟩ = some (.int .i64 x) := kp_cell HK.out c6 HN6.out
    have e6f := hfit1.free k
    have f2 : w1.cell? ⟨E.q, 1, none⟩ = some (.slice (some ⟨E.fb, 0, none⟩) G2 G2) := fv_cell HS.out HG2.out
    have HI1 := Lib.hid hI1; have HZ := Lib.hid hz
    clear hI1 hz hfit1 c1 c2 c3 c4 c6 n1 n2 n3 n4 n6 f1
    go_wp2_with fail
    go_region
    all_goals
      have hI2 : RInv E M fin ((w1.setCell ⟨E.fb, k, none⟩ (.int .i64 i)).drew) _ G := rinv_drew (rinv_fit HI1.out k i) 1
      have HI2 := Lib.hid hI2
      obtain ⟨lv2, mb2, n2, f2', ev2, bv2, l2, hm2⟩ := hI2.mem
      have hlen2 := hm2.turns.len
      have HON2 := Lib.hid (st_on (rm_st hI2 hm2) (by simp only [List.length_cons] at hlen2; have := HLL.out; have := HM.out.turns.len; omega) ⟨tg, tf, tc⟩ i)
      have HM2 := Lib.hid hm2
      have hz2 := HZ.out
      have b1 := E1.out; have b4 := E4.out
      have g1 := fit_cell (k := k) (v := i) HI1.out E1.out (by decide) rfl; have g4 := fit_cell (k := k) (v := i) HI1.out E4.out (by decide) rfl
      have HRP := Lib.hid (TurnR.go (E := E) (g := ghR ((w1.setCell ⟨E.fb, k, none⟩ (.int .i64 i)).drew) G) (H5.out : Rp (ghR w G).Tb _ K1) HL.out)
      clear hI2 hm2 hlen2 hz2 b1 b4 e1 e3 e4 e6 e6f f2
      go_wp2_with fail
      refine HON2.out.mono ?_
      rintro e w3 ⟨rfl, hst3, hk3⟩
      have HS3 := Lib.hid hst3; have HK3 := Lib.hid hk3
      clear hst3 hk3
      go_wp2_with fail
      go_end0
      exact ⟨rfl, G, by rw [← HX.out] at HM2 HI2; exact rinv_turns HI2.out HM2.out HK3.out HS3.out (.snoc HM2.out.turns HRP.out)⟩
  exact AllReadyH.nil
end Go.Proofs.Ytnemacejaiifnaa
/- A part that is gone on from once at each place, come to. No condition. -/
namespace Go.Proofs.Ytnemacejaiifnaa
open Go Go.RowKit

/-- A world that only grew. -/
theorem rinv_below {E : Env} {M : Md E} {fin : Fv} {w w' : World} {s : Am} {G : Gt} (h : RInv E M fin w s G) (hb : Below w.heap.size w w') : RInv E M fin w' s G := by
  obtain ⟨lv, mb, n, f, ev, bv, l, hm⟩ := h.mem
  have hc : ∀ {b : Nat} {o : Obj}, w.heap[b]? = some o → w'.heap[b]? = some o := fun {b o} hb' => (hb.block b (Array.getElem?_eq_some_iff.1 hb').1).trans hb'
  have hz : KpZ G w w' := ⟨hb.size, fun b t cs _ _ hb => hc hb⟩
  exact ⟨h.rd.then hb, ⟨lv, mb, n, f, ev, bv, l, hc hm.om, OwnTn.below hm.own hb, hm.turns.mono (ghR_move hz), hm.words.kept (hb.block mb hm.words.lt), hm.met, M.move hm.ed hb.size fun b t cs _ _ hb => hc hb, hm.base⟩, ⟨hc h.fit.1, h.fit.2⟩, h.tab.move hz fun z _ cs hw => hc hw, h.fb, M.fmono (ghR_move hz) ⟨[], by simp⟩ h.fbx⟩
theorem idsZ_count {G : Gt} {E : Env} {fin : Fv} {w : World} (h : Tab E fin w G) : (∀ a, G.N.count (some a) ≤ 1) ∧ G.N.length ≤ 99999999 := ⟨fun a => by have := h.own a; omega, by have := h.tot; omega⟩
set_option maxHeartbeats 1600000 in
theorem cl_once (E : Env) (M : Md E) (fin : Fv) (w : World) (s : Am) (G : Gt) (hI : RInv E M fin w s G) {b n t j a : Nat} {fo : Fv} (h1 : (ghR w G).Bx b 71 #[ptrV E.q]) (h2 : (ghR w G).Bx n 3 #[.int .i64 ((j + 1 : Nat) : Int)]) (h3 : (ghR w G).Bx t 75 #[fo.v]) (hj : G.N[j]? = some (some a)) (i : Nat) (hi : i ≤ E.R.length)
    (s' : Am) (hto : s.V a i = false → ∀ w', (ghR w G).le (ghR w' G) → RInv E M fin w' (s.mark a i) G → CallsV fo i w' (After E M fin s')) :
    Calls Try.prog 84 #[.int .i64 i, ptrV b, ptrV n, ptrV t] w (After E M fin (if s.V a i then s else s')) := by
  obtain ⟨lv, mb, nw, f, ev, bv, l, hm⟩ := hI.mem
  obtain ⟨hcn, hNl⟩ := idsZ_count hI.tab
  have hjl := (List.getElem?_eq_some_iff.1 hj).1
  have hi1 : i ≤ 1000 := Nat.le_trans hi hI.fb.2.2
  have hsm := hm.met.small
  have hbit := hm.met.here j a hj i hi1
  have HMT := Lib.hid (dmeet_any E.q mb nw f _ _ _ _ _ _ (j + 1) i (by omega) (by omega) w hm.om hm.words (by unfold maxLen; omega))
  have hF : ∀ w', w.grownBy w' (some mb) → KpZ G w w' := fun w' hg => ⟨hg.size, fun b t cs _ _ hb => (hg.block b (Array.getElem?_eq_some_iff.1 hb).1 (by
    intro e
    have e := Option.some.inj e
    subst e
    obtain ⟨es, clock, hmb⟩ := words_at hm.words
    unfold Whole at hb
    rw [hmb] at hb
    cases hb)).trans hb⟩
  have c1 := bx_cell h1; have c2 := bx_cell h2
  have HI := Lib.hid hI; have HM := Lib.hid hm; have HJ := Lib.hid hj; have HTO := Lib.hid hto; have H3 := Lib.hid h3; have HF := Lib.hid hF; have HCN := Lib.hid hcn; have HNL := Lib.hid hNl; have HI1 := Lib.hid hi1; have HBIT := Lib.hid hbit
  cases hV : s.V a i
  · have HV := Lib.hid hV
    have hb0 : bitAt f (j + 1) i = false := hbit.trans hV
    have HB0 := Lib.hid hb0
    clear hI hm h1 h2 h3 hj hjl hi hsm hbit hto hF hcn hNl hi1 hV hb0
    go_enter Try.func84, Try.ntmps84
    go_wp2_with fail
    refine HMT.out.mono ?_
    intro e w1 hp
    unfold MeetPost at hp
    rw [if_neg (by have := HB0.out; unfold bitAt at this; rw [this]; decide), put_same] at hp
    obtain ⟨rfl, hg, hw1⟩ := hp
    have hR1 : RInv E M fin w1 (s.mark a i) G := rinv_met HI.out HM.out hg hw1 (HM.out.met.mark HCN.out j a i HJ.out HNL.out HI1.out HV.out)
    have e3 := bx_cell ((ghR_move (HF.out w1 hg)).bx _ _ _ (ct1 (by decide)) H3.out)
    obtain ⟨g, hg', eg, hcall⟩ := HTO.out HV.out w1 (ghR_move (HF.out w1 hg)) hR1
    obtain ⟨fg, ff, fc⟩ := fo
    obtain rfl : fg = .func g := hg'
    have HCL := Lib.hid hcall
    clear hg hw1 hR1 hcall c1 c2
    go_wp2_with fail
    refine HCL.out.mono ?_
    rintro e w2 ⟨rfl, G', h⟩
    have H := Lib.hid h
    clear h e3
    go_wp2_with fail
    go_end0
    exact ⟨rfl, G', H.out⟩
  · have HV := Lib.hid hV
    have hb0 : bitAt f (j + 1) i = true := hbit.trans hV
    have HB0 := Lib.hid hb0
    clear hI hm h1 h2 h3 hj hjl hi hsm hbit hto hF hcn hNl hi1 hV hb0
    go_enter Try.func84, Try.ntmps84
    go_wp2_with fail
    refine HMT.out.mono ?_
    intro e w1 hp
    unfold MeetPost at hp
    rw [if_pos (by have := HB0.out; unfold bitAt at this; exact this)] at hp
    obtain ⟨rfl, hb⟩ := hp
    have HR1 := Lib.hid (rinv_below HI.out hb)
    clear hb c1 c2
    go_wp2_with fail
    go_end0
    exact ⟨rfl, G, HR1.out⟩
end Go.Proofs.Ytnemacejaiifnaa
/- A part that was still to be laid is laid: what is known of the parts grows. No condition. -/
namespace Go.Proofs.Ytnemacejaiifnaa
open Go Go.RowKit

theorem idsZ_split (Y : List Lzy) (z : Lzy) (hz : z ∈ Y) (a : Nat) : (idsZ (Y.filter fun y => y.b != z.b)).count a + (idsQ z.y).count a ≤ (idsZ Y).count a := by
  induction Y with
  | nil => cases hz
  | cons y Y ih =>
    have e : (idsZ (y :: Y)).count a = (idsQ y.y).count a + (idsZ Y).count a := by simp [idsZ]
    rw [e]
    have hle : ∀ Y : List Lzy, (idsZ (Y.filter fun y => y.b != z.b)).count a ≤ (idsZ Y).count a := by
      intro Y
      induction Y with
      | nil => simp [idsZ]
      | cons y Y ih2 =>
        have e : (idsZ (y :: Y)).count a = (idsQ y.y).count a + (idsZ Y).count a := by simp [idsZ]
        rw [e, List.filter_cons]
        split
        · have e : (idsZ (y :: Y.filter fun y => y.b != z.b)).count a = (idsQ y.y).count a + (idsZ (Y.filter fun y => y.b != z.b)).count a := by simp [idsZ]
          rw [e]
          omega
        · omega
    rcases List.mem_cons.1 hz with rfl | hz
    · rw [List.filter_cons]
      simp only [bne_self_eq_false, Bool.false_eq_true, if_false]
      have := hle Y
      omega
    · have := ih hz
      rw [List.filter_cons]
      split
      · have e : (idsZ (y :: Y.filter fun y => y.b != z.b)).count a = (idsQ y.y).count a + (idsZ (Y.filter fun y => y.b != z.b)).count a := by simp [idsZ]
        rw [e]
        omega
      · omega
theorem idsZ_len (Y : List Lzy) (z : Lzy) (hz : z ∈ Y) : (idsZ (Y.filter fun y => y.b != z.b)).length + (idsQ z.y).length ≤ (idsZ Y).length := by
  induction Y with
  | nil => cases hz
  | cons y Y ih =>
    have e : (idsZ (y :: Y)).length = (idsQ y.y).length + (idsZ Y).length := by simp [idsZ]
    rw [e]
    have hle : ∀ Y : List Lzy, (idsZ (Y.filter fun y => y.b != z.b)).length ≤ (idsZ Y).length := by
      intro Y
      induction Y with
      | nil => simp [idsZ]
      | cons y Y ih2 =>
        have e : (idsZ (y :: Y)).length = (idsQ y.y).length + (idsZ Y).length := by simp [idsZ]
        rw [e, List.filter_cons]
        split
        · have e : (idsZ (y :: Y.filter fun y => y.b != z.b)).length = (idsQ y.y).length + (idsZ (Y.filter fun y => y.b != z.b)).length := by simp [idsZ]
          rw [e]
          omega
        · omega
    rcases List.mem_cons.1 hz with rfl | hz
    · rw [List.filter_cons]
      simp only [bne_self_eq_false, Bool.false_eq_true, if_false]
      have := hle Y
      omega
    · have := ih hz
      rw [List.filter_cons]
      split
      · have e : (idsZ (y :: Y.filter fun y => y.b != z.b)).length = (idsQ y.y).length + (idsZ (Y.filter fun y => y.b != z.b)).length := by simp [idsZ]
        rw [e]
        omega
      · omega
theorem idsZ_app (A B : List Lzy) : idsZ (A ++ B) = idsZ A ++ idsZ B := by simp [idsZ]
theorem count_some (N : List Nat) (a : Nat) : (N.map some).count (some a) = N.count a := by
  induction N with
  | nil => rfl
  | cons x N ih => simp [List.count_cons, ih]
/-- What is known behind. -/
def Gt.more (G : Gt) (z : Lzy) (N : List Nat) (T : List (Fv × Ks)) (Z : List Lzy) : Gt := ⟨G.N ++ N.map some, G.T ++ T, G.Z ++ Z, (G.Y.filter fun y => y.b != z.b) ++ Z⟩
theorem rinv_laid {E : Env} {M : Md E} {fin : Fv} {w w' : World} {s : Am} {G : Gt} {lv : Value} {mb n : Nat} {f : Nat → Nat → Nat} {ev bv : Value} {l : List Tn} (h : RInv E M fin w s G) (hm : RM E M w s G lv mb n f ev bv l) {z : Lzy} (hzY : z ∈ G.Y) (hzn : Whole w z.b 75 #[.nilFunc]) {t : Fv} (ht : (t, z.K) ∈ G.T) {v : Fv} {N : List Nat} {T : List (Fv × Ks)} {Z : List Lzy}
    (hl : Laid E t z.K z.y G.N.length w v w' N T Z) (hO : Om w' E.q (ptrV E.ib) E.fv lv (.map (some mb)) ((G.N.length + N.length : Nat) : Int) ev bv) :
    RInv E M fin (w'.setCell ⟨z.b, 0, none⟩ v.v) s (G.more z N T Z) ∧ Rp (fun v k => (v, k) ∈ (G.more z N T Z).T) v (.q z.y :: z.K) ∧ v.g ≠ .func 155 ∧ Whole (w'.setCell ⟨z.b, 0, none⟩ v.v) z.b 75 #[v.v] := by
  have hzZ := h.tab.sub z hzY
  have hzb := h.tab.base z hzZ
  have hzlt := hzn.lt
  have hg := hl.grown
  have hs := hg.size
  obtain ⟨w2, hw2⟩ : ∃ w2, w'.setCell ⟨z.b, 0, none⟩ v.v = w2 := ⟨_, rfl⟩
  have hg2 : w'.grownBy w2 (some z.b) := by rw [← hw2]; exact grown_set _ _ _ _
  have hs2 : w2.heap.size = w'.heap.size := by rw [← hw2]; simp [World.setCell]
  have hzq : z.b ≠ E.q := fun e => by
    have h1 := hm.om
    rw [← e] at h1
    unfold Om Whole at h1
    unfold Whole at hzn
    rw [hzn] at h1
    injection h1 with h1
    injection h1 with _ h2
    exact absurd h2 (by decide)
  have hz' := kp_away hg hzn hzq
  have hz2 : Whole w2 z.b 75 #[v.v] := by have := hz'.store 0 v.v; rw [hw2] at this; exact this
  rw [hw2]
  have hk : ∀ {b : Nat} {o : Obj}, w.heap[b]? = some o → b ≠ E.q → b ≠ z.b → w2.heap[b]? = some o := fun {b o} hb h1 h2 =>
    (hg2.block b (by have := (Array.getElem?_eq_some_iff.1 hb).1; omega) (by intro e; exact h2 (Option.some.inj e))).trans ((hg.block b (Array.getElem?_eq_some_iff.1 hb).1 (by intro e; exact h1 (Option.some.inj e))).trans hb)
  have hnq : ∀ {b : Nat} {t : TypeId} {cs : Array Value}, w.heap[b]? = some (.cells cs t (0, 0)) → t ≠ 82 → b ≠ E.q := fun {b t cs} hb ht e => by
    subst e
    have h1 := hm.om
    unfold Om Whole at h1
    rw [hb] at h1
    injection h1 with h1
    injection h1 with _ h2
    exact ht h2
  have hnz : ∀ {b : Nat} {t : TypeId} {cs : Array Value}, w.heap[b]? = some (.cells cs t (0, 0)) → t ≠ 75 → b ≠ z.b := fun {b t cs} hb ht e => by
    subst e
    unfold Whole at hzn
    rw [hb] at hzn
    injection hzn with h1
    injection h1 with _ h2
    exact ht h2
  have hZlt : ∀ y ∈ G.Z, y.b < w.heap.size := fun y hy => by
    rcases h.tab.lazies y hy with ⟨-, h1, -⟩ | ⟨_, h1, -⟩
    · exact h1.lt
    · exact h1.lt
  have hZn : ∀ y ∈ Z, w.heap.size ≤ y.b := fun y hy => (hl.stage.lazies y hy).2.1
  have hle : (ghR w G).le (ghR w2 (G.more z N T Z)) := ⟨fun b t cs hct ⟨h1, h2, h3⟩ => ⟨hk h1 (hnq h1 hct.1.1) (fun e => h3 z hzZ e.symm), h2, fun y hy => by
      rcases List.mem_append.1 hy with hy | hy
      · exact h3 y hy
      · have := hZn y hy
        have := (show Whole w b t cs from h1).lt
        omega⟩, fun _ _ h => List.mem_append_left _ h, fun b x K ⟨y, hy, e⟩ => ⟨y, List.mem_append_left _ hy, e⟩, fun k a ⟨j, hj, e⟩ => ⟨j, by
      show (G.N ++ N.map some)[j]? = _
      rw [List.getElem?_append_left (List.getElem?_eq_some_iff.1 hj).1]; exact hj, e⟩⟩
  have hln : (ghOf (fun v k => v = t ∧ k = z.K) w.heap.size w'.heap.size G.N.length w' N T Z).le (ghR w2 (G.more z N T Z)) := ⟨fun b ty cs hct ⟨h1, h2, h3, h4⟩ => ⟨(hg2.block b h3 (by intro e; have := Option.some.inj e; omega)).trans h1, hct, fun y hy => by
      rcases List.mem_append.1 hy with hy | hy
      · have := hZlt y hy; omega
      · exact h4 y hy⟩, fun v k hv => by
      rcases hv with hv | ⟨rfl, rfl⟩
      · exact List.mem_append_right _ hv
      · exact List.mem_append_left _ ht, fun b x K ⟨y, hy, e⟩ => ⟨y, List.mem_append_right _ hy, e⟩, fun k a ⟨j, hj, e⟩ => ⟨G.N.length + j, by
      show (G.N ++ N.map some)[_]? = _
      rw [List.getElem?_append_right (by omega), Nat.add_sub_cancel_left]; simp [hj], by omega⟩⟩
  have hrp : Rp (fun v k => (v, k) ∈ (G.more z N T Z).T) v (.q z.y :: z.K) := hl.rep.mono fun _ _ h => List.mem_append_right _ h
  refine ⟨⟨⟨⟨hg2.os.trans (hg.os.trans h.rd.below.os), hg2.tape.trans (hg.tape.trans h.rd.below.tape), hg2.output.trans (hg.output.trans h.rd.below.output), by have := h.rd.below.size; omega, fun i hi => ?_⟩, h.rd.q⟩, ⟨lv, mb, n, f, ev, bv, l, ?_, ?_, hm.turns.mono hle, ?_, ?_, ?_, hm.base⟩, ⟨hk h.fit.1 (hnq h.fit.1 (by decide)) (hnz h.fit.1 (by decide)), h.fit.2⟩, ?_, h.fb, M.fmono hle ⟨N, rfl⟩ h.fbx⟩, hrp, hl.nl, hz2⟩
  · have hi2 := h.rd.below.size
    exact (hg2.block i (by omega) (by intro e; have := Option.some.inj e; omega)).trans ((hg.block i (by omega) (by intro e; have := Option.some.inj e; have := h.rd.q; omega)).trans (h.rd.below.block i hi))
  · have e : ((G.more z N T Z).N.length : Int) = ((G.N.length + N.length : Nat) : Int) := by simp [Gt.more]
    rw [e]
    exact kp_away hg2 hO (fun e => hzq e.symm)
  · refine World.ownsRow.kept (World.ownsRow.kept hm.own hg ?_) hg2 ?_
    all_goals
      rcases hm.own.2 with ⟨e, -⟩ | ⟨g, cap, cur, e, -, hh, -⟩
      · rw [e]; exact .inl rfl
      · right
        rw [e]
        intro e2
        have e3 := Option.some.inj (show some g = some _ from e2)
        first
          | exact hnq hh (by decide) e3
          | exact hnz hh (by decide) e3
  · obtain ⟨es, clock, hmb⟩ := words_at hm.words
    refine hm.words.kept ((hk hmb (fun e => ?_) (fun e => ?_)).trans hmb.symm)
    · subst e
      have h1 := hm.om
      unfold Om Whole at h1
      rw [hmb] at h1
      cases h1
    · subst e
      unfold Whole at hzn
      rw [hmb] at hzn
      cases hzn
  · have hm1 := hm.met
    have hnew : ∀ j a, (N.map some)[j]? = some (some a) → some a ∉ G.N := fun j a hj hmem => by
      have h1 : a ∈ N := by
        have := List.mem_of_getElem? hj
        simpa using this
      have h2 := hl.count a
      have h3 := List.count_pos_iff.2 h1
      have h4 := idsZ_split G.Y z hzY a
      have h5 := h.tab.own a
      have h6 := List.count_pos_iff.2 hmem
      omega
    refine ⟨fun j a hj i hi => ?_, fun j hj i hi => ?_, fun k hk r => hm1.out k (by simp [Gt.more] at hk; omega) r, fun a ha i => hm1.free a (fun hh => ha (List.mem_append_left _ hh)) i, hm1.cnt⟩
    · have hj' : (G.N ++ N.map some)[j]? = some (some a) := hj
      by_cases hlt : j < G.N.length
      · rw [List.getElem?_append_left hlt] at hj'
        exact hm1.here j a hj' i hi
      · rw [List.getElem?_append_right (by omega)] at hj'
        have e : bitAt f (j + 1) i = false := by
          unfold bitAt
          rw [hm1.out (j + 1) (by omega)]
          simp
        rw [e, hm1.free a (hnew _ a hj') i]
    · have hj' : (G.N ++ N.map some)[j]? = some none := hj
      by_cases hlt : j < G.N.length
      · rw [List.getElem?_append_left hlt] at hj'
        exact hm1.fin j hj' i hi
      · rw [List.getElem?_append_right (by omega)] at hj'
        simp at hj'
  · exact M.move hm.ed (by omega) fun b t cs ht' _ hb => hk hb (hnq hb (by rcases ht' with rfl | rfl <;> decide)) (hnz hb (by rcases ht' with rfl | rfl <;> decide))
  · refine ⟨fun p hp => ?_, fun y hy => ?_, fun y hy => ?_, ?_, fun a => ?_, ?_, fun y hy => ?_⟩
    · rcases List.mem_append.1 hp with hp | hp
      · exact (h.tab.locs p hp).imp id fun h => h.mono hle
      · exact .inr ((hl.stage.locs p hp).mono hln)
    · rcases List.mem_append.1 hy with hy | hy
      · by_cases hyz : y.b = z.b
        · right
          have : y = z := nodup_inj h.tab.nodup hy hzZ hyz
          subst this
          exact ⟨v, hz2, hrp, hl.nl⟩
        · rcases h.tab.lazies y hy with ⟨a, b, c⟩ | ⟨v', a, b, c⟩
          · exact .inl ⟨List.mem_append_left _ (List.mem_filter.2 ⟨a, by simpa using hyz⟩), hk b (hnq b (by decide)) hyz, c.mono hle⟩
          · exact .inr ⟨v', hk a (hnq a (by decide)) hyz, b.mono fun _ _ h => List.mem_append_left _ h, c⟩
      · obtain ⟨a, b, c, d⟩ := hl.stage.lazies y hy
        exact .inl ⟨List.mem_append_right _ hy, (hg2.block y.b c (by intro e; have := Option.some.inj e; omega)).trans a, d.mono hln⟩
    · rcases List.mem_append.1 hy with hy | hy
      · exact List.mem_append_left _ (h.tab.sub y (List.mem_filter.1 hy).1)
      · exact List.mem_append_right _ hy
    · show ((G.Z ++ Z).map Lzy.b).Nodup
      rw [List.map_append]
      refine List.nodup_append.2 ⟨h.tab.nodup, hl.stage.nodup, fun a ha b hb => ?_⟩
      obtain ⟨y, hy, rfl⟩ := List.mem_map.1 ha
      obtain ⟨y', hy', rfl⟩ := List.mem_map.1 hb
      have := hZlt y hy
      have := hZn y' hy'
      omega
    · show (G.N ++ N.map some).count (some a) + (idsZ ((G.Y.filter fun y => y.b != z.b) ++ Z)).count a ≤ 1
      rw [List.count_append, idsZ_app, List.count_append, count_some]
      have h1 := hl.count a
      have h2 := idsZ_split G.Y z hzY a
      have h3 := h.tab.own a
      omega
    · show (G.N ++ N.map some).length + (idsZ ((G.Y.filter fun y => y.b != z.b) ++ Z)).length ≤ _
      rw [List.length_append, idsZ_app, List.length_append, List.length_map]
      have h1 := ids_len hl.count
      have h2 := idsZ_len G.Y z hzY
      have h3 := h.tab.tot
      omega
    · rcases List.mem_append.1 hy with hy | hy
      · exact h.tab.base y hy
      · have := hZn y hy
        have := h.rd.below.size
        omega
where
  nodup_inj {L : List Lzy} (hn : (L.map Lzy.b).Nodup) {x y : Lzy} (hx : x ∈ L) (hy : y ∈ L) (e : x.b = y.b) : x = y := by
    induction L with
    | nil => cases hx
    | cons c L ih =>
      simp only [List.map_cons, List.nodup_cons] at hn
      rcases List.mem_cons.1 hx with hx | hx <;> rcases List.mem_cons.1 hy with hy | hy
      · rw [hx, hy]
      · exact absurd (List.mem_map_of_mem (f := Lzy.b) hy) (by rw [← e, hx]; exact hn.1)
      · exact absurd (List.mem_map_of_mem (f := Lzy.b) hx) (by rw [e, hy]; exact hn.1)
      · exact ih hn.2 hx hy
end Go.Proofs.Ytnemacejaiifnaa
/- What a part that is still to be laid runs, when it is come to. No condition. -/
namespace Go.Proofs.Ytnemacejaiifnaa
open Go Go.RowKit

/-- A list of trees behind its first. -/
theorem KP.tail {w0 : World} {b o n c : Nat} {k : Tr} {ks : List Tr} (h : KP w0 (.slice (some ⟨b, o, none⟩) n c) (k :: ks)) : n = ks.length + 1 ∧ ks.length + 1 ≤ c ∧ c ≤ maxLen ∧ ∀ A : Option Addr, (ks ≠ [] → A = some ⟨b, o + 10, none⟩) → (A = none → c - 1 = 0) → KP w0 (.slice A ks.length (c - 1)) ks := by
  obtain ⟨A', c', e, h2, h3, h4, h5, h6⟩ := h
  injection e with e1 e2 e3
  subst e1 e2 e3
  simp only [List.length_cons] at h2 h4
  refine ⟨rfl, h2, h3, fun A hA hA0 => ⟨A, c - 1, rfl, by omega, by omega, by omega, hA0, ?_⟩⟩
  by_cases hk : ks = []
  · exact .inl hk
  · rcases h6 with h6 | ⟨b', o', e, -, hc⟩
    · cases h6
    · injection e with e
      injection e with e1 e2
      subst e1 e2
      refine .inr ⟨b, o + 10, hA hk, trivial, fun i hi => ?_⟩
      obtain ⟨cs, k1, k2⟩ := hc (i + 1) (by simp only [List.length_cons]; omega)
      exact ⟨cs, by rw [show o + 10 + i * 10 = o + (i + 1) * 10 by omega]; exact k1, k2⟩
theorem bx_ne {E : Env} {w : World} {G : Gt} {inp fv lv mv pv ev bv : Value} {b : Nat} {t : TypeId} {cs : Array Value} (hO : Whole w E.q 82 #[inp, fv, lv, mv, pv, ev, bv]) (k : (ghR w G).Bx b t cs) : b ≠ E.q := fun e => by
  have h1 := k.1
  subst e
  unfold Whole at h1 hO
  rw [hO] at h1
  injection h1 with h1
  injection h1 with _ h2
  exact k.2.1.1.1 h2.symm
/-- How a thunk is run. -/
def CallsT (x : Fv) (w : World) (Q : Ending → World → Prop) : Prop := ∃ g, x.g = .func g ∧ (∀ args w, (callFunc g args).run Try.prog w = .ok (.enter g args) w) ∧ Calls Try.prog g (x.f ++ x.c) w Q
set_option maxHeartbeats 1600000 in
theorem cl_row (E : Env) {G : Gt} {b : Nat} {kv : Value} {k : Tr} {ks : List Tr} {y : Q} {t : Fv} {K : Ks} {inp fv lv mv : Value} {n0 : Nat} {ev bv : Value} (w : World) [Nonempty (FitOk E fv)] (h1 : (ghR w G).Bx b 71 #[ptrV E.q]) (h2 : (ghR w G).Bx (b + 1) 23 #[kv]) (h3 : (ghR w G).Bx (b + 2) 75 #[t.v])
    (hK : KP E.w0 kv (k :: ks)) (hM : RowM (Mat E.R E.G) ks y) (hs : ∀ x ∈ ks, ShapedP x) (hr : Rd E w) (hO : Om w E.q inp fv lv mv n0 ev bv) (hn : n0 + (idsQ y).length ≤ 100000000) :
    Calls Try.prog 125 #[ptrV b, ptrV (b + 1), ptrV (b + 2)] w (LayPost E t K y inp fv lv mv n0 ev bv w) := by
  obtain ⟨kb, ko, kc, hkv, -⟩ := hK.one
  subst hkv
  obtain ⟨hl, hc, hc2, hKT⟩ := hK.tail
  have c1 := bx_cell h1; have c2 := bx_cell h2; have c3 := bx_cell h3
  have HT := Lib.hid (fun W (hW : Below w.heap.size w W) => (drow_all E y (.slice (if kc = 1 then some ⟨kb, ko, none⟩ else some ⟨kb, ko + 10, none⟩) ks.length (kc - 1)) ks t K inp fv lv mv n0 ev bv W (hKT _ (fun h => if_neg (by have := List.length_pos_iff.2 h; omega)) fun h => by split at h <;> cases h) hs hM (hr.then hW) (hO.below hW hO.lt) hn).mono fun e w' h => lay_from hW h)
  obtain ⟨A0, hA0⟩ : ∃ A0 : Option Addr, (if kc = 1 then some ⟨kb, ko, none⟩ else some ⟨kb, ko + 10, none⟩) = A0 := ⟨_, rfl⟩
  rw [hA0] at HT
  obtain ⟨tg, tf, tc⟩ := t
  have q1 := bx_ne hO h1; have q2 := bx_ne hO h2; have q3 := bx_ne hO h3
  obtain ⟨n, hn'⟩ : ∃ n, (k :: ks).length = n := ⟨_, rfl⟩
  rw [hn'] at c2 h2
  have HC := Lib.hid (fun (w' : World) (hg : w.grownBy w' (some E.q)) => show w'.cell? ⟨b, 0, none⟩ = some (ptrV E.q) ∧ w'.cell? ⟨b + 1, 0, none⟩ = some (.slice (some ⟨kb, ko, none⟩) n kc) ∧ w'.cell? ⟨b + 2, 0, none⟩ = some (.func tg tf tc) from
    ⟨(kp_away hg h1.1 q1).cell 0, (kp_away hg h2.1 q2).cell 0, (kp_away hg h3.1 q3).cell 0⟩)
  have g1 : (1 : Int) ≤ (n : Nat) := by rw [← hn']; simp only [List.length_cons]; omega
  have HN := Lib.hid hn'
  have e0 : ks.length = n - 1 := by rw [← hn']; simp
  rw [e0] at HT
  have hnc : n ≤ kc := by rw [← hn']; exact hc
  clear e0 hl hc hn' q1 q2 q3
  clear h1 h2 h3 hK hM hs hr hO hn hKT
  go_enter Try.func125, Try.ntmps125
  go_wp2_with fail
  -- ROW
  refine wp_region_held_drew (S := fun w' => w'.cell? ⟨b, 0, none⟩ = some (ptrV E.q) ∧ w'.cell? ⟨b + 1, 0, none⟩ = some (.slice (some ⟨kb, ko, none⟩) n kc) ∧ w'.cell? ⟨b + 2, 0, none⟩ = some (.func tg tf tc)) (by kernel_rfl) (⟨c1, c2, c3⟩) (fun hHeld => ?_)
  refine wpAnyH_take (i := 0) (oi := _) (v := ?_) rfl (by kernel_rfl) (by kernel_rfl) (by kernel_rfl) (fun _ _ _ h => h) (Or.inl ⟨by rfl, ?_⟩) hHeld ?_
  rotate_left 1
  · (intro w hSw; (try dsimp only at hSw); have e0 := hSw.1; have e1 := hSw.2.1; have e2 := hSw.2.2; go_simp; (try with_reducible rfl))
  try simp only [List.getElem_toArray, List.getElem_cons_zero, Act.put, List.setIfInBounds_toArray, List.set_cons_zero, List.set_cons_succ]
  refine wpAnyH_take (i := 1) (oi := _) (v := ?_) rfl (by kernel_rfl) (by kernel_rfl) (by kernel_rfl) (fun _ _ _ h => h) (Or.inl ⟨by rfl, ?_⟩) hHeld ?_
  rotate_left 1
  · (intro w hSw; (try dsimp only at hSw); have e0 := hSw.1; have e1 := hSw.2.1; have e2 := hSw.2.2; go_simp; (try with_reducible rfl))
  try simp only [List.getElem_toArray, List.getElem_cons_zero, List.getElem_cons_succ, Act.put, List.setIfInBounds_toArray, List.set_cons_zero, List.set_cons_succ]
  refine wpAnyH_take (i := 2) (oi := _) (v := ?_) rfl (by kernel_rfl) (by kernel_rfl) (by kernel_rfl) (fun _ _ _ h => h) (Or.inl ⟨by rfl, ?_⟩) hHeld ?_
  rotate_left 1
  · (intro w hSw; (try dsimp only at hSw); have e0 := hSw.1; have e1 := hSw.2.1; have e2 := hSw.2.2; go_simp; (try with_reducible rfl))
  try simp only [List.getElem_toArray, List.getElem_cons_zero, List.getElem_cons_succ, Act.put, List.setIfInBounds_toArray, List.set_cons_zero, List.set_cons_succ]
  refine wpAnyH_take (i := 3) (oi := _) (v := ?_) rfl (by kernel_rfl) (by kernel_rfl) (by kernel_rfl) (fun _ _ _ h => h) (Or.inl ⟨by rfl, ?_⟩) hHeld ?_
  rotate_left 1
  · (intro w hSw; (try dsimp only at hSw); have e0 := hSw.1; have e1 := hSw.2.1; have e2 := hSw.2.2; go_simp; (try with_reducible rfl))
  try simp only [List.getElem_toArray, List.getElem_cons_zero, List.getElem_cons_succ, Act.put, List.setIfInBounds_toArray, List.set_cons_zero, List.set_cons_succ]
  refine wpAnyH_ready (rs := [4]) (by kernel_rfl) (by simp) ?_
  refine AllReadyH.cons (o := _) rfl (fun K hK => ?_) ?_
  · go_simp
    refine (HT.out _ (below_draws w 1)).mono ?_
    intro e w4 hp
    have hg := Lib.hid (lay_grows hp)
    obtain ⟨⟨vg, vf, vc⟩, he, H⟩ := lay_value hp
    obtain rfl : e = .returned (.func vg vf vc) := he
    replace H := Lib.hid H
    clear hp
    go_wp2_with fail
    refine hK.out _ _ (HC.out _ hg.out) (fun hHeld => ?_)
    clear hK K
    try simp only [List.getElem_toArray, List.getElem_cons_zero, List.getElem_cons_succ, Act.put, List.setIfInBounds_toArray, List.set_cons_zero, List.set_cons_succ]
    refine wpAnyH_take (i := 5) (oi := _) (v := ?_) rfl (by kernel_rfl) (by kernel_rfl) (by kernel_rfl) (fun _ _ _ h => h) (Or.inl ⟨by rfl, ?_⟩) hHeld ?_
    rotate_left 1
    · (intro w hSw; (try dsimp only at hSw); have e0 := hSw.1; have e1 := hSw.2.1; have e2 := hSw.2.2; go_simp; (try with_reducible rfl))
    try simp only [List.getElem_toArray, List.getElem_cons_zero, List.getElem_cons_succ, Act.put, List.setIfInBounds_toArray, List.set_cons_zero, List.set_cons_succ]
    refine wpAnyH_done (by kernel_rfl) ?_ _
    go_wp2_with fail
    go_ret
    exact H.out
  exact AllReadyH.nil
  -- END
set_option maxHeartbeats 1600000 in
theorem cl_rep (E : Env) {G : Gt} {b pb po : Nat} {x k : Tr} {l h : Int} {y : Q} {t : Fv} {K : Ks} {inp fv lv mv : Value} {n0 : Nat} {ev bv : Value} (w : World) [Nonempty (FitOk E fv)] (h1 : (ghR w G).Bx b 71 #[ptrV E.q]) (h2 : (ghR w G).Bx (b + 1) 77 #[.pointer (some ⟨pb, po, none⟩)]) (h3 : (ghR w G).Bx (b + 2) 3 #[.int .i64 l]) (h4 : (ghR w G).Bx (b + 3) 3 #[.int .i64 h]) (h5 : (ghR w G).Bx (b + 4) 75 #[t.v])
    (hT : TP E.w0 pb po x) (hk : x.kids = [k]) (hs : ShapedP k) (hl0 : 0 ≤ l) (hl : l ≤ 1000) (hhl : -3000 ≤ h - l) (hh : h ≤ 1000) (hM : RepM (Mat E.R E.G k) (k.kids = []) x.fld.lazy (max (l - 1) 0) (h - 1) y) (hr : Rd E w) (hO : Om w E.q inp fv lv mv n0 ev bv) (hn : n0 + (idsQ y).length ≤ 100000000) :
    Calls Try.prog 124 #[ptrV b, ptrV (b + 1), ptrV (b + 2), ptrV (b + 3), ptrV (b + 4)] w (LayPost E t K y inp fv lv mv n0 ev bv w) := by
  have c1 := bx_cell h1; have c2 := bx_cell h2; have c3 := bx_cell h3; have c4 := bx_cell h4; have c5 := bx_cell h5
  obtain ⟨m, hm⟩ : ∃ m, max (l - 1) 0 = m := ⟨_, rfl⟩
  rw [hm] at hM
  have HT := Lib.hid (show Calls Try.prog 81 #[ptrV E.q, .pointer (some ⟨pb, po, none⟩), .int .i64 m, .int .i64 (h - 1), t.v] w (LayPost E t K y inp fv lv mv n0 ev bv w) from by
    by_cases hb : -3000 ≤ h - 1 - m
    · exact drep_all E y pb po x k m (h - 1) t K inp fv lv mv n0 ev bv w hT hk hs hM ⟨by omega, by omega, hb, by omega⟩ hr hO hn
    · have hm0 : m = 0 := by omega
      have hh0 : h - 1 < 0 := by omega
      obtain ⟨h', hh'⟩ : ∃ h', h - 1 = h' := ⟨_, rfl⟩
      rw [hh'] at hM hh0 ⊢
      cases hM with
      | done => omega
      | star h1 h2 => exact drep_star E _ _ (dlay_any E _) pb po x k 0 h' t K inp fv lv mv n0 ev bv w hT hk hr hO rfl h1 hs h2 hn
      | plus h1 h2 => omega
      | opt h1 h2 h3 h4 => omega
      | more h1 h2 h3 h4 h5 h6 => omega)
  obtain ⟨tg, tf, tc⟩ := t
  have e1 : IntKind.i64.wrap (l - 1) = l - 1 := (IntWalk.i64_left _).trans (IntWalk.wrap64_in _ ⟨by omega, by omega⟩)
  have e2 : IntKind.i64.wrap (h - 1) = h - 1 := (IntWalk.i64_left _).trans (IntWalk.wrap64_in _ ⟨by omega, by omega⟩)
  clear h1 h2 h3 h4 h5 hM hs hr hO hn hT hk
  go_enter Try.func124, Try.ntmps124
  go_wp2_with fail
  · have e0 : max (l - 1) 0 = 0 := by omega
    rw [hm] at e0
    rw [e0] at HT
    refine HT.out.mono ?_
    intro e w4 hp
    obtain ⟨⟨vg, vf, vc⟩, he, H⟩ := lay_value hp
    obtain rfl : e = .returned (.func vg vf vc) := he
    replace H := Lib.hid H
    clear hp e0
    go_wp2_with fail
    go_ret
    exact H.out
  · have e0 : max (l - 1) 0 = l - 1 := by omega
    rw [hm] at e0
    rw [e0] at HT
    refine HT.out.mono ?_
    intro e w4 hp
    obtain ⟨⟨vg, vf, vc⟩, he, H⟩ := lay_value hp
    obtain rfl : e = .returned (.func vg vf vc) := he
    replace H := Lib.hid H
    clear hp e0
    go_wp2_with fail
    go_ret
    exact H.out
end Go.Proofs.Ytnemacejaiifnaa
/- A part that is laid when it is come to. No condition. -/
namespace Go.Proofs.Ytnemacejaiifnaa
open Go Go.RowKit

theorem cl_thunk (E : Env) {G : Gt} {x : Fv} {y : Q} {K : Ks} {inp fv lv mv : Value} {n0 : Nat} {ev bv : Value} (w : World) [Nonempty (FitOk E fv)] (h : Thunk E (ghR w G) x y K) (hr : Rd E w) (hO : Om w E.q inp fv lv mv n0 ev bv) (hn : n0 + (idsQ y).length ≤ 100000000) :
    CallsT x w fun e w' => ∃ t : Fv, (t, K) ∈ G.T ∧ LayPost E t K y inp fv lv mv n0 ev bv w e w' := by
  cases h with
  | @row b kv k ks y t K h1 h2 h3 h4 h5 h6 h7 =>
    exact ⟨_, rfl, enters_of Try.func125 (by kernel_rfl) rfl, (cl_row E w h1 h2 h3 h4 h5 h7 hr hO hn).mono fun e w' h => ⟨t, h6, h⟩⟩
  | @rep b pb po x k l h y t K h1 h2 h3 h4 h5 h6 h7 h8 h9 h10 h11 h12 h13 h14 =>
    exact ⟨_, rfl, enters_of Try.func124 (by kernel_rfl) rfl, (cl_rep E w h1 h2 h3 h4 h5 h6 h7 h8 h9 h10 h11 h12 h13 hr hO hn).mono fun e w' h => ⟨t, h14, h⟩⟩
theorem idsZ_in (Y : List Lzy) (z : Lzy) (hz : z ∈ Y) : (idsQ z.y).length ≤ (idsZ Y).length := by
  have := idsZ_len Y z hz
  omega
theorem nil_eq (w : World) : (binOp BinOp.eql 75 .nilFunc .nilFunc).run Try.prog w = .ok (.bool true) w := by kernel_rfl
theorem nil_ne (g : Fn) (f c : Array Value) (w : World) : (binOp BinOp.eql 75 (.func g f c) .nilFunc).run Try.prog w = .ok (.bool false) w := by kernel_rfl
set_option maxHeartbeats 1600000 in
theorem cl_later (E : Env) (M : Md E) (fin : Fv) (w : World) (s : Am) (G : Gt) (hI : RInv E M fin w s G) {l : Nat} {z : Lzy} (h1 : (ghR w G).Bx l 157 #[z.x.v]) (hz : z ∈ G.Z) (i : Nat) (s' : Am)
    (hto : ∀ w' G' v, RInv E M fin w' s G' → Rp (fun v k => (v, k) ∈ G'.T) v (.q z.y :: z.K) → v.g ≠ .func 155 → CallsV v i w' (After E M fin s')) :
    Calls Try.prog 155 #[.int .i64 i, ptrV z.b, ptrV l] w (After E M fin s') := by
  rcases hI.tab.lazies z hz with ⟨hY, hb, hT⟩ | ⟨v, hb, hv, hvn⟩
  · obtain ⟨lv, mb, n, f, ev, bv, l', hm⟩ := hI.mem
    have hfo : Nonempty (FitOk E E.fv) := ⟨rfl, hI.fb.2.1⟩
    have hids := idsZ_in G.Y z hY
    have htot := hI.tab.tot
    obtain ⟨g, hg, eg, hcall⟩ := cl_thunk E w hT hI.rd hm.om (by omega)
    have c1 := bx_cell h1
    have c2 : w.cell? ⟨z.b, 0, none⟩ = some .nilFunc := (hb.cell 0).trans rfl
    have HB := Lib.hid hb; have HI := Lib.hid hI; have HM := Lib.hid hm; have HTO := Lib.hid hto; have HZ := Lib.hid hz; have HY := Lib.hid hY; have HC := Lib.hid hcall; have HEG := Lib.hid eg; have H1 := Lib.hid h1
    have hzq := Lib.hid (show z.b ≠ E.q from fun e => by
      have h1 := hm.om
      rw [← e] at h1
      unfold Om Whole at h1
      unfold Whole at hb
      rw [hb] at h1
      injection h1 with h1
      injection h1 with _ h2
      exact absurd h2 (by decide))
    obtain ⟨zb, ⟨xg, xf, xc⟩, zy, zK⟩ := z
    obtain rfl : xg = .func g := hg
    clear hI hm h1 hb hT hz hY hto hids htot hcall hfo
    have k1 := nil_eq
    have k2 := nil_ne
    go_enter Try.func155, Try.ntmps155
    go_wp2_with fail
    refine HC.out.mono ?_
    rintro e w4 ⟨t, ht, ⟨vg, vf, vc⟩, N, T, Z, he, hl, ho⟩
    obtain rfl : e = .returned (.func vg vf vc) := he
    obtain ⟨hI', hrp, hvn, hb'⟩ := rinv_laid HI.out HM.out HY.out HB.out ht hl ho
    obtain ⟨g', hg', eg', hcall'⟩ := HTO.out _ _ _ hI' hrp hvn
    have hb4 := kp_away hl.grown HB.out hzq.out
    have c3 : w4.cell? ⟨zb, 0, none⟩ = some .nilFunc := (hb4.cell 0).trans rfl
    have c3f := hb4.free 0
    have c4 : (w4.setCell ⟨zb, 0, none⟩ (Fv.v ⟨vg, vf, vc⟩)).cell? ⟨zb, 0, none⟩ = some (.func vg vf vc) := (hb'.cell 0).trans rfl
    obtain rfl : vg = .func g' := hg'
    have HC2 := Lib.hid hcall'
    clear hI' hrp hvn hb' hcall' hl ho ht hb4 c1 c2
    go_wp2_with fail
    refine HC2.out.mono ?_
    rintro e w5 ⟨rfl, G', h⟩
    have H := Lib.hid h
    clear h c3 c4
    go_wp2_with fail
    go_end0
    exact ⟨rfl, G', H.out⟩
  · have c1 := bx_cell h1
    obtain ⟨g, hg, eg, hcall⟩ := hto w G v hI hv hvn
    obtain ⟨vg, vf, vc⟩ := v
    obtain rfl : vg = .func g := hg
    have c2 : w.cell? ⟨z.b, 0, none⟩ = some (.func (.func g) vf vc) := (hb.cell 0).trans rfl
    have HC := Lib.hid hcall
    clear hI h1 hb hv hz hto hcall hvn
    have k1 := nil_eq
    have k2 := nil_ne
    go_enter Try.func155, Try.ntmps155
    go_wp2_with fail
    refine HC.out.mono ?_
    rintro e w2 ⟨rfl, G', h⟩
    have H := Lib.hid h
    clear h c1 c2
    go_wp2_with fail
    go_end0
    exact ⟨rfl, G', H.out⟩
end Go.Proofs.Ytnemacejaiifnaa
/- What a place, a rune must be, where a way comes to. Written by gen11say.py. No condition. -/
namespace Go.Proofs.Ytnemacejaiifnaa
open Go Go.RowKit

/-- The input that ways are gone through. -/
def InE (E : Env) : Prop := ∃ B k, In E.w0 B k E.s E.ib
theorem InE.rd {E : Env} {w : World} (h : InE E) (hr : Rd E w) : ∃ B k, In w B k E.s E.ib := by
  obtain ⟨B, k, h⟩ := h
  exact ⟨B, k, h.below hr.below⟩
/-- One turn more. -/
theorem cl_push {E : Env} {M : Md E} {fin : Fv} {w : World} {s : Am} {G : Gt} (hI : RInv E M fin w s G) {t : Fv} {K : Ks} (h3 : Rp (ghR w G).Tb t K) (i : Nat) (hi : i ≤ E.R.length) (hl : s.left.length + 1 ≤ 4000000000000) :
    Calls Try.prog 69 #[ptrV E.q, t.v, .int .i64 (i : Nat)] w (After E M fin (s.push (.go K i))) := by
  obtain ⟨lv, mb, n, f, ev, bv, l, hm⟩ := hI.mem
  have hlen := hm.turns.len
  refine (st_on (rm_st hI hm) (by omega) t i).mono ?_
  rintro e w' ⟨rfl, hst, hk⟩
  exact ⟨rfl, G, rinv_turns hI hm hk hst (.snoc hm.turns (.go h3 hi))⟩
theorem in_cells {w : World} {B : Nat} {k : Int} {s : ByteArray} {b : Nat} (h : In w B k s b) : ∃ u, w.cell? ⟨b, 1, none⟩ = some u := by
  obtain ⟨_, _, a, c, a', c', h1, _, _⟩ := h
  exact ⟨_, h1.cell 1⟩
set_option maxHeartbeats 1600000 in
theorem cl_stand (E : Env) (M : Md E) (fin : Fv) (w : World) (s : Am) (G : Gt) (hI : RInv E M fin w s G) (hIn : InE E) {bw ba bt : Nat} {a : Int} {t : Fv} {K : Ks} (h1 : (ghR w G).Bx bw 71 #[ptrV E.q]) (h2 : (ghR w G).Bx ba 25 #[.int .i64 a]) (h3 : (ghR w G).Bx bt 75 #[t.v]) (h4 : Rp (ghR w G).Tb t K) (i : Nat) (hi : i ≤ E.R.length)
    (hl : (callQ (.look fun i => bits .and .i64 (atOf E.R i) a != 0) K i s).left.length ≤ 4000000000000) :
    Calls Try.prog 114 #[.int .i64 i, ptrV bw, ptrV ba, ptrV bt] w (After E M fin (callQ (.look fun i => bits .and .i64 (atOf E.R i) a != 0) K i s)) := by
  have hD := rinv_drew hI 1
  obtain ⟨B, kk, hin⟩ := hIn.rd hD.rd
  have HAT := Lib.hid (at_in hin i (by omega) (by exact_mod_cast hi))
  obtain ⟨lv, mb, n, f, ev, bv, l, hm⟩ := hD.mem
  have c1 : (w.drewN 1).cell? ⟨bw, 0, none⟩ = some (ptrV E.q) := bx_cell h1
  have c2 : (w.drewN 1).cell? ⟨ba, 0, none⟩ = some (.int .i64 a) := bx_cell h2
  have c3 : (w.drewN 1).cell? ⟨bt, 0, none⟩ = some t.v := bx_cell h3
  have c0 : (w.drewN 1).cell? ⟨E.q, 0, none⟩ = some (ptrV E.ib) := (om_ten hm.om).1
  obtain ⟨u, c5⟩ := in_cells hin
  obtain ⟨W, hW⟩ : ∃ W, w.drewN 1 = W := ⟨_, rfl⟩
  have hW' : w.drew = W := hW
  obtain ⟨X, hX⟩ : ∃ X, (bits .and .i64 (atOf E.R i) a != 0) = X := ⟨_, rfl⟩
  have HQ : callQ (.look fun i => bits .and .i64 (atOf E.R i) a != 0) K i s = if X then s.push (.go K i) else s := by
    show (if (bits .and .i64 (atOf E.R i) a != 0) = true then _ else _) = _
    simp only [hX]
  rw [HQ] at hl ⊢
  have HPU := Lib.hid (show X = true → Calls Try.prog 69 #[ptrV E.q, t.v, .int .i64 (i : Nat)] W (After E M fin (s.push (.go K i))) from fun hX => by rw [← hW]; exact cl_push hD h4 i hi (by rw [if_pos hX] at hl; simpa [Am.push] using hl))
  have HD := Lib.hid (show RInv E M fin W s G by rw [← hW]; exact hD)
  rw [hW] at c1 c2 c3 c0 c5 HAT
  obtain ⟨tg, tf, tc⟩ := t
  obtain ⟨av, hav⟩ : ∃ av, atOf E.R i = av := ⟨_, rfl⟩
  rw [hav] at HAT hX
  have HW := Lib.hid hW'
  clear hI hD hin hm h1 h2 h3 h4 hi hl HQ hav hIn hW hW'
  go_enter Try.func114, Try.ntmps114
  go_upto_region 0 with (fail)
  refine wp_region_held_drew (S := fun w' => w' = W) (by kernel_rfl) (HW.out) (fun hHeld => ?_)
  refine wpAnyH_take (i := 0) (oi := _) (v := ?_) rfl (by kernel_rfl) (by kernel_rfl) (by kernel_rfl) (fun _ _ _ h => h) (Or.inl ⟨by rfl, ?_⟩) hHeld ?_
  rotate_left 1
  · (intro w hSw; (try dsimp only at hSw); have e0 := c1; have e1 := c2; have e2 := c0; have e3 := c5; rw [hSw]; go_simp; (try with_reducible rfl))
  try simp only [List.getElem_toArray, List.getElem_cons_zero, Act.put, List.setIfInBounds_toArray, List.set_cons_zero, List.set_cons_succ]
  refine wpAnyH_take (i := 1) (oi := _) (v := ?_) rfl (by kernel_rfl) (by kernel_rfl) (by kernel_rfl) (fun _ _ _ h => h) (Or.inl ⟨by rfl, ?_⟩) hHeld ?_
  rotate_left 1
  · (intro w hSw; (try dsimp only at hSw); have e0 := c1; have e1 := c2; have e2 := c0; have e3 := c5; rw [hSw]; go_simp; (try with_reducible rfl))
  try simp only [List.getElem_toArray, List.getElem_cons_zero, List.getElem_cons_succ, Act.put, List.setIfInBounds_toArray, List.set_cons_zero, List.set_cons_succ]
  refine wpAnyH_take (i := 2) (oi := _) (v := ?_) rfl (by kernel_rfl) (by kernel_rfl) (by kernel_rfl) (fun _ _ _ h => h) (Or.inl ⟨by rfl, ?_⟩) hHeld ?_
  rotate_left 1
  · (intro w hSw; (try dsimp only at hSw); have e0 := c1; have e1 := c2; have e2 := c0; have e3 := c5; rw [hSw]; go_simp; (try with_reducible rfl))
  try simp only [List.getElem_toArray, List.getElem_cons_zero, List.getElem_cons_succ, Act.put, List.setIfInBounds_toArray, List.set_cons_zero, List.set_cons_succ]
  refine wpAnyH_take (i := 3) (oi := _) (v := ?_) rfl (by kernel_rfl) (by kernel_rfl) (by kernel_rfl) (fun _ _ _ h => h) (Or.inl ⟨by rfl, ?_⟩) hHeld ?_
  rotate_left 1
  · (intro w hSw; (try dsimp only at hSw); have e0 := c1; have e1 := c2; have e2 := c0; have e3 := c5; rw [hSw]; go_simp; (try with_reducible rfl))
  try simp only [List.getElem_toArray, List.getElem_cons_zero, List.getElem_cons_succ, Act.put, List.setIfInBounds_toArray, List.set_cons_zero, List.set_cons_succ]
  refine wpAnyH_take (i := 4) (oi := _) (v := ?_) rfl (by kernel_rfl) (by kernel_rfl) (by kernel_rfl) (fun _ _ _ h => h) (Or.inl ⟨by rfl, ?_⟩) hHeld ?_
  rotate_left 1
  · (intro w hSw; (try dsimp only at hSw); have e0 := c1; have e1 := c2; have e2 := c0; have e3 := c5; rw [hSw]; go_simp; (try with_reducible rfl))
  try simp only [List.getElem_toArray, List.getElem_cons_zero, List.getElem_cons_succ, Act.put, List.setIfInBounds_toArray, List.set_cons_zero, List.set_cons_succ]
  refine wpAnyH_take (i := 5) (oi := _) (v := ?_) rfl (by kernel_rfl) (by kernel_rfl) (by kernel_rfl) (fun _ _ _ h => h) (Or.inl ⟨by rfl, ?_⟩) hHeld ?_
  rotate_left 1
  · (intro w hSw; (try dsimp only at hSw); have e0 := c1; have e1 := c2; have e2 := c0; have e3 := c5; rw [hSw]; go_simp; (try with_reducible rfl))
  try simp only [List.getElem_toArray, List.getElem_cons_zero, List.getElem_cons_succ, Act.put, List.setIfInBounds_toArray, List.set_cons_zero, List.set_cons_succ]
  refine wpAnyH_take (i := 6) (oi := _) (v := ?_) rfl (by kernel_rfl) (by kernel_rfl) (by kernel_rfl) (fun _ _ _ h => h) (Or.inl ⟨by rfl, ?_⟩) hHeld ?_
  rotate_left 1
  · (intro w hSw; (try dsimp only at hSw); have e0 := c1; have e1 := c2; have e2 := c0; have e3 := c5; rw [hSw]; go_simp; (try with_reducible rfl))
  try simp only [List.getElem_toArray, List.getElem_cons_zero, List.getElem_cons_succ, Act.put, List.setIfInBounds_toArray, List.set_cons_zero, List.set_cons_succ]
  refine wpAnyH_take (i := 8) (oi := _) (v := ?_) rfl (by kernel_rfl) (by kernel_rfl) (by kernel_rfl) (fun _ _ _ h => h) (Or.inl ⟨by rfl, ?_⟩) hHeld ?_
  rotate_left 1
  · (intro w hSw; (try dsimp only at hSw); have e0 := c1; have e1 := c2; have e2 := c0; have e3 := c5; rw [hSw]; go_simp; (try with_reducible rfl))
  try simp only [List.getElem_toArray, List.getElem_cons_zero, List.getElem_cons_succ, Act.put, List.setIfInBounds_toArray, List.set_cons_zero, List.set_cons_succ]
  refine wpAnyH_ready (rs := [7]) (by kernel_rfl) (by simp) ?_
  refine AllReadyH.cons (o := _) rfl (fun K hK => ?_) ?_
  · go_simp
    refine HAT.out.mono ?_
    rintro e w' ⟨rfl, rfl⟩
    go_wp2_with fail
    refine hK.out _ _ (rfl) (fun hHeld => ?_)
    clear hK K
    try simp only [List.getElem_toArray, List.getElem_cons_zero, List.getElem_cons_succ, Act.put, List.setIfInBounds_toArray, List.set_cons_zero, List.set_cons_succ]
    refine wpAnyH_take (i := 9) (oi := _) (v := ?_) rfl (by kernel_rfl) (by kernel_rfl) (by kernel_rfl) (fun _ _ _ h => h) (Or.inl ⟨by rfl, ?_⟩) hHeld ?_
    rotate_left 1
    · (intro w hSw; (try dsimp only at hSw); have e0 := c1; have e1 := c2; have e2 := c0; have e3 := c5; rw [hSw]; go_simp; (try with_reducible rfl))
    try simp only [List.getElem_toArray, List.getElem_cons_zero, List.getElem_cons_succ, Act.put, List.setIfInBounds_toArray, List.set_cons_zero, List.set_cons_succ]
    refine wpAnyH_take (i := 10) (oi := _) (v := ?_) rfl (by kernel_rfl) (by kernel_rfl) (by kernel_rfl) (fun _ _ _ h => h) (Or.inl ⟨by rfl, ?_⟩) hHeld ?_
    rotate_left 1
    · (intro w hSw; (try dsimp only at hSw); have e0 := c1; have e1 := c2; have e2 := c0; have e3 := c5; rw [hSw]; go_simp; (try with_reducible rfl))
    try simp only [List.getElem_toArray, List.getElem_cons_zero, List.getElem_cons_succ, Act.put, List.setIfInBounds_toArray, List.set_cons_zero, List.set_cons_succ]
    refine wpAnyH_done (by kernel_rfl) ?_ _
    cases X
    · go_wp2_with fail
      go_end0
      exact ⟨rfl, G, HD.out⟩
    · go_wp2_with fail
      refine (HPU.out (by simp)).mono ?_
      rintro e w' ⟨rfl, G', h⟩
      have H := Lib.hid h
      clear h c1 c2 c3 c0 c5
      go_wp2_with fail
      go_end0
      exact ⟨rfl, G', H.out⟩
  exact AllReadyH.nil
theorem be_cell {w w' : World} {p : Addr} {v : Value} (h : Below w.heap.size w w') (hc : w.cell? p = some v) : w'.cell? p = some v :=
  (World.cell?_of_block (w := w) (h.block p.block (World.block_lt_of_cell? w p hc))).trans hc
set_option maxHeartbeats 1600000 in
theorem cl_read (E : Env) (M : Md E) (fin : Fv) (w : World) (s : Am) (G : Gt) (hI : RInv E M fin w s G) (hIn : InE E) {bf bw bt b : Nat} {fid : FuncId} {t : Fv} {K : Ks} (h1 : (ghR w G).Bx bw 71 #[ptrV E.q]) (h2 : (ghR w G).Bx bf 121 #[.func (.func fid) #[] #[ptrV b]]) (h3 : (ghR w G).Bx bt 75 #[t.v]) (h4 : Rp (ghR w G).Tb t K) (i : Nat) (hi : i ≤ E.R.length) (p : Nat → Bool)
    (hp : p i = true → i + 1 ≤ E.R.length) (eg : ∀ args w, (callFunc fid args).run Try.prog w = .ok (.enter fid args) w) (hf : ∀ W, Below w.heap.size w W → Calls Try.prog fid #[.int .i32 (runeAt E.R i), ptrV b] W fun e w' => e = .returned (.bool (p i)) ∧ Below W.heap.size W w')
    (hl : (callQ (.sym p) K i s).left.length ≤ 4000000000000) :
    Calls Try.prog 111 #[.int .i64 i, ptrV bf, ptrV bw, ptrV bt] w (After E M fin (callQ (.sym p) K i s)) := by
  have hD := rinv_drew hI 1
  obtain ⟨B, kk, hin⟩ := hIn.rd hD.rd
  have HAT := Lib.hid (rune_any hin i)
  have HF := Lib.hid (hf _ (below_draws w 1))
  obtain ⟨lv, mb, n, f, ev, bv, l, hm⟩ := hD.mem
  have c1 : (w.drewN 1).cell? ⟨bw, 0, none⟩ = some (ptrV E.q) := bx_cell h1
  have c2 : (w.drewN 1).cell? ⟨bf, 0, none⟩ = some (.func (.func fid) #[] #[ptrV b]) := bx_cell h2
  have c3 : (w.drewN 1).cell? ⟨bt, 0, none⟩ = some t.v := bx_cell h3
  have c0 : (w.drewN 1).cell? ⟨E.q, 0, none⟩ = some (ptrV E.ib) := (om_ten hm.om).1
  obtain ⟨u, c5⟩ := in_cells hin
  obtain ⟨W, hW⟩ : ∃ W, w.drewN 1 = W := ⟨_, rfl⟩
  have hW' : w.drew = W := hW
  obtain ⟨X, hX⟩ : ∃ X, p i = X := ⟨_, rfl⟩
  rw [hX] at HF
  have HQ : callQ (.sym p) K i s = if X then s.push (.go K (i + 1)) else s := by
    show (if p i = true then _ else _) = _
    simp only [hX]
  rw [HQ] at hl ⊢
  have HPU := Lib.hid (show ∀ w2, Below W.heap.size W w2 → X = true → Calls Try.prog 69 #[ptrV E.q, t.v, .int .i64 ((i + 1 : Nat) : Int)] w2 (After E M fin (s.push (.go K (i + 1)))) from fun w2 hb hX' => by rw [← hW] at hb; exact cl_push (rinv_below hD hb) h4 (i + 1) (hp (hX.trans hX')) (by rw [if_pos hX'] at hl; simpa [Am.push] using hl))
  have HD := Lib.hid (show RInv E M fin W s G by rw [← hW]; exact hD)
  rw [hW] at c1 c2 c3 c0 c5 HAT HF
  obtain ⟨tg, tf, tc⟩ := t
  obtain ⟨av, hav⟩ : ∃ av, runeAt E.R i = av := ⟨_, rfl⟩
  rw [hav] at HAT HF
  have e1 : IntKind.i64.wrap ((i : Int) + 1) = ((i + 1 : Nat) : Int) := (IntWalk.i64_left _).trans ((IntWalk.wrap64_in _ ⟨by omega, by have := HD.out.fb.2.2; omega⟩).trans (by omega))
  have HW := Lib.hid (show Below W.heap.size W w.drew by rw [hW']; exact Below.refl _ _)
  have HWE := Lib.hid hW'
  clear hI hD hin hm h1 h2 h3 h4 hi hl HQ hav hIn hW hW' hX hp hf
  go_enter Try.func111, Try.ntmps111
  go_upto_region 0 with (fail)
  refine wp_region_held_drew (S := fun w' => Below W.heap.size W w') (by kernel_rfl) (HW.out) (fun hHeld => ?_)
  rw [HWE.out] at hHeld ⊢
  refine wpAnyH_take (i := 0) (oi := _) (v := ?_) rfl (by kernel_rfl) (by kernel_rfl) (by kernel_rfl) (fun _ _ _ h => h) (Or.inl ⟨by rfl, ?_⟩) hHeld ?_
  rotate_left 1
  · (intro w hSw; (try dsimp only at hSw); have e0 := be_cell hSw c1; have e1 := be_cell hSw c2; have e2 := be_cell hSw c0; have e3 := be_cell hSw c5; go_simp; (try with_reducible rfl))
  try simp only [List.getElem_toArray, List.getElem_cons_zero, Act.put, List.setIfInBounds_toArray, List.set_cons_zero, List.set_cons_succ]
  refine wpAnyH_take (i := 1) (oi := _) (v := ?_) rfl (by kernel_rfl) (by kernel_rfl) (by kernel_rfl) (fun _ _ _ h => h) (Or.inl ⟨by rfl, ?_⟩) hHeld ?_
  rotate_left 1
  · (intro w hSw; (try dsimp only at hSw); have e0 := be_cell hSw c1; have e1 := be_cell hSw c2; have e2 := be_cell hSw c0; have e3 := be_cell hSw c5; go_simp; (try with_reducible rfl))
  try simp only [List.getElem_toArray, List.getElem_cons_zero, List.getElem_cons_succ, Act.put, List.setIfInBounds_toArray, List.set_cons_zero, List.set_cons_succ]
  refine wpAnyH_take (i := 2) (oi := _) (v := ?_) rfl (by kernel_rfl) (by kernel_rfl) (by kernel_rfl) (fun _ _ _ h => h) (Or.inl ⟨by rfl, ?_⟩) hHeld ?_
  rotate_left 1
  · (intro w hSw; (try dsimp only at hSw); have e0 := be_cell hSw c1; have e1 := be_cell hSw c2; have e2 := be_cell hSw c0; have e3 := be_cell hSw c5; go_simp; (try with_reducible rfl))
  try simp only [List.getElem_toArray, List.getElem_cons_zero, List.getElem_cons_succ, Act.put, List.setIfInBounds_toArray, List.set_cons_zero, List.set_cons_succ]
  refine wpAnyH_take (i := 3) (oi := _) (v := ?_) rfl (by kernel_rfl) (by kernel_rfl) (by kernel_rfl) (fun _ _ _ h => h) (Or.inl ⟨by rfl, ?_⟩) hHeld ?_
  rotate_left 1
  · (intro w hSw; (try dsimp only at hSw); have e0 := be_cell hSw c1; have e1 := be_cell hSw c2; have e2 := be_cell hSw c0; have e3 := be_cell hSw c5; go_simp; (try with_reducible rfl))
  try simp only [List.getElem_toArray, List.getElem_cons_zero, List.getElem_cons_succ, Act.put, List.setIfInBounds_toArray, List.set_cons_zero, List.set_cons_succ]
  refine wpAnyH_take (i := 4) (oi := _) (v := ?_) rfl (by kernel_rfl) (by kernel_rfl) (by kernel_rfl) (fun _ _ _ h => h) (Or.inl ⟨by rfl, ?_⟩) hHeld ?_
  rotate_left 1
  · (intro w hSw; (try dsimp only at hSw); have e0 := be_cell hSw c1; have e1 := be_cell hSw c2; have e2 := be_cell hSw c0; have e3 := be_cell hSw c5; go_simp; (try with_reducible rfl))
  try simp only [List.getElem_toArray, List.getElem_cons_zero, List.getElem_cons_succ, Act.put, List.setIfInBounds_toArray, List.set_cons_zero, List.set_cons_succ]
  refine wpAnyH_take (i := 5) (oi := _) (v := ?_) rfl (by kernel_rfl) (by kernel_rfl) (by kernel_rfl) (fun _ _ _ h => h) (Or.inl ⟨by rfl, ?_⟩) hHeld ?_
  rotate_left 1
  · (intro w hSw; (try dsimp only at hSw); have e0 := be_cell hSw c1; have e1 := be_cell hSw c2; have e2 := be_cell hSw c0; have e3 := be_cell hSw c5; go_simp; (try with_reducible rfl))
  try simp only [List.getElem_toArray, List.getElem_cons_zero, List.getElem_cons_succ, Act.put, List.setIfInBounds_toArray, List.set_cons_zero, List.set_cons_succ]
  refine wpAnyH_take (i := 6) (oi := _) (v := ?_) rfl (by kernel_rfl) (by kernel_rfl) (by kernel_rfl) (fun _ _ _ h => h) (Or.inl ⟨by rfl, ?_⟩) hHeld ?_
  rotate_left 1
  · (intro w hSw; (try dsimp only at hSw); have e0 := be_cell hSw c1; have e1 := be_cell hSw c2; have e2 := be_cell hSw c0; have e3 := be_cell hSw c5; go_simp; (try with_reducible rfl))
  try simp only [List.getElem_toArray, List.getElem_cons_zero, List.getElem_cons_succ, Act.put, List.setIfInBounds_toArray, List.set_cons_zero, List.set_cons_succ]
  refine wpAnyH_take (i := 7) (oi := _) (v := ?_) rfl (by kernel_rfl) (by kernel_rfl) (by kernel_rfl) (fun _ _ _ h => h) (Or.inl ⟨by rfl, ?_⟩) hHeld ?_
  rotate_left 1
  · (intro w hSw; (try dsimp only at hSw); have e0 := be_cell hSw c1; have e1 := be_cell hSw c2; have e2 := be_cell hSw c0; have e3 := be_cell hSw c5; go_simp; (try with_reducible rfl))
  try simp only [List.getElem_toArray, List.getElem_cons_zero, List.getElem_cons_succ, Act.put, List.setIfInBounds_toArray, List.set_cons_zero, List.set_cons_succ]
  refine wpAnyH_ready (rs := [8]) (by kernel_rfl) (by simp) ?_
  refine AllReadyH.cons (o := _) rfl (fun K hK => ?_) ?_
  · go_simp
    refine HAT.out.mono ?_
    rintro e w' ⟨rfl, rfl⟩
    go_wp2_with fail
    refine hK.out _ _ (Below.refl _ _) (fun hHeld => ?_)
    clear hK K
    try simp only [List.getElem_toArray, List.getElem_cons_zero, List.getElem_cons_succ, Act.put, List.setIfInBounds_toArray, List.set_cons_zero, List.set_cons_succ]
    refine wpAnyH_ready (rs := [9]) (by kernel_rfl) (by simp) ?_
    refine AllReadyH.cons (o := _) rfl (fun K hK => ?_) ?_
    · go_simp
      refine HF.out.mono ?_
      rintro e w2 ⟨rfl, hb2⟩
      have HB2 := Lib.hid hb2
      clear hb2
      go_wp2_with fail
      refine hK.out _ _ (HB2.out) (fun hHeld => ?_)
      clear hK K
      try simp only [List.getElem_toArray, List.getElem_cons_zero, List.getElem_cons_succ, Act.put, List.setIfInBounds_toArray, List.set_cons_zero, List.set_cons_succ]
      refine wpAnyH_done (by kernel_rfl) ?_ _
      cases X
      · go_wp2_with fail
        go_end0
        exact ⟨rfl, G, rinv_below HD.out HB2.out⟩
      · have d1 := be_cell HB2.out c1; have d3 := be_cell HB2.out c3
        go_wp2_with fail
        refine (HPU.out _ HB2.out (by simp)).mono ?_
        rintro e w' ⟨rfl, G', h⟩
        have H := Lib.hid h
        clear h d1 d3
        go_wp2_with fail
        go_end0
        exact ⟨rfl, G', H.out⟩
    exact AllReadyH.nil
  exact AllReadyH.nil
end Go.Proofs.Ytnemacejaiifnaa
/- Is a rune in a set: the search. No condition. -/
namespace Go.Proofs.Ytnemacejaiifnaa
open Go Go.RowKit

def cmpR (r : Int × Int) (c : Int) : Int := if r.2 < c then -1 else if c < r.1 then 1 else 0
theorem cmp_any (y1 y2 c : Int) (w : World) :
    Calls Try.prog 113 #[.agg #[.int .i32 y1, .int .i32 y2], .int .i32 c] w fun e w' => e = .returned (.int .i64 (cmpR (y1, y2) c)) ∧ Below w.heap.size w w' := by
  have HB := Lib.hid ((Below.refl w.heap.size w).alloc (Nat.le_refl _) (.cells #[.int .i32 y1, .int .i32 y2] 131))
  go_enter Try.func113, Try.ntmps113
  by_cases q0 : y2 < c
  · go_wp2
    go_ret
    exact ⟨by simp [cmpR, q0], HB.out⟩
  · by_cases q1 : c < y1
    · go_wp2
      go_ret
      exact ⟨by simp [cmpR, q0, q1], HB.out⟩
    · go_wp2
      go_ret
      exact ⟨by simp [cmpR]; omega, HB.out⟩
theorem right_all : ∀ (l : List (Int × Int)) (lo : Int), RightFrom lo l → ∀ x ∈ l, lo ≤ x.1 ∧ x.1 ≤ x.2
  | [], _, _, _, hx => by cases hx
  | r :: l, lo, ⟨h1, h2, h3, h4⟩, x, hx => by
    rcases List.mem_cons.1 hx with rfl | hx
    · exact ⟨h1, h2⟩
    · have := right_all l (r.2 + 2) h4 x hx
      exact ⟨by omega, this.2⟩
theorem right_pair : ∀ (l : List (Int × Int)) (lo : Int), RightFrom lo l → l.Pairwise (fun a b => a.2 < b.1)
  | [], _, _ => List.Pairwise.nil
  | r :: l, lo, ⟨h1, h2, h3, h4⟩ => List.pairwise_cons.2 ⟨fun x hx => by have := (right_all l (r.2 + 2) h4 x hx).1; omega, right_pair l (r.2 + 2) h4⟩
theorem right_mono (l : List (Int × Int)) (hS : RightR l) (j k : Nat) (hj : j < l.length) (hk : k < l.length) (h : j ≤ k) : l[j].2 ≤ l[k].2 := by
  by_cases e : j = k
  · subst e; exact Int.le_refl _
  · have h1 := List.pairwise_iff_getElem.1 (right_pair l 0 hS) j k hj hk (by omega)
    have h2 := (right_all l 0 hS _ (List.getElem_mem hk)).2
    omega
theorem search_fits (l : List (Int × Int)) (hS : RightR l) (c : Int) (p : Nat) (hL : ∀ k (hk : k < l.length), k < p → l[k].2 < c) (hR : ∀ k (hk : k < l.length), p ≤ k → c ≤ l[k].2) : fitsS l c = if h : p < l.length then decide (cmpR l[p] c = 0) else false := by
  have hP := right_pair l 0 hS
  rw [Bool.eq_iff_iff]
  unfold fitsS
  rw [List.any_eq_true]
  constructor
  · rintro ⟨r, hr, h⟩
    rw [Bool.and_eq_true, decide_eq_true_eq, decide_eq_true_eq] at h
    obtain ⟨k, hk, rfl⟩ := List.getElem_of_mem hr
    have hkp : ¬ k < p := fun e => by have := hL k hk e; omega
    have hke : k = p := by
      by_cases e : k = p
      · exact e
      · have h1 := List.pairwise_iff_getElem.1 hP p k (by omega) hk (by omega)
        have h2 := hR p (by omega) (Nat.le_refl _)
        omega
    subst hke
    rw [dif_pos hk, decide_eq_true_eq]
    unfold cmpR
    rw [if_neg (by omega), if_neg (by omega)]
  · intro h
    split at h
    · rename_i hp
      rw [decide_eq_true_eq] at h
      refine ⟨l[p], List.getElem_mem hp, ?_⟩
      rw [Bool.and_eq_true, decide_eq_true_eq, decide_eq_true_eq]
      unfold cmpR at h
      split at h
      · cases h
      · split at h
        · cases h
        · omega
    · cases h
set_option maxRecDepth 4000 in
set_option maxHeartbeats 1600000 in
theorem search_any (l : List (Int × Int)) (hS : RightR l) (v : Value) (c : Int) (w : World) (h : Rgs w v l) :
    Calls Try.prog 112 #[v, .int .i32 c, .func (.func 113) #[] #[]] w fun e w' => ∃ m : Nat, e = .returned (.tuple #[.int .i64 m, .bool (fitsS l c)]) ∧ Below w.heap.size w w' := by
  have HR := Lib.hid h
  obtain ⟨a, cp, rfl, h2, h3, h4, h5, h6⟩ := h
  have hlen : l.length ≤ 1114112 := by have := right_len l 0 (by omega) hS; omega
  clear h5 h6 h4 h2 h3
  obtain ⟨n, hn⟩ : ∃ n, l.length = n := ⟨_, rfl⟩
  have HN := Lib.hid hn
  have HSS := Lib.hid hS
  rw [hn] at hlen ⊢
  clear hn hS
  go_enter Try.func112, Try.ntmps112
  go_wp2
  go_loopw [9, 10] (fun i j wr => ∃ p q : Nat, p ≤ q ∧ q ≤ n ∧ i = .int .i64 p ∧ j = .int .i64 q ∧ Below w.heap.size w wr ∧ Hid (∀ k (hk : k < l.length), k < p → l[k].2 < c) ∧ Hid (∀ k (hk : k < l.length), q ≤ k → c ≤ l[k].2)) (fun i j _ => (intOf j).toNat - (intOf i).toNat)
  case atStart => exact ⟨0, n, by omega, by omega, rfl, rfl, Below.refl _ _, Lib.hid fun k hk h => by omega, Lib.hid fun k hk h => by have := HN.out; omega⟩
  case round =>
    obtain ⟨p, q, hpq, hq, rfl, rfl, hB, hL, hR⟩ := hrel
    have HB := Lib.hid hB
    clear hB
    by_cases hlt : p < q
    · obtain ⟨m, hm⟩ : ∃ m, (p + q) / 2 = m := ⟨_, rfl⟩
      have e1 : IntKind.i64.wrap ((p : Int) + q) = ((p + q : Nat) : Int) := (IntWalk.i64_left _).trans ((IntWalk.wrap64_in _ ⟨by omega, by omega⟩).trans (by omega))
      have e2 : wrap64 (IntKind.u64.wrap ((p : Int) + q) / 2) = (m : Int) := by
        have h1 : IntKind.u64.wrap ((p : Int) + q) = (p : Int) + q := by simp [IntKind.wrap, IntKind.signed, IntKind.bits]; omega
        rw [h1, IntWalk.wrap64_in _ ⟨by omega, by omega⟩]
        omega
      have hml : m < n := by omega
      have HMP := Lib.hid (show p ≤ m by omega); have HMQ := Lib.hid (show m < q by omega); have HQN := Lib.hid hq
      obtain ⟨a', c', e, q2, q3, q4, q5, q6⟩ := HR.out.below HB.out
      injection e with g1 g2 g3
      subst g1 g3
      rcases q5 with q5 | ⟨b, o, rfl, hc⟩
      · exact absurd HN.out (by rw [q5]; simp; omega)
      have hm' : m < l.length := by rw [HN.out]; exact hml
      obtain ⟨c1, c2⟩ := hc m hm'
      obtain ⟨y, hy⟩ : ∃ y, l[m] = y := ⟨_, rfl⟩
      rw [hy] at c1 c2
      have HP := Lib.hid (right_mono l HSS.out)
      have HY := Lib.hid (show ∃ h : m < l.length, l[m] = y from ⟨hm', hy⟩)
      obtain ⟨y1, y2⟩ := y
      simp only at c1 c2
      have HM := Lib.hid hm
      clear hc hy q6 hpq hq hm hm' q2 q3 q4 g2
      go_upto_region 5 with (fail)
      by_cases q0 : y2 < c
      · have HC := Lib.hid (show Calls Try.prog 113 #[.agg #[.int .i32 y1, .int .i32 y2], .int .i32 c] wr fun e w' => e = .returned (.int .i64 (-1)) ∧ Below wr.heap.size wr w' from by have := cmp_any y1 y2 c wr; simp only [cmpR, if_pos q0] at this; exact this)
        go_wp2_with fail
        refine HC.out.mono ?_
        rintro e w' ⟨rfl, hb⟩
        have HB2 := Lib.hid hb
        clear hb
        go_wp2_with fail
        go_roundw
        case rel => exact ⟨m + 1, q, by have := HMQ.out; omega, HQN.out, by go_num, rfl, HB.out.trans (HB2.out.mono HB.out.size), Lib.hid fun k hk hkm => by
          obtain ⟨h1, h2⟩ := HY.out
          have h3 := HP.out k m hk h1 (by omega)
          rw [h2] at h3
          dsimp only at h3
          omega, hR⟩
        case measure =>
          have := HMQ.out; have := HMP.out
          simp [intOf]; omega
      · obtain ⟨cv, hcv⟩ : ∃ cv, cmpR (y1, y2) c = cv := ⟨_, rfl⟩
        have hcv0 : ¬ cv < 0 := by
          subst hcv
          unfold cmpR
          split
          · exact absurd ‹_› q0
          · split <;> omega
        have HC := Lib.hid (cmp_any y1 y2 c wr)
        rw [hcv] at HC
        clear hcv
        go_wp2_with fail
        refine HC.out.mono ?_
        rintro e w' ⟨rfl, hb⟩
        have HB2 := Lib.hid hb
        clear hb
        go_wp2_with fail
        go_roundw
        case rel => exact ⟨p, m, HMP.out, by have := HMQ.out; have := HQN.out; omega, rfl, rfl, HB.out.trans (HB2.out.mono HB.out.size), hL, Lib.hid fun k hk hkm => by
          obtain ⟨h1, h2⟩ := HY.out
          have h3 := HP.out m k h1 hk hkm
          rw [h2] at h3
          dsimp only at h3
          omega⟩
        case measure =>
          have := HMQ.out; have := HMP.out
          simp [intOf]; omega
    · obtain rfl : p = q := by omega
      have HF := Lib.hid (search_fits l HSS.out c p hL.out hR.out)
      by_cases hpn : p < n
      · obtain ⟨a', c', e, q2, q3, q4, q5, q6⟩ := HR.out.below HB.out
        injection e with g1 g2 g3
        subst g1 g3
        rcases q5 with q5 | ⟨b, o, rfl, hc⟩
        · exact absurd HN.out (by rw [q5]; simp; omega)
        have hm' : p < l.length := by rw [HN.out]; exact hpn
        obtain ⟨c1, c2⟩ := hc p hm'
        obtain ⟨y, hy⟩ : ∃ y, l[p] = y := ⟨_, rfl⟩
        rw [hy] at c1 c2
        obtain ⟨y1, y2⟩ := y
        simp only at c1 c2
        have HFF := HF.out
        rw [dif_pos hm', hy] at HFF
        obtain ⟨cv, hcv⟩ : ∃ cv, cmpR (y1, y2) c = cv := ⟨_, rfl⟩
        have HC := Lib.hid (cmp_any y1 y2 c wr)
        rw [hcv] at HC HFF
        have HFF := Lib.hid HFF
        clear hcv hc hy q6 hpq hq hm' q2 q3 q4 g2
        go_wp2_with fail
        refine HC.out.mono ?_
        rintro e w' ⟨rfl, hb⟩
        have HB2 := Lib.hid hb
        clear hb
        go_wp2_with fail
        go_ret2
        exact ⟨p, by rw [HFF.out]; rfl, HB.out.trans (HB2.out.mono HB.out.size)⟩
      · have HFF := HF.out
        rw [dif_neg (by rw [HN.out]; exact hpn)] at HFF
        replace HFF := Lib.hid HFF
        go_wp2_with fail
        go_ret2
        exact ⟨p, by rw [HFF.out]; rfl, HB.out⟩
theorem has_in (l : List (Int × Int)) (hS : RightR l) (v : Value) (c : Int) (w : World) (h : Rgs w v l) :
    Calls Try.prog 75 #[v, .int .i32 c] w fun e w' => e = .returned (.bool (fitsS l c)) ∧ Below w.heap.size w w' := by
  have HS := Lib.hid (search_any l hS v c w h)
  clear h hS
  go_enter Try.func75, Try.ntmps75
  go_wp2_with fail
  refine HS.out.mono ?_
  rintro e w' ⟨m, rfl, hb⟩
  have HB := Lib.hid hb
  clear hb
  go_wp2_with fail
  go_ret
  exact ⟨rfl, HB.out⟩
end Go.Proofs.Ytnemacejaiifnaa
/- Whether a rune fits, as a part asks it; what puts a place back; what leads nowhere. No condition. -/
namespace Go.Proofs.Ytnemacejaiifnaa
open Go Go.RowKit

set_option maxHeartbeats 800000 in
theorem fits_rune (E : Env) {w : World} {G : Gt} {b pb po : Nat} {x : Tr} (hr : Rd E w) (h : (ghR w G).Bx b 77 #[.pointer (some ⟨pb, po, none⟩)]) (hT : TP E.w0 pb po x) (c : Int) (W : World) (hW : Below w.heap.size w W) :
    Calls Try.prog 73 #[.int .i32 c, ptrV b] W fun e w' => e = .returned (.bool (c == x.fld.rune)) ∧ Below W.heap.size W w' := by
  have c1 := be_cell hW (bx_cell h)
  obtain ⟨kv, sv, ⟨-, -, c2, -⟩, -⟩ := hT.ten (hr.then hW)
  clear hr h hT hW
  go_enter Try.func73, Try.ntmps73
  go_wp2_with fail
  go_ret
  exact ⟨rfl, Below.refl _ _⟩
set_option maxHeartbeats 800000 in
theorem fits_set (E : Env) {w : World} {G : Gt} {b pb po : Nat} {x : Tr} (hr : Rd E w) (h : (ghR w G).Bx b 77 #[.pointer (some ⟨pb, po, none⟩)]) (hT : TP E.w0 pb po x) (hS : RightR x.fld.set) (c : Int) (W : World) (hW : Below w.heap.size w W) :
    Calls Try.prog 74 #[.int .i32 c, ptrV b] W fun e w' => e = .returned (.bool (fitsS x.fld.set c)) ∧ Below W.heap.size W w' := by
  have c1 := be_cell hW (bx_cell h)
  obtain ⟨kv, sv, ⟨-, -, -, c2, -⟩, -, hR, -⟩ := hT.ten (hr.then hW)
  have HS := Lib.hid (has_in x.fld.set hS sv c W (hR.below (hr.then hW).below))
  clear hr h hT hW hS hR
  go_enter Try.func74, Try.ntmps74
  go_wp2_with fail
  refine HS.out.mono ?_
  rintro e w' ⟨rfl, hb⟩
  have HB := Lib.hid hb
  clear hb
  go_wp2_with fail
  go_ret
  exact ⟨rfl, HB.out⟩
theorem cl_none (E : Env) (M : Md E) (fin : Fv) (w : World) (s : Am) (G : Gt) (hI : RInv E M fin w s G) (i : Nat) :
    Calls Try.prog 70 #[.int .i64 i] w (After E M fin s) := by
  have HI := Lib.hid hI
  clear hI
  go_enter Try.func70, Try.ntmps70
  go_wp2_with fail
  go_end0
  exact ⟨rfl, G, HI.out⟩
set_option maxHeartbeats 800000 in
theorem cl_put (E : Env) (M : Md E) (fin : Fv) (w : World) (s : Am) (G : Gt) (hI : RInv E M fin w s G) {bw bi k : Nat} (h1 : (ghR w G).Bx bw 71 #[ptrV E.q]) (h2 : (ghR w G).Bx bi 3 #[.int .i64 (k : Int)]) (hk : k < 2 * (E.G + 1)) (v : Int) :
    Calls Try.prog 143 #[.int .i64 v, ptrV bw, ptrV bi] w (After E M fin { s with fit := s.fit.set k v }) := by
  obtain ⟨lv, mb, n, f, ev, bv, l, hm⟩ := hI.mem
  have c1 := bx_cell h1; have c2 := bx_cell h2
  obtain ⟨G2, hG2⟩ : ∃ G2, 2 * (E.G + 1) = G2 := ⟨_, rfl⟩
  have f1 : w.cell? ⟨E.q, 1, none⟩ = some (.slice (some ⟨E.fb, 0, none⟩) G2 G2) := fv_cell (rm_st hI hm) hG2
  obtain ⟨x, hx⟩ : ∃ x, w.cell? ⟨E.fb, k, none⟩ = some x := ⟨_, (hI.fit.1.cell k).trans (Array.getElem?_eq_getElem (by simp [fitC, hI.fit.2]; omega))⟩
  have hf := hI.fit.1.free k
  have HI := Lib.hid hI; have HM := Lib.hid hm; have HG2 := Lib.hid hG2
  rw [hG2] at hk
  clear hI hm h1 h2 hG2
  go_enter Try.func143, Try.ntmps143
  go_wp2_with fail
  go_region
  go_wp2_with fail
  go_end0
  exact ⟨rfl, G, rinv_drew (rinv_fit HI.out k v) 1⟩
end Go.Proofs.Ytnemacejaiifnaa
/- Every part does what is left to do. Condition: that a choice's closure does (hCh). -/
namespace Go.Proofs.Ytnemacejaiifnaa
open Go Go.RowKit

/-- What the end of all ways does. -/
def FinC (E : Env) (M : Md E) (fin : Fv) : Prop := ∀ (w : World) (s : Am) (G : Gt) (i : Nat), RInv E M fin w s G → i ≤ E.R.length → CallsV fin i w (After E M fin (call [] i s))
/-- What a choice's closure does. -/
def ChoiceC (E : Env) (M : Md E) (fin : Fv) : Prop := ∀ (w : World) (s : Am) (G : Gt) (ba bw : Nat) (x : Q) (K : Ks) (A : Option Addr) (c : Nat) (vs : List Fv) (i : Nat), RInv E M fin w s G → (ghR w G).Bx bw 71 #[ptrV E.q] → (ghR w G).Bx ba 158 #[.slice A vs.length c] → vs.length ≤ c → c ≤ maxLen → vs.length = (altKids x).length → AltQ x →
  (∀ (i : Nat) (h : i < vs.length) (h' : i < (altKids x).length), Rp (ghR w G).Tb vs[i] (.q (altKids x)[i] :: K)) → (vs = [] ∨ ∃ ab cur, A = some ⟨ab, 0, Option.none⟩ ∧ (ghR w G).Bx ab 75 cur ∧ ∀ (i : Nat) (h : i < vs.length), cur[i]? = some vs[i].v) → i ≤ E.R.length → (callQ x K i s).left.length ≤ 4000000000000 →
  Calls Try.prog 126 #[.int .i64 i, ptrV ba, ptrV bw] w (After E M fin (callQ x K i s))
noncomputable def hsz : Ks → Nat
  | .q x :: _ => SizeOf.sizeOf x
  | _ => 0
theorem runeAt_lt {R : List Int} {i : Nat} {x : Int} (hx : 0 ≤ x) (h : runeAt R i = x) : i + 1 ≤ R.length := by
  unfold runeAt at h
  split at h
  · omega
  · omega
theorem fits_lo {S : List (Int × Int)} (hS : RightR S) : fitsS S (-1) = false := by
  unfold fitsS
  rw [List.any_eq_false]
  intro r hr h
  have := (right_all S 0 hS r hr).1
  rw [Bool.and_eq_true, decide_eq_true_eq, decide_eq_true_eq] at h
  omega
/-- What the end does is asked for where nothing is left to do, and nowhere else. -/
theorem call_all (E : Env) (M : Md E) (fin : Fv) (hIn : InE E) (hCh : ChoiceC E M fin) : ∀ K, (K = [] → FinC E M fin) → CallC E M fin K := by
  suffices h : ∀ n K, hsz K < n → (K = [] → FinC E M fin) → CallC E M fin K from fun K => h _ K (Nat.lt_succ_self _)
  intro n
  induction n with
  | zero => intro K hK; omega
  | succ n ih =>
  intro K hK hFin
  -- not a part that is still to be laid
  have hA : ∀ (w : World) (s : Am) (G : Gt) (v : Fv) (i : Nat), RInv E M fin w s G → Rp (fun v k => (v, k) ∈ G.T) v K → v.g ≠ .func 155 → i ≤ E.R.length → (call K i s).left.length ≤ 4000000000000 → CallsV v i w (After E M fin (call K i s)) := by
    intro w s G v i hI hR hv hi hl
    cases hR with
    | @seq x y K' hR => exact ih (.q x :: .q y :: K') (by simp only [hsz, Q.seq.sizeOf_spec] at hK ⊢; omega) (fun e => nomatch e) w s G v i hI hR hi hl
    | base hT =>
    rcases hI.tab.locs _ hT with he | hLoc
    · cases he
      exact hFin rfl w s G i hI hi
    · dsimp only at hLoc
      have hLoc0 := hLoc
      cases hLoc with
      | none => exact ⟨_, rfl, enters_of Try.func70 (by kernel_rfl) rfl, cl_none E M fin w s G hI i⟩
      | pass h1 h2 h3 => exact ⟨_, rfl, enters_of Try.func110 (by kernel_rfl) rfl, cl_pass E M fin w s G hI h1 h2 h3 i hi hl⟩
      | @rune bf bw bt b pb po x t K' h1 h2 h3 h4 h5 h6 h7 =>
        exact ⟨_, rfl, enters_of Try.func111 (by kernel_rfl) rfl, cl_read E M fin w s G hI hIn h1 h2 h3 h7 i hi (fun i => runeAt E.R i == x.fld.rune) (fun h => runeAt_lt h6.1 (eq_of_beq h)) (enters_of Try.func73 (by kernel_rfl) rfl) (fun W hW => fits_rune E hI.rd h4 h5 _ W hW) hl⟩
      | @set bf bw bt b pb po x t K' h1 h2 h3 h4 h5 h6 h7 =>
        exact ⟨_, rfl, enters_of Try.func111 (by kernel_rfl) rfl, cl_read E M fin w s G hI hIn h1 h2 h3 h7 i hi (fun i => fitsS x.fld.set (runeAt E.R i)) (fun h => by
          by_cases e : i < E.R.length
          · exact e
          · have e1 : runeAt E.R i = -1 := by
              unfold runeAt
              rw [if_neg (by omega)]
            try dsimp only at h
            rw [e1, fits_lo h6] at h
            cases h) (enters_of Try.func74 (by kernel_rfl) rfl) (fun W hW => fits_set E hI.rd h4 h5 h6 _ W hW) hl⟩
      | stand h1 h2 h3 h4 => exact ⟨_, rfl, enters_of Try.func114 (by kernel_rfl) rfl, cl_stand E M fin w s G hI hIn h1 h2 h3 h4 i hi hl⟩
      | group h1 h2 h3 h4 h5 h6 h7 h8 h9 => exact ⟨_, rfl, enters_of Try.func118 (by kernel_rfl) rfl, cl_group E M fin w s G hI h1 h2 h3 h4 h5 h6 h7 (by omega) i hi hl⟩
      | gend h1 h2 h3 h4 h5 h6 h7 h8 h9 => exact ⟨_, rfl, enters_of Try.func117 (by kernel_rfl) rfl, cl_gend E M fin w s G hI h1 h2 h3 h4 h5 h6 h7 (by omega) i hi hl⟩
      | @star b n' t nn a fo z x K' h1 h2 h3 h4 h5 =>
        obtain ⟨j, hj, rfl⟩ := h4
        refine ⟨_, rfl, enters_of Try.func84 (by kernel_rfl) rfl, cl_once E M fin w s G hI h1 h2 h3 hj i hi ((s.mark a i).two z (.q x :: .q (.star a z x) :: K') K' i) fun hV w' hle hI' => ?_⟩
        refine cl_star E M fin w' _ G hI' (h5.mono hle) i hi ?_
        simpa [call, callQ, hV] using hl
      | @ask b n' t nn a a' fo z x K' h1 h2 h3 h4 h5 =>
        obtain ⟨j, hj, rfl⟩ := h4
        refine ⟨_, rfl, enters_of Try.func84 (by kernel_rfl) rfl, cl_once E M fin w s G hI h1 h2 h3 hj i hi ((s.mark a' i).two z (.q (.plus a a' z x) :: K') K' i) fun hV w' hle hI' => ?_⟩
        refine cl_plus E M fin w' _ G hI' (h5.mono hle) i hi ?_
        simpa [call, hV] using hl
      | @plus b n' t nn a a' fo z x K' h1 h2 h3 h4 h5 =>
        obtain ⟨j, hj, rfl⟩ := h4
        refine ⟨_, rfl, enters_of Try.func84 (by kernel_rfl) rfl, cl_once E M fin w s G hI h1 h2 h3 hj i hi (call (.q x :: .ask a a' z x :: K') i (s.mark a i)) fun hV w' hle hI' => ?_⟩
        refine ih (.q x :: .ask a a' z x :: K') (by simp only [hsz, Q.plus.sizeOf_spec] at hK ⊢; omega) (fun e => nomatch e) w' _ G fo i hI' h5 hi ?_
        simpa [call, callQ, hV] using hl
      | @mk b n' t nn a fo y K' h1 h2 h3 h4 h5 =>
        obtain ⟨j, hj, rfl⟩ := h4
        refine ⟨_, rfl, enters_of Try.func84 (by kernel_rfl) rfl, cl_once E M fin w s G hI h1 h2 h3 hj i hi (call (.q y :: K') i (s.mark a i)) fun hV w' hle hI' => ?_⟩
        refine ih (.q y :: K') (by simp only [hsz, Q.mk.sizeOf_spec] at hK ⊢; omega) (fun e => nomatch e) w' _ G fo i hI' h5 hi ?_
        simpa [call, callQ, hV] using hl
      | quest h1 h2 h3 h4 h5 h6 => exact ⟨_, rfl, enters_of Try.func122 (by kernel_rfl) rfl, cl_quest E M fin w s G hI h1 h2 h3 h4 h5 h6 i hi hl⟩
      | later h1 h2 => exact absurd rfl hv
      | @alts ba bw x K' A c vs h1 h2 h3 h4 h5 h6 h7 h8 => exact ⟨_, rfl, enters_of Try.func126 (by kernel_rfl) rfl, hCh w s G ba bw x K' A c vs i hI h1 h2 h3 h4 h5 h6 h7 h8 hi hl⟩
  intro w s G v i hI hR hi hl
  by_cases hv : v.g = .func 155
  · cases hR with
    | @seq x y K' hR => exact ih (.q x :: .q y :: K') (by simp only [hsz, Q.seq.sizeOf_spec] at hK ⊢; omega) (fun e => nomatch e) w s G v i hI hR hi hl
    | base hT =>
    rcases hI.tab.locs _ hT with he | hLoc
    · cases he
      exact hFin rfl w s G i hI hi
    · dsimp only at hLoc
      cases hLoc with
      | @later b l x K' h1 h2 =>
        obtain ⟨z, hz, rfl, rfl, rfl⟩ := h2
        exact ⟨_, rfl, enters_of Try.func155 (by kernel_rfl) rfl, cl_later E M fin w s G hI h1 hz i _ fun w' G' v' hI' hR' hv' => hA w' s G' v' i hI' hR' hv' hi hl⟩
      | _ => exact absurd hv (by intro e; injection e with e; exact absurd e (by decide))
  · exact hA w s G v i hI hR hv hi hl
end Go.Proofs.Ytnemacejaiifnaa
