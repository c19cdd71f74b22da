/- Texts merged by program: Decode, New, Ask. No condition. -/
import Derived.Test.YtnemacejaiifnaaO11
import Derived.Deep.DeepCutAuto
/- What gathering the runes of a text answers: whatever text of at most 2^31 bytes: the runes and where they begin, in rows of its own. -/
set_option linter.unusedSimpArgs false
namespace Go.Proofs.Ytnemacejaiifnaa
open Go Go.RowKit
theorem info_rune : (Try.prog.info? 21).map (fun i => (i.zero, i.size, i.bytes)) = some (some (.int .i32 0), 1, 4) := by kernel_rfl
theorem info_int : (Try.prog.info? 3).map (fun i => (i.zero, i.size, i.bytes)) = some (some (.int .i64 0), 1, 8) := by kernel_rfl

/-- A making of an empty row: what it leaves, the cells not written out. -/
theorem make_empty (t e : TypeId) (z : Value) (bytes : Nat) (ht : Try.prog.underlying t = some (.slice e)) (hinfo : (Try.prog.info? e).map (fun i => (i.zero, i.size, i.bytes)) = some (some z, 1, bytes)) 
    (c : Nat) (hc : bytes * c ≤ 281474976710656) (h63 : c ≤ maxLen) :
    ∃ C : Array Value, C.size = c ∧ ∀ W : World, (Instr.makeSlice t (.int .i64 0) (.int .i64 (c : Int))).run Try.prog W = .ok (.slice (some ⟨W.heap.size, 0, none⟩) 0 c) (W.alloc (.cells C e)) := by
  obtain ⟨i, hi, h0, h1, h2⟩ := info_parts hinfo
  refine ⟨madeCells z.cells (c * 1), by rw [size_madeCells]; omega, fun W => ?_⟩
  have h63' : (c : Int) ≤ 9223372036854775807 := by
    simp [maxLen] at h63
    omega
  have hb : (i.bytes : Int) * (c : Int) ≤ 281474976710656 := by
    rw [h2]
    have : ((bytes * c : Nat) : Int) ≤ 281474976710656 := by omega
    rwa [Int.natCast_mul] at this
  have hr := run_make (P := Try.prog) W t e i z ht hi h0 .i64 .i64 0 c (Int.le_refl _) (by omega) hb h63'
  simp only [Int.toNat_zero, Int.toNat_natCast, h1] at hr
  exact hr

/-- What has been gathered: block bd is the struct, its two rows hold rs and os. -/
def Gath (B bd : Nat) (s : ByteArray) (rs os : List Int) (w : World) : Prop :=
  ∃ rv ov, B < bd ∧ Whole w bd 43 #[.string s, rv, ov] ∧ w.ownsRow B 21 1 rv rs.length (rs.map (.int .i32)) ∧ w.ownsRow B 3 1 ov os.length (os.map (.int .i64))

theorem three1 (W : World) (o1 o2 o3 : Obj) : ((((W.alloc o1).alloc o2).alloc o3).drew).heap[W.heap.size]? = some o1 :=
  (Below.heap_alloc _ _ _ (by simp; omega)).trans ((Below.heap_alloc _ _ _ (by simp)).trans (heap_alloc_new W o1))
theorem three2 (W : World) (o1 o2 o3 : Obj) : ((((W.alloc o1).alloc o2).alloc o3).drew).heap[W.heap.size + 1]? = some o2 :=
  (Below.heap_alloc _ _ _ (by simp)).trans (by have := heap_alloc_new (W.alloc o1) o2; simpa using this)
theorem three3 (W : World) (o1 o2 o3 : Obj) : ((((W.alloc o1).alloc o2).alloc o3).drew).heap[W.heap.size + 1 + 1]? = some o3 := by
  have h := heap_alloc_new ((W.alloc o1).alloc o2) o3
  rw [World.size_alloc, World.size_alloc] at h
  exact h
theorem gath_of {X : World} {B bd n vr vo : Nat} {s : ByteArray} {CR CO : Array Value} 
    (hs : X.heap[bd]? = some (.cells #[.string s, .slice (some ⟨vr, 0, none⟩) 0 n, .slice (some ⟨vo, 0, none⟩) 0 (n + 1)] 43))
    (hr : X.heap[vr]? = some (.cells CR 21)) (ho : X.heap[vo]? = some (.cells CO 3)) (h0 : B < bd) (h1 : B ≤ vr) (h2 : B ≤ vo) (hn : n < maxLen) (hCR : CR.size = n) (hCO : CO.size = n + 1) : Gath B bd s [] [] X :=
  ⟨_, _, h0, hs, ⟨rfl, .inr ⟨vr, n, CR, rfl, h1, hr, Nat.zero_le _, by omega, by omega, by simp⟩⟩, ⟨rfl, .inr ⟨vo, n + 1, CO, rfl, h2, ho, Nat.zero_le _, by omega, by omega, by simp⟩⟩⟩

theorem gath_alloc {B bd : Nat} {s : ByteArray} {rs os : List Int} {w : World} (h : Gath B bd s rs os w) (o : Obj) : Gath B bd s rs os (w.alloc o) := by
  obtain ⟨rv, ov, h0, h1, h2, h3⟩ := h
  exact ⟨rv, ov, h0, h1.alloc o, h2.alloc o, h3.alloc o⟩
theorem own_store3 {w : World} {g base n : Nat} {t e : TypeId} {cs : Array Value} {v : Value} {xs : List Value} (h : w.ownsRow base e 1 v n xs) (hg : Whole w g t cs) (hne : e ≠ t) (u0 u1 u2 : Value) :
    (((w.setCell ⟨g, 0, none⟩ u0).setCell ⟨g, 1, none⟩ u1).setCell ⟨g, 2, none⟩ u2).ownsRow base e 1 v n xs :=
  own_store (own_store (own_store h hg hne 0 u0) (hg.store 0 u0) hne 1 u1) ((hg.store 0 u0).store 1 u1) hne 2 u2
/-- What decode leaves: the text, its runes, where they begin and where the last ends. -/
def DecPost (s : ByteArray) (w : World) (e : Ending) (w' : World) : Prop :=
  ∃ a c a' c', e = .returned (.agg #[.string s, .slice a (runesOf s).length c, .slice a' (offsOf s).length c']) ∧
    w'.ownsRow w.heap.size 21 1 (.slice a (runesOf s).length c) (runesOf s).length ((runesOf s).map (.int .i32)) ∧
    w'.ownsRow w.heap.size 3 1 (.slice a' (offsOf s).length c') (offsOf s).length ((offsOf s).map (.int .i64)) ∧ Below w.heap.size w w'
/-- The relation of the gathering loop. -/
def Rel (w : World) (bd it : Nat) (s : ByteArray) (wr : World) : Prop :=
  ∃ (pos fuel : Nat) (rs os : List Int), Gath w.heap.size bd s rs os wr ∧ wr.heap[it]? = some (.stringIter s pos) ∧ Below w.heap.size w wr ∧
    Whole wr w.heap.size 43 #[.string ⟨#[]⟩, .slice none 0 0, .slice none 0 0] ∧
    rs ++ runesFrom s fuel pos = runesOf s ∧ os ++ offsFrom s fuel pos = offsFrom s s.size 0 ∧ s.size ≤ pos + fuel ∧ rs.length ≤ pos ∧ os.length = rs.length

set_option maxHeartbeats 400000 in
set_option maxRecDepth 100000 in
theorem decode_any (s : ByteArray) (w : World) (hs : s.size ≤ 2147483648) :
    Calls Try.prog 45 #[.string s] w fun e w' => DecPost s w e w' := by
  go_enter Try.func45, Try.ntmps45
  go_upto_region 2 with (go_at_call 92; refine (count_any s _ (by omega)).mono ?_; rintro e w' ⟨n, hn, rfl, pos, rfl⟩)
  go_cut [4] (fun s4 wx => ∃ bd : Nat, s4 = .pointer (some ⟨bd, 0, none⟩) ∧ Gath w.heap.size bd s [] [] wx ∧ Below w.heap.size w wx ∧ Whole wx w.heap.size 43 #[.string ⟨#[]⟩, .slice none 0 0, .slice none 0 0])
  case first =>
    obtain ⟨CR, hCR, mkR⟩ := make_empty 41 21 _ 4 Try.underlying41 info_rune n (by omega) (by unfold maxLen; omega)
    obtain ⟨CO, hCO, mkO⟩ := make_empty 38 3 _ 8 Try.underlying38 info_int (n + 1) (by omega) (by unfold maxLen; omega)
    rw [Int.natCast_add, Int.natCast_one] at mkO
    have hW1 : Below w.heap.size w ((w.alloc (.cells #[.string ⟨#[]⟩, .slice none 0 0, .slice none 0 0] 43)).iter s pos) := ((Below.refl _ w).alloc (Nat.le_refl _) _).alloc (by simp) _
    have hW2 : Whole ((w.alloc (.cells #[.string ⟨#[]⟩, .slice none 0 0, .slice none 0 0] 43)).iter s pos) w.heap.size 43 #[.string ⟨#[]⟩, .slice none 0 0, .slice none 0 0] := Whole.alloc (by unfold Whole; exact heap_alloc_new w _) _
    generalize (w.alloc (.cells #[.string ⟨#[]⟩, .slice none 0 0, .slice none 0 0] 43)).iter s pos = W2 at hW1 hW2 ⊢
    have hWs := hW2.lt
    have HB := Lib.hid hW1; have HW := Lib.hid hW2; clear hW1 hW2
    go_region
    all_goals (go_wp2_with fail; go_meet)
    all_goals
      refine ⟨_, rfl, ?_, (((HB.out.alloc (by omega) _).alloc (by simp; omega) _).alloc (by simp; omega) _).drew, ((HW.out.alloc _).alloc _).alloc _⟩
      first | (exact gath_of (three1 W2 _ _ _) (three2 W2 _ _ _) (three3 W2 _ _ _) (by omega) (by omega) (by omega) (by unfold maxLen; omega) hCR hCO) | (exact gath_of (three1 W2 _ _ _) (three3 W2 _ _ _) (three2 W2 _ _ _) (by omega) (by omega) (by omega) (by unfold maxLen; omega) hCR hCO) | (exact gath_of (three2 W2 _ _ _) (three1 W2 _ _ _) (three3 W2 _ _ _) (by omega) (by omega) (by omega) (by unfold maxLen; omega) hCR hCO) | (exact gath_of (three2 W2 _ _ _) (three3 W2 _ _ _) (three1 W2 _ _ _) (by omega) (by omega) (by omega) (by unfold maxLen; omega) hCR hCO) | (exact gath_of (three3 W2 _ _ _) (three1 W2 _ _ _) (three2 W2 _ _ _) (by omega) (by omega) (by omega) (by unfold maxLen; omega) hCR hCO) | (exact gath_of (three3 W2 _ _ _) (three2 W2 _ _ _) (three1 W2 _ _ _) (by omega) (by omega) (by omega) (by unfold maxLen; omega) hCR hCO)
  case rest =>
    obtain ⟨bd, rfl, hG, hB, hR⟩ := hcut
    obtain ⟨i21, hi21, hz21, hs21, hb21⟩ := info_parts info_rune
    obtain ⟨i3, hi3, hz3, hs3, hb3⟩ := info_parts info_int
    go_wp2_with fail
    go_loopw [] (fun wr => Rel w bd wc.heap.size s wr) (fun wr => s.size - wr.iterPos wc.heap.size)
    case atStart =>
      exact ⟨0, s.size, [], [], gath_alloc hG _, World.iter_heap wc s 0, hB.alloc hB.size _, hR.alloc _, rfl, rfl, by omega, by simp, rfl⟩
    case round =>
      obtain ⟨pos, fuel, rs, os, ⟨rv, ov, hbd, hW, hr, ho⟩, hit, hBw, hRw, h1, h2, hfu, hrl, hol⟩ := hrel
      have H1 := Lib.hid h1; have H2 := Lib.hid h2; have H3 := Lib.hid hol; clear h1 h2 hol
      by_cases hp : pos < s.size
      · obtain ⟨c, hc⟩ : ∃ c : Nat, c = (Utf8.decode s pos).1 := ⟨_, rfl⟩
        obtain ⟨wi, hwi⟩ : ∃ wi : World, wi = wr.iterAt wc.heap.size s (pos + (Utf8.decode s pos).2) := ⟨_, rfl⟩
        have hnx : ∀ ty, (Instr.next (.pointer (some ⟨wc.heap.size, 0, none⟩)) true ty).run Try.prog wr = .ok (.tuple #[.bool true, .int .i64 pos, .int .i32 c]) wi := fun ty => by rw [hc, hwi]; exact Lib.run_next_any_at wr wc.heap.size s pos ty hit hp
        have hWi := hW.iterAt hit (pos + (Utf8.decode s pos).2)
        have hri := own_iterAt hr hit (pos + (Utf8.decode s pos).2)
        have hoi := own_iterAt ho hit (pos + (Utf8.decode s pos).2)
        have hRi := hRw.iterAt hit (pos + (Utf8.decode s pos).2)
        have hiti := Lib.iterAt_heap wr wc.heap.size s pos (pos + (Utf8.decode s pos).2) hit
        have hBi := Lib.below_iterAt hBw (k := wc.heap.size) hB.size s (pos + (Utf8.decode s pos).2)
        rw [← hwi] at hWi hri hoi hRi hiti hBi
        have HC := Lib.hid hc; have HWI := Lib.hid hwi; have HIT := Lib.hid hit; have HITI := Lib.hid hiti; clear hc hwi hit hiti
        have c1 := hWi.cell 1
        have hsz := hBi.size
        simp only [List.getElem?_toArray, List.getElem?_cons_succ, List.getElem?_cons_zero] at c1
        have hlt := Lib.hid hW.lt
        go_wp2_with (first
          | (at_builtin; refine wpList_append_own _ rfl (.tmp 23) (.tmp 25) 41 rfl w.heap.size 21 i21 (.int .i32 0) 1 4 Try.underlying41 hi21 hz21 hs21 hb21 rfl (by decide) rv rs.length (rs.map (.int .i32)) rfl (hri.alloc _) ⟨wi.heap.size, 0, none⟩ 1 1 [.int .i32 c] rfl rfl ?a1 ?a2 ?a3 ?a4 ?a5 ?_))
        case a1 => exact one_new _ _ _
        case a2 => intro u hu; simp at hu; subst hu; rfl
        case a3 => unfold maxLen; omega
        case a4 => omega
        case a5 => simp; omega
        intro v1 w1 hown1 hg1 _
        obtain ⟨ad1, cp1, hv1⟩ := own_slice hown1
        subst hv1
        have e1 := (hWi.alloc (.cells #[.int .i32 c] 21)).grown hg1 (own_whole_ne hri hWi (by decide))
        have e2 := (hRi.alloc (.cells #[.int .i32 c] 21)).grown hg1 (own_whole_ne hri hRi (by decide))
        have e3 := (hoi.alloc (.cells #[.int .i32 c] 21)).kept hg1 (own_own_ne hoi hri (by decide))
        have e4 := Lib.hid (iter_grown (iter_alloc HITI.out (.cells #[.int .i32 c] 21)) (hri.alloc _) hg1)
        have e5 := (hBi.alloc hsz (.cells #[.int .i32 c] 21)).grown hg1 (by simp; omega) (fun k hk => (hri.lt k hk).1)
        have d1 := e1.cell 1
        have d2 := e1.cell 2
        simp only [List.getElem?_toArray, List.getElem?_cons_succ, List.getElem?_cons_zero] at d1 d2
        have f1 := e1.free 1
        have f2 := e1.free 2
        have g1 := e5.size
        have o1 := own_store hown1 e1 (by decide) 1 (.slice ad1 (rs.length + 1) cp1)
        have o2 := own_store e3 e1 (by decide) 1 (.slice ad1 (rs.length + 1) cp1)
        have o3 := e1.store 1 (.slice ad1 (rs.length + 1) cp1)
        have o4 := e2.far (g' := bd) (by omega) 1 (.slice ad1 (rs.length + 1) cp1)
        have o5 := Lib.hid (iter_store e4.out e1 1 (.slice ad1 (rs.length + 1) cp1))
        have o6 := e5.setCell (p := ⟨bd, 1, none⟩) (by show w.heap.size ≤ bd; omega) (.slice ad1 (rs.length + 1) cp1)
        clear hown1 hg1 e2 e3 e4 e5 hri hoi hRi hWi hBi c1
        go_wp2_with (first
          | (at_builtin; go_loud (refine wpList_append_own _ rfl (.tmp 29) (.tmp 31) 38 rfl w.heap.size 3 i3 (.int .i64 0) 1 8 Try.underlying38 hi3 hz3 hs3 hb3 rfl (by decide) ov os.length (os.map (.int .i64)) rfl (o2.alloc _) ⟨w1.heap.size, 0, none⟩ 1 1 [.int .i64 pos] rfl rfl ?b1 ?b2 ?b3 ?b4 ?b5 ?_)))
        case b1 => have := one_new (w1.setCell ⟨bd, 1, none⟩ (.slice ad1 (rs.length + 1) cp1)) (.int .i64 pos) 3; simpa using this
        case b2 => intro u hu; simp at hu; subst hu; rfl
        case b3 => have := H3.out; unfold maxLen; omega
        case b4 => have := H3.out; omega
        case b5 => simp; omega
        intro v2 w2 hown2 hg2 _
        obtain ⟨ad2, cp2, hv2⟩ := own_slice hown2
        subst hv2
        have e1 := (o3.alloc (.cells #[.int .i64 pos] 3)).grown hg2 (own_whole_ne o2 o3 (by decide))
        have e2 := (o4.alloc (.cells #[.int .i64 pos] 3)).grown hg2 (own_whole_ne o2 o4 (by decide))
        have e3 := (o1.alloc (.cells #[.int .i64 pos] 3)).kept hg2 (own_own_ne o1 o2 (by decide))
        have e4 := Lib.hid (iter_grown (iter_alloc o5.out (.cells #[.int .i64 pos] 3)) (o2.alloc _) hg2)
        have e5 := (o6.alloc o6.size (.cells #[.int .i64 pos] 3)).grown hg2 (by have := o6.size; simp at this ⊢; omega) (fun k hk => (o2.lt k hk).1)
        have d2 := e1.cell 2
        have f2 := e1.free 2
        simp at d2
        have p1 := own_store hown2 e1 (by decide) 2 (.slice ad2 (os.length + 1) cp2)
        have p2 := own_store e3 e1 (by decide) 2 (.slice ad2 (os.length + 1) cp2)
        have p3 := e1.store 2 (.slice ad2 (os.length + 1) cp2)
        have p4 := e2.far (g' := bd) (by omega) 2 (.slice ad2 (os.length + 1) cp2)
        have p5 := Lib.hid (iter_store e4.out e1 2 (.slice ad2 (os.length + 1) cp2))
        have p6 := e5.setCell (p := ⟨bd, 2, none⟩) (by show w.heap.size ≤ bd; omega) (.slice ad2 (os.length + 1) cp2)
        clear hown2 hg2 e2 e3 e4 e5 o1 o2 o3 o4 o5 o6
        go_wp2
        go_roundw
        case rel =>
          obtain ⟨f, rfl⟩ : ∃ f, fuel = f + 1 := ⟨fuel - 1, by omega⟩
          have hwd := Lib.decode_width_pos s pos hp
          refine ⟨pos + (Utf8.decode s pos).2, f, rs ++ [(c : Int)], os ++ [(pos : Int)], ⟨_, _, hbd, p3, by simpa using p2, by simpa using p1⟩, p5.out, p6, p4, ?_, ?_, by omega, by simp; omega, by simp [H3.out]⟩
          · rw [← H1.out, runesFrom_step s f pos hp, HC.out]; simp
          · rw [← H2.out, offsFrom_step s f pos hp]; simp
        case measure =>
          have hwd := Lib.decode_width_pos s pos hp
          rw [iterPos_of p5.out, iterPos_of HIT.out]
          omega
      · obtain ⟨ar, cr, hrv⟩ := own_slice hr
        subst hrv
        have hnx : ∀ ty, (Instr.next (.pointer (some ⟨wc.heap.size, 0, none⟩)) true ty).run Try.prog wr = _ := fun ty => Lib.run_next_end_at wr wc.heap.size s pos ty hit hp
        have c2 := hW.cell 2
        have k2 := hW.free 2
        simp at c2
        have hsz := hBw.size
        have hos : os.length ≤ s.size := by
          have h := H2.out
          have e := length_offsFrom s s.size 0
          have e' := length_runesFrom s s.size 0
          rw [← h] at e
          simp at e
          omega
        go_wp2_with (first
          | (at_builtin; refine wpList_append_own _ rfl (.tmp 35) (.tmp 38) 38 rfl w.heap.size 3 i3 (.int .i64 0) 1 8 Try.underlying38 hi3 hz3 hs3 hb3 rfl (by decide) ov os.length (os.map (.int .i64)) rfl (ho.alloc _) ⟨wr.heap.size, 0, none⟩ 1 1 [.int .i64 s.size] rfl rfl ?d1 ?d2 ?d3 ?d4 ?d5 ?_))
        case d1 => exact one_new _ _ _
        case d2 => intro u hu; simp at hu; subst hu; rfl
        case d3 => unfold maxLen; omega
        case d4 => omega
        case d5 => simp; omega
        intro v2 w2 hown2 hg2 _
        obtain ⟨ad2, cp2, hv2⟩ := own_slice hown2
        subst hv2
        have e1 := (hW.alloc (.cells #[.int .i64 s.size] 3)).grown hg2 (own_whole_ne ho hW (by decide))
        have e2 := (hRw.alloc (.cells #[.int .i64 s.size] 3)).grown hg2 (own_whole_ne ho hRw (by decide))
        have e3 := (hr.alloc (.cells #[.int .i64 s.size] 3)).kept hg2 (own_own_ne hr ho (by decide))
        have e5 := (hBw.alloc hBw.size (.cells #[.int .i64 s.size] 3)).grown hg2 (by simp; omega) (fun k hk => (ho.lt k hk).1)
        have q0 := e1.cell 0
        have q1 := e1.cell 1
        have q2 := e1.cell 2
        have f2 := e1.free 2
        have r0 := e2.cell 0
        have r1 := e2.cell 1
        have r2 := e2.cell 2
        have s0 := e2.free 0
        have s1 := e2.free 1
        have s2 := e2.free 2
        simp at q0 q1 q2 r0 r1 r2
        have HBD := Lib.hid hbd
        have hne : ¬ bd = w.heap.size := by omega
        have hne' : ¬ w.heap.size = bd := by omega
        go_wp2
        refine bodyPost_ret (v := .agg #[.string s, .slice ar rs.length cr, .slice ad2 (os.length + 1) cp2]) ?_ rfl ?_
        · have t4 := e2.far (g' := bd) hne' 2 (.slice ad2 (os.length + 1) cp2)
          have y0 := (t4.store 0 (.string s)).cell 0
          have y1 := ((t4.store 0 (.string s)).store 1 (.slice ar rs.length cr)).cell 1
          have y2 := (((t4.store 0 (.string s)).store 1 (.slice ar rs.length cr)).store 2 (.slice ad2 (os.length + 1) cp2)).cell 2
          simp at y0 y1 y2
          simp [results, Try.results45, go_sem, y0, y1, y2]
        · have hR2 : rs = runesOf s := by have h := H1.out; rw [runesFrom_end s fuel pos hp, List.append_nil] at h; exact h
          have hO2 : os ++ [(s.size : Int)] = offsOf s := by have h := H2.out; rw [offsFrom_end s fuel pos hp, List.append_nil] at h; rw [h]; rfl
          have hl2 : os.length + 1 = (offsOf s).length := by rw [← hO2]; simp
          have t1 := e1.store 2 (.slice ad2 (os.length + 1) cp2)
          have t2 := own_store hown2 e1 (by decide) 2 (.slice ad2 (os.length + 1) cp2)
          have t3 := own_store e3 e1 (by decide) 2 (.slice ad2 (os.length + 1) cp2)
          have t4 := e2.far (g' := bd) hne' 2 (.slice ad2 (os.length + 1) cp2)
          have t5 := e5.setCell (p := ⟨bd, 2, none⟩) (by show w.heap.size ≤ bd; omega) (.slice ad2 (os.length + 1) cp2)
          have x1 := own_store3 t2 t4 (by decide) (.string s) (.slice ar rs.length cr) (.slice ad2 (os.length + 1) cp2)
          have x2 := own_store3 t3 t4 (by decide) (.string s) (.slice ar rs.length cr) (.slice ad2 (os.length + 1) cp2)
          have x3 := ((t5.setCell (p := ⟨w.heap.size, 0, none⟩) (Nat.le_refl _) (.string s)).setCell (p := ⟨w.heap.size, 1, none⟩) (Nat.le_refl _) (.slice ar rs.length cr)).setCell (p := ⟨w.heap.size, 2, none⟩) (Nat.le_refl _) (.slice ad2 (os.length + 1) cp2)
          clear t1 t2 t3 t4 t5 e1 e2 e3 e5
          subst hR2
          exact ⟨ar, cr, ad2, cp2, by rw [← hl2], x2, by rw [← hl2, ← hO2]; simpa using x1, x3⟩
end Go.Proofs.Ytnemacejaiifnaa
/- What making an input answers: every kind, every text that can be read: the input, or which of two errors. -/
namespace Go.Proofs.Ytnemacejaiifnaa
open Go Go.RowKit

/-- A row that reads as the numbers xs. -/
def RowAt (w : World) (B : Nat) (k : IntKind) (a : Option Addr) (xs : List Int) : Prop := ∀ i (h : i < xs.length), ∃ g, a = some ⟨g, 0, none⟩ ∧ B ≤ g ∧ w.cell? ⟨g, i, none⟩ = some (.int k xs[i])
theorem RowAt.keep {w w' : World} {B : Nat} {k : IntKind} {a : Option Addr} {xs : List Int} (h : RowAt w B k a xs) (hk : ∀ j, B ≤ j → j < w.heap.size → w'.heap[j]? = w.heap[j]?) : RowAt w' B k a xs := by
  intro i hi
  obtain ⟨g, e, hg, hc⟩ := h i hi
  exact ⟨g, e, hg, (World.cell?_of_block (w := w) (hk g hg (World.block_lt_of_cell? w _ hc))).trans hc⟩
theorem RowAt.below {w w' : World} {B : Nat} {k : IntKind} {a : Option Addr} {xs : List Int} (h : RowAt w B k a xs) (hb : Below w.heap.size w w') : RowAt w' B k a xs := h.keep fun j _ hj => hb.block j hj
theorem RowAt.of_own {w : World} {B : Nat} {e : TypeId} {k : IntKind} {a : Option Addr} {c : Nat} {xs : List Int} (h : w.ownsRow B e 1 (.slice a xs.length c) xs.length (xs.map (.int k))) : RowAt w B k a xs := by
  intro i hi
  rcases h.2 with ⟨_, h0⟩ | ⟨q, cap, cur, hv, hq, _⟩
  · omega
  · injection hv with h1 h2 h3
    subst h1
    refine ⟨q, rfl, by assumption, ?_⟩
    rw [h.cellAt i (by omega)]
    simp [hi]

/-- Block b is an input of kind k of the text s; all that it holds lies from block B on. -/
def In (w : World) (B : Nat) (k : Int) (s : ByteArray) (b : Nat) : Prop :=
  s.size ≤ 2147483648 ∧ B ≤ b ∧ ∃ a c a' c', Whole w b 45 #[.int .i64 k, .string s, .slice a (runesOf s).length c, .slice a' (offsOf s).length c'] ∧ RowAt w B .i32 a (runesOf s) ∧ RowAt w B .i64 a' (offsOf s)
theorem In.keep {w w' : World} {B : Nat} {k : Int} {s : ByteArray} {b : Nat} (h : In w B k s b) (hk : ∀ j, B ≤ j → j < w.heap.size → w'.heap[j]? = w.heap[j]?) : In w' B k s b := by
  obtain ⟨h0, hb, a, c, a', c', h1, h2, h3⟩ := h
  exact ⟨h0, hb, a, c, a', c', (hk b hb h1.lt).trans h1, h2.keep hk, h3.keep hk⟩
theorem In.below {w w' : World} {B : Nat} {k : Int} {s : ByteArray} {b : Nat} (h : In w B k s b) (hb : Below w.heap.size w w') : In w' B k s b := h.keep fun j _ hj => hb.block j hj
theorem In.lt {w : World} {B : Nat} {k : Int} {s : ByteArray} {b : Nat} (h : In w B k s b) : b < w.heap.size := by
  obtain ⟨_, _, a, c, a', c', h1, h2, h3⟩ := h
  exact h1.lt
/-- What New leaves of a good kind and a text that is not too long. -/
def NewPost (k : Int) (s : ByteArray) (w : World) (e : Ending) (w' : World) : Prop :=
  ∃ b, e = .returned (.tuple #[.pointer (some ⟨b, 0, none⟩), .int .i64 0]) ∧ w.heap.size ≤ b ∧ In w' w.heap.size k s b ∧ Below w.heap.size w w'

theorem size_le (s : ByteArray) (h : (s.size : Int) ≤ 65536) : s.size ≤ 2147483648 := by omega

set_option maxHeartbeats 400000 in
set_option maxRecDepth 100000 in
theorem new_one (k : Int) (hk : k = 1 ∨ k = 2 ∨ k = 3) (A : Option Addr) (c : Nat) (s : ByteArray) (w : World) (hs : (s.size : Int) ≤ 65536)
    (hconv : (convert 28 9 (.slice A s.size c)).run Try.prog w = .ok (.string s) w) :
    Calls Try.prog 28 #[.int .i64 k, .slice A s.size c] w (NewPost k s w) := by
  have hs' := size_le s hs
  rcases hk with rfl | rfl | rfl
  all_goals
    go_enter Try.func28, Try.ntmps28
    go_wp2_with (go_at_call 45; refine (decode_any s _ hs').mono ?_; rintro e w1 ⟨a1, c1, a2, c2, rfl, h1, h2, h3⟩)
    go_ret2
    refine ⟨w1.heap.size, rfl, h3.size, ⟨hs', h3.size, a1, c1, a2, c2, by unfold Whole; exact heap_alloc_new w1 _, (RowAt.of_own h1).below ((Below.refl _ _).alloc (Nat.le_refl _) _), (RowAt.of_own h2).below ((Below.refl _ _).alloc (Nat.le_refl _) _)⟩, h3.alloc h3.size _⟩

set_option maxHeartbeats 400000 in
set_option maxRecDepth 100000 in
theorem new_long (k : Int) (hk : k = 1 ∨ k = 2 ∨ k = 3) (A : Option Addr) (n c : Nat) (w : World) (hs : (65536 : Int) < n) :
    Calls Try.prog 28 #[.int .i64 k, .slice A n c] w fun e w' => e = .returned (.tuple #[.pointer none, .int .i64 2]) ∧ w = w' := by
  rcases hk with rfl | rfl | rfl
  all_goals
    go_enter Try.func28, Try.ntmps28
    go_wp2
    go_ret2
    exact ⟨rfl, rfl⟩

set_option maxHeartbeats 400000 in
set_option maxRecDepth 100000 in
theorem new_bad (k : Int) (h1 : (k == 1) = false) (h2 : (k == 2) = false) (h3 : (k == 3) = false) (A : Option Addr) (n c : Nat) (w : World) :
    Calls Try.prog 28 #[.int .i64 k, .slice A n c] w fun e w' => e = .returned (.tuple #[.pointer none, .int .i64 1]) ∧ w = w' := by
  go_enter Try.func28, Try.ntmps28
  go_wp2
  go_ret2
  exact ⟨rfl, rfl⟩
end Go.Proofs.Ytnemacejaiifnaa
/- What the questions asked of an input answer: how many runes, a rune, its byte, what a place is: whatever number is asked of. -/
namespace Go.Proofs.Ytnemacejaiifnaa
open Go Go.RowKit

set_option maxHeartbeats 400000 in
set_option maxRecDepth 100000 in
theorem len_cell (b : Nat) (w : World) (a : Option Addr) (n c : Nat) (h2 : w.cell? ⟨b, 2, none⟩ = some (.slice a n c)) :
    Calls Try.prog 15 #[.pointer (some ⟨b, 1, none⟩)] w fun e w' => e = .returned (.int .i64 n) ∧ w = w' := by
  go_enter Try.func15, Try.ntmps15
  go_wp2
  go_ret
  exact ⟨rfl, rfl⟩
set_option maxHeartbeats 400000 in
set_option maxRecDepth 100000 in
theorem rune_in (b g : Nat) (w : World) (n c k : Nat) (x : Int) (hk : k < n) (_hn : n ≤ 9223372036854775807) (h2 : w.cell? ⟨b, 2, none⟩ = some (.slice (some ⟨g, 0, none⟩) n c)) (hx : w.cell? ⟨g, k, none⟩ = some (.int .i32 x)) :
    Calls Try.prog 44 #[.pointer (some ⟨b, 1, none⟩), .int .i64 k] w fun e w' => e = .returned (.int .i32 x) ∧ w = w' := by
  go_enter Try.func44, Try.ntmps44
  go_wp2
  go_ret
  exact ⟨rfl, rfl⟩
set_option maxHeartbeats 400000 in
set_option maxRecDepth 100000 in
theorem rune_neg (b : Nat) (w : World) (a : Option Addr) (n c : Nat) (i : Int) (hi : i < 0) (_h2 : w.cell? ⟨b, 2, none⟩ = some (.slice a n c)) :
    Calls Try.prog 44 #[.pointer (some ⟨b, 1, none⟩), .int .i64 i] w fun e w' => e = .returned (.int .i32 (-1)) ∧ w = w' := by
  go_enter Try.func44, Try.ntmps44
  go_wp2
  go_ret
  exact ⟨rfl, rfl⟩
set_option maxHeartbeats 400000 in
set_option maxRecDepth 100000 in
theorem rune_far (b : Nat) (w : World) (a : Option Addr) (n c : Nat) (i : Int) (h0 : 0 ≤ i) (hi : (n : Int) ≤ i) (h2 : w.cell? ⟨b, 2, none⟩ = some (.slice a n c)) :
    Calls Try.prog 44 #[.pointer (some ⟨b, 1, none⟩), .int .i64 i] w fun e w' => e = .returned (.int .i32 (-1)) ∧ w = w' := by
  go_enter Try.func44, Try.ntmps44
  go_wp2
  go_ret
  exact ⟨rfl, rfl⟩
set_option maxHeartbeats 400000 in
set_option maxRecDepth 100000 in
theorem off_in (b g : Nat) (w : World) (n c k : Nat) (x : Int) (hk : k < n) (_hn : n ≤ 9223372036854775807) (h3 : w.cell? ⟨b, 3, none⟩ = some (.slice (some ⟨g, 0, none⟩) n c)) (hx : w.cell? ⟨g, k, none⟩ = some (.int .i64 x)) :
    Calls Try.prog 67 #[.pointer (some ⟨b, 1, none⟩), .int .i64 k] w fun e w' => e = .returned (.int .i64 x) ∧ w = w' := by
  go_enter Try.func67, Try.ntmps67
  go_wp2
  go_ret
  exact ⟨rfl, rfl⟩
set_option maxHeartbeats 400000 in
set_option maxRecDepth 100000 in
theorem off_neg (b : Nat) (w : World) (a : Option Addr) (n c : Nat) (i : Int) (hi : i < 0) (_h3 : w.cell? ⟨b, 3, none⟩ = some (.slice a n c)) :
    Calls Try.prog 67 #[.pointer (some ⟨b, 1, none⟩), .int .i64 i] w fun e w' => e = .returned (.int .i64 (-1)) ∧ w = w' := by
  go_enter Try.func67, Try.ntmps67
  go_wp2
  go_ret
  exact ⟨rfl, rfl⟩
set_option maxHeartbeats 400000 in
set_option maxRecDepth 100000 in
theorem off_far (b : Nat) (w : World) (a : Option Addr) (n c : Nat) (i : Int) (h0 : 0 ≤ i) (hi : decide (i < (n : Int)) = false) (h3 : w.cell? ⟨b, 3, none⟩ = some (.slice a n c)) :
    Calls Try.prog 67 #[.pointer (some ⟨b, 1, none⟩), .int .i64 i] w fun e w' => e = .returned (.int .i64 (-1)) ∧ w = w' := by
  go_enter Try.func67, Try.ntmps67
  go_wp2
  go_ret
  exact ⟨rfl, rfl⟩

theorem ret_bool {a b : Bool} (h : a = b) : Ending.returned (.bool a) = .returned (.bool b) := by rw [h]
theorem ret_int {k : IntKind} {a b : Int} (h : a = b) : Ending.returned (.int k a) = .returned (.int k b) := by rw [h]
theorem len_any {B : Nat} {k : Int} {s : ByteArray} {b : Nat} {w : World} (h : In w B k s b) :
    Calls Try.prog 15 #[.pointer (some ⟨b, 1, none⟩)] w fun e w' => e = .returned (.int .i64 ((runesOf s).length : Nat)) ∧ w = w' := by
  obtain ⟨_, _, a, c, a', c', h1, _, _⟩ := h
  have h2 := h1.cell 2
  simp at h2
  exact len_cell b w a _ c h2
theorem rune_any {B : Nat} {k : Int} {s : ByteArray} {b : Nat} {w : World} (h : In w B k s b) (i : Int) :
    Calls Try.prog 44 #[.pointer (some ⟨b, 1, none⟩), .int .i64 i] w fun e w' => e = .returned (.int .i32 (runeAt (runesOf s) i)) ∧ w = w' := by
  obtain ⟨h0, _, a, c, a', c', h1, h3, _⟩ := h
  have h2 := h1.cell 2
  simp at h2
  have hl := length_runesOf s
  by_cases hi : i < 0
  · rw [runeAt_out _ _ (by omega)]
    exact rune_neg b w a _ c i hi h2
  · by_cases hi2 : ((runesOf s).length : Int) ≤ i
    · rw [runeAt_out _ _ (by omega)]
      exact rune_far b w a _ c i (by omega) hi2 h2
    · obtain ⟨k, rfl⟩ : ∃ k : Nat, i = k := ⟨i.toNat, by omega⟩
      have hk : k < (runesOf s).length := by omega
      rw [runeAt_in _ k hk]
      obtain ⟨g, rfl, _, hc⟩ := h3 k hk
      exact rune_in b g w _ c k _ hk (by omega) h2 hc
theorem off_any {B : Nat} {k : Int} {s : ByteArray} {b : Nat} {w : World} (h : In w B k s b) (i : Int) :
    Calls Try.prog 67 #[.pointer (some ⟨b, 1, none⟩), .int .i64 i] w fun e w' => e = .returned (.int .i64 (offAt (offsOf s) i)) ∧ w = w' := by
  obtain ⟨h0, _, a, c, a', c', h1, _, h3⟩ := h
  have h2 := h1.cell 3
  simp at h2
  have hl := length_runesOf s
  have hl2 := length_offsOf s
  by_cases hi : i < 0
  · rw [offAt_out _ _ (by omega)]
    exact off_neg b w a' _ c' i hi h2
  · by_cases hi2 : ((offsOf s).length : Int) ≤ i
    · rw [offAt_out _ _ (by omega)]
      exact off_far b w a' _ c' i (by omega) (by simpa using hi2) h2
    · obtain ⟨k, rfl⟩ : ∃ k : Nat, i = k := ⟨i.toNat, by omega⟩
      have hk : k < (offsOf s).length := by omega
      rw [offAt_in _ k hk]
      obtain ⟨g, rfl, _, hc⟩ := h3 k hk
      exact off_in b g w _ c' k _ hk (by omega) h2 hc

set_option maxHeartbeats 400000 in
set_option maxRecDepth 100000 in
theorem word_any (x : Int) (w : World) :
    Calls Try.prog 142 #[.int .i32 x] w fun e w' => e = .returned (.bool (wordB x)) ∧ w = w' := by
  go_enter Try.func142, Try.ntmps142
  go_wp2
  all_goals
    go_ret
    refine ⟨ret_bool ?_, rfl⟩
    unfold wordB
    rw [Bool.eq_iff_iff]
    simp
    omega

set_option maxHeartbeats 400000 in
set_option maxRecDepth 100000 in
theorem place_yes (b : Nat) (w : World) (a : Option Addr) (n c : Nat) (i : Int) (h0 : 0 ≤ i) (hi : i < (n : Int)) (h3 : w.cell? ⟨b, 3, none⟩ = some (.slice a n c)) :
    Calls Try.prog 108 #[.pointer (some ⟨b, 1, none⟩), .int .i64 i] w fun e w' => e = .returned (.bool true) ∧ w = w' := by
  go_enter Try.func108, Try.ntmps108
  go_wp2
  go_ret
  exact ⟨rfl, rfl⟩
set_option maxHeartbeats 400000 in
set_option maxRecDepth 100000 in
/-- At a place: the five answers decided one by one. -/
theorem at_in {B : Nat} {k : Int} {s : ByteArray} {b : Nat} {w : World} (h : In w B k s b) (i : Int) (h0 : 0 ≤ i) (h1 : i ≤ (runesOf s).length) :
    Calls Try.prog 115 #[.pointer (some ⟨b, 1, none⟩), .int .i64 i] w fun e w' => e = .returned (.int .i64 (atOf (runesOf s) i)) ∧ w = w' := by
  obtain ⟨x, hx⟩ : ∃ x, x = runeAt (runesOf s) (i - 1) := ⟨_, rfl⟩
  obtain ⟨y, hy⟩ : ∃ y, y = runeAt (runesOf s) i := ⟨_, rfl⟩
  obtain ⟨n, hn⟩ : ∃ n : Nat, n = (runesOf s).length := ⟨_, rfl⟩
  have cl := len_any h
  have cx := rune_any h (i - 1)
  have cy := rune_any h i
  rw [← hx] at cx
  rw [← hy] at cy
  rw [← hn] at cl
  have e : atOf (runesOf s) i = sumOf (wordB x != wordB y) (i == 0) (i == n) (i == 0 || x == 10) (i == n || y == 10) := by
    unfold atOf
    rw [if_pos ⟨h0, h1⟩, ← hx, ← hy, ← hn]
  rw [e]
  have hpl : n + 1 = (offsOf s).length := by rw [length_offsOf, hn]
  obtain ⟨hsz, _, a, c, a', c', hW, _, _⟩ := h
  have h3 := hW.cell 3
  simp only [List.getElem?_toArray, List.getElem?_cons_succ, List.getElem?_cons_zero] at h3
  rw [← hpl] at h3
  have hl := length_runesOf s
  rw [← hn] at hl h1
  have HL := Lib.hid cl; have HX := Lib.hid cx; have HY := Lib.hid cy
  clear cl cx cy hx hy hn e hpl hW
  go_enter Try.func115, Try.ntmps115
  go_wp2_with fail
  refine (place_yes b w a' (n + 1) c' i h0 (by omega) h3).mono ?_
  rintro e w' ⟨rfl, rfl⟩
  go_wp2_with fail
  refine HL.out.mono ?_
  rintro e w' ⟨rfl, rfl⟩
  go_wp2_with fail
  refine HX.out.mono ?_
  rintro e w' ⟨rfl, rfl⟩
  go_wp2_with fail
  refine HY.out.mono ?_
  rintro e w' ⟨rfl, rfl⟩
  go_wp2_with fail
  refine (word_any x w).mono ?_
  rintro e w' ⟨rfl, rfl⟩
  go_wp2_with fail
  refine (word_any y w).mono ?_
  rintro e w' ⟨rfl, rfl⟩
  go_wp2
  all_goals
    go_ret
    refine ⟨ret_int ?_, rfl⟩
    simp [sumOf, bne, *]
end Go.Proofs.Ytnemacejaiifnaa
