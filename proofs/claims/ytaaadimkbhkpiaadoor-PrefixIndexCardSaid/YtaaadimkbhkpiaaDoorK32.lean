/- Texts merged by program: RefNew, RefAsk. No condition. -/
import Derived.Test.YtaaadimkbhkpiaaDoorK31
import Derived.Test.YtaaadimkbhkpiaaDoorK11
import Derived.Deep.DeepCutAuto
import Derived.Outline
/- What the document's own input of a text holds: whatever kind and text. -/
namespace Go.Proofs.YtaaadimkbhkpiaaDoor
open Go Go.RowKit
theorem info_byte : (Tryd.prog.info? 5).map (fun i => (i.zero, i.size, i.bytes)) = some (some (.int .u8 0), 1, 1) := by kernel_rfl

theorem info_rune' : (Tryd.prog.info? 21).map (fun i => (i.zero, i.size, i.bytes)) = some (some (.int .i32 0), 1, 4) := by kernel_rfl
theorem info_int' : (Tryd.prog.info? 3).map (fun i => (i.zero, i.size, i.bytes)) = some (some (.int .i64 0), 1, 8) := by kernel_rfl

/-- The document's input while it is made: its bytes, the runes rs, the places os. -/
def RGath (B bd : Nat) (k : Int) (s : ByteArray) (rs os : List Int) (w : World) : Prop :=
  ∃ a c rv ov, B ≤ bd ∧ Whole w bd 56 #[.int .i64 k, .slice a s.size c, rv, ov] ∧ w.ownsRow B 5 1 (.slice a s.size c) s.size ((nums s).map (.int .u8)) ∧
    w.ownsRow B 21 1 rv rs.length (rs.map (.int .i32)) ∧ w.ownsRow B 3 1 ov os.length (os.map (.int .i64))
def RRel (w : World) (bd : Nat) (k : Int) (s : ByteArray) (pos : Nat) (wr : World) : Prop :=
  ∃ (f : Nat) (rs q : List Int), pos ≤ s.size ∧ s.size ≤ pos + f ∧ RGath w.heap.size bd k s rs (q ++ [(pos : Int)]) wr ∧ Below w.heap.size w wr ∧
    rs ++ runesFrom s f pos = runesOf s ∧ q ++ offsFrom s f pos = offsFrom s s.size 0 ∧ rs.length ≤ pos ∧ q.length = rs.length
theorem tabs_below {w w' : World} {g3 g4 : Nat} (h : Lib.Utf8Tabs g3 g4 w) (hb : Below w.heap.size w w') : Lib.Utf8Tabs g3 g4 w' := by
  obtain ⟨h1, h2⟩ := h
  refine ⟨fun c hc => (hb.cell (World.block_lt_of_cell? w _ (h1 c hc))).trans (h1 c hc), fun i hi => ?_⟩
  obtain ⟨h3, h4⟩ := h2 i hi
  exact ⟨(hb.cell (World.block_lt_of_cell? w _ h3)).trans h3, (hb.cell (World.block_lt_of_cell? w _ h4)).trans h4⟩

/-- The capacity of a list that holds a text. -/
def CapOk (g : Option Addr) (cg : Nat) (s : ByteArray) : Prop := s.size ≤ cg ∧ cg ≤ maxLen ∧ (g = none → cg = 0)
theorem own_cap {w : World} {B : Nat} {a : Option Addr} {c : Nat} {s : ByteArray} {xs : List Value} (h : w.ownsRow B 5 1 (.slice a s.size c) s.size xs) : CapOk a c s := by
  rcases h.2 with ⟨hv, h1⟩ | ⟨g, cap, cur, hv, _, _, hn, hm, _⟩
  · injection hv with h2 h3 h4
    exact ⟨by omega, by rw [h4]; exact Nat.zero_le _, fun _ => h4⟩
  · injection hv with h2 h3 h4
    subst h2 h4
    exact ⟨hn, hm, fun e => (by cases e)⟩
/-- Block b is the document's input of kind k of the text s; all that it holds lies from block B on. -/
def RefIn (w : World) (B : Nat) (k : Int) (s : ByteArray) (b : Nat) : Prop :=
  s.size ≤ 2147483648 ∧ B ≤ b ∧ ∃ g cg a c a' c', Whole w b 56 #[.int .i64 k, .slice g s.size cg, .slice a (runesOf s).length c, .slice a' (offsOf s).length c'] ∧
    RowAt w B .u8 g (nums s) ∧ RowAt w B .i32 a (runesOf s) ∧ RowAt w B .i64 a' (offsOf s) ∧ CapOk g cg s
theorem RefIn.keep {w w' : World} {B : Nat} {k : Int} {s : ByteArray} {b : Nat} (h : RefIn w B k s b) (hk : ∀ j, B ≤ j → j < w.heap.size → w'.heap[j]? = w.heap[j]?) : RefIn w' B k s b := by
  obtain ⟨h0, hb, g, cg, a, c, a', c', h1, h2, h3, h4, h5⟩ := h
  exact ⟨h0, hb, g, cg, a, c, a', c', (hk b hb h1.lt).trans h1, h2.keep hk, h3.keep hk, h4.keep hk, h5⟩
theorem RefIn.below {w w' : World} {B : Nat} {k : Int} {s : ByteArray} {b : Nat} (h : RefIn w B k s b) (hb : Below w.heap.size w w') : RefIn w' B k s b := h.keep fun j _ hj => hb.block j hj
/-- What the document's New leaves of a good kind and a text that is not too long. -/
def RefPost (k : Int) (s : ByteArray) (w : World) (e : Ending) (w' : World) : Prop :=
  ∃ b, e = .returned (.tuple #[.pointer (some ⟨b, 0, none⟩), .int .i64 0]) ∧ w.heap.size ≤ b ∧ RefIn w' w.heap.size k s b ∧ Below w.heap.size w w'
theorem ref_start {w w1 : World} {k : Int} {s : ByteArray} {a : Option Addr} {c : Nat} (h : w1.ownsRow w.heap.size 5 1 (.slice a s.size c) s.size ((nums s).map (.int .u8))) (hb : Below w.heap.size w w1) :
    RRel w (w1.heap.size + 1) k s 0 ((w1.alloc (.cells #[.int .i64 0] 3)).alloc (.cells #[.int .i64 k, .slice a s.size c, .slice none 0 0, .slice (some ⟨w1.heap.size, 0, none⟩) 1 1] 56)) := by
  have e : w1.heap.size + 1 = (w1.alloc (.cells #[.int .i64 0] 3)).heap.size := by simp
  refine ⟨s.size, [], [], Nat.zero_le _, by omega, ⟨a, c, .slice none 0 0, .slice (some ⟨w1.heap.size, 0, none⟩) 1 1, by have := hb.size; omega, ?_, (h.alloc _).alloc _, World.ownsRow_nil _ _ _ _, ?_⟩, (hb.alloc hb.size _).alloc (by have := hb.size; simp; omega) _, rfl, rfl, by simp, rfl⟩
  · unfold Whole
    rw [e]
    exact heap_alloc_new _ _
  · have := World.ownsRow_lit (base := w.heap.size) (e := 3) (size := 1) w1 #[.int .i64 0] 1 hb.size (by unfold maxLen; omega) rfl
    exact this.alloc _

set_option maxHeartbeats 400000 in
set_option maxRecDepth 100000 in
theorem ref_one (k : Int) (h1 : 1 ≤ k) (h2 : k ≤ 3) (A : Option Addr) (c : Nat) (s : ByteArray) (w : World) (hs : (s.size : Int) ≤ 65536) (hx : Txt w A c s)
    (hT : Lib.Utf8Tabs 0 1 w) :
    Calls Tryd.prog 16 #[.int .i64 k, .slice A s.size c] w (RefPost k s w) := by
  obtain ⟨i5, hi5, hz5, hs5, hb5⟩ := info_parts info_byte
  obtain ⟨i21, hi21, hz21, hs21, hb21⟩ := info_parts info_rune'
  obtain ⟨i3, hi3, hz3, hs3, hb3⟩ := info_parts info_int'
  have hB0 : Below w.heap.size w (w.alloc (.cells #[] 5)) := (Below.refl _ w).alloc (Nat.le_refl _) _
  have ho0 : (w.alloc (.cells #[] 5)).ownsRow w.heap.size 5 1 (.slice (some ⟨w.heap.size, 0, none⟩) 0 0) 0 [] := World.ownsRow_lit w #[] 0 (Nat.le_refl _) (Nat.zero_le _) rfl
  have hx0 := Lib.hid (hx.below hB0)
  go_enter Tryd.func16, Tryd.ntmps16
  go_wp2_with (first
    | (at_builtin; refine append_txt rfl (.tmp 20) (.tmp 21) rfl w.heap.size i5 hi5 hz5 hs5 hb5 (.slice (some ⟨w.heap.size, 0, none⟩) 0 0) 0 [] rfl ho0 A c s rfl hx0.out ?a1 ?a2 ?_))
  case a1 => omega
  case a2 => simp
  intro v1 w1 hown1 hg1
  obtain ⟨ad1, cp1, hv1⟩ := own_slice hown1
  subst hv1
  have hB1 := hB0.grown hg1 (by simp) (by simp [Value.ownBlock])
  have hR := Lib.hid (ref_start (k := k) hown1 hB1)
  have HX := Lib.hid hx; have HT := Lib.hid hT
  clear hown1 hg1 hB1 ho0 hB0 hx0 hx hT
  go_wp2_with fail
  generalize (w1.alloc (.cells #[.int .i64 0] 3)).alloc (.cells #[.int .i64 k, .slice ad1 s.size cp1, .slice none 0 0, .slice (some ⟨w1.heap.size, 0, none⟩) 1 1] 56) = w2 at hR ⊢
  go_loopw [7] (fun i wr => ∃ pos : Nat, i = .int .i64 pos ∧ RRel w (w1.heap.size + 1) k s pos wr) (fun i _ => s.size - (intOf i).toNat)
  case atStart => exact ⟨0, rfl, hR.out⟩
  case round =>
    obtain ⟨pos, rfl, f, rs, q, hps, hpf, ⟨a, ca, rv, ov, hbd, hW, hb, hr, ho⟩, hBw, q1, q2, hrl, hql⟩ := hrel
    have H1 := Lib.hid q1; have H2 := Lib.hid q2; have H3 := Lib.hid hql; clear q1 q2 hql
    by_cases hp : pos < s.size
    · obtain ⟨x1, x2, x3, x4⟩ := HX.out
      obtain ⟨b, off, rfl, hby⟩ : ∃ b off, A = some ⟨b, off, none⟩ ∧ Lib.Bytes w b off s := by
        rcases x4 with x4 | x4
        · omega
        · exact x4
      obtain ⟨x, hxx⟩ : ∃ x, x = (Utf8.decode s pos).1 := ⟨_, rfl⟩
      obtain ⟨d, hd⟩ : ∃ d, d = (Utf8.decode s pos).2 := ⟨_, rfl⟩
      have hd1 : 1 ≤ d := by rw [hd]; exact Lib.decode_width_pos s pos hp
      have hd2 : pos + d ≤ s.size := by rw [hd]; exact decode_width s pos hp
      have hstep := fun (cap : Nat) => step_at s b off cap wr (tabs_below HT.out hBw) (Bytes_below hby hBw) pos hp
      rw [← hxx, ← hd] at hstep
      have HS := Lib.hid hstep; have HXX := Lib.hid hxx; have HD := Lib.hid hd
      have hcp : ¬ c = pos := by omega
      clear x3 x4 hby hstep hxx hd
      go_wp2_with fail
      refine (HS.out _).mono ?_
      rintro e w3 ⟨rfl, hBs⟩
      have hWi := hW.below hBs hW.lt
      have hbi := own_below hb hBs
      have hri := own_below hr hBs
      have hoi := own_below ho hBs
      have hBi := hBw.trans (hBs.mono hBw.size)
      have c1 := hWi.cell 2
      have f1 := hWi.free 2
      have hsz := hBi.size
      simp only [List.getElem?_toArray, List.getElem?_cons_succ, List.getElem?_cons_zero] at c1
      clear hBs hW hb hr ho hBw
      go_wp2_with (first
        | (at_builtin; refine wpList_append_own _ rfl (.tmp 41) (.tmp 43) 23 rfl w.heap.size 21 i21 (.int .i32 0) 1 4 Tryd.underlying23 hi21 hz21 hs21 hb21 rfl (by decide) rv rs.length (rs.map (.int .i32)) rfl (hri.alloc _) ⟨w3.heap.size, 0, none⟩ 1 1 [.int .i32 x] rfl rfl ?b1 ?b2 ?b3 ?b4 ?b5 ?_))
      case b1 => exact one_new _ _ _
      case b2 => intro u hu; simp at hu; subst hu; rfl
      case b3 => unfold maxLen; omega
      case b4 => omega
      case b5 => simp; omega
      intro v4 w4 hown4 hg4 _
      obtain ⟨ad4, cp4, hv4⟩ := own_slice hown4
      subst hv4
      have e1 := (hWi.alloc (.cells #[.int .i32 x] 21)).grown hg4 (own_whole_ne hri hWi (by decide))
      have e2 := (hbi.alloc (.cells #[.int .i32 x] 21)).kept hg4 (own_own_ne hbi hri (by decide))
      have e3 := (hoi.alloc (.cells #[.int .i32 x] 21)).kept hg4 (own_own_ne hoi hri (by decide))
      have e5 := (hBi.alloc hsz (.cells #[.int .i32 x] 21)).grown hg4 (by simp; omega) (fun k hk => (hri.lt k hk).1)
      have d1 := e1.cell 2
      have d2 := e1.cell 3
      simp only [List.getElem?_toArray, List.getElem?_cons_succ, List.getElem?_cons_zero] at d1 d2
      have f2 := e1.free 2
      have f3 := e1.free 3
      have g1 := e5.size
      have o1 := own_store hown4 e1 (by decide) 2 (.slice ad4 (rs.length + 1) cp4)
      have o2 := own_store e2 e1 (by decide) 2 (.slice ad4 (rs.length + 1) cp4)
      have o3 := own_store e3 e1 (by decide) 2 (.slice ad4 (rs.length + 1) cp4)
      have o4 := e1.store 2 (.slice ad4 (rs.length + 1) cp4)
      have o6 := e5.setCell (p := ⟨w1.heap.size + 1, 2, none⟩) hbd (.slice ad4 (rs.length + 1) cp4)
      clear hown4 hg4 e2 e3 e5 hri hoi hbi hWi hBi c1 f1
      go_wp2_with (first
        | (at_builtin; refine wpList_append_own _ rfl (.tmp 54) (.tmp 56) 46 rfl w.heap.size 3 i3 (.int .i64 0) 1 8 Tryd.underlying46 hi3 hz3 hs3 hb3 rfl (by decide) ov (q ++ [(pos : Int)]).length ((q ++ [(pos : Int)]).map (.int .i64)) rfl (o3.alloc _) ⟨w4.heap.size, 0, none⟩ 1 1 [.int .i64 (pos + d)] rfl rfl ?c1 ?c2 ?c3 ?c4 ?c5 ?_))
      case c1 => have := one_new (w4.setCell ⟨w1.heap.size + 1, 2, none⟩ (.slice ad4 (rs.length + 1) cp4)) (.int .i64 (pos + d)) 3; simpa using this
      case c2 => intro u hu; simp at hu; subst hu; rfl
      case c3 => have := H3.out; simp only [List.length_append, List.length_singleton]; unfold maxLen; omega
      case c4 => have := H3.out; simp only [List.length_append, List.length_singleton]; omega
      case c5 => simp; omega
      intro v5 w5 hown5 hg5 _
      obtain ⟨ad5, cp5, hv5⟩ := own_slice hown5
      subst hv5
      have e1 := (o4.alloc (.cells #[.int .i64 (pos + d)] 3)).grown hg5 (own_whole_ne o3 o4 (by decide))
      have e2 := (o1.alloc (.cells #[.int .i64 (pos + d)] 3)).kept hg5 (own_own_ne o1 o3 (by decide))
      have e3 := (o2.alloc (.cells #[.int .i64 (pos + d)] 3)).kept hg5 (own_own_ne o2 o3 (by decide))
      have e5 := (o6.alloc o6.size (.cells #[.int .i64 (pos + d)] 3)).grown hg5 (by have := o6.size; simp at this ⊢; omega) (fun k hk => (o3.lt k hk).1)
      have d2 := e1.cell 3
      have f2 := e1.free 3
      simp at d2
      have p1 := own_store hown5 e1 (by decide) 3 (.slice ad5 (q.length + 1 + 1) cp5)
      have p2 := own_store e2 e1 (by decide) 3 (.slice ad5 (q.length + 1 + 1) cp5)
      have p3 := own_store e3 e1 (by decide) 3 (.slice ad5 (q.length + 1 + 1) cp5)
      have p4 := e1.store 3 (.slice ad5 (q.length + 1 + 1) cp5)
      have p6 := e5.setCell (p := ⟨w1.heap.size + 1, 3, none⟩) hbd (.slice ad5 (q.length + 1 + 1) cp5)
      clear hown5 hg5 e2 e3 e5 o1 o2 o3 o4 o6
      go_wp2
      go_roundw
      case rel =>
        obtain ⟨f', rfl⟩ : ∃ f', f = f' + 1 := ⟨f - 1, by omega⟩
        refine ⟨pos + d, by go_num, f', rs ++ [(x : Int)], q ++ [(pos : Int)], hd2, by omega, ⟨a, ca, _, _, hbd, p4, p3, by simpa using p2, by simpa using p1⟩, p6, ?_, ?_, by simp; omega, by simp [H3.out]⟩
        · rw [← H1.out, runesFrom_step s f' pos hp, HXX.out, HD.out]; simp
        · rw [← H2.out, offsFrom_step s f' pos hp, HD.out]; simp
      case measure => simp [intOf]; omega
    · go_wp2
      go_ret2
      have hpe : pos = s.size := by omega
      have hR2 : rs = runesOf s := by have h := H1.out; rw [runesFrom_end s f pos hp, List.append_nil] at h; exact h
      have hO2 : q ++ [(pos : Int)] = offsOf s := by have h := H2.out; rw [offsFrom_end s f pos hp, List.append_nil] at h; rw [h, hpe]; rfl
      obtain ⟨a1, c1, hr1⟩ := own_slice hr
      obtain ⟨a2, c2, ho1⟩ := own_slice ho
      subst hr1 ho1
      rw [hO2] at ho hW
      subst hR2
      exact ⟨w1.heap.size + 1, rfl, by omega, ⟨size_le s hs, by omega, a, ca, a1, c1, a2, c2, hW, RowAt.of_own (by rw [length_nums]; exact hb), RowAt.of_own hr, RowAt.of_own ho, own_cap hb⟩, hBw⟩

set_option maxHeartbeats 400000 in
set_option maxRecDepth 100000 in
theorem ref_long (k : Int) (h1 : 1 ≤ k) (h2 : k ≤ 3) (A : Option Addr) (n c : Nat) (w : World) (hs : (65536 : Int) < n) :
    Calls Tryd.prog 16 #[.int .i64 k, .slice A n c] w fun e w' => e = .returned (.tuple #[.pointer none, .int .i64 2]) ∧ w = w' := by
  go_enter Tryd.func16, Tryd.ntmps16
  go_wp2
  go_ret2
  exact ⟨rfl, rfl⟩
set_option maxHeartbeats 400000 in
set_option maxRecDepth 100000 in
theorem ref_low (k : Int) (h1 : k < 1) (A : Option Addr) (n c : Nat) (w : World) :
    Calls Tryd.prog 16 #[.int .i64 k, .slice A n c] w fun e w' => e = .returned (.tuple #[.pointer none, .int .i64 1]) ∧ w = w' := by
  go_enter Tryd.func16, Tryd.ntmps16
  go_wp2
  go_ret2
  exact ⟨rfl, rfl⟩
set_option maxHeartbeats 400000 in
set_option maxRecDepth 100000 in
theorem ref_high (k : Int) (h0 : 1 ≤ k) (h1 : 3 < k) (A : Option Addr) (n c : Nat) (w : World) :
    Calls Tryd.prog 16 #[.int .i64 k, .slice A n c] w fun e w' => e = .returned (.tuple #[.pointer none, .int .i64 1]) ∧ w = w' := by
  go_enter Tryd.func16, Tryd.ntmps16
  go_wp2
  go_ret2
  exact ⟨rfl, rfl⟩
end Go.Proofs.YtaaadimkbhkpiaaDoor
/- What the questions asked of the document's input answer, and those of the program's that the first texts leave: whatever number is asked of. -/
namespace Go.Proofs.YtaaadimkbhkpiaaDoor
open Go Go.RowKit

set_option maxHeartbeats 400000 in
set_option maxRecDepth 100000 in
theorem rlen_cell (d : Nat) (w : World) (a : Option Addr) (n c : Nat) (h2 : w.cell? ⟨d, 2, none⟩ = some (.slice a n c)) :
    Calls Tryd.prog 15 #[.pointer (some ⟨d, 0, none⟩)] w fun e w' => e = .returned (.int .i64 n) ∧ w = w' := by
  go_enter Tryd.func15, Tryd.ntmps15
  go_wp2
  go_ret
  exact ⟨rfl, rfl⟩
theorem rlen_any {B : Nat} {k : Int} {s : ByteArray} {d : Nat} {w : World} (h : RefIn w B k s d) :
    Calls Tryd.prog 15 #[.pointer (some ⟨d, 0, none⟩)] w fun e w' => e = .returned (.int .i64 ((runesOf s).length : Nat)) ∧ w = w' := by
  obtain ⟨_, _, g, cg, a, c, a', c', h1, _, _, _⟩ := h
  have h2 := h1.cell 2
  simp at h2
  exact rlen_cell d w a _ c h2
end Go.Proofs.YtaaadimkbhkpiaaDoor
