/- What every statement against the document's answer begins with: the program's input and the document's, of one text; the list handed in is changed behind it. Whatever kind and text. -/
import Derived.Test.YticghidkbpkefaaDoorRefNew
namespace Go.Proofs.YticghidkbpkefaaDoor
open Go Go.RowKit

theorem own_txt {w : World} {B : Nat} {a : Option Addr} {c : Nat} {s : ByteArray} (h : w.ownsRow B 5 1 (.slice a s.size c) s.size ((nums s).map (.int .u8))) : Txt w a c s := by
  have h0 := h
  rcases h.2 with ⟨hv, h1⟩ | ⟨g, cap, cur, hv, _, _, hn, hm, _⟩
  · injection hv with h2 h3 h4
    subst h2
    exact ⟨by omega, by rw [h4]; exact Nat.zero_le _, fun _ => h4, .inl h1⟩
  · injection hv with h2 h3 h4
    subst h2 h4
    refine ⟨hn, hm, fun e => (by cases e), .inr ⟨g, 0, rfl, fun i hi => ?_⟩⟩
    rw [Nat.zero_add, h0.cellAt i (by omega), List.getElem?_map, nums_at s i hi]
    rfl
theorem In.mono {w : World} {B B' : Nat} {k : Int} {s : ByteArray} {b : Nat} (h : In w B k s b) (hB : B' ≤ B) : In w B' k s b := by
  obtain ⟨h0, hb, a, c, a', c', h1, h2, h3⟩ := h
  exact ⟨h0, by omega, a, c, a', c', h1, fun i hi => (let ⟨g, e, hg, hc⟩ := h2 i hi; ⟨g, e, by omega, hc⟩), fun i hi => (let ⟨g, e, hg, hc⟩ := h3 i hi; ⟨g, e, by omega, hc⟩)⟩
theorem RefIn.mono {w : World} {B B' : Nat} {k : Int} {s : ByteArray} {b : Nat} (h : RefIn w B k s b) (hB : B' ≤ B) : RefIn w B' k s b := by
  obtain ⟨h0, hb, g, cg, a, c, a', c', h1, h2, h3, h4, h5⟩ := h
  exact ⟨h0, by omega, g, cg, a, c, a', c', h1, fun i hi => (let ⟨q, e, hq, hc⟩ := h2 i hi; ⟨q, e, by omega, hc⟩), fun i hi => (let ⟨q, e, hq, hc⟩ := h3 i hi; ⟨q, e, by omega, hc⟩), fun i hi => (let ⟨q, e, hq, hc⟩ := h4 i hi; ⟨q, e, by omega, hc⟩), h5⟩

/-- Block g holds bytes in its first n cells. -/
def ByteBlk (w : World) (g n : Nat) : Prop := ∃ cs, Whole w g 5 cs ∧ ∀ i, i < n → ∃ y, cs[i]? = some (.int .u8 y)
theorem ByteBlk.store {w : World} {g n : Nat} (h : ByteBlk w g n) (i : Nat) (z : Int) : ByteBlk (w.setCell ⟨g, i, none⟩ (.int .u8 z)) g n := by
  obtain ⟨cs, h1, h2⟩ := h
  refine ⟨_, h1.store i (.int .u8 z), fun j hj => ?_⟩
  obtain ⟨y, hy⟩ := h2 j hj
  have hl := (Array.getElem?_eq_some_iff.1 hy).1
  by_cases e : i = j
  · subst e
    exact ⟨z, by simp [hl]⟩
  · exact ⟨y, by simp [e, hy]⟩
/-- A list of bytes of the call's own: empty, or in a block of its own. -/
def Own (w : World) (B B1 : Nat) (v : Value) (n : Nat) : Prop :=
  ∃ a c, v = .slice a n c ∧ (n = 0 ∨ ∃ g, a = some ⟨g, 0, none⟩ ∧ n ≤ c ∧ B ≤ g ∧ g < B1 ∧ ByteBlk w g n)
theorem own_of {w : World} {B : Nat} {v : Value} {s : ByteArray} (h : w.ownsRow B 5 1 v s.size ((nums s).map (.int .u8))) : Own w B w.heap.size v s.size := by
  rcases h.2 with ⟨rfl, h1⟩ | ⟨g, cap, cur, rfl, hB, hg, hn, hm, hs, htk⟩
  · exact ⟨none, 0, by rw [h1], .inl h1⟩
  · refine ⟨_, _, rfl, .inr ⟨g, rfl, hn, hB, (Array.getElem?_eq_some_iff.1 hg).1, cur, hg, fun i hi => ?_⟩⟩
    have e := congrArg (·[i]?) htk
    simp only [List.getElem?_take, Nat.mul_one, hi, if_true, List.getElem?_map, nums_at s i hi] at e
    exact ⟨_, by simpa using e⟩
theorem Own.below {w w' : World} {B B1 n : Nat} {v : Value} (h : Own w B B1 v n) (hb : Below w.heap.size w w') : Own w' B B1 v n := by
  obtain ⟨a, c, e, h⟩ := h
  refine ⟨a, c, e, ?_⟩
  rcases h with h | ⟨g, ea, hn, hB, hB1, cs, h1, h2⟩
  · exact .inl h
  · exact .inr ⟨g, ea, hn, hB, hB1, cs, h1.below hb h1.lt, h2⟩

/-- What both leaves of a good kind and a text that is not too long. -/
def BothPost (k : Int) (s : ByteArray) (w : World) (e : Ending) (w' : World) : Prop :=
  ∃ b d, e = .returned (.tuple #[.pointer (some ⟨b, 0, none⟩), .pointer (some ⟨d, 0, none⟩), .bool true]) ∧ In w' w.heap.size k s b ∧ RefIn w' w.heap.size k s d ∧ Below w.heap.size w w'
def BothNone (w : World) (e : Ending) (w' : World) : Prop := e = .returned (.tuple #[.pointer none, .pointer none, .bool true]) ∧ Below w.heap.size w w'

/-- The world behind a change of the list alone: from B1 on all is as it was. -/
def Same (B1 : Nat) (w w' : World) : Prop := w.heap.size ≤ w'.heap.size ∧ ∀ j, B1 ≤ j → j < w.heap.size → w'.heap[j]? = w.heap[j]?

set_option maxHeartbeats 400000 in
set_option maxRecDepth 100000 in
theorem both_ok (k : Int) (h1 : 1 ≤ k) (h2 : k ≤ 3) (A : Option Addr) (c : Nat) (s : ByteArray) (w : World) (hs : (s.size : Int) ≤ 65536) (hx : Txt w A c s)
    (hT : Lib.Utf8Tabs 0 1 w) :
    Calls Tryd.prog 9 #[.int .i64 k, .slice A s.size c] w (BothPost k s w) := by
  obtain ⟨i5, hi5, hz5, hs5, hb5⟩ := info_parts info_byte
  have hB0 : Below w.heap.size w (w.alloc (.cells #[] 5)) := (Below.refl _ w).alloc (Nat.le_refl _) _
  have ho0 : (w.alloc (.cells #[] 5)).ownsRow w.heap.size 5 1 (.slice (some ⟨w.heap.size, 0, none⟩) 0 0) 0 [] := World.ownsRow_lit w #[] 0 (Nat.le_refl _) (Nat.zero_le _) rfl
  have hx0 := Lib.hid (hx.below hB0)
  go_enter Tryd.func9, Tryd.ntmps9
  go_wp2_with (first
    | (at_builtin; refine append_txt rfl (.tmp 13) (.tmp 14) rfl w.heap.size i5 hi5 hz5 hs5 hb5 (.slice (some ⟨w.heap.size, 0, none⟩) 0 0) 0 [] rfl ho0 A c s rfl hx0.out ?a1 ?a2 ?_))
  case a1 => omega
  case a2 => simp
  intro v1 w1 hown1 hg1
  obtain ⟨ad1, cp1, hv1⟩ := own_slice hown1
  subst hv1
  have hB1 := Lib.hid (hB0.grown hg1 (by simp) (by simp [Value.ownBlock]))
  have hO1 := Lib.hid hown1
  have HX := Lib.hid hx; have HT := Lib.hid hT
  clear hown1 hg1 ho0 hB0 hx0 hx hT
  go_wp2_with fail
  refine (new_one k (by omega) ad1 cp1 s w1 hs (own_txt hO1.out).conv).mono ?_
  rintro e w2 ⟨b, rfl, hb, hI, hB2⟩
  have HB2 := Lib.hid hB2; have HI := Lib.hid hI; clear hb hI hB2
  go_wp2_with fail
  refine (ref_one k h1 h2 A c s w2 hs (HX.out.below (hB1.out.trans (HB2.out.mono hB1.out.size))) (tabs_below HT.out (hB1.out.trans (HB2.out.mono hB1.out.size)))).mono ?_
  rintro e w3 ⟨d, rfl, hd, hD, hB3⟩
  have HB3 := Lib.hid hB3; have HD := Lib.hid hD
  have HB := Lib.hid (hB1.out.trans ((HB2.out.trans (hB3.mono HB2.out.size)).mono hB1.out.size))
  have HO := Lib.hid ((own_of hO1.out).below (HB2.out.trans (hB3.mono HB2.out.size)))
  have hle : w1.heap.size ≤ w3.heap.size := (HB2.out.trans (hB3.mono HB2.out.size)).size
  clear hd hD hB3
  go_wp2_with fail
  go_loopw [12] (fun i wr => ∃ m : Nat, i = .int .i64 m ∧ m ≤ s.size ∧ Own wr w.heap.size w1.heap.size (.slice ad1 s.size cp1) s.size ∧ Below w.heap.size w wr ∧ Same w1.heap.size w3 wr) (fun i _ => s.size - (intOf i).toNat)
  case atStart => exact ⟨0, rfl, Nat.zero_le _, HO.out, HB.out, Nat.le_refl _, fun _ _ _ => rfl⟩
  case round =>
    obtain ⟨m, rfl, hm, hO, hBw, hS1, hS2⟩ := hrel
    have HS := Lib.hid hS2; have HBw := Lib.hid hBw; clear hS2 hBw
    by_cases hlt : m < s.size
    · obtain ⟨a, cc, e, hO⟩ := hO
      injection e with e1 e2 e3
      subst e1 e3
      rcases hO with h0 | ⟨g, rfl, hnc, hBg, hgB, hblk⟩
      · omega
      have HK := Lib.hid hblk
      obtain ⟨cs, hW, hcs⟩ := hblk
      obtain ⟨y, hy⟩ := hcs m hlt
      have hcell := (hW.cell m).trans hy
      have hfree := hW.free m
      clear hW hcs hy
      go_wp2
      go_roundw
      case rel =>
        refine ⟨m + 1, by go_num, by omega, ⟨_, _, rfl, .inr ⟨g, rfl, hnc, hBg, hgB, HK.out.store m _⟩⟩, HBw.out.setCell hBg _, by simpa [World.setCell] using hS1, fun j h3 h4 => ?_⟩
        rw [Below.heap_setCell _ _ _ _ (by show j ≠ g; omega)]
        exact HS.out j h3 h4
      case measure => simp [intOf]; omega
    · go_wp2
      go_ret3
      refine ⟨b, d, rfl, ?_, ?_, HBw.out⟩
      · exact ((HI.out.below HB3.out).mono (Nat.le_refl _)).keep (fun j h3 h4 => HS.out j h3 h4) |>.mono hB1.out.size
      · exact (HD.out.keep (fun j h3 h4 => HS.out j (by have := HB2.out.size; omega) h4)).mono (by have := hB1.out.size; have := HB2.out.size; omega)

set_option maxHeartbeats 400000 in
set_option maxRecDepth 100000 in
theorem both_none (k err : Int) (A : Option Addr) (c : Nat) (s : ByteArray) (w : World) (hs : s.size ≤ 140737488355328) (hx : Txt w A c s)
    (hN : ∀ (W : World) (a : Option Addr) (c : Nat), Calls Tryd.prog 23 #[.int .i64 k, .slice a s.size c] W fun e w' => e = .returned (.tuple #[.pointer none, .int .i64 err]) ∧ W = w')
    (hR : ∀ (W : World) (a : Option Addr) (c : Nat), Calls Tryd.prog 28 #[.int .i64 k, .slice a s.size c] W fun e w' => e = .returned (.tuple #[.pointer none, .int .i64 err]) ∧ W = w') :
    Calls Tryd.prog 9 #[.int .i64 k, .slice A s.size c] w (BothNone w) := by
  obtain ⟨i5, hi5, hz5, hs5, hb5⟩ := info_parts info_byte
  have hB0 : Below w.heap.size w (w.alloc (.cells #[] 5)) := (Below.refl _ w).alloc (Nat.le_refl _) _
  have ho0 : (w.alloc (.cells #[] 5)).ownsRow w.heap.size 5 1 (.slice (some ⟨w.heap.size, 0, none⟩) 0 0) 0 [] := World.ownsRow_lit w #[] 0 (Nat.le_refl _) (Nat.zero_le _) rfl
  have hx0 := Lib.hid (hx.below hB0)
  have HN := Lib.hid hN; have HR := Lib.hid hR; clear hN hR
  have hs63 : (s.size : Int) ≤ 9223372036854775807 := by omega
  go_enter Tryd.func9, Tryd.ntmps9
  go_wp2_with (first
    | (at_builtin; refine append_txt rfl (.tmp 13) (.tmp 14) rfl w.heap.size i5 hi5 hz5 hs5 hb5 (.slice (some ⟨w.heap.size, 0, none⟩) 0 0) 0 [] rfl ho0 A c s rfl hx0.out ?a1 ?a2 ?_))
  case a1 => omega
  case a2 => simp
  intro v1 w1 hown1 hg1
  obtain ⟨ad1, cp1, hv1⟩ := own_slice hown1
  subst hv1
  have HB := Lib.hid (hB0.grown hg1 (by simp) (by simp [Value.ownBlock]))
  have HO := Lib.hid (own_of hown1)
  clear hown1 hg1 ho0 hB0 hx0 hx
  go_wp2_with fail
  refine (HN.out w1 ad1 cp1).mono ?_
  rintro e w2 ⟨rfl, rfl⟩
  go_wp2_with fail
  refine (HR.out w1 A c).mono ?_
  rintro e w2 ⟨rfl, rfl⟩
  go_wp2_with fail
  go_loopw [12] (fun i wr => ∃ m : Nat, i = .int .i64 m ∧ m ≤ s.size ∧ Own wr w.heap.size w1.heap.size (.slice ad1 s.size cp1) s.size ∧ Below w.heap.size w wr) (fun i _ => s.size - (intOf i).toNat)
  case atStart => exact ⟨0, rfl, Nat.zero_le _, HO.out, HB.out⟩
  case round =>
    obtain ⟨m, rfl, hm, hO, hBw⟩ := hrel
    have HBw := Lib.hid hBw; clear hBw
    by_cases hlt : m < s.size
    · obtain ⟨a, cc, e, hO⟩ := hO
      injection e with e1 e2 e3
      subst e1 e3
      rcases hO with h0 | ⟨g, rfl, hnc, hBg, hgB, hblk⟩
      · omega
      have HK := Lib.hid hblk
      obtain ⟨cs, hW, hcs⟩ := hblk
      obtain ⟨y, hy⟩ := hcs m hlt
      have hcell := (hW.cell m).trans hy
      have hfree := hW.free m
      clear hW hcs hy
      go_wp2
      go_roundw
      case rel => exact ⟨m + 1, by go_num, by omega, ⟨_, _, rfl, .inr ⟨g, rfl, hnc, hBg, hgB, HK.out.store m _⟩⟩, HBw.out.setCell hBg _⟩
      case measure => simp [intOf]; omega
    · go_wp2
      go_ret3
      exact ⟨rfl, HBw.out⟩
end Go.Proofs.YticghidkbpkefaaDoor
