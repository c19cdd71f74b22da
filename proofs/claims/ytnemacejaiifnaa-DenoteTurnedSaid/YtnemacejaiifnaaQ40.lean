/- Texts merged by program: DnBack. No condition. -/
import Derived.Test.YtnemacejaiifnaaQ38
import Derived.Test.YtnemacejaiifnaaQ39
import Derived.Test.YtnemacejaiifnaaQ8
import Derived.Test.YtnemacejaiifnaaQ20
import Derived.Lib.ConvBytes
import Derived.StillTailTactics
import Derived.Laws.IdiomStrings
set_option linter.unusedVariables false
set_option maxRecDepth 100000
/- What turning an input answers: the input of the runes from behind, written as UTF-8. -/
namespace Go.Proofs.Ytnemacejaiifnaa
open Go Go.RowKit

theorem info_byteX : (Try.prog.info? 5).map (fun i => (i.zero, i.size, i.bytes)) = some (some (.int .u8 0), 1, 1) := by kernel_rfl
/-- The text of the runes from behind. -/
def turnT (R : List Int) : ByteArray := ⟨(encR R.reverse).toArray⟩
theorem turnT_list (R : List Int) : (turnT R).data.toList = encR R.reverse := rfl
theorem runes_turnT (R : List Int) (h : ∀ r ∈ R, IsRune r) : runesOf (turnT R) = R.reverse := by
  have hs : (turnT R).size ≤ 0 + (turnT R).size := by omega
  exact (read_back (turnT R) R.reverse (turnT R).size 0 (fun r hr => h r (List.mem_reverse.1 hr)) rfl hs).1
theorem offs_turnT (R : List Int) (h : ∀ r ∈ R, IsRune r) : offsOf (turnT R) = placesR 0 R.reverse ++ [((turnT R).size : Int)] := by
  have hs : (turnT R).size ≤ 0 + (turnT R).size := by omega
  unfold offsOf
  rw [(read_back (turnT R) R.reverse (turnT R).size 0 (fun r hr => h r (List.mem_reverse.1 hr)) rfl hs).2]
theorem encR_append (A B : List Int) : encR (A ++ B) = encR A ++ encR B := by simp [encR]
theorem encodeRune_le (r : Int) : (Lib.encodeRune r).length ≤ 4 := by
  unfold Lib.encodeRune Lib.encodeRuneZ
  repeat' split
  all_goals simp
theorem encR_le : ∀ R : List Int, (encR R).length ≤ 4 * R.length
  | [] => by simp [encR]
  | r :: R => by
    have h1 := encR_le R
    have h2 := encodeRune_le r
    have h3 : encR (r :: R) = Lib.encodeRune r ++ encR R := rfl
    rw [h3, List.length_append, List.length_cons]
    omega
theorem turnT_le (R : List Int) : (turnT R).size ≤ 4 * R.length := by
  have h := encR_le R.reverse
  rw [List.length_reverse] at h
  exact h
theorem drop_rev (R : List Int) (m : Nat) (h : m < R.length) : (R.drop m).reverse = (R.drop (m + 1)).reverse ++ [R[m]] := by
  rw [List.drop_eq_getElem_cons h, List.reverse_cons]

theorem RowAt.mono {w : World} {B B' : Nat} {k : IntKind} {a : Option Addr} {xs : List Int} (h : RowAt w B k a xs) (hB : B' ≤ B) : RowAt w B' k a xs := fun i hi => by
  obtain ⟨g, e, hg, hc⟩ := h i hi
  exact ⟨g, e, by omega, hc⟩
def InTurnedPost (k : Int) (T : ByteArray) (w : World) (e : Ending) (w' : World) : Prop :=
  ∃ b, e = .returned (.pointer (some ⟨b, 0, none⟩)) ∧ In w' w.heap.size k T b ∧ Below w.heap.size w w'

theorem back_conv {w : World} {B : Nat} {a : Option Addr} {c : Nat} {l : List UInt8} (h : w.ownsRow B 5 1 (.slice a l.length c) l.length (Lib.byteCells l)) : (convert 28 9 (.slice a l.length c)).run Try.prog w = .ok (.string ⟨l.toArray⟩) w := by
  rcases h.2 with ⟨hv, h1⟩ | ⟨g, cap, cur, hv, _⟩
  · have : l = [] := List.eq_nil_of_length_eq_zero h1
    subst this
    exact conv_empty w a c
  · injection hv with h2 h3 h4
    subst h2 h4
    refine run_convert_bytes_back w 28 9 5 ⟨g, 0, none⟩ c l Try.underlying28 Try.underlying5 Try.underlying9 (fun j hj => ?_)
    rw [h.cells (g := g) rfl j (.int .u8 (l[j].toNat : Int)) (by simp [Lib.byteCells, hj])]

set_option maxHeartbeats 800000 in
set_option maxRecDepth 100000 in
theorem inTurned_any {B : Nat} {k : Int} {s : ByteArray} {b : Nat} {w : World} (h : In w B k s b) (hl : (runesOf s).length ≤ 65536) (hsl : s.size ≤ 1048576) :
    Calls Try.prog 17 #[.pointer (some ⟨b, 0, none⟩)] w (InTurnedPost k (turnT (runesOf s)) w) := by
  obtain ⟨R, hR⟩ : ∃ R, R = runesOf s := ⟨_, rfl⟩
  have hval : ∀ r ∈ R, IsRune r := by rw [hR]; exact runesFrom_isRune s _ _
  have hI := h
  obtain ⟨h0, -, a, c, a', c', h1, -, -⟩ := h
  have e0 := h1.cell 0
  have e1 := h1.cell 1
  simp at e0 e1
  have hB0 : Below w.heap.size w w := Below.refl _ _
  have HI := Lib.hid hI; have HR := Lib.hid hR; have HV := Lib.hid hval
  rw [← hR] at hl ⊢
  obtain ⟨C, hC, mk⟩ := make_empty 28 5 _ 1 Try.underlying28 info_byteX s.size (by omega) (by unfold maxLen; omega)
  have lb := h1.lt
  have ho : (w.alloc (.cells C 5)).ownsRow w.heap.size 5 1 (.slice (some ⟨w.heap.size, 0, none⟩) 0 s.size) 0 [] := World.ownsRow_made w C s.size (Nat.le_refl _) (by unfold maxLen; omega) (by omega)
  have hB1 : Below w.heap.size w (w.alloc (.cells C 5)) := (Below.refl _ w).alloc (Nat.le_refl _) _
  have cl := len_any (HI.out.below hB1)
  rw [← hR] at cl
  have HL := Lib.hid cl; have HO := Lib.hid ho; have HB1 := Lib.hid hB1
  clear cl hI hR hval h1 ho hB1 hB0
  go_enter Try.func17, Try.ntmps17
  go_wp2_with fail
  refine HL.out.mono ?_
  rintro e w1 ⟨rfl, rfl⟩
  go_wp2_with fail
  go_loopw [3, 4] (fun v i wr => ∃ m : Nat, m ≤ R.length ∧ i = .int .i64 ((m : Int) - 1) ∧ Below w.heap.size w wr ∧ wr.ownsRow w.heap.size 5 1 v (encR (R.drop m).reverse).length (Lib.byteCells (encR (R.drop m).reverse))) (fun _ i _ => (intOf i + 1).toNat)
  case atStart =>
    refine ⟨R.length, Nat.le_refl _, rfl, HB1.out, ?_⟩
    have e : R.drop R.length = [] := List.drop_length
    rw [e]
    exact HO.out
  case round =>
    obtain ⟨m, hm, rfl, hBw, hown⟩ := hrel
    have HBw := Lib.hid hBw; have HOw := Lib.hid hown; clear hBw hown
    by_cases hlt : 1 ≤ m
    · obtain ⟨q, rfl⟩ : ∃ q, m = q + 1 := ⟨m - 1, by omega⟩
      have hq : q < R.length := by omega
      obtain ⟨r, hr⟩ : ∃ r, r = R[q] := ⟨_, rfl⟩
      have hir : IsRune r := by rw [hr]; exact HV.out _ (List.getElem_mem hq)
      have cr := rune_any (HI.out.below HBw.out) (q : Int)
      have er : runeAt (runesOf s) (q : Int) = r := by
        rw [← HR.out, runeAt_in R q hq, hr]
      rw [er] at cr
      have HC := Lib.hid cr; have HQ := Lib.hid hr; have HIR := Lib.hid hir
      clear cr er hr hir
      have hlen := encR_le (R.drop (q + 1)).reverse
      have hdl : (R.drop (q + 1)).reverse.length ≤ 65536 := by simp; omega
      have ca := Try.utf8_AppendRune_plain w.heap.size _ _ _ r (by have := HIR.out.1; omega) (by have := HIR.out; unfold IsRune at this; omega) wr HOw.out (by omega) HBw.out.size
      have HA := Lib.hid ca
      clear ca hlen hdl
      go_wp2_with fail
      refine HC.out.mono ?_
      rintro e w' ⟨rfl, rfl⟩
      go_wp2_with fail
      refine HA.out.mono ?_
      rintro e w2 ⟨v2, rfl, hown2, o2, hg2⟩
      have HB2 := Lib.hid ((HBw.out.alloc HBw.out.size o2).grown hg2 (by have := HBw.out.size; simp; omega) (fun k hk => (HOw.out.lt k hk).1))
      have HO2 := Lib.hid hown2
      clear hown2 hg2
      go_wp2
      go_roundw
      case rel =>
        refine ⟨q, by omega, by go_num, HB2.out, ?_⟩
        have hd := drop_rev R q hq
        rw [← HQ.out] at hd
        have he : encR (R.drop q).reverse = encR (R.drop (q + 1)).reverse ++ Lib.encodeRune r := by rw [hd, encR_append]; simp [encR]
        have h2 := HO2.out
        rw [Lib.runeCells_length, ← Lib.byteCells_encodeRune, ← Lib.byteCells_append, ← he] at h2
        have hl2 : (encR (R.drop (q + 1)).reverse).length + (Lib.encodeRune r).length = (encR (R.drop q).reverse).length := by rw [he, List.length_append]
        rw [hl2] at h2
        exact h2
      case measure => simp [intOf]
    · obtain rfl : m = 0 := by omega
      obtain ⟨av, cv, hv⟩ := own_slice HOw.out
      subst hv
      have hown := HOw.out
      rw [List.drop_zero] at hown
      have hconv := fun (W : World) (hW : Below wr.heap.size wr W) => back_conv (own_below hown hW)
      have hconv1 : (convert 28 9 (.slice av (encR R.reverse).length cv)).run Try.prog wr.drew = .ok (.string (turnT R)) wr.drew := hconv wr.drew (Below.refl _ wr).drew
      have e0' := (HBw.out.cell (p := ⟨b, 0, none⟩) lb).trans e0
      have HOw2 := Lib.hid hown
      clear hconv hown e0 e1
      rw [List.drop_zero]
      go_wp2_with fail
      have hTs : (turnT R).size ≤ 2147483648 := by have := turnT_le R; omega
      have lb' : b < wr.heap.size := by have := HBw.out.size; omega
      go_region_with (go_at_call 45; refine (decode_any (turnT R) _ hTs).mono ?_; rintro e w2 ⟨a1, c1, a2, c2, rfl, h1, h2, h3⟩; have e02 := (h3.cell (p := ⟨b, 0, none⟩) lb').trans e0'; have H1 := Lib.hid h1; have H2 := Lib.hid h2; have H3 := Lib.hid h3; clear h1 h2 h3)
      all_goals
        go_wp2
        go_ret
        exact ⟨w2.heap.size, rfl, ⟨hTs, by have := H3.out.size; have := HBw.out.size; simp at *; omega, a1, c1, a2, c2, by unfold Whole; exact heap_alloc_new w2 _, (RowAt.of_own H1.out).below ((Below.refl _ _).alloc (Nat.le_refl _) _) |>.mono HBw.out.size, (RowAt.of_own H2.out).below ((Below.refl _ _).alloc (Nat.le_refl _) _) |>.mono HBw.out.size⟩, HBw.out.trans (((Below.refl _ wr).drew.trans (H3.out.alloc H3.out.size _)).mono HBw.out.size)⟩
end Go.Proofs.Ytnemacejaiifnaa
