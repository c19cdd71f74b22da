/- Texts merged by program: PwHas. No condition. -/
import Derived.Test.YthnddabcmhplkaaDoorK4
import Derived.Test.YthnddabcmhplkaaDoorK2
import Derived.Test.YthnddabcmhplkaaDoorK17
import Derived.Deep.DeepCutAuto
import Derived.BigQuiet
import Derived.ScopeJumps
import Derived.WalkMore
import Derived.Lib.Index
import Derived.Lib.DecodeN
import Derived.Lib.TrimUEq
import Derived.Laws.RangeString
import Derived.Laws.RangeAny
import Derived.Laws.IdiomStrings
set_option linter.unusedVariables false
/- Does one of two short texts have a rune: the library's ContainsRune at any rune. -/
namespace Go.Proofs.YthnddabcmhplkaaDoor
open Go Go.RowKit

set_option maxHeartbeats 800000 in
theorem vrune_any (r : Int) (w : World) (h0 : 0 ≤ r) (h1 : r ≤ 1114111) : Calls Tryd.prog 70 #[.int .i32 r] w fun e w' => e = .returned (.bool (decide (r < 55296) || decide (57343 < r))) ∧ w' = w := by
  go_enter Tryd.func70, Tryd.ntmps70
  by_cases a : r < 55296
  · have a1 : decide (r < 55296) = true := decide_eq_true a
    have a2 : decide (0 ≤ r) = true := decide_eq_true h0
    go_wp2_with fail
    go_ret
    exact ⟨by simp [a], rfl⟩
  · have a1 : decide (r < 55296) = false := decide_eq_false a
    by_cases b : 57343 < r
    · have b1 : decide (57343 < r) = true := decide_eq_true b
      have b2 : decide (r ≤ 1114111) = true := decide_eq_true h1
      go_wp2_with fail
      go_ret
      exact ⟨by simp, rfl⟩
    · have b1 : decide (57343 < r) = false := decide_eq_false b
      go_wp2_with fail
      go_ret
      exact ⟨by simp, rfl⟩
theorem low_decode (s : ByteArray) (i : Nat) (h : i < s.size) (hc : s[i].toNat < 128) : Utf8.decode s i = (s[i].toNat, 1) := by
  rw [Lib.decode_at]
  have h2 : (s.get! i).toNat = s[i].toNat := by
    have hd : i < s.data.size := h
    show (s.data[i]!).toNat = (s.data[i]).toNat
    rw [getElem!_pos s.data i hd]
  rw [h2]
  exact Lib.decodeN_ascii _ _ _ _ _ hc
theorem ib_none : ∀ (l : List UInt8) (c : UInt8), (∀ x ∈ l, x ≠ c) → Lib.indexByte l c = -1
  | [], _, _ => rfl
  | b :: l, c, h => by
    have h1 := ib_none l c fun x hx => h x (by simp [hx])
    have h2 : (b == c) = false := by simpa using h b (by simp)
    unfold Lib.indexByte
    rw [h2, h1]
    rfl
theorem index_none (s : ByteArray) (c : Nat) (w : World) (hs : ∀ x ∈ s.toList, x.toNat < 128) (hc : 128 ≤ c) (hc2 : c < 256) : Calls Tryd.prog 69 #[.string s, .int .u8 (c : Int)] w fun e w' => e = .returned (.int .i64 (-1)) ∧ w' = w := by
  have h := Tryd.strings_IndexByte s (c : Int) w
  rw [ib_none _ _ (fun x hx e => by
    have h1 := hs x (by rw [Lib.toList_data]; exact hx)
    rw [e] at h1
    have h2 : ((c : Int).toNat.toUInt8).toNat = c := by simp; omega
    omega)] at h
  exact h
theorem ext_left (s : ByteArray) (i : Nat) : ∀ x ∈ (s.extract i s.size).toList, x ∈ s.toList := by
  intro x hx
  rw [Lib.toList_data] at hx ⊢
  simp only [ByteArray.data_extract, Array.toList_extract] at hx
  exact List.mem_of_mem_drop (List.mem_of_mem_take hx)
theorem get_mem (s : ByteArray) (k : Nat) (h : k < s.size) : s[k] ∈ s.toList := by
  rw [Lib.toList_data]
  exact Array.getElem_mem_toList (xs := s.data) h
theorem enc_text (r : Int) (h0 : 128 ≤ r) (h1 : r ≤ 1114111) (hv : r < 55296 ∨ 57343 < r) : ∃ E : ByteArray, Utf8.encode r = E ∧ 2 ≤ E.size ∧ E.size ≤ 4 ∧ ∀ (k : Nat) (h : k < E.size), 128 ≤ E[k].toNat := by
  have hr : IsRune r := by unfold IsRune; omega
  have hl := encode_list r hr
  have hz : (Utf8.encode r).size = (Lib.encodeRune r).length := by rw [← hl, Lib.toList_data, ← Lib.size_eq]
  have hlen := Lib.encodeRuneZ_length r
  have h2 : 2 ≤ (Lib.encodeRune r).length := by
    unfold Lib.encodeRune
    rw [List.length_map]
    by_cases c2 : r ≤ 2047
    · rw [Lib.encodeRuneZ_two (by omega) c2]; simp
    by_cases c3 : r ≤ 65535
    · rw [Lib.encodeRuneZ_three (by omega)]; simp
    · rw [Lib.encodeRuneZ_four (by omega) (by omega)]; simp
  have h4 : (Lib.encodeRune r).length ≤ 4 := by unfold Lib.encodeRune; rw [List.length_map]; exact hlen.2
  refine ⟨_, rfl, by omega, by omega, fun k hk => ?_⟩
  exact enc_high hr (by omega) _ (by rw [← hl]; exact get_mem _ k hk)
/-- All bytes of a text are below 128, and it has four at least. -/
def LowB (s : ByteArray) : Prop := 4 ≤ s.size ∧ s.size ≤ 100 ∧ ∀ x ∈ s.toList, x.toNat < 128
set_option maxHeartbeats 1600000 in
set_option maxRecDepth 100000 in
theorem index_high (s : ByteArray) (r : Int) (w : World) (hs : LowB s) (h0 : 128 ≤ r) (h1 : r ≤ 1114111) : Calls Tryd.prog 61 #[.string s, .int .i32 r] w fun e w' => e = .returned (.int .i64 (-1)) ∧ Below w.heap.size w w' := by
  have a1 : ¬ r < 128 := by omega
  have a2 : decide (r < 128) = false := decide_eq_false a1
  have a3 : decide (0 ≤ r) = true := decide_eq_true (by omega)
  have a4 : 0 ≤ r := by omega
  have HV := Lib.hid (vrune_any r w (by omega) h1)
  go_enter Tryd.func61, Tryd.ntmps61
  have HS := Lib.hid hs
  by_cases he : r = 65533
  · subst he
    clear hs HV
    go_wp2_with fail
    go_loopw [5, 6] (fun a b wr => ∃ pos : Nat, pos ≤ s.size ∧ wr = w.iter s pos) (fun _ _ wr => s.size - wr.iterPos w.heap.size)
    case atStart => exact ⟨0, Nat.zero_le _, rfl⟩
    case round =>
      obtain ⟨pos, hp, rfl⟩ := hrel
      by_cases hlt : pos < s.size
      · have hnx : ∀ ty, (Instr.next (.pointer (some ⟨w.heap.size, 0, none⟩)) true ty).run Tryd.prog (w.iter s pos) = _ := fun ty => run_next_any w s pos ty hlt
        have hd := low_decode s pos hlt (HS.out.2.2 _ (get_mem s pos hlt))
        have hq : s[pos].toNat < 128 := HS.out.2.2 _ (get_mem s pos hlt)
        rw [hd] at hnx
        have ne : ((s[pos].toNat : Int) == 65533) = false := by rw [beq_eq_false_iff_ne]; omega
        obtain ⟨c, hc⟩ : ∃ c, s[pos].toNat = c := ⟨_, rfl⟩
        rw [hc] at hnx ne
        clear hd hq hc
        go_wp2_with fail
        go_roundw
        case rel => exact ⟨pos + 1, hlt, rfl⟩
        case measure => simp; omega
      · have hnx : ∀ ty, (Instr.next (.pointer (some ⟨w.heap.size, 0, none⟩)) true ty).run Tryd.prog (w.iter s pos) = _ := fun ty => run_next_end w s pos ty hlt
        go_wp2_with fail
        go_ret
        exact ⟨rfl, (Below.refl _ w).alloc (Nat.le_refl _) _⟩
  · have e1 : (r == 65533) = false := by simpa using he
    by_cases hv : r < 55296 ∨ 57343 < r
    · have hv1 : (decide (r < 55296) || decide (57343 < r)) = true := by rcases hv with hv | hv <;> simp [hv]
      rw [hv1] at HV
      obtain ⟨E, hE, hc1, hc2, hc3⟩ := enc_text r h0 h1 hv
      have hcv : ∀ W, (convert 21 9 (.int .i32 r)).run Tryd.prog W = .ok (.string E) W := fun W => by
        rw [← hE]
        exact run_convert_int_string W _ _ .i32 r (by rw [Tryd.underlying21]; rfl) Tryd.underlying9
      obtain ⟨n, hn⟩ : ∃ n, E.size = n + 1 := ⟨E.size - 1, by omega⟩
      have hlt : n < s.size := by have := hs.1; omega
      have hnE : n < E.size := by omega
      have hlo : s[n].toNat < 128 := hs.2.2 _ (get_mem s n hlt)
      have hhi : 128 ≤ (E[n]'hnE).toNat := hc3 n hnE
      have hne : ((s[n].toNat : Int) != ((E[n]'hnE).toNat : Int)) = true := ne_true_of (by omega)
      have hIB := Lib.hid fun W => index_none (s.extract (n + 1) s.size) (E[n]'hnE).toNat W (fun x hx => hs.2.2 x (ext_left s _ x hx)) hhi (UInt8.toNat_lt _)
      have hwn : IntKind.i64.wrap ((n : Int) + 1) = (n : Int) + 1 := wrap_in _ (by omega)
      have hwz : IntKind.i64.wrap (((n : Int) + 1) - 1) = (n : Int) := by rw [show ((n : Int) + 1) - 1 = (n : Int) by omega]; exact wrap_in _ (by omega)
      have hmn : min ((n : Int) + 1) (s.size : Int) = (n : Int) + 1 := by omega
      have hle : (n : Int) + 1 ≤ (s.size : Int) := by omega
      have HEZ := Lib.hid hn
      have hn4 : n ≤ 3 := by omega
      have hw8 : wrap64 ((E.size : Int) - 1) = (n : Int) := by rw [IntWalk.wrap64_in _ (by omega)]; omega
      have hw9 : IntKind.i64.wrap ((E.size : Int) - 1) = (n : Int) := by rw [wrap_in _ (by omega)]; omega
      clear hE hv hv1 he hs hlo hhi hc3 hc1 hc2 hn
      go_wp2_with fail
      refine HV.out.mono ?_
      rintro e w1 ⟨rfl, rfl⟩
      go_wp2_with fail
      refine wp_scope_straight ?_
      go_wp2_with fail
      go_loopw [9, 10] (fun i f wr => i = .int .i64 n ∧ f = .int .i64 0 ∧ wr = w1) (fun _ _ _ => 0)
      case atStart => exact ⟨by first | rfl | (congr 1; exact IntWalk.wrap64_in _ (by omega)), rfl, rfl⟩
      case round =>
        obtain ⟨rfl, rfl, rfl⟩ := hrel
        go_wp2_with fail
        refine wp_scope_straight ?_
        go_upto_region 6 with (fail)
        go_big_quiet (fail)
        obtain ⟨wd, hwd⟩ : ∃ wd, wr.drewN nq = wd := ⟨_, rfl⟩
        have hbd : Below wr.heap.size wr wd := by rw [← hwd]; exact below_draws wr nq
        rw [hwd]
        clear hwd
        go_wp2_with fail
        go_big_quiet (first | (go_at_call 69; with_reducible refine Calls.quiet_of_same (hIB.out _)))
        go_wp2_with fail
        have hend := hbd.trans ((below_draws wd nq).mono hbd.size)
        generalize wd.drewN nq = we at hend ⊢
        refine (show bodyPost Tryd.prog Tryd.f61 (fun e w' => e = .returned (.int .i64 (-1)) ∧ Below wr.heap.size wr w') Exit.ret { tmps := _, defers := [] } we from ⟨rfl, .int .i64 (-1), ?_, rfl, hend⟩)
        exact results_tmp Tryd.results61 _ _ _
    · have hv1 : (decide (r < 55296) || decide (57343 < r)) = false := by simp; omega
      rw [hv1] at HV
      go_wp2_with fail
      refine HV.out.mono ?_
      rintro e w1 ⟨rfl, rfl⟩
      go_wp2_with fail
      go_ret
      exact ⟨rfl, Below.refl _ _⟩
theorem ib_some : ∀ (l : List UInt8) (c : UInt8), c ∈ l → 0 ≤ Lib.indexByte l c
  | b :: l, c, h => by
    unfold Lib.indexByte
    by_cases e : b = c
    · rw [if_pos (by simpa using e)]
      exact Int.le_refl _
    · have h1 := ib_some l c ((List.mem_cons.1 h).resolve_left fun q => e q.symm)
      rw [if_neg (by simpa using e), if_neg (by simp; omega)]
      omega
theorem ib_iff (l : List UInt8) (c : UInt8) : decide (0 ≤ Lib.indexByte l c) = l.contains c := by
  by_cases h : c ∈ l
  · rw [decide_eq_true (ib_some l c h)]
    simpa using h
  · rw [ib_none l c (fun x hx e => h (e ▸ hx))]
    simpa using h
set_option maxHeartbeats 1600000 in
theorem has_any (s : ByteArray) (r : Int) (w : World) (hs : LowB s) (h0 : 0 ≤ r) (h1 : r ≤ 1114111) :
    Calls Tryd.prog 46 #[.string s, .int .i32 r] w fun e w' => e = .returned (.bool (s.toList.any fun c => decide ((c.toNat : Int) = r))) ∧ Below w.heap.size w w' := by
  by_cases hr : r < 128
  · refine (Tryd.strings_ContainsRune_ascii s r w h0 hr).mono fun e w' ⟨he, hw⟩ => ⟨?_, by rw [hw]; exact Below.refl _ _⟩
    rw [he, ib_iff, ← Lib.toList_data]
    congr 2
    rw [Bool.eq_iff_iff]
    simp only [List.contains_iff_mem, List.any_eq_true, decide_eq_true_eq]
    constructor
    · intro hm
      exact ⟨_, hm, by simp; omega⟩
    · rintro ⟨c, hc, rfl⟩
      simpa using hc
  · have hx : (s.toList.any fun c => decide ((c.toNat : Int) = r)) = false := by
      rw [List.any_eq_false]
      intro c hc
      have := hs.2.2 c hc
      simp
      omega
    rw [hx]
    have HI := Lib.hid (index_high s r w hs (by omega) h1)
    clear hx
    go_enter Tryd.func46, Tryd.ntmps46
    go_wp2_with fail
    refine HI.out.mono ?_
    rintro e w1 ⟨rfl, hb⟩
    go_wp2_with fail
    go_ret
    exact ⟨rfl, hb⟩
end Go.Proofs.YthnddabcmhplkaaDoor
