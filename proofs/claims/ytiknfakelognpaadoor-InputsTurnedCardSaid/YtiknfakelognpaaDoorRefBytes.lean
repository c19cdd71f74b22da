/- The bytes between two places, as the document's input hands them out: whatever numbers are asked of. -/
import Derived.Test.YtiknfakelognpaaDoorBytes
import Derived.Deep.RegionHeld3
namespace Go.Proofs.YtiknfakelognpaaDoor
open Go Go.RowKit

theorem step_append_txt {w : World} {ops : Array Oper} {o : Oper} {a : Act} {K : Act → World → Prop} {Q : Exit → Act → World → Prop} {E : Prop} (hgd : o.guard = none) (x y : Operand)
    (ho : o.op = .call { callee := .builtin .append, args := #[x, y], argTypes := #[23, 23] })
    (base : Nat) (i : TypeInfo) (hi : Tryd.prog.info? 5 = some i) (hz : i.zero = some (.int .u8 0)) (hsize : i.size = 1) (hby : i.bytes = 1)
    (v : Value) (n : Nat) (xs : List Value) (hs : a.eval x = v) (hown : w.ownsRow base 5 1 v n xs)
    (A : Option Addr) (c : Nat) (s : ByteArray) (hx : a.eval y = .slice A s.size c) (ht : Txt w A c s) (hn : n + s.size ≤ 140737488355328) (hbase : base ≤ w.heap.size)
    (h : ∀ v' w', w'.ownsRow base 5 1 v' (n + s.size) (xs ++ (nums s).map (.int .u8)) → w.grownBy w' v.ownBlock → K (a.put o.dst v') w') :
    if Region.wanted o (yielded ops a.tmps) = true then Oper.wp Tryd.prog o a w K Q else E := by
  have hw : Region.wanted o (yielded ops a.tmps) = true := by simp [Region.wanted, hgd]
  rw [if_pos hw]
  obtain ⟨h1, h2, h3, h4⟩ := ht
  rcases A with _ | ad
  · have hc := h3 rfl
    have h0 : s.size = 0 := by omega
    have hn0 : nums s = [] := List.eq_nil_of_length_eq_zero (by rw [length_nums, h0])
    rw [h0, hc] at hx
    have hrun := run_append_owned_none (P := Tryd.prog) (w := w) base 23 o.type 5 i 1 Tryd.underlying23 hi v n xs hown
    have hk := h v w (by rw [hn0, h0]; simpa using hown) (World.grownBy.refl w _)
    unfold Oper.wp
    simp [execOp, ho, resolve, invoke, builtin, hs, hx, hrun, Result.andThen]
    exact hk
  · refine wp_append_own w x y 23 ho base 5 i (.int .u8 0) 1 1 Tryd.underlying23 hi hz hsize hby rfl (by omega) v n xs hs hown ad s.size c ((nums s).map (.int .u8)) hx (by simp [length_nums]) ?_ ?_ (by unfold maxLen; omega) (by omega) hbase (fun v' w' g1 g2 _ => h v' w' g1 g2)
    · intro j u hu
      rcases h4 with h4 | ⟨b, off, e, hc⟩
      · have : nums s = [] := List.eq_nil_of_length_eq_zero (by rw [length_nums, h4])
        rw [this] at hu
        simp at hu
      · injection e with e
        subst e
        have hj : j < s.size := by
          have := (List.getElem?_eq_some_iff.1 hu).1
          simpa [length_nums] using this
        have hadd : (⟨b, off, none⟩ : Addr).add j = ⟨b, off + j, none⟩ := by unfold Addr.add; split <;> simp_all
        rw [hadd, hc j hj]
        rw [List.getElem?_map, nums_at s j hj] at hu
        simpa using hu
    · intro u hu
      obtain ⟨z, _, rfl⟩ := List.mem_map.1 hu
      rfl

/-- 's[u:v]' of a list that holds a text: the text between. -/
theorem cut_txt {w : World} {a : Option Addr} {c : Nat} {s : ByteArray} (h : Txt w a c s) (ha : s.size = 0 ∨ ∃ q, a = some ⟨q, 0, none⟩) (u v : Nat) (huv : u ≤ v) (hv : v ≤ s.size) :
    ∃ A, (∀ W : World, (Instr.slice 23 (.slice a s.size c) (some (.int .i64 u)) (some (.int .i64 v)) none).run Tryd.prog W = .ok (.slice A (s.extract u v).size (c - u)) W) ∧ Txt w A (c - u) (s.extract u v) := by
  obtain ⟨h1, h2, h3, h4⟩ := h
  have hs : (s.extract u v).size = v - u := by simp; omega
  have hu : Tryd.prog.underlying 23 = some (.slice (Tryd.prog.elem 23)) := by simp [Program.elem, Tryd.underlying23]
  have he : Tryd.prog.elem 23 = 5 := by simp [Program.elem, Tryd.underlying23]
  refine ⟨if c = u then a else a.map (·.add (u * 1)), fun W => ?_, ?_⟩
  · rw [run_slice_lh W 23 _ _ _ hu .i64 .i64 _ _ (by omega) (by omega) (by omega), he]
    have hz : (Go.sizeOf 5).run Tryd.prog W = .ok 1 W := Tryd.sizeOf5 W
    rw [hz, hs]
    simp [Result.andThen, sliced]
  · refine ⟨by rw [hs]; omega, by omega, fun e => ?_, ?_⟩
    · split at e
      · have := h3 e
        omega
      · have hn : a = none := by cases a <;> simp_all
        have := h3 hn
        omega
    · by_cases h0 : v = u
      · exact .inl (by rw [hs]; omega)
      · rw [if_neg (by omega)]
        rcases h4 with h4 | ⟨b, off, rfl, hc⟩
        · omega
        · rcases ha with ha | ⟨q, hq⟩
          · omega
          · refine .inr ⟨b, off + u, by simp only [Option.map_some, Nat.mul_one, Option.some.injEq]; unfold Addr.add; split <;> simp_all, fun i hi => ?_⟩
            rw [Nat.add_assoc, hc (u + i) (by omega)]
            have hd : (s.extract u v)[i] = s[u + i]'(by omega) := by simp [ByteArray.getElem_extract]
            rw [hd]

theorem own_m {w : World} {B : Nat} {a : Option Addr} {c : Nat} {s : ByteArray} (h : w.ownsRow B 5 1 (.slice a s.size c) s.size ((nums s).map (.int .u8))) : OwnM w B a s.size := by
  rcases own_of h with ⟨a', c', e, h | ⟨g, ea, _, hB, _, cs, h1, h2⟩⟩
  · exact .inl h
  · injection e with e1 e2 e3
    subst e1
    refine .inr ⟨g, ea, hB, cs, _, h1, fun i hi => ⟨h1.free i, h2 i hi⟩⟩
set_option maxHeartbeats 800000 in
set_option maxRecDepth 100000 in
theorem rbytes_in (d g : Nat) (s t : ByteArray) (ga : Option Addr) (gc c' n i j u v : Nat) (w : World) (hij : i ≤ j) (hj : j < n) (_hn : n ≤ 9223372036854775807) (huv : u ≤ v) (hv : v ≤ s.size) (hs : s.size ≤ 2147483648) (ht : t = s.extract u v)
    (hg : Txt w ga gc s) (hga : s.size = 0 ∨ ∃ q, ga = some ⟨q, 0, none⟩)
    (h1 : w.cell? ⟨d, 1, none⟩ = some (.slice ga s.size gc)) (h3 : w.cell? ⟨d, 3, none⟩ = some (.slice (some ⟨g, 0, none⟩) n c')) (hi2 : w.cell? ⟨g, i, none⟩ = some (.int .i64 u)) (hj2 : w.cell? ⟨g, j, none⟩ = some (.int .i64 v)) :
    Calls Tryd.prog 22 #[.pointer (some ⟨d, 0, none⟩), .int .i64 i, .int .i64 j] w (BytesPost t w) := by
  obtain ⟨i5, hi5, hz5, hs5, hb5⟩ := info_parts info_byte
  have hsl : t.size ≤ 2147483648 := by rw [ht]; simp; omega
  obtain ⟨A, hcut, hA⟩ := cut_txt hg hga u v huv hv
  rw [← ht] at hcut hA
  have ld := World.block_lt_of_cell? w _ h1
  have lg := World.block_lt_of_cell? w _ hi2
  have b1 : (0 : Int) ≤ i := by omega
  have b2 : (i : Int) < n := by omega
  have b3 : (0 : Int) ≤ j := by omega
  have b4 : (j : Int) < n := by omega
  have ho0 : (w.alloc (.cells #[] 5)).ownsRow w.heap.size 5 1 (.slice (some ⟨w.heap.size, 0, none⟩) 0 0) 0 [] := World.ownsRow_lit w #[] 0 (Nat.le_refl _) (Nat.zero_le _) rfl
  have hB0 : Below w.heap.size w (w.alloc (.cells #[] 5)) := (Below.refl _ w).alloc (Nat.le_refl _) _
  have HA := Lib.hid hA; have HT := Lib.hid ht
  clear hA ht hg hga
  go_enter Tryd.func22, Tryd.ntmps22
  go_wp2_with fail
  go_region_held3 (fun w' => w'.cell? ⟨d, 1, none⟩ = some (.slice ga s.size gc) ∧ w'.cell? ⟨d, 3, none⟩ = some (.slice (some ⟨g, 0, none⟩) n c') ∧ w'.cell? ⟨g, i, none⟩ = some (.int .i64 u) ∧ w'.cell? ⟨g, j, none⟩ = some (.int .i64 v))
    (first | go_keep | (exact ⟨q1, q3, q4, q5⟩))
    ((refine step_append_txt rfl _ _ (by rfl) w.heap.size i5 hi5 hz5 hs5 hb5 (.slice (some ⟨w.heap.size, 0, none⟩) 0 0) 0 [] (by rfl) (World.ownsRow.drew ho0) A _ t (by rfl) (HA.out.below hB0.drew) (by omega) (by simp) ?_; intro v1 w1 hown1 hg1; have hB1 := hB0.drew.grown hg1 (by simp) (by simp [Value.ownBlock]); have q1 := (hB1.cell (p := ⟨d, 1, none⟩) ld).trans h1; have q3 := (hB1.cell (p := ⟨d, 3, none⟩) ld).trans h3; have q4 := (hB1.cell (p := ⟨g, i, none⟩) lg).trans hi2; have q5 := (hB1.cell (p := ⟨g, j, none⟩) lg).trans hj2))
  go_wp2
  go_ret
  obtain ⟨ad1, cp1, hv1⟩ := own_slice hown1
  simp only [Nat.zero_add, List.nil_append] at hown1 hv1
  subst hv1
  exact ⟨ad1, cp1, rfl, own_txt hown1, own_m hown1, hB1⟩

set_option maxHeartbeats 400000 in
set_option maxRecDepth 100000 in
theorem rbytes_no (d : Nat) (w : World) (a : Option Addr) (n c : Nat) (i j : Int) (h : i < 0 ∨ (n : Int) ≤ j ∨ j < i) (h3 : w.cell? ⟨d, 3, none⟩ = some (.slice a n c)) :
    Calls Tryd.prog 22 #[.pointer (some ⟨d, 0, none⟩), .int .i64 i, .int .i64 j] w (BytesPost ⟨#[]⟩ w) := by
  by_cases hi : i < 0
  · go_enter Tryd.func22, Tryd.ntmps22
    go_wp2
    go_ret
    exact nil_post w
  · have hi0 : 0 ≤ i := by omega
    by_cases hj : (n : Int) ≤ j
    · clear h hi
      go_enter Tryd.func22, Tryd.ntmps22
      go_wp2
      go_ret
      exact nil_post w
    · have hji : j < i := by omega
      have hjn : j < n := by omega
      clear h hi hj
      go_enter Tryd.func22, Tryd.ntmps22
      go_wp2
      go_ret
      exact nil_post w

theorem rbytes_any {B : Nat} {k : Int} {s : ByteArray} {d : Nat} {w : World} (h : RefIn w B k s d) (i j : Int) :
    Calls Tryd.prog 22 #[.pointer (some ⟨d, 0, none⟩), .int .i64 i, .int .i64 j] w (BytesPost (bytesOf s i j) w) := by
  obtain ⟨h0, _, ga, gc, a, c, a', c', h1, hb, _, h3, hcap⟩ := h
  have e1 := h1.cell 1
  have e3 := h1.cell 3
  simp at e1 e3
  have hl := length_runesOf s
  have hl2 := length_offsOf s
  by_cases hp : 0 ≤ i ∧ i ≤ j ∧ j < (offsOf s).length
  · obtain ⟨hp1, hp2, hp3⟩ := hp
    obtain ⟨i, rfl⟩ : ∃ m : Nat, i = m := ⟨i.toNat, by omega⟩
    obtain ⟨j, rfl⟩ : ∃ m : Nat, j = m := ⟨j.toNat, by omega⟩
    have hj : j < (offsOf s).length := by omega
    have hi : i < (offsOf s).length := by omega
    obtain ⟨u, hu, _⟩ := offs_nat s i hi
    obtain ⟨v, hv, hv2⟩ := offs_nat s j hj
    have huv := offs_le s i j (by omega) hj
    rw [hu, hv] at huv
    obtain ⟨g, rfl, _, hc⟩ := h3 i hi
    obtain ⟨g', e, _, hc'⟩ := h3 j hj
    injection e with e
    injection e with e
    subst e
    rw [hu] at hc
    rw [hv] at hc'
    have hga : s.size = 0 ∨ ∃ q, ga = some ⟨q, 0, none⟩ := by
      by_cases hz : s.size = 0
      · exact .inl hz
      · obtain ⟨q, e, _⟩ := hb 0 (by rw [length_nums]; omega)
        exact .inr ⟨q, e⟩
    have htx : Txt w ga gc s := by
      refine ⟨hcap.1, hcap.2.1, hcap.2.2, ?_⟩
      rcases hga with hz | ⟨q, hq⟩
      · exact .inl hz
      · refine .inr ⟨q, 0, hq, fun m hm => ?_⟩
        obtain ⟨q', e, _, hc⟩ := hb m (by rw [length_nums]; exact hm)
        rw [hq] at e
        injection e with e
        injection e with e
        subst e
        rw [Nat.zero_add, hc]
        have := nums_at s m hm
        rw [List.getElem?_eq_getElem (by rw [length_nums]; exact hm)] at this
        rw [Option.some.inj this]
    refine rbytes_in d g s _ ga gc c' (offsOf s).length i j u v w (by omega) hj (by omega) (by omega) hv2 h0 ?_ htx hga e1 e3 hc hc'
    unfold bytesOf
    rw [if_pos ⟨by omega, by omega, by omega⟩]
    simp [hi, hj, hu, hv]
  · have e : bytesOf s i j = ⟨#[]⟩ := by unfold bytesOf; rw [if_neg hp]
    rw [e]
    exact rbytes_no d w a' _ c' i j (by omega) e3
end Go.Proofs.YtiknfakelognpaaDoor
