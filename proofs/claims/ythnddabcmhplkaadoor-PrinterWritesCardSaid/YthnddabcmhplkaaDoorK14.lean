/- Texts merged by program: PwAlone, PwEach, RwBare. No condition. -/
import Derived.Test.YthnddabcmhplkaaDoorK9
import Derived.Test.YthnddabcmhplkaaDoorK10
import Derived.Test.YthnddabcmhplkaaDoorK11
import Derived.Test.YthnddabcmhplkaaDoorK4
import Derived.Test.YthnddabcmhplkaaDoorK13
import Derived.Deep.DeepCutAuto
import Derived.Deep.LoopGhost
import Derived.Laws.MakeOwn
set_option linter.unusedVariables false
/- A tree without the nodes in which it is the one Kid: the program's alone. -/
namespace Go.Proofs.YthnddabcmhplkaaDoor
open Go Go.RowKit

def SolePost (F : Nat → Prop) (t : Tr) (w : World) (e : Ending) (w' : World) : Prop := ∃ v, e = .returned v ∧ TreF F w' (soleT t) v ∧ Below w.heap.size w w'
set_option maxHeartbeats 3200000 in
set_option maxRecDepth 100000 in
theorem alone_any (F : Nat → Prop) (t : Tr) (v : Value) (w : World) (hFb : ∀ b, F b → b < w.heap.size) (hF : TreF F w t v) (hp : partsR t ≤ 10000000000) : Calls Tryd.prog 15 #[v] w (SolePost F t w) := by
  have h := hF.tre
  have HFB := Lib.hid hFb
  clear hFb
  obtain ⟨A, n, c, a2, s, c2, hn, hs, rfl, hnb, hsb, hK, hS, hFl⟩ := h.opened
  obtain ⟨w2, hw2⟩ : ∃ w2, (w.alloc (.cells #[.int .i64 t.fld.op, .slice A n c, .int .i32 t.fld.rune, .slice a2 s c2, .int .i64 t.fld.at', .int .i64 t.fld.cap, .string t.fld.name, .int .i64 t.fld.min, .int .i64 t.fld.max, .bool t.fld.lazy] 27)).alloc (.cells #[.int .i64 0, .slice none 0 0, .int .i32 0, .slice none 0 0, .int .i64 0, .int .i64 0, .string ⟨#[]⟩, .int .i64 0, .int .i64 0, .bool false] 27) = w2 := ⟨_, rfl⟩
  have s1 : ∀ o, (w.alloc o).heap.size = w.heap.size + 1 := fun o => Array.size_push _
  have hb2 : Below w.heap.size w w2 := by rw [← hw2]; exact ((Below.refl _ w).alloc (Nat.le_refl _) _).alloc (by rw [s1]; omega) _
  have hE : Whole w2 w.heap.size 27 #[.int .i64 t.fld.op, .slice A n c, .int .i32 t.fld.rune, .slice a2 s c2, .int .i64 t.fld.at', .int .i64 t.fld.cap, .string t.fld.name, .int .i64 t.fld.min, .int .i64 t.fld.max, .bool t.fld.lazy] := by rw [← hw2]; exact Whole.alloc (heap_alloc_new w _) _
  have hR : Whole w2 (w.heap.size + 1) 27 #[.int .i64 0, .slice none 0 0, .int .i32 0, .slice none 0 0, .int .i64 0, .int .i64 0, .string ⟨#[]⟩, .int .i64 0, .int .i64 0, .bool false] := by
    rw [← hw2]
    have := heap_alloc_new (w.alloc (.cells #[.int .i64 t.fld.op, .slice A n c, .int .i32 t.fld.rune, .slice a2 s c2, .int .i64 t.fld.at', .int .i64 t.fld.cap, .string t.fld.name, .int .i64 t.fld.min, .int .i64 t.fld.max, .bool t.fld.lazy] 27)) (.cells #[.int .i64 0, .slice none 0 0, .int .i32 0, .slice none 0 0, .int .i64 0, .int .i64 0, .string ⟨#[]⟩, .int .i64 0, .int .i64 0, .bool false] 27)
    rw [s1] at this
    exact this
  have HW := Lib.hid hw2; have HB := Lib.hid hb2; have HE := Lib.hid hE; have HR := Lib.hid hR
  have HF := Lib.hid (show TreF F w2 t _ from hF.same (same_below hb2) (fun _ h _ => h))
  clear hw2 hb2 hE hR s1 hF h hK hS hFl
  go_enter Tryd.func15, Tryd.ntmps15
  go_upto_region 1 with (fail)
  rw [HW.out]
  clear hn hs hnb hsb
  go_loopg [] (partsR t + 1) (fun gk wr => ∃ (t' : Tr) (cs : Array Value), partsR t' < gk ∧ soleT t' = soleT t ∧ Whole wr w.heap.size 27 cs ∧ TreF F wr t' (.agg cs) ∧ Whole wr (w.heap.size + 1) 27 #[.int .i64 0, .slice none 0 0, .int .i32 0, .slice none 0 0, .int .i64 0, .int .i64 0, .string ⟨#[]⟩, .int .i64 0, .int .i64 0, .bool false] ∧ Below w.heap.size w wr)
  case atStart => exact ⟨t, _, Nat.lt_succ_self _, rfl, HE.out, HF.out, HR.out, HB.out⟩
  case round =>
    obtain ⟨t', cs, hg, hq, hE, hT, hR, hB⟩ := hrel
    obtain ⟨kv, sv, hv, ⟨k1, k2, k3, rfl⟩, ⟨j1, j2, j3, rfl⟩⟩ := hT.ten
    injection hv with hv
    subst hv
    have HT := Lib.hid hT; have HRR := Lib.hid hR; have HB := Lib.hid hB; have HQ := Lib.hid hq; have HEE := Lib.hid hE
    obtain ⟨c0, c1, c2', c3, c4, c5, c6, c7, c8, c9⟩ := hE.ten
    obtain ⟨z0, z1, z2, z3, z4, z5, z6, z7, z8, z9⟩ := whole_free hE
    obtain ⟨r0, r1, r2, r3, r4, r5, r6, r7, r8, r9⟩ := hR.ten
    obtain ⟨y0, y1, y2, y3, y4, y5, y6, y7, y8, y9⟩ := whole_free hR
    have hk2 : k2 = t'.kids.length := by
      rw [treF_iff] at hT
      obtain ⟨kv', sv', e, -, -, A', c', rfl, -⟩ := hT
      have := (treC_inj (f := t'.fld) (k1 := .slice k1 k2 k3) (s1 := .slice j1 j2 j3) e).1
      injection this
    clear hT hE hR hB hq
    by_cases hlone : Lone t'
    · obtain ⟨k, hkk⟩ := lone_kid hlone
      have hone : k2 = 1 := by rw [hk2, hkk]; rfl
      subst hone
      obtain ⟨b, o, cc, ss, tk, kv', sv', hv, htk, hm, ⟨d0, d1, d2, d3, d4, d5, d6, d7, d8, d9⟩, hTk⟩ := HT.out.kid 0 (by rw [hkk]; simp)
      have hkv := (treC_inj (f := t'.fld) (k1 := .slice k1 1 k3) (s1 := .slice j1 j2 j3) hv).1
      injection hkv with hk1 hk1b hk1c
      clear hk1b hk1c
      subst hk1
      obtain ⟨kx, sx, hv2, ⟨m1, m2, m3, rfl⟩, ⟨p1, p2, p3, rfl⟩⟩ := hTk.ten
      have hkv2 := treC_inj (f := tk.fld) (k1 := kv') (s1 := sv') hv2
      obtain ⟨rfl, rfl⟩ := hkv2
      have htk' : tk = k := by rw [← htk]; simp [hkk]
      have hpk := partsR_kid hm
      obtain ⟨g', rfl⟩ : ∃ g', gk = g' + 1 := ⟨gk - 1, by omega⟩
      have HPK := Lib.hid (show partsR tk < g' by omega)
      have HSO := Lib.hid (show soleT tk = soleT t by rw [← HQ.out, sole_lone hlone hkk, htk'])
      obtain ⟨W2, hW2⟩ : ∃ W2, set10 wr w.heap.size (.int .i64 tk.fld.op) (.slice m1 m2 m3) (.int .i32 tk.fld.rune) (.slice p1 p2 p3) (.int .i64 tk.fld.at') (.int .i64 tk.fld.cap) (.string tk.fld.name) (.int .i64 tk.fld.min) (.int .i64 tk.fld.max) (.bool tk.fld.lazy) = W2 := ⟨_, rfl⟩
      have hs2 : Whole W2 w.heap.size 27 #[.int .i64 tk.fld.op, .slice m1 m2 m3, .int .i32 tk.fld.rune, .slice p1 p2 p3, .int .i64 tk.fld.at', .int .i64 tk.fld.cap, .string tk.fld.name, .int .i64 tk.fld.min, .int .i64 tk.fld.max, .bool tk.fld.lazy] := by rw [← hW2]; exact set10_whole HEE.out _ _ _ _ _ _ _ _ _ _
      have hsame : SameOn (fun k => k ≠ w.heap.size) wr W2 := by rw [← hW2]; exact set10_same _ _ _ _ _ _ _ _ _ _ _ _
      have hb2 : Below w.heap.size w W2 := by rw [← hW2]; exact set10_below HB.out (Nat.le_refl w.heap.size) _ _ _ _ _ _ _ _ _ _
      have HT2 := Lib.hid (hTk.same (fun b hb hl => hsame b (by have : b < w.heap.size := HFB.out b hb; omega) hl) (fun _ h _ => h))
      have HR2 := Lib.hid (show Whole W2 (w.heap.size + 1) _ _ from (hsame (w.heap.size + 1) (by omega) HRR.out.lt).trans HRR.out)
      have HS2 := Lib.hid hs2; have HB2 := Lib.hid hb2
      unfold set10 at hW2
      have HW2 := Lib.hid hW2
      rw [Nat.zero_mul, Nat.add_zero] at d0 d1 d2 d3 d4 d5 d6 d7 d8 d9
      have hops := hlone.1
      clear hTk hv2 htk htk' hm hpk hsame hv hk2 hs2 hb2 hW2 hlone r0 r1 r2 r3 r4 r5 r6 r7 r8 r9 y0 y1 y2 y3 y4 y5 y6 y7 y8 y9 hkk hg
      obtain ⟨op, hop⟩ : ∃ op, t'.fld.op = op := ⟨_, rfl⟩
      rw [hop] at hops c0
      clear hop
      rcases hops with rfl | rfl
      · go_wp2_with fail
        rw [HW2.out]
        go_roundg g'
        case measure => omega
        case rel => exact ⟨tk, _, HPK.out, HSO.out, HS2.out, HT2.out, HR2.out, HB2.out⟩
      · go_wp2_with fail
        rw [HW2.out]
        go_roundg g'
        case measure => omega
        case rel => exact ⟨tk, _, HPK.out, HSO.out, HS2.out, HT2.out, HR2.out, HB2.out⟩
    · have HP : Hid (SolePost F t w (.returned (.agg #[.int .i64 t'.fld.op, .slice k1 k2 k3, .int .i32 t'.fld.rune, .slice j1 j2 j3, .int .i64 t'.fld.at', .int .i64 t'.fld.cap, .string t'.fld.name, .int .i64 t'.fld.min, .int .i64 t'.fld.max, .bool t'.fld.lazy])) (set10 wr (w.heap.size + 1) (.int .i64 t'.fld.op) (.slice k1 k2 k3) (.int .i32 t'.fld.rune) (.slice j1 j2 j3) (.int .i64 t'.fld.at') (.int .i64 t'.fld.cap) (.string t'.fld.name) (.int .i64 t'.fld.min) (.int .i64 t'.fld.max) (.bool t'.fld.lazy))) := Lib.hid (by
        refine ⟨_, rfl, ?_, set10_below HB.out (Nat.le_succ _) _ _ _ _ _ _ _ _ _ _⟩
        rw [← HQ.out, sole_self hlone]
        exact HT.out.same (fun b hb hl => set10_same _ _ _ _ _ _ _ _ _ _ _ _ b (by have : b < w.heap.size := HFB.out b hb; omega) hl) (fun _ h _ => h))
      have hops : t'.fld.op = 11 ∧ k2 ≠ 1 ∨ t'.fld.op = 12 ∧ k2 ≠ 1 ∨ (t'.fld.op ≠ 11 ∧ t'.fld.op ≠ 12) := by
        by_cases h11 : t'.fld.op = 11
        · exact .inl ⟨h11, fun e => hlone ⟨.inl h11, by rw [← hk2, e]⟩⟩
        by_cases h12 : t'.fld.op = 12
        · exact .inr (.inl ⟨h12, fun e => hlone ⟨.inr h12, by rw [← hk2, e]⟩⟩)
        · exact .inr (.inr ⟨h11, h12⟩)
      clear hlone hk2 hg z0 z1 z2 z3 z4 z5 z6 z7 z8 z9
      obtain ⟨op, hop⟩ : ∃ op, t'.fld.op = op := ⟨_, rfl⟩
      rw [hop] at hops c0 HP
      clear hop
      rcases hops with ⟨rfl, hk⟩ | ⟨rfl, hk⟩ | ⟨h11, h12⟩
      · have ek : ((k2 : Int) == 1) = false := by rw [beq_eq_false_iff_ne]; omega
        clear hk
        go_wp2_with fail
        exact tree_ret Tryd.results15 (w.heap.size + 1) rfl HRR.out HP.out
      · have ek : ((k2 : Int) == 1) = false := by rw [beq_eq_false_iff_ne]; omega
        clear hk
        go_wp2_with fail
        exact tree_ret Tryd.results15 (w.heap.size + 1) rfl HRR.out HP.out
      · have e11 : (op == 11) = false := by simpa using h11
        have e12 : (op == 12) = false := by simpa using h12
        clear h11 h12
        go_wp2_with fail
        exact tree_ret Tryd.results15 (w.heap.size + 1) rfl HRR.out HP.out
end Go.Proofs.YthnddabcmhplkaaDoor
/- The texts of all Kids, one behind the other: the program's each, over any function of a tree. -/
namespace Go.Proofs.YthnddabcmhplkaaDoor
open Go Go.RowKit

def TextZ (l : List UInt8) (w : World) (e : Ending) (w' : World) : Prop := e = .returned (.string (textB l)) ∧ Below w.heap.size w w'
def EachPost (L : List (List UInt8)) (w : World) (e : Ending) (w' : World) : Prop :=
  ∃ b : Nat, e = .returned (.slice (some ⟨b, 0, none⟩) L.length L.length) ∧ TextsAt w' b 0 (L.map textB) ∧ b < w'.heap.size ∧ Below w.heap.size w w'
theorem make_texts (n : Nat) (hn : n ≤ 1172812402961) : ∃ C : Array Value, C.size = n ∧ ∀ W : World, (Instr.makeSlice 46 (.int .i64 (n : Int)) (.int .i64 (n : Int))).run Tryd.prog W = .ok (.slice (some ⟨W.heap.size, 0, none⟩) n n) (W.alloc (.cells C 9)) := by
  obtain ⟨i, hi, hz, hsize, hby⟩ := info_parts info_text
  refine ⟨madeCells (Value.string ⟨#[]⟩).cells (n * i.size), by rw [size_madeCells, hsize, Nat.mul_one], fun W => ?_⟩
  have h := run_make (P := Tryd.prog) W 46 9 i (.string ⟨#[]⟩) Tryd.underlying46 hi hz .i64 .i64 (n : Int) (n : Int) (by omega) (Int.le_refl _) (by rw [hby]; omega) (by omega)
  simpa using h
set_option maxHeartbeats 3200000 in
set_option maxRecDepth 100000 in
theorem eachZ_any (ks : List Tr) (kv : Value) (G : Tr → List UInt8) (fo : Nat) (w : World) (eo : ∀ args w, (callFunc fo args).run Tryd.prog w = .ok (.enter fo args) w)
    (ho : ∀ k ∈ ks, ∀ v W, Tre W k v → Calls Tryd.prog fo #[v] W (TextZ (G k) W)) (h : Kds w ks kv) (h0 : ks ≠ []) :
    Calls Tryd.prog 24 #[kv, .func (.func fo) #[] #[]] w (EachPost (ks.map G) w) := by
  have H := Lib.hid h; have HO := Lib.hid ho
  obtain ⟨A, c, rfl, h1, h2, h3, h4, h5⟩ := h
  obtain ⟨n, hn⟩ : ∃ n, ks.length = n := ⟨_, rfl⟩
  obtain ⟨C, hC, hmk⟩ := make_texts n (by omega)
  have hpos : 0 < n := by rw [← hn]; exact List.length_pos_iff.2 h0
  rw [hn] at h1 h3 H ⊢
  have HN := Lib.hid hn; have HC := Lib.hid hC
  obtain ⟨w1, hw1⟩ : ∃ w1, w.alloc (.cells C 9) = w1 := ⟨_, rfl⟩
  have hE1 : Whole w1 w.heap.size 9 C := by rw [← hw1]; exact heap_alloc_new w _
  have hB1 : Below w.heap.size w w1 := by rw [← hw1]; exact (Below.refl _ w).alloc (Nat.le_refl _) _
  have HW1 := Lib.hid hw1; have HE1 := Lib.hid hE1; have HB1 := Lib.hid hB1
  clear h5 ho hn hC hw1 hE1 hB1 h0
  go_enter Tryd.func24, Tryd.ntmps24
  go_upto_region 3 with (fail)
  rw [HW1.out]
  clear hmk
  go_loopw [13] (fun i wr => ∃ (k : Nat) (cs : Array Value), k ≤ n ∧ i = .int .i64 k ∧ cs.size = n ∧ Whole wr w.heap.size 9 cs ∧ (∀ (j : Nat) (hj : j < k) (hj' : j < ks.length), cs[j]? = some (.string (textB (G ks[j])))) ∧ Below w.heap.size w wr) (fun i _ => n - (intOf i).toNat)
  case atStart => exact ⟨0, C, Nat.zero_le _, rfl, HC.out, HE1.out, fun j hj => absurd hj (Nat.not_lt_zero _), HB1.out⟩
  case round =>
    obtain ⟨k, cs, hk, rfl, hcs, hE, hD, hB⟩ := hrel
    have HE := Lib.hid hE; have HD := Lib.hid hD; have HB := Lib.hid hB; have HCS := Lib.hid hcs
    clear hE hD hB hcs
    by_cases hkn : k < n
    · have hkl : k < ks.length := by rw [HN.out]; exact hkn
      obtain ⟨b, o, tk, kv', sv', hA, htk, hm, ⟨d0, d1, d2, d3, d4, d5, d6, d7, d8, d9⟩, hT⟩ := (H.out.below HB.out).kid k hkl
      obtain ⟨kx, sx, hv2, ⟨m1, m2, m3, rfl⟩, ⟨p1, p2, p3, rfl⟩⟩ := hT.ten
      obtain ⟨rfl, rfl⟩ := treC_inj (f := tk.fld) (k1 := kv') (s1 := sv') hv2
      obtain ⟨W2, hW2⟩ : ∃ W2, wr.alloc (.cells #[.int .i64 tk.fld.op, .slice m1 m2 m3, .int .i32 tk.fld.rune, .slice p1 p2 p3, .int .i64 tk.fld.at', .int .i64 tk.fld.cap, .string tk.fld.name, .int .i64 tk.fld.min, .int .i64 tk.fld.max, .bool tk.fld.lazy] 27) = W2 := ⟨_, rfl⟩
      have hb2 : Below wr.heap.size wr W2 := by rw [← hW2]; exact (Below.refl _ wr).alloc (Nat.le_refl _) _
      have hE2 : Whole W2 wr.heap.size 27 #[.int .i64 tk.fld.op, .slice m1 m2 m3, .int .i32 tk.fld.rune, .slice p1 p2 p3, .int .i64 tk.fld.at', .int .i64 tk.fld.cap, .string tk.fld.name, .int .i64 tk.fld.min, .int .i64 tk.fld.max, .bool tk.fld.lazy] := by rw [← hW2]; exact heap_alloc_new wr _
      have HI := Lib.hid (HO.out tk hm _ W2 (hT.below hb2))
      have HE2 := Lib.hid (HE.out.below hb2 HE.out.lt)
      have HB2 := Lib.hid (HB.out.trans (hb2.mono HB.out.size))
      have HTK := Lib.hid htk
      obtain ⟨g0, g1, g2, g3, g4, g5, g6, g7, g8, g9⟩ := hE2.ten
      have HW2 := Lib.hid hW2
      clear hT hv2 hm htk hb2 hE2 hW2
      rw [hA]
      clear hA
      go_upto_region 5 with (fail)
      rw [HW2.out]
      clear d0 d1 d2 d3 d4 d5 d6 d7 d8 d9
      go_wp2_with fail
      refine HI.out.mono ?_
      rintro e w3 ⟨rfl, hb3⟩
      have hE3 : Whole w3 w.heap.size 9 cs := HE2.out.below hb3 HE2.out.lt
      have hf3 := hE3.free k
      have hc3 : w3.cell? ⟨w.heap.size, k, none⟩ = some (cs[k]'(by rw [HCS.out]; exact hkn)) := (hE3.cell k).trans (Array.getElem?_eq_getElem _)
      have HE3 := Lib.hid hE3
      have HB3 := Lib.hid (HB2.out.trans (hb3.mono HB2.out.size))
      clear hE3 hb3 HI HE2 HB2 HE HB g0 g1 g2 g3 g4 g5 g6 g7 g8 g9
      generalize cs[k]'(by rw [HCS.out]; exact hkn) = old at hc3
      go_wp2_with fail
      go_roundw
      case rel =>
        refine ⟨k + 1, _, hkn, by go_num, by simpa using HCS.out, HE3.out.store k _, fun j hj hj' => ?_, HB3.out.setCell (p := ⟨w.heap.size, k, none⟩) (Nat.le_refl _) _⟩
        by_cases hjk : j = k
        · subst hjk
          have hz := HCS.out
          rw [Array.getElem?_setIfInBounds_self_of_lt (by omega), HTK.out]
        · rw [Array.getElem?_setIfInBounds_ne (fun e => hjk e.symm)]
          exact HD.out j (by omega) hj'
      case measure => simp [intOf]; omega
    · have hkn' : k = n := by omega
      subst hkn'
      go_wp2_with fail
      go_ret
      refine ⟨w.heap.size, by rw [List.length_map, HN.out]; rfl, fun j x hx => ?_, HE.out.lt, HB.out⟩
      rw [List.getElem?_map, List.getElem?_map] at hx
      by_cases hj : j < ks.length
      · rw [List.getElem?_eq_getElem hj] at hx
        simp only [Option.map_some, Option.some.injEq] at hx
        rw [Nat.zero_add, HE.out.cell j, HD.out j (by have := HN.out; omega) hj, hx]
      · rw [List.getElem?_eq_none (by omega)] at hx
        cases hx
end Go.Proofs.YthnddabcmhplkaaDoor
/- The document's bare: as the program's alone. Made from XPwAlone. -/
namespace Go.Proofs.YthnddabcmhplkaaDoor
open Go Go.RowKit

set_option maxHeartbeats 3200000 in
set_option maxRecDepth 100000 in
theorem bare9_any (F : Nat → Prop) (t : Tr) (v : Value) (w : World) (hFb : ∀ b, F b → b < w.heap.size) (hF : TreF F w t v) (hp : partsR t ≤ 10000000000) : Calls Tryd.prog 31 #[v] w (SolePost F t w) := by
  have h := hF.tre
  have HFB := Lib.hid hFb
  clear hFb
  obtain ⟨A, n, c, a2, s, c2, hn, hs, rfl, hnb, hsb, hK, hS, hFl⟩ := h.opened
  obtain ⟨w2, hw2⟩ : ∃ w2, (w.alloc (.cells #[.int .i64 t.fld.op, .slice A n c, .int .i32 t.fld.rune, .slice a2 s c2, .int .i64 t.fld.at', .int .i64 t.fld.cap, .string t.fld.name, .int .i64 t.fld.min, .int .i64 t.fld.max, .bool t.fld.lazy] 27)).alloc (.cells #[.int .i64 0, .slice none 0 0, .int .i32 0, .slice none 0 0, .int .i64 0, .int .i64 0, .string ⟨#[]⟩, .int .i64 0, .int .i64 0, .bool false] 27) = w2 := ⟨_, rfl⟩
  have s1 : ∀ o, (w.alloc o).heap.size = w.heap.size + 1 := fun o => Array.size_push _
  have hb2 : Below w.heap.size w w2 := by rw [← hw2]; exact ((Below.refl _ w).alloc (Nat.le_refl _) _).alloc (by rw [s1]; omega) _
  have hE : Whole w2 w.heap.size 27 #[.int .i64 t.fld.op, .slice A n c, .int .i32 t.fld.rune, .slice a2 s c2, .int .i64 t.fld.at', .int .i64 t.fld.cap, .string t.fld.name, .int .i64 t.fld.min, .int .i64 t.fld.max, .bool t.fld.lazy] := by rw [← hw2]; exact Whole.alloc (heap_alloc_new w _) _
  have hR : Whole w2 (w.heap.size + 1) 27 #[.int .i64 0, .slice none 0 0, .int .i32 0, .slice none 0 0, .int .i64 0, .int .i64 0, .string ⟨#[]⟩, .int .i64 0, .int .i64 0, .bool false] := by
    rw [← hw2]
    have := heap_alloc_new (w.alloc (.cells #[.int .i64 t.fld.op, .slice A n c, .int .i32 t.fld.rune, .slice a2 s c2, .int .i64 t.fld.at', .int .i64 t.fld.cap, .string t.fld.name, .int .i64 t.fld.min, .int .i64 t.fld.max, .bool t.fld.lazy] 27)) (.cells #[.int .i64 0, .slice none 0 0, .int .i32 0, .slice none 0 0, .int .i64 0, .int .i64 0, .string ⟨#[]⟩, .int .i64 0, .int .i64 0, .bool false] 27)
    rw [s1] at this
    exact this
  have HW := Lib.hid hw2; have HB := Lib.hid hb2; have HE := Lib.hid hE; have HR := Lib.hid hR
  have HF := Lib.hid (show TreF F w2 t _ from hF.same (same_below hb2) (fun _ h _ => h))
  clear hw2 hb2 hE hR s1 hF h hK hS hFl
  go_enter Tryd.func31, Tryd.ntmps31
  go_upto_region 1 with (fail)
  rw [HW.out]
  clear hn hs hnb hsb
  go_loopg [] (partsR t + 1) (fun gk wr => ∃ (t' : Tr) (cs : Array Value), partsR t' < gk ∧ soleT t' = soleT t ∧ Whole wr w.heap.size 27 cs ∧ TreF F wr t' (.agg cs) ∧ Whole wr (w.heap.size + 1) 27 #[.int .i64 0, .slice none 0 0, .int .i32 0, .slice none 0 0, .int .i64 0, .int .i64 0, .string ⟨#[]⟩, .int .i64 0, .int .i64 0, .bool false] ∧ Below w.heap.size w wr)
  case atStart => exact ⟨t, _, Nat.lt_succ_self _, rfl, HE.out, HF.out, HR.out, HB.out⟩
  case round =>
    obtain ⟨t', cs, hg, hq, hE, hT, hR, hB⟩ := hrel
    obtain ⟨kv, sv, hv, ⟨k1, k2, k3, rfl⟩, ⟨j1, j2, j3, rfl⟩⟩ := hT.ten
    injection hv with hv
    subst hv
    have HT := Lib.hid hT; have HRR := Lib.hid hR; have HB := Lib.hid hB; have HQ := Lib.hid hq; have HEE := Lib.hid hE
    obtain ⟨c0, c1, c2', c3, c4, c5, c6, c7, c8, c9⟩ := hE.ten
    obtain ⟨z0, z1, z2, z3, z4, z5, z6, z7, z8, z9⟩ := whole_free hE
    obtain ⟨r0, r1, r2, r3, r4, r5, r6, r7, r8, r9⟩ := hR.ten
    obtain ⟨y0, y1, y2, y3, y4, y5, y6, y7, y8, y9⟩ := whole_free hR
    have hk2 : k2 = t'.kids.length := by
      rw [treF_iff] at hT
      obtain ⟨kv', sv', e, -, -, A', c', rfl, -⟩ := hT
      have := (treC_inj (f := t'.fld) (k1 := .slice k1 k2 k3) (s1 := .slice j1 j2 j3) e).1
      injection this
    clear hT hE hR hB hq
    by_cases hlone : Lone t'
    · obtain ⟨k, hkk⟩ := lone_kid hlone
      have hone : k2 = 1 := by rw [hk2, hkk]; rfl
      subst hone
      obtain ⟨b, o, cc, ss, tk, kv', sv', hv, htk, hm, ⟨d0, d1, d2, d3, d4, d5, d6, d7, d8, d9⟩, hTk⟩ := HT.out.kid 0 (by rw [hkk]; simp)
      have hkv := (treC_inj (f := t'.fld) (k1 := .slice k1 1 k3) (s1 := .slice j1 j2 j3) hv).1
      injection hkv with hk1 hk1b hk1c
      clear hk1b hk1c
      subst hk1
      obtain ⟨kx, sx, hv2, ⟨m1, m2, m3, rfl⟩, ⟨p1, p2, p3, rfl⟩⟩ := hTk.ten
      have hkv2 := treC_inj (f := tk.fld) (k1 := kv') (s1 := sv') hv2
      obtain ⟨rfl, rfl⟩ := hkv2
      have htk' : tk = k := by rw [← htk]; simp [hkk]
      have hpk := partsR_kid hm
      obtain ⟨g', rfl⟩ : ∃ g', gk = g' + 1 := ⟨gk - 1, by omega⟩
      have HPK := Lib.hid (show partsR tk < g' by omega)
      have HSO := Lib.hid (show soleT tk = soleT t by rw [← HQ.out, sole_lone hlone hkk, htk'])
      obtain ⟨W2, hW2⟩ : ∃ W2, set10 wr w.heap.size (.int .i64 tk.fld.op) (.slice m1 m2 m3) (.int .i32 tk.fld.rune) (.slice p1 p2 p3) (.int .i64 tk.fld.at') (.int .i64 tk.fld.cap) (.string tk.fld.name) (.int .i64 tk.fld.min) (.int .i64 tk.fld.max) (.bool tk.fld.lazy) = W2 := ⟨_, rfl⟩
      have hs2 : Whole W2 w.heap.size 27 #[.int .i64 tk.fld.op, .slice m1 m2 m3, .int .i32 tk.fld.rune, .slice p1 p2 p3, .int .i64 tk.fld.at', .int .i64 tk.fld.cap, .string tk.fld.name, .int .i64 tk.fld.min, .int .i64 tk.fld.max, .bool tk.fld.lazy] := by rw [← hW2]; exact set10_whole HEE.out _ _ _ _ _ _ _ _ _ _
      have hsame : SameOn (fun k => k ≠ w.heap.size) wr W2 := by rw [← hW2]; exact set10_same _ _ _ _ _ _ _ _ _ _ _ _
      have hb2 : Below w.heap.size w W2 := by rw [← hW2]; exact set10_below HB.out (Nat.le_refl w.heap.size) _ _ _ _ _ _ _ _ _ _
      have HT2 := Lib.hid (hTk.same (fun b hb hl => hsame b (by have : b < w.heap.size := HFB.out b hb; omega) hl) (fun _ h _ => h))
      have HR2 := Lib.hid (show Whole W2 (w.heap.size + 1) _ _ from (hsame (w.heap.size + 1) (by omega) HRR.out.lt).trans HRR.out)
      have HS2 := Lib.hid hs2; have HB2 := Lib.hid hb2
      unfold set10 at hW2
      have HW2 := Lib.hid hW2
      rw [Nat.zero_mul, Nat.add_zero] at d0 d1 d2 d3 d4 d5 d6 d7 d8 d9
      have hops := hlone.1
      clear hTk hv2 htk htk' hm hpk hsame hv hk2 hs2 hb2 hW2 hlone r0 r1 r2 r3 r4 r5 r6 r7 r8 r9 y0 y1 y2 y3 y4 y5 y6 y7 y8 y9 hkk hg
      obtain ⟨op, hop⟩ : ∃ op, t'.fld.op = op := ⟨_, rfl⟩
      rw [hop] at hops c0
      clear hop
      rcases hops with rfl | rfl
      · go_wp2_with fail
        rw [HW2.out]
        go_roundg g'
        case measure => omega
        case rel => exact ⟨tk, _, HPK.out, HSO.out, HS2.out, HT2.out, HR2.out, HB2.out⟩
      · go_wp2_with fail
        rw [HW2.out]
        go_roundg g'
        case measure => omega
        case rel => exact ⟨tk, _, HPK.out, HSO.out, HS2.out, HT2.out, HR2.out, HB2.out⟩
    · have HP : Hid (SolePost F t w (.returned (.agg #[.int .i64 t'.fld.op, .slice k1 k2 k3, .int .i32 t'.fld.rune, .slice j1 j2 j3, .int .i64 t'.fld.at', .int .i64 t'.fld.cap, .string t'.fld.name, .int .i64 t'.fld.min, .int .i64 t'.fld.max, .bool t'.fld.lazy])) (set10 wr (w.heap.size + 1) (.int .i64 t'.fld.op) (.slice k1 k2 k3) (.int .i32 t'.fld.rune) (.slice j1 j2 j3) (.int .i64 t'.fld.at') (.int .i64 t'.fld.cap) (.string t'.fld.name) (.int .i64 t'.fld.min) (.int .i64 t'.fld.max) (.bool t'.fld.lazy))) := Lib.hid (by
        refine ⟨_, rfl, ?_, set10_below HB.out (Nat.le_succ _) _ _ _ _ _ _ _ _ _ _⟩
        rw [← HQ.out, sole_self hlone]
        exact HT.out.same (fun b hb hl => set10_same _ _ _ _ _ _ _ _ _ _ _ _ b (by have : b < w.heap.size := HFB.out b hb; omega) hl) (fun _ h _ => h))
      have hops : t'.fld.op = 11 ∧ k2 ≠ 1 ∨ t'.fld.op = 12 ∧ k2 ≠ 1 ∨ (t'.fld.op ≠ 11 ∧ t'.fld.op ≠ 12) := by
        by_cases h11 : t'.fld.op = 11
        · exact .inl ⟨h11, fun e => hlone ⟨.inl h11, by rw [← hk2, e]⟩⟩
        by_cases h12 : t'.fld.op = 12
        · exact .inr (.inl ⟨h12, fun e => hlone ⟨.inr h12, by rw [← hk2, e]⟩⟩)
        · exact .inr (.inr ⟨h11, h12⟩)
      clear hlone hk2 hg z0 z1 z2 z3 z4 z5 z6 z7 z8 z9
      obtain ⟨op, hop⟩ : ∃ op, t'.fld.op = op := ⟨_, rfl⟩
      rw [hop] at hops c0 HP
      clear hop
      rcases hops with ⟨rfl, hk⟩ | ⟨rfl, hk⟩ | ⟨h11, h12⟩
      · have ek : ((k2 : Int) == 1) = false := by rw [beq_eq_false_iff_ne]; omega
        clear hk
        go_wp2_with fail
        exact tree_ret Tryd.results31 (w.heap.size + 1) rfl HRR.out HP.out
      · have ek : ((k2 : Int) == 1) = false := by rw [beq_eq_false_iff_ne]; omega
        clear hk
        go_wp2_with fail
        exact tree_ret Tryd.results31 (w.heap.size + 1) rfl HRR.out HP.out
      · have e11 : (op == 11) = false := by simpa using h11
        have e12 : (op == 12) = false := by simpa using h12
        clear h11 h12
        go_wp2_with fail
        exact tree_ret Tryd.results31 (w.heap.size + 1) rfl HRR.out HP.out
end Go.Proofs.YthnddabcmhplkaaDoor
