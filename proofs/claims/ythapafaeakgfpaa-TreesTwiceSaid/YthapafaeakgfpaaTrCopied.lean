/- A tree on its own: the law's Copied. -/
import Derived.Test.YthapafaeakgfpaaTrTurned
import Derived.Test.YthapafaeakgfpaaOwnRgs
import Derived.Test.YthapafaeakgfpaaTrStep
import Derived.Deep.RegionLaw
set_option linter.unusedVariables false
namespace Go.Proofs.Ythapafaeakgfpaa
open Go Go.RowKit

theorem own_lit5 (W : World) : OwnR (W.alloc (.cells #[] 52)) W.heap.size (.slice (some ⟨W.heap.size, 0, none⟩) 0 0) [] := ⟨World.ownsRow_lit W #[] 0 (Nat.le_refl _) (Nat.zero_le _) rfl, by simp [AllI32]⟩
theorem own_whole_ne5 {w : World} {base z : Nat} {e t : TypeId} {n g : Nat} {v : Value} {xs : List Value} {cs : Array Value} (h : w.ownsRow base e z v n xs) (hg : Whole w g t cs) (hne : e ≠ t) : v.ownBlock ≠ some g := by
  rcases h.2 with ⟨rfl, _⟩ | ⟨q, cap, cur, rfl, _, hh, _⟩
  · simp [Value.ownBlock]
  · intro he
    obtain rfl : q = g := by simpa [Value.ownBlock] using he
    unfold Whole at hg
    rw [hg] at hh
    simp at hh
    exact hne hh.2.symm
theorem grown_store (w : World) (b i : Nat) (u : Value) : w.grownBy (w.setCell ⟨b, i, none⟩ u) (some b) := ⟨rfl, rfl, rfl, by simp [World.setCell], fun k _ hk => Below.heap_setCell w _ u k (fun e => hk (by rw [e]))⟩
theorem own_off {w : World} {base z : Nat} {e : TypeId} {n b : Nat} {v : Value} {xs : List Value} (h : w.ownsRow base e z v n xs) (hb : b < base) : v.ownBlock = none ∨ v.ownBlock ≠ some b := by
  rcases hv : v.ownBlock with _ | j
  · exact .inl rfl
  · refine .inr fun e => ?_
    have := (h.lt j hv).1
    have : j = b := Option.some.inj e
    omega
theorem OwnR.store {w : World} {B b : Nat} {v : Value} {O : List (Int × Int)} (h : OwnR w B v O) (hb : b < B) (i : Nat) (u : Value) : OwnR (w.setCell ⟨b, i, none⟩ u) B v O :=
  ⟨h.1.kept (grown_store w b i u) (own_off h.1 hb), h.2⟩
theorem OwnT.store {F : Nat → Prop} {w : World} {B b : Nat} {v : Value} {O : List Tr} (h : OwnT F w B v O) (hb : b < B) (hF : ∀ k, F k → k ≠ b) (i : Nat) (u : Value) : OwnT F (w.setCell ⟨b, i, none⟩ u) B v O := by
  obtain ⟨L, hl, ho, ht⟩ := h
  exact ⟨L, hl, ho.kept (grown_store w b i u) (own_off ho hb), fun j h h' => (ht j h h').same (fun k hk _ => Below.heap_setCell w _ u k (hF k hk.2)) fun _ h _ => h⟩
theorem own_own_ne5 {w : World} {base base' z z' : Nat} {e e' : TypeId} {n n' : Nat} {v v' : Value} {xs xs' : List Value} (h : w.ownsRow base e z v n xs) (h' : w.ownsRow base' e' z' v' n' xs') (hne : e ≠ e') : v.ownBlock = none ∨ v.ownBlock ≠ v'.ownBlock := by
  rcases h.2 with ⟨rfl, _⟩ | ⟨q, cap, cur, rfl, _, hh, _⟩
  · exact .inl rfl
  · refine .inr fun he => ?_
    rcases h'.2 with ⟨rfl, _⟩ | ⟨q', cap', cur', rfl, _, hh', _⟩
    · simp [Value.ownBlock] at he
    · have : q = q' := by simpa [Value.ownBlock] using he
      subst this
      rw [hh] at hh'
      simp at hh'
      exact hne hh'.2
theorem OwnT.ownsR {F : Nat → Prop} {w w' : World} {B : Nat} {v u : Value} {T : List Tr} {O : List (Int × Int)} (h : OwnT F w B v T) (g : OwnR w B u O) (hg : w.grownBy w' v.ownBlock) : OwnR w' B u O := by
  obtain ⟨L, hl, ho, ht⟩ := h
  exact ⟨g.1.kept hg (own_own_ne5 g.1 ho (by decide)), g.2⟩
def CopyPost (t : Tr) (w : World) (e : Ending) (w' : World) : Prop := ∃ v, e = .returned v ∧ TreF (fun b => w.heap.size ≤ b) w' t v ∧ Below w.heap.size w w'
def CopyOf (t : Tr) : Prop := partsR t ≤ 1000000 → ∀ (v : Value) (w : World), Tre w t v → Calls Try.prog 20 #[v] w (CopyPost t w)

set_option maxHeartbeats 4000000 in
set_option maxRecDepth 100000 in
theorem copied_any (t : Tr) : CopyOf t := by
  refine Tr.ind (P := CopyOf) (fun t ih hp v w h => ?_) t
  have IH := Lib.hid ih
  have H0 := Lib.hid h
  obtain ⟨A, n, c, a2, s, c2, hn, hs, rfl, hnb, hsb, hK, hS, hF⟩ := h.opened
  obtain ⟨w1, hw1⟩ : ∃ w1, (w.alloc (.cells #[.int .i64 t.fld.op, .slice A n c, .int .i32 t.fld.rune, .slice a2 s c2, .int .i64 t.fld.at', .int .i64 t.fld.cap, .string t.fld.name, .int .i64 t.fld.min, .int .i64 t.fld.max, .bool t.fld.lazy] 27)).alloc (.cells #[.int .i64 0, .slice none 0 0, .int .i32 0, .slice none 0 0, .int .i64 0, .int .i64 0, .string ⟨#[]⟩, .int .i64 0, .int .i64 0, .bool false] 27) = w1 := ⟨_, rfl⟩
  have hb1 : Below w.heap.size w w1 := by rw [← hw1]; exact ((Below.refl _ w).alloc (Nat.le_refl _) _).alloc (by simp) _
  have hE1 : Whole w1 w.heap.size 27 #[.int .i64 t.fld.op, .slice A n c, .int .i32 t.fld.rune, .slice a2 s c2, .int .i64 t.fld.at', .int .i64 t.fld.cap, .string t.fld.name, .int .i64 t.fld.min, .int .i64 t.fld.max, .bool t.fld.lazy] := by rw [← hw1]; exact Whole.alloc (heap_alloc_new w _) _
  have hR1 : Whole w1 (w.heap.size + 1) 27 #[.int .i64 0, .slice none 0 0, .int .i32 0, .slice none 0 0, .int .i64 0, .int .i64 0, .string ⟨#[]⟩, .int .i64 0, .int .i64 0, .bool false] := by
    rw [← hw1]
    have := heap_alloc_new (w.alloc (.cells #[.int .i64 t.fld.op, .slice A n c, .int .i32 t.fld.rune, .slice a2 s c2, .int .i64 t.fld.at', .int .i64 t.fld.cap, .string t.fld.name, .int .i64 t.fld.min, .int .i64 t.fld.max, .bool t.fld.lazy] 27)) (.cells #[.int .i64 0, .slice none 0 0, .int .i32 0, .slice none 0 0, .int .i64 0, .int .i64 0, .string ⟨#[]⟩, .int .i64 0, .int .i64 0, .bool false] 27)
    simpa [Whole] using this
  have hs1 : w1.heap.size = w.heap.size + 2 := by rw [← hw1]; simp
  have HB1 := Lib.hid hb1; have HE1 := Lib.hid hE1; have HR1 := Lib.hid hR1; have HW1 := Lib.hid hw1; have HS1 := Lib.hid hs1; have HK := Lib.hid hK; have HS := Lib.hid (hS.below hb1); have HN := Lib.hid hn; have HF := Lib.hid hF
  obtain ⟨L, hL⟩ : ∃ L, t.fld.set = L := ⟨_, rfl⟩
  have hLs : L.length = s := by rw [← hL]; exact hs
  subst hLs
  have hLp : L.length < partsR t := by rw [← hL, partsR_eq]; omega
  rw [hL] at HS
  have HL := Lib.hid hL
  obtain ⟨b0, b1, b2, b3, b4, b5, b6, b7, b8, b9⟩ := hE1.ten
  obtain ⟨z0, z1, z2, z3, z4, z5, z6, z7, z8, z9⟩ := whole_free hE1
  clear h ih hb1 hE1 hR1 hw1 hs1 hK hS hn hs hF hL
  go_enter Try.func20, Try.ntmps20
  go_upto_region 1 with (fail)
  rw [HW1.out]
  go_upto_region 2 with (fail)
  obtain ⟨w2, hw2⟩ : ∃ w2, w1.alloc (.cells #[] 52) = w2 := ⟨_, rfl⟩
  have hb2 : Below w1.heap.size w1 w2 := by rw [← hw2]; exact (Below.refl _ _).alloc (Nat.le_refl _) _
  have ho2 : OwnR w2 w1.heap.size (.slice (some ⟨w1.heap.size, 0, none⟩) 0 0) [] := by rw [← hw2]; exact own_lit5 w1
  have HB2 := Lib.hid hb2; have HO2 := Lib.hid ho2; have HW2 := Lib.hid hw2; have hs2 := hb2.size
  have HS2 := Lib.hid (HS.out.below hb2)
  clear hb2 ho2 hw2
  clear b0 b1 b2 b3 b4 b5 b6 b7 b8 b9 z0 z1 z2 z3 z4 z5 z6 z7 z8 z9
  have hE2 := Whole.alloc HE1.out (.cells #[] 52)
  obtain ⟨b0, b1, b2, b3, b4, b5, b6, b7, b8, b9⟩ := hE2.ten
  rw [HW2.out] at hE2
  have HE2 := Lib.hid hE2
  clear hE2
  go_wp2_with (at_builtin; go_loud (rw [HW2.out]; refine append_rgs rfl (.tmp 7) (.tmp 9) rfl w1.heap.size _ [] rfl HO2.out a2 L.length c2 L rfl HS2.out (by simp; omega) hs2 ?_; intro v3 w3 ho3 hg3; rw [List.nil_append] at ho3; obtain ⟨a3, c3, rfl, -⟩ := ho3.rgs; have HO3 := Lib.hid ho3; have HB3 := Lib.hid (HB2.out.grown hg3 hs2 (fun j hj => (HO2.out.1.lt j hj).1)); have hE3 := HE2.out.grown hg3 (own_whole_ne5 HO2.out.1 HE2.out (by decide)); have HE3 := Lib.hid hE3; clear ho3 hg3 b0 b1 b2 b3 b4 b5 b6 b7 b8 b9; obtain ⟨b0, b1, b2, b3, b4, b5, b6, b7, b8, b9⟩ := hE3.ten; obtain ⟨z0, z1, z2, z3, z4, z5, z6, z7, z8, z9⟩ := whole_free hE3; clear hE3))
  obtain ⟨w4, hw4⟩ : ∃ w4, (w3.setCell ⟨w.heap.size, 3, none⟩ (.slice a3 L.length c3)).setCell ⟨w.heap.size, 1, none⟩ (.slice none 0 0) = w4 := ⟨_, rfl⟩
  rw [hw4]
  have hE4 : Whole w4 w.heap.size 27 #[.int .i64 t.fld.op, .slice none 0 0, .int .i32 t.fld.rune, .slice a3 L.length c3, .int .i64 t.fld.at', .int .i64 t.fld.cap, .string t.fld.name, .int .i64 t.fld.min, .int .i64 t.fld.max, .bool t.fld.lazy] := by
    have := (HE3.out.store 3 (.slice a3 L.length c3)).store 1 (.slice none 0 0)
    simp only [List.setIfInBounds_toArray, List.set_cons_zero, List.set_cons_succ] at this
    rw [hw4] at this
    exact this
  have hb4 : Below w.heap.size w w4 := by rw [← hw4]; exact ((HB1.out.trans (HB3.out.mono HB1.out.size)).setCell (p := ⟨w.heap.size, 3, none⟩) (Nat.le_refl _) _).setCell (p := ⟨w.heap.size, 1, none⟩) (Nat.le_refl _) _
  have ho4 : OwnR w4 w1.heap.size (.slice a3 L.length c3) L := by rw [← hw4]; exact (HO3.out.store (by have := HS1.out; omega) _ _).store (by have := HS1.out; omega) _ _
  have hR4 : Whole w4 (w.heap.size + 1) 27 #[.int .i64 0, .slice none 0 0, .int .i32 0, .slice none 0 0, .int .i64 0, .int .i64 0, .string ⟨#[]⟩, .int .i64 0, .int .i64 0, .bool false] := by rw [← hw4]; exact ((HR1.out.below HB3.out (by have := HS1.out; omega)).far (by omega) _ _).far (by omega) _ _
  have hs4 : w1.heap.size ≤ w4.heap.size := by rw [← hw4]; have := HB3.out.size; simpa [World.setCell] using this
  have HE4 := Lib.hid hE4; have HB4 := Lib.hid hb4; have HO4 := Lib.hid ho4; have HR4 := Lib.hid hR4; have HS4 := Lib.hid hs4
  clear hE4 hb4 ho4 hR4 hs4 hw4 b0 b1 b2 b3 b4 b5 b6 b7 b8 b9 z0 z1 z2 z3 z4 z5 z6 z7 z8 z9 HB3 HO3 HE3 HO2 HB2 HW2 HE2 HS2 hs2 HS
  go_loopw [4] (fun i wr => ∃ k : Nat, k ≤ n ∧ i = .int .i64 k ∧ ∃ vl, Whole wr w.heap.size 27 #[.int .i64 t.fld.op, vl, .int .i32 t.fld.rune, .slice a3 L.length c3, .int .i64 t.fld.at', .int .i64 t.fld.cap, .string t.fld.name, .int .i64 t.fld.min, .int .i64 t.fld.max, .bool t.fld.lazy] ∧ OwnT (fun b => w1.heap.size ≤ b) wr w1.heap.size vl (t.kids.take k) ∧ OwnR wr w1.heap.size (.slice a3 L.length c3) L ∧ Whole wr (w.heap.size + 1) 27 #[.int .i64 0, .slice none 0 0, .int .i32 0, .slice none 0 0, .int .i64 0, .int .i64 0, .string ⟨#[]⟩, .int .i64 0, .int .i64 0, .bool false] ∧ Below w.heap.size w wr ∧ w1.heap.size ≤ wr.heap.size) (fun i _ => n - (intOf i).toNat)
  case atStart => exact ⟨0, Nat.zero_le _, rfl, _, HE4.out, ownT_none _ _ _, HO4.out, HR4.out, HB4.out, HS4.out⟩
  case round =>
    obtain ⟨k, hk, rfl, vl, hE, hO, hS, hR, hB, hsz⟩ := hrel
    obtain ⟨l1, l2, l3, rfl⟩ := hO.slice
    have HE := Lib.hid hE; have HO := Lib.hid hO; have HSr := Lib.hid hS; have HR := Lib.hid hR; have HB := Lib.hid hB
    obtain ⟨b0, b1, b2, b3, b4, b5, b6, b7, b8, b9⟩ := hE.ten
    have hKw := HK.out.below hB
    clear hE hO hS hR hB
    by_cases hkn : k < n
    · have hkl : k < t.kids.length := by rw [HN.out]; exact hkn
      obtain ⟨b, o, tk, kv, sv, rfl, htk, hm, ⟨c0, c1, c2', c3', c4, c5, c6, c7, c8, c9⟩, hTk⟩ := hKw.kid k hkl
      have hpk := partsR_kid hm
      have hd := (Below.refl wr.heap.size wr).drew
      have HI := Lib.hid (IH.out tk hm (by omega) _ wr.drew (hTk.below hd))
      have hts : t.kids.take (k + 1) = t.kids.take k ++ [tk] := by rw [List.take_succ_eq_append_getElem hkl, htk]
      have HTS := Lib.hid hts
      have hlk : (t.kids.take k).length + 1 ≤ 1172812402961 := by rw [List.length_take]; omega
      clear hKw htk hm hTk hts hd hpk
      go_upto_region 7 with (fail)
      have hlt : w.heap.size < wr.heap.size := by have := HS1.out; omega
      have hlt2 : w.heap.size + 1 < wr.heap.size := by have := HS1.out; omega
      go_region_law (first | (go_simp; refine HI.out.mono ?_; rintro e w5 ⟨v5, rfl, ht5, hb5⟩; obtain ⟨kv5, sv5, rfl, ⟨p1, p2, p3, rfl⟩, ⟨r1, r2, r3, rfl⟩⟩ := ht5.ten; have HT5 := Lib.hid ht5; have HB5 : Hid (Below wr.heap.size wr w5) := Lib.hid ((Below.refl wr.heap.size wr).drew.trans hb5); clear ht5 hb5; have g1 := (HE.out.below HB5.out hlt).cell 1; have g2 := ((HE.out.below HB5.out hlt).alloc (.cells #[.int .i64 tk.fld.op, .slice p1 p2 p3, .int .i32 tk.fld.rune, .slice r1 r2 r3, .int .i64 tk.fld.at', .int .i64 tk.fld.cap, .string tk.fld.name, .int .i64 tk.fld.min, .int .i64 tk.fld.max, .bool tk.fld.lazy] 27)).cell 1; simp only [List.getElem?_toArray, List.getElem?_cons_succ, List.getElem?_cons_zero] at g1 g2) | (refine step_append_trs rfl (.tmp 20) (.tmp 26) rfl (fun b => w1.heap.size ≤ b) w1.heap.size _ (t.kids.take k) rfl ((HO.out.below HB5.out).below ((Below.refl _ w5).alloc (Nat.le_refl _) _)) ⟨w5.heap.size, 0, none⟩ 1 1 [tk] rfl (kds_one HT5.out _ (fun b hb _ => ⟨fun e => HO.out.off b hb e, Nat.le_trans hsz hb⟩)) (by simp only [List.length_singleton]; exact hlk) (by have := HB5.out.size; simp; omega) ?_; intro v6 w6 ho6 hg6 _; obtain ⟨q1, q2, q3, rfl⟩ := ho6.slice; have HO6 := Lib.hid ho6; have HG6 := Lib.hid hg6; have hE6 := ((HE.out.below HB5.out hlt).alloc (.cells #[.int .i64 tk.fld.op, .slice p1 p2 p3, .int .i32 tk.fld.rune, .slice r1 r2 r3, .int .i64 tk.fld.at', .int .i64 tk.fld.cap, .string tk.fld.name, .int .i64 tk.fld.min, .int .i64 tk.fld.max, .bool tk.fld.lazy] 27)).grown hg6 (fun e => (by have := HO.out.base _ e; have := HS1.out; omega)); have HE6 := Lib.hid hE6; have f1 := hE6.cell 1; have z1 := hE6.free 1; simp only [List.getElem?_toArray, List.getElem?_cons_succ, List.getElem?_cons_zero] at f1; clear ho6 hg6 hE6))
      all_goals
        have hoA := (HO.out.below HB5.out).below ((Below.refl _ w5).alloc (Nat.le_refl _) (.cells #[.int .i64 tk.fld.op, .slice p1 p2 p3, .int .i32 tk.fld.rune, .slice r1 r2 r3, .int .i64 tk.fld.at', .int .i64 tk.fld.cap, .string tk.fld.name, .int .i64 tk.fld.min, .int .i64 tk.fld.max, .bool tk.fld.lazy] 27))
        have hoR := (HSr.out.below HB5.out).below ((Below.refl _ w5).alloc (Nat.le_refl _) (.cells #[.int .i64 tk.fld.op, .slice p1 p2 p3, .int .i32 tk.fld.rune, .slice r1 r2 r3, .int .i64 tk.fld.at', .int .i64 tk.fld.cap, .string tk.fld.name, .int .i64 tk.fld.min, .int .i64 tk.fld.max, .bool tk.fld.lazy] 27))
        have h6 : w1.heap.size ≤ w6.heap.size := by have := HG6.out.size; have := HB5.out.size; simp at *; omega
        have hBb : Below w.heap.size w w6 := ((HB.out.trans (HB5.out.mono HB.out.size)).alloc (by have := HB5.out.size; omega) _).grown HG6.out (by have := HB5.out.size; simp; omega) (fun j hj => (by have := HO.out.base j hj; have := HS1.out; omega))
        have hRr : Whole w6 (w.heap.size + 1) 27 #[.int .i64 0, .slice none 0 0, .int .i32 0, .slice none 0 0, .int .i64 0, .int .i64 0, .string ⟨#[]⟩, .int .i64 0, .int .i64 0, .bool false] := ((HR.out.below HB5.out hlt2).alloc _).grown HG6.out (fun e => (by have := HO.out.base _ e; have := HS1.out; omega))
        have HRL : Hid (OwnR w6 w1.heap.size (.slice a3 L.length c3) L) := Lib.hid (hoA.ownsR hoR HG6.out)
        have H6 := Lib.hid h6; have HBB := Lib.hid hBb; have HRR := Lib.hid hRr
        clear hoA hoR h6 hBb hRr
        go_wp2_with fail
        go_roundw
        case rel =>
          refine ⟨k + 1, by omega, by go_num, .slice q1 q2 q3, ?_, ?_, HRL.out.store (by have := HS1.out; omega) _ _, HRR.out.far (by omega) _ _, HBB.out.setCell (p := ⟨w.heap.size, 1, none⟩) (Nat.le_refl _) _, by have := H6.out; simpa [World.setCell] using this⟩
          · have := HE6.out.store 1 (.slice q1 q2 q3)
            simp only [List.setIfInBounds_toArray, List.set_cons_zero, List.set_cons_succ] at this
            exact this
          · rw [HTS.out]
            exact HO6.out.store (by have := HS1.out; omega) (fun k hk => by have := HS1.out; omega) _ _
        case measure => simp [intOf]; omega
    · have hk2 : t.kids.take k = t.kids := List.take_of_length_le (by rw [HN.out]; omega)
      have hT : TreF (fun b => w1.heap.size ≤ b) wr t (.agg #[.int .i64 t.fld.op, .slice l1 l2 l3, .int .i32 t.fld.rune, .slice a3 L.length c3, .int .i64 t.fld.at', .int .i64 t.fld.cap, .string t.fld.name, .int .i64 t.fld.min, .int .i64 t.fld.max, .bool t.fld.lazy]) := by
        rw [treF_iff]
        have hk := HO.out
        rw [hk2] at hk
        refine ⟨.slice l1 l2 l3, .slice a3 L.length c3, rfl, ⟨by rw [HL.out]; exact HSr.out.rgs, .inr fun b hb => (HSr.out.1.lt b hb).1⟩, HF.out, hk.kdsF (by rw [HN.out]; exact hnb) (fun b h => h) (fun b h => h)⟩
      have HTT := Lib.hid hT
      obtain ⟨r0, r1, r2, r3, r4, r5, r6, r7, r8, r9⟩ := HR.out.ten
      obtain ⟨z0, z1, z2, z3, z4, z5, z6, z7, z8, z9⟩ := whole_free HR.out
      clear hk2 hT hKw
      go_wp2_with fail
      refine tree_ret Try.results20 (w.heap.size + 1) rfl HR.out ?_
      refine ⟨_, rfl, ?_, set10_below HB.out (by omega) _ _ _ _ _ _ _ _ _ _⟩
      refine TreF.same HTT.out (SameOn.mono (set10_same _ _ _ _ _ _ _ _ _ _ _ _) (fun b hb e => ?_)) (fun b hb _ => ?_)
      · have := HS1.out
        omega
      · have := HS1.out
        omega
end Go.Proofs.Ythapafaeakgfpaa
