/- Texts merged by program: PClone, SmBase, SmEach, SmStill, SmLooped, SmJoined. No condition. -/
import Derived.Test.YthffdmncdoogpaaK12
import Derived.Test.YthffdmncdoogpaaK8
import Derived.Test.YthffdmncdoogpaaK4
import Derived.Test.YthffdmncdoogpaaK11
import Derived.Deep.RegionHeld3
import Derived.Deep.RegionWith
import Derived.Deep.DeepCutAuto
set_option linter.unusedVariables false
/- The library's Clone of ranges and of trees: a row of the call's own, that holds the same. -/
namespace Go.Proofs.Ythffdmncdoogpaa
open Go Go.RowKit

def CloneR (l : List (Int × Int)) (w : World) (e : Ending) (w' : World) : Prop := ∃ v, e = .returned v ∧ OwnR w' w.heap.size v l ∧ Below w.heap.size w w'
def CloneT (F : Nat → Prop) (T : List Tr) (w : World) (e : Ending) (w' : World) : Prop := ∃ v, e = .returned v ∧ OwnT F w' w.heap.size v T ∧ Below w.heap.size w w'

set_option maxHeartbeats 1600000 in
set_option maxRecDepth 100000 in
theorem cloneR_any (v : Value) (l : List (Int × Int)) (w : World) (h : Rgs w v l) (hlen : l.length ≤ 17592186044416) : Calls Try.prog 53 #[v] w (CloneR l w) := by
  have H0 := Lib.hid h
  obtain ⟨A, c, rfl, h2, h3, h4, h5, h6⟩ := h
  rcases A with _ | ad
  · have hc := h4 rfl
    have hl : l = [] := List.eq_nil_of_length_eq_zero (by omega)
    subst hl hc
    have he : ∀ w : World, (binOp .eql 36 (.slice none 0 0) (.slice none 0 0)).run Try.prog w = .ok (.bool true) w := fun _ => rfl
    clear h5 h6 h4 H0
    go_enter Try.func53, Try.ntmps53
    go_wp2_with fail
    go_ret
    exact ⟨_, rfl, own_none _ _, Below.refl _ _⟩
  · obtain ⟨n, hn⟩ : ∃ n, l.length = n := ⟨_, rfl⟩
    rw [hn] at H0 hlen ⊢
    have he : ∀ w : World, (binOp .eql 36 (.slice (some ad) n c) (.slice none 0 0)).run Try.prog w = .ok (.bool false) w := fun _ => rfl
    have HN := Lib.hid hn
    clear h5 h6 h4 h2 hn
    have HO1 := Lib.hid (show OwnR (w.alloc (.cells #[] 55)) w.heap.size (.slice (some ⟨w.heap.size, 0, none⟩) 0 0) [] from ⟨World.ownsRow_lit w #[] 0 (Nat.le_refl _) (Nat.zero_le _) rfl, by simp [AllI32]⟩)
    have hb1 : Below w.heap.size w (w.alloc (.cells #[] 55)) := (Below.refl _ _).alloc (Nat.le_refl _) _
    have HB1 := Lib.hid hb1; have HR1 := Lib.hid (H0.out.below hb1)
    clear hb1
    go_enter Try.func53, Try.ntmps53
    go_wp2_with (at_builtin; refine append_rgs rfl (.tmp 5) (.tmp 6) rfl w.heap.size _ [] rfl HO1.out (some ad) n c l rfl HR1.out (by have := HN.out; simp; omega) (by simp) ?_; intro v2 w2 ho2 hg2; have HO2 := Lib.hid ho2; have HG2 := Lib.hid hg2; clear ho2 hg2)
    go_ret
    exact ⟨v2, rfl, HO2.out, HB1.out.grown HG2.out HB1.out.size (fun j e => by cases e; exact Nat.le_refl _)⟩

end Go.Proofs.Ythffdmncdoogpaa
/- Of trees in boxes: what is handed back; lists that lie in rows. Written by gen10.py. -/
namespace Go.Proofs.Ythffdmncdoogpaa
open Go Go.RowKit

/-- A function, called by its number, that makes of a tree what f makes of it. -/
def FnOf (g : Nat) (f : Tr → Tr) (t : Tr) : Prop := ∀ (AF : Nat → Prop) (v : Value) (w : World), (∀ b, AF b → b < w.heap.size) → TreF AF w t v → Calls Try.prog g #[v] w (TurnedPost AF (f t) w)
theorem smKdsE {F : Nat → Prop} {w : World} {ks : List Tr} {v : Value} (h : KdsF F w ks v) : KdsE F w ks v := by
  obtain ⟨A, c, h1, h2, h3, h4, h5, h6⟩ := h
  refine ⟨A, c, h1, h2, h3, h4, h5, h6.imp id ?_⟩
  rintro ⟨b, o, e, -, hc⟩
  exact ⟨b, o, e, hc⟩
theorem KdsE.same {F : Nat → Prop} {w w' : World} {ks : List Tr} {v : Value} (h : KdsE F w ks v) (hs : Below w.heap.size w w') : KdsE F w' ks v := by
  obtain ⟨A, c, h1, h2, h3, h4, h5, h6⟩ := h
  refine ⟨A, c, h1, h2, h3, h4, h5, h6.imp id ?_⟩
  rintro ⟨b, o, e, hc⟩
  refine ⟨b, o, e, fun i hi => ?_⟩
  obtain ⟨cs, q1, q2⟩ := hc i hi
  exact ⟨cs, q1.below hs, q2.same (same_below hs) fun _ h _ => h⟩
/-- A Kid of a list, laid open, its two slices, too. -/
theorem KdsE.kid {F : Nat → Prop} {w : World} {ks : List Tr} {A : Option Addr} {n c : Nat} (h : KdsE F w ks (.slice A n c)) (k : Nat) (hk : k < ks.length) :
    ∃ (b o : Nat) (tk : Tr) (x1 : Option Addr) (x2 x3 : Nat) (y1 : Option Addr) (y2 y3 : Nat), A = some ⟨b, o, none⟩ ∧ ks[k] = tk ∧ tk ∈ ks ∧ x2 = tk.kids.length ∧
      Kid10 w b (o + k * 10) (.int .i64 tk.fld.op) (.slice x1 x2 x3) (.int .i32 tk.fld.rune) (.slice y1 y2 y3) (.int .i64 tk.fld.at') (.int .i64 tk.fld.cap) (.string tk.fld.name) (.int .i64 tk.fld.min) (.int .i64 tk.fld.max) (.bool tk.fld.lazy) ∧
      TreF F w tk (.agg #[.int .i64 tk.fld.op, .slice x1 x2 x3, .int .i32 tk.fld.rune, .slice y1 y2 y3, .int .i64 tk.fld.at', .int .i64 tk.fld.cap, .string tk.fld.name, .int .i64 tk.fld.min, .int .i64 tk.fld.max, .bool tk.fld.lazy]) := by
  obtain ⟨A', c', e, -, -, -, -, h6⟩ := h
  injection e with e1 e2 e3
  subst e1
  rcases h6 with h6 | ⟨b, o, e, hc⟩
  · rw [h6] at hk
    simp at hk
  · obtain ⟨cs, q1, q2⟩ := hc k hk
    have q3 := q2
    rw [treF_iff] at q3
    obtain ⟨kv, sv, e2, ⟨⟨y1, y3, rfl, -⟩, -⟩, -, x1, x3, rfl, -⟩ := q3
    injection e2 with e2
    subst e2
    exact ⟨b, o, ks[k], x1, _, x3, y1, _, y3, e, rfl, List.getElem_mem hk, rfl, q1.ten, q2⟩
/-- Ten cells that are handed back hold a tree that lay elsewhere. -/
theorem out_tree {AF : Nat → Prop} {w W : World} {T : Tr} {x0 x1 x2 x3 x4 x5 x6 x7 x8 x9 : Value} {r : Nat} (hT : TreF (fun b => (AF b ∨ w.heap.size ≤ b) ∧ b ≠ r) W T (.agg #[x0, x1, x2, x3, x4, x5, x6, x7, x8, x9])) (hB : Below w.heap.size w W) (hr : w.heap.size ≤ r) :
    TurnedPost AF T w (.returned (.agg #[x0, x1, x2, x3, x4, x5, x6, x7, x8, x9])) (set10 W r x0 x1 x2 x3 x4 x5 x6 x7 x8 x9) :=
  ⟨_, rfl, hT.same ((set10_same W r x0 x1 x2 x3 x4 x5 x6 x7 x8 x9).mono fun b hb => hb.2) fun b hb _ => hb.1, set10_below hB hr _ _ _ _ _ _ _ _ _ _⟩
theorem emptyT_tre (F : Nat → Prop) (w : World) (o : Int) (ho : I64 o) : TreF F w (.mk (opF o false) []) (.agg #[.int .i64 o, .slice none 0 0, .int .i32 0, .slice none 0 0, .int .i64 0, .int .i64 0, .string ⟨#[]⟩, .int .i64 0, .int .i64 0, .bool false]) := by
  rw [treF_iff]
  refine ⟨.slice none 0 0, .slice none 0 0, rfl, ⟨⟨none, 0, rfl, by simp [opF, Tr.fld], by unfold maxLen; omega, by simp, .inl rfl, by simp [opF, Tr.fld]⟩, .inl rfl⟩, ⟨ho, by simp [opF, Tr.fld, I32], by simp [opF, Tr.fld, I64], by simp [opF, Tr.fld, I64], by simp [opF, Tr.fld, I64], by simp [opF, Tr.fld, I64], show (0 : Nat) ≤ _ by omega, by simp [opF, Tr.fld]⟩, none, 0, rfl, by simp [Tr.kids], by unfold maxLen; omega, by simp [Tr.kids], by simp, .inl rfl⟩
theorem I64.two : I64 2 := ⟨by omega, by omega⟩
/-- A node over a list in memory. -/
theorem opF_tre {F : Nat → Prop} {w : World} {o : Int} {z : Bool} {ks : List Tr} {kv : Value} (ho : I64 o) (hk : KdsF F w ks kv) : TreF F w (.mk (opF o z) ks) (.agg #[.int .i64 o, kv, .int .i32 0, .slice none 0 0, .int .i64 0, .int .i64 0, .string ⟨#[]⟩, .int .i64 0, .int .i64 0, .bool z]) := by
  rw [treF_iff]
  exact ⟨kv, .slice none 0 0, rfl, ⟨⟨none, 0, rfl, by simp [opF, Tr.fld], by unfold maxLen; omega, by simp, .inl rfl, by simp [opF, Tr.fld]⟩, .inl rfl⟩, ⟨ho, by simp [opF, Tr.fld, I32], by simp [opF, Tr.fld, I64], by simp [opF, Tr.fld, I64], by simp [opF, Tr.fld, I64], by simp [opF, Tr.fld, I64], show (0 : Nat) ≤ _ by omega, by simp [opF, Tr.fld]⟩, hk⟩
end Go.Proofs.Ythffdmncdoogpaa
/- New lists of what is made of each tree, and of those that are so: the program's each, those, over any function. Written by gen10.py. -/
namespace Go.Proofs.Ythffdmncdoogpaa
open Go Go.RowKit

def RowPost (AF : Nat → Prop) (T : List Tr) (w : World) (e : Ending) (w' : World) : Prop := ∃ v, e = .returned v ∧ OwnT (fun b => AF b ∨ w.heap.size ≤ b) w' w.heap.size v T ∧ Below w.heap.size w w'
theorem OwnT.wide {F G : Nat → Prop} {w : World} {B : Nat} {v : Value} {T : List Tr} (h : OwnT F w B v T) (hFG : ∀ b, F b → G b) : OwnT G w B v T := by
  obtain ⟨L, hl, ho, ht⟩ := h
  exact ⟨L, hl, ho, fun i h h' => (ht i h h').same (fun _ _ _ => rfl) fun b hb _ => ⟨hb.1, hFG b hb.2⟩⟩

set_option maxHeartbeats 4000000 in
set_option maxRecDepth 100000 in
theorem smEach_any (g : Nat) (f : Tr → Tr) (eg : ∀ args w, (callFunc g args).run Try.prog w = .ok (.enter g args) w) (ks : List Tr) (hg : ∀ k ∈ ks, FnOf g f k) (AF : Nat → Prop) (v : Value) (w : World) (hA : ∀ b, AF b → b < w.heap.size) (h0 : KdsE AF w ks v) :
    Calls Try.prog 87 #[v, .func (.func g) #[] #[]] w (RowPost AF (ks.map f) w) := by
  have H0 := Lib.hid h0; have HA := Lib.hid hA; have HG := Lib.hid hg
  obtain ⟨A, c, rfl, h1, h2, h3, h4, h5⟩ := h0
  obtain ⟨n, hn⟩ : ∃ n, ks.length = n := ⟨_, rfl⟩
  rw [hn] at h1 h3 H0 ⊢
  have HN := Lib.hid hn
  clear h5 hn hA hg
  go_enter Try.func87, Try.ntmps87
  go_wp2_with fail
  go_loopw [5, 10] (fun kv i wr => ∃ k : Nat, k ≤ n ∧ i = .int .i64 k ∧ OwnT (fun b => AF b ∨ w.heap.size ≤ b) wr w.heap.size kv ((ks.take k).map f) ∧ Below w.heap.size w wr) (fun _ i _ => n - (intOf i).toNat)
  case atStart => exact ⟨0, Nat.zero_le _, rfl, by simpa using ownT_none _ w w.heap.size, Below.refl _ _⟩
  case round =>
    obtain ⟨k, hk, rfl, hO, hB⟩ := hrel
    obtain ⟨l1, l2, l3, rfl⟩ := hO.slice
    have HO := Lib.hid hO; have HB := Lib.hid hB
    have hKr := H0.out.same hB
    clear hO hB
    by_cases hkn : k < n
    · have hkl : k < ks.length := by rw [HN.out]; exact hkn
      obtain ⟨b, o, tk, x1, x2, x3, y1, y2, y3, rfl, htk, hm, hx2, ⟨c0, c1, c2', c3, c4, c5, c6, c7, c8, c9⟩, hTk⟩ := hKr.kid k hkl
      obtain ⟨w2, hw2⟩ : ∃ w2, wr.alloc (.cells #[.int .i64 tk.fld.op, .slice x1 x2 x3, .int .i32 tk.fld.rune, .slice y1 y2 y3, .int .i64 tk.fld.at', .int .i64 tk.fld.cap, .string tk.fld.name, .int .i64 tk.fld.min, .int .i64 tk.fld.max, .bool tk.fld.lazy] 45) = w2 := ⟨_, rfl⟩
      have hb2 : Below wr.heap.size wr w2 := by rw [← hw2]; exact (Below.refl _ _).alloc (Nat.le_refl _) _
      have hE2 : Box10 w2 wr.heap.size (.int .i64 tk.fld.op) (.slice x1 x2 x3) (.int .i32 tk.fld.rune) (.slice y1 y2 y3) (.int .i64 tk.fld.at') (.int .i64 tk.fld.cap) (.string tk.fld.name) (.int .i64 tk.fld.min) (.int .i64 tk.fld.max) (.bool tk.fld.lazy) := by rw [← hw2]; exact box10_new wr _ _ _ _ _ _ _ _ _ _ _
      have hnx : (ks.take (k + 1)).map f = (ks.take k).map f ++ [f tk] := by rw [List.take_succ_eq_append_getElem hkl, List.map_append, htk]; rfl
      have hll : ((ks.take k).map f).length + [f tk].length ≤ 1172812402961 := by
        rw [List.length_map, List.length_take]
        simp
        omega
      have HW2 := Lib.hid hw2; have HB2 := Lib.hid (HB.out.trans (hb2.mono HB.out.size))
      have HO2 := Lib.hid (HO.out.below hb2)
      have HI := Lib.hid (HG.out tk hm AF _ w2 (fun b hb => Nat.lt_of_lt_of_le (HA.out b hb) HB2.out.size) (hTk.same (same_below hb2) fun _ h _ => h))
      have HNX := Lib.hid hnx; have HLL := Lib.hid hll
      obtain ⟨e0, e1, e2, e3, e4, e5, e6, e7, e8, e9⟩ := hE2
      clear hKr htk hm hTk hx2 hb2 hw2 hnx hkl hll
      go_upto_region 5 with (fail)
      rw [HW2.out]
      clear c0 c1 c2' c3 c4 c5 c6 c7 c8 c9
      go_wp2_with fail
      refine HI.out.mono ?_
      rintro e w3 ⟨v3, rfl, ht3, hb3⟩
      obtain ⟨kv3, sv3, rfl, ⟨m1, m2, m3, rfl⟩, ⟨p1, p2, p3, rfl⟩⟩ := ht3.ten
      have HO3 := Lib.hid (HO2.out.below hb3); have HB3 := Lib.hid (HB2.out.trans (hb3.mono HB2.out.size))
      have hkd : KdsE (fun b => Off (.slice l1 l2 l3) b ∧ (AF b ∨ w.heap.size ≤ b)) (w3.alloc (.cells (treC (f tk).fld (.slice m1 m2 m3) (.slice p1 p2 p3)) 45)) [f tk] (.slice (some ⟨w3.heap.size, 0, none⟩) 1 1) := kds_one ht3 _ fun b hb _ => ⟨fun e => by
        rcases hb with hb | hb
        · have h1 := HO2.out.base b e
          have h2 := HA.out b hb
          omega
        · exact HO2.out.off b hb e, hb.imp id fun h => Nat.le_trans HB2.out.size h⟩
      unfold treC at hkd
      have hb4 : Below w3.heap.size w3 (w3.alloc (.cells #[.int .i64 (f tk).fld.op, .slice m1 m2 m3, .int .i32 (f tk).fld.rune, .slice p1 p2 p3, .int .i64 (f tk).fld.at', .int .i64 (f tk).fld.cap, .string (f tk).fld.name, .int .i64 (f tk).fld.min, .int .i64 (f tk).fld.max, .bool (f tk).fld.lazy] 45)) := (Below.refl _ _).alloc (Nat.le_refl _) _
      have HO4 := Lib.hid (HO3.out.below hb4); have HB4 := Lib.hid (HB3.out.trans (hb4.mono HB3.out.size))
      have HKD := Lib.hid hkd
      have HS4 := Lib.hid HB4.out.size
      clear hkd hb4 ht3 hb3 e0 e1 e2 e3 e4 e5 e6 e7 e8 e9
      go_wp2_with (at_builtin; refine append_trs rfl (.tmp 14) (.tmp 18) rfl (fun b => AF b ∨ w.heap.size ≤ b) w.heap.size _ ((ks.take k).map f) rfl HO4.out (some ⟨w3.heap.size, 0, none⟩) 1 1 [f tk] rfl HKD.out HLL.out HS4.out ?_; intro v4 w4 ho4 hg4 _; obtain ⟨q1, q2, q3, rfl⟩ := ho4.slice; have HO5 := Lib.hid ho4; have HB5 := Lib.hid (HB4.out.grown hg4 HS4.out (fun j hj => (by have := HO4.out.base j hj; omega))); clear ho4 hg4)
      go_roundw
      case rel => exact ⟨k + 1, by omega, by go_num, by rw [HNX.out]; exact HO5.out, HB5.out⟩
      case measure => simp [intOf]; omega
    · have hke : ks.take k = ks := List.take_of_length_le (by rw [HN.out]; omega)
      have hO := HO.out
      rw [hke] at hO
      have HOE := Lib.hid hO
      clear hKr hke hO
      go_wp2_with fail
      go_ret
      exact ⟨_, rfl, HOE.out, HB.out⟩

set_option maxHeartbeats 4000000 in
set_option maxRecDepth 100000 in
theorem smThose_any (g : Nat) (p : Tr → Bool) (eg : ∀ args w, (callFunc g args).run Try.prog w = .ok (.enter g args) w) (ks : List Tr) (hg : ∀ k ∈ ks, ∀ v W, Tre W k v → Calls Try.prog g #[v] W fun e w' => e = .returned (.bool (p k)) ∧ Below W.heap.size W w') (AF : Nat → Prop) (v : Value) (w : World) (hA : ∀ b, AF b → b < w.heap.size) (h0 : KdsE AF w ks v) :
    Calls Try.prog 92 #[v, .func (.func g) #[] #[]] w (RowPost AF (ks.filter p) w) := by
  have H0 := Lib.hid h0; have HA := Lib.hid hA; have HG := Lib.hid hg
  obtain ⟨A, c, rfl, h1, h2, h3, h4, h5⟩ := h0
  obtain ⟨n, hn⟩ : ∃ n, ks.length = n := ⟨_, rfl⟩
  rw [hn] at h1 h3 H0 ⊢
  have HN := Lib.hid hn
  clear h5 hn hA hg
  go_enter Try.func92, Try.ntmps92
  go_wp2_with fail
  go_loopw [5, 10] (fun kv i wr => ∃ k : Nat, k ≤ n ∧ i = .int .i64 k ∧ OwnT AF wr w.heap.size kv ((ks.take k).filter p) ∧ Below w.heap.size w wr) (fun _ i _ => n - (intOf i).toNat)
  case atStart => exact ⟨0, Nat.zero_le _, rfl, by simpa using ownT_none _ w w.heap.size, Below.refl _ _⟩
  case round =>
    obtain ⟨k, hk, rfl, hO, hB⟩ := hrel
    obtain ⟨l1, l2, l3, rfl⟩ := hO.slice
    have HO := Lib.hid hO; have HB := Lib.hid hB
    have hKr := H0.out.same hB
    clear hO hB
    by_cases hkn : k < n
    · have hkl : k < ks.length := by rw [HN.out]; exact hkn
      obtain ⟨b, o, tk, x1, x2, x3, y1, y2, y3, rfl, htk, hm, hx2, ⟨c0, c1, c2', c3, c4, c5, c6, c7, c8, c9⟩, hTk⟩ := hKr.kid k hkl
      obtain ⟨w2, hw2⟩ : ∃ w2, wr.alloc (.cells #[.int .i64 tk.fld.op, .slice x1 x2 x3, .int .i32 tk.fld.rune, .slice y1 y2 y3, .int .i64 tk.fld.at', .int .i64 tk.fld.cap, .string tk.fld.name, .int .i64 tk.fld.min, .int .i64 tk.fld.max, .bool tk.fld.lazy] 45) = w2 := ⟨_, rfl⟩
      have hb2 : Below wr.heap.size wr w2 := by rw [← hw2]; exact (Below.refl _ _).alloc (Nat.le_refl _) _
      have hE2 : Box10 w2 wr.heap.size (.int .i64 tk.fld.op) (.slice x1 x2 x3) (.int .i32 tk.fld.rune) (.slice y1 y2 y3) (.int .i64 tk.fld.at') (.int .i64 tk.fld.cap) (.string tk.fld.name) (.int .i64 tk.fld.min) (.int .i64 tk.fld.max) (.bool tk.fld.lazy) := by rw [← hw2]; exact box10_new wr _ _ _ _ _ _ _ _ _ _ _
      have hnx : (ks.take (k + 1)).filter p = (ks.take k).filter p ++ (if p tk = true then [tk] else []) := by rw [List.take_succ_eq_append_getElem hkl, List.filter_append, htk]; congr 1; cases hq : p tk <;> simp [List.filter, hq]
      have hll : ((ks.take k).filter p).length + [tk].length ≤ 1172812402961 := by
        have := List.length_filter_le p (ks.take k)
        rw [List.length_take] at this
        simp
        omega
      have hT2 := hTk.same (same_below hb2) fun _ h _ => h
      have HW2 := Lib.hid hw2; have HB2 := Lib.hid (HB.out.trans (hb2.mono HB.out.size))
      have HO2 := Lib.hid (HO.out.below hb2); have HT2 := Lib.hid hT2
      have HI := Lib.hid (HG.out tk hm _ w2 hT2.tre)
      have HNX := Lib.hid hnx; have HLL := Lib.hid hll
      obtain ⟨P, hP⟩ : ∃ P, p tk = P := ⟨_, rfl⟩
      rw [hP] at HI HNX
      have hE2' := hE2
      obtain ⟨e0, e1, e2, e3, e4, e5, e6, e7, e8, e9⟩ := hE2
      have HE2 := Lib.hid hE2'
      clear hKr htk hm hTk hx2 hb2 hw2 hnx hkl hll hT2 hP hE2'
      go_upto_region 5 with (fail)
      rw [HW2.out]
      clear c0 c1 c2' c3 c4 c5 c6 c7 c8 c9
      go_wp2_with fail
      refine HI.out.mono ?_
      rintro e w3 ⟨rfl, hb3⟩
      have HO3 := Lib.hid (HO2.out.below hb3); have HB3 := Lib.hid (HB2.out.trans (hb3.mono HB2.out.size)); have HT3 := Lib.hid (HT2.out.same (same_below hb3) fun _ h _ => h)
      have hE3 := HE2.out.below hb3
      clear hb3 e0 e1 e2 e3 e4 e5 e6 e7 e8 e9
      obtain ⟨e0, e1, e2, e3, e4, e5, e6, e7, e8, e9⟩ := hE3
      rcases P with _ | _
      · have HNY : Hid ((ks.take (k + 1)).filter p = (ks.take k).filter p) := Lib.hid (by rw [HNX.out]; simp)
        go_wp2_with fail
        go_roundw
        case rel => exact ⟨k + 1, by omega, by go_num, by rw [HNY.out]; exact HO3.out, HB3.out⟩
        case measure => simp [intOf]; omega
      · have HNY : Hid ((ks.take (k + 1)).filter p = (ks.take k).filter p ++ [tk]) := Lib.hid (by rw [HNX.out]; simp)
        have hkd : KdsE (fun b => Off (.slice l1 l2 l3) b ∧ AF b) (w3.alloc (.cells (treC tk.fld (.slice x1 x2 x3) (.slice y1 y2 y3)) 45)) [tk] (.slice (some ⟨w3.heap.size, 0, none⟩) 1 1) := kds_one HT3.out _ fun b hb _ => ⟨fun e => by
          have h1 := HO2.out.base b e
          have h2 := HA.out b hb
          omega, hb⟩
        unfold treC at hkd
        have hb4 : Below w3.heap.size w3 (w3.alloc (.cells #[.int .i64 tk.fld.op, .slice x1 x2 x3, .int .i32 tk.fld.rune, .slice y1 y2 y3, .int .i64 tk.fld.at', .int .i64 tk.fld.cap, .string tk.fld.name, .int .i64 tk.fld.min, .int .i64 tk.fld.max, .bool tk.fld.lazy] 45)) := (Below.refl _ _).alloc (Nat.le_refl _) _
        have HO4 := Lib.hid (HO3.out.below hb4); have HB4 := Lib.hid (HB3.out.trans (hb4.mono HB3.out.size))
        have HKD := Lib.hid hkd
        have HS4 := Lib.hid HB4.out.size
        clear hkd hb4
        go_wp2_with (at_builtin; refine append_trs rfl (.tmp 17) (.tmp 19) rfl AF w.heap.size _ ((ks.take k).filter p) rfl HO4.out (some ⟨w3.heap.size, 0, none⟩) 1 1 [tk] rfl HKD.out HLL.out HS4.out ?_; intro v4 w4 ho4 hg4 _; obtain ⟨q1, q2, q3, rfl⟩ := ho4.slice; have HO5 := Lib.hid ho4; have HB5 := Lib.hid (HB4.out.grown hg4 HS4.out (fun j hj => (by have := HO4.out.base j hj; omega))); clear ho4 hg4 e0 e1 e2 e3 e4 e5 e6 e7 e8 e9)
        go_roundw
        case rel => exact ⟨k + 1, by omega, by go_num, by rw [HNY.out]; exact HO5.out, HB5.out⟩
        case measure => simp [intOf]; omega
    · have hke : ks.take k = ks := List.take_of_length_le (by rw [HN.out]; omega)
      have hO := HO.out
      rw [hke] at hO
      have HOE := Lib.hid hO
      clear hKr hke hO
      go_wp2_with fail
      go_ret
      exact ⟨_, rfl, HOE.out.wide fun b h => .inl h, HB.out⟩
end Go.Proofs.Ythffdmncdoogpaa
/- Is nothing in a tree that reads a rune: the program's still. Written by gen10.py. -/
namespace Go.Proofs.Ythffdmncdoogpaa
open Go Go.RowKit

def SmStillOf (t : Tr) : Prop := ∀ (v : Value) (w : World), Tre w t v → Calls Try.prog 88 #[v] w (SaysB (sStill t) w)

set_option maxHeartbeats 4000000 in
set_option maxRecDepth 100000 in
theorem smStill_any (t : Tr) : SmStillOf t := by
  refine Tr.ind (P := SmStillOf) (fun t ih v w h => ?_) t
  have IH := Lib.hid ih
  obtain ⟨A, n, c, a2, s, c2, hn, hs, rfl, hnb, hsb, hK, hS, hF⟩ := h.opened
  obtain ⟨w1, hw1⟩ : ∃ w1, w.alloc (.cells #[.int .i64 t.fld.op, .slice A n c, .int .i32 t.fld.rune, .slice a2 s c2, .int .i64 t.fld.at', .int .i64 t.fld.cap, .string t.fld.name, .int .i64 t.fld.min, .int .i64 t.fld.max, .bool t.fld.lazy] 45) = w1 := ⟨_, rfl⟩
  have hb1 : Below w.heap.size w w1 := by rw [← hw1]; exact (Below.refl _ _).alloc (Nat.le_refl _) _
  have hE1 : Box10 w1 w.heap.size (.int .i64 t.fld.op) (.slice A n c) (.int .i32 t.fld.rune) (.slice a2 s c2) (.int .i64 t.fld.at') (.int .i64 t.fld.cap) (.string t.fld.name) (.int .i64 t.fld.min) (.int .i64 t.fld.max) (.bool t.fld.lazy) := by rw [← hw1]; exact box10_new w _ _ _ _ _ _ _ _ _ _ _
  have HB1 := Lib.hid hb1; have HE1 := Lib.hid hE1; have HW1 := Lib.hid hw1; have HK := Lib.hid (hK.below hb1); have HN := Lib.hid hn
  have hpq := sStill_iff t
  obtain ⟨P, hP⟩ : ∃ P, sStill t = P := ⟨_, rfl⟩
  rw [hP] at hpq ⊢
  obtain ⟨op, hop⟩ : ∃ op, t.fld.op = op := ⟨_, rfl⟩
  rw [hop] at hpq
  have HOP := Lib.hid hop
  have d0 := hE1.1
  rw [hop] at d0
  obtain ⟨-, d1, -⟩ := hE1
  clear h ih hb1 hw1 hK hS hn hs hF hP hop
  go_enter Try.func88, Try.ntmps88
  go_upto_region 1 with (fail)
  rw [HW1.out]
  by_cases h1 : op = 3 ∨ op = 4
  · have HP := Lib.hid hpq
    have H1 := Lib.hid h1
    clear hpq
    rcases h1 with rfl | rfl
    all_goals
      go_wp2_with fail
      go_ret
      exact ⟨false, rfl, ⟨fun h => (by cases h), fun h => absurd H1.out (HP.out.1 h).1⟩, HB1.out⟩
  have hpq2 : P ↔ ∀ k ∈ t.kids, sStill k := hpq.trans ⟨fun h => h.2, fun h => ⟨h1, h⟩⟩
  have HP := Lib.hid hpq2
  have n3 : (op == 3) = false := beq_eq_false_iff_ne.2 (fun h => h1 (.inl h))
  have n4 : (op == 4) = false := beq_eq_false_iff_ne.2 (fun h => h1 (.inr h))
  clear hpq hpq2 h1
  go_wp2_with fail
  go_loopw [16] (fun i wr => ∃ k : Nat, k ≤ n ∧ i = .int .i64 k ∧ Below w1.heap.size w1 wr ∧ ∀ q ∈ t.kids.take k, sStill q) (fun i _ => n - (intOf i).toNat)
  case atStart => exact ⟨0, Nat.zero_le _, rfl, Below.refl _ _, by simp⟩
  case round =>
    obtain ⟨k, hk, rfl, hB, hQ⟩ := hrel
    have HB := Lib.hid hB; have HQ := Lib.hid hQ
    have hKw := HK.out.below hB
    clear hB hQ
    by_cases hkn : k < n
    · have hkl : k < t.kids.length := by rw [HN.out]; exact hkn
      obtain ⟨b, o, tk, x1, x2, x3, y1, y2, y3, rfl, htk, hm, ⟨c0, c1, c2', c3, c4, c5, c6, c7, c8, c9⟩, hTk⟩ := hKw.kidS k hkl
      obtain ⟨w2, hw2⟩ : ∃ w2, wr.alloc (.cells #[.int .i64 tk.fld.op, .slice x1 x2 x3, .int .i32 tk.fld.rune, .slice y1 y2 y3, .int .i64 tk.fld.at', .int .i64 tk.fld.cap, .string tk.fld.name, .int .i64 tk.fld.min, .int .i64 tk.fld.max, .bool tk.fld.lazy] 45) = w2 := ⟨_, rfl⟩
      have hb2 : Below wr.heap.size wr w2 := by rw [← hw2]; exact (Below.refl _ _).alloc (Nat.le_refl _) _
      have hE2 : Box10 w2 wr.heap.size (.int .i64 tk.fld.op) (.slice x1 x2 x3) (.int .i32 tk.fld.rune) (.slice y1 y2 y3) (.int .i64 tk.fld.at') (.int .i64 tk.fld.cap) (.string tk.fld.name) (.int .i64 tk.fld.min) (.int .i64 tk.fld.max) (.bool tk.fld.lazy) := by rw [← hw2]; exact box10_new wr _ _ _ _ _ _ _ _ _ _ _
      have HI := Lib.hid (IH.out tk hm _ _ (hTk.below hb2)); have HW2 := Lib.hid hw2; have HB2 := Lib.hid (below_two HB.out hb2)
      have HM := Lib.hid hm
      have hnx : ∀ q ∈ t.kids.take (k + 1), q ∈ t.kids.take k ∨ q = tk := fun q hq => by
        rw [List.take_succ_eq_append_getElem hkl, htk] at hq
        simpa using hq
      have HNX := Lib.hid hnx
      obtain ⟨e0, e1, e2, e3, e4, e5, e6, e7, e8, e9⟩ := hE2
      clear hKw htk hm hTk hb2 hw2 hnx
      go_upto_region 6 with (fail)
      rw [HW2.out]
      clear c0 c1 c2' c3 c4 c5 c6 c7 c8 c9
      go_wp2_with fail
      refine HI.out.mono ?_
      rintro e w3 ⟨B, rfl, hq, hb3⟩
      have HB3 := Lib.hid (below_two HB2.out hb3)
      have HQB := Lib.hid hq
      clear hb3 hq e0 e1 e2 e3 e4 e5 e6 e7 e8 e9
      rcases B with _ | _
      · go_wp2_with fail
        go_ret
        refine ⟨false, rfl, ⟨fun h => (by cases h), fun h => ?_⟩, below_two HB1.out HB3.out⟩
        have := HQB.out.2 (HP.out.1 h tk HM.out)
        cases this
      · go_wp2_with fail
        go_roundw
        case rel => exact ⟨k + 1, by omega, by go_num, HB3.out, fun q hq => (HNX.out q hq).elim (HQ.out q) fun e => by rw [e]; exact HQB.out.1 (by simp)⟩
        case measure => simp [intOf]; omega
    · have hk2 : t.kids.take k = t.kids := List.take_of_length_le (by rw [HN.out]; omega)
      have hq := HQ.out
      rw [hk2] at hq
      have HQA := Lib.hid hq
      clear hk2 hKw hq
      go_wp2_with fail
      go_ret
      exact ⟨true, rfl, ⟨fun _ => HP.out.2 HQA.out, fun _ => rfl⟩, below_two HB1.out HB.out⟩
end Go.Proofs.Ythffdmncdoogpaa
/- A tree of one plain Kid: the program's looped. Written by gen10.py. -/
namespace Go.Proofs.Ythffdmncdoogpaa
open Go Go.RowKit

set_option maxHeartbeats 4000000 in
set_option maxRecDepth 100000 in
theorem smLooped_any (f : Fld) (x : Tr) (AF : Nat → Prop) (v : Value) (w : World) (hA : ∀ b, AF b → b < w.heap.size) (h0 : TreF AF w (.mk f [x]) v) : Calls Try.prog 67 #[v] w (TurnedPost AF (loopedT f x) w) := by
  obtain ⟨t, ht⟩ : ∃ t, Tr.mk f [x] = t := ⟨_, rfl⟩
  have hk1 : t.kids.length = 1 := by rw [← ht]; rfl
  have hkx : ∀ (i : Nat) (h : i < t.kids.length), t.kids[i] = x := fun i h => by
    subst ht
    have : i = 0 := by simpa [Tr.kids] using h
    subst this
    rfl
  have hfl : t.fld = f := by rw [← ht]; rfl
  rw [ht] at h0
  have hl7 : f.op = 7 → sStill x → loopedT f x = emptyT := fun e h => by unfold loopedT; rw [if_pos e, if_pos h]
  have hl7' : f.op = 7 → ¬ sStill x → loopedT f x = t := fun e h => by unfold loopedT; rw [if_pos e, if_neg h, ht]
  have hl8 : f.op = 8 → sStill x → loopedT f x = x := fun e h => by unfold loopedT; rw [if_neg (by omega), if_pos e, if_pos h]
  have hl8' : f.op = 8 → ¬ sStill x → loopedT f x = t := fun e h => by unfold loopedT; rw [if_neg (by omega), if_pos e, if_neg h, ht]
  have hl9 : f.op = 9 → (x.fld.op = 1 ∨ x.fld.op = 2) → loopedT f x = emptyT := fun e h => by unfold loopedT; rw [if_neg (by omega), if_neg (by omega), if_pos e, if_pos h]
  have hl9' : f.op = 9 → ¬ (x.fld.op = 1 ∨ x.fld.op = 2) → loopedT f x = t := fun e h => by unfold loopedT; rw [if_neg (by omega), if_neg (by omega), if_pos e, if_neg h, ht]
  have hl0 : f.op ≠ 7 → f.op ≠ 8 → f.op ≠ 9 → loopedT f x = t := fun e7 e8 e9 => by unfold loopedT; rw [if_neg (by omega), if_neg (by omega), if_neg (by omega), ht]
  obtain ⟨LT, hLT⟩ : ∃ LT, loopedT f x = LT := ⟨_, rfl⟩
  rw [hLT] at hl7 hl7' hl8 hl8' hl9 hl9' hl0 ⊢
  have HL7 := Lib.hid hl7; have HL7' := Lib.hid hl7'; have HL8 := Lib.hid hl8; have HL8' := Lib.hid hl8'; have HL9 := Lib.hid hl9; have HL9' := Lib.hid hl9'; have HL0 := Lib.hid hl0
  clear hl7 hl7' hl8 hl8' hl9 hl9' hl0 hLT
  have HKX := Lib.hid hkx; have HFL := Lib.hid hfl
  clear hkx ht hfl
  have H0 := Lib.hid h0
  have h := h0.tre
  obtain ⟨A, n, c, a2, s, c2, hn, hs, rfl, hnb, hsb, hK, hS, hF⟩ := h.opened
  obtain ⟨w1, hw1⟩ : ∃ w1, (w.alloc (.cells #[.int .i64 t.fld.op, .slice A n c, .int .i32 t.fld.rune, .slice a2 s c2, .int .i64 t.fld.at', .int .i64 t.fld.cap, .string t.fld.name, .int .i64 t.fld.min, .int .i64 t.fld.max, .bool t.fld.lazy] 45)).alloc (.cells #[.int .i64 0, .slice none 0 0, .int .i32 0, .slice none 0 0, .int .i64 0, .int .i64 0, .string ⟨#[]⟩, .int .i64 0, .int .i64 0, .bool false] 45) = w1 := ⟨_, rfl⟩
  have hb1 : Below w.heap.size w w1 := by rw [← hw1]; exact ((Below.refl _ w).alloc (Nat.le_refl _) _).alloc (by simp) _
  have hE1 : Whole w1 w.heap.size 45 #[.int .i64 t.fld.op, .slice A n c, .int .i32 t.fld.rune, .slice a2 s c2, .int .i64 t.fld.at', .int .i64 t.fld.cap, .string t.fld.name, .int .i64 t.fld.min, .int .i64 t.fld.max, .bool t.fld.lazy] := by rw [← hw1]; exact Whole.alloc (heap_alloc_new w _) _
  have hR1 : Whole w1 (w.heap.size + 1) 45 #[.int .i64 0, .slice none 0 0, .int .i32 0, .slice none 0 0, .int .i64 0, .int .i64 0, .string ⟨#[]⟩, .int .i64 0, .int .i64 0, .bool false] := by
    rw [← hw1]
    have := heap_alloc_new (w.alloc (.cells #[.int .i64 t.fld.op, .slice A n c, .int .i32 t.fld.rune, .slice a2 s c2, .int .i64 t.fld.at', .int .i64 t.fld.cap, .string t.fld.name, .int .i64 t.fld.min, .int .i64 t.fld.max, .bool t.fld.lazy] 45)) (.cells #[.int .i64 0, .slice none 0 0, .int .i32 0, .slice none 0 0, .int .i64 0, .int .i64 0, .string ⟨#[]⟩, .int .i64 0, .int .i64 0, .bool false] 45)
    simpa [Whole] using this
  have hs1 : w1.heap.size = w.heap.size + 2 := by rw [← hw1]; simp
  have hT1 : TreF AF w1 t _ := TreF.same H0.out (same_below hb1) (fun _ h _ => h)
  have HB1 := Lib.hid hb1; have HE1 := Lib.hid hE1; have HR1 := Lib.hid hR1; have HW1 := Lib.hid hw1; have HS1 := Lib.hid hs1; have HT1 := Lib.hid hT1; have HN := Lib.hid hn; have HA := Lib.hid hA; have HF := Lib.hid hF
  obtain rfl : n = 1 := by rw [← hn]; exact hk1
  clear h h0 hb1 hE1 hR1 hw1 hs1 hT1 hK hS hn hs hF hA
  go_enter Try.func67, Try.ntmps67
  go_upto_region 1 with (fail)
  rw [HW1.out]

  obtain ⟨b, o, tk, x1, x2, x3, y1, y2, y3, rfl, htk, hm, hx2, ⟨c0, c1, c2', c3, c4, c5, c6, c7, c8, c9⟩, hTk⟩ := (smKdsE (show KdsF AF w1 t.kids (.slice A 1 c) from by
    have h := HT1.out
    rw [treF_iff] at h
    obtain ⟨kv, sv, e, -, -, hk⟩ := h
    obtain ⟨rfl, rfl⟩ := treC_inj (f := t.fld) (k1 := .slice A 1 c) (s1 := .slice a2 s c2) e
    exact hk)).kid 0 (by omega)
  obtain rfl : tk = x := by rw [← htk]; exact HKX.out 0 (by omega)
  simp only [Nat.zero_mul, Nat.add_zero] at c0 c1 c2' c3 c4 c5 c6 c7 c8 c9
  obtain ⟨w2, hw2⟩ : ∃ w2, w1.alloc (.cells #[.int .i64 tk.fld.op, .slice x1 x2 x3, .int .i32 tk.fld.rune, .slice y1 y2 y3, .int .i64 tk.fld.at', .int .i64 tk.fld.cap, .string tk.fld.name, .int .i64 tk.fld.min, .int .i64 tk.fld.max, .bool tk.fld.lazy] 45) = w2 := ⟨_, rfl⟩
  have hb2 : Below w1.heap.size w1 w2 := by rw [← hw2]; exact (Below.refl _ _).alloc (Nat.le_refl _) _
  have hX2 : Whole w2 w1.heap.size 45 #[.int .i64 tk.fld.op, .slice x1 x2 x3, .int .i32 tk.fld.rune, .slice y1 y2 y3, .int .i64 tk.fld.at', .int .i64 tk.fld.cap, .string tk.fld.name, .int .i64 tk.fld.min, .int .i64 tk.fld.max, .bool tk.fld.lazy] := by rw [← hw2]; exact heap_alloc_new w1 _
  have hs2 : w2.heap.size = w1.heap.size + 1 := by rw [← hw2]; simp
  have HE2 := Lib.hid (HE1.out.below hb2 HE1.out.lt); have HR2 := Lib.hid (HR1.out.below hb2 HR1.out.lt); have HB2 := Lib.hid (HB1.out.trans (hb2.mono HB1.out.size))
  have HTK := Lib.hid (hTk.same (same_below hb2) (fun _ h _ => h)); have HT2 := Lib.hid (HT1.out.same (same_below hb2) (fun _ h _ => h))
  have HS2 := Lib.hid hs2; have HW2 := Lib.hid hw2; have HX2 := Lib.hid hX2
  obtain ⟨b0, b1, b2, b3, b4, b5, b6, b7, b8, b9⟩ := HE1.out.ten
  clear hb2 hX2 hs2 hw2 hTk htk hm hx2
  go_upto_region 2 with (fail)
  rw [HW2.out]
  clear b0 b1 b2 b3 b4 b5 b6 b7 b8 b9 c0 c1 c2' c3 c4 c5 c6 c7 c8 c9
  have HQ := Lib.hid (show ∀ W, Below w2.heap.size w2 W → Calls Try.prog 88 #[.agg #[.int .i64 tk.fld.op, .slice x1 x2 x3, .int .i32 tk.fld.rune, .slice y1 y2 y3, .int .i64 tk.fld.at', .int .i64 tk.fld.cap, .string tk.fld.name, .int .i64 tk.fld.min, .int .i64 tk.fld.max, .bool tk.fld.lazy]] W (SaysB (sStill tk) W) from fun W hW => smStill_any tk _ W (HTK.out.tre.below hW))
  -- what is handed back, three ways
  have HME : Hid (∀ W, Below w2.heap.size w2 W → TurnedPost AF emptyT w (.returned (.agg #[.int .i64 2, .slice none 0 0, .int .i32 0, .slice none 0 0, .int .i64 0, .int .i64 0, .string ⟨#[]⟩, .int .i64 0, .int .i64 0, .bool false])) (set10 W (w.heap.size + 1) (.int .i64 2) (.slice none 0 0) (.int .i32 0) (.slice none 0 0) (.int .i64 0) (.int .i64 0) (.string ⟨#[]⟩) (.int .i64 0) (.int .i64 0) (.bool false))) := Lib.hid fun W hW =>
    out_tree (emptyT_tre _ _ 2 I64.two) (HB2.out.trans (hW.mono HB2.out.size)) (by omega)
  have HMX : Hid (∀ W, Below w2.heap.size w2 W → TurnedPost AF tk w (.returned (.agg #[.int .i64 tk.fld.op, .slice x1 x2 x3, .int .i32 tk.fld.rune, .slice y1 y2 y3, .int .i64 tk.fld.at', .int .i64 tk.fld.cap, .string tk.fld.name, .int .i64 tk.fld.min, .int .i64 tk.fld.max, .bool tk.fld.lazy])) (set10 W (w.heap.size + 1) (.int .i64 tk.fld.op) (.slice x1 x2 x3) (.int .i32 tk.fld.rune) (.slice y1 y2 y3) (.int .i64 tk.fld.at') (.int .i64 tk.fld.cap) (.string tk.fld.name) (.int .i64 tk.fld.min) (.int .i64 tk.fld.max) (.bool tk.fld.lazy))) := Lib.hid fun W hW =>
    out_tree (HTK.out.same (same_below hW) fun b hb _ => ⟨.inl hb, by have := HA.out b hb; omega⟩) (HB2.out.trans (hW.mono HB2.out.size)) (by omega)
  have HRW := Lib.hid (show ∀ W, Below w2.heap.size w2 W → Whole W (w.heap.size + 1) 45 #[.int .i64 0, .slice none 0 0, .int .i32 0, .slice none 0 0, .int .i64 0, .int .i64 0, .string ⟨#[]⟩, .int .i64 0, .int .i64 0, .bool false] from fun W hW => HR2.out.below hW HR2.out.lt)
  have HEW := Lib.hid (show ∀ W, Below w2.heap.size w2 W → Whole W w.heap.size 45 #[.int .i64 t.fld.op, .slice (some ⟨b, o, none⟩) 1 c, .int .i32 t.fld.rune, .slice a2 s c2, .int .i64 t.fld.at', .int .i64 t.fld.cap, .string t.fld.name, .int .i64 t.fld.min, .int .i64 t.fld.max, .bool t.fld.lazy] from fun W hW => HE2.out.below hW HE2.out.lt)
  have HXW := Lib.hid (show ∀ W, Below w2.heap.size w2 W → Whole W w1.heap.size 45 #[.int .i64 tk.fld.op, .slice x1 x2 x3, .int .i32 tk.fld.rune, .slice y1 y2 y3, .int .i64 tk.fld.at', .int .i64 tk.fld.cap, .string tk.fld.name, .int .i64 tk.fld.min, .int .i64 tk.fld.max, .bool tk.fld.lazy] from fun W hW => HX2.out.below hW HX2.out.lt)
  obtain ⟨k0, k1, k2, k3, k4, k5, k6, k7, k8, k9⟩ := HX2.out.ten
  obtain ⟨op, hop⟩ : ∃ op, t.fld.op = op := ⟨_, rfl⟩
  obtain ⟨ko, hko⟩ : ∃ ko, tk.fld.op = ko := ⟨_, rfl⟩
  have HOP := Lib.hid (show f.op = op by rw [← HFL.out]; exact hop); have HKO := Lib.hid hko
  have HMT : Hid (∀ W, Below w2.heap.size w2 W → TurnedPost AF t w (.returned (.agg #[.int .i64 op, .slice (some ⟨b, o, none⟩) 1 c, .int .i32 t.fld.rune, .slice a2 s c2, .int .i64 t.fld.at', .int .i64 t.fld.cap, .string t.fld.name, .int .i64 t.fld.min, .int .i64 t.fld.max, .bool t.fld.lazy])) (set10 W (w.heap.size + 1) (.int .i64 op) (.slice (some ⟨b, o, none⟩) 1 c) (.int .i32 t.fld.rune) (.slice a2 s c2) (.int .i64 t.fld.at') (.int .i64 t.fld.cap) (.string t.fld.name) (.int .i64 t.fld.min) (.int .i64 t.fld.max) (.bool t.fld.lazy))) := Lib.hid fun W hW => by
    rw [← hop]
    exact out_tree (HT2.out.same (same_below hW) fun b hb _ => ⟨.inl hb, by have := HA.out b hb; omega⟩) (HB2.out.trans (hW.mono HB2.out.size)) (by omega)
  obtain ⟨e0, e1, e2, e3, e4, e5, e6, e7, e8, e9⟩ := HE2.out.ten
  rw [hop] at e0
  clear hop hko
  by_cases h7 : op = 7
  · subst h7
    go_wp2_with fail
    refine (HQ.out w2 (Below.refl _ _)).mono ?_
    rintro e w3 ⟨B, rfl, hq, hb3⟩
    have HB3 := Lib.hid hb3; have HQB := Lib.hid hq
    clear hb3 hq
    rcases B with _ | _
    · have HNS := Lib.hid (show ¬ sStill tk from fun h => by have := HQB.out.2 h; cases this)
      clear HQB
      clear e0 e1 e2 e3 e4 e5 e6 e7 e8 e9 k0 k1 k2 k3 k4 k5 k6 k7 k8 k9
      obtain ⟨e0, e1, e2, e3, e4, e5, e6, e7, e8, e9⟩ := (HEW.out _ HB3.out).ten; rw [show t.fld.op = 7 from (congrArg Fld.op HFL.out).trans HOP.out] at e0
      obtain ⟨r0, r1, r2, r3, r4, r5, r6, r7, r8, r9⟩ := (HRW.out _ HB3.out).ten
      obtain ⟨z0, z1, z2, z3, z4, z5, z6, z7, z8, z9⟩ := whole_free (HRW.out _ HB3.out)
      go_wp2_with fail
      refine tree_ret Try.results67 (w.heap.size + 1) rfl (HRW.out _ HB3.out) ?_
      rw [HL7'.out HOP.out HNS.out]
      exact HMT.out _ HB3.out
    · have HNS := Lib.hid (show sStill tk from HQB.out.1 (by simp))
      clear HQB
      clear e0 e1 e2 e3 e4 e5 e6 e7 e8 e9 k0 k1 k2 k3 k4 k5 k6 k7 k8 k9
      obtain ⟨k0, k1, k2, k3, k4, k5, k6, k7, k8, k9⟩ := (HXW.out _ HB3.out).ten
      obtain ⟨r0, r1, r2, r3, r4, r5, r6, r7, r8, r9⟩ := (HRW.out _ HB3.out).ten
      obtain ⟨z0, z1, z2, z3, z4, z5, z6, z7, z8, z9⟩ := whole_free (HRW.out _ HB3.out)
      go_wp2_with fail
      refine tree_ret Try.results67 (w.heap.size + 1) rfl (HRW.out _ HB3.out) ?_
      rw [HL7.out HOP.out HNS.out]
      exact HME.out _ HB3.out
  by_cases h8 : op = 8
  · subst h8
    go_wp2_with fail
    refine (HQ.out w2 (Below.refl _ _)).mono ?_
    rintro e w3 ⟨B, rfl, hq, hb3⟩
    have HB3 := Lib.hid hb3; have HQB := Lib.hid hq
    clear hb3 hq
    rcases B with _ | _
    · have HNS := Lib.hid (show ¬ sStill tk from fun h => by have := HQB.out.2 h; cases this)
      clear HQB
      clear e0 e1 e2 e3 e4 e5 e6 e7 e8 e9 k0 k1 k2 k3 k4 k5 k6 k7 k8 k9
      obtain ⟨e0, e1, e2, e3, e4, e5, e6, e7, e8, e9⟩ := (HEW.out _ HB3.out).ten; rw [show t.fld.op = 8 from (congrArg Fld.op HFL.out).trans HOP.out] at e0
      obtain ⟨r0, r1, r2, r3, r4, r5, r6, r7, r8, r9⟩ := (HRW.out _ HB3.out).ten
      obtain ⟨z0, z1, z2, z3, z4, z5, z6, z7, z8, z9⟩ := whole_free (HRW.out _ HB3.out)
      go_wp2_with fail
      refine tree_ret Try.results67 (w.heap.size + 1) rfl (HRW.out _ HB3.out) ?_
      rw [HL8'.out HOP.out HNS.out]
      exact HMT.out _ HB3.out
    · have HNS := Lib.hid (show sStill tk from HQB.out.1 (by simp))
      clear HQB
      clear e0 e1 e2 e3 e4 e5 e6 e7 e8 e9 k0 k1 k2 k3 k4 k5 k6 k7 k8 k9
      obtain ⟨k0, k1, k2, k3, k4, k5, k6, k7, k8, k9⟩ := (HXW.out _ HB3.out).ten
      obtain ⟨r0, r1, r2, r3, r4, r5, r6, r7, r8, r9⟩ := (HRW.out _ HB3.out).ten
      obtain ⟨z0, z1, z2, z3, z4, z5, z6, z7, z8, z9⟩ := whole_free (HRW.out _ HB3.out)
      go_wp2_with fail
      refine tree_ret Try.results67 (w.heap.size + 1) rfl (HRW.out _ HB3.out) ?_
      rw [HL8.out HOP.out HNS.out]
      exact HMX.out _ HB3.out
  by_cases h9 : op = 9
  · subst h9
    clear h7 h8
    rw [HKO.out] at k0
    have HB3 := Lib.hid (Below.refl w2.heap.size w2)
    by_cases hx1 : ko = 1
    · subst hx1
      obtain ⟨r0, r1, r2, r3, r4, r5, r6, r7, r8, r9⟩ := (HRW.out _ HB3.out).ten
      obtain ⟨z0, z1, z2, z3, z4, z5, z6, z7, z8, z9⟩ := whole_free (HRW.out _ HB3.out)
      go_wp2_with fail
      refine tree_ret Try.results67 (w.heap.size + 1) rfl (HRW.out _ HB3.out) ?_
      rw [HL9.out HOP.out (.inl HKO.out)]
      exact HME.out _ HB3.out
    by_cases hx2 : ko = 2
    · subst hx2
      clear hx1
      obtain ⟨r0, r1, r2, r3, r4, r5, r6, r7, r8, r9⟩ := (HRW.out _ HB3.out).ten
      obtain ⟨z0, z1, z2, z3, z4, z5, z6, z7, z8, z9⟩ := whole_free (HRW.out _ HB3.out)
      go_wp2_with fail
      refine tree_ret Try.results67 (w.heap.size + 1) rfl (HRW.out _ HB3.out) ?_
      rw [HL9.out HOP.out (.inr HKO.out)]
      exact HME.out _ HB3.out
    · have q1 : (ko == 1) = false := beq_eq_false_iff_ne.2 hx1
      have q2 : (ko == 2) = false := beq_eq_false_iff_ne.2 hx2
      have HNS := Lib.hid (show ¬ (tk.fld.op = 1 ∨ tk.fld.op = 2) by rw [HKO.out]; omega)
      clear hx1 hx2
      obtain ⟨r0, r1, r2, r3, r4, r5, r6, r7, r8, r9⟩ := (HRW.out _ HB3.out).ten
      obtain ⟨z0, z1, z2, z3, z4, z5, z6, z7, z8, z9⟩ := whole_free (HRW.out _ HB3.out)
      go_wp2_with fail
      refine tree_ret Try.results67 (w.heap.size + 1) rfl (HRW.out _ HB3.out) ?_
      rw [HL9'.out HOP.out HNS.out]
      exact HMT.out _ HB3.out
  · have q7 : (op == 7) = false := beq_eq_false_iff_ne.2 h7
    have q8 : (op == 8) = false := beq_eq_false_iff_ne.2 h8
    have q9 : (op == 9) = false := beq_eq_false_iff_ne.2 h9
    have HB3 := Lib.hid (Below.refl w2.heap.size w2)
    have HNS := Lib.hid (show LT = t from HL0.out (by rw [HOP.out]; exact h7) (by rw [HOP.out]; exact h8) (by rw [HOP.out]; exact h9))
    clear h7 h8 h9
    obtain ⟨r0, r1, r2, r3, r4, r5, r6, r7, r8, r9⟩ := (HRW.out _ HB3.out).ten
    obtain ⟨z0, z1, z2, z3, z4, z5, z6, z7, z8, z9⟩ := whole_free (HRW.out _ HB3.out)
    go_wp2_with fail
    refine tree_ret Try.results67 (w.heap.size + 1) rfl (HRW.out _ HB3.out) ?_
    rw [HNS.out]
    exact HMT.out _ HB3.out
end Go.Proofs.Ythffdmncdoogpaa
/- Trees, one behind the other: the program's joined. Written by gen10.py. -/
namespace Go.Proofs.Ythffdmncdoogpaa
open Go Go.RowKit

theorem splice_len (x : Tr) (l : List Tr) (k : Nat) : (spliced (l.take k)).length ≤ (spliced l).length := by
  conv => rhs; rw [← List.take_append_drop k l]
  unfold spliced
  rw [List.flatMap_append, List.length_append]
  omega
theorem splice_next (l : List Tr) (k : Nat) (h : k < l.length) : spliced (l.take (k + 1)) = spliced (l.take k) ++ spliceT l[k] := by
  unfold spliced
  rw [List.take_succ_eq_append_getElem h, List.flatMap_append]
  simp
theorem first_at (l : List Tr) (k : Nat) (h : k < l.length) (h0 : ∀ q ∈ l.take k, q.fld.op ≠ 1) (h1 : l[k].fld.op = 1) : joinedT l = l[k] := by
  have : firstNone l = some l[k] := by
    have hd : l.drop k = l[k] :: l.drop (k + 1) := List.drop_eq_getElem_cons h
    have g : ∀ (a : List Tr) (x : Tr) (b : List Tr), (∀ q ∈ a, q.fld.op ≠ 1) → x.fld.op = 1 → firstNone (a ++ x :: b) = some x := fun a => by
      induction a with
      | nil => intro x b _ hx; rw [List.nil_append, firstNone, if_pos hx]
      | cons y a ih => intro x b ha hx; rw [List.cons_append, firstNone, if_neg (ha y (by simp))]; exact ih x b (fun q hq => ha q (by simp [hq])) hx
    have e := g (l.take k) l[k] (l.drop (k + 1)) h0 h1
    rw [← hd, List.take_append_drop] at e
    exact e
  unfold joinedT
  rw [this]
  rfl
theorem joined_none (l : List Tr) (h0 : ∀ q ∈ l, q.fld.op ≠ 1) : joinedT l = catT (spliced l) := by
  unfold joinedT
  rw [firstNone_none.2 h0]
  rfl

set_option maxHeartbeats 4000000 in
set_option maxRecDepth 100000 in
theorem smJoined_any (l : List Tr) (hb : (spliced l).length ≤ 1172812402961) (AF : Nat → Prop) (v : Value) (w : World) (hA : ∀ b, AF b → b < w.heap.size) (h0 : KdsE AF w l v) : Calls Try.prog 69 #[v] w (TurnedPost AF (joinedT l) w) := by
  have H0 := Lib.hid h0; have HA := Lib.hid hA
  obtain ⟨A, c, rfl, h1, h2, h3, h4, h5⟩ := h0
  obtain ⟨n, hn⟩ : ∃ n, l.length = n := ⟨_, rfl⟩
  rw [hn] at h1 h3 H0 ⊢
  obtain ⟨JT, hJT⟩ : ∃ JT, joinedT l = JT := ⟨_, rfl⟩
  rw [hJT]
  have HJT := Lib.hid hJT
  obtain ⟨w1, hw1⟩ : ∃ w1, w.alloc (.cells #[.int .i64 0, .slice none 0 0, .int .i32 0, .slice none 0 0, .int .i64 0, .int .i64 0, .string ⟨#[]⟩, .int .i64 0, .int .i64 0, .bool false] 45) = w1 := ⟨_, rfl⟩
  have hb1 : Below w.heap.size w w1 := by rw [← hw1]; exact (Below.refl _ w).alloc (Nat.le_refl _) _
  have hR1 : Whole w1 w.heap.size 45 #[.int .i64 0, .slice none 0 0, .int .i32 0, .slice none 0 0, .int .i64 0, .int .i64 0, .string ⟨#[]⟩, .int .i64 0, .int .i64 0, .bool false] := by rw [← hw1]; exact heap_alloc_new w _
  have hs1 : w1.heap.size = w.heap.size + 1 := by rw [← hw1]; simp
  have HN := Lib.hid hn; have HW1 := Lib.hid hw1; have HB1 := Lib.hid hb1; have HR1 := Lib.hid hR1; have HS1 := Lib.hid hs1; have HLB := Lib.hid hb
  have HK1 := Lib.hid (H0.out.same hb1)
  clear h5 hn hJT hw1 hb1 hR1 hs1 hb hA
  go_enter Try.func69, Try.ntmps69
  go_upto_region 1 with (fail)
  rw [HW1.out]
  go_wp2_with fail
  go_loopw [3, 8] (fun kv i wr => ∃ k : Nat, k ≤ n ∧ i = .int .i64 k ∧ OwnT AF wr w1.heap.size kv (spliced (l.take k)) ∧ Below w1.heap.size w1 wr ∧ ∀ q ∈ l.take k, q.fld.op ≠ 1) (fun _ i _ => n - (intOf i).toNat)
  case atStart => exact ⟨0, Nat.zero_le _, rfl, by simpa [spliced] using ownT_none AF w1 w1.heap.size, Below.refl _ _, by simp⟩
  case round =>
    obtain ⟨k, hk, rfl, hO, hB, hQ⟩ := hrel
    obtain ⟨l1, l2, l3, rfl⟩ := hO.slice
    have hszr := hB.size
    have HO := Lib.hid hO; have HB := Lib.hid hB; have HQ := Lib.hid hQ
    have hKr := HK1.out.same hB
    clear hO hB hQ
    by_cases hkn : k < n
    · have hkl : k < l.length := by rw [HN.out]; exact hkn
      obtain ⟨b, o, tk, x1, x2, x3, y1, y2, y3, rfl, htk, hm, hx2, ⟨c0, c1, c2', c3, c4, c5, c6, c7, c8, c9⟩, hTk⟩ := hKr.kid k hkl
      obtain ⟨w2, hw2⟩ : ∃ w2, wr.alloc (.cells #[.int .i64 tk.fld.op, .slice x1 x2 x3, .int .i32 tk.fld.rune, .slice y1 y2 y3, .int .i64 tk.fld.at', .int .i64 tk.fld.cap, .string tk.fld.name, .int .i64 tk.fld.min, .int .i64 tk.fld.max, .bool tk.fld.lazy] 45) = w2 := ⟨_, rfl⟩
      have hb2 : Below wr.heap.size wr w2 := by rw [← hw2]; exact (Below.refl _ _).alloc (Nat.le_refl _) _
      have hE2 : Box10 w2 wr.heap.size (.int .i64 tk.fld.op) (.slice x1 x2 x3) (.int .i32 tk.fld.rune) (.slice y1 y2 y3) (.int .i64 tk.fld.at') (.int .i64 tk.fld.cap) (.string tk.fld.name) (.int .i64 tk.fld.min) (.int .i64 tk.fld.max) (.bool tk.fld.lazy) := by rw [← hw2]; exact box10_new wr _ _ _ _ _ _ _ _ _ _ _
      have HW2 := Lib.hid hw2; have HB2 := Lib.hid (below_two HB.out hb2)
      have HT2 := Lib.hid (hTk.same (same_below hb2) fun _ h _ => h)
      have HO2 := Lib.hid (HO.out.below hb2)
      have hs2 : w1.heap.size ≤ w2.heap.size := HB2.out.size
      have hnx := splice_next l k hkl
      have hlen := splice_len tk l (k + 1)
      rw [hnx, List.length_append, htk] at hlen
      rw [htk] at hnx
      have hqn : tk.fld.op ≠ 1 → ∀ q ∈ l.take (k + 1), q.fld.op ≠ 1 := fun h q hq => by
        rw [List.take_succ_eq_append_getElem hkl, htk] at hq
        rcases List.mem_append.1 hq with hq | hq
        · exact HQ.out q hq
        · obtain rfl : q = tk := by simpa using hq
          exact h
      have hfa : tk.fld.op = 1 → JT = tk := fun h => by rw [← HJT.out, first_at l k hkl HQ.out (by rw [htk]; exact h), htk]
      have HNX := Lib.hid hnx; have HLEN := Lib.hid (Nat.le_trans hlen HLB.out); have HQN := Lib.hid hqn; have HFA := Lib.hid hfa; have HX2 := Lib.hid hx2
      obtain ⟨e0, e1, e2, e3, e4, e5, e6, e7, e8, e9⟩ := hE2
      clear hKr htk hm hTk hx2 hb2 hw2 hnx hlen hqn hfa hkl
      go_upto_region 5 with (fail)
      rw [HW2.out]
      clear c0 c1 c2' c3 c4 c5 c6 c7 c8 c9
      obtain ⟨op, hop⟩ : ∃ op, tk.fld.op = op := ⟨_, rfl⟩
      have HOP := Lib.hid hop
      by_cases q1 : op = 1
      · subst q1
        rw [hop] at e0
        have HRW := Lib.hid (show Whole w2 w.heap.size 45 #[.int .i64 0, .slice none 0 0, .int .i32 0, .slice none 0 0, .int .i64 0, .int .i64 0, .string ⟨#[]⟩, .int .i64 0, .int .i64 0, .bool false] from HR1.out.below HB2.out HR1.out.lt)
        have HM : Hid (TurnedPost AF tk w (.returned (.agg #[.int .i64 1, .slice x1 x2 x3, .int .i32 tk.fld.rune, .slice y1 y2 y3, .int .i64 tk.fld.at', .int .i64 tk.fld.cap, .string tk.fld.name, .int .i64 tk.fld.min, .int .i64 tk.fld.max, .bool tk.fld.lazy])) (set10 w2 w.heap.size (.int .i64 1) (.slice x1 x2 x3) (.int .i32 tk.fld.rune) (.slice y1 y2 y3) (.int .i64 tk.fld.at') (.int .i64 tk.fld.cap) (.string tk.fld.name) (.int .i64 tk.fld.min) (.int .i64 tk.fld.max) (.bool tk.fld.lazy))) := Lib.hid (by
          rw [← hop]
          exact out_tree (HT2.out.same (fun _ _ _ => rfl) fun b hb _ => ⟨.inl hb, by have := HA.out b hb; omega⟩) (HB1.out.trans (HB2.out.mono HB1.out.size)) (Nat.le_refl _))
        clear hop
        obtain ⟨r0, r1, r2, r3, r4, r5, r6, r7, r8, r9⟩ := (HRW.out).ten
        obtain ⟨z0, z1, z2, z3, z4, z5, z6, z7, z8, z9⟩ := whole_free (HRW.out)
        go_wp2_with fail
        refine tree_ret Try.results69 w.heap.size rfl (HRW.out) ?_
        rw [HFA.out HOP.out]
        exact HM.out
      rw [hop] at e0
      clear hop
      by_cases q2 : op = 2
      · subst q2
        have HSP := Lib.hid (show spliceT tk = [] by unfold spliceT; rw [if_pos HOP.out])
        clear q1
        go_wp2_with fail
        go_roundw
        case rel => exact ⟨k + 1, by omega, by go_num, by rw [HNX.out, HSP.out, List.append_nil]; exact HO2.out, HB2.out, HQN.out (by rw [HOP.out]; omega)⟩
        case measure => simp [intOf]; omega
      have n1 : (op == 1) = false := beq_eq_false_iff_ne.2 q1
      have n2 : (op == 2) = false := beq_eq_false_iff_ne.2 q2
      by_cases q11 : op = 11
      · subst q11
        have hsp : spliceT tk = tk.kids := by unfold spliceT; rw [if_neg (by rw [HOP.out]; omega), if_pos HOP.out]
        have hkd : KdsE (fun b => Off (.slice l1 l2 l3) b ∧ AF b) w2 tk.kids (.slice x1 x2 x3) := by
          have h := HT2.out
          rw [treF_iff] at h
          obtain ⟨kv, sv, e, -, -, hk⟩ := h
          obtain ⟨rfl, rfl⟩ := treC_inj (f := tk.fld) (k1 := .slice x1 x2 x3) (s1 := .slice y1 y2 y3) e
          exact (smKdsE hk).mono fun b hb _ => ⟨fun e => by have := HO2.out.base b e; have := HA.out b hb; have := HS1.out; omega, hb⟩
        have HSP := Lib.hid hsp; have HKD := Lib.hid hkd
        have hle := HLEN.out
        rw [hsp] at hle
        clear hsp hkd q1 q2
        go_wp2_with (at_builtin; refine append_trs rfl (.tmp 25) (.tmp 27) rfl AF w1.heap.size _ (spliced (l.take k)) rfl HO2.out x1 x2 x3 tk.kids rfl HKD.out hle hs2 ?_; intro v4 w4 ho4 hg4 _; obtain ⟨m1, m2, m3, rfl⟩ := ho4.slice; have HO4 := Lib.hid ho4; have HB4 := Lib.hid (HB2.out.grown hg4 hs2 (fun j hj => (by have := HO2.out.base j hj; omega))); clear ho4 hg4 e0 e1 e2 e3 e4 e5 e6 e7 e8 e9)
        go_roundw
        case rel => exact ⟨k + 1, by omega, by go_num, by rw [HNX.out, HSP.out]; exact HO4.out, HB4.out, HQN.out (by rw [HOP.out]; omega)⟩
        case measure => simp [intOf]; omega
      · have n11 : (op == 11) = false := beq_eq_false_iff_ne.2 q11
        have hsp : spliceT tk = [tk] := by unfold spliceT; rw [if_neg (by rw [HOP.out]; exact q2), if_neg (by rw [HOP.out]; exact q11)]
        have hkd : KdsE (fun b => Off (.slice l1 l2 l3) b ∧ AF b) (w2.alloc (.cells (treC tk.fld (.slice x1 x2 x3) (.slice y1 y2 y3)) 45)) [tk] (.slice (some ⟨w2.heap.size, 0, none⟩) 1 1) := kds_one HT2.out _ fun b hb _ => ⟨fun e => by have := HO2.out.base b e; have := HA.out b hb; have := HS1.out; omega, hb⟩
        unfold treC at hkd
        rw [HOP.out] at hkd
        have hb3 : Below w2.heap.size w2 (w2.alloc (.cells #[.int .i64 op, .slice x1 x2 x3, .int .i32 tk.fld.rune, .slice y1 y2 y3, .int .i64 tk.fld.at', .int .i64 tk.fld.cap, .string tk.fld.name, .int .i64 tk.fld.min, .int .i64 tk.fld.max, .bool tk.fld.lazy] 45)) := (Below.refl _ _).alloc (Nat.le_refl _) _
        have HO3 := Lib.hid (HO2.out.below hb3); have HB3 := Lib.hid (below_two HB2.out hb3)
        have hs3 : w1.heap.size ≤ (w2.alloc (.cells #[.int .i64 op, .slice x1 x2 x3, .int .i32 tk.fld.rune, .slice y1 y2 y3, .int .i64 tk.fld.at', .int .i64 tk.fld.cap, .string tk.fld.name, .int .i64 tk.fld.min, .int .i64 tk.fld.max, .bool tk.fld.lazy] 45)).heap.size := Nat.le_trans hs2 hb3.size
        have HSP := Lib.hid hsp; have HKD := Lib.hid hkd; have HS3 := Lib.hid hs3
        have hle := HLEN.out
        rw [hsp] at hle
        have HLE := Lib.hid hle
        have HNE := Lib.hid q1
        clear hsp hkd q1 q2 q11 hb3 hs3 hle
        go_wp2_with (at_builtin; refine append_trs rfl (.tmp 14) (.tmp 16) rfl AF w1.heap.size _ (spliced (l.take k)) rfl HO3.out (some ⟨w2.heap.size, 0, none⟩) 1 1 [tk] rfl HKD.out HLE.out HS3.out ?_; intro v4 w4 ho4 hg4 _; obtain ⟨m1, m2, m3, rfl⟩ := ho4.slice; have HO4 := Lib.hid ho4; have HB4 := Lib.hid (HB3.out.grown hg4 HS3.out (fun j hj => (by have := HO3.out.base j hj; omega))); clear ho4 hg4 e0 e1 e2 e3 e4 e5 e6 e7 e8 e9)
        go_roundw
        case rel => exact ⟨k + 1, by omega, by go_num, by rw [HNX.out, HSP.out]; exact HO4.out, HB4.out, HQN.out (by rw [HOP.out]; exact HNE.out)⟩
        case measure => simp [intOf]; omega
    · have hke : l.take k = l := List.take_of_length_le (by rw [HN.out]; omega)
      have hO := HO.out; have hQ := HQ.out
      rw [hke] at hO hQ
      have hj : JT = catT (spliced l) := by rw [← HJT.out]; exact joined_none l hQ
      obtain ⟨O, hOo⟩ : ∃ O, spliced l = O := ⟨_, rfl⟩
      rw [hOo] at hO hj
      have hlO : l2 = O.length := hO.len
      have hb' := HLB.out
      rw [hOo] at hb'
      have hBr : Below w.heap.size w wr := HB1.out.trans (HB.out.mono HB1.out.size)
      have hRr : Whole wr w.heap.size 45 #[.int .i64 0, .slice none 0 0, .int .i32 0, .slice none 0 0, .int .i64 0, .int .i64 0, .string ⟨#[]⟩, .int .i64 0, .int .i64 0, .bool false] := HR1.out.below HB.out HR1.out.lt
      have HRR := Lib.hid hRr; have HBR := Lib.hid hBr; have HJ := Lib.hid hj; have HOO := Lib.hid hO; have HLO := Lib.hid hlO
      have z0 : ¬ (k : Int) < (n : Int) := by omega
      clear hKr hke hO hQ hj hOo hlO hBr hRr HO
      by_cases e0 : l2 = 0
      · subst e0
        have HM : Hid (TurnedPost AF emptyT w (.returned (.agg #[.int .i64 2, .slice none 0 0, .int .i32 0, .slice none 0 0, .int .i64 0, .int .i64 0, .string ⟨#[]⟩, .int .i64 0, .int .i64 0, .bool false])) (set10 wr w.heap.size (.int .i64 2) (.slice none 0 0) (.int .i32 0) (.slice none 0 0) (.int .i64 0) (.int .i64 0) (.string ⟨#[]⟩) (.int .i64 0) (.int .i64 0) (.bool false))) := Lib.hid (out_tree (emptyT_tre _ _ 2 I64.two) HBR.out (Nat.le_refl _))
        have HOE : Hid (JT = emptyT) := Lib.hid (by rw [HJ.out, List.eq_nil_of_length_eq_zero HLO.out.symm]; rfl)
        obtain ⟨r0, r1, r2, r3, r4, r5, r6, r7, r8, r9⟩ := (HRR.out).ten
        obtain ⟨z0, z1, z2, z3, z4, z5, z6, z7, z8, z9⟩ := whole_free (HRR.out)
        go_wp2_with fail
        refine tree_ret Try.results69 w.heap.size rfl (HRR.out) ?_
        rw [HOE.out]
        exact HM.out
      by_cases e1 : l2 = 1
      · subst e1
        obtain ⟨x, hx⟩ := List.length_eq_one_iff.1 HLO.out.symm
        obtain ⟨g, rfl⟩ : ∃ g, l1 = some ⟨g, 0, none⟩ := by
          obtain ⟨L, hl, ho, ht⟩ := HOO.out
          rcases own_slice10 ho with ⟨h, -⟩ | ⟨g', c', h, -⟩
          · cases h
          · injection h with h _ _
            exact ⟨g', h⟩
        obtain ⟨tk, u1, u2, u3, u4, u5, u6, htk, h10, hTk⟩ := HOO.out.at' 0 (by rw [← HLO.out]; omega)
        have hxe : tk = x := by rw [← htk]; simp [hx]
        have HM : Hid (TurnedPost AF tk w (.returned (.agg #[.int .i64 tk.fld.op, .slice u1 u2 u3, .int .i32 tk.fld.rune, .slice u4 u5 u6, .int .i64 tk.fld.at', .int .i64 tk.fld.cap, .string tk.fld.name, .int .i64 tk.fld.min, .int .i64 tk.fld.max, .bool tk.fld.lazy])) (set10 wr w.heap.size (.int .i64 tk.fld.op) (.slice u1 u2 u3) (.int .i32 tk.fld.rune) (.slice u4 u5 u6) (.int .i64 tk.fld.at') (.int .i64 tk.fld.cap) (.string tk.fld.name) (.int .i64 tk.fld.min) (.int .i64 tk.fld.max) (.bool tk.fld.lazy))) := Lib.hid (out_tree (hTk.same (fun _ _ _ => rfl) fun b hb _ => ⟨.inl hb.2, by have := HA.out b hb.2; omega⟩) HBR.out (Nat.le_refl _))
        have HOE : Hid (JT = tk) := Lib.hid (by rw [HJ.out, hx, hxe]; rfl)
        obtain ⟨d0, d1, d2, d3, d4, d5, d6, d7, d8, d9⟩ := h10
        simp only [Nat.zero_mul] at d0 d1 d2 d3 d4 d5 d6 d7 d8 d9
        clear htk hTk hxe hx e0
        obtain ⟨r0, r1, r2, r3, r4, r5, r6, r7, r8, r9⟩ := (HRR.out).ten
        obtain ⟨z0, z1, z2, z3, z4, z5, z6, z7, z8, z9⟩ := whole_free (HRR.out)
        go_wp2_with fail
        refine tree_ret Try.results69 w.heap.size rfl (HRR.out) ?_
        rw [HOE.out]
        exact HM.out
      · have HM : Hid (TurnedPost AF (.mk (opF 11 false) O) w (.returned (.agg #[.int .i64 11, .slice l1 l2 l3, .int .i32 0, .slice none 0 0, .int .i64 0, .int .i64 0, .string ⟨#[]⟩, .int .i64 0, .int .i64 0, .bool false])) (set10 wr w.heap.size (.int .i64 11) (.slice l1 l2 l3) (.int .i32 0) (.slice none 0 0) (.int .i64 0) (.int .i64 0) (.string ⟨#[]⟩) (.int .i64 0) (.int .i64 0) (.bool false))) := Lib.hid (out_tree (opF_tre ⟨by omega, by omega⟩ (HOO.out.kdsF hb' (fun b hb => ⟨.inr (by have := HS1.out; omega), by have := HS1.out; omega⟩) (fun b hb => ⟨.inl hb, by have := HA.out b hb; omega⟩))) HBR.out (Nat.le_refl _))
        have HOE : Hid (JT = .mk (opF 11 false) O) := Lib.hid (by
          rw [HJ.out]
          match O, HLO.out with
          | [], h => exact absurd h e0
          | [x], h => exact absurd h e1
          | x :: y :: r, _ => rfl)
        have m0 : ((l2 : Int) == 0) = false := beq_eq_false_iff_ne.2 (by omega)
        have m1 : ((l2 : Int) == 1) = false := beq_eq_false_iff_ne.2 (by omega)
        clear e0 e1
        obtain ⟨r0, r1, r2, r3, r4, r5, r6, r7, r8, r9⟩ := (HRR.out).ten
        obtain ⟨z0, z1, z2, z3, z4, z5, z6, z7, z8, z9⟩ := whole_free (HRR.out)
        go_wp2_with fail
        refine tree_ret Try.results69 w.heap.size rfl (HRR.out) ?_
        rw [HOE.out]
        exact HM.out
end Go.Proofs.Ythffdmncdoogpaa
