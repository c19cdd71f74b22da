/- The names of a right tree's groups: the document's Caps. -/
import Derived.Test.YthapafaeakgfpaaTrStill
import Derived.Laws.MakeOwn
set_option linter.unusedVariables false
namespace Go.Proofs.Ythapafaeakgfpaa
open Go Go.RowKit

/-- The values of strings. -/
def litsS (l : List ByteArray) : List Value := l.map Value.string
theorem litsS_append (a b : List ByteArray) : litsS (a ++ b) = litsS a ++ litsS b := by simp [litsS]
theorem litsS_length (l : List ByteArray) : (litsS l).length = l.length := by simp [litsS]
theorem litsS_one (l : List ByteArray) : ∀ u ∈ litsS l, u.oneCell' = true := fun u hu => by
  obtain ⟨x, _, rfl⟩ := List.mem_map.1 hu
  rfl
theorem info_str : (Try.prog.info? 9).map (fun i => (i.zero, i.size, i.bytes)) = some (some (.string ⟨#[]⟩), 1, 16) := by kernel_rfl
theorem own_slice1s {w : World} {base : Nat} {e : TypeId} {n : Nat} {v : Value} {xs : List Value} (h : w.ownsRow base e 1 v n xs) : (v = .slice none 0 0 ∧ n = 0) ∨ ∃ g c, v = .slice (some ⟨g, 0, none⟩) n c ∧ n ≤ c ∧ c ≤ maxLen ∧ base ≤ g := by
  rcases h.2 with h | ⟨q, cap, cur, rfl, hb, _, hn, hm, _⟩
  · exact .inl h
  · exact .inr ⟨_, _, rfl, hn, hm, hb⟩
/-- The value v owns a row of the strings l, among the blocks from B on. -/
def OwnS (w : World) (B : Nat) (v : Value) (l : List ByteArray) : Prop := w.ownsRow B 9 1 v l.length (litsS l)
theorem OwnS.below {w w' : World} {B : Nat} {v : Value} {l : List ByteArray} (h : OwnS w B v l) (hb : Below w.heap.size w w') : OwnS w' B v l :=
  World.ownsRow.kept h (row := none) ⟨hb.os, hb.tape, hb.output, hb.size, fun k hk _ => hb.block k hk⟩ (by cases v.ownBlock <;> simp)
theorem OwnS.mono {w : World} {B B' : Nat} {v : Value} {l : List ByteArray} (h : OwnS w B v l) (hb : B' ≤ B) : OwnS w B' v l := Go.Joins.ownsRow_le h hb
/-- The slice value v holds the strings l. -/
def Srs (w : World) (v : Value) (l : List ByteArray) : Prop := ∃ a c, v = .slice a l.length c ∧ l.length ≤ c ∧ c ≤ maxLen ∧ (l = [] ∨ ∃ b, a = some ⟨b, 0, none⟩ ∧ ∀ i (h : i < l.length), w.cell? ⟨b, i, none⟩ = some (.string l[i]))
theorem Srs.below {w w' : World} {v : Value} {l : List ByteArray} (h : Srs w v l) (hb : Below w.heap.size w w') : Srs w' v l := by
  obtain ⟨a, c, h1, h2, h3, h4⟩ := h
  refine ⟨a, c, h1, h2, h3, h4.imp id ?_⟩
  rintro ⟨b, e, hc⟩
  exact ⟨b, e, fun i hi => (hb.cell (World.block_lt_of_cell? w _ (hc i hi))).trans (hc i hi)⟩
theorem OwnS.srs {w : World} {B : Nat} {v : Value} {l : List ByteArray} (h : OwnS w B v l) : Srs w v l := by
  have h' := h
  rcases own_slice1s h with ⟨rfl, hn⟩ | ⟨g, c, rfl, h1, h2, -⟩
  · exact ⟨none, 0, by rw [hn], by omega, Nat.zero_le _, .inl (List.eq_nil_of_length_eq_zero hn)⟩
  · refine ⟨_, c, rfl, h1, h2, .inr ⟨g, rfl, fun i hi => ?_⟩⟩
    have := World.ownsRow.cells h' (g := g) rfl i (.string l[i]) (by simp [litsS, hi])
    rw [show (⟨g, 0, none⟩ : Addr).add i = ⟨g, 0 + i, none⟩ by unfold Addr.add; split <;> simp_all, Nat.zero_add] at this
    exact this
/-- The names of a right tree's groups. -/
def capsNames (t : Tr) : List ByteArray := ⟨#[]⟩ :: (groupsT t).map fun g => g.fld.name
/-- A fresh list of the names, if the tree is right; else nothing. -/
def CapsPost (t : Tr) (w : World) (e : Ending) (w' : World) : Prop := Below w.heap.size w w' ∧ ((¬ RightT t ∧ e = .returned (.slice none 0 0)) ∨ (RightT t ∧ ∃ v, e = .returned v ∧ OwnS w' w.heap.size v (capsNames t)))

set_option maxHeartbeats 1600000 in
set_option maxRecDepth 100000 in
theorem rcaps_any (t : Tr) (hp : partsR t ≤ 1000000) (v : Value) (w : World) (h : Tre w t v) : Calls Try.prog 15 #[v] w (CapsPost t w) := by
  have H0 := Lib.hid h
  obtain ⟨A, n, c, a2, s, c2, hn, hs, rfl, hnb, hsb, hK, hS, hF⟩ := h.opened
  obtain ⟨w1, hw1⟩ : ∃ w1, w.alloc (.cells #[.int .i64 t.fld.op, .slice A n c, .int .i32 t.fld.rune, .slice a2 s c2, .int .i64 t.fld.at', .int .i64 t.fld.cap, .string t.fld.name, .int .i64 t.fld.min, .int .i64 t.fld.max, .bool t.fld.lazy] 27) = w1 := ⟨_, rfl⟩
  have hb1 : Below w.heap.size w w1 := by rw [← hw1]; exact (Below.refl _ _).alloc (Nat.le_refl _) _
  have hE1 : Box10 w1 w.heap.size (.int .i64 t.fld.op) (.slice A n c) (.int .i32 t.fld.rune) (.slice a2 s c2) (.int .i64 t.fld.at') (.int .i64 t.fld.cap) (.string t.fld.name) (.int .i64 t.fld.min) (.int .i64 t.fld.max) (.bool t.fld.lazy) := by rw [← hw1]; exact box10_new w _ _ _ _ _ _ _ _ _ _ _
  have HB1 := Lib.hid hb1; have HE1 := Lib.hid hE1; have HW1 := Lib.hid hw1; have HK := Lib.hid (hK.below hb1); have HS := Lib.hid (hS.below hb1); have HN := Lib.hid hn; have HSL := Lib.hid hs; have HF := Lib.hid hF
  clear hb1 hE1 hw1 hK hS hn hs hF
  have HD := Lib.hid (right_any t hp _ w1 (H0.out.below HB1.out))
  have hgl := groupsT_len t
  clear h
  obtain ⟨b0, b1, b2, b3, b4, b5, b6, b7, b8, b9⟩ := HE1.out
  obtain ⟨R, hR⟩ : ∃ R, RightT t = R := ⟨_, rfl⟩
  have HRR := Lib.hid hR
  rw [hR] at HD
  clear hR
  go_enter Try.func15, Try.ntmps15
  go_wp2_with fail
  rw [HW1.out]
  go_wp2_with fail
  refine HD.out.mono ?_
  rintro e w2 ⟨B, rfl, hq, hb2⟩
  have HB2 := Lib.hid (below_two HB1.out hb2)
  have HE2 := Lib.hid (HE1.out.below hb2)
  have HNB : Hid (B = false → ¬ R) := Lib.hid fun e g => by rw [hq.2 g] at e; cases e
  have HYB : Hid (B = true → R) := Lib.hid hq.1
  clear hb2 hq b0 b1 b2 b3 b4 b5 b6 b7 b8 b9 HD
  obtain ⟨b0, b1, b2, b3, b4, b5, b6, b7, b8, b9⟩ := HE2.out
  cases B
  · have NB := Lib.hid (HNB.out rfl)
    clear HNB HYB
    go_wp2_with fail
    go_ret
    exact ⟨HB2.out, .inl ⟨by rw [HRR.out]; exact NB.out, rfl⟩⟩
  have YB := Lib.hid (HYB.out rfl)
  clear HNB HYB
  obtain ⟨w3, hw3⟩ : ∃ w3, w2.alloc (.cells #[.string ⟨#[]⟩] 9) = w3 := ⟨_, rfl⟩
  have hb3 : Below w2.heap.size w2 w3 := by rw [← hw3]; exact (Below.refl _ _).alloc (Nat.le_refl _) _
  have ho3 : OwnS w3 w2.heap.size (.slice (some ⟨w2.heap.size, 0, none⟩) 1 1) [⟨#[]⟩] := by rw [← hw3]; exact World.ownsRow_lit w2 #[.string ⟨#[]⟩] 1 (Nat.le_refl _) (by unfold maxLen; omega) rfl
  have HB3 := Lib.hid (below_two HB2.out hb3); have HW3 := Lib.hid hw3; have HO3 := Lib.hid ho3; have HE3 := Lib.hid (HE2.out.below hb3); have HB23 := Lib.hid hb3
  have hs3 := hb3.size
  have HD := Lib.hid (groups_any t hp (fun b => b < w.heap.size) _ w3 (fun b h => by have := HB3.out.size; omega) (TreF.same H0.out.foot (same_below HB3.out) (fun _ h _ => h)))
  have hs2 := HB2.out.size; have hs23 : w2.heap.size < w3.heap.size := by rw [← HW3.out]; simp
  have d := HE3.out
  clear hb3 ho3 hw3
  obtain ⟨d0, d1, d2, d3, d4, d5, d6, d7, d8, d9⟩ := d
  go_upto_region 5 with (fail)
  rw [HW3.out]
  clear b0 b1 b2 b3 b4 b5 b6 b7 b8 b9
  go_wp2_with fail
  refine HD.out.mono ?_
  rintro e w4 ⟨v4, rfl, ho4, hb4⟩
  have HK4 := Lib.hid (ho4.kdsF (G := Off (.slice (some ⟨w2.heap.size, 0, none⟩) 1 1)) (by omega) (fun b h e => by have : w2.heap.size = b := Option.some.inj e; omega) (fun b h e => by have : w2.heap.size = b := Option.some.inj e; omega))
  have HB4 := Lib.hid (below_two HB3.out hb4); have HO4 := Lib.hid (HO3.out.below hb4); have HB24 := Lib.hid (below_two HB23.out hb4)
  have hs4 := hb4.size
  clear ho4 hb4 HD d0 d1 d2 d3 d4 d5 d6 d7 d8 d9
  obtain ⟨G, hG⟩ : ∃ G, groupsT t = G := ⟨_, rfl⟩
  have HGG := Lib.hid hG
  rw [hG] at HK4 hgl
  clear hG
  obtain ⟨A4, c4, rfl, -⟩ := HK4.out
  go_wp2_with fail
  go_loopw [4, 6] (fun vv i wr => ∃ m : Nat, m ≤ G.length ∧ i = .int .i64 m ∧ OwnS wr w2.heap.size vv (⟨#[]⟩ :: (G.take m).map fun g => g.fld.name) ∧ Below w2.heap.size w2 wr ∧ KdsF (Off vv) wr G (.slice A4 G.length c4)) (fun _ i _ => G.length - (intOf i).toNat)
  case atStart => exact ⟨0, Nat.zero_le _, rfl, by simpa using HO4.out, HB24.out, HK4.out⟩
  case round =>
    obtain ⟨m, hm, rfl, hO, hB, hK⟩ := hrel
    have HO := Lib.hid hO; have HB := Lib.hid hB; have HKR := Lib.hid hK
    have hszr := hB.size
    clear hO hB hK
    by_cases hlt : m < G.length
    · obtain ⟨b, o, tm, kv, sv, hA4, htm, hmm, ⟨-, -, -, -, -, -, c6, -, -, -⟩, -⟩ := HKR.out.kds.kid m hlt
      subst hA4
      have hmz : (m : Int) < (G.length : Int) := by omega
      have hsp : (⟨#[]⟩ :: (G.take (m + 1)).map fun g => g.fld.name : List ByteArray) = (⟨#[]⟩ :: (G.take m).map fun g => g.fld.name) ++ [tm.fld.name] := by rw [List.take_succ_eq_append_getElem hlt, htm]; simp
      have HSP := Lib.hid hsp
      obtain ⟨nm, hnm⟩ : ∃ nm, tm.fld.name = nm := ⟨_, rfl⟩
      rw [hnm] at c6 HSP
      obtain ⟨l, hl⟩ : ∃ l : List ByteArray, (⟨#[]⟩ :: (G.take m).map fun g => g.fld.name) = l := ⟨_, rfl⟩
      have hll : l.length ≤ G.length + 1 := by rw [← hl]; simp; omega
      rw [hl] at HO HSP
      clear htm hmm hsp hnm hl
      obtain ⟨i0, hi, hz0, hz1, hz2⟩ := info_parts info_str
      have hoa : OwnS (wr.alloc (.cells #[.string nm] 9)) w2.heap.size _ l := HO.out.below ((Below.refl _ wr).alloc (Nat.le_refl _) _)
      have HOA := Lib.hid hoa
      clear hoa
      go_wp2_with (at_builtin; refine wpList_append_own_at _ rfl (.tmp 20) (.tmp 26) 30 rfl w2.heap.size 9 i0 (.string ⟨#[]⟩) 1 16 Try.underlying30 hi hz0 hz1 hz2 rfl (by decide) _ l.length (litsS l) rfl HOA.out ⟨wr.heap.size, 0, none⟩ 1 1 [.string nm] rfl rfl (cell_one_new _ _ _) (by simp [Value.oneCell']) (by unfold maxLen; omega) (by omega) (by simp; omega) ?_; intro v5 w5 ho5 hg5 _ hat; have HO5 : Hid (OwnS w5 w2.heap.size v5 (l ++ [nm])) := Lib.hid (by unfold OwnS; rw [litsS_append, List.length_append]; exact ho5); have HB5 := Lib.hid ((HB.out.alloc hszr _).grown hg5 (by simp; omega) (fun j hj => (World.ownsRow.lt HOA.out j hj).1)); have HK5 := Lib.hid (KdsF.same (KdsF.same HKR.out (same_below ((Below.refl _ wr).alloc (Nat.le_refl _) _)) (fun _ h _ => h)) (off_next hg5 hat).1 (off_next hg5 hat).2); clear ho5 hg5 hat)
      go_roundw
      case rel => exact ⟨m + 1, by omega, by go_num, by rw [HSP.out]; exact HO5.out, HB5.out, HK5.out⟩
      case measure => simp [intOf]; omega
    · have e : G.take m = G := List.take_of_length_le (by omega)
      have ho := HO.out
      rw [e] at ho
      have HO5 := Lib.hid ho
      clear ho e
      go_wp2_with fail
      go_ret
      exact ⟨HB2.out.trans (HB.out.mono HB2.out.size), .inr ⟨by rw [HRR.out]; exact YB.out, _, rfl, by unfold capsNames; rw [HGG.out]; exact HO5.out.mono HB2.out.size⟩⟩
end Go.Proofs.Ythapafaeakgfpaa
