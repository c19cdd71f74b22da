/- Texts merged by program: PRev. No condition. -/
import Derived.Test.YtnemacejaiifnaaQ42
import Derived.Deep.DeepCutAuto
import Derived.Deep.RegionHeld3
import Derived.Deep.RegionLaw
import Derived.Deep.RegionWith
set_option linter.unusedVariables false
/- The library's Reverse of a row of trees of the call's own. -/
namespace Go.Proofs.Ytnemacejaiifnaa
open Go Go.RowKit

def set10o (w : World) (g o : Nat) (x0 x1 x2 x3 x4 x5 x6 x7 x8 x9 : Value) : World := (((((((((w.setCell ⟨g, o, none⟩ x0).setCell ⟨g, o + 1, none⟩ x1).setCell ⟨g, o + 2, none⟩ x2).setCell ⟨g, o + 3, none⟩ x3).setCell ⟨g, o + 4, none⟩ x4).setCell ⟨g, o + 5, none⟩ x5).setCell ⟨g, o + 6, none⟩ x6).setCell ⟨g, o + 7, none⟩ x7).setCell ⟨g, o + 8, none⟩ x8).setCell ⟨g, o + 9, none⟩ x9
theorem set10o_eq (w : World) (g o : Nat) (x0 x1 x2 x3 x4 x5 x6 x7 x8 x9 : Value) : set10o w g o x0 x1 x2 x3 x4 x5 x6 x7 x8 x9 = setsW w g o (#[x0, x1, x2, x3, x4, x5, x6, x7, x8, x9] : Array Value).toList := rfl
def RevPost (F : Nat → Prop) (B : Nat) (v : Value) (T : List Tr) (w : World) (e : Ending) (w' : World) : Prop := (∃ x, e = .returned x) ∧ OwnT F w' B v T.reverse ∧ w.grownBy w' v.ownBlock

set_option maxHeartbeats 4000000 in
set_option maxRecDepth 100000 in
theorem prev_any (F : Nat → Prop) (B : Nat) (v : Value) (T : List Tr) (w : World) (h : OwnT F w B v T) (hlen : T.length ≤ 1172812402961) : Calls Try.prog 90 #[v] w (RevPost F B v T w) := by
  have H0 := Lib.hid h
  have hsl : (v = .slice none 0 0 ∧ T = []) ∨ ∃ g cap, v = .slice (some ⟨g, 0, none⟩) T.length cap := by
    obtain ⟨L, hl, ho, ht⟩ := h
    rcases own_slice10 ho with ⟨h, h0⟩ | ⟨g', c', h, -⟩
    · exact .inl ⟨h, List.eq_nil_of_length_eq_zero h0⟩
    · exact .inr ⟨g', c', h⟩
  rcases hsl with ⟨rfl, rfl⟩ | ⟨g, cap, rfl⟩
  · clear h
    go_enter Try.func90, Try.ntmps90
    go_wp2_with fail
    go_loopw [2, 3] (fun i j wr => i = .int .i64 0 ∧ j = .int .i64 (-1) ∧ wr = w) (fun _ _ _ => 0)
    case atStart => exact ⟨rfl, rfl, rfl⟩
    case round =>
      obtain ⟨rfl, rfl, rfl⟩ := hrel
      go_wp2_with fail
      go_end0
      exact ⟨⟨_, rfl⟩, by simpa using H0.out, World.grownBy.refl _ _⟩
  · obtain ⟨n, hn⟩ : ∃ n, T.length = n := ⟨_, rfl⟩
    rw [hn] at H0 hlen ⊢
    have HN := Lib.hid hn
    clear h hn
    go_enter Try.func90, Try.ntmps90
    have hwn : IntKind.i64.wrap ((n : Int) - 1) = (n : Int) - 1 := by
      unfold IntKind.wrap
      simp [IntKind.bits, IntKind.signed]
      omega
    go_wp2_with fail
    go_loopw [2, 3] (fun i j wr => ∃ (m : Nat) (z : Int) (T' : List Tr), i = .int .i64 m ∧ j = .int .i64 z ∧ z = (n : Int) - 1 - m ∧ 2 * m ≤ n ∧ OwnT F wr B (.slice (some ⟨g, 0, none⟩) n cap) T' ∧ (∀ p : Nat, p < n → T'[p]? = if p < m ∨ n ≤ p + m then T[n - 1 - p]? else T[p]?) ∧ w.grownBy wr (some g)) (fun i _ _ => n - (intOf i).toNat)
    case atStart => exact ⟨0, (n : Int) - 1, T, rfl, rfl, by omega, by omega, H0.out, fun p hp => by rw [if_neg (by omega)], World.grownBy.refl _ _⟩
    case round =>
      obtain ⟨m, z, T', rfl, rfl, hz, hm, hO, hP, hG⟩ := hrel
      have HO := Lib.hid hO; have HPP := Lib.hid hP; have HG := Lib.hid hG
      have HTL := Lib.hid hO.len
      clear hO hP hG
      by_cases hmz : (m : Int) < z
      · obtain ⟨jj, rfl⟩ : ∃ jj : Nat, z = jj := ⟨z.toNat, by omega⟩
        have hmn : m < n := by omega
        have hjn : jj < n := by omega
        have hmT : m < T'.length := by have := HTL.out; omega
        have hjT : jj < T'.length := by have := HTL.out; omega
        obtain ⟨tx, x1, x2, x3, x4, x5, x6, htx, ⟨c0, c1, c2, c3, c4, c5, c6, c7, c8, c9⟩, hTx⟩ := HO.out.at' m hmT
        obtain ⟨ty, y1, y2, y3, y4, y5, y6, hty, ⟨d0, d1, d2, d3, d4, d5, d6, d7, d8, d9⟩, hTy⟩ := HO.out.at' jj hjT
        have fr := fun j => HO.out.free j
        have hm1 : (m : Int) < (n : Int) := by omega
        have hj1 : (jj : Int) < (n : Int) := by omega
        have HZ := Lib.hid hz
        clear hz
        go_upto_region 3 with (fail)
        obtain ⟨W5, hW5⟩ : ∃ W5, (set10o (set10o wr g (m * 10) (.int .i64 ty.fld.op) (.slice y1 y2 y3) (.int .i32 ty.fld.rune) (.slice y4 y5 y6) (.int .i64 ty.fld.at') (.int .i64 ty.fld.cap) (.string ty.fld.name) (.int .i64 ty.fld.min) (.int .i64 ty.fld.max) (.bool ty.fld.lazy)) g (jj * 10) (.int .i64 tx.fld.op) (.slice x1 x2 x3) (.int .i32 tx.fld.rune) (.slice x4 x5 x6) (.int .i64 tx.fld.at') (.int .i64 tx.fld.cap) (.string tx.fld.name) (.int .i64 tx.fld.min) (.int .i64 tx.fld.max) (.bool tx.fld.lazy)).drew = W5 := ⟨_, rfl⟩
        have hO5 : OwnT F W5 B (.slice (some ⟨g, 0, none⟩) n cap) ((T'.set m ty).set jj tx) := by
          rw [← hW5, set10o_eq, set10o_eq]
          have h1 := ownT_set HO.out m hmT hTy
          have h2 := ownT_set h1 jj (by rw [List.length_set]; exact hjT) (hTx.same (fun b hb _ => setsW_block _ wr _ b (fun e => hb.1 (by rw [e]; rfl))) (fun b h _ => h))
          exact h2.below (below_draws _ 1)
        have hG5 : wr.grownBy W5 (some g) := by
          rw [← hW5, set10o_eq, set10o_eq]
          have h1 := setsW_grown (g := g) (#[.int .i64 ty.fld.op, .slice y1 y2 y3, .int .i32 ty.fld.rune, .slice y4 y5 y6, .int .i64 ty.fld.at', .int .i64 ty.fld.cap, .string ty.fld.name, .int .i64 ty.fld.min, .int .i64 ty.fld.max, .bool ty.fld.lazy] : Array Value).toList wr (m * 10)
          have h2 := setsW_grown (g := g) (#[.int .i64 tx.fld.op, .slice x1 x2 x3, .int .i32 tx.fld.rune, .slice x4 x5 x6, .int .i64 tx.fld.at', .int .i64 tx.fld.cap, .string tx.fld.name, .int .i64 tx.fld.min, .int .i64 tx.fld.max, .bool tx.fld.lazy] : Array Value).toList (setsW wr g (m * 10) (#[.int .i64 ty.fld.op, .slice y1 y2 y3, .int .i32 ty.fld.rune, .slice y4 y5 y6, .int .i64 ty.fld.at', .int .i64 ty.fld.cap, .string ty.fld.name, .int .i64 ty.fld.min, .int .i64 ty.fld.max, .bool ty.fld.lazy] : Array Value).toList) (jj * 10)
          have h3 := below_draws (setsW (setsW wr g (m * 10) (#[.int .i64 ty.fld.op, .slice y1 y2 y3, .int .i32 ty.fld.rune, .slice y4 y5 y6, .int .i64 ty.fld.at', .int .i64 ty.fld.cap, .string ty.fld.name, .int .i64 ty.fld.min, .int .i64 ty.fld.max, .bool ty.fld.lazy] : Array Value).toList) g (jj * 10) (#[.int .i64 tx.fld.op, .slice x1 x2 x3, .int .i32 tx.fld.rune, .slice x4 x5 x6, .int .i64 tx.fld.at', .int .i64 tx.fld.cap, .string tx.fld.name, .int .i64 tx.fld.min, .int .i64 tx.fld.max, .bool tx.fld.lazy] : Array Value).toList) 1
          exact ⟨(h3.os.trans h2.os).trans h1.os, (h3.tape.trans h2.tape).trans h1.tape, (h3.output.trans h2.output).trans h1.output, Nat.le_trans (Nat.le_trans h1.size h2.size) h3.size, fun k hk hn => (h3.block k (Nat.lt_of_lt_of_le hk (Nat.le_trans h1.size h2.size))).trans ((h2.block k (Nat.lt_of_lt_of_le hk h1.size) hn).trans (h1.block k hk hn))⟩
        have hP5 : ∀ p : Nat, p < n → ((T'.set m ty).set jj tx)[p]? = if p < m + 1 ∨ n ≤ p + (m + 1) then T[n - 1 - p]? else T[p]? := by
          intro p hp
          have hz := HZ.out
          have hTl := HTL.out
          by_cases hpj : p = jj
          · subst hpj
            rw [List.getElem?_set_self (by rw [List.length_set]; exact hjT), if_pos (by omega), show n - 1 - p = m by omega, ← htx, ← List.getElem?_eq_getElem hmT, HPP.out m hmn, if_neg (by omega)]
          · rw [List.getElem?_set_ne (fun e => hpj e.symm)]
            by_cases hpm : p = m
            · subst hpm
              rw [List.getElem?_set_self hmT, if_pos (by omega), show n - 1 - p = jj by omega, ← hty, ← List.getElem?_eq_getElem hjT, HPP.out jj hjn, if_neg (by omega)]
            · rw [List.getElem?_set_ne (fun e => hpm e.symm), HPP.out p hp]
              by_cases hc : p < m ∨ n ≤ p + m
              · rw [if_pos hc, if_pos (by omega)]
              · rw [if_neg hc, if_neg (by omega)]
        have HO5 := Lib.hid hO5; have HG5 := Lib.hid (show w.grownBy W5 (some g) from ⟨hG5.os.trans HG.out.os, hG5.tape.trans HG.out.tape, hG5.output.trans HG.out.output, Nat.le_trans HG.out.size hG5.size, fun k hk hn => (hG5.block k (Nat.lt_of_lt_of_le hk HG.out.size) hn).trans (HG.out.block k hk hn)⟩); have HP5 := Lib.hid hP5
        unfold set10o at hW5
        have HW5 := Lib.hid hW5
        clear hO5 hG5 hP5 hW5
        go_region
        rw [HW5.out]
        clear c0 c1 c2 c3 c4 c5 c6 c7 c8 c9 d0 d1 d2 d3 d4 d5 d6 d7 d8 d9 fr hTx hTy htx hty
        have hwz : IntKind.i64.wrap ((jj : Int) - 1) = (jj : Int) - 1 := by
          unfold IntKind.wrap
          simp [IntKind.bits, IntKind.signed]
          omega
        go_wp2_with fail
        go_roundw
        case rel => exact ⟨m + 1, (jj : Int) - 1, _, by go_num, rfl, by have := HZ.out; omega, by have := HZ.out; omega, HO5.out, HP5.out, HG5.out⟩
        case measure => simp [intOf]; omega
      · have hall : T' = T.reverse := by
          have hTl := HTL.out
          refine List.ext_getElem? fun p => ?_
          by_cases hp : p < n
          · have h1 := HN.out
            rw [HPP.out p hp, List.getElem?_reverse (by omega), h1]
            by_cases hc : p < m ∨ n ≤ p + m
            · rw [if_pos hc]
            · rw [if_neg hc]
              congr 1
              omega
          · rw [List.getElem?_eq_none (by omega), List.getElem?_eq_none (by rw [List.length_reverse, HN.out]; omega)]
        have HA := Lib.hid hall
        clear hall
        go_wp2_with fail
        go_end0
        exact ⟨⟨_, rfl⟩, by rw [← HA.out]; exact HO.out, HG.out⟩
end Go.Proofs.Ytnemacejaiifnaa
