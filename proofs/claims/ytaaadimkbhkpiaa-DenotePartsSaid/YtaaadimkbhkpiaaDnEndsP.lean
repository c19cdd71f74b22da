/- Does one of the ends stand at a place: the law's own question. No condition. -/
import Derived.Test.YtaaadimkbhkpiaaDnPartsM
import Derived.Test.YtaaadimkbhkpiaaQ31
set_option linter.unusedVariables false
namespace Go.Proofs.Ytaaadimkbhkpiaa
open Go Go.RowKit

def hasE (L : List Out) (j : Nat) : Bool := L.any fun o => decide (o.1 = j)
theorem hasE_iff {L : List Out} {j : Nat} : hasE L j = true ↔ ∃ o ∈ L, o.1 = j := by simp [hasE]
/-- Of a tree that is laid as q: each end lies in the text, behind where it begins; its fit has two places. -/
theorem endsQ_fit {R : List Int} {t : Tr} {q : Q} {a n : Nat} {L : List Out} (h : EndsQ 0 q a L) (hM : Mat R 0 t q) (hsh : ShapedP t) (hN : Numd R.length 4000 n 2000 4000 q) (ha : a ≤ R.length) : ∀ o ∈ L, a ≤ o.1 ∧ o.1 ≤ R.length ∧ o.2.length = 2 := by
  obtain ⟨n, W, hW, rfl⟩ := h
  intro o ho
  have hm := ((firsts_nodup [] W).2 o ho).1
  obtain ⟨h1, h2, h3⟩ := gw_groups (a := (a : Int)) (G := 0) (N := R.length) (C := 4000) hW ⟨hN.sym, trivial⟩ ⟨mat_caps R 0 t hsh q hM, trivial⟩ (fit_start 0 a q) ha o hm
  have := h1.len
  exact ⟨by omega, h3, by omega⟩

set_option maxHeartbeats 1600000 in
set_option maxRecDepth 100000 in
theorem ends_any {W : World} {ev : Value} {L : List Out} (h : EndsV W ev L) (hl : ∀ o ∈ L, o.1 ≤ 60 ∧ o.2.length = 2) (j : Nat) (hj : j ≤ 60) : Calls Try.prog 20 #[ev, .int .i64 (j : Int)] W fun e w' => e = .returned (.bool (hasE L j)) ∧ W = w' := by
  obtain ⟨A, c, rfl, hle, hlm⟩ := h.sl
  have HAT := Lib.hid (h.at' A L.length c rfl)
  obtain ⟨N, hN⟩ : ∃ N, L.length = N := ⟨_, rfl⟩
  rw [hN] at hle ⊢
  have HNN := Lib.hid hN; have HL := Lib.hid hl
  have hNb : N ≤ 9223372036854775807 := by unfold maxLen at hlm; omega
  obtain ⟨B, hB⟩ : ∃ B, hasE L j = B := ⟨_, rfl⟩
  have HB := Lib.hid hB
  rw [hB]
  clear h hl hN hlm hB
  go_enter Try.func20, Try.ntmps20
  go_wp2_with fail
  go_loopw [5] (fun i wr => ∃ k : Nat, k ≤ N ∧ i = .int .i64 (k : Int) ∧ wr = W ∧ ∀ p, p < k → L[p]?.map Prod.fst ≠ some j) (fun i _ => N - (intOf i).toNat)
  case atStart => exact ⟨0, by omega, rfl, rfl, fun p hp => by omega⟩
  case round =>
    obtain ⟨k, hk, rfl, rfl, hno⟩ := hrel
    have HNO := Lib.hid hno
    clear hno
    by_cases hkN : k < N
    · have hd : decide ((k : Int) < (N : Int)) = true := decide_eq_true (by omega)
      have hkl : k < L.length := by rw [HNN.out]; exact hkN
      obtain ⟨g, r, rc, rfl, c1, hrc, hrm, hcell⟩ := HAT.out k hkl
      obtain ⟨e1, e2⟩ := HL.out _ (List.getElem_mem hkl)
      rw [e2] at c1 hrc
      have c2 := hcell 1 (by simp [rowOf]; omega)
      rw [show (rowOf L[k])[1]'(by simp [rowOf]; omega) = (L[k].1 : Int) by simp [rowOf]] at c2
      obtain ⟨o1, ho⟩ : ∃ o1, L[k].1 = o1 := ⟨_, rfl⟩
      rw [ho] at c2 e1
      have HO := Lib.hid ho
      clear hcell ho
      by_cases hoj : o1 = j
      · have hoe : ((o1 : Int) == (j : Int)) = true := by rw [hoj]; simp
        obtain rfl : B = true := by rw [← HB.out, hasE_iff]; exact ⟨_, List.getElem_mem hkl, HO.out.trans hoj⟩
        as_aux_lemma =>
          go_wp2_with fail
          go_ret
          exact ⟨rfl, rfl⟩
      · have hoe : ((o1 : Int) == (j : Int)) = false := beq_eq_false_iff_ne.2 (by omega)
        have hnx : ∀ p, p < k + 1 → L[p]?.map Prod.fst ≠ some j := fun p hp => by
          by_cases e : p = k
          · subst e; rw [List.getElem?_eq_getElem hkl]; simp [HO.out, hoj]
          · exact HNO.out p (by omega)
        as_aux_lemma =>
          go_wp2_with fail
          exact ⟨⟨k + 1, by omega, by go_num, (by first | rfl | trivial), hnx⟩, by simp only [intOf]; omega⟩
    · have hd : decide ((k : Int) < (N : Int)) = false := decide_eq_false (by omega)
      obtain rfl : B = false := by
        rw [← HB.out]
        refine Bool.eq_false_iff.2 fun h => ?_
        obtain ⟨o, ho, e⟩ := hasE_iff.1 h
        obtain ⟨p, hp, rfl⟩ := List.mem_iff_getElem.1 ho
        exact HNO.out p (by rw [HNN.out] at hp; omega) (by rw [List.getElem?_eq_getElem hp]; simp [e])
      as_aux_lemma =>
        go_wp2_with fail
        go_ret
        exact ⟨rfl, rfl⟩
theorem ends_row {W : World} {A : Option Addr} {n c : Nat} {L : List Out} (h : EndsV W (.slice A n c) L) (hl : ∀ o ∈ L, o.1 ≤ 60 ∧ o.2.length = 2) (k : Nat) (hk : k < L.length) :
    ∃ g r rc, A = some ⟨g, 0, none⟩ ∧ W.cell? ⟨g, k, none⟩ = some (.slice (some ⟨r, 0, none⟩) 2 rc) ∧ 2 ≤ rc ∧ rc ≤ maxLen ∧ W.cell? ⟨r, 1, none⟩ = some (.int .i64 (L[k].1 : Int)) := by
  obtain ⟨g, r, rc, e, c1, hrc, hrm, hcell⟩ := h.at' A n c rfl k hk
  have e2 := (hl _ (List.getElem_mem hk)).2
  rw [e2] at c1 hrc
  have c2 := hcell 1 (by simp [rowOf]; omega)
  rw [show (rowOf L[k])[1]'(by simp [rowOf]; omega) = (L[k].1 : Int) by simp [rowOf]] at c2
  exact ⟨g, r, rc, e, c1, hrc, hrm, c2⟩
/-- What List tells of a tree that is laid as q. -/
def ListQ (R : List Int) (t : Tr) (q : Q) (a : Nat) (w : World) (e : Ending) (w' : World) : Prop := ∃ (ev : Value) (L : List Out), e = .returned ev ∧ EndsV w' ev L ∧ Below w.heap.size w w' ∧ (∀ o ∈ L, o.1 ≤ R.length ∧ o.2.length = 2) ∧ EndsQ 0 q a L ∧ ∀ j, hasE L j = true ↔ TreeR R t a j
theorem list_q {t : Tr} {v : Value} {ib B : Nat} {kk : Int} {s : ByteArray} {a : Nat} {w : World} (h : Tre w t v) (hin : In w B kk s ib) (hs : s.size ≤ 60) (hp : partsR t ≤ 1000) (ha : a ≤ (runesOf s).length) (hsh : ShapedP t) {q : Q} (hM : Mat (runesOf s) 0 t q) (hN : ∃ n, Numd (runesOf s).length 4000 n 2000 4000 q) :
    Calls Try.prog 16 #[v, .int .i64 0, .pointer (some ⟨ib, 0, none⟩), .int .i64 a] w (ListQ (runesOf s) t q a w) := by
  obtain ⟨n, hN⟩ := hN
  refine (list_laid t v ib B kk s a w h hin hs hp ha hsh q hM n hN).mono ?_
  rintro e w' ⟨ev, E, L, rfl, -, hend, hb, hq⟩
  have hf := endsQ_fit hq hM hsh hN ha
  exact ⟨ev, L, rfl, hend.ev fun o ho => by have := (hf o ho).2.2; omega, hb, fun o ho => (hf o ho).2, hq, fun j => hasE_iff.trans (endsQ_reach hq hM hsh hN.once j)⟩
end Go.Proofs.Ytaaadimkbhkpiaa
