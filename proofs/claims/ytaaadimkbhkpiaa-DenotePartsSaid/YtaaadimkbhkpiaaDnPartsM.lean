/- What trees of one or two Kids are laid as, and where they may fit. No memory but List's. -/
import Derived.Test.YtaaadimkbhkpiaaDnTreeR
import Derived.Test.YtaaadimkbhkpiaaQ31
import Derived.Test.YtaaadimkbhkpiaaQ6
set_option linter.unusedVariables false
namespace Go.Proofs.Ytaaadimkbhkpiaa
open Go Go.RowKit

/-- All ways are what they are, whatever the stack. -/
theorem gw_det {n : Nat} {K : Ks} {i : Nat} {c : List Int} {S : List Nat} {L : List Out} (h : GW n K i c S L) : ∀ {m : Nat} {L' : List Out}, GW m K i c S L' → L = L' := by
  induction h with
  | fin => intro m L' h; cases h; rfl
  | none => intro m L' h; cases h; rfl
  | eps _ ih => intro m L' h; cases h with | eps h => exact ih h
  | symT hp _ ih => intro m L' h; cases h with | symT _ h => exact ih h | symF hq => rw [hp] at hq; cases hq
  | symF hp => intro m L' h; cases h with | symT hq h => rw [hp] at hq; cases hq | symF hq => rfl
  | lookT hp _ ih => intro m L' h; cases h with | lookT _ h => exact ih h | lookF hq => rw [hp] at hq; cases hq
  | lookF hp => intro m L' h; cases h with | lookT hq h => rw [hp] at hq; cases hq | lookF hq => rfl
  | cap _ ih => intro m L' h; cases h with | cap h => exact ih h
  | capEnd _ ih => intro m L' h; cases h with | capEnd h => exact ih h
  | seq _ ih => intro m L' h; cases h with | seq h => exact ih h
  | altN => intro m L' h; cases h; rfl
  | altC _ _ _ _ ih1 ih2 => intro m L' h; cases h with | altC h1 h2 => rw [ih1 h1, ih2 h2]
  | quest _ _ ih1 ih2 => intro m L' h; cases h with | quest h1 h2 => rw [ih1 h1, ih2 h2]
  | mkF ha => intro m L' h; cases h with | mkF => rfl | mkT hb => exact absurd ha hb
  | mkT ha _ ih => intro m L' h; cases h with | mkF hb => exact absurd hb ha | mkT _ h => exact ih h
  | starF ha => intro m L' h; cases h with | starF => rfl | starT hb => exact absurd ha hb
  | starT ha _ _ ih1 ih2 => intro m L' h; cases h with | starF hb => exact absurd hb ha | starT _ h1 h2 => rw [ih1 h1, ih2 h2]
  | plusF ha => intro m L' h; cases h with | plusF => rfl | plusT hb => exact absurd ha hb
  | plusT ha _ ih => intro m L' h; cases h with | plusF hb => exact absurd hb ha | plusT _ h => exact ih h
  | askF ha => intro m L' h; cases h with | askF => rfl | askT hb => exact absurd ha hb
  | askT ha _ _ ih1 ih2 => intro m L' h; cases h with | askF hb => exact absurd hb ha | askT _ h1 h2 => rw [ih1 h1, ih2 h2]

/-- The ends of a tree that is laid as q. -/
def EndsQ (G : Nat) (q : Q) (a : Nat) (L : List Out) : Prop := ∃ n W, GW n [.q q] a ((List.replicate (2 * (G + 1)) (-1)).set 0 (a : Int)) [] W ∧ L = firsts [] W
theorem firsts_has : ∀ (P : List Nat) (L : List Out) (o : Out), o ∈ L → o.1 ∉ P → ∃ p ∈ firsts P L, p.1 = o.1
  | P, [], o, h, _ => by cases h
  | P, x :: L, o, h, hP => by
    unfold firsts
    rcases List.mem_cons.1 h with rfl | h
    · rw [if_neg hP]; exact ⟨_, List.mem_cons_self .., rfl⟩
    · split
      · exact firsts_has P L o h hP
      · by_cases e : o.1 = x.1
        · exact ⟨x, List.mem_cons_self .., e.symm⟩
        · obtain ⟨p, h1, h2⟩ := firsts_has (x.1 :: P) L o h (by simp [e, hP])
          exact ⟨p, List.mem_cons_of_mem _ h1, h2⟩
/-- They are where the tree may fit. -/
theorem endsQ_reach {R : List Int} {G : Nat} {t : Tr} {q : Q} {a : Nat} {L : List Out} (h : EndsQ G q a L) (hM : Mat R G t q) (hsh : ShapedP t) (hn : (idsQ q).Nodup) (j : Nat) : (∃ o ∈ L, o.1 = j) ↔ TreeR R t a j := by
  obtain ⟨n, W, hW, rfl⟩ := h
  rw [← mat_reach R G t hsh q hM, ← ways_reach hn hW]
  constructor
  · rintro ⟨o, ho, e⟩; exact ⟨o, ((firsts_nodup [] W).2 o ho).1, e⟩
  · rintro ⟨o, ho, rfl⟩; exact firsts_has [] W o ho (by simp)
/-- The first end of an Alt is the first one of its first Kid, if that has any. -/
theorem endsQ_head {G : Nat} {x r : Q} {a : Nat} {L M : List Out} (h : EndsQ G x a L) (k : EndsQ G (.altC x r) a M) (o : Out) (hL : L.head? = some o) : M.head? = some o := by
  obtain ⟨n, W, hW, rfl⟩ := h
  obtain ⟨m, V, hV, rfl⟩ := k
  cases hV with
  | altC h1 h2 =>
    obtain rfl := gw_det hW h1
    cases W with
    | nil => cases hL
    | cons p W =>
      simp only [firsts, List.not_mem_nil, if_false, List.head?_cons] at hL ⊢
      simp only [List.cons_append, firsts, List.not_mem_nil, if_false, List.head?_cons]
      exact hL
/-- List of a tree that is laid as q. -/
theorem list_laid (t : Tr) (v : Value) (ib B : Nat) (kk : Int) (s : ByteArray) (a : Nat) (w : World) (h : Tre w t v) (hin : In w B kk s ib) (hs : s.size ≤ 60) (hp : partsR t ≤ 1000) (ha : a ≤ (runesOf s).length) (hsh : ShapedP t) (q : Q) (hM : Mat (runesOf s) 0 t q) (n : Nat) (hN : Numd (runesOf s).length 4000 n 2000 4000 q) :
    Calls Try.prog 16 #[v, .int .i64 0, ptrV ib, .int .i64 a] w fun e w' => ∃ (ev : Value) (E : Env) (L : List Out), e = .returned ev ∧ w.heap.size ≤ E.fb ∧ EndsAt E w' ev L ∧ Below w.heap.size w w' ∧ EndsQ 0 q a L := by
  have hR : (runesOf s).length ≤ 60 := by have := length_runesOf s; omega
  have hf := hN.few
  have hw := hN.w
  have hmu : mu (runesOf s).length 4000 (idsQ q).length a (idsQ q).length (wQ q + 1) ≤ 4000000000000 := by
    have h1 : ((runesOf s).length - a) * (4000 * ((idsQ q).length + 1)) ≤ 480240000 := Nat.le_trans (Nat.mul_le_mul (show (runesOf s).length - a ≤ 60 by omega) (Nat.mul_le_mul_left 4000 (show (idsQ q).length + 1 ≤ 2001 by omega))) (by decide)
    have h2 : 4000 * (idsQ q).length ≤ 8000000 := by omega
    have e : mu (runesOf s).length 4000 (idsQ q).length a (idsQ q).length (wQ q + 1) = ((runesOf s).length - a) * (4000 * ((idsQ q).length + 1)) + 4000 * (idsQ q).length + (wQ q + 1) := rfl
    omega
  obtain ⟨m, L, h1, h2⟩ := list_ways t (by omega) v 0 ib B kk s a w h hin hsh (by omega) (by omega) ha q hM hN.once (by omega) 4000 (by omega) hN.sym hmu
  refine h2.mono ?_
  rintro e w' ⟨ev, E, rfl, hE, hEnd, hb⟩
  exact ⟨ev, E, _, rfl, hE, hEnd, hb, m, L, h1, rfl⟩
/-- A tree of an Op with Kids is shaped, if they are. -/
theorem opX_shapedP {op : Int} {ks : List Tr} (ho : (op = 7 ∧ ks.length = 1) ∨ (op = 9 ∧ ks.length = 1) ∨ op = 11 ∨ (op = 12 ∧ 2 ≤ ks.length)) (h : ∀ k ∈ ks, ShapedP k) : ShapedP (opX op 0 ks) := by
  rw [shapedP_iff]
  refine ⟨?_, ?_, ?_, h⟩
  · rcases ho with ⟨rfl, -⟩ | ⟨rfl, -⟩ | rfl | ⟨rfl, -⟩ <;> simp [FieldsOk, opX, Tr.fld] <;> decide
  · rcases ho with ⟨rfl, hk⟩ | ⟨rfl, hk⟩ | rfl | ⟨rfl, hk⟩ <;> simp [KidsOk, opX, Tr.fld, Tr.kids] <;> first | exact hk | omega | trivial
  · rcases ho with ⟨rfl, -⟩ | ⟨rfl, -⟩ | rfl | ⟨rfl, -⟩ <;> simp [opX, Tr.fld]
theorem opX_kids (op cap : Int) (ks : List Tr) : (opX op cap ks).kids = ks := rfl
theorem opX_op (op cap : Int) (ks : List Tr) : (opX op cap ks).fld.op = op := rfl
theorem alt_fits (R : List Int) (a b : Tr) (i j : Nat) : TreeR R (opX 12 0 [a, b]) i j ↔ TreeR R a i j ∨ TreeR R b i j := by
  rw [treeR_eq]
  simp [TreeX, opX_kids, opX_op, AltR]
theorem quest_fits (R : List Int) (a : Tr) (i j : Nat) : TreeR R (opX 9 0 [a]) i j ↔ TreeR R a i j ∨ j = i := by
  rw [treeR_eq]
  simp [TreeX, opX_kids, opX_op]
  exact or_comm
theorem star_fits (R : List Int) (a : Tr) (i j : Nat) : TreeR R (opX 7 0 [a]) i j ↔ StarR (TreeR R a) i j := by
  rw [treeR_eq]
  simp [TreeX, opX_kids, opX_op]
theorem cat_fits (R : List Int) (a b : Tr) (i j : Nat) : TreeR R (opX 11 0 [a, b]) i j ↔ ∃ k, TreeR R a i k ∧ TreeR R b k j := by
  rw [treeR_eq]
  simp [TreeX, opX_kids, opX_op, RowR]
/-- What the six trees of the law are laid as. -/
structure Laid6 (R : List Int) (a b : Tr) (qa qb x q s c : Q) : Prop where
  ma : Mat R 0 a qa
  mb : Mat R 0 b qb
  mx : Mat R 0 (opX 12 0 [a, b]) x
  mq : Mat R 0 (opX 9 0 [a]) q
  ms : Mat R 0 (opX 7 0 [a]) s
  mc : Mat R 0 (opX 11 0 [a, b]) c
  na : ∃ n, Numd R.length 4000 n 2000 4000 qa
  nb : ∃ n, Numd R.length 4000 n 2000 4000 qb
  nx : ∃ n, Numd R.length 4000 n 2000 4000 x
  nq : ∃ n, Numd R.length 4000 n 2000 4000 q
  ns : ∃ n, Numd R.length 4000 n 2000 4000 s
  nc : ∃ n, Numd R.length 4000 n 2000 4000 c
  head : ∃ r, x = .altC qa r
theorem weight_opX {op : Int} {ks : List Tr} (h : op = 7 ∨ op = 9 ∨ op = 11) (hw : (ks.map weightR).sum ≤ 301) : weightR (opX op 0 ks) = 1 + (ks.map weightR).sum := by
  rw [weightR_eq]
  rcases h with rfl | rfl | rfl <;> simp [weightN, clipR, opX, Tr.fld, Tr.kids] <;> omega
theorem laid6 (R : List Int) (a b : Tr) (ha : ShapedP a) (hb : ShapedP b) (hw : weightR a + weightR b ≤ 300) : ∃ qa qb x q s c, Laid6 R a b qa qb x q s c := by
  have pa := weight_pos a ha
  have pb := weight_pos b hb
  obtain ⟨qa, m1, n1⟩ := mat_has R 0 4000 a ha (by omega) (by omega) 0
  obtain ⟨qb, m2, n2⟩ := mat_has R 0 4000 b hb (by omega) (by omega) (0 + (3 * weightR a - 1))
  have hs1 : ShapedP (opX 9 0 [a]) := opX_shapedP (.inr (.inl ⟨rfl, rfl⟩)) (by simpa using ha)
  have hs2 : ShapedP (opX 7 0 [a]) := opX_shapedP (.inl ⟨rfl, rfl⟩) (by simpa using ha)
  have hs3 : ShapedP (opX 11 0 [a, b]) := opX_shapedP (.inr (.inr (.inl rfl))) (by simpa using ⟨ha, hb⟩)
  have w1 := weight_opX (op := 9) (ks := [a]) (by simp) (by simp; omega)
  have w2 := weight_opX (op := 7) (ks := [a]) (by simp) (by simp; omega)
  have w3 := weight_opX (op := 11) (ks := [a, b]) (by simp) (by simp; omega)
  simp only [List.map_cons, List.map_nil, List.sum_cons, List.sum_nil] at w1 w2 w3
  obtain ⟨q, m4, n4⟩ := mat_has R 0 4000 _ hs1 (by omega) (by omega) 0
  obtain ⟨s, m5, n5⟩ := mat_has R 0 4000 _ hs2 (by omega) (by omega) 0
  obtain ⟨c, m6, n6⟩ := mat_has R 0 4000 _ hs3 (by omega) (by omega) 0
  have n7 : Numd R.length 4000 (0 + (3 * weightR a - 1) + (3 * weightR b - 1)) 0 1 .altN := .leaf rfl rfl trivial (Nat.le_refl _)
  have n8 := n1.altC (n2.altC n7)
  exact ⟨qa, qb, _, q, s, c, m1, m2, (mat_iff R 0 _ _).2 (.alt rfl (.cons m1 (.cons m2 .nil))), m4, m5, m6, ⟨_, n1.up (by omega) (by omega)⟩, ⟨_, n2.up (by omega) (by omega)⟩, ⟨_, n8.up (by omega) (by omega)⟩, ⟨_, n4.up (by omega) (by omega)⟩, ⟨_, n5.up (by omega) (by omega)⟩, ⟨_, n6.up (by omega) (by omega)⟩, _, rfl⟩
end Go.Proofs.Ytaaadimkbhkpiaa
