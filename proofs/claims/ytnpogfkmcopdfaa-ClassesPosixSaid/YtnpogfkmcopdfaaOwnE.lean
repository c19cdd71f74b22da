/- Rows of edges that the call makes itself, lists of lists in memory, and what ends answers: the edges of all ranges, in a fresh row. -/
import Derived.Test.YtnpogfkmcopdfaaNorm
import Derived.Test.YtnpogfkmcopdfaaEdges
set_option linter.unusedVariables false
namespace Go.Proofs.Ytnpogfkmcopdfaa
open Go Go.RowKit

def cellsE (k : List (Int × Int)) : List Value := k.flatMap fun r => [.int .i32 r.1, .int .i64 r.2]
theorem cellsE_append (a b : List (Int × Int)) : cellsE (a ++ b) = cellsE a ++ cellsE b := by simp [cellsE]
theorem cellsE_length : ∀ k : List (Int × Int), (cellsE k).length = k.length * 2
  | [] => rfl
  | r :: k => by
    have h := cellsE_length k
    have e : cellsE (r :: k) = [.int .i32 r.1, .int .i64 r.2] ++ cellsE k := rfl
    rw [e, List.length_append, h]
    simp
    omega
theorem cellsE_at : ∀ (k : List (Int × Int)) (i : Nat) (h : i < k.length), (cellsE k)[i * 2]? = some (.int .i32 k[i].1) ∧ (cellsE k)[i * 2 + 1]? = some (.int .i64 k[i].2)
  | [], i, h => by simp at h
  | r :: k, 0, h => ⟨rfl, rfl⟩
  | r :: k, i + 1, h => by
    have e : cellsE (r :: k) = .int .i32 r.1 :: .int .i64 r.2 :: cellsE k := rfl
    have h' := cellsE_at k i (by simpa using h)
    rw [e, show (i + 1) * 2 = i * 2 + 1 + 1 by omega]
    simpa using h'
theorem cellsE_get (k : List (Int × Int)) (j : Nat) (u : Value) (h : (cellsE k)[j]? = some u) : ∃ i, ∃ hi : i < k.length, (j = i * 2 ∧ u = .int .i32 k[i].1) ∨ (j = i * 2 + 1 ∧ u = .int .i64 k[i].2) := by
  have hl := (List.getElem?_eq_some_iff.1 h).1
  rw [cellsE_length] at hl
  have hi : j / 2 < k.length := by omega
  obtain ⟨h1, h2⟩ := cellsE_at k (j / 2) hi
  refine ⟨j / 2, hi, ?_⟩
  by_cases hj : j % 2 = 0
  · left
    have e : j = j / 2 * 2 := by omega
    refine ⟨e, ?_⟩
    rw [← e, h] at h1
    exact Option.some.inj h1
  · right
    have e : j = j / 2 * 2 + 1 := by omega
    refine ⟨e, ?_⟩
    rw [← e, h] at h2
    exact Option.some.inj h2
theorem cellsE_one (k : List (Int × Int)) : ∀ u ∈ cellsE k, u.oneCell' = true := fun u hu => by
  obtain ⟨j, hj⟩ := List.getElem?_of_mem hu
  obtain ⟨i, _, ⟨_, rfl⟩ | ⟨_, rfl⟩⟩ := cellsE_get k j u hj
  · rfl
  · rfl
theorem info_edge : (Try.prog.info? 66).map (fun i => (i.zero, i.size, i.bytes)) = some (some (.agg #[.int .i32 0, .int .i64 0]), 2, 16) := by kernel_rfl
/-- The value v owns a row of the edges k, among the blocks from B on. -/
def OwnE (w : World) (B : Nat) (v : Value) (k : List (Int × Int)) : Prop := w.ownsRow B 66 2 v k.length (cellsE k)
theorem OwnE.below {w w' : World} {B : Nat} {v : Value} {k : List (Int × Int)} (h : OwnE w B v k) (hb : Below w.heap.size w w') : OwnE w' B v k :=
  World.ownsRow.kept h (row := none) ⟨hb.os, hb.tape, hb.output, hb.size, fun k hk _ => hb.block k hk⟩ (by cases v.ownBlock <;> simp)
theorem owne_none (w : World) (B : Nat) : OwnE w B (.slice none 0 0) [] := World.ownsRow_nil _ _ _ _

/-- Two edges in a block of their own. -/
def Two (w : World) (g : Nat) (x y : Int × Int) : Prop := Whole w g 66 #[.int .i32 x.1, .int .i64 x.2, .int .i32 y.1, .int .i64 y.2]
theorem append_two {w : World} {ops : Array Oper} {rest : List Oper} {o : Oper} {a : Act} {Q : Exit → Act → World → Prop} (hgd : o.guard = none) (x y : Operand)
    (ho : o.op = .call { callee := .builtin .append, args := #[x, y], argTypes := #[62, 62] })
    (base : Nat) (v : Value) (O : List (Int × Int)) (hs : a.eval x = v) (hown : OwnE w base v O)
    (g : Nat) (e1 e2 : Int × Int) (hx : a.eval y = .slice (some ⟨g, 0, none⟩) 2 2) (ht : Two w g e1 e2) (hn : O.length + 2 ≤ 8796093022208) (hbase : base ≤ w.heap.size)
    (h : ∀ v' w', OwnE w' base v' (O ++ [e1, e2]) → w.grownBy w' v.ownBlock → wpList Try.prog ops Q rest (a.put o.dst v') w') : wpList Try.prog ops Q (o :: rest) a w := by
  obtain ⟨i, hi, hz, hsize, hby⟩ := info_parts info_edge
  refine wpList_append_own w hgd x y 62 ho base 66 i (.agg #[.int .i32 0, .int .i64 0]) 2 16 Try.underlying62 hi hz hsize hby rfl (by omega) v O.length (cellsE O) hs hown ⟨g, 0, none⟩ 2 2 (cellsE [e1, e2]) hx (by rw [cellsE_length]; rfl) ?_ (cellsE_one _) (by unfold maxLen; omega) (by omega) hbase (fun v' w' g1 g2 _ => h v' w' ?_ g2)
  · intro j u hu
    have hadd : (⟨g, 0, none⟩ : Addr).add j = ⟨g, j, none⟩ := by unfold Addr.add; split <;> simp_all
    rw [hadd, ht.cell]
    obtain ⟨e11, e12⟩ := e1
    obtain ⟨e21, e22⟩ := e2
    simpa [cellsE] using hu
  · unfold OwnE
    rw [cellsE_append, List.length_append]
    exact g1

/-- The slice value v holds the lists ls, each of ranges. -/
def Lss (w : World) (v : Value) (ls : List (List (Int × Int))) : Prop :=
  ∃ b o c, v = .slice (some ⟨b, o, none⟩) ls.length c ∧ ls.length ≤ c ∧ c ≤ maxLen ∧ ∀ i (h : i < ls.length), ∃ u, w.cell? ⟨b, o + i, none⟩ = some u ∧ Rgs w u ls[i]
theorem Lss.below {w w' : World} {v : Value} {ls : List (List (Int × Int))} (h : Lss w v ls) (hb : Below w.heap.size w w') : Lss w' v ls := by
  obtain ⟨b, o, c, h1, h2, h3, h4⟩ := h
  refine ⟨b, o, c, h1, h2, h3, fun i hi => ?_⟩
  obtain ⟨u, hu, hr⟩ := h4 i hi
  exact ⟨u, (hb.cell (World.block_lt_of_cell? w _ hu)).trans hu, hr.below hb⟩
/-- How many ranges in all. -/
def totL (ls : List (List (Int × Int))) : Nat := (ls.map List.length).sum
theorem endsL_length : ∀ ls : List (List (Int × Int)), (endsL ls).length ≤ 2 * totL ls
  | [] => Nat.le_refl _
  | l :: ls => by
    have h1 := endsR_length l
    have h2 := endsL_length ls
    rw [endsL_cons, List.length_append]
    unfold totL at *
    rw [List.map_cons, List.sum_cons]
    omega
theorem endsL_take (ls : List (List (Int × Int))) (m : Nat) (h : m < ls.length) : endsL (ls.take (m + 1)) = endsL (ls.take m) ++ endsR ls[m] := by
  rw [List.take_succ_eq_append_getElem h, endsL_append]
  simp [endsL]
theorem endsR_take (l : List (Int × Int)) (m : Nat) (x : Int × Int) (h : l.take (m + 1) = l.take m ++ [x]) : endsR (l.take (m + 1)) = endsR (l.take m) ++ endR x := by
  rw [h, endsR_append]
  simp [endsR]
theorem totL_take (ls : List (List (Int × Int))) (m : Nat) (h : m < ls.length) : totL (ls.take m) + ls[m].length ≤ totL ls := by
  unfold totL
  have e : ls = ls.take m ++ ls[m] :: ls.drop (m + 1) := by
    rw [List.getElem_cons_drop, List.take_append_drop]
  have e2 : ((ls.take m ++ ls[m] :: ls.drop (m + 1)).map List.length).sum = ((ls.take m).map List.length).sum + (ls[m].length + ((ls.drop (m + 1)).map List.length).sum) := by
    rw [List.map_append, List.sum_append, List.map_cons, List.sum_cons]
  rw [← e] at e2
  omega
def EndsPost (ls : List (List (Int × Int))) (w : World) (e : Ending) (w' : World) : Prop := ∃ v, e = .returned v ∧ OwnE w' w.heap.size v (endsL ls) ∧ Below w.heap.size w w'

theorem two_new (w : World) (x1 x2 y1 y2 : Int) : Two (w.alloc (.cells #[.int .i32 x1, .int .i64 x2, .int .i32 y1, .int .i64 y2] 66)) w.heap.size (x1, x2) (y1, y2) := heap_alloc_new w _

set_option maxHeartbeats 1600000 in
set_option maxRecDepth 100000 in
theorem ends_any (v : Value) (ls : List (List (Int × Int))) (w : World) (h : Lss w v ls) (hn : totL ls ≤ 1099511627776) :
    Calls Try.prog 44 #[v] w (EndsPost ls w) := by
  have HL := Lib.hid h
  obtain ⟨b, o, c, rfl, h2, h3, -⟩ := h
  have hlen : ls.length ≤ 9223372036854775807 := by unfold maxLen at h3; omega
  clear h2 h3
  go_enter Try.func44, Try.ntmps44
  go_wp2_with fail
  go_loopw [3, 12] (fun vs i wr => ∃ m : Nat, m ≤ ls.length ∧ i = .int .i64 m ∧ OwnE wr w.heap.size vs (endsL (ls.take m)) ∧ Below w.heap.size w wr) (fun _ i _ => ls.length - (intOf i).toNat)
  case atStart => exact ⟨0, Nat.zero_le _, rfl, owne_none _ _, Below.refl _ _⟩
  case round =>
    obtain ⟨m, hm, rfl, hO, hB⟩ := hrel
    have HO := Lib.hid hO; have HB := Lib.hid hB
    clear hO hB
    by_cases hlt : m < ls.length
    · obtain ⟨b', o', c', e, -, -, hc⟩ := HL.out
      injection e with e1 e2 e3
      injection e1 with e1
      injection e1 with e1 e4
      subst e1 e4 e3
      obtain ⟨u, hu0, hr⟩ := hc m hlt
      have hu := (HB.out.cell (World.block_lt_of_cell? w _ hu0)).trans hu0
      clear hu0
      have hEL := endsL_take ls m hlt
      have hTL := totL_take ls m hlt
      have hEn := endsL_length (ls.take m)
      obtain ⟨l, hl⟩ : ∃ l, ls[m] = l := ⟨_, rfl⟩
      rw [hl] at hr hEL hTL
      have HR := Lib.hid hr; have HEL := Lib.hid hEL
      obtain ⟨a, cl, rfl, g2, g3, -⟩ := hr
      have hll : l.length ≤ 9223372036854775807 := by unfold maxLen at g3; omega
      clear hl hc hEL g2 g3
      go_wp2_with fail
      go_loopw [3, 18] (fun vs i wy => ∃ k : Nat, k ≤ l.length ∧ i = .int .i64 k ∧ OwnE wy w.heap.size vs (endsL (ls.take m) ++ endsR (l.take k)) ∧ Below w.heap.size w wy) (fun _ i _ => l.length - (intOf i).toNat)
      case atStart => exact ⟨0, Nat.zero_le _, rfl, by rw [List.take_zero]; simpa [endsR] using HO.out, HB.out⟩
      case round =>
        obtain ⟨k, hk, rfl, hO2, hB2⟩ := hrel
        have HO2 := Lib.hid hO2; have HB2 := Lib.hid hB2
        clear hO2 hB2
        by_cases hkl : k < l.length
        · obtain ⟨a', cq, e, q2, q3, q4, q5, q6⟩ := HR.out.below HB2.out
          injection e with e1 e2 e3
          subst e1 e3
          rcases q5 with q5 | ⟨b1, o1, rfl, hc⟩
          · rw [q5] at hkl
            simp at hkl
          obtain ⟨x1, x2, hx, hsp, c1, c2⟩ := rgs_at hc k hkl
          have hsE := endsR_take l k (x1, x2) hsp
          have HSE := Lib.hid hsE
          have hkn := endsR_length (l.take k)
          rw [List.length_take] at hkn
          clear hx hsp hc hsE q6
          go_upto_region 8 with (fail)
          go_big_quiet (fail)
          have hBn : Below wr.heap.size wr (((wr.alloc (.cells #[.int .i32 x1, .int .i32 x2] 37)).drewN nq)) := below_drewNr ((Below.refl _ _).alloc (Nat.le_refl _) _) nq
          obtain ⟨wn, hwn⟩ : ∃ wn, ((wr.alloc (.cells #[.int .i32 x1, .int .i32 x2] 37)).drewN nq) = wn := ⟨_, rfl⟩
          obtain ⟨y1, hy1⟩ : ∃ y1 : Int, (if x1 < 0 then 0 else x1) = y1 := ⟨_, rfl⟩
          obtain ⟨y2, hy2⟩ : ∃ y2 : Int, (if 1114111 < x2 then 1114111 else x2) = y2 := ⟨_, rfl⟩
          rw [hwn] at hBn ⊢
          rw [hy1, hy2]
          have hER : endR (x1, x2) = if y1 ≤ y2 then [(y1, 1), (y2 + 1, -1)] else [] := by
            unfold endR
            simp only
            rw [show max x1 0 = y1 by split at hy1 <;> omega, show min x2 1114111 = y2 by split at hy2 <;> omega]
          have HER := Lib.hid hER
          have hb2 : y2 ≤ 1114111 := by split at hy2 <;> omega
          have hb1 : 0 ≤ y1 := by split at hy1 <;> omega
          have HB3 := Lib.hid (HB2.out.trans (hBn.mono HB2.out.size))
          have hsz0 := HB2.out.size
          have HO3 := Lib.hid (HO2.out.below hBn)
          have hsz := HB3.out.size
          have hOl : (endsL (ls.take m) ++ endsR (l.take k)).length + 2 ≤ 8796093022208 := by rw [List.length_append]; omega
          have HOL := Lib.hid hOl
          clear hwn hy1 hy2 hER hBn c1 c2 hOl
          by_cases hxy : y1 ≤ y2
          · go_wp2_with (at_builtin; refine append_two rfl (.tmp 31) (.tmp 37) rfl w.heap.size _ _ rfl (HO3.out.below ((Below.refl _ _).alloc (Nat.le_refl _) _)) wn.heap.size (y1, 1) (y2 + 1, -1) rfl (two_new wn y1 1 (y2 + 1) (-1)) HOL.out ?c1 ?_)
            case c1 => first | omega | (simp; omega)
            intro v3 w3 ho3 hg3
            have HB4 := Lib.hid ((HB3.out.alloc HB3.out.size _).grown hg3 (by simp; omega) (fun j hj => (World.ownsRow.lt HO3.out j hj).1))
            have HO4 := Lib.hid ho3
            clear ho3 hg3
            go_wp2
            go_roundw
            case rel => exact ⟨k + 1, by omega, by go_num, by rw [HSE.out, HER.out, if_pos hxy]; first | exact HO4.out | (rw [← List.append_assoc]; exact HO4.out), HB4.out⟩
            case measure => simp [intOf]; omega
          · go_wp2
            go_roundw
            case rel => exact ⟨k + 1, by omega, by go_num, by rw [HSE.out, HER.out, if_neg hxy, List.append_nil]; exact HO3.out, HB3.out⟩
            case measure => simp [intOf]; omega
        · have e : l.take k = l := List.take_of_length_le (by omega)
          go_wp2
          go_roundw
          case rel => exact ⟨m + 1, by omega, by go_num, by rw [HEL.out]; have := HO2.out; rw [e] at this; exact this, HB2.out⟩
          case measure => simp [intOf]; omega
    · have e : ls.take m = ls := List.take_of_length_le (by omega)
      have ho := HO.out
      rw [e] at ho
      have HO' := Lib.hid ho
      clear ho e
      go_wp2
      go_ret
      exact ⟨_, rfl, HO'.out, HB.out⟩
end Go.Proofs.Ytnpogfkmcopdfaa
