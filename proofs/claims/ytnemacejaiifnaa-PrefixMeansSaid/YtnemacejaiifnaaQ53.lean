/- Texts merged by program: PxBegin, PxDoc. No condition. -/
import Derived.Test.YtnemacejaiifnaaQ8
import Derived.Test.YtnemacejaiifnaaQ4
import Derived.Test.YtnemacejaiifnaaQ30
import Derived.Deep.RegionLaw
set_option linter.unusedVariables false
/- Prefix: begin puts a tree's prefix behind runes, row those of trees. No condition. -/
namespace Go.Proofs.Ytnemacejaiifnaa
open Go Go.RowKit

theorem catX_len (l : List (List Int × Bool)) : (catX l).1.length ≤ (l.map fun x => x.1.length).sum := by
  induction l with
  | nil => simp [catX]
  | cons x l ih =>
    unfold catX
    split
    · simp only [List.length_append, List.map_cons, List.sum_cons]; omega
    · simp only [List.map_cons, List.sum_cons]; omega
theorem preT_len (t : Tr) : (preT t).1.length ≤ partsR t := by
  refine Tr.ind (P := fun t => (preT t).1.length ≤ partsR t) (fun t ih => ?_) t
  have hs : ((t.kids.map preT).map fun x => x.1.length).sum ≤ (t.kids.map partsR).sum := by
    have : ∀ l : List Tr, (∀ k ∈ l, (preT k).1.length ≤ partsR k) → ((l.map preT).map fun x => x.1.length).sum ≤ (l.map partsR).sum := by
      intro l
      induction l with
      | nil => intro _; simp
      | cons x l ih =>
        intro h
        have h1 := h x (by simp)
        have h2 := ih fun k hk => h k (by simp [hk])
        simp only [List.map_cons, List.sum_cons]
        omega
    exact this t.kids ih
  have hp := partsR_eq t
  have hc := catX_len (t.kids.map preT)
  rw [preT_eq]
  unfold preX
  split
  · simp
  split
  · simp; have := partsR_pos t; omega
  split
  · omega
  · split
    · rename_i x hx
      rw [hx] at hs
      simp only [List.map_cons, List.map_nil, List.sum_cons, List.sum_nil] at hs
      repeat' split
      all_goals first | (simp; done) | (dsimp only at *; omega) | omega
    · simp

/-- What begin tells: the runes with the prefix behind them, in a row of the call's own; is it exact? -/
def BegPost (B : Nat) (l : List Int) (p : List Int × Bool) (w : World) (e : Ending) (w' : World) : Prop := ∃ v', e = .returned (.tuple #[v', .bool p.2]) ∧ OwnN w' B v' (l ++ p.1) ∧ Below B w w'
def BeginOf (t : Tr) : Prop := ∀ (w0 w : World) (b o : Nat) (v : Value) (l : List Int), ShapedP t → TAt w0 b o t → Below w0.heap.size w0 w → OwnN w w0.heap.size v l → l.length + partsR t ≤ 1000000000000 →
  Calls Try.prog 47 #[.pointer (some ⟨b, o, none⟩), v] w (BegPost w0.heap.size l (preT t) w)
/-- The prefixes of some trees behind runes. -/
def RowXOf (ks : List Tr) : Prop := ∀ (w0 w : World) (kv v : Value) (l : List Int), (∀ k ∈ ks, ShapedP k) → Kds w0 ks kv → Below w0.heap.size w0 w → OwnN w w0.heap.size v l → l.length + (ks.map partsR).sum ≤ 1000000000000 →
  Calls Try.prog 95 #[kv, v] w (BegPost w0.heap.size l (catX (ks.map preT)) w)
/-- What row has behind k of the trees, all exact. -/
theorem catX_take {l : List (List Int × Bool)} {k : Nat} (hk : k < l.length) (h : (catX (l.take k)).2 = true) : catX (l.take (k + 1)) = ((catX (l.take k)).1 ++ l[k].1, l[k].2) := by
  induction l generalizing k with
  | nil => simp at hk
  | cons x l ih =>
    cases k with
    | zero => cases hx : x.2 <;> simp [catX, hx]
    | succ k =>
      simp only [List.take_succ_cons, catX] at h ⊢
      by_cases hx : x.2 = true
      · rw [if_pos hx] at h ⊢
        have := ih (k := k) (by simpa using hk) h
        rw [this, if_pos hx]
        simp
      · rw [if_neg hx] at h
        simp at h
theorem catX_stop {l : List (List Int × Bool)} {k : Nat} (h : (catX (l.take k)).2 = false) : catX l = catX (l.take k) := by
  induction l generalizing k with
  | nil => simp [catX] at h
  | cons x l ih =>
    cases k with
    | zero => simp [catX] at h
    | succ k =>
      simp only [List.take_succ_cons, catX] at h ⊢
      by_cases hx : x.2 = true
      · rw [if_pos hx] at h
        rw [ih h]
      · simp [hx]

theorem preL_sum (l : List Tr) : ((l.map preT).map fun x => x.1.length).sum ≤ (l.map partsR).sum := by
  induction l with
  | nil => simp
  | cons x l ih =>
    have := preT_len x
    simp only [List.map_cons, List.sum_cons]
    omega
/-- The prefix of the first k of some trees. -/
def preK (ks : List Tr) (k : Nat) : List Int × Bool := catX ((ks.map preT).take k)
theorem preK_len (ks : List Tr) (k : Nat) (hk : k < ks.length) : (preK ks k).1.length + partsR ks[k] ≤ (ks.map partsR).sum := by
  have h1 := catX_len ((ks.map preT).take k)
  have h2 := preL_sum (ks.take k)
  rw [List.map_take] at h2
  have h3 : ks = ks.take k ++ ks[k] :: ks.drop (k + 1) := by simp
  have h4 : (ks.map partsR).sum = ((ks.take k).map partsR).sum + (partsR ks[k] + ((ks.drop (k + 1)).map partsR).sum) := by
    conv => lhs; rw [h3]
    rw [List.map_append, List.sum_append_nat, List.map_cons, List.sum_cons]
  unfold preK
  omega
theorem preK_next (ks : List Tr) (k : Nat) (hk : k < ks.length) (h : (preK ks k).2 = true) : preK ks (k + 1) = ((preK ks k).1 ++ (preT ks[k]).1, (preT ks[k]).2) := by
  unfold preK at h ⊢
  rw [catX_take (by simpa using hk) h]
  simp
theorem preK_all (ks : List Tr) : preK ks ks.length = catX (ks.map preT) := by
  unfold preK
  rw [List.take_of_length_le (by simp)]
theorem preK_stop (ks : List Tr) (k : Nat) (h : (preK ks k).2 = false) : preK ks k = catX (ks.map preT) := (catX_stop h).symm

set_option maxHeartbeats 1600000 in
set_option maxRecDepth 100000 in
theorem prow_any (ks : List Tr) (IH : ∀ k ∈ ks, BeginOf k) : RowXOf ks := by
  intro w0 w kv v l hs hK hb hO hlen
  obtain ⟨A, c, rfl, hc, hcm, hn, hA0, -⟩ := id hK
  have HI : Hid (∀ (k : Nat) (hk : k < ks.length) (W : World) (V : Value), Below w0.heap.size w0 W → OwnN W w0.heap.size V (l ++ (preK ks k).1) → ∃ kb ko, A = some ⟨kb, ko, none⟩ ∧ Calls Try.prog 47 #[.pointer (some ⟨kb, ko + k * 10, none⟩), V] W (BegPost w0.heap.size (l ++ (preK ks k).1) (preT ks[k]) W)) := Lib.hid fun k hk W V hW hV => by
    obtain ⟨kb, ko, hA, hT⟩ := TAt.kid hK k hk
    refine ⟨kb, ko, hA, IH _ (List.getElem_mem hk) w0 W kb _ V _ (hs _ (List.getElem_mem hk)) hT hW hV ?_⟩
    have := preK_len ks k hk
    rw [List.length_append]
    omega
  have HO := Lib.hid hO; have HB := Lib.hid hb
  obtain ⟨n, hnn⟩ : ∃ n, ks.length = n := ⟨_, rfl⟩
  have HN := Lib.hid hnn
  rw [hnn] at hn hc
  rw [hnn]
  clear hK hs IH hlen hb hO hnn hA0
  go_enter Try.func95, Try.ntmps95
  go_wp2_with fail
  go_loopw [1, 6, 7] (fun vm ex i wr => ∃ k : Nat, k ≤ n ∧ i = .int .i64 k ∧ ex = .bool (preK ks k).2 ∧ OwnN wr w0.heap.size vm (l ++ (preK ks k).1) ∧ Below w0.heap.size w wr) (fun _ _ i _ => n - (intOf i).toNat)
  case atStart => exact ⟨0, by omega, rfl, rfl, by simpa [preK, catX] using HO.out, Below.refl _ _⟩
  case round =>
    obtain ⟨k, hk, rfl, rfl, hv, hbr⟩ := hrel
    obtain ⟨D, hD⟩ : ∃ D, (preK ks k).2 = D := ⟨_, rfl⟩
    have HD := Lib.hid hD; have HV := Lib.hid hv; have HBR := Lib.hid hbr
    rw [hD]
    have HIk := HI.out k
    clear hv hbr hD
    cases D
    · clear HIk
      go_wp2_with fail
      go_ret2
      have hst := preK_stop ks k HD.out
      exact ⟨_, by rw [← hst, HD.out]; rfl, by rw [← hst]; exact HV.out, HBR.out⟩
    · by_cases hkn : k < n
      · obtain ⟨kb, ko, hA, hC⟩ := HIk (by rw [HN.out]; exact hkn) wr u1 (HB.out.trans HBR.out) HV.out
        subst hA
        have HC := Lib.hid hC
        have hd : decide ((k : Int) < (n : Int)) = true := decide_eq_true (by omega)
        clear hC HIk
        go_wp2_with fail
        refine HC.out.mono ?_
        rintro e w2 ⟨v2, rfl, h2, hb2⟩
        have hkl : k < ks.length := by rw [HN.out]; exact hkn
        have hnx := preK_next ks k hkl HD.out
        have e2 : (preT ks[k]).2 = (preK ks (k + 1)).2 := by rw [hnx]
        have e1 : l ++ (preK ks k).1 ++ (preT ks[k]).1 = l ++ (preK ks (k + 1)).1 := by rw [hnx, List.append_assoc]
        rw [e1] at h2
        rw [e2]
        have H2 := Lib.hid h2; have HB2 := Lib.hid hb2
        clear h2 hb2 e1 e2 hnx hkl
        go_wp2_with fail
        exact ⟨⟨k + 1, by omega, by go_num, rfl, H2.out, HBR.out.trans HB2.out⟩, by simp only [intOf]; omega⟩
      · have hd : decide ((k : Int) < (n : Int)) = false := decide_eq_false (by omega)
        clear HIk
        go_wp2_with fail
        go_ret2
        have hst := preK_all ks
        rw [HN.out, show n = k by omega] at hst
        exact ⟨_, by rw [← hst, HD.out]; rfl, by rw [← hst]; exact HV.out, HBR.out⟩
set_option maxHeartbeats 1600000 in
set_option maxRecDepth 100000 in
theorem pbegin_any (t : Tr) : BeginOf t := by
  refine Tr.ind (P := BeginOf) (fun t ih => ?_) t
  intro w0 w b o v l hs hT hb hO hlen
  obtain ⟨hF, hKO, -, hks⟩ := (shapedP_iff t).1 hs
  have hlo := hF.1
  have hhi := hF.2.1
  have hone : ∀ x, t.kids = [x] → ∃ kb ko c, w.cell? ⟨b, o + 1, none⟩ = some (.slice (some ⟨kb, ko, none⟩) 1 c) ∧ Calls Try.prog 47 #[.pointer (some ⟨kb, ko, none⟩), v] w (BegPost w0.heap.size l (preT x) w) := fun x hx => by
    obtain ⟨kb, ko, c, d1, hT'⟩ := hT.one hx
    have hm : x ∈ t.kids := by rw [hx]; exact List.mem_singleton.2 rfl
    refine ⟨kb, ko, c, (hb.cell (World.block_lt_of_cell? w0 _ d1)).trans d1, ih x hm w0 w kb ko v l (hks x hm) hT' hb hO ?_⟩
    have := partsR_kid hm
    omega
  have hrow : ∀ kv, Kds w0 t.kids kv → Calls Try.prog 95 #[kv, v] w (BegPost w0.heap.size l (catX (t.kids.map preT)) w) := fun kv hkv => by
    refine prow_any t.kids ih w0 w kv v l hks hkv hb hO ?_
    have := partsR_eq t
    omega
  obtain ⟨A, n, c, a2, s, c3, hn, -, hd, hnb, -, hK, -, hFl⟩ := hT.ten
  have lift : ∀ {a : Addr} {u : Value}, w0.cell? a = some u → w.cell? a = some u := fun h => (hb.cell (World.block_lt_of_cell? w0 _ h)).trans h
  obtain ⟨d0, d1, d2, -, -, -, -, d7, -, -⟩ := hd
  have d0 := lift d0; have d1 := lift d1; have d2 := lift d2; have d7 := lift d7
  have hrow := hrow _ hK
  rw [hn] at hKO
  have hr32 : I32 t.fld.rune := hFl.2.1
  have hpre := preT_eq t
  unfold preX at hpre
  obtain ⟨op, hop⟩ : ∃ x, t.fld.op = x := ⟨_, rfl⟩
  obtain ⟨rn, hrn⟩ : ∃ x, t.fld.rune = x := ⟨_, rfl⟩
  obtain ⟨mn, hmn⟩ : ∃ x, t.fld.min = x := ⟨_, rfl⟩
  obtain ⟨P, hP⟩ : ∃ x, preT t = x := ⟨_, rfl⟩
  rw [hop] at d0 hlo hhi hKO hpre
  rw [hrn] at d2 hr32 hpre
  rw [hmn] at d7 hpre
  rw [hP] at hpre ⊢
  have HO := Lib.hid hO; have HL := Lib.hid hlen; have HB := Lib.hid hb
  have HROW := Lib.hid hrow
  obtain ⟨ks, hkse⟩ : ∃ x, t.kids = x := ⟨_, rfl⟩
  rw [hkse] at hone hrow HROW hpre hn
  have hp1 := partsR_pos t
  obtain ⟨pt, hpt⟩ : ∃ x, partsR t = x := ⟨_, rfl⟩
  rw [hpt] at hlen HL hp1
  clear hs hT hb hO ih hF hks hK hFl hop hrn hmn hP hkse hpt hrow lift
  have one1 : op = 6 ∨ op = 8 ∨ op = 10 ∨ (op = 12 ∧ n = 1) → ∃ x kb ko c, ks = [x] ∧ w.cell? ⟨b, o + 1, none⟩ = some (.slice (some ⟨kb, ko, none⟩) 1 c) ∧ Calls Try.prog 47 #[.pointer (some ⟨kb, ko, none⟩), v] w (BegPost w0.heap.size l (preT x) w) := fun h => by
    have hn1 : ks.length = 1 := by rw [hn]; have := hKO.1; omega
    obtain ⟨x, hx⟩ := List.length_eq_one_iff.1 hn1
    obtain ⟨kb, ko, c, h1, h2⟩ := hone x hx
    exact ⟨x, kb, ko, c, hx, h1, h2⟩
  clear hone
  by_cases x2 : op = 2
  · subst x2
    simp at hpre
    subst hpre
    clear one1 hlo hhi hKO
    go_enter Try.func47, Try.ntmps47
    go_wp2_with fail
    go_ret2
    exact ⟨_, rfl, by simpa using HO.out, Below.refl _ _⟩
  by_cases x3 : op = 3
  · subst x3
    simp at hpre
    subst hpre
    clear one1 hlo hhi hKO
    have hb1 : Below w0.heap.size w (w.alloc (.cells #[.int .i32 rn] 21)) := (Below.refl _ w).alloc HB.out.size _
    have HO1 := Lib.hid (HO.out.below ((Below.refl _ w).alloc (Nat.le_refl _) (.cells #[.int .i32 rn] 21)))
    have HB1 := Lib.hid hb1
    have HR1 := Lib.hid (rns_new w rn hr32)
    have HPT := Lib.hid hp1
    clear hb1 hr32 HO hlen hp1
    go_enter Try.func47, Try.ntmps47
    go_wp2_with (at_builtin; refine append_rns rfl (.tmp 15) (.tmp 20) rfl w0.heap.size v l rfl HO1.out (some ⟨w.heap.size, 0, none⟩) 1 1 [rn] rfl HR1.out ?c1 ?c2 ?_)
    case c1 => have := HL.out; have := HPT.out; simp; omega
    case c2 => exact Nat.le_trans HB.out.size HB1.out.size
    intro v2 w2 h2 hg2
    have HB2 := Lib.hid (HB1.out.grown hg2 (Nat.le_trans HB.out.size HB1.out.size) (fun j hj => (HO1.out.1.lt j hj).1))
    have H2 := Lib.hid h2
    clear h2 hg2
    go_wp2_with fail
    go_ret2
    exact ⟨_, rfl, H2.out, HB2.out⟩
  by_cases x6 : op = 6
  · subst x6
    obtain ⟨x, kb, ko, c', hx, d1', hC⟩ := one1 (.inl rfl)
    subst hx
    simp at hpre
    subst hpre
    have HC := Lib.hid hC
    clear one1 hlo hhi hKO hC d1
    go_enter Try.func47, Try.ntmps47
    go_wp2_with fail
    refine HC.out.mono ?_
    rintro e w2 ⟨v2, rfl, h2, hb2⟩
    have H2 := Lib.hid h2; have HB2 := Lib.hid hb2
    clear h2 hb2
    go_wp2_with fail
    go_ret2
    exact ⟨_, rfl, H2.out, HB2.out⟩
  by_cases x11 : op = 11
  · subst x11
    simp at hpre
    subst hpre
    clear one1 hlo hhi hKO
    go_enter Try.func47, Try.ntmps47
    go_wp2_with fail
    refine HROW.out.mono ?_
    rintro e w2 ⟨v2, rfl, h2, hb2⟩
    have H2 := Lib.hid h2; have HB2 := Lib.hid hb2
    clear h2 hb2
    go_wp2_with fail
    go_ret2
    exact ⟨_, rfl, H2.out, HB2.out⟩
  have e2 : (op == 2) = false := beq_eq_false_iff_ne.2 x2
  have e3 : (op == 3) = false := beq_eq_false_iff_ne.2 x3
  have e6 : (op == 6) = false := beq_eq_false_iff_ne.2 x6
  have e11 : (op == 11) = false := beq_eq_false_iff_ne.2 x11
  simp only [x2, x3, x11, if_false] at hpre
  by_cases x12 : op = 12
  · by_cases hn1 : n = 1
    · obtain ⟨x, kb, ko, c', hx, d1', hC⟩ := one1 (.inr (.inr (.inr ⟨x12, hn1⟩)))
      subst hx x12 hn1
      simp at hpre
      subst hpre
      have HC := Lib.hid hC
      clear one1 hlo hhi hKO hC d1 x2 x3 x6 x11 e2 e3 e6 e11
      go_enter Try.func47, Try.ntmps47
      go_wp2_with fail
      refine HC.out.mono ?_
      rintro e w2 ⟨v2, rfl, h2, hb2⟩
      have H2 := Lib.hid h2; have HB2 := Lib.hid hb2
      clear h2 hb2
      go_wp2_with fail
      go_ret2
      exact ⟨_, rfl, H2.out, HB2.out⟩
    · have hp2 : P = ([], false) := by
        rw [hpre]
        split
        · rename_i y hy
          have := congrArg List.length hy
          rw [List.length_map, hn] at this
          simp at this
          exact absurd this hn1
        · rfl
      subst hp2 x12
      have en : ((n : Int) == 1) = false := beq_eq_false_iff_ne.2 (by omega)
      clear one1 hlo hhi hKO x2 x3 x6 x11 e2 e3 e6 e11 hpre
      go_enter Try.func47, Try.ntmps47
      go_wp2_with fail
      go_ret2
      exact ⟨_, rfl, by simpa using HO.out, Below.refl _ _⟩
  have e12 : (op == 12) = false := beq_eq_false_iff_ne.2 x12
  by_cases x8 : op = 8 ∨ (op = 10 ∧ 0 < mn)
  · obtain ⟨x, kb, ko, c', hx, d1', hC⟩ := one1 (by omega)
    subst hx
    have hp2 : P = ((preT x).1, false) := by
      rw [hpre]
      simp [x6, x12, x8]
    subst hp2
    have HC := Lib.hid hC
    clear one1 hlo hhi hKO hC d1 x2 x3 x6 x11 x12 hpre
    rcases x8 with rfl | ⟨rfl, hmn⟩
    all_goals
      try have hd : decide (0 < mn) = true := decide_eq_true hmn
      clear e2 e3 e6 e11 e12
      go_enter Try.func47, Try.ntmps47
      go_wp2_with fail
      refine HC.out.mono ?_
      rintro e w2 ⟨v2, rfl, h2, hb2⟩
      have H2 := Lib.hid h2; have HB2 := Lib.hid hb2
      clear h2 hb2
      go_wp2_with fail
      go_ret2
      exact ⟨_, rfl, H2.out, HB2.out⟩
  have hp2 : P = ([], false) := by
    rw [hpre]
    split
    · simp [x6, x12, x8]
    · rfl
  subst hp2
  by_cases x10 : op = 10
  · subst x10
    have hd : decide (0 < mn) = false := decide_eq_false (fun h => x8 (.inr ⟨rfl, h⟩))
    clear one1 hlo hhi hKO x2 x3 x6 x11 x12 x8 e2 e3 e6 e11 e12 hpre
    go_enter Try.func47, Try.ntmps47
    go_wp2_with fail
    go_ret2
    exact ⟨_, rfl, by simpa using HO.out, Below.refl _ _⟩
  have e8 : (op == 8) = false := beq_eq_false_iff_ne.2 (fun h => x8 (.inl h))
  have e10 : (op == 10) = false := beq_eq_false_iff_ne.2 x10
  clear one1 hlo hhi hKO x2 x3 x6 x11 x12 x8 x10 hpre
  go_enter Try.func47, Try.ntmps47
  go_wp2_with fail
  go_ret2
  exact ⟨_, rfl, by simpa using HO.out, Below.refl _ _⟩
end Go.Proofs.Ytnemacejaiifnaa
/- Prefix: the document's answer for a shaped tree. No condition. -/
namespace Go.Proofs.Ytnemacejaiifnaa
open Go Go.RowKit

/-- What is told of a prefix: its runes, in a row of the call's own; is it exact? -/
def PrePost (p : List Int × Bool) (w : World) (e : Ending) (w' : World) : Prop := ∃ v', e = .returned (.tuple #[v', .bool p.2]) ∧ OwnN w' w.heap.size v' p.1 ∧ Below w.heap.size w w'
end Go.Proofs.Ytnemacejaiifnaa
