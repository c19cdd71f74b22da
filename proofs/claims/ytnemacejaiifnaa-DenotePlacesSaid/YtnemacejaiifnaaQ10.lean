/- Texts merged by program: DnTurns, DnEither. No condition. -/
import Derived.Test.YtnemacejaiifnaaQ9
import Derived.OwnWalk
import Derived.Laws.OwnMore
import Derived.Laws.AppendOwnNone
import Derived.Lib.SmallJoins
set_option linter.unusedVariables false
/- The stack of what is to be done: a row of turns of the call's own, an append onto it, its last one taken. No condition. -/
namespace Go.Proofs.Ytnemacejaiifnaa
open Go Go.RowKit

/-- A turn: a part, and a place. -/
abbrev Tn := Fv × Int
def cellsT (k : List Tn) : List Value := k.flatMap fun r => [r.1.v, .int .i64 r.2]
theorem cellsT_append (a b : List Tn) : cellsT (a ++ b) = cellsT a ++ cellsT b := by simp [cellsT]
theorem cellsT_length : ∀ k : List Tn, (cellsT k).length = k.length * 2
  | [] => rfl
  | r :: k => by
    have h := cellsT_length k
    have e : cellsT (r :: k) = [r.1.v, .int .i64 r.2] ++ cellsT k := rfl
    rw [e, List.length_append, h]
    simp
    omega
theorem cellsT_at : ∀ (k : List Tn) (i : Nat) (h : i < k.length), (cellsT k)[i * 2]? = some k[i].1.v ∧ (cellsT k)[i * 2 + 1]? = some (.int .i64 k[i].2)
  | [], i, h => by simp at h
  | r :: k, 0, h => ⟨rfl, rfl⟩
  | r :: k, i + 1, h => by
    have e : cellsT (r :: k) = r.1.v :: .int .i64 r.2 :: cellsT k := rfl
    have h' := cellsT_at k i (by simpa using h)
    rw [e, show (i + 1) * 2 = i * 2 + 1 + 1 by omega]
    simpa using h'
theorem cellsT_one (k : List Tn) : ∀ u ∈ cellsT k, u.oneCell' = true := fun u hu => by
  obtain ⟨r, -, h⟩ := List.mem_flatMap.1 hu
  rcases List.mem_cons.1 h with rfl | h
  · rfl
  · rw [List.mem_singleton.1 h]; rfl
theorem info_turn : (Try.prog.info? 119).map (fun i => (i.zero, i.size, i.bytes)) = some (some (.agg #[.nilFunc, .int .i64 0]), 2, 16) := by kernel_rfl
/-- The value v owns a row of turns, among the blocks from B on. -/
def OwnTn (w : World) (B : Nat) (v : Value) (k : List Tn) : Prop := w.ownsRow B 119 2 v k.length (cellsT k)
theorem OwnTn.below {w w' : World} {B : Nat} {v : Value} {k : List Tn} (h : OwnTn w B v k) (hb : Below w.heap.size w w') : OwnTn w' B v k :=
  World.ownsRow.kept h (row := none) ⟨hb.os, hb.tape, hb.output, hb.size, fun k hk _ => hb.block k hk⟩ (by cases v.ownBlock <;> simp)
theorem own_turns (w : World) (B : Nat) : OwnTn w B (.slice none 0 0) [] := World.ownsRow_nil _ _ _ _
theorem own_slice_t {w : World} {base : Nat} {e : TypeId} {s n : Nat} {v : Value} {xs : List Value} (h : w.ownsRow base e s v n xs) : (v = .slice none 0 0 ∧ n = 0) ∨ ∃ g c, v = .slice (some ⟨g, 0, none⟩) n c ∧ n ≤ c ∧ c ≤ maxLen ∧ base ≤ g := by
  rcases h.2 with h | ⟨q, cap, cur, rfl, hb, _, hn, hm, _⟩
  · exact .inl h
  · exact .inr ⟨_, _, rfl, hn, hm, hb⟩
/-- The row up to a place. -/
theorem own_take {w : World} {base : Nat} {e : TypeId} {s n : Nat} {A : Option Addr} {c : Nat} {xs : List Value} (h : w.ownsRow base e s (.slice A n c) n xs) (k : Nat) (hk : k ≤ n) : w.ownsRow base e s (.slice A k c) k (xs.take (k * s)) := by
  have hle : k * s ≤ n * s := Nat.mul_le_mul_right _ hk
  refine ⟨by rw [List.length_take, h.1]; omega, ?_⟩
  rcases h.2 with ⟨h1, h2⟩ | ⟨q, cap, cur, h1, hb, hh, hn, hm, hs, ht⟩
  · injection h1 with e1 e2 e3
    subst e1 e3
    have : k = 0 := by omega
    subst this
    exact .inl ⟨rfl, rfl⟩
  · injection h1 with e1 e2 e3
    subst e1 e3
    refine .inr ⟨q, c, cur, rfl, hb, hh, by omega, hm, hs, ?_⟩
    rw [← ht, List.take_take, Nat.min_eq_left hle]
theorem OwnTn.take {w : World} {B : Nat} {A : Option Addr} {c : Nat} {l : List Tn} {x : Tn} (h : OwnTn w B (.slice A (l ++ [x]).length c) (l ++ [x])) : OwnTn w B (.slice A l.length c) l := by
  have := own_take h l.length (by simp)
  rw [cellsT_append, List.take_append_of_le_length (by rw [cellsT_length]; exact Nat.le_refl _), List.take_of_length_le (by rw [cellsT_length]; exact Nat.le_refl _)] at this
  exact this
/-- An append of a turn onto a row of the call's own. -/
theorem append_turn {w : World} {ops : Array Oper} {rest : List Oper} {o : Oper} {a : Act} {Q : Exit → Act → World → Prop} (hgd : o.guard = none) (x y : Operand)
    (ho : o.op = .call { callee := .builtin .append, args := #[x, y], argTypes := #[79, 79] })
    (base : Nat) (v : Value) (O : List Tn) (hs : a.eval x = v) (hown : OwnTn w base v O)
    (b : Nat) (r : Tn) (hx : a.eval y = .slice (some ⟨b, 0, none⟩) 1 1) (h0 : w.cell? ⟨b, 0, none⟩ = some r.1.v) (h1 : w.cell? ⟨b, 1, none⟩ = some (.int .i64 r.2)) (hn : O.length + 1 ≤ 4398046511104) (hbase : base ≤ w.heap.size)
    (h : ∀ v' w', OwnTn w' base v' (O ++ [r]) → w.grownBy w' v.ownBlock → wpList Try.prog ops Q rest (a.put o.dst v') w') : wpList Try.prog ops Q (o :: rest) a w := by
  obtain ⟨i, hi, hz, hsize, hby⟩ := info_parts info_turn
  refine wpList_append_own w hgd x y 79 ho base 119 i (.agg #[.nilFunc, .int .i64 0]) 2 16 Try.underlying79 hi hz hsize hby rfl (by omega) v O.length (cellsT O) hs hown ⟨b, 0, none⟩ 1 1 (cellsT [r]) hx rfl ?_ (cellsT_one _) (by unfold maxLen; omega) (by omega) hbase (fun v' w' g1 g2 _ => h v' w' ?_ g2)
  · intro j u hu
    have hadd : (⟨b, 0, none⟩ : Addr).add j = ⟨b, j, none⟩ := by unfold Addr.add; split <;> simp_all
    rw [hadd]
    match j, hu with
    | 0, hu => simpa [cellsT] using h0.trans (by simpa [cellsT] using hu)
    | 1, hu => simpa [cellsT] using h1.trans (by simpa [cellsT] using hu)
    | j + 2, hu => simp [cellsT] at hu
  · unfold OwnTn
    rw [cellsT_append, List.length_append]
    exact g1

/-- All but the blocks of A are as they were. -/
structure Kp (A : Nat → Prop) (w w' : World) : Prop where
  os : w'.os = w.os
  tape : w'.tape = w.tape
  output : w'.output = w.output
  size : w.heap.size ≤ w'.heap.size
  block : ∀ k, k < w.heap.size → ¬ A k → w'.heap[k]? = w.heap[k]?
theorem Kp.refl (A : Nat → Prop) (w : World) : Kp A w w := ⟨rfl, rfl, rfl, Nat.le_refl _, fun _ _ _ => rfl⟩
theorem Kp.trans {A : Nat → Prop} {a b c : World} (h : Kp A a b) (k : Kp A b c) : Kp A a c :=
  ⟨k.os.trans h.os, k.tape.trans h.tape, k.output.trans h.output, Nat.le_trans h.size k.size, fun i hi hA => (k.block i (Nat.lt_of_lt_of_le hi h.size) hA).trans (h.block i hi hA)⟩
theorem Kp.mono {A A' : Nat → Prop} {w w' : World} (h : Kp A w w') (hA : ∀ b, b < w.heap.size → A b → A' b) : Kp A' w w' := ⟨h.os, h.tape, h.output, h.size, fun k hk hn => h.block k hk fun ha => hn (hA k hk ha)⟩
theorem Kp.of_below {A : Nat → Prop} {w w' : World} (h : Below w.heap.size w w') : Kp A w w' := ⟨h.os, h.tape, h.output, h.size, fun k hk _ => h.block k hk⟩
theorem Kp.of_grown {w w' : World} {r : Option Nat} (h : w.grownBy w' r) : Kp (fun b => some b = r) w w' := ⟨h.os, h.tape, h.output, h.size, fun k hk hn => h.block k hk hn⟩
theorem Kp.whole {A : Nat → Prop} {w w' : World} (h : Kp A w w') {b : Nat} {t : TypeId} {cs : Array Value} (k : Whole w b t cs) (hA : ¬ A b) : Whole w' b t cs := (h.block b k.lt hA).trans k
theorem Kp.below {A : Nat → Prop} {B : Nat} {w w' : World} (h : Kp A w w') (hA : ∀ b, A b → B ≤ b) (hB : B ≤ w.heap.size) : Below B w w' := ⟨h.os, h.tape, h.output, h.size, fun k hk => h.block k (by omega) fun ha => by have := hA k ha; omega⟩

/-- What 'on' leaves: one turn more on the stack. -/
def OnPost (q : Nat) (inp fv lv mv : Value) (p : Int) (ev bv : Value) (B : Nat) (l : List Tn) (x : Fv) (i : Int) (w : World) (e : Ending) (w' : World) : Prop :=
  ∃ lv', e = .returned noResult ∧ Om w' q inp fv lv' mv p ev bv ∧ OwnTn w' B lv' (l ++ [(x, i)]) ∧ Kp (fun b => b = q ∨ lv.ownBlock = some b) w w'
theorem down_ne {w : World} {base : Nat} {e t : TypeId} {s n : Nat} {v : Value} {xs : List Value} {q : Nat} {cs : Array Value} (h : w.ownsRow base e s v n xs) (hq : Whole w q t cs) (hne : e ≠ t) : v.ownBlock ≠ some q := by
  rcases h.2 with ⟨rfl, -⟩ | ⟨g, cap, cur, rfl, -, hh, -⟩
  · simp [Value.ownBlock]
  · intro e1
    have e2 : g = q := by simpa [Value.ownBlock] using e1
    subst e2
    unfold Whole at hq
    rw [hh] at hq
    injection hq with hq
    injection hq with h1 h2
    exact hne h2
theorem kp_set {A : Nat → Prop} {w w' : World} (h : Kp A w w') (q i : Nat) (u : Value) (hA : A q) : Kp A w (w'.setCell ⟨q, i, none⟩ u) :=
  h.trans ((Kp.of_grown (grown_set w' q i u)).mono fun b _ e => by have := Option.some.inj e; rw [this]; exact hA)
theorem own_set {w : World} {base : Nat} {e : TypeId} {s n : Nat} {v : Value} {xs : List Value} (h : w.ownsRow base e s v n xs) (q i : Nat) (u : Value) (hne : v.ownBlock ≠ some q) : (w.setCell ⟨q, i, none⟩ u).ownsRow base e s v n xs :=
  h.kept (grown_set w q i u) (by cases hv : v.ownBlock with | none => exact .inl rfl | some b => right; rw [← hv]; exact hne)
set_option maxHeartbeats 800000 in
theorem don_any (q : Nat) (inp fv lv mv : Value) (p : Int) (ev bv : Value) (B : Nat) (l : List Tn) (x : Fv) (i : Int) (w : World) (hO : Om w q inp fv lv mv p ev bv) (hL : OwnTn w B lv l) (hl : l.length + 1 ≤ 4398046511104) (hB : B ≤ w.heap.size) :
    Calls Try.prog 69 #[ptrV q, x.v, .int .i64 i] w (OnPost q inp fv lv mv p ev bv B l x i w) := by
  obtain ⟨g, f, c⟩ := x
  have hq := hO.lt
  obtain ⟨-, -, h2, -⟩ := om_ten hO
  have hne := down_ne hL hO (by decide)
  have HNE := Lib.hid hne
  have HO := Lib.hid hO; have HL := Lib.hid hL; have HQ := Lib.hid hq; have HBB := Lib.hid hB
  obtain ⟨w1, hw1⟩ : ∃ w1, w.alloc (.cells #[.func g f c, .int .i64 i] 119) = w1 := ⟨_, rfl⟩
  have hb1 : Below w.heap.size w w1 := by rw [← hw1]; exact (Below.refl _ _).alloc (Nat.le_refl _) _
  have hn1 : Whole w1 w.heap.size 119 #[.func g f c, .int .i64 i] := by rw [← hw1]; exact whole_new _ _ _
  have HB1 := Lib.hid hb1; have HN := Lib.hid hn1; have HW := Lib.hid hw1
  rcases own_slice_t hL with ⟨rfl, -⟩ | ⟨r, cap, rfl, -⟩
  all_goals
    clear hO hL hq hw1 hb1 hn1 hne
    go_enter Try.func69, Try.ntmps69
    go_wp2_with (at_builtin; refine append_turn rfl (.tmp 10) (.tmp 14) rfl B _ l rfl ?a1 w.heap.size (⟨g, f, c⟩, i) rfl ?a2 ?a3 hl ?a4 ?_)
    case a1 => rw [HW.out]; exact HL.out.below HB1.out
    case a4 => rw [HW.out]; exact Nat.le_trans HBB.out HB1.out.size
    rw [HW.out]
    intro v' w' ho hg
    have hO' : Om w' q inp fv _ mv p ev bv := (HO.out.below HB1.out HQ.out).grown hg HNE.out
    obtain ⟨-, -, h2', -⟩ := om_ten hO'
    have h2f := hO'.free 2
    have HO2 := Lib.hid hO'; have HT := Lib.hid ho
    have HK := Lib.hid (show Kp (fun b => b = q ∨ _ = some b) w w' from (Kp.of_below HB1.out).trans ((Kp.of_grown hg).mono fun b _ e => .inr e.symm))
    have HNE2 := Lib.hid (down_ne ho hO' (by decide))
    clear h2 ho hg hO'
    obtain ⟨A, n, c', rfl⟩ : ∃ A n c', v' = .slice A n c' := by
      rcases own_slice_t HT.out with ⟨rfl, -⟩ | ⟨r, cap, rfl, -⟩ <;> exact ⟨_, _, _, rfl⟩
    go_wp2_with fail
    go_end0
    exact ⟨_, rfl, HO2.out.store 2 _, own_set HT.out q 2 _ HNE2.out, kp_set HK.out q 2 _ (.inl rfl)⟩
end Go.Proofs.Ytnemacejaiifnaa
/- Two turns more on the stack; a place of a group put back; a part that leads on. No condition. -/
namespace Go.Proofs.Ytnemacejaiifnaa
open Go Go.RowKit

/-- What stands where, while the ways are gone: the seven fields, the stack. -/
structure Wst where
  inp : Value
  fv : Value
  mv : Value
  p : Int
  ev : Value
  bv : Value
/-- The ways' block q is so, its stack is l, of rows from block B on. -/
def St (w : World) (q B : Nat) (x : Wst) (l : List Tn) : Prop := ∃ lv, Om w q x.inp x.fv lv x.mv x.p x.ev x.bv ∧ OwnTn w B lv l ∧ B ≤ w.heap.size
/-- What may turn while turns are laid on the stack: the ways' block, and rows of turns. -/
def TurnsAt (w : World) (q B b : Nat) : Prop := b = q ∨ (B ≤ b ∧ ∃ cs : Array Value, w.heap[b]? = some (.cells cs 119 (0, 0)))
theorem ownT_at {w : World} {B : Nat} {v : Value} {l : List Tn} {b : Nat} (h : OwnTn w B v l) (hb : v.ownBlock = some b) : B ≤ b ∧ ∃ cs : Array Value, w.heap[b]? = some (.cells cs 119 (0, 0)) := by
  refine ⟨(World.ownsRow.lt h b hb).1, ?_⟩
  rcases h.2 with ⟨rfl, -⟩ | ⟨g, cap, cur, rfl, -, hh, -⟩
  · simp [Value.ownBlock] at hb
  · have : g = b := by simpa [Value.ownBlock] using hb
    exact ⟨cur, this ▸ hh⟩
/-- 'on', in these words. -/
theorem st_on {q B : Nat} {x : Wst} {l : List Tn} {w : World} (h : St w q B x l) (hl : l.length + 1 ≤ 4398046511104) (f : Fv) (i : Int) :
    Calls Try.prog 69 #[ptrV q, f.v, .int .i64 i] w fun e w' => e = .returned noResult ∧ St w' q B x (l ++ [(f, i)]) ∧ Kp (TurnsAt w q B) w w' := by
  obtain ⟨lv, hO, hL, hB⟩ := h
  refine (don_any q _ _ lv _ _ _ _ B l f i w hO hL hl hB).mono ?_
  rintro e w' ⟨lv', rfl, k1, k2, k3⟩
  exact ⟨rfl, ⟨lv', k1, k2, Nat.le_trans hB k3.size⟩, k3.mono fun b _ hb => hb.imp id fun hb => ownT_at hL hb⟩
theorem turnsAt_back {w w' : World} {q B b : Nat} (h : Kp (TurnsAt w q B) w w') (hb : b < w.heap.size) (k : TurnsAt w' q B b) : TurnsAt w q B b := by
  rcases k with k | ⟨hB, cs, k⟩
  · exact .inl k
  · rcases Classical.em (TurnsAt w q B b) with h1 | h1
    · exact h1
    · exact .inr ⟨hB, cs, by rw [← h.block b hb h1]; exact k⟩
theorem Kp.turns {w w' w'' : World} {q B : Nat} (h : Kp (TurnsAt w q B) w w') (k : Kp (TurnsAt w' q B) w' w'') : Kp (TurnsAt w q B) w w'' :=
  ⟨k.os.trans h.os, k.tape.trans h.tape, k.output.trans h.output, Nat.le_trans h.size k.size, fun i hi hA => (k.block i (Nat.lt_of_lt_of_le hi h.size) fun hk => hA (turnsAt_back h hi hk)).trans (h.block i hi hA)⟩
/-- Two turns, in the order in which they lie on the stack. -/
def twoT (z : Bool) (more stop : Fv) (i : Int) : List Tn := if z then [(more, i), (stop, i)] else [(stop, i), (more, i)]
set_option maxHeartbeats 800000 in
theorem st_either {q B : Nat} {x : Wst} {l : List Tn} {w : World} (h : St w q B x l) (hl : l.length + 2 ≤ 4398046511104) (z : Bool) (more stop : Fv) (i : Int) :
    Calls Try.prog 120 #[ptrV q, .bool z, more.v, stop.v, .int .i64 i] w fun e w' => e = .returned noResult ∧ St w' q B x (l ++ twoT z more stop i) ∧ Kp (TurnsAt w q B) w w' := by
  have key : ∀ a b : Fv, Calls Try.prog 69 #[ptrV q, a.v, .int .i64 i] w fun e w' => e = .returned noResult ∧ (Calls Try.prog 69 #[ptrV q, b.v, .int .i64 i] w' fun e w'' => e = .returned noResult ∧ St w'' q B x (l ++ [(a, i), (b, i)]) ∧ Kp (TurnsAt w q B) w w'') := by
    intro a b
    refine (st_on h (by omega) a i).mono ?_
    rintro e w' ⟨rfl, h1, k1⟩
    refine ⟨rfl, (st_on h1 (by simp; omega) b i).mono ?_⟩
    rintro e w'' ⟨rfl, h2, k2⟩
    rw [List.append_assoc] at h2
    exact ⟨rfl, h2, k1.turns k2⟩
  have K1 := Lib.hid (key stop more); have K2 := Lib.hid (key more stop)
  obtain ⟨g1, f1, c1⟩ := more
  obtain ⟨g2, f2, c2⟩ := stop
  clear key h
  cases z
  · go_enter Try.func120, Try.ntmps120
    go_wp2_with fail
    refine K1.out.mono ?_
    rintro e w' ⟨rfl, HC⟩
    replace HC := Lib.hid HC
    go_wp2_with fail
    refine HC.out.mono ?_
    rintro e w'' ⟨rfl, HC2⟩
    replace HC2 := Lib.hid HC2
    go_wp2_with fail
    go_end0
    exact ⟨rfl, HC2.out⟩
  · go_enter Try.func120, Try.ntmps120
    go_wp2_with fail
    refine K2.out.mono ?_
    rintro e w' ⟨rfl, HC⟩
    replace HC := Lib.hid HC
    go_wp2_with fail
    refine HC.out.mono ?_
    rintro e w'' ⟨rfl, HC2⟩
    replace HC2 := Lib.hid HC2
    go_wp2_with fail
    go_end0
    exact ⟨rfl, HC2.out⟩
end Go.Proofs.Ytnemacejaiifnaa
