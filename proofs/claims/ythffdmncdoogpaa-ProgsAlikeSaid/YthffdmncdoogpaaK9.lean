/- Texts merged by program: PgScope. No condition. -/
import Derived.ScopeJumps
import Derived.WalkMore
import Derived.WalkKit
set_option linter.unusedVariables false
/- A scope in which the run jumps back to two labels, 0 and 1, each jump to a lesser measure; frames of many slots. -/
namespace Go.Proofs.Ythffdmncdoogpaa
open Go Go.RowKit

/-- By a goto to label 0: J0; to label 1: J1; else as Q. -/
def two (J0 J1 : Act → World → Prop) (Q : Exit → Act → World → Prop) : Exit → Act → World → Prop
  | .goto 0, a, w => J0 a w
  | .goto 1, a, w => J1 a w
  | .goto _, _, _ => False
  | e, a, w => Q e a w
section
variable {J0 J1 : Act → World → Prop} {Q : Exit → Act → World → Prop} {a : Act} {w : World}
theorem two_ret : two J0 J1 Q .ret a w = Q .ret a w := rfl
theorem two_normal : two J0 J1 Q .normal a w = Q .normal a w := rfl
theorem two_exit {k : Nat} : two J0 J1 Q (.exit k) a w = Q (.exit k) a w := rfl
theorem two_back : two J0 J1 Q (.goto 0) a w = J0 a w := rfl
theorem two_on : two J0 J1 Q (.goto 1) a w = J1 a w := rfl
end
theorem two_mono {J0 J1 K0 K1 : Act → World → Prop} {Q : Exit → Act → World → Prop} (h0 : ∀ a w, J0 a w → K0 a w) (h1 : ∀ a w, J1 a w → K1 a w) : ∀ e a w, two J0 J1 Q e a w → two K0 K1 Q e a w
  | .goto 0, a, w, h => h0 a w h
  | .goto 1, a, w, h => h1 a w h
  | .goto (_ + 2), _, _, h => h
  | .normal, _, _, h => h
  | .exit _, _, _, h => h
  | .ret, _, _, h => h
  | .panic _, _, _, h => h
  | .outgrown, _, _, h => h
section
variable {P : Program} {Q : Exit → Act → World → Prop}
theorem wp_scope_two {c r0 r1 : Code} (J0 J1 : Nat → Act → World → Prop) (h0 : findLabel c 0 = some (Code.seq .skip r0)) (h1 : findLabel c 1 = some (Code.seq .skip r1))
    (p1 : ∀ n a w, J1 n a w → r1.wp P (two (fun a w => ∃ m, m < n ∧ J0 m a w) (fun a w => ∃ m, m < n ∧ J1 m a w) Q) a w)
    (p0 : (∀ n a w, J1 n a w → r1.wp P (two (fun a w => ∃ m, m < n ∧ J0 m a w) (fun a w => ∃ m, m < n ∧ J1 m a w) Q) a w) →
      ∀ n a w, J0 n a w → r0.wp P (two (fun a w => ∃ m, m < n ∧ J0 m a w) (fun a w => ∃ m, m < n ∧ J1 m a w) Q) a w)
    {a : Act} {w : World}
    (first : (∀ n a w, J0 n a w → r0.wp P (two (fun a w => ∃ m, J0 m a w) (fun a w => ∃ m, J1 m a w) Q) a w) → c.wp P (two (fun a w => ∃ m, J0 m a w) (fun a w => ∃ m, J1 m a w) Q) a w) :
    (Code.scope c).wp P Q a w := by
  intro b k cs
  have g0 : gotoIn 0 (.inScope c :: k) = some (.code (Code.seq .skip r0) :: .inScope c :: k) := by simp [gotoIn, h0]
  have g1 : gotoIn 1 (.inScope c :: k) = some (.code (Code.seq .skip r1) :: .inScope c :: k) := by simp [gotoIn, h1]
  have P0 := p0 p1
  -- from any label, with whatever measure, the run comes to the scope's end
  have key : ∀ n, (∀ a w, J0 n a w → ∃ e a' w', Q e a' w' ∧ Arrives P (lone (b.at a (.code (Code.seq .skip r0) :: .inScope c :: k)) cs w) b k cs e a' w') ∧
      (∀ a w, J1 n a w → ∃ e a' w', Q e a' w' ∧ Arrives P (lone (b.at a (.code (Code.seq .skip r1) :: .inScope c :: k)) cs w) b k cs e a' w') := by
    intro n
    induction n using Nat.strongRecOn with
    | _ n ih =>
      have go : ∀ (r : Code) a w, r.wp P (two (fun a w => ∃ m, m < n ∧ J0 m a w) (fun a w => ∃ m, m < n ∧ J1 m a w) Q) a w →
          ∃ e a' w', Q e a' w' ∧ Arrives P (lone (b.at a (.code (Code.seq .skip r) :: .inScope c :: k)) cs w) b k cs e a' w' := by
        intro r a w hr
        obtain ⟨e, a₁, w₁, hq, harr⟩ := (wp_seq (x := .skip) (wp_skip hr)) b (.inScope c :: k) cs
        cases e with
        | normal => exact ⟨.normal, a₁, w₁, hq, Steps.trans harr (.one step_inScope)⟩
        | exit id => exact ⟨.exit id, a₁, w₁, hq, fun k' hk => harr k' (by simp [exitTo, hk])⟩
        | ret => exact ⟨_, a₁, w₁, hq, harr⟩
        | panic ch => exact ⟨_, a₁, w₁, hq, harr⟩
        | outgrown => exact ⟨_, a₁, w₁, hq, harr⟩
        | goto l =>
          match l, hq, harr with
          | 0, ⟨m, hm, hj⟩, harr =>
            obtain ⟨e₂, a₂, w₂, hq₂, harr₂⟩ := (ih m hm).1 a₁ w₁ hj
            exact ⟨e₂, a₂, w₂, hq₂, .of_steps (harr _ g0) harr₂⟩
          | 1, ⟨m, hm, hj⟩, harr =>
            obtain ⟨e₂, a₂, w₂, hq₂, harr₂⟩ := (ih m hm).2 a₁ w₁ hj
            exact ⟨e₂, a₂, w₂, hq₂, .of_steps (harr _ g1) harr₂⟩
          | _ + 2, hq, _ => exact hq.elim
      exact ⟨fun a w hj => go r0 a w (P0 n a w hj), fun a w hj => go r1 a w (p1 n a w hj)⟩
  have hf := first fun n a w hj => wp_mono (P0 n a w hj) (two_mono (fun a w ⟨m, _, h⟩ => ⟨m, h⟩) (fun a w ⟨m, _, h⟩ => ⟨m, h⟩))
  obtain ⟨e, a₁, w₁, hq, harr⟩ := hf b (.inScope c :: k) cs
  cases e with
  | normal => exact ⟨.normal, a₁, w₁, hq, .head step_scope (Steps.trans harr (.one step_inScope))⟩
  | exit id => exact ⟨.exit id, a₁, w₁, hq, fun k' hk => .head step_scope (harr k' (by simp [exitTo, hk]))⟩
  | ret => exact ⟨_, a₁, w₁, hq, .of_steps (.one step_scope) harr⟩
  | panic ch => exact ⟨_, a₁, w₁, hq, .of_steps (.one step_scope) harr⟩
  | outgrown => exact ⟨_, a₁, w₁, hq, .of_steps (.one step_scope) harr⟩
  | goto l =>
    match l, hq, harr with
    | 0, ⟨m, hj⟩, harr =>
      obtain ⟨e₂, a₂, w₂, hq₂, harr₂⟩ := (key m).1 a₁ w₁ hj
      exact ⟨e₂, a₂, w₂, hq₂, .of_steps (.head step_scope (harr _ g0)) harr₂⟩
    | 1, ⟨m, hj⟩, harr =>
      obtain ⟨e₂, a₂, w₂, hq₂, harr₂⟩ := (key m).2 a₁ w₁ hj
      exact ⟨e₂, a₂, w₂, hq₂, .of_steps (.head step_scope (harr _ g1)) harr₂⟩
    | _ + 2, hq, _ => exact hq.elim
end
/-- A frame of n slots is written out. -/
theorem frame_list (xs : Array Value) (n : Nat) (h : xs.size = n) : xs = ((List.range n).map fun k => xs.getD k undef).toArray := by
  apply Array.toList_inj.1
  refine List.ext_getElem? fun i => ?_
  simp only [List.getElem?_map]
  rcases Nat.lt_or_ge i n with hi | hi
  · have h1 : i < xs.size := by omega
    rw [List.getElem?_range hi]
    simp [h1]
  · rw [List.getElem?_eq_none (by simpa [h] using hi), List.getElem?_eq_none (by simpa using hi)]
    rfl
end Go.Proofs.Ythffdmncdoogpaa
