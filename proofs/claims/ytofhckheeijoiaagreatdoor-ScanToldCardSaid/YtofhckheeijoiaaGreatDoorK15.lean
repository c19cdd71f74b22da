/- Texts merged by program: SEsc. No condition. -/
import Derived.Test.YtofhckheeijoiaaGreatDoorK14
import Derived.Test.YtofhckheeijoiaaGreatDoorK9
import Derived.Test.YtofhckheeijoiaaGreatDoorK2
import Derived.Deep.RegionHeld3
import Derived.Lib.TrimU
set_option linter.unusedVariables false
/- The document's escape of a text at a place. -/
namespace Go.Proofs.YtofhckheeijoiaaGreatDoor
open Go Go.RowKit

/-- An escape and the place behind it, or what is wrong and how far. -/
inductive EscR where
  | esc (k r : Int) (l : List (Int × Int)) (a : Int) (n : Nat)
  | bad (c : Int) (till : Nat)
/-- Behind a backslash stands the rune c, and behind that the place b. -/
def escC (s : ByteArray) (c : Int) (b : Nat) (p : Bool) : EscR :=
  if signI c = true then .esc 1 c [] 0 b else if 0 ≤ letterI c then .esc 1 (letterI c) [] 0 b else
  if c = 120 then (match numberS s b with
    | none => .bad 61 b
    | some (v, k) => .esc 1 v [] 0 k)
  else if c = 112 ∨ c = 80 then (match propS s b with
    | none => .bad 61 b
    | some (nm, k) => match propR nm (decide (c = 80)) with
      | none => .bad 63 k
      | some l => .esc 2 0 l 0 k)
  else match perlsR c with
    | none => .bad 61 b
    | some (k, l, a) => if p = true then .esc k 0 l a b else .bad 61 b
def escS (s : ByteArray) (i : Nat) (p : Bool) : EscR :=
  if ¬ headI (leftB s i) = 92 then .bad 1 i else if i + 1 = s.size then .bad 62 (i + 1) else escC s ((Utf8.decode s (i + 1)).1 : Nat) (i + 1 + (Utf8.decode s (i + 1)).2) p
def EscPost (R : EscR) (i : Nat) (w : World) (e : Ending) (w' : World) : Prop :=
  Below w.heap.size w w' ∧ match R with
    | .esc k r l a n => ∃ v, e = .returned (.tuple #[escV k r v a, .int .i64 (n : Int), wrongV 0 0 0]) ∧ OwnR w' w.heap.size v l
    | .bad c till => e = .returned (.tuple #[escV 0 0 (.slice none 0 0) 0, .int .i64 0, wrongV c i till])
theorem both_whole {W : World} {a b : Nat} {x0 x1 x2 x3 y0 y1 y2 u0 u1 u2 u3 v0 v1 v2 : Value} (hE : Whole W a 37 #[x0, x1, x2, x3]) (hF : Whole W b 29 #[y0, y1, y2]) (hab : a ≠ b) :
    Whole (set3 (set4 W a u0 u1 u2 u3) b v0 v1 v2) a 37 #[u0, u1, u2, u3] ∧ Whole (set3 (set4 W a u0 u1 u2 u3) b v0 v1 v2) b 29 #[v0, v1, v2] :=
  ⟨(set3_other hab _ _ _).trans (set4_whole hE _ _ _ _), set3_whole ((set4_other (Ne.symm hab) _ _ _ _).trans hF) _ _ _⟩

end Go.Proofs.YtofhckheeijoiaaGreatDoor
