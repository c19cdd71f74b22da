/- SetsNorm is proved here as it is given: whatever arguments can be read the call returns true and each argument reads behind it as it read before. No condition beyond the statement's own. -/
import Derived.Test.YtghpmlkihgiabaaRows
import Derived.WalkKit
import Derived.Test.YtghpmlkihgiabaaLawsD
import Derived.Test.YtghpmlkihgiabaaArg
import Derived.ProofKit
import Derived.OpenShut
import Derived.SizedLaws
import Derived.ChangeOld
import Derived.Below
namespace Go.Proofs.Ytghpmlkihgiabaa.setsNorm
open Go.ChangeShapes Go.WideShapes Go.ChangeAt Go.RowKit
set_option linter.unusedVariables false

theorem own : ownKnob Try.prog.godebug = none := by kernel_rfl
theorem laidOut : laidOutB Try.prog = true := by kernel_rfl

theorem walk (w : World) (a0 : Option Addr) (len0 cap0 : Nat) (l0 : List (Int × Int)) (g0 : Rgs w (.slice a0 len0 cap0) l0) (s0 : l0.length ≤ 17592186044416) :
    Calls Try.prog 5 #[.slice a0 len0 cap0] w fun e w' => e = .returned (.bool true) ∧ Below w.heap.size w w' := by
  exact (snorm_any w _ l0 g0 s0)

set_option maxRecDepth 100000 in
theorem lifted (os : Os) (started : os.Started) (H : Type) (enc : TypeId × Value → H) :
    ReturnsInHanded {} Try.checked os 5 .any (Rows.setsNormSpec.pre6 enc Try.prog Try.f5 Rows.setsNormRow.domain false) (Rows.setsNormSpec.post enc Try.prog Try.f5 false true false false) := by
  refine returnsInHanded_of_change_sized (C := Try.checked) own started (by kernel_rfl) Try.func5
    (ChangeSpec.witness6 (enc := enc) (C := Try.checked) false ⟨#[], #[.slice none 0 0], []⟩ 8 (by kernel_rfl) (by kernel_rfl) (by kernel_rfl) (by kernel_rfl)) ?_
  intro W base args ds gs before hval0 hW hcnd hsz0 _
  have hval : ∀ (j : Nat) t v, Try.f5.params[j]? = some t → args[j]? = some v → Value.okWide Try.prog W .any base t v := hval0
  have hW' := hW
  obtain ⟨p, q, hA0, hV, rfl, hfz, hnd⟩ := hW
  have hA : DataW.TrodAll enc Try.prog W 0 (fun _ => true) true Try.f5.params.toList args.toList ds p := hA0
  rw [Try.params5] at hA hval
  obtain ⟨v0, vs0, d0, ds0, p0, q0, hargs, rfl, rfl, h0, r0⟩ := trodAll_cons hA
  obtain ⟨rfl, rfl, rfl⟩ := trodAll_nil r0
  obtain rfl : args = #[v0] := by cases args; simp_all
  obtain ⟨rfl, rfl⟩ := trodVars_none hV
  obtain ⟨a0, len0, cap0, rfl⟩ := okWide_slice Try.underlying22 (hval 0 22 v0 rfl rfl)
  have k0 := h0
  have lt0 : ∀ x ∈ p0, x.block < W.heap.size := by obtain ⟨m, hm⟩ := k0; exact DataW.trod_lt m _ _ _ hm
  obtain ⟨l0, g0, z0⟩ : ∃ l, Rgs W (.slice a0 len0 cap0) l ∧ ((d0 = .nil ∧ l = []) ∨ ∃ es sp, d0 = .slice es sp ∧ es.length = l.length) := by
    obtain ⟨fuel, hf⟩ := h0
    obtain ⟨a', len', cap', l, hcs, hg, hz⟩ := rgs_of_arg hf
    simp [Value.cells] at hcs
    obtain ⟨rfl, rfl, rfl⟩ := hcs
    exact ⟨l, hg, hz⟩
  have s0 : l0.length ≤ 17592186044416 := by
    rcases z0 with ⟨_, hz⟩ | ⟨es, sp, hz, hl⟩
    · rw [hz]
      exact Nat.zero_le _
    · subst hz
      have hsz : (DataW.weightsEach Try.prog (Try.f5.params.toList ++ Rows.setsNormSpec.plain.varTypes Try.prog) (_ ++ _)).all (· ≤ reachBytes) = true := hsz0
      rw [Try.params5] at hsz
      have := sized_slice hsz (j := 0) (t := 22) (e := 33) rfl rfl Try.underlying22
      rw [show Try.prog.bytesOf 33 = 8 by kernel_rfl] at this
      simp only [reachBytes] at this
      omega
  clear hA0 hval0
  refine (walk W a0 len0 cap0 l0 g0 s0).mono fun e W' ⟨he, bel⟩ => ?_
  subst he
  exact ⟨_, rfl, _, _, _, [], _, [], hW', trodAll_mk1 (shut_bool Try.underlying4 _), (trodAll_cons_mk (Below.trod laidOut (by kernel_rfl) (of_decide_eq_true (by kernel_rfl)) k0 bel lt0) trodAll_mk0), rfl, bel.frame _, fun h => by cases h⟩

theorem over : Rows.setsNormRow.holds Try.pinned (OpenSpec.ofChange Rows.setsNormSpec) :=
  OpenClaim.holds_of_wide 5 Try.f5 rfl rfl rfl rfl rfl rfl rfl ⟨rfl, rfl, rfl, rfl, rfl⟩ rfl rfl rfl rfl rfl (by kernel_rfl) Try.func5 (by kernel_rfl)
    (of_decide_eq_true (by kernel_rfl)) (by unfold Func.isWrapper; first | (rw [if_pos (by decide +kernel)]; kernel_rfl) | (rw [if_neg (by decide +kernel)]; exact ⟨rfl, rfl⟩))
    (fun os started H enc _ => lifted os started H enc)

theorem proved : Rows.SetsNormSaid := over
end Go.Proofs.Ytghpmlkihgiabaa.setsNorm
namespace Go.Proofs.Ytghpmlkihgiabaa
theorem setsNorm_holds : Rows.SetsNormSaid := setsNorm.proved
#print axioms setsNorm_holds
end Go.Proofs.Ytghpmlkihgiabaa
