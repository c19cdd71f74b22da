/- Texts merged by program: PxMeansM. No condition. -/
import Derived.Test.YtnemacejaiifnaaQ31
import Derived.Test.YtnemacejaiifnaaQ59
set_option linter.unusedVariables false
/- All that a tree fits begins with its prefix: what the law's walk wants of a list's ends. No memory. -/
namespace Go.Proofs.Ytnemacejaiifnaa
open Go Go.RowKit

theorem firsts_ne {W : List Out} (h : W ≠ []) : firsts [] W ≠ [] := by
  cases W with
  | nil => exact absurd rfl h
  | cons x W => simp [firsts]
theorem means_each {R : List Int} {t : Tr} {i : Int} {L : List Out} (h : WaysOf R 0 t i L) : ∀ o ∈ L, 0 ≤ i ∧ i ≤ (R.length : Int) ∧ ((preF t).1.length : Int) ≤ (o.1 : Int) - i ∧ ((preF t).2 = true → (o.1 : Int) - i = ((preF t).1.length : Int)) ∧ ∀ r, IndexIs R (preF t).1 (max i 0) r → r = i := by
  intro o ho
  have hf := ways_fit h o ho
  rcases h with ⟨-, rfl⟩ | ⟨a, q, n, W, rfl, ha, hsh, hM, hnd, hS, hW, rfl⟩
  · cases ho
  · have hm := ((firsts_nodup [] W).2 o ho).1
    obtain ⟨h1, h2, h3⟩ := (ways_begin hsh hM hnd hW).1 o hm
    rw [preF_yes hsh]
    refine ⟨by omega, by omega, by omega, fun e => by have := h3 e; omega, fun r hr => ?_⟩
    rw [show max (a : Int) 0 = (a : Int) by omega] at hr
    exact index_at hr ⟨by omega, h1⟩
theorem means_there {R : List Int} {t : Tr} {i : Int} {L : List Out} (h : WaysOf R 0 t i L) (he : (preF t).2 = true) : (¬ (0 ≤ i ∧ i ≤ (R.length : Int)) → L = []) ∧ ∀ r, 0 ≤ i → i ≤ (R.length : Int) → IndexIs R (preF t).1 (max i 0) r → (r = i ↔ L ≠ []) := by
  have hsh : ShapedP t := by
    by_cases hs : ShapedP t
    · exact hs
    · rw [preF_no hs] at he; simp at he
  have hall := means_each h
  rcases h with ⟨hno, rfl⟩ | ⟨a, q, n, W, rfl, ha, -, hM, hnd, hS, hW, rfl⟩
  · exact ⟨fun _ => rfl, fun r h0 h1 => absurd ⟨hsh, h0, h1⟩ hno⟩
  · refine ⟨fun hn => absurd ⟨by omega, by omega⟩ hn, fun r _ _ hr => ⟨fun hra => ?_, fun hne => ?_⟩⟩
    · rw [preF_yes hsh] at he hr
      rw [show max (a : Int) 0 = (a : Int) by omega] at hr
      refine firsts_ne ((ways_begin hsh hM hnd hW).2 he ?_)
      rcases hr with ⟨h1, -⟩ | ⟨j, h1, -, h2, -⟩
      · omega
      · obtain rfl : j = a := by omega
        exact h2.2
    · obtain ⟨o, ho⟩ := List.exists_mem_of_ne_nil _ hne
      exact (hall o ho).2.2.2.2 r hr
end Go.Proofs.Ytnemacejaiifnaa
