/- Texts merged by program: Row. No condition. -/
import Derived.Test.YtnemacejaiifnaaO2
import Derived.Test.YtnemacejaiifnaaProg
import Derived.Laws.BytesArg
import Derived.Lib.BufferRead
/- A slice of bytes that came in: what it holds, and the text that it is turned into, in every later memory. No condition. -/
set_option linter.unusedSimpArgs false
namespace Go.Proofs.Ytnemacejaiifnaa
open Go Go.RowKit

/-- A slice of integers that came in: nil, or a row of cells. -/
def IsRow (k : IntKind) (w : World) (a : Option Addr) (len cap : Nat) (zs : List Int) : Prop :=
  (a = none ∧ len = 0 ∧ cap = 0 ∧ zs = []) ∨
  ∃ x, a = some x ∧ len ≤ cap ∧ cap ≤ maxLen ∧ zs.length = cap ∧ (∀ i, i < zs.length → w.cell? (x.add i) = some (.int k (zs.getD i 0))) ∧ ∀ n ∈ zs, (Lit.int k n).wf = true

theorem conv_nil (W : World) (n c : Nat) : (convert 28 9 (.slice none n c)).run Try.prog W = .ok (.string ⟨#[]⟩) W := by
  rw [run_convert_bytes_nil W 28 5 Try.underlying28 Try.underlying5 n c 9 Try.underlying9]
  rfl

theorem conv_empty (W : World) (a : Option Addr) (c : Nat) : (convert 28 9 (.slice a 0 c)).run Try.prog W = .ok (.string ⟨#[]⟩) W := by
  rcases a with _ | a
  · exact conv_nil W 0 c
  · rw [run_convert_bytes_string W 28 9 5 (some a) 0 c Try.underlying28 Try.underlying5 Try.underlying9]
    simp [Conv.bytesToString, loadCells]
    rfl

theorem conv_row {w : World} {a : Option Addr} {len cap : Nat} {zs : List Int} (h : IsRow .u8 w a len cap zs) :
    ∃ s : ByteArray, s.size = len ∧ ∀ W, Below w.heap.size w W → (convert 28 9 (.slice a len cap)).run Try.prog W = .ok (.string s) W := by
  by_cases h0 : len = 0
  · subst h0
    exact ⟨⟨#[]⟩, rfl, fun W _ => conv_empty W a cap⟩
  · rcases h with ⟨_, h1, _⟩ | ⟨x, rfl, hl, _, hz, hc, _⟩
    · exact absurd h1 h0
    · obtain ⟨b, off, spot⟩ := x
      have hs : spot = none := by
        have h1 := hc 0 (by omega)
        have h2 : (⟨b, off, spot⟩ : Addr).add 0 = ⟨b, off, spot⟩ := by simp [Addr.add]
        rw [h2] at h1
        simpa using World.cell?_spot h1
      subst hs
      refine ⟨strOfNums (zs.take len), by rw [strOfNums_size]; simp; omega, fun W hW => ?_⟩
      refine run_convert_bytes_arg W 28 5 Try.underlying28 Try.underlying5 b off len cap (zs.take len) (by simp; omega) (fun i hi => ?_) 9 Try.underlying9
      have h1 := hc i (by omega)
      have h2 : (⟨b, off, none⟩ : Addr).add i = ⟨b, off + i, none⟩ := by unfold Addr.add; split <;> simp_all
      rw [h2] at h1
      rw [(hW.cell (World.block_lt_of_cell? w _ h1)).trans h1]
      simp [List.getD, hi]
end Go.Proofs.Ytnemacejaiifnaa
