/- Both inputs of whatever kind and slice of bytes: none, or of a text. -/
import Derived.Test.YticghidkbpkefaaDoorBoth
import Derived.Test.YticghidkbpkefaaDoorHead
namespace Go.Proofs.YticghidkbpkefaaDoor
open Go Go.RowKit

theorem both_any (k : Int) (A : Option Addr) (n c : Nat) (zs : List Int) (w : World) (h : IsRow .u8 w A n c zs) (hr : n ≤ 140737488355328) (hT : Lib.Utf8Tabs 0 1 w) :
    (∀ W, Below w.heap.size w W → Calls Tryd.prog 9 #[.int .i64 k, .slice A n c] W (BothNone W)) ∨
    ∃ s : ByteArray, s.size = n ∧ (s.size : Int) ≤ 65536 ∧ Txt w A c s ∧ ∀ W, Below w.heap.size w W → Calls Tryd.prog 9 #[.int .i64 k, .slice A n c] W (BothPost k s W) := by
  obtain ⟨s, rfl, hx⟩ := txt_of_row h
  by_cases h1 : k < 1
  · exact .inl fun W hW => both_none k 1 A c s W hr (hx.below hW) (fun W a c => new_bad k (by simp; omega) (by simp; omega) (by simp; omega) a _ c W) (fun W a c => ref_low k h1 a _ c W)
  · by_cases h3 : 3 < k
    · exact .inl fun W hW => both_none k 1 A c s W hr (hx.below hW) (fun W a c => new_bad k (by simp; omega) (by simp; omega) (by simp; omega) a _ c W) (fun W a c => ref_high k (by omega) h3 a _ c W)
    · by_cases hs : (65536 : Int) < s.size
      · exact .inl fun W hW => both_none k 2 A c s W hr (hx.below hW) (fun W a c => new_long k (by omega) a _ c W hs) (fun W a c => ref_long k (by omega) (by omega) a _ c W hs)
      · exact .inr ⟨s, rfl, by omega, hx, fun W hW => both_ok k (by omega) (by omega) A c s W (by omega) (hx.below hW) (tabs_below hT hW)⟩
end Go.Proofs.YticghidkbpkefaaDoor
