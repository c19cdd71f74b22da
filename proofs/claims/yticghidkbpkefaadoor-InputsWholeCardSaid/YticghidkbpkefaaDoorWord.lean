/- unicode/utf8.word over a list of bytes: the number that the first eight spell; it reads alone. -/
import Derived.Test.YticghidkbpkefaaDoorRow
import Derived.Lib.SlBytesRow
import Derived.Shelf.Unicode.WordAny
import Derived.Lib.ValidAsc
import Derived.Deep.QuietTactic
import Derived.BigQuiet
namespace Go.Proofs.YticghidkbpkefaaDoor
open Go Go.RowKit

set_option maxHeartbeats 4000000 in
set_option maxRecDepth 100000 in
theorem w8_any (t : ByteArray) (g off c : Nat) (w : World) (hs : 8 ≤ t.size) (hb : Lib.Bytes w g off t) :
    Calls Tryd.prog 35 #[.slice (some ⟨g, off, none⟩) t.size c] w fun e w' => e = .returned (.int .u64 (Lib.leNat [t.get! 0, t.get! 1, t.get! 2, t.get! 3, t.get! 4, t.get! 5, t.get! 6, t.get! 7])) ∧ ∃ q, w' = w.drewN q := by
  obtain ⟨x0, hx0⟩ : ∃ x, t.get! 0 = x := ⟨_, rfl⟩
  have hs0 : t[0]'(by omega) = x0 := by rw [← hx0]; exact (Utf8W.get!_of_lt t 0 (by omega)).symm
  have l0 : x0.toNat < 256 := x0.toNat_lt
  have k0 := hb 0 (by omega)
  rw [hs0] at k0
  have q0 : (0 : Int) < (t.size : Int) := by omega
  have p0 : 0 < t.size := by omega
  obtain ⟨x1, hx1⟩ : ∃ x, t.get! 1 = x := ⟨_, rfl⟩
  have hs1 : t[1]'(by omega) = x1 := by rw [← hx1]; exact (Utf8W.get!_of_lt t 1 (by omega)).symm
  have l1 : x1.toNat < 256 := x1.toNat_lt
  have k1 := hb 1 (by omega)
  rw [hs1] at k1
  have q1 : (1 : Int) < (t.size : Int) := by omega
  have p1 : 1 < t.size := by omega
  obtain ⟨x2, hx2⟩ : ∃ x, t.get! 2 = x := ⟨_, rfl⟩
  have hs2 : t[2]'(by omega) = x2 := by rw [← hx2]; exact (Utf8W.get!_of_lt t 2 (by omega)).symm
  have l2 : x2.toNat < 256 := x2.toNat_lt
  have k2 := hb 2 (by omega)
  rw [hs2] at k2
  have q2 : (2 : Int) < (t.size : Int) := by omega
  have p2 : 2 < t.size := by omega
  obtain ⟨x3, hx3⟩ : ∃ x, t.get! 3 = x := ⟨_, rfl⟩
  have hs3 : t[3]'(by omega) = x3 := by rw [← hx3]; exact (Utf8W.get!_of_lt t 3 (by omega)).symm
  have l3 : x3.toNat < 256 := x3.toNat_lt
  have k3 := hb 3 (by omega)
  rw [hs3] at k3
  have q3 : (3 : Int) < (t.size : Int) := by omega
  have p3 : 3 < t.size := by omega
  obtain ⟨x4, hx4⟩ : ∃ x, t.get! 4 = x := ⟨_, rfl⟩
  have hs4 : t[4]'(by omega) = x4 := by rw [← hx4]; exact (Utf8W.get!_of_lt t 4 (by omega)).symm
  have l4 : x4.toNat < 256 := x4.toNat_lt
  have k4 := hb 4 (by omega)
  rw [hs4] at k4
  have q4 : (4 : Int) < (t.size : Int) := by omega
  have p4 : 4 < t.size := by omega
  obtain ⟨x5, hx5⟩ : ∃ x, t.get! 5 = x := ⟨_, rfl⟩
  have hs5 : t[5]'(by omega) = x5 := by rw [← hx5]; exact (Utf8W.get!_of_lt t 5 (by omega)).symm
  have l5 : x5.toNat < 256 := x5.toNat_lt
  have k5 := hb 5 (by omega)
  rw [hs5] at k5
  have q5 : (5 : Int) < (t.size : Int) := by omega
  have p5 : 5 < t.size := by omega
  obtain ⟨x6, hx6⟩ : ∃ x, t.get! 6 = x := ⟨_, rfl⟩
  have hs6 : t[6]'(by omega) = x6 := by rw [← hx6]; exact (Utf8W.get!_of_lt t 6 (by omega)).symm
  have l6 : x6.toNat < 256 := x6.toNat_lt
  have k6 := hb 6 (by omega)
  rw [hs6] at k6
  have q6 : (6 : Int) < (t.size : Int) := by omega
  have p6 : 6 < t.size := by omega
  obtain ⟨x7, hx7⟩ : ∃ x, t.get! 7 = x := ⟨_, rfl⟩
  have hs7 : t[7]'(by omega) = x7 := by rw [← hx7]; exact (Utf8W.get!_of_lt t 7 (by omega)).symm
  have l7 : x7.toNat < 256 := x7.toNat_lt
  have k7 := hb 7 (by omega)
  rw [hs7] at k7
  have q7 : (7 : Int) < (t.size : Int) := by omega
  have p7 : 7 < t.size := by omega
  rw [Nat.add_zero] at k0
  rw [hx0, hx1, hx2, hx3, hx4, hx5, hx6, hx7]
  have hv : ((Lib.leNat [x0, x1, x2, x3, x4, x5, x6, x7] : Nat) : Int) = (x0.toNat : Int) + (x1.toNat : Int) * 256 + (x2.toNat : Int) * 65536 + (x3.toNat : Int) * 16777216 + (x4.toNat : Int) * 4294967296 + (x5.toNat : Int) * 1099511627776 + (x6.toNat : Int) * 281474976710656 + (x7.toNat : Int) * 72057594037927936 := by
    simp only [Lib.leNat]
    push_cast
    omega
  clear hb hx0 hx1 hx2 hx3 hx4 hx5 hx6 hx7 hs0 hs1 hs2 hs3 hs4 hs5 hs6 hs7
  go_enter Tryd.func35, Tryd.ntmps35
  go_wp2
  go_big_quiet (fail)
  go_wp2
  go_ret
  refine ⟨?_, _, rfl⟩
  simp (disch := omega) only [u64_wrap_id, u64_or8, u64_or16, u64_or24, u64_or32, u64_or40, u64_or48, u64_or56]
  rw [hv]
  rfl
end Go.Proofs.YticghidkbpkefaaDoor
