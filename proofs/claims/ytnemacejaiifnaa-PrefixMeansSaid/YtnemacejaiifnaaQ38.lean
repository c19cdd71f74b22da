/- Texts merged by program: Enc. No condition. -/
import Derived.Test.YtnemacejaiifnaaQ5
import Derived.Lib.RuneBytes
import Derived.Lib.DecodeN
/- Runes written as UTF-8 are read back: plain mathematics over the model's own decoding. -/
namespace Go.Proofs.Ytnemacejaiifnaa
open Go Go.Lib

/-- A number that is a rune and no half of a pair. -/
def IsRune (r : Int) : Prop := 0 ≤ r ∧ (r < 55296 ∨ (57343 < r ∧ r ≤ 1114111))

theorem dec1 (n b1 b2 b3 : Nat) (r : Int) (h0 : 0 ≤ r) (h1 : r ≤ 127) : decodeN n r.toNat b1 b2 b3 = (r.toNat, 1) := by
  unfold decodeN
  rw [if_pos (by omega)]
theorem dec2 (n b2 b3 : Nat) (r : Int) (hn : 2 ≤ n) (h0 : 128 ≤ r) (h1 : r ≤ 2047) : decodeN n (192 + r / 64).toNat (128 + r % 64).toNat b2 b3 = (r.toNat, 2) := by
  unfold decodeN
  rw [if_neg (by omega), if_pos ⟨by omega, by omega, by omega⟩, if_pos (by omega)]
  congr 1
  omega
theorem dec3 (n b3 : Nat) (r : Int) (hn : 3 ≤ n) (h : (2048 ≤ r ∧ r < 55296) ∨ (57343 < r ∧ r ≤ 65535)) : decodeN n (224 + r / 4096).toNat (128 + r / 64 % 64).toNat (128 + r % 64).toNat b3 = (r.toNat, 3) := by
  have e : (224 + r / 4096).toNat % 16 * 4096 + (128 + r / 64 % 64).toNat % 64 * 64 + (128 + r % 64).toNat % 64 = r.toNat := by omega
  unfold decodeN
  rw [if_neg (by omega), if_neg (by omega), if_pos ⟨by omega, ⟨by omega, by omega⟩, by omega, by omega⟩, e, if_pos (by omega)]
theorem dec4 (n : Nat) (r : Int) (hn : 4 ≤ n) (h0 : 65536 ≤ r) (h1 : r ≤ 1114111) : decodeN n (240 + r / 262144).toNat (128 + r / 4096 % 64).toNat (128 + r / 64 % 64).toNat (128 + r % 64).toNat = (r.toNat, 4) := by
  have e : (240 + r / 262144).toNat % 8 * 262144 + (128 + r / 4096 % 64).toNat % 64 * 4096 + (128 + r / 64 % 64).toNat % 64 * 64 + (128 + r % 64).toNat % 64 = r.toNat := by omega
  unfold decodeN
  rw [if_neg (by omega), if_neg (by omega), if_neg (by omega), if_pos ⟨by omega, ⟨by omega, by omega⟩, ⟨by omega, by omega⟩, by omega, by omega⟩, e, if_pos (by omega)]

theorem get_list (t : ByteArray) (k : Nat) : t.get! k = t.data.toList[k]?.getD default := by
  show t.data[k]! = _
  rw [Array.getElem!_eq_getD, Array.getD_eq_getD_getElem?, Array.getElem?_toList]
def byteN (l : List UInt8) (j : Nat) : Nat := (l[j]?.getD default).toNat
theorem decode_list (T : ByteArray) (p : Nat) (l : List UInt8) (h : T.data.toList.drop p = l) : Utf8.decode T p = decodeN l.length (byteN l 0) (byteN l 1) (byteN l 2) (byteN l 3) := by
  have hl : T.size - p = l.length := by rw [← h, List.length_drop]; rfl
  have hg : ∀ j, (T.get! (p + j)).toNat = byteN l j := fun j => by
    unfold byteN
    rw [get_list, ← h, List.getElem?_drop]
  rw [decode_at, hl, ← hg 0, ← hg 1, ← hg 2, ← hg 3]
  simp
theorem byte_of (x : Int) (h0 : 0 ≤ x) (h1 : x < 256) : (x.toNat.toUInt8).toNat = x.toNat := by
  show x.toNat % 256 = _
  omega
theorem decode_encode (T : ByteArray) (p : Nat) (r : Int) (rest : List UInt8) (hr : IsRune r) (h : T.data.toList.drop p = encodeRune r ++ rest) : Utf8.decode T p = (r.toNat, (encodeRune r).length) := by
  rw [decode_list T p _ h]
  obtain ⟨h0, hr⟩ := hr
  by_cases c1 : r ≤ 127
  · simp only [encodeRune, encodeRuneZ_one h0 c1, List.map_cons, List.map_nil, List.cons_append, List.nil_append, List.length_cons, List.length_nil]
    have e0 : byteN (r.toNat.toUInt8 :: rest) 0 = r.toNat := byte_of r (by omega) (by omega)
    rw [e0]
    exact dec1 _ _ _ _ r h0 c1
  · by_cases c2 : r ≤ 2047
    · simp only [encodeRune, encodeRuneZ_two (show 128 ≤ r by omega) c2, List.map_cons, List.map_nil, List.cons_append, List.nil_append, List.length_cons, List.length_nil]
      have e0 : byteN ((192 + r / 64).toNat.toUInt8 :: (128 + r % 64).toNat.toUInt8 :: rest) 0 = (192 + r / 64).toNat := byte_of _ (by omega) (by omega)
      have e1 : byteN ((192 + r / 64).toNat.toUInt8 :: (128 + r % 64).toNat.toUInt8 :: rest) 1 = (128 + r % 64).toNat := byte_of _ (by omega) (by omega)
      rw [e0, e1]
      exact dec2 _ _ _ r (by omega) (by omega) c2
    · by_cases c3 : r ≤ 65535
      · have hc : (2048 ≤ r ∧ r < 55296) ∨ (57343 < r ∧ r ≤ 65535) := by omega
        simp only [encodeRune, encodeRuneZ_three hc, List.map_cons, List.map_nil, List.cons_append, List.nil_append, List.length_cons, List.length_nil]
        have e0 : byteN ((224 + r / 4096).toNat.toUInt8 :: (128 + r / 64 % 64).toNat.toUInt8 :: (128 + r % 64).toNat.toUInt8 :: rest) 0 = (224 + r / 4096).toNat := byte_of _ (by omega) (by omega)
        have e1 : byteN ((224 + r / 4096).toNat.toUInt8 :: (128 + r / 64 % 64).toNat.toUInt8 :: (128 + r % 64).toNat.toUInt8 :: rest) 1 = (128 + r / 64 % 64).toNat := byte_of _ (by omega) (by omega)
        have e2 : byteN ((224 + r / 4096).toNat.toUInt8 :: (128 + r / 64 % 64).toNat.toUInt8 :: (128 + r % 64).toNat.toUInt8 :: rest) 2 = (128 + r % 64).toNat := byte_of _ (by omega) (by omega)
        rw [e0, e1, e2]
        exact dec3 _ _ r (by omega) hc
      · simp only [encodeRune, encodeRuneZ_four (show 65536 ≤ r by omega) (show r ≤ 1114111 by omega), List.map_cons, List.map_nil, List.cons_append, List.nil_append, List.length_cons, List.length_nil]
        have e0 : byteN ((240 + r / 262144).toNat.toUInt8 :: (128 + r / 4096 % 64).toNat.toUInt8 :: (128 + r / 64 % 64).toNat.toUInt8 :: (128 + r % 64).toNat.toUInt8 :: rest) 0 = (240 + r / 262144).toNat := byte_of _ (by omega) (by omega)
        have e1 : byteN ((240 + r / 262144).toNat.toUInt8 :: (128 + r / 4096 % 64).toNat.toUInt8 :: (128 + r / 64 % 64).toNat.toUInt8 :: (128 + r % 64).toNat.toUInt8 :: rest) 1 = (128 + r / 4096 % 64).toNat := byte_of _ (by omega) (by omega)
        have e2 : byteN ((240 + r / 262144).toNat.toUInt8 :: (128 + r / 4096 % 64).toNat.toUInt8 :: (128 + r / 64 % 64).toNat.toUInt8 :: (128 + r % 64).toNat.toUInt8 :: rest) 2 = (128 + r / 64 % 64).toNat := byte_of _ (by omega) (by omega)
        have e3 : byteN ((240 + r / 262144).toNat.toUInt8 :: (128 + r / 4096 % 64).toNat.toUInt8 :: (128 + r / 64 % 64).toNat.toUInt8 :: (128 + r % 64).toNat.toUInt8 :: rest) 3 = (128 + r % 64).toNat := byte_of _ (by omega) (by omega)
        rw [e0, e1, e2, e3]
        exact dec4 _ r (by omega) (by omega) (by omega)

theorem decode_isRune (s : ByteArray) (i : Nat) : IsRune ((Utf8.decode s i).1 : Nat) := by
  rw [decode_at]
  unfold decodeN IsRune
  repeat' split
  all_goals first | (simp only; omega) | omega
theorem runesFrom_isRune (s : ByteArray) : ∀ f pos, ∀ r ∈ runesFrom s f pos, IsRune r
  | 0, _ => by simp [runesFrom]
  | f + 1, pos => by
    intro r hr
    unfold runesFrom at hr
    split at hr
    · rcases List.mem_cons.1 hr with rfl | hr
      · exact decode_isRune s pos
      · exact runesFrom_isRune s f _ r hr
    · simp at hr

/-- The runes R as UTF-8, and where each begins from p on. -/
def encR (R : List Int) : List UInt8 := R.flatMap encodeRune
def placesR : Nat → List Int → List Int
  | _, [] => []
  | p, r :: R => (p : Int) :: placesR (p + (encodeRune r).length) R
theorem encodeRune_pos (r : Int) : 1 ≤ (encodeRune r).length := by
  unfold encodeRune encodeRuneZ
  repeat' split
  all_goals simp
theorem read_back (T : ByteArray) : ∀ (R : List Int) (f p : Nat), (∀ r ∈ R, IsRune r) → T.data.toList.drop p = encR R → T.size ≤ p + f → runesFrom T f p = R ∧ offsFrom T f p = placesR p R
  | [], f, p, _, h, _ => by
    have hp : ¬ p < T.size := by
      intro hlt
      have := congrArg List.length h
      rw [List.length_drop] at this
      have e : T.data.toList.length = T.size := by simp
      simp [encR] at this
      omega
    rw [runesFrom_end T f p hp, offsFrom_end T f p hp]
    exact ⟨rfl, rfl⟩
  | r :: R, f, p, hR, h, hf => by
    have hr := hR r (by simp)
    have h' : T.data.toList.drop p = encodeRune r ++ encR R := by rw [h]; rfl
    have hlen := congrArg List.length h'
    rw [List.length_drop, List.length_append] at hlen
    have e : T.data.toList.length = T.size := by simp
    have hpos := encodeRune_pos r
    have hp : p < T.size := by omega
    obtain ⟨f', rfl⟩ : ∃ f', f = f' + 1 := ⟨f - 1, by omega⟩
    have hd := decode_encode T p r (encR R) hr h'
    have hdrop : T.data.toList.drop (p + (encodeRune r).length) = encR R := by
      rw [← List.drop_drop, h', List.drop_left]
    obtain ⟨h1, h2⟩ := read_back T R f' (p + (encodeRune r).length) (fun x hx => hR x (by simp [hx])) hdrop (by omega)
    rw [runesFrom_step T f' p hp, offsFrom_step T f' p hp, hd]
    simp only
    rw [h1, h2]
    refine ⟨?_, rfl⟩
    congr 1
    have := hr.1
    omega
end Go.Proofs.Ytnemacejaiifnaa
