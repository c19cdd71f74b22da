/- Texts merged by program: Text, RefStep. No condition. -/
import Derived.Test.YtaaadimkbhkpiaaDoorK26
import Derived.Test.YtaaadimkbhkpiaaDoorK5
import Derived.Test.YtaaadimkbhkpiaaDoorK29
import Derived.Test.YtaaadimkbhkpiaaDoorK30
import Derived.Lib.SlBytesRow
import Derived.Laws.AppendOwnNone
/- A text that came in as a slice of bytes: its bytes, read in every later memory; an append of it; what stands at one of its places, as the library decodes it. No condition. -/
namespace Go.Proofs.YtaaadimkbhkpiaaDoor
open Go Go.RowKit

/-- The slice value with address A, as long as s, of capacity c, holds the bytes s. -/
def Txt (w : World) (A : Option Addr) (c : Nat) (s : ByteArray) : Prop :=
  s.size ≤ c ∧ c ≤ maxLen ∧ (A = none → c = 0) ∧ (s.size = 0 ∨ ∃ b off, A = some ⟨b, off, none⟩ ∧ Lib.Bytes w b off s)
theorem Bytes_below {w w' : World} {b o : Nat} {s : ByteArray} (h : Lib.Bytes w b o s) (hb : Below w.heap.size w w') : Lib.Bytes w' b o s := fun i hi =>
  (hb.cell (World.block_lt_of_cell? w _ (h i hi))).trans (h i hi)
theorem Txt.below {w w' : World} {A : Option Addr} {c : Nat} {s : ByteArray} (h : Txt w A c s) (hb : Below w.heap.size w w') : Txt w' A c s := by
  obtain ⟨h1, h2, h3, h4⟩ := h
  refine ⟨h1, h2, h3, ?_⟩
  rcases h4 with h4 | ⟨b, off, e, hc⟩
  · exact .inl h4
  · exact .inr ⟨b, off, e, Bytes_below hc hb⟩
theorem Txt.conv {w : World} {A : Option Addr} {c : Nat} {s : ByteArray} (h : Txt w A c s) : (convert 22 9 (.slice A s.size c)).run Tryd.prog w = .ok (.string s) w := by
  obtain ⟨_, _, _, h4⟩ := h
  rcases h4 with h4 | ⟨b, off, rfl, hc⟩
  · rw [h4, conv_empty]
    have : s = ⟨#[]⟩ := by
      apply ByteArray.ext
      apply Array.eq_empty_of_size_eq_zero
      exact h4
    rw [this]
  · exact Lib.run_convert_whole w 22 5 9 Tryd.underlying22 Tryd.underlying5 Tryd.underlying9 b off s hc c

theorem txt_of_row {w : World} {a : Option Addr} {len cap : Nat} {zs : List Int} (h : IsRow .u8 w a len cap zs) : ∃ s : ByteArray, s.size = len ∧ Txt w a cap s := by
  by_cases h0 : len = 0
  · subst h0
    refine ⟨⟨#[]⟩, rfl, Nat.zero_le _, ?_, ?_, .inl rfl⟩
    · rcases h with ⟨_, _, h1, _⟩ | ⟨x, _, _, hm, _⟩
      · rw [h1]; exact Nat.zero_le _
      · exact hm
    · rintro rfl
      rcases h with ⟨_, _, h1, _⟩ | ⟨x, hx, _⟩
      · exact h1
      · cases hx
  · rcases h with ⟨_, h1, _⟩ | ⟨x, rfl, hl, hm, hz, hc, hw⟩
    · exact absurd h1 h0
    · obtain ⟨b, off, spot⟩ := x
      have hs : spot = none := by
        have h1 := hc 0 (by omega)
        have h2 : (⟨b, off, spot⟩ : Addr).add 0 = ⟨b, off, spot⟩ := by simp [Addr.add]
        rw [h2] at h1
        simpa using World.cell?_spot h1
      subst hs
      refine ⟨strOfNums (zs.take len), by rw [strOfNums_size]; simp; omega, by rw [strOfNums_size]; simp; omega, hm, fun e => (by cases e), .inr ⟨b, off, rfl, ?_⟩⟩
      refine Lib.bytes_of_nums (n := len) (by simp; omega) (fun x hx => ?_) (fun i hi => ?_)
      · have := hw x (List.mem_of_mem_take hx)
        have h1 : IntKind.u8.min = 0 := rfl
        have h2 : IntKind.u8.max = 255 := rfl
        simp only [Lit.wf, Bool.and_eq_true, decide_eq_true_eq] at this
        omega
      · have h1 := hc i (by omega)
        have h2 : (⟨b, off, none⟩ : Addr).add i = ⟨b, off + i, none⟩ := by unfold Addr.add; split <;> simp_all
        rw [h2] at h1
        rw [h1]
        simp [List.getD, hi]

/-- The bytes as numbers. -/
def nums (s : ByteArray) : List Int := s.data.toList.map fun x => (x.toNat : Int)
theorem length_nums (s : ByteArray) : (nums s).length = s.size := by simp [nums]
theorem nums_at (s : ByteArray) (i : Nat) (h : i < s.size) : (nums s)[i]? = some (s[i].toNat : Int) := by
  have h' : i < s.data.size := h
  have h2 : s.data[i]? = some s[i] := Array.getElem?_eq_getElem h'
  simp [nums, h2]

/-- 'append' of such a text onto a row of bytes that the call owns. -/
theorem append_txt {w : World} {ops : Array Oper} {rest : List Oper} {o : Oper} {a : Act} {Q : Exit → Act → World → Prop} (hgd : o.guard = none) (x y : Operand)
    (ho : o.op = .call { callee := .builtin .append, args := #[x, y], argTypes := #[22, 22] })
    (base : Nat) (i : TypeInfo) (hi : Tryd.prog.info? 5 = some i) (hz : i.zero = some (.int .u8 0)) (hsize : i.size = 1) (hby : i.bytes = 1)
    (v : Value) (n : Nat) (xs : List Value) (hs : a.eval x = v) (hown : w.ownsRow base 5 1 v n xs)
    (A : Option Addr) (c : Nat) (s : ByteArray) (hx : a.eval y = .slice A s.size c) (ht : Txt w A c s) (hn : n + s.size ≤ 140737488355328) (hbase : base ≤ w.heap.size)
    (h : ∀ v' w', w'.ownsRow base 5 1 v' (n + s.size) (xs ++ (nums s).map (.int .u8)) → w.grownBy w' v.ownBlock → wpList Tryd.prog ops Q rest (a.put o.dst v') w') : wpList Tryd.prog ops Q (o :: rest) a w := by
  obtain ⟨h1, h2, h3, h4⟩ := ht
  rcases A with _ | ad
  · have hc := h3 rfl
    have h0 : s.size = 0 := by omega
    have hn0 : nums s = [] := List.eq_nil_of_length_eq_zero (by rw [length_nums, h0])
    rw [h0, hc] at hx
    refine wpList_append_own_none hgd x y 22 ho base 5 i 1 Tryd.underlying22 hi v n xs hs hown hx (h v w ?_ (World.grownBy.refl w _))
    rw [hn0, h0]
    simpa using hown
  · refine wpList_append_own w hgd x y 22 ho base 5 i (.int .u8 0) 1 1 Tryd.underlying22 hi hz hsize hby rfl (by omega) v n xs hs hown ad s.size c ((nums s).map (.int .u8)) hx (by simp [length_nums]) ?_ ?_ (by unfold maxLen; omega) (by omega) hbase (fun v' w' g1 g2 _ => h v' w' g1 g2)
    · intro j u hu
      rcases h4 with h4 | ⟨b, off, e, hc⟩
      · have : nums s = [] := List.eq_nil_of_length_eq_zero (by rw [length_nums, h4])
        rw [this] at hu
        simp at hu
      · injection e with e
        subst e
        have hj : j < s.size := by
          have := (List.getElem?_eq_some_iff.1 hu).1
          simpa [length_nums] using this
        have hadd : (⟨b, off, none⟩ : Addr).add j = ⟨b, off + j, none⟩ := by unfold Addr.add; split <;> simp_all
        rw [hadd, hc j hj]
        rw [List.getElem?_map, nums_at s j hj] at hu
        simpa using hu
    · intro u hu
      obtain ⟨z, _, rfl⟩ := List.mem_map.1 hu
      rfl
end Go.Proofs.YtaaadimkbhkpiaaDoor
/- What the library decodes at a place of a text is what the model's own decoding gives there; and it does not reach behind the text. -/
namespace Go.Proofs.YtaaadimkbhkpiaaDoor
open Go Go.RowKit

/-- The rune at a place, decoded from the rest of the slice. -/
theorem step_at (s : ByteArray) (b off cap : Nat) (w : World) (hT : Lib.Utf8Tabs 0 1 w) (hb : Lib.Bytes w b off s) (i : Nat) (hi : i < s.size) :
    Calls Tryd.prog 21 #[.slice (some ⟨b, off + i, none⟩) (s.size - i) cap] w fun e w' => e = .returned (.tuple #[.int .i32 ((Utf8.decode s i).1 : Nat), .int .i64 ((Utf8.decode s i).2 : Nat)]) ∧ Below w.heap.size w w' := by
  have hs : (s.extract i s.size).size = s.size - i := by simp
  have h := Tryd.utf8_DecodeRune (s.extract i s.size) b (off + i) cap w hT (fun j hj => by
    rw [get_extract, Nat.add_assoc, hb (i + j) (by omega)]
    have : s.get! (i + j) = s[i + j]'(by omega) := by
      have hd : i + j < s.data.size := by show i + j < s.size; omega
      show s.data[i + j]! = s.data[i + j]
      rw [getElem!_pos]
    rw [this])
  rw [hs, decodeGo_extract s i hi] at h
  exact h
end Go.Proofs.YtaaadimkbhkpiaaDoor
