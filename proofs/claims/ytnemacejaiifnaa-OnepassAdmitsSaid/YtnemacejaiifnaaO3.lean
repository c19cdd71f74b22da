/- Texts merged by program: Rgs, RRight. No condition. -/
import Derived.Test.YtnemacejaiifnaaO2
import Derived.Test.YtnemacejaiifnaaO1
import Derived.Test.YtnemacejaiifnaaProg
import Derived.Below
import Derived.Deep.QuietTactic
import Derived.BigQuiet
set_option linter.unusedVariables false
/- Lists of ranges in memory. -/
set_option linter.unusedSimpArgs false
namespace Go.Proofs.Ytnemacejaiifnaa
open Go Go.RowKit

def I32 (x : Int) : Prop := -2147483648 ≤ x ∧ x ≤ 2147483647
/-- The slice value v holds the ranges l. -/
def Rgs (w : World) (v : Value) (l : List (Int × Int)) : Prop :=
  ∃ a c, v = .slice a l.length c ∧ l.length ≤ c ∧ c ≤ maxLen ∧ (a = none → c = 0) ∧
    (l = [] ∨ ∃ b o, a = some ⟨b, o, none⟩ ∧ ∀ i (h : i < l.length), w.cell? ⟨b, o + i * 2, none⟩ = some (.int .i32 l[i].1) ∧ w.cell? ⟨b, o + i * 2 + 1, none⟩ = some (.int .i32 l[i].2)) ∧
    ∀ r ∈ l, I32 r.1 ∧ I32 r.2
theorem Rgs.below {w w' : World} {v : Value} {l : List (Int × Int)} (h : Rgs w v l) (hb : Below w.heap.size w w') : Rgs w' v l := by
  obtain ⟨a, c, h1, h2, h3, h4, h5, h6⟩ := h
  refine ⟨a, c, h1, h2, h3, h4, ?_, h6⟩
  rcases h5 with h5 | ⟨b, o, e, hc⟩
  · exact .inl h5
  · exact .inr ⟨b, o, e, fun i hi => ⟨(hb.cell (World.block_lt_of_cell? w _ (hc i hi).1)).trans (hc i hi).1, (hb.cell (World.block_lt_of_cell? w _ (hc i hi).2)).trans (hc i hi).2⟩⟩
theorem below_drewNr {B : Nat} {a w : World} (h : Below B a w) : ∀ q, Below B a (w.drewN q)
  | 0 => h
  | q + 1 => (below_drewNr h q).drew

/-- A bool that says P; the world is as it was but for draws. -/
def Says (P : Prop) (w : World) (e : Ending) (w' : World) : Prop := ∃ B : Bool, e = .returned (.bool B) ∧ (B = true ↔ P) ∧ ∃ q, w' = w.drewN q

theorem right_split (l : List (Int × Int)) (m : Nat) (h : m < l.length) : RightR (l.take (m + 1)) ↔ RightR (l.take m) ∧ (endOf 0 (l.take m) ≤ l[m].1 ∧ l[m].1 ≤ l[m].2 ∧ l[m].2 ≤ 1114111) := by
  rw [List.take_succ_eq_append_getElem h]
  unfold RightR
  rw [right_append]
  simp [RightFrom]
theorem right_part (l : List (Int × Int)) (m : Nat) (h : RightR l) : RightR (l.take m) := by
  rw [← List.take_append_drop m l] at h
  exact ((right_append _ _ _).1 h).1
theorem end_take (l : List (Int × Int)) (m : Nat) (h : m + 1 ≤ l.length) : endOf 0 (l.take (m + 1)) = l[m].2 + 2 := by
  rw [List.take_succ_eq_append_getElem h, end_append]

theorem end_nonneg : ∀ (l : List (Int × Int)) (lo : Int), 0 ≤ lo → RightFrom lo l → 0 ≤ endOf lo l
  | [], _, h, _ => h
  | r :: l, lo, h, ⟨h1, h2, h3, h4⟩ => end_nonneg l (r.2 + 2) (by omega) h4

theorem has_split (l : List (Int × Int)) (m : Nat) (h : m < l.length) (c : Int) : HasR (l.take (m + 1)) c ↔ HasR (l.take m) c ∨ (0 ≤ c ∧ c ≤ 1114111 ∧ l[m].1 ≤ c ∧ c ≤ l[m].2) := by
  rw [List.take_succ_eq_append_getElem h, has_append, has_one]
theorem has_part (l : List (Int × Int)) (m : Nat) (c : Int) (h : HasR (l.take m) c) : HasR l c := by
  rw [← List.take_append_drop m l, has_append]
  exact .inl h

theorem rgs_at {w : World} {b o : Nat} {l : List (Int × Int)} (hc : ∀ i (h : i < l.length), w.cell? ⟨b, o + i * 2, none⟩ = some (.int .i32 l[i].1) ∧ w.cell? ⟨b, o + i * 2 + 1, none⟩ = some (.int .i32 l[i].2)) (m : Nat) (h : m < l.length) :
    ∃ y1 y2, l[m]? = some (y1, y2) ∧ l.take (m + 1) = l.take m ++ [(y1, y2)] ∧ w.cell? ⟨b, o + m * 2, none⟩ = some (.int .i32 y1) ∧ w.cell? ⟨b, o + m * 2 + 1, none⟩ = some (.int .i32 y2) :=
  ⟨l[m].1, l[m].2, by simp [h], List.take_succ_eq_append_getElem h, (hc m h).1, (hc m h).2⟩

end Go.Proofs.Ytnemacejaiifnaa
/- The document's Right: is a list a set? -/
namespace Go.Proofs.Ytnemacejaiifnaa
open Go Go.RowKit

set_option maxHeartbeats 1600000 in
set_option maxRecDepth 100000 in
theorem rright_any (v : Value) (l : List (Int × Int)) (w : World) (h : Rgs w v l) :
    Calls Try.prog 137 #[v] w (Says (RightR l) w) := by
  obtain ⟨a, c, rfl, h2, h3, h4, h5, h6⟩ := h
  have hlen : l.length ≤ 9223372036854775807 := by unfold maxLen at h3; omega
  have H5 := Lib.hid h5; have H6 := Lib.hid h6
  clear h5 h6 h4 h2 h3
  go_enter Try.func137, Try.ntmps137
  go_wp2
  go_loopw [3] (fun i wr => ∃ m : Nat, m ≤ l.length ∧ i = .int .i64 m ∧ (∃ q, wr = w.drewN q) ∧ RightR (l.take m)) (fun i _ => l.length - (intOf i).toNat)
  case atStart => exact ⟨0, Nat.zero_le _, rfl, ⟨0, rfl⟩, by simp [RightR, RightFrom]⟩
  case round =>
    obtain ⟨m, hm, rfl, ⟨q, rfl⟩, hR⟩ := hrel
    have HR := Lib.hid hR
    clear hR
    by_cases hlt : m < l.length
    · rcases H5.out with h5 | ⟨b, o, rfl, hc⟩
      · rw [h5] at hlt
        simp at hlt
      have hltz : (m : Int) < (l.length : Int) := by omega
      obtain ⟨c1, c2⟩ := hc m hlt
      obtain ⟨x, hx⟩ : ∃ x, l[m] = x := ⟨_, rfl⟩
      have hi := H6.out _ (List.getElem_mem hlt)
      rw [hx] at c1 c2 hi
      obtain ⟨x1, x2⟩ := x
      simp only at c1 c2 hi
      unfold I32 at hi
      have hsp := right_split l m hlt
      rw [hx] at hsp
      have HS := Lib.hid hsp; have HC := Lib.hid hc
      clear hsp hc hx
      have bad : ¬ (endOf 0 (l.take m) ≤ x1 ∧ x1 ≤ x2 ∧ x2 ≤ 1114111) → ¬ RightR l := fun hb hr => hb (HS.out.1 (right_part l (m + 1) hr)).2
      by_cases q0 : x1 < 0
      · have d0 : decide (x1 < 0) = true := decide_eq_true q0
        go_wp2_with fail
        go_big_quiet (fail)
        go_wp2
        go_ret
        refine ⟨false, rfl, ?_, ⟨_, World.drewN_drewN _ _ _⟩⟩
        have := bad (by intro h; have := end_nonneg (l.take m) 0 (by omega) HR.out; omega)
        simp [this]
      · have d0 : decide (x1 < 0) = false := decide_eq_false q0
        by_cases q1 : 1114111 < x2
        · have d1 : decide (1114111 < x2) = true := decide_eq_true q1
          go_wp2_with fail
          go_big_quiet (fail)
          go_wp2
          go_ret
          refine ⟨false, rfl, ?_, ⟨_, World.drewN_drewN _ _ _⟩⟩
          have := bad (by omega)
          simp [this]
        · have d1 : decide (1114111 < x2) = false := decide_eq_false q1
          by_cases q2 : x2 < x1
          · have d2 : decide (x2 < x1) = true := decide_eq_true q2
            go_wp2_with fail
            go_big_quiet (fail)
            go_wp2
            go_ret
            refine ⟨false, rfl, ?_, ⟨_, World.drewN_drewN _ _ _⟩⟩
            have := bad (by omega)
            simp [this]
          · have d2 : decide (x2 < x1) = false := decide_eq_false q2
            by_cases hm0 : m = 0
            · subst hm0
              rw [Nat.zero_mul, Nat.add_zero] at c1 c2
              go_wp2_with fail
              go_big_quiet (fail)
              go_wp2_with fail
              go_big_quiet (fail)
              go_wp2
              go_roundw
              case rel => exact ⟨1, by omega, rfl, ⟨_, by first | with_reducible rfl | exact World.drewN_drewN _ _ _ | (rw [World.drewN_drewN]; exact World.drewN_drewN _ _ _)⟩, HS.out.2 ⟨HR.out, by simp [endOf]; omega, by omega, by omega⟩⟩
              case measure => simp [intOf]; omega
            · obtain ⟨p, rfl⟩ : ∃ p, m = p + 1 := ⟨m - 1, by omega⟩
              have hp : p < l.length := by omega
              obtain ⟨e1, e2⟩ := HC.out p hp
              have hE := end_take l p (by omega)
              have hF := right_fit _ 0 (by omega) HR.out l[p] (List.mem_iff_getElem.2 ⟨p, by rw [List.length_take]; omega, by rw [List.getElem_take]⟩)
              obtain ⟨y, hy⟩ : ∃ y, l[p] = y := ⟨_, rfl⟩
              rw [hy] at e1 e2 hE hF
              obtain ⟨y1, y2⟩ := y
              unfold Fit at hF
              simp only at e1 e2 hE hF
              have HE := Lib.hid hE
              clear hy hE
              have hpz : (0 : Int) < (p : Int) + 1 := by omega
              have dp : decide ((0 : Int) < (p : Int) + 1) = true := decide_eq_true hpz
              by_cases q3 : x1 ≤ y2
              · have d3 : decide (x1 ≤ y2) = true := decide_eq_true q3
                go_wp2_with fail
                go_big_quiet (fail)
                go_wp2_with fail
                go_big_quiet (fail)
                go_wp2
                go_ret
                refine ⟨false, rfl, ?_, ⟨_, by first | with_reducible rfl | exact World.drewN_drewN _ _ _ | (rw [World.drewN_drewN]; exact World.drewN_drewN _ _ _)⟩⟩
                have := bad (by rw [HE.out]; omega)
                simp [this]
              · have d3 : decide (x1 ≤ y2) = false := decide_eq_false q3
                by_cases q4 : x1 - y2 < 2
                · have d4 : decide (x1 - y2 < 2) = true := decide_eq_true q4
                  go_wp2_with fail
                  go_big_quiet (fail)
                  go_wp2_with fail
                  go_big_quiet (fail)
                  go_wp2
                  go_ret
                  refine ⟨false, rfl, ?_, ⟨_, by first | with_reducible rfl | exact World.drewN_drewN _ _ _ | (rw [World.drewN_drewN]; exact World.drewN_drewN _ _ _)⟩⟩
                  have := bad (by rw [HE.out]; omega)
                  simp [this]
                · have d4 : decide (x1 - y2 < 2) = false := decide_eq_false q4
                  go_wp2_with fail
                  go_big_quiet (fail)
                  go_wp2_with fail
                  go_big_quiet (fail)
                  go_wp2
                  go_roundw
                  case rel => exact ⟨p + 2, by omega, by go_num, ⟨_, by first | with_reducible rfl | exact World.drewN_drewN _ _ _ | (rw [World.drewN_drewN]; exact World.drewN_drewN _ _ _)⟩, HS.out.2 ⟨HR.out, by rw [HE.out]; omega, by omega, by omega⟩⟩
                  case measure => simp [intOf]; omega
    · have e : l.take m = l := List.take_of_length_le (by omega)
      have hr := HR.out
      rw [e] at hr
      go_wp2
      go_ret
      exact ⟨true, rfl, by simp [hr], q, rfl⟩

end Go.Proofs.Ytnemacejaiifnaa
