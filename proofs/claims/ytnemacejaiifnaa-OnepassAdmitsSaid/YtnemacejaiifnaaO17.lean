/- Texts merged by program: OeSort. No condition. -/
import Derived.Test.YtnemacejaiifnaaO4
import Derived.Test.YtnemacejaiifnaaO1
import Derived.Test.YtnemacejaiifnaaO16
import Derived.Shelf.SlSortCmp.NoneTotal
set_option linter.unusedVariables false
/- Ranges are sorted by the library, and lie in their row still. No condition. -/
set_option linter.unusedSimpArgs false
namespace Go.Proofs.Ytnemacejaiifnaa
open Go Go.RowKit Go.Shelf Go.Lib
open Go.Sort (grow HoldsK SWO flatK get_flatK alloc_eq_grow grow_grow SortedIn PermIn heap_grow_old putRow putRowK mapBlock onCells putCells)

def encO (x : Int × Int) : List Value := [.int .i32 x.1, .int .i32 x.2]
def cfO (x y : Int × Int) : Int := Lib.compareInt x.1 y.1
theorem ltO (x y : Int × Int) : ltOf cfO x y = decide (x.1 < y.1) := by
  unfold ltOf cfO Lib.compareInt
  by_cases h1 : x.1 < y.1
  · simp [h1]
  · by_cases h2 : y.1 < x.1 <;> simp [h1, h2]
theorem swoO : SWO (ltOf cfO) where
  irrefl x := by rw [ltO]; simp
  trans x y z h1 h2 := by rw [ltO] at *; simp at *; omega
  ntrans x y z h1 h2 := by rw [ltO] at *; simp at *; omega
set_option maxHeartbeats 1000000 in
theorem ocompare_any (x y : Int) (W : World) : Calls Try.prog 153 #[.int .i32 x, .int .i32 y] W fun e w' => e = .returned (.int .i64 (Lib.compareInt x y)) ∧ w' = W := by
  go_enter Try.func153, Try.ntmps153
  by_cases h1 : x < y
  · have e : Lib.compareInt x y = -1 := by unfold Lib.compareInt; simp [h1]
    rw [e]
    go_wp2
    go_ret
    exact ⟨rfl, rfl⟩
  · by_cases h2 : y < x
    · have e : Lib.compareInt x y = 1 := by unfold Lib.compareInt; simp [h1, h2]
      rw [e]
      go_wp2
      go_ret
      exact ⟨rfl, rfl⟩
    · have e : Lib.compareInt x y = 0 := by unfold Lib.compareInt; simp [h1, h2]
      rw [e]
      go_wp2
      go_ret
      exact ⟨rfl, rfl⟩
set_option maxHeartbeats 1000000 in
theorem oclosure_any (x y : Int × Int) (W : World) : Calls Try.prog 152 #[.agg #[.int .i32 x.1, .int .i32 x.2], .agg #[.int .i32 y.1, .int .i32 y.2]] W fun e w' => e = .returned (.int .i64 (cfO x y)) ∧ ∃ q os', w' = grow (W.drewN q) os' := by
  have hcon := fun W' => ocompare_any x.1 y.1 W'
  unfold cfO
  generalize Lib.compareInt x.1 y.1 = r at hcon ⊢
  go_enter Try.func152, Try.ntmps152
  go_wp2_with (go_at_call 153; refine (hcon _).mono ?_; rintro e w' ⟨rfl, rfl⟩)
  go_ret
  exact ⟨rfl, 0, _, by rw [alloc_eq_grow, alloc_eq_grow, grow_grow]; rfl⟩
theorem cmpLaysO (blk off size : Nat) (w : World) : CmpLays Try.prog 152 #[] encO 2 cfO blk off size w := fun _ _ _ _ x y => oclosure_any x y _
theorem oenc_get (E : List (Int × Int)) (j : Nat) (hj : j < E.length * 2) : (flatK encO 2 E.toArray)[j]! = (cellsR E)[j]?.getD default := by
  rw [get_flatK encO 2 E.toArray j (by simpa using hj)]
  have hi : j / 2 < E.length := by omega
  obtain ⟨h1, h2⟩ := cellsR_at E (j / 2) hi
  have ge : (E.toArray)[j / 2]! = E[j / 2] := by simp [hi]
  rw [ge]
  by_cases hp : j % 2 = 0
  · rw [hp]
    rw [show j / 2 * 2 = j by omega] at h1
    rw [h1]
    rfl
  · have hp1 : j % 2 = 1 := by omega
    rw [hp1]
    rw [show j / 2 * 2 + 1 = j by omega] at h2
    rw [h2]
    rfl
theorem oholds {w : World} {B g c : Nat} {E : List (Int × Int)} (h : OwnR w B (.slice (some ⟨g, 0, none⟩) E.length c) E) : HoldsK encO 2 w g 0 E.toArray := by
  intro j hj
  have hj' : j < E.length * 2 := by simpa using hj
  rw [oenc_get E j hj', Nat.zero_add]
  obtain ⟨u, hu⟩ : ∃ u, (cellsR E)[j]? = some u := ⟨_, List.getElem?_eq_getElem (by rw [cellsR_length]; exact hj')⟩
  have hc := World.ownsRow.cells h.1 (g := g) rfl _ _ hu
  rw [hu]
  constructor
  · have hadd : (⟨g, 0, none⟩ : Addr).add j = ⟨g, j, none⟩ := by unfold Addr.add; split <;> simp_all
    rw [hadd] at hc
    exact hc
  · rcases h.1.2 with ⟨h1, _⟩ | ⟨q, cap, cur, h1, _, hh, _⟩
    · cases h1
    · injection h1 with h1
      injection h1 with h1
      injection h1 with h1
      subst h1
      simp [World.frozen?, hh]
theorem oheap_sorted {w : World} {g n : Nat} {os : Array Obj} {cur : Array Value} {e : TypeId} {fr : Nat × Nat} (d : Array (Int × Int)) (hb : w.heap[g]? = some (.cells cur e fr)) :
    (sortWorldK encO 2 w g 0 n d os).heap[g]? = some (.cells (putCells id 0 (flatK encO 2 d) cur) e fr) := by
  have hg : g < w.heap.size := (Array.getElem?_eq_some_iff.1 hb).1
  unfold sortWorldK putRowK
  rw [heap_grow_old _ _ (by simpa using hg)]
  simp [putRow, mapBlock, Sort.ahead, Array.getElem?_modify, hb, onCells]
theorem ogrown_sorted {w : World} {g n : Nat} {os : Array Obj} (d : Array (Int × Int)) : w.grownBy (sortWorldK encO 2 w g 0 n d os) (some g) := by
  refine ⟨rfl, rfl, rfl, by simp [sortWorldK, putRowK], fun k hk hne => ?_⟩
  unfold sortWorldK putRowK
  rw [heap_grow_old _ _ (by simpa using hk)]
  have : g ≠ k := fun e => hne (by rw [e])
  simp [putRow, mapBlock, Sort.ahead, Array.getElem?_modify, this]
/-- The world behind the sort. -/
def OSortPost (B : Nat) (v : Value) (E : List (Int × Int)) (w : World) (e : Ending) (w' : World) : Prop :=
  e = .returned (.tuple #[]) ∧ ∃ D, D.Perm E ∧ D.Pairwise (fun r s => r.1 ≤ s.1) ∧ Rgs w' v D ∧ w.grownBy w' v.ownBlock
set_option maxHeartbeats 1000000 in
theorem osort_any (B : Nat) (v : Value) (E : List (Int × Int)) (w : World) (h : OwnR w B v E) (hB : B ≤ w.heap.size) (hn : E.length < 4611686018427387904) :
    Calls Try.prog 151 #[v, .func (.func 152) #[] #[]] w (OSortPost B v E w) := by
  rcases own_slice2 h.1 with ⟨rfl, h0⟩ | ⟨g, c, rfl, h1, h2, h3⟩
  · have hE : E = [] := List.eq_nil_of_length_eq_zero h0
    subst hE
    have hs := AnyF.slices_SortFunc_none (P := Try.prog) (ρ := Try.sortEd_ren) { Try.sortEd with } none 0 (.func (.func 152) #[] #[]) w
    refine Calls.mono (f := 151) hs ?_
    rintro e w' ⟨rfl, rfl⟩
    exact ⟨rfl, [], List.Perm.nil, List.Pairwise.nil, h.rgs, World.grownBy.refl _ _⟩
  · have eg : ∀ args w, (callFunc 152 args).run Try.prog w = .ok (.enter 152 args) w := enters_of Try.func152 (by kernel_rfl) rfl
    have hH := oholds h
    have hblk : g < w.heap.size := (World.ownsRow.lt h.1 g rfl).2
    obtain ⟨cur, hcell⟩ : ∃ cur, w.heap[g]? = some (.cells cur 131 (0, 0)) := by
      rcases h.1.2 with ⟨h5, _⟩ | ⟨q, cap, cur, h5, _, hh, _⟩
      · cases h5
      · injection h5 with h5
        injection h5 with h5
        injection h5 with h5
        subst h5
        exact ⟨cur, hh⟩
    have hcon := AnyQ.slices_SortFunc Try.sortEd 2 Try.isAgg131 Try.sizeOf131 encO (fun _ => rfl) (fun x v hv => by simp [encO] at hv; rcases hv with rfl | rfl <;> rfl) cfO swoO 152 #[] g 0 c E.toArray w eg (cmpLaysO g 0 E.toArray.size w) hH hblk (by simpa using hn)
    rw [List.size_toArray] at hcon
    refine Calls.mono (f := 151) hcon ?_
    rintro e w' ⟨rfl, d', n, os, hp, hs, rfl⟩
    have hsz : d'.size = E.length := by simpa using hp.1
    have hperm : d'.toList.Perm E := by
      have := hp.2.2
      rw [← List.size_toArray, Array.extract_size] at this
      have e1 : d'.extract 0 E.toArray.size = d' := by
        rw [List.size_toArray, ← hsz, Array.extract_size]
      rw [e1] at this
      simpa using this
    refine ⟨rfl, d'.toList, hperm, ?_, ⟨_, c, ?_, by simp [hsz]; exact h1, h2, fun e => (by cases e), .inr ⟨g, 0, rfl, fun i hi => ?_⟩, fun x hx => h.2 x (hperm.mem_iff.1 hx)⟩, ogrown_sorted _⟩
    · rw [List.pairwise_iff_getElem]
      intro i j hi hj hij
      have hj' : j < d'.size := by simpa using hj
      have := hs i j (Nat.zero_le _) hij (by rw [← hsz]; exact hj')
      rw [ltO, getElem!_pos d' j hj', getElem!_pos d' i (by omega)] at this
      have := of_decide_eq_false this
      simp only [Array.getElem_toList]
      omega
    · simp [hsz]
    · have hk := holdsK_sortWorldK_c encO 2 w g 0 E.toArray d' n os hH hblk (by simpa using hsz)
      have hi' : i < d'.size := by simpa using hi
      have a := (hk.cell (i := i) (c := 0) hi' (by omega)).1
      have b := (hk.cell (i := i) (c := 1) hi' (by omega)).1
      rw [getElem!_pos d' i hi', Nat.zero_add] at a b
      exact ⟨by simpa [encO] using a, by simpa [encO] using b⟩
/-- Ranges that don't touch one another: they are put in order, and looked at side by side. -/
def ApartPost (B : Nat) (v : Value) (E : List (Int × Int)) (w : World) (e : Ending) (w' : World) : Prop := ∃ b : Bool, e = .returned (.bool b) ∧ (b = true ↔ ApartL E) ∧ (∃ w1, w.grownBy w1 v.ownBlock ∧ Below w1.heap.size w1 w')
set_option maxHeartbeats 1600000 in
set_option maxRecDepth 100000 in
theorem papart_any (B : Nat) (v : Value) (E : List (Int × Int)) (w : World) (h : OwnR w B v E) (hB : B ≤ w.heap.size) (hn : E.length ≤ 1000000) (hf : ∀ r ∈ E, r.1 ≤ r.2) :
    Calls Try.prog 136 #[v] w (ApartPost B v E w) := by
  have HS := Lib.hid (osort_any B v E w h hB (by omega))
  have HN := Lib.hid hn; have HF := Lib.hid hf
  obtain ⟨A, c, hv⟩ : ∃ A c, v = .slice A E.length c := by
    rcases own_slice2 h.1 with ⟨rfl, h0⟩ | ⟨g, c, rfl, h1, h2, h3⟩
    · exact ⟨none, 0, by rw [h0]⟩
    · exact ⟨_, c, rfl⟩
  subst hv
  obtain ⟨n, hnl⟩ : ∃ n, E.length = n := ⟨_, rfl⟩
  have HNL := Lib.hid hnl
  rw [hnl] at HS HN ⊢
  clear h hB hn hf hnl
  go_enter Try.func136, Try.ntmps136
  go_wp2_with fail
  refine HS.out.mono ?_
  rintro e w1 ⟨rfl, D, hp, hs, hr, hg⟩
  have HAP : Hid (ApartL E ↔ ∀ i (h : i + 1 < D.length), D[i].2 < D[i + 1].1) := Lib.hid ((apart_perm hp).symm.trans (apart_sorted D hs fun r hr => HF.out r (hp.mem_iff.1 hr)))
  have hlD : D.length = n := by rw [hp.length_eq]; exact HNL.out
  have HR := Lib.hid hr; have HG := Lib.hid hg; have HLD := Lib.hid hlD
  clear hp hs hr hg hlD HS HF
  go_wp2_with fail
  go_loopw [3] (fun i wr => ∃ k : Nat, 1 ≤ k ∧ k ≤ n + 1 ∧ i = .int .i64 k ∧ Below w1.heap.size w1 wr ∧ ∀ j (hj : j + 1 < D.length), j + 1 < k → D[j].2 < D[j + 1].1) (fun i _ => n + 1 - (intOf i).toNat)
  case atStart => exact ⟨1, Nat.le_refl _, by omega, rfl, Below.refl _ _, fun j hj h => by omega⟩
  case round =>
    obtain ⟨k, hk1, hk, rfl, hB, hall⟩ := hrel
    have HB := Lib.hid hB; have HALL := Lib.hid hall
    have hw := HR.out.below hB
    clear hB hall
    have hkN : k ≤ 1000001 := by have := HN.out; omega
    by_cases hkn : k < n
    · have hz : (k : Int) < (n : Int) := by omega
      obtain ⟨a', c', e1, e2, e3, e4, e5, e6⟩ := hw
      rw [HLD.out] at e1
      injection e1 with e1 e1b e1c
      subst e1 e1c
      obtain ⟨k', rfl⟩ : ∃ k', k = k' + 1 := ⟨k - 1, by omega⟩
      have hkl : k' + 1 < D.length := by rw [HLD.out]; exact hkn
      rcases e5 with e5 | ⟨b, o, rfl, hc⟩
      · rw [e5] at hkl
        simp at hkl
      have c1 := (hc (k' + 1) hkl).1
      have c2 := (hc k' (by omega)).2
      obtain ⟨y1, hy1⟩ : ∃ y, D[k' + 1].1 = y := ⟨_, rfl⟩
      obtain ⟨y2, hy2⟩ : ∃ y, D[k'].2 = y := ⟨_, rfl⟩
      rw [hy1] at c1
      rw [hy2] at c2
      have hw1 : IntKind.i64.wrap (((k' + 1 : Nat) : Int) - 1) = (k' : Int) := by rw [(IntWalk.i64_left _).trans (IntWalk.wrap64_in _ ⟨by omega, by omega⟩)]; omega
      have hw2 : wrap64 ((k' : Int) + 1 - 1) = (k' : Int) := by rw [IntWalk.wrap64_in _ ⟨by omega, by omega⟩]; omega
      have hkz : (k' : Int) < (n : Int) := by omega
      have HY1 := Lib.hid hy1; have HY2 := Lib.hid hy2; have HKL := Lib.hid hkl
      clear hc e2 e3 e4 e6 hy1 hy2 e1b
      by_cases q0 : y1 ≤ y2
      · have d0 : decide (y1 ≤ y2) = true := decide_eq_true q0
        have Q0 := Lib.hid q0
        clear q0
        go_wp2_with fail
        go_big_quiet (fail)
        go_wp2_with fail
        go_ret
        refine ⟨false, rfl, ⟨fun h => (by cases h), fun h => ?_⟩, w1, HG.out, HB.out.trans ((below_draws wr nq).mono HB.out.size)⟩
        have := HAP.out.1 h k' HKL.out
        rw [HY1.out, HY2.out] at this
        have := Q0.out
        omega
      · have d0 : decide (y1 ≤ y2) = false := decide_eq_false q0
        have Q0 := Lib.hid q0
        clear q0
        go_wp2_with fail
        go_big_quiet (fail)
        go_wp2_with fail
        go_roundw
        case rel =>
          refine ⟨k' + 1 + 1, by omega, by omega, by go_num, HB.out.trans ((below_draws wr nq).mono HB.out.size), fun j hj hjk => ?_⟩
          by_cases hj2 : j + 1 < k' + 1
          · exact HALL.out j hj hj2
          · obtain rfl : j = k' := by omega
            rw [HY1.out, HY2.out]
            have := Q0.out
            omega
        case measure => simp [intOf]; omega
    · have hz : ¬ (k : Int) < (n : Int) := by omega
      have HKN := Lib.hid hkn
      clear hw
      go_wp2_with fail
      go_ret
      refine ⟨true, rfl, ⟨fun _ => HAP.out.2 fun j hj => HALL.out j hj (by have := HKN.out; have := HLD.out; omega), fun _ => rfl⟩, w1, HG.out, HB.out⟩
end Go.Proofs.Ytnemacejaiifnaa
