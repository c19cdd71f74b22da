/- Texts merged by program: Sort. No condition. -/
import Derived.Test.YtmaigjdmjmonbaaGreatDoorK13
import Derived.Test.YtmaigjdmjmonbaaGreatDoorK16
import Derived.Shelf.SlSortCmp.NoneTotal
set_option linter.unusedVariables false
/- The edges are sorted by the library, and lie in their row still. -/
namespace Go.Proofs.YtmaigjdmjmonbaaGreatDoor
open Go Go.RowKit Go.Shelf Go.Lib
open Go.Sort (grow HoldsK SWO flatK get_flatK alloc_eq_grow grow_grow SortedIn PermIn heap_grow_old putRow putRowK mapBlock onCells putCells)

def encE (x : Int × Int) : List Value := [.int .i32 x.1, .int .i64 x.2]
def cfE (x y : Int × Int) : Int := Lib.compareInt x.1 y.1
theorem ltE (x y : Int × Int) : ltOf cfE x y = decide (x.1 < y.1) := by
  unfold ltOf cfE Lib.compareInt
  by_cases h1 : x.1 < y.1
  · simp [h1]
  · by_cases h2 : y.1 < x.1 <;> simp [h1, h2]
theorem swoE : SWO (ltOf cfE) where
  irrefl x := by rw [ltE]; simp
  trans x y z h1 h2 := by rw [ltE] at *; simp at *; omega
  ntrans x y z h1 h2 := by rw [ltE] at *; simp at *; omega

set_option maxHeartbeats 1000000 in
theorem compare_any (x y : Int) (W : World) : Calls Tryz.prog 79 #[.int .i32 x, .int .i32 y] W fun e w' => e = .returned (.int .i64 (Lib.compareInt x y)) ∧ w' = W := by
  go_enter Tryz.func79, Tryz.ntmps79
  by_cases h1 : x < y
  · have e : Lib.compareInt x y = -1 := by unfold Lib.compareInt; simp [h1]
    rw [e]
    go_wp2
    go_ret
    exact ⟨rfl, rfl⟩
  · by_cases h2 : y < x
    · have e : Lib.compareInt x y = 1 := by unfold Lib.compareInt; simp [h1, h2]
      rw [e]
      go_wp2
      go_ret
      exact ⟨rfl, rfl⟩
    · have e : Lib.compareInt x y = 0 := by unfold Lib.compareInt; simp [h1, h2]
      rw [e]
      go_wp2
      go_ret
      exact ⟨rfl, rfl⟩

set_option maxHeartbeats 1000000 in
theorem closure_any (x y : Int × Int) (W : World) : Calls Tryz.prog 78 #[.agg #[.int .i32 x.1, .int .i64 x.2], .agg #[.int .i32 y.1, .int .i64 y.2]] W fun e w' => e = .returned (.int .i64 (cfE x y)) ∧ ∃ q os', w' = grow (W.drewN q) os' := by
  have hcon := fun W' => compare_any x.1 y.1 W'
  unfold cfE
  generalize Lib.compareInt x.1 y.1 = r at hcon ⊢
  go_enter Tryz.func78, Tryz.ntmps78
  go_wp2_with (go_at_call 79; refine (hcon _).mono ?_; rintro e w' ⟨rfl, rfl⟩)
  go_ret
  exact ⟨rfl, 0, _, by rw [alloc_eq_grow, alloc_eq_grow, grow_grow]; rfl⟩
theorem cmpLaysE (blk off size : Nat) (w : World) : CmpLays Tryz.prog 78 #[] encE 2 cfE blk off size w := fun _ _ _ _ x y => closure_any x y _

/-- The value v holds the edges D, in a block of edges of at least B. -/
def EdRow (w : World) (B : Nat) (v : Value) (D : List (Int × Int)) : Prop :=
  (v = .slice none 0 0 ∧ D = []) ∨ ∃ g c cs, v = .slice (some ⟨g, 0, none⟩) D.length c ∧ B ≤ g ∧ D.length ≤ c ∧ c ≤ maxLen ∧ w.heap[g]? = some (.cells cs 117 (0, 0)) ∧ ∀ i (h : i < D.length), w.cell? ⟨g, i * 2, none⟩ = some (.int .i32 D[i].1) ∧ w.cell? ⟨g, i * 2 + 1, none⟩ = some (.int .i64 D[i].2)
/-- Blocks of edges lie as they lay. -/
def KeepsEd (W W' : World) : Prop := ∀ (g : Nat) (cs : Array Value), W.heap[g]? = some (Obj.cells cs 117 (0, 0)) → W'.heap[g]? = some (Obj.cells cs 117 (0, 0))
theorem KeepsEd.trans {A B C : World} (h : KeepsEd A B) (k : KeepsEd B C) : KeepsEd A C := fun g cs hg => k g cs (h g cs hg)
theorem KeepsEd.refl (A : World) : KeepsEd A A := fun _ _ h => h
theorem KeepsEd.grown {W W' : World} {row : Option Nat} (hg : W.grownBy W' row) (hr : ∀ r, row = some r → ∀ cs : Array Value, W.heap[r]? ≠ some (Obj.cells cs 117 (0, 0))) : KeepsEd W W' := fun g cs h => by
  refine (hg.block g (Array.getElem?_eq_some_iff.1 h).1 ?_).trans h
  intro e
  exact hr g e.symm cs h
theorem EdRow.keeps {w w' : World} {B : Nat} {v : Value} {D : List (Int × Int)} (h : EdRow w B v D) (hk : KeepsEd w w') : EdRow w' B v D := by
  rcases h with h | ⟨g, c, cs, h1, h2, h3, h4, h5, h6⟩
  · exact .inl h
  · have h7 := hk g cs h5
    have hc : ∀ i, w'.cell? ⟨g, i, none⟩ = w.cell? ⟨g, i, none⟩ := fun i => World.cell?_of_block (h7.trans h5.symm)
    exact .inr ⟨g, c, cs, h1, h2, h3, h4, h7, fun i hi => by rw [hc, hc]; exact h6 i hi⟩

theorem enc_get (E : List (Int × Int)) (j : Nat) (hj : j < E.length * 2) : (flatK encE 2 E.toArray)[j]! = (cellsE E)[j]?.getD default := by
  rw [get_flatK encE 2 E.toArray j (by simpa using hj)]
  have hi : j / 2 < E.length := by omega
  obtain ⟨h1, h2⟩ := cellsE_at E (j / 2) hi
  have ge : (E.toArray)[j / 2]! = E[j / 2] := by simp [hi]
  rw [ge]
  by_cases hp : j % 2 = 0
  · rw [hp]
    rw [show j / 2 * 2 = j by omega] at h1
    rw [h1]
    rfl
  · have hp1 : j % 2 = 1 := by omega
    rw [hp1]
    rw [show j / 2 * 2 + 1 = j by omega] at h2
    rw [h2]
    rfl
theorem holds_of_own {w : World} {B g c : Nat} {E : List (Int × Int)} (h : OwnE w B (.slice (some ⟨g, 0, none⟩) E.length c) E) : HoldsK encE 2 w g 0 E.toArray := by
  intro j hj
  have hj' : j < E.length * 2 := by simpa using hj
  rw [enc_get E j hj', Nat.zero_add]
  obtain ⟨u, hu⟩ : ∃ u, (cellsE E)[j]? = some u := ⟨_, List.getElem?_eq_getElem (by rw [cellsE_length]; exact hj')⟩
  have hc := World.ownsRow.cells h (g := g) rfl _ _ hu
  rw [hu]
  constructor
  · have hadd : (⟨g, 0, none⟩ : Addr).add j = ⟨g, j, none⟩ := by unfold Addr.add; split <;> simp_all
    rw [hadd] at hc
    exact hc
  · rcases h.2 with ⟨h1, _⟩ | ⟨q, cap, cur, h1, _, hh, _⟩
    · cases h1
    · injection h1 with h1
      injection h1 with h1
      injection h1 with h1
      subst h1
      simp [World.frozen?, hh]

theorem heap_sortedE {w : World} {g n : Nat} {os : Array Obj} {cur : Array Value} {e : TypeId} {fr : Nat × Nat} (d : Array (Int × Int)) (hb : w.heap[g]? = some (.cells cur e fr)) :
    (sortWorldK encE 2 w g 0 n d os).heap[g]? = some (.cells (putCells id 0 (flatK encE 2 d) cur) e fr) := by
  have hg : g < w.heap.size := (Array.getElem?_eq_some_iff.1 hb).1
  unfold sortWorldK putRowK
  rw [heap_grow_old _ _ (by simpa using hg)]
  simp [putRow, mapBlock, Sort.ahead, Array.getElem?_modify, hb, onCells]
theorem grownBy_sortedE {w : World} {g n : Nat} {os : Array Obj} (d : Array (Int × Int)) : w.grownBy (sortWorldK encE 2 w g 0 n d os) (some g) := by
  refine ⟨rfl, rfl, rfl, by simp [sortWorldK, putRowK], fun k hk hne => ?_⟩
  unfold sortWorldK putRowK
  rw [heap_grow_old _ _ (by simpa using hk)]
  have : g ≠ k := fun e => hne (by rw [e])
  simp [putRow, mapBlock, Sort.ahead, Array.getElem?_modify, this]

/-- The world behind the sort. -/
def SortPost (B : Nat) (v : Value) (E : List (Int × Int)) (w : World) (e : Ending) (w' : World) : Prop :=
  e = .returned (.tuple #[]) ∧ ∃ D, D.Perm E ∧ RiseE D ∧ EdRow w' B v D ∧ Below B w w'

set_option maxHeartbeats 1000000 in
theorem sort_any (B : Nat) (v : Value) (E : List (Int × Int)) (w : World) (h : OwnE w B v E) (hB : B ≤ w.heap.size) (hn : E.length < 4611686018427387904) :
    Calls Tryz.prog 77 #[v, .func (.func 78) #[] #[]] w (SortPost B v E w) := by
  rcases own_slice2 h with ⟨rfl, h0⟩ | ⟨g, c, rfl, h1, h2, h3⟩
  · have hE : E = [] := List.eq_nil_of_length_eq_zero h0
    subst hE
    have hs := AnyF.slices_SortFunc_none (P := Tryz.prog) (ρ := Tryz.sortEd_ren) { Tryz.sortEd with } none 0 (.func (.func 78) #[] #[]) w
    refine Calls.mono (f := 77) hs ?_
    rintro e w' ⟨rfl, rfl⟩
    exact ⟨rfl, [], List.Perm.nil, List.Pairwise.nil, .inl ⟨rfl, rfl⟩, Below.refl _ _⟩
  · have eg : ∀ args w, (callFunc 78 args).run Tryz.prog w = .ok (.enter 78 args) w := enters_of Tryz.func78 (by kernel_rfl) rfl
    have hH := holds_of_own h
    have hblk : g < w.heap.size := (World.ownsRow.lt h g rfl).2
    obtain ⟨cur, hcell⟩ : ∃ cur, w.heap[g]? = some (.cells cur 117 (0, 0)) := by
      rcases h.2 with ⟨h5, _⟩ | ⟨q, cap, cur, h5, _, hh, _⟩
      · cases h5
      · injection h5 with h5
        injection h5 with h5
        injection h5 with h5
        subst h5
        exact ⟨cur, hh⟩
    have hcon := AnyQ.slices_SortFunc Tryz.sortEd 2 Tryz.isAgg117 Tryz.sizeOf117 encE (fun _ => rfl) (fun x v hv => by simp [encE] at hv; rcases hv with rfl | rfl <;> rfl) cfE swoE 78 #[] g 0 c E.toArray w eg (cmpLaysE g 0 E.toArray.size w) hH hblk (by simpa using hn)
    rw [List.size_toArray] at hcon
    refine Calls.mono (f := 77) hcon ?_
    rintro e w' ⟨rfl, d', n, os, hp, hs, rfl⟩
    have hsz : d'.size = E.length := by simpa using hp.1
    refine ⟨rfl, d'.toList, ?_, ?_, .inr ⟨g, c, putCells id 0 (flatK encE 2 d') cur, ?_, h3, ?_, h2, heap_sortedE _ hcell, fun i hi => ?_⟩, ?_⟩
    · have := hp.2.2
      rw [← List.size_toArray, Array.extract_size] at this
      have e1 : d'.extract 0 E.toArray.size = d' := by
        rw [List.size_toArray, ← hsz, Array.extract_size]
      rw [e1] at this
      simpa using this
    · unfold RiseE
      rw [List.pairwise_iff_getElem]
      intro i j hi hj hij
      have hj' : j < d'.size := by simpa using hj
      have := hs i j (Nat.zero_le _) hij (by rw [← hsz]; exact hj')
      rw [ltE, getElem!_pos d' j hj', getElem!_pos d' i (by omega)] at this
      have := of_decide_eq_false this
      simp only [Array.getElem_toList]
      omega
    · simp [hsz]
    · simp [hsz]; exact h1
    · have hk := holdsK_sortWorldK_c encE 2 w g 0 E.toArray d' n os hH hblk (by simpa using hsz)
      have hi' : i < d'.size := by simpa using hi
      have a := (hk.cell (i := i) (c := 0) hi' (by omega)).1
      have b := (hk.cell (i := i) (c := 1) hi' (by omega)).1
      rw [getElem!_pos d' i hi', Nat.zero_add] at a b
      exact ⟨by simpa [encE] using a, by simpa [encE] using b⟩
    · exact (Below.refl B w).grown (grownBy_sortedE _) hB (fun k e => by cases e; exact h3)
end Go.Proofs.YtmaigjdmjmonbaaGreatDoor
