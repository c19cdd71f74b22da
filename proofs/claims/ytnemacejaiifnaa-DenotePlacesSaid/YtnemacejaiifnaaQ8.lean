/- Texts merged by program: DnMat, DnTreeR, Decode, New, Ask, DnQhas, DnCaps, DnHeadM, PxMath. No condition. -/
import Derived.Test.YtnemacejaiifnaaQ1
import Derived.Test.YtnemacejaiifnaaQ4
import Derived.Test.YtnemacejaiifnaaQ5
import Derived.Test.YtnemacejaiifnaaQ3
import Derived.Test.YtnemacejaiifnaaQ6
import Derived.Test.YtnemacejaiifnaaQ7
import Derived.Deep.DeepCutAuto
set_option linter.unusedVariables false
/- Which core trees a tree is laid as, over the runes of a text. No condition. -/
namespace Go.Proofs.Ytnemacejaiifnaa
open Go Go.RowKit

/-- What stands behind a tree is marked, if the tree has Kids. -/
def Beh (lf : Prop) (y y' : Q) : Prop := (lf ∧ y' = y) ∨ (¬ lf ∧ ∃ a, y' = .mk a y)
inductive RowM (M : Tr → Q → Prop) : List Tr → Q → Prop where
  | nil : RowM M [] .eps
  | cons {k ks x y y'} : M k x → RowM M ks y → Beh (k.kids = []) y y' → RowM M (k :: ks) (.seq x y')
inductive AltM (M : Tr → Q → Prop) : List Tr → Q → Prop where
  | nil : AltM M [] .altN
  | cons {k ks x y} : M k x → AltM M ks y → AltM M (k :: ks) (.altC x y)
/-- A counted repeat, taken apart: at least l, at most h times (without an end, if h is below 0). -/
inductive RepM (M : Q → Prop) (lf : Prop) (z : Bool) : Int → Int → Q → Prop where
  | done {l} : RepM M lf z l 0 .eps
  | star {h a x} : h < 0 → M x → RepM M lf z 0 h (.star a z x)
  | plus {h a b x} : h < 0 → M x → RepM M lf z 1 h (.plus a b z x)
  | opt {h x y y'} : 0 < h → M x → RepM M lf z 0 (h - 1) y → Beh lf y y' → RepM M lf z 0 h (.quest z (.seq x y'))
  | more {l h x y y'} : 0 < l → h ≠ 0 → ¬ (h < 0 ∧ l = 1) → M x → RepM M lf z (l - 1) (h - 1) y → Beh lf y y' → RepM M lf z l h (.seq x y')
/-- Does a rune fit a set? -/
def fitsS (S : List (Int × Int)) (c : Int) : Bool := S.any fun r => decide (r.1 ≤ c) && decide (c ≤ r.2)
/-- A tree is laid so, if its Kids are laid as M says: over the runes R, up to G groups. -/
inductive MatC (R : List Int) (G : Nat) (M : Tr → Q → Prop) (t : Tr) : Q → Prop where
  | none : t.fld.op = 1 → MatC R G M t .none
  | eps : t.fld.op = 2 → MatC R G M t .eps
  | rune : t.fld.op = 3 → MatC R G M t (.sym fun i => runeAt R i == t.fld.rune)
  | set : t.fld.op = 4 → MatC R G M t (.sym fun i => fitsS t.fld.set (runeAt R i))
  | at' : t.fld.op = 5 → MatC R G M t (.look fun i => bits .and .i64 (atOf R i) t.fld.at' != 0)
  | cap {k x} : t.fld.op = 6 → t.fld.cap ≤ (G : Int) → t.kids = [k] → M k x → MatC R G M t (.cap t.fld.cap.toNat x)
  | bare {k x} : t.fld.op = 6 → (G : Int) < t.fld.cap → t.kids = [k] → M k x → MatC R G M t x
  | star {k a x} : t.fld.op = 7 → t.kids = [k] → M k x → MatC R G M t (.star a t.fld.lazy x)
  | plus {k a b x} : t.fld.op = 8 → t.kids = [k] → M k x → MatC R G M t (.plus a b t.fld.lazy x)
  | quest {k x} : t.fld.op = 9 → t.kids = [k] → M k x → MatC R G M t (.quest t.fld.lazy x)
  | rep {k q} : t.fld.op = 10 → t.kids = [k] → RepM (M k) (k.kids = []) t.fld.lazy t.fld.min t.fld.max q → MatC R G M t q
  | cat {q} : t.fld.op = 11 → RowM M t.kids q → MatC R G M t q
  | alt {q} : t.fld.op = 12 → AltM M t.kids q → MatC R G M t q
theorem RowM.mono {M M' : Tr → Q → Prop} (h : ∀ t q, M t q → M' t q) {ks : List Tr} {q : Q} (k : RowM M ks q) : RowM M' ks q := by
  induction k with
  | nil => exact .nil
  | cons h1 _ h3 ih => exact .cons (h _ _ h1) ih h3
theorem AltM.mono {M M' : Tr → Q → Prop} (h : ∀ t q, M t q → M' t q) {ks : List Tr} {q : Q} (k : AltM M ks q) : AltM M' ks q := by
  induction k with
  | nil => exact .nil
  | cons h1 _ ih => exact .cons (h _ _ h1) ih
theorem RepM.mono {M M' : Q → Prop} (h : ∀ q, M q → M' q) {lf : Prop} {z : Bool} {l u : Int} {q : Q} (k : RepM M lf z l u q) : RepM M' lf z l u q := by
  induction k with
  | done => exact .done
  | star h1 h2 => exact .star h1 (h _ h2)
  | plus h1 h2 => exact .plus h1 (h _ h2)
  | opt h1 h2 _ h4 ih => exact .opt h1 (h _ h2) ih h4
  | more h1 h2 h3 h4 _ h6 ih => exact .more h1 h2 h3 (h _ h4) ih h6
theorem MatC.mono {R : List Int} {G : Nat} {M M' : Tr → Q → Prop} (h : ∀ t q, M t q → M' t q) {t : Tr} {q : Q} (k : MatC R G M t q) : MatC R G M' t q := by
  cases k with
  | none h1 => exact .none h1
  | eps h1 => exact .eps h1
  | rune h1 => exact .rune h1
  | set h1 => exact .set h1
  | at' h1 => exact .at' h1
  | cap h1 h2 h3 h4 => exact .cap h1 h2 h3 (h _ _ h4)
  | bare h1 h2 h3 h4 => exact .bare h1 h2 h3 (h _ _ h4)
  | star h1 h2 h3 => exact .star h1 h2 (h _ _ h3)
  | plus h1 h2 h3 => exact .plus h1 h2 (h _ _ h3)
  | quest h1 h2 h3 => exact .quest h1 h2 (h _ _ h3)
  | rep h1 h2 h3 => exact .rep h1 h2 (h3.mono fun q => h _ q)
  | cat h1 h2 => exact .cat h1 (h2.mono h)
  | alt h1 h2 => exact .alt h1 (h2.mono h)
/-- The tree is laid as this. -/
def Mat (R : List Int) (G : Nat) (t : Tr) (q : Q) : Prop := ∀ P : Tr → Q → Prop, (∀ t q, MatC R G P t q → P t q) → P t q
theorem mat_iff (R : List Int) (G : Nat) (t : Tr) (q : Q) : Mat R G t q ↔ MatC R G (Mat R G) t q := by
  have h1 : ∀ t q, MatC R G (Mat R G) t q → Mat R G t q := fun t q h P hP => hP _ _ (h.mono fun t q h => h P hP)
  exact ⟨fun h => h (MatC R G (Mat R G)) fun t q h => h.mono h1, h1 t q⟩
end Go.Proofs.Ytnemacejaiifnaa
/- Where a tree may fit in a text, as a relation of places; what it is laid as fits just there. No memory. -/
namespace Go.Proofs.Ytnemacejaiifnaa
open Go Go.RowKit

abbrev RelN : Type := Nat → Nat → Prop
/-- So often, one behind the other. -/
def PowR (r : RelN) : Nat → RelN
  | 0, i, j => j = i
  | n + 1, i, j => ∃ k, r i k ∧ PowR r n k j
/-- At least l times, at most u times (without an end, if u is below 0). -/
def RepR (r : RelN) (l u : Int) : RelN := fun i j => ∃ n : Nat, l ≤ (n : Int) ∧ (u < 0 ∨ (n : Int) ≤ u) ∧ PowR r n i j
def RowR : List RelN → RelN
  | [], i, j => j = i
  | r :: l, i, j => ∃ k, r i k ∧ RowR l k j
def AltR : List RelN → RelN
  | [], _, _ => False
  | r :: l, i, j => r i j ∨ AltR l i j
def TreeX (R : List Int) (f : Fld) (l : List RelN) : RelN := fun i j =>
  if f.op = 2 then j = i
  else if f.op = 3 then (runeAt R i == f.rune) = true ∧ j = i + 1
  else if f.op = 4 then fitsS f.set (runeAt R i) = true ∧ j = i + 1
  else if f.op = 5 then (bits .and .i64 (atOf R i) f.at' != 0) = true ∧ j = i
  else if f.op = 11 then RowR l i j
  else if f.op = 12 then AltR l i j
  else match l with
    | [r] => if f.op = 6 then r i j else if f.op = 7 then StarR r i j else if f.op = 8 then ∃ k, r i k ∧ StarR r k j else if f.op = 9 then j = i ∨ r i j else if f.op = 10 then RepR r f.min f.max i j else False
    | _ => False
/-- Where the tree t may fit. -/
def TreeR (R : List Int) : Tr → RelN := Tr.para fun t l => TreeX R t.fld l
theorem treeR_eq (R : List Int) (t : Tr) : TreeR R t = TreeX R t.fld (t.kids.map (TreeR R)) := Tr.para_eq _ t
theorem star_pow {r : RelN} {i j : Nat} : StarR r i j ↔ ∃ n, PowR r n i j := by
  constructor
  · intro h
    induction h with
    | refl => exact ⟨0, rfl⟩
    | step h1 _ ih => obtain ⟨n, h2⟩ := ih; exact ⟨n + 1, _, h1, h2⟩
  · rintro ⟨n, h⟩
    induction n generalizing i with
    | zero => obtain rfl := h; exact .refl
    | succ n ih => obtain ⟨k, h1, h2⟩ := h; exact .step h1 (ih h2)
theorem row_reach {R : List Int} {M : Tr → Q → Prop} {ks : List Tr} {q : Q} (h : RowM M ks q) (hk : ∀ k ∈ ks, ∀ x, M k x → ∀ i j, RQ x i j ↔ TreeR R k i j) : ∀ i j, RQ q i j ↔ RowR (ks.map (TreeR R)) i j := by
  induction h with
  | nil => exact fun i j => Iff.rfl
  | @cons k ks x y y' h1 _ h3 ih =>
    have hy := ih fun k hk' => hk k (List.mem_cons_of_mem _ hk')
    have hy' : ∀ i j, RQ y' i j ↔ RQ y i j := fun i j => by rcases h3 with ⟨-, rfl⟩ | ⟨-, a, rfl⟩ <;> exact Iff.rfl
    intro i j
    exact exists_congr fun m => and_congr (hk _ (List.mem_cons_self ..) _ h1 i m) ((hy' m j).trans (hy m j))
theorem alt_reach {R : List Int} {M : Tr → Q → Prop} {ks : List Tr} {q : Q} (h : AltM M ks q) (hk : ∀ k ∈ ks, ∀ x, M k x → ∀ i j, RQ x i j ↔ TreeR R k i j) : ∀ i j, RQ q i j ↔ AltR (ks.map (TreeR R)) i j := by
  induction h with
  | nil => exact fun i j => Iff.rfl
  | cons h1 _ ih => exact fun i j => or_congr (hk _ (List.mem_cons_self ..) _ h1 i j) (ih (fun k hk' => hk k (List.mem_cons_of_mem _ hk')) i j)
theorem rep_reach {r : RelN} {M : Q → Prop} {lf : Prop} {z : Bool} {l u : Int} {q : Q} (h : RepM M lf z l u q) (hk : ∀ x, M x → ∀ i j, RQ x i j ↔ r i j) : 0 ≤ l → (u < 0 ∨ l ≤ u) → ∀ i j, RQ q i j ↔ RepR r l u i j := by
  induction h with
  | done =>
    intro h0 h1 i j
    constructor
    · rintro rfl
      exact ⟨0, by omega, .inr (by omega), rfl⟩
    · rintro ⟨n, h2, h3, h4⟩
      obtain rfl : n = 0 := by omega
      exact h4
  | @star h a x hh hx =>
    intro _ _ i j
    have he : ∀ i j, RQ x i j ↔ r i j := hk x hx
    constructor
    · intro hs
      obtain ⟨n, hn⟩ := star_pow.1 (StarR.mono (fun i j => (he i j).1) hs)
      exact ⟨n, by omega, .inl hh, hn⟩
    · rintro ⟨n, -, -, hn⟩
      exact StarR.mono (fun i j => (he i j).2) (star_pow.2 ⟨n, hn⟩)
  | @plus h a b x hh hx =>
    intro _ _ i j
    have he : ∀ i j, RQ x i j ↔ r i j := hk x hx
    constructor
    · rintro ⟨k, h1, h2⟩
      obtain ⟨n, hn⟩ := star_pow.1 (StarR.mono (fun i j => (he i j).1) h2)
      exact ⟨n + 1, by omega, .inl hh, k, (he i k).1 h1, hn⟩
    · rintro ⟨n, h1, -, hn⟩
      obtain ⟨m, rfl⟩ : ∃ m, n = m + 1 := ⟨n - 1, by omega⟩
      obtain ⟨k, h2, h3⟩ := hn
      exact ⟨k, (he i k).2 h2, StarR.mono (fun i j => (he i j).2) (star_pow.2 ⟨m, h3⟩)⟩
  | @opt h x y y' hh hx _ hb ih =>
    intro _ _ i j
    have he : ∀ i j, RQ x i j ↔ r i j := hk x hx
    have hy' : ∀ i j, RQ y' i j ↔ RQ y i j := fun i j => by rcases hb with ⟨-, rfl⟩ | ⟨-, a, rfl⟩ <;> exact Iff.rfl
    have ih := ih (by omega) (.inr (by omega))
    constructor
    · rintro (rfl | ⟨k, h1, h2⟩)
      · exact ⟨0, by omega, .inr (by omega), rfl⟩
      · obtain ⟨n, g1, g2, g3⟩ := (ih k j).1 ((hy' k j).1 h2)
        exact ⟨n + 1, by omega, .inr (by omega), k, (he i k).1 h1, g3⟩
    · rintro ⟨n, g1, g2, g3⟩
      cases n with
      | zero => exact .inl g3
      | succ n =>
        obtain ⟨k, h2, h3⟩ := g3
        exact .inr ⟨k, (he i k).2 h2, (hy' k j).2 ((ih k j).2 ⟨n, by omega, .inr (by omega), h3⟩)⟩
  | @more l h x y y' hl hh hn hx _ hb ih =>
    intro _ hu i j
    have he : ∀ i j, RQ x i j ↔ r i j := hk x hx
    have hy' : ∀ i j, RQ y' i j ↔ RQ y i j := fun i j => by rcases hb with ⟨-, rfl⟩ | ⟨-, a, rfl⟩ <;> exact Iff.rfl
    have ih := ih (by omega) (by omega)
    constructor
    · rintro ⟨k, h1, h2⟩
      obtain ⟨n, g1, g2, g3⟩ := (ih k j).1 ((hy' k j).1 h2)
      exact ⟨n + 1, by omega, by omega, k, (he i k).1 h1, g3⟩
    · rintro ⟨n, g1, g2, g3⟩
      obtain ⟨m, rfl⟩ : ∃ m, n = m + 1 := ⟨n - 1, by omega⟩
      obtain ⟨k, h2, h3⟩ := g3
      exact ⟨k, (he i k).2 h2, (hy' k j).2 ((ih k j).2 ⟨m, by omega, by omega, h3⟩)⟩
/-- What a tree is laid as fits just where the tree does. -/
theorem mat_reach (R : List Int) (G : Nat) (t : Tr) : ShapedP t → ∀ q, Mat R G t q → ∀ i j, RQ q i j ↔ TreeR R t i j := by
  refine Tr.ind (P := fun t => ShapedP t → ∀ q, Mat R G t q → ∀ i j, RQ q i j ↔ TreeR R t i j) (fun t ih hsh q hq i j => ?_) t
  obtain ⟨hF, hKO, hcap, hks⟩ := (shapedP_iff t).1 hsh
  have IH : ∀ k ∈ t.kids, ∀ x, Mat R G k x → ∀ i j, RQ x i j ↔ TreeR R k i j := fun k hk => ih k hk (hks k hk)
  have one : ∀ {k}, t.kids = [k] → k ∈ t.kids := fun h => by rw [h]; exact List.mem_singleton.2 rfl
  rw [treeR_eq]
  unfold TreeX
  have e0 : t.fld.op < 6 → t.kids.map (TreeR R) = [] := fun h => by
    have : t.kids.length = 0 := by have := hKO.2.2; omega
    rw [List.eq_nil_of_length_eq_zero this]; rfl
  cases (mat_iff R G t q).1 hq with
  | none h => rw [e0 (by omega)]; simp [h, RQ]
  | eps h => simp [h, RQ]
  | rune h => simp [h, RQ]
  | set h => simp [h, RQ]
  | at' h => simp [h, RQ]
  | @cap k x h1 h2 h3 h4 => have := IH _ (one h3) _ h4 i j; simp only [h1, h3, List.map_cons, List.map_nil]; exact this
  | bare h1 h2 h3 h4 => have := IH _ (one h3) _ h4 i j; simp only [h1, h3, List.map_cons, List.map_nil]; exact this
  | star h1 h2 h3 =>
    have he := IH _ (one h2) _ h3
    simp only [h1, h2, List.map_cons, List.map_nil]
    exact ⟨StarR.mono fun i j => (he i j).1, StarR.mono fun i j => (he i j).2⟩
  | plus h1 h2 h3 =>
    have he := IH _ (one h2) _ h3
    simp only [h1, h2, List.map_cons, List.map_nil]
    exact exists_congr fun k => and_congr (he i k) ⟨StarR.mono fun i j => (he i j).1, StarR.mono fun i j => (he i j).2⟩
  | quest h1 h2 h3 =>
    have he := IH _ (one h2) _ h3
    simp only [h1, h2, List.map_cons, List.map_nil]
    exact or_congr Iff.rfl (he i j)
  | rep h1 h2 h3 =>
    have hm := hF.2.2.2.2.2.2.2.2.2.2.2.2 h1
    simp only [h1, h2, List.map_cons, List.map_nil]
    exact rep_reach h3 (IH _ (one h2)) hm.1.1 (by omega) i j
  | cat h1 h2 => simp only [h1]; exact row_reach h2 IH i j
  | alt h1 h2 => simp only [h1]; exact alt_reach h2 IH i j
end Go.Proofs.Ytnemacejaiifnaa
/- What gathering the runes of a text answers: whatever text of at most 2^31 bytes: the runes and where they begin, in rows of its own. -/
namespace Go.Proofs.Ytnemacejaiifnaa
open Go Go.RowKit
theorem info_rune : (Try.prog.info? 21).map (fun i => (i.zero, i.size, i.bytes)) = some (some (.int .i32 0), 1, 4) := by kernel_rfl
theorem info_int : (Try.prog.info? 3).map (fun i => (i.zero, i.size, i.bytes)) = some (some (.int .i64 0), 1, 8) := by kernel_rfl

/-- A making of an empty row: what it leaves, the cells not written out. -/
theorem make_empty (t e : TypeId) (z : Value) (bytes : Nat) (ht : Try.prog.underlying t = some (.slice e)) (hinfo : (Try.prog.info? e).map (fun i => (i.zero, i.size, i.bytes)) = some (some z, 1, bytes)) 
    (c : Nat) (hc : bytes * c ≤ 281474976710656) (h63 : c ≤ maxLen) :
    ∃ C : Array Value, C.size = c ∧ ∀ W : World, (Instr.makeSlice t (.int .i64 0) (.int .i64 (c : Int))).run Try.prog W = .ok (.slice (some ⟨W.heap.size, 0, none⟩) 0 c) (W.alloc (.cells C e)) := by
  obtain ⟨i, hi, h0, h1, h2⟩ := info_parts hinfo
  refine ⟨madeCells z.cells (c * 1), by rw [size_madeCells]; omega, fun W => ?_⟩
  have h63' : (c : Int) ≤ 9223372036854775807 := by
    simp [maxLen] at h63
    omega
  have hb : (i.bytes : Int) * (c : Int) ≤ 281474976710656 := by
    rw [h2]
    have : ((bytes * c : Nat) : Int) ≤ 281474976710656 := by omega
    rwa [Int.natCast_mul] at this
  have hr := run_make (P := Try.prog) W t e i z ht hi h0 .i64 .i64 0 c (Int.le_refl _) (by omega) hb h63'
  simp only [Int.toNat_zero, Int.toNat_natCast, h1] at hr
  exact hr

/-- What has been gathered: block bd is the struct, its two rows hold rs and os. -/
def Gath (B bd : Nat) (s : ByteArray) (rs os : List Int) (w : World) : Prop :=
  ∃ rv ov, B < bd ∧ Whole w bd 43 #[.string s, rv, ov] ∧ w.ownsRow B 21 1 rv rs.length (rs.map (.int .i32)) ∧ w.ownsRow B 3 1 ov os.length (os.map (.int .i64))

theorem three1 (W : World) (o1 o2 o3 : Obj) : ((((W.alloc o1).alloc o2).alloc o3).drew).heap[W.heap.size]? = some o1 :=
  (Below.heap_alloc _ _ _ (by simp; omega)).trans ((Below.heap_alloc _ _ _ (by simp)).trans (heap_alloc_new W o1))
theorem three2 (W : World) (o1 o2 o3 : Obj) : ((((W.alloc o1).alloc o2).alloc o3).drew).heap[W.heap.size + 1]? = some o2 :=
  (Below.heap_alloc _ _ _ (by simp)).trans (by have := heap_alloc_new (W.alloc o1) o2; simpa using this)
theorem three3 (W : World) (o1 o2 o3 : Obj) : ((((W.alloc o1).alloc o2).alloc o3).drew).heap[W.heap.size + 1 + 1]? = some o3 := by
  have h := heap_alloc_new ((W.alloc o1).alloc o2) o3
  rw [World.size_alloc, World.size_alloc] at h
  exact h
theorem gath_of {X : World} {B bd n vr vo : Nat} {s : ByteArray} {CR CO : Array Value} 
    (hs : X.heap[bd]? = some (.cells #[.string s, .slice (some ⟨vr, 0, none⟩) 0 n, .slice (some ⟨vo, 0, none⟩) 0 (n + 1)] 43))
    (hr : X.heap[vr]? = some (.cells CR 21)) (ho : X.heap[vo]? = some (.cells CO 3)) (h0 : B < bd) (h1 : B ≤ vr) (h2 : B ≤ vo) (hn : n < maxLen) (hCR : CR.size = n) (hCO : CO.size = n + 1) : Gath B bd s [] [] X :=
  ⟨_, _, h0, hs, ⟨rfl, .inr ⟨vr, n, CR, rfl, h1, hr, Nat.zero_le _, by omega, by omega, by simp⟩⟩, ⟨rfl, .inr ⟨vo, n + 1, CO, rfl, h2, ho, Nat.zero_le _, by omega, by omega, by simp⟩⟩⟩

theorem gath_alloc {B bd : Nat} {s : ByteArray} {rs os : List Int} {w : World} (h : Gath B bd s rs os w) (o : Obj) : Gath B bd s rs os (w.alloc o) := by
  obtain ⟨rv, ov, h0, h1, h2, h3⟩ := h
  exact ⟨rv, ov, h0, h1.alloc o, h2.alloc o, h3.alloc o⟩
theorem own_store3 {w : World} {g base n : Nat} {t e : TypeId} {cs : Array Value} {v : Value} {xs : List Value} (h : w.ownsRow base e 1 v n xs) (hg : Whole w g t cs) (hne : e ≠ t) (u0 u1 u2 : Value) :
    (((w.setCell ⟨g, 0, none⟩ u0).setCell ⟨g, 1, none⟩ u1).setCell ⟨g, 2, none⟩ u2).ownsRow base e 1 v n xs :=
  own_store (own_store (own_store h hg hne 0 u0) (hg.store 0 u0) hne 1 u1) ((hg.store 0 u0).store 1 u1) hne 2 u2
/-- What decode leaves: the text, its runes, where they begin and where the last ends. -/
def DecPost (s : ByteArray) (w : World) (e : Ending) (w' : World) : Prop :=
  ∃ a c a' c', e = .returned (.agg #[.string s, .slice a (runesOf s).length c, .slice a' (offsOf s).length c']) ∧
    w'.ownsRow w.heap.size 21 1 (.slice a (runesOf s).length c) (runesOf s).length ((runesOf s).map (.int .i32)) ∧
    w'.ownsRow w.heap.size 3 1 (.slice a' (offsOf s).length c') (offsOf s).length ((offsOf s).map (.int .i64)) ∧ Below w.heap.size w w'
/-- The relation of the gathering loop. -/
def Rel (w : World) (bd it : Nat) (s : ByteArray) (wr : World) : Prop :=
  ∃ (pos fuel : Nat) (rs os : List Int), Gath w.heap.size bd s rs os wr ∧ wr.heap[it]? = some (.stringIter s pos) ∧ Below w.heap.size w wr ∧
    Whole wr w.heap.size 43 #[.string ⟨#[]⟩, .slice none 0 0, .slice none 0 0] ∧
    rs ++ runesFrom s fuel pos = runesOf s ∧ os ++ offsFrom s fuel pos = offsFrom s s.size 0 ∧ s.size ≤ pos + fuel ∧ rs.length ≤ pos ∧ os.length = rs.length

set_option maxHeartbeats 400000 in
set_option maxRecDepth 100000 in
theorem decode_any (s : ByteArray) (w : World) (hs : s.size ≤ 2147483648) :
    Calls Try.prog 45 #[.string s] w fun e w' => DecPost s w e w' := by
  go_enter Try.func45, Try.ntmps45
  go_upto_region 2 with (go_at_call 92; refine (count_any s _ (by omega)).mono ?_; rintro e w' ⟨n, hn, rfl, pos, rfl⟩)
  go_cut [4] (fun s4 wx => ∃ bd : Nat, s4 = .pointer (some ⟨bd, 0, none⟩) ∧ Gath w.heap.size bd s [] [] wx ∧ Below w.heap.size w wx ∧ Whole wx w.heap.size 43 #[.string ⟨#[]⟩, .slice none 0 0, .slice none 0 0])
  case first =>
    obtain ⟨CR, hCR, mkR⟩ := make_empty 41 21 _ 4 Try.underlying41 info_rune n (by omega) (by unfold maxLen; omega)
    obtain ⟨CO, hCO, mkO⟩ := make_empty 38 3 _ 8 Try.underlying38 info_int (n + 1) (by omega) (by unfold maxLen; omega)
    rw [Int.natCast_add, Int.natCast_one] at mkO
    have hW1 : Below w.heap.size w ((w.alloc (.cells #[.string ⟨#[]⟩, .slice none 0 0, .slice none 0 0] 43)).iter s pos) := ((Below.refl _ w).alloc (Nat.le_refl _) _).alloc (by simp) _
    have hW2 : Whole ((w.alloc (.cells #[.string ⟨#[]⟩, .slice none 0 0, .slice none 0 0] 43)).iter s pos) w.heap.size 43 #[.string ⟨#[]⟩, .slice none 0 0, .slice none 0 0] := Whole.alloc (by unfold Whole; exact heap_alloc_new w _) _
    generalize (w.alloc (.cells #[.string ⟨#[]⟩, .slice none 0 0, .slice none 0 0] 43)).iter s pos = W2 at hW1 hW2 ⊢
    have hWs := hW2.lt
    have HB := Lib.hid hW1; have HW := Lib.hid hW2; clear hW1 hW2
    go_region
    all_goals (go_wp2_with fail; go_meet)
    all_goals
      refine ⟨_, rfl, ?_, (((HB.out.alloc (by omega) _).alloc (by simp; omega) _).alloc (by simp; omega) _).drew, ((HW.out.alloc _).alloc _).alloc _⟩
      first | (exact gath_of (three1 W2 _ _ _) (three2 W2 _ _ _) (three3 W2 _ _ _) (by omega) (by omega) (by omega) (by unfold maxLen; omega) hCR hCO) | (exact gath_of (three1 W2 _ _ _) (three3 W2 _ _ _) (three2 W2 _ _ _) (by omega) (by omega) (by omega) (by unfold maxLen; omega) hCR hCO) | (exact gath_of (three2 W2 _ _ _) (three1 W2 _ _ _) (three3 W2 _ _ _) (by omega) (by omega) (by omega) (by unfold maxLen; omega) hCR hCO) | (exact gath_of (three2 W2 _ _ _) (three3 W2 _ _ _) (three1 W2 _ _ _) (by omega) (by omega) (by omega) (by unfold maxLen; omega) hCR hCO) | (exact gath_of (three3 W2 _ _ _) (three1 W2 _ _ _) (three2 W2 _ _ _) (by omega) (by omega) (by omega) (by unfold maxLen; omega) hCR hCO) | (exact gath_of (three3 W2 _ _ _) (three2 W2 _ _ _) (three1 W2 _ _ _) (by omega) (by omega) (by omega) (by unfold maxLen; omega) hCR hCO)
  case rest =>
    obtain ⟨bd, rfl, hG, hB, hR⟩ := hcut
    obtain ⟨i21, hi21, hz21, hs21, hb21⟩ := info_parts info_rune
    obtain ⟨i3, hi3, hz3, hs3, hb3⟩ := info_parts info_int
    go_wp2_with fail
    go_loopw [] (fun wr => Rel w bd wc.heap.size s wr) (fun wr => s.size - wr.iterPos wc.heap.size)
    case atStart =>
      exact ⟨0, s.size, [], [], gath_alloc hG _, World.iter_heap wc s 0, hB.alloc hB.size _, hR.alloc _, rfl, rfl, by omega, by simp, rfl⟩
    case round =>
      obtain ⟨pos, fuel, rs, os, ⟨rv, ov, hbd, hW, hr, ho⟩, hit, hBw, hRw, h1, h2, hfu, hrl, hol⟩ := hrel
      have H1 := Lib.hid h1; have H2 := Lib.hid h2; have H3 := Lib.hid hol; clear h1 h2 hol
      by_cases hp : pos < s.size
      · obtain ⟨c, hc⟩ : ∃ c : Nat, c = (Utf8.decode s pos).1 := ⟨_, rfl⟩
        obtain ⟨wi, hwi⟩ : ∃ wi : World, wi = wr.iterAt wc.heap.size s (pos + (Utf8.decode s pos).2) := ⟨_, rfl⟩
        have hnx : ∀ ty, (Instr.next (.pointer (some ⟨wc.heap.size, 0, none⟩)) true ty).run Try.prog wr = .ok (.tuple #[.bool true, .int .i64 pos, .int .i32 c]) wi := fun ty => by rw [hc, hwi]; exact Lib.run_next_any_at wr wc.heap.size s pos ty hit hp
        have hWi := hW.iterAt hit (pos + (Utf8.decode s pos).2)
        have hri := own_iterAt hr hit (pos + (Utf8.decode s pos).2)
        have hoi := own_iterAt ho hit (pos + (Utf8.decode s pos).2)
        have hRi := hRw.iterAt hit (pos + (Utf8.decode s pos).2)
        have hiti := Lib.iterAt_heap wr wc.heap.size s pos (pos + (Utf8.decode s pos).2) hit
        have hBi := Lib.below_iterAt hBw (k := wc.heap.size) hB.size s (pos + (Utf8.decode s pos).2)
        rw [← hwi] at hWi hri hoi hRi hiti hBi
        have HC := Lib.hid hc; have HWI := Lib.hid hwi; have HIT := Lib.hid hit; have HITI := Lib.hid hiti; clear hc hwi hit hiti
        have c1 := hWi.cell 1
        have hsz := hBi.size
        simp only [List.getElem?_toArray, List.getElem?_cons_succ, List.getElem?_cons_zero] at c1
        have hlt := Lib.hid hW.lt
        go_wp2_with (first
          | (at_builtin; refine wpList_append_own _ rfl (.tmp 23) (.tmp 25) 41 rfl w.heap.size 21 i21 (.int .i32 0) 1 4 Try.underlying41 hi21 hz21 hs21 hb21 rfl (by decide) rv rs.length (rs.map (.int .i32)) rfl (hri.alloc _) ⟨wi.heap.size, 0, none⟩ 1 1 [.int .i32 c] rfl rfl ?a1 ?a2 ?a3 ?a4 ?a5 ?_))
        case a1 => exact one_new _ _ _
        case a2 => intro u hu; simp at hu; subst hu; rfl
        case a3 => unfold maxLen; omega
        case a4 => omega
        case a5 => simp; omega
        intro v1 w1 hown1 hg1 _
        obtain ⟨ad1, cp1, hv1⟩ := own_slice hown1
        subst hv1
        have e1 := (hWi.alloc (.cells #[.int .i32 c] 21)).grown hg1 (own_whole_ne hri hWi (by decide))
        have e2 := (hRi.alloc (.cells #[.int .i32 c] 21)).grown hg1 (own_whole_ne hri hRi (by decide))
        have e3 := (hoi.alloc (.cells #[.int .i32 c] 21)).kept hg1 (own_own_ne hoi hri (by decide))
        have e4 := Lib.hid (iter_grown (iter_alloc HITI.out (.cells #[.int .i32 c] 21)) (hri.alloc _) hg1)
        have e5 := (hBi.alloc hsz (.cells #[.int .i32 c] 21)).grown hg1 (by simp; omega) (fun k hk => (hri.lt k hk).1)
        have d1 := e1.cell 1
        have d2 := e1.cell 2
        simp only [List.getElem?_toArray, List.getElem?_cons_succ, List.getElem?_cons_zero] at d1 d2
        have f1 := e1.free 1
        have f2 := e1.free 2
        have g1 := e5.size
        have o1 := own_store hown1 e1 (by decide) 1 (.slice ad1 (rs.length + 1) cp1)
        have o2 := own_store e3 e1 (by decide) 1 (.slice ad1 (rs.length + 1) cp1)
        have o3 := e1.store 1 (.slice ad1 (rs.length + 1) cp1)
        have o4 := e2.far (g' := bd) (by omega) 1 (.slice ad1 (rs.length + 1) cp1)
        have o5 := Lib.hid (iter_store e4.out e1 1 (.slice ad1 (rs.length + 1) cp1))
        have o6 := e5.setCell (p := ⟨bd, 1, none⟩) (by show w.heap.size ≤ bd; omega) (.slice ad1 (rs.length + 1) cp1)
        clear hown1 hg1 e2 e3 e4 e5 hri hoi hRi hWi hBi c1
        go_wp2_with (first
          | (at_builtin; go_loud (refine wpList_append_own _ rfl (.tmp 29) (.tmp 31) 38 rfl w.heap.size 3 i3 (.int .i64 0) 1 8 Try.underlying38 hi3 hz3 hs3 hb3 rfl (by decide) ov os.length (os.map (.int .i64)) rfl (o2.alloc _) ⟨w1.heap.size, 0, none⟩ 1 1 [.int .i64 pos] rfl rfl ?b1 ?b2 ?b3 ?b4 ?b5 ?_)))
        case b1 => have := one_new (w1.setCell ⟨bd, 1, none⟩ (.slice ad1 (rs.length + 1) cp1)) (.int .i64 pos) 3; simpa using this
        case b2 => intro u hu; simp at hu; subst hu; rfl
        case b3 => have := H3.out; unfold maxLen; omega
        case b4 => have := H3.out; omega
        case b5 => simp; omega
        intro v2 w2 hown2 hg2 _
        obtain ⟨ad2, cp2, hv2⟩ := own_slice hown2
        subst hv2
        have e1 := (o3.alloc (.cells #[.int .i64 pos] 3)).grown hg2 (own_whole_ne o2 o3 (by decide))
        have e2 := (o4.alloc (.cells #[.int .i64 pos] 3)).grown hg2 (own_whole_ne o2 o4 (by decide))
        have e3 := (o1.alloc (.cells #[.int .i64 pos] 3)).kept hg2 (own_own_ne o1 o2 (by decide))
        have e4 := Lib.hid (iter_grown (iter_alloc o5.out (.cells #[.int .i64 pos] 3)) (o2.alloc _) hg2)
        have e5 := (o6.alloc o6.size (.cells #[.int .i64 pos] 3)).grown hg2 (by have := o6.size; simp at this ⊢; omega) (fun k hk => (o2.lt k hk).1)
        have d2 := e1.cell 2
        have f2 := e1.free 2
        simp at d2
        have p1 := own_store hown2 e1 (by decide) 2 (.slice ad2 (os.length + 1) cp2)
        have p2 := own_store e3 e1 (by decide) 2 (.slice ad2 (os.length + 1) cp2)
        have p3 := e1.store 2 (.slice ad2 (os.length + 1) cp2)
        have p4 := e2.far (g' := bd) (by omega) 2 (.slice ad2 (os.length + 1) cp2)
        have p5 := Lib.hid (iter_store e4.out e1 2 (.slice ad2 (os.length + 1) cp2))
        have p6 := e5.setCell (p := ⟨bd, 2, none⟩) (by show w.heap.size ≤ bd; omega) (.slice ad2 (os.length + 1) cp2)
        clear hown2 hg2 e2 e3 e4 e5 o1 o2 o3 o4 o5 o6
        go_wp2
        go_roundw
        case rel =>
          obtain ⟨f, rfl⟩ : ∃ f, fuel = f + 1 := ⟨fuel - 1, by omega⟩
          have hwd := Lib.decode_width_pos s pos hp
          refine ⟨pos + (Utf8.decode s pos).2, f, rs ++ [(c : Int)], os ++ [(pos : Int)], ⟨_, _, hbd, p3, by simpa using p2, by simpa using p1⟩, p5.out, p6, p4, ?_, ?_, by omega, by simp; omega, by simp [H3.out]⟩
          · rw [← H1.out, runesFrom_step s f pos hp, HC.out]; simp
          · rw [← H2.out, offsFrom_step s f pos hp]; simp
        case measure =>
          have hwd := Lib.decode_width_pos s pos hp
          rw [iterPos_of p5.out, iterPos_of HIT.out]
          omega
      · obtain ⟨ar, cr, hrv⟩ := own_slice hr
        subst hrv
        have hnx : ∀ ty, (Instr.next (.pointer (some ⟨wc.heap.size, 0, none⟩)) true ty).run Try.prog wr = _ := fun ty => Lib.run_next_end_at wr wc.heap.size s pos ty hit hp
        have c2 := hW.cell 2
        have k2 := hW.free 2
        simp at c2
        have hsz := hBw.size
        have hos : os.length ≤ s.size := by
          have h := H2.out
          have e := length_offsFrom s s.size 0
          have e' := length_runesFrom s s.size 0
          rw [← h] at e
          simp at e
          omega
        go_wp2_with (first
          | (at_builtin; refine wpList_append_own _ rfl (.tmp 35) (.tmp 38) 38 rfl w.heap.size 3 i3 (.int .i64 0) 1 8 Try.underlying38 hi3 hz3 hs3 hb3 rfl (by decide) ov os.length (os.map (.int .i64)) rfl (ho.alloc _) ⟨wr.heap.size, 0, none⟩ 1 1 [.int .i64 s.size] rfl rfl ?d1 ?d2 ?d3 ?d4 ?d5 ?_))
        case d1 => exact one_new _ _ _
        case d2 => intro u hu; simp at hu; subst hu; rfl
        case d3 => unfold maxLen; omega
        case d4 => omega
        case d5 => simp; omega
        intro v2 w2 hown2 hg2 _
        obtain ⟨ad2, cp2, hv2⟩ := own_slice hown2
        subst hv2
        have e1 := (hW.alloc (.cells #[.int .i64 s.size] 3)).grown hg2 (own_whole_ne ho hW (by decide))
        have e2 := (hRw.alloc (.cells #[.int .i64 s.size] 3)).grown hg2 (own_whole_ne ho hRw (by decide))
        have e3 := (hr.alloc (.cells #[.int .i64 s.size] 3)).kept hg2 (own_own_ne hr ho (by decide))
        have e5 := (hBw.alloc hBw.size (.cells #[.int .i64 s.size] 3)).grown hg2 (by simp; omega) (fun k hk => (ho.lt k hk).1)
        have q0 := e1.cell 0
        have q1 := e1.cell 1
        have q2 := e1.cell 2
        have f2 := e1.free 2
        have r0 := e2.cell 0
        have r1 := e2.cell 1
        have r2 := e2.cell 2
        have s0 := e2.free 0
        have s1 := e2.free 1
        have s2 := e2.free 2
        simp at q0 q1 q2 r0 r1 r2
        have HBD := Lib.hid hbd
        have hne : ¬ bd = w.heap.size := by omega
        have hne' : ¬ w.heap.size = bd := by omega
        go_wp2
        refine bodyPost_ret (v := .agg #[.string s, .slice ar rs.length cr, .slice ad2 (os.length + 1) cp2]) ?_ rfl ?_
        · have t4 := e2.far (g' := bd) hne' 2 (.slice ad2 (os.length + 1) cp2)
          have y0 := (t4.store 0 (.string s)).cell 0
          have y1 := ((t4.store 0 (.string s)).store 1 (.slice ar rs.length cr)).cell 1
          have y2 := (((t4.store 0 (.string s)).store 1 (.slice ar rs.length cr)).store 2 (.slice ad2 (os.length + 1) cp2)).cell 2
          simp at y0 y1 y2
          simp [results, Try.results45, go_sem, y0, y1, y2]
        · have hR2 : rs = runesOf s := by have h := H1.out; rw [runesFrom_end s fuel pos hp, List.append_nil] at h; exact h
          have hO2 : os ++ [(s.size : Int)] = offsOf s := by have h := H2.out; rw [offsFrom_end s fuel pos hp, List.append_nil] at h; rw [h]; rfl
          have hl2 : os.length + 1 = (offsOf s).length := by rw [← hO2]; simp
          have t1 := e1.store 2 (.slice ad2 (os.length + 1) cp2)
          have t2 := own_store hown2 e1 (by decide) 2 (.slice ad2 (os.length + 1) cp2)
          have t3 := own_store e3 e1 (by decide) 2 (.slice ad2 (os.length + 1) cp2)
          have t4 := e2.far (g' := bd) hne' 2 (.slice ad2 (os.length + 1) cp2)
          have t5 := e5.setCell (p := ⟨bd, 2, none⟩) (by show w.heap.size ≤ bd; omega) (.slice ad2 (os.length + 1) cp2)
          have x1 := own_store3 t2 t4 (by decide) (.string s) (.slice ar rs.length cr) (.slice ad2 (os.length + 1) cp2)
          have x2 := own_store3 t3 t4 (by decide) (.string s) (.slice ar rs.length cr) (.slice ad2 (os.length + 1) cp2)
          have x3 := ((t5.setCell (p := ⟨w.heap.size, 0, none⟩) (Nat.le_refl _) (.string s)).setCell (p := ⟨w.heap.size, 1, none⟩) (Nat.le_refl _) (.slice ar rs.length cr)).setCell (p := ⟨w.heap.size, 2, none⟩) (Nat.le_refl _) (.slice ad2 (os.length + 1) cp2)
          clear t1 t2 t3 t4 t5 e1 e2 e3 e5
          subst hR2
          exact ⟨ar, cr, ad2, cp2, by rw [← hl2], x2, by rw [← hl2, ← hO2]; simpa using x1, x3⟩
end Go.Proofs.Ytnemacejaiifnaa
/- What making an input answers: every kind, every text that can be read: the input, or which of two errors. -/
namespace Go.Proofs.Ytnemacejaiifnaa
open Go Go.RowKit

/-- A row that reads as the numbers xs. -/
def RowAt (w : World) (B : Nat) (k : IntKind) (a : Option Addr) (xs : List Int) : Prop := ∀ i (h : i < xs.length), ∃ g, a = some ⟨g, 0, none⟩ ∧ B ≤ g ∧ w.cell? ⟨g, i, none⟩ = some (.int k xs[i])
theorem RowAt.keep {w w' : World} {B : Nat} {k : IntKind} {a : Option Addr} {xs : List Int} (h : RowAt w B k a xs) (hk : ∀ j, B ≤ j → j < w.heap.size → w'.heap[j]? = w.heap[j]?) : RowAt w' B k a xs := by
  intro i hi
  obtain ⟨g, e, hg, hc⟩ := h i hi
  exact ⟨g, e, hg, (World.cell?_of_block (w := w) (hk g hg (World.block_lt_of_cell? w _ hc))).trans hc⟩
theorem RowAt.below {w w' : World} {B : Nat} {k : IntKind} {a : Option Addr} {xs : List Int} (h : RowAt w B k a xs) (hb : Below w.heap.size w w') : RowAt w' B k a xs := h.keep fun j _ hj => hb.block j hj
theorem RowAt.of_own {w : World} {B : Nat} {e : TypeId} {k : IntKind} {a : Option Addr} {c : Nat} {xs : List Int} (h : w.ownsRow B e 1 (.slice a xs.length c) xs.length (xs.map (.int k))) : RowAt w B k a xs := by
  intro i hi
  rcases h.2 with ⟨_, h0⟩ | ⟨q, cap, cur, hv, hq, _⟩
  · omega
  · injection hv with h1 h2 h3
    subst h1
    refine ⟨q, rfl, by assumption, ?_⟩
    rw [h.cellAt i (by omega)]
    simp [hi]

/-- Block b is an input of kind k of the text s; all that it holds lies from block B on. -/
def In (w : World) (B : Nat) (k : Int) (s : ByteArray) (b : Nat) : Prop :=
  s.size ≤ 2147483648 ∧ B ≤ b ∧ ∃ a c a' c', Whole w b 45 #[.int .i64 k, .string s, .slice a (runesOf s).length c, .slice a' (offsOf s).length c'] ∧ RowAt w B .i32 a (runesOf s) ∧ RowAt w B .i64 a' (offsOf s)
theorem In.keep {w w' : World} {B : Nat} {k : Int} {s : ByteArray} {b : Nat} (h : In w B k s b) (hk : ∀ j, B ≤ j → j < w.heap.size → w'.heap[j]? = w.heap[j]?) : In w' B k s b := by
  obtain ⟨h0, hb, a, c, a', c', h1, h2, h3⟩ := h
  exact ⟨h0, hb, a, c, a', c', (hk b hb h1.lt).trans h1, h2.keep hk, h3.keep hk⟩
theorem In.below {w w' : World} {B : Nat} {k : Int} {s : ByteArray} {b : Nat} (h : In w B k s b) (hb : Below w.heap.size w w') : In w' B k s b := h.keep fun j _ hj => hb.block j hj
theorem In.lt {w : World} {B : Nat} {k : Int} {s : ByteArray} {b : Nat} (h : In w B k s b) : b < w.heap.size := by
  obtain ⟨_, _, a, c, a', c', h1, h2, h3⟩ := h
  exact h1.lt
/-- What New leaves of a good kind and a text that is not too long. -/
def NewPost (k : Int) (s : ByteArray) (w : World) (e : Ending) (w' : World) : Prop :=
  ∃ b, e = .returned (.tuple #[.pointer (some ⟨b, 0, none⟩), .int .i64 0]) ∧ w.heap.size ≤ b ∧ In w' w.heap.size k s b ∧ Below w.heap.size w w'

theorem size_le (s : ByteArray) (h : (s.size : Int) ≤ 65536) : s.size ≤ 2147483648 := by omega

set_option maxHeartbeats 400000 in
set_option maxRecDepth 100000 in
theorem new_one (k : Int) (hk : k = 1 ∨ k = 2 ∨ k = 3) (A : Option Addr) (c : Nat) (s : ByteArray) (w : World) (hs : (s.size : Int) ≤ 65536)
    (hconv : (convert 28 9 (.slice A s.size c)).run Try.prog w = .ok (.string s) w) :
    Calls Try.prog 28 #[.int .i64 k, .slice A s.size c] w (NewPost k s w) := by
  have hs' := size_le s hs
  rcases hk with rfl | rfl | rfl
  all_goals
    go_enter Try.func28, Try.ntmps28
    go_wp2_with (go_at_call 45; refine (decode_any s _ hs').mono ?_; rintro e w1 ⟨a1, c1, a2, c2, rfl, h1, h2, h3⟩)
    go_ret2
    refine ⟨w1.heap.size, rfl, h3.size, ⟨hs', h3.size, a1, c1, a2, c2, by unfold Whole; exact heap_alloc_new w1 _, (RowAt.of_own h1).below ((Below.refl _ _).alloc (Nat.le_refl _) _), (RowAt.of_own h2).below ((Below.refl _ _).alloc (Nat.le_refl _) _)⟩, h3.alloc h3.size _⟩

set_option maxHeartbeats 400000 in
set_option maxRecDepth 100000 in
theorem new_long (k : Int) (hk : k = 1 ∨ k = 2 ∨ k = 3) (A : Option Addr) (n c : Nat) (w : World) (hs : (65536 : Int) < n) :
    Calls Try.prog 28 #[.int .i64 k, .slice A n c] w fun e w' => e = .returned (.tuple #[.pointer none, .int .i64 2]) ∧ w = w' := by
  rcases hk with rfl | rfl | rfl
  all_goals
    go_enter Try.func28, Try.ntmps28
    go_wp2
    go_ret2
    exact ⟨rfl, rfl⟩

set_option maxHeartbeats 400000 in
set_option maxRecDepth 100000 in
theorem new_bad (k : Int) (h1 : (k == 1) = false) (h2 : (k == 2) = false) (h3 : (k == 3) = false) (A : Option Addr) (n c : Nat) (w : World) :
    Calls Try.prog 28 #[.int .i64 k, .slice A n c] w fun e w' => e = .returned (.tuple #[.pointer none, .int .i64 1]) ∧ w = w' := by
  go_enter Try.func28, Try.ntmps28
  go_wp2
  go_ret2
  exact ⟨rfl, rfl⟩
end Go.Proofs.Ytnemacejaiifnaa
/- What the questions asked of an input answer: how many runes, a rune, its byte, what a place is: whatever number is asked of. -/
namespace Go.Proofs.Ytnemacejaiifnaa
open Go Go.RowKit

set_option maxHeartbeats 400000 in
set_option maxRecDepth 100000 in
theorem len_cell (b : Nat) (w : World) (a : Option Addr) (n c : Nat) (h2 : w.cell? ⟨b, 2, none⟩ = some (.slice a n c)) :
    Calls Try.prog 15 #[.pointer (some ⟨b, 1, none⟩)] w fun e w' => e = .returned (.int .i64 n) ∧ w = w' := by
  go_enter Try.func15, Try.ntmps15
  go_wp2
  go_ret
  exact ⟨rfl, rfl⟩
set_option maxHeartbeats 400000 in
set_option maxRecDepth 100000 in
theorem rune_in (b g : Nat) (w : World) (n c k : Nat) (x : Int) (hk : k < n) (_hn : n ≤ 9223372036854775807) (h2 : w.cell? ⟨b, 2, none⟩ = some (.slice (some ⟨g, 0, none⟩) n c)) (hx : w.cell? ⟨g, k, none⟩ = some (.int .i32 x)) :
    Calls Try.prog 44 #[.pointer (some ⟨b, 1, none⟩), .int .i64 k] w fun e w' => e = .returned (.int .i32 x) ∧ w = w' := by
  go_enter Try.func44, Try.ntmps44
  go_wp2
  go_ret
  exact ⟨rfl, rfl⟩
set_option maxHeartbeats 400000 in
set_option maxRecDepth 100000 in
theorem rune_neg (b : Nat) (w : World) (a : Option Addr) (n c : Nat) (i : Int) (hi : i < 0) (_h2 : w.cell? ⟨b, 2, none⟩ = some (.slice a n c)) :
    Calls Try.prog 44 #[.pointer (some ⟨b, 1, none⟩), .int .i64 i] w fun e w' => e = .returned (.int .i32 (-1)) ∧ w = w' := by
  go_enter Try.func44, Try.ntmps44
  go_wp2
  go_ret
  exact ⟨rfl, rfl⟩
set_option maxHeartbeats 400000 in
set_option maxRecDepth 100000 in
theorem rune_far (b : Nat) (w : World) (a : Option Addr) (n c : Nat) (i : Int) (h0 : 0 ≤ i) (hi : (n : Int) ≤ i) (h2 : w.cell? ⟨b, 2, none⟩ = some (.slice a n c)) :
    Calls Try.prog 44 #[.pointer (some ⟨b, 1, none⟩), .int .i64 i] w fun e w' => e = .returned (.int .i32 (-1)) ∧ w = w' := by
  go_enter Try.func44, Try.ntmps44
  go_wp2
  go_ret
  exact ⟨rfl, rfl⟩
set_option maxHeartbeats 400000 in
set_option maxRecDepth 100000 in
theorem off_in (b g : Nat) (w : World) (n c k : Nat) (x : Int) (hk : k < n) (_hn : n ≤ 9223372036854775807) (h3 : w.cell? ⟨b, 3, none⟩ = some (.slice (some ⟨g, 0, none⟩) n c)) (hx : w.cell? ⟨g, k, none⟩ = some (.int .i64 x)) :
    Calls Try.prog 67 #[.pointer (some ⟨b, 1, none⟩), .int .i64 k] w fun e w' => e = .returned (.int .i64 x) ∧ w = w' := by
  go_enter Try.func67, Try.ntmps67
  go_wp2
  go_ret
  exact ⟨rfl, rfl⟩
set_option maxHeartbeats 400000 in
set_option maxRecDepth 100000 in
theorem off_neg (b : Nat) (w : World) (a : Option Addr) (n c : Nat) (i : Int) (hi : i < 0) (_h3 : w.cell? ⟨b, 3, none⟩ = some (.slice a n c)) :
    Calls Try.prog 67 #[.pointer (some ⟨b, 1, none⟩), .int .i64 i] w fun e w' => e = .returned (.int .i64 (-1)) ∧ w = w' := by
  go_enter Try.func67, Try.ntmps67
  go_wp2
  go_ret
  exact ⟨rfl, rfl⟩
set_option maxHeartbeats 400000 in
set_option maxRecDepth 100000 in
theorem off_far (b : Nat) (w : World) (a : Option Addr) (n c : Nat) (i : Int) (h0 : 0 ≤ i) (hi : decide (i < (n : Int)) = false) (h3 : w.cell? ⟨b, 3, none⟩ = some (.slice a n c)) :
    Calls Try.prog 67 #[.pointer (some ⟨b, 1, none⟩), .int .i64 i] w fun e w' => e = .returned (.int .i64 (-1)) ∧ w = w' := by
  go_enter Try.func67, Try.ntmps67
  go_wp2
  go_ret
  exact ⟨rfl, rfl⟩

theorem ret_bool {a b : Bool} (h : a = b) : Ending.returned (.bool a) = .returned (.bool b) := by rw [h]
theorem ret_int {k : IntKind} {a b : Int} (h : a = b) : Ending.returned (.int k a) = .returned (.int k b) := by rw [h]
theorem len_any {B : Nat} {k : Int} {s : ByteArray} {b : Nat} {w : World} (h : In w B k s b) :
    Calls Try.prog 15 #[.pointer (some ⟨b, 1, none⟩)] w fun e w' => e = .returned (.int .i64 ((runesOf s).length : Nat)) ∧ w = w' := by
  obtain ⟨_, _, a, c, a', c', h1, _, _⟩ := h
  have h2 := h1.cell 2
  simp at h2
  exact len_cell b w a _ c h2
theorem rune_any {B : Nat} {k : Int} {s : ByteArray} {b : Nat} {w : World} (h : In w B k s b) (i : Int) :
    Calls Try.prog 44 #[.pointer (some ⟨b, 1, none⟩), .int .i64 i] w fun e w' => e = .returned (.int .i32 (runeAt (runesOf s) i)) ∧ w = w' := by
  obtain ⟨h0, _, a, c, a', c', h1, h3, _⟩ := h
  have h2 := h1.cell 2
  simp at h2
  have hl := length_runesOf s
  by_cases hi : i < 0
  · rw [runeAt_out _ _ (by omega)]
    exact rune_neg b w a _ c i hi h2
  · by_cases hi2 : ((runesOf s).length : Int) ≤ i
    · rw [runeAt_out _ _ (by omega)]
      exact rune_far b w a _ c i (by omega) hi2 h2
    · obtain ⟨k, rfl⟩ : ∃ k : Nat, i = k := ⟨i.toNat, by omega⟩
      have hk : k < (runesOf s).length := by omega
      rw [runeAt_in _ k hk]
      obtain ⟨g, rfl, _, hc⟩ := h3 k hk
      exact rune_in b g w _ c k _ hk (by omega) h2 hc
theorem off_any {B : Nat} {k : Int} {s : ByteArray} {b : Nat} {w : World} (h : In w B k s b) (i : Int) :
    Calls Try.prog 67 #[.pointer (some ⟨b, 1, none⟩), .int .i64 i] w fun e w' => e = .returned (.int .i64 (offAt (offsOf s) i)) ∧ w = w' := by
  obtain ⟨h0, _, a, c, a', c', h1, _, h3⟩ := h
  have h2 := h1.cell 3
  simp at h2
  have hl := length_runesOf s
  have hl2 := length_offsOf s
  by_cases hi : i < 0
  · rw [offAt_out _ _ (by omega)]
    exact off_neg b w a' _ c' i hi h2
  · by_cases hi2 : ((offsOf s).length : Int) ≤ i
    · rw [offAt_out _ _ (by omega)]
      exact off_far b w a' _ c' i (by omega) (by simpa using hi2) h2
    · obtain ⟨k, rfl⟩ : ∃ k : Nat, i = k := ⟨i.toNat, by omega⟩
      have hk : k < (offsOf s).length := by omega
      rw [offAt_in _ k hk]
      obtain ⟨g, rfl, _, hc⟩ := h3 k hk
      exact off_in b g w _ c' k _ hk (by omega) h2 hc

set_option maxHeartbeats 400000 in
set_option maxRecDepth 100000 in
theorem word_any (x : Int) (w : World) :
    Calls Try.prog 142 #[.int .i32 x] w fun e w' => e = .returned (.bool (wordB x)) ∧ w = w' := by
  go_enter Try.func142, Try.ntmps142
  go_wp2
  all_goals
    go_ret
    refine ⟨ret_bool ?_, rfl⟩
    unfold wordB
    rw [Bool.eq_iff_iff]
    simp
    omega

set_option maxHeartbeats 400000 in
set_option maxRecDepth 100000 in
theorem place_yes (b : Nat) (w : World) (a : Option Addr) (n c : Nat) (i : Int) (h0 : 0 ≤ i) (hi : i < (n : Int)) (h3 : w.cell? ⟨b, 3, none⟩ = some (.slice a n c)) :
    Calls Try.prog 108 #[.pointer (some ⟨b, 1, none⟩), .int .i64 i] w fun e w' => e = .returned (.bool true) ∧ w = w' := by
  go_enter Try.func108, Try.ntmps108
  go_wp2
  go_ret
  exact ⟨rfl, rfl⟩
set_option maxHeartbeats 400000 in
set_option maxRecDepth 100000 in
/-- At a place: the five answers decided one by one. -/
theorem at_in {B : Nat} {k : Int} {s : ByteArray} {b : Nat} {w : World} (h : In w B k s b) (i : Int) (h0 : 0 ≤ i) (h1 : i ≤ (runesOf s).length) :
    Calls Try.prog 115 #[.pointer (some ⟨b, 1, none⟩), .int .i64 i] w fun e w' => e = .returned (.int .i64 (atOf (runesOf s) i)) ∧ w = w' := by
  obtain ⟨x, hx⟩ : ∃ x, x = runeAt (runesOf s) (i - 1) := ⟨_, rfl⟩
  obtain ⟨y, hy⟩ : ∃ y, y = runeAt (runesOf s) i := ⟨_, rfl⟩
  obtain ⟨n, hn⟩ : ∃ n : Nat, n = (runesOf s).length := ⟨_, rfl⟩
  have cl := len_any h
  have cx := rune_any h (i - 1)
  have cy := rune_any h i
  rw [← hx] at cx
  rw [← hy] at cy
  rw [← hn] at cl
  have e : atOf (runesOf s) i = sumOf (wordB x != wordB y) (i == 0) (i == n) (i == 0 || x == 10) (i == n || y == 10) := by
    unfold atOf
    rw [if_pos ⟨h0, h1⟩, ← hx, ← hy, ← hn]
  rw [e]
  have hpl : n + 1 = (offsOf s).length := by rw [length_offsOf, hn]
  obtain ⟨hsz, _, a, c, a', c', hW, _, _⟩ := h
  have h3 := hW.cell 3
  simp only [List.getElem?_toArray, List.getElem?_cons_succ, List.getElem?_cons_zero] at h3
  rw [← hpl] at h3
  have hl := length_runesOf s
  rw [← hn] at hl h1
  have HL := Lib.hid cl; have HX := Lib.hid cx; have HY := Lib.hid cy
  clear cl cx cy hx hy hn e hpl hW
  go_enter Try.func115, Try.ntmps115
  go_wp2_with fail
  refine (place_yes b w a' (n + 1) c' i h0 (by omega) h3).mono ?_
  rintro e w' ⟨rfl, rfl⟩
  go_wp2_with fail
  refine HL.out.mono ?_
  rintro e w' ⟨rfl, rfl⟩
  go_wp2_with fail
  refine HX.out.mono ?_
  rintro e w' ⟨rfl, rfl⟩
  go_wp2_with fail
  refine HY.out.mono ?_
  rintro e w' ⟨rfl, rfl⟩
  go_wp2_with fail
  refine (word_any x w).mono ?_
  rintro e w' ⟨rfl, rfl⟩
  go_wp2_with fail
  refine (word_any y w).mono ?_
  rintro e w' ⟨rfl, rfl⟩
  go_wp2
  all_goals
    go_ret
    refine ⟨ret_int ?_, rfl⟩
    simp [sumOf, bne, *]
end Go.Proofs.Ytnemacejaiifnaa
/- Each shaped tree of weight at most 4000 is laid as some core tree, whose marks are numbered from any number on, each once. No memory. -/
namespace Go.Proofs.Ytnemacejaiifnaa
open Go Go.RowKit

/-- The marks of q are numbers from n on, fewer than I, each once; q's weight is at most B; all of its bodies are below C. -/
structure Numd (N C n I B : Nat) (q : Q) : Prop where
  ids : ∀ a ∈ idsQ q, n ≤ a ∧ a < n + I
  once : (idsQ q).Nodup
  few : (idsQ q).length ≤ I
  w : wQ q ≤ B
  sym : SymQ N C q
section
variable {N C n I B I1 I2 B1 B2 : Nat} {x y q : Q}
theorem Numd.up (h : Numd N C n I1 B1 q) (hI : I1 ≤ I) (hB : B1 ≤ B) : Numd N C n I B q := ⟨fun a ha => by have := h.ids a ha; omega, h.once, Nat.le_trans h.few hI, Nat.le_trans h.w hB, h.sym⟩
theorem Numd.leaf (hi : idsQ q = []) (hw : wQ q = 1) (hs : SymQ N C q) (hB : 1 ≤ B) : Numd N C n I B q := ⟨by rw [hi]; simp, by rw [hi]; exact List.nodup_nil, by rw [hi]; simp, by omega, hs⟩
theorem nodup_two {l k : List Nat} {n m : Nat} (h1 : l.Nodup) (h2 : k.Nodup) (a1 : ∀ a ∈ l, a < n) (a2 : ∀ a ∈ k, n ≤ a) : (l ++ k).Nodup := by
  rw [List.nodup_append]
  refine ⟨h1, h2, fun a ha b hb e => ?_⟩
  have := a1 a ha
  have := a2 b hb
  omega
theorem Numd.two (h : Numd N C n I1 B1 x) (k : Numd N C (n + I1) I2 B2 y) : (∀ a ∈ idsQ x ++ idsQ y, n ≤ a ∧ a < n + (I1 + I2)) ∧ (idsQ x ++ idsQ y).Nodup ∧ (idsQ x ++ idsQ y).length ≤ I1 + I2 := by
  refine ⟨fun a ha => ?_, ?_, by rw [List.length_append]; exact Nat.add_le_add h.few k.few⟩
  · rcases List.mem_append.1 ha with ha | ha
    · have := h.ids a ha; omega
    · have := k.ids a ha; omega
  · exact nodup_two (n := n + I1) (m := 0) h.once k.once (fun a ha => (h.ids a ha).2) fun a ha => (k.ids a ha).1
theorem Numd.seq (h : Numd N C n I1 B1 x) (k : Numd N C (n + I1) I2 B2 y) : Numd N C n (I1 + I2) (B1 + B2 + 1) (.seq x y) := by
  obtain ⟨h1, h2, h3⟩ := h.two k
  exact ⟨h1, h2, h3, by have := h.w; have := k.w; simp only [wQ]; omega, h.sym, k.sym⟩
theorem Numd.altC (h : Numd N C n I1 B1 x) (k : Numd N C (n + I1) I2 B2 y) : Numd N C n (I1 + I2) (B1 + B2 + 1) (.altC x y) := by
  obtain ⟨h1, h2, h3⟩ := h.two k
  exact ⟨h1, h2, h3, by have := h.w; have := k.w; simp only [wQ]; omega, h.sym, k.sym⟩
theorem Numd.pos (h : Numd N C n I B q) : 1 ≤ B := Nat.le_trans (wQ_pos q) h.w
theorem Numd.mark (h : Numd N C (n + 1) I B y) (hC : B + 2 ≤ C) : Numd N C n (I + 1) B (.mk n y) := by
  have hp := h.pos
  refine ⟨fun a ha => ?_, ?_, by have := h.few; simp only [idsQ, List.length_cons]; omega, hp, ⟨by have := h.w; omega, h.sym⟩⟩
  · rcases List.mem_cons.1 ha with rfl | ha
    · omega
    · have := h.ids a ha; omega
  · exact List.nodup_cons.2 ⟨fun ha => by have := h.ids _ ha; omega, h.once⟩
theorem Numd.star (h : Numd N C (n + 1) I B x) (hC : B + 2 ≤ C) (z : Bool) : Numd N C n (I + 1) B (.star n z x) := by
  have hp := h.pos
  refine ⟨fun a ha => ?_, ?_, by have := h.few; simp only [idsQ, List.length_cons]; omega, hp, ⟨by have := h.w; omega, h.sym⟩⟩
  · rcases List.mem_cons.1 ha with rfl | ha
    · omega
    · have := h.ids a ha; omega
  · exact List.nodup_cons.2 ⟨fun ha => by have := h.ids _ ha; omega, h.once⟩
theorem Numd.plus (h : Numd N C (n + 2) I B x) (hC : B + 2 ≤ C) (z : Bool) : Numd N C n (I + 2) B (.plus n (n + 1) z x) := by
  have hp := h.pos
  refine ⟨fun a ha => ?_, ?_, by have := h.few; simp only [idsQ, List.length_cons]; omega, hp, ⟨by have := h.w; omega, h.sym⟩⟩
  · rcases List.mem_cons.1 ha with rfl | ha
    · omega
    rcases List.mem_cons.1 ha with rfl | ha
    · omega
    · have := h.ids a ha; omega
  · refine List.nodup_cons.2 ⟨fun ha => ?_, List.nodup_cons.2 ⟨fun ha => by have := h.ids _ ha; omega, h.once⟩⟩
    rcases List.mem_cons.1 ha with e | ha
    · omega
    · have := h.ids _ ha; omega
theorem Numd.quest (h : Numd N C n I B x) (z : Bool) : Numd N C n I (B + 2) (.quest z x) := ⟨h.ids, h.once, h.few, by have := h.w; simp only [wQ]; omega, h.sym⟩
theorem Numd.cap (h : Numd N C n I B x) (g : Nat) : Numd N C n I (B + 4) (.cap g x) := ⟨h.ids, h.once, h.few, by have := h.w; simp only [wQ]; omega, h.sym⟩
end

/-- What stands behind a tree: a mark, if it has Kids. -/
theorem beh_has {N C n I B : Nat} {y : Q} (lf : Prop) (h : Numd N C (n + 1) I B y) (hC : B + 2 ≤ C) : ∃ y', Beh lf y y' ∧ Numd N C n (I + 1) B y' := by
  by_cases hl : lf
  · refine ⟨y, .inl ⟨hl, rfl⟩, ⟨fun a ha => ?_, h.once, Nat.le_succ_of_le h.few, h.w, h.sym⟩⟩
    have := h.ids a ha
    omega
  · exact ⟨.mk n y, .inr ⟨hl, n, rfl⟩, h.mark hC⟩

section
variable {R : List Int} {G N C W : Nat} {M : Q → Prop} {lf : Prop} {z : Bool}
/-- From every number on there is what a Kid of weight W is laid as. -/
def KidHas (N C W : Nat) (M : Q → Prop) : Prop := ∀ n, ∃ x, M x ∧ Numd N C n (3 * W - 1) (8 * W - 4) x
theorem rep_opt (hW : 1 ≤ W) (hk : KidHas N C W M) : ∀ m n, 8 * (W * m) + 3 ≤ C → ∃ q, RepM M lf z 0 (m : Int) q ∧ Numd N C n (3 * (W * m)) (8 * (W * m) + 1) q := by
  intro m
  induction m with
  | zero => exact fun n _ => ⟨.eps, .done, .leaf rfl rfl trivial (by omega)⟩
  | succ m ih =>
    intro n hC
    rw [Nat.mul_succ] at hC
    obtain ⟨x, hx, fx⟩ := hk n
    obtain ⟨y, hy, fy⟩ := ih (n + (3 * W - 1) + 1) (by omega)
    obtain ⟨y', hb, fb⟩ := beh_has lf fy (by omega)
    refine ⟨.quest z (.seq x y'), .opt (by omega) hx (by simpa using hy) hb, ((fx.seq fb).quest z).up ?_ ?_⟩
    · rw [Nat.mul_succ]; omega
    · rw [Nat.mul_succ]; omega
theorem rep_more (hW : 1 ≤ W) (hk : KidHas N C W M) (m : Nat) : ∀ l n, 8 * (W * (l + m)) + 3 ≤ C → ∃ q, RepM M lf z (l : Int) ((l + m : Nat) : Int) q ∧ Numd N C n (3 * (W * (l + m))) (8 * (W * (l + m)) + 1) q := by
  intro l
  induction l with
  | zero => intro n hC; rw [Nat.zero_add] at hC ⊢; exact rep_opt hW hk m n hC
  | succ l ih =>
    intro n hC
    have e : l + 1 + m = (l + m) + 1 := by omega
    rw [e, Nat.mul_succ] at hC
    obtain ⟨x, hx, fx⟩ := hk n
    obtain ⟨y, hy, fy⟩ := ih (n + (3 * W - 1) + 1) (by omega)
    obtain ⟨y', hb, fb⟩ := beh_has lf fy (by omega)
    refine ⟨.seq x y', .more (by omega) (by omega) (by omega) hx ?_ hb, (fx.seq fb).up ?_ ?_⟩
    · rw [show ((l + 1 : Nat) : Int) - 1 = (l : Int) by omega, show ((l + 1 + m : Nat) : Int) - 1 = ((l + m : Nat) : Int) by omega]
      exact hy
    · rw [e, Nat.mul_succ]; omega
    · rw [e, Nat.mul_succ]; omega
theorem rep_plus (hW : 1 ≤ W) (hk : KidHas N C W M) : ∀ l n (h : Int), h < 0 → 8 * (W * (l + 1)) + 3 ≤ C → ∃ q, RepM M lf z ((l + 1 : Nat) : Int) h q ∧ Numd N C n (3 * (W * (l + 1)) + 2) (8 * (W * (l + 1)) + 1) q := by
  intro l
  induction l with
  | zero =>
    intro n h hh hC
    obtain ⟨x, hx, fx⟩ := hk (n + 2)
    rw [Nat.zero_add, Nat.mul_one] at hC ⊢
    exact ⟨.plus n (n + 1) z x, .plus hh hx, (fx.plus (by omega) z).up (by omega) (by omega)⟩
  | succ l ih =>
    intro n h hh hC
    rw [Nat.mul_succ] at hC
    obtain ⟨x, hx, fx⟩ := hk n
    obtain ⟨y, hy, fy⟩ := ih (n + (3 * W - 1) + 1) (h - 1) (by omega) (by omega)
    obtain ⟨y', hb, fb⟩ := beh_has lf fy (by omega)
    refine ⟨.seq x y', .more (by omega) (by omega) (by omega) hx ?_ hb, (fx.seq fb).up ?_ ?_⟩
    · rw [show ((l + 1 + 1 : Nat) : Int) - 1 = ((l + 1 : Nat) : Int) by omega]
      exact hy
    · rw [Nat.mul_succ W (l + 1)]; omega
    · rw [Nat.mul_succ W (l + 1)]; omega
theorem rep_star (hW : 1 ≤ W) (hk : KidHas N C W M) (n : Nat) (h : Int) (hh : h < 0) (hC : 8 * W + 3 ≤ C) : ∃ q, RepM M lf z 0 h q ∧ Numd N C n (3 * W) (8 * W) q := by
  obtain ⟨x, hx, fx⟩ := hk (n + 1)
  exact ⟨.star n z x, .star hh hx, (fx.star (by omega) z).up (by omega) (by omega)⟩

theorem row_has (ks : List Tr) (P : Tr → Q → Prop) (hW : ∀ k ∈ ks, 1 ≤ weightR k) (hk : ∀ k ∈ ks, KidHas N C (weightR k) (P k)) : ∀ n, 8 * (ks.map weightR).sum + 4 ≤ C → ∃ q, RowM P ks q ∧ Numd N C n (3 * (ks.map weightR).sum) (8 * (ks.map weightR).sum + 1) q := by
  induction ks with
  | nil => exact fun n _ => ⟨.eps, .nil, .leaf rfl rfl trivial (by omega)⟩
  | cons k ks ih =>
    intro n hC
    simp only [List.map_cons, List.sum_cons] at hC ⊢
    have h1 := hW k (List.mem_cons_self ..)
    obtain ⟨x, hx, fx⟩ := hk k (List.mem_cons_self ..) n
    obtain ⟨y, hy, fy⟩ := ih (fun k h => hW k (List.mem_cons_of_mem _ h)) (fun k h => hk k (List.mem_cons_of_mem _ h)) (n + (3 * weightR k - 1) + 1) (by omega)
    obtain ⟨y', hb, fb⟩ := beh_has (k.kids = []) fy (by omega)
    exact ⟨.seq x y', .cons hx hy hb, (fx.seq fb).up (by omega) (by omega)⟩
theorem alt_has (ks : List Tr) (P : Tr → Q → Prop) (hW : ∀ k ∈ ks, 1 ≤ weightR k) (hk : ∀ k ∈ ks, KidHas N C (weightR k) (P k)) : ∀ n, ∃ q, AltM P ks q ∧ Numd N C n (3 * (ks.map weightR).sum) (8 * (ks.map weightR).sum + 1) q := by
  induction ks with
  | nil => exact fun n => ⟨.altN, .nil, .leaf rfl rfl trivial (by omega)⟩
  | cons k ks ih =>
    intro n
    simp only [List.map_cons, List.sum_cons]
    have h1 := hW k (List.mem_cons_self ..)
    obtain ⟨x, hx, fx⟩ := hk k (List.mem_cons_self ..) n
    obtain ⟨y, hy, fy⟩ := ih (fun k h => hW k (List.mem_cons_of_mem _ h)) (fun k h => hk k (List.mem_cons_of_mem _ h)) (n + (3 * weightR k - 1))
    exact ⟨.altC x y, .cons hx hy, (fx.altC fy).up (by omega) (by omega)⟩
end

theorem weight_pos (t : Tr) (h : ShapedP t) : 1 ≤ weightR t := by
  obtain ⟨-, ⟨-, h12, -⟩, -, -⟩ := (shapedP_iff t).1 h
  rw [weightR_eq]
  unfold weightN
  split
  · unfold clipR; omega
  split
  · unfold clipR; omega
  split
  · unfold clipR
    rw [Nat.le_min]
    exact ⟨by omega, by omega⟩
  split
  · rename_i h
    have := h12 h
    unfold clipR
    omega
  · omega
/-- What a weight of at most 4000 says of its Kids. -/
theorem weight_cap {t : Tr} (h : t.fld.op = 6) (hw : weightR t ≤ 4000) : weightR t = 2 + (t.kids.map weightR).sum := by
  rw [weightR_eq] at hw ⊢
  unfold weightN clipR at hw ⊢
  rw [if_pos h] at hw ⊢
  omega
theorem weight_one {t : Tr} (h : t.fld.op = 7 ∨ t.fld.op = 8 ∨ t.fld.op = 9 ∨ t.fld.op = 11) (hw : weightR t ≤ 4000) : weightR t = 1 + (t.kids.map weightR).sum := by
  rw [weightR_eq] at hw ⊢
  unfold weightN clipR at hw ⊢
  rw [if_neg (by omega), if_pos h] at hw ⊢
  omega
theorem weight_alt {t : Tr} (h : t.fld.op = 12) (hw : weightR t ≤ 4000) : weightR t = (t.kids.map weightR).sum + t.kids.length := by
  rw [weightR_eq] at hw ⊢
  unfold weightN clipR at hw ⊢
  rw [if_neg (by omega), if_neg (by omega), if_neg (by omega), if_pos h] at hw ⊢
  omega
theorem weight_rep {t : Tr} (h : t.fld.op = 10) (hk : (max (max t.fld.min t.fld.max) 1).toNat ≤ 4000) (hw : weightR t ≤ 4000) {W : Nat} (hW : (t.kids.map weightR).sum = W) :
    weightR t = (max (max t.fld.min t.fld.max) 1).toNat * W + (max (max t.fld.min t.fld.max) 1).toNat + 1 := by
  obtain ⟨K, hK⟩ : ∃ K, (max (max t.fld.min t.fld.max) 1).toNat = K := ⟨_, rfl⟩
  have h1 : 1 ≤ K := by omega
  rw [weightR_eq, hW] at hw ⊢
  unfold weightN clipR at hw ⊢
  rw [if_neg (by omega), if_neg (by omega), if_pos h, hK] at hw ⊢
  rw [hK] at hk
  have e : min K 4001 = K := by omega
  rw [e] at hw ⊢
  have h2 : min W 4001 ≤ K * min W 4001 := Nat.le_mul_of_pos_left _ h1
  have e2 : min W 4001 = W := by omega
  rw [e2] at hw ⊢
  omega
theorem low_of_right : ∀ (l : List (Int × Int)) (lo : Int), 0 ≤ lo → RightFrom lo l → ∀ r ∈ l, 0 ≤ r.1
  | [], _, _, _, r, hr => by simp at hr
  | x :: l, lo, h0, h, r, hr => by
    obtain ⟨h1, h2, h3, h4⟩ := h
    rcases List.mem_cons.1 hr with rfl | hr
    · omega
    · exact low_of_right l _ (by omega) h4 r hr
theorem runeAt_inside {R : List Int} {i : Nat} (h : runeAt R i ≠ -1) : i + 1 ≤ R.length := by
  unfold runeAt at h
  split at h
  · omega
  · exact absurd rfl h
theorem sym_rune (R : List Int) (r : Int) (h : 0 ≤ r) (i : Nat) (hp : (runeAt R i == r) = true) : i + 1 ≤ R.length :=
  runeAt_inside (by have := eq_of_beq hp; omega)
theorem sym_set (R : List Int) (S : List (Int × Int)) (h : RightR S) (i : Nat) (hp : fitsS S (runeAt R i) = true) : i + 1 ≤ R.length := by
  refine runeAt_inside fun e => ?_
  unfold fitsS at hp
  rw [e] at hp
  obtain ⟨r, hr, hq⟩ := List.any_eq_true.1 hp
  have h1 := low_of_right S 0 (Int.le_refl _) h r hr
  simp only [Bool.and_eq_true, decide_eq_true_eq] at hq
  omega

/-- Each shaped tree of weight at most 4000 is laid as something. -/
theorem mat_has (R : List Int) (G C : Nat) (t : Tr) : ShapedP t → weightR t ≤ 4000 → 8 * weightR t ≤ C → KidHas R.length C (weightR t) (Mat R G t) := by
  refine Tr.ind (P := fun t => ShapedP t → weightR t ≤ 4000 → 8 * weightR t ≤ C → KidHas R.length C (weightR t) (Mat R G t)) (fun t ih hsh hw hC n => ?_) t
  have hp := weight_pos t hsh
  obtain ⟨hF, ⟨hk1, -, hk0⟩, hcap, hks⟩ := (shapedP_iff t).1 hsh
  obtain ⟨o1, o2, -, -, -, -, -, -, f3, f4, f5, -, f10⟩ := hF
  have hpos : ∀ k ∈ t.kids, 1 ≤ weightR k := fun k hk => weight_pos k (hks k hk)
  have hone : ∀ {k}, t.kids = [k] → (t.kids.map weightR).sum = weightR k := fun h => by rw [h]; simp
  have hmem : ∀ {k}, t.kids = [k] → k ∈ t.kids := fun h => by rw [h]; exact List.mem_singleton.2 rfl
  have hsum : ∀ k ∈ t.kids, weightR k ≤ (t.kids.map weightR).sum := fun k hk => sum_mem_le (List.mem_map_of_mem hk)
  have done : ∀ {q}, MatC R G (Mat R G) t q → Mat R G t q := fun h => (mat_iff R G t _).2 h
  have kid : (t.fld.op = 6 ∨ t.fld.op = 7 ∨ t.fld.op = 8 ∨ t.fld.op = 9 ∨ t.fld.op = 10) → ∃ k, t.kids = [k] := fun h => List.length_eq_one_iff.1 (hk1 h)
  by_cases e1 : t.fld.op = 1
  · exact ⟨.none, done (.none e1), .leaf rfl rfl trivial (by omega)⟩
  by_cases e2 : t.fld.op = 2
  · exact ⟨.eps, done (.eps e2), .leaf rfl rfl trivial (by omega)⟩
  by_cases e3 : t.fld.op = 3
  · exact ⟨_, done (.rune e3), .leaf rfl rfl (sym_rune R _ (f3 e3).1) (by omega)⟩
  by_cases e4 : t.fld.op = 4
  · exact ⟨_, done (.set e4), .leaf rfl rfl (sym_set R _ (f4 e4).1) (by omega)⟩
  by_cases e5 : t.fld.op = 5
  · exact ⟨_, done (.at' e5), .leaf rfl rfl trivial (by omega)⟩
  by_cases e6 : t.fld.op = 6
  · obtain ⟨k, hk⟩ := kid (.inl e6)
    have hwt := weight_cap e6 hw
    rw [hone hk] at hwt
    obtain ⟨x, hx, fx⟩ := ih k (hmem hk) (hks k (hmem hk)) (by omega) (by omega) n
    by_cases hg : t.fld.cap ≤ (G : Int)
    · exact ⟨_, done (.cap e6 hg hk hx), (fx.cap _).up (by omega) (by omega)⟩
    · exact ⟨_, done (.bare e6 (by omega) hk hx), fx.up (by omega) (by omega)⟩
  by_cases e7 : t.fld.op = 7
  · obtain ⟨k, hk⟩ := kid (.inr (.inl e7))
    have hwt := weight_one (.inl e7) hw
    rw [hone hk] at hwt
    have := hpos k (hmem hk)
    obtain ⟨x, hx, fx⟩ := ih k (hmem hk) (hks k (hmem hk)) (by omega) (by omega) (n + 1)
    exact ⟨_, done (.star e7 hk hx), (fx.star (by omega) _).up (by omega) (by omega)⟩
  by_cases e8 : t.fld.op = 8
  · obtain ⟨k, hk⟩ := kid (.inr (.inr (.inl e8)))
    have hwt := weight_one (.inr (.inl e8)) hw
    rw [hone hk] at hwt
    have := hpos k (hmem hk)
    obtain ⟨x, hx, fx⟩ := ih k (hmem hk) (hks k (hmem hk)) (by omega) (by omega) (n + 2)
    exact ⟨_, done (.plus e8 hk hx), (fx.plus (by omega) _).up (by omega) (by omega)⟩
  by_cases e9 : t.fld.op = 9
  · obtain ⟨k, hk⟩ := kid (.inr (.inr (.inr (.inl e9))))
    have hwt := weight_one (.inr (.inr (.inl e9))) hw
    rw [hone hk] at hwt
    have := hpos k (hmem hk)
    obtain ⟨x, hx, fx⟩ := ih k (hmem hk) (hks k (hmem hk)) (by omega) (by omega) n
    exact ⟨_, done (.quest e9 hk hx), (fx.quest _).up (by omega) (by omega)⟩
  by_cases e10 : t.fld.op = 10
  · obtain ⟨k, hk⟩ := kid (.inr (.inr (.inr (.inr e10))))
    obtain ⟨⟨m1, m2⟩, m3⟩ := f10 e10
    obtain ⟨K, hK⟩ : ∃ K, (max (max t.fld.min t.fld.max) 1).toNat = K := ⟨_, rfl⟩
    have hwt := weight_rep e10 (by omega) hw (hone hk)
    rw [hK] at hwt
    have hW := hpos k (hmem hk)
    have hKW : weightR k ≤ K * weightR k := Nat.le_mul_of_pos_left _ (by omega)
    have hKH : KidHas R.length C (weightR k) (Mat R G k) := ih k (hmem hk) (hks k (hmem hk)) (by omega) (by omega)
    suffices hq : ∃ q, RepM (Mat R G k) (k.kids = []) t.fld.lazy t.fld.min t.fld.max q ∧ Numd R.length C n (3 * (K * weightR k) + 2) (8 * (K * weightR k) + 1) q by
      obtain ⟨q, hq, fq⟩ := hq
      exact ⟨q, done (.rep e10 hk hq), fq.up (by omega) (by omega)⟩
    rcases m3 with m3 | ⟨m3, m4⟩
    · obtain ⟨l, hl⟩ : ∃ l : Nat, t.fld.min = l := ⟨t.fld.min.toNat, by omega⟩
      rw [hl, m3] at hK ⊢
      cases l with
      | zero =>
        obtain rfl : K = 1 := by omega
        rw [Nat.one_mul] at hwt ⊢
        obtain ⟨q, hq, fq⟩ := rep_star (lf := k.kids = []) (z := t.fld.lazy) hW hKH n (-1) (by omega) (by omega)
        exact ⟨q, hq, fq.up (by omega) (by omega)⟩
      | succ l =>
        obtain rfl : K = l + 1 := by omega
        rw [Nat.mul_comm (l + 1) (weightR k)] at hwt ⊢
        obtain ⟨q, hq, fq⟩ := rep_plus (lf := k.kids = []) (z := t.fld.lazy) hW hKH l n (-1) (by omega) (by omega)
        exact ⟨q, hq, fq⟩
    · obtain ⟨l, hl⟩ : ∃ l : Nat, t.fld.min = l := ⟨t.fld.min.toNat, by omega⟩
      obtain ⟨m, hm⟩ : ∃ m : Nat, t.fld.max = ((l + m : Nat) : Int) := ⟨(t.fld.max - t.fld.min).toNat, by omega⟩
      rw [hl, hm] at hK ⊢
      have hle : weightR k * (l + m) ≤ K * weightR k := by rw [Nat.mul_comm K]; exact Nat.mul_le_mul_left _ (by omega)
      obtain ⟨q, hq, fq⟩ := rep_more (lf := k.kids = []) (z := t.fld.lazy) hW hKH m l n (by omega)
      exact ⟨q, hq, fq.up (by omega) (by omega)⟩
  by_cases e11 : t.fld.op = 11
  · have hwt := weight_one (.inr (.inr (.inr e11))) hw
    obtain ⟨q, hq, fq⟩ := row_has (N := R.length) (C := C) t.kids (Mat R G) hpos (fun k hk => by have := hsum k hk; exact ih k hk (hks k hk) (by omega) (by omega)) n (by omega)
    exact ⟨q, done (.cat e11 hq), fq.up (by omega) (by omega)⟩
  have e12 : t.fld.op = 12 := by omega
  have hwt := weight_alt e12 hw
  obtain ⟨q, hq, fq⟩ := alt_has (N := R.length) (C := C) t.kids (Mat R G) hpos (fun k hk => by have := hsum k hk; exact ih k hk (hks k hk) (by omega) (by omega)) n
  have hlen : 1 ≤ t.kids.length := ((shapedP_iff t).1 hsh).2.1.2.1 e12
  exact ⟨q, done (.alt e12 hq), fq.up (by omega) (by omega)⟩
end Go.Proofs.Ytnemacejaiifnaa
/- What a shaped tree is laid as has its groups numbered from 1 up to G; the rows of a list's ends. No memory. -/
namespace Go.Proofs.Ytnemacejaiifnaa
open Go Go.RowKit

theorem row_caps {G : Nat} {P : Tr → Q → Prop} {ks : List Tr} {q : Q} (h : RowM P ks q) (hk : ∀ k ∈ ks, ∀ x, P k x → CapQ G x) : CapQ G q := by
  induction h with
  | nil => trivial
  | cons h1 _ h3 ih =>
    have hy := ih fun k hk' => hk k (List.mem_cons_of_mem _ hk')
    refine ⟨hk _ (List.mem_cons_self ..) _ h1, ?_⟩
    rcases h3 with ⟨-, rfl⟩ | ⟨-, a, rfl⟩
    · exact hy
    · exact hy
theorem alt_caps {G : Nat} {P : Tr → Q → Prop} {ks : List Tr} {q : Q} (h : AltM P ks q) (hk : ∀ k ∈ ks, ∀ x, P k x → CapQ G x) : CapQ G q := by
  induction h with
  | nil => trivial
  | cons h1 _ ih => exact ⟨hk _ (List.mem_cons_self ..) _ h1, ih fun k hk' => hk k (List.mem_cons_of_mem _ hk')⟩
theorem rep_caps {G : Nat} {M : Q → Prop} {lf : Prop} {z : Bool} {l u : Int} {q : Q} (h : RepM M lf z l u q) (hk : ∀ x, M x → CapQ G x) : CapQ G q := by
  induction h with
  | done => trivial
  | star _ h2 => have := hk _ h2; exact this
  | plus _ h2 => have := hk _ h2; exact this
  | opt _ h2 _ h4 ih =>
    refine ⟨hk _ h2, ?_⟩
    rcases h4 with ⟨-, rfl⟩ | ⟨-, a, rfl⟩ <;> exact ih
  | more _ _ _ h2 _ h4 ih =>
    refine ⟨hk _ h2, ?_⟩
    rcases h4 with ⟨-, rfl⟩ | ⟨-, a, rfl⟩ <;> exact ih
theorem mat_caps (R : List Int) (G : Nat) (t : Tr) : ShapedP t → ∀ q, Mat R G t q → CapQ G q := by
  refine Tr.ind (P := fun t => ShapedP t → ∀ q, Mat R G t q → CapQ G q) (fun t ih hsh q hq => ?_) t
  obtain ⟨-, -, hcap, hks⟩ := (shapedP_iff t).1 hsh
  have IH : ∀ k ∈ t.kids, ∀ x, Mat R G k x → CapQ G x := fun k hk => ih k hk (hks k hk)
  have one : ∀ {k}, t.kids = [k] → k ∈ t.kids := fun h => by rw [h]; exact List.mem_singleton.2 rfl
  cases (mat_iff R G t q).1 hq with
  | none => trivial
  | eps => trivial
  | rune => trivial
  | set => trivial
  | at' => trivial
  | cap h1 h2 h3 h4 => exact ⟨⟨by omega, by omega⟩, IH _ (one h3) _ h4⟩
  | bare h1 h2 h3 h4 => exact IH _ (one h3) _ h4
  | star h1 h2 h3 => have := IH _ (one h2) _ h3; exact this
  | plus h1 h2 h3 => have := IH _ (one h2) _ h3; exact this
  | quest h1 h2 h3 => have := IH _ (one h2) _ h3; exact this
  | rep h1 h2 h3 => exact rep_caps h3 (IH _ (one h2))
  | cat h1 h2 => exact row_caps h2 IH
  | alt h1 h2 => exact alt_caps h2 IH

/-- How great a stack is wanted, at most: over a text of at most 60 runes a tree of weight at most 300. -/
theorem mu_small {N i I B : Nat} (hN : N ≤ 60) (hI : I ≤ 900) (hB : B ≤ 2400) : mu N 2400 I i I (B + 1) ≤ 4000000000000 := by
  have h1 : (N - i) * (2400 * (I + 1)) ≤ 129744000 := Nat.le_trans (Nat.mul_le_mul (show N - i ≤ 60 by omega) (Nat.mul_le_mul_left 2400 (show I + 1 ≤ 901 by omega))) (by decide)
  have h2 : 2400 * I ≤ 2160000 := by omega
  have e : mu N 2400 I i I (B + 1) = (N - i) * (2400 * (I + 1)) + 2400 * I + (B + 1) := rfl
  omega
/-- Before anything is gone, at place i: no group has a place. -/
theorem fit_start (G i : Nat) (q : Q) : FitOf (i : Int) G [.q q] i ((List.replicate (2 * (G + 1)) (-1)).set 0 (i : Int)) := by
  have hg : ∀ k, 0 < k → k < 2 * (G + 1) → ((List.replicate (2 * (G + 1)) (-1 : Int)).set 0 (i : Int)).getD k 0 = -1 := fun k h1 h2 => by
    rw [getD_set_other _ _ _ _ (by omega)]
    simp [List.getD, h2]
  exact ⟨by simp, getD_set_same _ _ _ (by simp), Int.le_refl _, fun g _ _ h => h.elim, fun g h1 h2 _ => .inl ⟨hg _ (by omega) (by omega), hg _ (by omega) (by omega)⟩⟩
end Go.Proofs.Ytnemacejaiifnaa
/- The fixed question of denote's laws: what the machine does at it. No memory. -/
namespace Go.Proofs.Ytnemacejaiifnaa
open Go Go.RowKit

def headR : List Int := [98, 97, 97]
def headQ : Q := .star 0 false (.sym fun i => runeAt headR i == 97)
def headT : List Ent := [.go [] 3, .go [] 2, .go [] 1]
def headS : Am := ⟨fun _ _ => false, [1, -1], [.go [.q headQ] 1], []⟩
def stepN : Nat → Am → Am
  | 0, s => s
  | n + 1, s => stepN n (step s)
theorem runs_stepN {B : Nat} : ∀ (n : Nat) (s : Am), (∀ k, k < n → (stepN k s).left ≠ [] ∧ (stepN k s).left.length ≤ B) → Runs B n s (stepN n s)
  | 0, s, _ => .zero
  | n + 1, s, h => .succ (h 0 (by omega)).1 (h 0 (by omega)).2 (runs_stepN n (step s) fun k hk => h (k + 1) (by omega))
theorem head_runs : Runs 10 6 headS (stepN 6 headS) := by
  refine runs_stepN 6 headS fun k hk => ?_
  have h : k = 0 ∨ k = 1 ∨ k = 2 ∨ k = 3 ∨ k = 4 ∨ k = 5 := by omega
  rcases h with rfl | rfl | rfl | rfl | rfl | rfl
  all_goals exact ⟨List.ne_nil_of_length_pos (by decide +kernel), by decide +kernel⟩
theorem head_left : (stepN 6 headS).left = headT := rfl
theorem head_fit : (stepN 6 headS).fit = [1, -1] := rfl
theorem head_arr : (stepN 6 headS).arr = [] := rfl
end Go.Proofs.Ytnemacejaiifnaa
/- What all matches of a tree begin with, as plain data: its prefix, and that each way through what the tree is laid as begins with it. No memory. -/
namespace Go.Proofs.Ytnemacejaiifnaa
open Go Go.RowKit

/-- Prefixes one behind the other, up to the first that is not exact. -/
def catX : List (List Int × Bool) → List Int × Bool
  | [] => ([], true)
  | x :: l => if x.2 then (x.1 ++ (catX l).1, (catX l).2) else (x.1, false)
/-- A tree's prefix, of those of its Kids. -/
def preX (f : Fld) (l : List (List Int × Bool)) : List Int × Bool :=
  if f.op = 2 then ([], true)
  else if f.op = 3 then ([f.rune], true)
  else if f.op = 11 then catX l
  else match l with
    | [x] => if f.op = 6 ∨ f.op = 12 then x else if f.op = 8 ∨ (f.op = 10 ∧ 0 < f.min) then (x.1, false) else ([], false)
    | _ => ([], false)
def preT : Tr → List Int × Bool := Tr.para fun t l => preX t.fld l
theorem preT_eq (t : Tr) : preT t = preX t.fld (t.kids.map preT) := Tr.para_eq _ t

/-- The runes l stand in R at i. -/
def Stands (R l : List Int) (i : Nat) : Prop := ∀ k, k < l.length → runeAt R ((i + k : Nat) : Int) = l.getD k 0
theorem Stands.nil {R : List Int} {i : Nat} : Stands R [] i := fun k hk => absurd hk (by simp)
theorem Stands.append {R a b : List Int} {i : Nat} (h : Stands R a i) (k : Stands R b (i + a.length)) : Stands R (a ++ b) i := by
  intro j hj
  rw [List.length_append] at hj
  by_cases hb : j < a.length
  · rw [h j hb]
    simp [List.getD, List.getElem?_append_left hb]
  · have := k (j - a.length) (by omega)
    rw [show i + a.length + (j - a.length) = i + j by omega] at this
    rw [this]
    simp [List.getD, List.getElem?_append_right (show a.length ≤ j by omega)]
theorem Stands.left {R a b : List Int} {i : Nat} (h : Stands R (a ++ b) i) : Stands R a i := by
  intro k hk
  rw [h k (by rw [List.length_append]; omega)]
  simp [List.getD, List.getElem?_append_left hk]
theorem Stands.right {R a b : List Int} {i : Nat} (h : Stands R (a ++ b) i) : Stands R b (i + a.length) := by
  intro k hk
  rw [show i + a.length + k = i + (a.length + k) by omega, h (a.length + k) (by rw [List.length_append]; omega)]
  simp [List.getD, List.getElem?_append_right (show a.length ≤ a.length + k by omega)]
theorem stands_one {R : List Int} {c : Int} {i : Nat} : Stands R [c] i ↔ runeAt R (i : Int) = c := by
  constructor
  · intro h
    have := h 0 (by simp)
    simpa using this
  · intro h k hk
    have : k = 0 := by simpa using hk
    subst this
    simpa using h

/-- What an end o of K's ways comes from: K was begun at some place, not ahead of i. -/
def From (n : Nat) (K : Ks) (i : Nat) (o : Out) : Prop := ∃ n' j c S L, n' ≤ n ∧ GW n' K j c S L ∧ o ∈ L ∧ i ≤ j
theorem From.mono {n m i j : Nat} {K : Ks} {o : Out} (h : From n K i o) (hn : n ≤ m) (hj : j ≤ i) : From m K j o := by
  obtain ⟨n', p, c, S, L, h1, h2, h3, h4⟩ := h
  exact ⟨n', p, c, S, L, by omega, h2, h3, by omega⟩
/-- Each way through one more thing comes to what stands behind it. -/
theorem from_any : ∀ (n s : Nat) (f : DFr), SizeOf.sizeOf f < s → ∀ (K : Ks) (i : Nat) (c : List Int) (S : List Nat) (L : List Out), GW n (f :: K) i c S L → ∀ o ∈ L, From n K i o := by
  intro n
  induction n using Nat.strongRecOn with
  | _ n ih =>
    intro s
    induction s with
    | zero => intro f hf; omega
    | succ s ihs =>
      intro f hf K i c S L h o ho
      have ih' : ∀ m, m < n → ∀ (f : DFr) (K : Ks) (i : Nat) (c : List Int) (S : List Nat) (L : List Out), GW m (f :: K) i c S L → ∀ o ∈ L, From m K i o := fun m hm f => ih m hm _ f (Nat.lt_succ_self _)
      have two : ∀ m, m < n → ∀ f' c' S' L' (g : DFr), GW m (f' :: g :: K) i c' S' L' → o ∈ L' → From n K i o := by
        intro m hm f' c' S' L' g h' ho'
        obtain ⟨n1, j, c1, S1, L1, a1, a2, a3, a4⟩ := ih' m hm f' (g :: K) i c' S' L' h' o ho'
        exact (ih' n1 (by omega) g K j c1 S1 L1 a2 o a3).mono (by omega) a4
      have self : ∀ m, m < n → ∀ c' S' L', GW m K i c' S' L' → o ∈ L' → From n K i o := fun m hm c' S' L' h' ho' => ⟨m, i, c', S', L', by omega, h', ho', Nat.le_refl _⟩
      have one : ∀ m, m < n → ∀ f' c' S' L', GW m (f' :: K) i c' S' L' → o ∈ L' → From n K i o := fun m hm f' c' S' L' h' ho' => (ih' m hm f' K i c' S' L' h' o ho').mono (by omega) (Nat.le_refl _)
      cases h with
      | none => cases ho
      | eps h1 => exact self _ (by omega) _ _ _ h1 ho
      | symT hp h1 => exact ⟨_, _, _, _, _, Nat.le_succ _, h1, ho, Nat.le_succ _⟩
      | symF => cases ho
      | lookT hp h1 => exact self _ (by omega) _ _ _ h1 ho
      | lookF => cases ho
      | cap h1 => exact two _ (by omega) _ _ _ _ _ h1 ho
      | capEnd h1 => exact self _ (by omega) _ _ _ h1 ho
      | seq h1 => exact two _ (by omega) _ _ _ _ _ h1 ho
      | altN => cases ho
      | @altC _ n1 m1 _ _ _ _ L1 L2 x r h1 h2 q1 q2 =>
        rcases List.mem_append.1 ho with ho | ho
        · exact one _ (by omega) _ _ _ _ h1 ho
        · by_cases hm : m1 < n
          · exact one _ hm _ _ _ _ h2 ho
          · obtain rfl : m1 = n := by omega
            exact ihs (.q r) (by simp only [DFr.q.sizeOf_spec, Q.altC.sizeOf_spec] at hf ⊢; omega) K i c S L2 h2 o ho
      | quest h1 h2 =>
        rcases ei_mem ho with ho | ho
        · exact one _ (by omega) _ _ _ _ h1 ho
        · exact self _ (by omega) _ _ _ h2 ho
      | mkF => cases ho
      | mkT _ h1 => exact one _ (by omega) _ _ _ _ h1 ho
      | starF => cases ho
      | starT _ h1 h2 =>
        rcases ei_mem ho with ho | ho
        · exact two _ (by omega) _ _ _ _ _ h1 ho
        · exact self _ (by omega) _ _ _ h2 ho
      | plusF => cases ho
      | plusT _ h1 => exact two _ (by omega) _ _ _ _ _ h1 ho
      | askF => cases ho
      | askT _ h1 h2 =>
        rcases ei_mem ho with ho | ho
        · exact one _ (by omega) _ _ _ _ h1 ho
        · exact self _ (by omega) _ _ _ h2 ho
theorem from_next {n : Nat} {f : DFr} {K : Ks} {i : Nat} {c : List Int} {S : List Nat} {L : List Out} (h : GW n (f :: K) i c S L) {o : Out} (ho : o ∈ L) : From n K i o := from_any n _ f (Nat.lt_succ_self _) K i c S L h o ho

/-- The way to o goes through what begins with p's runes at i; if p is exact, it is just that. -/
def Thru (R : List Int) (p : List Int × Bool) (n : Nat) (K : Ks) (i : Nat) (o : Out) : Prop :=
  Stands R p.1 i ∧ ∃ n' j c S L, n' ≤ n ∧ GW n' K j c S L ∧ o ∈ L ∧ i + p.1.length ≤ j ∧ (p.2 = true → j = i + p.1.length)
theorem Thru.up {R : List Int} {p : List Int × Bool} {n m i : Nat} {K : Ks} {o : Out} (h : Thru R p n K i o) (hn : n ≤ m) : Thru R p m K i o := by
  obtain ⟨h0, n', j, c, S, L, h1, h2⟩ := h
  exact ⟨h0, n', j, c, S, L, by omega, h2⟩
/-- All ways through q begin with p. -/
def Begins (R : List Int) (p : List Int × Bool) (q : Q) : Prop := ∀ (n : Nat) (K : Ks) (i : Nat) (c : List Int) (S : List Nat) (L : List Out), GW n (.q q :: K) i c S L → ∀ o ∈ L, Thru R p n K i o
section
variable {R : List Int} {p p' : List Int × Bool} {q x y : Q}
theorem begins_none (q : Q) : Begins R ([], false) q := fun n K i c S L h o ho => by
  obtain ⟨n', j, c', S', L', h1, h2, h3, h4⟩ := from_next h ho
  exact ⟨.nil, n', j, c', S', L', h1, h2, h3, by simpa using h4, fun e => by simp at e⟩
theorem Begins.weak (h : Begins R p q) : Begins R (p.1, false) q := fun n K i c S L k o ho => by
  obtain ⟨h0, n', j, c', S', L', h1, h2, h3, h4, h5⟩ := h n K i c S L k o ho
  exact ⟨h0, n', j, c', S', L', h1, h2, h3, h4, fun e => by simp at e⟩
theorem begins_eps : Begins R ([], true) .eps := fun n K i c S L h o ho => by
  cases h with
  | eps h1 => exact ⟨.nil, _, i, _, _, _, Nat.le_succ _, h1, ho, by simp, fun _ => by simp⟩
theorem begins_rune (r : Int) : Begins R ([r], true) (.sym fun i => runeAt R i == r) := fun n K i c S L h o ho => by
  cases h with
  | symT hp h1 => exact ⟨stands_one.2 (by simpa using hp), _, i + 1, _, _, _, Nat.le_succ _, h1, ho, by simp, fun _ => by simp⟩
  | symF => cases ho
theorem Begins.cap (h : Begins R p x) (g : Nat) : Begins R p (.cap g x) := fun n K i c S L k o ho => by
  cases k with
  | cap h1 =>
    obtain ⟨h0, n', j, c', S', L', a1, a2, a3, a4, a5⟩ := h _ _ _ _ _ _ h1 o ho
    cases a2 with
    | capEnd b1 => exact ⟨h0, _, j, _, _, _, by omega, b1, a3, a4, a5⟩
theorem Begins.mk (h : Begins R p x) (a : Nat) : Begins R p (.mk a x) := fun n K i c S L k o ho => by
  cases k with
  | mkF => cases ho
  | mkT _ h1 => exact (h _ _ _ _ _ _ h1 o ho).up (by omega)
theorem Begins.seq (h : Begins R p x) (h' : Begins R p' y) : Begins R (if p.2 then (p.1 ++ p'.1, p'.2) else (p.1, false)) (.seq x y) := fun n K i c S L k o ho => by
  cases k with
  | seq h1 =>
    obtain ⟨h0, n', j, c', S', L', a1, a2, a3, a4, a5⟩ := h _ _ _ _ _ _ h1 o ho
    cases hp : p.2
    · obtain ⟨n2, j2, c2, S2, L2, b1, b2, b3, b4⟩ := from_next a2 a3
      exact ⟨by simpa using h0, n2, j2, c2, S2, L2, by omega, b2, b3, by simp; omega, fun e => by simp at e⟩
    · have hj := a5 hp
      obtain ⟨g0, n2, j2, c2, S2, L2, b1, b2, b3, b4, b5⟩ := h' _ _ _ _ _ _ a2 o a3
      subst hj
      exact ⟨by simpa using h0.append g0, n2, j2, c2, S2, L2, by omega, b2, b3, by simp; omega, fun e => by have := b5 (by simpa using e); simp; omega⟩
theorem Begins.plus (h : Begins R p x) (a b : Nat) (z : Bool) : Begins R (p.1, false) (.plus a b z x) := fun n K i c S L k o ho => by
  cases k with
  | plusF => cases ho
  | plusT _ h1 =>
    obtain ⟨h0, n', j, c', S', L', a1, a2, a3, a4, a5⟩ := h _ _ _ _ _ _ h1 o ho
    obtain ⟨n2, j2, c2, S2, L2, b1, b2, b3, b4⟩ := from_next a2 a3
    exact ⟨h0, n2, j2, c2, S2, L2, by omega, b2, b3, by simp; omega, fun e => by simp at e⟩
theorem Begins.alt (h : Begins R p x) : Begins R p (.altC x .altN) := fun n K i c S L k o ho => by
  cases k with
  | altC h1 h2 q1 q2 =>
    cases h2 with
    | altN =>
      rw [List.append_nil] at ho
      exact (h _ _ _ _ _ _ h1 o ho).up (by omega)
theorem Begins.beh {lf : Prop} (h : Begins R p y) {y' : Q} (hb : Beh lf y y') : Begins R p y' := by
  rcases hb with ⟨-, rfl⟩ | ⟨-, a, rfl⟩
  · exact h
  · exact h.mk a
end
theorem row_begins {R : List Int} {M : Tr → Q → Prop} {ks : List Tr} {q : Q} (h : RowM M ks q) (hk : ∀ k ∈ ks, ∀ x, M k x → Begins R (preT k) x) : Begins R (catX (ks.map preT)) q := by
  induction h with
  | nil => exact begins_eps
  | cons h1 _ h3 ih =>
    have hy := ih fun k hk' => hk k (List.mem_cons_of_mem _ hk')
    exact (hk _ (List.mem_cons_self ..) _ h1).seq (hy.beh h3)
theorem rep_begins {R : List Int} {p : List Int × Bool} {M : Q → Prop} {lf : Prop} {z : Bool} {l u : Int} {q : Q} (h : RepM M lf z l u q) (hl : 0 < l) (hu : u = -1 ∨ l ≤ u) (hk : ∀ x, M x → Begins R p x) : Begins R (p.1, false) q := by
  cases h with
  | done => omega
  | star => omega
  | plus _ h2 => exact (hk _ h2).plus _ _ _
  | opt => omega
  | @more _ _ _ y y' _ _ _ h2 =>
    have := (hk _ h2).weak.seq (p' := ([], false)) (begins_none y')
    simpa using this
theorem mat_begins (R : List Int) (G : Nat) (t : Tr) : ShapedP t → ∀ q, Mat R G t q → Begins R (preT t) q := by
  refine Tr.ind (P := fun t => ShapedP t → ∀ q, Mat R G t q → Begins R (preT t) q) (fun t ih hsh q hq => ?_) t
  obtain ⟨hF, hKO, hcap, hks⟩ := (shapedP_iff t).1 hsh
  have IH : ∀ k ∈ t.kids, ∀ x, Mat R G k x → Begins R (preT k) x := fun k hk => ih k hk (hks k hk)
  have one : ∀ {k}, t.kids = [k] → k ∈ t.kids := fun h => by rw [h]; exact List.mem_singleton.2 rfl
  rw [preT_eq]
  unfold preX
  have e0 : t.fld.op < 6 → t.kids.map preT = [] := fun h => by
    have : t.kids.length = 0 := by have := hKO.2.2; omega
    rw [List.eq_nil_of_length_eq_zero this]; rfl
  cases (mat_iff R G t q).1 hq with
  | none h => rw [e0 (by omega)]; simp only [h]; exact begins_none _
  | eps h => simp only [h]; exact begins_eps
  | rune h => simp only [h]; exact begins_rune _
  | set h => rw [e0 (by omega)]; simp only [h]; exact begins_none _
  | at' h => rw [e0 (by omega)]; simp only [h]; exact begins_none _
  | cap h1 h2 h3 h4 => have := (IH _ (one h3) _ h4).cap t.fld.cap.toNat; simp only [h1, h3, List.map_cons, List.map_nil]; exact this
  | bare h1 h2 h3 h4 => have := IH _ (one h3) _ h4; simp only [h1, h3, List.map_cons, List.map_nil]; exact this
  | star h1 h2 h3 => simp only [h1, h2, List.map_cons, List.map_nil]; exact begins_none _
  | plus h1 h2 h3 => have := (IH _ (one h2) _ h3).plus; simp only [h1, h2, List.map_cons, List.map_nil]; exact this _ _ _
  | quest h1 h2 h3 => simp only [h1, h2, List.map_cons, List.map_nil]; exact begins_none _
  | rep h1 h2 h3 =>
    have hm := hF.2.2.2.2.2.2.2.2.2.2.2.2 h1
    simp only [h1, h2, List.map_cons, List.map_nil]
    by_cases h0 : 0 < t.fld.min
    · have := rep_begins h3 h0 (by omega) (IH _ (one h2))
      simpa [h0] using this
    · simpa [h0] using begins_none q
  | cat h1 h2 => simp only [h1]; exact row_begins h2 IH
  | alt h1 h2 =>
    simp only [h1]
    obtain ⟨ks, hke⟩ : ∃ ks, t.kids = ks := ⟨_, rfl⟩
    rw [hke] at h2 IH
    rw [hke]
    clear hke e0 one hKO hks
    cases h2 with
    | nil => exact begins_none _
    | cons a1 a2 =>
      cases a2 with
      | nil => exact (IH _ (by simp) _ a1).alt
      | cons b1 b2 => exact begins_none _

/-- The marks of an exact tree are met once each: what stands is gone through. -/
def PGoes (R : List Int) (p : List Int × Bool) (q : Q) : Prop := p.2 = true → ∀ (n : Nat) (K : Ks) (i : Nat) (c : List Int) (S : List Nat) (L : List Out), GW n (.q q :: K) i c S L → Stands R p.1 i → (∀ a ∈ idsQ q, a ∉ S) → (idsQ q).Nodup →
  ∃ n' c' S', GW n' K (i + p.1.length) c' S' L ∧ ∀ a ∈ S', a ∈ S ∨ a ∈ idsQ q
section
variable {R : List Int} {p p' : List Int × Bool} {q x y : Q}
theorem pgoes_not (h : p.2 = false) : PGoes R p q := fun e => by rw [h] at e; simp at e
theorem pgoes_eps : PGoes R ([], true) .eps := fun _ n K i c S L h hs hd hn => by
  cases h with
  | eps h1 => exact ⟨_, c, S, by simpa using h1, fun a ha => .inl ha⟩
theorem pgoes_rune (r : Int) : PGoes R ([r], true) (.sym fun i => runeAt R i == r) := fun _ n K i c S L h hs hd hn => by
  cases h with
  | symT hp h1 => exact ⟨_, c, [], h1, fun a ha => by simp at ha⟩
  | symF hp =>
    have := stands_one.1 hs
    simp [this] at hp
theorem PGoes.cap (h : PGoes R p x) (g : Nat) : PGoes R p (.cap g x) := fun hp n K i c S L k hs hd hn => by
  cases k with
  | cap h1 =>
    obtain ⟨n', c', S', a1, a2⟩ := h hp _ _ _ _ _ _ h1 hs hd hn
    cases a1 with
    | capEnd b1 => exact ⟨_, _, _, b1, a2⟩
theorem PGoes.seq (h : PGoes R p x) (h' : PGoes R p' y) : PGoes R (if p.2 then (p.1 ++ p'.1, p'.2) else (p.1, false)) (.seq x y) := fun hp n K i c S L k hs hd hn => by
  cases hx : p.2
  · simp [hx] at hp
  simp only [hx, if_true] at hp hs ⊢
  cases k with
  | seq h1 =>
    have hn' : (idsQ x).Nodup ∧ (idsQ y).Nodup ∧ ∀ a ∈ idsQ x, ∀ b ∈ idsQ y, a ≠ b := List.nodup_append.1 hn
    obtain ⟨n', c', S', a1, a2⟩ := h hx _ _ _ _ _ _ h1 hs.left (fun a ha => hd a (by simp [idsQ, ha])) hn'.1
    obtain ⟨n2, c2, S2, b1, b2⟩ := h' hp _ _ _ _ _ _ a1 hs.right (fun a ha hS => by
      rcases a2 a hS with e | e
      · exact hd a (by simp [idsQ, ha]) e
      · exact hn'.2.2 a e a ha rfl) hn'.2.1
    refine ⟨n2, c2, S2, by rw [List.length_append, ← Nat.add_assoc]; exact b1, fun a ha => ?_⟩
    rcases b2 a ha with e | e
    · rcases a2 a e with e | e
      · exact .inl e
      · exact .inr (by simp [idsQ, e])
    · exact .inr (by simp [idsQ, e])
theorem PGoes.mk (h : PGoes R p x) (a : Nat) : PGoes R p (.mk a x) := fun hp n K i c S L k hs hd hn => by
  have hn' : a ∉ idsQ x ∧ (idsQ x).Nodup := List.nodup_cons.1 hn
  cases k with
  | mkF h1 => exact absurd h1 (hd a (by simp [idsQ]))
  | mkT _ h1 =>
    obtain ⟨n', c', S', a1, a2⟩ := h hp _ _ _ _ _ _ h1 hs (fun b hb hS => by
      rcases List.mem_cons.1 hS with e | e
      · subst e; exact hn'.1 hb
      · exact hd b (by simp [idsQ, hb]) e) hn'.2
    refine ⟨n', c', S', a1, fun b hb => ?_⟩
    rcases a2 b hb with e | e
    · rcases List.mem_cons.1 e with e | e
      · subst e; exact .inr (by simp [idsQ])
      · exact .inl e
    · exact .inr (by simp [idsQ, e])
theorem PGoes.alt (h : PGoes R p x) : PGoes R p (.altC x .altN) := fun hp n K i c S L k hs hd hn => by
  have hi : idsQ (.altC x .altN) = idsQ x := by simp [idsQ]
  rw [hi] at hd hn ⊢
  cases k with
  | altC h1 h2 q1 q2 =>
    cases h2 with
    | altN =>
      rw [List.append_nil]
      exact h hp _ _ _ _ _ _ h1 hs hd hn
theorem PGoes.beh {lf : Prop} (h : PGoes R p y) {y' : Q} (hb : Beh lf y y') : PGoes R p y' := by
  rcases hb with ⟨-, rfl⟩ | ⟨-, a, rfl⟩
  · exact h
  · exact h.mk a
end
theorem row_goes {R : List Int} {M : Tr → Q → Prop} {ks : List Tr} {q : Q} (h : RowM M ks q) (hk : ∀ k ∈ ks, ∀ x, M k x → PGoes R (preT k) x) : PGoes R (catX (ks.map preT)) q := by
  induction h with
  | nil => exact pgoes_eps
  | cons h1 _ h3 ih =>
    have hy := ih fun k hk' => hk k (List.mem_cons_of_mem _ hk')
    exact (hk _ (List.mem_cons_self ..) _ h1).seq (hy.beh h3)
theorem mat_goes (R : List Int) (G : Nat) (t : Tr) : ShapedP t → ∀ q, Mat R G t q → PGoes R (preT t) q := by
  refine Tr.ind (P := fun t => ShapedP t → ∀ q, Mat R G t q → PGoes R (preT t) q) (fun t ih hsh q hq => ?_) t
  obtain ⟨hF, hKO, hcap, hks⟩ := (shapedP_iff t).1 hsh
  have IH : ∀ k ∈ t.kids, ∀ x, Mat R G k x → PGoes R (preT k) x := fun k hk => ih k hk (hks k hk)
  have one : ∀ {k}, t.kids = [k] → k ∈ t.kids := fun h => by rw [h]; exact List.mem_singleton.2 rfl
  rw [preT_eq]
  unfold preX
  have e0 : t.fld.op < 6 → t.kids.map preT = [] := fun h => by
    have : t.kids.length = 0 := by have := hKO.2.2; omega
    rw [List.eq_nil_of_length_eq_zero this]; rfl
  cases (mat_iff R G t q).1 hq with
  | none h => rw [e0 (by omega)]; simp only [h]; exact pgoes_not rfl
  | eps h => simp only [h]; exact pgoes_eps
  | rune h => simp only [h]; exact pgoes_rune _
  | set h => rw [e0 (by omega)]; simp only [h]; exact pgoes_not rfl
  | at' h => rw [e0 (by omega)]; simp only [h]; exact pgoes_not rfl
  | cap h1 h2 h3 h4 => have := (IH _ (one h3) _ h4).cap t.fld.cap.toNat; simp only [h1, h3, List.map_cons, List.map_nil]; exact this
  | bare h1 h2 h3 h4 => have := IH _ (one h3) _ h4; simp only [h1, h3, List.map_cons, List.map_nil]; exact this
  | star h1 h2 h3 => simp only [h1, h2, List.map_cons, List.map_nil]; exact pgoes_not rfl
  | plus h1 h2 h3 => simp only [h1, h2, List.map_cons, List.map_nil]; exact pgoes_not rfl
  | quest h1 h2 h3 => simp only [h1, h2, List.map_cons, List.map_nil]; exact pgoes_not rfl
  | rep h1 h2 h3 =>
    simp only [h1, h2, List.map_cons, List.map_nil]
    by_cases h0 : 0 < t.fld.min
    · exact pgoes_not (by simp [h0])
    · exact pgoes_not (by simp [h0])
  | cat h1 h2 => simp only [h1]; exact row_goes h2 IH
  | alt h1 h2 =>
    simp only [h1]
    obtain ⟨ks, hke⟩ : ∃ ks, t.kids = ks := ⟨_, rfl⟩
    rw [hke] at h2 IH
    rw [hke]
    clear hke e0 one hKO hks
    cases h2 with
    | nil => exact pgoes_not rfl
    | cons a1 a2 =>
      cases a2 with
      | nil => exact (IH _ (by simp) _ a1).alt
      | cons b1 b2 => exact pgoes_not rfl
/-- What a tree fits begins with its prefix; an exact one fits just that; and it fits where it stands. -/
theorem ways_begin {R : List Int} {G : Nat} {t : Tr} {q : Q} {n i : Nat} {c : List Int} {L : List Out} (hsh : ShapedP t) (hq : Mat R G t q) (hn : (idsQ q).Nodup) (h : GW n [.q q] i c [] L) :
    (∀ o ∈ L, Stands R (preT t).1 i ∧ i + (preT t).1.length ≤ o.1 ∧ ((preT t).2 = true → o.1 = i + (preT t).1.length)) ∧ ((preT t).2 = true → Stands R (preT t).1 i → L ≠ []) := by
  refine ⟨fun o ho => ?_, fun he hs => ?_⟩
  · obtain ⟨h0, n', j, c', S', L', a1, a2, a3, a4, a5⟩ := mat_begins R G t hsh q hq n [] i c [] L h o ho
    cases a2 with
    | fin =>
      obtain rfl := List.mem_singleton.1 a3
      exact ⟨h0, a4, a5⟩
  · obtain ⟨n', c', S', a1, a2⟩ := mat_goes R G t hsh q hq he n [] i c [] L h hs (fun a _ => by simp) hn
    cases a1 with
    | fin => simp
end Go.Proofs.Ytnemacejaiifnaa
