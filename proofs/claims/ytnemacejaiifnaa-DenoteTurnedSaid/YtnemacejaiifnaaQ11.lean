/- Texts merged by program: DnLoc. No condition. -/
import Derived.Test.YtnemacejaiifnaaQ8
import Derived.Test.YtnemacejaiifnaaQ10
import Derived.Test.YtnemacejaiifnaaQ4
set_option linter.unusedVariables false
/- What a closure that was laid is: which boxes it looks into, and where it leads. No condition. -/
namespace Go.Proofs.Ytnemacejaiifnaa
open Go Go.RowKit

/-- What does not turn while ways are laid and gone: the world in which tree and input lie, the ways' block, the input's block and text, the groups. -/
structure Env where
  w0 : World
  q : Nat
  ib : Nat
  s : ByteArray
  G : Nat
  fb : Nat
abbrev Env.R (E : Env) : List Int := runesOf E.s
/-- The fit's slice. -/
abbrev Env.fv (E : Env) : Value := .slice (some ⟨E.fb, 0, none⟩) (2 * (E.G + 1)) (2 * (E.G + 1))
structure FitOk (E : Env) (fv : Value) : Prop where
  eq : fv = E.fv
  le : E.G ≤ 2000
/-- Place o of block b holds the tree t. -/
def TP (w0 : World) (b o : Nat) (t : Tr) : Prop := ∃ kv sv, CellsAt w0 b o (treC t.fld kv sv) ∧ Tre w0 t (.agg (treC t.fld kv sv))
/-- What is known of boxes, of parts, of parts that are still to be laid, of numbers. -/
structure Gh where
  Bx : Nat → TypeId → Array Value → Prop
  Tb : Fv → Ks → Prop
  Lz : Nat → Fv → Ks → Prop
  Nm : Nat → Nat → Prop
/-- What does not turn while ways are gone, by its type. -/
def CT (t : TypeId) (cs : Array Value) : Prop := (t ≠ 82 ∧ t ≠ 119 ∧ t ≠ 38) ∧ (t = 3 → cs.size = 1)
theorem ct1 {t : TypeId} {v : Value} (h : t ≠ 82 ∧ t ≠ 119 ∧ t ≠ 38) : CT t #[v] := ⟨h, fun _ => rfl⟩
theorem ctp {cs : Array Value} : CT 75 cs := ⟨by decide, fun h => absurd h (by decide)⟩
structure Gh.le (g g' : Gh) : Prop where
  bx : ∀ b t v, CT t v → g.Bx b t v → g'.Bx b t v
  tb : ∀ v K, g.Tb v K → g'.Tb v K
  lz : ∀ b x K, g.Lz b x K → g'.Lz b x K
  nm : ∀ n a, g.Nm n a → g'.Nm n a
/-- A part is what is left to do, rows taken apart. -/
inductive Rp (Tb : Fv → Ks → Prop) : Fv → Ks → Prop where
  | base {v K} : Tb v K → Rp Tb v K
  | seq {v x y K} : Rp Tb v (.q x :: .q y :: K) → Rp Tb v (.q (.seq x y) :: K)
theorem Rp.mono {T T' : Fv → Ks → Prop} {v K} (h : Rp T v K) (hT : ∀ v K, T v K → T' v K) : Rp T' v K := by
  induction h with
  | base h => exact .base (hT _ _ h)
  | seq _ ih => exact .seq ih
abbrev onceF (b n t : Nat) : Fv := ⟨.func 84, #[], #[ptrV b, ptrV n, ptrV t]⟩
abbrev laterF (b l : Nat) : Fv := ⟨.func 155, #[], #[ptrV b, ptrV l]⟩
/-- An Alt's Kids. -/
def altKids : Q → List Q
  | .altC x r => x :: altKids r
  | .altN => []
  | _ => []
/-- A list of Kids. -/
def AltQ : Q → Prop
  | .altC _ r => AltQ r
  | .altN => True
  | _ => False
/-- The closure that asks, of a star, of a plus: f is which one. -/
structure Loop (E : Env) (g : Gh) (f : FuncId) (fo : Fv) (z : Bool) (kid stop : Ks) : Prop where
  is : ∃ bw bt bk bs pb po t vk vs, fo = ⟨.func f, #[], #[ptrV bw, ptrV bt, ptrV bk, ptrV bs]⟩ ∧ g.Bx bw 71 #[ptrV E.q] ∧ g.Bx bt 77 #[.pointer (some ⟨pb, po, none⟩)] ∧ TP E.w0 pb po t ∧ t.fld.lazy = z ∧
    g.Bx bk 75 #[vk.v] ∧ Rp g.Tb vk kid ∧ g.Bx bs 75 #[vs.v] ∧ Rp g.Tb vs stop
inductive Loc (E : Env) (g : Gh) : Fv → Ks → Prop where
  | none {K} : Loc E g ⟨.func 70, #[], #[]⟩ (.q .none :: K)
  | pass {b c t K} : g.Bx b 71 #[ptrV E.q] → g.Bx c 75 #[t.v] → Rp g.Tb t K → Loc E g ⟨.func 110, #[], #[ptrV b, ptrV c]⟩ (.q .eps :: K)
  | rune {bf bw bt b pb po x t K} : g.Bx bw 71 #[ptrV E.q] → g.Bx bf 121 #[.func (.func 73) #[] #[ptrV b]] → g.Bx bt 75 #[t.v] → g.Bx b 77 #[.pointer (some ⟨pb, po, none⟩)] → TP E.w0 pb po x → (0 ≤ x.fld.rune ∧ x.fld.rune ≤ 1114111) →
      Rp g.Tb t K → Loc E g ⟨.func 111, #[], #[ptrV bf, ptrV bw, ptrV bt]⟩ (.q (.sym fun i => runeAt E.R i == x.fld.rune) :: K)
  | set {bf bw bt b pb po x t K} : g.Bx bw 71 #[ptrV E.q] → g.Bx bf 121 #[.func (.func 74) #[] #[ptrV b]] → g.Bx bt 75 #[t.v] → g.Bx b 77 #[.pointer (some ⟨pb, po, none⟩)] → TP E.w0 pb po x → RightR x.fld.set →
      Rp g.Tb t K → Loc E g ⟨.func 111, #[], #[ptrV bf, ptrV bw, ptrV bt]⟩ (.q (.sym fun i => fitsS x.fld.set (runeAt E.R i)) :: K)
  | stand {bw ba bt a t K} : g.Bx bw 71 #[ptrV E.q] → g.Bx ba 25 #[.int .i64 a] → g.Bx bt 75 #[t.v] → Rp g.Tb t K → Loc E g ⟨.func 114, #[], #[ptrV bw, ptrV ba, ptrV bt]⟩ (.q (.look fun i => bits .and .i64 (atOf E.R i) a != 0) :: K)
  | group {bw bp bi bk pw pi n x vk K} : g.Bx bw 71 #[ptrV E.q] → g.Bx bp 75 #[.func (.func 143) #[] #[ptrV pw, ptrV pi]] → g.Bx pw 71 #[ptrV E.q] → g.Bx pi 3 #[.int .i64 ((2 * n : Nat) : Int)] →
      g.Bx bi 3 #[.int .i64 ((2 * n : Nat) : Int)] → g.Bx bk 75 #[vk.v] → Rp g.Tb vk (.q x :: .capEnd n :: K) → n ≤ E.G → 1 ≤ n →
      Loc E g ⟨.func 118, #[], #[ptrV bw, ptrV bp, ptrV bi, ptrV bk]⟩ (.q (.cap n x) :: K)
  | gend {bw bp bi bt pw pi n t K} : g.Bx bw 71 #[ptrV E.q] → g.Bx bp 75 #[.func (.func 143) #[] #[ptrV pw, ptrV pi]] → g.Bx pw 71 #[ptrV E.q] → g.Bx pi 3 #[.int .i64 ((2 * n + 1 : Nat) : Int)] →
      g.Bx bi 3 #[.int .i64 ((2 * n + 1 : Nat) : Int)] → g.Bx bt 75 #[t.v] → Rp g.Tb t K → n ≤ E.G → 1 ≤ n →
      Loc E g ⟨.func 117, #[], #[ptrV bw, ptrV bp, ptrV bi, ptrV bt]⟩ (.capEnd n :: K)
  | star {b n t nn a fo z x K} : g.Bx b 71 #[ptrV E.q] → g.Bx n 3 #[.int .i64 (nn : Nat)] → g.Bx t 75 #[fo.v] → g.Nm nn a → Loop E g 119 fo z (.q x :: .q (.star a z x) :: K) K → Loc E g (onceF b n t) (.q (.star a z x) :: K)
  | ask {b n t nn a a' fo z x K} : g.Bx b 71 #[ptrV E.q] → g.Bx n 3 #[.int .i64 (nn : Nat)] → g.Bx t 75 #[fo.v] → g.Nm nn a' → Loop E g 121 fo z (.q (.plus a a' z x) :: K) K → Loc E g (onceF b n t) (.ask a a' z x :: K)
  | plus {b n t nn a a' fo z x K} : g.Bx b 71 #[ptrV E.q] → g.Bx n 3 #[.int .i64 (nn : Nat)] → g.Bx t 75 #[fo.v] → g.Nm nn a → Rp g.Tb fo (.q x :: .ask a a' z x :: K) → Loc E g (onceF b n t) (.q (.plus a a' z x) :: K)
  | mk {b n t nn a fo y K} : g.Bx b 71 #[ptrV E.q] → g.Bx n 3 #[.int .i64 (nn : Nat)] → g.Bx t 75 #[fo.v] → g.Nm nn a → Rp g.Tb fo (.q y :: K) → Loc E g (onceF b n t) (.q (.mk a y) :: K)
  | quest {bw bz bk bt z x vk t K} : g.Bx bw 71 #[ptrV E.q] → g.Bx bz 4 #[.bool z] → g.Bx bk 75 #[vk.v] → g.Bx bt 75 #[t.v] → Rp g.Tb vk (.q x :: K) → Rp g.Tb t K →
      Loc E g ⟨.func 122, #[], #[ptrV bw, ptrV bz, ptrV bk, ptrV bt]⟩ (.q (.quest z x) :: K)
  | later {b l x K} : g.Bx l 157 #[x.v] → g.Lz b x K → Loc E g (laterF b l) K
  | alts {ba bw x K} (A : Option Addr) (c : Nat) (vs : List Fv) : g.Bx bw 71 #[ptrV E.q] → g.Bx ba 158 #[.slice A vs.length c] → vs.length ≤ c → c ≤ maxLen → vs.length = (altKids x).length → AltQ x → (∀ (i : Nat) (h : i < vs.length) (h' : i < (altKids x).length), Rp g.Tb vs[i] (.q (altKids x)[i] :: K)) →
      (vs = [] ∨ ∃ ab cur, A = some ⟨ab, 0, Option.none⟩ ∧ g.Bx ab 75 cur ∧ ∀ (i : Nat) (h : i < vs.length), cur[i]? = some vs[i].v) → Loc E g ⟨.func 126, #[], #[ptrV ba, ptrV bw]⟩ (.q x :: K)
theorem Loop.mono {E : Env} {g g' : Gh} (h : g.le g') {f : FuncId} {fo : Fv} {z : Bool} {kid stop : Ks} (k : Loop E g f fo z kid stop) : Loop E g' f fo z kid stop := by
  obtain ⟨bw, bt, bk, bs, pb, po, t, vk, vs, k1, k2, k3, k4, k5, k6, k7, k8, k9⟩ := k.is
  exact ⟨bw, bt, bk, bs, pb, po, t, vk, vs, k1, h.bx _ _ _ (ct1 (by decide)) k2, h.bx _ _ _ (ct1 (by decide)) k3, k4, k5, h.bx _ _ _ (ct1 (by decide)) k6, k7.mono h.tb, h.bx _ _ _ (ct1 (by decide)) k8, k9.mono h.tb⟩
theorem Loc.mono {E : Env} {g g' : Gh} (h : g.le g') {v : Fv} {K : Ks} (k : Loc E g v K) : Loc E g' v K := by
  cases k with
  | none => exact .none
  | pass h1 h2 h3 => exact .pass (h.bx _ _ _ (ct1 (by decide)) h1) (h.bx _ _ _ (ct1 (by decide)) h2) (h3.mono h.tb)
  | rune h1 h2 h3 h4 h5 h6 h7 => exact .rune (h.bx _ _ _ (ct1 (by decide)) h1) (h.bx _ _ _ (ct1 (by decide)) h2) (h.bx _ _ _ (ct1 (by decide)) h3) (h.bx _ _ _ (ct1 (by decide)) h4) h5 h6 (h7.mono h.tb)
  | set h1 h2 h3 h4 h5 h6 h7 => exact .set (h.bx _ _ _ (ct1 (by decide)) h1) (h.bx _ _ _ (ct1 (by decide)) h2) (h.bx _ _ _ (ct1 (by decide)) h3) (h.bx _ _ _ (ct1 (by decide)) h4) h5 h6 (h7.mono h.tb)
  | stand h1 h2 h3 h4 => exact .stand (h.bx _ _ _ (ct1 (by decide)) h1) (h.bx _ _ _ (ct1 (by decide)) h2) (h.bx _ _ _ (ct1 (by decide)) h3) (h4.mono h.tb)
  | group h1 h2 h3 h4 h5 h6 h7 h8 h9 => exact .group (h.bx _ _ _ (ct1 (by decide)) h1) (h.bx _ _ _ (ct1 (by decide)) h2) (h.bx _ _ _ (ct1 (by decide)) h3) (h.bx _ _ _ (ct1 (by decide)) h4) (h.bx _ _ _ (ct1 (by decide)) h5) (h.bx _ _ _ (ct1 (by decide)) h6) (h7.mono h.tb) h8 h9
  | gend h1 h2 h3 h4 h5 h6 h7 h8 h9 => exact .gend (h.bx _ _ _ (ct1 (by decide)) h1) (h.bx _ _ _ (ct1 (by decide)) h2) (h.bx _ _ _ (ct1 (by decide)) h3) (h.bx _ _ _ (ct1 (by decide)) h4) (h.bx _ _ _ (ct1 (by decide)) h5) (h.bx _ _ _ (ct1 (by decide)) h6) (h7.mono h.tb) h8 h9
  | star h1 h2 h3 h4 h5 => exact .star (h.bx _ _ _ (ct1 (by decide)) h1) (h.bx _ _ _ (ct1 (by decide)) h2) (h.bx _ _ _ (ct1 (by decide)) h3) (h.nm _ _ h4) (h5.mono h)
  | ask h1 h2 h3 h4 h5 => exact .ask (h.bx _ _ _ (ct1 (by decide)) h1) (h.bx _ _ _ (ct1 (by decide)) h2) (h.bx _ _ _ (ct1 (by decide)) h3) (h.nm _ _ h4) (h5.mono h)
  | plus h1 h2 h3 h4 h5 => exact .plus (h.bx _ _ _ (ct1 (by decide)) h1) (h.bx _ _ _ (ct1 (by decide)) h2) (h.bx _ _ _ (ct1 (by decide)) h3) (h.nm _ _ h4) (h5.mono h.tb)
  | mk h1 h2 h3 h4 h5 => exact .mk (h.bx _ _ _ (ct1 (by decide)) h1) (h.bx _ _ _ (ct1 (by decide)) h2) (h.bx _ _ _ (ct1 (by decide)) h3) (h.nm _ _ h4) (h5.mono h.tb)
  | quest h1 h2 h3 h4 h5 h6 => exact .quest (h.bx _ _ _ (ct1 (by decide)) h1) (h.bx _ _ _ (ct1 (by decide)) h2) (h.bx _ _ _ (ct1 (by decide)) h3) (h.bx _ _ _ (ct1 (by decide)) h4) (h5.mono h.tb) (h6.mono h.tb)
  | later h1 h2 => exact .later (h.bx _ _ _ (ct1 (by decide)) h1) (h.lz _ _ _ h2)
  | alts A c vs h1 h2 h3 h4 h5 h6 h7 h8 => exact .alts A c vs (h.bx _ _ _ (ct1 (by decide)) h1) (h.bx _ _ _ (ct1 (by decide)) h2) h3 h4 h5 h6 (fun i a b => (h7 i a b).mono h.tb) (h8.imp id fun ⟨ab, cur, e1, e2, e3⟩ => ⟨ab, cur, e1, h.bx _ _ _ ctp e2, e3⟩)
/-- The list of trees of a slice in memory. -/
def KP (w0 : World) (kv : Value) (ks : List Tr) : Prop := Kds w0 ks kv
/-- How a part that is still to be laid is laid, and as what. -/
inductive Thunk (E : Env) (g : Gh) : Fv → Q → Ks → Prop where
  | row {b kv k ks y t K} : g.Bx b 71 #[ptrV E.q] → g.Bx (b + 1) 23 #[kv] → g.Bx (b + 2) 75 #[t.v] → KP E.w0 kv (k :: ks) → RowM (Mat E.R E.G) ks y → g.Tb t K → (∀ x ∈ ks, ShapedP x) →
      Thunk E g ⟨.func 125, #[], #[ptrV b, ptrV (b + 1), ptrV (b + 2)]⟩ y K
  | rep {b pb po x k l h y t K} : g.Bx b 71 #[ptrV E.q] → g.Bx (b + 1) 77 #[.pointer (some ⟨pb, po, none⟩)] → g.Bx (b + 2) 3 #[.int .i64 l] → g.Bx (b + 3) 3 #[.int .i64 h] → g.Bx (b + 4) 75 #[t.v] →
      TP E.w0 pb po x → x.kids = [k] → ShapedP k → 0 ≤ l → l ≤ 1000 → -3000 ≤ h - l → h ≤ 1000 → RepM (Mat E.R E.G k) (k.kids = []) x.fld.lazy (max (l - 1) 0) (h - 1) y → g.Tb t K →
      Thunk E g ⟨.func 124, #[], #[ptrV b, ptrV (b + 1), ptrV (b + 2), ptrV (b + 3), ptrV (b + 4)]⟩ y K
theorem Thunk.mono {E : Env} {g g' : Gh} (h : g.le g') {v : Fv} {y : Q} {K : Ks} (k : Thunk E g v y K) : Thunk E g' v y K := by
  cases k with
  | row h1 h2 h3 h4 h5 h6 h7 => exact .row (h.bx _ _ _ (ct1 (by decide)) h1) (h.bx _ _ _ (ct1 (by decide)) h2) (h.bx _ _ _ (ct1 (by decide)) h3) h4 h5 (h.tb _ _ h6) h7
  | rep h1 h2 h3 h4 h5 h6 h7 h8 h9 h10 h11 h12 h13 h14 => exact .rep (h.bx _ _ _ (ct1 (by decide)) h1) (h.bx _ _ _ (ct1 (by decide)) h2) (h.bx _ _ _ (ct1 (by decide)) h3) (h.bx _ _ _ (ct1 (by decide)) h4) (h.bx _ _ _ (ct1 (by decide)) h5) h6 h7 h8 h9 h10 h11 h12 h13 (h.tb _ _ h14)

/-- A part that is still to be laid: its box, how, as what, and what is behind it. -/
structure Lzy where
  b : Nat
  x : Fv
  y : Q
  K : Ks
/-- What is known of parts T that were laid with boxes from lo to hi, of parts Z that are still to be laid, of numbers N behind n0; X is known of others. -/
def ghOf (X : Fv → Ks → Prop) (lo hi n0 : Nat) (w : World) (N : List Nat) (T : List (Fv × Ks)) (Z : List Lzy) : Gh where
  Bx b t cs := Whole w b t cs ∧ lo ≤ b ∧ b < hi ∧ ∀ z ∈ Z, z.b ≠ b
  Tb v K := (v, K) ∈ T ∨ X v K
  Lz b x K := ∃ z ∈ Z, z.b = b ∧ z.x = x ∧ K = .q z.y :: z.K
  Nm n a := ∃ j, N[j]? = some a ∧ n = n0 + j + 1
structure Stage (E : Env) (X : Fv → Ks → Prop) (lo hi n0 : Nat) (w : World) (N : List Nat) (T : List (Fv × Ks)) (Z : List Lzy) : Prop where
  hi_le : hi ≤ w.heap.size
  locs : ∀ p ∈ T, Loc E (ghOf X lo hi n0 w N T Z) p.1 p.2
  lazies : ∀ z ∈ Z, Whole w z.b 75 #[.nilFunc] ∧ lo ≤ z.b ∧ z.b < hi ∧ Thunk E (ghOf X lo hi n0 w N T Z) z.x z.y z.K
  nodup : (Z.map Lzy.b).Nodup
/-- The same in a later world, where those boxes are as they were. -/
theorem Stage.move {E X lo hi n0 w w' N T Z} (h : Stage E X lo hi n0 w N T Z) (hs : w.heap.size ≤ w'.heap.size) (hk : ∀ b, lo ≤ b → b < hi → w'.heap[b]? = w.heap[b]?) : Stage E X lo hi n0 w' N T Z := by
  have hg : (ghOf X lo hi n0 w N T Z).le (ghOf X lo hi n0 w' N T Z) := ⟨fun b t cs _ ⟨h1, h2, h3, h4⟩ => ⟨(hk b h2 h3).trans h1, h2, h3, h4⟩, fun _ _ h => h, fun _ _ _ h => h, fun _ _ h => h⟩
  exact ⟨Nat.le_trans h.hi_le hs, fun p hp => (h.locs p hp).mono hg, fun z hz => ⟨(hk z.b (h.lazies z hz).2.1 (h.lazies z hz).2.2.1).trans (h.lazies z hz).1, (h.lazies z hz).2.1, (h.lazies z hz).2.2.1, (h.lazies z hz).2.2.2.mono hg⟩, h.nodup⟩
theorem Stage.sub {E X X' lo hi n0 w N T Z} (h : Stage E X lo hi n0 w N T Z) (hX : ∀ v K, X v K → X' v K) : Stage E X' lo hi n0 w N T Z := by
  have hg : (ghOf X lo hi n0 w N T Z).le (ghOf X' lo hi n0 w N T Z) := ⟨fun _ _ _ _ h => h, fun _ _ h => h.imp id (hX _ _), fun _ _ _ h => h, fun _ _ h => h⟩
  exact ⟨h.hi_le, fun p hp => (h.locs p hp).mono hg, fun z hz => ⟨(h.lazies z hz).1, (h.lazies z hz).2.1, (h.lazies z hz).2.2.1, (h.lazies z hz).2.2.2.mono hg⟩, h.nodup⟩
/-- Two stages, one behind the other. -/
theorem Stage.join {E X X1 X2 lo mid hi n0 n1 w N1 N2 T1 T2 Z1 Z2} (h : Stage E X1 lo mid n0 w N1 T1 Z1) (k : Stage E X2 mid hi n1 w N2 T2 Z2) (hm : lo ≤ mid) (hmh : mid ≤ hi) (hn : n1 = n0 + N1.length)
    (hX1 : ∀ v K, X1 v K → (v, K) ∈ T2 ∨ X v K) (hX2 : ∀ v K, X2 v K → (v, K) ∈ T1 ∨ X v K) : Stage E X lo hi n0 w (N1 ++ N2) (T1 ++ T2) (Z1 ++ Z2) := by
  have hz1 : ∀ z ∈ Z1, z.b < mid := fun z hz => (h.lazies z hz).2.2.1
  have hz2 : ∀ z ∈ Z2, mid ≤ z.b := fun z hz => (k.lazies z hz).2.1
  have g1 : (ghOf X1 lo mid n0 w N1 T1 Z1).le (ghOf X lo hi n0 w (N1 ++ N2) (T1 ++ T2) (Z1 ++ Z2)) := by
    refine ⟨fun b t cs _ ⟨h1, h2, h3, h4⟩ => ⟨h1, h2, by omega, fun z hz => ?_⟩, fun v K h => ?_, fun b x K ⟨z, hz, e⟩ => ⟨z, List.mem_append_left _ hz, e⟩, fun n a ⟨j, hj, e⟩ => ⟨j, ?_, e⟩⟩
    · rcases List.mem_append.1 hz with hz | hz
      · exact h4 z hz
      · have := hz2 z hz; omega
    · rcases h with h | h
      · exact .inl (List.mem_append_left _ h)
      · exact (hX1 v K h).imp (List.mem_append_right _) id
    · rw [List.getElem?_append_left ((List.getElem?_eq_some_iff.1 hj).1)]; exact hj
  have g2 : (ghOf X2 mid hi n1 w N2 T2 Z2).le (ghOf X lo hi n0 w (N1 ++ N2) (T1 ++ T2) (Z1 ++ Z2)) := by
    refine ⟨fun b t cs _ ⟨h1, h2, h3, h4⟩ => ⟨h1, by omega, h3, fun z hz => ?_⟩, fun v K h => ?_, fun b x K ⟨z, hz, e⟩ => ⟨z, List.mem_append_right _ hz, e⟩, fun n a ⟨j, hj, e⟩ => ⟨N1.length + j, ?_, by omega⟩⟩
    · rcases List.mem_append.1 hz with hz | hz
      · have := hz1 z hz; omega
      · exact h4 z hz
    · rcases h with h | h
      · exact .inl (List.mem_append_right _ h)
      · exact (hX2 v K h).imp (List.mem_append_left _) id
    · rw [List.getElem?_append_right (by omega), Nat.add_sub_cancel_left]; exact hj
  refine ⟨k.hi_le, fun p hp => ?_, fun z hz => ?_, ?_⟩
  · rcases List.mem_append.1 hp with hp | hp
    · exact (h.locs p hp).mono g1
    · exact (k.locs p hp).mono g2
  · rcases List.mem_append.1 hz with hz | hz
    · obtain ⟨a, b, c, d⟩ := h.lazies z hz
      exact ⟨a, b, by omega, d.mono g1⟩
    · obtain ⟨a, b, c, d⟩ := k.lazies z hz
      exact ⟨a, by omega, c, d.mono g2⟩
  · rw [List.map_append]
    refine List.nodup_append.2 ⟨h.nodup, k.nodup, fun a ha b hb => ?_⟩
    obtain ⟨z, hz, rfl⟩ := List.mem_map.1 ha
    obtain ⟨z', hz', rfl⟩ := List.mem_map.1 hb
    have := hz1 z hz
    have := hz2 z' hz'
    omega
/-- The numbers of what is still to be laid. -/
def idsZ (Z : List Lzy) : List Nat := Z.flatMap fun z => idsQ z.y
/-- What laying leaves: a part for x, behind which the part t stands for K. -/
structure Laid (E : Env) (t : Fv) (K : Ks) (x : Q) (n0 : Nat) (w : World) (v : Fv) (w' : World) (N : List Nat) (T : List (Fv × Ks)) (Z : List Lzy) : Prop where
  grown : w.grownBy w' (some E.q)
  stage : Stage E (fun v k => v = t ∧ k = K) w.heap.size w'.heap.size n0 w' N T Z
  rep : Rp (fun v k => (v, k) ∈ T) v (.q x :: K)
  count : ∀ a, N.count a + (idsZ Z).count a = (idsQ x).count a
  nl : v.g ≠ .func 155
theorem fn_ne {a b : FuncId} (h : a ≠ b) : Fn.func a ≠ Fn.func b := fun e => h (Fn.func.inj e)
def LayPost (E : Env) (t : Fv) (K : Ks) (x : Q) (inp fv lv mv : Value) (n0 : Nat) (ev bv : Value) (w : World) (e : Ending) (w' : World) : Prop :=
  ∃ v N T Z, e = .returned (Fv.v v) ∧ Laid E t K x n0 w v w' N T Z ∧ Om w' E.q inp fv lv mv ((n0 + N.length : Nat) : Int) ev bv
end Go.Proofs.Ytnemacejaiifnaa
