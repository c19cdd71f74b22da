/- The document's Fold: a fresh row of the set of all orbits. -/
import Derived.Test.YthfmoodjdokaiaaDoorUnion
import Derived.Test.YthfmoodjdokaiaaDoorOrb
set_option linter.unusedVariables false
namespace Go.Proofs.YthfmoodjdokaiaaDoor
open Go Go.RowKit

/-- What is gathered behind the ranges T and the runes from x up to f. -/
def More (T : List (Int × Int)) (x f : Int) (M : List (Int × Int)) : Prop :=
  (∀ c, HasR M c ↔ (∃ d, HasR T d ∧ d < 12288 ∧ c ∈ orbR d) ∨ ∃ d, x ≤ d ∧ d < f ∧ c ∈ orbR d) ∧ (M.length : Int) ≤ 3 * f
theorem more_next {T : List (Int × Int)} {x f : Int} {M : List (Int × Int)} (h : More T x f M) (hx : x ≤ f) (h0 : 0 ≤ f) (h1 : f ≤ 1114111) : More T x (f + 1) (M ++ (orbR f).map fun c => (c, c)) := by
  obtain ⟨h2, h3⟩ := h
  refine ⟨fun c => ?_, ?_⟩
  · have hm : HasR ((orbR f).map fun c => (c, c)) c ↔ c ∈ orbR f := by
      constructor
      · rintro ⟨_, _, r, hr, h4, h5⟩
        obtain ⟨y, hy, rfl⟩ := List.mem_map.1 hr
        have : c = y := by simp only at h4 h5; omega
        rw [this]
        exact hy
      · intro hc
        have hb := orb_rune f h0 h1 c hc
        exact ⟨hb.1, hb.2, (c, c), List.mem_map.2 ⟨c, hc, rfl⟩, Int.le_refl _, Int.le_refl _⟩
    rw [has_append, h2, hm]
    constructor
    · rintro ((h | ⟨d, h4, h5, h6⟩) | h)
      · exact .inl h
      · exact .inr ⟨d, h4, by omega, h6⟩
      · exact .inr ⟨f, hx, by omega, h⟩
    · rintro (h | ⟨d, h4, h5, h6⟩)
      · exact .inl (.inl h)
      · by_cases hd : d = f
        · subst hd
          exact .inr h6
        · exact .inl (.inr ⟨d, h4, by omega, h6⟩)
  · have := orb_len f
    rw [List.length_append, List.length_map]
    omega
theorem more_end {T : List (Int × Int)} {x y f : Int} {M : List (Int × Int)} (h : More T x f M) (hx0 : 0 ≤ x) (hy : y ≤ 1114111) (hxy : x ≤ y) (hf : f ≤ y + 1) (hstop : f = y + 1 ∨ 12288 ≤ f) (hlow : f ≤ 12288 ∨ f = x) (g : Int) (hg : y + 2 ≤ g) (hxf : x ≤ f) : More (T ++ [(x, y)]) g g M := by
  obtain ⟨h2, h3⟩ := h
  refine ⟨fun c => ?_, by omega⟩
  rw [h2]
  constructor
  · rintro (⟨d, h4, h5, h6⟩ | ⟨d, h4, h5, h6⟩)
    · exact .inl ⟨d, (has_append _ _ _).2 (.inl h4), h5, h6⟩
    · exact .inl ⟨d, (has_append _ _ _).2 (.inr ((has_one _ _).2 ⟨by omega, by omega, h4, by show d ≤ y; omega⟩)), by omega, h6⟩
  · rintro (⟨d, h4, h5, h6⟩ | ⟨d, h4, h5, h6⟩)
    · rcases (has_append _ _ _).1 h4 with h7 | h7
      · exact .inl ⟨d, h7, h5, h6⟩
      · obtain ⟨_, _, h8, h9⟩ := (has_one _ _).1 h7
        have h8' : x ≤ d := h8
        have h9' : d ≤ y := h9
        exact .inr ⟨d, h8', by omega, h6⟩
    · omega

theorem own_ne {w : World} {base base' : Nat} {e e' : TypeId} {s s' n n' : Nat} {v v' : Value} {xs xs' : List Value} (h : w.ownsRow base e s v n xs) (h' : w.ownsRow base' e' s' v' n' xs') (hne : e ≠ e') : v.ownBlock = none ∨ v.ownBlock ≠ v'.ownBlock := by
  rcases h.2 with ⟨rfl, _⟩ | ⟨q, cap, cur, rfl, _, hh, _⟩
  · exact .inl rfl
  · refine .inr fun he => ?_
    rcases h'.2 with ⟨rfl, _⟩ | ⟨q', cap', cur', rfl, _, hh', _⟩
    · simp [Value.ownBlock] at he
    · obtain rfl : q = q' := by simpa [Value.ownBlock] using he
      rw [hh] at hh'
      injection hh' with h1
      injection h1 with _ h2
      exact hne h2
/-- A list of runes is as it was behind an append onto a row of ranges. -/
theorem OwnN.append {w w1 : World} {B B' : Nat} {v u : Value} {l : List Int} {O : List (Int × Int)} {tmp : Obj} (h : OwnN w B v l) (ho : OwnR w B' u O) (hg : ((w.alloc tmp).drew).grownBy w1 u.ownBlock) : OwnN w1 B v l := by
  have hb : Below w.heap.size w ((w.alloc tmp).drew) := ((Below.refl _ w).alloc (Nat.le_refl _) _).drew
  have h1 := h.below hb
  have h2 := ho.below hb
  exact ⟨h1.1.kept hg (own_ne h1.1 h2.1 (by decide)), h1.2⟩

def lenOf : Value → Nat
  | .slice _ n _ => n
  | _ => 0
theorem rgs_none (w : World) : Rgs w (.slice none 0 0) [] := ⟨none, 0, rfl, Nat.le_refl _, by unfold maxLen; omega, fun _ => rfl, .inl rfl, by simp⟩
theorem end_bound : ∀ (l : List (Int × Int)) (lo : Int), lo ≤ 1114113 → RightFrom lo l → endOf lo l ≤ 1114113
  | [], _, h, _ => h
  | r :: l, lo, h, ⟨h1, h2, h3, h4⟩ => end_bound l (r.2 + 2) (by omega) h4

def FoldLoop (w1 : World) (K : List (Int × Int)) (m : Nat) (vm : Value) (wr : World) : Prop :=
  ∃ M, OwnR wr w1.heap.size vm M ∧ More (K.take m) (endOf 0 (K.take m)) (endOf 0 (K.take m)) M ∧ Below w1.heap.size w1 wr

set_option maxHeartbeats 4000000 in
set_option maxRecDepth 100000 in
theorem rfold_any (v : Value) (l : List (Int × Int)) (w : World) (h : Rgs w v l) (hn : l.length ≤ 1099511627776) :
    Calls Tryd.prog 16 #[v] w (SetPost (FoldP l) w) := by
  have HN := Lib.hid (rnorm_any v l w h hn)
  go_enter Tryd.func16, Tryd.ntmps16
  go_wp2_with fail
  refine HN.out.mono ?_
  rintro e w1 ⟨v1, K, rfl, hO, hR, hP, hB⟩
  have HO := Lib.hid hO; have HR := Lib.hid hR; have HP := Lib.hid hP; have HB := Lib.hid hB
  have hKl := right_len K 0 (by omega) hR
  have HRG := Lib.hid hO.rgs
  clear hO hR hP hB h
  obtain ⟨A, cA, hv1, hc1, hc2, -⟩ := HRG.out
  subst hv1
  go_wp2_with fail
  go_loopw [4, 5] (fun vm i wr => ∃ m : Nat, m ≤ K.length ∧ i = .int .i64 m ∧ FoldLoop w1 K m vm wr) (fun _ i _ => K.length - (intOf i).toNat)
  case atStart => exact ⟨0, Nat.zero_le _, rfl, [], own_none _ _, ⟨fun c => by simp [HasR, endOf]; intros; omega, by simp [endOf]⟩, Below.refl _ _⟩
  case round =>
    obtain ⟨m, hm, rfl, M, hOM, hMo, hBr⟩ := hrel
    have HOM := Lib.hid hOM; have HMO := Lib.hid hMo; have HBR := Lib.hid hBr
    clear hOM hMo hBr
    by_cases hlt : m < K.length
    · obtain ⟨a', c', e, g2, g3, g4, g5, g6⟩ := HRG.out
      injection e with e1 e2 e3
      subst e1 e3
      rcases g5 with g5 | ⟨b, o, rfl, hc⟩
      · rw [g5] at hlt
        simp at hlt
      obtain ⟨x1, x2, hx, hsp, c1w, c2w⟩ := rgs_at hc m hlt
      have hfit := right_fit K 0 (Int.le_refl _) HR.out (x1, x2) (List.mem_of_getElem? hx)
      unfold Fit at hfit
      simp only at hfit
      have hsR := (right_split K m hlt).1 (right_part K (m + 1) HR.out)
      have hxx : K[m] = (x1, x2) := by
        rw [List.getElem?_eq_getElem hlt] at hx
        exact Option.some.inj hx
      rw [hxx] at hsR
      have hEx : endOf 0 (K.take m) ≤ x1 := hsR.2.1
      have hE2 : endOf 0 (K.take (m + 1)) = x2 + 2 := by rw [end_take K m (by omega), hxx]
      have c1 := (HBR.out.cell (World.block_lt_of_cell? w1 _ c1w)).trans c1w
      have hM0 : More (K.take m) x1 x1 M := by
        obtain ⟨h1, h2⟩ := HMO.out
        refine ⟨fun c => ?_, by omega⟩
        rw [h1]
        constructor
        · rintro (h | ⟨d, h3, h4, h5⟩)
          · exact .inl h
          · omega
        · rintro (h | ⟨d, h3, h4, h5⟩)
          · exact .inl h
          · omega
      have HM0 := Lib.hid hM0; have HSP := Lib.hid hsp; have HE2 := Lib.hid hE2; have C2 := Lib.hid c2w
      clear hx hsp hxx hsR hM0 hE2 hc g6 c1w c2w
      go_wp2_with fail
      go_loopw [4, 6] (fun vm cc wy => ∃ f : Int, cc = .int .i32 f ∧ x1 ≤ f ∧ f ≤ x2 + 1 ∧ (f ≤ 12288 ∨ f = x1) ∧ ∃ M, OwnR wy w1.heap.size vm M ∧ More (K.take m) x1 f M ∧ Below w1.heap.size w1 wy) (fun _ cc _ => (x2 + 1 - intOf cc).toNat)
      case atStart => exact ⟨x1, rfl, Int.le_refl _, by omega, .inr rfl, M, HOM.out, HM0.out, HBR.out⟩
      case round =>
        obtain ⟨f, rfl, hf1, hf2, hf3, M1, hO1, hM1, hB1⟩ := hrel
        have HO1 := Lib.hid hO1; have HM1 := Lib.hid hM1; have HB1 := Lib.hid hB1
        have c2 := (hB1.cell (World.block_lt_of_cell? w1 _ C2.out)).trans C2.out
        clear hO1 hM1 hB1
        by_cases hfx : f ≤ x2
        · by_cases hfl : f < 12288
          · have hszy := HB1.out.size
            go_wp2_with fail
            refine (rorbit_any f _ (by unfold I32; omega)).mono ?_
            rintro e w2 ⟨vo, rfl, ho, hb⟩
            have hol := orb_len f
            obtain ⟨og, hog⟩ : ∃ og, orbR f = og := ⟨_, rfl⟩
            rw [hog] at ho hol
            have HOG := Lib.hid hog
            have HON := Lib.hid (ho.mono (B' := w1.heap.size) HB1.out.size)
            have HB2 := Lib.hid (HB1.out.trans (hb.mono HB1.out.size))
            have HO2 := Lib.hid (HO1.out.below hb)
            have hMl : (M1.length : Int) ≤ 3 * f := HM1.out.2
            have hsz2 := HB2.out.size
            clear ho hb hog
            obtain ⟨ao, co, hvo, -⟩ := HON.out.rns
            subst hvo
            go_wp2_with fail
            go_loopw [4, 8] (fun vm i wz => ∃ k : Nat, k ≤ og.length ∧ i = .int .i64 k ∧ OwnR wz w1.heap.size vm (M1 ++ (og.take k).map fun c => (c, c)) ∧ Below w1.heap.size w1 wz ∧ OwnN wz w1.heap.size (.slice ao og.length co) og) (fun _ i _ => og.length - (intOf i).toNat)
            case atStart => exact ⟨0, Nat.zero_le _, rfl, by simpa using HO2.out, HB2.out, HON.out⟩
            case round =>
              obtain ⟨k, hk, rfl, hO3, hB3, hN3⟩ := hrel
              have HO3 := Lib.hid hO3; have HB3 := Lib.hid hB3; have HN3 := Lib.hid hN3
              have hsz3 := hB3.size
              clear hO3 hB3
              by_cases hkl : k < og.length
              · rcases own_slice1 hN3.1 with ⟨hnl, h0⟩ | ⟨g3, c3, hnl, -, -, -⟩
                · rw [h0] at hkl
                  exact absurd hkl (Nat.not_lt_zero _)
                injection hnl with e1 e2 e3
                subst e1 e3
                clear e2
                obtain ⟨a4, c4, e, -, -, -, f5, f6⟩ := hN3.rns
                injection e with e1 e2 e3
                subst e1 e3
                rcases f5 with f5 | ⟨b3, o3, f8, f7⟩
                · rw [f5] at hkl
                  simp at hkl
                injection f8 with f8
                injection f8 with f8 f9
                subst f8 f9
                obtain ⟨y, hy⟩ : ∃ y, og[k] = y := ⟨_, rfl⟩
                have cy := f7 k hkl
                rw [hy, Nat.zero_add] at cy
                have hyi := f6 og[k] (List.getElem_mem hkl)
                rw [hy] at hyi
                have hsp3 : (og.take (k + 1)).map (fun c => (c, c)) = (og.take k).map (fun c => (c, c)) ++ [(y, y)] := by rw [List.take_succ_eq_append_getElem hkl, hy]; simp
                have hl3 : (M1 ++ (og.take k).map fun c => (c, c)).length + 1 ≤ 17592186044416 := by
                  rw [List.length_append, List.length_map, List.length_take]
                  omega
                have HY := Lib.hid hy; have HYI := Lib.hid hyi; have HSP3 := Lib.hid hsp3; have HL3 := Lib.hid hl3
                clear hy hyi f7 f6 hsp3 hl3 hN3 e2
                go_upto_region 13 with (fail)
                go_region_held3 (fun w' => w'.cell? ⟨g3, k, none⟩ = some (.int .i32 y)) (first | go_keep | exact cy | assumption) (first | (refine step_append_rgs rfl (.tmp 44) (.tmp 54) rfl w1.heap.size _ (M1 ++ (og.take k).map fun c => (c, c)) rfl (HO3.out.below ((Below.refl _ wr).alloc (Nat.le_refl _) _).drew) wr.heap.size y y rfl ((rgs_new wr y y HYI.out HYI.out).below (Below.refl _ _).drew) HL3.out (by simp; omega) ?_; intro v3 w3 ho3 hg3; have hB4 := Lib.hid (((HB3.out.alloc hsz3 _).drew).grown hg3 (by simp; omega) (fun j hj => (HO3.out.1.lt j hj).1)); have hN4 := Lib.hid (HN3.out.append HO3.out hg3); have k1 : w3.cell? ⟨g3, k, none⟩ = some (.int .i32 y) := (by have := hN4.out.1.cells (g := g3) rfl _ _ (litsN_get og k hkl); rw [addr_of, Nat.zero_add, HY.out] at this; exact this)))
                have HO4 := Lib.hid ho3
                clear ho3 hg3 k1 cy
                go_wp2
                go_roundw
                case rel => exact ⟨k + 1, by omega, by go_num, by rw [HSP3.out, ← List.append_assoc]; exact HO4.out, hB4.out, hN4.out⟩
                case measure => simp [intOf]; omega
              · have e : og.take k = og := List.take_of_length_le (by omega)
                have ho := HO3.out
                rw [e] at ho
                have HO4 := Lib.hid ho
                have hmn := more_next HM1.out hf1 (by omega) (by omega)
                rw [HOG.out] at hmn
                have HMN := Lib.hid hmn
                clear ho e hmn hN3
                go_wp2
                go_roundw
                case rel => exact ⟨f + 1, by go_num, by omega, by omega, .inl (by omega), _, HO4.out, HMN.out, HB3.out⟩
                case measure => simp [intOf]; omega
          · have hend := more_end HM1.out (by omega) hfit.2.2 hfit.2.1 hf2 (.inr (by omega)) hf3 (endOf 0 (K.take (m + 1))) (by rw [HE2.out]; omega) hf1
            rw [← HSP.out] at hend
            have HEND := Lib.hid hend
            clear hend
            go_wp2
            go_roundw
            case rel => exact ⟨m + 1, by omega, by go_num, _, HO1.out, HEND.out, HB1.out⟩
            case measure => simp [intOf]; omega
        · have hend := more_end HM1.out (by omega) hfit.2.2 hfit.2.1 hf2 (.inl (by omega)) hf3 (endOf 0 (K.take (m + 1))) (by rw [HE2.out]; omega) hf1
          rw [← HSP.out] at hend
          have HEND := Lib.hid hend
          clear hend
          go_wp2
          go_roundw
          case rel => exact ⟨m + 1, by omega, by go_num, _, HO1.out, HEND.out, HB1.out⟩
          case measure => simp [intOf]; omega
    · have e : K.take m = K := List.take_of_length_le (by omega)
      have hmo := HMO.out
      rw [e] at hmo
      have hE : endOf 0 K ≤ 1114113 := end_bound K 0 (by omega) HR.out
      obtain ⟨q1, q2⟩ := hmo
      have hq : ∀ c, HasR M c ↔ ∃ d, HasR K d ∧ d < 12288 ∧ c ∈ orbR d := fun c => by
        rw [q1]
        constructor
        · rintro (h | ⟨d, h3, h4, _⟩)
          · exact h
          · omega
        · exact .inl
      have HQ := Lib.hid hq
      have hMl : M.length ≤ 3342339 := by omega
      have HRM := Lib.hid HOM.out.rgs
      clear q1 q2 e hq
      obtain ⟨aM, cM, hvm, -⟩ := HRM.out
      subst hvm
      go_wp2_with fail
      go_loopw [4, 9] (fun vm vo wz => ∃ (a : Option Addr) (c : Nat) (R Out : List (Int × Int)), vm = .slice a R.length c ∧ Rgs wz (.slice a R.length c) R ∧ Rgs wz vo Out ∧ (∀ x, (HasR Out x ∨ HasR R x) ↔ HasR M x) ∧ RightR Out ∧ R.length ≤ 3342339 ∧ Below w1.heap.size w1 wz) (fun vm _ _ => lenOf vm)
      case atStart => exact ⟨aM, cM, M, [], rfl, HRM.out, rgs_none _, fun x => by simp [has_nil], trivial, hMl, HBR.out⟩
      case round =>
        obtain ⟨a, c, R, Out, rfl, hR1, hR2, hHas, hRO, hRl, hB2⟩ := hrel
        have HR1 := Lib.hid hR1; have HR2 := Lib.hid hR2; have HH := Lib.hid hHas; have HRO := Lib.hid hRO; have HB2 := Lib.hid hB2
        have hOl := right_len Out 0 (by omega) hRO
        have hsz := hB2.size
        clear hR2 hHas hRO hB2
        by_cases hlong : 500 < R.length
        · obtain ⟨a', c', e, g2, g3, g4, g5, -⟩ := hR1
          injection e with e1 e2 e3
          subst e1 e3
          rcases g5 with g5 | ⟨b, o, rfl, -⟩
          · rw [g5] at hlong
            simp at hlong
          have hne : ¬ c = 500 := by omega
          have hz : (500 : Int) < (R.length : Int) := by omega
          have hcz : (500 : Int) ≤ (c : Int) := by omega
          clear e2 g4
          go_wp2_with fail
          refine (runion_any _ _ Out (R.take 500) _ HR2.out (rgs_take HR1.out 500 (by omega)) (by rw [List.length_take]; omega)).mono ?_
          rintro e w2 ⟨v2, k2, rfl, hO2, hRR2, hP2, hb⟩
          have HO2 := Lib.hid hO2.rgs; have HRR2 := Lib.hid hRR2; have HP2 := Lib.hid hP2
          have HB3 := Lib.hid (HB2.out.trans (hb.mono hsz))
          have HD := Lib.hid (rgs_drop (HR1.out.below hb) 500 (by omega))
          clear hO2 hRR2 hP2 hb
          go_wp2_with fail
          go_roundw
          case rel =>
            have hd := HD.out
            rw [if_neg hne] at hd
            have hl : (R.drop 500).length = R.length - 500 := List.length_drop
            refine ⟨some ⟨b, o + 500 * 2, none⟩, c - 500, R.drop 500, k2, ?_, ?_, HO2.out, fun x => ?_, HRR2.out, by omega, HB3.out⟩
            · rw [hl]
              try simp [hne]
            · rw [hl]
              exact hd
            · have h1 := HH.out x
              have h2 := has_append (R.take 500) (R.drop 500) x
              rw [List.take_append_drop] at h2
              rw [h2] at h1
              rw [HP2.out, ← h1, or_assoc]
          case measure => simp [lenOf]; omega
        · have hz : ¬ (500 : Int) < (R.length : Int) := by omega
          clear hR1
          go_wp2_with fail
          refine (runion_any _ _ Out R _ HR2.out HR1.out (by omega)).mono ?_
          rintro e w2 ⟨v2, k2, rfl, hO2, hRR2, hP2, hb⟩
          have HO2 := Lib.hid hO2.rgs; have HP2 := Lib.hid hP2
          have n2 := right_len k2 0 (by omega) hRR2
          have HB3 := Lib.hid (HB2.out.trans (hb.mono hsz))
          have hsz3 := HB3.out.size
          have HK := Lib.hid (HRG.out.below HB3.out)
          clear hO2 hRR2 hP2 hb
          go_wp2_with fail
          refine (runion_any _ v2 K k2 w2 HK.out HO2.out (by omega)).mono ?_
          rintro e w3 ⟨v3, k3, rfl, hO3, hRR3, hP3, hb⟩
          have HO3 := Lib.hid hO3; have HRR3 := Lib.hid hRR3; have HP3 := Lib.hid hP3
          have HB4 := Lib.hid (HB3.out.trans (hb.mono hsz3))
          clear hO3 hRR3 hP3 hb
          go_wp2_with fail
          go_ret
          refine ⟨v3, k3, rfl, HO3.out.mono (Nat.le_trans HB.out.size hsz3), HRR3.out, fun x => ?_, HB.out.trans (HB4.out.mono HB.out.size)⟩
          rw [HP3.out, HP2.out, HH.out, HQ.out, fold_split, HP.out]
          constructor
          · rintro (h | ⟨d, h1, h2, h3⟩)
            · exact .inl h
            · exact .inr ⟨d, (HP.out d).1 h1, h2, h3⟩
          · rintro (h | ⟨d, h1, h2, h3⟩)
            · exact .inl h
            · exact .inr ⟨d, (HP.out d).2 h1, h2, h3⟩
end Go.Proofs.YthfmoodjdokaiaaDoor
