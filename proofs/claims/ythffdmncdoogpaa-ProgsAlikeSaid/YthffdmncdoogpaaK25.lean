/- Texts merged by program: PgPdq, PgSort, PgPCls, PgLawE, PgAlike, PgLawF. No condition. -/
import Derived.Test.YthffdmncdoogpaaK23
import Derived.Test.YthffdmncdoogpaaK24
import Derived.Test.YthffdmncdoogpaaK15
import Derived.Test.YthffdmncdoogpaaK11
import Derived.Test.YthffdmncdoogpaaK10
import Derived.Test.YthffdmncdoogpaaK3
import Derived.Deep.Cut
import Derived.Carry
set_option linter.unusedVariables false
set_option linter.unusedSimpArgs false
/- slices.Sort's pdqsort, of runes: the program's text does Sort.pdq, by induction on what it still spans. -/
namespace Go.Proofs.Ythffdmncdoogpaa
open Go Go.RowKit Go.Sort

theorem eighth_is {x y p q : Nat} (h1 : q ≤ p) (h2 : y ≤ x) : Value.bool (decide (((x : Int) - (y : Int)) / 8 ≤ (p : Int) - (q : Int))) = Value.bool (decide (p - q ≥ (x - y) / 8)) :=
  congrArg Value.bool (decide_eq_decide.2 ⟨fun h => by omega, fun h => by omega⟩)
theorem hint_two {h : Hint} (e : hintCode h = 2) : h = .decreasing := by cases h <;> simp [hintCode] at e ⊢

set_option maxHeartbeats 6400000 in
set_option maxRecDepth 1000000 in
theorem pdqN_any : ∀ (N blk off cap a b limit : Nat) (d : Array Int) (w : World), b - a < N → Holds encN w blk off d → blk < w.heap.size → a ≤ b → b ≤ d.size → d.size < 4611686018427387904 → limit < 4611686018427387904 → Below ltInt a b d →
    Calls Try.prog 78 #[.slice (some ⟨blk, off, none⟩) d.size cap, .int .i64 a, .int .i64 b, .int .i64 limit] w fun e w' => e = .returned (.tuple #[]) ∧ At encN w blk off (pdq ltInt d a b limit true true) w' := by
  intro N
  induction N with
  | zero => intro _ _ _ _ _ _ _ _ h; exact absurd h (Nat.not_lt_zero _)
  | succ N ih =>
    intro blk off cap a b limit d w hN hH hblk hab hb hsz hlimit hBel
    obtain ⟨F, hF⟩ : ∃ F, pdq ltInt d a b limit true true = F := ⟨_, rfl⟩
    rw [hF]
    obtain ⟨Z, hZ⟩ : ∃ Z, d.size = Z := ⟨_, rfl⟩
    have HH := Lib.hid hH
    have HB := Lib.hid hBel
    have HF := Lib.hid hF
    rw [hZ] at hb hsz ⊢
    clear hH hF hBel
    go_enter Try.func78, Try.ntmps78
    go_wp2
    go_loopg [1, 2, 3, 8, 9] (b - a) (fun k s1 s2 s3 s8 s9 wr => ∃ (x y lim : Nat) (wb wp : Bool) (dk : Array Int), s1 = .int .i64 x ∧ s2 = .int .i64 y ∧ s3 = .int .i64 lim ∧ s8 = .bool wb ∧ s9 = .bool wp ∧
      x ≤ y ∧ y ≤ Z ∧ y - x ≤ k ∧ k ≤ b - a ∧ lim ≤ limit ∧ dk.size = Z ∧ Below ltInt x y dk ∧ At encN w blk off dk wr ∧ pdq ltInt dk x y lim wb wp = F)
    case atStart => exact ⟨a, b, limit, true, true, d, rfl, rfl, rfl, rfl, rfl, hab, hb, Nat.le_refl _, Nat.le_refl _, Nat.le_refl _, hZ, HB.out, At.refl HH.out, HF.out⟩
    case round =>
      obtain ⟨x, y, lim, wb, wp, dk, rfl, rfl, rfl, rfl, rfl, hxy, hy, hk, hkN, hlim, hs, hBk, A, hE⟩ := hrel
      obtain ⟨hHk, hbk⟩ := A.holds HH.out (hs.trans hZ.symm) hblk
      have HE := Lib.hid hE
      clear hE
      by_cases h12 : y - x ≤ 12
      · have h12' : (y : Int) - (x : Int) ≤ 12 := by omega
        have hc := insN_any blk off cap x y dk wr hHk hxy (by omega) (by omega)
        rw [hs] at hc
        go_wp2_with (go_at_call 95; refine hc.mono ?_; rintro e w1 ⟨rfl, hw1⟩)
        (try simp only [Exit.inBlock, Exit.then]); refine bodyPost_ret (results_none rfl _ _ _) rfl ?_
        exact ⟨rfl, by rw [← HE.out, pdq_small h12]; exact A.step hblk (insertionSort_holds swo_ltInt dk x y hxy (by omega)).1.1 hw1⟩
      have h12' : ¬ (y : Int) - (x : Int) ≤ 12 := by omega
      by_cases hl0 : lim = 0
      · subst hl0
        have hc := heapN_any blk off cap x y dk wr hHk hxy (by omega) (by omega)
        rw [hs] at hc
        go_wp2_with (go_at_call 96; refine hc.mono ?_; rintro e w1 ⟨rfl, hw1⟩)
        (try simp only [Exit.inBlock, Exit.then]); refine bodyPost_ret (results_none rfl _ _ _) rfl ?_
        exact ⟨rfl, by rw [← HE.out, pdq_heap h12 rfl]; exact A.step hblk (heapSort_holds swo_ltInt dk x y hxy (by omega)).1.1 hw1⟩
      have hl0' : ¬ (lim : Int) = 0 := by omega
      obtain ⟨D1, LM, C, HN, D2, PV, HT, PI, PB, Q⟩ := round_has h12 hl0 (show y ≤ dk.size by omega) hBk HE.out
      have z1 := Q.s1.trans hs
      have z2 := Q.s2.trans hs
      have z3 := Q.s3.trans hs
      have lLM := Q.lm
      obtain ⟨c1, c2⟩ := Q.c1
      obtain ⟨p1, p2⟩ := Q.pv
      have HQ := Lib.hid Q
      clear Q
      go_upto_if 35 with fail
      go_cut [3] from 19 (fun s3 wc => s3 = .int .i64 LM ∧ At encN w blk off D1 wc)
      case first =>
        cases wb
        · obtain ⟨e1, e2⟩ := HQ.out.brk rfl
          have hc := breakN_any blk off cap x y dk wr hHk hbk hxy (by omega) (by omega)
          rw [hs, ← e1] at hc
          go_wp2_with (go_at_call 97; refine hc.mono ?_; rintro e w1 ⟨rfl, hw1⟩)
          go_meet
          case rel => exact ⟨by rw [e2]; exact congrArg (Value.int .i64) (by omega), A.stepG hblk (z1.trans hs.symm) hw1⟩
        · obtain ⟨e1, e2⟩ := HQ.out.kept rfl
          go_wp2_with fail
          go_meet
          case rel => exact ⟨by rw [e2], by rw [e1]; exact A⟩
      case rest =>
        obtain ⟨rfl, A1⟩ := hcut
        obtain ⟨hH1, hb1⟩ := A1.holds HH.out (z1.trans hZ.symm) hblk
        have hc := chooseN_any blk off cap x y D1 wc hH1 hb1 (by omega) (by omega) (by omega)
        rw [z1, HQ.out.piv] at hc
        go_upto_if 50 with (go_at_call 98; refine hc.mono ?_; rintro e w2 ⟨rfl, hw2⟩)
        have A2 := A1.same HH.out (z1.trans hZ.symm) hblk hw2
        obtain ⟨hH2, hb2⟩ := A2.holds HH.out (z1.trans hZ.symm) hblk
        clear A1 hH1 hb1 hc hw2 hHk hbk
        go_cut [11, 12] from 19 (fun s11 s12 wc => s11 = .int .i64 PV ∧ s12 = .int .i64 (hintCode HT) ∧ At encN w blk off D2 wc)
        case first =>
          by_cases hh : HN = .decreasing
          · obtain ⟨e1, e2, e3⟩ := HQ.out.dec hh
            have hcode : hintCode HN = 2 := by rw [hh]; rfl
            have hc := revN_any blk off cap x y D1 w2 hH2 hxy (by omega) (by omega)
            rw [z1, ← e1] at hc
            go_wp2_with (go_at_call 99; refine hc.mono ?_; rintro e w3 ⟨rfl, hw3⟩)
            go_meet
            case rel => exact ⟨by rw [e2]; exact congrArg (Value.int .i64) (by omega), by rw [e3]; rfl, A2.step hblk (z2.trans z1.symm) hw3⟩
          · obtain ⟨e1, e2, e3⟩ := HQ.out.not hh
            have hcode : ¬ hintCode HN = 2 := fun h => hh (hint_two h)
            go_wp2_with fail
            go_meet
            case rel => exact ⟨by rw [e2], by rw [e3], by rw [e1]; exact A2⟩
        case rest =>
          obtain ⟨rfl, rfl, A3⟩ := hcut
          obtain ⟨hH3, hb3⟩ := A3.holds HH.out (z2.trans hZ.symm) hblk
          clear A2 hH2 hb2
          go_upto_region 15 with fail
          go_cut [12, 68] from 19 (fun s12 s68 wx => s12 = .int .i64 (hintCode HT) ∧ s68 = .bool (wb && wp && decide (HT = .increasing)) ∧ wx = wc)
          case first =>
            cases wb <;> cases wp <;> cases hh3 : HT <;>
              (have hcode := congrArg hintCode hh3
               simp only [hintCode] at hcode
               go_wp2_with fail
               go_meet
               exact ⟨by simp [hh3, hintCode], by simp [hh3, hintCode], rfl⟩)
          case rest =>
            obtain ⟨rfl, rfl, rfl⟩ := hcut
            go_upto_if 68 with fail
            go_cut [] from 19 (fun wx => PB = false ∧ At encN w blk off PI wx)
            case first =>
              cases h68 : (wb && wp && decide (HT = .increasing))
              · obtain ⟨e1, e2⟩ := HQ.out.no h68
                go_wp2_with fail
                go_meet
                case rel => exact ⟨e2, by rw [e1]; exact A3⟩
              · have epi := HQ.out.yes h68
                have hc := pinsN_any blk off cap x y D2 wc hH3 (by omega) (by omega) (by omega)
                rw [z2, epi] at hc
                cases hp : PB
                · rw [hp] at hc
                  go_wp2_with (go_at_call 100; refine hc.mono ?_; rintro e w4 ⟨rfl, hw4⟩)
                  go_meet
                  case rel => exact ⟨hp, A3.step hblk (z3.trans z2.symm) hw4⟩
                · rw [hp] at hc
                  have hv := HQ.out.done hp
                  go_wp2_with (go_at_call 100; refine hc.mono ?_; rintro e w4 ⟨rfl, hw4⟩)
                  (try simp only [Exit.inBlock, Exit.then]); refine bodyPost_ret (results_none rfl _ _ _) rfl ?_
                  exact ⟨rfl, by rw [hv]; exact A3.step hblk (z3.trans z2.symm) hw4⟩
            case rest =>
              obtain ⟨hPB, A5⟩ := hcut
              obtain ⟨hH5, hb5⟩ := A5.holds HH.out (z3.trans hZ.symm) hblk
              clear A3 hH3 hb3
              obtain ⟨G, hG⟩ : ∃ G : Nat → Int, ∀ t, G t = PI[t]! := ⟨fun t => PI[t]!, fun _ => rfl⟩
              have cw : ∀ t, t < Z → wc.cell? ⟨blk, off + t, none⟩ = some (.int .i32 (G t)) := fun t ht => by rw [hG]; exact (hH5 t (by omega)).1
              have fw : ∀ t, t < Z → wc.frozen? ⟨blk, off + t, none⟩ = false := fun t ht => (hH5 t (by omega)).2
              obtain ⟨SM, hSM⟩ : ∃ SM, (decide (x > 0) && !ltInt (G (x - 1)) (G PV)) = SM := ⟨_, rfl⟩
              have hSM2 : (decide (x > 0) && !ltInt PI[x - 1]! PI[PV]!) = SM := by rw [← hG, ← hG]; exact hSM
              have HS2 := Lib.hid hSM2
              clear hSM2 hG
              go_upto_region 17 with fail
              go_cut [87] from 19 (fun s87 wx => s87 = .bool SM ∧ At encN w blk off PI wx)
              case first =>
                rcases Nat.eq_zero_or_pos x with hx0 | hx0
                · have hx' : decide ((x : Int) > 0) = false := decide_eq_false (by omega)
                  go_big_quiet (first | (go_at_call 101; refine Calls.quiet_of_same (lessN_any _ _ _)))
                  go_wp2_with fail
                  go_meet
                  case rel => exact ⟨by rw [← hSM]; simp [hx0], A5.ahead nq⟩
                · have hx' : (x : Int) > 0 := by omega
                  go_big_quiet (first | (go_at_call 101; refine Calls.quiet_of_same (lessN_any _ _ _)))
                  go_wp2_with fail
                  go_meet
                  case rel => exact ⟨by rw [← hSM]; simp [hx0], A5.ahead nq⟩
              case rest =>
                obtain ⟨rfl, A6⟩ := hcut
                obtain ⟨hH6, hb6⟩ := A6.holds HH.out (z3.trans hZ.symm) hblk
                clear cw fw hSM A5 hH5 hb5
                cases SM
                · obtain ⟨mid, ap, d4, hx⟩ : ∃ mid ap d4, Sort.partition ltInt PI x y PV = (mid, ap, d4) := ⟨(Sort.partition ltInt PI x y PV).1, (Sort.partition ltInt PI x y PV).2.1, (Sort.partition ltInt PI x y PV).2.2, rfl⟩
                  obtain ⟨r1, r2, r3, rL, rR⟩ := HQ.out.part hPB HS2.out mid ap d4 hx
                  have hc := partN_any blk off cap x y PV PI wc hH6 p1 p2 (by omega) (by omega)
                  rw [z3, hx] at hc
                  have z4 := r3.trans hs
                  have HL := Lib.hid rL; have HR := Lib.hid rR
                  clear hx r3 rL rR
                  go_upto_if 113 with (go_at_call 103; refine hc.mono ?_; rintro e w7 ⟨rfl, hw7⟩)
                  have A7 := A6.step hblk (z4.trans z3.symm) hw7
                  obtain ⟨hH7, hb7⟩ := A7.holds HH.out (z4.trans hZ.symm) hblk
                  clear A6 hH6 hb6 hc
                  by_cases h4 : mid - x < y - mid
                  · have h4' : (mid : Int) - (x : Int) < (y : Int) - (mid : Int) := by omega
                    obtain ⟨b4, k4⟩ := HL.out h4
                    obtain ⟨d5, h5⟩ : ∃ d5, pdq ltInt d4 x mid LM true true = d5 := ⟨_, rfl⟩
                    obtain ⟨t1, t2, t3⟩ := k4 d5 h5
                    have hc := ih blk off cap x mid LM d4 w7 (by omega) hH7 hb7 r1 (by omega) (by omega) (by omega) b4
                    rw [z4, h5] at hc
                    have T2 := Lib.hid t2; have T3 := Lib.hid t3
                    clear k4 h5 t2 t3 b4
                    go_wp2_with (go_at_call 78; refine hc.mono ?_; rintro e w8 ⟨rfl, hw8⟩)
                    go_roundg (y - (mid + 1))
                    case measure => omega
                    case rel => exact ⟨mid + 1, y, LM, decide (mid - x ≥ (y - x) / 8), ap, d5, by simp, rfl, rfl, eighth_is (by omega) (by omega), rfl, by omega, hy, Nat.le_refl _, by omega, by omega, t1.trans hs, T2.out, A7.stepG hblk (t1.trans (hs.trans z4.symm)) hw8, T3.out⟩
                  · have h4' : ¬ (mid : Int) - (x : Int) < (y : Int) - (mid : Int) := by omega
                    obtain ⟨b4, k4⟩ := HR.out h4
                    obtain ⟨d5, h5⟩ : ∃ d5, pdq ltInt d4 (mid + 1) y LM true true = d5 := ⟨_, rfl⟩
                    obtain ⟨t1, t2, t3⟩ := k4 d5 h5
                    have hc := ih blk off cap (mid + 1) y LM d4 w7 (by omega) hH7 hb7 (by omega) (by omega) (by omega) (by omega) b4
                    rw [z4, h5] at hc
                    have T2 := Lib.hid t2; have T3 := Lib.hid t3
                    clear k4 h5 t2 t3 b4
                    go_wp2_with (go_at_call 78; refine hc.mono ?_; rintro e w8 ⟨rfl, hw8⟩)
                    go_roundg (mid - x)
                    case measure => omega
                    case rel => exact ⟨x, mid, LM, decide (y - mid ≥ (y - x) / 8), ap, d5, rfl, rfl, rfl, eighth_is (by omega) (by omega), rfl, r1, by omega, Nat.le_refl _, by omega, by omega, t1.trans hs, T2.out, A7.stepG hblk (t1.trans (hs.trans z4.symm)) hw8, T3.out⟩
                · obtain ⟨mid, d4, hx⟩ : ∃ mid d4, Sort.partitionEqual ltInt PI x y PV = (mid, d4) := ⟨(Sort.partitionEqual ltInt PI x y PV).1, (Sort.partitionEqual ltInt PI x y PV).2, rfl⟩
                  obtain ⟨r1, r2, r3, r4, r5⟩ := HQ.out.same hPB HS2.out mid d4 hx
                  have hc := parteqN_any blk off cap x y PV PI wc hH6 p1 p2 (by omega) (by omega)
                  rw [z3, hx] at hc
                  have z4 := r3.trans hs
                  have R4 := Lib.hid r4; have R5 := Lib.hid r5
                  clear hx r3 r4 r5
                  go_wp2_with (go_at_call 102; refine hc.mono ?_; rintro e w7 ⟨rfl, hw7⟩)
                  go_roundg (y - mid)
                  case measure => omega
                  case rel => exact ⟨mid, y, LM, wb, wp, d4, rfl, rfl, rfl, rfl, rfl, r2, hy, Nat.le_refl _, by omega, by omega, z4, R4.out, A6.step hblk (z4.trans z3.symm) hw7, R5.out⟩
end Go.Proofs.Ythffdmncdoogpaa
/- slices.Sort and slices.Sorted of runes: a list of the call's own is sorted in its place; the runes of a map, rising. -/
namespace Go.Proofs.Ythffdmncdoogpaa
open Go Go.RowKit Go.Sort

theorem ownN_holds {w : World} {base g c : Nat} {ss : List Int} (h : OwnN w base (.slice (some ⟨g, 0, none⟩) ss.length c) ss) : Holds encN w g 0 ss.toArray := by
  intro j hj
  have hj' : j < ss.length := by simpa using hj
  refine ⟨?_, by rw [Nat.zero_add]; exact h.1.frozenAt j⟩
  rw [Nat.zero_add, h.1.cellAt j (by omega), litsN_get _ _ hj']
  simp [hj']
theorem at_block {w wr : World} {g : Nat} {d : Array Int} {cur : Array Value} {e : TypeId} {fr : Nat × Nat} (h : At encN w g 0 d wr) (hb : w.heap[g]? = some (.cells cur e fr)) : wr.heap[g]? = some (.cells (putCells encN 0 d cur) e fr) := by
  obtain ⟨n, os, rfl⟩ := h
  have hg : g < w.heap.size := (Array.getElem?_eq_some_iff.1 hb).1
  rw [heap_grow_old _ _ (by simpa using hg)]
  simp [putRow, mapBlock, Sort.ahead, Array.getElem?_modify, hb, onCells]
theorem at_below {w wr : World} {g base : Nat} {d : Array Int} (h : At encN w g 0 d wr) (hg : base ≤ g) (hs : g < w.heap.size) : Below base w wr := by
  obtain ⟨n, os, rfl⟩ := h
  refine ⟨rfl, rfl, rfl, by simp, fun k hk => ?_⟩
  rw [heap_grow_old _ _ (by simp; omega)]
  simp [putRow, mapBlock, Sort.ahead, Array.getElem?_modify, show g ≠ k by omega]
theorem putCells_take (cur : Array Value) (ts : List Int) (h : ts.length ≤ cur.size) : (putCells encN 0 ts.toArray cur).toList.take ts.length = litsN ts := by
  refine List.ext_getElem? fun j => ?_
  rcases Nat.lt_or_ge j ts.length with hj | hj
  · rw [List.getElem?_take_of_lt hj, Array.getElem?_toList, litsN_get _ _ hj]
    simp [putCells, hj, show j < cur.size by omega]
  · rw [List.getElem?_take_eq_none hj, List.getElem?_eq_none (by rw [litsN_length]; exact hj)]
theorem at_own {w wr : World} {base g c : Nat} {ss ts : List Int} (h : OwnN w base (.slice (some ⟨g, 0, none⟩) ss.length c) ss) (hl : ts.length = ss.length) (ht : ∀ x ∈ ts, I32 x) (hA : At encN w g 0 ts.toArray wr) :
    OwnN wr base (.slice (some ⟨g, 0, none⟩) ss.length c) ts := by
  refine ⟨⟨by simp [litsN_length, hl], .inr ?_⟩, ht⟩
  rcases h.1.2 with ⟨h0, -⟩ | ⟨g', c', cur, hv, hb, hc, h1, h2, h3, h4⟩
  · cases h0
  injection hv with e1 e2 e3
  injection e1 with e1
  injection e1 with e1 _
  subst e1 e3
  exact ⟨g, c, _, by rw [hl], hb, at_block hA hc, by omega, h2, by simpa [putCells] using h3, by rw [Nat.mul_one]; exact putCells_take cur ts (by omega)⟩

/-- The list in rising order. -/
def sortedN (ss : List Int) : List Int := ss.mergeSort fun x y => decide (x ≤ y)
theorem sortedN_perm (ss : List Int) : (sortedN ss).Perm ss := List.mergeSort_perm _ _
theorem sortedN_le (ss : List Int) : (sortedN ss).Pairwise fun x y => x ≤ y := by
  have h := List.pairwise_mergeSort (le := fun x y : Int => decide (x ≤ y)) (by intro a b c; simp; omega) (by intro a b; simp; omega) ss
  exact h.imp fun h => by simpa using h
theorem sortedN_rise {ss : List Int} (h : ss.Nodup) : RiseN (sortedN ss) := by
  have h1 := sortedN_le ss
  have h2 : (sortedN ss).Nodup := (sortedN_perm ss).nodup_iff.2 h
  exact (h1.and h2).imp fun h => by
    obtain ⟨h1, h2⟩ := h
    omega

theorem rise_short : ∀ (l : List Int) (lo hi : Int), RiseN l → lo ≤ hi → (∀ x ∈ l, lo ≤ x ∧ x < hi) → (l.length : Int) ≤ hi - lo
  | [], lo, hi, _, h, _ => by simp; omega
  | a :: l, lo, hi, hr, h, hm => by
    have h1 := hm a (List.mem_cons_self ..)
    have hc := List.pairwise_cons.1 hr
    have := rise_short l (a + 1) hi hc.2 (by omega) fun x hx => ⟨by have := hc.1 x hx; omega, (hm x (List.mem_cons_of_mem _ hx)).2⟩
    simp only [List.length_cons]
    omega
theorem runes_short {ss : List Int} (hn : ss.Nodup) (h : ∀ x ∈ ss, I32 x) : ss.length ≤ 4294967296 := by
  have h1 := rise_short (sortedN ss) (-2147483648) 2147483648 (sortedN_rise hn) (by omega) fun x hx => by
    have := h x ((sortedN_perm ss).mem_iff.1 hx)
    unfold I32 at this
    omega
  rw [(sortedN_perm ss).length_eq] at h1
  omega

set_option maxRecDepth 100000 in
theorem sortN_any (base : Nat) (v : Value) (ss : List Int) (w : World) (h : OwnN w base v ss) (hne : ss ≠ []) (hnd : ss.Nodup) :
    Calls Try.prog 48 #[v] w fun e w' => e = .returned (.tuple #[]) ∧ OwnN w' base v (sortedN ss) ∧ Below base w w' := by
  have hpos : 0 < ss.length := List.length_pos_iff.2 hne
  rcases own_slice1 h.1 with ⟨-, h0⟩ | ⟨g, c, rfl, hlc, hcm, hbg⟩
  · omega
  have hg : g < w.heap.size := by
    have := h.1.lt g rfl
    omega
  have hsz : ss.length < 4611686018427387904 := by have := runes_short hnd h.2; omega
  have hl62 : bitsLen ss.length ≤ 62 := (bitsLen_le_iff ss.length 62).2 (by omega)
  have hlen : ∀ W, Calls Try.prog 79 #[.int .u64 (ss.length : Int)] W fun e w' => e = .returned (.int .i64 (bitsLen ss.length : Nat)) ∧ w' = W := fun W => by
    have h := Try.bits_Len (ss.length : Int) W (by omega) (by omega)
    rwa [Int.toNat_natCast, bitLen_eq _ (by omega)] at h
  have hc := pdqN_any (ss.length + 1) g 0 c 0 ss.length (bitsLen ss.length) ss.toArray w (by omega) (ownN_holds h) hg (Nat.zero_le _) (by simp) (by simpa using hsz) (by omega) (.inl rfl)
  have hs : sort ltInt ss.toArray = (sortedN ss).toArray := by
    apply Array.toList_inj.1
    rw [sortInt]
    rfl
  have hsv : pdq ltInt ss.toArray 0 ss.length (bitsLen ss.length) true true = (sortedN ss).toArray := by
    rw [← hs, sort, List.size_toArray]
  rw [hsv, List.size_toArray] at hc
  have HF : Hid (∀ W, At encN w g 0 (sortedN ss).toArray W → OwnN W base (.slice (some ⟨g, 0, none⟩) ss.length c) (sortedN ss) ∧ Below base w W) := Lib.hid fun W hW =>
    ⟨at_own h (sortedN_perm ss).length_eq (fun x hx => h.2 x ((sortedN_perm ss).mem_iff.1 hx)) hW, at_below hW hbg hg⟩
  obtain ⟨n, hn⟩ : ∃ n, ss.length = n := ⟨_, rfl⟩
  obtain ⟨L, hL⟩ : ∃ L, bitsLen ss.length = L := ⟨_, rfl⟩
  rw [hL] at hlen hc hl62
  rw [hn] at hlen hc HF hpos hlc hsz ⊢
  clear h hs hsv hL
  have HC := Lib.hid hc
  clear hc
  go_enter Try.func48, Try.ntmps48
  go_wp2_with (first
    | (go_at_call 79; refine (hlen _).mono ?_; rintro e w' ⟨rfl, rfl⟩)
    | (go_at_call 78; refine HC.out.mono ?_; rintro e w' ⟨rfl, hA⟩))
  go_end0
  exact ⟨rfl, HF.out _ hA⟩

/-- The runes of S, each once, in rising order. -/
def RiseOf (S : Int → Prop) (w : World) (e : Ending) (w' : World) : Prop := ∃ v l, e = .returned v ∧ OwnN w' w.heap.size v l ∧ RiseN l ∧ (∀ x, x ∈ l ↔ I32 x ∧ S x) ∧ Below w.heap.size w w'
set_option maxRecDepth 100000 in
theorem sortedS_any (Bm b nn : Nat) (S : Int → Prop) (w : World) (hBm : Bm < w.heap.size) (hm : w.cell? ⟨Bm, 0, none⟩ = some (.map (some b))) (hS : RSet w b nn S) (hN : nn * 8 ≤ 140737488355328) (hz : S 0) :
    Calls Try.prog 28 #[.func (.func 49) #[] #[.pointer (some ⟨Bm, 0, none⟩)]] w (RiseOf S w) := by
  have HC := Lib.hid (collectN_any Bm b nn S w hBm hm hS hN)
  have HZ := Lib.hid hz
  clear hm hS hz
  go_enter Try.func28, Try.ntmps28
  go_wp2_with (go_at_call 47; refine HC.out.mono ?_; rintro e w1 ⟨v, ss, rfl, hE, hO, hB⟩)
  have hne : ss ≠ [] := fun e => by
    have := (hE.2 0).2 ⟨by unfold I32; omega, HZ.out⟩
    rw [e] at this
    simp at this
  have HS := Lib.hid (sortN_any w.heap.size v ss w1 hO hne hE.1)
  have HE := Lib.hid hE; have HB := Lib.hid hB
  clear hE hB hO hne
  go_wp2_with (go_at_call 48; refine HS.out.mono ?_; rintro e w2 ⟨rfl, hO2, hB2⟩)
  go_ret
  exact ⟨v, sortedN ss, rfl, hO2, sortedN_rise HE.out.1, fun x => ((sortedN_perm ss).mem_iff).trans (HE.out.2 x), HB.out.trans hB2⟩
end Go.Proofs.Ythffdmncdoogpaa
/- The program's Classes. -/
namespace Go.Proofs.Ythffdmncdoogpaa
open Go Go.RowKit

/-- Classes under way: of what was there nothing has turned; box bk holds map mb, whose runes are S. -/
def Cutting (w1 : World) (bk mb n : Nat) (S : Int → Prop) (W : World) : Prop := Below w1.heap.size w1 W ∧ w1.heap.size ≤ mb ∧ W.cell? ⟨bk, 0, none⟩ = some (.map (some mb)) ∧ RSet W mb n S
theorem Cutting.new {w1 w : World} (hb : Below w1.heap.size w1 w) (e : TypeId) : Cutting w1 (w.heap.size + 1) w.heap.size 0 (fun _ => False) ((w.alloc (.map #[] 0)).alloc (.cells #[.map (some w.heap.size)] e)) := by
  have h1 := hb.size
  refine ⟨(hb.alloc h1 _).alloc (by simp; omega) _, h1, by go_simp, (rset_new w).kept ?_⟩
  exact Below.heap_alloc _ _ _ (by simp)
theorem Cutting.alloc {w1 W : World} {bk mb n : Nat} {S : Int → Prop} (h : Cutting w1 bk mb n S W) (o : Obj) : Cutting w1 bk mb n S (W.alloc o) := by
  obtain ⟨h1, h2, h3, h4⟩ := h
  have hB : Below W.heap.size W (W.alloc o) := (Below.refl _ _).alloc (Nat.le_refl _) _
  exact ⟨h1.trans (hB.mono h1.size), h2, cell_on hB h3, h4.kept (hB.block _ h4.lt)⟩
theorem Cutting.iff {w1 W : World} {bk mb n : Nat} {S T : Int → Prop} (h : Cutting w1 bk mb n S W) (hi : ∀ z, S z ↔ T z) : Cutting w1 bk mb n T W := ⟨h.1, h.2.1, h.2.2.1, h.2.2.2.iff fun z _ => hi z⟩
theorem Cutting.cut {w1 W : World} {bk mb n : Nat} {S : Int → Prop} (h : Cutting w1 bk mb n S W) (v : Value) (l : List (Int × Int)) (hl : Rgs W v l) (hn : n + 2 * l.length ≤ 100000) :
    Calls Try.prog 27 #[v, .pointer (some ⟨bk, 0, none⟩)] W fun e W' => e = .returned (.tuple #[]) ∧ Cutting w1 bk mb (n + 2 * l.length) (fun z => S z ∨ CutS l z) W' := by
  obtain ⟨h1, h2, h3, h4⟩ := h
  refine (pcut_any bk mb n S v l W h3 h4 hl (by unfold maxLen; omega)).mono ?_
  rintro e W' ⟨he, hg, hs⟩
  exact ⟨he, h1.grown hg h1.size (by rintro k ⟨⟩; exact h2), h2, cell_kept h3 hg h4.obj, hs⟩

theorem box_holds (W : World) (v : Value) (e : TypeId) : (W.alloc (.cells #[v] e)).cell? ⟨W.heap.size, 0, none⟩ = some v := by go_simp
def cut1 : List (Int × Int) := [(0, 1114111), (10, 10)]
def cut2 : List (Int × Int) := [(48, 57), (65, 90), (95, 95), (97, 122)]
theorem cut_base (z : Int) : (False ∨ CutS cut1 z) ∨ CutS cut2 z ↔ z ∈ baseN := by
  simp only [CutS, cut1, cut2, baseN, List.mem_cons, List.not_mem_nil, or_false, exists_eq_or_imp, exists_eq_left, false_or]
  omega
theorem lit_rgs (W : World) (l : List (Int × Int)) (C : Array Value) (hC : C.toList = cellsR l) (n : Nat) (hn : l.length = n) (hl : n ≤ 100) (hI : AllI32 l) : Rgs (W.alloc (.cells C 55)) (.slice (some ⟨W.heap.size, 0, none⟩) n n) l := by
  subst hn
  have hs : C.size = l.length * 2 := by rw [← Array.length_toList, hC, cellsR_length]
  have h := World.ownsRow_lit (base := W.heap.size) (e := 55) (size := 2) W C l.length (Nat.le_refl _) (by unfold maxLen; omega) hs
  rw [hC] at h
  exact OwnR.rgs ⟨h, hI⟩
theorem edge_cut (l : List (Int × Int)) (z : Int) : CutS l z ↔ ∃ r ∈ l, EdgeN r z := by
  unfold CutS EdgeN
  refine exists_congr fun r => and_congr_right fun _ => ?_
  omega
theorem class_rune {p : Pg} (h : RightPg p) {x : Int} (hx : ClassM p.ins x) : I32 x := by
  unfold I32
  rcases hx with hx | ⟨X, hX, r, hr, he⟩
  · simp [baseN] at hx
    omega
  · have := sound_fit (h.2.2.2.2.2.2 X hX) r hr
    unfold EdgeN at he
    obtain ⟨a1, a2, a3⟩ := this
    omega

set_option maxHeartbeats 3200000 in
set_option maxRecDepth 100000 in
theorem pclasses12_any (p : Pg) (v : Value) (w : World) (h : PgV w p v) (hlong : ¬ LongPg p) : Calls Try.prog 11 #[v] w (ClassesPost p w) := by
  have H0 := Lib.hid h
  obtain ⟨A, n, cp, hn, rfl, hI, hs, hc, hnb⟩ := h.opened
  obtain ⟨w1, hw1⟩ : ∃ w1, w.alloc (.cells #[.slice A n cp, .int .i64 p.start, .int .i64 p.caps] 24) = w1 := ⟨_, rfl⟩
  obtain ⟨hb1, e0, e1, e2, hz1⟩ := box3_new w _ _ _ _ hw1
  have HCK := Lib.hid (pright12_any p _ w1 (H0.out.below hb1))
  have HF : Hid (∀ W, Below w1.heap.size w1 W → W.cell? ⟨w.heap.size, 0, none⟩ = some (.slice A n cp)) := Lib.hid fun W hW => cell_on hW e0
  have HIS := Lib.hid (hI.below hb1)
  have HTOT : Hid (totI p.ins ≤ 2000) := Lib.hid (by unfold LongPg at hlong; omega)
  have HB1 := Lib.hid hb1; have HW1 := Lib.hid hw1; have HN := Lib.hid hn
  clear h hI hs hc hw1 hb1 hz1 hn hlong H0
  go_enter Try.func11, Try.ntmps11
  go_upto_region 1 with (fail)
  rw [HW1.out]
  go_wp2_with fail
  refine HCK.out.mono ?_
  rintro e w3 ⟨B, rfl, hr, hb3⟩
  have HB3 := Lib.hid hb3
  cases B
  · have HR := Lib.hid (mt hr.2 Bool.false_ne_true)
    clear hb3 hr HCK
    go_wp2_with fail
    go_ret
    exact ⟨.slice none 0 0, [], rfl, rns_nil _ _ _ (Nat.zero_le _) (fun _ => rfl), fun h => absurd h HR.out, fun _ => rfl, below_steps HB1.out HB3.out⟩
  · have HR := Lib.hid (hr.1 rfl)
    clear hb3 hr HCK
    have hmm : ∀ W, (Instr.makeMap 59 none).run Try.prog W = .ok (.map (some W.heap.size)) (W.alloc (.map #[] 0)) := fun W => run_makeMap _ W
    clear e0 e1 e2
    have c4 := Cutting.new HB3.out 59
    obtain ⟨w4, hw4⟩ : ∃ w4, (w3.alloc (.map #[] 0)).alloc (.cells #[.map (some w3.heap.size)] 59) = w4 := ⟨_, rfl⟩
    rw [hw4] at c4
    have HW4 := Lib.hid hw4
    clear hw4
    go_upto_region 5 with (fail)
    rw [HW4.out]
    obtain ⟨bk, hbk⟩ : ∃ bk, w3.heap.size + 1 = bk := ⟨_, rfl⟩
    obtain ⟨mb, hmb⟩ : ∃ mb, w3.heap.size = mb := ⟨_, rfl⟩
    rw [hbk, hmb] at c4
    have HC4 := Lib.hid c4
    have HP1 := Lib.hid ((c4.alloc _).cut _ cut1 (lit_rgs w4 cut1 #[.int .i32 0, .int .i32 1114111, .int .i32 10, .int .i32 10] rfl 2 rfl (by omega) (by unfold AllI32 cut1 I32; decide)) (by show 0 + 2 * 2 ≤ _; omega))
    try rw [hbk]
    clear c4
    go_upto_region 6 with (go_at_call 27; refine HP1.out.mono ?_; rintro e w5 ⟨rfl, c5⟩)
    replace c5 : Cutting w1 bk mb 4 (fun z => False ∨ CutS cut1 z) w5 := c5
    have HP2 := Lib.hid ((c5.alloc _).cut _ cut2 (lit_rgs w5 cut2 #[.int .i32 48, .int .i32 57, .int .i32 65, .int .i32 90, .int .i32 95, .int .i32 95, .int .i32 97, .int .i32 122] rfl 4 rfl (by omega) (by unfold AllI32 cut2 I32; decide)) (by show 4 + 2 * 4 ≤ _; omega))
    clear c5 HP1
    go_upto_region 7 with (go_at_call 27; refine HP2.out.mono ?_; rintro e w6 ⟨rfl, c6⟩)
    replace c6 : Cutting w1 bk mb 12 (fun z => z ∈ baseN) w6 := Cutting.iff c6 cut_base
    have HC6 := Lib.hid c6
    have e0 := HF.out _ c6.1
    clear c6 HP2 hmm
    have hnn : n ≤ 10000 := by rw [← HN.out]; exact HR.out.2.1
    go_wp2_with fail
    go_loopw [26] (fun i wr => ∃ (k m : Nat), k ≤ n ∧ i = .int .i64 k ∧ m ≤ 12 + 2 * cntI p.ins k ∧ Cutting w1 bk mb m (fun z => z ∈ baseN ∨ ∃ X ∈ p.ins.take k, CutS X.set z) wr) (fun i _ => n - (intOf i).toNat)
    case atStart => exact ⟨0, 12, Nat.zero_le _, rfl, by omega, HC6.out.iff fun z => by simp⟩
    case round =>
      obtain ⟨k, m, hk, rfl, hm, hC⟩ := hrel
      have HC := Lib.hid hC
      clear e0
      have e0 := HF.out _ hC.1
      by_cases hkn : k < n
      · have hkl : k < p.ins.length := by rw [HN.out]; exact hkn
        have hkz : (k : Int) < (n : Int) := by omega
        obtain ⟨b, o, X, a2, s, c2, hA, hX, hmX, hsl, hat, ⟨-, -, -, q3, -⟩, q5, -, -⟩ := HIS.out.at' k hkl
        have hnx := cnt_next p.ins k hkl
        have hle := cnt_le p.ins (k + 1)
        have htk : p.ins.take (k + 1) = p.ins.take k ++ [X] := by rw [List.take_succ_eq_append_getElem hkl, hX]
        rw [hX] at hnx
        have hbd : m + 2 * X.set.length ≤ 100000 := by have := HTOT.out; omega
        have hm1 : m + 2 * X.set.length ≤ 12 + 2 * cntI p.ins (k + 1) := by omega
        subst hA
        have f3 := cell_on hC.1 q3
        have HP := Lib.hid (hC.cut _ X.set (q5.below hC.1) hbd)
        have HTK := Lib.hid htk; have HM1 := Lib.hid hm1
        clear hC hX hmX hsl hat q3 q5 hnx hle htk hbd hm1 hm hkl
        go_wp2_with (go_at_call 27; refine HP.out.mono ?_; rintro e w7 ⟨rfl, c7⟩)
        go_roundw
        case rel =>
          refine ⟨k + 1, m + 2 * X.set.length, by omega, by go_num, HM1.out, c7.iff fun z => ?_⟩
          rw [HTK.out]
          simp only [List.mem_append, List.mem_singleton]
          constructor
          · rintro ((h | ⟨Y, hY, h⟩) | h)
            · exact .inl h
            · exact .inr ⟨Y, .inl hY, h⟩
            · exact .inr ⟨X, .inr rfl, h⟩
          · rintro (h | ⟨Y, hY | rfl, h⟩)
            · exact .inl (.inl h)
            · exact .inl (.inr ⟨Y, hY, h⟩)
            · exact .inr h
        case measure => simp [intOf]; omega
      · obtain rfl : k = n := by omega
        have hx : ∀ z, (z ∈ baseN ∨ ∃ X ∈ p.ins.take k, CutS X.set z) ↔ ClassM p.ins z := fun z => by
          rw [List.take_of_length_le (by rw [HN.out]; exact Nat.le_refl _)]
          unfold ClassM
          exact or_congr Iff.rfl (exists_congr fun X => and_congr_right fun _ => edge_cut _ _)
        have hcl : m * 8 ≤ 140737488355328 := by have h1 := cnt_le p.ins k; have h2 := HTOT.out; omega
        have hC9 := hC.iff hx
        have HC9 := Lib.hid hC9
        have e9 := hC9.2.2.1
        have HK := Lib.hid (keysN_any mb wr)
        obtain ⟨w8, hw8⟩ : ∃ w8, wr.alloc (.cells #[.map (some mb)] 59) = w8 := ⟨_, rfl⟩
        have c8 : Cutting w1 bk mb m (fun z => ClassM p.ins z) w8 := by rw [← hw8]; exact hC9.alloc _
        have d8 : w8.cell? ⟨wr.heap.size, 0, none⟩ = some (.map (some mb)) := by rw [← hw8]; exact box_holds _ _ _
        have z8 : wr.heap.size < w8.heap.size := by rw [← hw8]; simp
        have HS := Lib.hid (sortedS_any wr.heap.size mb m _ w8 z8 d8 c8.2.2.2 hcl (.inl (by simp [baseN])))
        rw [hw8] at HK
        have HC8 := Lib.hid c8
        clear hx hcl hC hC9 hw8 c8 d8 z8 hm
        go_wp2_with (first
          | (go_at_call 29; refine HK.out.mono ?_; rintro e w' ⟨rfl, rfl⟩)
          | (go_at_call 28; refine HS.out.mono ?_; rintro e w9 ⟨v, l, rfl, hO, hRi, hM, hB9⟩))
        go_ret
        refine ⟨v, l, rfl, hO.rns, fun _ => ⟨hRi, fun x => (hM x).trans ⟨fun h => h.2, fun h => ⟨class_rune HR.out h, h⟩⟩⟩, fun h => absurd HR.out h, ?_⟩
        exact below_steps HB1.out (below_steps HC8.out.1 hB9)
end Go.Proofs.Ythffdmncdoogpaa
/- The law of Classes (the walk by gen13classes.py). -/
namespace Go.Proofs.Ythffdmncdoogpaa
open Go Go.RowKit

theorem rise_eq : ∀ (l k : List Int), RiseN l → RiseN k → (∀ x, x ∈ l ↔ x ∈ k) → l = k
  | [], [], _, _, _ => rfl
  | [], b :: k, _, _, h => by have := (h b).2 (List.mem_cons_self ..); simp at this
  | a :: l, [], _, _, h => by have := (h a).1 (List.mem_cons_self ..); simp at this
  | a :: l, b :: k, h1, h2, h => by
    obtain ⟨p1, q1⟩ := List.pairwise_cons.1 h1
    obtain ⟨p2, q2⟩ := List.pairwise_cons.1 h2
    have e : a = b := by
      have m1 := (h a).1 (List.mem_cons_self ..)
      have m2 := (h b).2 (List.mem_cons_self ..)
      rcases List.mem_cons.1 m1 with e | m1
      · exact e
      rcases List.mem_cons.1 m2 with e | m2
      · exact e.symm
      have := p2 a m1
      have := p1 b m2
      omega
    subst e
    rw [rise_eq l k q1 q2 fun x => ?_]
    constructor
    · intro hx
      have := p1 x hx
      rcases List.mem_cons.1 ((h x).1 (List.mem_cons_of_mem _ hx)) with e | h
      · omega
      · exact h
    · intro hx
      have := p2 x hx
      rcases List.mem_cons.1 ((h x).2 (List.mem_cons_of_mem _ hx)) with e | h
      · omega
      · exact h
theorem classes_eq {p : Pg} {l k : List Int} (h1 : RightPg p → RiseN l ∧ ∀ x, x ∈ l ↔ ClassM p.ins x) (h2 : ¬ RightPg p → l = []) (k1 : RightPg p → RiseN k ∧ ∀ x, x ∈ k ↔ ClassM p.ins x) (k2 : ¬ RightPg p → k = []) : l = k := by
  by_cases h : RightPg p
  · exact rise_eq l k (h1 h).1 (k1 h).1 fun x => ((h1 h).2 x).trans ((k1 h).2 x).symm
  · rw [h2 h, k2 h]

set_option maxHeartbeats 1600000 in
set_option maxRecDepth 100000 in
theorem lclasses_any (p : Pg) (v u : Value) (rs : List Int) (x : Int) (w : World) (h : PgV w p v) (g : Rns w u rs) :
    Calls Try.prog 3 #[v, u, .int .i32 x] w (fun e w' => e = .returned (.bool true) ∧ Below w.heap.size w w') := by
  have HZ := Lib.hid g
  have H0 := Lib.hid h
  obtain ⟨A, n, c, hn, rfl, hI, hs, hc, hnb⟩ := h.opened
  obtain ⟨w1, hw1⟩ : ∃ w1, w.alloc (.cells #[.slice A n c, .int .i64 p.start, .int .i64 p.caps] 24) = w1 := ⟨_, rfl⟩
  obtain ⟨hb1, e0, e1, e2, hz1⟩ := box3_new w _ _ _ _ hw1
  have HF : Hid (∀ W, Below w1.heap.size w1 W → W.cell? ⟨w.heap.size, 0, none⟩ = some (.slice A n c) ∧ W.cell? ⟨w.heap.size, 1, none⟩ = some (.int .i64 p.start) ∧ W.cell? ⟨w.heap.size, 2, none⟩ = some (.int .i64 p.caps)) := Lib.hid fun W hW => ⟨cell_on hW e0, cell_on hW e1, cell_on hW e2⟩
  have HP : Hid (∀ W, Below w1.heap.size w1 W → PgV W p (.agg #[.slice A n c, .int .i64 p.start, .int .i64 p.caps])) := Lib.hid fun W hW => H0.out.below (below_steps hb1 hW)
  have HB1 := Lib.hid hb1; have HW1 := Lib.hid hw1
  clear h hI hs hc hw1 hb1 hz1 hn e0 e1 e2 H0
  obtain ⟨A2, c2, rfl, -⟩ := g
  obtain ⟨m, hm⟩ : ∃ m, rs.length = m := ⟨_, rfl⟩
  rw [hm] at HZ ⊢
  clear hm
  go_enter Try.func3, Try.ntmps3
  go_upto_region 1 with (fail)
  rw [HW1.out]
  go_wp2_with fail
  refine (head12_any w1).mono ?_
  rintro e w2 ⟨rfl, hb2⟩
  have HB2 := Lib.hid hb2
  clear hb2
  have HZ2 : Hid (∀ W, Below w1.heap.size w1 W → Rns W (.slice A2 m c2) rs) := Lib.hid fun W hW => HZ.out.below (below_steps HB1.out hW)
  obtain ⟨e0, e1, e2⟩ := HF.out _ HB2.out
  go_wp2_with fail
  refine (long12_any p _ _ (HP.out _ HB2.out)).mono ?_
  rintro e w3 ⟨B, rfl, hB, hb3⟩
  have HB3 := Lib.hid (below_steps HB2.out hb3)
  clear hb3 e0 e1 e2
  obtain ⟨e0, e1, e2⟩ := HF.out _ HB3.out
  cases B
  rotate_left
  · clear hB
    go_wp2_with fail
    go_ret
    exact ⟨rfl, below_steps HB1.out HB3.out⟩
  · have HLG := Lib.hid (mt hB.2 Bool.false_ne_true)
    clear hB
    go_wp2_with fail
    refine wp_region_held_drew (S := (fun W => W.cell? ⟨w.heap.size, 0, none⟩ = some (.slice A n c) ∧ W.cell? ⟨w.heap.size, 1, none⟩ = some (.int .i64 p.start) ∧ W.cell? ⟨w.heap.size, 2, none⟩ = some (.int .i64 p.caps))) (by kernel_rfl) (HF.out _ (below_steps HB3.out (Below.refl _ _).drew)) (fun hHeld => ?_)
    refine wpAnyH_take (i := 0) (oi := _) (v := ?_) rfl (by kernel_rfl) (by kernel_rfl) (by kernel_rfl) (fun _ _ _ h => h) (Or.inl ⟨by rfl, ?_⟩) (by assumption) ?_
    rotate_left 1
    · (intro w hSw; (try dsimp only at hSw); go_simp; (try with_reducible rfl))
    try simp only [List.getElem_toArray, List.getElem_cons_zero, List.getElem_cons_succ, Act.put, List.setIfInBounds_toArray, List.set_cons_zero, List.set_cons_succ]
    refine wpAnyH_take (i := 1) (oi := _) (v := ?_) rfl (by kernel_rfl) (by kernel_rfl) (by kernel_rfl) (fun _ _ _ h => h) (Or.inl ⟨by rfl, ?_⟩) (by assumption) ?_
    rotate_left 1
    · (intro w hSw; (try dsimp only at hSw); go_simp; (try with_reducible rfl))
    try simp only [List.getElem_toArray, List.getElem_cons_zero, List.getElem_cons_succ, Act.put, List.setIfInBounds_toArray, List.set_cons_zero, List.set_cons_succ]
    refine wpAnyH_take (i := 2) (oi := _) (v := ?_) rfl (by kernel_rfl) (by kernel_rfl) (by kernel_rfl) (fun _ _ _ h => h) (Or.inl ⟨by rfl, ?_⟩) (by assumption) ?_
    rotate_left 1
    · (intro w hSw; (try dsimp only at hSw); go_simp; (try with_reducible rfl))
    try simp only [List.getElem_toArray, List.getElem_cons_zero, List.getElem_cons_succ, Act.put, List.setIfInBounds_toArray, List.set_cons_zero, List.set_cons_succ]
    refine wpAnyH_take (i := 4) (oi := _) (v := ?_) rfl (by kernel_rfl) (by kernel_rfl) (by kernel_rfl) (fun _ _ _ h => h) (Or.inl ⟨by rfl, ?_⟩) (by assumption) ?_
    rotate_left 1
    · (intro w hSw; (try dsimp only at hSw); go_simp; (try with_reducible rfl))
    try simp only [List.getElem_toArray, List.getElem_cons_zero, List.getElem_cons_succ, Act.put, List.setIfInBounds_toArray, List.set_cons_zero, List.set_cons_succ]
    refine wpAnyH_ready (rs := [3]) (by kernel_rfl) (by simp) ?_
    refine AllReadyH.cons (o := _) rfl (fun K hK => ?_) ?_
    · go_simp
      refine (pclasses12_any p _ _ (HP.out _ (below_steps HB3.out (Below.refl _ _).drew)) HLG.out).mono ?_
      rintro e w4 ⟨v4, l4, rfl, hr4, r1, r2, hb4⟩
      have hb4 := below_of_drew hb4
      have HR4 := Lib.hid hr4
      have HQ1 := Lib.hid r1
      have HQ2 := Lib.hid r2
      have HB4 := Lib.hid (below_steps HB3.out hb4)
      have hS4 := HF.out _ HB4.out
      clear hb4 hr4 r1 r2
      go_wp2_with fail
      refine hK.out _ _ hS4 (fun hHeld => ?_)
      clear hK K
      try simp only [List.getElem_toArray, List.getElem_cons_zero, List.getElem_cons_succ, Act.put, List.setIfInBounds_toArray, List.set_cons_zero, List.set_cons_succ]
      refine wpAnyH_ready (rs := [5]) (by kernel_rfl) (by simp) ?_
      refine AllReadyH.cons (o := _) rfl (fun K hK => ?_) ?_
      · go_simp
        refine (rclasses12_any p _ _ (HP.out _ HB4.out) HLG.out).mono ?_
        rintro e w5 ⟨v5, l5, rfl, hr5, q1, q2, hb5⟩
        obtain rfl := classes_eq HQ1.out HQ2.out q1 q2
        have HS := Lib.hid (nsame12_any _ _ _ _ w5 (HR4.out.below hb5) hr5)
        have HB5 := Lib.hid (below_steps HB4.out hb5)
        have hS5 := HF.out _ HB5.out
        clear hb5 hr5 q1 q2
        go_wp2_with fail
        refine hK.out _ _ hS5 (fun hHeld => ?_)
        clear hK K
        try simp only [List.getElem_toArray, List.getElem_cons_zero, List.getElem_cons_succ, Act.put, List.setIfInBounds_toArray, List.set_cons_zero, List.set_cons_succ]
        refine wpAnyH_ready (rs := [6]) (by kernel_rfl) (by simp) ?_
        refine AllReadyH.cons (o := _) rfl (fun K hK => ?_) ?_
        · go_simp
          refine HS.out.mono ?_
          rintro e w6 ⟨B, rfl, hB, q, rfl⟩
          obtain rfl : B = true := hB.2 (by trivial)
          have hb6 := below_draws w5 q
          have HB6 := Lib.hid (below_steps HB5.out hb6)
          have hS6 := HF.out _ HB6.out
          clear hb6 hB
          go_wp2_with fail
          refine hK.out _ _ hS6 (fun hHeld => ?_)
          clear hK K
          try simp only [List.getElem_toArray, List.getElem_cons_zero, List.getElem_cons_succ, Act.put, List.setIfInBounds_toArray, List.set_cons_zero, List.set_cons_succ]
          refine wpAnyH_take (i := 7) (oi := _) (v := ?_) rfl (by kernel_rfl) (by kernel_rfl) (by kernel_rfl) (fun _ _ _ h => h) (Or.inl ⟨by rfl, ?_⟩) (by assumption) ?_
          rotate_left 1
          · (intro w hSw; (try dsimp only at hSw); go_simp; (try with_reducible rfl))
          try simp only [List.getElem_toArray, List.getElem_cons_zero, List.getElem_cons_succ, Act.put, List.setIfInBounds_toArray, List.set_cons_zero, List.set_cons_succ]
          refine wpAnyH_take (i := 8) (oi := _) (v := ?_) rfl (by kernel_rfl) (by kernel_rfl) (by kernel_rfl) (fun _ _ _ h => h) (Or.inl ⟨by rfl, ?_⟩) (by assumption) ?_
          rotate_left 1
          · (intro w hSw; (try dsimp only at hSw); go_simp; (try with_reducible rfl))
          try simp only [List.getElem_toArray, List.getElem_cons_zero, List.getElem_cons_succ, Act.put, List.setIfInBounds_toArray, List.set_cons_zero, List.set_cons_succ]
          refine wpAnyH_take (i := 9) (oi := _) (v := ?_) rfl (by kernel_rfl) (by kernel_rfl) (by kernel_rfl) (fun _ _ _ h => h) (Or.inl ⟨by rfl, ?_⟩) (by assumption) ?_
          rotate_left 1
          · (intro w hSw; (try dsimp only at hSw); go_simp; (try with_reducible rfl))
          try simp only [List.getElem_toArray, List.getElem_cons_zero, List.getElem_cons_succ, Act.put, List.setIfInBounds_toArray, List.set_cons_zero, List.set_cons_succ]
          refine wpAnyH_take (i := 10) (oi := _) (v := ?_) rfl (by kernel_rfl) (by kernel_rfl) (by kernel_rfl) (fun _ _ _ h => h) (Or.inl ⟨by rfl, ?_⟩) (by assumption) ?_
          rotate_left 1
          · (intro w hSw; (try dsimp only at hSw); go_simp; (try with_reducible rfl))
          try simp only [List.getElem_toArray, List.getElem_cons_zero, List.getElem_cons_succ, Act.put, List.setIfInBounds_toArray, List.set_cons_zero, List.set_cons_succ]
          refine wpAnyH_take (i := 12) (oi := _) (v := ?_) rfl (by kernel_rfl) (by kernel_rfl) (by kernel_rfl) (fun _ _ _ h => h) (Or.inl ⟨by rfl, ?_⟩) (by assumption) ?_
          rotate_left 1
          · (intro w hSw; (try dsimp only at hSw); go_simp; (try with_reducible rfl))
          try simp only [List.getElem_toArray, List.getElem_cons_zero, List.getElem_cons_succ, Act.put, List.setIfInBounds_toArray, List.set_cons_zero, List.set_cons_succ]
          refine wpAnyH_take (i := 13) (oi := _) (v := ?_) rfl (by kernel_rfl) (by kernel_rfl) (by kernel_rfl) (fun _ _ _ h => h) (Or.inl ⟨by rfl, ?_⟩) (by assumption) ?_
          rotate_left 1
          · (intro w hSw; (try dsimp only at hSw); go_simp; (try with_reducible rfl))
          try simp only [List.getElem_toArray, List.getElem_cons_zero, List.getElem_cons_succ, Act.put, List.setIfInBounds_toArray, List.set_cons_zero, List.set_cons_succ]
          refine wpAnyH_ready (rs := [11]) (by kernel_rfl) (by simp) ?_
          refine AllReadyH.cons (o := _) rfl (fun K hK => ?_) ?_
          · go_simp
            refine (pclass12_any _ rs x _ (HZ2.out _ HB6.out)).mono ?_
            rintro e w7 ⟨rfl, hb7⟩
            have HB7 := Lib.hid (below_steps HB6.out hb7)
            have hS7 := HF.out _ HB7.out
            clear hb7
            go_wp2_with fail
            refine hK.out _ _ hS7 (fun hHeld => ?_)
            clear hK K
            try simp only [List.getElem_toArray, List.getElem_cons_zero, List.getElem_cons_succ, Act.put, List.setIfInBounds_toArray, List.set_cons_zero, List.set_cons_succ]
            refine wpAnyH_ready (rs := [14]) (by kernel_rfl) (by simp) ?_
            refine AllReadyH.cons (o := _) rfl (fun K hK => ?_) ?_
            · go_simp
              refine (rclass12_any _ rs x _ (HZ2.out _ HB7.out)).mono ?_
              rintro e w8 ⟨rfl, hb8⟩
              have HB8 := Lib.hid (below_steps HB7.out hb8)
              have hS8 := HF.out _ HB8.out
              clear hb8
              go_wp2_with fail
              refine hK.out _ _ hS8 (fun hHeld => ?_)
              clear hK K
              try simp only [List.getElem_toArray, List.getElem_cons_zero, List.getElem_cons_succ, Act.put, List.setIfInBounds_toArray, List.set_cons_zero, List.set_cons_succ]
              refine wpAnyH_take (i := 15) (oi := _) (v := ?_) rfl (by kernel_rfl) (by kernel_rfl) (by kernel_rfl) (fun _ _ _ h => h) (Or.inl ⟨by rfl, ?_⟩) (by assumption) ?_
              rotate_left 1
              · (intro w hSw; (try dsimp only at hSw); go_simp; (try with_reducible rfl))
              try simp only [List.getElem_toArray, List.getElem_cons_zero, List.getElem_cons_succ, Act.put, List.setIfInBounds_toArray, List.set_cons_zero, List.set_cons_succ]
              refine wpAnyH_take (i := 16) (oi := _) (v := ?_) rfl (by kernel_rfl) (by kernel_rfl) (by kernel_rfl) (fun _ _ _ h => h) (Or.inl ⟨by rfl, ?_⟩) (by assumption) ?_
              rotate_left 1
              · (intro w hSw; (try dsimp only at hSw); go_simp; (try with_reducible rfl))
              try simp only [List.getElem_toArray, List.getElem_cons_zero, List.getElem_cons_succ, Act.put, List.setIfInBounds_toArray, List.set_cons_zero, List.set_cons_succ]
              refine wpAnyH_take (i := 17) (oi := _) (v := ?_) rfl (by kernel_rfl) (by kernel_rfl) (by kernel_rfl) (fun _ _ _ h => h) (Or.inl ⟨by rfl, ?_⟩) (by assumption) ?_
              rotate_left 1
              · (intro w hSw; (try dsimp only at hSw); go_simp; (try with_reducible rfl))
              try simp only [List.getElem_toArray, List.getElem_cons_zero, List.getElem_cons_succ, Act.put, List.setIfInBounds_toArray, List.set_cons_zero, List.set_cons_succ]
              refine wpAnyH_done (by kernel_rfl) ?_ _
              go_wp2_with fail
              go_ret
              exact ⟨by simp, below_steps HB1.out HB8.out⟩
            exact AllReadyH.nil
          exact AllReadyH.nil
        exact AllReadyH.nil
      exact AllReadyH.nil
    exact AllReadyH.nil
end Go.Proofs.Ythffdmncdoogpaa
/- Runes of the same class lie in the same sets, are a word's or none, are a line feed or none. -/
namespace Go.Proofs.Ythffdmncdoogpaa
open Go Go.RowKit

def wordsB (c : Int) : Bool := decide (48 ≤ c ∧ c ≤ 57) || decide (65 ≤ c ∧ c ≤ 90) || decide (97 ≤ c ∧ c ≤ 122) || decide (c = 95)
set_option maxHeartbeats 400000 in
set_option maxRecDepth 100000 in
theorem rword12_any (x : Int) (w : World) : Calls Try.prog 17 #[.int .i32 x] w fun e w' => e = .returned (.bool (wordsB x)) ∧ w' = w := by
  go_enter Try.func17, Try.ntmps17
  go_wp2
  all_goals
    go_ret
    refine ⟨congrArg (fun b => Ending.returned (Value.bool b)) ?_, rfl⟩
    unfold wordsB
    rw [Bool.eq_iff_iff]
    simp
    omega

/-- Two runes a ≤ b between which no class begins. -/
def Between (L : List Int) (a b : Int) : Prop := a ≤ b ∧ ∀ x ∈ L, x ≤ b → x ≤ a
theorem count_mono : ∀ (L : List Int) {a b : Int}, a ≤ b → (L.filter fun x => decide (x ≤ a)).length ≤ (L.filter fun x => decide (x ≤ b)).length
  | [], _, _, _ => Nat.le_refl _
  | y :: L, a, b, h => by
    have := count_mono L h
    simp only [List.filter_cons]
    split <;> split <;> simp_all
    all_goals omega
theorem count_between : ∀ (L : List Int) {a b : Int}, a ≤ b → (L.filter fun x => decide (x ≤ a)).length = (L.filter fun x => decide (x ≤ b)).length → ∀ x ∈ L, x ≤ b → x ≤ a
  | [], _, _, _, _, x, hx, _ => by simp at hx
  | y :: L, a, b, h, he, x, hx, hb => by
    have hm := count_mono L h
    simp only [List.filter_cons] at he
    by_cases h1 : y ≤ a
    · rw [if_pos (by simpa using h1), if_pos (by simp; omega)] at he
      rcases List.mem_cons.1 hx with rfl | hx
      · exact h1
      · exact count_between L h (by simpa using he) x hx hb
    · by_cases h2 : y ≤ b
      · rw [if_neg (by simpa using h1), if_pos (by simpa using h2)] at he
        simp only [List.length_cons] at he
        omega
      · rw [if_neg (by simpa using h1), if_neg (by simpa using h2)] at he
        rcases List.mem_cons.1 hx with rfl | hx
        · exact absurd hb h2
        · exact count_between L h he x hx hb
theorem cls_between {L : List Int} {a b : Int} (ha : 0 ≤ a ∧ a ≤ 1114111) (hb : 0 ≤ b ∧ b ≤ 1114111) (h : clsN L a = clsN L b) : Between L a b ∨ Between L b a := by
  unfold clsN at h
  rw [if_neg (by omega), if_neg (by omega)] at h
  rcases Int.le_total a b with hab | hab
  · exact .inl ⟨hab, count_between L hab (by omega)⟩
  · exact .inr ⟨hab, count_between L hab (by omega)⟩
/-- Two runes of one class. -/
def OneClass (p : Pg) (L : List Int) (a b : Int) : Prop := (0 ≤ a ∧ a ≤ 1114111) ∧ (0 ≤ b ∧ b ≤ 1114111) ∧ clsN L a = clsN L b ∧ RightPg p ∧ ∀ x, x ∈ L ↔ ClassM p.ins x
theorem between_has {I : List Ins} {L : List Int} {a b : Int} (hM : ∀ x, x ∈ L ↔ ClassM I x) (h : Between L a b) (ha : 0 ≤ a) (hb : b ≤ 1114111) {X : Ins} (hX : X ∈ I) : HasR X.set a ↔ HasR X.set b := by
  obtain ⟨hab, hbt⟩ := h
  have hE : ∀ r ∈ X.set, ∀ x, EdgeN r x → x ≤ b → x ≤ a := fun r hr x he => hbt x ((hM x).2 (.inr ⟨X, hX, r, hr, he⟩))
  unfold HasR
  constructor
  · rintro ⟨-, -, r, hr, h1, h2⟩
    refine ⟨by omega, hb, r, hr, by omega, ?_⟩
    by_cases hge : b ≤ r.2
    · exact hge
    · have := hE r hr (r.2 + 1) (.inr ⟨rfl, by omega⟩) (by omega)
      omega
  · rintro ⟨-, -, r, hr, h1, h2⟩
    exact ⟨ha, by omega, r, hr, hE r hr r.1 (.inl rfl) h1, by omega⟩
theorem OneClass.has {p : Pg} {L : List Int} {a b : Int} (h : OneClass p L a b) {X : Ins} (hX : X ∈ p.ins) : HasR X.set a ↔ HasR X.set b := by
  obtain ⟨ha, hb, hc, -, hM⟩ := h
  rcases cls_between ha hb hc with h | h
  · exact between_has hM h ha.1 hb.2 hX
  · exact (between_has hM h hb.1 ha.2 hX).symm
theorem between_base {I : List Ins} {L : List Int} {a b : Int} (hM : ∀ x, x ∈ L ↔ ClassM I x) (h : Between L a b) : wordsB a = wordsB b ∧ (decide (a = 10) = decide (b = 10)) := by
  obtain ⟨hab, hbt⟩ := h
  have hE : ∀ x ∈ baseN, x ≤ b → x ≤ a := fun x hx => hbt x ((hM x).2 (.inl hx))
  have e10 := hE 10 (by simp [baseN])
  have e11 := hE 11 (by simp [baseN])
  have e48 := hE 48 (by simp [baseN])
  have e58 := hE 58 (by simp [baseN])
  have e65 := hE 65 (by simp [baseN])
  have e91 := hE 91 (by simp [baseN])
  have e95 := hE 95 (by simp [baseN])
  have e96 := hE 96 (by simp [baseN])
  have e97 := hE 97 (by simp [baseN])
  have e123 := hE 123 (by simp [baseN])
  clear hE hbt hM
  refine ⟨?_, decide_eq_decide.2 (by omega)⟩
  unfold wordsB
  have h1 : (48 ≤ a ∧ a ≤ 57) ↔ (48 ≤ b ∧ b ≤ 57) := by omega
  have h2 : (65 ≤ a ∧ a ≤ 90) ↔ (65 ≤ b ∧ b ≤ 90) := by omega
  have h3 : (97 ≤ a ∧ a ≤ 122) ↔ (97 ≤ b ∧ b ≤ 122) := by omega
  have h4 : a = 95 ↔ b = 95 := by omega
  rw [decide_eq_decide.2 h1, decide_eq_decide.2 h2, decide_eq_decide.2 h3, decide_eq_decide.2 h4]
theorem OneClass.base {p : Pg} {L : List Int} {a b : Int} (h : OneClass p L a b) : wordsB a = wordsB b ∧ (decide (a = 10) = decide (b = 10)) := by
  obtain ⟨ha, hb, hc, -, hM⟩ := h
  rcases cls_between ha hb hc with h | h
  · exact between_base hM h
  · exact ⟨(between_base hM h).1.symm, (between_base hM h).2.symm⟩
end Go.Proofs.Ythffdmncdoogpaa
/- The law of runes of one class (the walk by gen13alike.py). -/
namespace Go.Proofs.Ythffdmncdoogpaa
open Go Go.RowKit

set_option maxHeartbeats 3200000 in
set_option maxRecDepth 100000 in
theorem lalike_any (p : Pg) (v : Value) (x y : Int) (w : World) (h : PgV w p v) :
    Calls Try.prog 4 #[v, .int .i32 x, .int .i32 y] w (fun e w' => e = .returned (.bool true) ∧ Below w.heap.size w w') := by
  have H0 := Lib.hid h
  obtain ⟨A, n, c, hn, rfl, hI, hs, hc, hnb⟩ := h.opened
  obtain ⟨w1, hw1⟩ : ∃ w1, w.alloc (.cells #[.slice A n c, .int .i64 p.start, .int .i64 p.caps] 24) = w1 := ⟨_, rfl⟩
  obtain ⟨hb1, e0, e1, e2, hz1⟩ := box3_new w _ _ _ _ hw1
  have HF : Hid (∀ W, Below w1.heap.size w1 W → W.cell? ⟨w.heap.size, 0, none⟩ = some (.slice A n c) ∧ W.cell? ⟨w.heap.size, 1, none⟩ = some (.int .i64 p.start) ∧ W.cell? ⟨w.heap.size, 2, none⟩ = some (.int .i64 p.caps)) := Lib.hid fun W hW => ⟨cell_on hW e0, cell_on hW e1, cell_on hW e2⟩
  have HP : Hid (∀ W, Below w1.heap.size w1 W → PgV W p (.agg #[.slice A n c, .int .i64 p.start, .int .i64 p.caps])) := Lib.hid fun W hW => H0.out.below (below_steps hb1 hW)
  have HIS := Lib.hid (hI.below hb1)
  have HN := Lib.hid hn
  have HB1 := Lib.hid hb1; have HW1 := Lib.hid hw1
  clear h hI hs hc hw1 hb1 hz1 hn e0 e1 e2 H0
  go_enter Try.func4, Try.ntmps4
  go_upto_region 1 with (fail)
  rw [HW1.out]
  go_wp2_with fail
  refine (head12_any w1).mono ?_
  rintro e w2 ⟨rfl, hb2⟩
  have HB2 := Lib.hid hb2
  clear hb2
  obtain ⟨e0, e1, e2⟩ := HF.out _ HB2.out
  go_wp2_with fail
  refine (long12_any p _ _ (HP.out _ HB2.out)).mono ?_
  rintro e w3 ⟨B, rfl, hB, hb3⟩
  have HB3 := Lib.hid (below_steps HB2.out hb3)
  clear hb3 e0 e1 e2
  obtain ⟨e0, e1, e2⟩ := HF.out _ HB3.out
  cases B
  rotate_left
  · clear hB
    go_wp2_with fail
    go_ret
    exact ⟨rfl, below_steps HB1.out HB3.out⟩
  have HLG := Lib.hid (mt hB.2 Bool.false_ne_true)
  clear hB
  go_wp2_with fail
  refine (pcheck_any p _ _ (HP.out _ HB3.out)).mono ?_
  rintro e w4 ⟨r, rfl, hr, hb4⟩
  have HB4 := Lib.hid (below_steps HB3.out hb4)
  clear hb4 e0 e1 e2
  obtain ⟨e0, e1, e2⟩ := HF.out _ HB4.out
  rcases hr with ⟨rfl, hR⟩ | ⟨rfl, hR⟩
  rotate_left
  · clear hR
    go_wp2_with fail
    go_ret
    exact ⟨rfl, below_steps HB1.out HB4.out⟩
  have HR := Lib.hid hR
  clear hR
  go_wp2_with fail
  refine (pclasses12_any p _ _ (HP.out _ HB4.out) HLG.out).mono ?_
  rintro e w5 ⟨v5, L, rfl, hr5, r1, -, hb5⟩
  have HM := Lib.hid (r1 HR.out).2
  have HB5 := Lib.hid (below_steps HB4.out hb5)
  have HL : Hid (∀ W, Below w5.heap.size w5 W → Rns W v5 L) := Lib.hid fun W hW => hr5.below hW
  clear hr5 r1 hb5 e0 e1 e2
  obtain ⟨e0, e1, e2⟩ := HF.out _ HB5.out
  by_cases q1 : x < 0
  · go_wp2_with fail
    go_ret
    exact ⟨rfl, below_steps HB1.out HB5.out⟩
  by_cases q2 : y < 0
  · go_wp2_with fail
    go_ret
    exact ⟨rfl, below_steps HB1.out HB5.out⟩
  by_cases q3 : 1114111 < x
  · go_wp2_with fail
    go_ret
    exact ⟨rfl, below_steps HB1.out HB5.out⟩
  by_cases q4 : 1114111 < y
  · go_wp2_with fail
    go_ret
    exact ⟨rfl, below_steps HB1.out HB5.out⟩
  go_wp2_with fail
  refine (pclass12_any v5 L x _ (HL.out _ (Below.refl _ _))).mono ?_
  rintro e w6 ⟨rfl, hb6⟩
  have HB6 := Lib.hid (below_steps HB5.out hb6)
  have HL6 := Lib.hid (HL.out _ hb6)
  clear hb6 e0 e1 e2
  obtain ⟨e0, e1, e2⟩ := HF.out _ HB6.out
  go_wp2_with fail
  refine (pclass12_any v5 L y _ HL6.out).mono ?_
  rintro e w7 ⟨rfl, hb7⟩
  have HB7 := Lib.hid (below_steps HB6.out hb7)
  clear hb7 e0 e1 e2
  obtain ⟨e0, e1, e2⟩ := HF.out _ HB7.out
  by_cases hc : clsN L x = clsN L y
  rotate_left
  · have hc2 : (clsN L x != clsN L y) = true := by simpa using hc
    clear hc
    go_wp2_with fail
    go_ret
    exact ⟨rfl, below_steps HB1.out HB7.out⟩
  have HO : Hid (OneClass p L x y) := Lib.hid ⟨⟨by omega, by omega⟩, ⟨by omega, by omega⟩, hc, HR.out, HM.out⟩
  have hnn : n ≤ 10000 := by rw [← HN.out]; exact HR.out.2.1
  have HBS := Lib.hid HO.out.base
  clear HL HL6 HM
  go_wp2_with fail
  go_loopw [9] (fun i wr => ∃ k : Nat, k ≤ n ∧ i = .int .i64 k ∧ Below w1.heap.size w1 wr) (fun i _ => n - (intOf i).toNat)
  case atStart => exact ⟨0, Nat.zero_le _, rfl, HB7.out⟩
  case round =>
    obtain ⟨k, hk, rfl, hT⟩ := hrel
    have HT := Lib.hid hT
    clear hT e0 e1 e2
    obtain ⟨e0, e1, e2⟩ := HF.out _ HT.out
    by_cases hkn : k < n
    · have hkl : k < p.ins.length := by rw [HN.out]; exact hkn
      have hkz : (k : Int) < (n : Int) := by omega
      obtain ⟨b, o, X, a2, s, c2, hA, hX, hmX, hsl, hat, ⟨-, -, -, q3, -⟩, q5, -, -⟩ := HIS.out.at' k hkl
      have HOX := Lib.hid (HO.out.has hmX)
      subst hA
      have HS2 : Hid (∀ W, Below w1.heap.size w1 W → W.cell? ⟨w.heap.size, 0, none⟩ = some (.slice (some ⟨b, o, none⟩) n c) ∧ W.cell? ⟨b, o + k * 5 + 3, none⟩ = some (.slice a2 s c2)) := Lib.hid fun W hW => ⟨(HF.out W hW).1, cell_on hW q3⟩
      have HRG : Hid (∀ W, Below w1.heap.size w1 W → Rgs W (.slice a2 s c2) X.set) := Lib.hid fun W hW => q5.below hW
      clear hX hmX hsl hat q3 q5 hkl
      go_upto_region 10 with (fail)
      clear e0 e1 e2 hc q1 q2 q3 q4
      refine wp_region_held_drew (S := (fun W => W.cell? ⟨w.heap.size, 0, none⟩ = some (.slice (some ⟨b, o, none⟩) n c) ∧ W.cell? ⟨b, o + k * 5 + 3, none⟩ = some (.slice a2 s c2))) (by kernel_rfl) (HS2.out _ HT.out.drew) (fun hHeld => ?_)
      refine wpAnyH_take (i := 0) (oi := _) (v := ?_) rfl (by kernel_rfl) (by kernel_rfl) (by kernel_rfl) (fun _ _ _ h => h) (Or.inl ⟨by rfl, ?_⟩) (by assumption) ?_
      rotate_left 1
      · (intro w hSw; (try dsimp only at hSw); go_simp; (try with_reducible rfl))
      try simp only [List.getElem_toArray, List.getElem_cons_zero, List.getElem_cons_succ, Act.put, List.setIfInBounds_toArray, List.set_cons_zero, List.set_cons_succ]
      refine wpAnyH_take (i := 1) (oi := _) (v := ?_) rfl (by kernel_rfl) (by kernel_rfl) (by kernel_rfl) (fun _ _ _ h => h) (Or.inl ⟨by rfl, ?_⟩) (by assumption) ?_
      rotate_left 1
      · (intro w hSw; (try dsimp only at hSw); go_simp; (try with_reducible rfl))
      try simp only [List.getElem_toArray, List.getElem_cons_zero, List.getElem_cons_succ, Act.put, List.setIfInBounds_toArray, List.set_cons_zero, List.set_cons_succ]
      refine wpAnyH_take (i := 2) (oi := _) (v := ?_) rfl (by kernel_rfl) (by kernel_rfl) (by kernel_rfl) (fun _ _ _ h => h) (Or.inl ⟨by rfl, ?_⟩) (by assumption) ?_
      rotate_left 1
      · (intro w hSw; (try dsimp only at hSw); go_simp; (try with_reducible rfl))
      try simp only [List.getElem_toArray, List.getElem_cons_zero, List.getElem_cons_succ, Act.put, List.setIfInBounds_toArray, List.set_cons_zero, List.set_cons_succ]
      refine wpAnyH_take (i := 3) (oi := _) (v := ?_) rfl (by kernel_rfl) (by kernel_rfl) (by kernel_rfl) (fun _ _ _ h => h) (Or.inl ⟨by rfl, ?_⟩) (by assumption) ?_
      rotate_left 1
      · (intro w hSw; (try dsimp only at hSw); go_simp; (try with_reducible rfl))
      try simp only [List.getElem_toArray, List.getElem_cons_zero, List.getElem_cons_succ, Act.put, List.setIfInBounds_toArray, List.set_cons_zero, List.set_cons_succ]
      refine wpAnyH_take (i := 4) (oi := _) (v := ?_) rfl (by kernel_rfl) (by kernel_rfl) (by kernel_rfl) (fun _ _ _ h => h) (Or.inl ⟨by rfl, ?_⟩) (by assumption) ?_
      rotate_left 1
      · (intro w hSw; (try dsimp only at hSw); go_simp; (try with_reducible rfl))
      try simp only [List.getElem_toArray, List.getElem_cons_zero, List.getElem_cons_succ, Act.put, List.setIfInBounds_toArray, List.set_cons_zero, List.set_cons_succ]
      refine wpAnyH_take (i := 5) (oi := _) (v := ?_) rfl (by kernel_rfl) (by kernel_rfl) (by kernel_rfl) (fun _ _ _ h => h) (Or.inl ⟨by rfl, ?_⟩) (by assumption) ?_
      rotate_left 1
      · (intro w hSw; (try dsimp only at hSw); go_simp; (try with_reducible rfl))
      try simp only [List.getElem_toArray, List.getElem_cons_zero, List.getElem_cons_succ, Act.put, List.setIfInBounds_toArray, List.set_cons_zero, List.set_cons_succ]
      refine wpAnyH_take (i := 6) (oi := _) (v := ?_) rfl (by kernel_rfl) (by kernel_rfl) (by kernel_rfl) (fun _ _ _ h => h) (Or.inl ⟨by rfl, ?_⟩) (by assumption) ?_
      rotate_left 1
      · (intro w hSw; (try dsimp only at hSw); go_simp; (try with_reducible rfl))
      try simp only [List.getElem_toArray, List.getElem_cons_zero, List.getElem_cons_succ, Act.put, List.setIfInBounds_toArray, List.set_cons_zero, List.set_cons_succ]
      refine wpAnyH_take (i := 8) (oi := _) (v := ?_) rfl (by kernel_rfl) (by kernel_rfl) (by kernel_rfl) (fun _ _ _ h => h) (Or.inl ⟨by rfl, ?_⟩) (by assumption) ?_
      rotate_left 1
      · (intro w hSw; (try dsimp only at hSw); go_simp; (try with_reducible rfl))
      try simp only [List.getElem_toArray, List.getElem_cons_zero, List.getElem_cons_succ, Act.put, List.setIfInBounds_toArray, List.set_cons_zero, List.set_cons_succ]
      refine wpAnyH_take (i := 9) (oi := _) (v := ?_) rfl (by kernel_rfl) (by kernel_rfl) (by kernel_rfl) (fun _ _ _ h => h) (Or.inl ⟨by rfl, ?_⟩) (by assumption) ?_
      rotate_left 1
      · (intro w hSw; (try dsimp only at hSw); go_simp; (try with_reducible rfl))
      try simp only [List.getElem_toArray, List.getElem_cons_zero, List.getElem_cons_succ, Act.put, List.setIfInBounds_toArray, List.set_cons_zero, List.set_cons_succ]
      refine wpAnyH_take (i := 10) (oi := _) (v := ?_) rfl (by kernel_rfl) (by kernel_rfl) (by kernel_rfl) (fun _ _ _ h => h) (Or.inl ⟨by rfl, ?_⟩) (by assumption) ?_
      rotate_left 1
      · (intro w hSw; (try dsimp only at hSw); go_simp; (try with_reducible rfl))
      try simp only [List.getElem_toArray, List.getElem_cons_zero, List.getElem_cons_succ, Act.put, List.setIfInBounds_toArray, List.set_cons_zero, List.set_cons_succ]
      refine wpAnyH_take (i := 11) (oi := _) (v := ?_) rfl (by kernel_rfl) (by kernel_rfl) (by kernel_rfl) (fun _ _ _ h => h) (Or.inl ⟨by rfl, ?_⟩) (by assumption) ?_
      rotate_left 1
      · (intro w hSw; (try dsimp only at hSw); go_simp; (try with_reducible rfl))
      try simp only [List.getElem_toArray, List.getElem_cons_zero, List.getElem_cons_succ, Act.put, List.setIfInBounds_toArray, List.set_cons_zero, List.set_cons_succ]
      refine wpAnyH_take (i := 12) (oi := _) (v := ?_) rfl (by kernel_rfl) (by kernel_rfl) (by kernel_rfl) (fun _ _ _ h => h) (Or.inl ⟨by rfl, ?_⟩) (by assumption) ?_
      rotate_left 1
      · (intro w hSw; (try dsimp only at hSw); go_simp; (try with_reducible rfl))
      try simp only [List.getElem_toArray, List.getElem_cons_zero, List.getElem_cons_succ, Act.put, List.setIfInBounds_toArray, List.set_cons_zero, List.set_cons_succ]
      refine wpAnyH_take (i := 13) (oi := _) (v := ?_) rfl (by kernel_rfl) (by kernel_rfl) (by kernel_rfl) (fun _ _ _ h => h) (Or.inl ⟨by rfl, ?_⟩) (by assumption) ?_
      rotate_left 1
      · (intro w hSw; (try dsimp only at hSw); go_simp; (try with_reducible rfl))
      try simp only [List.getElem_toArray, List.getElem_cons_zero, List.getElem_cons_succ, Act.put, List.setIfInBounds_toArray, List.set_cons_zero, List.set_cons_succ]
      refine wpAnyH_take (i := 14) (oi := _) (v := ?_) rfl (by kernel_rfl) (by kernel_rfl) (by kernel_rfl) (fun _ _ _ h => h) (Or.inl ⟨by rfl, ?_⟩) (by assumption) ?_
      rotate_left 1
      · (intro w hSw; (try dsimp only at hSw); go_simp; (try with_reducible rfl))
      try simp only [List.getElem_toArray, List.getElem_cons_zero, List.getElem_cons_succ, Act.put, List.setIfInBounds_toArray, List.set_cons_zero, List.set_cons_succ]
      refine wpAnyH_ready (rs := [7]) (by kernel_rfl) (by simp) ?_
      refine AllReadyH.cons (o := _) rfl (fun K hK => ?_) ?_
      · go_simp
        refine (rhas_any _ X.set x _ (HRG.out _ HT.out.drew)).mono ?_
        rintro e w8 ⟨B, rfl, hB, q, hq⟩
        have HB8 : Hid (Below w1.heap.size w1 w8) := Lib.hid (by rw [hq]; exact below_steps HT.out.drew (below_draws _ q))
        clear hq
        have HQ := Lib.hid hB
        have hS8 := HS2.out _ HB8.out
        clear hB
        go_wp2_with fail
        refine hK.out _ _ hS8 (fun hHeld => ?_)
        clear hK K
        try simp only [List.getElem_toArray, List.getElem_cons_zero, List.getElem_cons_succ, Act.put, List.setIfInBounds_toArray, List.set_cons_zero, List.set_cons_succ]
        refine wpAnyH_ready (rs := [15]) (by kernel_rfl) (by simp) ?_
        refine AllReadyH.cons (o := _) rfl (fun K hK => ?_) ?_
        · go_simp
          refine (rhas_any _ X.set y _ (HRG.out _ HB8.out)).mono ?_
          rintro e w9 ⟨B2, rfl, hB2, q2, hq⟩
          have HB9 : Hid (Below w1.heap.size w1 w9) := Lib.hid (by rw [hq]; exact below_steps HB8.out (below_draws _ q2))
          clear hq
          obtain rfl : B = B2 := Bool.eq_iff_iff.2 (HQ.out.trans (HOX.out.trans hB2.symm))
          have hS9 := HS2.out _ HB9.out
          clear hB2
          go_wp2_with fail
          refine hK.out _ _ hS9 (fun hHeld => ?_)
          clear hK K
          try simp only [List.getElem_toArray, List.getElem_cons_zero, List.getElem_cons_succ, Act.put, List.setIfInBounds_toArray, List.set_cons_zero, List.set_cons_succ]
          refine wpAnyH_take (i := 16) (oi := _) (v := ?_) rfl (by kernel_rfl) (by kernel_rfl) (by kernel_rfl) (fun _ _ _ h => h) (Or.inl ⟨by rfl, ?_⟩) (by assumption) ?_
          rotate_left 1
          · (intro w hSw; (try dsimp only at hSw); go_simp; (try with_reducible rfl))
          try simp only [List.getElem_toArray, List.getElem_cons_zero, List.getElem_cons_succ, Act.put, List.setIfInBounds_toArray, List.set_cons_zero, List.set_cons_succ]
          refine wpAnyH_done (by kernel_rfl) ?_ _
          go_wp2_with fail
          go_roundw
          case rel => exact ⟨k + 1, by omega, by go_num, HB9.out⟩
          case measure => simp [intOf]; omega
        exact AllReadyH.nil
      exact AllReadyH.nil
    · obtain rfl : k = n := by omega
      have hw12 := HBS.out.1
      have h10 : (x == 10) = (y == 10) := by
        have := HBS.out.2
        rw [Bool.eq_iff_iff]
        simpa using this
      go_wp2_with (go_at_call 17; refine (rword12_any _ _).mono ?_; rintro e w' ⟨rfl, rfl⟩)
      go_ret
      exact ⟨by simp, below_steps HB1.out HT.out⟩
end Go.Proofs.Ythffdmncdoogpaa
