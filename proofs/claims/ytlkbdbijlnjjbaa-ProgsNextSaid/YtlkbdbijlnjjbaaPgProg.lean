/- The program's Closure, at any program and any places. -/
import Derived.Test.YtlkbdbijlnjjbaaPgTo
set_option linter.unusedVariables false
namespace Go.Proofs.Ytlkbdbijlnjjbaa
open Go Go.RowKit

set_option maxHeartbeats 1600000 in
set_option maxRecDepth 100000 in
theorem pclose_any (p : Pg) (v u : Value) (pcs : List Int) (at' : Int) (long : Bool) (w : World) (h : PgV w p v) (g : Zs w u pcs) (hlen : pcs.length ≤ 17592186044416) :
    Calls Try.prog 14 #[v, u, .int .i64 at', .bool long] w (ClosePost (closeG p pcs at' long) w) := by
  have H0 := Lib.hid h
  obtain ⟨A, n, c, hn, rfl, hI, hs, hc, hnb⟩ := h.opened
  obtain ⟨w1, hw1⟩ : ∃ w1, w.alloc (.cells #[.slice A n c, .int .i64 p.start, .int .i64 p.caps] 24) = w1 := ⟨_, rfl⟩
  obtain ⟨hb1, e0, e1, e2, hz1⟩ := box3_new w _ _ _ _ hw1
  have HRT := Lib.hid (pright12_any p _ w1 (H0.out.below hb1))
  have HAP := Lib.hid fun W (hW : Below w1.heap.size w1 W) => pplaces_any p _ u pcs W (H0.out.below (below_steps hb1 hW)) (g.below (below_steps hb1 hW))
  have HTO := Lib.hid fun W (hW : Below w1.heap.size w1 W) (hG : GoodPg p pcs) => pto_any p (.slice A n c) u pcs at' long W (hI.below (below_steps hb1 hW)) (g.below (below_steps hb1 hW)) hG hlen
  have HF : Hid (∀ W, Below w1.heap.size w1 W → W.cell? ⟨w.heap.size, 0, none⟩ = some (.slice A n c) ∧ W.cell? ⟨w.heap.size, 1, none⟩ = some (.int .i64 p.start) ∧ W.cell? ⟨w.heap.size, 2, none⟩ = some (.int .i64 p.caps)) := Lib.hid fun W hW => ⟨cell_on hW e0, cell_on hW e1, cell_on hW e2⟩
  obtain ⟨A2, c2, rfl, -⟩ := g
  obtain ⟨m, hm⟩ : ∃ m, pcs.length = m := ⟨_, rfl⟩
  rw [hm] at HAP HTO ⊢
  have HB1 := Lib.hid hb1; have HW1 := Lib.hid hw1
  clear h hI hs hc hw1 hb1 hz1 hn hm hlen H0
  go_enter Try.func14, Try.ntmps14
  go_upto_region 1 with (fail)
  rw [HW1.out]
  go_wp2_with fail
  refine HRT.out.mono ?_
  rintro e w3 ⟨B, rfl, hq, hb3⟩
  have HB3 := Lib.hid hb3; have HQ := Lib.hid hq
  clear hb3 hq HRT e0 e1 e2
  obtain ⟨e0, e1, e2⟩ := HF.out _ HB3.out
  cases B
  · have hbad := close_bad (p := p) (pcs := pcs) at' long (fun h => Bool.false_ne_true (HQ.out.2 h.1))
    have HBAD := Lib.hid hbad
    clear HQ hbad
    go_wp2_with fail
    go_ret2
    exact ⟨.slice none 0 0, by rw [HBAD.out]; rfl, by rw [HBAD.out]; exact ownZ_none _ _, below_steps HB1.out HB3.out⟩
  have HR := Lib.hid (HQ.out.1 rfl)
  clear HQ
  go_wp2_with fail
  refine (HAP.out _ HB3.out).mono ?_
  rintro e w4 ⟨B, rfl, hq, hb4⟩
  have HB4 := Lib.hid (below_steps HB3.out hb4); have HQ := Lib.hid hq
  clear hb4 hq HAP e0 e1 e2
  obtain ⟨e0, e1, e2⟩ := HF.out _ HB4.out
  cases B
  · have hbad := close_bad (p := p) (pcs := pcs) at' long (fun h => Bool.false_ne_true (HQ.out.2 h.2))
    have HBAD := Lib.hid hbad
    clear HQ hbad
    go_wp2_with fail
    go_ret2
    exact ⟨.slice none 0 0, by rw [HBAD.out]; rfl, by rw [HBAD.out]; exact ownZ_none _ _, below_steps HB1.out HB4.out⟩
  have HG : Hid (GoodPg p pcs) := Lib.hid ⟨HR.out, HQ.out.1 rfl⟩
  clear HQ
  go_wp2_with fail
  refine (HTO.out _ HB4.out HG.out).mono ?_
  rintro e w5 ⟨v5, rfl, ho5, hb5⟩
  have HO5 := Lib.hid ho5; have HB5 := Lib.hid (below_steps (below_steps HB1.out HB4.out) hb5)
  have HS := Lib.hid (below_steps HB1.out HB4.out).size
  clear hb5 ho5 HTO e0 e1 e2
  go_wp2_with fail
  go_ret2
  exact ⟨v5, rfl, HO5.out.mono HS.out, HB5.out⟩
end Go.Proofs.Ytlkbdbijlnjjbaa
