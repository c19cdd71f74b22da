/- SyntaxQuotes, of texts of at most 2^20 bytes (beyond 2^46 or so Go refuses to grow the slice). From the program's contract pquote_any. -/
import Derived.Test.YtbclhkogjmmgnaaGreatDoorK58
set_option maxHeartbeats 1600000
set_option maxRecDepth 100000
set_option linter.unusedVariables false
namespace Go.Proofs.YtbclhkogjmmgnaaGreatDoor
open Go Go.RowKit
theorem syquotes_any (s : ByteArray) (w : World) (hs : s.size ≤ 1048576) (hT : TabsY w) : Calls Tryz.prog 3 #[.string s] w fun e w' => e = .returned (.bool true) ∧ Below w.heap.size w w' := by
 have HH := Hd (shead_any w hT)
 obtain ⟨T,hT2⟩ : ∃ T,quoteY s = T := ⟨_,rfl⟩
 have HP := Hd (fun W => pquote_any s W hs)
 have HQ := Hd (fun W => rquote_any s W (by omega))
 rw [hT2] at HP HQ
 clear hT hT2
 go_enter Tryz.func3,Tryz.ntmps3
 go_wp2_with fail
 refine HH.out.mono ?_
 rintro e w1 ⟨rfl,hb⟩
 have HB := Hd hb
 clear hb HH
 go_wp2_with fail
 refine (HP.out _).mono ?_
 rintro e w2 ⟨rfl,hb⟩
 have HB2 := Hd (HB.out.trans (hb.mono HB.out.size))
 clear hb HB
 go_wp2_with fail
 refine (HQ.out _).mono ?_
 rintro e w3 ⟨rfl,hb⟩
 have HB3 := Hd (HB2.out.trans (hb.mono HB2.out.size))
 clear hb HB2
 go_wp2_with fail
 go_ret
 exact ⟨rfl,HB3.out⟩
end Go.Proofs.YtbclhkogjmmgnaaGreatDoor
