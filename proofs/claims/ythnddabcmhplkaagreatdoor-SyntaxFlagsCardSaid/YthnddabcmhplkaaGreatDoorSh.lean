/- A fact, hidden: in few letters. No condition. -/
import Derived.Lib.Hide
namespace Go.Proofs.YthnddabcmhplkaaGreatDoor
open Go Go.RowKit
theorem Hd {p : Prop} (h : p) : Hid p := Lib.hid h
end Go.Proofs.YthnddabcmhplkaaGreatDoor
