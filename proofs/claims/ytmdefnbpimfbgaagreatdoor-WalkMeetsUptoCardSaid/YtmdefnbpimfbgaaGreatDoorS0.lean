/-
  A short name for hiding a fact.
-/
import Derived.Lib.Hide
namespace Go.Proofs.YtmdefnbpimfbgaaGreatDoor
theorem lh {p:Prop}(h:p):RowKit.Hid p:=Lib.hid h
end Go.Proofs.YtmdefnbpimfbgaaGreatDoor
