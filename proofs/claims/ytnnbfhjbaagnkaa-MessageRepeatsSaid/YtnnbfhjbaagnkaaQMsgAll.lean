/-
  All that the laws of chapter 7 on drawn messages lean on.
-/
import Derived.Test.YtnnbfhjbaagnkaaQMsgMath
import Derived.Test.YtnnbfhjbaagnkaaQMsgAwake
namespace Go.Proofs.Ytnnbfhjbaagnkaa
end Go.Proofs.Ytnnbfhjbaagnkaa
