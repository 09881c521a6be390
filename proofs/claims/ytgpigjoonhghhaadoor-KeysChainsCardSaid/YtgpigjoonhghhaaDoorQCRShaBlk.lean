/-
  The document's Block: a block hashed.
-/
import Derived.Test.YtgpigjoonhghhaaDoorQCRShaBlock
import Derived.Test.YtgpigjoonhghhaaDoorQCShaSum
import Derived.Deep.RegionHeld3
namespace Go.Proofs.YtgpigjoonhghhaaDoor
open Go.RowKit
set_option linter.unusedVariables false
def flat (T : H8) (k x : Int) : H8 :=
  ⟨(T.h + bits .xor .u32 (bits .xor .u32 (rotr T.e 6) (rotr T.e 11)) (rotr T.e 25) + bits .xor .u32 (bits .and .u32 T.e T.f) (bits .and .u32 (bits .xor .u32 4294967295 T.e) T.g) + k + x + (bits .xor .u32 (bits .xor .u32 (rotr T.a 2) (rotr T.a 13)) (rotr T.a 22) + bits .xor .u32 (bits .xor .u32 (bits .and .u32 T.a T.b) (bits .and .u32 T.a T.c)) (bits .and .u32 T.b T.c))) % 4294967296,
   T.a, T.b, T.c,
   (T.d + (T.h + bits .xor .u32 (bits .xor .u32 (rotr T.e 6) (rotr T.e 11)) (rotr T.e 25) + bits .xor .u32 (bits .and .u32 T.e T.f) (bits .and .u32 (bits .xor .u32 4294967295 T.e) T.g) + k + x)) % 4294967296,
   T.e, T.f, T.g⟩
end Go.Proofs.YtgpigjoonhghhaaDoor
