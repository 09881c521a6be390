/-
  The parts of a certificate's bytes, and rows of certificates that were read.
-/
import Derived.Test.YtkniifopfgeopaaDoorHSchEnc
namespace Go.Proofs.YtkniifopfgeopaaDoor
open Go.RowKit
set_option linter.unusedVariables false

/-- What the parts of a certificate's bytes are. -/
structure CtCut (X : List Int) (x : Ct) (rest : List Int) : Prop where
  c0 : X.getD 0 0 = (x.s.size : Int)
  c1 : (X.take (1 + x.s.size)).drop 1 = letters x.s
  c2 : (X.drop (1 + x.s.size)).take 8 = gbytes x.k
  c3 : (X.drop (1 + x.s.size + 8)).take 4 = be 4 x.f
  c4 : (X.drop (1 + x.s.size + 8 + 4)).take 4 = be 4 x.t
  c5 : X.getD (1 + x.s.size + 8 + 4 + 4) 0 = if x.a then 1 else 0
  c6 : pieceR X (1 + (x.s.size : Int) + 8 + 4 + 4 + 1) 16 = (x.g, true)
  c7 : X.take (1 + x.s.size + 8 + 4 + 4 + 1) = bdL x
  c8 : X.drop (1 + x.s.size + 8 + 4 + 4 + 1 + 16) = rest
  ln : X.length = 1 + x.s.size + 8 + 4 + 4 + 1 + 16 + rest.length
/-- The memory behind a certificate that was read: its signature. -/
def NCt : NestR Ct where
  ts := [5]
  ok w base x := Bod w base x.p x.n x.c x.g
  keep h hg ho := h.grown hg (fun r hr => (ho r hr).imp id (fun h2 cur fz e => h2 cur _ fz e (by simp)))
  mono h hb := h.mono hb
theorem infoCt6 : (Tryd.prog.info? 37).map (fun i => (i.zero, i.size, i.bytes)) = some (some (.agg #[.string ⟨#[]⟩, .int .u64 0, .int .i64 0, .int .i64 0, .bool false, .slice none 0 0]), 6, 72) := by kernel_rfl
theorem knownCt : KnownR Tryd.prog KCt 27 72 := by
  refine ⟨Tryd.underlying27, ?_⟩
  obtain ⟨i0, hi, hz0, hz1, hz2⟩ := info_parts infoCt6
  exact ⟨i0, _, hi, hz0, hz1, hz2, rfl⟩
theorem srcCt (w : World) (x : Ct) (T : TypeId) : SrcG KCt (w.alloc (.cells #[.string x.s, .int .u64 (x.k : Int), .int .i64 x.f, .int .i64 x.t, .bool x.a, .slice x.p x.n x.c] T)) (some ⟨w.heap.size, 0, none⟩) 1 [x] := SrcG.new KCt w [x] T
end Go.Proofs.YtkniifopfgeopaaDoor
