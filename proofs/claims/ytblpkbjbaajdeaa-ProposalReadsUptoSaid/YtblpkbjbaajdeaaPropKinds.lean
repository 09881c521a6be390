/-
  Rows of transforms and of proposals in memory: what they are, how they stay, how they grow.
-/
import Derived.Test.YtblpkbjbaajdeaaRowG
import Derived.Test.YtblpkbjbaajdeaaBod
import Derived.Test.YtblpkbjbaajdeaaPropMath
namespace Go.Proofs.Ytblpkbjbaajdeaa
open Go.RowKit
set_option linter.unusedVariables false

/-- Transforms: three numbers. -/
def KTr : KindR Tr where
  e := 63
  k := 3
  cs x := [.int .i64 x.t, .int .i64 x.i, .int .i64 x.k]
  len _ := rfl
  one x u hu := by
    simp at hu
    rcases hu with rfl | rfl | rfl <;> rfl
  pos := by decide
/-- The numbers of a transform are ints. -/
def IntT (x : Tr) : Prop := (-9223372036854775808 ≤ x.t ∧ x.t ≤ 9223372036854775807) ∧ (-9223372036854775808 ≤ x.i ∧ x.i ≤ 9223372036854775807) ∧ (-9223372036854775808 ≤ x.k ∧ x.k ≤ 9223372036854775807)
def NTr : NestR Tr where
  ts := []
  ok _ _ x := IntT x
  keep h _ _ := h
  mono h _ := h
def DTr : ReadN Tr where
  ok _ x := IntT x
  keep h _ := h

/-- A proposal with the places of its SPI and of its transforms. -/
structure PrP where
  n : Int
  p : Int
  sp : Option Addr
  sn : Nat
  sc : Nat
  s : List Int
  tp : Option Addr
  tn : Nat
  tc : Nat
  ts : List Tr
def PrP.pr (x : PrP) : Pr := ⟨x.n, x.p, x.s, x.ts⟩
def KPr : KindR PrP where
  e := 66
  k := 4
  cs x := [.int .i64 x.n, .int .i64 x.p, .slice x.sp x.sn x.sc, .slice x.tp x.tn x.tc]
  len _ := rfl
  one x u hu := by
    simp at hu
    rcases hu with rfl | rfl | rfl | rfl <;> rfl
  pos := by decide
/-- The numbers of a proposal are ints. -/
def IntP (x : PrP) : Prop := (-9223372036854775808 ≤ x.n ∧ x.n ≤ 9223372036854775807) ∧ (-9223372036854775808 ≤ x.p ∧ x.p ≤ 9223372036854775807)
/-- The SPI and the transforms lie in blocks of the call's own. -/
structure OkN (w : World) (base : Nat) (x : PrP) : Prop where
  int : IntP x
  s : Bod w base x.sp x.sn x.sc x.s
  ts : RowG KTr NTr w base (.slice x.tp x.tn x.tc) x.ts
theorem RowG.off {w w' : World} {base : Nat} {v : Value} {l : List Tr} {row : Option Nat} (h : RowG KTr NTr w base v l) (hg : w.grownBy w' row) (hr : OffT [63] w base row) : RowG KTr NTr w' base v l := by
  refine h.grown hg (fun r hrow hv => ?_) (fun r hrow => Or.inr (fun _ _ _ _ hm => by cases hm))
  have h1 := h.lt r hv
  rcases hr r hrow with h2 | h2
  · omega
  · rcases h.own.2 with ⟨rfl, _⟩ | ⟨g, cap, cur, rfl, hg2, hh, _⟩
    · simp [Value.ownBlock] at hv
    · simp [Value.ownBlock] at hv
      subst hv
      exact h2 _ _ _ hh (by simp [KTr])
def NPr : NestR PrP where
  ts := [5, 63]
  ok := OkN
  keep h hg hr := ⟨h.int, h.s.grown hg (fun r hrow => by
    rcases hr r hrow with h1 | h1
    · exact Or.inl h1
    · exact Or.inr (fun cur fz e => h1 _ _ _ e (by simp))), h.ts.off hg (hr.sub (by simp))⟩
  mono h hb := ⟨h.int, h.s.mono hb, h.ts.mono hb⟩
/-- What can be read of a proposal. -/
structure OkD (w : World) (x : PrP) : Prop where
  int : IntP x
  s : Byt w x.sp x.sn x.sc x.s
  ts : RdG KTr DTr w x.tp x.tn x.tc x.ts
def DPr : ReadN PrP where
  ok := OkD
  keep h hk := ⟨h.int, h.s.keep hk, h.ts.keep hk⟩
theorem OkN.rd {w : World} {base : Nat} {x : PrP} (h : OkN w base x) : OkD w x := by
  have hl : x.ts.length = x.tn := by
    rcases h.ts.form rfl with ⟨p, c, e⟩
    simp at e
    exact e.2.1.symm
  obtain ⟨p, c, e, hr⟩ := h.ts.rd (D := DTr) hl (fun _ h => h)
  simp at e
  obtain ⟨rfl, rfl⟩ := e
  exact ⟨h.int, h.s.byt, hr⟩

theorem Try.infoTr : (Try.prog.info? 63).map (fun i => (i.zero, i.size, i.bytes)) = some (some (.agg #[.int .i64 0, .int .i64 0, .int .i64 0]), 3, 24) := by kernel_rfl
theorem Try.infoPr : (Try.prog.info? 66).map (fun i => (i.zero, i.size, i.bytes)) = some (some (.agg #[.int .i64 0, .int .i64 0, .slice none 0 0, .slice none 0 0]), 4, 64) := by kernel_rfl
theorem knownTr : KnownR Try.prog KTr 64 24 := by
  refine ⟨Try.underlying64, ?_⟩
  obtain ⟨i0, hi, hz0, hz1, hz2⟩ := info_parts Try.infoTr
  exact ⟨i0, _, hi, hz0, hz1, hz2, rfl⟩
theorem knownPr : KnownR Try.prog KPr 29 64 := by
  refine ⟨Try.underlying29, ?_⟩
  obtain ⟨i0, hi, hz0, hz1, hz2⟩ := info_parts Try.infoPr
  exact ⟨i0, _, hi, hz0, hz1, hz2, rfl⟩
/-- One element that was just laid out. -/
theorem srcTr (w : World) (t i k : Int) (T : TypeId) : SrcG KTr (w.alloc (.cells #[.int .i64 t, .int .i64 i, .int .i64 k] T)) (some ⟨w.heap.size, 0, none⟩) 1 [⟨t, i, k⟩] := SrcG.new KTr w [⟨t, i, k⟩] T
theorem srcPr (w : World) (x : PrP) (T : TypeId) : SrcG KPr (w.alloc (.cells #[.int .i64 x.n, .int .i64 x.p, .slice x.sp x.sn x.sc, .slice x.tp x.tn x.tc] T)) (some ⟨w.heap.size, 0, none⟩) 1 [x] := SrcG.new KPr w [x] T
end Go.Proofs.Ytblpkbjbaajdeaa
