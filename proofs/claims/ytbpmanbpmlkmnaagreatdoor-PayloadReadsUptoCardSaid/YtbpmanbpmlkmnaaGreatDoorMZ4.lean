/-
  Rows of selectors in memory; the lists of selectors that a list of choices makes.
  What package selector writes of an address and of a selector.
-/
import Derived.Test.YtbpmanbpmlkmnaaGreatDoorMZ0
import Derived.Test.YtbpmanbpmlkmnaaGreatDoorMZ1
import Derived.Test.YtbpmanbpmlkmnaaGreatDoorMMkSel
import Derived.Deep.RegionHeld3
namespace Go.Proofs.YtbpmanbpmlkmnaaGreatDoor
open Go.RowKit
set_option linter.unusedVariables false

/-- Selectors: nine numbers. -/
def KSl : KindR Sl where
  e := 98
  k := 9
  cs x := [.int .i64 x.p, .int .i64 x.a, .int .i64 x.b, .int .i64 x.lo.f, .int .u64 x.lo.h, .int .u64 x.lo.l, .int .i64 x.hi.f, .int .u64 x.hi.h, .int .u64 x.hi.l]
  len _ := rfl
  one x u hu := by
    simp at hu
    rcases hu with rfl | rfl | rfl | rfl | rfl | rfl | rfl | rfl | rfl <;> rfl
  pos := by decide
def NSl : NestR Sl where
  ts := []
  ok _ _ x := FitS x
  keep h _ _ := h
  mono h _ := h
def DSlr : ReadN Sl where
  ok _ x := FitS x
  keep h _ := h
theorem Tryz.infoSl : (Tryz.prog.info? 98).map (fun i => (i.zero, i.size, i.bytes)) = some (some (.agg #[.int .i64 0, .int .i64 0, .int .i64 0, .int .i64 0, .int .u64 0, .int .u64 0, .int .i64 0, .int .u64 0, .int .u64 0]), 9, 72) := by kernel_rfl
theorem knownSl : KnownR Tryz.prog KSl 43 72 := by
  refine ⟨Tryz.underlying43, ?_⟩
  obtain ⟨i0, hi, hz0, hz1, hz2⟩ := info_parts Tryz.infoSl
  exact ⟨i0, _, hi, hz0, hz1, hz2, rfl⟩
/-- One element that was just laid out. -/
theorem srcSl (w : World) (x : Sl) (T : TypeId) : SrcG KSl (w.alloc (.cells #[.int .i64 x.p, .int .i64 x.a, .int .i64 x.b, .int .i64 x.lo.f, .int .u64 x.lo.h, .int .u64 x.lo.l, .int .i64 x.hi.f, .int .u64 x.hi.h, .int .u64 x.hi.l] T)) (some ⟨w.heap.size, 0, none⟩) 1 [x] := SrcG.new KSl w [x] T
theorem fam_fits {f : Int} {s : Sl} (h : DrawS f s) : FitS s := h.good.fit

/-- Where Selectors stands. -/
structure DLs (W w wx : World) (k : Nat) (f : Int) (v : Value) (l : List Sl) : Prop where
  cod : Cod W wx k
  gr : w.grownBy wx (some k)
  row : RowG KSl NSl wx w.heap.size v l
  all : ∀ s ∈ l, DrawS f s
/-- What Selectors returns. -/
def MadeL (W w : World) (k most : Nat) (e : Ending) (w' : World) : Prop := ∃ (v : Value) (l : List Sl) (f : Int), e = .returned v ∧ (f = 4 ∨ f = 6) ∧ 1 ≤ l.length ∧ l.length ≤ most ∧ DLs W w w' k f v l

set_option maxHeartbeats 1600000 in
set_option maxRecDepth 100000 in
theorem sels_any (W w : World) (k : Nat) (h : Cod W w k) (most : Nat) (hm1 : 1 ≤ most) (hm2 : most ≤ 256) :
    Calls Tryz.prog 38 #[.pointer (some ⟨k, 0, none⟩), .int .i64 most] w (MadeL W w k most) := by
  have hk := h.lt
  have hbase := h.bel.size
  have HC0 := hidden h
  clear h
  go_enter Tryz.func38, Tryz.ntmps38
  go_upto_if 10 with (first
    | (go_at_call_of 18 (Value.int IntKind.i64 4); (with_reducible refine (next_any W _ k HC0.out _ ?_).mono ?_); omega; rintro e w1 ⟨r, rfl, r0, r1, hc, hg⟩; have HC1 := hidden hc; have HG1 := hidden hg; clear hc hg HC0)
    | fail)
  go_cut [5] from 8 to 10 (fun fv wx => ∃ f : Int, fv = .int .i64 f ∧ (f = 4 ∨ f = 6) ∧ w1 = wx)
  case first =>
    rcases hr : (r == 3) with _ | _
    · go_wp2
      go_meet
      case rel => exact ⟨4, rfl, Or.inl rfl, rfl⟩
    · go_wp2
      go_meet
      case rel => exact ⟨6, rfl, Or.inr rfl, rfl⟩
  case rest =>
    obtain ⟨f, rfl, hf, rfl⟩ := hcut
    have HSE := hidden (fun w' (hc : Cod W w' k) => sel_any W w' k hc f hf)
    go_upto_region 6 with (first
      | (go_at_call 18; (with_reducible refine (next_any W _ k HC1.out _ ?_).mono ?_); omega; rintro e w2 ⟨N, rfl, N0, N1, hc, hg⟩; have HC2 := hidden hc; have HG2 := hidden (grown_trans HG1.out hg); clear hc hg HC1 HG1)
      | fail)
    obtain ⟨N, rfl⟩ := Int.eq_ofNat_of_zero_le N0
    go_wp2_with fail
    go_loopw [6, 7] (fun v i wx => ∃ (j : Nat) (l : List Sl), i = .int .i64 j ∧ l.length + j = 1 + N ∧ DLs W w wx k f v l) (fun _ i _ => (intOf i).toNat)
    case atStart => exact ⟨1 + N, [], by simp, by simp, ⟨HC2.out, HG2.out, RowG.nil _ _ _ _, fun s hs => by cases hs⟩⟩
    case round =>
      obtain ⟨j, l, rfl, hj, hdl⟩ := hrel
      obtain ⟨po, co, rfl⟩ := hdl.row.form rfl
      have HD := hidden hdl
      clear hdl HC2 HG2
      by_cases h0 : j = 0
      · subst h0
        go_wp2
        go_ret
        exact ⟨_, l, f, rfl, hf, by omega, by omega, HD.out⟩
      · have hj0 : (0 : Int) < j := by omega
        go_wp2_with (first
          | (go_at_call 68; (with_reducible refine (HSE.out _ HD.out.cod).mono ?_); rintro e w3 ⟨s, rfl, hs, hc, hg⟩; have HS := hidden hs; have HC3 := hidden (hc.alloc (.cells #[.int .i64 s.p, .int .i64 s.a, .int .i64 s.b, .int .i64 s.lo.f, .int .u64 s.lo.h, .int .u64 s.lo.l, .int .i64 s.hi.f, .int .u64 s.hi.h, .int .u64 s.hi.l] 98)); have HG3 := hidden (grown_alloc_new (grown_trans HD.out.gr hg) (.cells #[.int .i64 s.p, .int .i64 s.a, .int .i64 s.b, .int .i64 s.lo.f, .int .u64 s.lo.h, .int .u64 s.lo.l, .int .i64 s.hi.f, .int .u64 s.hi.h, .int .u64 s.hi.l] 98)); have HR3 : Hid (RowG KSl NSl (w3.alloc (.cells #[.int .i64 s.p, .int .i64 s.a, .int .i64 s.b, .int .i64 s.lo.f, .int .u64 s.lo.h, .int .u64 s.lo.l, .int .i64 s.hi.f, .int .u64 s.hi.h, .int .u64 s.hi.l] 98)) w.heap.size (.slice po l.length co) l) := hidden ((HD.out.row.low hg hk).alloc _); clear hs hc hg)
          | (at_builtin; go_loud (refine wpList_append_g knownSl (by simp [NSl]) _ rfl _ _ rfl w.heap.size _ l rfl HR3.out _ 1 1 [s] rfl (srcSl w3 s _) (fun x hx => by rw [List.mem_singleton.1 hx]; exact fam_fits HS.out) (by unfold maxLen; omega) (by omega) (by have := HG3.out.size; simp at this ⊢; omega) ?_))
          | fail)
        intro v' w4 hr4 hg4
        have hlt := HR3.out.lt
        have HC4 := hidden (HC3.out.grown hg4 (by intro e; have := hlt k e.symm; omega) (fun j hj => by have := (hlt j hj).1; omega))
        have HG4 := hidden (grown_own HG3.out hg4 (fun j hj => (hlt j hj).1))
        have HR4 := hidden hr4
        clear hr4 hg4 hlt HR3 HC3 HG3
        go_wp2
        go_roundw
        case rel => exact ⟨j - 1, l ++ [s], by go_num, by simp; omega, ⟨HC4.out, HG4.out, HR4.out, fun t ht => by
          rcases List.mem_append.1 ht with ht | ht
          · exact HD.out.all t ht
          · rw [List.mem_singleton.1 ht]; exact HS.out⟩⟩
        case measure => simp [intOf]; omega
end Go.Proofs.YtbpmanbpmlkmnaaGreatDoor

namespace Go.Proofs.YtbpmanbpmlkmnaaGreatDoor
open Go.RowKit
set_option linter.unusedVariables false

/-- Bytes of the call's own. -/
def GotB (w : World) (ys : List Int) (e : Ending) (w' : World) : Prop := ∃ q m d, e = .returned (.slice q m d) ∧ ys.length = m ∧ Own w' w.heap.size 5 (.slice q m d) ys ∧ Byt w' q m d ys ∧ Below w.heap.size w w'
theorem GotB.base {w0 w : World} {ys : List Int} {e : Ending} {w' : World} (h : GotB w ys e w') (hb : Below w0.heap.size w0 w) : GotB w0 ys e w' := by
  obtain ⟨q, m, d, h1, h2, h3, h4, h5⟩ := h
  exact ⟨q, m, d, h1, h2, h3.mono hb.size, h4, hb.trans (h5.mono hb.size)⟩

end Go.Proofs.YtbpmanbpmlkmnaaGreatDoor
