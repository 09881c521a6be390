/-
  Rows of selectors in memory; the lists of selectors that a list of choices makes.
  What package selector writes of an address and of a selector.
  What package selector's checkCount, checkEach and Build return.
  Which slices are the same: slices.Equal and slices.EqualFunc at the types that package payload compares, and the document's own Same of proposals and of selectors: each says yes just where the lists read alike.
-/
import Derived.Test.YtnbkffehhahckaaGreatJZ1
import Derived.Test.YtnbkffehhahckaaGreatJZ3
import Derived.Test.YtnbkffehhahckaaGreatJZ8
import Derived.Deep.RegionHeld3
import Derived.Deep.QuietTactic
import Derived.BigQuiet
namespace Go.Proofs.YtnbkffehhahckaaGreat
open Go.RowKit
set_option linter.unusedVariables false
def KSl : KindR Sl where
  e := 113
  k := 9
  cs x := [.int .i64 x.p, .int .i64 x.a, .int .i64 x.b, .int .i64 x.lo.f, .int .u64 x.lo.h, .int .u64 x.lo.l, .int .i64 x.hi.f, .int .u64 x.hi.h, .int .u64 x.hi.l]
  len _ := rfl
  one x u hu := by
    simp at hu
    rcases hu with rfl | rfl | rfl | rfl | rfl | rfl | rfl | rfl | rfl <;> rfl
  pos := by decide
def NSl : NestR Sl where
  ts := []
  ok _ _ x := FitS x
  keep h _ _ := h
  mono h _ := h
def DSlr : ReadN Sl where
  ok _ x := FitS x
  keep h _ := h
theorem Tryz.infoSl : (Tryz.prog.info? 113).map (fun i => (i.zero, i.size, i.bytes)) = some (some (.agg #[.int .i64 0, .int .i64 0, .int .i64 0, .int .i64 0, .int .u64 0, .int .u64 0, .int .i64 0, .int .u64 0, .int .u64 0]), 9, 72) := by kernel_rfl
theorem knownSl : KnownR Tryz.prog KSl 54 72 := by
  refine ⟨Tryz.underlying54, ?_⟩
  obtain ⟨i0, hi, hz0, hz1, hz2⟩ := info_parts Tryz.infoSl
  exact ⟨i0, _, hi, hz0, hz1, hz2, rfl⟩
theorem srcSl (w : World) (x : Sl) (T : TypeId) : SrcG KSl (w.alloc (.cells #[.int .i64 x.p, .int .i64 x.a, .int .i64 x.b, .int .i64 x.lo.f, .int .u64 x.lo.h, .int .u64 x.lo.l, .int .i64 x.hi.f, .int .u64 x.hi.h, .int .u64 x.hi.l] T)) (some ⟨w.heap.size, 0, none⟩) 1 [x] := SrcG.new KSl w [x] T
theorem fam_fits {f : Int} {s : Sl} (h : DrawS f s) : FitS s := h.good.fit
structure DLs (W w wx : World) (k : Nat) (f : Int) (v : Value) (l : List Sl) : Prop where
  cod : Cod W wx k
  gr : w.grownBy wx (some k)
  row : RowG KSl NSl wx w.heap.size v l
  all : ∀ s ∈ l, DrawS f s
def MadeL (W w : World) (k most : Nat) (e : Ending) (w' : World) : Prop := ∃ (v : Value) (l : List Sl) (f : Int), e = .returned v ∧ (f = 4 ∨ f = 6) ∧ 1 ≤ l.length ∧ l.length ≤ most ∧ DLs W w w' k f v l
set_option maxHeartbeats 1600000 in
set_option maxRecDepth 100000 in
theorem sels_any (W w : World) (k : Nat) (h : Cod W w k) (most : Nat) (hm1 : 1 ≤ most) (hm2 : most ≤ 256) :
    Calls Tryz.prog 28 #[.pointer (some ⟨k, 0, none⟩), .int .i64 most] w (MadeL W w k most) := by
  have hk := h.lt
  have hbase := h.bel.size
  have HC0 := hidden h
  clear h
  go_enter Tryz.func28, Tryz.ntmps28
  go_upto_if 10 with (first
    | (go_at_call_of 13 (Value.int IntKind.i64 4); (with_reducible refine (next_any W _ k HC0.out _ ?_).mono ?_); omega; rintro e w1 ⟨r, rfl, r0, r1, hc, hg⟩; have HC1 := hidden hc; have HG1 := hidden hg; clear hc hg HC0)
    | fail)
  go_cut [5] from 8 to 10 (fun fv wx => ∃ f : Int, fv = .int .i64 f ∧ (f = 4 ∨ f = 6) ∧ w1 = wx)
  case first =>
    rcases hr : (r == 3) with _ | _
    · go_wp2
      go_meet
      case rel => exact ⟨4, rfl, Or.inl rfl, rfl⟩
    · go_wp2
      go_meet
      case rel => exact ⟨6, rfl, Or.inr rfl, rfl⟩
  case rest =>
    obtain ⟨f, rfl, hf, rfl⟩ := hcut
    have HSE := hidden (fun w' (hc : Cod W w' k) => sel_any W w' k hc f hf)
    go_upto_region 6 with (first
      | (go_at_call 13; (with_reducible refine (next_any W _ k HC1.out _ ?_).mono ?_); omega; rintro e w2 ⟨N, rfl, N0, N1, hc, hg⟩; have HC2 := hidden hc; have HG2 := hidden (grown_trans HG1.out hg); clear hc hg HC1 HG1)
      | fail)
    obtain ⟨N, rfl⟩ := Int.eq_ofNat_of_zero_le N0
    go_wp2_with fail
    go_loopw [6, 7] (fun v i wx => ∃ (j : Nat) (l : List Sl), i = .int .i64 j ∧ l.length + j = 1 + N ∧ DLs W w wx k f v l) (fun _ i _ => (intOf i).toNat)
    case atStart => exact ⟨1 + N, [], by simp, by simp, ⟨HC2.out, HG2.out, RowG.nil _ _ _ _, fun s hs => by cases hs⟩⟩
    case round =>
      obtain ⟨j, l, rfl, hj, hdl⟩ := hrel
      obtain ⟨po, co, rfl⟩ := hdl.row.form rfl
      have HD := hidden hdl
      clear hdl HC2 HG2
      by_cases h0 : j = 0
      · subst h0
        go_wp2
        go_ret
        exact ⟨_, l, f, rfl, hf, by omega, by omega, HD.out⟩
      · have hj0 : (0 : Int) < j := by omega
        go_wp2_with (first
          | (go_at_call 44; (with_reducible refine (HSE.out _ HD.out.cod).mono ?_); rintro e w3 ⟨s, rfl, hs, hc, hg⟩; have HS := hidden hs; have HC3 := hidden (hc.alloc (.cells #[.int .i64 s.p, .int .i64 s.a, .int .i64 s.b, .int .i64 s.lo.f, .int .u64 s.lo.h, .int .u64 s.lo.l, .int .i64 s.hi.f, .int .u64 s.hi.h, .int .u64 s.hi.l] 113)); have HG3 := hidden (grown_alloc_new (grown_trans HD.out.gr hg) (.cells #[.int .i64 s.p, .int .i64 s.a, .int .i64 s.b, .int .i64 s.lo.f, .int .u64 s.lo.h, .int .u64 s.lo.l, .int .i64 s.hi.f, .int .u64 s.hi.h, .int .u64 s.hi.l] 113)); have HR3 : Hid (RowG KSl NSl (w3.alloc (.cells #[.int .i64 s.p, .int .i64 s.a, .int .i64 s.b, .int .i64 s.lo.f, .int .u64 s.lo.h, .int .u64 s.lo.l, .int .i64 s.hi.f, .int .u64 s.hi.h, .int .u64 s.hi.l] 113)) w.heap.size (.slice po l.length co) l) := hidden ((HD.out.row.low hg hk).alloc _); clear hs hc hg)
          | (at_builtin; go_loud (refine wpList_append_g knownSl (by simp [NSl]) _ rfl _ _ rfl w.heap.size _ l rfl HR3.out _ 1 1 [s] rfl (srcSl w3 s _) (fun x hx => by rw [List.mem_singleton.1 hx]; exact fam_fits HS.out) (by unfold maxLen; omega) (by omega) (by have := HG3.out.size; simp at this ⊢; omega) ?_))
          | fail)
        intro v' w4 hr4 hg4
        have hlt := HR3.out.lt
        have HC4 := hidden (HC3.out.grown hg4 (by intro e; have := hlt k e.symm; omega) (fun j hj => by have := (hlt j hj).1; omega))
        have HG4 := hidden (grown_own HG3.out hg4 (fun j hj => (hlt j hj).1))
        have HR4 := hidden hr4
        clear hr4 hg4 hlt HR3 HC3 HG3
        go_wp2
        go_roundw
        case rel => exact ⟨j - 1, l ++ [s], by go_num, by simp; omega, ⟨HC4.out, HG4.out, HR4.out, fun t ht => by
          rcases List.mem_append.1 ht with ht | ht
          · exact HD.out.all t ht
          · rw [List.mem_singleton.1 ht]; exact HS.out⟩⟩
        case measure => simp [intOf]; omega
end Go.Proofs.YtnbkffehhahckaaGreat

namespace Go.Proofs.YtnbkffehhahckaaGreat
open Go.RowKit
set_option linter.unusedVariables false
def GotB (w : World) (ys : List Int) (e : Ending) (w' : World) : Prop := ∃ q m d, e = .returned (.slice q m d) ∧ ys.length = m ∧ Own w' w.heap.size 5 (.slice q m d) ys ∧ Byt w' q m d ys ∧ Below w.heap.size w w'
theorem put_b (p : Option Addr) (n c : Nat) (xs : List Int) (w : World) (h : Byt w p n c xs) (hb : n ≤ 1048576) (v : Int) (hv : 0 ≤ v ∧ v ≤ 18446744073709551615) (k : Nat) (h1 : 1 ≤ k) (h8 : k ≤ 8) (K : Int) (hK : K = k) :
    Calls Tryz.prog 34 #[.slice p n c, .int .u64 v, .int .i64 K] w (GotB w (xs ++ be k v)) := by
  subst hK
  have hl : (xs ++ be k v).length = n + k := by rw [List.length_append, be_len, h.len]
  refine (put_yes p n c xs w h (by omega) v hv k h1 h8).mono ?_
  rintro e w' ⟨u, rfl, hown, hbel⟩
  obtain ⟨q, d, rfl, hby⟩ := hown.bytN rfl hl (rng_append h.rng (be_rng _ _))
  exact ⟨q, _, d, rfl, hl, hown, hby, hbel⟩
theorem GotB.base {w0 w : World} {ys : List Int} {e : Ending} {w' : World} (h : GotB w ys e w') (hb : Below w0.heap.size w0 w) : GotB w0 ys e w' := by
  obtain ⟨q, m, d, h1, h2, h3, h4, h5⟩ := h
  exact ⟨q, m, d, h1, h2, h3.mono hb.size, h4, hb.trans (h5.mono hb.size)⟩
set_option maxHeartbeats 800000 in
theorem pad_any (p : Option Addr) (n c : Nat) (xs : List Int) (w : World) (h : Byt w p n c xs) (hb : n ≤ 1000000) (x : Ad) (fit : FitA x) :
    Calls Tryz.prog 112 #[.slice p n c, (.agg #[.int .i64 x.f, .int .u64 x.h, .int .u64 x.l])] w (GotB w (xs ++ encA x)) := by
  have HX := hidden h
  have hlen := hidden h.len
  have HA := hidden (AdIn.new w x 111)
  have HB := hidden ((Below.refl w.heap.size w).alloc (Nat.le_refl _) (.cells #[.int .i64 x.f, .int .u64 x.h, .int .u64 x.l] 111))
  have hh := fit.h
  have hl := fit.l
  clear h
  by_cases h4 : x.f = 4
  · have h4' : (x.f == 4) = true := by simpa using h4
    have HE := hidden (show encA x = be 4 x.l by unfold encA; rw [if_pos h4])
    clear h4
    go_enter Tryz.func112, Tryz.ntmps112
    go_wp2_with (first
      | (go_at_call 34; (with_reducible refine (put_b p n c xs _ (HX.out.alloc _) (by omega) x.l hl 4 (by omega) (by omega) 4 rfl).mono ?_); rintro e w1 hgot; have HG := hidden (hgot.base HB.out); rw [← HE.out] at HG; obtain ⟨q, m, d, rfl, -⟩ := hgot)
      | fail)
    go_ret
    obtain ⟨q', m', d', he, k2⟩ := HG.out
    cases he
    exact ⟨_, _, _, rfl, k2⟩
  · have h4' : (x.f == 4) = false := by simpa using h4
    have HE := hidden (show encA x = be 8 x.h ++ be 8 x.l by unfold encA; rw [if_neg h4])
    clear h4
    go_enter Tryz.func112, Tryz.ntmps112
    go_upto_region 3 with fail
    generalize hw0 : w.alloc (.cells #[.int .i64 x.f, .int .u64 x.h, .int .u64 x.l] 111) = w0 at *
    have HX0 := hidden (HX.out.below (w' := w0.drew) (HB.out.trans (drew_below ⟨1, rfl⟩)))
    have HB0 := hidden (HB.out.trans (drew_below (B := w.heap.size) (w := w0) (w' := w0.drew) ⟨1, rfl⟩))
    have HA0 := hidden (HA.out.below (w' := w0.drew) (drew_below ⟨1, rfl⟩))
    obtain ⟨-, a1, a2, -⟩ := HA.out
    go_region_held3 (fun w' => w'.cell? ⟨w.heap.size, 1, none⟩ = some (.int .u64 x.h) ∧ w'.cell? ⟨w.heap.size, 2, none⟩ = some (.int .u64 x.l)) (first | exact ⟨HA0.out.c1, HA0.out.c2⟩ | exact ⟨(HA0.out.below hb1).c1, (HA0.out.below hb1).c2⟩ | exact ⟨((HA0.out.below hb1).below hb2).c1, ((HA0.out.below hb1).below hb2).c2⟩ | go_keep)
      (first
      | (go_at_call 34; (with_reducible refine (put_b p n c xs _ HX0.out (by omega) x.h hh 8 (by omega) (by omega) 8 rfl).mono ?_); rintro e w1 ⟨q1, m1, d1, rfl, hm1, -, hy1, hb1⟩; obtain rfl : m1 = n + 8 := (by rw [← hm1, List.length_append, be_len, hlen.out]); have HY1 := hidden hy1; have HB1 := hidden (HB0.out.trans (hb1.mono HB0.out.size)))
      | (go_at_call 34; (with_reducible refine (put_b q1 (n + 8) d1 _ _ HY1.out (by omega) x.l hl 8 (by omega) (by omega) 8 rfl).mono ?_); rintro e w2 hgot; have HG := hidden (hgot.base HB1.out); rw [List.append_assoc, ← HE.out] at HG; obtain ⟨q2, m2, d2, rfl, -, -, -, hb2⟩ := hgot)
      | fail)
    all_goals go_wp2_with fail
    all_goals go_ret
    all_goals
      obtain ⟨q', m', d', he, k2⟩ := HG.out
      cases he
      exact ⟨_, _, _, rfl, k2⟩
set_option maxHeartbeats 1600000 in
theorem oneSl_any (s : Sl) (h : GoodS s) (w : World) :
    Calls Tryz.prog 99 #[(.agg #[.int .i64 s.p, .int .i64 s.a, .int .i64 s.b, .int .i64 s.lo.f, .int .u64 s.lo.h, .int .u64 s.lo.l, .int .i64 s.hi.f, .int .u64 s.hi.h, .int .u64 s.hi.l])] w (GotB w (encO s)) := by
  have hp := h.p
  have hq := h.q
  have ha : 0 ≤ s.a ∧ s.a ≤ 65535 := by omega
  have hb : 0 ≤ s.b ∧ s.b ≤ 65535 := by omega
  have HF1 := hidden h.flo
  have HF2 := hidden h.fhi
  have HS := hidden (SlIn.new w s 113)
  have HB := hidden ((Below.refl w.heap.size w).alloc (Nat.le_refl _) (.cells #[.int .i64 s.p, .int .i64 s.a, .int .i64 s.b, .int .i64 s.lo.f, .int .u64 s.lo.h, .int .u64 s.lo.l, .int .i64 s.hi.f, .int .u64 s.hi.h, .int .u64 s.hi.l] 113))
  have hw1 : IntKind.u64.wrap s.p = s.p := wraps_u64 _ (by omega) (by omega)
  have hw2 : IntKind.u64.wrap s.a = s.a := wraps_u64 _ (by omega) (by omega)
  have hw3 : IntKind.u64.wrap s.b = s.b := wraps_u64 _ (by omega) (by omega)
  obtain ⟨K, Z, hKZ, hK, hZ, h6⟩ : ∃ K Z : Int, encO s = be 1 K ++ (be 1 s.p ++ (be 2 Z ++ (be 2 s.a ++ (be 2 s.b ++ (encA s.lo ++ encA s.hi))))) ∧ (0 ≤ K ∧ K ≤ 8) ∧ (0 ≤ Z ∧ Z ≤ 40) ∧ (((s.lo.f == 6) = true ∧ K = 8 ∧ Z = 40) ∨ ((s.lo.f == 6) = false ∧ K = 7 ∧ Z = 16)) := by
    by_cases h6 : s.lo.f = 6
    · exact ⟨8, 40, by unfold encO; rw [if_pos h6, if_pos h6], by omega, by omega, Or.inl ⟨by simpa using h6, rfl, rfl⟩⟩
    · exact ⟨7, 16, by unfold encO; rw [if_neg h6, if_neg h6], by omega, by omega, Or.inr ⟨by simpa using h6, rfl, rfl⟩⟩
  have HE := hidden hKZ
  clear h hKZ hq
  go_enter Tryz.func99, Tryz.ntmps99
  go_upto_if 9 with fail
  go_cut [3, 4] from 10 to 10 (fun u v wx => u = .int .u64 K ∧ v = .int .u64 Z ∧ w.alloc (.cells #[.int .i64 s.p, .int .i64 s.a, .int .i64 s.b, .int .i64 s.lo.f, .int .u64 s.lo.h, .int .u64 s.lo.l, .int .i64 s.hi.f, .int .u64 s.hi.h, .int .u64 s.hi.l] 113) = wx)
  case first =>
    rcases h6 with ⟨h6, rfl, rfl⟩ | ⟨h6, rfl, rfl⟩
    · go_wp2
      go_meet
      case rel => exact ⟨rfl, rfl, rfl⟩
    · go_wp2
      go_meet
      case rel => exact ⟨rfl, rfl, rfl⟩
  case rest =>
    obtain ⟨rfl, rfl, rfl⟩ := hcut
    clear h6
    go_upto_region 9 with (first
      | (go_at_call 34; (with_reducible refine (put_b none 0 0 [] _ (Byt.nil _ _ _ (Nat.zero_le _)) (by omega) K (by omega) 1 (by omega) (by omega) 1 rfl).mono ?_); rintro e w1 ⟨q1, m1, d1, rfl, hm, -, hy, hbb⟩; obtain rfl : m1 = 1 := (by rw [← hm]; simp [be_len]); have HY1 := hidden hy; have HS1 := hidden (HS.out.below hbb); have HB1 := hidden (HB.out.trans (hbb.mono HB.out.size)); have c0 := HS1.out.c0; clear hm hy hbb)
      | (go_at_call 34; (with_reducible refine (put_b q1 1 d1 _ _ HY1.out (by omega) s.p (by omega) 1 (by omega) (by omega) 1 rfl).mono ?_); rintro e w2 ⟨q2, m2, d2, rfl, hm, -, hy, hbb⟩; obtain rfl : m2 = 2 := (by rw [← hm]; simp [be_len]); have HY2 := hidden hy; have HS2 := hidden (HS1.out.below hbb); have HB2 := hidden (HB1.out.trans (hbb.mono HB1.out.size)); clear hm hy hbb)
      | (go_at_call 34; (with_reducible refine (put_b q2 2 d2 _ _ HY2.out (by omega) Z (by omega) 2 (by omega) (by omega) 2 rfl).mono ?_); rintro e w3 ⟨q3, m3, d3, rfl, hm, -, hy, hbb⟩; obtain rfl : m3 = 4 := (by rw [← hm]; simp [be_len]); have HY3 := hidden hy; have HS3 := hidden (HS2.out.below hbb); have HB3 := hidden (HB2.out.trans (hbb.mono HB2.out.size)); have c1 := HS3.out.c1; clear hm hy hbb)
      | (go_at_call 34; (with_reducible refine (put_b q3 4 d3 _ _ HY3.out (by omega) s.a (by omega) 2 (by omega) (by omega) 2 rfl).mono ?_); rintro e w4 ⟨q4, m4, d4, rfl, hm, -, hy, hbb⟩; obtain rfl : m4 = 6 := (by rw [← hm]; simp [be_len]); have HY4 := hidden hy; have HS4 := hidden (HS3.out.below hbb); have HB4 := hidden (HB3.out.trans (hbb.mono HB3.out.size)); have c2 := HS4.out.c2; clear hm hy hbb)
      | (go_at_call 34; (with_reducible refine (put_b q4 6 d4 _ _ HY4.out (by omega) s.b (by omega) 2 (by omega) (by omega) 2 rfl).mono ?_); rintro e w5 ⟨q5, m5, d5, rfl, hm, -, hy, hbb⟩; obtain rfl : m5 = 8 := (by rw [← hm]; simp [be_len]); have HY5 := hidden hy; have HS5 := hidden (HS4.out.below hbb); have HB5 := hidden (HB4.out.trans (hbb.mono HB4.out.size)); clear hm hy hbb)
      | fail)
    have HSD := hidden (HS5.out.below (w' := w5.drew) (drew_below ⟨1, rfl⟩))
    have HYD := hidden (HY5.out.below (w' := w5.drew) (drew_below ⟨1, rfl⟩))
    have HBD := hidden (HB5.out.trans (drew_below (B := w.heap.size) (w := w5) (w' := w5.drew) ⟨1, rfl⟩))
    obtain ⟨-, -, -, c3, c4, c5, c6, c7, c8, -⟩ := HS5.out
    clear HY1 HY2 HY3 HY4 HS1 HS2 HS3 HS4 HB1 HB2 HB3 HB4 c0 c1 c2
    go_region_held3 (fun w' => w'.cell? ⟨w.heap.size, 3, none⟩ = some (.int .i64 s.lo.f) ∧ w'.cell? ⟨w.heap.size, 4, none⟩ = some (.int .u64 s.lo.h) ∧ w'.cell? ⟨w.heap.size, 5, none⟩ = some (.int .u64 s.lo.l) ∧ w'.cell? ⟨w.heap.size, 6, none⟩ = some (.int .i64 s.hi.f) ∧ w'.cell? ⟨w.heap.size, 7, none⟩ = some (.int .u64 s.hi.h) ∧ w'.cell? ⟨w.heap.size, 8, none⟩ = some (.int .u64 s.hi.l)) (first | exact ⟨HSD.out.c3, HSD.out.c4, HSD.out.c5, HSD.out.c6, HSD.out.c7, HSD.out.c8⟩ | exact ⟨HS6.out.c3, HS6.out.c4, HS6.out.c5, HS6.out.c6, HS6.out.c7, HS6.out.c8⟩ | exact ⟨HS7.out.c3, HS7.out.c4, HS7.out.c5, HS7.out.c6, HS7.out.c7, HS7.out.c8⟩ | go_keep)
      (first
      | (go_at_call 112; (with_reducible refine (pad_any q5 8 d5 _ _ HYD.out (by omega) s.lo HF1.out).mono ?_); rintro e w6 ⟨q6, m6, d6, rfl, hm, -, hy, hbb⟩; have hmm : m6 ≤ 1000 := (by rw [← hm]; simp [be_len, encA_len, sizeA]; split <;> omega); have HY6 := hidden hy; have HS6 := hidden (HSD.out.below hbb); have HB6 := hidden (HBD.out.trans (hbb.mono HBD.out.size)); clear hm hy hbb)
      | (go_at_call 112; (with_reducible refine (pad_any q6 m6 d6 _ _ HY6.out (by omega) s.hi HF2.out).mono ?_); rintro e w7 hgot; have HG := hidden (hgot.base HB6.out); obtain ⟨q7, m7, d7, rfl, -, -, -, hbb⟩ := hgot; have HS7 := hidden (HS6.out.below hbb); clear hbb)
      | fail)
    all_goals go_wp2_with fail
    all_goals go_ret
    all_goals
      rw [HE.out]
      have hG := HG.out
      simp only [List.nil_append, List.append_assoc] at hG ⊢
      obtain ⟨q', m', d', he, k2⟩ := hG
      cases he
      exact ⟨_, _, _, rfl, k2⟩
end Go.Proofs.YtnbkffehhahckaaGreat

namespace Go.Proofs.YtnbkffehhahckaaGreat
open Go.RowKit
set_option linter.unusedVariables false
def cntE (n : Int) : Int := if n = 0 then 8 else if n > 16 then 10 else 0
theorem count_any (n : Int) (w : World) : Calls Tryz.prog 97 #[.int .i64 n] w fun e w' => e = .returned (.int .i64 (cntE n)) ∧ w = w' := by
  unfold cntE
  by_cases h0 : n = 0
  · subst h0
    go_enter Tryz.func97, Tryz.ntmps97
    go_wp2
    go_ret
    exact ⟨rfl, rfl⟩
  have h0' : (n == 0) = false := by simpa using h0
  rw [if_neg h0]
  by_cases h1 : n > 16
  · rw [if_pos h1]
    go_enter Tryz.func97, Tryz.ntmps97
    go_wp2
    go_ret
    exact ⟨rfl, rfl⟩
  · rw [if_neg h1]
    go_enter Tryz.func97, Tryz.ntmps97
    go_wp2
    go_ret
    exact ⟨rfl, rfl⟩
theorem errL_drop (l : List Sl) (j : Nat) (hj : j < l.length) : errL (l.drop j) = if checkS l[j] ≠ 0 then checkS l[j] else errL (l.drop (j + 1)) := by
  rw [List.drop_eq_getElem_cons hj]
  rfl
theorem rd_sl {w : World} {p : Option Addr} {n c : Nat} {l : List Sl} (h : RdG KSl DSlr w p n c l) (j : Nat) (hj : j < l.length) : ∃ g, p = some ⟨g, 0, none⟩ ∧ w.cell? ⟨g, j * 9, none⟩ = some (.int .i64 l[j].p) ∧ w.cell? ⟨g, j * 9 + 1, none⟩ = some (.int .i64 l[j].a) ∧ w.cell? ⟨g, j * 9 + 2, none⟩ = some (.int .i64 l[j].b) ∧ w.cell? ⟨g, j * 9 + 3, none⟩ = some (.int .i64 l[j].lo.f) ∧ w.cell? ⟨g, j * 9 + 4, none⟩ = some (.int .u64 l[j].lo.h) ∧ w.cell? ⟨g, j * 9 + 5, none⟩ = some (.int .u64 l[j].lo.l) ∧ w.cell? ⟨g, j * 9 + 6, none⟩ = some (.int .i64 l[j].hi.f) ∧ w.cell? ⟨g, j * 9 + 7, none⟩ = some (.int .u64 l[j].hi.h) ∧ w.cell? ⟨g, j * 9 + 8, none⟩ = some (.int .u64 l[j].hi.l) ∧ FitS l[j] := by
  obtain ⟨g, e, hc, hok⟩ := h.cell j hj
  exact ⟨g, e, hc 0 _ rfl, hc 1 _ rfl, hc 2 _ rfl, hc 3 _ rfl, hc 4 _ rfl, hc 5 _ rfl, hc 6 _ rfl, hc 7 _ rfl, hc 8 _ rfl, hok⟩
set_option maxHeartbeats 800000 in
set_option maxRecDepth 100000 in
theorem each_any (p : Option Addr) (n c : Nat) (l : List Sl) (w : World) (h : RdG KSl DSlr w p n c l) (E : Int) (hE : errL l = E) :
    Calls Tryz.prog 98 #[.slice p n c] w fun e w' => e = .returned (.int .i64 E) ∧ Below w.heap.size w w' := by
  have HL := hidden h
  have hn := h.le
  have HE := hidden hE
  have HLen := hidden h.len
  clear h hE
  go_enter Tryz.func98, Tryz.ntmps98
  go_wp2
  go_loopw [8] (fun i wr => ∃ j : Nat, j ≤ n ∧ i = .int .i64 j ∧ errL (l.drop j) = E ∧ Below w.heap.size w wr) (fun i _ => n - (intOf i).toNat)
  case atStart => exact ⟨0, by omega, rfl, by rw [List.drop_zero]; exact HE.out, Below.refl _ _⟩
  case round =>
    obtain ⟨j, hj, rfl, he, hb⟩ := hrel
    have HB := hidden hb
    by_cases hlt : j < n
    · have hlt' : (j : Int) < n := by omega
      have hjl : j < l.length := by rw [HLen.out]; exact hlt
      rw [errL_drop l j hjl] at he
      obtain ⟨g, rfl, c0, c1, c2, c3, c4, c5, c6, c7, c8, -⟩ := rd_sl (HL.out.below hb) j hjl
      obtain ⟨s, hs⟩ : ∃ s, l[j] = s := ⟨_, rfl⟩
      rw [hs] at he c0 c1 c2 c3 c4 c5 c6 c7 c8
      obtain ⟨z, hz⟩ : ∃ z, checkS s = z := ⟨_, rfl⟩
      rw [hz] at he
      have HC := hidden (scheck_at s z hz)
      have HHE := hidden he
      have hb9 : j * 9 + 8 ≤ 9223372036854775807 * 9 := by omega
      clear hs hz hjl hb he
      by_cases hz0 : z = 0
      · subst hz0
        go_wp2_with (first
          | (go_at_call 111; (with_reducible refine (HC.out _).mono ?_); rintro e w1 ⟨rfl, hb1⟩; have HB1 := hidden ((HB.out.alloc HB.out.size (.cells #[.int .i64 s.p, .int .i64 s.a, .int .i64 s.b, .int .i64 s.lo.f, .int .u64 s.lo.h, .int .u64 s.lo.l, .int .i64 s.hi.f, .int .u64 s.hi.h, .int .u64 s.hi.l] 113)).trans (hb1.mono (HB.out.alloc HB.out.size (.cells #[.int .i64 s.p, .int .i64 s.a, .int .i64 s.b, .int .i64 s.lo.f, .int .u64 s.lo.h, .int .u64 s.lo.l, .int .i64 s.hi.f, .int .u64 s.hi.h, .int .u64 s.hi.l] 113)).size)); clear hb1)
          | fail)
        go_roundw
        case rel => exact ⟨j + 1, by omega, by go_num, by have := HHE.out; simpa using this, HB1.out⟩
        case measure => simp [intOf]; omega
      · have hz' : (z != 0) = true := by simpa using hz0
        have hEz : z = E := by have := HHE.out; rw [if_pos hz0] at this; exact this
        subst hEz
        clear hz0 HHE HE
        go_wp2_with (first
          | (go_at_call 111; (with_reducible refine (HC.out _).mono ?_); rintro e w1 ⟨rfl, hb1⟩; have HB1 := hidden ((HB.out.alloc HB.out.size (.cells #[.int .i64 s.p, .int .i64 s.a, .int .i64 s.b, .int .i64 s.lo.f, .int .u64 s.lo.h, .int .u64 s.lo.l, .int .i64 s.hi.f, .int .u64 s.hi.h, .int .u64 s.hi.l] 113)).trans (hb1.mono (HB.out.alloc HB.out.size (.cells #[.int .i64 s.p, .int .i64 s.a, .int .i64 s.b, .int .i64 s.lo.f, .int .u64 s.lo.h, .int .u64 s.lo.l, .int .i64 s.hi.f, .int .u64 s.hi.h, .int .u64 s.hi.l] 113)).size)); clear hb1)
          | fail)
        go_ret
        exact ⟨rfl, HB1.out⟩
    · obtain rfl : j = n := by omega
      rw [List.drop_eq_nil_of_le (by rw [HLen.out]; omega)] at he
      have he' : (0 : Int) = E := he
      subst he'
      clear hb he HE
      go_wp2
      go_ret
      exact ⟨rfl, HB.out⟩
def BuiltS (w : World) (L : List Int) (E : Int) (e : Ending) (w' : World) : Prop := ∃ v, e = .returned (.tuple #[v, .int .i64 E]) ∧ Own w' w.heap.size 5 v L ∧ Below w.heap.size w w'
theorem built_none (w w' : World) (L : List Int) (E E' : Int) (h : ([], E) = (L, E')) (hb : Below w.heap.size w w') : BuiltS w L E' (.returned (.tuple #[.slice none 0 0, .int .i64 E])) w' := by
  obtain ⟨rfl, rfl⟩ := Prod.mk.inj h
  exact ⟨_, rfl, Own.nil _ _ _, hb⟩
theorem encL_le : ∀ (l : List Sl), (∀ s ∈ l, GoodS s) → (encL l).length ≤ l.length * 40
  | [], _ => by simp [encL]
  | s :: l, h => by
    have h1 := encL_le l (fun t ht => h t (by simp [ht]))
    have h2 := (one_enc (h s (by simp)) []).2
    simp only [encL, List.length_append, List.length_cons]
    omega
theorem encL_take (l : List Sl) (j : Nat) (hj : j < l.length) : encL (l.take (j + 1)) = encL (l.take j) ++ encO l[j] := by
  rw [List.take_succ_eq_append_getElem hj, encL_append]
  simp [encL]
theorem own_four (w : World) (base : Nat) (hb : base ≤ w.heap.size) (x0 x1 x2 x3 : Int) : Own (w.alloc (.cells #[.int .u8 x0, .int .u8 x1, .int .u8 x2, .int .u8 x3] 5)) base 5 (.slice (some ⟨w.heap.size, 0, none⟩) 4 4) [x0, x1, x2, x3] := by
  have := World.ownsRow_lit (base := base) (e := 5) (size := 1) w #[.int .u8 x0, .int .u8 x1, .int .u8 x2, .int .u8 x3] 4 hb (by unfold maxLen; omega) rfl
  exact this
set_option maxHeartbeats 1600000 in
set_option maxRecDepth 100000 in
theorem sbuild_any (p : Option Addr) (n c : Nat) (l : List Sl) (w : World) (h : RdG KSl DSlr w p n c l) (L : List Int) (E : Int) (hE : buildS l = (L, E)) :
    Calls Tryz.prog 69 #[.slice p n c] w (BuiltS w L E) := by
  obtain ⟨i0, hi0, hz0, hz1, hz2⟩ := info_parts Tryz.infoByte
  have hn := h.le
  unfold buildS at hE
  rw [h.len] at hE
  by_cases h0 : n = 0
  · rw [if_pos h0] at hE
    subst h0
    have HE := hidden hE
    clear h hE
    go_enter Tryz.func69, Tryz.ntmps69
    go_wp2_with (first
      | (go_at_call 97; (with_reducible refine (count_any _ _).mono ?_); rintro e w' ⟨rfl, rfl⟩; rw [show cntE ((0 : Nat) : Int) = 8 from rfl])
      | (go_at_call 97; (with_reducible refine (count_any _ _).mono ?_); rintro e w' ⟨rfl, rfl⟩; rw [show cntE 0 = 8 from rfl])
      | fail)
    go_ret2
    exact built_none _ _ _ _ _ HE.out (Below.refl _ _)
  rw [if_neg h0] at hE
  by_cases h16 : n > 16
  · rw [if_pos h16] at hE
    have HE := hidden hE
    have hc10 : cntE n = 10 := by unfold cntE; rw [if_neg (by omega), if_pos (by omega)]
    clear h hE
    go_enter Tryz.func69, Tryz.ntmps69
    go_wp2_with (first
      | (go_at_call 97; (with_reducible refine (count_any _ _).mono ?_); rintro e w' ⟨rfl, rfl⟩; rw [hc10])
      | fail)
    go_ret2
    exact built_none _ _ _ _ _ HE.out (Below.refl _ _)
  rw [if_neg h16] at hE
  have hc0 : cntE n = 0 := by unfold cntE; rw [if_neg (by omega), if_neg (by omega)]
  obtain ⟨z, hz⟩ : ∃ z, errL l = z := ⟨_, rfl⟩
  have HC := hidden (each_any p n c l w h z hz)
  rw [hz] at hE
  by_cases hz0 : z ≠ 0
  · rw [if_pos hz0] at hE
    have hz' : (z != 0) = true := by simpa using hz0
    have HE := hidden hE
    clear h hE hz hz0
    go_enter Tryz.func69, Tryz.ntmps69
    go_wp2_with (first
      | (go_at_call 97; (with_reducible refine (count_any _ _).mono ?_); rintro e w' ⟨rfl, rfl⟩; rw [hc0])
      | (go_at_call 98; (with_reducible refine (HC.out).mono ?_); rintro e w1 ⟨rfl, hb⟩; have HB1 := hidden hb; clear hb)
      | fail)
    go_ret2
    exact built_none _ _ _ _ _ HE.out HB1.out
  obtain rfl : z = 0 := by omega
  rw [if_neg hz0] at hE
  obtain ⟨rfl, rfl⟩ := Prod.mk.inj hE
  have HL := hidden h
  have HLen := hidden h.len
  have HG := hidden (fun s hs => good_of_check (h.ok s hs) (errL_zero hz s hs))
  clear h hE hz hz0
  have hw8 : IntKind.u8.wrap (n : Int) = n := by rw [IntKind.wrap_u8]; omega
  go_enter Tryz.func69, Tryz.ntmps69
  go_upto_region 9 with (first
    | (go_at_call 97; (with_reducible refine (count_any _ _).mono ?_); rintro e w' ⟨rfl, rfl⟩; rw [hc0])
    | (go_at_call 98; (with_reducible refine (HC.out).mono ?_); rintro e w1 ⟨rfl, hb⟩; have HB1 := hidden hb; clear hb)
    | fail)
  have HB2 := hidden (HB1.out.alloc HB1.out.size (.cells #[.int .u8 n, .int .u8 0, .int .u8 0, .int .u8 0] 5))
  have HO2 := hidden (own_four w1 w.heap.size HB1.out.size n 0 0 0)
  clear HB1 HC
  go_wp2_with fail
  go_loopw [6, 26] (fun v i wr => ∃ j : Nat, j ≤ n ∧ i = .int .i64 j ∧ Own wr w.heap.size 5 v ([(n : Int), 0, 0, 0] ++ encL (l.take j)) ∧ Below w.heap.size w wr) (fun _ i _ => n - (intOf i).toNat)
  case atStart => exact ⟨0, by omega, rfl, by simpa [encL] using HO2.out, HB2.out⟩
  case round =>
    obtain ⟨j, hj, rfl, ho, hb⟩ := hrel
    obtain ⟨po, co, rfl⟩ := ho.form
    have HO := hidden ho
    have HB := hidden hb
    clear HO2 HB2
    by_cases hlt : j < n
    · have hlt' : (j : Int) < n := by omega
      have hjl : j < l.length := by rw [HLen.out]; exact hlt
      obtain ⟨g, rfl, c0, c1, c2, c3, c4, c5, c6, c7, c8, -⟩ := rd_sl (HL.out.below hb) j hjl
      have hnx := encL_take l j hjl
      have hgs := HG.out l[j] (List.getElem_mem hjl)
      have hle := encL_le (l.take j) (fun s hs => HG.out s (List.mem_of_mem_take hs))
      have h40 := (one_enc hgs []).2
      generalize l[j] = s at *
      have HON := hidden (oneSl_any s hgs)
      have HNX := hidden hnx
      obtain ⟨X, hX⟩ : ∃ X, [(n : Int), 0, 0, 0] ++ encL (l.take j) = X := ⟨_, rfl⟩
      have hXl : X.length ≤ 4 + n * 40 := by
        rw [← hX, List.length_append]
        simp only [List.length_take] at hle
        have : min j l.length * 40 ≤ n * 40 := by omega
        simp
        omega
      have HXE := hidden (show X ++ encO s = [(n : Int), 0, 0, 0] ++ encL (l.take (j + 1)) by rw [hnx, ← hX, List.append_assoc])
      rw [hX] at HO ⊢
      clear ho hb hnx hgs hle hX hjl
      go_wp2_with (first
        | (go_at_call 99; (with_reducible refine (HON.out _).mono ?_); rintro e w2 ⟨q, m, d, rfl, hm, -, hy, hbb⟩; have hm40 : m ≤ 40 := (by omega); have HY := hidden hy; have HO3 := hidden ((HO.out.alloc (.cells #[.int .i64 s.p, .int .i64 s.a, .int .i64 s.b, .int .i64 s.lo.f, .int .u64 s.lo.h, .int .u64 s.lo.l, .int .i64 s.hi.f, .int .u64 s.hi.h, .int .u64 s.hi.l] 113)).below hbb); have HB3 := hidden ((HB.out.alloc HB.out.size (.cells #[.int .i64 s.p, .int .i64 s.a, .int .i64 s.b, .int .i64 s.lo.f, .int .u64 s.lo.h, .int .u64 s.lo.l, .int .i64 s.hi.f, .int .u64 s.hi.h, .int .u64 s.hi.l] 113)).trans (hbb.mono (HB.out.alloc HB.out.size (.cells #[.int .i64 s.p, .int .i64 s.a, .int .i64 s.b, .int .i64 s.lo.f, .int .u64 s.lo.h, .int .u64 s.lo.l, .int .i64 s.hi.f, .int .u64 s.hi.h, .int .u64 s.hi.l] 113)).size)); clear hm hy hbb)
        | (at_builtin; go_loud (refine wpList_append_byt _ rfl _ _ 22 rfl w.heap.size 5 i0 (.int .u8 0) Tryz.underlying22 hi0 hz0 hz1 hz2 rfl _ _ rfl HO3.out _ _ _ _ _ rfl HY.out rfl ?c1 ?c2 ?_))
        | fail)
      case c1 => omega
      case c2 => exact HB3.out.size
      intro v4 w4 ho4 hg4
      rw [HXE.out] at ho4
      have HO4 := hidden ho4
      have HB4 := hidden (HB3.out.grown hg4 HB3.out.size (fun g hg => (HO3.out.lt g hg).1))
      clear ho4 hg4
      go_wp2
      go_roundw
      case rel => exact ⟨j + 1, by omega, by go_num, HO4.out, HB4.out⟩
      case measure => simp [intOf]; omega
    · obtain rfl : j = n := by omega
      have HX := hidden (show [(j : Int), 0, 0, 0] ++ encL (l.take j) = (j : Int) :: 0 :: 0 :: 0 :: encL l by rw [List.take_of_length_le (by rw [HLen.out]; omega)]; rfl)
      generalize [(j : Int), 0, 0, 0] ++ encL (l.take j) = X at *
      clear ho hb
      go_wp2
      go_ret2
      refine ⟨_, rfl, ?_, HB.out⟩
      rw [← HX.out]
      exact HO.out
end Go.Proofs.YtnbkffehhahckaaGreat

namespace Go.Proofs.YtnbkffehhahckaaGreat
open Go.RowKit
set_option linter.unusedVariables false
theorem take_next {α : Type} {la lb : List α} {j : Nat} (ha : j < la.length) (hb : j < lb.length) (h : la.take j = lb.take j) (e : la[j] = lb[j]) : la.take (j + 1) = lb.take (j + 1) := by
  rw [← List.take_append_getElem ha, ← List.take_append_getElem hb, h, e]
theorem take_whole {α : Type} {la lb : List α} {n : Nat} (ha : la.length = n) (hb : lb.length = n) (h : la.take n = lb.take n) : la = lb := by
  rw [List.take_of_length_le (by omega), List.take_of_length_le (by omega)] at h
  exact h
theorem differ_at {α : Type} {la lb : List α} {j : Nat} (ha : j < la.length) (hb : j < lb.length) (e : la[j] ≠ lb[j]) : la ≠ lb := fun h => e (by subst h; rfl)
theorem differ_len {α : Type} {la lb : List α} {n m : Nat} (ha : la.length = n) (hb : lb.length = m) (h : n ≠ m) : la ≠ lb := fun e => h (by rw [← ha, ← hb, e])
theorem ne_trN (w : World) (x y : Tr) (h : x ≠ y) : (binOp .neq 109 (.agg #[.int .i64 x.t, .int .i64 x.i, .int .i64 x.k]) (.agg #[.int .i64 y.t, .int .i64 y.i, .int .i64 y.k])).run Tryz.prog w = .ok (.bool true) w := by
  obtain ⟨a0, a1, a2⟩ := x; obtain ⟨b0, b1, b2⟩ := y
  by_cases e0 : a0 = b0
  rotate_left
  · have f0 : (a0 == b0) = false := by simpa using e0
    go_simp
  subst e0
  by_cases e1 : a1 = b1
  rotate_left
  · have f1 : (a1 == b1) = false := by simpa using e1
    go_simp
  subst e1
  have e2 : ¬ a2 = b2 := fun e => h (by rw [e])
  have f2 : (a2 == b2) = false := by simpa using e2
  go_simp
theorem ne_slN (w : World) (x y : Sl) (h : x ≠ y) : (binOp .neq 113 (.agg #[.int .i64 x.p, .int .i64 x.a, .int .i64 x.b, .int .i64 x.lo.f, .int .u64 x.lo.h, .int .u64 x.lo.l, .int .i64 x.hi.f, .int .u64 x.hi.h, .int .u64 x.hi.l]) (.agg #[.int .i64 y.p, .int .i64 y.a, .int .i64 y.b, .int .i64 y.lo.f, .int .u64 y.lo.h, .int .u64 y.lo.l, .int .i64 y.hi.f, .int .u64 y.hi.h, .int .u64 y.hi.l])).run Tryz.prog w = .ok (.bool true) w := by
  obtain ⟨a0, a1, a2, ⟨a3, a4, a5⟩, ⟨a6, a7, a8⟩⟩ := x; obtain ⟨b0, b1, b2, ⟨b3, b4, b5⟩, ⟨b6, b7, b8⟩⟩ := y
  by_cases e0 : a0 = b0
  rotate_left
  · have f0 : (a0 == b0) = false := by simpa using e0
    go_simp
  subst e0
  by_cases e1 : a1 = b1
  rotate_left
  · have f1 : (a1 == b1) = false := by simpa using e1
    go_simp
  subst e1
  by_cases e2 : a2 = b2
  rotate_left
  · have f2 : (a2 == b2) = false := by simpa using e2
    go_simp
  subst e2
  by_cases e3 : a3 = b3
  rotate_left
  · have f3 : (a3 == b3) = false := by simpa using e3
    go_simp
  subst e3
  by_cases e4 : a4 = b4
  rotate_left
  · have f4 : (a4 == b4) = false := by simpa using e4
    go_simp
  subst e4
  by_cases e5 : a5 = b5
  rotate_left
  · have f5 : (a5 == b5) = false := by simpa using e5
    go_simp
  subst e5
  by_cases e6 : a6 = b6
  rotate_left
  · have f6 : (a6 == b6) = false := by simpa using e6
    go_simp
  subst e6
  by_cases e7 : a7 = b7
  rotate_left
  · have f7 : (a7 == b7) = false := by simpa using e7
    go_simp
  subst e7
  have e8 : ¬ a8 = b8 := fun e => h (by rw [e])
  have f8 : (a8 == b8) = false := by simpa using e8
  go_simp
theorem eq_trN (w : World) (a b c : Int) : (binOp .neq 109 (.agg #[.int .i64 a, .int .i64 b, .int .i64 c]) (.agg #[.int .i64 a, .int .i64 b, .int .i64 c])).run Tryz.prog w = .ok (.bool false) w := by
  go_simp
set_option maxHeartbeats 1600000 in
set_option maxRecDepth 100000 in
theorem same5_any (p q : Option Addr) (n c m d : Nat) (la lb : List Sl) (w : World) (h : RdG KSl DSlr w p n c la) (k : RdG KSl DSlr w q m d lb) :
    Calls Tryz.prog 58 #[.slice p n c, .slice q m d] w fun e w' => e = .returned (.bool (decide (la = lb))) ∧ Below w.heap.size w w' := by
  have hn := h.le
  have hm := k.le
  have H := hidden h
  have K := hidden k
  have HL := hidden h.len
  have KL := hidden k.len
  clear h k
  by_cases hnm : n = m
  rotate_left
  · have hne : ((n : Int) != (m : Int)) = true := by simp; omega
    have hd := decide_eq_false (differ_len HL.out KL.out hnm)
    go_enter Tryz.func58, Tryz.ntmps58
    go_wp2
    go_ret
    exact ⟨by rw [hd]; rfl, Below.refl _ _⟩
  subst hnm
  go_enter Tryz.func58, Tryz.ntmps58
  go_wp2
  go_loopw [5] (fun i wr => ∃ j : Nat, j ≤ n ∧ i = .int .i64 j ∧ la.take j = lb.take j ∧ Below w.heap.size w wr) (fun i _ => n - (intOf i).toNat)
  case atStart => exact ⟨0, by omega, rfl, by simp, Below.refl _ _⟩
  case round =>
    obtain ⟨j, hj, rfl, ht, hb⟩ := hrel
    have HB := hidden hb
    have HT := hidden ht
    clear ht
    by_cases hlt : j < n
    · have hlt' : (j : Int) < n := by omega
      have hja : j < la.length := by rw [HL.out]; exact hlt
      have hjb : j < lb.length := by rw [KL.out]; exact hlt
      obtain ⟨g, rfl, a0, a1, a2, a3, a4, a5, a6, a7, a8, -⟩ := rd_sl (H.out.below hb) j hja
      obtain ⟨g', rfl, b0, b1, b2, b3, b4, b5, b6, b7, b8, -⟩ := rd_sl (K.out.below hb) j hjb
      obtain ⟨x, hx⟩ : ∃ x, la[j] = x := ⟨_, rfl⟩
      obtain ⟨y, hy⟩ : ∃ y, lb[j] = y := ⟨_, rfl⟩
      rw [hx] at a0 a1 a2 a3 a4 a5 a6 a7 a8
      rw [hy] at b0 b1 b2 b3 b4 b5 b6 b7 b8
      by_cases hxy : x = y
      · have HN := hidden (take_next hja hjb HT.out (by rw [hx, hy, hxy]))
        subst hxy
        clear hx hy hja hjb hb HT
        obtain ⟨sp, sa, sb, ⟨lf, lh, ll⟩, ⟨hf, hh, hl⟩⟩ := x
        simp only at a0 a1 a2 a3 a4 a5 a6 a7 a8 b0 b1 b2 b3 b4 b5 b6 b7 b8
        go_wp2
        go_quiet (fail)
        go_wp2
        go_roundw
        case rel => exact ⟨j + 1, by omega, by go_num, HN.out, HB.out.trans (drew_below ⟨_, rfl⟩)⟩
        case measure => simp [intOf]; omega
      · have HD := hidden (decide_eq_false (differ_at hja hjb (by rw [hx, hy]; exact hxy)))
        have hqn := fun w => ne_slN w x y hxy
        clear hx hy hja hjb hb HT hxy
        go_wp2
        go_quiet (fail)
        go_wp2
        go_ret
        exact ⟨by rw [HD.out]; rfl, HB.out.trans (drew_below ⟨_, rfl⟩)⟩
    · obtain rfl : j = n := by omega
      have hd := decide_eq_true (take_whole HL.out KL.out HT.out)
      clear hb
      go_wp2
      go_ret
      exact ⟨by rw [hd]; rfl, HB.out⟩
end Go.Proofs.YtnbkffehhahckaaGreat
