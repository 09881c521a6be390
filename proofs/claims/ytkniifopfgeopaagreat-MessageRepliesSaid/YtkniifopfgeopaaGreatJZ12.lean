/-
  What package selector writes of an address and of a selector.
  What package proposal's Check returns.
  What package proposal's Parse returns, for any bytes.
-/
import Derived.Test.YtkniifopfgeopaaGreatJZ11
import Derived.Test.YtkniifopfgeopaaGreatJZ2
import Derived.Test.YtkniifopfgeopaaGreatJZ20
import Derived.Test.YtkniifopfgeopaaGreatJZ6
import Derived.Deep.RegionHeld3
namespace Go.Proofs.YtkniifopfgeopaaGreat
open Go.RowKit
set_option linter.unusedVariables false

/-- Bytes of the call's own. -/
def GotB (w : World) (ys : List Int) (e : Ending) (w' : World) : Prop := ∃ q m d, e = .returned (.slice q m d) ∧ ys.length = m ∧ Own w' w.heap.size 5 (.slice q m d) ys ∧ Byt w' q m d ys ∧ Below w.heap.size w w'
theorem put_b (p : Option Addr) (n c : Nat) (xs : List Int) (w : World) (h : Byt w p n c xs) (hb : n ≤ 1048576) (v : Int) (hv : 0 ≤ v ∧ v ≤ 18446744073709551615) (k : Nat) (h1 : 1 ≤ k) (h8 : k ≤ 8) (K : Int) (hK : K = k) :
    Calls Tryz.prog 30 #[.slice p n c, .int .u64 v, .int .i64 K] w (GotB w (xs ++ be k v)) := by
  subst hK
  have hl : (xs ++ be k v).length = n + k := by rw [List.length_append, be_len, h.len]
  refine (put_yes p n c xs w h (by omega) v hv k h1 h8).mono ?_
  rintro e w' ⟨u, rfl, hown, hbel⟩
  obtain ⟨q, d, rfl, hby⟩ := hown.bytN rfl hl (rng_append h.rng (be_rng _ _))
  exact ⟨q, _, d, rfl, hl, hown, hby, hbel⟩
theorem GotB.base {w0 w : World} {ys : List Int} {e : Ending} {w' : World} (h : GotB w ys e w') (hb : Below w0.heap.size w0 w) : GotB w0 ys e w' := by
  obtain ⟨q, m, d, h1, h2, h3, h4, h5⟩ := h
  exact ⟨q, m, d, h1, h2, h3.mono hb.size, h4, hb.trans (h5.mono hb.size)⟩

set_option maxHeartbeats 800000 in
theorem pad_any (p : Option Addr) (n c : Nat) (xs : List Int) (w : World) (h : Byt w p n c xs) (hb : n ≤ 1000000) (x : Ad) (fit : FitA x) :
    Calls Tryz.prog 106 #[.slice p n c, (.agg #[.int .i64 x.f, .int .u64 x.h, .int .u64 x.l])] w (GotB w (xs ++ encA x)) := by
  have HX := hidden h
  have hlen := hidden h.len
  have HA := hidden (AdIn.new w x 114)
  have HB := hidden ((Below.refl w.heap.size w).alloc (Nat.le_refl _) (.cells #[.int .i64 x.f, .int .u64 x.h, .int .u64 x.l] 114))
  have hh := fit.h
  have hl := fit.l
  clear h
  by_cases h4 : x.f = 4
  · have h4' : (x.f == 4) = true := by simpa using h4
    have HE := hidden (show encA x = be 4 x.l by unfold encA; rw [if_pos h4])
    clear h4
    go_enter Tryz.func106, Tryz.ntmps106
    go_wp2_with (first
      | (go_at_call 30; (with_reducible refine (put_b p n c xs _ (HX.out.alloc _) (by omega) x.l hl 4 (by omega) (by omega) 4 rfl).mono ?_); rintro e w1 hgot; have HG := hidden (hgot.base HB.out); rw [← HE.out] at HG; obtain ⟨q, m, d, rfl, -⟩ := hgot)
      | fail)
    go_ret
    obtain ⟨q', m', d', he, k2⟩ := HG.out
    cases he
    exact ⟨_, _, _, rfl, k2⟩
  · have h4' : (x.f == 4) = false := by simpa using h4
    have HE := hidden (show encA x = be 8 x.h ++ be 8 x.l by unfold encA; rw [if_neg h4])
    clear h4
    go_enter Tryz.func106, Tryz.ntmps106
    go_upto_region 3 with fail
    generalize hw0 : w.alloc (.cells #[.int .i64 x.f, .int .u64 x.h, .int .u64 x.l] 114) = w0 at *
    have HX0 := hidden (HX.out.below (w' := w0.drew) (HB.out.trans (drew_below ⟨1, rfl⟩)))
    have HB0 := hidden (HB.out.trans (drew_below (B := w.heap.size) (w := w0) (w' := w0.drew) ⟨1, rfl⟩))
    have HA0 := hidden (HA.out.below (w' := w0.drew) (drew_below ⟨1, rfl⟩))
    obtain ⟨-, a1, a2, -⟩ := HA.out
    go_region_held3 (fun w' => w'.cell? ⟨w.heap.size, 1, none⟩ = some (.int .u64 x.h) ∧ w'.cell? ⟨w.heap.size, 2, none⟩ = some (.int .u64 x.l)) (first | exact ⟨HA0.out.c1, HA0.out.c2⟩ | exact ⟨(HA0.out.below hb1).c1, (HA0.out.below hb1).c2⟩ | exact ⟨((HA0.out.below hb1).below hb2).c1, ((HA0.out.below hb1).below hb2).c2⟩ | go_keep)
      (first
      | (go_at_call 30; (with_reducible refine (put_b p n c xs _ HX0.out (by omega) x.h hh 8 (by omega) (by omega) 8 rfl).mono ?_); rintro e w1 ⟨q1, m1, d1, rfl, hm1, -, hy1, hb1⟩; obtain rfl : m1 = n + 8 := (by rw [← hm1, List.length_append, be_len, hlen.out]); have HY1 := hidden hy1; have HB1 := hidden (HB0.out.trans (hb1.mono HB0.out.size)))
      | (go_at_call 30; (with_reducible refine (put_b q1 (n + 8) d1 _ _ HY1.out (by omega) x.l hl 8 (by omega) (by omega) 8 rfl).mono ?_); rintro e w2 hgot; have HG := hidden (hgot.base HB1.out); rw [List.append_assoc, ← HE.out] at HG; obtain ⟨q2, m2, d2, rfl, -, -, -, hb2⟩ := hgot)
      | fail)
    all_goals go_wp2_with fail
    all_goals go_ret
    all_goals
      obtain ⟨q', m', d', he, k2⟩ := HG.out
      cases he
      exact ⟨_, _, _, rfl, k2⟩

set_option maxHeartbeats 1600000 in
theorem oneSl_any (s : Sl) (h : GoodS s) (w : World) :
    Calls Tryz.prog 92 #[(.agg #[.int .i64 s.p, .int .i64 s.a, .int .i64 s.b, .int .i64 s.lo.f, .int .u64 s.lo.h, .int .u64 s.lo.l, .int .i64 s.hi.f, .int .u64 s.hi.h, .int .u64 s.hi.l])] w (GotB w (encO s)) := by
  have hp := h.p
  have hq := h.q
  have ha : 0 ≤ s.a ∧ s.a ≤ 65535 := by omega
  have hb : 0 ≤ s.b ∧ s.b ≤ 65535 := by omega
  have HF1 := hidden h.flo
  have HF2 := hidden h.fhi
  have HS := hidden (SlIn.new w s 116)
  have HB := hidden ((Below.refl w.heap.size w).alloc (Nat.le_refl _) (.cells #[.int .i64 s.p, .int .i64 s.a, .int .i64 s.b, .int .i64 s.lo.f, .int .u64 s.lo.h, .int .u64 s.lo.l, .int .i64 s.hi.f, .int .u64 s.hi.h, .int .u64 s.hi.l] 116))
  have hw1 : IntKind.u64.wrap s.p = s.p := wraps_u64 _ (by omega) (by omega)
  have hw2 : IntKind.u64.wrap s.a = s.a := wraps_u64 _ (by omega) (by omega)
  have hw3 : IntKind.u64.wrap s.b = s.b := wraps_u64 _ (by omega) (by omega)
  obtain ⟨K, Z, hKZ, hK, hZ, h6⟩ : ∃ K Z : Int, encO s = be 1 K ++ (be 1 s.p ++ (be 2 Z ++ (be 2 s.a ++ (be 2 s.b ++ (encA s.lo ++ encA s.hi))))) ∧ (0 ≤ K ∧ K ≤ 8) ∧ (0 ≤ Z ∧ Z ≤ 40) ∧ (((s.lo.f == 6) = true ∧ K = 8 ∧ Z = 40) ∨ ((s.lo.f == 6) = false ∧ K = 7 ∧ Z = 16)) := by
    by_cases h6 : s.lo.f = 6
    · exact ⟨8, 40, by unfold encO; rw [if_pos h6, if_pos h6], by omega, by omega, Or.inl ⟨by simpa using h6, rfl, rfl⟩⟩
    · exact ⟨7, 16, by unfold encO; rw [if_neg h6, if_neg h6], by omega, by omega, Or.inr ⟨by simpa using h6, rfl, rfl⟩⟩
  have HE := hidden hKZ
  clear h hKZ hq
  go_enter Tryz.func92, Tryz.ntmps92
  go_upto_if 9 with fail
  go_cut [3, 4] from 10 to 10 (fun u v wx => u = .int .u64 K ∧ v = .int .u64 Z ∧ w.alloc (.cells #[.int .i64 s.p, .int .i64 s.a, .int .i64 s.b, .int .i64 s.lo.f, .int .u64 s.lo.h, .int .u64 s.lo.l, .int .i64 s.hi.f, .int .u64 s.hi.h, .int .u64 s.hi.l] 116) = wx)
  case first =>
    rcases h6 with ⟨h6, rfl, rfl⟩ | ⟨h6, rfl, rfl⟩
    · go_wp2
      go_meet
      case rel => exact ⟨rfl, rfl, rfl⟩
    · go_wp2
      go_meet
      case rel => exact ⟨rfl, rfl, rfl⟩
  case rest =>
    obtain ⟨rfl, rfl, rfl⟩ := hcut
    clear h6
    go_upto_region 9 with (first
      | (go_at_call 30; (with_reducible refine (put_b none 0 0 [] _ (Byt.nil _ _ _ (Nat.zero_le _)) (by omega) K (by omega) 1 (by omega) (by omega) 1 rfl).mono ?_); rintro e w1 ⟨q1, m1, d1, rfl, hm, -, hy, hbb⟩; obtain rfl : m1 = 1 := (by rw [← hm]; simp [be_len]); have HY1 := hidden hy; have HS1 := hidden (HS.out.below hbb); have HB1 := hidden (HB.out.trans (hbb.mono HB.out.size)); have c0 := HS1.out.c0; clear hm hy hbb)
      | (go_at_call 30; (with_reducible refine (put_b q1 1 d1 _ _ HY1.out (by omega) s.p (by omega) 1 (by omega) (by omega) 1 rfl).mono ?_); rintro e w2 ⟨q2, m2, d2, rfl, hm, -, hy, hbb⟩; obtain rfl : m2 = 2 := (by rw [← hm]; simp [be_len]); have HY2 := hidden hy; have HS2 := hidden (HS1.out.below hbb); have HB2 := hidden (HB1.out.trans (hbb.mono HB1.out.size)); clear hm hy hbb)
      | (go_at_call 30; (with_reducible refine (put_b q2 2 d2 _ _ HY2.out (by omega) Z (by omega) 2 (by omega) (by omega) 2 rfl).mono ?_); rintro e w3 ⟨q3, m3, d3, rfl, hm, -, hy, hbb⟩; obtain rfl : m3 = 4 := (by rw [← hm]; simp [be_len]); have HY3 := hidden hy; have HS3 := hidden (HS2.out.below hbb); have HB3 := hidden (HB2.out.trans (hbb.mono HB2.out.size)); have c1 := HS3.out.c1; clear hm hy hbb)
      | (go_at_call 30; (with_reducible refine (put_b q3 4 d3 _ _ HY3.out (by omega) s.a (by omega) 2 (by omega) (by omega) 2 rfl).mono ?_); rintro e w4 ⟨q4, m4, d4, rfl, hm, -, hy, hbb⟩; obtain rfl : m4 = 6 := (by rw [← hm]; simp [be_len]); have HY4 := hidden hy; have HS4 := hidden (HS3.out.below hbb); have HB4 := hidden (HB3.out.trans (hbb.mono HB3.out.size)); have c2 := HS4.out.c2; clear hm hy hbb)
      | (go_at_call 30; (with_reducible refine (put_b q4 6 d4 _ _ HY4.out (by omega) s.b (by omega) 2 (by omega) (by omega) 2 rfl).mono ?_); rintro e w5 ⟨q5, m5, d5, rfl, hm, -, hy, hbb⟩; obtain rfl : m5 = 8 := (by rw [← hm]; simp [be_len]); have HY5 := hidden hy; have HS5 := hidden (HS4.out.below hbb); have HB5 := hidden (HB4.out.trans (hbb.mono HB4.out.size)); clear hm hy hbb)
      | fail)
    have HSD := hidden (HS5.out.below (w' := w5.drew) (drew_below ⟨1, rfl⟩))
    have HYD := hidden (HY5.out.below (w' := w5.drew) (drew_below ⟨1, rfl⟩))
    have HBD := hidden (HB5.out.trans (drew_below (B := w.heap.size) (w := w5) (w' := w5.drew) ⟨1, rfl⟩))
    obtain ⟨-, -, -, c3, c4, c5, c6, c7, c8, -⟩ := HS5.out
    clear HY1 HY2 HY3 HY4 HS1 HS2 HS3 HS4 HB1 HB2 HB3 HB4 c0 c1 c2
    go_region_held3 (fun w' => w'.cell? ⟨w.heap.size, 3, none⟩ = some (.int .i64 s.lo.f) ∧ w'.cell? ⟨w.heap.size, 4, none⟩ = some (.int .u64 s.lo.h) ∧ w'.cell? ⟨w.heap.size, 5, none⟩ = some (.int .u64 s.lo.l) ∧ w'.cell? ⟨w.heap.size, 6, none⟩ = some (.int .i64 s.hi.f) ∧ w'.cell? ⟨w.heap.size, 7, none⟩ = some (.int .u64 s.hi.h) ∧ w'.cell? ⟨w.heap.size, 8, none⟩ = some (.int .u64 s.hi.l)) (first | exact ⟨HSD.out.c3, HSD.out.c4, HSD.out.c5, HSD.out.c6, HSD.out.c7, HSD.out.c8⟩ | exact ⟨HS6.out.c3, HS6.out.c4, HS6.out.c5, HS6.out.c6, HS6.out.c7, HS6.out.c8⟩ | exact ⟨HS7.out.c3, HS7.out.c4, HS7.out.c5, HS7.out.c6, HS7.out.c7, HS7.out.c8⟩ | go_keep)
      (first
      | (go_at_call 106; (with_reducible refine (pad_any q5 8 d5 _ _ HYD.out (by omega) s.lo HF1.out).mono ?_); rintro e w6 ⟨q6, m6, d6, rfl, hm, -, hy, hbb⟩; have hmm : m6 ≤ 1000 := (by rw [← hm]; simp [be_len, encA_len, sizeA]; split <;> omega); have HY6 := hidden hy; have HS6 := hidden (HSD.out.below hbb); have HB6 := hidden (HBD.out.trans (hbb.mono HBD.out.size)); clear hm hy hbb)
      | (go_at_call 106; (with_reducible refine (pad_any q6 m6 d6 _ _ HY6.out (by omega) s.hi HF2.out).mono ?_); rintro e w7 hgot; have HG := hidden (hgot.base HB6.out); obtain ⟨q7, m7, d7, rfl, -, -, -, hbb⟩ := hgot; have HS7 := hidden (HS6.out.below hbb); clear hbb)
      | fail)
    all_goals go_wp2_with fail
    all_goals go_ret
    all_goals
      rw [HE.out]
      have hG := HG.out
      simp only [List.nil_append, List.append_assoc] at hG ⊢
      obtain ⟨q', m', d', he, k2⟩ := hG
      cases he
      exact ⟨_, _, _, rfl, k2⟩
end Go.Proofs.YtkniifopfgeopaaGreat

namespace Go.Proofs.YtkniifopfgeopaaGreat
open Go.RowKit
set_option linter.unusedVariables false

theorem errPrs_step (l : List Pr) (j : Nat) (hj : j < l.length) : errPrs ((j : Int) + 1) (l.drop j) =
    if errPr l[j] ((j : Int) + 1) ≠ 0 then errPr l[j] ((j : Int) + 1) else errPrs (((j + 1 : Nat) : Int) + 1) (l.drop (j + 1)) := by
  rw [List.drop_eq_getElem_cons hj, errPrs]
  rfl
theorem errPrs_stepP (ls : List PrP) (j : Nat) (hj : j < ls.length) (x : PrP) (hx : ls[j] = x) (E E1 : Int) (hE : errPrs ((j : Int) + 1) ((ls.map PrP.pr).drop j) = E) (hE1 : errPr x.pr ((j : Int) + 1) = E1) :
    E = if E1 ≠ 0 then E1 else errPrs (((j + 1 : Nat) : Int) + 1) ((ls.map PrP.pr).drop (j + 1)) := by
  subst hE hE1 hx
  rw [errPrs_step _ _ (by simpa using hj)]
  simp

set_option maxHeartbeats 800000 in
theorem checkAll_any (p : Option Addr) (n c : Nat) (ls : List PrP) (w : World) (h : RdG KPr DPr w p n c ls) (E : Int) (hE : checkP (ls.map PrP.pr) = E) :
    Calls Tryz.prog 80 #[.slice p n c] w (ErrNew w E) := by
  have hn := h.le
  have HT := hidden h
  have HTL := hidden h.len
  unfold checkP at hE
  rw [List.length_map, h.len] at hE
  clear h
  by_cases h0 : n = 0
  · rw [if_pos h0] at hE
    subst h0
    go_enter Tryz.func80, Tryz.ntmps80
    go_wp2
    go_ret
    subst hE
    exact ⟨rfl, Below.refl _ _⟩
  rw [if_neg h0] at hE
  have h0' : ((n : Int) == 0) = false := by simp; omega
  by_cases h8 : 8 < n
  · rw [if_pos h8] at hE
    go_enter Tryz.func80, Tryz.ntmps80
    go_wp2
    go_ret
    subst hE
    exact ⟨rfl, Below.refl _ _⟩
  rw [if_neg h8] at hE
  have HE := hidden hE
  clear hE
  go_enter Tryz.func80, Tryz.ntmps80
  go_wp2_with fail
  go_loopw [16] (fun i wr => ∃ j : Nat, j ≤ n ∧ i = .int .i64 j ∧ errPrs ((j : Int) + 1) ((ls.map PrP.pr).drop j) = E ∧ Below w.heap.size w wr) (fun i _ => n - (intOf i).toNat)
  case atStart => exact ⟨0, by omega, rfl, by simpa using HE.out, Below.refl _ _⟩
  case round =>
    obtain ⟨j, hj, rfl, herr, hbel⟩ := hrel
    have HBL := hidden hbel
    by_cases hlt : ¬ j < n
    · obtain rfl : j = n := by omega
      rw [List.drop_of_length_le (by rw [List.length_map, HTL.out]; exact Nat.le_refl _), errPrs] at herr
      have HER := hidden herr
      clear herr hbel
      go_wp2
      go_ret
      have hE := HER.out
      subst hE
      exact ⟨rfl, HBL.out⟩
    replace hlt : j < n := by omega
    have hlt' : (j : Int) < n := by omega
    have htj := HT.out.below hbel
    obtain ⟨g, rfl, hc, hok⟩ := htj.cell j (by rw [HTL.out]; exact hlt)
    obtain ⟨y, hy⟩ : ∃ y, ls[j]'(by rw [HTL.out]; exact hlt) = y := ⟨_, rfl⟩
    rw [hy] at hc hok
    obtain ⟨E1, hE1⟩ : ∃ E1, errPr y.pr ((j : Int) + 1) = E1 := ⟨_, rfl⟩
    have hst := errPrs_stepP ls j (by rw [HTL.out]; exact hlt) y hy E E1 herr hE1
    have c0 := hc 0 _ rfl
    have c1 := hc 1 _ rfl
    have c2 := hc 2 _ rfl
    have c3 := hc 3 _ rfl
    simp only [KPr, Nat.add_zero] at c0 c1 c2 c3
    have hal : Below wr.heap.size wr (wr.alloc (.cells #[.int .i64 y.n, .int .i64 y.p, .slice y.sp y.sn y.sc, .slice y.tp y.tn y.tc] 109)) := (Below.refl _ _).alloc (Nat.le_refl _) _
    have HC := hidden (checkOne_any y ((j : Int) + 1) _ (DPr.keep hok (cell_below hal)))
    rw [hE1] at HC
    have HB1 := hidden (HBL.out.trans (hal.mono HBL.out.size))
    have HST := hidden hst
    have hj8 : (j : Int) + 1 ≤ 9 := by omega
    clear hc hok hst hal hE1 hy htj herr hbel
    go_wp2_with fail
    go_at_call 101
    (with_reducible refine (HC.out).mono ?_)
    rintro e w1 ⟨rfl, hb1⟩
    have HB2 := hidden (HB1.out.trans (hb1.mono HB1.out.size))
    clear hb1 c0 c1 c2 c3
    by_cases hz : E1 = 0
    · subst hz
      have hst := HST.out
      rw [if_neg (by simp)] at hst
      have HS := hidden hst
      clear hst HST
      go_wp2
      go_roundw
      case rel => exact ⟨j + 1, by omega, by go_num, HS.out.symm, HB2.out⟩
      case measure => simp [intOf]; omega
    · have hz' : (E1 != 0) = true := by simpa using hz
      have hst := HST.out
      rw [if_pos hz] at hst
      have HS := hidden hst
      clear hst HST hz
      go_wp2
      go_ret
      have hE := HS.out
      subst hE
      exact ⟨rfl, HB2.out⟩
end Go.Proofs.YtkniifopfgeopaaGreat

namespace Go.Proofs.YtkniifopfgeopaaGreat
open Go.RowKit
set_option linter.unusedVariables false

/-- What Parse returns. -/
def ParsedP (w : World) (r : List Pr × Int) (e : Ending) (w' : World) : Prop := ∃ (v : Value) (ls : List PrP), e = .returned (.tuple #[v, .int .i64 r.2]) ∧ ls.map PrP.pr = r.1 ∧ RowG KPr NPr w' w.heap.size v ls ∧ Below w.heap.size w w'
theorem parsed_fail (w w' : World) (E : Int) (r : List Pr × Int) (hr : r = ([], E)) (hb : Below w.heap.size w w') : ParsedP w r (.returned (.tuple #[.slice none 0 0, .int .i64 E])) w' := by
  subst hr
  exact ⟨_, [], rfl, rfl, RowG.nil _ _ _ _, hb⟩
set_option maxHeartbeats 800000 in
theorem pparse_any (p : Option Addr) (n c : Nat) (xs : List Int) (w : World) (h : Byt w p n c xs) (hn : n ≤ 1048576) (r : List Pr × Int) (hr : parseP xs = r) :
    Calls Tryz.prog 96 #[.slice p n c] w (ParsedP w r) := by
  unfold parseP at hr
  rw [h.len] at hr
  by_cases h0 : n = 0
  · rw [if_pos h0] at hr
    subst h0
    have HR := hidden hr
    clear h hr
    go_enter Tryz.func96, Tryz.ntmps96
    go_wp2
    go_ret2
    exact parsed_fail _ _ _ _ HR.out.symm (Below.refl _ _)
  rw [if_neg h0] at hr
  have h0' : ((n : Int) == 0) = false := by simp; omega
  obtain ⟨o, ho⟩ : ∃ o, prsV xs = o := ⟨_, rfl⟩
  have HC := hidden (read_any p n c xs w h hn o ho)
  rw [ho] at hr
  have HO := hidden ho
  have HRG := hidden h.rng
  have HL := hidden h.len
  have HR := hidden hr
  clear h ho hr
  go_enter Tryz.func96, Tryz.ntmps96
  go_wp2_with fail
  go_at_call 109
  (with_reducible refine (HC.out).mono ?_)
  rintro e w1 ⟨hb1, hh⟩
  have HB1 := hidden hb1
  cases o with
  | none =>
    subst hh
    clear hb1
    go_wp2
    go_ret2
    exact parsed_fail _ _ _ _ HR.out.symm HB1.out
  | some l =>
    obtain ⟨v, ls, rfl, hl, hrow⟩ := hh
    obtain ⟨q, d, rfl⟩ := hrow.form rfl
    have hr := HR.out
    simp only at hr
    obtain ⟨E, hE⟩ : ∃ E, checkP l = E := ⟨_, rfl⟩
    rw [hE] at hr
    have hrd : RdG KPr DPr w1 q ls.length d ls := by
      obtain ⟨q', d', e, h⟩ := hrow.rd (D := DPr) rfl (fun _ h => h.rd)
      simp at e
      obtain ⟨rfl, rfl⟩ := e
      exact h
    have HC2 := hidden (checkAll_any _ _ _ ls w1 hrd E (by rw [hl]; exact hE))
    have HRW := hidden hrow
    have HR2 := hidden hr
    have HLS := hidden hl
    clear hrow hrd hb1 HC hr HR hE hl
    go_wp2_with fail
    go_at_call 80
    (with_reducible refine (HC2.out).mono ?_)
    rintro e w2 ⟨rfl, hb2⟩
    have HB2 := hidden hb2
    have HB3 := hidden (HB1.out.trans (hb2.mono HB1.out.size))
    clear hb2
    by_cases hz : E = 0
    · subst hz
      have hr := HR2.out
      rw [if_neg (by simp)] at hr
      have HR3 := hidden hr
      clear hr HR2
      go_wp2
      go_ret2
      rw [← HR3.out]
      exact ⟨_, ls, rfl, HLS.out, HRW.out.below HB2.out, HB3.out⟩
    · have hz' : (E != 0) = true := by simpa using hz
      have hr := HR2.out
      rw [if_pos hz] at hr
      have HR3 := hidden hr
      clear hr HR2
      go_wp2
      go_ret2
      exact parsed_fail _ _ _ _ HR3.out.symm HB3.out
end Go.Proofs.YtkniifopfgeopaaGreat
