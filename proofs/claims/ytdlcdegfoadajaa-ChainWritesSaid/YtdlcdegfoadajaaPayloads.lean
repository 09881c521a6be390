/-
  The generator of a chain's payloads: what it hands to the loop over it, and what the reader holds when it ends.
-/
import Derived.Test.YtdlcdegfoadajaaPayload
import Derived.Test.YtdlcdegfoadajaaRParse3
import Derived.Test.YtdlcdegfoadajaaRangeSt
import Derived.Shelf.RegionOpen
import Derived.OwnWalkIn
import Derived.TacticsInMore
import Derived.LoopNIn
import Derived.LoopIn
import Derived.Sort.QuietIn
namespace Go.Proofs.Ytdlcdegfoadajaa
open Go.RowKit Go.Shelf
set_option linter.unusedVariables false
attribute [local go_sem] Oper.semAt_some

/-- What the reader holds between two payloads. -/
structure MidP (wr : World) (R : Nat) (p : Option Addr) (n c : Nat) (xs : List Int) (r : ResC) (pre : List RawP) : Prop where
  ex : ∃ (at_ : Nat) (kd ins : Int), Rdr wr R p n c at_ kd ins 0 ∧ at_ ≤ n ∧ 0 ≤ kd ∧ kd ≤ 255 ∧
    (kd ≠ 0 ∧ ins = 0 ∧ preC (pre.map RawP.raw) (parseC (40 - pre.length) kd (xs.drop at_)) = r ∨ kd = 0 ∧ (if n - at_ ≠ 0 then failC 2 else ⟨pre.map RawP.raw, ins, 0⟩) = r)
/-- What it holds at the end. -/
def EndP (R : Nat) (p : Option Addr) (n c : Nat) (r : ResC) (pre : List RawP) (W : World) : Prop :=
  ∃ at_ next ins : Int, Rdr W R p n c at_ next ins r.e ∧ (r.e = 0 → ins = r.n ∧ pre.map RawP.raw = r.l) ∧ pre.length ≤ 40

theorem Rdr.set4 {w : World} {R : Nat} {p : Option Addr} {n c : Nat} {a b d e : Int} (h : Rdr w R p n c a b d e) (v : Int) : Rdr (w.setCell ⟨R, 4, none⟩ (.int .i64 v)) R p n c a b d v := by
  obtain ⟨c0, c1, c2, c3, c4, fr⟩ := h
  exact ⟨by go_simp, by go_simp, by go_simp, by go_simp, by go_simp, fun j => by rw [World.frozen?_setCell]; exact fr j⟩
theorem end_fail {R : Nat} {p : Option Addr} {n c : Nat} {E : Int} {pre : List RawP} {W : World} {r : ResC} (a b d : Int) (h : Rdr W R p n c a b d E) (hr : failC E = r) (h0 : E ≠ 0) (hl : pre.length ≤ 40) : EndP R p n c r pre W := by
  subst hr
  exact ⟨a, b, d, h, fun he => absurd he h0, hl⟩

def encR (x : RawP) : Array Value := #[.agg #[.int .i64 x.k, .bool x.c, .slice x.p x.n x.m]]

set_option maxHeartbeats 3200000 in
set_option maxRecDepth 100000 in
theorem payloads_seq (w0 w : World) (R : Nat) (p : Option Addr) (n c : Nat) (xs : List Int) (first : Int) (r : ResC) (hx : Byt w0 p n c xs) (hn : n ≤ 140737488351232) (hb : Below w0.heap.size w0 w) (hR : w0.heap.size ≤ R) (hr : Rdr w R p n c 0 first 0 0) (hf : 0 ≤ first ∧ first ≤ 255) (hres : parseC 40 first xs = r) (m : Nat) (b0 : Nat) (hb0 : b0 ≤ w.heap.size) :
    SeqSt Fence.wide (m + 3) Try.prog 26 #[.pointer (some ⟨R, 0, none⟩)] encR R (R + 1) 40 (fun x U => x.bod U b0) (EndP R p n c r) w := by
  intro l J W hW hJ hY h0
  have hlt := hr.lt
  have hrW := hr.below hW hlt
  have hmid : MidP W R p n c xs r [] := by
    refine ⟨0, first, 0, hrW, by omega, hf.1, hf.2, ?_⟩
    by_cases h : first = 0
    · refine Or.inr ⟨h, ?_⟩
      subst h
      rw [← hres, parseC_end, hx.len]
      simp
    · refine Or.inl ⟨h, rfl, ?_⟩
      simp only [List.map_nil, List.length_nil, Nat.sub_zero, List.drop_zero]
      rw [hres]
      exact preC_nil r (by rw [← hres]; exact parse_form 40 first xs)
  have hBW : Below w0.heap.size w0 W := hb.trans (hW.mono (by have := hb.size; omega))
  have HM := hidden hmid
  have HX := hidden hx
  have HBW := hidden hBW
  have HSW := hidden hW.size
  have HJ := hidden hJ
  have HY := hidden hY
  have H0 := hidden h0
  have HL := hidden hx.len
  clear hmid hx hb hr hf hres hW hJ hY h0 hBW hrW
  refine callsIn_of_wp Try.func26 rfl trivial ?_ rfl
  simp only [Try.ntmps26, List.size_toArray, List.length_cons, List.length_nil, Nat.reduceAdd, Nat.reduceSub, Array.replicate_succ, Array.replicate_zero, List.push_toArray, List.append_toArray, List.nil_append, List.cons_append]
  gi_wp2
  gi_loopw [4] (fun i wr => ∃ pre : List RawP, i = .int .i64 pre.length ∧ pre.length ≤ 40 ∧ J pre wr ∧ MidP wr R p n c xs r pre ∧ Below w0.heap.size w0 wr ∧ w.heap.size ≤ wr.heap.size) (fun i _ => 41 - (intOf i).toNat)
  case atStart => exact ⟨[], rfl, by simp, H0.out, HM.out, HBW.out, HSW.out⟩
  case round =>
    obtain ⟨pre, rfl, hpl, hj, ⟨at_, kd, ins, hrd, hat, hk0, hk1, hcase⟩, hbl, hws⟩ := hrel
    have HRD := hidden hrd
    have HBL := hidden hbl
    have HJJ := hidden hj
    have HXr := hidden (HX.out.below hbl)
    obtain ⟨c0, c1, c2, c3, c4, fr⟩ := hrd
    clear hj hbl HM HBW H0
    rcases hcase with ⟨hkd, rfl, hpre⟩ | ⟨rfl, hpre⟩
    · have hkd1 : (kd != 0) = true := by simpa using hkd
      have HP := hidden hpre
      clear hpre
      by_cases h40 : pre.length = 40
      · have hre := round_many (kind := kd) (xs := xs) (a := at_) (out := pre.map RawP.raw) hkd
        rw [show 0 = 40 - pre.length by omega, HP.out] at hre
        have HRE := hidden hre.symm
        have h40' : (pre.length : Int) = 40 := by omega
        clear hre hkd
        rw [h40']
        gi_wp2
        refine bodyPost_ret (results_none rfl _ _ _) rfl ?_
        exact ⟨⟨_, rfl⟩, pre, end_fail _ _ _ (HRD.out.set4 10) HRE.out (by omega) hpl, HJ.out _ _ _ HJJ.out (grown_set _ _ _ _)⟩
      obtain ⟨left, hleft⟩ : ∃ k, 40 - pre.length = k + 1 := ⟨39 - pre.length, by omega⟩
      have h40' : ¬ (pre.length : Int) = 40 := by omega
      have h40b : ((pre.length : Int) == 40) = false := by simpa using h40'
      rw [hleft] at HP
      by_cases h4 : n - at_ < 4
      · have hre := round_short (left := left) (kind := kd) (xs := xs) (a := at_) (out := pre.map RawP.raw) hkd (by rw [HL.out]; exact h4)
        rw [HP.out] at hre
        have HRE := hidden hre.symm
        have HC := hidden (callsIn_wide (n := m + 2).2 (pay_short wr R p n c xs HXr.out hn at_ kd 0 0 HRD.out hat h4))
        clear hre hkd hleft h4
        gi_wp2_with (refine ⟨trivial, ?_⟩; gi_at_call 34; (with_reducible refine (HC.out).mono ?_); rintro e w2 ⟨rfl, hb2⟩; have hrd2 := HRD.out.below hb2 HRD.out.lt; have hl2 := hrd2.lt; have hne2 : R ≠ w2.heap.size := (by omega); obtain ⟨d0, d1, d2, d3, d4, dr⟩ := hrd2; have dr4 := dr 4)
        refine bodyPost_ret (results_none rfl _ _ _) rfl ?_
        have hb2' := grown_of_below hb2 (some R)
        exact ⟨⟨_, rfl⟩, pre, end_fail _ _ _ (((HRD.out.below hb2 HRD.out.lt).set4 1).grown (World.grownBy_alloc _ _ none) (by simp)) HRE.out (by omega) hpl, HJ.out _ _ _ HJJ.out (grown_alloc_new (grown_trans hb2' (grown_set _ _ _ _)) _)⟩
      obtain ⟨L, hL⟩ : ∃ L, lenC (xs.drop at_) = L := ⟨_, rfl⟩
      have hlb := lenC_bd (xs.drop at_) (rng_drop HX.out.rng at_)
      rw [hL] at hlb
      by_cases hbad : L < 4 ∨ (n : Int) - at_ < L
      · have hre := round_wrong (left := left) (kind := kd) (xs := xs) (a := at_) (out := pre.map RawP.raw) hkd (by rw [HL.out]; omega) (by rw [HL.out, hL]; omega)
        rw [HP.out] at hre
        have HRE := hidden hre.symm
        have HC := hidden (callsIn_wide (n := m + 2).2 (pay_wrong wr R p n c xs HXr.out hn at_ kd 0 0 HRD.out (by omega) L hL hbad))
        clear hre hkd hleft h4 hbad hL
        gi_wp2_with (refine ⟨trivial, ?_⟩; gi_at_call 34; (with_reducible refine (HC.out).mono ?_); rintro e w2 ⟨rfl, hb2⟩; have hrd2 := HRD.out.below hb2 HRD.out.lt; have hl2 := hrd2.lt; have hne2 : R ≠ w2.heap.size := (by omega); obtain ⟨d0, d1, d2, d3, d4, dr⟩ := hrd2; have dr4 := dr 4)
        refine bodyPost_ret (results_none rfl _ _ _) rfl ?_
        have hb2' := grown_of_below hb2 (some R)
        exact ⟨⟨_, rfl⟩, pre, end_fail _ _ _ (((HRD.out.below hb2 HRD.out.lt).set4 2).grown (World.grownBy_alloc _ _ none) (by simp)) HRE.out (by omega) hpl, HJ.out _ _ _ HJJ.out (grown_alloc_new (grown_trans hb2' (grown_set _ _ _ _)) _)⟩
      obtain ⟨k, hk⟩ := Int.eq_ofNat_of_zero_le (show 0 ≤ L - 4 by omega)
      have hhead := headC_at kd xs at_
      have hmt : (lenC (xs.drop at_)).toNat - 4 = k := by rw [hL]; omega
      rw [hmt] at hhead
      have hlt' : (lenC (xs.drop at_)).toNat = k + 4 := by rw [hL]; omega
      have hlast := fun hh => round_last (left := left) (kind := kd) (xs := xs) (a := at_) (out := pre.map RawP.raw) hkd (by rw [HL.out]; omega) (by rw [HL.out, hL]; omega) hh
      have hmore := fun hh => round_more (left := left) (kind := kd) (xs := xs) (a := at_) (out := pre.map RawP.raw) hkd (by rw [HL.out]; omega) (by rw [HL.out, hL]; omega) hh
      rw [hhead, HP.out] at hlast hmore
      rw [hlt'] at hmore
      rw [HL.out, hL] at hlast
      have r0 := rng_getD HX.out.rng at_
      have hc := callsIn_wide (n := m + 2).2 (pay_ok wr R p n c xs HXr.out hn at_ kd 0 0 HRD.out L hL k hk (by omega))
      unfold PayOk at hc
      generalize xs.getD at_ 0 = x0 at *
      generalize xs.getD (at_ + 1) 0 = x1 at *
      generalize hbs : (xs.drop (at_ + 4)).take k = bs at *
      have hfit : at_ + 4 + k ≤ n := by omega
      have HC := hidden hc
      have HLAST := hidden hlast
      have HMORE := hidden hmore
      have HLEFT := hidden hleft
      have HK := hidden hk
      clear hhead hmt hlt' hlast hmore hL hk hleft hbad hc hbs
      gi_wp2_with (refine ⟨trivial, ?_⟩; gi_at_call 34; (with_reducible refine (HC.out).mono ?_); rintro e w2 ⟨q, d, rfl, hbod, hrd2, hg2⟩; obtain ⟨fn, tmps, assign, body, hy, hRnd⟩ := HY.out pre ⟨kd, decide (128 ≤ x1), q, k, d, bs⟩ _ (HJ.out _ _ _ (HJ.out _ _ _ HJJ.out hg2) (World.grownBy_alloc w2 (.cells #[.int .i64 kd, .bool (decide (128 ≤ x1)), .slice q k d] 43) _)) ((hbod.mono (Nat.le_trans hb0 hws)).alloc (.cells #[.int .i64 kd, .bool (decide (128 ≤ x1)), .slice q k d] 43)) (by omega); simp only [encR] at hy)
      have HB2 := hidden (HBL.out.grown hg2 HBL.out.size (by intro k hk; simp at hk; omega))
      have HRD2 := hidden hrd2
      have hl2 := hrd2.lt
      have hs2 := hg2.size
      clear hbod hrd2 hg2 HC c0 c1 c2 c3 c4 fr
      refine hRnd.mono ?_
      rintro e W3 ⟨rfl, hJ3, hk3⟩
      have hs3 := hk3.size
      simp at hs3
      have HS3 := hidden (show w.heap.size ≤ W3.heap.size by omega)
      have HJ3 := hidden hJ3
      have HRD3 := hidden ((HRD2.out.grown (World.grownBy_alloc w2 (.cells #[.int .i64 kd, .bool (decide (128 ≤ x1)), .slice q k d] 43) none) (by simp)).below hk3 (Nat.lt_succ_self _))
      have HB3 := hidden ((HB2.out.alloc HB2.out.size (.cells #[.int .i64 kd, .bool (decide (128 ≤ x1)), .slice q k d] 43)).trans (hk3.mono (by omega)))
      clear hJ3 hk3 hy hRnd HB2 HRD2
      gi_wp2
      go_roundw
      case rel =>
        have hk' := HK.out
        have hat' : (at_ : Int) + L = ((at_ + (k + 4) : Nat) : Int) := by omega
        have hr3 := HRD3.out
        rw [hat'] at hr3
        refine ⟨pre ++ [⟨kd, decide (128 ≤ x1), q, k, d, bs⟩], by simp, by simp; omega, HJ3.out, ?_, HB3.out, HS3.out⟩
        have hmap : (pre ++ [(⟨kd, decide (128 ≤ x1), q, k, d, bs⟩ : RawP)]).map RawP.raw = pre.map RawP.raw ++ [⟨kd, decide (128 ≤ x1), bs⟩] := by simp [RawP.raw]
        by_cases hlk : lastK kd = true
        · rw [if_pos hlk, if_pos hlk] at hr3
          refine ⟨at_ + (k + 4), 0, x0, hr3, by omega, by omega, by omega, Or.inr ⟨rfl, ?_⟩⟩
          rw [hmap, HLAST.out hlk]
          by_cases he : n - (at_ + (k + 4)) = 0
          · rw [if_neg (by omega), if_neg (by omega)]
          · rw [if_pos (by omega), if_pos (by omega)]
        · rw [if_neg hlk, if_neg hlk] at hr3
          refine ⟨at_ + (k + 4), x0, 0, hr3, by omega, r0.1, r0.2, ?_⟩
          have hm := HMORE.out hlk
          by_cases hz : x0 = 0
          · refine Or.inr ⟨hz, ?_⟩
            have hre := round_end (left := left) (kind := x0) (xs := xs) (a := at_ + (k + 4)) (out := pre.map RawP.raw ++ [⟨kd, decide (128 ≤ x1), bs⟩]) hz
            rw [HL.out] at hre
            rw [hm, hre, hmap]
          · refine Or.inl ⟨hz, rfl, ?_⟩
            have := HLEFT.out
            rw [hmap, List.length_append, List.length_singleton, show 40 - (pre.length + 1) = left by omega]
            exact hm.symm
      case measure =>
        simp [intOf]
        omega
    · by_cases he : at_ = n
      · subst he
        rw [if_neg (by omega)] at hpre
        subst hpre
        gi_wp2
        gi_quiet (fail)
        gi_wp2
        go_end0
        exact ⟨⟨_, rfl⟩, pre, ⟨_, _, _, (HRD.out.grown (grown_drewN wr _ none) (by simp)), fun _ => ⟨rfl, rfl⟩, hpl⟩, HJ.out _ _ _ HJJ.out (grown_drewN _ _ _)⟩
      · rw [if_pos (by omega)] at hpre
        have HRE := hidden hpre
        have hne : ((at_ : Int) != (n : Int)) = true := by simp; omega
        clear hpre he
        gi_wp2
        gi_quiet (fail)
        gi_wp2
        go_end0
        exact ⟨⟨_, rfl⟩, pre, end_fail _ _ _ ((HRD.out.grown (grown_drewN wr _ none) (by simp)).set4 2) HRE.out (by omega) hpl, HJ.out _ _ _ HJJ.out (grown_trans (grown_drewN _ _ _) (grown_set _ _ _ _))⟩
end Go.Proofs.Ytdlcdegfoadajaa
