/-
  The document's own small functions on payloads: kinds of identities, lengths of SPIs, the first errors of identities and authentications.
  The document's own fits, where the numbers of a payload fit.
  The document's own reader of notifications.
  What the document's own Parse of proposals returns, for any bytes of at most a mebibyte.
-/
import Derived.Test.YtbpmanbpmlkmnaaGreatDoorMZ11
import Derived.Test.YtbpmanbpmlkmnaaGreatDoorMZ8
import Derived.Test.YtbpmanbpmlkmnaaGreatDoorMZ5
import Derived.Test.YtbpmanbpmlkmnaaGreatDoorMPayNote
import Derived.Test.YtbpmanbpmlkmnaaGreatDoorMZ1
import Derived.Test.YtbpmanbpmlkmnaaGreatDoorMZ13
import Derived.Test.YtbpmanbpmlkmnaaGreatDoorMZ20
import Derived.Test.YtbpmanbpmlkmnaaGreatDoorMZ6
import Derived.Deep.Cut
import Derived.Deep.CutRange
import Derived.Deep.RegionHeld3
namespace Go.Proofs.YtbpmanbpmlkmnaaGreatDoor
open Go.RowKit
set_option linter.unusedVariables false

def kindB (k : Int) : Bool := k == 1 || k == 2 || k == 3 || k == 5 || k == 11
set_option maxHeartbeats 800000 in
set_option maxRecDepth 100000 in
theorem rkind_any (k : Int) (w : World) : Calls Tryz.prog 55 #[.int .i64 k] w fun e w' => e = .returned (.bool (kindB k)) ∧ Below w.heap.size w w' := by
  unfold kindB
  by_cases h1 : k = 1
  · subst h1
    go_enter Tryz.func55, Tryz.ntmps55
    go_wp2
    go_ret
    exact ⟨rfl, Below.refl _ _⟩
  have e1 : (k == 1) = false := by simpa using h1
  by_cases h2 : k = 2
  · subst h2
    go_enter Tryz.func55, Tryz.ntmps55
    go_wp2
    go_ret
    exact ⟨rfl, Below.refl _ _⟩
  have e2 : (k == 2) = false := by simpa using h2
  by_cases h3 : k = 3
  · subst h3
    go_enter Tryz.func55, Tryz.ntmps55
    go_wp2
    go_ret
    exact ⟨rfl, Below.refl _ _⟩
  have e3 : (k == 3) = false := by simpa using h3
  by_cases h5 : k = 5
  · subst h5
    go_enter Tryz.func55, Tryz.ntmps55
    go_wp2
    go_ret
    exact ⟨rfl, Below.refl _ _⟩
  have e5 : (k == 5) = false := by simpa using h5
  rw [e1, e2, e3, e5]
  clear h1 h2 h3 h5
  by_cases h11 : k = 11
  · subst h11
    go_enter Tryz.func55, Tryz.ntmps55
    go_wp2
    go_ret
    exact ⟨rfl, Below.refl _ _⟩
  have e11 : (k == 11) = false := by simpa using h11
  rw [e11]
  clear h11
  go_enter Tryz.func55, Tryz.ntmps55
  go_wp2
  go_ret
  exact ⟨rfl, Below.refl _ _⟩

def widthN (k : Int) : Int := if k = 0 ∨ k = 1 then 0 else 4
theorem width_spi (k : Int) (h0 : 0 ≤ k) (h3 : k ≤ 3) : widthN k = (spiZ k : Int) := by
  have : k = 0 ∨ k = 1 ∨ k = 2 ∨ k = 3 := by omega
  rcases this with rfl | rfl | rfl | rfl <;> rfl
set_option maxHeartbeats 800000 in
set_option maxRecDepth 100000 in
theorem rwidth_any (k : Int) (w : World) : Calls Tryz.prog 35 #[.int .i64 k] w fun e w' => e = .returned (.int .i64 (widthN k)) ∧ Below w.heap.size w w' := by
  unfold widthN
  by_cases h0 : k = 0
  · subst h0
    go_enter Tryz.func35, Tryz.ntmps35
    go_wp2
    go_ret
    exact ⟨rfl, Below.refl _ _⟩
  by_cases h1 : k = 1
  · subst h1
    go_enter Tryz.func35, Tryz.ntmps35
    go_wp2
    go_ret
    exact ⟨rfl, Below.refl _ _⟩
  have e0 : (k == 0) = false := by simpa using h0
  have e1 : (k == 1) = false := by simpa using h1
  rw [if_neg (by omega)]
  clear h0 h1
  go_enter Tryz.func35, Tryz.ntmps35
  go_wp2
  go_ret
  exact ⟨rfl, Below.refl _ _⟩

set_option maxHeartbeats 1600000 in
set_option maxRecDepth 100000 in
theorem rauth_any (m : Int) (p : Option Addr) (n c : Nat) (w : World) (hn : n ≤ 9223372036854775807) (E : Int) (hE : authE m n = E) :
    Calls Tryz.prog 24 #[.agg #[.int .i64 m, .slice p n c]] w fun e w' => e = .returned (.int .i64 E) ∧ Below w.heap.size w w' := by
  have HB := hidden ((Below.refl w.heap.size w).alloc (Nat.le_refl _) (.cells #[.int .i64 m, .slice p n c] 37))
  have HB2 := hidden ((Below.refl w.heap.size (w.alloc (.cells #[.int .i64 m, .slice p n c] 37))).drew)
  unfold authE at hE
  by_cases h1 : m = 2
  · subst h1
    rw [if_neg (by decide)] at hE
    by_cases h0 : n = 0
    · subst h0
      rw [if_pos rfl] at hE
      subst hE
      go_enter Tryz.func24, Tryz.ntmps24
      go_wp2
      go_ret
      exact ⟨rfl, HB.out⟩
    · rw [if_neg h0] at hE
      subst hE
      have hz : ((n : Int) == 0) = false := by simp; omega
      go_enter Tryz.func24, Tryz.ntmps24
      go_wp2
      go_ret
      exact ⟨rfl, HB.out⟩
  have e1 : (m != 2) = true := by simpa using h1
  by_cases h2 : m = 14
  · subst h2
    rw [if_neg (by decide)] at hE
    by_cases h0 : n = 0
    · subst h0
      rw [if_pos rfl] at hE
      subst hE
      go_enter Tryz.func24, Tryz.ntmps24
      go_wp2
      go_ret
      exact ⟨rfl, HB.out⟩
    · rw [if_neg h0] at hE
      subst hE
      have hz : ((n : Int) == 0) = false := by simp; omega
      go_enter Tryz.func24, Tryz.ntmps24
      go_wp2
      go_ret
      exact ⟨rfl, HB.out⟩
  have e2 : (m != 14) = true := by simpa using h2
  rw [if_pos ⟨h1, h2⟩] at hE
  subst hE
  clear h1 h2
  go_enter Tryz.func24, Tryz.ntmps24
  go_wp2
  go_ret
  exact ⟨rfl, HB.out⟩

set_option maxHeartbeats 3200000 in
set_option maxRecDepth 100000 in
theorem ridentity_any (k : Int) (p : Option Addr) (n c : Nat) (w : World) (hn : n ≤ 9223372036854775807) (E : Int) (hE : idE k n = E) :
    Calls Tryz.prog 23 #[.agg #[.int .i64 k, .slice p n c]] w fun e w' => e = .returned (.int .i64 E) ∧ Below w.heap.size w w' := by
  have HB := hidden ((Below.refl w.heap.size w).alloc (Nat.le_refl _) (.cells #[.int .i64 k, .slice p n c] 35))
  have HK := hidden (rkind_any k)
  have HCC : Hid (∀ W, Below (w.alloc (.cells #[.int .i64 k, .slice p n c] 35)).heap.size (w.alloc (.cells #[.int .i64 k, .slice p n c] 35)) W → W.cell? ⟨w.heap.size, 0, none⟩ = some (.int .i64 k) ∧ W.cell? ⟨w.heap.size, 1, none⟩ = some (.slice p n c)) := fun W hb => ⟨cell_below hb _ _ (by go_simp), cell_below hb _ _ (by go_simp)⟩
  unfold kindB at HK
  rcases idE_cases k n E hE with ⟨rfl, ⟨h, rfl⟩ | ⟨h, rfl⟩⟩ | ⟨k1, rfl, ⟨h, rfl⟩ | ⟨h, rfl⟩⟩ | ⟨k1, k2, k3, ⟨h, rfl⟩ | ⟨h, rfl⟩⟩ | ⟨k1, k2, k3, k4, k5, rfl⟩
  all_goals clear hE
  all_goals (try rcases k3 with rfl | rfl | rfl)
  all_goals (try subst h)
  all_goals (try have hz0 : ((n : Int) == 0) = false := (by simp; omega))
  all_goals (try have hz : ((n : Int) != 4) = true := (by simp; omega))
  all_goals (try have hz2 : ((n : Int) != 16) = true := (by simp; omega))
  all_goals (try rw [k1, k4, k3, k2, k5] at HK)
  all_goals (try rw [k1, k3, k4, k2, k5] at HK)
  all_goals (try simp only [beq_self_eq_true, Bool.true_or, Bool.or_true, Bool.false_or] at HK)
  all_goals (try clear h)
  all_goals
    go_enter Tryz.func23, Tryz.ntmps23
    go_wp2_with (first
      | (go_at_call 55; (with_reducible refine (HK.out _).mono ?_); rintro e w2 ⟨rfl, hb⟩; have HB2 := hidden (HB.out.trans (hb.mono HB.out.size)); obtain ⟨c0, c1⟩ := HCC.out w2 hb; clear hb)
      | fail)
    go_ret
    exact ⟨rfl, HB2.out⟩
end Go.Proofs.YtbpmanbpmlkmnaaGreatDoor

namespace Go.Proofs.YtbpmanbpmlkmnaaGreatDoor
open Go.RowKit
set_option linter.unusedVariables false

set_option maxHeartbeats 800000 in
set_option maxRecDepth 100000 in
theorem rbyteOK_yes (k : Int) (h0 : 0 ≤ k) (h1 : k ≤ 255) (w : World) : Calls Tryz.prog 31 #[.int .i64 k] w fun e w' => e = .returned (.bool true) ∧ Below w.heap.size w w' := by
  go_enter Tryz.func31, Tryz.ntmps31
  go_wp2
  go_ret
  exact ⟨rfl, Below.refl _ _⟩
/-- The numbers of a payload fit. -/
structure Fit (x : Pv) : Prop where
  r : 1 ≤ x.t ∧ x.t ≤ 255
  e34 : x.t = 34 → 0 ≤ x.eg ∧ x.eg ≤ 65535
  e35 : x.t = 35 ∨ x.t = 36 → 0 ≤ x.ik ∧ x.ik ≤ 255
  e39 : x.t = 39 → 0 ≤ x.am ∧ x.am ≤ 255
  e41 : x.t = 41 → 0 ≤ x.np ∧ x.np ≤ 255 ∧ 0 ≤ x.nt ∧ x.nt ≤ 65535
  e42 : x.t = 42 → 0 ≤ x.dp ∧ x.dp ≤ 255
set_option maxHeartbeats 3200000 in
set_option maxRecDepth 100000 in
theorem rfits_yes (x : Pv) (w : World) (h : Fit x) : Calls Tryz.prog 15 #[(.agg #[.int .i64 x.t, .slice x.pr.p x.pr.n x.pr.c, .int .i64 x.eg, .slice x.ed.p x.ed.n x.ed.c, .int .i64 x.ik, .slice x.id.p x.id.n x.id.c, .int .i64 x.am, .slice x.ad.p x.ad.n x.ad.c, .int .i64 x.np, .slice x.ns.p x.ns.n x.ns.c, .int .i64 x.nt, .slice x.nd.p x.nd.n x.nd.c, .int .i64 x.dp, .slice x.ds.p x.ds.n x.ds.c, .slice x.se.p x.se.n x.se.c, .slice x.da.p x.da.n x.da.c])] w fun e w' => e = .returned (.bool true) ∧ Below w.heap.size w w' := by
  obtain ⟨⟨r1, r2⟩, h34, h35, h39, h41, h42⟩ := h
  have HB := hidden ((Below.refl w.heap.size w).alloc (Nat.le_refl _) (.cells #[.int .i64 x.t, .slice x.pr.p x.pr.n x.pr.c, .int .i64 x.eg, .slice x.ed.p x.ed.n x.ed.c, .int .i64 x.ik, .slice x.id.p x.id.n x.id.c, .int .i64 x.am, .slice x.ad.p x.ad.n x.ad.c, .int .i64 x.np, .slice x.ns.p x.ns.n x.ns.c, .int .i64 x.nt, .slice x.nd.p x.nd.n x.nd.c, .int .i64 x.dp, .slice x.ds.p x.ds.n x.ds.c, .slice x.se.p x.se.n x.se.c, .slice x.da.p x.da.n x.da.c] 45))
  have HY := hidden (fun k h0 h1 W => rbyteOK_yes k h0 h1 W)
  have HP := hidden (fun W (hW : Below (w.alloc (.cells #[.int .i64 x.t, .slice x.pr.p x.pr.n x.pr.c, .int .i64 x.eg, .slice x.ed.p x.ed.n x.ed.c, .int .i64 x.ik, .slice x.id.p x.id.n x.id.c, .int .i64 x.am, .slice x.ad.p x.ad.n x.ad.c, .int .i64 x.np, .slice x.ns.p x.ns.n x.ns.c, .int .i64 x.nt, .slice x.nd.p x.nd.n x.nd.c, .int .i64 x.dp, .slice x.ds.p x.ds.n x.ds.c, .slice x.se.p x.se.n x.se.c, .slice x.da.p x.da.n x.da.c] 45)).heap.size (w.alloc (.cells #[.int .i64 x.t, .slice x.pr.p x.pr.n x.pr.c, .int .i64 x.eg, .slice x.ed.p x.ed.n x.ed.c, .int .i64 x.ik, .slice x.id.p x.id.n x.id.c, .int .i64 x.am, .slice x.ad.p x.ad.n x.ad.c, .int .i64 x.np, .slice x.ns.p x.ns.n x.ns.c, .int .i64 x.nt, .slice x.nd.p x.nd.n x.nd.c, .int .i64 x.dp, .slice x.ds.p x.ds.n x.ds.c, .slice x.se.p x.se.n x.se.c, .slice x.da.p x.da.n x.da.c] 45)) W) => (PvIn.new w x 45).below hW)
  obtain ⟨t, pr, eg, ed, ik, id, am, ad, np, ns, nt, nd, dp, ds, se, da⟩ := x
  dsimp only at *
  by_cases h34_ : t = 34
  · subst h34_
    obtain ⟨f0, f1⟩ := h34 rfl
    clear h34 h35 h39 h41 h42
    go_enter Tryz.func15, Tryz.ntmps15
    go_wp2
    go_ret
    exact ⟨rfl, HB.out⟩
  by_cases h35_ : t = 35
  · subst h35_
    obtain ⟨f0, f1⟩ := h35 (Or.inl rfl)
    clear h34 h35 h39 h41 h42
    go_enter Tryz.func15, Tryz.ntmps15
    go_wp2_with (first
      | (go_at_call 31; (with_reducible refine (HY.out _ f0 f1 _).mono ?_); rintro e w2 ⟨rfl, hb⟩; have HB2 := hidden (HB.out.trans (hb.mono HB.out.size)); have hp := HP.out w2 hb; obtain ⟨c0, c1, c2, c3, c4, c5, c6, c7, c8, c9, c10, c11, c12, c13, c14, c15, cf⟩ := hp; clear hb)
      | fail)
    go_ret
    exact ⟨rfl, HB2.out⟩
  by_cases h36_ : t = 36
  · subst h36_
    obtain ⟨f0, f1⟩ := h35 (Or.inr rfl)
    clear h34 h35 h39 h41 h42
    go_enter Tryz.func15, Tryz.ntmps15
    go_wp2_with (first
      | (go_at_call 31; (with_reducible refine (HY.out _ f0 f1 _).mono ?_); rintro e w2 ⟨rfl, hb⟩; have HB2 := hidden (HB.out.trans (hb.mono HB.out.size)); have hp := HP.out w2 hb; obtain ⟨c0, c1, c2, c3, c4, c5, c6, c7, c8, c9, c10, c11, c12, c13, c14, c15, cf⟩ := hp; clear hb)
      | fail)
    go_ret
    exact ⟨rfl, HB2.out⟩
  by_cases h39_ : t = 39
  · subst h39_
    obtain ⟨f0, f1⟩ := h39 rfl
    clear h34 h35 h39 h41 h42
    go_enter Tryz.func15, Tryz.ntmps15
    go_wp2_with (first
      | (go_at_call 31; (with_reducible refine (HY.out _ f0 f1 _).mono ?_); rintro e w2 ⟨rfl, hb⟩; have HB2 := hidden (HB.out.trans (hb.mono HB.out.size)); have hp := HP.out w2 hb; obtain ⟨c0, c1, c2, c3, c4, c5, c6, c7, c8, c9, c10, c11, c12, c13, c14, c15, cf⟩ := hp; clear hb)
      | fail)
    go_ret
    exact ⟨rfl, HB2.out⟩
  by_cases h41_ : t = 41
  · subst h41_
    obtain ⟨f0, f1, f2, f3⟩ := h41 rfl
    clear h34 h35 h39 h41 h42
    go_enter Tryz.func15, Tryz.ntmps15
    go_wp2_with (first
      | (go_at_call 31; (with_reducible refine (HY.out _ f0 f1 _).mono ?_); rintro e w2 ⟨rfl, hb⟩; have HB2 := hidden (HB.out.trans (hb.mono HB.out.size)); have hp := HP.out w2 hb; obtain ⟨c0, c1, c2, c3, c4, c5, c6, c7, c8, c9, c10, c11, c12, c13, c14, c15, cf⟩ := hp; clear hb)
      | fail)
    go_ret
    exact ⟨rfl, HB2.out⟩
  by_cases h42_ : t = 42
  · subst h42_
    obtain ⟨f0, f1⟩ := h42 rfl
    clear h34 h35 h39 h41 h42
    go_enter Tryz.func15, Tryz.ntmps15
    go_wp2_with (first
      | (go_at_call 31; (with_reducible refine (HY.out _ f0 f1 _).mono ?_); rintro e w2 ⟨rfl, hb⟩; have HB2 := hidden (HB.out.trans (hb.mono HB.out.size)); have hp := HP.out w2 hb; obtain ⟨c0, c1, c2, c3, c4, c5, c6, c7, c8, c9, c10, c11, c12, c13, c14, c15, cf⟩ := hp; clear hb)
      | fail)
    go_ret
    exact ⟨rfl, HB2.out⟩
  have e34 : (t == 34) = false := by simpa using h34_
  have e35 : (t == 35) = false := by simpa using h35_
  have e36 : (t == 36) = false := by simpa using h36_
  have e39 : (t == 39) = false := by simpa using h39_
  have e41 : (t == 41) = false := by simpa using h41_
  have e42 : (t == 42) = false := by simpa using h42_
  clear h34 h35 h39 h41 h42 h34_ h35_ h36_ h39_ h41_ h42_
  go_enter Tryz.func15, Tryz.ntmps15
  go_wp2
  go_ret
  exact ⟨rfl, HB.out⟩
end Go.Proofs.YtbpmanbpmlkmnaaGreatDoor

namespace Go.Proofs.YtbpmanbpmlkmnaaGreatDoor
open Go.RowKit
set_option linter.unusedVariables false

theorem val_two (xs : List Int) (j : Nat) (h : j + 2 ≤ xs.length) : val ((xs.drop j).take 2) = nthB xs j * 256 + nthB xs (j + 1) := by
  have e : (xs.drop j).take 2 = [nthB xs j, nthB xs (j + 1)] := by
    rw [List.drop_eq_getElem_cons (show j < xs.length by omega), List.take_succ_cons, List.drop_eq_getElem_cons (show j + 1 < xs.length by omega), List.take_succ_cons, List.take_zero]
    simp [nthB, List.getD_eq_getElem?_getD, List.getElem?_eq_getElem (show j < xs.length by omega), List.getElem?_eq_getElem (show j + 1 < xs.length by omega)]
  rw [e]
  simp [val]
section
variable {w : World} {g : Nat} {a t : Int} {s d : Sv}
theorem load_nt6 (h : NtIn w g a t s d) : (loadVar 39 ⟨g, 0, none⟩).run Tryz.prog w = .ok (.agg #[.int .i64 a, .slice s.p s.n s.c, .int .i64 t, .slice d.p d.n d.c]) w := by
  obtain ⟨c0, c1, c2, c3, fr⟩ := h
  simp [loadVar, go_sem, c0, c1, c2, c3, Result.andThen]
theorem ret_nt6 {fn : Func} {R : Ending → World → Prop} {act : Act} {p u : Nat} {v : Value} (h : fn.results = #[.cell p 39, .tmp u]) (hp : act.tmps.getD p undef = .pointer (some ⟨g, 0, none⟩)) (hu : act.tmps.getD u undef = v) (hd : act.defers = [])
    (hh : NtIn w g a t s d) (hR : R (.returned (.tuple #[.agg #[.int .i64 a, .slice s.p s.n s.c, .int .i64 t, .slice d.p d.n d.c], v])) w) : bodyPost Tryz.prog fn R .ret act w := by
  refine bodyPost_ret (v := .tuple #[.agg #[.int .i64 a, .slice s.p s.n s.c, .int .i64 t, .slice d.p d.n d.c], v]) ?_ hd hR
  rw [Array.getD_eq_getD_getElem?] at hp hu
  simp [results, h, hp, hu, asAddr, load_nt6 hh, Result.andThen]
end
theorem setNt_grown (w : World) (g : Nat) (a t : Int) (s d : Sv) : w.grownBy (setNt w g a t s d) (some g) := by
  unfold setNt
  exact grown_trans (grown_trans (grown_trans (grown_set _ _ _ _) (grown_set _ _ _ _)) (grown_set _ _ _ _)) (grown_set _ _ _ _)
theorem grownNil_below {w w' : World} (h : w.grownBy w' (Value.slice none 0 0).ownBlock) : Below w.heap.size w w' := ⟨h.os, h.tape, h.output, h.size, fun i hi => h.block i hi (by simp [Value.ownBlock])⟩
/-- What the document's reader returns. -/
def NotedR (w : World) (xs : List Int) (E : Int) (e : Ending) (w' : World) : Prop :=
  ∃ (a t : Int) (s d : Sv), e = .returned (.tuple #[.agg #[.int .i64 a, .slice s.p s.n s.c, .int .i64 t, .slice d.p d.n d.c], .int .i64 E]) ∧ Below w.heap.size w w' ∧
    (E = 0 → a = nthB xs 0 ∧ t = nthB xs 2 * 256 + nthB xs 3 ∧ FrV w' w.heap.size s ((xs.drop 4).take (nthB xs 1).toNat) ∧ FrV w' w.heap.size d (xs.drop (4 + (nthB xs 1).toNat)))
theorem noteE_four (xs : List Int) (n : Nat) (hr : ∀ x ∈ xs, 0 ≤ x ∧ x ≤ 255) : noteE xs n = if n < 4 then 1 else if 3 < nthB xs 0 then 5 else if nthB xs 1 ≠ widthN (nthB xs 0) then 20 else if (n : Int) - 4 < nthB xs 1 then 2 else 0 := by
  unfold noteE
  have h0 := rng_getD hr 0
  have h2 := rng_getD hr 2
  have h3 := rng_getD hr 3
  have e0 : nthB xs 0 = xs.getD 0 0 := rfl
  have e2 : nthB xs 2 = xs.getD 2 0 := rfl
  have e3 : nthB xs 3 = xs.getD 3 0 := rfl
  rw [← e0] at h0
  rw [← e2] at h2
  rw [← e3] at h3
  clear e0 e2 e3
  generalize nthB xs 0 = k at *
  generalize nthB xs 1 = z at *
  generalize nthB xs 2 = a at *
  generalize nthB xs 3 = b at *
  by_cases h4 : n < 4
  · rw [if_pos h4, if_pos h4]
  rw [if_neg h4, if_neg h4]
  by_cases k3 : 3 < k
  · have hN : notifyE k (a * 256 + b) z = 5 := by unfold notifyE; rw [if_pos (by omega)]
    rw [if_pos k3, hN, if_pos (by decide)]
  rw [if_neg k3, width_spi _ h0.1 (by omega)]
  by_cases k1 : z = (spiZ k : Int)
  · have hN : notifyE k (a * 256 + b) z = 0 := by unfold notifyE; rw [if_neg (by omega), if_pos k1]
    have hk : ¬ (z ≠ (spiZ k : Int)) := fun h => h k1
    rw [hN, if_neg (by decide), if_neg hk]
  · have hN : notifyE k (a * 256 + b) z = 20 := by unfold notifyE; rw [if_neg (by omega), if_neg k1]
    rw [hN, if_pos (by decide), if_pos k1]

set_option maxHeartbeats 3200000 in
set_option maxRecDepth 100000 in
theorem rnotify_any (p : Option Addr) (n c : Nat) (xs : List Int) (w : World) (h : Byt w p n c xs) (hb : n ≤ 140737488355328) :
    Calls Tryz.prog 25 #[.slice p n c] w (NotedR w xs (noteE xs n)) := by
  obtain ⟨i0, hi0, hz0, hz1, hz2⟩ := info_parts Tryz.infoByte
  have hn := h.le
  have hcap := h.cap
  have hbig := h.big
  have hlen := h.len
  have HB := hidden ((Below.refl w.heap.size w).alloc (Nat.le_refl _) (.cells #[.int .i64 0, .slice none 0 0, .int .i64 0, .slice none 0 0] 39))
  have HNT := hidden (NtIn.new w 0 0 39)
  have hE := noteE_four xs n h.rng
  by_cases h4 : n < 4
  · rw [if_pos h4] at hE
    rw [hE]
    have h4' : (n : Int) < 4 := by omega
    clear hE h
    obtain ⟨k0, k1, k2, k3, kf⟩ := HNT.out
    simp only [nilV] at k1 k3
    go_enter Tryz.func25, Tryz.ntmps25
    go_wp2
    exact ret_nt6 (g := w.heap.size) (s := nilV) (d := nilV) rfl rfl rfl rfl HNT.out ⟨0, 0, nilV, nilV, rfl, HB.out, fun h => absurd h (by decide)⟩
  rw [if_neg h4] at hE
  obtain ⟨b, o, rfl, hc⟩ := h.at_ (by omega)
  have hbl := h.lt (by omega)
  have r0 := rng_getD h.rng 0
  have r1 := rng_getD h.rng 1
  have r2 := rng_getD h.rng 2
  have r3 := rng_getD h.rng 3
  have HW := hidden (rwidth_any (nthB xs 0))
  have h4' : ¬ (n : Int) < 4 := by omega
  have c0 := cell_below ((Below.refl w.heap.size w).alloc (Nat.le_refl _) (.cells #[.int .i64 0, .slice none 0 0, .int .i64 0, .slice none 0 0] 39)) _ _ (hc 0 (by omega))
  have c1 := cell_below ((Below.refl w.heap.size w).alloc (Nat.le_refl _) (.cells #[.int .i64 0, .slice none 0 0, .int .i64 0, .slice none 0 0] 39)) _ _ (hc 1 (by omega))
  have HX0 := hidden (fun W (hW : Below w.heap.size w W) => cell_below hW _ _ (hc 0 (by omega)))
  have HNO := hidden (fun W (hW : Below w.heap.size w W) => rnumber_yes (some ⟨b, o, none⟩) n c xs W (h.below hW) 2 2 (by omega) (by omega) (by omega))
  rw [val_two xs 2 (by omega), show (2 : Nat) + 1 = 3 from rfl, show ((2 : Nat) : Int) = 2 from rfl] at HNO
  have HP := hidden (fun W (hW : Below w.heap.size w W) => (h.below hW))
  obtain ⟨x0, hx0⟩ : ∃ x, nthB xs 0 = x := ⟨_, rfl⟩
  obtain ⟨x1, hx1⟩ : ∃ x, nthB xs 1 = x := ⟨_, rfl⟩
  obtain ⟨T, hT⟩ : ∃ x, nthB xs 2 * 256 + nthB xs 3 = x := ⟨_, rfl⟩
  have hTr : 0 ≤ T ∧ T ≤ 65535 := by rw [← hT]; unfold nthB; omega
  rw [show xs.getD 0 0 = x0 from hx0] at c0 r0 HX0
  rw [show xs.getD 1 0 = x1 from hx1] at c1 r1
  rw [hx0] at HW hE
  rw [hx1] at hE
  rw [hT] at HNO
  rw [Nat.add_zero] at c0 HX0
  have HWX : Hid (widthN x0 = 0 ∨ widthN x0 = 4) := by unfold Hid widthN; split <;> simp
  generalize widthN x0 = wd at *
  have hor : b < w.heap.size := hbl
  have hnb : ¬ b = w.heap.size := by omega
  have hnb2 : ¬ w.heap.size = b := by omega
  have HE0 := Is.mk hx0
  have HE1 := Is.mk hx1
  have HET := Is.mk hT
  clear h hc hx0 hx1 hT r2 r3
  go_enter Tryz.func25, Tryz.ntmps25
  by_cases h3 : 3 < x0
  · rw [if_pos h3] at hE
    rw [hE]
    go_wp2
    exact ret_nt6 (g := w.heap.size) (s := nilV) (d := nilV) rfl rfl rfl rfl HNT.out ⟨0, 0, nilV, nilV, rfl, HB.out, fun h => absurd h (by decide)⟩
  rw [if_neg h3] at hE
  by_cases hw1 : x1 ≠ wd
  · rw [if_pos hw1] at hE
    rw [hE]
    have hne : (x1 != wd) = true := by simpa using hw1
    clear hw1
    have HC0 := hidden (fun W (hW : Below (w.alloc (.cells #[.int .i64 0, .slice none 0 0, .int .i64 0, .slice none 0 0] 39)).heap.size (w.alloc (.cells #[.int .i64 0, .slice none 0 0, .int .i64 0, .slice none 0 0] 39)) W) => HNT.out.below hW)
    go_wp2_with (first
      | (go_at_call 35; (with_reducible refine (HW.out _).mono ?_); rintro e w2 ⟨rfl, hb2⟩; have HB2 := hidden (HB.out.trans (hb2.mono HB.out.size)); have HN2 := hidden (HC0.out w2 hb2); obtain ⟨k0, k1, k2, k3, kf⟩ := HN2.out; clear hb2)
      | fail)
    simp only [nilV] at k1 k3
    have HZ := hidden (setNt_in HN2.out 0 0 nilV nilV)
    have HBZ := hidden (setNt_below HB2.out (Nat.le_refl w.heap.size) 0 0 nilV nilV)
    simp only [setNt, nilV] at HZ HBZ
    go_wp2
    exact ret_nt6 (g := w.heap.size) (s := nilV) (d := nilV) rfl rfl rfl rfl HZ.out ⟨0, 0, nilV, nilV, rfl, HBZ.out, fun h => absurd h (by decide)⟩
  rw [if_neg hw1] at hE
  have hne : (x1 != wd) = false := by simpa using hw1
  have HC0 := hidden (fun W (hW : Below (w.alloc (.cells #[.int .i64 0, .slice none 0 0, .int .i64 0, .slice none 0 0] 39)).heap.size (w.alloc (.cells #[.int .i64 0, .slice none 0 0, .int .i64 0, .slice none 0 0] 39)) W) => HNT.out.below hW)
  clear hw1 HWX
  obtain ⟨S, rfl⟩ := Int.eq_ofNat_of_zero_le r1.1
  by_cases h2 : (n : Int) - 4 < (S : Int)
  · rw [if_pos h2] at hE
    rw [hE]
    go_wp2_with (first
      | (go_at_call 35; (with_reducible refine (HW.out _).mono ?_); rintro e w2 ⟨rfl, hb2⟩; have HB2 := hidden (HB.out.trans (hb2.mono HB.out.size)); have HN2 := hidden (HC0.out w2 hb2); obtain ⟨k0, k1, k2, k3, kf⟩ := HN2.out; clear hb2)
      | fail)
    simp only [nilV] at k1 k3
    have HZ := hidden (setNt_in HN2.out 0 0 nilV nilV)
    have HBZ := hidden (setNt_below HB2.out (Nat.le_refl w.heap.size) 0 0 nilV nilV)
    simp only [setNt, nilV] at HZ HBZ
    go_wp2
    exact ret_nt6 (g := w.heap.size) (s := nilV) (d := nilV) rfl rfl rfl rfl HZ.out ⟨0, 0, nilV, nilV, rfl, HBZ.out, fun h => absurd h (by decide)⟩
  rw [if_neg h2] at hE
  rw [hE]
  have hlo : (4 : Int) + (S : Int) ≤ n := by omega
  have hs0 : (0 : Int) ≤ 4 + (S : Int) := by omega
  have hsc : (4 : Int) + (S : Int) ≤ c := by omega
  have hs4 : (4 : Int) ≤ 4 + (S : Int) := by omega
  have hs5 : ((4 : Int) + (S : Int)).toNat = 4 + S := by omega
  have hwS : IntKind.i64.wrap (4 + (S : Int)) = 4 + (S : Int) := wraps_i64 _ (by omega) (by omega)
  have hc4 : (4 : Int) ≤ c := by omega
  have hn4 : (4 : Int) ≤ n := by omega
  have hwT : IntKind.i64.wrap T = T := wraps_i64 _ (by omega) (by omega)
  go_upto_region 11 with (first
    | (go_at_call 35; (with_reducible refine (HW.out _).mono ?_); rintro e w2 ⟨rfl, hb2⟩; have HB2 := hidden (HB.out.trans (hb2.mono HB.out.size)); have HN2 := hidden (HC0.out w2 hb2); have HNU := hidden (HNO.out w2 HB2.out); clear hb2)
    | (go_at_call 22; (with_reducible refine (HNU.out).mono ?_); rintro e w3 ⟨rfl, rfl⟩)
    | fail)
  have HBD : Hid (Below w.heap.size w w2.drew) := hidden (HB2.out.drew)
  have HND := hidden (HN2.out.below (w' := w2.drew) (drew_below ⟨1, rfl⟩))
  have hlD := hlen
  have HQ1 := hidden ((HP.out _ HBD.out).part 4 (4 + S) (by omega) (by omega))
  have HQ2 := hidden ((HP.out _ HBD.out).part (4 + S) n (by omega) (Nat.le_refl _))
  obtain ⟨bp, hbp⟩ : ∃ z, (if c = 4 then (some ⟨b, o, none⟩ : Option Addr) else some ⟨b, o + 4, none⟩) = z := ⟨_, rfl⟩
  obtain ⟨bq, hbq⟩ : ∃ z, (if c = 4 + S then (some ⟨b, o, none⟩ : Option Addr) else some ⟨b, o + (4 + S), none⟩) = z := ⟨_, rfl⟩
  rw [Option.map_some, WideShapes.add_plain, hbp, List.drop_take, show 4 + S - 4 = S by omega] at HQ1
  rw [Option.map_some, WideShapes.add_plain, hbq, List.take_of_length_le (by omega)] at HQ2
  obtain ⟨Y1, hY1⟩ : ∃ y, (xs.drop 4).take S = y := ⟨_, rfl⟩
  obtain ⟨Y2, hY2⟩ : ∃ y, xs.drop (4 + S) = y := ⟨_, rfl⟩
  have hl1 : Y1.length = S := by rw [← hY1]; simp; omega
  have hl2 : Y2.length = n - (4 + S) := by rw [← hY2]; simp; omega
  rw [hY1] at HQ1
  rw [hY2] at HQ2
  have HL1 := Is.mk hl1
  have HL2 := Is.mk hl2
  have HR1 := hidden HQ1.out.rng
  have HR2 := hidden HQ2.out.rng
  have HY1 := Is.mk hY1
  have HY2 := Is.mk hY2
  have hX0 := HX0.out _ HBD.out
  have hsz := HB2.out.size
  have HSZ := hidden (show w.heap.size + 1 ≤ w2.heap.size from HN2.out.lt)
  obtain ⟨k0, k1, k2, k3, kf⟩ := HND.out
  simp only [nilV] at k1 k3
  have HNO2 := hidden (by decide : ∀ k, (Value.slice none 0 0).ownBlock = some k → False)
  clear hY1 hY2 hl1 hl2 c0 c1 HC0 HW HNU HNO h2 h3 hE
  have hn0 : (0 : Int) < (n : Int) := by omega
  have hn0N : 0 < n := by omega
  have hwx0 : IntKind.i64.wrap x0 = x0 := wraps_i64 _ (by omega) (by omega)
  go_region_held3 (fun w' => w'.cell? ⟨b, o, none⟩ = some (.int .u8 x0)) (first | exact hX0 | exact HX0.out _ HB5.out | exact HX0.out _ HB4.out | go_keep) (first
    | (refine step_append_byt _ (by rfl) _ _ 22 (by rfl) w2.heap.size 5 i0 (.int .u8 0) Tryz.underlying22 hi0 hz0 hz1 hz2 rfl _ _ (by rfl) (Own.nil _ _ _) _ _ _ _ _ (by rfl) HQ1.out (by rfl) (by simp; omega) (by simp) ?_; intro u4 w4 ho4 hg4; have hb4 := grownNil_below hg4; obtain ⟨q4, d4, rfl, hf4⟩ := Own.frs ho4 (n := S) (by simp [HL1.eq]) (by simpa using HR1.out); have HO4 := hidden hf4; have HB4 := hidden (HBD.out.trans (hb4.mono HBD.out.size)); have HN4 := hidden (HND.out.below hb4); have HQ4 := hidden (HQ2.out.below hb4); clear ho4 hg4 hf4)
    | (refine step_append_byt _ (by rfl) _ _ 22 (by rfl) w2.heap.size 5 i0 (.int .u8 0) Tryz.underlying22 hi0 hz0 hz1 hz2 rfl _ _ (by rfl) (Own.nil _ _ _) _ _ _ _ _ (by rfl) HQ4.out (by rfl) (by simp; omega) (by have := hb4.size; simp at this; omega) ?_; intro u5 w5 ho5 hg5; have hb5 := grownNil_below hg5; obtain ⟨q5, d5, rfl, hf5⟩ := Own.frs ho5 (n := n - (4 + S)) (by simp [HL2.eq]) (by simpa using HR2.out); have HO5 := hidden hf5; have HP5 := hidden (HO4.out.below hb5); have HB5 := hidden (HB4.out.trans (hb5.mono HB4.out.size)); have HN5 := hidden (HN4.out.below hb5); clear k0 k1 k2 k3 kf; obtain ⟨k0, k1, k2, k3, kf⟩ := HN5.out; clear ho5 hg5 hf5)
    | fail)
  all_goals
    have hz := setNt_in HN5.out x0 T ⟨q4, S, d4⟩ ⟨q5, n - (4 + S), d5⟩
    have hbz := setNt_below HB5.out (Nat.le_refl w.heap.size) x0 T ⟨q4, S, d4⟩ ⟨q5, n - (4 + S), d5⟩
    have hg := setNt_grown w5 w.heap.size x0 T ⟨q4, S, d4⟩ ⟨q5, n - (4 + S), d5⟩
    have hf1 := (HP5.out.low hg (by have := HSZ.out; omega)).mono (show w.heap.size ≤ _ from by have := HSZ.out; omega)
    have hf2 := (HO5.out.low hg (by have := HSZ.out; omega)).mono (show w.heap.size ≤ _ from by have := HSZ.out; omega)
    rw [List.nil_append, ← HY1.eq] at hf1
    rw [List.nil_append, ← HY2.eq] at hf2
    simp only [setNt] at hz hbz hf1 hf2
    have HZ := hidden hz
    have HBZ := hidden hbz
    have HF1 := hidden hf1
    have HF2 := hidden hf2
    have hS : (nthB xs 1).toNat = S := by rw [HE1.eq]; exact Int.toNat_natCast S
    have HS := Is.mk hS
    clear hz hbz hg hf1 hf2 hS
    go_wp2
    exact ret_nt6 (g := w.heap.size) (s := ⟨q4, S, d4⟩) (d := ⟨q5, n - (4 + S), d5⟩) rfl rfl rfl rfl HZ.out ⟨x0, T, ⟨q4, S, d4⟩, ⟨q5, n - (4 + S), d5⟩, rfl, HBZ.out, fun _ => ⟨HE0.eq.symm, HET.eq.symm, by rw [HS.eq]; exact HF1.out, by rw [HS.eq]; exact HF2.out⟩⟩
end Go.Proofs.YtbpmanbpmlkmnaaGreatDoor

namespace Go.Proofs.YtbpmanbpmlkmnaaGreatDoor
open Go.RowKit
set_option linter.unusedVariables false

set_option maxHeartbeats 800000 in
theorem rparse4_any (p : Option Addr) (n c : Nat) (xs : List Int) (w : World) (h : Byt w p n c xs) (hn : n ≤ 1048576) (r : List Pr × Int) (hr : parseP xs = r) :
    Calls Tryz.prog 20 #[.slice p n c] w (ParsedP w r) := by
  unfold parseP at hr
  rw [h.len] at hr
  by_cases h0 : n = 0
  · rw [if_pos h0] at hr
    subst h0
    have HR := hidden hr
    clear h hr
    go_enter Tryz.func20, Tryz.ntmps20
    go_wp2
    go_ret2
    exact parsed_fail _ _ _ _ HR.out.symm (Below.refl _ _)
  rw [if_neg h0] at hr
  have h0' : ((n : Int) == 0) = false := by simp; omega
  obtain ⟨o, ho⟩ : ∃ o, prsV xs = o := ⟨_, rfl⟩
  have HC := hidden (rread_any p n c xs w h hn o ho)
  rw [ho] at hr
  have HO := hidden ho
  have HRG := hidden h.rng
  have HL := hidden h.len
  have HR := hidden hr
  clear h ho hr
  go_enter Tryz.func20, Tryz.ntmps20
  go_wp2_with fail
  go_at_call 50
  (with_reducible refine (HC.out).mono ?_)
  rintro e w1 ⟨hb1, hh⟩
  have HB1 := hidden hb1
  cases o with
  | none =>
    subst hh
    clear hb1
    go_wp2
    go_ret2
    exact parsed_fail _ _ _ _ HR.out.symm HB1.out
  | some l =>
    obtain ⟨v, ls, rfl, hl, hrow⟩ := hh
    obtain ⟨q, d, rfl⟩ := hrow.form rfl
    have hr := HR.out
    simp only at hr
    obtain ⟨E, hE⟩ : ∃ E, checkP l = E := ⟨_, rfl⟩
    rw [hE] at hr
    have hrd : RdG KPr DPr w1 q ls.length d ls := by
      obtain ⟨q', d', e, h⟩ := hrow.rd (D := DPr) rfl (fun _ h => h.rd)
      simp at e
      obtain ⟨rfl, rfl⟩ := e
      exact h
    have HC2 := hidden (rcheckAll_any _ _ _ ls w1 hrd E (by rw [hl]; exact hE))
    have HRW := hidden hrow
    have HR2 := hidden hr
    have HLS := hidden hl
    clear hrow hrd hb1 HC hr HR hE hl
    go_wp2_with fail
    go_at_call 51
    (with_reducible refine (HC2.out).mono ?_)
    rintro e w2 ⟨rfl, hb2⟩
    have HB2 := hidden hb2
    have HB3 := hidden (HB1.out.trans (hb2.mono HB1.out.size))
    clear hb2
    by_cases hz : E = 0
    · subst hz
      have hr := HR2.out
      rw [if_neg (by simp)] at hr
      have HR3 := hidden hr
      clear hr HR2
      go_wp2
      go_ret2
      rw [← HR3.out]
      exact ⟨_, ls, rfl, HLS.out, HRW.out.below HB2.out, HB3.out⟩
    · have hz' : (E != 0) = true := by simpa using hz
      have hr := HR2.out
      rw [if_pos hz] at hr
      have HR3 := hidden hr
      clear hr HR2
      go_wp2
      go_ret2
      exact parsed_fail _ _ _ _ HR3.out.symm HB3.out
end Go.Proofs.YtbpmanbpmlkmnaaGreatDoor
