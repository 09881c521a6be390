/-
  Types of payloads, and whether two lists of payloads are the same.
-/
import Derived.Test.YtdlcdegfoadajaaRws
import Derived.Test.YtdlcdegfoadajaaRCompare
import Derived.Test.YtdlcdegfoadajaaChainSteps
import Derived.Deep.QuietTactic
import Derived.BigQuiet
namespace Go.Proofs.Ytdlcdegfoadajaa
open Go.RowKit
set_option linter.unusedVariables false

/-- The slice reads as the payloads, with their bodies. -/
structure RdR (w : World) (p : Option Addr) (n c : Nat) (l : List RawP) : Prop where
  len : l.length = n
  cap : n ≤ c
  big : c ≤ maxLen
  mem : 0 < n → ∃ g, p = some ⟨g, 0, none⟩ ∧ ∀ j u, (rowC l)[j]? = some u → w.cell? ⟨g, j, none⟩ = some u
  bods : BodR w l
theorem RdR.keep {w w' : World} {p : Option Addr} {n c : Nat} {l : List RawP} (h : RdR w p n c l) (hk : ∀ a v, w.cell? a = some v → w'.cell? a = some v) : RdR w' p n c l :=
  ⟨h.len, h.cap, h.big, fun h0 => by
    obtain ⟨g, e, hc⟩ := h.mem h0
    exact ⟨g, e, fun j u hj => hk _ _ (hc j u hj)⟩, h.bods.keep hk⟩
theorem RdR.below {w w' : World} {p : Option Addr} {n c : Nat} {l : List RawP} (h : RdR w p n c l) (hb : Below w.heap.size w w') : RdR w' p n c l := h.keep (cell_below hb)
theorem RdR.le {w : World} {p : Option Addr} {n c : Nat} {l : List RawP} (h : RdR w p n c l) : n ≤ 9223372036854775807 := by
  have h1 := h.cap
  have h2 := h.big
  unfold maxLen at h2
  omega
theorem RdR.elem {w : World} {p : Option Addr} {n c : Nat} {l : List RawP} (h : RdR w p n c l) (j : Nat) (hj : j < l.length) :
    ∃ g, p = some ⟨g, 0, none⟩ ∧ w.cell? ⟨g, j * 3, none⟩ = some (.int .i64 l[j].k) ∧ w.cell? ⟨g, j * 3 + 1, none⟩ = some (.bool l[j].c) ∧ w.cell? ⟨g, j * 3 + 2, none⟩ = some (.slice l[j].p l[j].n l[j].m) ∧ Byt w l[j].p l[j].n l[j].m l[j].b := by
  obtain ⟨g, e, hc⟩ := h.mem (by have := h.len; omega)
  obtain ⟨h0, h1, h2⟩ := rowC_get l j hj
  exact ⟨g, e, hc _ _ h0, hc _ _ h1, hc _ _ h2, h.bods _ (List.getElem_mem hj)⟩
theorem Rws.rd {w : World} {base : Nat} {v : Value} {l : List RawP} {n : Nat} (h : Rws w base v l) (hn : l.length = n) : ∃ p c, v = .slice p n c ∧ RdR w p n c l := by
  subst hn
  have hb := h.bodR
  rcases h.own.2 with ⟨rfl, h0⟩ | ⟨g, cap, cur, rfl, hg, hh, hnc, hm, hs, ht⟩
  · exact ⟨none, 0, by rw [h0], rfl, by omega, by unfold maxLen; omega, fun h => by omega, hb⟩
  · refine ⟨_, _, rfl, rfl, hnc, hm, fun h0 => ⟨g, rfl, fun j u hj => ?_⟩, hb⟩
    have := World.ownsRow.cells h.own (g := g) rfl j u hj
    rw [WideShapes.add_plain, Nat.zero_add] at this
    exact this

theorem wraps_any (k : Int) (w : World) : Calls Try.prog 35 #[.int .i64 k] w fun e w' => e = .returned (.bool (lastK k)) ∧ w = w' := by
  go_enter Try.func35, Try.ntmps35
  go_wp2
  all_goals go_ret
  all_goals exact ⟨by simp_all [lastK], rfl⟩
theorem last_any (k : Int) (w : World) : Calls Try.prog 24 #[.int .i64 k] w fun e w' => e = .returned (.bool (lastK k)) ∧ w = w' := by
  go_enter Try.func24, Try.ntmps24
  go_wp2
  all_goals go_ret
  all_goals exact ⟨by simp_all [lastK], rfl⟩

def knownK (k : Int) : Bool := decide ((33 ≤ k ∧ k ≤ 37) ∨ (39 ≤ k ∧ k ≤ 46) ∨ k = 53)
theorem rknown_any (k : Int) (w : World) : Calls Try.prog 22 #[.int .i64 k] w fun e w' => e = .returned (.bool (knownK k)) ∧ w = w' := by
  go_enter Try.func22, Try.ntmps22
  go_wp2
  all_goals go_ret
  all_goals refine ⟨?_, rfl⟩
  all_goals
    have e : knownK k = decide ((33 ≤ k ∧ k ≤ 37) ∨ (39 ≤ k ∧ k ≤ 46) ∨ k = 53) := rfl
    rw [e]
    simp
  all_goals first | omega | (rw [Bool.eq_iff_iff]; simp; omega)
theorem known_any (k : Int) (w : World) : Calls Try.prog 21 #[.int .i64 k] w fun e w' => e = .returned (.bool (knownK k)) ∧ w = w' := by
  by_cases h : (33 ≤ k ∧ k ≤ 37) ∨ (39 ≤ k ∧ k ≤ 46) ∨ k = 53
  · have e : knownK k = true := decide_eq_true h
    rw [e]
    have hk : k = 33 ∨ k = 34 ∨ k = 35 ∨ k = 36 ∨ k = 37 ∨ k = 39 ∨ k = 40 ∨ k = 41 ∨ k = 42 ∨ k = 43 ∨ k = 44 ∨ k = 45 ∨ k = 46 ∨ k = 53 := by omega
    clear h e
    rcases hk with rfl | rfl | rfl | rfl | rfl | rfl | rfl | rfl | rfl | rfl | rfl | rfl | rfl | rfl
    all_goals
      go_enter Try.func21, Try.ntmps21
      go_wp2
      go_ret
      exact ⟨rfl, rfl⟩
  · have e : knownK k = false := decide_eq_false h
    rw [e]
    have e1 : (k == 33) = false := by simp; omega
    have e2 : (k == 34) = false := by simp; omega
    have e3 : (k == 35) = false := by simp; omega
    have e4 : (k == 36) = false := by simp; omega
    have e5 : (k == 37) = false := by simp; omega
    have e6 : (k == 39) = false := by simp; omega
    have e7 : (k == 40) = false := by simp; omega
    have e8 : (k == 41) = false := by simp; omega
    have e9 : (k == 42) = false := by simp; omega
    have e10 : (k == 43) = false := by simp; omega
    have e11 : (k == 44) = false := by simp; omega
    have e12 : (k == 45) = false := by simp; omega
    have e13 : (k == 46) = false := by simp; omega
    have e14 : (k == 53) = false := by simp; omega
    clear h e
    go_enter Try.func21, Try.ntmps21
    go_wp2
    go_ret
    exact ⟨rfl, rfl⟩

/-- The type at a place, or what stands behind the last one. -/
theorem typeAt_in (p : Option Addr) (n c : Nat) (l : List RawP) (w : World) (h : RdR w p n c l) (i : Nat) (hi : i < l.length) (last z : Int) (hz : l[i].k = z) :
    Calls Try.prog 32 #[.slice p n c, .int .i64 i, .int .i64 last] w fun e w' => e = .returned (.int .i64 z) ∧ w = w' := by
  obtain ⟨g, rfl, c0, d1, d2, d3⟩ := h.elem i hi
  have hle := h.le
  have hl : i < n := by rw [← h.len]; exact hi
  rw [hz] at c0
  clear d1 d2 d3 h hz hi
  go_enter Try.func32, Try.ntmps32
  go_wp2
  go_ret
  exact ⟨rfl, rfl⟩
theorem typeAt_out (p : Option Addr) (n c : Nat) (w : World) (hn : n ≤ 9223372036854775807) (i : Nat) (hi : n ≤ i) (last : Int) :
    Calls Try.prog 32 #[.slice p n c, .int .i64 i, .int .i64 last] w fun e w' => e = .returned (.int .i64 last) ∧ w = w' := by
  go_enter Try.func32, Try.ntmps32
  go_wp2
  go_ret
  exact ⟨rfl, rfl⟩

set_option maxHeartbeats 800000 in
theorem same_yes (p q : Option Addr) (n c m d : Nat) (l r : List RawP) (w : World) (h : RdR w p n c l) (k : RdR w q m d r) (he : l.map RawP.raw = r.map RawP.raw) :
    Calls Try.prog 16 #[.slice p n c, .slice q m d] w fun e w' => e = .returned (.bool true) ∧ Below w.heap.size w w' := by
  have hn := h.le
  have hlen : l.length = r.length := by simpa using congrArg List.length he
  obtain rfl : n = m := by rw [← h.len, ← k.len]; exact hlen
  have H := hidden h
  have K := hidden k
  have HE := hidden he
  have HL := hidden h.len
  have HLR := hidden hlen
  clear h k he hlen
  go_enter Try.func16, Try.ntmps16
  go_wp2
  go_loopw [5] (fun i wr => ∃ j : Nat, j ≤ n ∧ i = .int .i64 j ∧ Below w.heap.size w wr) (fun i _ => n - (intOf i).toNat)
  case atStart => exact ⟨0, by omega, rfl, Below.refl _ _⟩
  case round =>
    obtain ⟨j, hj, rfl, hb⟩ := hrel
    have HB := hidden hb
    by_cases hlt : j < n
    · have hjl : j < l.length := by rw [HL.out]; exact hlt
      have hjr : j < r.length := by rw [← HLR.out]; exact hjl
      obtain ⟨g, rfl, a0, a1, a2, ab⟩ := (H.out.below hb).elem j hjl
      obtain ⟨g', rfl, b0, b1, b2, bb⟩ := (K.out.below hb).elem j hjr
      have hraw : l[j].raw = r[j].raw := by
        have h1 : (l.map RawP.raw)[j]? = (r.map RawP.raw)[j]? := by rw [HE.out]
        simpa [hjl, hjr] using h1
      have ek : r[j].k = l[j].k := by have := congrArg Raw.k hraw; simpa [RawP.raw] using this.symm
      have ec : r[j].c = l[j].c := by have := congrArg Raw.c hraw; simpa [RawP.raw] using this.symm
      have eb : r[j].b = l[j].b := by have := congrArg Raw.b hraw; simpa [RawP.raw] using this.symm
      rw [ek] at b0
      rw [ec] at b1
      rw [eb] at bb
      generalize l[j].k = x1 at *
      generalize l[j].c = x2 at *
      generalize l[j].b = x3 at *
      generalize l[j].p = pa at *
      generalize l[j].n = na at *
      generalize l[j].m = ca at *
      generalize r[j].p = pb at *
      generalize r[j].n = nb at *
      generalize r[j].m = cb at *
      have HQ := hidden (fun a => (requal_any pa pb na ca nb cb x3 x3 (wr.drewN a) (ab.keep (fun _ _ h => h)) (bb.keep (fun _ _ h => h))).mono (R' := fun e w' => e = .returned (.bool true) ∧ ∃ r, w' = (wr.drewN a).drewN r) (fun e w' ⟨h1, h2⟩ => ⟨by rw [h1]; simp, h2⟩))
      clear hraw ek ec eb ab bb hb hjl hjr
      have e1 : (x1 != x1) = false := by simp
      have e2 : (x2 != x2) = false := by simp
      go_wp2
      go_quiet ((go_at_call 20; (with_reducible exact Calls.quiet_of (HQ.out _))))
      go_wp2
      go_roundw
      case rel => exact ⟨j + 1, by omega, by go_num, HB.out.trans (drew_below ⟨_, rfl⟩)⟩
      case measure => simp [intOf]; omega
    · obtain rfl : j = n := by omega
      go_wp2
      go_ret
      exact ⟨rfl, HB.out⟩
end Go.Proofs.Ytdlcdegfoadajaa
