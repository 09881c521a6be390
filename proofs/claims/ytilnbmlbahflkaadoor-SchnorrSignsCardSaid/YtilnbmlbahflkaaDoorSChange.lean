/-
  What Change makes of a list of bytes: other bytes, or the same.
-/
import Derived.Test.YtilnbmlbahflkaaDoorSZ1
import Derived.Test.YtilnbmlbahflkaaDoorSGrow
import Derived.Test.YtilnbmlbahflkaaDoorSInfoB
import Derived.BigRegion
import Derived.Deep.RegionWith
namespace Go.Proofs.YtilnbmlbahflkaaDoor
open Go.RowKit
set_option linter.unusedVariables false

/-- The result of a function that returns bytes, and writes nothing but the choices. -/
def Made (W w : World) (k : Nat) (e : Ending) (w' : World) : Prop := ∃ p n c ys, e = .returned (.slice p n c) ∧ Byt w' p n c ys ∧ n ≤ 9001 ∧ Cod W w' k ∧ w.grownBy w' (some k)

/-- The same, with where the bytes lie. -/
def MadeB (W w : World) (k N : Nat) (e : Ending) (w' : World) : Prop := ∃ p n c ys, e = .returned (.slice p n c) ∧ Bod w' w.heap.size p n c ys ∧ n ≤ N + 1 ∧ Cod W w' k ∧ w.grownBy w' (some k)
theorem Bod.front {w : World} {base : Nat} {p : Option Addr} {n c : Nat} {xs : List Int} (h : Bod w base p n c xs) (j : Nat) (hj : j ≤ n) : Bod w base p j c (xs.take j) := ⟨h.byt.front j hj, fun h0 => h.own (by omega)⟩

theorem or_byte_i64 (v x : Int) (h0 : 0 ≤ v) (h1 : v < 256) (h2 : 0 ≤ x) (h3 : x < 256) : bits .or .i64 (v * 256) x = v * 256 + x :=
  bits_join .i64 63 (by decide) wraps_i64 8 _ _ (by omega) (by omega) (by omega) h2 (by omega) (by omega)

set_option maxHeartbeats 1600000 in
theorem change_bod (W w : World) (k : Nat) (h : Cod W w k) (p : Option Addr) (n c : Nat) (xs : List Int) (hx : Byt w p n c xs) (hn : n ≤ 9000) :
    Calls Tryd.prog 13 #[.pointer (some ⟨k, 0, none⟩), .slice p n c] w (MadeB W w k n) := by
  obtain ⟨i0, hi, hz0, hz1, hz2⟩ := info_parts Tryd.infoByte
  have hk := h.lt
  have hbase := h.base
  have H := hidden h
  have HX := hidden hx
  clear h hx
  go_enter Tryd.func13, Tryd.ntmps13
  go_wp2_with (at_builtin; refine wpList_append_byt _ rfl _ _ 22 rfl w.heap.size 5 i0 (.int .u8 0) Tryd.underlying22 hi hz0 hz1 hz2 rfl _ _ rfl (Own.nil w w.heap.size 5) _ _ _ _ _ rfl HX.out rfl ?c1 (Nat.le_refl _) ?_)
  case c1 => first | omega | (simp; omega)
  intro v w1 hown hg
  have hl := HX.out.len
  have hcod := H.out.grown hg (by simp [Value.ownBlock]) (by simp [Value.ownBlock])
  have HG := hidden (grown_own (grown_refl w (some k)) hg (by simp [Value.ownBlock]))
  have HC := hidden hcod
  have HO := hidden hown
  clear hg hcod hown H
  go_wp2_with (go_at_call 48; refine (next_any W _ k HC.out _ ?_).mono ?_; omega)
  rintro e w2 ⟨r, rfl, r0, r1, hc, hg⟩
  have HO2 := hidden (show Own w2 w.heap.size 5 v xs from World.ownsRow.kept HO.out hg (by
    rcases hv : v.ownBlock with _ | b
    · exact Or.inl rfl
    · have := (HO.out.lt b hv).1
      exact Or.inr (by simp; omega)))
  have HC2 := hidden hc
  have HG2 := hidden (grown_trans HG.out hg)
  clear hg hc HO HC HG
  by_cases h0 : r = 0
  · subst h0
    go_wp2_with (first | (go_at_call 48; refine (next_any W _ k HC2.out _ ?_).mono ?_; omega))
    rintro e w3 ⟨x, rfl, x0, x1, hc, hg⟩
    have HO3 := hidden (show Own w3 w.heap.size 5 v xs from World.ownsRow.kept HO2.out hg (by
      rcases hv : v.ownBlock with _ | b
      · exact Or.inl rfl
      · have := (HO2.out.lt b hv).1
        exact Or.inr (by simp; omega)))
    have HC3 := hidden hc
    have HG3 := hidden (grown_trans HG2.out hg)
    clear hg hc HO2 HC2 HG2
    go_wp2_with (at_builtin; go_loud (refine wpList_append_byt _ rfl _ _ 22 rfl w.heap.size 5 i0 (.int .u8 0) Tryd.underlying22 hi hz0 hz1 hz2 rfl _ _ rfl (HO3.out.alloc _) _ _ _ _ _ rfl (one_byte _ _ x ?c0 ?c1) rfl ?c2 ?c3 ?_))
    case c0 => omega
    case c1 => rw [World.cell?_alloc_at _ _ _ _ rfl]; rfl
    case c2 => omega
    case c3 => have := HG3.out.size; simp; omega
    intro u w4 hown hg
    have HC4 := hidden ((HC3.out.alloc _).grown hg (fun e => by have := (HO3.out.lt k e.symm).1; omega) (fun j hj => by have := (HO3.out.lt j hj).1; omega))
    have HG4 := hidden (grown_own (grown_alloc_new HG3.out _) hg (fun j hj => (HO3.out.lt j hj).1))
    obtain ⟨p', c', rfl, hb⟩ := Own.bod hown rfl (rng_append HX.out.rng (by intro z hz; simp at hz; omega))
    have HB := hidden hb
    clear hg hown hb HC3 HG3 HO3
    go_wp2
    go_ret
    exact ⟨_, _, _, _, rfl, HB.out, by first | omega | (simp; omega), HC4.out, HG4.out⟩
  have e0 : (r == 0) = false := by simpa using h0
  by_cases h1 : r = 1
  · subst h1
    obtain ⟨p', c', rfl, hb⟩ := HO2.out.byt HX.out.rng
    rw [hl] at hb
    have hcap := hb.cap
    have hbig := hb.big
    unfold maxLen at hbig
    clear hb
    rw [hl] at HO2 ⊢
    go_wp2_with (first | (go_at_call 48; refine (next_any W _ k HC2.out _ ?_).mono ?_; omega))
    rintro e w3 ⟨x, rfl, x0, x1, hc, hg⟩
    obtain ⟨x, rfl⟩ := Int.eq_ofNat_of_zero_le x0
    obtain ⟨y, hy⟩ : ∃ y, y = n * x := ⟨_, rfl⟩
    have hm : (n : Int) * (x : Int) = (y : Int) := by rw [hy]; simp
    have hy8 : y ≤ n * 8 := by rw [hy]; exact Nat.mul_le_mul_left _ (by omega)
    have hq : y / 9 ≤ n := by omega
    have HO3 := hidden (show Own w3 w.heap.size 5 (.slice p' n c') xs from World.ownsRow.kept HO2.out hg (by
      rcases hv : (Value.slice p' n c').ownBlock with _ | b
      · exact Or.inl rfl
      · have := (HO2.out.lt b hv).1
        exact Or.inr (by simp; omega)))
    obtain ⟨_, _, he, hb⟩ := HO3.out.bod hl HX.out.rng
    simp at he
    obtain ⟨rfl, rfl⟩ := he
    have HB4 := hidden (hb.front (y / 9) hq)
    have HC3 := hidden hc
    have HG3 := hidden (grown_trans HG2.out hg)
    clear hg hc hb HC2 HG2 HO2 HO3 hl hy HX
    go_wp2
    go_ret
    exact ⟨_, _, _, _, rfl, HB4.out, by omega, HC3.out, HG3.out⟩
  have e1 : (r == 1) = false := by simpa using h1
  rcases Nat.eq_zero_or_pos n with hz | hp
  · obtain ⟨p', c', rfl, hb⟩ := HO2.out.bod hl HX.out.rng
    have HB := hidden hb
    clear hb HO2
    subst hz
    clear hl HX hn
    go_wp2
    go_ret
    exact ⟨_, _, _, _, rfl, HB.out, by omega, HC2.out, HG2.out⟩
  obtain ⟨g, c', rfl, hg0, hg1, hcell, hfr⟩ := HO2.out.at_ hl hp
  have hcap : n ≤ c' := by
    obtain ⟨_, _, he, hb⟩ := HO2.out.byt HX.out.rng
    rw [hl] at hb he
    simp at he
    rw [he.2]
    exact hb.cap
  go_wp2_with (first | (go_at_call 48; refine (next_any W _ k HC2.out _ ?_).mono ?_; omega))
  rintro e w3 ⟨x, rfl, x0, x1, hc, hg⟩
  have HC3 := hidden hc
  have HG3 := hidden (grown_trans HG2.out hg)
  have HO3 := hidden (show Own w3 w.heap.size 5 (.slice (some ⟨g, 0, none⟩) n c') xs from World.ownsRow.kept HO2.out hg (Or.inr (by simp [Value.ownBlock]; omega)))
  clear hg hc HC2 HG2 HO2 hcell hfr
  go_wp2_with (first | (go_at_call 48; refine (next_any W _ k HC3.out _ ?_).mono ?_; omega))
  rintro e w4 ⟨y, rfl, y0, y1, hc, hg⟩
  have HC4 := hidden hc
  have HG4 := hidden (grown_trans HG3.out hg)
  have HO4 := hidden (show Own w4 w.heap.size 5 (.slice (some ⟨g, 0, none⟩) n c') xs from World.ownsRow.kept HO3.out hg (Or.inr (by simp [Value.ownBlock]; omega)))
  clear hg hc HC3 HG3 HO3
  have hor := or_byte_i64 x y x0 x1 y0 y1
  obtain ⟨i, hi⟩ := Int.eq_ofNat_of_zero_le (show 0 ≤ (x * 256 + y).tmod n by rw [Int.tmod_eq_emod_of_nonneg (by omega)]; exact Int.emod_nonneg _ (by omega))
  have hin : i < n := by
    have := Int.tmod_lt_of_pos (x * 256 + y) (show (0 : Int) < n by omega)
    omega
  obtain ⟨_, _, he, _, _, hcell, hfr⟩ := HO4.out.at_ hl hp
  simp at he
  obtain ⟨rfl, rfl⟩ := he
  have hc4 := hcell i hin
  have hf4 := hfr i
  have hz := rng_getD HX.out.rng i
  generalize xs.getD i 0 = z at hc4 hz
  clear hcell hfr
  go_wp2
  have hgk : g ≠ k := by omega
  have hgs : g < w4.heap.size := World.block_lt_of_cell? w4 _ hc4
  have HK := hidden (fun (w5 : World) (hg5 : w4.drew.grownBy w5 (some k)) => (show w5.cell? ⟨g, i, none⟩ = some (.int .u8 z) ∧ w5.frozen? ⟨g, i, none⟩ = false from
    ⟨hg5.cell (show w4.drew.cell? ⟨g, i, none⟩ = some (.int .u8 z) from hc4) (by simp; exact hgk), (World.frozen?_of_block (a := ⟨g, i, none⟩) (hg5.block g hgs (by simp; exact hgk))).trans hf4⟩))
  have HCD := hidden (show Cod W w4.drew k from HC4.out.below (drew_below ⟨1, rfl⟩))
  have hcd : w4.drew.cell? ⟨g, i, none⟩ = some (.int .u8 z) := hc4
  have hfd : w4.drew.frozen? ⟨g, i, none⟩ = false := hf4
  go_region_with (go_at_call 48; (with_reducible refine (next_any W _ k HCD.out _ ?_).mono ?_); omega; rintro e w5 ⟨t, rfl, t0, t1, hc5, hg5⟩; have hc6 := (HK.out _ hg5).1; have hf6 := (HK.out _ hg5).2)
  all_goals
    have HO5 := hidden (show Own w5 w.heap.size 5 (.slice (some ⟨g, 0, none⟩) n c') xs from World.ownsRow.kept (HO4.out.drew) hg5 (Or.inr (by simp [Value.ownBlock]; omega)))
    have HC5 := hidden hc5
    have HG5 := hidden (grown_trans (show w.grownBy w4.drew (some k) from grown_trans HG4.out (grown_drewN w4 1 _)) hg5)
    clear hg5 hc5 HC4 HG4 HK HO4 HCD
    go_wp2
    go_ret
    obtain ⟨_, _, he, hb⟩ := Own.bod (n := n) (HO5.out.set hl i (bits BinOp.xor IntKind.u8 z (IntKind.u8.wrap (IntKind.i64.wrap (1 + t))))) ((List.length_set ..).trans hl) (rng_set HX.out.rng i ⟨bits_lo_u8 _ _ _, bits_hi_u8 _ _ _⟩)
    simp at he
    obtain ⟨rfl, rfl⟩ := he
    exact ⟨_, _, _, _, rfl, hb, by omega, HC5.out.set _ _ _ (by omega) hgk, grown_set_new HG5.out _ _ _ hg0⟩
end Go.Proofs.YtilnbmlbahflkaaDoor
