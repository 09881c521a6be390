/-
  A row of bytes of the call's own: seen from an earlier place, and in a later world.
  What wire.Put returns, for every slice of bytes, number and width.
  What package proposal writes of a section and of a transform.
  What package proposal's Check returns.
  A map of the call's own from transforms to bools that holds just those of a list.
  A list of choices: some bytes.
-/
import Derived.Test.YtkniifopfgeopaaGreatJZ0
import Derived.Test.YtkniifopfgeopaaGreatJZ4
import Derived.Test.YtkniifopfgeopaaGreatJZ3
import Derived.Test.YtkniifopfgeopaaGreatJRCheck4
import Derived.Deep.RegionLaw
import Derived.Maps.OwnOps
import Derived.Maps.Views
import Derived.DeepKeys4
namespace Go.Proofs.YtkniifopfgeopaaGreat
open Go.RowKit
set_option linter.unusedVariables false

theorem Own.mono {w : World} {base base' : Nat} {e : TypeId} {v : Value} {xs : List Int} (h : Own w base e v xs) (hb : base' ≤ base) : Own w base' e v xs := by
  refine ⟨h.1, ?_⟩
  rcases h.2 with h1 | ⟨g, cap, cur, hv, hg, rest⟩
  · exact Or.inl h1
  · exact Or.inr ⟨g, cap, cur, hv, by omega, rest⟩
theorem Own.below {w w' : World} {base : Nat} {e : TypeId} {v : Value} {xs : List Int} (h : Own w base e v xs) (hb : Below w.heap.size w w') : Own w' base e v xs :=
  World.ownsRow.kept (row := none) h ⟨hb.os, hb.tape, hb.output, hb.size, fun i hi _ => hb.block i hi⟩ (by
    rcases hv : v.ownBlock with _ | b
    · exact Or.inl rfl
    · exact Or.inr (by simp))
end Go.Proofs.YtkniifopfgeopaaGreat

namespace Go.Proofs.YtkniifopfgeopaaGreat
open Go.RowKit
set_option linter.unusedVariables false

/-- The result of a function that returns bytes of its own. -/
def BytesPut (w : World) (xs : List Int) (e : Ending) (w' : World) : Prop := ∃ v, e = .returned v ∧ Own w' w.heap.size 5 v xs ∧ Below w.heap.size w w'

set_option maxHeartbeats 400000 in
theorem put_yes (p : Option Addr) (n c : Nat) (xs : List Int) (w : World) (h : Byt w p n c xs) (hb : n ≤ 140737488355000) (v : Int) (hv : 0 ≤ v ∧ v ≤ 18446744073709551615) (k : Nat) (h1 : 1 ≤ k) (h8 : k ≤ 8) :
    Calls Tryz.prog 30 #[.slice p n c, .int .u64 v, .int .i64 k] w (BytesPut w (xs ++ be k v)) := by
  have hn := h.le
  have hl := h.len
  obtain ⟨i0, hi, hz0, hz1, hz2⟩ := info_parts Tryz.infoByte
  have H := hidden h
  clear h
  go_enter Tryz.func30, Tryz.ntmps30
  go_wp2_with (first | (go_at_call 48; refine (isWidth_yes _ _ (by omega) (by omega)).mono ?_; rintro e w' ⟨rfl, rfl⟩) | (at_make; refine wpList_make_byt _ rfl _ _ 22 rfl w.heap.size 5 i0 Tryz.underlying22 hi hz0 hz1 hz2 _ _ _ _ n (n + k) rfl rfl ?m1 ?m2 ?m3 ?m4 (Nat.le_refl _) ?_))
  case m1 => rfl
  case m2 => simp
  case m3 => omega
  case m4 => omega
  intro w1 hown hg
  have hbel := (Below.refl w.heap.size w).grown hg (Nat.le_refl _) (by intro k hk; simp at hk)
  have HS := hidden (H.out.below hbel)
  clear hg
  go_wp2_with (refine wpList_copy_byt _ rfl (.tmp 21) (.tmp 22) 22 rfl w.heap.size 5 Tryz.underlying22 Tryz.sizeByte w.heap.size n (n + k) (List.replicate n 0) rfl ?d1 hown p c xs rfl HS.out ?_)
  try (case d1 => simp)
  intro w2 hown2 hg2
  have hbel2 := hbel.grown hg2 hbel.size (by intro k hk; simp at hk; omega)
  clear hown hbel hg2 HS
  go_wp2
  go_loopw [7, 8] (fun u i wr => ∃ j : Nat, j ≤ k ∧ i = .int .i64 ((j : Int) - 1) ∧ ∃ ys, ys ++ be j v = xs ++ be k v ∧ Own wr w.heap.size 5 u ys ∧ Below w.heap.size w wr) (fun _ i _ => (intOf i + 1).toNat)
  case atStart => exact ⟨k, Nat.le_refl _, rfl, xs, rfl, hown2, hbel2⟩
  case round =>
    obtain ⟨j, hj, rfl, ys, hys, ho, hbl⟩ := hrel
    by_cases hpos : 1 ≤ j
    · obtain ⟨j, rfl⟩ : ∃ m, j = m + 1 := ⟨j - 1, by omega⟩
      have hlen : ys.length ≤ n + 8 := by
        have := congrArg List.length hys
        simp only [List.length_append, be_len] at this
        omega
      have HY := hidden hys
      have HO := hidden ho
      clear hys ho H
      go_wp2_with (at_builtin; refine wpList_append_byt _ rfl _ _ 22 rfl w.heap.size 5 i0 (.int .u8 0) Tryz.underlying22 hi hz0 hz1 hz2 rfl _ _ rfl (HO.out.alloc _) _ _ _ _ _ rfl (one_byte _ _ (v / 2 ^ (8 * j) % 256) ?c0 ?c1) rfl ?c2 ?c3 ?_)
      case c0 => exact byte_rng _
      case c1 => rw [World.cell?_alloc_at _ _ _ _ rfl]; rfl
      case c2 => omega
      case c3 => have := hbl.size; simp; omega
      intro u' w2 hown2 hg2
      have HB2 := hidden ((hbl.alloc hbl.size _).grown hg2 (by have := hbl.size; simp; omega) (fun g hg => (HO.out.lt g hg).1))
      clear hbl hg2 hbel2
      go_wp2
      go_roundw
      case rel => exact ⟨j, by omega, rfl, _, be_next _ _ _ _ HY.out, hown2, HB2.out⟩
      case measure => simp [intOf] <;> omega
    · obtain rfl : j = 0 := by omega
      have e1 : ys = xs ++ be k v := by simpa [be] using hys
      subst e1
      have HO := hidden ho
      have HB := hidden hbl
      clear ho hbl hys H hbel2 hown2
      go_wp2
      go_ret
      exact ⟨_, rfl, HO.out, HB.out⟩

end Go.Proofs.YtkniifopfgeopaaGreat

namespace Go.Proofs.YtkniifopfgeopaaGreat
open Go.RowKit
set_option linter.unusedVariables false

/-- Bytes of the call's own. -/
def OwnR (w : World) (m : Nat) (ys : List Int) (e : Ending) (w' : World) : Prop := ∃ q d, e = .returned (.slice q m d) ∧ Own w' w.heap.size 5 (.slice q m d) ys ∧ Byt w' q m d ys ∧ Below w.heap.size w w'
theorem put_r (p : Option Addr) (n c : Nat) (xs : List Int) (w : World) (h : Byt w p n c xs) (hb : n ≤ 140737488355000) (v : Int) (hv : 0 ≤ v ∧ v ≤ 18446744073709551615) (k : Nat) (h1 : 1 ≤ k) (h8 : k ≤ 8) (K : Int) (hK : K = k) (ys : List Int) (hys : xs ++ be k v = ys) (m : Nat) (hm : n + k = m) :
    Calls Tryz.prog 30 #[.slice p n c, .int .u64 v, .int .i64 K] w (OwnR w m ys) := by
  subst hK hys hm
  have hl : (xs ++ be k v).length = n + k := by rw [List.length_append, be_len, h.len]
  refine (put_yes p n c xs w h hb v hv k h1 h8).mono ?_
  rintro e w' ⟨u, rfl, hown, hbel⟩
  obtain ⟨q, d, rfl, hby⟩ := hown.bytN rfl hl (rng_append h.rng (be_rng _ _))
  exact ⟨q, d, rfl, hown, hby, hbel⟩

/-- The bytes of a section. -/
def secE (more : Int) (ys : List Int) : List Int := [more, 0] ++ (be 2 (4 + (ys.length : Int)) ++ ys)
/-- The inside of a transform, of a proposal. -/
def inT (x : Tr) : List Int := [x.t % 256, 0] ++ (be 2 x.i ++ (if x.k ≠ 0 then be 2 32782 ++ be 2 x.k else []))
def inP (p : Pr) : List Int := [p.n % 256, p.p % 256, (p.s.length : Int) % 256, (p.ts.length : Int) % 256] ++ (p.s ++ encTs p.ts)
theorem encT_sec (more : Int) (x : Tr) : encT more x = secE more (inT x) := by
  unfold encT secE inT lenT
  split <;> simp [be_len]
theorem encP_sec (more : Int) (p : Pr) : encP more p = secE more (inP p) := by
  unfold encP secE inP
  have e : 8 + (p.s.length : Int) + ((encTs p.ts).length : Int) = 4 + (([p.n % 256, p.p % 256, (p.s.length : Int) % 256, (p.ts.length : Int) % 256] ++ (p.s ++ encTs p.ts)).length : Int) := by
    simp
    omega
  rw [e]
theorem secE_len (more : Int) (ys : List Int) : (secE more ys).length = 4 + ys.length := by
  simp [secE, be_len]
  omega
theorem secE_rng (more : Int) (ys : List Int) (h0 : 0 ≤ more ∧ more ≤ 255) (h : ∀ x ∈ ys, 0 ≤ x ∧ x ≤ 255) : ∀ x ∈ secE more ys, 0 ≤ x ∧ x ≤ 255 := by
  refine rng_append ?_ (rng_append (be_rng _ _) h)
  intro z hz
  simp at hz
  omega

set_option maxHeartbeats 800000 in
theorem section_w (more : Int) (hm0 : 0 ≤ more ∧ more ≤ 255) (p : Option Addr) (n c : Nat) (ys : List Int) (w : World) (h : Byt w p n c ys) (hn : n ≤ 1048576) :
    Calls Tryz.prog 81 #[.int .i64 more, .slice p n c] w (OwnR w (n + 4) (secE more ys)) := by
  obtain ⟨i0, hi0, hz0, hz1, hz2⟩ := info_parts Tryz.infoByte
  have HX := hidden h
  have HL := hidden h.len
  have hw0 : IntKind.u64.wrap more = more := wraps_u64 _ (by omega) (by omega)
  have hw4 : IntKind.u64.wrap (4 + (n : Int)) = 4 + (n : Int) := wraps_u64 _ (by omega) (by omega)
  clear h
  go_enter Tryz.func81, Tryz.ntmps81
  go_wp2_with fail
  go_at_call 30
  (with_reducible refine (put_r none 0 0 [] w (Byt.nil _ _ _ (Nat.zero_le _)) (by omega) more (by omega) 1 (by omega) (by omega) 1 rfl [more] (by simp [be]; omega) 1 rfl).mono ?_)
  rintro e w1 ⟨q1, d1, rfl, ho1, hy1, hb1⟩
  have HY1 := hidden hy1
  have HB1 := hidden hb1
  clear ho1 hy1 hb1
  go_wp2_with fail
  go_at_call 30
  (with_reducible refine (put_r q1 1 d1 [more] w1 HY1.out (by omega) 0 (by omega) 1 (by omega) (by omega) 1 rfl [more, 0] (by simp [be]) 2 rfl).mono ?_)
  rintro e w2 ⟨q2, d2, rfl, ho2, hy2, hb2⟩
  have HY2 := hidden hy2
  have HB2 := hidden (HB1.out.trans (hb2.mono HB1.out.size))
  clear ho2 hy2 hb2 HY1 HB1
  go_wp2_with fail
  go_at_call 30
  (with_reducible refine (put_r q2 2 d2 [more, 0] w2 HY2.out (by omega) (4 + (n : Int)) (by omega) 2 (by omega) (by omega) 2 rfl ([more, 0] ++ be 2 (4 + (n : Int))) rfl 4 rfl).mono ?_)
  rintro e w3 ⟨q3, d3, rfl, ho3, hy3, hb3⟩
  have HB3 := hidden (HB2.out.trans (hb3.mono HB2.out.size))
  have HO3 := hidden (ho3.mono HB2.out.size)
  have HX3 := hidden (HX.out.below HB3.out)
  have hs3 := HB3.out.size
  clear ho3 hy3 hb3 HY2 HB2 hw0 hw4
  go_wp2_with (at_builtin; go_loud (refine wpList_append_byt _ rfl _ _ 22 rfl w.heap.size 5 i0 (.int .u8 0) Tryz.underlying22 hi0 hz0 hz1 hz2 rfl _ _ rfl HO3.out _ _ _ _ _ rfl HX3.out rfl ?c1 hs3 ?_))
  case c1 => simp [be_len]; omega
  intro v4 w4 ho4 hg4
  replace ho4 : Own w4 w.heap.size 5 v4 (secE more ys) := by
    rw [secE, HL.out]
    simpa using ho4
  obtain ⟨q4, d4, rfl, hy4⟩ := ho4.bytN rfl (show (secE more ys).length = n + 4 by rw [secE_len, HL.out]; omega) (secE_rng more ys hm0 HX.out.rng)
  have HB4 := HB3.out.grown hg4 HB3.out.size (fun g hg => (HO3.out.lt g hg).1)
  have HO4 := hidden ho4
  clear hg4
  go_wp2
  go_ret
  exact ⟨q4, d4, rfl, HO4.out, hy4, HB4⟩

set_option maxHeartbeats 800000 in
theorem transform_w (x : Tr) (w : World) (h : OkT x) (N : Nat) (hN : N = if x.k ≠ 0 then 8 else 4) :
    Calls Tryz.prog 102 #[.agg #[.int .i64 x.t, .int .i64 x.i, .int .i64 x.k]] w (OwnR w N (inT x)) := by
  obtain ⟨t, i, k⟩ := x
  have ht := h.t
  have hi := h.i
  have hk := h.k
  simp only at *
  have HN := hidden hN
  clear h hN
  have hw1 : IntKind.u64.wrap t = t := wraps_u64 _ (by omega) (by omega)
  have hw2 : IntKind.u64.wrap i = i := wraps_u64 _ (by omega) (by omega)
  have hw3 : IntKind.u64.wrap k = k := wraps_u64 _ (by omega) (by omega)
  have hal : Below w.heap.size w (w.alloc (.cells #[.int .i64 t, .int .i64 i, .int .i64 k] 112)) := (Below.refl _ _).alloc (Nat.le_refl _) _
  obtain ⟨W0, hW0⟩ : ∃ W0, w.alloc (.cells #[.int .i64 t, .int .i64 i, .int .i64 k] 112) = W0 := ⟨_, rfl⟩
  have c0 : W0.cell? ⟨w.heap.size, 0, none⟩ = some (.int .i64 t) := by subst hW0; exact World.cell?_alloc_at _ _ _ _ rfl
  have c1 : W0.cell? ⟨w.heap.size, 1, none⟩ = some (.int .i64 i) := by subst hW0; exact World.cell?_alloc_at _ _ _ _ rfl
  have c2 : W0.cell? ⟨w.heap.size, 2, none⟩ = some (.int .i64 k) := by subst hW0; exact World.cell?_alloc_at _ _ _ _ rfl
  rw [hW0] at hal
  have HAL := hidden hal
  have C1 := hidden c1
  have C2 := hidden c2
  go_enter Tryz.func102, Tryz.ntmps102
  go_wp2_with fail
  go_at_call 30
  clear hW0 hal c0 c1 c2
  (with_reducible refine (put_r none 0 0 [] W0 (Byt.nil _ _ _ (Nat.zero_le _)) (by omega) t (by omega) 1 (by omega) (by omega) 1 rfl [t % 256] (by simp [be]) 1 rfl).mono ?_)
  rintro e w1 ⟨q1, d1, rfl, ho1, hy1, hb1⟩
  have HY1 := hidden hy1
  have HB1 := hidden hb1
  clear ho1 hy1 hb1
  go_wp2_with fail
  go_at_call 30
  (with_reducible refine (put_r q1 1 d1 [t % 256] w1 HY1.out (by omega) 0 (by omega) 1 (by omega) (by omega) 1 rfl [t % 256, 0] (by simp [be]) 2 rfl).mono ?_)
  rintro e w2 ⟨q2, d2, rfl, ho2, hy2, hb2⟩
  have HY2 := hidden hy2
  have HB2 := hidden (HB1.out.trans (hb2.mono HB1.out.size))
  have c1 := cell_below HB2.out _ _ C1.out
  clear ho2 hy2 hb2 HY1 HB1
  go_wp2_with fail
  go_at_call 30
  (with_reducible refine (put_r q2 2 d2 [t % 256, 0] w2 HY2.out (by omega) i (by omega) 2 (by omega) (by omega) 2 rfl ([t % 256, 0] ++ be 2 i) rfl 4 rfl).mono ?_)
  rintro e w3 ⟨q3, d3, rfl, ho3, hy3, hb3⟩
  have HB3 := hidden (HB2.out.trans (hb3.mono HB2.out.size))
  have HB3w := hidden (HAL.out.trans (HB3.out.mono HAL.out.size))
  have c2 := cell_below HB3.out _ _ C2.out
  have HY3 := hidden hy3
  have HO3 := hidden (ho3.mono (Nat.le_trans HAL.out.size HB2.out.size))
  clear ho3 hy3 hb3 HY2 HB2 c1
  by_cases hk0 : k = 0
  · subst hk0
    have hN := HN.out
    rw [if_neg (by simp)] at hN
    subst hN
    go_wp2
    go_ret
    refine ⟨q3, d3, rfl, ?_, ?_, HB3w.out⟩
    · have := HO3.out
      simpa [inT] using this
    · have := HY3.out
      simpa [inT] using this
  · have hN := HN.out
    rw [if_pos hk0] at hN
    subst hN
    have hk' : (k == 0) = false := by simpa using hk0
    have HK := hidden hk0
    go_wp2_with fail
    go_at_call 30
    (with_reducible refine (put_r q3 4 d3 ([t % 256, 0] ++ be 2 i) w3 HY3.out (by omega) 32782 (by omega) 2 (by omega) (by omega) 2 rfl ([t % 256, 0] ++ be 2 i ++ be 2 32782) rfl 6 rfl).mono ?_)
    rintro e w4 ⟨q4, d4, rfl, ho4, hy4, hb4⟩
    have HB4 := hidden (HB3.out.trans (hb4.mono HB3.out.size))
    have HY4 := hidden hy4
    have c3 := cell_below HB4.out _ _ C2.out
    clear ho4 hy4 hb4 HY3 HO3 c2
    go_wp2_with fail
    go_at_call 30
    (with_reducible refine (put_r q4 6 d4 ([t % 256, 0] ++ be 2 i ++ be 2 32782) w4 HY4.out (by omega) k (by omega) 2 (by omega) (by omega) 2 rfl ([t % 256, 0] ++ be 2 i ++ be 2 32782 ++ be 2 k) rfl 8 rfl).mono ?_)
    rintro e w5 ⟨q5, d5, rfl, ho5, hy5, hb5⟩
    have HB5 := hidden (HAL.out.trans ((HB4.out.trans (hb5.mono HB4.out.size)).mono HAL.out.size))
    have HO5 := hidden (ho5.mono (Nat.le_trans HAL.out.size HB4.out.size))
    have HY5 := hidden hy5
    clear ho5 hy5 hb5 c3
    go_wp2
    go_ret
    have e : inT ⟨t, i, k⟩ = [t % 256, 0] ++ be 2 i ++ be 2 32782 ++ be 2 k := by
      rw [inT, if_pos HK.out]
      simp
    rw [e]
    exact ⟨q5, d5, rfl, HO5.out, HY5.out, HB5.out⟩
end Go.Proofs.YtkniifopfgeopaaGreat

namespace Go.Proofs.YtkniifopfgeopaaGreat
open Go.RowKit
set_option linter.unusedVariables false

set_option maxHeartbeats 400000 in
theorem isSpi_any (p : Int) (n : Nat) (w : World) (b : Bool) (hb : b = true ↔ (p = 1 ∧ (n = 0 ∨ n = 8)) ∨ (p ≠ 1 ∧ n = 4)) :
    Calls Tryz.prog 111 #[.int .i64 p, .int .i64 n] w fun e w' => e = .returned (.bool b) ∧ w = w' := by
  by_cases h1 : p = 1
  · subst h1
    by_cases h0 : n = 0
    · subst h0
      obtain rfl : b = true := by simpa using hb
      clear hb
      go_enter Tryz.func111, Tryz.ntmps111
      go_wp2
      go_ret
      exact ⟨rfl, rfl⟩
    · have hb' : b = ((n : Int) == 8) := by
        rw [Bool.eq_iff_iff, hb]
        simp [h0]
        omega
      have h0' : ((n : Int) == 0) = false := by simpa using h0
      clear hb
      go_enter Tryz.func111, Tryz.ntmps111
      go_wp2
      go_ret
      exact ⟨by rw [hb']; rfl, rfl⟩
  · have h1' : (p == 1) = false := by simpa using h1
    have hb' : b = ((n : Int) == 4) := by
      rw [Bool.eq_iff_iff, hb]
      simp [h1]
      omega
    clear hb
    go_enter Tryz.func111, Tryz.ntmps111
    go_wp2
    go_ret
    exact ⟨by rw [hb']; rfl, rfl⟩

set_option maxHeartbeats 400000 in
theorem inRange_no (t i k : Int) (w : World) (h : t < 1 ∨ 5 < t ∨ i < 0 ∨ 65535 < i ∨ k < 0 ∨ 65535 < k) :
    Calls Tryz.prog 112 #[.agg #[.int .i64 t, .int .i64 i, .int .i64 k]] w fun e w' => e = .returned (.bool false) ∧ Below w.heap.size w w' := by
  by_cases q1 : t < 1
  · have r1 : ¬ 1 ≤ t := by omega
    clear h
    go_enter Tryz.func112, Tryz.ntmps112
    go_wp2
    go_ret
    exact ⟨rfl, (Below.refl _ w).alloc (Nat.le_refl _) _⟩
  have r1 : 1 ≤ t := by omega
  by_cases q2 : 5 < t
  · have r2 : ¬ t ≤ 5 := by omega
    clear h
    go_enter Tryz.func112, Tryz.ntmps112
    go_wp2
    go_ret
    exact ⟨rfl, (Below.refl _ w).alloc (Nat.le_refl _) _⟩
  have r2 : t ≤ 5 := by omega
  by_cases q3 : i < 0
  · have r3 : ¬ 0 ≤ i := by omega
    clear h
    go_enter Tryz.func112, Tryz.ntmps112
    go_wp2
    go_ret
    exact ⟨rfl, (Below.refl _ w).alloc (Nat.le_refl _) _⟩
  have r3 : 0 ≤ i := by omega
  by_cases q4 : 65535 < i
  · have r4 : ¬ i ≤ 65535 := by omega
    clear h
    go_enter Tryz.func112, Tryz.ntmps112
    go_wp2
    go_ret
    exact ⟨rfl, (Below.refl _ w).alloc (Nat.le_refl _) _⟩
  have r4 : i ≤ 65535 := by omega
  by_cases q5 : k < 0
  · have r5 : ¬ 0 ≤ k := by omega
    clear h
    go_enter Tryz.func112, Tryz.ntmps112
    go_wp2
    go_ret
    exact ⟨rfl, (Below.refl _ w).alloc (Nat.le_refl _) _⟩
  have r5 : 0 ≤ k := by omega
  have r6 : ¬ k ≤ 65535 := by omega
  clear h
  go_enter Tryz.func112, Tryz.ntmps112
  go_wp2
  go_ret
  exact ⟨by simp <;> omega, (Below.refl _ w).alloc (Nat.le_refl _) _⟩
set_option maxHeartbeats 400000 in
theorem inRange_yes (t i k : Int) (w : World) (h : ¬ (t < 1 ∨ 5 < t ∨ i < 0 ∨ 65535 < i ∨ k < 0 ∨ 65535 < k)) :
    Calls Tryz.prog 112 #[.agg #[.int .i64 t, .int .i64 i, .int .i64 k]] w fun e w' => e = .returned (.bool true) ∧ Below w.heap.size w w' := by
  have r1 : 1 ≤ t := by omega
  have r2 : t ≤ 5 := by omega
  have r3 : 0 ≤ i := by omega
  have r4 : i ≤ 65535 := by omega
  have r5 : 0 ≤ k := by omega
  have r6 : k ≤ 65535 := by omega
  clear h
  go_enter Tryz.func112, Tryz.ntmps112
  go_wp2
  go_ret
  exact ⟨by simp <;> omega, (Below.refl _ w).alloc (Nat.le_refl _) _⟩

set_option maxHeartbeats 800000 in
theorem index_any (p : Option Addr) (n c : Nat) (l : List Tr) (w : World) (h : RdG KTr DTr w p n c l) (t i k : Int) :
    Calls Tryz.prog 120 #[.slice p n c, .agg #[.int .i64 t, .int .i64 i, .int .i64 k]] w fun e w' => ∃ r : Int, e = .returned (.int .i64 r) ∧ (0 ≤ r ↔ (⟨t, i, k⟩ : Tr) ∈ l) ∧ Below w.heap.size w w' := by
  have hn := h.le
  have HT := hidden h
  have HTL := hidden h.len
  clear h
  go_enter Tryz.func120, Tryz.ntmps120
  go_wp2_with fail
  go_loopw [8] (fun m wq => ∃ q : Nat, q ≤ n ∧ m = .int .i64 q ∧ (∀ r, r < q → l[r]? ≠ some ⟨t, i, k⟩) ∧ wq.cell? ⟨w.heap.size, 0, none⟩ = some (.int .i64 t) ∧ wq.cell? ⟨w.heap.size, 1, none⟩ = some (.int .i64 i) ∧ wq.cell? ⟨w.heap.size, 2, none⟩ = some (.int .i64 k) ∧ Below w.heap.size w wq) (fun m _ => n - (intOf m).toNat)
  case atStart => exact ⟨0, by omega, rfl, by omega, by go_simp, by go_simp, by go_simp, (Below.refl _ w).alloc (Nat.le_refl _) _⟩
  case round =>
    obtain ⟨q, hq, rfl, hno, y0, y1, y2, hbq⟩ := hrel
    have HNO := hidden hno
    have HBQ := hidden hbq
    have HY0 := hidden y0
    have HY1 := hidden y1
    have HY2 := hidden y2
    clear hno hbq
    by_cases hqj : ¬ q < n
    · obtain rfl : q = n := by omega
      have hnot : (⟨t, i, k⟩ : Tr) ∉ l := by
        intro hm
        obtain ⟨r, hr, he⟩ := List.mem_iff_getElem.1 hm
        exact HNO.out r (by have := HTL.out; omega) (by rw [List.getElem?_eq_getElem hr, he])
      have HN := hidden hnot
      clear hnot y0 y1 y2
      go_wp2
      go_ret
      exact ⟨-1, rfl, ⟨fun h => by omega, fun h => absurd h HN.out⟩, HBQ.out⟩
    replace hqj : q < n := by omega
    have hqj' : (q : Int) < n := by omega
    obtain ⟨g, rfl, hc, hint⟩ := (HT.out.below HBQ.out).cell q (by rw [HTL.out]; omega)
    obtain ⟨z, hz⟩ : ∃ z, l[q]'(by rw [HTL.out]; omega) = z := ⟨_, rfl⟩
    rw [hz] at hc
    have HZ := hidden hz
    obtain ⟨zt, zi, zk⟩ := z
    have z0 := hc 0 _ rfl
    have z1 := hc 1 _ rfl
    have z2 := hc 2 _ rfl
    simp only [KTr, Nat.add_zero] at z0 z1 z2
    clear hc hint hz
    have hqe := fun w => eql_tr w t i k zt zi zk
    by_cases heq : t = zt ∧ i = zi ∧ k = zk
    · obtain ⟨rfl, rfl, rfl⟩ := heq
      have hin : (⟨t, i, k⟩ : Tr) ∈ l := List.mem_iff_getElem.2 ⟨q, by have := HTL.out; omega, HZ.out⟩
      have HIN := hidden hin
      have hqb : (t == t && i == i && k == k) = true := by simp
      simp only [hqb] at hqe
      clear hin hqb
      go_wp2_with fail
      go_region
      go_wp2
      go_ret
      exact ⟨q, rfl, ⟨fun _ => HIN.out, fun _ => by omega⟩, HBQ.out.trans (drew_below ⟨1, rfl⟩)⟩
    · have hqb : (t == zt && i == zi && k == zk) = false := by
        rw [Bool.eq_false_iff]
        intro hh
        simp at hh
        exact heq ⟨hh.1.1, hh.1.2, hh.2⟩
      simp only [hqb] at hqe
      clear hqb
      go_wp2_with fail
      go_region
      go_wp2
      go_roundw
      case rel =>
        refine ⟨q + 1, by omega, by go_num, fun r hr => ?_, HY0.out, HY1.out, HY2.out, HBQ.out.trans (drew_below ⟨1, rfl⟩)⟩
        rcases Nat.lt_succ_iff_lt_or_eq.1 hr with hrq | hrq
        · exact HNO.out r hrq
        · subst hrq
          rw [List.getElem?_eq_getElem (by have := HTL.out; omega), HZ.out]
          intro hh
          simp at hh
          exact heq ⟨hh.1.symm, hh.2.1.symm, hh.2.2.symm⟩
      case measure => simp [intOf]; omega

set_option maxHeartbeats 400000 in
theorem contains_any (p : Option Addr) (n c : Nat) (l : List Tr) (w : World) (h : RdG KTr DTr w p n c l) (t i k : Int) (b : Bool) (hb : b = true ↔ (⟨t, i, k⟩ : Tr) ∈ l) :
    Calls Tryz.prog 113 #[.slice p n c, .agg #[.int .i64 t, .int .i64 i, .int .i64 k]] w fun e w' => e = .returned (.bool b) ∧ Below w.heap.size w w' := by
  have HT := hidden h
  have HB := hidden hb
  clear h hb
  go_enter Tryz.func113, Tryz.ntmps113
  go_wp2_with (go_at_call 120; (with_reducible refine (index_any p n c l _ (HT.out.below ((Below.refl _ w).alloc (Nat.le_refl _) _)) t i k).mono ?_); rintro e w1 ⟨r, rfl, hr, hbel⟩)
  go_ret
  refine ⟨?_, ((Below.refl _ w).alloc (Nat.le_refl _) _).trans (hbel.mono (by simp))⟩
  have e : decide ((⟨t, i, k⟩ : Tr) ∈ l) = b := by
    rw [Bool.eq_iff_iff, HB.out]
    simp
  rw [← e]
  rfl
end Go.Proofs.YtkniifopfgeopaaGreat

namespace Go.Proofs.YtkniifopfgeopaaGreat
open Go.RowKit
open Go.Maps (Keyed IsMap)
set_option linter.unusedVariables false
set_option maxRecDepth 100000

theorem Tryz.laidOutM : laidOutB Tryz.prog = true := by kernel_rfl
theorem Tryz.rowTr : (112 : TypeId) < Tryz.prog.types.size := of_decide_eq_true (by kernel_rfl)
theorem Tryz.wideTr : (match Tryz.prog.underlying 112 with | some (.array _ _) | some (.struct _) => true | _ => false) = true := by rw [Tryz.underlying112]
theorem lawTr : Keyed Tryz.prog 112 := Keyed.of_law (deep_law_laid Tryz.laidOutM (m := 2) (by omega) Tryz.rowTr (by kernel_rfl) Tryz.wideTr)
theorem Tryz.keyTypeTr : Tryz.prog.keyType 112 = true := by kernel_rfl
theorem Tryz.cellsTr : Tryz.prog.cellsOf 112 = 3 := by kernel_rfl
theorem Tryz.cellsInt : Tryz.prog.cellsOf 3 = 1 := by kernel_rfl
/-- A transform as a key. -/
def keyVal (t i k : Int) : Value := .agg #[.int .i64 t, .int .i64 i, .int .i64 k]
theorem wf_of {a : Int} (h : -9223372036854775808 ≤ a ∧ a ≤ 9223372036854775807) : (Lit.int .i64 a).wf = true := WalkArith.wf_i64 (by omega)
theorem keyOf_three {P : Program} {k e : TypeId} {fs : Array Go.Field} {f0 f1 f2 : Go.Field} (hk : P.underlying k = some (.struct fs)) (he : P.underlying e = some (.int .i64)) (hkt : P.keyType k = true) (hck : P.cellsOf k = 3) (hce : P.cellsOf e = 1) (hrow : k < P.types.size)
    (hall : fs.all (·.name != "_") = true) (hfs : fs.toList = [f0, f1, f2]) (t0 : f0.type = e) (t1 : f1.type = e) (t2 : f2.type = e) (o0 : f0.offset = 0) (o1 : f1.offset = 1) (o2 : f2.offset = 2)
    {a b c : Int} (ha : (Lit.int .i64 a).wf = true) (hb : (Lit.int .i64 b).wf = true) (hc : (Lit.int .i64 c).wf = true) : ∃ l, keyOf P k (.agg #[.int .i64 a, .int .i64 b, .int .i64 c]) = some l := by
  obtain ⟨m, hm⟩ : ∃ m, P.types.size = m + 1 := Nat.exists_eq_add_one_of_ne_zero (fun e => by rw [e] at hrow; exact Nat.not_lt_zero _ hrow)
  unfold keyOf
  rw [hk]
  simp [hkt, Value.formed, hk, hck, Program.keyLits, Value.cells, hm, he, hce, ha, hb, hc, hall, hfs, t0, t1, t2, o0, o1, o2]
theorem key_tr (t i k : Int) (h : IntT ⟨t, i, k⟩) : ∃ l, keyOf Tryz.prog 112 (keyVal t i k) = some l :=
  keyOf_three Tryz.underlying112 Tryz.underlying3 Tryz.keyTypeTr Tryz.cellsTr Tryz.cellsInt Tryz.rowTr (by simp) rfl rfl rfl rfl rfl rfl rfl (wf_of h.1) (wf_of h.2.1) (wf_of h.2.2)

/-- What the map reads as, and the transforms that it holds. -/
structure SeenD (D : DataW Unit) (ts : List Tr) : Prop where
  map : IsMap D
  at_ : ∀ (t i k : Int) (l : Lit), keyOf Tryz.prog 112 (keyVal t i k) = some l → D.atKey l (.lit (.bool false)) = .lit (.bool (decide ((⟨t, i, k⟩ : Tr) ∈ ts)))
def Seen (w : World) (b : Nat) (ts : List Tr) : Prop := ∃ D : DataW Unit, w.ownsMap Tryz.prog 112 (plainElem Tryz.prog 4) b ts.length D ∧ SeenD D ts
theorem Seen.made (w : World) : Seen (w.alloc (.map #[] 0)) w.heap.size [] := ⟨_, World.ownsMap_made _ _ _ _, ⟨[], rfl⟩, fun t i k l h => by simp [DataW.atKey]⟩
theorem Seen.lt {w : World} {b : Nat} {ts : List Tr} (h : Seen w b ts) : b < w.heap.size := by
  obtain ⟨D, h1, _⟩ := h
  exact h1.lt
theorem Seen.grown {w w' : World} {b : Nat} {ts : List Tr} {row : Option Nat} (h : Seen w b ts) (hg : w.grownBy w' row) (hne : some b ≠ row) : Seen w' b ts := by
  obtain ⟨D, h1, h2⟩ := h
  exact ⟨D, h1.kept hg hne, h2⟩
theorem Seen.notCells {w : World} {b : Nat} {ts : List Tr} (h : Seen w b ts) (cur : Array Value) (e : TypeId) (fz : Nat × Nat) : w.heap[b]? ≠ some (.cells cur e fz) := by
  obtain ⟨D, ⟨es, clock, h1, _⟩, _⟩ := h
  rw [h1]
  simp
theorem Tryz.zeroBool (w : World) : (zeroValue 4).run Tryz.prog w = .ok (.bool false) w := by kernel_rfl
theorem Seen.look {w : World} {b : Nat} {ts : List Tr} (h : Seen w b ts) (t i k : Int) (hi : IntT ⟨t, i, k⟩) (c : Bool) (hc : c = decide ((⟨t, i, k⟩ : Tr) ∈ ts)) :
    (Instr.lookup 110 (.map (some b)) (.agg #[.int .i64 t, .int .i64 i, .int .i64 k]) false).run Tryz.prog w = .ok (.bool c) w := by
  obtain ⟨D, h1, h2⟩ := h
  obtain ⟨l, hl⟩ := key_tr t i k hi
  obtain ⟨v, ps, hrun, hv⟩ := h1.lookup lawTr Tryz.underlying110 (Tryz.zeroBool w) (plainElem_bool Tryz.underlying4 false) hl
  rw [h2.at_ t i k l hl] at hv
  have : v = .bool c := by
    unfold plainElem at hv
    rw [Tryz.underlying4] at hv
    cases v <;> simp at hv
    rw [hv.1, hc]
  rw [← this]
  exact hrun
theorem SeenD.put {D : DataW Unit} {ts : List Tr} (h : SeenD D ts) (t i k : Int) (l : Lit) (hl : keyOf Tryz.prog 112 (keyVal t i k) = some l) : SeenD (D.put l (.lit (.bool true))) (ts ++ [⟨t, i, k⟩]) := by
  refine ⟨h.map.put _ _, fun t' i' k' l' hl' => ?_⟩
  by_cases he : l' = l
  · subst he
    rw [Maps.atKey_put_same h.map (lawTr.key hl)]
    have := lawTr.inj hl hl'
    simp [keyVal] at this
    obtain ⟨rfl, rfl, rfl⟩ := this
    simp
  · rw [Maps.atKey_put_other he, h.at_ t' i' k' l' hl']
    have hne : (⟨t', i', k'⟩ : Tr) ≠ ⟨t, i, k⟩ := by
      intro e
      simp at e
      obtain ⟨rfl, rfl, rfl⟩ := e
      rw [hl] at hl'
      simp at hl'
      exact he hl'.symm
    simp [hne]
/-- A store into the map as a law of the walk. -/
theorem wpList_seen (w : World) {ops : Array Oper} {rest : List Oper} {o : Oper} {a : Act} {Q : Exit → Act → World → Prop} (hg : o.guard = none) (m x v : Operand) (hop : o.op = Op.mapUpdate 110 m x v)
    (b : Nat) (ts : List Tr) (h : Seen w b ts) (hn : ts.length < maxLen) (hm : a.eval m = .map (some b)) (t i k : Int) (hx : a.eval x = .agg #[.int .i64 t, .int .i64 i, .int .i64 k]) (hv : a.eval v = .bool true) (hi : IntT ⟨t, i, k⟩)
    (hK : ∀ w', Seen w' b (ts ++ [⟨t, i, k⟩]) → w.grownBy w' (some b) → wpList Tryz.prog ops Q rest (a.put o.dst undef) w') : wpList Tryz.prog ops Q (o :: rest) a w := by
  obtain ⟨D, h1, h2⟩ := h
  obtain ⟨l, hl⟩ := key_tr t i k hi
  refine wpList_mapUpdate_own w hg m x v _ hop _ _ lawTr Tryz.underlying110 _ b _ D hm h1 hn _ _ l hx hv hl _ [] (plainElem_bool Tryz.underlying4 true) ?_
  intro w' h3 h4
  exact hK w' ⟨_, by simpa using h3, h2.put t i k l hl⟩ h4
end Go.Proofs.YtkniifopfgeopaaGreat

namespace Go.Proofs.YtkniifopfgeopaaGreat
open Go.RowKit
set_option linter.unusedVariables false

theorem Own.kept_row {w w' : World} {base : Nat} {e : TypeId} {v : Value} {xs : List Int} {k : Nat} (h : Own w base e v xs) (hg : w.grownBy w' (some k)) (hk : k < base) : Own w' base e v xs :=
  World.ownsRow.kept h hg (by
    rcases hv : v.ownBlock with _ | b
    · exact Or.inl rfl
    · have := (h.lt b hv).1
      exact Or.inr (by simp; omega))

set_option maxHeartbeats 800000 in
theorem mbytes_any (W w : World) (k : Nat) (h : Cod W w k) (n : Nat) (hn : n ≤ 100000) :
    Calls Tryz.prog 35 #[.pointer (some ⟨k, 0, none⟩), .int .i64 n] w fun e w' => ∃ p c ys, e = .returned (.slice p n c) ∧ Bod w' w.heap.size p n c ys ∧ Cod W w' k ∧ w.grownBy w' (some k) := by
  obtain ⟨i0, hi, hz0, hz1, hz2⟩ := info_parts Tryz.infoByte
  have hk := h.lt
  have H := hidden h
  clear h
  go_enter Tryz.func35, Tryz.ntmps35
  go_wp2
  go_loopw [5, 6] (fun u i wr => ∃ j : Nat, j ≤ n ∧ i = .int .i64 j ∧ ∃ ys : List Int, ys.length = j ∧ (∀ x ∈ ys, 0 ≤ x ∧ x ≤ 255) ∧ Own wr w.heap.size 5 u ys ∧ Cod W wr k ∧ w.grownBy wr (some k)) (fun _ i _ => n - (intOf i).toNat)
  case atStart => exact ⟨0, by omega, rfl, [], rfl, by simp, Own.nil _ _ _, H.out, grown_refl _ _⟩
  case round =>
    obtain ⟨j, hj, rfl, ys, hl, hr, ho, hc, hg⟩ := hrel
    have HO := hidden ho
    have HR := hidden hr
    have HC := hidden hc
    have HG := hidden hg
    clear ho hr hc hg H
    by_cases hlt : j < n
    · go_wp2_with (go_at_call 18; refine (next_any W _ k HC.out _ ?_).mono ?_; omega)
      rintro e w2 ⟨r, rfl, r0, r1, hc, hg⟩
      have HO2 := hidden (HO.out.kept_row hg hk)
      have HC2 := hidden hc
      have HG2 := hidden (grown_trans HG.out hg)
      clear hc hg HO HC HG
      go_wp2_with (at_builtin; go_loud (refine wpList_append_byt _ rfl _ _ 22 rfl w.heap.size 5 i0 (.int .u8 0) Tryz.underlying22 hi hz0 hz1 hz2 rfl _ _ rfl (HO2.out.alloc _) _ _ _ _ _ rfl (one_byte _ _ ((r + j * 7) % 256) ?c0 ?c1) rfl ?c2 ?c3 ?_))
      case c0 => omega
      case c1 => rw [World.cell?_alloc_at _ _ _ _ rfl]; rfl
      case c2 => omega
      case c3 => have := HG2.out.size; simp; omega
      intro u w4 hown hg
      have HC4 := hidden ((HC2.out.alloc _).grown hg (fun e => by have := (HO2.out.lt k e.symm).1; omega) (fun j hj => by have := (HO2.out.lt j hj).1; have := HC2.out.bel.size; have := HC2.out.base; omega))
      have HG4 := hidden (grown_own (grown_alloc_new HG2.out _) hg (fun j hj => (HO2.out.lt j hj).1))
      have HO4 := hidden hown
      clear hown hg HO2 HC2 HG2
      go_wp2
      go_roundw
      case rel => exact ⟨j + 1, by omega, by go_num, _, by simp [hl], rng_append HR.out (by intro z hz; simp at hz; omega), HO4.out, HC4.out, HG4.out⟩
      case measure => simp [intOf]; omega
    · obtain rfl : j = n := by omega
      obtain ⟨p, c, rfl, hb⟩ := HO.out.bod hl HR.out
      have HB := hidden hb
      clear hb HO HR
      go_wp2
      go_ret
      exact ⟨p, c, ys, rfl, HB.out, HC.out, HG.out⟩
end Go.Proofs.YtkniifopfgeopaaGreat
