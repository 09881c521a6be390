/-
  What header.Parse returns: the header in any bytes, or the first error.
-/
import Derived.Test.YtjkeijkbekdjfaaRet
import Derived.Test.YtjkeijkbekdjfaaMkHeader
import Derived.Test.YtjkeijkbekdjfaaCursor
namespace Go.Proofs.Ytjkeijkbekdjfaa
open Go.RowKit
set_option linter.unusedVariables false

def Hdr.zero : Hdr := ⟨0, 0, 0, 0, 0, 0⟩
/-- What is read, by the numbers that stand there. -/
def parseV (v1 v2 v3 v4 v5 v6 v7 v8 : Int) (n : Nat) : Hdr × Int :=
  if v4 / 16 ≠ 2 then (Hdr.zero, 3) else if v8 ≠ n then (Hdr.zero, 2)
  else if checkR v1 v2 v3 v5 (bits .and .i64 v6 56) v7 ≠ 0 then (Hdr.zero, checkR v1 v2 v3 v5 (bits .and .i64 v6 56) v7)
  else (⟨v1, v2, v3, v5, bits .and .i64 v6 56, v7⟩, 0)
/-- The number of d bytes from a on. -/
def numAt (xs : List Int) (a d : Nat) : Int := val ((xs.drop a).take d)
/-- What is read, or the first error. -/
def parseR (xs : List Int) : Hdr × Int :=
  if xs.length < 28 then (Hdr.zero, 1) else parseV (numAt xs 0 8) (numAt xs 8 8) (numAt xs 16 1) (numAt xs 17 1) (numAt xs 18 1) (numAt xs 19 1) (numAt xs 20 4) (numAt xs 24 4) xs.length
/-- The result of Parse. -/
def Parsed (w : World) (h : Hdr × Int) (e : Ending) (w' : World) : Prop := e = .returned (.tuple #[.agg #[.int .u64 h.1.i, .int .u64 h.1.r, .int .i64 h.1.n, .int .i64 h.1.x, .int .i64 h.1.f, .int .u32 h.1.m], .int .i64 h.2]) ∧ Below w.heap.size w w'

theorem field_at (p : Option Addr) (n c : Nat) (xs : List Int) (w : World) (k a d N : Nat) (v : Int) (hv : numAt xs a d = v) (hc : Cur w k p n c a 0) (h : Byt w p n c xs) (h1 : 1 ≤ d) (h8 : d ≤ 8) (hN : a + d = N) (hin : N ≤ n) :
    Calls Try.prog 26 #[.pointer (some ⟨k, 0, none⟩), .int .i64 d] w fun e w' => e = .returned (.int .u64 v) ∧ Cur w' k p n c (N : Nat) 0 ∧ w.grownBy w' (some k) := by
  subst hN
  subst hv
  exact field_yes p n c xs w k a d hc h h1 h8 hin

/-- The memory of the call: the result, the cursor, the header that is read. -/
structure Three (w0 w : World) (g : Nat) (i r n x f m : Int) : Prop where
  bel : Below w0.heap.size w0 w
  res : HdrIn w g 0 0 0 0 0 0 0
  hdr : HdrIn w (g + 2) 0 i r n x f m
  g0 : g = w0.heap.size

theorem HdrIn.drew {w : World} {g o : Nat} {i r n x f m : Int} (h : HdrIn w g o i r n x f m) : HdrIn w.drew g o i r n x f m := h.below ((Below.refl _ _).drew)
theorem stored_below {w0 w : World} {g : Nat} {i r n x f m : Int} (h : Below w0.heap.size w0 w) (hg : w0.heap.size ≤ g) :
    Below w0.heap.size w0 ((((((w.setCell ⟨g, 0, none⟩ (.int .u64 i)).setCell ⟨g, 1, none⟩ (.int .u64 r)).setCell ⟨g, 2, none⟩ (.int .i64 n)).setCell ⟨g, 3, none⟩ (.int .i64 x)).setCell ⟨g, 4, none⟩ (.int .i64 f)).setCell ⟨g, 5, none⟩ (.int .u32 m)) :=
  (((((h.setCell hg _).setCell hg _).setCell hg _).setCell hg _).setCell hg _).setCell hg _

set_option maxHeartbeats 1600000 in
theorem parse_core (p : Option Addr) (n c : Nat) (xs : List Int) (w : World) (h : Byt w p n c xs) (hn : 28 ≤ n) (v1 v2 v3 v4 v5 v6 v7 v8 : Int)
    (e1 : numAt xs 0 8 = v1) (e2 : numAt xs 8 8 = v2) (e3 : numAt xs 16 1 = v3) (e4 : numAt xs 17 1 = v4) (e5 : numAt xs 18 1 = v5) (e6 : numAt xs 19 1 = v6) (e7 : numAt xs 20 4 = v7) (e8 : numAt xs 24 4 = v8)
    (b1 : 0 ≤ v1 ∧ v1 ≤ 18446744073709551615) (b2 : 0 ≤ v2 ∧ v2 ≤ 18446744073709551615) (b3 : 0 ≤ v3 ∧ v3 ≤ 255) (b4 : 0 ≤ v4 ∧ v4 ≤ 255) (b5 : 0 ≤ v5 ∧ v5 ≤ 255) (b6 : 0 ≤ v6 ∧ v6 ≤ 255) (b7 : 0 ≤ v7 ∧ v7 ≤ 4294967295) (b8 : 0 ≤ v8 ∧ v8 ≤ 4294967295) :
    Calls Try.prog 13 #[.slice p n c] w (Parsed w (parseV v1 v2 v3 v4 v5 v6 v7 v8 n)) := by
  have hle := h.le
  have HY := hidden h
  have E1 := hidden e1
  have E2 := hidden e2
  have E3 := hidden e3
  have E4 := hidden e4
  have E5 := hidden e5
  have E6 := hidden e6
  have E7 := hidden e7
  have E8 := hidden e8
  clear h e1 e2 e3 e4 e5 e6 e7 e8
  obtain ⟨g, hg0⟩ : ∃ g, g = w.heap.size := ⟨_, rfl⟩
  have HW := hidden (show ∀ w3, w3 = ((w.alloc (.cells #[.int .u64 0, .int .u64 0, .int .i64 0, .int .i64 0, .int .i64 0, .int .u32 0] 29)).alloc (.cells #[.slice p n c, .int .i64 0, .int .i64 0] 55)).alloc (.cells #[.int .u64 0, .int .u64 0, .int .i64 0, .int .i64 0, .int .i64 0, .int .u32 0] 29) →
      Three w w3 w.heap.size 0 0 0 0 0 0 ∧ Cur w3 (w.heap.size + 1) p n c 0 0 by
    rintro w3 rfl
    have hs1 : (w.alloc (.cells #[.int .u64 0, .int .u64 0, .int .i64 0, .int .i64 0, .int .i64 0, .int .u32 0] 29)).heap.size = w.heap.size + 1 := by simp
    have hb := (((Below.refl w.heap.size w).alloc (Nat.le_refl _) (.cells #[.int .u64 0, .int .u64 0, .int .i64 0, .int .i64 0, .int .i64 0, .int .u32 0] 29)).alloc (by simp) (.cells #[.slice p n c, .int .i64 0, .int .i64 0] 55)).alloc (by simp; omega) (.cells #[.int .u64 0, .int .u64 0, .int .i64 0, .int .i64 0, .int .i64 0, .int .u32 0] 29)
    refine ⟨⟨hb, ((HdrIn.new w 0 0 0 0 0 0 29).alloc _).alloc _, ?_, rfl⟩, ?_⟩
    · have := HdrIn.new ((w.alloc (.cells #[.int .u64 0, .int .u64 0, .int .i64 0, .int .i64 0, .int .i64 0, .int .u32 0] 29)).alloc (.cells #[.slice p n c, .int .i64 0, .int .i64 0] 55)) 0 0 0 0 0 0 29
      simpa using this
    · refine Cur.alloc ?_ _
      exact ⟨by go_simp, by go_simp, by go_simp, fun j => by go_simp⟩)
  go_enter Try.func13, Try.ntmps13

  have H0 := (HW.out _ rfl).1
  have HC0 := hidden (HW.out _ rfl).2
  have HB0 := hidden H0.bel
  have HR0 := hidden H0.res
  have HH0 := hidden H0.hdr
  have hs0 := H0.hdr.lt
  have HS0 := hidden hs0
  clear H0 HW hs0
  go_wp2_with (go_at_call 26; (refine (field_at p n c xs _ (w.heap.size + 1) 0 8 8 v1 E1.out HC0.out (HY.out.below HB0.out) (by omega) (by omega) rfl (by omega)).mono ?_))
  rintro e w1 ⟨rfl, hc, hg⟩
  have hb := HB0.out.grown hg HB0.out.size (fun k hk => by simp at hk; omega)
  have hr := HR0.out.grown hg (by simp)
  have hh := HH0.out.grown hg (by simp)
  clear hg HC0 HB0 HR0 HH0
  have HB1 := hidden (hb.setCell (p := ⟨w.heap.size + 2, 0, none⟩) (by simp) (.int .u64 v1))
  have HR1 := hidden (hr.set_ne (w.heap.size + 2) 0 (.int .u64 v1) (by omega))
  have HC1 := hidden (hc.set_ne (w.heap.size + 2) 0 (.int .u64 v1) (by omega))
  have HH1 := hidden (hh.set0 v1)
  (try clear k0 k1 k2 k3 k4 k5 kf)
  obtain ⟨k0, k1, k2, k3, k4, k5, kf⟩ := hh
  clear hb hr hc
  go_wp2_with (go_at_call 26; (refine (field_at p n c xs _ (w.heap.size + 1) 8 8 16 v2 E2.out HC1.out (HY.out.below HB1.out) (by omega) (by omega) rfl (by omega)).mono ?_))
  rintro e w2 ⟨rfl, hc, hg⟩
  have hb := HB1.out.grown hg HB1.out.size (fun k hk => by simp at hk; omega)
  have hr := HR1.out.grown hg (by simp)
  have hh := HH1.out.grown hg (by simp)
  clear hg HC1 HB1 HR1 HH1
  have HB2 := hidden (hb.setCell (p := ⟨w.heap.size + 2, 1, none⟩) (by simp) (.int .u64 v2))
  have HR2 := hidden (hr.set_ne (w.heap.size + 2) 1 (.int .u64 v2) (by omega))
  have HC2 := hidden (hc.set_ne (w.heap.size + 2) 1 (.int .u64 v2) (by omega))
  have HH2 := hidden (hh.set1 v2)
  (try clear k0 k1 k2 k3 k4 k5 kf)
  obtain ⟨k0, k1, k2, k3, k4, k5, kf⟩ := hh
  clear hb hr hc
  go_wp2_with (go_at_call 26; (refine (field_at p n c xs _ (w.heap.size + 1) 16 1 17 v3 E3.out HC2.out (HY.out.below HB2.out) (by omega) (by omega) rfl (by omega)).mono ?_))
  rintro e w3 ⟨rfl, hc, hg⟩
  have hb := HB2.out.grown hg HB2.out.size (fun k hk => by simp at hk; omega)
  have hr := HR2.out.grown hg (by simp)
  have hh := HH2.out.grown hg (by simp)
  clear hg HC2 HB2 HR2 HH2
  have HB3 := hidden (hb.setCell (p := ⟨w.heap.size + 2, 2, none⟩) (by simp) (.int .i64 v3))
  have HR3 := hidden (hr.set_ne (w.heap.size + 2) 2 (.int .i64 v3) (by omega))
  have HC3 := hidden (hc.set_ne (w.heap.size + 2) 2 (.int .i64 v3) (by omega))
  have HH3 := hidden (hh.set2 v3)
  (try clear k0 k1 k2 k3 k4 k5 kf)
  obtain ⟨k0, k1, k2, k3, k4, k5, kf⟩ := hh
  clear hb hr hc
  go_wp2_with (go_at_call 26; (refine (field_at p n c xs _ (w.heap.size + 1) 17 1 18 v4 E4.out HC3.out (HY.out.below HB3.out) (by omega) (by omega) rfl (by omega)).mono ?_))
  rintro e w4 ⟨rfl, hc, hg⟩
  have hb := HB3.out.grown hg HB3.out.size (fun k hk => by simp at hk; omega)
  have hr := HR3.out.grown hg (by simp)
  have hh := HH3.out.grown hg (by simp)
  clear hg HC3 HB3 HR3 HH3
  have HB4 := hidden hb
  have HR4 := hidden hr
  have HC4 := hidden hc
  have HH4 := hidden hh
  clear hb hr hc hh
  go_wp2_with (go_at_call 26; (refine (field_at p n c xs _ (w.heap.size + 1) 18 1 19 v5 E5.out HC4.out (HY.out.below HB4.out) (by omega) (by omega) rfl (by omega)).mono ?_))
  rintro e w5 ⟨rfl, hc, hg⟩
  have hb := HB4.out.grown hg HB4.out.size (fun k hk => by simp at hk; omega)
  have hr := HR4.out.grown hg (by simp)
  have hh := HH4.out.grown hg (by simp)
  clear hg HC4 HB4 HR4 HH4
  have HB5 := hidden (hb.setCell (p := ⟨w.heap.size + 2, 3, none⟩) (by simp) (.int .i64 v5))
  have HR5 := hidden (hr.set_ne (w.heap.size + 2) 3 (.int .i64 v5) (by omega))
  have HC5 := hidden (hc.set_ne (w.heap.size + 2) 3 (.int .i64 v5) (by omega))
  have HH5 := hidden (hh.set3 v5)
  (try clear k0 k1 k2 k3 k4 k5 kf)
  obtain ⟨k0, k1, k2, k3, k4, k5, kf⟩ := hh
  clear hb hr hc
  go_wp2_with (go_at_call 26; (refine (field_at p n c xs _ (w.heap.size + 1) 19 1 20 v6 E6.out HC5.out (HY.out.below HB5.out) (by omega) (by omega) rfl (by omega)).mono ?_))
  rintro e w6 ⟨rfl, hc, hg⟩
  have hb := HB5.out.grown hg HB5.out.size (fun k hk => by simp at hk; omega)
  have hr := HR5.out.grown hg (by simp)
  have hh := HH5.out.grown hg (by simp)
  clear hg HC5 HB5 HR5 HH5
  have HB6 := hidden (hb.setCell (p := ⟨w.heap.size + 2, 4, none⟩) (by simp) (.int .i64 (bits .and .i64 v6 56)))
  have HR6 := hidden (hr.set_ne (w.heap.size + 2) 4 (.int .i64 (bits .and .i64 v6 56)) (by omega))
  have HC6 := hidden (hc.set_ne (w.heap.size + 2) 4 (.int .i64 (bits .and .i64 v6 56)) (by omega))
  have HH6 := hidden (hh.set4 (bits .and .i64 v6 56))
  (try clear k0 k1 k2 k3 k4 k5 kf)
  obtain ⟨k0, k1, k2, k3, k4, k5, kf⟩ := hh
  clear hb hr hc
  go_wp2_with (go_at_call 26; (refine (field_at p n c xs _ (w.heap.size + 1) 20 4 24 v7 E7.out HC6.out (HY.out.below HB6.out) (by omega) (by omega) rfl (by omega)).mono ?_))
  rintro e w7 ⟨rfl, hc, hg⟩
  have hb := HB6.out.grown hg HB6.out.size (fun k hk => by simp at hk; omega)
  have hr := HR6.out.grown hg (by simp)
  have hh := HH6.out.grown hg (by simp)
  clear hg HC6 HB6 HR6 HH6
  have HB7 := hidden (hb.setCell (p := ⟨w.heap.size + 2, 5, none⟩) (by simp) (.int .u32 v7))
  have HR7 := hidden (hr.set_ne (w.heap.size + 2) 5 (.int .u32 v7) (by omega))
  have HC7 := hidden (hc.set_ne (w.heap.size + 2) 5 (.int .u32 v7) (by omega))
  have HH7 := hidden (hh.set5 v7)
  (try clear k0 k1 k2 k3 k4 k5 kf)
  obtain ⟨k0, k1, k2, k3, k4, k5, kf⟩ := hh
  clear hb hr hc
  go_wp2_with (go_at_call 26; (refine (field_at p n c xs _ (w.heap.size + 1) 24 4 28 v8 E8.out HC7.out (HY.out.below HB7.out) (by omega) (by omega) rfl (by omega)).mono ?_))
  rintro e w8 ⟨rfl, hc, hg⟩
  have hb := HB7.out.grown hg HB7.out.size (fun k hk => by simp at hk; omega)
  have hr := HR7.out.grown hg (by simp)
  have hh := HH7.out.grown hg (by simp)
  clear hg HC7 HB7 HR7 HH7
  have HB8 := hidden hb
  have HR8 := hidden hr
  have HC8 := hidden hc
  have HH8 := hidden hh
  clear hb hr hc hh
  clear E1 E2 E3 E4 E5 E6 E7 E8 HY
  (try clear k0 k1 k2 k3 k4 k5 kf)
  obtain ⟨k0, k1, k2, k3, k4, k5, kf⟩ := HH8.out
  obtain ⟨r0, r1, r2, r3, r4, r5, rf⟩ := HR8.out
  obtain ⟨u0, u1, u2, uf⟩ := HC8.out
  by_cases q4 : v4 / 16 = 2
  case neg =>
    have hp : parseV v1 v2 v3 v4 v5 v6 v7 v8 n = (Hdr.zero, 3) := by rw [parseV, if_pos q4]
    have HP := hidden hp
    have q4' : (v4 / 16 != 2) = true := by simpa using q4
    clear hp
    go_wp2
    refine ret_hdr2 (g := w.heap.size) rfl rfl rfl rfl (stored_hdr HR8.out) ?_
    rw [HP.out]
    exact ⟨rfl, stored_below HB8.out (Nat.le_refl _)⟩
  have q4' : (v4 / 16 != 2) = false := by simp [q4]
  have HQ4 := hidden q4
  by_cases q8 : v8 = n
  case neg =>
    have hp : parseV v1 v2 v3 v4 v5 v6 v7 v8 n = (Hdr.zero, 2) := by rw [parseV, if_neg (by simp [q4]), if_pos q8]
    have HP := hidden hp
    have q8' : (v8 != (n : Int)) = true := by simpa using q8
    clear hp q4
    go_wp2
    refine ret_hdr2 (g := w.heap.size) rfl rfl rfl rfl (stored_hdr HR8.out) ?_
    rw [HP.out]
    exact ⟨rfl, stored_below HB8.out (Nat.le_refl _)⟩
  have q8' : (v8 != (n : Int)) = false := by simp [q8]
  have hp0 : parseV v1 v2 v3 v4 v5 v6 v7 v8 n = if checkR v1 v2 v3 v5 (bits .and .i64 v6 56) v7 ≠ 0 then (Hdr.zero, checkR v1 v2 v3 v5 (bits .and .i64 v6 56) v7) else (⟨v1, v2, v3, v5, bits .and .i64 v6 56, v7⟩, 0) := by
    rw [parseV, if_neg (by simp [q4]), if_neg (by simp [q8])]
  generalize bits .and .i64 v6 56 = y at *
  rcases hz : checkR v1 v2 v3 v5 y v7 with z
  have HC := hidden (fun w => check_at v1 v2 v3 v5 y v7 _ w hz)
  rw [hz] at hp0
  have HP0 := hidden hp0
  clear hp0 hz q4 q8 HQ4
  go_wp2_with (go_at_call 19; (with_reducible refine (HC.out _).mono ?_))
  rintro e w9 ⟨rfl, hb⟩
  have HB9 := hidden (HB8.out.trans (hb.mono HB8.out.size))
  have HR9 := hidden (HR8.out.below hb)
  have HH9 := hidden (HH8.out.below hb)
  clear hb HB8 HR8 HH8 HC8 HC k0 k1 k2 k3 k4 k5 kf r0 r1 r2 r3 r4 r5 rf u0 u1 u2 uf
  obtain ⟨k0, k1, k2, k3, k4, k5, kf⟩ := HH9.out
  obtain ⟨r0, r1, r2, r3, r4, r5, rf⟩ := HR9.out
  by_cases hz0 : z = 0
  · subst hz0
    go_wp2
    refine ret_hdr2 (g := w.heap.size) rfl rfl rfl rfl (stored_hdr HR9.out) ?_
    rw [HP0.out, if_neg (by simp)]
    exact ⟨rfl, stored_below HB9.out (Nat.le_refl _)⟩
  · have hz1 : (z != 0) = true := by simpa using hz0
    have HZ := hidden hz0
    clear hz0
    go_wp2
    refine ret_hdr2 (g := w.heap.size) rfl rfl rfl rfl (stored_hdr HR9.out) ?_
    rw [HP0.out, if_pos HZ.out]
    exact ⟨rfl, stored_below HB9.out (Nat.le_refl _)⟩


set_option maxHeartbeats 1600000 in
theorem parse_short (p : Option Addr) (n c : Nat) (xs : List Int) (w : World) (h : Byt w p n c xs) (hn : n < 28) :
    Calls Try.prog 13 #[.slice p n c] w (Parsed w (Hdr.zero, 1)) := by
  have hle := h.le
  have HY := hidden h
  clear h
  have HW := hidden (show ∀ w3, w3 = ((w.alloc (.cells #[.int .u64 0, .int .u64 0, .int .i64 0, .int .i64 0, .int .i64 0, .int .u32 0] 29)).alloc (.cells #[.slice p n c, .int .i64 0, .int .i64 0] 55)).alloc (.cells #[.int .u64 0, .int .u64 0, .int .i64 0, .int .i64 0, .int .i64 0, .int .u32 0] 29) →
      Three w w3 w.heap.size 0 0 0 0 0 0 ∧ Part w3 (w.heap.size + 1) p n c 0 by
    rintro w3 rfl
    have hb := (((Below.refl w.heap.size w).alloc (Nat.le_refl _) (.cells #[.int .u64 0, .int .u64 0, .int .i64 0, .int .i64 0, .int .i64 0, .int .u32 0] 29)).alloc (by simp) (.cells #[.slice p n c, .int .i64 0, .int .i64 0] 55)).alloc (by simp; omega) (.cells #[.int .u64 0, .int .u64 0, .int .i64 0, .int .i64 0, .int .i64 0, .int .u32 0] 29)
    refine ⟨⟨hb, ((HdrIn.new w 0 0 0 0 0 0 29).alloc _).alloc _, ?_, rfl⟩, 0, 0, ?_, Or.inl ⟨rfl, rfl, by omega⟩⟩
    · have := HdrIn.new ((w.alloc (.cells #[.int .u64 0, .int .u64 0, .int .i64 0, .int .i64 0, .int .i64 0, .int .u32 0] 29)).alloc (.cells #[.slice p n c, .int .i64 0, .int .i64 0] 55)) 0 0 0 0 0 0 29
      simpa using this
    · refine Cur.alloc ?_ _
      exact ⟨by go_simp, by go_simp, by go_simp, fun j => by go_simp⟩)
  go_enter Try.func13, Try.ntmps13
  have H0 := (HW.out _ rfl).1
  have HC0 := hidden (HW.out _ rfl).2
  have HB0 := hidden H0.bel
  have HR0 := hidden H0.res
  have HH0 := hidden H0.hdr
  clear H0 HW
  go_wp2_with (go_at_call 26; (refine (field_some p n c xs _ (w.heap.size + 1) 0 8 8 HC0.out (HY.out.below HB0.out) (by omega) (by omega) rfl 18446744073709551615 (by decide) (by decide)).mono ?_))
  rintro e w1 ⟨z1, rfl, z1a, z1b, hc, hg⟩
  have hb := HB0.out.grown hg HB0.out.size (fun k hk => by simp at hk; omega)
  have hr := HR0.out.grown hg (by simp)
  have hh := HH0.out.grown hg (by simp)
  clear hg HC0 HB0 HR0 HH0
  have HB1 := hidden (hb.setCell (p := ⟨w.heap.size + 2, 0, none⟩) (by simp) (.int .u64 z1))
  have HR1 := hidden (hr.set_ne (w.heap.size + 2) 0 (.int .u64 z1) (by omega))
  have HC1 := hidden (hc.set_ne (w.heap.size + 2) 0 (.int .u64 z1) (by omega))
  have HH1 := hidden (hh.set0 z1)
  (try clear k0 k1 k2 k3 k4 k5 kf)
  obtain ⟨k0, k1, k2, k3, k4, k5, kf⟩ := hh
  clear hb hr hc
  go_wp2_with (go_at_call 26; (refine (field_some p n c xs _ (w.heap.size + 1) 8 8 16 HC1.out (HY.out.below HB1.out) (by omega) (by omega) rfl 18446744073709551615 (by decide) (by decide)).mono ?_))
  rintro e w2 ⟨z2, rfl, z2a, z2b, hc, hg⟩
  have hb := HB1.out.grown hg HB1.out.size (fun k hk => by simp at hk; omega)
  have hr := HR1.out.grown hg (by simp)
  have hh := HH1.out.grown hg (by simp)
  clear hg HC1 HB1 HR1 HH1
  have HB2 := hidden (hb.setCell (p := ⟨w.heap.size + 2, 1, none⟩) (by simp) (.int .u64 z2))
  have HR2 := hidden (hr.set_ne (w.heap.size + 2) 1 (.int .u64 z2) (by omega))
  have HC2 := hidden (hc.set_ne (w.heap.size + 2) 1 (.int .u64 z2) (by omega))
  have HH2 := hidden (hh.set1 z2)
  (try clear k0 k1 k2 k3 k4 k5 kf)
  obtain ⟨k0, k1, k2, k3, k4, k5, kf⟩ := hh
  clear hb hr hc
  go_wp2_with (go_at_call 26; (refine (field_some p n c xs _ (w.heap.size + 1) 16 1 17 HC2.out (HY.out.below HB2.out) (by omega) (by omega) rfl 255 (by decide) (by decide)).mono ?_))
  rintro e w3 ⟨z3, rfl, z3a, z3b, hc, hg⟩
  have hb := HB2.out.grown hg HB2.out.size (fun k hk => by simp at hk; omega)
  have hr := HR2.out.grown hg (by simp)
  have hh := HH2.out.grown hg (by simp)
  clear hg HC2 HB2 HR2 HH2
  have HB3 := hidden (hb.setCell (p := ⟨w.heap.size + 2, 2, none⟩) (by simp) (.int .i64 z3))
  have HR3 := hidden (hr.set_ne (w.heap.size + 2) 2 (.int .i64 z3) (by omega))
  have HC3 := hidden (hc.set_ne (w.heap.size + 2) 2 (.int .i64 z3) (by omega))
  have HH3 := hidden (hh.set2 z3)
  (try clear k0 k1 k2 k3 k4 k5 kf)
  obtain ⟨k0, k1, k2, k3, k4, k5, kf⟩ := hh
  clear hb hr hc
  go_wp2_with (go_at_call 26; (refine (field_some p n c xs _ (w.heap.size + 1) 17 1 18 HC3.out (HY.out.below HB3.out) (by omega) (by omega) rfl 255 (by decide) (by decide)).mono ?_))
  rintro e w4 ⟨z4, rfl, z4a, z4b, hc, hg⟩
  have hb := HB3.out.grown hg HB3.out.size (fun k hk => by simp at hk; omega)
  have hr := HR3.out.grown hg (by simp)
  have hh := HH3.out.grown hg (by simp)
  clear hg HC3 HB3 HR3 HH3
  have HB4 := hidden hb
  have HR4 := hidden hr
  have HC4 := hidden hc
  have HH4 := hidden hh
  clear hb hr hc hh
  go_wp2_with (go_at_call 26; (refine (field_some p n c xs _ (w.heap.size + 1) 18 1 19 HC4.out (HY.out.below HB4.out) (by omega) (by omega) rfl 255 (by decide) (by decide)).mono ?_))
  rintro e w5 ⟨z5, rfl, z5a, z5b, hc, hg⟩
  have hb := HB4.out.grown hg HB4.out.size (fun k hk => by simp at hk; omega)
  have hr := HR4.out.grown hg (by simp)
  have hh := HH4.out.grown hg (by simp)
  clear hg HC4 HB4 HR4 HH4
  have HB5 := hidden (hb.setCell (p := ⟨w.heap.size + 2, 3, none⟩) (by simp) (.int .i64 z5))
  have HR5 := hidden (hr.set_ne (w.heap.size + 2) 3 (.int .i64 z5) (by omega))
  have HC5 := hidden (hc.set_ne (w.heap.size + 2) 3 (.int .i64 z5) (by omega))
  have HH5 := hidden (hh.set3 z5)
  (try clear k0 k1 k2 k3 k4 k5 kf)
  obtain ⟨k0, k1, k2, k3, k4, k5, kf⟩ := hh
  clear hb hr hc
  go_wp2_with (go_at_call 26; (refine (field_some p n c xs _ (w.heap.size + 1) 19 1 20 HC5.out (HY.out.below HB5.out) (by omega) (by omega) rfl 255 (by decide) (by decide)).mono ?_))
  rintro e w6 ⟨z6, rfl, z6a, z6b, hc, hg⟩
  have hb := HB5.out.grown hg HB5.out.size (fun k hk => by simp at hk; omega)
  have hr := HR5.out.grown hg (by simp)
  have hh := HH5.out.grown hg (by simp)
  clear hg HC5 HB5 HR5 HH5
  have HB6 := hidden (hb.setCell (p := ⟨w.heap.size + 2, 4, none⟩) (by simp) (.int .i64 (bits .and .i64 z6 56)))
  have HR6 := hidden (hr.set_ne (w.heap.size + 2) 4 (.int .i64 (bits .and .i64 z6 56)) (by omega))
  have HC6 := hidden (hc.set_ne (w.heap.size + 2) 4 (.int .i64 (bits .and .i64 z6 56)) (by omega))
  have HH6 := hidden (hh.set4 (bits .and .i64 z6 56))
  (try clear k0 k1 k2 k3 k4 k5 kf)
  obtain ⟨k0, k1, k2, k3, k4, k5, kf⟩ := hh
  clear hb hr hc
  go_wp2_with (go_at_call 26; (refine (field_some p n c xs _ (w.heap.size + 1) 20 4 24 HC6.out (HY.out.below HB6.out) (by omega) (by omega) rfl 4294967295 (by decide) (by decide)).mono ?_))
  rintro e w7 ⟨z7, rfl, z7a, z7b, hc, hg⟩
  have hb := HB6.out.grown hg HB6.out.size (fun k hk => by simp at hk; omega)
  have hr := HR6.out.grown hg (by simp)
  have hh := HH6.out.grown hg (by simp)
  clear hg HC6 HB6 HR6 HH6
  have HB7 := hidden (hb.setCell (p := ⟨w.heap.size + 2, 5, none⟩) (by simp) (.int .u32 z7))
  have HR7 := hidden (hr.set_ne (w.heap.size + 2) 5 (.int .u32 z7) (by omega))
  have HC7 := hidden (hc.set_ne (w.heap.size + 2) 5 (.int .u32 z7) (by omega))
  have HH7 := hidden (hh.set5 z7)
  (try clear k0 k1 k2 k3 k4 k5 kf)
  obtain ⟨k0, k1, k2, k3, k4, k5, kf⟩ := hh
  clear hb hr hc
  go_wp2_with (go_at_call 26; (refine (field_some p n c xs _ (w.heap.size + 1) 24 4 28 HC7.out (HY.out.below HB7.out) (by omega) (by omega) rfl 4294967295 (by decide) (by decide)).mono ?_))
  rintro e w8 ⟨z8, rfl, z8a, z8b, hc, hg⟩
  have hb := HB7.out.grown hg HB7.out.size (fun k hk => by simp at hk; omega)
  have hr := HR7.out.grown hg (by simp)
  have hh := HH7.out.grown hg (by simp)
  clear hg HC7 HB7 HR7 HH7
  have HB8 := hidden hb
  have HR8 := hidden hr
  have HC8 := hidden hc
  have HH8 := hidden hh
  clear hb hr hc hh
  clear HY HH8
  (try clear k0 k1 k2 k3 k4 k5 kf)
  obtain ⟨a, e, hcur, he⟩ := HC8.out
  obtain rfl : e = 1 := by omega
  obtain ⟨r0, r1, r2, r3, r4, r5, rf⟩ := HR8.out
  obtain ⟨u0, u1, u2, uf⟩ := hcur
  clear HC8 he
  go_wp2
  go_region
  all_goals
    go_wp2
    refine ret_hdr2 (g := w.heap.size) rfl rfl rfl rfl (HdrIn.drew (stored_hdr HR8.out)) ?_
    exact ⟨rfl, (stored_below HB8.out (Nat.le_refl _)).drew⟩

theorem numAt_bd (xs : List Int) (a d : Nat) (h : ∀ x ∈ xs, 0 ≤ x ∧ x ≤ 255) (hl : a + d ≤ xs.length) (M : Int) (hM : (256 : Int) ^ d ≤ M + 1) : 0 ≤ numAt xs a d ∧ numAt xs a d ≤ M := by
  have hb := val_bd ((xs.drop a).take d) (rng_take (rng_drop h _) _)
  rw [show ((xs.drop a).take d).length = d by simp; omega] at hb
  exact ⟨hb.1, by have := hb.2; unfold numAt; omega⟩

theorem parse_any (p : Option Addr) (n c : Nat) (xs : List Int) (w : World) (h : Byt w p n c xs) :
    Calls Try.prog 13 #[.slice p n c] w (Parsed w (parseR xs)) := by
  have hl := h.len
  by_cases hn : n < 28
  · rw [parseR, if_pos (by omega)]
    exact parse_short p n c xs w h hn
  · rw [parseR, if_neg (by omega), hl]
    exact parse_core p n c xs w h (by omega) _ _ _ _ _ _ _ _ rfl rfl rfl rfl rfl rfl rfl rfl
      (numAt_bd xs 0 8 h.rng (by omega) _ (by decide)) (numAt_bd xs 8 8 h.rng (by omega) _ (by decide)) (numAt_bd xs 16 1 h.rng (by omega) _ (by decide)) (numAt_bd xs 17 1 h.rng (by omega) _ (by decide))
      (numAt_bd xs 18 1 h.rng (by omega) _ (by decide)) (numAt_bd xs 19 1 h.rng (by omega) _ (by decide)) (numAt_bd xs 20 4 h.rng (by omega) _ (by decide)) (numAt_bd xs 24 4 h.rng (by omega) _ (by decide))
end Go.Proofs.Ytjkeijkbekdjfaa
