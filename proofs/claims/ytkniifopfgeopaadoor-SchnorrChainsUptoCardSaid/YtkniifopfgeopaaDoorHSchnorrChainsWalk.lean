/-
  The law SchnorrChains, walked: it returns true for every input of such bulk, and only adds memory of its own.
-/
import Derived.Test.YtkniifopfgeopaaDoorHSchTwo
import Derived.Test.YtkniifopfgeopaaDoorHZ8
import Derived.Test.YtkniifopfgeopaaDoorHZ5
namespace Go.Proofs.YtkniifopfgeopaaDoor
open Go.RowKit
set_option linter.unusedVariables false
set_option linter.unusedSimpArgs false

theorem sig_allC {A : Nat} {L : List Ct} (h : ∀ j, SigAt A L j) : ∀ x ∈ L, CtG x := fun x hx => by
  obtain ⟨j, hj⟩ := List.mem_iff_getElem?.1 hx
  exact (h j x hj).1
theorem lst_new {U : World} {B0 : Nat} {g0 n0 c0 g1 n1 c1 g2 n2 c2 : Nat} {L0 L1 L2 : List Ct} (h0 : ChI U B0 g0 n0 c0 L0) (h1 : ChI U B0 g1 n1 c1 L1) (h2 : ChI U B0 g2 n2 c2 L2) (T : TypeId) :
    LstAt (U.alloc (.cells #[.slice (some ⟨g0, 0, none⟩) n0 c0, .slice (some ⟨g1, 0, none⟩) n1 c1, .slice (some ⟨g2, 0, none⟩) n2 c2] T)) B0 U.heap.size := fun m hm => by
  have hal := (Below.refl U.heap.size U).alloc (Nat.le_refl _) (.cells #[.slice (some ⟨g0, 0, none⟩) n0 c0, .slice (some ⟨g1, 0, none⟩) n1 c1, .slice (some ⟨g2, 0, none⟩) n2 c2] T)
  have : m = 0 ∨ m = 1 ∨ m = 2 := by omega
  rcases this with rfl | rfl | rfl
  · exact ⟨g0, n0, c0, L0, by go_simp, h0.below hal⟩
  · exact ⟨g1, n1, c1, L1, by go_simp, h1.below hal⟩
  · exact ⟨g2, n2, c2, L2, by go_simp, h2.below hal⟩

set_option maxHeartbeats 12800000 in
set_option maxRecDepth 100000 in
theorem schnorrChains_walk (p0 : Option Addr) (n0 c0 : Nat) (xs0 : List Int) (z1 : Int) (p2 : Option Addr) (n2 c2 : Nat) (xs2 : List Int) (w : World) (h0 : Byt w p0 n0 c0 xs0) (r0 : c0 ≤ 1048576) (g1 : -9223372036854775808 ≤ z1 ∧ z1 ≤ 9223372036854775807) (h2 : Byt w p2 n2 c2 xs2) (r2 : c2 ≤ 1048576) (hK : KAt w) :
    Calls Tryd.prog 3 #[.slice p0 n0 c0, .int .i64 z1, .slice p2 n2 c2] w fun e w' => e = .returned (.bool true) ∧ Below w.heap.size w w' := by
  have HA := hidden (awake15_any w hK)
  have H0 := hidden h0
  have hcap2 := h2.cap
  have HR := hidden (fun W (hW : Below w.heap.size w W) => h2.below hW)
  have HK := hidden (fun W (hW : Below w.heap.size w W) => hK.below hW hK.lt)
  clear h0 h2 hK
  go_enter Tryd.func3, Tryd.ntmps3
  go_upto_region 4 with (first
    | (go_at_call 4; (with_reducible refine (HA.out).mono ?_); rintro e w1 ⟨rfl, hb⟩; have HB1 := hidden hb; clear hb)
    | (go_at_call 5; (refine (new_any w p0 n0 c0 xs0 w1 H0.out HB1.out 160 (by omega)).mono ?_); rintro e w2 ⟨rfl, hcod, hbel⟩; have HC := hidden hcod; have HB2 := hidden (HB1.out.trans (hbel.mono HB1.out.size)); clear hcod hbel)
    | fail)
  have hk := HC.out.lt
  have hkb := HC.out.base
  have hBw := HB2.out.size
  generalize w1.heap.size = k at *
  have HDR := hidden (draw_any w w2 k HC.out)
  obtain ⟨B0, hB0⟩ : ∃ B0, w2.heap.size = B0 := ⟨_, rfl⟩
  rw [hB0] at hk hBw
  go_upto_region 5 with (first
    | (go_at_call 6; (with_reducible refine (HDR.out).mono ?_); rintro e w3 ⟨sa, n, g, L, rfl, ha1, ha2, hn1, hn3, hln, hgg, hrow, hbod, hsig, hc3, hg3⟩; have HB3 := hidden (HB2.out.grown hg3 HB2.out.size (fun j e => by cases e; exact hkb)); rw [hB0] at hgg hbod; have HI3 := hidden (ChI.drawn hrow hln hn1 (by omega) hgg hbod (sig_allC hsig)); have HGL := hidden (fun x hx => (sig_allC hsig x hx).gl : ∀ x ∈ L, x.g.length = 16); have HC3 := hidden hc3; have HZ3 := hidden hg3.size; have HA1 := hidden ha1; have HA2 := hidden ha2; clear hrow hbod hsig hc3 hg3 hgg ha1 ha2 hln hn1 hn3 HDR)
    | fail)
  have hsl : sa < 18446744073709551616 := Nat.lt_trans HA2.out gq_big
  have hE : pubE sa = 0 := by unfold pubE; rw [if_pos (gsec_yes sa ⟨HA1.out, HA2.out⟩)]
  have HPU := hidden (fun W => rpub_any sa hsl W)
  rw [hE] at HPU
  have hyl : pubV sa < 18446744073709551616 := Nat.lt_trans (pubV_lt sa) gp_big
  have HYL := hidden hyl
  generalize pubV sa = y at *
  clear hE hyl hsl
  have hB3 : B0 ≤ w3.heap.size := by rw [← hB0]; exact HZ3.out
  clear hB0
  have HMD := hidden (fun W => mod_any z1 90 W g1 (by omega))
  obtain ⟨now, hnow⟩ : ∃ t, z1 % 90 = t := ⟨_, rfl⟩
  have hnw : 0 ≤ now ∧ now < 90 := by omega
  rw [hnow] at HMD
  clear hnow
  go_upto_region 7 with (first
    | (go_at_call 7; (with_reducible refine (HPU.out _).mono ?_); rintro e w4 ⟨rfl, hb⟩; have HB4 := hidden (HB3.out.trans (hb.mono HB3.out.size)); have HC4 := hidden (HC3.out.below hb); have HI4 := hidden (HI3.out.below hb); have hB4 := Nat.le_trans hB3 hb.size; clear hb HPU HI3 HC3)
    | (go_at_call 8; (with_reducible refine (HMD.out _).mono ?_); rintro e w5 ⟨rfl, rfl⟩)
    | fail)
  have HLN := hidden (fun x hx => (by have h9 := (HI4.out.bod x hx).byt.len; rw [HGL.out x hx] at h9; omega) : ∀ x ∈ L, x.n ≤ 16)
  have HP1 := hidden (spoil_any w w4 k B0 16 HC4.out hk hB4 hBw (some ⟨g, 0, none⟩) n n L HI4.out.src HI4.out.n1 HI4.out.n7 HI4.out.bod HI4.out.val HLN.out (by omega))
  go_upto_region 8 with (first
    | (go_at_call 9; (with_reducible refine (HP1.out).mono ?_); rintro e w5 ⟨ga, na, ca, La, rfl, hna1, hna7, hIa⟩; have HIA := hidden (ChI.of hIa hna1 hna7 hB4 (by omega)); have HI5 := hidden (HI4.out.grown hk hIa.gr); have HB5 := hidden (HB4.out.grown hIa.gr HB4.out.size (fun j e => by cases e; exact hkb)); have hB5 := Nat.le_trans hB4 hIa.gr.size; have HP2 := hidden (spoil_any w w5 k B0 16 hIa.cod hk hB5 hBw (some ⟨g, 0, none⟩) n n L HI5.out.src HI5.out.n1 HI5.out.n7 HI5.out.bod HI5.out.val HLN.out (by omega)); clear hIa HP1 HI4 hna1 hna7)
    | (go_at_call 9; (with_reducible refine (HP2.out).mono ?_); rintro e w6 ⟨gb, nb, cb, Lb, rfl, hnb1, hnb7, hIb⟩; have HIA6 := hidden (HIA.out.grown hk hIb.gr); have HI6 := hidden (HI5.out.grown hk hIb.gr); have HB6 := hidden (HB5.out.grown hIb.gr HB5.out.size (fun j e => by cases e; exact hkb)); have hB6 := Nat.le_trans hB5 hIb.gr.size; have HP3 := hidden (spoil_any w w6 k B0 17 hIb.cod hk hB6 hBw (some ⟨gb, 0, none⟩) nb cb Lb hIb.row.src hnb1 hnb7 hIb.bod hIb.val hIb.ln (by omega)); clear hIb HP2 HI5 HIA hnb1 hnb7)
    | (go_at_call 9; (with_reducible refine (HP3.out).mono ?_); rintro e w7 ⟨gc, nc, cc, Lc, rfl, hnc1, hnc7, hIc⟩; have HIA7 := hidden (HIA6.out.grown hk hIc.gr); have HI7 := hidden (HI6.out.grown hk hIc.gr); have HIC := hidden (ChI.of hIc hnc1 hnc7 hB6 (by omega)); have HB7 := hidden (HB6.out.grown hIc.gr HB6.out.size (fun j e => by cases e; exact hkb)); have hB7 := Nat.le_trans hB6 hIc.gr.size; have HC7 := hidden hIc.cod; clear hIc HP3 HI6 HIA6 hnc1 hnc7)
    | fail)
  have HLS := hidden (lst_new HI7.out HIA7.out HIC.out 27)
  have hal8 := (Below.refl w7.heap.size w7).alloc (Nat.le_refl _) (.cells #[.slice (some ⟨g, 0, none⟩) n n, .slice (some ⟨ga, 0, none⟩) na ca, .slice (some ⟨gc, 0, none⟩) nc cc] 27)
  have HC8 := hidden (HC7.out.below hal8)
  have HB8 := hidden (HB7.out.trans (hal8.mono HB7.out.size))
  have hB8 := Nat.le_trans hB7 hal8.size
  generalize World.alloc w7 _ = w8 at *
  generalize w7.heap.size = B1 at *
  clear hal8 HI7 HIA7 HIC HC7 HB7 HLN HGL HB6 HB5 HB4 HC4 HB3 HB2 HB1 HC HA H0 HMD HZ3 hB4 hB5 hB6 hB3
  go_loopw [66] (fun i wr => ∃ m : Nat, m ≤ 3 ∧ i = .int .i64 (m : Int) ∧ Cod w wr k ∧ LstAt wr B0 B1 ∧ B0 ≤ wr.heap.size ∧ Below w.heap.size w wr) (fun i _ => 3 - (intOf i).toNat)
  case atStart => exact ⟨0, by omega, rfl, HC8.out, HLS.out, hB8, HB8.out⟩
  case round =>
    clear HC8 HLS HB8 hB8
    obtain ⟨m, hm, rfl, hcod, hlst, hB, hb⟩ := hrel
    have HC := hidden hcod
    have HLS := hidden hlst
    have HB := hidden hb
    clear hcod hb
    by_cases hm3 : m < 3
    rotate_left
    · obtain rfl : m = 3 := by omega
      clear HLS HC hlst
      go_wp2
      go_ret
      exact ⟨rfl, HB.out⟩
    obtain ⟨gx, nx, cx, Lx, hcell, hI⟩ := hlst m hm3
    have HI := hidden hI
    have hlx := hI.len
    have hn1 := hI.n1
    have hn7 := hI.n7
    have hat0 := rd_at hI.rd 0 (by omega)
    have hx := hI.val (Lx.getD 0 zc) (by rw [List.getD_eq_getElem?_getD, List.getElem?_eq_getElem (show 0 < Lx.length by omega)]; exact List.getElem_mem _)
    have hk1 := hat0.c1
    rw [Nat.zero_mul, Nat.zero_add] at hk1
    have hkl := hx.kl
    have hkg : k < gx := by have := (hI.row.lt gx rfl).1; omega
    have hB1 : B0 ≤ B1 := by omega
    have hmI : (m : Int) < 3 := by omega
    have hmI0 : (0 : Int) ≤ (m : Int) := by omega
    have hnI : (0 : Int) < (nx : Int) := by omega
    obtain ⟨k0, hk0⟩ : ∃ q, (Lx.getD 0 zc).k = q := ⟨_, rfl⟩
    rw [hk0] at hk1 hkl
    have HK1 := hidden hk1
    clear hlst hI hat0 hx hk0 hk1
    go_upto_region 10 with fail
    clear hcell
    have HBD : Hid (Below wr.heap.size wr wr.drew) := hidden (drew_below ⟨1, rfl⟩)
    refine region_C 6 (fun w' => w'.cell? ⟨gx, 1, none⟩ = some (.int .u64 (k0 : Int))) (fun _ => True) (by kernel_rfl) (cell_below HBD.out _ _ HK1.out) trivial (fun hS0 _ => ?_)
    refine anyC_take (i := 0) (v := .int .u64 (y : Int)) rfl rfl (by decide) (by kernel_rfl) (by kernel_rfl) (by kernel_rfl) (fun _ _ _ h => h) (Or.inl ⟨by rfl, fun w0 _ => by kernel_rfl⟩) hS0 (fun _ => trivial) ?_
    refine anyC_take (i := 1) (v := .slice (some ⟨gx, 0, none⟩) nx cx) rfl rfl (by decide) (by kernel_rfl) (by kernel_rfl) (by kernel_rfl) (fun _ _ _ h => h) (Or.inl ⟨by rfl, fun w0 _ => by kernel_rfl⟩) hS0 (fun _ => trivial) ?_
    refine anyC_take (i := 5) (v := .pointer (some ⟨k, 0, none⟩)) rfl rfl (by decide) (by kernel_rfl) (by kernel_rfl) (by kernel_rfl) (fun _ _ _ h => h) (Or.inl ⟨by rfl, fun w0 _ => by kernel_rfl⟩) hS0 (fun _ => trivial) ?_
    refine anyC_take (i := 9) (v := .int .i64 0) rfl rfl (by decide) (by kernel_rfl) (by kernel_rfl) (by kernel_rfl) (fun _ _ _ h => h) (Or.inl ⟨by rfl, fun w0 _ => by kernel_rfl⟩) hS0 (fun _ => trivial) ?_
    (try simp only [Act.put, List.getElem_toArray, List.getElem_cons_zero, List.getElem_cons_succ, List.setIfInBounds_toArray, List.set_cons_zero, List.set_cons_succ])
    refine anyC_take (i := 2) (v := .pointer (some ⟨gx, 0, none⟩)) rfl rfl (by decide) (by kernel_rfl) (by kernel_rfl) (by kernel_rfl) (fun _ _ _ h => h) (Or.inl ⟨by rfl, fun w0 h9 => by go_simp; (try with_reducible rfl); (try (intro h8; exact absurd h8 (by omega)))⟩) hS0 (fun _ => trivial) ?_
    (try simp only [Act.put, List.getElem_toArray, List.getElem_cons_zero, List.getElem_cons_succ, List.setIfInBounds_toArray, List.set_cons_zero, List.set_cons_succ])
    refine anyC_take (i := 3) (v := .pointer (some ⟨gx, 1, none⟩)) rfl rfl (by decide) (by kernel_rfl) (by kernel_rfl) (by kernel_rfl) (fun _ _ _ h => h) (Or.inl ⟨by rfl, fun w0 h9 => by go_simp; (try with_reducible rfl); (try (intro h8; exact absurd h8 (by omega)))⟩) hS0 (fun _ => trivial) ?_
    (try simp only [Act.put, List.getElem_toArray, List.getElem_cons_zero, List.getElem_cons_succ, List.setIfInBounds_toArray, List.set_cons_zero, List.set_cons_succ])
    refine anyC_take (i := 4) (v := .int .u64 (k0 : Int)) rfl rfl (by decide) (by kernel_rfl) (by kernel_rfl) (by kernel_rfl) (fun _ _ _ h => h) (Or.inl ⟨by rfl, fun w0 h9 => by go_simp; (try with_reducible rfl); (try (intro h8; exact absurd h8 (by omega)))⟩) hS0 (fun _ => trivial) ?_
    (try simp only [Act.put, List.getElem_toArray, List.getElem_cons_zero, List.getElem_cons_succ, List.setIfInBounds_toArray, List.set_cons_zero, List.set_cons_succ])
    clear hS0
    have HCD := hidden (HC.out.below HBD.out)
    have HLD := hidden (HLS.out.below HBD.out)
    have HID := hidden (HI.out.below HBD.out)
    have HKD := hidden (cell_below HBD.out _ _ HK1.out)
    have HB9 := hidden (HB.out.trans (HBD.out.mono HB.out.size))
    have hBD := Nat.le_trans hB HBD.out.size
    obtain ⟨V0, hV0⟩ : ∃ V, V = wr.drew := ⟨_, rfl⟩
    rw [← hV0] at HBD HCD HLD HID HKD HB9 hBD ⊢
    clear hV0 HC HLS HI HK1 HB hB HBD
    refine anyC_one (i := 6) (by kernel_rfl) rfl (fun K' hK => ?_)
    refine fl_call rfl (f := 10) (args := #[.pointer (some ⟨k, 0, none⟩)]) (R := fun v w' => ∃ r : Int, v = .int .u64 r ∧ 0 ≤ r ∧ r ≤ 18446744073709551615 ∧ Cod w w' k ∧ V0.grownBy w' (some k)) (by kernel_rfl) ((word_any w V0 k HCD.out).mono (by rintro e w' ⟨r, rfl, q1, q2, q3, q4⟩; exact ⟨_, rfl, r, rfl, q1, q2, q3, q4⟩)) ?_
    rintro v w5 ⟨r, rfl, hr0, hr1, hc5, hg5⟩
    obtain ⟨z, rfl⟩ := Int.eq_ofNat_of_zero_le hr0
    have HC5 := hidden hc5
    have HL5 := hidden (HLD.out.grown hk hB1 hg5)
    have HI5 := hidden (HID.out.grown hk hg5)
    have HK5 := hidden (hg5.cell HKD.out (by simp; omega))
    have HB5 := hidden (HB9.out.grown hg5 HB9.out.size (fun j e => by cases e; exact hkb))
    have hB5 := Nat.le_trans hBD hg5.size
    refine hK.out _ _ HK5.out (fun _ => trivial) ?_
    clear hK K' hc5 hg5 HCD HLD HID HKD HB9 hBD
    (try simp only [Act.put, List.getElem_toArray, List.getElem_cons_zero, List.getElem_cons_succ, List.setIfInBounds_toArray, List.set_cons_zero, List.set_cons_succ])
    refine anyC_one (i := 7) (by kernel_rfl) rfl (fun K' hK => ?_)
    refine fl_exec rfl (v := .slice (some ⟨w5.heap.size, 0, none⟩) 3 3) (w' := w5.alloc (.cells #[.int .u64 (y : Int), .int .u64 (k0 : Int), .int .u64 (z : Int)] 26)) (by kernel_rfl) (hK.out _ _ (cell_below ((Below.refl w5.heap.size w5).alloc (Nat.le_refl _) _) _ _ HK5.out) (fun _ => trivial) ?_)
    clear hK K'
    (try simp only [Act.put, List.getElem_toArray, List.getElem_cons_zero, List.getElem_cons_succ, List.setIfInBounds_toArray, List.set_cons_zero, List.set_cons_succ])
    have hal := (Below.refl w5.heap.size w5).alloc (Nat.le_refl _) (.cells #[.int .u64 (y : Int), .int .u64 (k0 : Int), .int .u64 (z : Int)] 26)
    have HC6 := hidden (HC5.out.below hal)
    have HL6 := hidden (HL5.out.below hal)
    have HI6 := hidden (HI5.out.below hal)
    have HK6 := hidden (cell_below hal _ _ HK5.out)
    have HB6 := hidden (HB5.out.trans (hal.mono HB5.out.size))
    have hB6 := Nat.le_trans hB5 hal.size
    have HKE : Hid (∀ q, q < 3 → ∃ key : Nat, key < 18446744073709551616 ∧ (w5.alloc (.cells #[.int .u64 (y : Int), .int .u64 (k0 : Int), .int .u64 (z : Int)] 26)).cell? ⟨w5.heap.size, q, none⟩ = some (.int .u64 (key : Int))) := hidden (fun q hq => by
      have : q = 0 ∨ q = 1 ∨ q = 2 := by omega
      rcases this with rfl | rfl | rfl
      · exact ⟨y, HYL.out, by go_simp⟩
      · exact ⟨k0, hkl, by go_simp⟩
      · exact ⟨z, by omega, by go_simp⟩)
    generalize World.alloc w5 _ = w6 at *
    generalize w5.heap.size = B2 at *
    have hS6 := HK6.out
    refine anyC_take (i := 8) (v := .int .i64 3) rfl rfl (by decide) (by kernel_rfl) (by kernel_rfl) (by kernel_rfl) (fun _ _ _ h => h) (Or.inl ⟨by rfl, fun w0 _ => by kernel_rfl⟩) hS6 (fun _ => trivial) ?_
    (try simp only [Act.put, List.getElem_toArray, List.getElem_cons_zero, List.getElem_cons_succ, List.setIfInBounds_toArray, List.set_cons_zero, List.set_cons_succ])
    refine anyC_done (by kernel_rfl) ?_ _
    clear hal HC5 HL5 HI5 HK5 HB5 hB5 HK6 hS6
    go_wp2
    go_loopw [79] (fun i wr => ∃ q : Nat, q ≤ 3 ∧ i = .int .i64 (q : Int) ∧ Below w6.heap.size w6 wr) (fun i _ => 3 - (intOf i).toNat)
    case atStart => exact ⟨0, by omega, rfl, Below.refl _ _⟩
    case round =>
      obtain ⟨q, hq, rfl, hbq⟩ := hrel
      have HBQ := hidden hbq
      by_cases hq3 : q < 3
      · obtain ⟨key, hkey, hkc⟩ := HKE.out q hq3
        have hkc2 := cell_below hbq _ _ hkc
        obtain ⟨s9, k9, F9, hch⟩ := chG_vals (cF Lx now key) (Lx.getD 0 zc).s (Lx.getD 0 zc).k
        have HCH := hidden (fun W (hW : Below w6.heap.size w6 W) => (chain_all Lx gx nx cx hn1 HI6.out.val now key hkey W (HI6.out.rd.below hW) (HK.out W (HB6.out.trans (hW.mono HB6.out.size)))).mono (fun e w' h9 => hch W e w' h9))
        have HRC := hidden (fun W (hW : Below w6.heap.size w6 W) => (rchain_all Lx gx nx cx hn1 HI6.out.val now key hkey W (HI6.out.rd.below hW)).mono (fun e w' h9 => hch W e w' h9))
        have hqI : (q : Int) < 3 := by omega
        have hqI0 : (0 : Int) ≤ (q : Int) := by omega
        clear hkc hch hbq HKE HC6 HL6 HI6 HB6 HK HR HYL
        go_wp2_with (first
          | (go_at_call 11; (with_reducible refine (HCH.out _ HBQ.out).mono ?_); rintro e w7 ⟨rfl, hb7⟩; have HB7 := hidden (HBQ.out.trans (hb7.mono HBQ.out.size)); clear hb7)
          | (go_at_call 12; (with_reducible refine (HRC.out _ HB7.out).mono ?_); rintro e w8 ⟨rfl, hb8⟩; have HB8 := hidden (HB7.out.trans (hb8.mono HB7.out.size)); clear hb8)
          | fail)
        go_roundw
        case rel => exact ⟨q + 1, by omega, by go_num, HB8.out⟩
        case measure => simp [intOf] <;> omega
      obtain rfl : q = 3 := by omega
      have HCQ := hidden (HC6.out.below hbq)
      have HLQ := hidden (HL6.out.below hbq)
      have HIQ := hidden (HI6.out.below hbq)
      have HBW := hidden (HB6.out.trans (hbq.mono HB6.out.size))
      have hBQ := Nat.le_trans hB6 hbq.size
      clear HKE HC6 HL6 HI6 HB6 hB6 hbq HBQ hq hq3
      have HEN := hidden (fun W (hW : Below wr.heap.size wr W) => enc_all Lx gx nx cx HIQ.out.val W (HIQ.out.rd.below hW))
      have HRE := hidden (fun W (hW : Below wr.heap.size wr W) => renc_allB Lx gx nx cx HIQ.out.val W (HIQ.out.rd.below hW))
      have hwl := eF_len Lx HIQ.out.val
      unfold EncG at HEN
      unfold EncB at HRE
      obtain ⟨WL, hWL⟩ : ∃ X, (if eF Lx = 0 then encL Lx else []) = X := ⟨_, rfl⟩
      rw [hWL] at HEN HRE hwl
      generalize eF Lx = F9 at *
      clear hWL
      go_upto_region 20 with (first
        | (go_at_call 13; (with_reducible refine (HEN.out _ (Below.refl _ _)).mono ?_); rintro e w7 ⟨pu, nu, cu, rfl, hyu, hb7⟩; have HB7 := hidden hb7; have HYU := hidden hyu; clear hb7 hyu HEN)
        | (go_at_call 14; (with_reducible refine (HRE.out _ HB7.out).mono ?_); rintro e w8 ⟨pw, nw, cw, rfl, hyw, hb8⟩; have HB8 := hidden (HB7.out.trans (hb8.mono HB7.out.size)); have HYU8 := hidden (HYU.out.below hb8); have HYW := hidden (hyw.mono (show B0 ≤ w7.heap.size from Nat.le_trans hBQ HB7.out.size)); clear hb8 hyw HRE HYU HB7)
        | fail)
      have HEQ := hidden (requal_any pu pw nu cu nw cw WL WL w8 HYU8.out HYW.out.byt)
      rw [decide_eq_true (rfl : WL = WL)] at HEQ
      go_upto_region 22 with (first
        | (go_at_call 15; (with_reducible refine (HEQ.out).mono ?_); rintro e w9 ⟨rfl, r9, rfl⟩)
        | fail)
      have HDW : Hid (Below w8.heap.size w8 (w8.drewN r9)) := hidden (drew_below ⟨r9, rfl⟩)
      have HY9 := hidden (HYW.out.below HDW.out)
      have HB9 := hidden (HB8.out.trans (HDW.out.mono HB8.out.size))
      have HC9 := hidden (HCQ.out.below HB9.out)
      have HL9 := hidden (HLQ.out.below HB9.out)
      have HI9 := hidden (HIQ.out.below HB9.out)
      have HW9 := hidden (HBW.out.trans (HB9.out.mono HBW.out.size))
      have hB9 := Nat.le_trans hBQ HB9.out.size
      generalize w8.drewN r9 = w9 at *
      have hnw := HY9.out.byt.len
      have HCG := hidden (change_bod w w9 k HC9.out pw nw cw WL HY9.out.byt (by omega))
      clear HEQ HYU8 HYW HDW HB8 HB9 HCQ HLQ HIQ HBW hBQ
      go_upto_region 23 with (first
        | (go_at_call 16; (with_reducible refine (HCG.out).mono ?_); rintro e wa ⟨pc, ng, cg, ys, rfl, hbg, hng, hca, hga⟩; have HBG := hidden hbg.byt; have HYA := hidden (HY9.out.grown hga (OffB.low hk)); have HNG := hidden hng; have HCA := hidden hca; have HLA := hidden (HL9.out.grown hk hB1 hga); have HIA := hidden (HI9.out.grown hk hga); have HWA := hidden (HW9.out.grown hga HW9.out.size (fun j e => by cases e; exact hkb)); have hBA := Nat.le_trans hB9 hga.size; clear hbg hca hga HCG HY9 HC9 HL9 HI9 HW9)
        | fail)
      have hng2 := HNG.out
      have halz := (Below.refl wa.heap.size wa).alloc (Nat.le_refl _) (.cells #[.slice p2 n2 c2, .slice pw nw cw, .slice pc ng cg] 22)
      have HZL : Hid (∀ q, q < 3 → ∃ p n c xs, (wa.alloc (.cells #[.slice p2 n2 c2, .slice pw nw cw, .slice pc ng cg] 22)).cell? ⟨wa.heap.size, q, none⟩ = some (.slice p n c) ∧ Byt (wa.alloc (.cells #[.slice p2 n2 c2, .slice pw nw cw, .slice pc ng cg] 22)) p n c xs ∧ n ≤ 4000000) := hidden (fun q hq => by
        have : q = 0 ∨ q = 1 ∨ q = 2 := by omega
        rcases this with rfl | rfl | rfl
        · exact ⟨p2, n2, c2, xs2, by go_simp, (HR.out wa HWA.out).below halz, by omega⟩
        · exact ⟨pw, nw, cw, WL, by go_simp, HYA.out.byt.below halz, by omega⟩
        · exact ⟨pc, ng, cg, ys, by go_simp, HBG.out.below halz, by omega⟩)
      have HCB := hidden (HCA.out.below halz)
      have HLB := hidden (HLA.out.below halz)
      have HIB := hidden (HIA.out.below halz)
      have HWB := hidden (HWA.out.trans (halz.mono HWA.out.size))
      have hBB := Nat.le_trans hBA halz.size
      generalize World.alloc wa _ = wb at *
      generalize wa.heap.size = B3 at *
      clear halz HCA HLA HIA HWA hBA HYA HBG HNG hng2 hnw hwl
      go_wp2
      go_loopw [139] (fun i wr => ∃ q : Nat, q ≤ 3 ∧ i = .int .i64 (q : Int) ∧ Below wb.heap.size wb wr) (fun i _ => 3 - (intOf i).toNat)
      case atStart => exact ⟨0, by omega, rfl, Below.refl _ _⟩
      case round =>
        obtain ⟨q, hq, rfl, hbq⟩ := hrel
        have HBQ := hidden hbq
        by_cases hq3 : q < 3
        · obtain ⟨pz, nz, cz, xz, hzc, hzy, hzn⟩ := HZL.out q hq3
          have hzc2 := cell_below hbq _ _ hzc
          obtain ⟨Lz, E9, hlz, hdv⟩ := dec_both (decL xz.length xz)
          have HDE := hidden (fun W (hW : Below wb.heap.size wb W) => (dec_any xz pz nz cz W hzn (hzy.below hW)).mono (fun e w' h9 => hdv W e w' h9))
          have HRD := hidden (fun W (hW : Below wb.heap.size wb W) => (rdec_any xz pz nz cz W hzn (hzy.below hW)).mono (fun e w' h9 => hdv W e w' h9))
          unfold DecV at HDE HRD
          have hqI : (q : Int) < 3 := by omega
          have hqI0 : (0 : Int) ≤ (q : Int) := by omega
          clear hzc hzy hzn hdv hbq HZL HCB HLB HIB HWB HK HR HYL HA1 HA2
          go_upto_region 27 with (first
            | (go_at_call 17; (with_reducible refine (HDE.out _ HBQ.out).mono ?_); rintro e w7 ⟨pd, cd, ld, rfl, hrd7, hz7, hb7⟩; have HB7 := hidden (HBQ.out.trans (hb7.mono HBQ.out.size)); have HR7 := hidden hrd7; have HZ7 := hidden hz7; clear hb7 hrd7 hz7 HDE)
            | (go_at_call 18; (with_reducible refine (HRD.out _ HB7.out).mono ?_); rintro e w8 ⟨pe, ce, le, rfl, hrd8, hz8, hb8⟩; have HB8 := hidden (HB7.out.trans (hb8.mono HB7.out.size)); have HR78 := hidden (HR7.out.below hb8); have HR8 := hidden hrd8; have HZ8 := hidden (HZ7.out.trans hz8.symm); clear hb8 hrd8 hz8 HRD HR7 HZ7 HB7)
            | fail)
          have HSA := hidden (rsameall_yes pd pe Lz.length cd ce ld le w8 HR78.out HR8.out HZ8.out hlz)
          clear HR78 HR8 HZ8
          go_wp2_with (first
            | (go_at_call 19; (with_reducible refine (HSA.out).mono ?_); rintro e w9 ⟨rfl, hb9⟩; have HB9 := hidden (HB8.out.trans (hb9.mono HB8.out.size)); clear hb9 HSA)
            | fail)
          go_roundw
          case rel => exact ⟨q + 1, by omega, by go_num, HB9.out⟩
          case measure => simp [intOf] <;> omega
        obtain rfl : q = 3 := by omega
        have HCQ := hidden (HCB.out.below hbq)
        have HLQ := hidden (HLB.out.below hbq)
        have HIQ := hidden (HIB.out.below hbq)
        have HBW := hidden (HWB.out.trans (hbq.mono HWB.out.size))
        have hBQ := Nat.le_trans hBB hbq.size
        have hx0 : Lx.getD 0 zc ∈ Lx := by rw [List.getD_eq_getElem?_getD, List.getElem?_eq_getElem (show 0 < Lx.length by omega)]; exact List.getElem_mem _
        have HV := hidden (HIQ.out.val _ hx0)
        have HCT := hidden (fun W (hW : Below wr.heap.size wr W) => rd_at (HIQ.out.rd.below hW) 0 (by omega))
        obtain ⟨sI, kI, fI, tI, aI, gI, EI, hi1, hi2⟩ := iss_both _ HV.out sa HA1.out HA2.out
        have HI1 := hidden (fun W (hW : Below wr.heap.size wr W) => hi1 W (HK.out W (HBW.out.trans (hW.mono HBW.out.size))))
        have HI2 := hidden hi2
        have HO1 := hidden (fun W => bodyS_any _ HV.out W)
        have HO2 := hidden (fun W => rbodyS_any _ HV.out W)
        unfold IssV at HI1 HI2
        unfold BdG at HO1 HO2
        obtain ⟨BL, hBL⟩ : ∃ X, (if bodyE (Lx.getD 0 zc) = 0 then bdL (Lx.getD 0 zc) else []) = X := ⟨_, rfl⟩
        rw [hBL] at HO1 HO2
        generalize bodyE (Lx.getD 0 zc) = EB at *
        generalize Lx.getD 0 zc = x0 at *
        obtain ⟨s, k1, f, t, a, q0, m0, d0, gg⟩ := x0
        clear hBL hx0 HV hi1 hi2 HZL HCB HLB HIB HWB hBB hbq HBQ hq hq3 HIQ
        obtain ⟨e0, e1, e2, e3, e4, e5⟩ := HCT.out wr (Below.refl _ _)
        simp only [Nat.zero_mul, Nat.zero_add] at e0 e1 e2 e3 e4 e5
        go_upto_region 31 with (first
          | (go_at_call 20; (with_reducible refine (HI1.out _ (Below.refl _ _)).mono ?_); rintro e w7 ⟨pi, ni, ci, rfl, hyi, hb7⟩; have HYI := hidden hyi; have HB7 := hidden hb7; clear hyi hb7 HI1)
          | fail)
        have hal7 := (Below.refl w7.heap.size w7).alloc (Nat.le_refl _) (.cells #[.string sI, .int .u64 (kI : Int), .int .i64 fI, .int .i64 tI, .bool aI, .slice pi ni ci] 37)
        have HT7 := hidden (CtAt.new w7 ⟨sI, kI, fI, tI, aI, pi, ni, ci, gI⟩ 37)
        have HYJ := hidden (HYI.out.below hal7)
        have HB8 := hidden (HB7.out.trans (hal7.mono HB7.out.size))
        generalize World.alloc w7 _ = w8 at *
        generalize w7.heap.size = A7 at *
        clear hal7 HYI HB7 e0 e1 e2 e3 e4 e5
        obtain ⟨e0, e1, e2, e3, e4, e5⟩ := HCT.out w8 HB8.out
        simp only [Nat.zero_mul, Nat.zero_add] at e0 e1 e2 e3 e4 e5
        go_upto_region 32 with (first
          | (go_at_call 21; (with_reducible refine (HI2.out _).mono ?_); rintro e w9 ⟨pj, nj, cj, rfl, hyj, hb9⟩; have HYK := hidden hyj; have HYJ9 := hidden (HYJ.out.below hb9); have HT9 := hidden (HT7.out.below hb9); have HB9 := hidden (HB8.out.trans (hb9.mono HB8.out.size)); clear hyj hb9 HI2 HYJ HT7 HB8)
          | fail)
        have hal9 := (Below.refl w9.heap.size w9).alloc (Nat.le_refl _) (.cells #[.string sI, .int .u64 (kI : Int), .int .i64 fI, .int .i64 tI, .bool aI, .slice pj nj cj] 37)
        have HU10 := hidden (CtAt.new w9 ⟨sI, kI, fI, tI, aI, pj, nj, cj, gI⟩ 37)
        have HT10 := hidden (HT9.out.below hal9)
        have HYI10 := hidden (HYJ9.out.below hal9)
        have HYK10 := hidden (HYK.out.below hal9)
        have HB10 := hidden (HB9.out.trans (hal9.mono HB9.out.size))
        generalize World.alloc w9 _ = w10 at *
        generalize w9.heap.size = A9 at *
        clear hal9 HYJ9 HYK HT9 HB9 e0 e1 e2 e3 e4 e5
        obtain ⟨e0, e1, e2, e3, e4, e5⟩ := HCT.out w10 HB10.out
        simp only [Nat.zero_mul, Nat.zero_add] at e0 e1 e2 e3 e4 e5
        go_upto_region 33 with (first
          | (go_at_call 22; (with_reducible refine (HO1.out _).mono ?_); rintro e w11 ⟨pb, nb, cb, rfl, hyb, hb11⟩; have HYB := hidden hyb; have HBX := hidden hb11; have HB11 := hidden (HB10.out.trans (hb11.mono HB10.out.size)); clear hyb hb11 HO1)
          | fail)
        clear e0 e1 e2 e3 e4 e5
        obtain ⟨e0, e1, e2, e3, e4, e5⟩ := HCT.out w11 HB11.out
        simp only [Nat.zero_mul, Nat.zero_add] at e0 e1 e2 e3 e4 e5
        go_upto_region 34 with (first
          | (go_at_call 23; (with_reducible refine (HO2.out _).mono ?_); rintro e w12 ⟨pd, nd, cd, rfl, hyd, hb12⟩; have HYD := hidden hyd; have HBY := hidden hb12; have HB12 := hidden (HB11.out.trans (hb12.mono HB11.out.size)); clear hyd hb12 HO2)
          | fail)
        clear e0 e1 e2 e3 e4 e5
        have HYB12 := hidden (HYB.out.below HBY.out)
        obtain ⟨c0, c1, c2, c3, c4, c5⟩ := (HT10.out.below HBX.out).below HBY.out
        obtain ⟨d0, d1, d2, d3, d4, d5⟩ := (HU10.out.below HBX.out).below HBY.out
        simp only [Nat.zero_add] at c1 c2 c3 c4 c5 d1 d2 d3 d4 d5
        have HSM := hidden (rsame_yes sI kI fI tI aI pi pj ni ci nj cj gI w12 ((HYI10.out.below HBX.out).below HBY.out) ((HYK10.out.below HBX.out).below HBY.out))
        have HEQ := hidden (fun W (hW : Below w12.heap.size w12 W) => (by
          have h8 := requal_any pb pd nb cb nd cd BL BL W (HYB12.out.below hW) (HYD.out.below hW)
          rw [decide_eq_true (rfl : BL = BL)] at h8
          exact h8 : Calls Tryd.prog 15 #[.slice pb nb cb, .slice pd nd cd] W fun e w' => e = .returned (.bool true) ∧ ∃ r, w' = W.drewN r))
        clear HYB HYI10 HYK10 HT10 HU10 HYB12 HYD HBX HBY HB10 HB11 HCT
        go_upto_region 36 with (first
          | (go_at_call 24; (with_reducible refine (HSM.out).mono ?_); rintro e w13 ⟨rfl, hb13⟩; have HBZ := hidden hb13; have HB13 := hidden (HB12.out.trans (hb13.mono HB12.out.size)); clear hb13 HSM)
          | (go_at_call 15; (with_reducible refine (HEQ.out _ HBZ.out).mono ?_); rintro e w14 ⟨rfl, r14, rfl⟩; have HB14 := hidden (HB13.out.trans ((drew_below ⟨r14, rfl⟩ : Below w13.heap.size w13 (w13.drewN r14)).mono HB13.out.size)); clear HEQ)
          | fail)
        clear c0 c1 c2 c3 c4 c5 d0 d1 d2 d3 d4 d5
        generalize World.drewN _ r14 = w15 at *
        go_wp2_with fail
        go_roundw
        case rel => exact ⟨m + 1, by omega, by go_num, HCQ.out.below HB14.out, HLQ.out.below HB14.out, Nat.le_trans hBQ HB14.out.size, HBW.out.trans (HB14.out.mono HBW.out.size)⟩
        case measure => simp [intOf] <;> omega
end Go.Proofs.YtkniifopfgeopaaDoor
