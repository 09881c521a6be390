/-
  The law HeaderReads, walked: it returns true for every input, and only adds memory of its own.
-/
import Derived.Test.YtjkeijkbekdjfaaHeaderReturnsWalk
import Derived.Test.YtjkeijkbekdjfaaHeaderWritesWalk
import Derived.Test.YtjkeijkbekdjfaaChange
import Derived.Deep.RegionWith
import Derived.Deep.CutBlock
import Derived.Deep.RegionHeld3
namespace Go.Proofs.Ytjkeijkbekdjfaa
open Go.RowKit
set_option linter.unusedVariables false

theorem Good.built_n {i r n x f m : Int} (h : Good i r n x f m) (y : Int) (hy : 0 ≤ y ∧ y ≤ 255) (len : Int) (hl : 28 ≤ len ∧ len ≤ 8192) : buildR i r y x f m len = (hdrL i r y x f m len, 0) := by
  have hf : (bits BinOp.andNot IntKind.i64 f 56 == 0) = true := by rcases h.gf with rfl | rfl | rfl | rfl <;> decide
  have hr : rangeR y x f = true := by
    rw [rangeR, hf]
    have := h.gx
    simp
    omega
  have h1 := h.gi
  have h2 := h.later
  have h3 := h.first
  have hc : checkR i r y x f m = 0 := by rw [checkR, if_neg (by omega), if_neg (by rw [hr]; simp), if_neg (by omega), if_neg (by omega)]
  rw [buildR, if_neg (by rw [hc]; simp), if_neg (by omega)]
theorem hdrL_len (i r n x f m len : Int) : (hdrL i r n x f m len).length = 28 := by simp [hdrL, be_len]
theorem hdrL_rng (i r n x f m len : Int) : ∀ z ∈ hdrL i r n x f m len, 0 ≤ z ∧ z ≤ 255 := by
  refine rng_append (be_rng _ _) (rng_append (be_rng _ _) (rng_append ?_ (rng_append (be_rng _ _) (be_rng _ _))))
  intro y hy
  simp at hy
  omega

theorem Byt.at_block {w w' : World} {g n c k : Nat} {xs : List Int} (h : Byt w (some ⟨g, 0, none⟩) n c xs) (hg : w.drew.grownBy w' (some k)) (hne : g ≠ k) : Byt w' (some ⟨g, 0, none⟩) n c xs := by
  refine ⟨h.len, h.cap, h.big, h.rng, fun hp => ?_⟩
  obtain ⟨b, o, he, hc⟩ := h.mem hp
  injection he with he
  injection he with e1 e2
  subst e1 e2
  exact ⟨g, 0, rfl, fun i hi => hg.cell (show w.drew.cell? _ = _ from hc i hi) (by simp; exact hne)⟩
theorem Byt.grown_ne {w w' : World} {g n c k : Nat} {xs : List Int} (h : Byt w (some ⟨g, 0, none⟩) n c xs) (hg : w.grownBy w' (some k)) (hne : g ≠ k) : Byt w' (some ⟨g, 0, none⟩) n c xs := by
  refine ⟨h.len, h.cap, h.big, h.rng, fun hp => ?_⟩
  obtain ⟨b, o, he, hc⟩ := h.mem hp
  injection he with he
  injection he with e1 e2
  subst e1 e2
  exact ⟨g, 0, rfl, fun i hi => hg.cell (hc i hi) (by simp; exact hne)⟩
/-- Four slices in a row of their own. -/
theorem slices4 (w : World) (p : Option Addr) (n c : Nat) (xs : List Int) (p1 : Option Addr) (n1 c1 : Nat) (xs1 : List Int) (p2 : Option Addr) (n2 c2 : Nat) (xs2 : List Int) (p3 : Option Addr) (n3 c3 : Nat) (xs3 : List Int)
    (h : Byt w p n c xs) (h1 : Byt w p1 n1 c1 xs1) (h2 : Byt w p2 n2 c2 xs2) (h3 : Byt w p3 n3 c3 xs3) :
    ∀ q, q < 4 → ∃ pt nt ct vs, (w.alloc (.cells #[.slice p n c, .slice p1 n1 c1, .slice p2 n2 c2, .slice p3 n3 c3] 22)).cell? ⟨w.heap.size, q, none⟩ = some (.slice pt nt ct)
      ∧ Byt (w.alloc (.cells #[.slice p n c, .slice p1 n1 c1, .slice p2 n2 c2, .slice p3 n3 c3] 22)) pt nt ct vs := by
  intro q hq
  have : q = 0 ∨ q = 1 ∨ q = 2 ∨ q = 3 := by omega
  rcases this with rfl | rfl | rfl | rfl
  · exact ⟨_, _, _, _, by rw [World.cell?_alloc_at _ _ _ _ rfl]; rfl, h.alloc _⟩
  · exact ⟨_, _, _, _, by rw [World.cell?_alloc_at _ _ _ _ rfl]; rfl, h1.alloc _⟩
  · exact ⟨_, _, _, _, by rw [World.cell?_alloc_at _ _ _ _ rfl]; rfl, h2.alloc _⟩
  · exact ⟨_, _, _, _, by rw [World.cell?_alloc_at _ _ _ _ rfl]; rfl, h3.alloc _⟩
theorem Byt.set_ne {w : World} {g n c : Nat} {xs : List Int} (h : Byt w (some ⟨g, 0, none⟩) n c xs) (b j : Nat) (v : Value) (hne : g ≠ b) : Byt (w.setCell ⟨b, j, none⟩ v) (some ⟨g, 0, none⟩) n c xs := by
  refine ⟨h.len, h.cap, h.big, h.rng, fun hp => ?_⟩
  obtain ⟨b', o, he, hc⟩ := h.mem hp
  injection he with he
  injection he with e1 e2
  subst e1 e2
  exact ⟨g, 0, rfl, fun i hi => (grown_set w b j v).cell (hc i hi) (by simp; exact hne)⟩
/-- What the cut around the changed byte leaves. -/
def Left3 (w wx : World) (k g8 g9 M c8 c9 : Nat) (X : List Int) : Prop := Byt wx (some ⟨g8, 0, none⟩) M c8 X ∧ (∃ Y, Byt wx (some ⟨g9, 0, none⟩) M c9 Y) ∧ Cod w wx k
theorem left3 {w W : World} {B k g8 g9 M c8 c9 t : Nat} {X : List Int} (hx : Byt W (some ⟨g8, 0, none⟩) M c8 X) (ho : Own W B 5 (.slice (some ⟨g9, 0, none⟩) M c9) X) (hc : Cod w W k) (v : Int) (hv : 0 ≤ v ∧ v ≤ 255) (hne : g8 ≠ g9) (hk : g9 ≠ k) (hw : w.heap.size ≤ g9) :
    Left3 w (W.setCell ⟨g9, t, none⟩ (.int .u8 v)) k g8 g9 M c8 c9 X := by
  refine ⟨hx.set_ne _ _ _ hne, ?_, hc.set _ _ _ hw hk⟩
  have hl : X.length = M := hx.len
  obtain ⟨_, _, he, hb⟩ := (ho.set hl t v).bytN rfl (show (X.set t v).length = M by rw [List.length_set, hl]) (rng_set hx.rng t hv)
  simp at he
  obtain ⟨rfl, rfl⟩ := he
  exact ⟨_, hb⟩

theorem Left3.alloc {w W : World} {k g8 g9 M c8 c9 : Nat} {X : List Int} (h : Left3 w W k g8 g9 M c8 c9 X) (o : Obj) : Left3 w (W.alloc o) k g8 g9 M c8 c9 X := by
  obtain ⟨h1, ⟨Y, h2⟩, h3⟩ := h
  exact ⟨h1.alloc o, ⟨Y, h2.alloc o⟩, h3.alloc o⟩
theorem wrap8 (v : Int) : 0 ≤ IntKind.u8.wrap v ∧ IntKind.u8.wrap v ≤ 255 := by
  rw [IntKind.wrap_u8]
  omega

/-- The places that may be changed. -/
theorem zs7 (j : Nat) (hj : j < 7) : ∃ t : Nat, List.getD [17, 18, 19, 27, 0, 15, 23] j (0 : Int) = (t : Int) ∧ t < 28 ∧ (#[Value.int .i64 17, .int .i64 18, .int .i64 19, .int .i64 27, .int .i64 0, .int .i64 15, .int .i64 23] : Array Value)[j]? = some (.int .i64 t)
    ∧ ([Value.int .i64 17, .int .i64 18, .int .i64 19, .int .i64 27, .int .i64 0, .int .i64 15, .int .i64 23] : List Value)[j]? = some (.int .i64 t) := by
  have : j = 0 ∨ j = 1 ∨ j = 2 ∨ j = 3 ∨ j = 4 ∨ j = 5 ∨ j = 6 := by omega
  rcases this with rfl | rfl | rfl | rfl | rfl | rfl | rfl
  · exact ⟨17, rfl, by omega, rfl, rfl⟩
  · exact ⟨18, rfl, by omega, rfl, rfl⟩
  · exact ⟨19, rfl, by omega, rfl, rfl⟩
  · exact ⟨27, rfl, by omega, rfl, rfl⟩
  · exact ⟨0, rfl, by omega, rfl, rfl⟩
  · exact ⟨15, rfl, by omega, rfl, rfl⟩
  · exact ⟨23, rfl, by omega, rfl, rfl⟩
theorem ints_cell (w w' : World) (k j t : Nat) (ht : List.getD [17, 18, 19, 27, 0, 15, 23] j (0 : Int) = (t : Int)) (hj : j < 7) (hk : k < w.heap.size)
    (hg : (w.alloc (.cells #[Value.int .i64 17, .int .i64 18, .int .i64 19, .int .i64 27, .int .i64 0, .int .i64 15, .int .i64 23] 3)).grownBy w' (some k)) : w'.cell? ⟨w.heap.size, j, none⟩ = some (.int .i64 t) := by
  have := hg.cell (ints_at w [17, 18, 19, 27, 0, 15, 23] 3 j (by simp; omega)) (by simp; omega)
  rw [ht] at this
  exact this
theorem own_cell {w w' : World} {B g M c k : Nat} {e : TypeId} {X : List Int} (h : Own w B e (.slice (some ⟨g, 0, none⟩) M c) X) (hl : X.length = M) (hg : w.drew.grownBy w' (some k)) (hne : g ≠ k) (t : Nat) (ht : t < M) :
    w'.cell? ⟨g, t, none⟩ = some (.int .u8 (X.getD t 0)) ∧ w'.frozen? ⟨g, t, none⟩ = false := by
  obtain ⟨g', c', he, _, hlt, hc, hf⟩ := h.at_ hl (by omega)
  simp at he
  obtain ⟨rfl, rfl⟩ := he
  exact ⟨hg.cell (show w.drew.cell? ⟨g, t, none⟩ = _ from hc t ht) (by simp; exact hne), (World.frozen?_of_block (a := ⟨g, t, none⟩) (hg.block g hlt (by simp; exact hne))).trans (hf t)⟩

set_option maxHeartbeats 3200000 in
set_option maxRecDepth 100000 in
theorem headerReads_walk (p : Option Addr) (n c : Nat) (xs : List Int) (q : Option Addr) (m d : Nat) (ys : List Int) (w : World) (h : Byt w p n c xs) (b0 : c ≤ 140737488351232) (hq : Byt w q m d ys) (b1 : d ≤ 140737488351232) :
    Calls Try.prog 3 #[.slice p n c, .slice q m d] w fun e w' => e = .returned (.bool true) ∧ Below w.heap.size w w' := by
  obtain ⟨i0, hi0, hz0, hz1, hz2⟩ := info_parts Try.infoByte
  have HX := hidden h
  have HQ := hidden hq
  have HA := hidden (awake02_any w)
  clear h hq
  go_enter Try.func3, Try.ntmps3
  go_wp2_with (go_at_call 7; (with_reducible refine (HA.out).mono ?_))
  rintro e w1 ⟨rfl, hb⟩
  have HB1 := hidden hb
  clear hb HA
  go_wp2_with (go_at_call 8; (refine (new_any w q m d ys w1 HQ.out HB1.out 80 (by omega)).mono ?_))
  rintro e w2 ⟨rfl, hc, hb⟩
  have HC2 := hidden hc
  clear hc hb HB1 HQ
  generalize w1.heap.size = k at *
  go_wp2_with (go_at_call 9; (with_reducible refine (header_val w w2 _ HC2.out).mono ?_))
  rintro e w3 ⟨i, r, hn, x, f, hm, rfl, hgood, hc, hg⟩
  have HGd := hidden hgood
  have hgi := hgood.gi
  have hgr := hgood.gr
  have hgm := hgood.gm
  have HH3 := hidden (HdrIn.new w3 i r hn x f hm 29)
  have hk3 := hc.lt
  have HC3 := hidden (hc.alloc (.cells #[.int .u64 i, .int .u64 r, .int .i64 hn, .int .i64 x, .int .i64 f, .int .u32 hm] 29))
  clear hgood hc hg HC2
  generalize hgh : w3.heap.size = gh at *
  go_wp2_with (go_at_call 10; (refine (next_any w _ k HC3.out _ ?_).mono ?_); omega)
  rintro e w4 ⟨y, rfl, y0, y1, hc, hg⟩
  have hh := HH3.out.grown hg (by simp; omega)
  have HH4 := hidden (hh.set2 y)
  have hbw := hc.bel.size
  have hb3 := HC3.out.bel.size
  have hbase := hc.base
  have HC4 := hidden (hc.set gh 2 (.int .i64 y) (by omega) (by omega))
  obtain ⟨k0, k1, k2, k3, k4, k5, kf⟩ := hh
  clear hg hc HH3 HC3 hgh
  go_upto_region 6 with fail
  clear k0 k1 k2 k3 k4 k5 kf
  generalize w4.setCell ⟨gh, 2, none⟩ (.int .i64 y) = w5 at *
  have hgk : gh ≠ k := by omega
  have HBd := hidden (fun (z : Int) (hz : 0 ≤ z ∧ z < 3) (w : World) => rbuild_val i r y x f hm (28 + z) _ 0 (HGd.out.built_n y ⟨y0, by omega⟩ (28 + z) ⟨by omega, by omega⟩) w ⟨by omega, hgi.2⟩ hgr ⟨hgm.1, by omega⟩ ⟨by omega, by omega⟩)
  have HS := hidden (fun w' (hg : w5.drew.grownBy w' (some k)) => (show w'.cell? ⟨gh, 0, none⟩ = some (.int .u64 i) ∧ w'.cell? ⟨gh, 1, none⟩ = some (.int .u64 r) ∧ w'.cell? ⟨gh, 2, none⟩ = some (.int .i64 y) ∧ w'.cell? ⟨gh, 3, none⟩ = some (.int .i64 x) ∧ w'.cell? ⟨gh, 4, none⟩ = some (.int .i64 f) ∧ w'.cell? ⟨gh, 5, none⟩ = some (.int .u32 hm) from by
    have hh := HdrIn.grown (w := w5.drew) HH4.out.drew hg (by simp; exact hgk)
    exact ⟨hh.c0, hh.c1, hh.c2, hh.c3, hh.c4, hh.c5⟩))
  have HCD := hidden (show Cod w w5.drew k from HC4.out.below (drew_below ⟨1, rfl⟩))
  go_region_held3 (fun w' => w'.cell? ⟨gh, 0, none⟩ = some (.int .u64 i) ∧ w'.cell? ⟨gh, 1, none⟩ = some (.int .u64 r) ∧ w'.cell? ⟨gh, 2, none⟩ = some (.int .i64 y) ∧ w'.cell? ⟨gh, 3, none⟩ = some (.int .i64 x) ∧ w'.cell? ⟨gh, 4, none⟩ = some (.int .i64 f) ∧ w'.cell? ⟨gh, 5, none⟩ = some (.int .u32 hm))
    (first | exact HS.out _ (grown_trans hgN (grown_of_below hbB _)) | exact HS.out _ hgN | exact HS.out _ (grown_refl _ _) | go_keep)
    ((first
      | (go_at_call 10; (with_reducible refine (next_any w _ k HCD.out _ (by omega)).mono ?_); rintro e wN ⟨z, rfl, z0, z1, hcN, hgN⟩; have hwz : IntKind.i64.wrap (28 + z) = 28 + z := by rw [IntKind.wrap_i64]; omega)
      | (go_at_call 11; (with_reducible refine (HBd.out _ ⟨z0, z1⟩ _).mono ?_); rintro e wB ⟨pB, nB, cB, rfl, hyB, hoB, hbB⟩)))
  clear HS HBd HCD HH4 HC4 hwz
  have hkN := hcN.lt
  obtain ⟨L, hL⟩ : ∃ L, L = hdrL i r y x f hm (28 + z) := ⟨_, rfl⟩
  have hLl : L.length = 28 := by rw [hL]; exact hdrL_len _ _ _ _ _ _ _
  have hLr : ∀ z ∈ L, 0 ≤ z ∧ z ≤ 255 := by rw [hL]; exact hdrL_rng _ _ _ _ _ _ _
  rw [← hL] at hyB hoB
  obtain rfl : nB = 28 := by rw [← hyB.len]; exact hLl
  have HLR := hidden hLr
  have HLL := hidden hLl
  obtain ⟨gB, c', he, hgB, hgB2, _, _⟩ := hoB.at_ hLl (by omega)
  simp at he
  obtain ⟨rfl, rfl⟩ := he
  have HCB := hidden (hcN.below hbB)
  have HOB := hidden hoB
  have hsB := hbB.size
  clear hyB hoB hbB hcN hgN hL hLr hLl
  go_wp2_with (go_at_call 10; (refine (next_any w _ k HCB.out _ ?_).mono ?_); omega)
  rintro e w7 ⟨z2, rfl, z20, z21, hc, hg⟩
  obtain ⟨N, rfl⟩ := Int.eq_ofNat_of_zero_le z20
  have HO7 := hidden (show Own w7 wN.heap.size 5 (.slice (some ⟨gB, 0, none⟩) 28 cB) L from World.ownsRow.kept HOB.out hg (Or.inr (by simp [Value.ownBlock]; omega)))
  have HC7 := hidden hc
  have hs7 := hg.size
  clear hg hc HCB HOB
  go_wp2_with (at_builtin; go_loud (refine wpList_append_zeros _ rfl _ _ 22 3 rfl _ 5 i0 Try.underlying22 Try.underlying3 hi0 hz0 hz1 hz2 gB 28 cB L rfl HO7.out HLL.out _ N rfl rfl (by omega) (by omega) (by omega) ?_))
  intro v8 w8 hown hg
  obtain ⟨X, hX⟩ : ∃ X, L ++ List.replicate N 0 = X := ⟨_, rfl⟩
  obtain ⟨M, hM⟩ : ∃ M, M = 28 + N := ⟨_, rfl⟩
  have hM1 : 28 ≤ M := by omega
  have hM2 : M ≤ 30 := by omega
  have hXl : X.length = M := by rw [← hX, List.length_append, HLL.out, List.length_replicate, hM]
  have hXr : ∀ z ∈ X, 0 ≤ z ∧ z ≤ 255 := by
    rw [← hX]
    exact rng_append HLR.out (fun z hz => by have := List.eq_of_mem_replicate hz; omega)
  rw [hX] at hown
  have HXL := hidden hXl
  have HXR := hidden hXr
  obtain ⟨g8, c8, rfl, hg8, hg8b, _, _⟩ := hown.at_ hXl (by omega)
  have hy8 : ∃ p c, Value.slice (some ⟨g8, 0, none⟩) M c8 = .slice p M c ∧ Byt w8 p M c X := hown.bytN rfl hXl hXr
  obtain ⟨_, _, he, hy⟩ := hy8
  simp at he
  obtain ⟨rfl, rfl⟩ := he
  have HY8 := hidden hy
  have HC8 := hidden (HC7.out.grown hg (by simp; omega) (by intro j hj; simp at hj; omega))
  clear hown hg hy HO7 HC7 hX hM hXl hXr HLL HLR
  go_wp2_with (at_builtin; go_loud (refine wpList_append_byt _ rfl _ _ 22 rfl w8.heap.size 5 i0 (.int .u8 0) Try.underlying22 hi0 hz0 hz1 hz2 rfl _ _ rfl (Own.nil _ w8.heap.size 5) _ _ _ _ _ rfl HY8.out rfl ?c1 (Nat.le_refl _) ?_))
  case c1 => first | omega | (simp; omega)
  intro v9 w9 hown hg
  have hown9 : Own w9 w8.heap.size 5 v9 X := hown
  obtain ⟨g9, c9, rfl, hg9, hg9b, hcell, hfr⟩ := hown9.at_ HXL.out (by omega)
  have hcap : ∃ p c, Value.slice (some ⟨g9, 0, none⟩) M c9 = .slice p M c ∧ Byt w9 p M c X := hown9.bytN rfl HXL.out HXR.out
  obtain ⟨_, _, he, hy⟩ := hcap
  simp at he
  obtain ⟨rfl, rfl⟩ := he
  have hc9 := hy.cap
  have hk8 := HC8.out.lt
  have HO9 := hidden hown9
  have HX9 := hidden (HY8.out.keep (fun a v ha => hg.cell ha (by simp [Value.ownBlock])))
  have HC9 := hidden (HC8.out.grown hg (by simp [Value.ownBlock]) (by intro j hj; simp [Value.ownBlock] at hj))
  clear hown hown9 hg hy hcell hfr HY8 HC8
  go_upto_region 10 with fail
  go_cut [] from 41 to 54 (fun wx => Left3 w wx k g8 g9 M c8 c9 X)
  case first =>
    have HCD := hidden (show Cod w w9.drew k from HC9.out.below (drew_below ⟨1, rfl⟩))
    have HZ := hidden (fun (j : Nat) (hj : j < 7) => zs7 j hj)
    have hg9k : g9 ≠ k := by omega
    have hg8k : g8 ≠ k := by omega
    have HYC := hidden (fun (w' : World) (hg : w9.drew.grownBy w' (some k)) (t : Nat) (ht : t < M) => own_cell HO9.out HXL.out hg hg9k t ht)
    go_region_with (first
      | (go_at_call_of 10 (Value.int IntKind.i64 7); (with_reducible refine (next_any w _ k ?_ _ ?_).mono ?_); (first | exact HCD.out | exact HCD.out.alloc _); omega; rintro e wA ⟨j, rfl, j0, j1, hcA, hgA⟩; obtain ⟨j, rfl⟩ := Int.eq_ofNat_of_zero_le j0; obtain ⟨t, ht, htM, hta, htl⟩ := HZ.out j (by omega); have hrem : (t : Int).tmod (M : Int) = (t : Int) := Int.tmod_eq_of_lt (by omega) (by omega); have htMM : t < M := (by omega); have hGA : w9.drew.grownBy wA (some k) := (by first | exact hgA | exact grown_trans (World.grownBy_alloc _ _ _) hgA); (try have hcI : wA.cell? ⟨w9.heap.size, j, none⟩ = some (.int .i64 t) := ints_cell w9.drew wA k j t ht (by omega) (by simp; omega) hgA))
      | (go_at_call_of 10 (Value.int IntKind.i64 256); (with_reducible refine (next_any w _ k ?_ _ ?_).mono ?_); (first | exact hcA | exact hcA.alloc _); omega; rintro e wD ⟨v, rfl, v0, v1, hcD, hgD⟩; have hGD : w9.drew.grownBy wD (some k) := (by first | exact grown_trans hGA hgD | exact grown_trans hGA (grown_trans (World.grownBy_alloc _ _ _) hgD)); have hyc := (HYC.out wD hGD t (by omega)).1; have hyf := (HYC.out wD hGD t (by omega)).2; have hgD9 : g9 < wD.heap.size := World.block_lt_of_cell? _ _ hyc; have hgN9 : g9 ≠ wD.heap.size := (by omega); (try have hcJ : wD.cell? ⟨w9.heap.size, j, none⟩ = some (.int .i64 t) := hgD.cell hcI (by simp; omega)); (try have hcK : wD.cell? ⟨wA.heap.size, j, none⟩ = some (.int .i64 t) := ints_cell wA wD k j t ht (by omega) (by have := hcA.lt; omega) hgD)))
    all_goals
      have hxD := Byt.at_block HX9.out hGD hg8k
      have hoD : Own wD w8.heap.size 5 (.slice (some ⟨g9, 0, none⟩) M c9) X := World.ownsRow.kept HO9.out.drew hGD (Or.inr (by simp [Value.ownBlock]; exact hg9k))
      have HL := hidden (fun t v (hv : 0 ≤ v ∧ v ≤ 255) => left3 (t := t) hxD hoD hcD v hv (by omega) hg9k (by omega))
      clear hxD hoD HYC HZ HCD hcD hgD hGD hyc hyf
      go_wp2_with fail
      go_meet
    all_goals (case rel => first | with_reducible exact HL.out _ _ ⟨by omega, by omega⟩ | with_reducible exact HL.out _ _ (wrap8 _) | with_reducible exact (HL.out _ _ ⟨by omega, by omega⟩).alloc _ | with_reducible exact (HL.out _ _ (wrap8 _)).alloc _)
  case rest =>
    obtain ⟨hx8, ⟨Y, hy9⟩, hcod⟩ := hcut
    have hg8k : g8 ≠ k := by omega
    have hg9k : g9 ≠ k := by omega
    have HX8 := hidden hx8
    have HY9 := hidden hy9
    have HCO := hidden hcod
    clear hx8 hy9 hcod HX9 HO9 HC9 HXL HXR
    go_wp2_with (go_at_call 12; (with_reducible refine (change_any w _ k HCO.out _ _ _ _ HX8.out (by omega)).mono ?_))
    rintro e w13 ⟨pc, nc, cc, zs, rfl, hz, hc, hg⟩
    have HI := hidden (slices4 w13 p n c xs (some ⟨g8, 0, none⟩) M c8 X (some ⟨g9, 0, none⟩) M c9 Y pc nc cc zs (HX.out.below hc.bel) (HX8.out.grown_ne hg hg8k) (HY9.out.grown_ne hg hg9k) hz)
    have HB13 := hidden (hc.bel.alloc hc.bel.size (.cells #[.slice p n c, .slice (some ⟨g8, 0, none⟩) M c8, .slice (some ⟨g9, 0, none⟩) M c9, .slice pc nc cc] 22))
    clear hz hc hg HX HX8 HY9 HCO
    go_wp2
    generalize hwi : w13.alloc (.cells #[.slice p n c, .slice (some ⟨g8, 0, none⟩) M c8, .slice (some ⟨g9, 0, none⟩) M c9, .slice pc nc cc] 22) = wi at *
    clear hwi
    generalize w13.heap.size = gs at *
    go_loopw [63] (fun j wq => ∃ t : Nat, t ≤ 4 ∧ j = .int .i64 t ∧ Below wi.heap.size wi wq) (fun j _ => 4 - (intOf j).toNat)
    case atStart => exact ⟨0, by omega, rfl, Below.refl _ _⟩
    case round =>
      obtain ⟨t, ht, rfl, hbq⟩ := hrel
      by_cases h4 : t < 4
      · obtain ⟨pt, nt, ct, vs, hcell, hb⟩ := HI.out t h4
        have hcq := cell_below hbq _ _ hcell
        have HBT := hidden (hb.below hbq)
        have HBq := hidden hbq
        rcases hP : parseR vs with ⟨⟨ip, rp, mp, xp, fp, kp⟩, E⟩
        have HP := hidden (fun w (h : Byt w pt nt ct vs) => parse_val _ _ _ _ w h _ _ _ _ _ _ _ hP)
        have HR := hidden (fun w (h : Byt w pt nt ct vs) => rparse_val _ _ _ _ w h _ _ _ _ _ _ _ hP)
        clear hP hcell hb hbq
        go_wp2_with (go_at_call 13; (with_reducible refine (HP.out _ HBT.out).mono ?_))
        rintro e wA ⟨rfl, hbA⟩
        have HNA := hidden (HdrIn.new wA ip rp mp xp fp kp 29)
        have HBA := hidden ((HBT.out.below hbA).alloc (.cells #[.int .u64 ip, .int .u64 rp, .int .i64 mp, .int .i64 xp, .int .i64 fp, .int .u32 kp] 29))
        have hqA := HBq.out.trans (hbA.mono HBq.out.size)
        have HQA := hidden (hqA.alloc hqA.size (.cells #[.int .u64 ip, .int .u64 rp, .int .i64 mp, .int .i64 xp, .int .i64 fp, .int .u32 kp] 29))
        clear hbA hqA HBT HBq hcq HP
        go_wp2_with (go_at_call 14; (with_reducible refine (HR.out _ HBA.out).mono ?_))
        rintro e wB2 ⟨rfl, hbB⟩
        have HNB := hidden ((HNA.out.below hbB).alloc (.cells #[.int .u64 ip, .int .u64 rp, .int .i64 mp, .int .i64 xp, .int .i64 fp, .int .u32 kp] 29))
        have hqB := HQA.out.trans (hbB.mono HQA.out.size)
        have HQB := hidden (hqB.alloc hqB.size (.cells #[.int .u64 ip, .int .u64 rp, .int .i64 mp, .int .i64 xp, .int .i64 fp, .int .u32 kp] 29))
        clear hbB hqB HNA HBA HQA HR
        obtain ⟨q0, q1, q2, q3, q4, q5, qf⟩ := HNB.out
        go_wp2
        go_roundw
        case rel => exact ⟨t + 1, by omega, by go_num, HQB.out⟩
        case measure => simp [intOf]; omega
      · obtain rfl : t = 4 := by omega
        have HBq := hidden (HB13.out.trans (hbq.mono HB13.out.size))
        clear hbq
        go_wp2
        go_ret
        exact ⟨rfl, HBq.out⟩
end Go.Proofs.Ytjkeijkbekdjfaa
