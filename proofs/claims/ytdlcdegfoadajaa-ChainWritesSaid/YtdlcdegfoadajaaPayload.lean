/-
  What the reader of chains returns for the next payload, and how it goes on.
-/
import Derived.Test.YtdlcdegfoadajaaCBuild
import Derived.Test.YtdlcdegfoadajaaWSlice
import Derived.Test.YtdlcdegfoadajaaInts
import Derived.Laws.Bits64b
import Derived.Deep.RegionWith
namespace Go.Proofs.Ytdlcdegfoadajaa
open Go.RowKit
set_option linter.unusedVariables false

/-- A payload that lies in a block. -/
structure RawIn (w : World) (g : Nat) (k : Int) (c : Bool) (p : Option Addr) (n m : Nat) : Prop where
  c0 : w.cell? ⟨g, 0, none⟩ = some (.int .i64 k)
  c1 : w.cell? ⟨g, 1, none⟩ = some (.bool c)
  c2 : w.cell? ⟨g, 2, none⟩ = some (.slice p n m)
/-- A payload that lies in a block that may be written. -/
structure RawBox (w : World) (g : Nat) : Prop where
  ex : ∃ k c p n m, w.cell? ⟨g, 0, none⟩ = some (.int .i64 k) ∧ w.cell? ⟨g, 1, none⟩ = some (.bool c) ∧ w.cell? ⟨g, 2, none⟩ = some (.slice p n m)
  fr : ∀ j, w.frozen? ⟨g, j, none⟩ = false
theorem RawBox.grown {w w' : World} {g : Nat} {row : Option Nat} (h : RawBox w g) (hg : w.grownBy w' row) (hne : some g ≠ row) : RawBox w' g := by
  obtain ⟨⟨k, c, p, n, m, h0, h1, h2⟩, hf⟩ := h
  exact ⟨⟨k, c, p, n, m, hg.cell h0 hne, hg.cell h1 hne, hg.cell h2 hne⟩, fun j => (World.frozen?_of_block (a := ⟨g, j, none⟩) (hg.block g (World.block_lt_of_cell? w _ h0) hne)).trans (hf j)⟩
theorem RawBox.below {w w' : World} {g : Nat} (h : RawBox w g) (hb : Below w.heap.size w w') : RawBox w' g := h.grown (row := none) ⟨hb.os, hb.tape, hb.output, hb.size, fun i hi _ => hb.block i hi⟩ (by simp)
theorem RawBox.new (w : World) (k : Int) (c : Bool) (p : Option Addr) (n m : Nat) (T : TypeId) : RawBox (w.alloc (.cells #[.int .i64 k, .bool c, .slice p n m] T)) w.heap.size :=
  ⟨⟨k, c, p, n, m, by go_simp, by go_simp, by go_simp⟩, fun j => by go_simp⟩
theorem load_raw {w : World} {g : Nat} {k : Int} {c : Bool} {p : Option Addr} {n m : Nat} (h : RawIn w g k c p n m) : (loadVar 43 ⟨g, 0, none⟩).run Try.prog w = .ok (.agg #[.int .i64 k, .bool c, .slice p n m]) w := by
  obtain ⟨c0, c1, c2⟩ := h
  simp [loadVar, go_sem, c0, c1, c2, Result.andThen]
theorem ret_raw2 {fn : Func} {R : Ending → World → Prop} {a : Act} {w : World} {b u : Nat} {g : Nat} {k : Int} {c : Bool} {p : Option Addr} {n m : Nat} {v : Value} (h : fn.results = #[.cell b 43, .tmp u]) (hp : a.tmps.getD b undef = .pointer (some ⟨g, 0, none⟩)) (hu : a.tmps.getD u undef = v) (hd : a.defers = [])
    (hh : RawIn w g k c p n m) (hR : R (.returned (.tuple #[.agg #[.int .i64 k, .bool c, .slice p n m], v])) w) : bodyPost Try.prog fn R .ret a w := by
  refine bodyPost_ret (v := .tuple #[.agg #[.int .i64 k, .bool c, .slice p n m], v]) ?_ hd hR
  rw [results_cell_tmp h]
  simp only [hp]
  simp [Result.andThen, hu, asAddr, load_raw hh]

/-- The reader at block R. -/
structure Rdr (w : World) (R : Nat) (p : Option Addr) (n c : Nat) (at_ next inside err : Int) : Prop where
  c0 : w.cell? ⟨R, 0, none⟩ = some (.slice p n c)
  c1 : w.cell? ⟨R, 1, none⟩ = some (.int .i64 at_)
  c2 : w.cell? ⟨R, 2, none⟩ = some (.int .i64 next)
  c3 : w.cell? ⟨R, 3, none⟩ = some (.int .i64 inside)
  c4 : w.cell? ⟨R, 4, none⟩ = some (.int .i64 err)
  fr : ∀ j, w.frozen? ⟨R, j, none⟩ = false
theorem Rdr.lt {w : World} {R : Nat} {p : Option Addr} {n c : Nat} {at_ next inside err : Int} (h : Rdr w R p n c at_ next inside err) : R < w.heap.size := World.block_lt_of_cell? w _ h.c0
theorem Rdr.grown {w w' : World} {R : Nat} {p : Option Addr} {n c : Nat} {at_ next inside err : Int} {row : Option Nat} (h : Rdr w R p n c at_ next inside err) (hg : w.grownBy w' row) (hne : some R ≠ row) : Rdr w' R p n c at_ next inside err :=
  ⟨hg.cell h.c0 hne, hg.cell h.c1 hne, hg.cell h.c2 hne, hg.cell h.c3 hne, hg.cell h.c4 hne, fun j => (World.frozen?_of_block (a := ⟨R, j, none⟩) (hg.block R h.lt hne)).trans (h.fr j)⟩
theorem Rdr.below {w w' : World} {R : Nat} {p : Option Addr} {n c : Nat} {at_ next inside err : Int} {B : Nat} (h : Rdr w R p n c at_ next inside err) (hb : Below B w w') (hR : R < B) : Rdr w' R p n c at_ next inside err :=
  have hc : ∀ a : Addr, a.block = R → w'.cell? a = w.cell? a := fun a ha => hb.cell (by rw [ha]; exact hR)
  ⟨(hc _ rfl).trans h.c0, (hc _ rfl).trans h.c1, (hc _ rfl).trans h.c2, (hc _ rfl).trans h.c3, (hc _ rfl).trans h.c4, fun j => (World.frozen?_of_block (a := ⟨R, j, none⟩) (hb.block R hR)).trans (h.fr j)⟩

/-- Four bytes as a number. -/
theorem four (xs : List Int) (hr : ∀ x ∈ xs, 0 ≤ x ∧ x ≤ 255) (a : Nat) (h : a + 4 ≤ xs.length) :
    ∃ hd : Int, val ((xs.drop a).take 4) = hd ∧ 0 ≤ hd ∧ hd < 4294967296 ∧ hd / 16777216 = xs.getD a 0 ∧ hd / 65536 = xs.getD a 0 * 256 + xs.getD (a + 1) 0 ∧ hd % 65536 = lenC (xs.drop a) := by
  have e : (xs.drop a).take 4 = [xs.getD a 0, xs.getD (a + 1) 0, xs.getD (a + 2) 0, xs.getD (a + 3) 0] := by
    rw [List.drop_eq_getElem_cons (by omega), List.take_succ_cons, List.drop_eq_getElem_cons (by omega), List.take_succ_cons, List.drop_eq_getElem_cons (by omega), List.take_succ_cons, List.drop_eq_getElem_cons (by omega), List.take_succ_cons, List.take_zero]
    simp [List.getD_eq_getElem?_getD, List.getElem?_eq_getElem (show a < xs.length by omega), List.getElem?_eq_getElem (show a + 1 < xs.length by omega), List.getElem?_eq_getElem (show a + 2 < xs.length by omega), List.getElem?_eq_getElem (show a + 3 < xs.length by omega)]
  have r0 := rng_getD hr a
  have r1 := rng_getD hr (a + 1)
  have r2 := rng_getD hr (a + 2)
  have r3 := rng_getD hr (a + 3)
  have hl : lenC (xs.drop a) = xs.getD (a + 2) 0 * 256 + xs.getD (a + 3) 0 := by rw [lenC, getD_drop, getD_drop]
  have hv : val [xs.getD a 0, xs.getD (a + 1) 0, xs.getD (a + 2) 0, xs.getD (a + 3) 0] = ((xs.getD a 0 * 256 + xs.getD (a + 1) 0) * 256 + xs.getD (a + 2) 0) * 256 + xs.getD (a + 3) 0 := by simp [val]
  refine ⟨_, rfl, ?_⟩
  rw [e, hv, hl]
  generalize xs.getD a 0 = x0 at *
  generalize xs.getD (a + 1) 0 = x1 at *
  generalize xs.getD (a + 2) 0 = x2 at *
  generalize xs.getD (a + 3) 0 = x3 at *
  refine ⟨by omega, by omega, by omega, by omega, by omega⟩
theorem bit7 (x y : Int) (hx : 0 ≤ x ∧ x ≤ 255) (hy : 0 ≤ y ∧ y ≤ 255) : (bits .and .u64 (x * 256 + y) 128 != 0) = decide (128 ≤ y) := by
  obtain ⟨a, rfl⟩ := Int.eq_ofNat_of_zero_le hx.1
  obtain ⟨b, rfl⟩ := Int.eq_ofNat_of_zero_le hy.1
  have h := bits_and_u64_nat (a * 256 + b) 128 (by omega) (by omega)
  have e : (((a * 256 + b : Nat) : Int)) = (a : Int) * 256 + (b : Int) := by simp
  rw [e] at h
  rw [show ((128 : Nat) : Int) = 128 from rfl] at h
  have h1 : (a * 256 + b) &&& 128 = b &&& 128 := by
    have h2 : ((a * 256 + b) &&& 128) % 2 ^ 8 = ((a * 256 + b) % 2 ^ 8) &&& (128 % 2 ^ 8) := Nat.and_mod_two_pow
    have h3 : (a * 256 + b) &&& 128 ≤ 128 := Nat.and_le_right
    have h4 : (a * 256 + b) % 2 ^ 8 = b := by omega
    rw [h4, show (128 % 2 ^ 8 : Nat) = 128 from rfl] at h2
    omega
  rw [h, h1]
  have : ∀ j : Fin 256, ((((j.val &&& 128 : Nat)) : Int) != 0) = decide (128 ≤ ((j.val : Nat) : Int)) := by decide +kernel
  exact this ⟨b, by omega⟩

theorem grown_set_R {a b : World} {R : Nat} (h : a.grownBy b (some R)) (j : Nat) (v : Value) : a.grownBy (b.setCell ⟨R, j, none⟩ v) (some R) := grown_trans h (grown_set b R j v)
theorem Bod.set_low {w : World} {base : Nat} {p : Option Addr} {n c : Nat} {xs : List Int} (h : Bod w base p n c xs) (g j : Nat) (v : Value) (hg : g < base) : Bod (w.setCell ⟨g, j, none⟩ v) base p n c xs := h.grown (grown_set w g j v) (OffB.low hg)
theorem below_drewN_ {B : Nat} {a w : World} (h : Below B a w) (n : Nat) : Below B a (w.drewN n) := ⟨h.os, h.tape, h.output, h.size, h.block⟩

/-- The reader's answers. -/
def PayFail (w : World) (E : Int) (e : Ending) (w' : World) : Prop := e = .returned (.tuple #[.agg #[.int .i64 0, .bool false, .slice none 0 0], .int .i64 E]) ∧ Below w.heap.size w w'
def PayOk (w : World) (R : Nat) (p : Option Addr) (n c : Nat) (xs : List Int) (at_ m : Nat) (L kd inside err : Int) (e : Ending) (w' : World) : Prop :=
  ∃ q d, e = .returned (.tuple #[.agg #[.int .i64 kd, .bool (decide (128 ≤ xs.getD (at_ + 1) 0)), .slice q m d], .int .i64 0]) ∧ Bod w' w.heap.size q m d ((xs.drop (at_ + 4)).take m) ∧
    Rdr w' R p n c ((at_ : Int) + L) (if lastK kd then 0 else xs.getD at_ 0) (if lastK kd then xs.getD at_ 0 else inside) err ∧ w.grownBy w' (some R)

theorem num_short (p : Option Addr) (n c : Nat) (xs : List Int) (w : World) (h : Byt w p n c xs) (a : Nat) (ha : a ≤ n) (hs : n - a < 4) :
    Calls Try.prog 37 #[.slice p n c, .int .i64 a, .int .i64 4] w fun e w' => e = .returned (.tuple #[.int .u64 0, .bool false]) ∧ w = w' := by
  have hl := h.len
  have := number_any p n c xs w h a 4 (by have := h.le; omega) (by omega)
  rw [numR, if_neg (by omega)] at this
  exact this
theorem num_four (p : Option Addr) (n c : Nat) (xs : List Int) (w : World) (h : Byt w p n c xs) (a : Nat) (hin : a + 4 ≤ n) (hd : Int) (hv : val ((xs.drop a).take 4) = hd) :
    Calls Try.prog 37 #[.slice p n c, .int .i64 a, .int .i64 4] w fun e w' => e = .returned (.tuple #[.int .u64 hd, .bool true]) ∧ w = w' := by
  subst hv
  exact number_yes p n c xs w h a 4 (by omega) (by omega) hin
theorem slice_bad (p : Option Addr) (n c : Nat) (xs : List Int) (w : World) (h : Byt w p n c xs) (hb : n ≤ 140737488355328) (a : Nat) (ha : a + 4 ≤ n) (L : Int) (hL : 0 ≤ L ∧ L ≤ 65535) (hbad : L < 4 ∨ (n : Int) - a < L) :
    Calls Try.prog 38 #[.slice p n c, .int .i64 ((a : Int) + 4), .int .i64 (L - 4)] w fun e w' => ∃ q i d, e = .returned (.tuple #[.slice q i d, .bool false]) ∧ Below w.heap.size w w' := by
  have hl := h.len
  refine (slice_bod p n c xs w h hb (a + 4) (L - 4) (by have := h.le; omega) (by omega)).mono fun e w' hh => ?_
  rw [pieceR, if_neg (by omega)] at hh
  obtain ⟨q, i, d, he, _, hb⟩ := hh
  exact ⟨q, i, d, he, hb⟩
theorem slice_good (p : Option Addr) (n c : Nat) (xs : List Int) (w : World) (h : Byt w p n c xs) (hb : n ≤ 140737488355328) (a m : Nat) (ha : a + 4 + m ≤ n) (L : Int) (hL : L - 4 = (m : Int)) :
    Calls Try.prog 38 #[.slice p n c, .int .i64 ((a : Int) + 4), .int .i64 (L - 4)] w fun e w' => ∃ q d, e = .returned (.tuple #[.slice q m d, .bool true]) ∧ Bod w' w.heap.size q m d ((xs.drop (a + 4)).take m) ∧ Below w.heap.size w w' := by
  have hl := h.len
  refine (slice_bod p n c xs w h hb (a + 4) (L - 4) (by have := h.le; omega) (by omega)).mono fun e w' hh => ?_
  have hp : pieceR xs ((a : Int) + 4) (L - 4) = ((xs.drop (a + 4)).take m, true) := by
    rw [pieceR, if_pos (by omega), hL]
    simp
    rfl
  rw [hp] at hh
  obtain ⟨q, n', d, he, hbod, hb'⟩ := hh
  obtain rfl : m = n' := by
    have := hbod.byt.len
    simp at this
    omega
  exact ⟨q, d, he, hbod, hb'⟩

set_option maxHeartbeats 1600000 in
theorem pay_short (w : World) (R : Nat) (p : Option Addr) (n c : Nat) (xs : List Int) (h : Byt w p n c xs) (hb : n ≤ 140737488351232) (at_ : Nat) (kd inside err : Int) (hr : Rdr w R p n c at_ kd inside err) (ha : at_ ≤ n) (hs : n - at_ < 4) :
    Calls Try.prog 34 #[.pointer (some ⟨R, 0, none⟩)] w (PayFail w 1) := by
  have hlt := hr.lt
  have HN := hidden (fun a => (num_short p n c xs ((w.alloc (.cells #[.int .i64 0, .bool false, .slice none 0 0] 43)).drewN a) ((h.alloc _).keep (fun _ _ h => h)) at_ ha hs).mono (R' := fun e w' => e = .returned (.tuple #[.int .u64 0, .bool false]) ∧ w' = ((w.alloc (.cells #[.int .i64 0, .bool false, .slice none 0 0] 43)).drewN a)) (fun e w' ⟨h1, h2⟩ => ⟨h1, h2.symm⟩))
  obtain ⟨c0, c1, c2, c3, c4, fr⟩ := hr
  have hR : R ≠ w.heap.size := by omega
  clear h
  go_enter Try.func34, Try.ntmps34
  go_wp2
  go_quiet ((go_at_call 37; (with_reducible exact Calls.quiet_of_same (HN.out _))))
  go_wp2
  refine ret_raw2 (g := w.heap.size) (k := 0) (c := false) (p := none) (n := 0) (m := 0) rfl rfl rfl rfl ⟨by go_simp, by go_simp, by go_simp⟩ ?_
  exact ⟨rfl, by have := Below.refl w.heap.size w; repeat' (first | with_reducible exact this | (with_reducible refine Below.alloc ?_ ?_ _) | (with_reducible refine Below.setCell ?_ ?_ _) | (with_reducible refine below_drewN_ ?_ _) | simp)⟩

set_option maxHeartbeats 1600000 in
theorem pay_wrong (w : World) (R : Nat) (p : Option Addr) (n c : Nat) (xs : List Int) (h : Byt w p n c xs) (hb : n ≤ 140737488351232) (at_ : Nat) (kd inside err : Int) (hr : Rdr w R p n c at_ kd inside err) (ha : at_ + 4 ≤ n) (L : Int) (hL : lenC (xs.drop at_) = L) (hbad : L < 4 ∨ (n : Int) - at_ < L) :
    Calls Try.prog 34 #[.pointer (some ⟨R, 0, none⟩)] w (PayFail w 2) := by
  have hlt := hr.lt
  have hl := h.len
  have hlb := lenC_bd (xs.drop at_) (rng_drop h.rng at_)
  rw [hL] at hlb
  obtain ⟨hd, hv, hd0, hd1, e0, e1, e2⟩ := four xs h.rng at_ (by omega)
  rw [hL] at e2
  have hx0 := rng_getD h.rng at_
  have hand := and16 hd hd0 (by omega)
  rw [e2] at hand
  have HN := hidden (fun a => (num_four p n c xs ((w.alloc (.cells #[.int .i64 0, .bool false, .slice none 0 0] 43)).drewN a) ((h.alloc _).keep (fun _ _ h => h)) at_ ha hd hv).mono (R' := fun e w' => e = .returned (.tuple #[.int .u64 hd, .bool true]) ∧ w' = ((w.alloc (.cells #[.int .i64 0, .bool false, .slice none 0 0] 43)).drewN a)) (fun e w' ⟨h1, h2⟩ => ⟨h1, h2.symm⟩))
  have hw4 : IntKind.i64.wrap ((at_ : Int) + 4) = (at_ : Int) + 4 := wraps_i64 _ (by omega) (by omega)
  have hwl : IntKind.i64.wrap (L - 4) = L - 4 := by rw [IntKind.wrap_i64]; omega
  have HS := hidden (fun w (h : Byt w p n c xs) => slice_bad p n c xs w h (by omega) at_ ha L hlb hbad)
  have HX := hidden h
  have HR := hidden hr
  obtain ⟨c0, c1, c2, c3, c4, fr⟩ := hr
  have hR : R ≠ w.heap.size := by omega
  clear h hl hL hv e1 e2 hbad
  generalize xs.getD at_ 0 = x0 at *
  go_enter Try.func34, Try.ntmps34
  go_wp2
  go_quiet ((go_at_call 37; (with_reducible exact Calls.quiet_of_same (HN.out _))))
  go_wp2
  obtain ⟨w1, hw1⟩ : ∃ v, v = (w.alloc (.cells #[.int .i64 0, .bool false, .slice none 0 0] 43)).drewN nq := ⟨_, rfl⟩
  rw [← hw1]
  have hb1 : Below w.heap.size w w1 := by rw [hw1]; exact below_drewN_ ((Below.refl _ w).alloc (Nat.le_refl _) _) _
  have hz1 : RawBox w1 w.heap.size := by rw [hw1]; exact (RawBox.new w 0 false none 0 0 43).below (drew_below ⟨_, rfl⟩)
  have hr1 := HR.out.below hb1 hlt
  have hx1 := HX.out.below hb1
  have hxd : Byt w1.drew p n c xs := hx1.keep (fun _ _ h => h)
  have HXD := hidden hxd
  have HB1 := hidden hb1
  have HZ1 := hidden hz1
  clear hw1 hb1 hz1 hx1 hxd c0 c1 c2 c3 c4 fr HX HN
  obtain ⟨c0, c1, c2, c3, c4, fr⟩ := hr1
  go_region_with (go_at_call 38; (with_reducible refine (HS.out _ HXD.out).mono ?_); rintro e w3 ⟨q, i, d, rfl, hb3⟩)
  all_goals
    have hb3' := HB1.out.drew.trans (hb3.mono (by have := HB1.out.size; exact this))
    have hz3 := (HZ1.out.below (drew_below ⟨1, rfl⟩)).below hb3
    have HB3 := hidden hb3'
    obtain ⟨⟨k, cc, pp, nn, mm, z0, z1, z2⟩, zf⟩ := hz3
    clear hb3 hb3' c0 c1 c2 c3 c4 fr
    go_wp2
    refine ret_raw2 (g := w.heap.size) (k := 0) (c := false) (p := none) (n := 0) (m := 0) rfl rfl rfl rfl ⟨by go_simp, by go_simp, by go_simp⟩ ?_
    exact ⟨rfl, by have := HB3.out; repeat' (first | with_reducible exact this | (with_reducible refine Below.setCell ?_ ?_ _) | simp)⟩

set_option maxHeartbeats 3200000 in
theorem pay_ok (w : World) (R : Nat) (p : Option Addr) (n c : Nat) (xs : List Int) (h : Byt w p n c xs) (hb : n ≤ 140737488351232) (at_ : Nat) (kd inside err : Int) (hr : Rdr w R p n c at_ kd inside err) (L : Int) (hL : lenC (xs.drop at_) = L) (m : Nat) (hm : L - 4 = (m : Int)) (ha : at_ + 4 + m ≤ n) :
    Calls Try.prog 34 #[.pointer (some ⟨R, 0, none⟩)] w (PayOk w R p n c xs at_ m L kd inside err) := by
  have hlt := hr.lt
  have hl := h.len
  have hlb := lenC_bd (xs.drop at_) (rng_drop h.rng at_)
  rw [hL] at hlb
  obtain ⟨hd, hv, hd0, hd1, e0, e1, e2⟩ := four xs h.rng at_ (by omega)
  rw [hL] at e2
  have hx0 := rng_getD h.rng at_
  have hx1 := rng_getD h.rng (at_ + 1)
  have hand := and16 hd hd0 (by omega)
  rw [e2] at hand
  have HN := hidden (fun a => (num_four p n c xs ((w.alloc (.cells #[.int .i64 0, .bool false, .slice none 0 0] 43)).drewN a) ((h.alloc _).keep (fun _ _ h => h)) at_ (by omega) hd hv).mono (R' := fun e w' => e = .returned (.tuple #[.int .u64 hd, .bool true]) ∧ w' = ((w.alloc (.cells #[.int .i64 0, .bool false, .slice none 0 0] 43)).drewN a)) (fun e w' ⟨h1, h2⟩ => ⟨h1, h2.symm⟩))
  have hw4 : IntKind.i64.wrap ((at_ : Int) + 4) = (at_ : Int) + 4 := wraps_i64 _ (by omega) (by omega)
  have hwl : IntKind.i64.wrap (L - 4) = L - 4 := by rw [IntKind.wrap_i64]; omega
  have HS := hidden (fun w (h : Byt w p n c xs) => slice_good p n c xs w h (by omega) at_ m ha L hm)
  have HX := hidden h
  have HR := hidden hr
  have HP := hidden (show ∀ (e : Ending) (w' : World), (∃ q d, e = .returned (.tuple #[.agg #[.int .i64 kd, .bool (decide (128 ≤ xs.getD (at_ + 1) 0)), .slice q m d], .int .i64 0]) ∧ Bod w' w.heap.size q m d ((xs.drop (at_ + 4)).take m) ∧
    Rdr w' R p n c ((at_ : Int) + L) (if lastK kd then 0 else xs.getD at_ 0) (if lastK kd then xs.getD at_ 0 else inside) err ∧ w.grownBy w' (some R)) → PayOk w R p n c xs at_ m L kd inside err e w' from fun _ _ h => h)
  have HW := hidden (fun w => wraps_any kd w)
  have hat : (at_ : Int) + L ≤ 140737488351232 := by omega
  obtain ⟨c0, c1, c2, c3, c4, fr⟩ := hr
  have hR : R ≠ w.heap.size := by omega
  clear h hl hL hv e2 hm
  generalize xs.getD at_ 0 = x0 at *
  generalize xs.getD (at_ + 1) 0 = x1 at *
  have hbit := bit7 x0 x1 hx0 hx1
  generalize hBX : (xs.drop (at_ + 4)).take m = bs at *
  clear hBX
  go_enter Try.func34, Try.ntmps34
  go_wp2
  go_quiet ((go_at_call 37; (with_reducible exact Calls.quiet_of_same (HN.out _))))
  go_wp2
  obtain ⟨w1, hw1⟩ : ∃ v, v = (w.alloc (.cells #[.int .i64 0, .bool false, .slice none 0 0] 43)).drewN nq := ⟨_, rfl⟩
  rw [← hw1]
  have hb1 : Below w.heap.size w w1 := by rw [hw1]; exact below_drewN_ ((Below.refl _ w).alloc (Nat.le_refl _) _) _
  have hz1 : RawBox w1 w.heap.size := by rw [hw1]; exact (RawBox.new w 0 false none 0 0 43).below (drew_below ⟨_, rfl⟩)
  have hr1 := HR.out.below hb1 hlt
  have hx1 := HX.out.below hb1
  have hxd : Byt w1.drew p n c xs := hx1.keep (fun _ _ h => h)
  have HXD := hidden hxd
  have HB1 := hidden hb1
  have HZ1 := hidden hz1
  have hg1 : w.heap.size < w1.heap.size := by
    obtain ⟨_, _, _, _, _, h, _⟩ := hz1.ex
    exact World.block_lt_of_cell? w1 _ h
  have HR1 := hidden hr1
  clear hw1 hb1 hz1 hx1 hxd c0 c1 c2 c3 c4 fr HX HN HR
  obtain ⟨c0, c1, c2, c3, c4, fr⟩ := hr1
  go_region_with (go_at_call 38; (with_reducible refine (HS.out _ HXD.out).mono ?_); rintro e w3 ⟨q, d, rfl, hbod, hb3⟩)
  all_goals
    have hs1 := HB1.out.size
    have hb3' := HB1.out.drew.trans (hb3.mono (by exact hs1))
    have hz3 := (HZ1.out.below (drew_below ⟨1, rfl⟩)).below hb3
    have hr3 := (HR1.out.below (drew_below (B := R + 1) ⟨1, rfl⟩) (by omega)).below hb3 HR1.out.lt
    have HB3 := hidden hb3'
    have HBO := hidden (hbod.mono (show w.heap.size + 1 ≤ w1.drew.heap.size from hg1))
    have HR3 := hidden hr3
    obtain ⟨⟨k, cc, pp, nn, mm, z0, z1, z2⟩, zf⟩ := hz3
    have hg3 := World.block_lt_of_cell? w3 _ z0
    have hR3 := hr3.lt
    clear hb3 hb3' hbod c0 c1 c2 c3 c4 fr HR1 HZ1 HB1 HXD HS
    obtain ⟨c0, c1, c2, c3, c4, fr⟩ := hr3
    clear hw4 hwl
    have HG3 := hidden (grown_of_below HB3.out (some R))
    have hcasts : R < w.heap.size := hlt
    rcases hlk : lastK kd with _ | _
    all_goals
      rw [hlk] at HW HP
      go_wp2_with (go_at_call 35; (with_reducible refine (HW.out _).mono ?_); rintro e w' ⟨rfl, rfl⟩)
      refine ret_raw2 (g := w.heap.size) (k := kd) (c := decide (128 ≤ x1)) (p := q) (n := m) (m := d) rfl rfl rfl rfl ⟨by go_simp, by go_simp, by go_simp⟩ ?_
      refine HP.out _ _ ⟨q, d, rfl, Bod.mono (base := w.heap.size + 1) ?_ (by omega), ⟨by go_simp, by go_simp, by first | (go_simp; done) | (go_simp; rw [World.cell?_setCell_same' _ _ _ (by go_simp; done)]), by go_simp, by go_simp, fun j => by go_simp⟩, ?_⟩
      · repeat' (first | with_reducible exact HBO.out | (with_reducible refine Bod.alloc ?_ _) | (with_reducible refine Bod.set_low ?_ _ _ _ (by omega)))
      · repeat' (first | with_reducible exact HG3.out | (with_reducible refine grown_alloc_new ?_ _) | (with_reducible refine grown_set_R ?_ _ _) | (with_reducible refine grown_set_new ?_ _ _ _ (Nat.le_refl _)))
end Go.Proofs.Ytdlcdegfoadajaa
