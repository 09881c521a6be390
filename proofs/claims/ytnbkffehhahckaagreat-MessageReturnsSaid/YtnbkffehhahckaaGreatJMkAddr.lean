/-
  The address that a list of choices makes: it is valid, and of the family that is asked for.
-/
import Derived.Test.YtnbkffehhahckaaGreatJZ1
import Derived.Deep.CutBlock
import Derived.Deep.RegionHeld3
import Derived.Deep.RegionWith
namespace Go.Proofs.YtnbkffehhahckaaGreat
open Go.RowKit
set_option linter.unusedVariables false
structure DrawA (f : Int) (x : Ad) : Prop where
  fam : x.f = f
  fit : FitA x
  ok : validA x = true
structure AS (W w wx : World) (k : Nat) (x : Ad) : Prop where
  cod : Cod W wx k
  gr : w.grownBy wx (some k)
  R : AdIn wx w.heap.size zeroA
  A : AdIn wx (w.heap.size + 1) x
theorem AS.grown {W w wx wy : World} {k : Nat} {x : Ad} (h : AS W w wx k x) (hk : k < w.heap.size) (hc : Cod W wy k) (hg : wx.grownBy wy (some k)) : AS W w wy k x :=
  ⟨hc, grown_trans h.gr hg, h.R.grown hg (by simp; omega), h.A.grown hg (by simp; omega)⟩
theorem AS.alloc {W w wx : World} {k : Nat} {x : Ad} (h : AS W w wx k x) (o : Obj) : AS W w (wx.alloc o) k x :=
  ⟨h.cod.alloc o, grown_alloc_new h.gr o, h.R.alloc o, h.A.alloc o⟩
theorem AS.drew {W w wx : World} {k : Nat} {x : Ad} (h : AS W w wx k x) : AS W w wx.drew k x :=
  ⟨h.cod.below (drew_below ⟨1, rfl⟩), grown_trans h.gr (grown_drewN wx 1 _), h.R.below (drew_below ⟨1, rfl⟩), h.A.below (drew_below ⟨1, rfl⟩)⟩
theorem AS.setL {W w wx : World} {k : Nat} {x : Ad} (h : AS W w wx k x) (hb : W.heap.size ≤ w.heap.size) (hk : k < w.heap.size) (z : Int) : AS W w (wx.setCell ⟨w.heap.size + 1, 2, none⟩ (.int .u64 z)) k { x with l := z } :=
  ⟨h.cod.set _ _ _ (by omega) (by omega), grown_set_new h.gr _ _ _ (by omega), h.R.set_ne _ _ _ (by omega), h.A.setL z⟩
theorem AS.setH {W w wx : World} {k : Nat} {x : Ad} (h : AS W w wx k x) (hb : W.heap.size ≤ w.heap.size) (hk : k < w.heap.size) (z : Int) : AS W w (wx.setCell ⟨w.heap.size + 1, 1, none⟩ (.int .u64 z)) k { x with h := z } :=
  ⟨h.cod.set _ _ _ (by omega) (by omega), grown_set_new h.gr _ _ _ (by omega), h.R.set_ne _ _ _ (by omega), h.A.setH z⟩
theorem AS.ret {W w wx : World} {k : Nat} {x : Ad} (h : AS W w wx k x) (hb : W.heap.size ≤ w.heap.size) (hk : k < w.heap.size) :
    AdIn (((wx.setCell ⟨w.heap.size, 0, none⟩ (.int .i64 x.f)).setCell ⟨w.heap.size, 1, none⟩ (.int .u64 x.h)).setCell ⟨w.heap.size, 2, none⟩ (.int .u64 x.l)) w.heap.size x ∧
    Cod W (((wx.setCell ⟨w.heap.size, 0, none⟩ (.int .i64 x.f)).setCell ⟨w.heap.size, 1, none⟩ (.int .u64 x.h)).setCell ⟨w.heap.size, 2, none⟩ (.int .u64 x.l)) k ∧
    w.grownBy (((wx.setCell ⟨w.heap.size, 0, none⟩ (.int .i64 x.f)).setCell ⟨w.heap.size, 1, none⟩ (.int .u64 x.h)).setCell ⟨w.heap.size, 2, none⟩ (.int .u64 x.l)) (some k) := by
  refine ⟨?_, ((h.cod.set _ _ _ (by omega) (by omega)).set _ _ _ (by omega) (by omega)).set _ _ _ (by omega) (by omega), grown_set_new (grown_set_new (grown_set_new h.gr _ _ _ (by omega)) _ _ _ (by omega)) _ _ _ (by omega)⟩
  obtain ⟨c0, c1, c2, fr⟩ := h.R
  exact ⟨by go_simp, by go_simp, by go_simp, fun j => by rw [World.frozen?_setCell, World.frozen?_setCell, World.frozen?_setCell]; exact fr j⟩
theorem row_cell (w w' : World) (k : Nat) (l : List Value) (T : TypeId) (j : Nat) (u : Value) (hu : l[j]? = some u) (hk : k < w.heap.size) (hg : (w.alloc (.cells l.toArray T)).grownBy w' (some k)) : w'.cell? ⟨w.heap.size, j, none⟩ = some u :=
  hg.cell (by rw [World.cell?_alloc_at _ _ _ _ rfl]; simpa using hu) (by simp; omega)
theorem lo4 (j : Nat) (hj : j < 4) : ∃ t : Int, (#[Value.int .u64 167772160, .int .u64 3232235520, .int .u64 0, .int .u64 4294967288] : Array Value)[j]? = some (.int .u64 t) ∧ ([Value.int .u64 167772160, .int .u64 3232235520, .int .u64 0, .int .u64 4294967288] : List Value)[j]? = some (.int .u64 t) ∧ 0 ≤ t ∧ t ≤ 4294967288 := by
  have : j = 0 ∨ j = 1 ∨ j = 2 ∨ j = 3 := by omega
  rcases this with rfl | rfl | rfl | rfl
  · exact ⟨_, rfl, rfl, by omega, by omega⟩
  · exact ⟨_, rfl, rfl, by omega, by omega⟩
  · exact ⟨_, rfl, rfl, by omega, by omega⟩
  · exact ⟨_, rfl, rfl, by omega, by omega⟩
theorem hi6 (j : Nat) (hj : j < 3) : ∃ t : Int, (#[Value.int .u64 2306139568115548160, .int .u64 0, .int .u64 18446744073709551615] : Array Value)[j]? = some (.int .u64 t) ∧ ([Value.int .u64 2306139568115548160, .int .u64 0, .int .u64 18446744073709551615] : List Value)[j]? = some (.int .u64 t) ∧ 0 ≤ t ∧ t ≤ 18446744073709551615 := by
  have : j = 0 ∨ j = 1 ∨ j = 2 := by omega
  rcases this with rfl | rfl | rfl
  · exact ⟨_, rfl, rfl, by omega, by omega⟩
  · exact ⟨_, rfl, rfl, by omega, by omega⟩
  · exact ⟨_, rfl, rfl, by omega, by omega⟩
theorem lo6 (j : Nat) (hj : j < 3) : ∃ t : Int, (#[Value.int .u64 0, .int .u64 18446744073709551608, .int .u64 9223372036854775808] : Array Value)[j]? = some (.int .u64 t) ∧ ([Value.int .u64 0, .int .u64 18446744073709551608, .int .u64 9223372036854775808] : List Value)[j]? = some (.int .u64 t) ∧ 0 ≤ t ∧ t ≤ 18446744073709551608 := by
  have : j = 0 ∨ j = 1 ∨ j = 2 := by omega
  rcases this with rfl | rfl | rfl
  · exact ⟨_, rfl, rfl, by omega, by omega⟩
  · exact ⟨_, rfl, rfl, by omega, by omega⟩
  · exact ⟨_, rfl, rfl, by omega, by omega⟩
def MadeA (W w : World) (k : Nat) (f : Int) (e : Ending) (w' : World) : Prop := ∃ x : Ad, e = .returned (.agg #[.int .i64 x.f, .int .u64 x.h, .int .u64 x.l]) ∧ DrawA f x ∧ Cod W w' k ∧ w.grownBy w' (some k)
set_option maxHeartbeats 1600000 in
set_option maxRecDepth 100000 in
theorem addr4_any (W w : World) (k : Nat) (h : Cod W w k) :
    Calls Tryz.prog 86 #[.pointer (some ⟨k, 0, none⟩), .int .i64 4] w (MadeA W w k 4) := by
  have hk := h.lt
  have hbase := h.bel.size
  have H0 := hidden (show AS W w ((w.alloc (.cells #[.int .i64 0, .int .u64 0, .int .u64 0] 111)).alloc (.cells #[.int .i64 4, .int .u64 0, .int .u64 0] 111)) k ⟨4, 0, 0⟩ from
    ⟨(h.alloc _).alloc _, grown_alloc_new (World.grownBy_alloc w _ _) _, (AdIn.new w zeroA 111).alloc _, by
      have := AdIn.new (w.alloc (.cells #[.int .i64 0, .int .u64 0, .int .u64 0] 111)) ⟨4, 0, 0⟩ 111
      simpa using this⟩)
  clear h
  go_enter Tryz.func86, Tryz.ntmps86
  go_upto_region 3 with fail
  generalize hw0 : (w.alloc (.cells #[.int .i64 0, .int .u64 0, .int .u64 0] 111)).alloc (.cells #[.int .i64 4, .int .u64 0, .int .u64 0] 111) = w0 at *
  clear hw0
  go_cut [] from 10 to 19 (fun wx => ∃ l : Int, 0 ≤ l ∧ l ≤ 4294967295 ∧ AS W w wx k ⟨4, 0, l⟩)
  case first =>
    have HD := hidden H0.out.drew
    have hkw : k < w0.heap.size := H0.out.cod.lt
    have hAw := H0.out.A.lt
    go_region_with (first
      | (go_at_call_of 13 (Value.int IntKind.i64 4); (with_reducible refine (next_any W _ k ?_ _ ?_).mono ?_); (first | exact HD.out.cod | exact HD.out.cod.alloc _ | exact (H0.out.alloc _).drew.cod); omega; rintro e wA ⟨j, rfl, j0, j1, hcA, hgA⟩; obtain ⟨j, rfl⟩ := Int.eq_ofNat_of_zero_le j0; obtain ⟨t, hta, htl, t0, t1⟩ := lo4 j (by omega); have HA1 : Hid (AS W w wA k ⟨4, 0, 0⟩) := (by first | exact HD.out.grown hk hcA hgA | exact (HD.out.alloc _).grown hk hcA hgA | exact (H0.out.alloc _).drew.grown hk hcA hgA); obtain ⟨a0, a1, a2, af⟩ := HA1.out.A; have hAA := HA1.out.A.lt; have hkA : k < wA.heap.size := hcA.lt; (try have hcI : wA.cell? ⟨w0.heap.size, j, none⟩ = some (.int .u64 t) := row_cell w0.drew wA k _ _ j _ htl (by simp; omega) hgA); have hzA : w0.heap.size ≤ wA.heap.size := by have := hgA.size; simp at this; omega)
      | (go_at_call_of 13 (Value.int IntKind.i64 8); (with_reducible refine (next_any W _ k ?_ _ ?_).mono ?_); (first | exact hcA | exact hcA.alloc _); omega; rintro e wD ⟨v, rfl, v0, v1, hcD, hgD⟩; have HA2 : Hid (AS W w wD k ⟨4, 0, 0⟩) := (by first | exact HA1.out.grown hk hcD hgD | exact (HA1.out.alloc _).grown hk hcD hgD); obtain ⟨a0, a1, a2, af⟩ := HA2.out.A; have hAD := HA2.out.A.lt; have hw1 : IntKind.u64.wrap v = v := (by rw [IntKind.wrap_u64]; omega); have hw2 : IntKind.u64.wrap (t + v) = t + v := (by rw [IntKind.wrap_u64]; omega); (try have hcJ : wD.cell? ⟨w0.heap.size, j, none⟩ = some (.int .u64 t) := hgD.cell hcI (by simp; omega)); (try have hcK : wD.cell? ⟨wA.heap.size, j, none⟩ = some (.int .u64 t) := row_cell wA wD k _ _ j _ htl hkA hgD))
      | fail)
    all_goals
      clear hcA hgA hcD hgD HA1 HD
      go_wp2_with fail
      go_meet
    all_goals (case rel => first | exact ⟨t + v, by omega, by omega, HA2.out.setL hbase hk _⟩ | exact ⟨t + v, by omega, by omega, (HA2.out.alloc _).setL hbase hk _⟩ | exact ⟨t + v, by omega, by omega, (HA2.out.setL hbase hk _).alloc _⟩)
  case rest =>
    obtain ⟨l, l0, l1, has⟩ := hcut
    have HS := hidden has
    obtain ⟨a0, a1, a2, -⟩ := has.A
    obtain ⟨r0, r1, r2, rf⟩ := has.R
    clear has H0
    go_wp2
    obtain ⟨z1, z2, z3⟩ := HS.out.ret hbase hk
    refine ret_ad (g := w.heap.size) (x := ⟨4, 0, l⟩) rfl rfl rfl z1 ?_
    exact ⟨⟨4, 0, l⟩, rfl, ⟨rfl, ⟨by simp, by simp, by simp; omega⟩, by simp [validA]; omega⟩, z2, z3⟩
set_option maxHeartbeats 1600000 in
set_option maxRecDepth 100000 in
theorem addr6_any (W w : World) (k : Nat) (h : Cod W w k) :
    Calls Tryz.prog 86 #[.pointer (some ⟨k, 0, none⟩), .int .i64 6] w (MadeA W w k 6) := by
  have hk := h.lt
  have hbase := h.bel.size
  have H0 := hidden (show AS W w ((w.alloc (.cells #[.int .i64 0, .int .u64 0, .int .u64 0] 111)).alloc (.cells #[.int .i64 6, .int .u64 0, .int .u64 0] 111)) k ⟨6, 0, 0⟩ from
    ⟨(h.alloc _).alloc _, grown_alloc_new (World.grownBy_alloc w _ _) _, (AdIn.new w zeroA 111).alloc _, by
      have := AdIn.new (w.alloc (.cells #[.int .i64 0, .int .u64 0, .int .u64 0] 111)) ⟨6, 0, 0⟩ 111
      simpa using this⟩)
  clear h
  go_enter Tryz.func86, Tryz.ntmps86
  go_upto_region 6 with (go_at_call 13; (with_reducible refine (next_any W _ k ?_ _ ?_).mono ?_); exact H0.out.cod.alloc _; omega; rintro e wA ⟨j, rfl, j0, j1, hcA, hgA⟩; obtain ⟨j, rfl⟩ := Int.eq_ofNat_of_zero_le j0; obtain ⟨m, hta, htl, m0, m1⟩ := hi6 j (by omega); have HA0 : Hid (AS W w wA k ⟨6, 0, 0⟩) := (H0.out.alloc _).grown hk hcA hgA; obtain ⟨a0, a1, a2, af⟩ := HA0.out.A; have hcI : wA.cell? ⟨w.heap.size + 1 + 1, j, none⟩ = some (.int .u64 m) := (by have := row_cell _ wA k _ _ j _ htl H0.out.cod.lt hgA; simpa using this); clear hcA hgA H0)
  have H1 := hidden (HA0.out.setH hbase hk m)
  clear a0 a1 a2 af hcI HA0
  generalize wA.setCell ⟨w.heap.size + 1, 1, none⟩ (.int .u64 m) = w1 at *
  go_cut [] from 27 to 36 (fun wx => ∃ l : Int, 0 ≤ l ∧ l ≤ 18446744073709551615 ∧ AS W w wx k ⟨6, m, l⟩)
  case first =>
    have HD := hidden H1.out.drew
    have hkw : k < w1.heap.size := H1.out.cod.lt
    have hAw := H1.out.A.lt
    go_region_with (first
      | (go_at_call_of 13 (Value.int IntKind.i64 3); (with_reducible refine (next_any W _ k ?_ _ ?_).mono ?_); (first | exact HD.out.cod | exact HD.out.cod.alloc _ | exact (H1.out.alloc _).drew.cod); omega; rintro e wB ⟨j, rfl, j0, j1, hcA, hgA⟩; obtain ⟨j, rfl⟩ := Int.eq_ofNat_of_zero_le j0; obtain ⟨t, hta, htl, t0, t1⟩ := lo6 j (by omega); have HA1 : Hid (AS W w wB k ⟨6, m, 0⟩) := (by first | exact HD.out.grown hk hcA hgA | exact (HD.out.alloc _).grown hk hcA hgA | exact (H1.out.alloc _).drew.grown hk hcA hgA); obtain ⟨a0, a1, a2, af⟩ := HA1.out.A; have hAA := HA1.out.A.lt; have hkA : k < wB.heap.size := hcA.lt; (try have hcI : wB.cell? ⟨w1.heap.size, j, none⟩ = some (.int .u64 t) := row_cell w1.drew wB k _ _ j _ htl (by simp; omega) hgA); have hzA : w1.heap.size ≤ wB.heap.size := by have := hgA.size; simp at this; omega)
      | (go_at_call_of 13 (Value.int IntKind.i64 8); (with_reducible refine (next_any W _ k ?_ _ ?_).mono ?_); (first | exact hcA | exact hcA.alloc _); omega; rintro e wD ⟨v, rfl, v0, v1, hcD, hgD⟩; have HA2 : Hid (AS W w wD k ⟨6, m, 0⟩) := (by first | exact HA1.out.grown hk hcD hgD | exact (HA1.out.alloc _).grown hk hcD hgD); obtain ⟨a0, a1, a2, af⟩ := HA2.out.A; have hAD := HA2.out.A.lt; have hw1 : IntKind.u64.wrap v = v := (by rw [IntKind.wrap_u64]; omega); have hw2 : IntKind.u64.wrap (t + v) = t + v := (by rw [IntKind.wrap_u64]; omega); (try have hcJ : wD.cell? ⟨w1.heap.size, j, none⟩ = some (.int .u64 t) := hgD.cell hcI (by simp; omega)); (try have hcK : wD.cell? ⟨wB.heap.size, j, none⟩ = some (.int .u64 t) := row_cell wB wD k _ _ j _ htl hkA hgD))
      | fail)
    all_goals
      clear hcA hgA hcD hgD HA1 HD
      go_wp2_with fail
      go_meet
    all_goals (case rel => first | exact ⟨t + v, by omega, by omega, HA2.out.setL hbase hk _⟩ | exact ⟨t + v, by omega, by omega, (HA2.out.alloc _).setL hbase hk _⟩ | exact ⟨t + v, by omega, by omega, (HA2.out.setL hbase hk _).alloc _⟩)
  case rest =>
    obtain ⟨l, l0, l1, has⟩ := hcut
    have HS := hidden has
    obtain ⟨a0, a1, a2, -⟩ := has.A
    obtain ⟨r0, r1, r2, rf⟩ := has.R
    clear has H1
    go_wp2
    obtain ⟨z1, z2, z3⟩ := HS.out.ret hbase hk
    refine ret_ad (g := w.heap.size) (x := ⟨6, m, l⟩) rfl rfl rfl z1 ?_
    exact ⟨⟨6, m, l⟩, rfl, ⟨rfl, ⟨by simp, by simp; omega, by simp; omega⟩, by simp [validA]⟩, z2, z3⟩
theorem addr_any (W w : World) (k : Nat) (h : Cod W w k) (f : Int) (hf : f = 4 ∨ f = 6) :
    Calls Tryz.prog 86 #[.pointer (some ⟨k, 0, none⟩), .int .i64 f] w (MadeA W w k f) := by
  rcases hf with rfl | rfl
  · exact addr4_any W w k h
  · exact addr6_any W w k h
end Go.Proofs.YtnbkffehhahckaaGreat
