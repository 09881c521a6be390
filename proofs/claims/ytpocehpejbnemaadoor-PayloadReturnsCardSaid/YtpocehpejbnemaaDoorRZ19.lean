/-
  The address that a list of choices makes: it is valid, and of the family that is asked for.
  The first and the last address of a prefix, as the document's own text computes them: both are valid, and the address lies between them.
-/
import Derived.Test.YtpocehpejbnemaaDoorRZ1
import Derived.Deep.CutBlock
import Derived.Deep.RegionHeld3
import Derived.Deep.RegionWith
import Derived.Laws.BitsLemmas
namespace Go.Proofs.YtpocehpejbnemaaDoor
open Go.RowKit
set_option linter.unusedVariables false

/-- An address of a family, as it is drawn. -/
structure DrawA (f : Int) (x : Ad) : Prop where
  fam : x.f = f
  fit : FitA x
  ok : validA x = true

/-- Where Address stands: its result, its own address. -/
structure AS (W w wx : World) (k : Nat) (x : Ad) : Prop where
  cod : Cod W wx k
  gr : w.grownBy wx (some k)
  R : AdIn wx w.heap.size zeroA
  A : AdIn wx (w.heap.size + 1) x
theorem AS.grown {W w wx wy : World} {k : Nat} {x : Ad} (h : AS W w wx k x) (hk : k < w.heap.size) (hc : Cod W wy k) (hg : wx.grownBy wy (some k)) : AS W w wy k x :=
  ⟨hc, grown_trans h.gr hg, h.R.grown hg (by simp; omega), h.A.grown hg (by simp; omega)⟩
theorem AS.alloc {W w wx : World} {k : Nat} {x : Ad} (h : AS W w wx k x) (o : Obj) : AS W w (wx.alloc o) k x :=
  ⟨h.cod.alloc o, grown_alloc_new h.gr o, h.R.alloc o, h.A.alloc o⟩
theorem AS.drew {W w wx : World} {k : Nat} {x : Ad} (h : AS W w wx k x) : AS W w wx.drew k x :=
  ⟨h.cod.below (drew_below ⟨1, rfl⟩), grown_trans h.gr (grown_drewN wx 1 _), h.R.below (drew_below ⟨1, rfl⟩), h.A.below (drew_below ⟨1, rfl⟩)⟩
theorem AS.setL {W w wx : World} {k : Nat} {x : Ad} (h : AS W w wx k x) (hb : W.heap.size ≤ w.heap.size) (hk : k < w.heap.size) (z : Int) : AS W w (wx.setCell ⟨w.heap.size + 1, 2, none⟩ (.int .u64 z)) k { x with l := z } :=
  ⟨h.cod.set _ _ _ (by omega) (by omega), grown_set_new h.gr _ _ _ (by omega), h.R.set_ne _ _ _ (by omega), h.A.setL z⟩
theorem AS.setH {W w wx : World} {k : Nat} {x : Ad} (h : AS W w wx k x) (hb : W.heap.size ≤ w.heap.size) (hk : k < w.heap.size) (z : Int) : AS W w (wx.setCell ⟨w.heap.size + 1, 1, none⟩ (.int .u64 z)) k { x with h := z } :=
  ⟨h.cod.set _ _ _ (by omega) (by omega), grown_set_new h.gr _ _ _ (by omega), h.R.set_ne _ _ _ (by omega), h.A.setH z⟩
/-- The address is put into the result. -/
theorem AS.ret {W w wx : World} {k : Nat} {x : Ad} (h : AS W w wx k x) (hb : W.heap.size ≤ w.heap.size) (hk : k < w.heap.size) :
    AdIn (((wx.setCell ⟨w.heap.size, 0, none⟩ (.int .i64 x.f)).setCell ⟨w.heap.size, 1, none⟩ (.int .u64 x.h)).setCell ⟨w.heap.size, 2, none⟩ (.int .u64 x.l)) w.heap.size x ∧
    Cod W (((wx.setCell ⟨w.heap.size, 0, none⟩ (.int .i64 x.f)).setCell ⟨w.heap.size, 1, none⟩ (.int .u64 x.h)).setCell ⟨w.heap.size, 2, none⟩ (.int .u64 x.l)) k ∧
    w.grownBy (((wx.setCell ⟨w.heap.size, 0, none⟩ (.int .i64 x.f)).setCell ⟨w.heap.size, 1, none⟩ (.int .u64 x.h)).setCell ⟨w.heap.size, 2, none⟩ (.int .u64 x.l)) (some k) := by
  refine ⟨?_, ((h.cod.set _ _ _ (by omega) (by omega)).set _ _ _ (by omega) (by omega)).set _ _ _ (by omega) (by omega), grown_set_new (grown_set_new (grown_set_new h.gr _ _ _ (by omega)) _ _ _ (by omega)) _ _ _ (by omega)⟩
  obtain ⟨c0, c1, c2, fr⟩ := h.R
  exact ⟨by go_simp, by go_simp, by go_simp, fun j => by rw [World.frozen?_setCell, World.frozen?_setCell, World.frozen?_setCell]; exact fr j⟩

/-- An element of a row that was laid out, behind a call that only writes the choices. -/
theorem row_cell (w w' : World) (k : Nat) (l : List Value) (T : TypeId) (j : Nat) (u : Value) (hu : l[j]? = some u) (hk : k < w.heap.size) (hg : (w.alloc (.cells l.toArray T)).grownBy w' (some k)) : w'.cell? ⟨w.heap.size, j, none⟩ = some u :=
  hg.cell (by rw [World.cell?_alloc_at _ _ _ _ rfl]; simpa using hu) (by simp; omega)
theorem lo4 (j : Nat) (hj : j < 4) : ∃ t : Int, (#[Value.int .u64 167772160, .int .u64 3232235520, .int .u64 0, .int .u64 4294967288] : Array Value)[j]? = some (.int .u64 t) ∧ ([Value.int .u64 167772160, .int .u64 3232235520, .int .u64 0, .int .u64 4294967288] : List Value)[j]? = some (.int .u64 t) ∧ 0 ≤ t ∧ t ≤ 4294967288 := by
  have : j = 0 ∨ j = 1 ∨ j = 2 ∨ j = 3 := by omega
  rcases this with rfl | rfl | rfl | rfl
  · exact ⟨_, rfl, rfl, by omega, by omega⟩
  · exact ⟨_, rfl, rfl, by omega, by omega⟩
  · exact ⟨_, rfl, rfl, by omega, by omega⟩
  · exact ⟨_, rfl, rfl, by omega, by omega⟩
theorem hi6 (j : Nat) (hj : j < 3) : ∃ t : Int, (#[Value.int .u64 2306139568115548160, .int .u64 0, .int .u64 18446744073709551615] : Array Value)[j]? = some (.int .u64 t) ∧ ([Value.int .u64 2306139568115548160, .int .u64 0, .int .u64 18446744073709551615] : List Value)[j]? = some (.int .u64 t) ∧ 0 ≤ t ∧ t ≤ 18446744073709551615 := by
  have : j = 0 ∨ j = 1 ∨ j = 2 := by omega
  rcases this with rfl | rfl | rfl
  · exact ⟨_, rfl, rfl, by omega, by omega⟩
  · exact ⟨_, rfl, rfl, by omega, by omega⟩
  · exact ⟨_, rfl, rfl, by omega, by omega⟩
theorem lo6 (j : Nat) (hj : j < 3) : ∃ t : Int, (#[Value.int .u64 0, .int .u64 18446744073709551608, .int .u64 9223372036854775808] : Array Value)[j]? = some (.int .u64 t) ∧ ([Value.int .u64 0, .int .u64 18446744073709551608, .int .u64 9223372036854775808] : List Value)[j]? = some (.int .u64 t) ∧ 0 ≤ t ∧ t ≤ 18446744073709551608 := by
  have : j = 0 ∨ j = 1 ∨ j = 2 := by omega
  rcases this with rfl | rfl | rfl
  · exact ⟨_, rfl, rfl, by omega, by omega⟩
  · exact ⟨_, rfl, rfl, by omega, by omega⟩
  · exact ⟨_, rfl, rfl, by omega, by omega⟩

/-- What Address returns. -/
def MadeA (W w : World) (k : Nat) (f : Int) (e : Ending) (w' : World) : Prop := ∃ x : Ad, e = .returned (.agg #[.int .i64 x.f, .int .u64 x.h, .int .u64 x.l]) ∧ DrawA f x ∧ Cod W w' k ∧ w.grownBy w' (some k)

set_option maxHeartbeats 1600000 in
set_option maxRecDepth 100000 in
theorem addr4_any (W w : World) (k : Nat) (h : Cod W w k) :
    Calls Tryd.prog 123 #[.pointer (some ⟨k, 0, none⟩), .int .i64 4] w (MadeA W w k 4) := by
  have hk := h.lt
  have hbase := h.bel.size
  have H0 := hidden (show AS W w ((w.alloc (.cells #[.int .i64 0, .int .u64 0, .int .u64 0] 115)).alloc (.cells #[.int .i64 4, .int .u64 0, .int .u64 0] 115)) k ⟨4, 0, 0⟩ from
    ⟨(h.alloc _).alloc _, grown_alloc_new (World.grownBy_alloc w _ _) _, (AdIn.new w zeroA 115).alloc _, by
      have := AdIn.new (w.alloc (.cells #[.int .i64 0, .int .u64 0, .int .u64 0] 115)) ⟨4, 0, 0⟩ 115
      simpa using this⟩)
  clear h
  go_enter Tryd.func123, Tryd.ntmps123
  go_upto_region 3 with fail
  generalize hw0 : (w.alloc (.cells #[.int .i64 0, .int .u64 0, .int .u64 0] 115)).alloc (.cells #[.int .i64 4, .int .u64 0, .int .u64 0] 115) = w0 at *
  clear hw0
  go_cut [] from 10 to 19 (fun wx => ∃ l : Int, 0 ≤ l ∧ l ≤ 4294967295 ∧ AS W w wx k ⟨4, 0, l⟩)
  case first =>
    have HD := hidden H0.out.drew
    have hkw : k < w0.heap.size := H0.out.cod.lt
    have hAw := H0.out.A.lt
    go_region_with (first
      | (go_at_call_of 28 (Value.int IntKind.i64 4); (with_reducible refine (next_any W _ k ?_ _ ?_).mono ?_); (first | exact HD.out.cod | exact HD.out.cod.alloc _ | exact (H0.out.alloc _).drew.cod); omega; rintro e wA ⟨j, rfl, j0, j1, hcA, hgA⟩; obtain ⟨j, rfl⟩ := Int.eq_ofNat_of_zero_le j0; obtain ⟨t, hta, htl, t0, t1⟩ := lo4 j (by omega); have HA1 : Hid (AS W w wA k ⟨4, 0, 0⟩) := (by first | exact HD.out.grown hk hcA hgA | exact (HD.out.alloc _).grown hk hcA hgA | exact (H0.out.alloc _).drew.grown hk hcA hgA); obtain ⟨a0, a1, a2, af⟩ := HA1.out.A; have hAA := HA1.out.A.lt; have hkA : k < wA.heap.size := hcA.lt; (try have hcI : wA.cell? ⟨w0.heap.size, j, none⟩ = some (.int .u64 t) := row_cell w0.drew wA k _ _ j _ htl (by simp; omega) hgA); have hzA : w0.heap.size ≤ wA.heap.size := by have := hgA.size; simp at this; omega)
      | (go_at_call_of 28 (Value.int IntKind.i64 8); (with_reducible refine (next_any W _ k ?_ _ ?_).mono ?_); (first | exact hcA | exact hcA.alloc _); omega; rintro e wD ⟨v, rfl, v0, v1, hcD, hgD⟩; have HA2 : Hid (AS W w wD k ⟨4, 0, 0⟩) := (by first | exact HA1.out.grown hk hcD hgD | exact (HA1.out.alloc _).grown hk hcD hgD); obtain ⟨a0, a1, a2, af⟩ := HA2.out.A; have hAD := HA2.out.A.lt; have hw1 : IntKind.u64.wrap v = v := (by rw [IntKind.wrap_u64]; omega); have hw2 : IntKind.u64.wrap (t + v) = t + v := (by rw [IntKind.wrap_u64]; omega); (try have hcJ : wD.cell? ⟨w0.heap.size, j, none⟩ = some (.int .u64 t) := hgD.cell hcI (by simp; omega)); (try have hcK : wD.cell? ⟨wA.heap.size, j, none⟩ = some (.int .u64 t) := row_cell wA wD k _ _ j _ htl hkA hgD))
      | fail)
    all_goals
      clear hcA hgA hcD hgD HA1 HD
      go_wp2_with fail
      go_meet
    all_goals (case rel => first | exact ⟨t + v, by omega, by omega, HA2.out.setL hbase hk _⟩ | exact ⟨t + v, by omega, by omega, (HA2.out.alloc _).setL hbase hk _⟩ | exact ⟨t + v, by omega, by omega, (HA2.out.setL hbase hk _).alloc _⟩)
  case rest =>
    obtain ⟨l, l0, l1, has⟩ := hcut
    have HS := hidden has
    obtain ⟨a0, a1, a2, -⟩ := has.A
    obtain ⟨r0, r1, r2, rf⟩ := has.R
    clear has H0
    go_wp2
    obtain ⟨z1, z2, z3⟩ := HS.out.ret hbase hk
    refine ret_ad (g := w.heap.size) (x := ⟨4, 0, l⟩) rfl rfl rfl z1 ?_
    exact ⟨⟨4, 0, l⟩, rfl, ⟨rfl, ⟨by simp, by simp, by simp; omega⟩, by simp [validA]; omega⟩, z2, z3⟩

set_option maxHeartbeats 1600000 in
set_option maxRecDepth 100000 in
theorem addr6_any (W w : World) (k : Nat) (h : Cod W w k) :
    Calls Tryd.prog 123 #[.pointer (some ⟨k, 0, none⟩), .int .i64 6] w (MadeA W w k 6) := by
  have hk := h.lt
  have hbase := h.bel.size
  have H0 := hidden (show AS W w ((w.alloc (.cells #[.int .i64 0, .int .u64 0, .int .u64 0] 115)).alloc (.cells #[.int .i64 6, .int .u64 0, .int .u64 0] 115)) k ⟨6, 0, 0⟩ from
    ⟨(h.alloc _).alloc _, grown_alloc_new (World.grownBy_alloc w _ _) _, (AdIn.new w zeroA 115).alloc _, by
      have := AdIn.new (w.alloc (.cells #[.int .i64 0, .int .u64 0, .int .u64 0] 115)) ⟨6, 0, 0⟩ 115
      simpa using this⟩)
  clear h
  go_enter Tryd.func123, Tryd.ntmps123
  go_upto_region 6 with (go_at_call 28; (with_reducible refine (next_any W _ k ?_ _ ?_).mono ?_); exact H0.out.cod.alloc _; omega; rintro e wA ⟨j, rfl, j0, j1, hcA, hgA⟩; obtain ⟨j, rfl⟩ := Int.eq_ofNat_of_zero_le j0; obtain ⟨m, hta, htl, m0, m1⟩ := hi6 j (by omega); have HA0 : Hid (AS W w wA k ⟨6, 0, 0⟩) := (H0.out.alloc _).grown hk hcA hgA; obtain ⟨a0, a1, a2, af⟩ := HA0.out.A; have hcI : wA.cell? ⟨w.heap.size + 1 + 1, j, none⟩ = some (.int .u64 m) := (by have := row_cell _ wA k _ _ j _ htl H0.out.cod.lt hgA; simpa using this); clear hcA hgA H0)
  have H1 := hidden (HA0.out.setH hbase hk m)
  clear a0 a1 a2 af hcI HA0
  generalize wA.setCell ⟨w.heap.size + 1, 1, none⟩ (.int .u64 m) = w1 at *
  go_cut [] from 27 to 36 (fun wx => ∃ l : Int, 0 ≤ l ∧ l ≤ 18446744073709551615 ∧ AS W w wx k ⟨6, m, l⟩)
  case first =>
    have HD := hidden H1.out.drew
    have hkw : k < w1.heap.size := H1.out.cod.lt
    have hAw := H1.out.A.lt
    go_region_with (first
      | (go_at_call_of 28 (Value.int IntKind.i64 3); (with_reducible refine (next_any W _ k ?_ _ ?_).mono ?_); (first | exact HD.out.cod | exact HD.out.cod.alloc _ | exact (H1.out.alloc _).drew.cod); omega; rintro e wB ⟨j, rfl, j0, j1, hcA, hgA⟩; obtain ⟨j, rfl⟩ := Int.eq_ofNat_of_zero_le j0; obtain ⟨t, hta, htl, t0, t1⟩ := lo6 j (by omega); have HA1 : Hid (AS W w wB k ⟨6, m, 0⟩) := (by first | exact HD.out.grown hk hcA hgA | exact (HD.out.alloc _).grown hk hcA hgA | exact (H1.out.alloc _).drew.grown hk hcA hgA); obtain ⟨a0, a1, a2, af⟩ := HA1.out.A; have hAA := HA1.out.A.lt; have hkA : k < wB.heap.size := hcA.lt; (try have hcI : wB.cell? ⟨w1.heap.size, j, none⟩ = some (.int .u64 t) := row_cell w1.drew wB k _ _ j _ htl (by simp; omega) hgA); have hzA : w1.heap.size ≤ wB.heap.size := by have := hgA.size; simp at this; omega)
      | (go_at_call_of 28 (Value.int IntKind.i64 8); (with_reducible refine (next_any W _ k ?_ _ ?_).mono ?_); (first | exact hcA | exact hcA.alloc _); omega; rintro e wD ⟨v, rfl, v0, v1, hcD, hgD⟩; have HA2 : Hid (AS W w wD k ⟨6, m, 0⟩) := (by first | exact HA1.out.grown hk hcD hgD | exact (HA1.out.alloc _).grown hk hcD hgD); obtain ⟨a0, a1, a2, af⟩ := HA2.out.A; have hAD := HA2.out.A.lt; have hw1 : IntKind.u64.wrap v = v := (by rw [IntKind.wrap_u64]; omega); have hw2 : IntKind.u64.wrap (t + v) = t + v := (by rw [IntKind.wrap_u64]; omega); (try have hcJ : wD.cell? ⟨w1.heap.size, j, none⟩ = some (.int .u64 t) := hgD.cell hcI (by simp; omega)); (try have hcK : wD.cell? ⟨wB.heap.size, j, none⟩ = some (.int .u64 t) := row_cell wB wD k _ _ j _ htl hkA hgD))
      | fail)
    all_goals
      clear hcA hgA hcD hgD HA1 HD
      go_wp2_with fail
      go_meet
    all_goals (case rel => first | exact ⟨t + v, by omega, by omega, HA2.out.setL hbase hk _⟩ | exact ⟨t + v, by omega, by omega, (HA2.out.alloc _).setL hbase hk _⟩ | exact ⟨t + v, by omega, by omega, (HA2.out.setL hbase hk _).alloc _⟩)
  case rest =>
    obtain ⟨l, l0, l1, has⟩ := hcut
    have HS := hidden has
    obtain ⟨a0, a1, a2, -⟩ := has.A
    obtain ⟨r0, r1, r2, rf⟩ := has.R
    clear has H1
    go_wp2
    obtain ⟨z1, z2, z3⟩ := HS.out.ret hbase hk
    refine ret_ad (g := w.heap.size) (x := ⟨6, m, l⟩) rfl rfl rfl z1 ?_
    exact ⟨⟨6, m, l⟩, rfl, ⟨rfl, ⟨by simp, by simp; omega, by simp; omega⟩, by simp [validA]⟩, z2, z3⟩
theorem addr_any (W w : World) (k : Nat) (h : Cod W w k) (f : Int) (hf : f = 4 ∨ f = 6) :
    Calls Tryd.prog 123 #[.pointer (some ⟨k, 0, none⟩), .int .i64 f] w (MadeA W w k f) := by
  rcases hf with rfl | rfl
  · exact addr4_any W w k h
  · exact addr6_any W w k h
end Go.Proofs.YtpocehpejbnemaaDoor

namespace Go.Proofs.YtpocehpejbnemaaDoor
open Go.RowKit
set_option linter.unusedVariables false

theorem andNot_le (x y : Int) (h0 : 0 ≤ x) (h1 : x ≤ 18446744073709551615) : bits .andNot .u64 x y ≤ x := by
  obtain ⟨a, rfl⟩ := Int.eq_ofNat_of_zero_le h0
  have h2 : (BitVec.ofInt 64 (a : Int)).toNat = a := by
    rw [BitVec.ofInt_natCast, BitVec.toNat_ofNat]; exact Nat.mod_eq_of_lt (by omega)
  show IntKind.u64.wrap ((BitVec.ofInt 64 (a : Int) &&& ~~~(BitVec.ofInt 64 y)).toNat : Int) ≤ _
  rw [BitVec.toNat_and, h2, IntKind.wrap_u64]
  have := Nat.and_le_left (n := a) (m := (~~~(BitVec.ofInt 64 y)).toNat)
  omega
theorem or_ge (x y : Int) (h0 : 0 ≤ x) (h1 : x ≤ 18446744073709551615) : x ≤ bits .or .u64 x y := by
  obtain ⟨a, rfl⟩ := Int.eq_ofNat_of_zero_le h0
  have h2 : (BitVec.ofInt 64 (a : Int)).toNat = a := by
    rw [BitVec.ofInt_natCast, BitVec.toNat_ofNat]; exact Nat.mod_eq_of_lt (by omega)
  show _ ≤ IntKind.u64.wrap ((BitVec.ofInt 64 (a : Int) ||| BitVec.ofInt 64 y).toNat : Int)
  have h3 := (BitVec.ofInt 64 (a : Int) ||| BitVec.ofInt 64 y).isLt
  rw [BitVec.toNat_or, h2] at h3
  rw [BitVec.toNat_or, h2]
  have h4 := Nat.left_le_or (n := a) (m := (BitVec.ofInt 64 y).toNat)
  rw [IntKind.wrap_u64]
  omega
theorem or_lt32 (x y : Int) (h0 : 0 ≤ x) (h1 : x ≤ 4294967295) (h2 : 0 ≤ y) (h3 : y ≤ 4294967295) : bits .or .u64 x y ≤ 4294967295 := by
  obtain ⟨a, rfl⟩ := Int.eq_ofNat_of_zero_le h0
  obtain ⟨b, rfl⟩ := Int.eq_ofNat_of_zero_le h2
  rw [(bits_nat .u64 64 (by decide) (fun n h4 h5 => by rw [IntKind.wrap_u64]; omega) a b (by omega) (by omega)).2]
  have := Nat.or_lt_two_pow (x := a) (y := b) (n := 32) (by omega) (by omega)
  omega

/-- What the first and the last address have to do with the address. -/
structure PreA (a lo hi : Ad) : Prop where
  f1 : lo.f = a.f
  f2 : hi.f = a.f
  h1 : 0 ≤ lo.h ∧ lo.h ≤ a.h
  h2 : a.h ≤ hi.h ∧ hi.h ≤ 18446744073709551615
  l1 : 0 ≤ lo.l ∧ lo.l ≤ a.l
  l2 : a.l ≤ hi.l ∧ hi.l ≤ 18446744073709551615
  four : a.f = 4 → hi.h = 0 ∧ hi.l ≤ 4294967295
def bitsF (f : Int) : Nat := if f = 4 then 32 else 128
theorem rbits_any (f : Int) (w : World) : Calls Tryd.prog 134 #[.int .i64 f] w fun e w' => e = .returned (.int .i64 (bitsF f)) ∧ w = w' := by
  unfold bitsF
  by_cases h : f = 4
  · subst h
    go_enter Tryd.func134, Tryd.ntmps134
    go_wp2
    go_ret
    exact ⟨rfl, rfl⟩
  · have h' : (f == 4) = false := by simpa using h
    rw [if_neg h]
    go_enter Tryd.func134, Tryd.ntmps134
    go_wp2
    go_ret
    exact ⟨rfl, rfl⟩

/-- Where Prefix stands: its argument, its two results, its two addresses. -/
structure PF (W w : World) (a : Ad) (g1 g2 : Nat) (lo hi : Ad) : Prop where
  bel : Below W.heap.size W w
  A : AdIn w W.heap.size a
  R : AdIn w (W.heap.size + 1) zeroA
  S : AdIn w (W.heap.size + 1 + 1) zeroA
  ge1 : W.heap.size + 1 + 1 < g1
  ge2 : W.heap.size + 1 + 1 < g2
  ne : g1 ≠ g2
  L : AdIn w g1 lo
  H : AdIn w g2 hi
  pre : PreA a lo hi
theorem PF.below {W w w' : World} {a : Ad} {g1 g2 : Nat} {lo hi : Ad} (h : PF W w a g1 g2 lo hi) (hb : Below w.heap.size w w') : PF W w' a g1 g2 lo hi :=
  ⟨h.bel.trans (hb.mono h.bel.size), h.A.below hb, h.R.below hb, h.S.below hb, h.ge1, h.ge2, h.ne, h.L.below hb, h.H.below hb, h.pre⟩

theorem PreA.self {a : Ad} (fit : FitA a) (ok : validA a = true) : PreA a a a := by
  have h1 := fit.h
  have h2 := fit.l
  refine ⟨rfl, rfl, ⟨by omega, by omega⟩, ⟨by omega, by omega⟩, ⟨by omega, by omega⟩, ⟨by omega, by omega⟩, fun e => ?_⟩
  unfold validA at ok
  rw [e] at ok
  simp at ok
  omega
theorem PF.start1 {W w1 : World} {a : Ad} (hb : Below W.heap.size W w1) (hA : AdIn w1 W.heap.size a) (hR : AdIn w1 (W.heap.size + 1) zeroA) (hS : AdIn w1 (W.heap.size + 1 + 1) zeroA) (fit : FitA a) (ok : validA a = true) :
    PF W ((w1.alloc (.cells #[.int .i64 a.f, .int .u64 a.h, .int .u64 a.l] 115)).alloc (.cells #[.int .i64 a.f, .int .u64 a.h, .int .u64 a.l] 115)).drew a (w1.heap.size) (w1.heap.size + 1) a a := by
  have hl := hS.lt
  exact ⟨((hb.alloc hb.size _).alloc (by have := hb.size; simp; omega) _).trans (drew_below ⟨1, rfl⟩), ((hA.alloc _).alloc _).below (drew_below ⟨1, rfl⟩), ((hR.alloc _).alloc _).below (drew_below ⟨1, rfl⟩), ((hS.alloc _).alloc _).below (drew_below ⟨1, rfl⟩), by omega, by omega, by omega, ((AdIn.new w1 a 115).alloc (.cells #[.int .i64 a.f, .int .u64 a.h, .int .u64 a.l] 115)).below (w' := ((w1.alloc (.cells #[.int .i64 a.f, .int .u64 a.h, .int .u64 a.l] 115)).alloc (.cells #[.int .i64 a.f, .int .u64 a.h, .int .u64 a.l] 115)).drew) (drew_below ⟨1, rfl⟩), (by have := (AdIn.new (w1.alloc (.cells #[.int .i64 a.f, .int .u64 a.h, .int .u64 a.l] 115)) a 115).below (w' := ((w1.alloc (.cells #[.int .i64 a.f, .int .u64 a.h, .int .u64 a.l] 115)).alloc (.cells #[.int .i64 a.f, .int .u64 a.h, .int .u64 a.l] 115)).drew) (drew_below ⟨1, rfl⟩); simpa using this), PreA.self fit ok⟩
theorem PF.start2 {W w1 : World} {a : Ad} (hb : Below W.heap.size W w1) (hA : AdIn w1 W.heap.size a) (hR : AdIn w1 (W.heap.size + 1) zeroA) (hS : AdIn w1 (W.heap.size + 1 + 1) zeroA) (fit : FitA a) (ok : validA a = true) :
    PF W ((w1.alloc (.cells #[.int .i64 a.f, .int .u64 a.h, .int .u64 a.l] 115)).alloc (.cells #[.int .i64 a.f, .int .u64 a.h, .int .u64 a.l] 115)).drew a (w1.heap.size + 1) (w1.heap.size) a a := by
  have hl := hS.lt
  exact ⟨((hb.alloc hb.size _).alloc (by have := hb.size; simp; omega) _).trans (drew_below ⟨1, rfl⟩), ((hA.alloc _).alloc _).below (drew_below ⟨1, rfl⟩), ((hR.alloc _).alloc _).below (drew_below ⟨1, rfl⟩), ((hS.alloc _).alloc _).below (drew_below ⟨1, rfl⟩), by omega, by omega, by omega, (by have := (AdIn.new (w1.alloc (.cells #[.int .i64 a.f, .int .u64 a.h, .int .u64 a.l] 115)) a 115).below (w' := ((w1.alloc (.cells #[.int .i64 a.f, .int .u64 a.h, .int .u64 a.l] 115)).alloc (.cells #[.int .i64 a.f, .int .u64 a.h, .int .u64 a.l] 115)).drew) (drew_below ⟨1, rfl⟩); simpa using this), ((AdIn.new w1 a 115).alloc (.cells #[.int .i64 a.f, .int .u64 a.h, .int .u64 a.l] 115)).below (w' := ((w1.alloc (.cells #[.int .i64 a.f, .int .u64 a.h, .int .u64 a.l] 115)).alloc (.cells #[.int .i64 a.f, .int .u64 a.h, .int .u64 a.l] 115)).drew) (drew_below ⟨1, rfl⟩), PreA.self fit ok⟩
theorem PF.ret1 {W w : World} {a : Ad} {g1 g2 : Nat} {lo hi : Ad} (h : PF W w a g1 g2 lo hi) : AdIn ((((((w.setCell ⟨W.heap.size + 1, 0, none⟩ (.int .i64 lo.f)).setCell ⟨W.heap.size + 1, 1, none⟩ (.int .u64 lo.h)).setCell ⟨W.heap.size + 1, 2, none⟩ (.int .u64 lo.l)).setCell ⟨W.heap.size + 1 + 1, 0, none⟩ (.int .i64 hi.f)).setCell ⟨W.heap.size + 1 + 1, 1, none⟩ (.int .u64 hi.h)).setCell ⟨W.heap.size + 1 + 1, 2, none⟩ (.int .u64 hi.l)).drew (W.heap.size + 1) lo ∧ AdIn ((((((w.setCell ⟨W.heap.size + 1, 0, none⟩ (.int .i64 lo.f)).setCell ⟨W.heap.size + 1, 1, none⟩ (.int .u64 lo.h)).setCell ⟨W.heap.size + 1, 2, none⟩ (.int .u64 lo.l)).setCell ⟨W.heap.size + 1 + 1, 0, none⟩ (.int .i64 hi.f)).setCell ⟨W.heap.size + 1 + 1, 1, none⟩ (.int .u64 hi.h)).setCell ⟨W.heap.size + 1 + 1, 2, none⟩ (.int .u64 hi.l)).drew (W.heap.size + 1 + 1) hi ∧ Below W.heap.size W ((((((w.setCell ⟨W.heap.size + 1, 0, none⟩ (.int .i64 lo.f)).setCell ⟨W.heap.size + 1, 1, none⟩ (.int .u64 lo.h)).setCell ⟨W.heap.size + 1, 2, none⟩ (.int .u64 lo.l)).setCell ⟨W.heap.size + 1 + 1, 0, none⟩ (.int .i64 hi.f)).setCell ⟨W.heap.size + 1 + 1, 1, none⟩ (.int .u64 hi.h)).setCell ⟨W.heap.size + 1 + 1, 2, none⟩ (.int .u64 hi.l)).drew := by
  refine ⟨?_, ?_, ((((((h.bel.setCell (p := ⟨W.heap.size + 1, 0, none⟩) (by simp <;> omega) _).setCell (p := ⟨W.heap.size + 1, 1, none⟩) (by simp <;> omega) _).setCell (p := ⟨W.heap.size + 1, 2, none⟩) (by simp <;> omega) _).setCell (p := ⟨W.heap.size + 1 + 1, 0, none⟩) (by simp <;> omega) _).setCell (p := ⟨W.heap.size + 1 + 1, 1, none⟩) (by simp <;> omega) _).setCell (p := ⟨W.heap.size + 1 + 1, 2, none⟩) (by simp <;> omega) _).trans (drew_below ⟨1, rfl⟩)⟩
  · obtain ⟨c0, c1, c2, fr⟩ := h.R
    exact ⟨by go_simp, by go_simp, by go_simp, fun j => by go_simp⟩
  · obtain ⟨c0, c1, c2, fr⟩ := h.S
    exact ⟨by go_simp, by go_simp, by go_simp, fun j => by go_simp⟩
theorem PF.ret2 {W w : World} {a : Ad} {g1 g2 : Nat} {lo hi : Ad} (h : PF W w a g1 g2 lo hi) : AdIn ((((((w.setCell ⟨W.heap.size + 1 + 1, 0, none⟩ (.int .i64 hi.f)).setCell ⟨W.heap.size + 1 + 1, 1, none⟩ (.int .u64 hi.h)).setCell ⟨W.heap.size + 1 + 1, 2, none⟩ (.int .u64 hi.l)).setCell ⟨W.heap.size + 1, 0, none⟩ (.int .i64 lo.f)).setCell ⟨W.heap.size + 1, 1, none⟩ (.int .u64 lo.h)).setCell ⟨W.heap.size + 1, 2, none⟩ (.int .u64 lo.l)).drew (W.heap.size + 1) lo ∧ AdIn ((((((w.setCell ⟨W.heap.size + 1 + 1, 0, none⟩ (.int .i64 hi.f)).setCell ⟨W.heap.size + 1 + 1, 1, none⟩ (.int .u64 hi.h)).setCell ⟨W.heap.size + 1 + 1, 2, none⟩ (.int .u64 hi.l)).setCell ⟨W.heap.size + 1, 0, none⟩ (.int .i64 lo.f)).setCell ⟨W.heap.size + 1, 1, none⟩ (.int .u64 lo.h)).setCell ⟨W.heap.size + 1, 2, none⟩ (.int .u64 lo.l)).drew (W.heap.size + 1 + 1) hi ∧ Below W.heap.size W ((((((w.setCell ⟨W.heap.size + 1 + 1, 0, none⟩ (.int .i64 hi.f)).setCell ⟨W.heap.size + 1 + 1, 1, none⟩ (.int .u64 hi.h)).setCell ⟨W.heap.size + 1 + 1, 2, none⟩ (.int .u64 hi.l)).setCell ⟨W.heap.size + 1, 0, none⟩ (.int .i64 lo.f)).setCell ⟨W.heap.size + 1, 1, none⟩ (.int .u64 lo.h)).setCell ⟨W.heap.size + 1, 2, none⟩ (.int .u64 lo.l)).drew := by
  refine ⟨?_, ?_, ((((((h.bel.setCell (p := ⟨W.heap.size + 1 + 1, 0, none⟩) (by simp <;> omega) _).setCell (p := ⟨W.heap.size + 1 + 1, 1, none⟩) (by simp <;> omega) _).setCell (p := ⟨W.heap.size + 1 + 1, 2, none⟩) (by simp <;> omega) _).setCell (p := ⟨W.heap.size + 1, 0, none⟩) (by simp <;> omega) _).setCell (p := ⟨W.heap.size + 1, 1, none⟩) (by simp <;> omega) _).setCell (p := ⟨W.heap.size + 1, 2, none⟩) (by simp <;> omega) _).trans (drew_below ⟨1, rfl⟩)⟩
  · obtain ⟨c0, c1, c2, fr⟩ := h.R
    exact ⟨by go_simp, by go_simp, by go_simp, fun j => by go_simp⟩
  · obtain ⟨c0, c1, c2, fr⟩ := h.S
    exact ⟨by go_simp, by go_simp, by go_simp, fun j => by go_simp⟩
theorem PF.stepH {W w : World} {a : Ad} {g1 g2 : Nat} {lo hi : Ad} (h : PF W w a g1 g2 lo hi) (fit : FitA a) (hf : a.f ≠ 4) (X Y : Int) :
    PF W ((w.setCell ⟨g1, 1, none⟩ (.int .u64 (bits .andNot .u64 lo.h X))).setCell ⟨g2, 1, none⟩ (.int .u64 (bits .or .u64 hi.h Y))) a g1 g2 { lo with h := bits .andNot .u64 lo.h X } { hi with h := bits .or .u64 hi.h Y } := by
  have k1 := h.ge1
  have k2 := h.ge2
  have k3 := h.ne
  have p := h.pre
  have q1 := p.h1
  have q2 := p.h2
  have q3 := fit.h
  have r1 := andNot_le lo.h X (by omega) (by omega)
  have r2 := bits_lo_u64 .andNot lo.h X
  have r3 := or_ge hi.h Y (by omega) (by omega)
  have r4 := bits_hi_u64 .or hi.h Y
  exact ⟨(h.bel.setCell (p := ⟨g1, 1, none⟩) (by simp; omega) _).setCell (p := ⟨g2, 1, none⟩) (by simp; omega) _, (h.A.set_ne _ _ _ (by omega)).set_ne _ _ _ (by omega), (h.R.set_ne _ _ _ (by omega)).set_ne _ _ _ (by omega), (h.S.set_ne _ _ _ (by omega)).set_ne _ _ _ (by omega), k1, k2, k3,
    (h.L.setH _).set_ne _ _ _ k3, (h.H.set_ne _ _ _ (Ne.symm k3)).setH _, ⟨p.f1, p.f2, ⟨r2, by simp only; omega⟩, ⟨by simp only; omega, r4⟩, p.l1, p.l2, fun e => absurd e hf⟩⟩
theorem PF.stepL {W w : World} {a : Ad} {g1 g2 : Nat} {lo hi : Ad} (h : PF W w a g1 g2 lo hi) (fit : FitA a) (X Y : Int) (hY : a.f = 4 → 0 ≤ Y ∧ Y ≤ 4294967295) :
    PF W ((w.setCell ⟨g1, 2, none⟩ (.int .u64 (bits .andNot .u64 lo.l X))).setCell ⟨g2, 2, none⟩ (.int .u64 (bits .or .u64 hi.l Y))) a g1 g2 { lo with l := bits .andNot .u64 lo.l X } { hi with l := bits .or .u64 hi.l Y } := by
  have k1 := h.ge1
  have k2 := h.ge2
  have k3 := h.ne
  have p := h.pre
  have q1 := p.l1
  have q2 := p.l2
  have q3 := fit.l
  have r1 := andNot_le lo.l X (by omega) (by omega)
  have r2 := bits_lo_u64 .andNot lo.l X
  have r3 := or_ge hi.l Y (by omega) (by omega)
  have r4 := bits_hi_u64 .or hi.l Y
  exact ⟨(h.bel.setCell (p := ⟨g1, 2, none⟩) (by simp; omega) _).setCell (p := ⟨g2, 2, none⟩) (by simp; omega) _, (h.A.set_ne _ _ _ (by omega)).set_ne _ _ _ (by omega), (h.R.set_ne _ _ _ (by omega)).set_ne _ _ _ (by omega), (h.S.set_ne _ _ _ (by omega)).set_ne _ _ _ (by omega), k1, k2, k3,
    (h.L.setL _).set_ne _ _ _ k3, (h.H.set_ne _ _ _ (Ne.symm k3)).setL _, ⟨p.f1, p.f2, p.h1, p.h2, ⟨r2, by simp only; omega⟩, ⟨by simp only; omega, r4⟩, fun e => ⟨(p.four e).1, or_lt32 _ _ (by omega) (p.four e).2 (hY e).1 (hY e).2⟩⟩⟩
theorem pow32 (k : Nat) (hk : k ≤ 31) : 0 ≤ IntKind.u64.wrap (2 ^ k) ∧ IntKind.u64.wrap (2 ^ k) ≤ 4294967295 := by
  have h1 : (2 : Nat) ^ k ≤ 2 ^ 31 := Nat.pow_le_pow_right (by decide) hk
  have h2 : ((2 : Int) ^ k) = ((2 ^ k : Nat) : Int) := by simp
  rw [h2]
  generalize (2 : Nat) ^ k = m at *
  rw [IntKind.wrap_u64]
  omega
theorem ret_ad3 {fn : Func} {R : Ending → World → Prop} {a : Act} {w : World} {p q u : Nat} {g1 g2 : Nat} {x y : Ad} {v : Value} (h : fn.results = #[.cell p 115, .cell q 115, .tmp u]) (hp : a.tmps.getD p undef = .pointer (some ⟨g1, 0, none⟩)) (hq : a.tmps.getD q undef = .pointer (some ⟨g2, 0, none⟩)) (hu : a.tmps.getD u undef = v) (hd : a.defers = [])
    (hx : AdIn w g1 x) (hy : AdIn w g2 y) (hR : R (.returned (.tuple #[(.agg #[.int .i64 x.f, .int .u64 x.h, .int .u64 x.l]), (.agg #[.int .i64 y.f, .int .u64 y.h, .int .u64 y.l]), v])) w) : bodyPost Tryd.prog fn R .ret a w := by
  refine bodyPost_ret (v := .tuple #[(.agg #[.int .i64 x.f, .int .u64 x.h, .int .u64 x.l]), (.agg #[.int .i64 y.f, .int .u64 y.h, .int .u64 y.l]), v]) ?_ hd hR
  rw [Array.getD_eq_getD_getElem?] at hp hq hu
  simp [results, h, hp, hq, hu, asAddr, load_ad hx, load_ad hy, Result.andThen]
theorem ret_ad2 {fn : Func} {R : Ending → World → Prop} {a : Act} {w : World} {p q : Nat} {g1 g2 : Nat} {x y : Ad} (h : fn.results = #[.cell p 115, .cell q 115]) (hp : a.tmps.getD p undef = .pointer (some ⟨g1, 0, none⟩)) (hq : a.tmps.getD q undef = .pointer (some ⟨g2, 0, none⟩)) (hd : a.defers = [])
    (hx : AdIn w g1 x) (hy : AdIn w g2 y) (hR : R (.returned (.tuple #[(.agg #[.int .i64 x.f, .int .u64 x.h, .int .u64 x.l]), (.agg #[.int .i64 y.f, .int .u64 y.h, .int .u64 y.l])])) w) : bodyPost Tryd.prog fn R .ret a w := by
  refine bodyPost_ret (v := .tuple #[(.agg #[.int .i64 x.f, .int .u64 x.h, .int .u64 x.l]), (.agg #[.int .i64 y.f, .int .u64 y.h, .int .u64 y.l])]) ?_ hd hR
  rw [Array.getD_eq_getD_getElem?] at hp hq
  simp [results, h, hp, hq, asAddr, load_ad hx, load_ad hy, Result.andThen]

set_option maxHeartbeats 1600000 in
set_option maxRecDepth 100000 in
theorem prefix_any (a : Ad) (fit : FitA a) (ok : validA a = true) (n : Int) (hn : 0 ≤ n ∧ n ≤ bitsF a.f) (w : World) :
    Calls Tryd.prog 122 #[(.agg #[.int .i64 a.f, .int .u64 a.h, .int .u64 a.l]), .int .i64 n] w fun e w' => ∃ lo hi : Ad, e = .returned (.tuple #[(.agg #[.int .i64 lo.f, .int .u64 lo.h, .int .u64 lo.l]), (.agg #[.int .i64 hi.f, .int .u64 hi.h, .int .u64 hi.l]), .int .i64 0]) ∧ PreA a lo hi ∧ Below w.heap.size w w' := by
  obtain ⟨n, rfl⟩ := Int.eq_ofNat_of_zero_le hn.1
  have HV := hidden (rvalid_any a)
  rw [ok] at HV
  have HBI := hidden (rbits_any a.f)
  have hB : bitsF a.f ≤ 128 := by unfold bitsF; split <;> omega
  have hB4 : a.f = 4 → bitsF a.f = 32 := fun h => by unfold bitsF; rw [if_pos h]
  have HB4 := hidden hB4
  have hnn : n ≤ bitsF a.f := by omega
  have HFIT := hidden fit
  have HOK := hidden ok
  generalize bitsF a.f = B at *
  clear hB4 ok fit hn
  have q0 : ¬ (n : Int) < 0 := by omega
  have q1 : ¬ B < n := by omega
  have q2 : decide ((n : Int) < 0) = false := by simp
  have q3 : decide (B < n) = false := by simpa using hnn
  have hB0 := hidden (below_three (w := w) (.cells #[.int .i64 a.f, .int .u64 a.h, .int .u64 a.l] 115) (.cells #[.int .i64 0, .int .u64 0, .int .u64 0] 115) (.cells #[.int .i64 0, .int .u64 0, .int .u64 0] 115))
  have HA0 := hidden (((AdIn.new w a 115).alloc (.cells #[.int .i64 0, .int .u64 0, .int .u64 0] 115)).alloc (.cells #[.int .i64 0, .int .u64 0, .int .u64 0] 115))
  have HR0 : Hid (AdIn (((w.alloc (.cells #[.int .i64 a.f, .int .u64 a.h, .int .u64 a.l] 115)).alloc (.cells #[.int .i64 0, .int .u64 0, .int .u64 0] 115)).alloc (.cells #[.int .i64 0, .int .u64 0, .int .u64 0] 115)) (w.heap.size + 1) zeroA) := hidden (by
    have := (AdIn.new (w.alloc (.cells #[.int .i64 a.f, .int .u64 a.h, .int .u64 a.l] 115)) zeroA 115).alloc (.cells #[.int .i64 0, .int .u64 0, .int .u64 0] 115)
    simpa [zeroA] using this)
  have HS0 : Hid (AdIn (((w.alloc (.cells #[.int .i64 a.f, .int .u64 a.h, .int .u64 a.l] 115)).alloc (.cells #[.int .i64 0, .int .u64 0, .int .u64 0] 115)).alloc (.cells #[.int .i64 0, .int .u64 0, .int .u64 0] 115)) (w.heap.size + 1 + 1) zeroA) := hidden (by
    have := (AdIn.new ((w.alloc (.cells #[.int .i64 a.f, .int .u64 a.h, .int .u64 a.l] 115)).alloc (.cells #[.int .i64 0, .int .u64 0, .int .u64 0] 115)) zeroA 115)
    simpa [zeroA] using this)
  go_enter Tryd.func122, Tryd.ntmps122
  go_upto_region 5 with (first
    | (go_at_call 133; (with_reducible refine (HV.out _).mono ?_); rintro e w1 ⟨rfl, hb⟩; have HB1 := hidden (hB0.out.trans (hb.mono hB0.out.size)); have HA1 := hidden (HA0.out.below hb); have HR1 := hidden (HR0.out.below hb); have HS1 := hidden (HS0.out.below hb); obtain ⟨a0, a1, a2, af⟩ := HA1.out; clear hb HA0 HR0 HS0 hB0)
    | (go_at_call 134; (with_reducible refine (HBI.out _).mono ?_); rintro e w1 ⟨rfl, rfl⟩))
  go_cut [7, 8] from 27 to 28 (fun u v wx => ∃ g1 g2, u = .pointer (some ⟨g1, 0, none⟩) ∧ v = .pointer (some ⟨g2, 0, none⟩) ∧ PF w wx a g1 g2 a a)
  case first =>
    have hs1 := HS1.out.lt
    have ha1 := HA1.out.lt
    go_region
    all_goals go_wp2_with fail
    all_goals go_meet
    all_goals (case rel => first
      | exact ⟨_, _, rfl, rfl, PF.start1 HB1.out HA1.out HR1.out HS1.out HFIT.out HOK.out⟩
      | exact ⟨_, _, rfl, rfl, PF.start2 HB1.out HA1.out HR1.out HS1.out HFIT.out HOK.out⟩)
  case rest =>
    obtain ⟨g1, g2, rfl, rfl, hpf⟩ := hcut
    have HP0 := hidden hpf
    clear hpf HA1 HR1 HS1 HB1 a0 a1 a2 af
    go_wp2_with fail
    go_loopw [9] (fun i wx => ∃ (j : Nat) (lo hi : Ad), i = .int .i64 j ∧ j ≤ B ∧ PF w wx a g1 g2 lo hi) (fun i _ => B - (intOf i).toNat)
    case atStart => exact ⟨n, a, a, rfl, hnn, HP0.out⟩
    case round =>
      obtain ⟨j, lo, hi, rfl, hj, hpf⟩ := hrel
      have HP := hidden hpf
      obtain ⟨a0, a1, a2, af⟩ := hpf.A
      clear hpf HP0
      by_cases hjB : j < B
      · have hjB' : (j : Int) < B := by omega
        obtain ⟨l0, l1, l2, lf⟩ := HP.out.L
        obtain ⟨h0, h1, h2, hf⟩ := HP.out.H
        have n1 : ¬ g1 = g2 := HP.out.ne
        have n2 : ¬ g2 = g1 := fun e => n1 e.symm
        go_wp2_with (go_at_call 134; (with_reducible refine (HBI.out _).mono ?_); rintro e w1 ⟨rfl, rfl⟩)
        all_goals
          go_roundw
          case rel =>
            first
              | exact ⟨j + 1, _, _, by go_num, by omega, HP.out.stepH HFIT.out (fun e => by have := HB4.out e; omega) _ _⟩
              | exact ⟨j + 1, _, _, by go_num, by omega, HP.out.stepL HFIT.out _ _ (fun e => by have := HB4.out e; exact pow32 _ (by omega))⟩
          case measure => simp [intOf]; omega
      · obtain rfl : j = B := by omega
        obtain ⟨l0, l1, l2, lf⟩ := HP.out.L
        obtain ⟨h0, h1, h2, hf⟩ := HP.out.H
        obtain ⟨r0, r1, r2, rf⟩ := HP.out.R
        obtain ⟨s0, s1, s2, sf⟩ := HP.out.S
        go_wp2_with (go_at_call 134; (with_reducible refine (HBI.out _).mono ?_); rintro e w1 ⟨rfl, rfl⟩)
        have k1 := HP.out.ge1
        have k2 := HP.out.ge2
        have e1 : ¬ g1 = w.heap.size + 1 := by omega
        have e2 : ¬ g1 = w.heap.size + 1 + 1 := by omega
        have e3 : ¬ g2 = w.heap.size + 1 := by omega
        have e4 : ¬ g2 = w.heap.size + 1 + 1 := by omega
        have e5 : ¬ w.heap.size + 1 = g1 := by omega
        have e6 : ¬ w.heap.size + 1 + 1 = g1 := by omega
        have e7 : ¬ w.heap.size + 1 = g2 := by omega
        have e8 : ¬ w.heap.size + 1 + 1 = g2 := by omega
        go_region
        all_goals go_wp2_with fail
        all_goals first
          | (obtain ⟨z1, z2, z3⟩ := HP.out.ret1
             refine ret_ad3 (g1 := w.heap.size + 1) (g2 := w.heap.size + 1 + 1) (x := lo) (y := hi) (v := .int .i64 0) rfl rfl rfl rfl rfl z1 z2 ?_
             exact ⟨lo, hi, rfl, HP.out.pre, z3⟩)
          | (obtain ⟨z1, z2, z3⟩ := HP.out.ret2
             refine ret_ad3 (g1 := w.heap.size + 1) (g2 := w.heap.size + 1 + 1) (x := lo) (y := hi) (v := .int .i64 0) rfl rfl rfl rfl rfl z1 z2 ?_
             exact ⟨lo, hi, rfl, HP.out.pre, z3⟩)
          | fail
end Go.Proofs.YtpocehpejbnemaaDoor
