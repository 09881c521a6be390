/-
  The law SelectorSets, walked: it returns true for every input, and only adds memory of its own.
-/
import Derived.Test.YtnehhpkdfkemaaaMkPkt
import Derived.Test.YtnehhpkdfkemaaaMod
import Derived.Deep.CutBlock
import Derived.Deep.RegionHeld3
import Derived.Deep.RegionWith
namespace Go.Proofs.Ytnehhpkdfkemaaa
open Go.RowKit
set_option linter.unusedVariables false

/-- What the walk knows of two selectors and their meet. -/
structure SetsF (a b m : Sl) (ok : Bool) (ib : Bool) : Prop where
  m1 : meetS a b = (m, ok)
  ck : ok = true → checkS m = 0 ∧ insideS m a = true ∧ insideS m b = true
  self : insideS a a = true
  hib : insideS a b = ib
  has : ∀ (u : Ad) (p port : Int), FitA u → (hasS a u p port && hasS b u p port) = (ok && hasS m u p port)
  sub : ∀ (u : Ad) (p port : Int), FitA u → ib = true → hasS a u p port = true → hasS b u p port = true
theorem sets {a b : Sl} (ha : DrawS 4 a) (hb : DrawS 4 b) : ∃ m ok ib, SetsF a b m ok ib := by
  have hab : a.lo.f = b.lo.f := ha.fam.trans hb.fam.symm
  obtain ⟨m, ok, h1⟩ : ∃ x ok, meetS a b = (x, ok) := ⟨_, _, rfl⟩
  refine ⟨m, ok, insideS a b, h1, ?_, insideS_self ha.good, rfl, ?_, ?_⟩
  · rintro rfl
    by_cases hc : canMeet a b
    · obtain ⟨c, k1, k2⟩ := meet_yes ha.good hb.good hc
      rw [h1] at k1
      obtain ⟨rfl, -⟩ := Prod.mk.inj k1
      exact ⟨(k2.good ha.good hb.good hab).check, inside_meet ha.good hb.good hab k2⟩
    · rw [meet_no ha.good hb.good hc] at h1
      cases (Prod.mk.inj h1).2
  · intro u p port hu
    have := has_meet ha.good hb.good hab hu p port
    rw [h1] at this
    exact this
  · intro u p port hu hi hx
    exact inside_has ha.good hb.good hab hi hu p port hx

/-- Where the law stands: the choices, two selectors and their meet. -/
structure SO (W wx : World) (k gn gm : Nat) (a b m : Sl) : Prop where
  cod : Cod W wx k
  A : SlIn wx gn a
  B : SlIn wx (gn + 1) b
  M : SlIn wx gm m
  ka : k < gn
  am : gn + 1 < gm
section
variable {W wx wy : World} {k gn gm : Nat} {a b m : Sl}
theorem SO.below (h : SO W wx k gn gm a b m) (hb : Below wx.heap.size wx wy) : SO W wy k gn gm a b m := ⟨h.cod.below hb, h.A.below hb, h.B.below hb, h.M.below hb, h.ka, h.am⟩
theorem SO.grown (h : SO W wx k gn gm a b m) (hc : Cod W wy k) (hg : wx.grownBy wy (some k)) : SO W wy k gn gm a b m := by
  have h1 := h.ka
  have h2 := h.am
  exact ⟨hc, h.A.grown hg (by simp; omega), h.B.grown hg (by simp; omega), h.M.grown hg (by simp; omega), h1, h2⟩
theorem SO.alloc (h : SO W wx k gn gm a b m) (o : Obj) : SO W (wx.alloc o) k gn gm a b m := h.below ((Below.refl _ _).alloc (Nat.le_refl _) o)
end

theorem rows5 (w : World) (c0 c1 c2 c3 c4 : Int) (T : TypeId) : ∀ t : Nat, t < 5 → ∃ q : Int, (w.alloc (.cells #[.int .i64 c0, .int .i64 c1, .int .i64 c2, .int .i64 c3, .int .i64 c4] T)).drew.cell? ⟨w.heap.size, t, none⟩ = some (.int .i64 q) := by
  intro t ht
  have : t = 0 ∨ t = 1 ∨ t = 2 ∨ t = 3 ∨ t = 4 := by omega
  rcases this with rfl | rfl | rfl | rfl | rfl
  · exact ⟨c0, by go_simp⟩
  · exact ⟨c1, by go_simp⟩
  · exact ⟨c2, by go_simp⟩
  · exact ⟨c3, by go_simp⟩
  · exact ⟨c4, by go_simp⟩
/-- With a packet, and a row of ports. -/
structure SQ (W wx : World) (k gn gm gp gw : Nat) (a b m : Sl) (x : Pk) : Prop where
  O : SO W wx k gn gm a b m
  P : PkIn wx gp x
  W : ∀ t : Nat, t < 5 → ∃ q : Int, wx.cell? ⟨gw, t, none⟩ = some (.int .i64 q)
/-- A row of addresses. -/
def RowA (wx : World) (gu : Nat) : Prop := ∀ t : Nat, t < 5 → ∃ u : Ad, FitA u ∧ wx.cell? ⟨gu, t * 3, none⟩ = some (.int .i64 u.f) ∧ wx.cell? ⟨gu, t * 3 + 1, none⟩ = some (.int .u64 u.h) ∧ wx.cell? ⟨gu, t * 3 + 2, none⟩ = some (.int .u64 u.l)
theorem SQ.below {W wx wy : World} {k gn gm gp gw : Nat} {a b m : Sl} {x : Pk} (h : SQ W wx k gn gm gp gw a b m x) (hb : Below wx.heap.size wx wy) : SQ W wy k gn gm gp gw a b m x :=
  ⟨h.O.below hb, h.P.below hb, fun t ht => by
    obtain ⟨q, hq⟩ := h.W t ht
    exact ⟨q, cell_below hb _ _ hq⟩⟩
theorem RowA.below {wx wy : World} {gu : Nat} (h : RowA wx gu) (hb : Below wx.heap.size wx wy) : RowA wy gu := fun t ht => by
  obtain ⟨u, hu, c0, c1, c2⟩ := h t ht
  exact ⟨u, hu, cell_below hb _ _ c0, cell_below hb _ _ c1, cell_below hb _ _ c2⟩
theorem RowA.new (w : World) (u0 u1 u2 u3 u4 : Ad) (T : TypeId) (h0 : FitA u0) (h1 : FitA u1) (h2 : FitA u2) (h3 : FitA u3) (h4 : FitA u4) : RowA (w.alloc (.cells #[.int .i64 u0.f, .int .u64 u0.h, .int .u64 u0.l, .int .i64 u1.f, .int .u64 u1.h, .int .u64 u1.l, .int .i64 u2.f, .int .u64 u2.h, .int .u64 u2.l, .int .i64 u3.f, .int .u64 u3.h, .int .u64 u3.l, .int .i64 u4.f, .int .u64 u4.h, .int .u64 u4.l] T)) w.heap.size := by
  intro t ht
  have : t = 0 ∨ t = 1 ∨ t = 2 ∨ t = 3 ∨ t = 4 := by omega
  rcases this with rfl | rfl | rfl | rfl | rfl
  · exact ⟨u0, h0, by go_simp, by go_simp, by go_simp⟩
  · exact ⟨u1, h1, by go_simp, by go_simp, by go_simp⟩
  · exact ⟨u2, h2, by go_simp, by go_simp, by go_simp⟩
  · exact ⟨u3, h3, by go_simp, by go_simp, by go_simp⟩
  · exact ⟨u4, h4, by go_simp, by go_simp, by go_simp⟩

set_option maxHeartbeats 6400000 in
set_option maxRecDepth 100000 in
theorem selectorSets_walk (p : Option Addr) (n c : Nat) (xs : List Int) (port : Int) (w : World) (h : Byt w p n c xs) (b0 : c ≤ 140737488351232) (g1 : -9223372036854775808 ≤ port ∧ port ≤ 9223372036854775807) :
    Calls Try.prog 10 #[.slice p n c, .int .i64 port] w fun e w' => e = .returned (.bool true) ∧ Below w.heap.size w w' := by
  have HX := hidden h
  have HA := hidden (awake05_any w)
  clear h
  go_enter Try.func10, Try.ntmps10
  go_upto_region 5 with (first
    | (go_at_call 26; (with_reducible refine (HA.out).mono ?_); rintro e w1 ⟨rfl, hb⟩; have HB1 := hidden hb; clear hb HA)
    | (go_at_call 13; (refine (new_any w p n c xs _ HX.out HB1.out 160 (by omega)).mono ?_); rintro e w2 ⟨rfl, hc, hb⟩; have HC2 := hidden hc; clear hc hb HB1 HX)
    | (go_at_call 41; (with_reducible refine (sel_any w _ _ HC2.out 4 (Or.inl rfl)).mono ?_); rintro e w3 ⟨a, rfl, hda, hc, -⟩; have HDA := hidden hda; have HC3 := hidden hc; clear hda hc HC2)
    | (go_at_call 41; (with_reducible refine (sel_any w _ _ HC3.out 4 (Or.inl rfl)).mono ?_); rintro e w4 ⟨b, rfl, hdb, hc, -⟩; have HDB := hidden hdb; have HC4 := hidden hc; clear hdb hc HC3)
    | fail)
  obtain ⟨m, ok, ib, hmm⟩ := sets HDA.out HDB.out
  have HMM := hidden hmm
  have M1 := hidden (meet_at a b m ok hmm.m1)
  have MB := hidden (inside_any a b)
  rw [hmm.hib] at MB
  have MS := hidden (inside_any a a)
  rw [hmm.self] at MS
  have hck := hmm.ck
  have HFA := hidden HDA.out.good
  have HFB := hidden HDB.out.good
  clear hmm HDA HDB
  generalize w1.heap.size = k at *
  have SA := hidden ((SlIn.new w4 a 58).alloc (.cells #[.int .i64 b.p, .int .i64 b.a, .int .i64 b.b, .int .i64 b.lo.f, .int .u64 b.lo.h, .int .u64 b.lo.l, .int .i64 b.hi.f, .int .u64 b.hi.h, .int .u64 b.hi.l] 58))
  have SB : Hid (SlIn ((w4.alloc (.cells #[.int .i64 a.p, .int .i64 a.a, .int .i64 a.b, .int .i64 a.lo.f, .int .u64 a.lo.h, .int .u64 a.lo.l, .int .i64 a.hi.f, .int .u64 a.hi.h, .int .u64 a.hi.l] 58)).alloc (.cells #[.int .i64 b.p, .int .i64 b.a, .int .i64 b.b, .int .i64 b.lo.f, .int .u64 b.lo.h, .int .u64 b.lo.l, .int .i64 b.hi.f, .int .u64 b.hi.h, .int .u64 b.hi.l] 58)) (w4.heap.size + 1) b) := hidden (by
    have := SlIn.new (w4.alloc (.cells #[.int .i64 a.p, .int .i64 a.a, .int .i64 a.b, .int .i64 a.lo.f, .int .u64 a.lo.h, .int .u64 a.lo.l, .int .i64 a.hi.f, .int .u64 a.hi.h, .int .u64 a.hi.l] 58)) b 58
    simpa using this)
  have HC5 := hidden ((HC4.out.alloc (.cells #[.int .i64 a.p, .int .i64 a.a, .int .i64 a.b, .int .i64 a.lo.f, .int .u64 a.lo.h, .int .u64 a.lo.l, .int .i64 a.hi.f, .int .u64 a.hi.h, .int .u64 a.hi.l] 58)).alloc (.cells #[.int .i64 b.p, .int .i64 b.a, .int .i64 b.b, .int .i64 b.lo.f, .int .u64 b.lo.h, .int .u64 b.lo.l, .int .i64 b.hi.f, .int .u64 b.hi.h, .int .u64 b.hi.l] 58))
  have hk4 := HC4.out.lt
  generalize hw5 : (w4.alloc (.cells #[.int .i64 a.p, .int .i64 a.a, .int .i64 a.b, .int .i64 a.lo.f, .int .u64 a.lo.h, .int .u64 a.lo.l, .int .i64 a.hi.f, .int .u64 a.hi.h, .int .u64 a.hi.l] 58)).alloc (.cells #[.int .i64 b.p, .int .i64 b.a, .int .i64 b.b, .int .i64 b.lo.f, .int .u64 b.lo.h, .int .u64 b.lo.l, .int .i64 b.hi.f, .int .u64 b.hi.h, .int .u64 b.hi.l] 58) = w5 at *
  clear hw5 HC4
  generalize w4.heap.size = gn at *
  have hl5 := SB.out.lt
  obtain ⟨a0, a1, a2, a3, a4, a5, a6, a7, a8, af⟩ := SA.out
  obtain ⟨b0, b1, b2, b3, b4, b5, b6, b7, b8, bf⟩ := SB.out
  go_upto_region 6 with (first
    | (go_at_call 42; (with_reducible refine (M1.out _).mono ?_); rintro e w6 ⟨rfl, hb⟩; have HO := hidden (show SO w (w6.alloc (.cells #[.int .i64 m.p, .int .i64 m.a, .int .i64 m.b, .int .i64 m.lo.f, .int .u64 m.lo.h, .int .u64 m.lo.l, .int .i64 m.hi.f, .int .u64 m.hi.h, .int .u64 m.hi.l] 58)) k gn w6.heap.size a b m from ⟨(HC5.out.below hb).alloc _, (SA.out.below hb).alloc _, (SB.out.below hb).alloc _, SlIn.new w6 m _, by omega, by have := hb.size; omega⟩); clear hb; clear a0 a1 a2 a3 a4 a5 a6 a7 a8 b0 b1 b2 b3 b4 b5 b6 b7 b8 af bf; clear M1 SA SB HC5)
    | fail)
  generalize hw7 : w6.alloc (.cells #[.int .i64 m.p, .int .i64 m.a, .int .i64 m.b, .int .i64 m.lo.f, .int .u64 m.lo.h, .int .u64 m.lo.l, .int .i64 m.hi.f, .int .u64 m.hi.h, .int .u64 m.hi.l] 58) = w7 at *
  clear hw7
  generalize w6.heap.size = gm at *
  clear hl5 hk4
  have MZ : Hid (∀ (w : World), ok = true → Calls Try.prog 35 #[(.agg #[.int .i64 m.p, .int .i64 m.a, .int .i64 m.b, .int .i64 m.lo.f, .int .u64 m.lo.h, .int .u64 m.lo.l, .int .i64 m.hi.f, .int .u64 m.hi.h, .int .u64 m.hi.l])] w fun e w' => e = .returned (.int .i64 0) ∧ Below w.heap.size w w') := hidden (fun w h => scheck_at m 0 (hck h).1 w)
  have MA : Hid (∀ (w : World), ok = true → Calls Try.prog 43 #[(.agg #[.int .i64 m.p, .int .i64 m.a, .int .i64 m.b, .int .i64 m.lo.f, .int .u64 m.lo.h, .int .u64 m.lo.l, .int .i64 m.hi.f, .int .u64 m.hi.h, .int .u64 m.hi.l]), (.agg #[.int .i64 a.p, .int .i64 a.a, .int .i64 a.b, .int .i64 a.lo.f, .int .u64 a.lo.h, .int .u64 a.lo.l, .int .i64 a.hi.f, .int .u64 a.hi.h, .int .u64 a.hi.l])] w fun e w' => e = .returned (.bool true) ∧ Below w.heap.size w w') := hidden (fun w h => by
    have := inside_any m a w
    rw [(hck h).2.1] at this
    exact this)
  have MC : Hid (∀ (w : World), ok = true → Calls Try.prog 43 #[(.agg #[.int .i64 m.p, .int .i64 m.a, .int .i64 m.b, .int .i64 m.lo.f, .int .u64 m.lo.h, .int .u64 m.lo.l, .int .i64 m.hi.f, .int .u64 m.hi.h, .int .u64 m.hi.l]), (.agg #[.int .i64 b.p, .int .i64 b.a, .int .i64 b.b, .int .i64 b.lo.f, .int .u64 b.lo.h, .int .u64 b.lo.l, .int .i64 b.hi.f, .int .u64 b.hi.h, .int .u64 b.hi.l])] w fun e w' => e = .returned (.bool true) ∧ Below w.heap.size w w') := hidden (fun w h => by
    have := inside_any m b w
    rw [(hck h).2.2] at this
    exact this)
  clear hck
  go_cut [55] from 32 to 55 (fun v wx => v = .bool false ∧ SO w wx k gn gm a b m)
  case first =>
    obtain ⟨a0, a1, a2, a3, a4, a5, a6, a7, a8, af⟩ := HO.out.A
    obtain ⟨b0, b1, b2, b3, b4, b5, b6, b7, b8, bf⟩ := HO.out.B
    obtain ⟨m0, m1, m2, m3, m4, m5, m6, m7, m8, mf⟩ := HO.out.M
    cases ok with
    | false =>
      go_wp2_with (first
        | (go_at_call 43; (with_reducible refine (MS.out _).mono ?_); rintro e w8 ⟨rfl, hb⟩; replace HO := hidden (HO.out.below hb); clear hb)
        | fail)
      go_meet
      case rel => exact ⟨rfl, HO.out⟩
    | true =>
      replace MZ := hidden (fun w => MZ.out w rfl)
      replace MA := hidden (fun w => MA.out w rfl)
      replace MC := hidden (fun w => MC.out w rfl)
      go_wp2_with (first
        | (go_at_call 35; (with_reducible refine (MZ.out _).mono ?_); rintro e w8 ⟨rfl, hb⟩; replace HO := hidden (HO.out.below hb); clear hb; clear a0 a1 a2 a3 a4 a5 a6 a7 a8 b0 b1 b2 b3 b4 b5 b6 b7 b8 m0 m1 m2 m3 m4 m5 m6 m7 m8 af bf mf; obtain ⟨a0, a1, a2, a3, a4, a5, a6, a7, a8, af⟩ := HO.out.A; obtain ⟨b0, b1, b2, b3, b4, b5, b6, b7, b8, bf⟩ := HO.out.B; obtain ⟨m0, m1, m2, m3, m4, m5, m6, m7, m8, mf⟩ := HO.out.M)
        | (go_at_call 43; (with_reducible refine (MA.out _).mono ?_); rintro e w8 ⟨rfl, hb⟩; replace HO := hidden (HO.out.below hb); clear hb; clear a0 a1 a2 a3 a4 a5 a6 a7 a8 b0 b1 b2 b3 b4 b5 b6 b7 b8 m0 m1 m2 m3 m4 m5 m6 m7 m8 af bf mf; obtain ⟨a0, a1, a2, a3, a4, a5, a6, a7, a8, af⟩ := HO.out.A; obtain ⟨b0, b1, b2, b3, b4, b5, b6, b7, b8, bf⟩ := HO.out.B; obtain ⟨m0, m1, m2, m3, m4, m5, m6, m7, m8, mf⟩ := HO.out.M)
        | (go_at_call 43; (with_reducible refine (MC.out _).mono ?_); rintro e w8 ⟨rfl, hb⟩; replace HO := hidden (HO.out.below hb); clear hb; clear a0 a1 a2 a3 a4 a5 a6 a7 a8 b0 b1 b2 b3 b4 b5 b6 b7 b8 m0 m1 m2 m3 m4 m5 m6 m7 m8 af bf mf; obtain ⟨a0, a1, a2, a3, a4, a5, a6, a7, a8, af⟩ := HO.out.A; obtain ⟨b0, b1, b2, b3, b4, b5, b6, b7, b8, bf⟩ := HO.out.B; obtain ⟨m0, m1, m2, m3, m4, m5, m6, m7, m8, mf⟩ := HO.out.M)
        | (go_at_call 43; (with_reducible refine (MS.out _).mono ?_); rintro e w8 ⟨rfl, hb⟩; replace HO := hidden (HO.out.below hb); clear hb)
        | fail)
      go_meet
      case rel => exact ⟨rfl, HO.out⟩
  case rest =>
    obtain ⟨rfl, hso⟩ := hcut
    have HO1 := hidden hso
    clear hso HO MZ MA MC MS
    go_upto_region 8 with fail
    go_wp2_with fail
    go_loopw [10] (fun i wx => ∃ t : Nat, t ≤ 8 ∧ i = .int .i64 t ∧ SO w wx k gn gm a b m) (fun i _ => 8 - (intOf i).toNat)
    case atStart => exact ⟨0, by omega, rfl, HO1.out⟩
    case round =>
      obtain ⟨t, ht, rfl, hso⟩ := hrel
      have HO2 := hidden hso
      clear hso HO1
      by_cases h8 : t < 8
      · have h8i : (t : Int) < 8 := by omega
        have h8d : decide ((t : Int) < 8) = true := by simpa using h8i
        go_upto_region 12 with (first
          | (go_at_call 44; (with_reducible refine (packet_any w _ k HO2.out.cod).mono ?_); rintro e w8 ⟨x, rfl, hxs, hxp, hxu, hc, hg⟩; have HXS := hidden hxs; have HO3 := hidden ((HO2.out.grown hc hg).alloc (.cells #[.int .i64 x.s.f, .int .u64 x.s.h, .int .u64 x.s.l, .int .i64 x.t.f, .int .u64 x.t.h, .int .u64 x.t.l, .int .i64 x.p, .int .i64 x.u, .int .i64 x.v] 71)); have HP3 := hidden (PkIn.new w8 x 71); clear hxs hc hg HO2)
          | fail)
        generalize hw9 : w8.alloc (.cells #[.int .i64 x.s.f, .int .u64 x.s.h, .int .u64 x.s.l, .int .i64 x.t.f, .int .u64 x.t.h, .int .u64 x.t.l, .int .i64 x.p, .int .i64 x.u, .int .i64 x.v] 71) = w9 at *
        clear hw9
        generalize w8.heap.size = gp at *
        have HMO := hidden (fun w => mod_any port 65537 w g1 (by omega))
        have hm1 := Int.emod_nonneg port (show (65537 : Int) ≠ 0 by omega)
        have hm2 := Int.emod_lt_of_pos port (show (0 : Int) < 65537 by omega)
        generalize port % 65537 = pm at *
        obtain ⟨-, -, -, -, -, -, -, p7, -, -⟩ := HP3.out
        have a1 := HO3.out.A.c1
        have b2 := HO3.out.B.c2
        have hw1 : IntKind.i64.wrap (pm - 1) = pm - 1 := by rw [IntKind.wrap_i64]; omega
        have hgp := HP3.out.lt
        have hgn : gn < w9.heap.size := HO3.out.A.lt
        have hgb : gn + 1 < w9.heap.size := HO3.out.B.lt
        go_cut [71, 72, 73] from 62 to 73 (fun u1 u2 u3 wx => ∃ g, u1 = .slice (some ⟨g, 0, none⟩) 5 5 ∧ u2 = .int .i64 5 ∧ u3 = .int .i64 0 ∧ SO w wx k gn gm a b m ∧ PkIn wx gp x ∧ ∀ t : Nat, t < 5 → ∃ q : Int, wx.cell? ⟨g, t, none⟩ = some (.int .i64 q))
        case first =>
          have P7 := hidden p7
          have A1 := hidden a1
          have B2 := hidden b2
          have HD := hidden (HO3.out.below (wy := w9.drew) (drew_below ⟨1, rfl⟩))
          have HPD := hidden (HP3.out.below (w' := w9.drew) (drew_below ⟨1, rfl⟩))
          go_region_held3 (fun w' => w'.cell? ⟨gp, 7, none⟩ = some (.int .i64 x.u) ∧ w'.cell? ⟨gn, 1, none⟩ = some (.int .i64 a.a) ∧ w'.cell? ⟨gn + 1, 2, none⟩ = some (.int .i64 b.b)) (first | exact ⟨p7, a1, b2⟩ | exact ⟨(HPD.out.alloc _).c7, (HD.out.alloc _).A.c1, (HD.out.alloc _).B.c2⟩ | go_keep)
            (first
            | (go_at_call 45; (with_reducible refine (HMO.out _).mono ?_); rintro e w' ⟨rfl, rfl⟩)
            | fail)
          all_goals go_wp2_with fail
          all_goals go_meet
          exact ⟨_, rfl, rfl, rfl, (HO3.out.alloc _).below (drew_below ⟨1, rfl⟩), (HP3.out.alloc _).below (drew_below ⟨1, rfl⟩), rows5 w9 _ _ _ _ _ _⟩
        case rest =>
          obtain ⟨gw, rfl, rfl, rfl, hso, hpk, hrow⟩ := hcut
          have HQ := hidden (SQ.mk hso hpk hrow)
          clear hso hpk hrow p7 a1 b2 HO3 HP3 HMO hgp hgn hgb
          go_wp2_with fail
          go_loopw [73] (fun i wy => ∃ t2 : Nat, t2 ≤ 5 ∧ i = .int .i64 t2 ∧ SQ w wy k gn gm gp gw a b m x) (fun i _ => 5 - (intOf i).toNat)
          case atStart => exact ⟨0, by omega, rfl, HQ.out⟩
          case round =>
            obtain ⟨t2, ht2, rfl, hsq⟩ := hrel
            have HQ1 := hidden hsq
            clear hsq HQ
            by_cases h25 : t2 < 5
            · have h25i : (t2 : Int) < 5 := by omega
              have h25d : decide ((t2 : Int) < 5) = true := by simpa using h25i
              obtain ⟨q, hq⟩ := HQ1.out.W t2 h25
              obtain ⟨a0, a1, a2, a3, a4, a5, a6, a7, a8, af⟩ := HQ1.out.O.A
              obtain ⟨b0, b1, b2, b3, b4, b5, b6, b7, b8, bf⟩ := HQ1.out.O.B
              obtain ⟨p0, p1, p2, -, -, -, p6, p7, -, -⟩ := HQ1.out.P
              go_upto_region 16 with fail
              have HQ2 := hidden (HQ1.out.below ((Below.refl _ _).alloc (Nat.le_refl _) (.cells #[.int .i64 x.s.f, .int .u64 x.s.h, .int .u64 x.s.l, .int .i64 a.lo.f, .int .u64 a.lo.h, .int .u64 a.lo.l, .int .i64 a.hi.f, .int .u64 a.hi.h, .int .u64 a.hi.l, .int .i64 b.lo.f, .int .u64 b.lo.h, .int .u64 b.lo.l, .int .i64 b.hi.f, .int .u64 b.hi.h, .int .u64 b.hi.l] 56)))
              have HRA := hidden (RowA.new wr x.s a.lo a.hi b.lo b.hi 56 HXS.out HFA.out.flo HFA.out.fhi HFB.out.flo HFB.out.fhi)
              generalize hwz : wr.alloc (.cells #[.int .i64 x.s.f, .int .u64 x.s.h, .int .u64 x.s.l, .int .i64 a.lo.f, .int .u64 a.lo.h, .int .u64 a.lo.l, .int .i64 a.hi.f, .int .u64 a.hi.h, .int .u64 a.hi.l, .int .i64 b.lo.f, .int .u64 b.lo.h, .int .u64 b.lo.l, .int .i64 b.hi.f, .int .u64 b.hi.h, .int .u64 b.hi.l] 56) = wz at *
              clear hwz
              generalize wr.heap.size = gu at *
              clear a0 a1 a2 a3 a4 a5 a6 a7 a8 b0 b1 b2 b3 b4 b5 b6 b7 b8 af bf
              clear p0 p1 p2 p6 p7 hq HQ1
              go_wp2_with fail
              go_loopw [89] (fun i wy => ∃ t3 : Nat, t3 ≤ 5 ∧ i = .int .i64 t3 ∧ SQ w wy k gn gm gp gw a b m x ∧ RowA wy gu) (fun i _ => 5 - (intOf i).toNat)
              case atStart => exact ⟨0, by omega, rfl, HQ2.out, HRA.out⟩
              case round =>
                obtain ⟨t3, ht3, rfl, hsq, hra⟩ := hrel
                have HQ3 := hidden hsq
                have HR3 := hidden hra
                clear hsq hra HQ2 HRA
                by_cases h35 : t3 < 5
                · have h35i : (t3 : Int) < 5 := by omega
                  have h35d : decide ((t3 : Int) < 5) = true := by simpa using h35i
                  obtain ⟨u, hu, u0, u1, u2⟩ := HR3.out t3 h35
                  have HU := hidden hu
                  go_upto_region 18 with fail
                  have HQ4 := hidden (HQ3.out.below ((Below.refl _ _).alloc (Nat.le_refl _) (.cells #[.int .i64 u.f, .int .u64 u.h, .int .u64 u.l] 56)))
                  have HR4 := hidden (HR3.out.below ((Below.refl _ _).alloc (Nat.le_refl _) (.cells #[.int .i64 u.f, .int .u64 u.h, .int .u64 u.l] 56)))
                  have HU4 := hidden (AdIn.new wr u 56)
                  generalize hwv : wr.alloc (.cells #[.int .i64 u.f, .int .u64 u.h, .int .u64 u.l] 56) = wv at *
                  clear hwv
                  generalize wr.heap.size = gU at *
                  clear hu u0 u1 u2 HQ3 HR3
                  have HHA := hidden (fun w => has_any a u x.p q w)
                  have HHB := hidden (fun w => has_any b u x.p q w)
                  have HHM := hidden (fun w => has_any m u x.p q w)
                  have hAB := HMM.out.has u x.p q HU.out
                  have hSB := HMM.out.sub u x.p q HU.out
                  generalize hasS a u x.p q = I at *
                  generalize hasS b u x.p q = J at *
                  generalize hasS m u x.p q = L at *
                  go_cut [16, 17] from 93 to 104 (fun v1 v2 wy => v1 = .bool I ∧ v2 = .bool J ∧ SQ w wy k gn gm gp gw a b m x ∧ RowA wy gu ∧ AdIn wy gU u)
                  case first =>
                    obtain ⟨a0, a1, a2, a3, a4, a5, a6, a7, a8, af⟩ := HQ4.out.O.A
                    obtain ⟨b0, b1, b2, b3, b4, b5, b6, b7, b8, bf⟩ := HQ4.out.O.B
                    obtain ⟨u0, u1, u2, uf⟩ := HU4.out
                    have p6 := HQ4.out.P.c6
                    have HQX := hidden (HQ4.out.below (wy := wv.drew) (drew_below ⟨1, rfl⟩))
                    have HUX := hidden (HU4.out.below (w' := wv.drew) (drew_below ⟨1, rfl⟩))
                    have HRX := hidden (HR4.out.below (wy := wv.drew) (drew_below ⟨1, rfl⟩))
                    go_region_held3 (fun w' => w'.cell? ⟨gn, 0, none⟩ = some (.int .i64 a.p) ∧ w'.cell? ⟨gn, 1, none⟩ = some (.int .i64 a.a) ∧ w'.cell? ⟨gn, 2, none⟩ = some (.int .i64 a.b) ∧ w'.cell? ⟨gn, 3, none⟩ = some (.int .i64 a.lo.f) ∧ w'.cell? ⟨gn, 4, none⟩ = some (.int .u64 a.lo.h) ∧ w'.cell? ⟨gn, 5, none⟩ = some (.int .u64 a.lo.l) ∧ w'.cell? ⟨gn, 6, none⟩ = some (.int .i64 a.hi.f) ∧ w'.cell? ⟨gn, 7, none⟩ = some (.int .u64 a.hi.h) ∧ w'.cell? ⟨gn, 8, none⟩ = some (.int .u64 a.hi.l) ∧ w'.cell? ⟨gn + 1, 0, none⟩ = some (.int .i64 b.p) ∧ w'.cell? ⟨gn + 1, 1, none⟩ = some (.int .i64 b.a) ∧ w'.cell? ⟨gn + 1, 2, none⟩ = some (.int .i64 b.b) ∧ w'.cell? ⟨gn + 1, 3, none⟩ = some (.int .i64 b.lo.f) ∧ w'.cell? ⟨gn + 1, 4, none⟩ = some (.int .u64 b.lo.h) ∧ w'.cell? ⟨gn + 1, 5, none⟩ = some (.int .u64 b.lo.l) ∧ w'.cell? ⟨gn + 1, 6, none⟩ = some (.int .i64 b.hi.f) ∧ w'.cell? ⟨gn + 1, 7, none⟩ = some (.int .u64 b.hi.h) ∧ w'.cell? ⟨gn + 1, 8, none⟩ = some (.int .u64 b.hi.l) ∧ w'.cell? ⟨gU, 0, none⟩ = some (.int .i64 u.f) ∧ w'.cell? ⟨gU, 1, none⟩ = some (.int .u64 u.h) ∧ w'.cell? ⟨gU, 2, none⟩ = some (.int .u64 u.l) ∧ w'.cell? ⟨gp, 6, none⟩ = some (.int .i64 x.p)) (first | exact ⟨HQX.out.O.A.c0, HQX.out.O.A.c1, HQX.out.O.A.c2, HQX.out.O.A.c3, HQX.out.O.A.c4, HQX.out.O.A.c5, HQX.out.O.A.c6, HQX.out.O.A.c7, HQX.out.O.A.c8, HQX.out.O.B.c0, HQX.out.O.B.c1, HQX.out.O.B.c2, HQX.out.O.B.c3, HQX.out.O.B.c4, HQX.out.O.B.c5, HQX.out.O.B.c6, HQX.out.O.B.c7, HQX.out.O.B.c8, HUX.out.c0, HUX.out.c1, HUX.out.c2, HQX.out.P.c6⟩ | exact ⟨HQY.out.O.A.c0, HQY.out.O.A.c1, HQY.out.O.A.c2, HQY.out.O.A.c3, HQY.out.O.A.c4, HQY.out.O.A.c5, HQY.out.O.A.c6, HQY.out.O.A.c7, HQY.out.O.A.c8, HQY.out.O.B.c0, HQY.out.O.B.c1, HQY.out.O.B.c2, HQY.out.O.B.c3, HQY.out.O.B.c4, HQY.out.O.B.c5, HQY.out.O.B.c6, HQY.out.O.B.c7, HQY.out.O.B.c8, HUY.out.c0, HUY.out.c1, HUY.out.c2, HQY.out.P.c6⟩ | exact ⟨HQZ.out.O.A.c0, HQZ.out.O.A.c1, HQZ.out.O.A.c2, HQZ.out.O.A.c3, HQZ.out.O.A.c4, HQZ.out.O.A.c5, HQZ.out.O.A.c6, HQZ.out.O.A.c7, HQZ.out.O.A.c8, HQZ.out.O.B.c0, HQZ.out.O.B.c1, HQZ.out.O.B.c2, HQZ.out.O.B.c3, HQZ.out.O.B.c4, HQZ.out.O.B.c5, HQZ.out.O.B.c6, HQZ.out.O.B.c7, HQZ.out.O.B.c8, HUZ.out.c0, HUZ.out.c1, HUZ.out.c2, HQZ.out.P.c6⟩ | go_keep)
                      (first
                      | (go_at_call 46; (with_reducible refine (HHA.out _).mono ?_); rintro e wA ⟨rfl, hb⟩; have HQY := hidden (HQX.out.below hb); have HUY := hidden (HUX.out.below hb); have HRY := hidden (HRX.out.below hb); clear hb)
                      | (go_at_call 46; (with_reducible refine (HHB.out _).mono ?_); rintro e wB ⟨rfl, hb⟩; have HQZ := hidden (HQY.out.below hb); have HUZ := hidden (HUY.out.below hb); have HRZ := hidden (HRY.out.below hb); clear hb)
                      | fail)
                    all_goals go_wp2_with fail
                    all_goals go_meet
                    all_goals (case rel => exact ⟨rfl, rfl, HQZ.out, HRZ.out, HUZ.out⟩)
                  case rest =>
                    obtain ⟨rfl, rfl, hsq, hra, hau⟩ := hcut
                    have HQ5 := hidden hsq
                    have HR5 := hidden hra
                    have HU5 := hidden hau
                    clear hsq hra hau HQ4 HR4 HU4 HHA HHB
                    go_upto_region 19 with fail
                    go_cut [130] from 105 to 130 (fun v wy => v = .bool false ∧ SQ w wy k gn gm gp gw a b m x ∧ RowA wy gu)
                    case first =>
                      obtain ⟨a0, a1, a2, a3, a4, a5, a6, a7, a8, af⟩ := HQ5.out.O.A
                      obtain ⟨b0, b1, b2, b3, b4, b5, b6, b7, b8, bf⟩ := HQ5.out.O.B
                      obtain ⟨m0, m1, m2, m3, m4, m5, m6, m7, m8, mf⟩ := HQ5.out.O.M
                      obtain ⟨u0, u1, u2, uf⟩ := HU5.out
                      have p6 := HQ5.out.P.c6
                      clear HMM HXS HFA HFB
                      cases I <;> cases J <;> cases ok <;> cases L <;> cases ib
                      all_goals first | exact absurd hAB (by decide) | exact absurd (hSB rfl rfl) (by decide) | skip
                      all_goals
                        clear hAB hSB
                        go_wp2_with (first
                          | (go_at_call 46; (with_reducible refine (HHM.out _).mono ?_); rintro e wA ⟨rfl, hb⟩; replace HQ5 := hidden (HQ5.out.below hb); replace HR5 := hidden (HR5.out.below hb); clear a0 a1 a2 a3 a4 a5 a6 a7 a8 b0 b1 b2 b3 b4 b5 b6 b7 b8 m0 m1 m2 m3 m4 m5 m6 m7 m8 af bf mf; clear u0 u1 u2 uf p6 hb; obtain ⟨a0, a1, a2, a3, a4, a5, a6, a7, a8, af⟩ := HQ5.out.O.A; obtain ⟨b0, b1, b2, b3, b4, b5, b6, b7, b8, bf⟩ := HQ5.out.O.B)
                          | (go_at_call 43; (with_reducible refine (MB.out _).mono ?_); rintro e wB ⟨rfl, hb⟩; replace HQ5 := hidden (HQ5.out.below hb); replace HR5 := hidden (HR5.out.below hb); clear hb)
                          | fail)
                        go_meet
                        case rel => exact ⟨rfl, HQ5.out, HR5.out⟩
                    case rest =>
                      obtain ⟨rfl, hsq, hra⟩ := hcut
                      have HQ6 := hidden hsq
                      have HR6 := hidden hra
                      clear hsq hra HQ5 HR5 HU5
                      go_wp2
                      go_roundw
                      case rel => exact ⟨t3 + 1, by omega, by go_num, HQ6.out, HR6.out⟩
                      case measure => simp [intOf]; omega
                · obtain rfl : t3 = 5 := by omega
                  go_wp2
                  go_roundw
                  case rel => exact ⟨t2 + 1, by omega, by go_num, HQ3.out⟩
                  case measure => simp [intOf]; omega
            · obtain rfl : t2 = 5 := by omega
              go_wp2
              go_roundw
              case rel => exact ⟨t + 1, by omega, by go_num, HQ1.out.O⟩
              case measure => simp [intOf]; omega
      · obtain rfl : t = 8 := by omega
        go_wp2
        go_ret
        exact ⟨rfl, HO2.out.cod.bel⟩
end Go.Proofs.Ytnehhpkdfkemaaa
