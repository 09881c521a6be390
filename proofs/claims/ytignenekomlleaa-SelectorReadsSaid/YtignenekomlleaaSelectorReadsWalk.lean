/-
  The law SelectorReads, walked: it returns true for every input, and only adds memory of its own.
-/
import Derived.Test.YtignenekomlleaaSelectorReturnsWalk
import Derived.Test.YtignenekomlleaaRParse5
import Derived.Test.YtignenekomlleaaRBuild5
import Derived.Test.YtignenekomlleaaChange
namespace Go.Proofs.Ytignenekomlleaa
open Go.RowKit
set_option linter.unusedVariables false

/-- Element q of the row of inputs: some bytes. -/
def InOne (w : World) (g q : Nat) : Prop := ∃ (p : Option Addr) (n c : Nat) (xs : List Int), w.cell? ⟨g, q, none⟩ = some (.slice p n c) ∧ Byt w p n c xs
theorem ins4 (w : World) (p0 p1 p2 p3 : Option Addr) (n0 n1 n2 n3 c0 c1 c2 c3 : Nat) (x0 x1 x2 x3 : List Int) (T : TypeId) (h0 : Byt w p0 n0 c0 x0) (h1 : Byt w p1 n1 c1 x1) (h2 : Byt w p2 n2 c2 x2) (h3 : Byt w p3 n3 c3 x3) :
    ∀ q, q < 4 → InOne (w.alloc (.cells #[.slice p0 n0 c0, .slice p1 n1 c1, .slice p2 n2 c2, .slice p3 n3 c3] T)) w.heap.size q := by
  intro q hq
  have : q = 0 ∨ q = 1 ∨ q = 2 ∨ q = 3 := by omega
  rcases this with rfl | rfl | rfl | rfl
  · exact ⟨p0, n0, c0, x0, by go_simp, h0.alloc _⟩
  · exact ⟨p1, n1, c1, x1, by go_simp, h1.alloc _⟩
  · exact ⟨p2, n2, c2, x2, by go_simp, h2.alloc _⟩
  · exact ⟨p3, n3, c3, x3, by go_simp, h3.alloc _⟩

set_option maxHeartbeats 3200000 in
set_option maxRecDepth 100000 in
theorem selectorReads_walk (p : Option Addr) (n c : Nat) (xs : List Int) (q : Option Addr) (m d : Nat) (ys : List Int) (w : World) (h : Byt w p n c xs) (b1 : c ≤ 140737488351232) (hq : Byt w q m d ys) (b2 : d ≤ 140737488351232) :
    Calls Try.prog 4 #[.slice p n c, .slice q m d] w fun e w' => e = .returned (.bool true) ∧ Below w.heap.size w w' := by
  have HX := hidden h
  have HQ := hidden hq
  have HA := hidden (awake05_any w)
  clear h hq
  go_enter Try.func4, Try.ntmps4
  go_wp2_with (first
    | (go_at_call 16; (with_reducible refine (HA.out).mono ?_); rintro e w1 ⟨rfl, hb⟩; have HB1 := hidden hb; clear hb HA)
    | (go_at_call 8; (refine (new_any w q m d ys _ HQ.out HB1.out 160 (by omega)).mono ?_); rintro e w2 ⟨rfl, hc, hb⟩; have HC2 := hidden hc; have hk2 := hc.lt; clear hc hb HB1 HQ)
    | (go_at_call 18; (refine (sels_any w _ _ HC2.out 4 (by omega) (by omega)).mono ?_); rintro e w3 ⟨v1, l1, f1, rfl, hf1, h1a, h1b, hd1⟩; have HC3 := hidden hd1.cod; have hgood : ∀ s ∈ l1, GoodS s := (fun s hs => (hd1.all s hs).good); obtain ⟨q1, d1, rfl, hrd⟩ := hd1.row.rd (D := DSlr) rfl (fun _ h => h); have HBD := hidden (rbuild5_any q1 l1.length d1 l1 _ hrd _ 0 (built_good l1 hgood h1a (by omega))); have hk3 := hd1.cod.lt; have hel := encL_le l1 hgood; have her := encL_rng l1; clear hd1 hrd HC2)
    | (go_at_call 17; (with_reducible refine (HBD.out).mono ?_); rintro e w4 ⟨v4, rfl, ho, hb⟩; obtain ⟨p4, c4, rfl, hbod⟩ := ho.bod (n := 4 + (encL l1).length) (by simp; omega) (rng_append (by intro y hy; simp at hy; omega) her); have HBO4 := hidden hbod; have HC4 := hidden (HC3.out.below hb); clear ho hb hbod HC3 HBD; generalize encL l1 = E1 at *)
    | (go_at_call 12; (refine (change_bod w _ _ HC4.out _ _ _ _ HBO4.out.byt (by omega)).mono ?_); rintro e w5 ⟨p5, n5, c5, z5, rfl, hz, hn5, hc, hg⟩; have HBO5 := hidden (HBO4.out.grown hg (OffB.low hk3)); have HZ5 := hidden hz; have hk4 := HC4.out.lt; have HC5 := hidden hc; clear hz hc hg HC4 HBO4)
    | (go_at_call 12; (refine (change_bod w _ _ HC5.out _ _ _ _ HBO5.out.byt (by omega)).mono ?_); rintro e w6 ⟨p6, n6, c6, z6, rfl, hz, hn6, hc, hg⟩; have HBO6 := hidden (HBO5.out.grown hg (OffB.low hk3)); have HZ6 := hidden (HZ5.out.grown hg (OffB.low hk4)); have HY6 := hidden hz; have hk5 := HC5.out.lt; have HC6 := hidden hc; clear hz hc hg HC5 HBO5 HZ5)
    | (go_at_call 12; (refine (change_bod w _ _ HC6.out _ _ _ _ HY6.out.byt (by omega)).mono ?_); rintro e w7 ⟨p7, n7, c7, z7, rfl, hz, hn7, hc, hg⟩; have HBO7 := hidden (HBO6.out.grown hg (OffB.low hk3)); have HZ7 := hidden (HZ6.out.grown hg (OffB.low hk4)); have HY7 := hidden hz; have HB7 := hidden hc.bel; clear hz hc hg HC6 HBO6 HZ6 HY6)
    | fail)
  have HI := hidden (ins4 w7 p p4 p5 p7 n (4 + E1.length) n5 n7 c c4 c5 c7 xs _ z5 z7 22 (HX.out.below HB7.out) HBO7.out.byt HZ7.out.byt HY7.out.byt)
  have HB8 := hidden (HB7.out.alloc HB7.out.size (.cells #[.slice p n c, .slice p4 (4 + E1.length) c4, .slice p5 n5 c5, .slice p7 n7 c7] 22))
  generalize hwi : w7.alloc (.cells #[.slice p n c, .slice p4 (4 + E1.length) c4, .slice p5 n5 c5, .slice p7 n7 c7] 22) = wi at *
  clear hwi HX HBO7 HZ7 HY7 HB7 hel her hgood
  generalize w7.heap.size = gs at *
  go_loopw [36] (fun j wq => ∃ t : Nat, t ≤ 4 ∧ j = .int .i64 t ∧ Below wi.heap.size wi wq) (fun j _ => 4 - (intOf j).toNat)
  case atStart => exact ⟨0, by omega, rfl, Below.refl _ _⟩
  case round =>
    obtain ⟨t, ht, rfl, hbq⟩ := hrel
    have HBq := hidden hbq
    by_cases h4 : t < 4
    · obtain ⟨pt, nt, ct, vs, cell0, hb⟩ := HI.out t h4
      have d0 := cell_below hbq _ _ cell0
      have HBT := hidden (hb.below hbq)
      obtain ⟨r, hr⟩ : ∃ r, parseS vs = r := ⟨_, rfl⟩
      have HP := hidden (fun w (h : Byt w pt nt ct vs) => sparse_any pt nt ct vs w h r hr)
      have HR := hidden (fun w (h : Byt w pt nt ct vs) => rparse5_any pt nt ct vs w h r hr)
      clear hbq cell0 hb hr
      obtain ⟨lr, er⟩ := r
      have hee : (er != er) = false := by simp
      go_wp2_with (first
        | (go_at_call 19; (with_reducible refine (HP.out _ HBT.out).mono ?_); rintro e wa ⟨va, rfl, hra, hba⟩; obtain ⟨pa, ca, rfl, hrda⟩ := RowG.rd (D := DSlr) hra rfl (fun _ h => h); have HRA := hidden hrda; have HBT3 := hidden (HBT.out.below hba); have HBa := hidden (HBq.out.trans (hba.mono HBq.out.size)); clear hra hba hrda d0 HBT HP)
        | (go_at_call 20; (with_reducible refine (HR.out _ HBT3.out).mono ?_); rintro e wb ⟨vb, rfl, hrb, hbb⟩; obtain ⟨pb, cb, rfl, hrdb⟩ := RowG.rd (D := DSlr) hrb rfl (fun _ h => h); have HS := hidden (same5_yes pa pb lr.length ca cb lr wb (HRA.out.below hbb) hrdb); have HBb := hidden (HBa.out.trans (hbb.mono HBa.out.size)); clear hrb hbb hrdb HRA HBT3 HR)
        | (go_at_call 21; (with_reducible refine (HS.out).mono ?_); rintro e wd ⟨rfl, hbd⟩; have HBd := hidden (HBb.out.trans (hbd.mono HBb.out.size)); clear hbd HS)
        | fail)
      go_roundw
      case rel => exact ⟨t + 1, by omega, by go_num, HBd.out⟩
      case measure => simp [intOf]; omega
    · obtain rfl : t = 4 := by omega
      go_wp2
      go_ret
      exact ⟨rfl, HB8.out.trans (HBq.out.mono HB8.out.size)⟩
end Go.Proofs.Ytignenekomlleaa
