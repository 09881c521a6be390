/-
  The law ProposalReads, walked: it returns true for every input of at most a mebibyte each, and only adds memory of its own.
-/
import Derived.Test.YtblpkbjbaajdeaaPropLaws
import Derived.Test.YtblpkbjbaajdeaaRParse4
import Derived.Test.YtblpkbjbaajdeaaRBuild4
import Derived.Test.YtblpkbjbaajdeaaChange
namespace Go.Proofs.Ytblpkbjbaajdeaa
open Go.RowKit
set_option linter.unusedVariables false

/-- Element q of the row of inputs: some bytes, at most a mebibyte. -/
def InMeb (w : World) (g q : Nat) : Prop := ∃ (p : Option Addr) (n c : Nat) (xs : List Int), w.cell? ⟨g, q, none⟩ = some (.slice p n c) ∧ Byt w p n c xs ∧ n ≤ 1048576
theorem insMeb4 (w : World) (p0 p1 p2 p3 : Option Addr) (n0 n1 n2 n3 c0 c1 c2 c3 : Nat) (x0 x1 x2 x3 : List Int) (T : TypeId) (h0 : Byt w p0 n0 c0 x0) (h1 : Byt w p1 n1 c1 x1) (h2 : Byt w p2 n2 c2 x2) (h3 : Byt w p3 n3 c3 x3) (b0 : n0 ≤ 1048576) (b1 : n1 ≤ 1048576) (b2 : n2 ≤ 1048576) (b3 : n3 ≤ 1048576) :
    ∀ q, q < 4 → InMeb (w.alloc (.cells #[.slice p0 n0 c0, .slice p1 n1 c1, .slice p2 n2 c2, .slice p3 n3 c3] T)) w.heap.size q := by
  intro q hq
  have : q = 0 ∨ q = 1 ∨ q = 2 ∨ q = 3 := by omega
  rcases this with rfl | rfl | rfl | rfl
  · exact ⟨p0, n0, c0, x0, by go_simp, h0.alloc _, b0⟩
  · exact ⟨p1, n1, c1, x1, by go_simp, h1.alloc _, b1⟩
  · exact ⟨p2, n2, c2, x2, by go_simp, h2.alloc _, b2⟩
  · exact ⟨p3, n3, c3, x3, by go_simp, h3.alloc _, b3⟩
theorem buildP_le (l : List Pr) (h3 : l.length ≤ 3) {L : List Int} {E : Int} (h : buildP l = (L, E)) : L.length ≤ 912 := by
  unfold buildP at h
  split at h
  · simp at h
    obtain ⟨rfl, _⟩ := h
    simp
  · rename_i hz
    simp at h
    obtain ⟨rfl, _⟩ := h
    have := encPs_le l (checkP_ok (by simpa using hz)).2.2
    omega

set_option maxHeartbeats 3200000 in
set_option maxRecDepth 100000 in
theorem proposalReads_walk (p : Option Addr) (n c : Nat) (xs : List Int) (q : Option Addr) (m d : Nat) (ys : List Int) (w : World) (h : Byt w p n c xs) (b1 : c ≤ 1048576) (hq : Byt w q m d ys) (b2 : d ≤ 1048576) :
    Calls Try.prog 3 #[.slice p n c, .slice q m d] w fun e w' => e = .returned (.bool true) ∧ Below w.heap.size w w' := by
  have hnc := h.cap
  have HX := hidden h
  have HQ := hidden hq
  have HA := hidden (awake04_any w)
  clear h hq
  go_enter Try.func3, Try.ntmps3
  go_wp2_with (first
    | (go_at_call 5; (with_reducible refine (HA.out).mono ?_); rintro e w1 ⟨rfl, hb⟩; have HB1 := hidden hb; clear hb HA)
    | (go_at_call 6; (refine (new_any w q m d ys _ HQ.out HB1.out 160 (by omega)).mono ?_); rintro e w2 ⟨rfl, hc, hb⟩; have HC2 := hidden hc; have hk2 := hc.lt; clear hc hb HB1 HQ)
    | fail)
  go_at_call 9
  refine (next_any w _ _ HC2.out 3 (by omega)).mono ?_
  rintro e w3 ⟨r, rfl, hr0, hr3, hc3, -⟩
  have HC3 := hidden hc3
  have hwr : IntKind.i64.wrap (r * 2) = r * 2 := by rw [IntKind.wrap_i64]; omega
  obtain ⟨K, hK, hK5⟩ : ∃ K, (r * 2).tmod 5 = K ∧ (0 ≤ K ∧ K ≤ 4) := by
    have : r = 0 ∨ r = 1 ∨ r = 2 := by omega
    rcases this with rfl | rfl | rfl <;> exact ⟨_, rfl, by decide⟩
  have hwK : IntKind.i64.wrap (1 + K) = 1 + K := by rw [IntKind.wrap_i64]; omega
  clear hc3 HC2
  go_wp2_with fail
  go_at_call 8
  refine (drawP_any w _ _ HC3.out 3 (by omega) (by omega) (1 + K) (by omega)).mono ?_
  rintro e w4 ⟨v1, l1, rfl, h1a, h1b, hdr, hrow, hc4, -⟩
  have HC4 := hidden hc4
  have hk3 := hc4.lt
  obtain ⟨q1, d1, rfl, hrd⟩ := hrow.rd (D := DPr) rfl (fun _ h => h.rd)
  obtain ⟨⟨L, E⟩, hLE⟩ : ∃ r, buildP (l1.map PrP.pr) = r := ⟨_, rfl⟩
  have hLL := buildP_le _ (by rw [List.length_map]; omega) hLE
  have HLR := hidden (buildP_rng _ hrd.rng hLE)
  have HBD := hidden (rbuild_any q1 l1.length d1 l1 _ hrd L E hLE)
  clear hdr hrow hc4 HC3 hrd hLE hK
  generalize l1.length = nl1 at *
  go_wp2_with fail
  go_at_call 7
  (with_reducible refine (HBD.out).mono ?_)
  rintro e w5 ⟨v5, rfl, ho, hb⟩
  obtain ⟨p4, c4, rfl, hbod⟩ := ho.bod (n := L.length) rfl HLR.out
  have HBO4 := hidden hbod
  have HC5 := hidden (HC4.out.below hb)
  clear ho hb hbod HC4 HBD HLR
  generalize L.length = N4 at *
  go_wp2_with (first
    | (go_at_call 10; (refine (change_bod w _ _ HC5.out _ _ _ _ HBO4.out.byt (by omega)).mono ?_); rintro e w5 ⟨p5, n5, c5, z5, rfl, hz, hn5, hc, hg⟩; have HBO5 := hidden (HBO4.out.grown hg (OffB.low hk3)); have HZ5 := hidden hz; have hk4 := HC5.out.lt; have HC6 := hidden hc; clear hz hc hg HC5 HBO4)
    | (go_at_call 10; (refine (change_bod w _ _ HC6.out _ _ _ _ HBO5.out.byt (by omega)).mono ?_); rintro e w6 ⟨p6, n6, c6, z6, rfl, hz, hn6, hc, hg⟩; have HBO6 := hidden (HBO5.out.grown hg (OffB.low hk3)); have HZ6 := hidden (HZ5.out.grown hg (OffB.low hk4)); have HY6 := hidden hz; have hk5 := HC6.out.lt; have HC7 := hidden hc; clear hz hc hg HC6 HBO5 HZ5)
    | (go_at_call 10; (refine (change_bod w _ _ HC7.out _ _ _ _ HY6.out.byt (by omega)).mono ?_); rintro e w7 ⟨p7, n7, c7, z7, rfl, hz, hn7, hc, hg⟩; have HBO7 := hidden (HBO6.out.grown hg (OffB.low hk3)); have HZ7 := hidden (HZ6.out.grown hg (OffB.low hk4)); have HY7 := hidden hz; have HB7 := hidden hc.bel; clear hz hc hg HC7 HBO6 HZ6 HY6)
    | fail)
  have HI := hidden (insMeb4 w7 p p4 p5 p7 n N4 n5 n7 c c4 c5 c7 xs _ z5 z7 22 (HX.out.below HB7.out) HBO7.out.byt HZ7.out.byt HY7.out.byt (by omega) (by omega) (by omega) (by omega))
  have HB8 := hidden (HB7.out.alloc HB7.out.size (.cells #[.slice p n c, .slice p4 N4 c4, .slice p5 n5 c5, .slice p7 n7 c7] 22))
  generalize hwi : w7.alloc (.cells #[.slice p n c, .slice p4 N4 c4, .slice p5 n5 c5, .slice p7 n7 c7] 22) = wi at *
  clear hwi HX HBO7 HZ7 HY7 HB7
  generalize w7.heap.size = gs at *
  go_loopw [41] (fun j wq => ∃ t : Nat, t ≤ 4 ∧ j = .int .i64 t ∧ Below wi.heap.size wi wq) (fun j _ => 4 - (intOf j).toNat)
  case atStart => exact ⟨0, by omega, rfl, Below.refl _ _⟩
  case round =>
    obtain ⟨t, ht, rfl, hbq⟩ := hrel
    have HBq := hidden hbq
    by_cases h4 : t < 4
    · obtain ⟨pt, nt, ct, vs, cell0, hb, hnt⟩ := HI.out t h4
      have d0 := cell_below hbq _ _ cell0
      have HBT := hidden (hb.below hbq)
      obtain ⟨r, hr⟩ : ∃ r, parseP vs = r := ⟨_, rfl⟩
      have HP := hidden (fun w (h : Byt w pt nt ct vs) => pparse_any pt nt ct vs w h hnt r hr)
      have HR := hidden (fun w (h : Byt w pt nt ct vs) => rparse4_any pt nt ct vs w h hnt r hr)
      clear hbq cell0 hb hr
      obtain ⟨lr, er⟩ := r
      have hee : (er != er) = false := by simp
      go_wp2_with (first
        | (go_at_call 11; (with_reducible refine (HP.out _ HBT.out).mono ?_); rintro e wa ⟨va, la, rfl, hla, hra, hba⟩; obtain ⟨pa, ca, rfl, hrda⟩ := RowG.rd (D := DPr) hra rfl (fun _ h => h.rd); have HLA := hidden hla; have HRA := hidden hrda; have HBT3 := hidden (HBT.out.below hba); have HBa := hidden (HBq.out.trans (hba.mono HBq.out.size)); clear hla hra hba hrda d0 HBT HP)
        | (go_at_call 12; (with_reducible refine (HR.out _ HBT3.out).mono ?_); rintro e wb ⟨vb, lb, rfl, hlb, hrb, hbb⟩; obtain ⟨pb, cb, rfl, hrdb⟩ := RowG.rd (D := DPr) (n := la.length) hrb (by have := congrArg List.length (hlb.trans HLA.out.symm); simpa using this) (fun _ h => h.rd); have HS := hidden (same_alike pa pb la.length ca cb la lb wb (HRA.out.below hbb) hrdb (HLA.out.trans hlb.symm)); have HBb := hidden (HBa.out.trans (hbb.mono HBa.out.size)); clear hlb hrb hbb hrdb HRA HBT3 HR)
        | (go_at_call 13; (with_reducible refine (HS.out).mono ?_); rintro e wd ⟨rfl, hbd⟩; have HBd := hidden (HBb.out.trans (hbd.mono HBb.out.size)); clear hbd HS)
        | fail)
      go_roundw
      case rel => exact ⟨t + 1, by omega, by go_num, HBd.out⟩
      case measure => simp [intOf]; omega
    · obtain rfl : t = 4 := by omega
      go_wp2
      go_ret
      exact ⟨rfl, HB8.out.trans (HBq.out.mono HB8.out.size)⟩
end Go.Proofs.Ytblpkbjbaajdeaa
