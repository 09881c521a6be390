/-
  Package payload's Parse of the type 45, given what the reader returns.
  The first error of a message (message.Check).
-/
import Derived.Test.YtnbkffehhahckaaGreatJZ6
import Derived.Test.YtnbkffehhahckaaGreatJZ11
import Derived.Test.YtnbkffehhahckaaGreatJZ19
namespace Go.Proofs.YtnbkffehhahckaaGreat
open Go.RowKit
set_option linter.unusedVariables false
theorem reader_45 (p : Option Addr) (n c : Nat) (w : World) :
    Calls Tryz.prog 56 #[.slice p n c, .int .i64 45] w fun e w' => e = .returned (.func (.func 81) #[.slice p n c] #[]) ∧ w = w' := by
  go_enter Tryz.func56, Tryz.ntmps56
  go_wp2
  go_ret
  exact ⟨rfl, rfl⟩
set_option maxHeartbeats 1600000 in
set_option maxRecDepth 100000 in
theorem pparse_45 (p : Option Addr) (n c : Nat) (xs : List Int) (cr : Bool) (E : Int) (G : Gd) (w : World) (h : Byt w p n c xs) (HRD : ∀ w, Byt w p n c xs → Calls Tryz.prog 81 #[.slice p n c] w (ReadPv w E (fun w' x => G.ok w.heap.size w' x))) :
    Calls Tryz.prog 42 #[.agg #[.int .i64 45, .bool cr, .slice p n c]] w (ParsedV w 45 E G) := by
  have HX := hidden ((h.alloc (.cells #[.int .i64 45, .bool cr, .slice p n c] 85)).alloc (.cells #[.int .i64 0, .slice none 0 0, .int .i64 0, .slice none 0 0, .int .i64 0, .slice none 0 0, .int .i64 0, .slice none 0 0, .int .i64 0, .slice none 0 0, .int .i64 0, .slice none 0 0, .int .i64 0, .slice none 0 0, .slice none 0 0, .slice none 0 0] 56))
  have HB := hidden (((Below.refl w.heap.size w).alloc (Nat.le_refl _) (.cells #[.int .i64 45, .bool cr, .slice p n c] 85)).alloc (by simp) (.cells #[.int .i64 0, .slice none 0 0, .int .i64 0, .slice none 0 0, .int .i64 0, .slice none 0 0, .int .i64 0, .slice none 0 0, .int .i64 0, .slice none 0 0, .int .i64 0, .slice none 0 0, .int .i64 0, .slice none 0 0, .slice none 0 0, .slice none 0 0] 56))
  have HZ : Hid (PvIn ((w.alloc (.cells #[.int .i64 45, .bool cr, .slice p n c] 85)).alloc (.cells #[.int .i64 0, .slice none 0 0, .int .i64 0, .slice none 0 0, .int .i64 0, .slice none 0 0, .int .i64 0, .slice none 0 0, .int .i64 0, .slice none 0 0, .int .i64 0, .slice none 0 0, .int .i64 0, .slice none 0 0, .slice none 0 0, .slice none 0 0] 56)) (w.heap.size + 1) zeroP) := hidden (by
    have := PvIn.new (w.alloc (.cells #[.int .i64 45, .bool cr, .slice p n c] 85)) zeroP 56
    simpa [zeroP, nilV] using this)
  have HW0 := hidden (show ((w.alloc (.cells #[.int .i64 45, .bool cr, .slice p n c] 85)).alloc (.cells #[.int .i64 0, .slice none 0 0, .int .i64 0, .slice none 0 0, .int .i64 0, .slice none 0 0, .int .i64 0, .slice none 0 0, .int .i64 0, .slice none 0 0, .int .i64 0, .slice none 0 0, .int .i64 0, .slice none 0 0, .slice none 0 0, .slice none 0 0] 56)).cell? ⟨w.heap.size, 0, none⟩ = some (.int .i64 45) by go_simp)
  have HSZ := hidden (show ((w.alloc (.cells #[.int .i64 45, .bool cr, .slice p n c] 85)).alloc (.cells #[.int .i64 0, .slice none 0 0, .int .i64 0, .slice none 0 0, .int .i64 0, .slice none 0 0, .int .i64 0, .slice none 0 0, .int .i64 0, .slice none 0 0, .int .i64 0, .slice none 0 0, .int .i64 0, .slice none 0 0, .slice none 0 0, .slice none 0 0] 56)).heap.size = w.heap.size + 1 + 1 by simp)
  have HR := hidden HRD
  clear h HRD
  go_enter Tryz.func42, Tryz.ntmps42
  go_upto_region 3 with (first
    | (go_at_call 56; (with_reducible refine (reader_45 _ _ _ _).mono ?_); rintro e w' ⟨rfl, rfl⟩)
    | (go_at_call 81; (with_reducible refine (HR.out _ HX.out).mono ?_); rintro e w2 ⟨x, rfl, hb2, hgood⟩; have HBA := hidden (HB.out.trans (hb2.mono HB.out.size)); have HZA := hidden (HZ.out.below hb2); have HGO := hidden hgood; have HDA := hidden (cell_below hb2 _ _ HW0.out); have d0 := cell_below ((Below.refl _ w2).alloc (Nat.le_refl _) (.cells #[.int .i64 x.t, .slice x.pr.p x.pr.n x.pr.c, .int .i64 x.eg, .slice x.ed.p x.ed.n x.ed.c, .int .i64 x.ik, .slice x.id.p x.id.n x.id.c, .int .i64 x.am, .slice x.ad.p x.ad.n x.ad.c, .int .i64 x.np, .slice x.ns.p x.ns.n x.ns.c, .int .i64 x.nt, .slice x.nd.p x.nd.n x.nd.c, .int .i64 x.dp, .slice x.ds.p x.ds.n x.ds.c, .slice x.se.p x.se.n x.se.c, .slice x.da.p x.da.n x.da.c] 56)) _ _ HDA.out; have HSB := hidden hb2.size; clear hb2 hgood)
    | fail)
  have hsb := HSB.out
  rw [HSZ.out] at hsb
  have hne1 : ¬ w2.heap.size = w.heap.size + 1 := by omega
  have hne2 : ¬ w.heap.size + 1 = w2.heap.size := by omega
  by_cases hE : E = 0
  · subst hE
    have hk3 := PvIn.new w2 { x with t := 45 } 56
    have hz3 := HZA.out.alloc (.cells #[.int .i64 45, .slice x.pr.p x.pr.n x.pr.c, .int .i64 x.eg, .slice x.ed.p x.ed.n x.ed.c, .int .i64 x.ik, .slice x.id.p x.id.n x.id.c, .int .i64 x.am, .slice x.ad.p x.ad.n x.ad.c, .int .i64 x.np, .slice x.ns.p x.ns.n x.ns.c, .int .i64 x.nt, .slice x.nd.p x.nd.n x.nd.c, .int .i64 x.dp, .slice x.ds.p x.ds.n x.ds.c, .slice x.se.p x.se.n x.se.c, .slice x.da.p x.da.n x.da.c] 56)
    have hb3 := HBA.out.alloc HBA.out.size (.cells #[.int .i64 45, .slice x.pr.p x.pr.n x.pr.c, .int .i64 x.eg, .slice x.ed.p x.ed.n x.ed.c, .int .i64 x.ik, .slice x.id.p x.id.n x.id.c, .int .i64 x.am, .slice x.ad.p x.ad.n x.ad.c, .int .i64 x.np, .slice x.ns.p x.ns.n x.ns.c, .int .i64 x.nt, .slice x.nd.p x.nd.n x.nd.c, .int .i64 x.dp, .slice x.ds.p x.ds.n x.ds.c, .slice x.se.p x.se.n x.se.c, .slice x.da.p x.da.n x.da.c] 56)
    have hg3 := G.keep (HGO.out rfl) (fun a v ha hc => cell_below ((Below.refl _ w2).alloc (Nat.le_refl _) (.cells #[.int .i64 45, .slice x.pr.p x.pr.n x.pr.c, .int .i64 x.eg, .slice x.ed.p x.ed.n x.ed.c, .int .i64 x.ik, .slice x.id.p x.id.n x.id.c, .int .i64 x.am, .slice x.ad.p x.ad.n x.ad.c, .int .i64 x.np, .slice x.ns.p x.ns.n x.ns.c, .int .i64 x.nt, .slice x.nd.p x.nd.n x.nd.c, .int .i64 x.dp, .slice x.ds.p x.ds.n x.ds.c, .slice x.se.p x.se.n x.se.c, .slice x.da.p x.da.n x.da.c] 56)) _ _ hc)
    simp only at hk3 hz3 hb3 hg3
    have HK3 := hidden hk3
    have HZ3 := hidden hz3
    have HB3 := hidden hb3
    have HG3 := hidden hg3
    clear hk3 hz3 hb3 hg3 HGO HZA HBA
    go_upto_region 6 with fail
    clear d0
    generalize hw3 : w2.alloc (.cells #[.int .i64 45, .slice x.pr.p x.pr.n x.pr.c, .int .i64 x.eg, .slice x.ed.p x.ed.n x.ed.c, .int .i64 x.ik, .slice x.id.p x.id.n x.id.c, .int .i64 x.am, .slice x.ad.p x.ad.n x.ad.c, .int .i64 x.np, .slice x.ns.p x.ns.n x.ns.c, .int .i64 x.nt, .slice x.nd.p x.nd.n x.nd.c, .int .i64 x.dp, .slice x.ds.p x.ds.n x.ds.c, .slice x.se.p x.se.n x.se.c, .slice x.da.p x.da.n x.da.c] 56) = w3 at *
    generalize w2.heap.size = g5 at *
    clear hw3
    obtain ⟨k0, k1, k2, k3, k4, k5, k6, k7, k8, k9, k10, k11, k12, k13, k14, k15, kfr⟩ := HK3.out
    obtain ⟨y0, y1, y2, y3, y4, y5, y6, y7, y8, y9, y10, y11, y12, y13, y14, y15, z0, z1, z2, z3, z4, z5, z6, z7, z8, z9, z10, z11, z12, z13, z14, z15, zf⟩ := HZ3.out.any
    have hz := stored_pv HZ3.out HB3.out (by omega) { x with t := 45 }
    have hgd := (G.ty 45 (G.keep HG3.out (fun a v ha hc => (setPv_grown w3 (w.heap.size + 1) { x with t := 45 }).cell hc (by rw [HSZ.out] at ha; simp; omega))))
    simp only [setPv] at hz hgd
    have HZZ := hidden hz
    have HGG := hidden (G.mono hgd (by rw [HSZ.out]; omega : w.heap.size ≤ _))
    clear hz hgd
    go_wp2
    exact ret_pv (g := w.heap.size + 1) rfl rfl rfl rfl HZZ.out.1 ⟨_, rfl, HZZ.out.2, Or.inl ⟨rfl, rfl, HGG.out⟩⟩
  · have hE' : (E != 0) = true := by simpa using hE
    have HE := hidden hE
    clear hE HGO
    have HZ2 := hidden (HZA.out.alloc (.cells #[.int .i64 x.t, .slice x.pr.p x.pr.n x.pr.c, .int .i64 x.eg, .slice x.ed.p x.ed.n x.ed.c, .int .i64 x.ik, .slice x.id.p x.id.n x.id.c, .int .i64 x.am, .slice x.ad.p x.ad.n x.ad.c, .int .i64 x.np, .slice x.ns.p x.ns.n x.ns.c, .int .i64 x.nt, .slice x.nd.p x.nd.n x.nd.c, .int .i64 x.dp, .slice x.ds.p x.ds.n x.ds.c, .slice x.se.p x.se.n x.se.c, .slice x.da.p x.da.n x.da.c] 56))
    have HB2 := hidden (HBA.out.alloc HBA.out.size (.cells #[.int .i64 x.t, .slice x.pr.p x.pr.n x.pr.c, .int .i64 x.eg, .slice x.ed.p x.ed.n x.ed.c, .int .i64 x.ik, .slice x.id.p x.id.n x.id.c, .int .i64 x.am, .slice x.ad.p x.ad.n x.ad.c, .int .i64 x.np, .slice x.ns.p x.ns.n x.ns.c, .int .i64 x.nt, .slice x.nd.p x.nd.n x.nd.c, .int .i64 x.dp, .slice x.ds.p x.ds.n x.ds.c, .slice x.se.p x.se.n x.se.c, .slice x.da.p x.da.n x.da.c] 56))
    clear HZA HBA
    generalize hw3 : w2.alloc (.cells #[.int .i64 x.t, .slice x.pr.p x.pr.n x.pr.c, .int .i64 x.eg, .slice x.ed.p x.ed.n x.ed.c, .int .i64 x.ik, .slice x.id.p x.id.n x.id.c, .int .i64 x.am, .slice x.ad.p x.ad.n x.ad.c, .int .i64 x.np, .slice x.ns.p x.ns.n x.ns.c, .int .i64 x.nt, .slice x.nd.p x.nd.n x.nd.c, .int .i64 x.dp, .slice x.ds.p x.ds.n x.ds.c, .slice x.se.p x.se.n x.se.c, .slice x.da.p x.da.n x.da.c] 56) = w3 at *
    obtain ⟨y0, y1, y2, y3, y4, y5, y6, y7, y8, y9, y10, y11, y12, y13, y14, y15, z0, z1, z2, z3, z4, z5, z6, z7, z8, z9, z10, z11, z12, z13, z14, z15, zf⟩ := HZ2.out.any
    have hz := stored_pv HZ2.out HB2.out (by omega) zeroP
    simp only [setPv, zeroP, nilV] at hz
    have HZZ := hidden hz
    clear hz hw3
    go_wp2
    exact ret_pv (g := w.heap.size + 1) rfl rfl rfl rfl HZZ.out.1 ⟨zeroP, rfl, HZZ.out.2, Or.inr ⟨HE.out, rfl⟩⟩
end Go.Proofs.YtnbkffehhahckaaGreat

namespace Go.Proofs.YtnbkffehhahckaaGreat
open Go.RowKit
set_option linter.unusedVariables false
def twiceM : List Int → List Pv → Bool
  | _, [] => false
  | ts, y :: l => (decide (y.t ∈ ts) && !rep y.t) || twiceM (ts ++ [y.t]) l
def checkM (x f : Int) (l : List Pv) : Int :=
  let ts := l.map Pv.t
  if twiceM [] l then 9
  else if decide ((46 : Int) ∈ ts) || decide ((53 : Int) ∈ ts) then (if 1 < l.length then 7 else 0)
  else if l.any tells then 0
  else if !((needL x (bits BinOp.and IntKind.i64 f 32 == 0)).all (fun k => decide (k ∈ ts)) || (x == 34 && (l.all plainP && l.any (isNote 16390)))) || (decide ((44 : Int) ∈ ts) != decide ((45 : Int) ∈ ts)) then 8
  else 0
theorem Fnd.alloc {w : World} {b : Nat} {ts : List Int} (h : Fnd w b ts) (o : Obj) : Fnd (w.alloc o) b ts := h.below ((Below.refl _ _).alloc (Nat.le_refl _) o)
set_option maxHeartbeats 6400000 in
set_option maxRecDepth 100000 in
theorem check_any (i r nx x f m : Int) (p : Option Addr) (n c : Nat) (l : List Pv) (w : World) (h : RdG KPv DPv w p n c l) (hn : n ≤ 100000) (hx : IntR x) :
    Calls Tryz.prog 8 #[.agg #[.int .u64 i, .int .u64 r, .int .i64 nx, .int .i64 x, .int .i64 f, .int .u32 m, .slice p n c]] w fun e w' => e = .returned (.int .i64 (checkM x f l)) ∧ Below w.heap.size w w' := by
  have hmm := @run_makeMap Tryz.prog
  have HBX := hidden ((Below.refl w.heap.size w).alloc (Nat.le_refl _) (.cells #[.int .u64 i, .int .u64 r, .int .i64 nx, .int .i64 x, .int .i64 f, .int .u32 m, .slice p n c] 30))
  have H := hidden h
  have HFM := hidden (Fnd.made (w.alloc (.cells #[.int .u64 i, .int .u64 r, .int .i64 nx, .int .i64 x, .int .i64 f, .int .u32 m, .slice p n c] 30)))
  have HCX : Hid (∀ j u, (#[Value.int .u64 i, .int .u64 r, .int .i64 nx, .int .i64 x, .int .i64 f, .int .u32 m, .slice p n c] : Array Value)[j]? = some u → (w.alloc (.cells #[.int .u64 i, .int .u64 r, .int .i64 nx, .int .i64 x, .int .i64 f, .int .u32 m, .slice p n c] 30)).cell? ⟨w.heap.size, j, none⟩ = some u) := fun j u hj => by
    rw [World.cell?_alloc_at _ _ _ _ rfl]
    simpa using hj
  have HXI := hidden hx
  obtain ⟨R0, hR0⟩ : ∃ R0, twiceM [] l = R0 := ⟨_, rfl⟩
  have HR0 := Is.mk hR0
  clear hR0
  go_enter Tryz.func8, Tryz.ntmps8
  go_wp2_with fail
  go_loopw [11] (fun v wr => ∃ (j : Nat), j ≤ n ∧ v = .int .i64 j ∧ Fnd wr (w.heap.size + 1) ((l.take j).map Pv.t) ∧ Is (twiceM ((l.take j).map Pv.t) (l.drop j)) R0 ∧ Below (w.heap.size + 1) (w.alloc (.cells #[.int .u64 i, .int .u64 r, .int .i64 nx, .int .i64 x, .int .i64 f, .int .u32 m, .slice p n c] 30)) wr) (fun v _ => n - (intOf v).toNat)
  case atStart => exact ⟨0, by omega, rfl, by simpa using HFM.out, ⟨by simpa using HR0.eq⟩, (Below.refl _ _).alloc (by simp) _⟩
  case round =>
    obtain ⟨j, hj, rfl, hfn, hrel, hb⟩ := hrel
    have HFN := hidden hfn
    have hb' : Below (w.alloc (.cells #[.int .u64 i, .int .u64 r, .int .i64 nx, .int .i64 x, .int .i64 f, .int .u32 m, .slice p n c] 30)).heap.size (w.alloc (.cells #[.int .u64 i, .int .u64 r, .int .i64 nx, .int .i64 x, .int .i64 f, .int .u32 m, .slice p n c] 30)) wr := by simpa using hb
    have HB := hidden (HBX.out.trans (hb'.mono HBX.out.size))
    have HB1 := hidden hb
    have m0 := cell_below hb' _ _ (HCX.out 0 _ rfl)
    have m1 := cell_below hb' _ _ (HCX.out 1 _ rfl)
    have m2 := cell_below hb' _ _ (HCX.out 2 _ rfl)
    have m3 := cell_below hb' _ _ (HCX.out 3 _ rfl)
    have m4 := cell_below hb' _ _ (HCX.out 4 _ rfl)
    have m5 := cell_below hb' _ _ (HCX.out 5 _ rfl)
    have m6 := cell_below hb' _ _ (HCX.out 6 _ rfl)
    have hsz : w.heap.size + 1 ≤ wr.heap.size := by have := hb'.size; simpa using this
    clear hb hb' hfn
    by_cases hlt : j < n
    · have hlt' : (j : Int) < n := by omega
      obtain ⟨g, y, rfl, hgx, hdr, hok, hc⟩ := (H.out.below HB.out).drop_cons hlt
      have c0 := hc 0 _ rfl
      have c1 := hc 1 _ rfl
      have c2 := hc 2 _ rfl
      have c3 := hc 3 _ rfl
      have c4 := hc 4 _ rfl
      have c5 := hc 5 _ rfl
      have c6 := hc 6 _ rfl
      have c7 := hc 7 _ rfl
      have c8 := hc 8 _ rfl
      have c9 := hc 9 _ rfl
      have c10 := hc 10 _ rfl
      have c11 := hc 11 _ rfl
      have c12 := hc 12 _ rfl
      have c13 := hc 13 _ rfl
      have c14 := hc 14 _ rfl
      have c15 := hc 15 _ rfl
      simp only [Nat.add_zero] at c0
      have hf := hrel.eq
      rw [hdr] at hf
      unfold twiceM at hf
      have htk : (l.take (j + 1)).map Pv.t = (l.take j).map Pv.t ++ [y.t] := by
        rw [List.take_add_one, hgx]
        simp
      have HTK := Is.mk htk
      have hlen : ((l.take j).map Pv.t).length ≤ 100000 := by simp; omega
      have HIY := hidden hok.t
      have hlk := (HFN.out.alloc (.cells #[.int .i64 y.t, .slice y.pr.p y.pr.n y.pr.c, .int .i64 y.eg, .slice y.ed.p y.ed.n y.ed.c, .int .i64 y.ik, .slice y.id.p y.id.n y.id.c, .int .i64 y.am, .slice y.ad.p y.ad.n y.ad.c, .int .i64 y.np, .slice y.ns.p y.ns.n y.ns.c, .int .i64 y.nt, .slice y.nd.p y.nd.n y.nd.c, .int .i64 y.dp, .slice y.ds.p y.ds.n y.ds.c, .slice y.se.p y.se.n y.se.c, .slice y.da.p y.da.n y.da.c] 56)).look y.t hok.t
      have HFA := hidden (HFN.out.alloc (.cells #[.int .i64 y.t, .slice y.pr.p y.pr.n y.pr.c, .int .i64 y.eg, .slice y.ed.p y.ed.n y.ed.c, .int .i64 y.ik, .slice y.id.p y.id.n y.id.c, .int .i64 y.am, .slice y.ad.p y.ad.n y.ad.c, .int .i64 y.np, .slice y.ns.p y.ns.n y.ns.c, .int .i64 y.nt, .slice y.nd.p y.nd.n y.nd.c, .int .i64 y.dp, .slice y.ds.p y.ds.n y.ds.c, .slice y.se.p y.se.n y.se.c, .slice y.da.p y.da.n y.da.c] 56))
      have HBP := hidden (HB1.out.alloc hsz (.cells #[.int .i64 y.t, .slice y.pr.p y.pr.n y.pr.c, .int .i64 y.eg, .slice y.ed.p y.ed.n y.ed.c, .int .i64 y.ik, .slice y.id.p y.id.n y.id.c, .int .i64 y.am, .slice y.ad.p y.ad.n y.ad.c, .int .i64 y.np, .slice y.ns.p y.ns.n y.ns.c, .int .i64 y.nt, .slice y.nd.p y.nd.n y.nd.c, .int .i64 y.dp, .slice y.ds.p y.ds.n y.ds.c, .slice y.se.p y.se.n y.se.c, .slice y.da.p y.da.n y.da.c] 56))
      have HRP := hidden (repeats_any y.t)
      clear hok hrel hdr hgx hc htk
      generalize (l.take j).map Pv.t = ts at hf HFN HFA hlk hlen HTK
      generalize decide (y.t ∈ ts) = z at hf hlk
      generalize rep y.t = q at hf HRP
      cases z with
      | true =>
        cases q with
        | true =>
          have HT : Is (twiceM (ts ++ [y.t]) (l.drop (j + 1))) R0 := ⟨by simpa using hf⟩
          clear hf
          go_wp2_with (first
            | (go_at_call 18; (with_reducible refine (HRP.out _).mono ?_); rintro _ w1 ⟨rfl, rfl⟩)
            | (at_mapUpdate; go_loud (refine wpList_fnd _ rfl _ _ _ rfl (w.heap.size + 1) ts HFA.out (by unfold maxLen; omega) rfl y.t rfl rfl HIY.out ?_); rintro w2 hf2 hg2; have HF2 := hidden hf2; have HB2 := hidden (HBP.out.grown hg2 (by simp; omega) (fun k hk => by cases hk; exact Nat.le_refl _)); clear hf2 hg2)
            | fail)
          go_roundw
          case rel => exact ⟨j + 1, by omega, by go_num, by rw [HTK.eq]; exact HF2.out, by rw [HTK.eq]; exact HT, HB2.out⟩
          case measure => simp [intOf]; omega
        | false =>
          have HT : Is R0 true := ⟨by simpa using hf.symm⟩
          clear hf
          go_wp2_with (first
            | (go_at_call 18; (with_reducible refine (HRP.out _).mono ?_); rintro _ w1 ⟨rfl, rfl⟩)
            | fail)
          go_ret
          exact ⟨by unfold checkM; rw [HR0.eq, HT.eq]; rfl, HB.out.alloc HB.out.size _⟩
      | false =>
        have HT : Is (twiceM (ts ++ [y.t]) (l.drop (j + 1))) R0 := ⟨by simpa using hf⟩
        clear hf
        go_wp2_with (first
          | (at_mapUpdate; go_loud (refine wpList_fnd _ rfl _ _ _ rfl (w.heap.size + 1) ts HFA.out (by unfold maxLen; omega) rfl y.t rfl rfl HIY.out ?_); rintro w2 hf2 hg2; have HF2 := hidden hf2; have HB2 := hidden (HBP.out.grown hg2 (by simp; omega) (fun k hk => by cases hk; exact Nat.le_refl _)); clear hf2 hg2)
          | fail)
        go_roundw
        case rel => exact ⟨j + 1, by omega, by go_num, by rw [HTK.eq]; exact HF2.out, by rw [HTK.eq]; exact HT, HB2.out⟩
        case measure => simp [intOf]; omega
    · have hlt' : ¬ (j : Int) < n := by omega
      have hll := H.out.len
      have hd : l.drop j = [] := List.drop_eq_nil_of_le (by omega)
      have hf := hrel.eq
      rw [hd] at hf
      have HT : Is R0 false := ⟨hf.symm⟩
      have hFe := HFN.out
      rw [List.take_of_length_le (show l.length ≤ j by omega)] at hFe
      have k46 := hFe.look 46 (by unfold IntR; omega)
      have k53 := hFe.look 53 (by unfold IntR; omega)
      have HFE := hidden hFe
      have HFW := hidden (fails_any i r nx x f m p n c l wr (H.out.below HB.out))
      have HCW := hidden (fun W (hW : Below wr.heap.size wr W) => complete_any i r nx x f m p n c l (w.heap.size + 1) (l.map Pv.t) W ((H.out.below HB.out).below hW) hn HXI.out (HFE.out.below hW))
      have HLL := Is.mk hll
      have HCM : Is (checkM x f l) (if decide ((46 : Int) ∈ l.map Pv.t) || decide ((53 : Int) ∈ l.map Pv.t) then (if 1 < l.length then 7 else 0) else if l.any tells then 0
          else if !((needL x (bits BinOp.and IntKind.i64 f 32 == 0)).all (fun k => decide (k ∈ l.map Pv.t)) || (x == 34 && (l.all plainP && l.any (isNote 16390)))) || (decide ((44 : Int) ∈ l.map Pv.t) != decide ((45 : Int) ∈ l.map Pv.t)) then 8 else 0) := ⟨by unfold checkM; rw [HR0.eq, HT.eq]; rfl⟩
      generalize ((needL x (bits BinOp.and IntKind.i64 f 32 == 0)).all (fun k => decide (k ∈ l.map Pv.t)) || (x == 34 && (l.all plainP && l.any (isNote 16390)))) = cm at HCM HCW
      generalize l.any tells = fl at HCM HFW
      generalize hd46 : decide ((46 : Int) ∈ l.map Pv.t) = d46 at HCM k46
      generalize hd53 : decide ((53 : Int) ∈ l.map Pv.t) = d53 at HCM k53
      clear hf hd hrel hFe hd46 hd53
      by_cases h1 : 1 < n
      · have h1' : (1 : Int) < (n : Int) := by omega
        rw [if_pos (show 1 < l.length by omega)] at HCM
        cases d46 with
        | true =>
          go_wp2
          go_ret
          exact ⟨by rw [HCM.eq]; rfl, HB.out⟩
        | false =>
          cases d53 with
          | true =>
            go_wp2
            go_ret
            exact ⟨by rw [HCM.eq]; rfl, HB.out⟩
          | false =>
            cases fl with
            | true =>
              go_wp2_with (first
                | (go_at_call 19; (with_reducible refine (HFW.out).mono ?_); rintro _ wf ⟨rfl, hbf⟩; have HBF := hidden hbf; have HBG := hidden (HB.out.trans (hbf.mono HB.out.size)); have HFF := hidden (HFE.out.below hbf); have e0 := cell_below hbf _ _ m0; have e1 := cell_below hbf _ _ m1; have e2 := cell_below hbf _ _ m2; have e3 := cell_below hbf _ _ m3; have e4 := cell_below hbf _ _ m4; have e5 := cell_below hbf _ _ m5; have e6 := cell_below hbf _ _ m6; clear hbf)
                | fail)
              go_ret
              exact ⟨by rw [HCM.eq]; rfl, HBG.out⟩
            | false =>
              generalize hd44 : decide ((44 : Int) ∈ l.map Pv.t) = d44 at HCM
              generalize hd45 : decide ((45 : Int) ∈ l.map Pv.t) = d45 at HCM
              cases cm with
              | false =>
                go_wp2_with (first
                  | (go_at_call 19; (with_reducible refine (HFW.out).mono ?_); rintro _ wf ⟨rfl, hbf⟩; have HBF := hidden hbf; have HBG := hidden (HB.out.trans (hbf.mono HB.out.size)); have HFF := hidden (HFE.out.below hbf); have e0 := cell_below hbf _ _ m0; have e1 := cell_below hbf _ _ m1; have e2 := cell_below hbf _ _ m2; have e3 := cell_below hbf _ _ m3; have e4 := cell_below hbf _ _ m4; have e5 := cell_below hbf _ _ m5; have e6 := cell_below hbf _ _ m6; clear hbf)
                  | (go_at_call 20; (with_reducible refine (HCW.out _ HBF.out).mono ?_); rintro _ wk ⟨rfl, hbk⟩; have HBK := hidden (HBG.out.trans (hbk.mono HBG.out.size)); have k44 := (HFF.out.below hbk).look 44 (by unfold IntR; omega); have k45 := (HFF.out.below hbk).look 45 (by unfold IntR; omega); rw [hd44] at k44; rw [hd45] at k45; clear hbk)
                  | fail)
                go_ret
                exact ⟨by rw [HCM.eq]; rfl, HBK.out⟩
              | true =>
                cases d44 <;> cases d45
                all_goals
                  go_wp2_with (first
                    | (go_at_call 19; (with_reducible refine (HFW.out).mono ?_); rintro _ wf ⟨rfl, hbf⟩; have HBF := hidden hbf; have HBG := hidden (HB.out.trans (hbf.mono HB.out.size)); have HFF := hidden (HFE.out.below hbf); have e0 := cell_below hbf _ _ m0; have e1 := cell_below hbf _ _ m1; have e2 := cell_below hbf _ _ m2; have e3 := cell_below hbf _ _ m3; have e4 := cell_below hbf _ _ m4; have e5 := cell_below hbf _ _ m5; have e6 := cell_below hbf _ _ m6; clear hbf)
                    | (go_at_call 20; (with_reducible refine (HCW.out _ HBF.out).mono ?_); rintro _ wk ⟨rfl, hbk⟩; have HBK := hidden (HBG.out.trans (hbk.mono HBG.out.size)); have k44 := (HFF.out.below hbk).look 44 (by unfold IntR; omega); have k45 := (HFF.out.below hbk).look 45 (by unfold IntR; omega); rw [hd44] at k44; rw [hd45] at k45; clear hbk)
                    | fail)
                  go_ret
                  exact ⟨by rw [HCM.eq]; rfl, HBK.out⟩
      · have h1' : ¬ (1 : Int) < (n : Int) := by omega
        rw [if_neg (show ¬ 1 < l.length by omega)] at HCM
        cases d46 with
        | true =>
          go_wp2
          go_ret
          exact ⟨by rw [HCM.eq]; rfl, HB.out⟩
        | false =>
          cases d53 with
          | true =>
            go_wp2
            go_ret
            exact ⟨by rw [HCM.eq]; rfl, HB.out⟩
          | false =>
            cases fl with
            | true =>
              go_wp2_with (first
                | (go_at_call 19; (with_reducible refine (HFW.out).mono ?_); rintro _ wf ⟨rfl, hbf⟩; have HBF := hidden hbf; have HBG := hidden (HB.out.trans (hbf.mono HB.out.size)); have HFF := hidden (HFE.out.below hbf); have e0 := cell_below hbf _ _ m0; have e1 := cell_below hbf _ _ m1; have e2 := cell_below hbf _ _ m2; have e3 := cell_below hbf _ _ m3; have e4 := cell_below hbf _ _ m4; have e5 := cell_below hbf _ _ m5; have e6 := cell_below hbf _ _ m6; clear hbf)
                | fail)
              go_ret
              exact ⟨by rw [HCM.eq]; rfl, HBG.out⟩
            | false =>
              generalize hd44 : decide ((44 : Int) ∈ l.map Pv.t) = d44 at HCM
              generalize hd45 : decide ((45 : Int) ∈ l.map Pv.t) = d45 at HCM
              cases cm with
              | false =>
                go_wp2_with (first
                  | (go_at_call 19; (with_reducible refine (HFW.out).mono ?_); rintro _ wf ⟨rfl, hbf⟩; have HBF := hidden hbf; have HBG := hidden (HB.out.trans (hbf.mono HB.out.size)); have HFF := hidden (HFE.out.below hbf); have e0 := cell_below hbf _ _ m0; have e1 := cell_below hbf _ _ m1; have e2 := cell_below hbf _ _ m2; have e3 := cell_below hbf _ _ m3; have e4 := cell_below hbf _ _ m4; have e5 := cell_below hbf _ _ m5; have e6 := cell_below hbf _ _ m6; clear hbf)
                  | (go_at_call 20; (with_reducible refine (HCW.out _ HBF.out).mono ?_); rintro _ wk ⟨rfl, hbk⟩; have HBK := hidden (HBG.out.trans (hbk.mono HBG.out.size)); have k44 := (HFF.out.below hbk).look 44 (by unfold IntR; omega); have k45 := (HFF.out.below hbk).look 45 (by unfold IntR; omega); rw [hd44] at k44; rw [hd45] at k45; clear hbk)
                  | fail)
                go_ret
                exact ⟨by rw [HCM.eq]; rfl, HBK.out⟩
              | true =>
                cases d44 <;> cases d45
                all_goals
                  go_wp2_with (first
                    | (go_at_call 19; (with_reducible refine (HFW.out).mono ?_); rintro _ wf ⟨rfl, hbf⟩; have HBF := hidden hbf; have HBG := hidden (HB.out.trans (hbf.mono HB.out.size)); have HFF := hidden (HFE.out.below hbf); have e0 := cell_below hbf _ _ m0; have e1 := cell_below hbf _ _ m1; have e2 := cell_below hbf _ _ m2; have e3 := cell_below hbf _ _ m3; have e4 := cell_below hbf _ _ m4; have e5 := cell_below hbf _ _ m5; have e6 := cell_below hbf _ _ m6; clear hbf)
                    | (go_at_call 20; (with_reducible refine (HCW.out _ HBF.out).mono ?_); rintro _ wk ⟨rfl, hbk⟩; have HBK := hidden (HBG.out.trans (hbk.mono HBG.out.size)); have k44 := (HFF.out.below hbk).look 44 (by unfold IntR; omega); have k45 := (HFF.out.below hbk).look 45 (by unfold IntR; omega); rw [hd44] at k44; rw [hd45] at k45; clear hbk)
                    | fail)
                  go_ret
                  exact ⟨by rw [HCM.eq]; rfl, HBK.out⟩
end Go.Proofs.YtnbkffehhahckaaGreat
