/-
  The header that a list of choices makes: it passes Check.
  A notification in memory of its own (message.copiedNote).
  The notifications of a type (message.Notes): a list that is empty just if there is none.
  Reply: the notification of every error, on both sides.
  A statement that draws its order: a condition on the world that holds till one operation, a call, has come up, beside one that holds throughout. What that call waits for may be loaded by the first condition, although stores behind the call end it.
  What header.Build returns: the 28 bytes of a header, or the first error.
  What Mod returns: the remainder that is not below zero.
-/
import Derived.Test.YtkniifopfgeopaaGreatJZ1
import Derived.Test.YtkniifopfgeopaaGreatJZ7
import Derived.Test.YtkniifopfgeopaaGreatJZ4
import Derived.Test.YtkniifopfgeopaaGreatJZ5
import Derived.Test.YtkniifopfgeopaaGreatJZ0
import Derived.Test.YtkniifopfgeopaaGreatRows
import Derived.Test.YtkniifopfgeopaaGreatJZ2
import Derived.Deep.RegionWith
import Derived.Deep.Cut
import Derived.Deep.CutRange
import Derived.Deep.CutBlock
import Derived.OrdersHeld
import Derived.Deep.RegionHeld
namespace Go.Proofs.YtkniifopfgeopaaGreat
open Go.RowKit
set_option linter.unusedVariables false

/-- What the made headers have in common. -/
structure Good (i r n x f m : Int) : Prop where
  gi : 1 ≤ i ∧ i ≤ 18446744073709551615
  gr : 0 ≤ r ∧ r ≤ 18446744073709551615
  gn : n = 0
  gx : 34 ≤ x ∧ x ≤ 37
  gf : f = 8 ∨ f = 32 ∨ f = 40 ∨ f = 0
  gm : 0 ≤ m ∧ m ≤ 255
  first : x = 34 → m = 0
  later : x ≠ 34 → r ≠ 0

/-- A whole header stored over another one. -/
theorem stored_hdr {w : World} {g : Nat} {i r n x f m i' r' n' x' f' m' : Int} (h : HdrIn w g 0 i r n x f m) :
    HdrIn ((((((w.setCell ⟨g, 0, none⟩ (.int .u64 i')).setCell ⟨g, 1, none⟩ (.int .u64 r')).setCell ⟨g, 2, none⟩ (.int .i64 n')).setCell ⟨g, 3, none⟩ (.int .i64 x')).setCell ⟨g, 4, none⟩ (.int .i64 f')).setCell ⟨g, 5, none⟩ (.int .u32 m')) g 0 i' r' n' x' f' m' :=
  (((((h.set0 _).set1 _).set2 _).set3 _).set4 _).set5 _
theorem HdrIn.set_ne {w : World} {g o : Nat} {i r n x f m : Int} (h : HdrIn w g o i r n x f m) (g' j : Nat) (v : Value) (hne : g ≠ g') : HdrIn (w.setCell ⟨g', j, none⟩ v) g o i r n x f m :=
  h.grown (grown_set w g' j v) (by simp; exact hne)

set_option maxHeartbeats 800000 in
theorem header_any (W w : World) (k : Nat) (h : Cod W w k) :
    Calls Tryz.prog 17 #[.pointer (some ⟨k, 0, none⟩)] w fun e w' => ∃ i r n x f m : Int, e = .returned (.agg #[.int .u64 i, .int .u64 r, .int .i64 n, .int .i64 x, .int .i64 f, .int .u32 m]) ∧ Good i r n x f m ∧ Cod W w' k ∧ w.grownBy w' (some k) := by
  have hk := h.lt
  have hbase := h.base
  have H := hidden (h.alloc (.cells #[.int .u64 0, .int .u64 0, .int .i64 0, .int .i64 0, .int .i64 0, .int .u32 0] 36))
  clear h
  go_enter Tryz.func17, Tryz.ntmps17
  go_wp2_with (go_at_call 31; refine (word_any W _ k H.out).mono ?_)
  rintro e w1 ⟨i, rfl, i0, i1, hc, hg⟩
  have HC := hidden hc
  have HR := hidden ((HdrIn.new w 0 0 0 0 0 0 36).grown hg (by simp; omega))
  have HG := hidden (grown_trans (World.grownBy_alloc w _ _) hg)
  clear hc hg H
  go_wp2_with (go_at_call 31; refine (word_any W _ k HC.out).mono ?_)
  rintro e w2 ⟨r, rfl, r0, r1, hc, hg⟩
  have HC2 := hidden hc
  have HR2 := hidden (HR.out.grown hg (by simp; omega))
  have HG2 := hidden (grown_trans HG.out hg)
  clear hc hg HC HR HG
  go_wp2_with (go_at_call 18; refine (next_any W _ k HC2.out _ ?_).mono ?_; omega)
  rintro e w3 ⟨x, rfl, x0, x1, hc, hg⟩
  have hk3 := hc.lt
  have HC3 := hidden (hc.alloc (.cells ((([8, 32, 40, 0] : List Int).map (Value.int .i64)).toArray) 3))
  have HR3 := hidden (HR2.out.grown hg (by simp; omega))
  have HG3 := hidden (grown_trans HG2.out hg)
  clear hc hg HC2 HR2 HG2
  go_wp2_with (go_at_call 18; refine (next_any W _ k HC3.out _ ?_).mono ?_; omega)
  rintro e w4 ⟨j, rfl, j0, j1, hc, hg⟩
  obtain ⟨j, rfl⟩ := Int.eq_ofNat_of_zero_le j0
  have hcell := hg.cell (ints_at w3 [8, 32, 40, 0] 3 j (by simp; omega)) (by simp; omega)
  have hf : List.getD [8, 32, 40, 0] j (0 : Int) = 8 ∨ List.getD [8, 32, 40, 0] j (0 : Int) = 32 ∨ List.getD [8, 32, 40, 0] j (0 : Int) = 40 ∨ List.getD [8, 32, 40, 0] j (0 : Int) = 0 := by
    have : j = 0 ∨ j = 1 ∨ j = 2 ∨ j = 3 := by omega
    rcases this with rfl | rfl | rfl | rfl <;> simp
  generalize List.getD [8, 32, 40, 0] j (0 : Int) = f at hcell hf
  have HF := hidden hf
  have HC4 := hidden hc
  have hh := ((HR3.out.grown (World.grownBy_alloc w3 _ none) (by simp)).grown hg (by simp; omega))
  have HR4 := hidden hh
  obtain ⟨q0, q1, q2, q3, q4, q5, qf⟩ := hh
  have HG4 := hidden (grown_trans (grown_trans HG3.out (World.grownBy_alloc w3 _ _)) hg)
  have hw4 := HR4.out.lt
  have hk4 := hc.lt
  have hs4 := HG4.out.size
  clear hc hg HC3 HR3 HG3 hf
  by_cases hx : x = 0
  · subst hx
    go_wp2
    all_goals refine ret_hdr (g := w.heap.size) rfl rfl rfl (HdrIn.alloc (stored_hdr HR4.out) _) ?_
    all_goals have hf := HF.out
    all_goals simp at *
    all_goals refine ⟨_, _, _, _, _, _, ⟨rfl, rfl, rfl, rfl, rfl, rfl⟩, ⟨by omega, by omega, by omega, by omega, by omega, by omega, by omega, by omega⟩, ?_, ?_⟩
    all_goals repeat' (first | with_reducible exact HC4.out | with_reducible exact HG4.out | (with_reducible refine Cod.alloc ?_ _) | (with_reducible refine Cod.set ?_ _ _ _ (by omega) (by omega)) | (with_reducible refine grown_alloc_new ?_ _) | (with_reducible refine grown_set_new ?_ _ _ _ (by omega)))
  · have ex : (34 + x == 34) = false := by simp; omega
    go_wp2_with (go_at_call 18; refine (next_any W _ k (HC4.out.alloc _) _ ?_).mono ?_; omega)
    rintro e w5 ⟨m, rfl, m0, m1, hc, hg⟩
    have hh := (HdrIn.new w4 i r 0 (34 + x) f 0 36).grown hg (by simp; omega)
    have hr := (HR4.out.alloc _).grown hg (by simp; omega)
    have HC5 := hidden hc
    have HG5 := hidden (grown_trans (grown_alloc_new HG4.out _) hg)
    have hw5 := hg.size
    simp at hw5
    clear q0 q1 q2 q3 q4 q5 qf HC4 HR4 HG4 hc hg hcell
    have HR5 := hidden hr
    obtain ⟨q0, q1, q2, q3, q4, q5, qf⟩ := hr
    obtain ⟨p0, p1, p2, p3, p4, p5, pf⟩ := hh
    go_wp2
    all_goals refine ret_hdr (g := w.heap.size) rfl rfl rfl (stored_hdr (i := 0) (r := 0) (n := 0) (x := 0) (f := 0) (m := 0) (by repeat' (first | with_reducible exact HR5.out | (with_reducible refine HdrIn.set_ne ?_ _ _ _ (by omega))))) ?_
    all_goals have hf := HF.out
    all_goals simp at *
    all_goals refine ⟨_, _, _, _, _, _, ⟨rfl, rfl, rfl, rfl, rfl, rfl⟩, ⟨by omega, by omega, by omega, by omega, by omega, by omega, by omega, by omega⟩, ?_, ?_⟩
    all_goals repeat' (first | with_reducible exact HC5.out | with_reducible exact HG5.out | (with_reducible refine Cod.alloc ?_ _) | (with_reducible refine Cod.set ?_ _ _ _ (by omega) (by omega)) | (with_reducible refine grown_alloc_new ?_ _) | (with_reducible refine grown_set_new ?_ _ _ _ (by omega)))
end Go.Proofs.YtkniifopfgeopaaGreat

namespace Go.Proofs.YtkniifopfgeopaaGreat
open Go.RowKit
set_option linter.unusedVariables false

/-- A notification lies at block g. -/
structure MnIn (w : World) (g : Nat) (np : Int) (p : Option Addr) (n c : Nat) (nt : Int) (q : Option Addr) (m d : Nat) : Prop where
  c0 : w.cell? ⟨g, 0, none⟩ = some (.int .i64 np)
  c1 : w.cell? ⟨g, 1, none⟩ = some (.slice p n c)
  c2 : w.cell? ⟨g, 2, none⟩ = some (.int .i64 nt)
  c3 : w.cell? ⟨g, 3, none⟩ = some (.slice q m d)
  fr : ∀ j, w.frozen? ⟨g, j, none⟩ = false
section
variable {w w' : World} {g : Nat} {np : Int} {p : Option Addr} {n c : Nat} {nt : Int} {q : Option Addr} {m d : Nat}
theorem MnIn.lt (h : MnIn w g np p n c nt q m d) : g < w.heap.size := World.block_lt_of_cell? w _ h.c0
theorem MnIn.grown {row : Option Nat} (h : MnIn w g np p n c nt q m d) (hg : w.grownBy w' row) (hne : some g ≠ row) : MnIn w' g np p n c nt q m d :=
  ⟨hg.cell h.c0 hne, hg.cell h.c1 hne, hg.cell h.c2 hne, hg.cell h.c3 hne, fun j => (World.frozen?_of_block (show w'.heap[(⟨g, j, none⟩ : Addr).block]? = _ from hg.block g h.lt hne)).trans (h.fr j)⟩
theorem MnIn.below (h : MnIn w g np p n c nt q m d) (hb : Below w.heap.size w w') : MnIn w' g np p n c nt q m d := h.grown (row := none) (grown_of_below hb none) (by simp)
theorem MnIn.new (w : World) (np : Int) (p : Option Addr) (n c : Nat) (nt : Int) (q : Option Addr) (m d : Nat) (T : TypeId) : MnIn (w.alloc (.cells #[.int .i64 np, .slice p n c, .int .i64 nt, .slice q m d] T)) w.heap.size np p n c nt q m d :=
  ⟨by go_simp, by go_simp, by go_simp, by go_simp, fun j => by go_simp⟩
theorem MnIn.set (h : MnIn w g np p n c nt q m d) (p' q' : Option Addr) (n' c' m' d' : Nat) : MnIn ((w.setCell ⟨g, 1, none⟩ (.slice p' n' c')).setCell ⟨g, 3, none⟩ (.slice q' m' d')) g np p' n' c' nt q' m' d' := by
  obtain ⟨c0, c1, c2, c3, fr⟩ := h
  exact ⟨by go_simp, by go_simp, by go_simp, by go_simp, fun j => by simp only [World.frozen?_setCell]; exact fr j⟩
theorem MnIn.all (h : MnIn w g np p n c nt q m d) (zp : Int) (p' : Option Addr) (n' c' : Nat) (zt : Int) (q' : Option Addr) (m' d' : Nat) : MnIn ((((w.setCell ⟨g, 0, none⟩ (.int .i64 zp)).setCell ⟨g, 1, none⟩ (.slice p' n' c')).setCell ⟨g, 2, none⟩ (.int .i64 zt)).setCell ⟨g, 3, none⟩ (.slice q' m' d')) g zp p' n' c' zt q' m' d' := by
  obtain ⟨c0, c1, c2, c3, fr⟩ := h
  exact ⟨by go_simp, by go_simp, by go_simp, by go_simp, fun j => by simp only [World.frozen?_setCell]; exact fr j⟩
theorem MnIn.other (h : MnIn w g np p n c nt q m d) {g' : Nat} (hne : g ≠ g') (u v : Value) : MnIn ((w.setCell ⟨g', 1, none⟩ u).setCell ⟨g', 3, none⟩ v) g np p n c nt q m d :=
  (h.grown (grown_set w g' 1 u) (by simp; exact hne)).grown (grown_set _ g' 3 v) (by simp; exact hne)
theorem load_nt (h : MnIn w g np p n c nt q m d) : (loadVar 54 ⟨g, 0, none⟩).run Tryz.prog w = .ok (.agg #[.int .i64 np, .slice p n c, .int .i64 nt, .slice q m d]) w := by
  obtain ⟨c0, c1, c2, c3, fr⟩ := h
  simp [loadVar, go_sem, c0, c1, c2, c3, Result.andThen]
theorem ret_nt {fn : Func} {R : Ending → World → Prop} {a : Act} {u : Nat} (h : fn.results = #[.cell u 54]) (hp : a.tmps.getD u undef = .pointer (some ⟨g, 0, none⟩)) (hd : a.defers = [])
    (hh : MnIn w g np p n c nt q m d) (hR : R (.returned (.agg #[.int .i64 np, .slice p n c, .int .i64 nt, .slice q m d])) w) : bodyPost Tryz.prog fn R .ret a w := by
  refine bodyPost_ret (v := .agg #[.int .i64 np, .slice p n c, .int .i64 nt, .slice q m d]) ?_ hd hR
  rw [Array.getD_eq_getD_getElem?] at hp
  simp [results, h, hp, asAddr, load_nt hh]
end

set_option maxHeartbeats 3200000 in
set_option maxRecDepth 100000 in
theorem copiedNote_any (np nt : Int) (p q : Option Addr) (n c m d : Nat) (xs ys : List Int) (w : World) (h : Byt w p n c xs) (k : Byt w q m d ys) (hn : n ≤ 140737488355328) (hm : m ≤ 140737488355328) :
    Calls Tryz.prog 79 #[.agg #[.int .i64 np, .slice p n c, .int .i64 nt, .slice q m d]] w fun e w' => (∃ (p' q' : Option Addr) (c' d' : Nat), e = .returned (.agg #[.int .i64 np, .slice p' n c', .int .i64 nt, .slice q' m d'])) ∧ Below w.heap.size w w' := by
  have hx := hidden h.rng
  have hy := hidden k.rng
  have HL := Is.mk h.len
  have KL := Is.mk k.len
  have HX := hidden (fun W (hb : Below w.heap.size w W) => clone_any p n c xs W (h.below hb) hn)
  have HY := hidden (fun W (hb : Below w.heap.size w W) => clone_any q m d ys W (k.below hb) hm)
  clear h k hn hm
  have hBD := ((((Below.refl w.heap.size w).alloc (Nat.le_refl _) (.cells #[.int .i64 np, .slice p n c, .int .i64 nt, .slice q m d] 54)).alloc (by simp) (.cells #[.int .i64 0, .slice none 0 0, .int .i64 0, .slice none 0 0] 54)).drew)
  have hG := ((MnIn.new w np p n c nt q m d 54).below ((Below.refl _ _).alloc (Nat.le_refl _) (.cells #[.int .i64 0, .slice none 0 0, .int .i64 0, .slice none 0 0] 54))).below (drew_below ⟨1, rfl⟩)
  have hR := (MnIn.new (w.alloc (.cells #[.int .i64 np, .slice p n c, .int .i64 nt, .slice q m d] 54)) 0 none 0 0 0 none 0 0 54).below (drew_below (w' := ((w.alloc (.cells #[.int .i64 np, .slice p n c, .int .i64 nt, .slice q m d] 54)).alloc (.cells #[.int .i64 0, .slice none 0 0, .int .i64 0, .slice none 0 0] 54)).drew) ⟨1, rfl⟩)
  rw [show (w.alloc (.cells #[.int .i64 np, .slice p n c, .int .i64 nt, .slice q m d] 54)).heap.size = w.heap.size + 1 by simp] at hR
  have HBD := hidden hBD
  have HG := hidden hG
  have HR := hidden hR
  clear hBD hG hR
  go_enter Tryz.func79, Tryz.ntmps79
  go_upto_region 1 with fail
  go_cut [] from 3 to 10 (fun wx => ∃ (p1 p2 : Option Addr) (e1 e2 : Nat), MnIn wx w.heap.size np p1 n e1 nt p2 m e2 ∧ MnIn wx (w.heap.size + 1) 0 none 0 0 0 none 0 0 ∧ Below w.heap.size w wx)
  case first =>
    go_region_with (first
      | (go_at_call 49; (with_reducible refine (HX.out _ HBD.out).mono ?_); rintro _ w1 ⟨v1, rfl, hown1, hb1⟩; obtain ⟨p1, e1, rfl, -⟩ := hown1.bytN rfl HL.eq hx.out; have HB1 := hidden (HBD.out.trans (hb1.mono HBD.out.size)); have HG1 := hidden (HG.out.below hb1); have HR1 := hidden (HR.out.below hb1); obtain ⟨g0, g1, g2, g3, gf⟩ := HG1.out; have gf1 := gf 1; have gf3 := gf 3; clear hown1 hb1 gf)
      | (go_at_call 49; (with_reducible refine (HY.out _ HB1.out).mono ?_); rintro _ w2 ⟨v2, rfl, hown2, hb2⟩; obtain ⟨p2, e2, rfl, -⟩ := hown2.bytN rfl KL.eq hy.out; have HB2 := hidden (HB1.out.trans (hb2.mono HB1.out.size)); have HR2 := hidden (HR1.out.below hb2); have HN2 := hidden (HG1.out.below hb2); obtain ⟨k0, k1, k2, k3, kf⟩ := HG1.out.below hb2; have kf1 := kf 1; have kf3 := kf 3; clear hown2 hb2 kf)
      | fail)
    all_goals
      go_wp2
      go_meet
      case rel => exact ⟨p1, p2, e1, e2, HN2.out.set p1 p2 n e1 m e2, HR2.out.other (by omega) _ _, (HB2.out.setCell (p := ⟨w.heap.size, 1, none⟩) (Nat.le_refl _) _).setCell (p := ⟨w.heap.size, 3, none⟩) (Nat.le_refl _) _⟩
  case rest =>
    obtain ⟨p1, p2, e1, e2, hN, hR, hB⟩ := hcut
    obtain ⟨g0, g1, g2, g3, gf⟩ := hN
    have HR2 := hidden hR
    obtain ⟨r0, r1, r2, r3, rf⟩ := hR
    have rf0 := rf 0
    have rf1 := rf 1
    have rf2 := rf 2
    have rf3 := rf 3
    have HB := hidden hB
    clear HX HY HG HR HBD hB
    go_wp2
    refine ret_nt (g := w.heap.size + 1) rfl rfl rfl (HR2.out.all np p1 n e1 nt p2 m e2) ⟨⟨p1, p2, e1, e2, rfl⟩, ?_⟩
    have h1 : w.heap.size ≤ w.heap.size + 1 := Nat.le_succ _
    exact (((HB.out.setCell (p := ⟨w.heap.size + 1, 0, none⟩) h1 _).setCell (p := ⟨w.heap.size + 1, 1, none⟩) h1 _).setCell (p := ⟨w.heap.size + 1, 2, none⟩) h1 _).setCell (p := ⟨w.heap.size + 1, 3, none⟩) h1 _
end Go.Proofs.YtkniifopfgeopaaGreat

namespace Go.Proofs.YtkniifopfgeopaaGreat
open Go.RowKit
set_option linter.unusedVariables false

/-- A notification in a row. -/
structure Ntf where
  np : Int
  s : Sv
  nt : Int
  d : Sv
def KNt : KindR Ntf where
  e := 54
  k := 4
  cs x := [.int .i64 x.np, .slice x.s.p x.s.n x.s.c, .int .i64 x.nt, .slice x.d.p x.d.n x.d.c]
  len _ := rfl
  one x u hu := by
    simp at hu
    rcases hu with rfl | rfl | rfl | rfl <;> rfl
  pos := by decide
def NNt : NestR Ntf where
  ts := []
  ok _ _ _ := True
  keep _ _ _ := trivial
  mono _ _ := trivial
theorem Tryz.infoNt : (Tryz.prog.info? 54).map (fun i => (i.zero, i.size, i.bytes)) = some (some (.agg #[.int .i64 0, .slice none 0 0, .int .i64 0, .slice none 0 0]), 4, 64) := by kernel_rfl
theorem knownNt : KnownR Tryz.prog KNt 129 64 := by
  refine ⟨Tryz.underlying129, ?_⟩
  obtain ⟨i0, hi, hz0, hz1, hz2⟩ := info_parts Tryz.infoNt
  exact ⟨i0, _, hi, hz0, hz1, hz2, rfl⟩
theorem srcNt (w : World) (x : Ntf) (T : TypeId) : SrcG KNt (w.alloc (.cells #[.int .i64 x.np, .slice x.s.p x.s.n x.s.c, .int .i64 x.nt, .slice x.d.p x.d.n x.d.c] T)) (some ⟨w.heap.size, 0, none⟩) 1 [x] := SrcG.new KNt w [x] T
/-- The payload is a notification of this type. -/
def isNote (kind : Int) (x : Pv) : Bool := x.t == 41 && x.nt == kind

set_option maxHeartbeats 6400000 in
set_option maxRecDepth 100000 in
theorem notes_any (i r nx x f m : Int) (p : Option Addr) (n c : Nat) (l : List Pv) (kind : Int) (w : World) (h : RdG KPv DPv w p n c l) (hn : n ≤ 100000) :
    Calls Tryz.prog 56 #[.agg #[.int .u64 i, .int .u64 r, .int .i64 nx, .int .i64 x, .int .i64 f, .int .u32 m, .slice p n c], .int .i64 kind] w fun e w' => (∃ (p' : Option Addr) (n' c' : Nat), e = .returned (.slice p' n' c') ∧ decide (0 < n') = l.any (isNote kind) ∧ n' ≤ n) ∧ Below w.heap.size w w' := by
  have HBX := hidden ((Below.refl w.heap.size w).alloc (Nat.le_refl _) (.cells #[.int .u64 i, .int .u64 r, .int .i64 nx, .int .i64 x, .int .i64 f, .int .u32 m, .slice p n c] 39))
  have H := hidden h
  obtain ⟨R, hR⟩ : ∃ R, l.any (isNote kind) = R := ⟨_, rfl⟩
  have HR : Is (decide (0 < ([] : List Ntf).length) || (l.drop 0).any (isNote kind)) R := ⟨by simpa using hR⟩
  rw [hR]
  clear hR h
  go_enter Tryz.func56, Tryz.ntmps56
  go_wp2_with fail
  go_loopw [5, 11] (fun v i wr => ∃ (j : Nat) (L : List Ntf), j ≤ n ∧ i = .int .i64 j ∧ RowG KNt NNt wr w.heap.size v L ∧ L.length ≤ j ∧ Is (decide (0 < L.length) || (l.drop j).any (isNote kind)) R ∧ Below w.heap.size w wr) (fun _ i _ => n - (intOf i).toNat)
  case atStart => exact ⟨0, [], by omega, rfl, RowG.nil _ _ _ _, by simp, HR, HBX.out⟩
  case round =>
    obtain ⟨j, L, hj, rfl, hrow, hlj, hrel, hb⟩ := hrel
    have HB := hidden hb
    have HRW := hidden hrow
    clear hb hrow
    by_cases hlt : j < n
    · have hlt' : (j : Int) < n := by omega
      obtain ⟨g, y, rfl, hx, hdr, hok, hc⟩ := (H.out.below HB.out).drop_cons hlt
      have c0 := hc 0 _ rfl
      have c1 := hc 1 _ rfl
      have c2 := hc 2 _ rfl
      have c3 := hc 3 _ rfl
      have c4 := hc 4 _ rfl
      have c5 := hc 5 _ rfl
      have c6 := hc 6 _ rfl
      have c7 := hc 7 _ rfl
      have c8 := hc 8 _ rfl
      have c9 := hc 9 _ rfl
      have c10 := hc 10 _ rfl
      have c11 := hc 11 _ rfl
      have c12 := hc 12 _ rfl
      have c13 := hc 13 _ rfl
      have c14 := hc 14 _ rfl
      have c15 := hc 15 _ rfl
      simp only [Nat.add_zero] at c0
      have hf := hrel.eq
      rw [hdr, List.any_cons] at hf
      have HBP := hidden ((Below.refl wr.heap.size wr).alloc (Nat.le_refl _) (.cells #[.int .i64 y.t, .slice y.pr.p y.pr.n y.pr.c, .int .i64 y.eg, .slice y.ed.p y.ed.n y.ed.c, .int .i64 y.ik, .slice y.id.p y.id.n y.id.c, .int .i64 y.am, .slice y.ad.p y.ad.n y.ad.c, .int .i64 y.np, .slice y.ns.p y.ns.n y.ns.c, .int .i64 y.nt, .slice y.nd.p y.nd.n y.nd.c, .int .i64 y.dp, .slice y.ds.p y.ds.n y.ds.c, .slice y.se.p y.se.n y.se.c, .slice y.da.p y.da.n y.da.c] 59))
      have HRP := hidden (HRW.out.below HBP.out)
      have HOK := hidden hok
      clear hok hrel hdr hx hc
      have hskip : isNote kind y = false → Is (decide (0 < L.length) || (l.drop (j + 1)).any (isNote kind)) R := fun e => ⟨by rw [e, Bool.false_or] at hf; exact hf⟩
      have hHIT : isNote kind y = true → Is (true) R := fun e => ⟨by rw [e] at hf; simpa using hf⟩
      have HSK := hidden hskip
      have HHT := hidden hHIT
      clear hf hskip hHIT
      by_cases h1 : y.t = 41
      · by_cases h2 : y.nt = kind
        · have HT := HHT.out (by simp [isNote, h1, h2])
          obtain ⟨xs, hns⟩ := HOK.out.ns h1
          obtain ⟨ys, hnd⟩ := HOK.out.nd h1
          have hsn := HOK.out.sn h1
          have hdn := HOK.out.dn h1
          have HCN := hidden (fun W (hW : Below wr.heap.size wr W) => copiedNote_any y.np y.nt y.ns.p y.nd.p y.ns.n y.ns.c y.nd.n y.nd.c xs ys W (hns.below hW) (hnd.below hW) hsn hdn)
          clear hns hnd hsn hdn HOK
          have q1 : (y.t == 41) = true := by simp [h1]
          have q2 : (y.nt == kind) = true := by simp [h2]
          clear HSK HHT h1 h2
          go_wp2_with (first
            | (go_at_call 79; (with_reducible refine (HCN.out _ HBP.out).mono ?_); rintro _ w1 ⟨⟨p1, p2, e1, e2, rfl⟩, hb1⟩; have HB1 := hidden (HB.out.trans ((HBP.out.trans (hb1.mono HBP.out.size)).mono HB.out.size)); have HR1 := hidden (HRP.out.below hb1); clear hb1)
            | (at_builtin; go_loud (refine wpList_append_g knownNt (by simp [NNt]) _ rfl _ _ rfl w.heap.size _ L rfl (HR1.out.alloc _) _ 1 1 [⟨y.np, ⟨p1, y.ns.n, e1⟩, y.nt, ⟨p2, y.nd.n, e2⟩⟩] rfl (srcNt w1 ⟨y.np, ⟨p1, y.ns.n, e1⟩, y.nt, ⟨p2, y.nd.n, e2⟩⟩ _) (fun x hx => trivial) ?b1 ?b2 ?b3 ?_))
            | fail)
          case b1 => unfold maxLen; omega
          case b2 => omega
          case b3 => simp; have := HB1.out.size; omega
          intro v6 w6 hrow6 hg6
          have HR6 := hidden hrow6
          have HB6 := hidden ((HB1.out.alloc HB1.out.size (.cells #[.int .i64 y.np, .slice p1 y.ns.n e1, .int .i64 y.nt, .slice p2 y.nd.n e2] 54)).grown hg6 (Nat.le_trans HB1.out.size (by simp)) (fun k hk => (HR1.out.lt k hk).1))
          clear hrow6 hg6
          go_wp2
          go_roundw
          case rel => exact ⟨j + 1, _, by omega, by go_num, HR6.out, by simp; omega, ⟨by rw [← HT.eq]; simp⟩, HB6.out⟩
          case measure => simp [intOf]; omega
        · have HT := HSK.out (by simp [isNote, h2])
          have q1 : (y.t == 41) = true := by simp [h1]
          have q2 : (y.nt == kind) = false := by simp [h2]
          clear HSK HHT h1 h2
          go_wp2
          go_roundw
          case rel => exact ⟨j + 1, L, by omega, by go_num, HRP.out, by omega, HT, HB.out.trans (HBP.out.mono HB.out.size)⟩
          case measure => simp [intOf]; omega
      · have HT := HSK.out (by simp [isNote, h1])
        have q1 : (y.t == 41) = false := by simp [h1]
        clear HSK HHT h1
        go_wp2
        go_roundw
        case rel => exact ⟨j + 1, L, by omega, by go_num, HRP.out, by omega, HT, HB.out.trans (HBP.out.mono HB.out.size)⟩
        case measure => simp [intOf]; omega
    · have hlt' : ¬ (j : Int) < n := by omega
      have hd : l.drop j = [] := List.drop_eq_nil_of_le (by rw [H.out.len]; omega)
      have hf := hrel.eq
      rw [hd, List.any_nil, Bool.or_false] at hf
      obtain ⟨q, d, rfl⟩ := HRW.out.form rfl
      have HF := hidden hf
      clear hf hd hrel
      go_wp2
      go_ret
      exact ⟨⟨q, L.length, ⟨d, rfl⟩, HF.out, Nat.le_trans hlj hj⟩, HB.out⟩
end Go.Proofs.YtkniifopfgeopaaGreat

namespace Go.Proofs.YtkniifopfgeopaaGreat
open Go.RowKit
set_option linter.unusedVariables false

/-- The notification for an error. -/
def replyN (e : Int) : Int :=
  if e = 3 then 5 else if e = 6 then 1 else if e = 20 then 4 else if e = 16 then 14 else if e = 13 then 17 else if e = 17 then 38 else if e = 18 ∨ e = 19 then 24 else if e = 25 then 35 else if e = 21 then 43
  else if e = 1 ∨ e = 2 ∨ e = 4 ∨ e = 5 ∨ e = 7 ∨ e = 8 ∨ e = 9 ∨ e = 10 ∨ e = 11 ∨ e = 15 then 7 else 0
/-- There is a notification for the error. -/
def Rpl (e : Int) : Prop := e = 3 ∨ e = 6 ∨ e = 20 ∨ e = 16 ∨ e = 13 ∨ e = 17 ∨ e = 18 ∨ e = 19 ∨ e = 25 ∨ e = 21 ∨ e = 1 ∨ e = 2 ∨ e = 4 ∨ e = 5 ∨ e = 7 ∨ e = 8 ∨ e = 9 ∨ e = 10 ∨ e = 11 ∨ e = 15
instance (e : Int) : Decidable (Rpl e) := by unfold Rpl; infer_instance

set_option maxHeartbeats 3200000 in
set_option maxRecDepth 100000 in
theorem reply_any (e : Int) (w : World) : Calls Tryz.prog 6 #[.int .i64 e] w fun r w' => r = .returned (.tuple #[.int .i64 (replyN e), .bool (decide (Rpl e))]) ∧ w' = w := by
  go_enter Tryz.func6, Tryz.ntmps6
  go_wp2
  all_goals go_ret2
  all_goals (refine ⟨?_, rfl⟩; (try subst_vars); first | rfl | (simp_all [replyN, Rpl]) | skip)
set_option maxHeartbeats 3200000 in
set_option maxRecDepth 100000 in
theorem rreply_any (e : Int) (w : World) : Calls Tryz.prog 7 #[.int .i64 e] w fun r w' => r = .returned (.tuple #[.int .i64 (replyN e), .bool (decide (Rpl e))]) ∧ w' = w := by
  go_enter Tryz.func7, Tryz.ntmps7
  go_wp2
  all_goals go_ret2
  all_goals (refine ⟨?_, rfl⟩; (try subst_vars); first | rfl | (simp_all [replyN, Rpl]) | skip)
end Go.Proofs.YtkniifopfgeopaaGreat

namespace Go.Proofs.YtkniifopfgeopaaGreat
open Go
set_option linter.unusedVariables false

section
variable {P : Program} {ops : Array Oper} {Q : Exit → Act → World → Prop} {md : Region.Mode} {c : Nat} {S0 S1 : World → Prop}
/-- Whatever order is picked: behind each operation S0 holds, and S1 till the operation c has come up. -/
def anyC (P : Program) (md : Region.Mode) (ops : Array Oper) (Q : Exit → Act → World → Prop) (c : Nat) (S0 S1 : World → Prop) : Nat → Array Bool → Act → World → Prop
  | 0, l, a, w => Region.ready md ops l = [] ∧ Q .normal a w
  | n + 1, l, a, w => (Region.ready md ops l = [] → Q .normal a w) ∧
      ∀ i ∈ Region.ready md ops l, wpOp P ops Q i (fun a' w' => (S0 w' ∧ ((l.setIfInBounds i true).getD c true = false → S1 w')) ∧ anyC P md ops Q c S0 S1 n (l.setIfInBounds i true) a' w') a w
theorem any_of_C : ∀ (n : Nat) (l : Array Bool) (a : Act) (w : World), anyC P md ops Q c S0 S1 n l a w → wpAny P md ops Q n l a w
  | 0, _, _, _, h => h
  | n + 1, _, _, _, h => ⟨h.1, fun i hi => wpOp_mono (fun a' w' k => any_of_C n _ a' w' k.2) (h.2 i hi)⟩
/-- The first condition, or the second one as well, where c waits for i. -/
theorem anyC_first (B : Bool) {i : Nat} {oi oc : Oper} {v : Value} (hi : ops[i]? = some oi) (hsel : ∀ (j : Nat) (o : Oper) cs b, ops[j]? = some o → o.op ≠ .select cs b)
    (hQ : ∀ ch a w, Q (.panic ch) (a.put oi.dst v) w → Q (.panic ch) a w) (hic : i ≠ c) (hoc : ops[c]? = some oc) (hB : B = true → ∃ e ∈ oc.after, Region.binds md e = true ∧ e.on = i) :
    ∀ (n : Nat) (l : Array Bool) (a : Act) (w : World),
      (∀ j oj, ops[j]? = some oj → j ≠ i → l.getD j true = false → (∀ e ∈ oj.after, Region.binds md e = true → e.on ≠ i) → oi.apart ops oj = true) →
      i ∈ Region.ready md ops l → (B = true → l.getD c true = false) → YieldsIf P ops (fun w => S0 w ∧ (B = true → S1 w)) oi v a → S0 w → (l.getD c true = false → S1 w) →
      anyC P md ops Q c S0 S1 n (l.setIfInBounds i true) (a.put oi.dst v) w → anyC P md ops Q c S0 S1 (n + 1) l a w := by
  intro n
  induction n with
  | zero =>
    intro l a w _ hr hl hy h0 h1 H
    refine ⟨fun h => (by rw [h] at hr; cases hr), fun j hj => ?_⟩
    by_cases hji : j = i
    · subst hji
      exact hy.wpOp hi ⟨h0, fun hb => h1 (hl hb)⟩ ⟨⟨h0, fun hc => h1 (by rw [getD_set_ne true hic] at hc; exact hc)⟩, H⟩
    · have := ready_mono hj hji
      rw [H.1] at this
      cases this
  | succ n ih =>
    intro l a w hfree hr hl hy h0 h1 H
    refine ⟨fun h => (by rw [h] at hr; cases hr), fun j hj => ?_⟩
    by_cases hji : j = i
    · subst hji
      exact hy.wpOp hi ⟨h0, fun hb => h1 (hl hb)⟩ ⟨⟨h0, fun hc => h1 (by rw [getD_set_ne true hic] at hc; exact hc)⟩, H⟩
    · have k1 := H.2 j (ready_mono hj hji)
      obtain ⟨hjun, oj, hoj, hall⟩ := mem_ready.1 hj
      have hnot : ∀ e ∈ oj.after, Region.binds md e = true → e.on ≠ i := fun e he hb heq => by
        have g1 := hall e he hb
        have g0 := (mem_ready.1 hr).1
        rw [heq] at g1
        rcases Nat.lt_or_ge i l.size with h' | h'
        · simp [h'] at g0 g1
          rw [g0] at g1
          cases g1
        · simp [Array.getElem?_eq_none h'] at g1
      have k2 := wpOp_putIf hoj (hfree j oj hoj hji hjun hnot) (fun cs b => hsel i oi cs b hi) (fun cs b => hsel j oj cs b hoj) hQ hy k1
      have hfree' : ∀ k ok, ops[k]? = some ok → k ≠ i → (l.setIfInBounds j true).getD k true = false → (∀ e ∈ ok.after, Region.binds md e = true → e.on ≠ i) → oi.apart ops ok = true := fun k ok hk hki hun hno => by
        refine hfree k ok hk hki ?_ hno
        by_cases hjk : j = k
        · subst hjk; exact hjun
        · rw [getD_set_ne true hjk] at hun; exact hun
      have hjc : B = true → j ≠ c := fun hb e => by
        subst e
        obtain ⟨e, he, hbe, hon⟩ := hB hb
        rw [hoc] at hoj
        cases hoj
        exact hnot e he hbe hon
      have hlc : B = true → (l.setIfInBounds j true).getD c true = false := fun hb => by rw [getD_set_ne true (hjc hb)]; exact hl hb
      have hcc : ∀ l' : Array Bool, ((l'.setIfInBounds i true).setIfInBounds j true).getD c true = (l'.setIfInBounds j true).getD c true := fun l' => by
        rw [Array.setIfInBounds_comm _ _ (Ne.symm hji), getD_set_ne true hic]
      refine wpOp_mono (fun a' w' k3 => ?_) k2
      obtain ⟨hy', ⟨g0, g1⟩, hrest⟩ := k3
      rw [hcc] at g1
      refine ⟨⟨g0, g1⟩, ih (l.setIfInBounds j true) a' w' hfree' (ready_mono hr (Ne.symm hji)) hlc ?_ g0 g1 ?_⟩
      · exact hy'
      · rw [Array.setIfInBounds_comm _ _ hji]
        exact hrest
/-- An operation that yields its value wherever S0 holds. -/
theorem anyC_take {i : Nat} {oi oc : Oper} {v : Value} {n : Nat} {l : Array Bool} {a : Act} {w : World} (hi : ops[i]? = some oi) (hoc : ops[c]? = some oc) (hic : i ≠ c)
    (hs : Region.noSelect ops = true) (hf : Region.free md ops l i = true) (hr : (Region.ready md ops l).contains i = true)
    (hQ : ∀ ch a w, Q (.panic ch) (a.put oi.dst v) w → Q (.panic ch) a w) (hy : YieldsIf P ops S0 oi v a) (h0 : S0 w) (h1 : l.getD c true = false → S1 w)
    (h : anyC P md ops Q c S0 S1 n (l.setIfInBounds i true) (a.put oi.dst v) w) : anyC P md ops Q c S0 S1 (n + 1) l a w :=
  anyC_first false hi (Region.noSelect_spec hs) hQ hic hoc (fun h => by cases h) n l a w (Region.free_spec hi hf) (by simpa using hr) (fun h => by cases h)
    (hy.imp (fun ⟨a, b⟩ => ⟨a, fun w k => b w k.1⟩) id) h0 h1 h
/-- The one operation that may come up. -/
theorem anyC_one {i : Nat} {o : Oper} {n : Nat} {l : Array Bool} {a : Act} {w : World} (hr : Region.ready md ops l = [i]) (ho : ops[i]? = some o)
    (h : ∀ K' : Act → World → Prop, Shut (∀ a w, S0 w → ((l.setIfInBounds i true).getD c true = false → S1 w) → anyC P md ops Q c S0 S1 n (l.setIfInBounds i true) a w → K' a w) →
      if Region.wanted o (yielded ops a.tmps) = true then Oper.wp P o a w K' Q else K' (a.put o.dst undef) w) : anyC P md ops Q c S0 S1 (n + 1) l a w :=
  ⟨fun h0 => (by rw [hr] at h0; cases h0), fun j hj => (by
    rw [hr] at hj
    have e : j = i := by simpa using hj
    subst e
    exact wpOp_step ho fun K' hK => h K' fun a w h0 h1 k => hK a w ⟨⟨h0, h1⟩, k⟩)⟩
theorem anyC_done {l : Array Bool} {a : Act} {w : World} (hr : Region.ready md ops l = []) (h : Q .normal a w) : ∀ n, anyC P md ops Q c S0 S1 n l a w
  | 0 => ⟨hr, h⟩
  | _ + 1 => ⟨fun _ => h, by rw [hr]; simp⟩
/-- The beginning. -/
theorem region_C {id : Nat} {a : Act} {w : World} (c : Nat) (S0 S1 : World → Prop) (hm : P.follows .mixedOrders = true) (h0 : S0 w.drew) (h1 : S1 w.drew)
    (h : S0 w.drew → S1 w.drew → anyC P .any ops Q c S0 S1 ops.size (Array.replicate ops.size false) a w.drew) : (Code.region id ops true).wp P Q a w :=
  wp_region_any hm (any_of_C _ _ _ _ (h h0 h1))
end
end Go.Proofs.YtkniifopfgeopaaGreat

namespace Go.Proofs.YtkniifopfgeopaaGreat
open Go.RowKit
set_option linter.unusedVariables false

/-- The bytes of a header. -/
def hdrL (i r n x f m len : Int) : List Int := be 8 i ++ (be 8 r ++ ([n % 256, 32, x % 256, f % 256] ++ (be 4 m ++ be 4 len)))
/-- The bytes of a header, or the first error. -/
def buildR (i r n x f m len : Int) : List Int × Int :=
  if checkR i r n x f m ≠ 0 then ([], checkR i r n x f m) else if len < 28 ∨ 8192 < len then ([], 5) else (hdrL i r n x f m len, 0)

theorem be_one (v : Int) : be 1 v = [v % 256] := by simp [be]
theorem Own.mono1 {w : World} {B B' : Nat} {e : TypeId} {v : Value} {xs : List Int} (h : Own w B e v xs) (hB : B' ≤ B) : Own w B' e v xs := by
  refine ⟨h.1, ?_⟩
  rcases h.2 with h | ⟨g, cap, cur, hv, hg, r⟩
  · exact Or.inl h
  · exact Or.inr ⟨g, cap, cur, hv, Nat.le_trans hB hg, r⟩

/-- The result of a step: the bytes so far, and one field more. -/
def Next1 (w : World) (n : Nat) (xs : List Int) (e : Ending) (w' : World) : Prop := ∃ p c, e = .returned (.slice p n c) ∧ Byt w' p n c xs ∧ Own w' w.heap.size 5 (.slice p n c) xs ∧ Below w.heap.size w w'

/-- A literal of bytes. -/
theorem Byt.made (w : World) (xs : List Int) (T : TypeId) (hr : ∀ x ∈ xs, 0 ≤ x ∧ x ≤ 255) (hl : xs.length ≤ 1000) : Byt (w.alloc (.cells (xs.map (Value.int .u8)).toArray T)) (some ⟨w.heap.size, 0, none⟩) xs.length xs.length xs := by
  refine ⟨rfl, Nat.le_refl _, by unfold maxLen; omega, hr, fun hp => ⟨_, _, rfl, fun i hi => ?_⟩⟩
  rw [World.cell?_alloc_at _ _ _ _ rfl]
  simp [List.getD_eq_getElem?_getD, List.getElem?_eq_getElem hi]

theorem put_next (p : Option Addr) (n c k N : Nat) (xs : List Int) (v : Int) (w : World) (h : Byt w p n c xs) (hn : n ≤ 100) (hv : 0 ≤ v ∧ v ≤ 18446744073709551615) (hk : 1 ≤ k ∧ k ≤ 8) (hN : n + k = N) :
    Calls Tryz.prog 30 #[.slice p n c, .int .u64 v, .int .i64 k] w (Next1 w N (xs ++ be k v)) := by
  refine (put_yes p n c xs w h (by omega) v hv k hk.1 hk.2).mono ?_
  rintro e w' ⟨u, rfl, ho, hb⟩
  have hl : (xs ++ be k v).length = N := by rw [List.length_append, be_len, h.len, hN]
  obtain ⟨p', c', rfl, hy⟩ := ho.bytN rfl hl (rng_append h.rng (be_rng _ _))
  exact ⟨p', c', rfl, hy, ho, hb⟩
/-- The result of Build. -/
def Built (w : World) (xs : List Int) (E : Int) (e : Ending) (w' : World) : Prop := ∃ p n c, e = .returned (.tuple #[.slice p n c, .int .i64 E]) ∧ Byt w' p n c xs ∧ Own w' w.heap.size 5 (.slice p n c) xs ∧ Below w.heap.size w w'

set_option maxHeartbeats 1600000 in
theorem build_any (i r n x f m len : Int) (w : World) (hi : 0 ≤ i ∧ i ≤ 18446744073709551615) (hr : 0 ≤ r ∧ r ≤ 18446744073709551615) (hm : 0 ≤ m ∧ m ≤ 4294967295) (hlen : -9223372036854775808 ≤ len ∧ len ≤ 9223372036854775807) :
    Calls Tryz.prog 16 #[.agg #[.int .u64 i, .int .u64 r, .int .i64 n, .int .i64 x, .int .i64 f, .int .u32 m], .int .i64 len] w (Built w (buildR i r n x f m len).1 (buildR i r n x f m len).2) := by
  have HB0 := hidden ((Below.refl w.heap.size w).alloc (Nat.le_refl _) (.cells #[.int .u64 i, .int .u64 r, .int .i64 n, .int .i64 x, .int .i64 f, .int .u32 m] 36))
  have HN0 := hidden (HdrIn.new w i r n x f m 36)
  have HC := hidden (fun w => hcheck_any i r n x f m w)
  have hs0 : w.heap.size + 1 ≤ (w.alloc (.cells #[.int .u64 i, .int .u64 r, .int .i64 n, .int .i64 x, .int .i64 f, .int .u32 m] 36)).heap.size := by simp
  have HS0 := hidden hs0
  clear hs0
  rcases hz : checkR i r n x f m with z
  by_cases hz0 : z = 0
  case neg =>
    rw [buildR, if_pos (by rw [hz]; exact hz0), hz]
    rw [hz] at HC
    have hzb : (z != 0) = true := by simpa using hz0
    clear hz
    go_enter Tryz.func16, Tryz.ntmps16
    go_wp2_with (go_at_call 15; (with_reducible refine (HC.out _).mono ?_))
    rintro e w1 ⟨rfl, hb⟩
    have HB1 := hidden (HB0.out.trans (hb.mono HB0.out.size))
    clear hb
    go_wp2
    go_ret2
    exact ⟨none, 0, 0, rfl, Byt.nil _ _ _ (Nat.zero_le _), Own.nil _ _ _, HB1.out⟩
  subst hz0
  by_cases hl : len < 28 ∨ 8192 < len
  · rw [buildR, if_neg (by rw [hz]; simp), if_pos hl]
    rw [hz] at HC
    clear hz
    go_enter Tryz.func16, Tryz.ntmps16
    go_wp2_with (go_at_call 15; (with_reducible refine (HC.out _).mono ?_))
    rintro e w1 ⟨rfl, hb⟩
    have HB1 := hidden (HB0.out.trans (hb.mono HB0.out.size))
    clear hb
    go_wp2
    all_goals first | (exfalso; omega) | (go_ret2; exact ⟨none, 0, 0, rfl, Byt.nil _ _ _ (Nat.zero_le _), Own.nil _ _ _, HB1.out⟩)
  rw [buildR, if_neg (by rw [hz]; simp), if_neg hl]
  have hl1 : 28 ≤ len := by omega
  have hl2 : len ≤ 8192 := by omega
  clear hl
  rw [hz] at HC
  clear hz
  go_enter Tryz.func16, Tryz.ntmps16
  go_wp2_with (go_at_call 15; (with_reducible refine (HC.out _).mono ?_))
  rintro e w1 ⟨rfl, hb⟩
  have HB1 := hidden (HB0.out.trans (hb.mono HB0.out.size))
  have HN1 := hidden (HN0.out.below hb)
  clear hb HC HB0 HN0
  have HY1 := hidden (Byt.nil w1 none 0 (Nat.zero_le _))
  obtain ⟨c0, c1, c2, c3, c4, c5, cf⟩ := HN1.out

  go_wp2_with (go_at_call 30; (refine (put_next none 0 0 8 8 [] i _ HY1.out (by omega) hi (by omega) rfl).mono ?_))
  rintro e w2 ⟨p2, c2c, rfl, hy, ho, hb⟩
  have HB2 := hidden (HB1.out.trans (hb.mono HB1.out.size))
  have HN2 := hidden (HN1.out.below hb)
  obtain ⟨xs2, he2⟩ : ∃ v, v = [] ++ be 8 i := ⟨_, rfl⟩
  rw [← he2] at hy
  have HE2 := hidden he2
  have HY2 := hidden hy
  clear hb hy ho he2 c0 c1 c2 c3 c4 c5 cf HB1 HN1 HY1
  obtain ⟨c0, c1, c2, c3, c4, c5, cf⟩ := HN2.out
  go_wp2_with (go_at_call 30; (refine (put_next p2 8 c2c 8 16 xs2 r _ HY2.out (by omega) hr (by omega) rfl).mono ?_))
  rintro e w3 ⟨p3, c3c, rfl, hy, ho, hb⟩
  have HB3 := hidden (HB2.out.trans (hb.mono HB2.out.size))
  have HN3 := hidden (HN2.out.below hb)
  obtain ⟨xs3, he3⟩ : ∃ v, v = xs2 ++ be 8 r := ⟨_, rfl⟩
  rw [← he3] at hy
  have HE3 := hidden he3
  have HY3 := hidden hy
  clear hb hy ho he3 c0 c1 c2 c3 c4 c5 cf HB2 HN2 HY2
  obtain ⟨c0, c1, c2, c3, c4, c5, cf⟩ := HN3.out
  go_wp2_with (go_at_call 30; (refine (put_next p3 16 c3c 1 17 xs3 (IntKind.u64.wrap n) _ HY3.out (by omega) (by rw [IntKind.wrap_u64]; omega) (by omega) rfl).mono ?_))
  rintro e w4 ⟨p4, c4c, rfl, hy, ho, hb⟩
  have HB4 := hidden (HB3.out.trans (hb.mono HB3.out.size))
  have HN4 := hidden (HN3.out.below hb)
  obtain ⟨xs4, he4⟩ : ∃ v, v = xs3 ++ be 1 (IntKind.u64.wrap n) := ⟨_, rfl⟩
  rw [← he4] at hy
  have HE4 := hidden he4
  have HY4 := hidden hy
  clear hb hy ho he4 c0 c1 c2 c3 c4 c5 cf HB3 HN3 HY3
  obtain ⟨c0, c1, c2, c3, c4, c5, cf⟩ := HN4.out
  go_wp2_with (go_at_call 30; (refine (put_next p4 17 c4c 1 18 xs4 32 _ HY4.out (by omega) (by omega) (by omega) rfl).mono ?_))
  rintro e w5 ⟨p5, c5c, rfl, hy, ho, hb⟩
  have HB5 := hidden (HB4.out.trans (hb.mono HB4.out.size))
  have HN5 := hidden (HN4.out.below hb)
  obtain ⟨xs5, he5⟩ : ∃ v, v = xs4 ++ be 1 32 := ⟨_, rfl⟩
  rw [← he5] at hy
  have HE5 := hidden he5
  have HY5 := hidden hy
  clear hb hy ho he5 c0 c1 c2 c3 c4 c5 cf HB4 HN4 HY4
  obtain ⟨c0, c1, c2, c3, c4, c5, cf⟩ := HN5.out
  go_wp2_with (go_at_call 30; (refine (put_next p5 18 c5c 1 19 xs5 (IntKind.u64.wrap x) _ HY5.out (by omega) (by rw [IntKind.wrap_u64]; omega) (by omega) rfl).mono ?_))
  rintro e w6 ⟨p6, c6c, rfl, hy, ho, hb⟩
  have HB6 := hidden (HB5.out.trans (hb.mono HB5.out.size))
  have HN6 := hidden (HN5.out.below hb)
  obtain ⟨xs6, he6⟩ : ∃ v, v = xs5 ++ be 1 (IntKind.u64.wrap x) := ⟨_, rfl⟩
  rw [← he6] at hy
  have HE6 := hidden he6
  have HY6 := hidden hy
  clear hb hy ho he6 c0 c1 c2 c3 c4 c5 cf HB5 HN5 HY5
  obtain ⟨c0, c1, c2, c3, c4, c5, cf⟩ := HN6.out
  go_wp2_with (go_at_call 30; (refine (put_next p6 19 c6c 1 20 xs6 (IntKind.u64.wrap f) _ HY6.out (by omega) (by rw [IntKind.wrap_u64]; omega) (by omega) rfl).mono ?_))
  rintro e w7 ⟨p7, c7c, rfl, hy, ho, hb⟩
  have HB7 := hidden (HB6.out.trans (hb.mono HB6.out.size))
  have HN7 := hidden (HN6.out.below hb)
  obtain ⟨xs7, he7⟩ : ∃ v, v = xs6 ++ be 1 (IntKind.u64.wrap f) := ⟨_, rfl⟩
  rw [← he7] at hy
  have HE7 := hidden he7
  have HY7 := hidden hy
  clear hb hy ho he7 c0 c1 c2 c3 c4 c5 cf HB6 HN6 HY6
  obtain ⟨c0, c1, c2, c3, c4, c5, cf⟩ := HN7.out
  go_wp2_with (go_at_call 30; (refine (put_next p7 20 c7c 4 24 xs7 m _ HY7.out (by omega) (by omega) (by omega) rfl).mono ?_))
  rintro e w8 ⟨p8, c8c, rfl, hy, ho, hb⟩
  have HB8 := hidden (HB7.out.trans (hb.mono HB7.out.size))
  have HN8 := hidden (HN7.out.below hb)
  obtain ⟨xs8, he8⟩ : ∃ v, v = xs7 ++ be 4 m := ⟨_, rfl⟩
  rw [← he8] at hy
  have HE8 := hidden he8
  have HY8 := hidden hy
  clear hb hy ho he8 c0 c1 c2 c3 c4 c5 cf HB7 HN7 HY7
  obtain ⟨c0, c1, c2, c3, c4, c5, cf⟩ := HN8.out
  go_wp2_with (go_at_call 30; (refine (put_next p8 24 c8c 4 28 xs8 len _ HY8.out (by omega) (by omega) (by omega) rfl).mono ?_))
  rintro e w9 ⟨p9, c9c, rfl, hy, ho, hb⟩
  have HB9 := hidden (HB8.out.trans (hb.mono HB8.out.size))
  have HO := hidden (ho.mono1 HB8.out.size)
  have HY := hidden hy
  clear hb hy ho c0 c1 c2 c3 c4 c5 cf HB8 HN8 HY8
  go_wp2
  go_ret2
  have hfin : xs8 ++ be 4 len = hdrL i r n x f m len := by
    rw [HE8.out, HE7.out, HE6.out, HE5.out, HE4.out, HE3.out, HE2.out]
    simp only [hdrL, List.nil_append, List.append_assoc, be_one]
    simp only [IntKind.wrap_u64, List.cons_append, List.nil_append]
    rw [show n % 18446744073709551616 % 256 = n % 256 by omega, show x % 18446744073709551616 % 256 = x % 256 by omega, show f % 18446744073709551616 % 256 = f % 256 by omega]
    rfl
  exact ⟨_, _, _, rfl, by rw [← hfin]; exact HY.out, by rw [← hfin]; exact HO.out, HB9.out⟩


end Go.Proofs.YtkniifopfgeopaaGreat

namespace Go.Proofs.YtkniifopfgeopaaGreat
open Go.RowKit
set_option linter.unusedVariables false

theorem mod_any (x n : Int) (w : World) (hx : -9223372036854775808 ≤ x ∧ x ≤ 9223372036854775807) (hn : 1 ≤ n ∧ n ≤ 9223372036854775807) :
    Calls Tryz.prog 5 #[.int .i64 x, .int .i64 n] w fun e w' => e = .returned (.int .i64 (x % n)) ∧ w = w' := by
  have hb := Int.tmod_lt_of_pos x (show 0 < n by omega)
  have hb2 : -n < x.tmod n := by
    have := Int.tmod_lt_of_pos (-x) (show 0 < n by omega)
    rw [Int.neg_tmod] at this
    omega
  have he : x % n = if x.tmod n < 0 then x.tmod n + n else x.tmod n := by
    have h1 := Int.mul_tdiv_add_tmod x n
    split
    · rename_i h
      have : x = (x.tmod n + n) + n * (x.tdiv n - 1) := by rw [Int.mul_sub]; omega
      rw [this, Int.add_mul_emod_self_left]
      rw [← this]
      exact Int.emod_eq_of_lt (by omega) (by omega)
    · rename_i h
      have : x = x.tmod n + n * x.tdiv n := by omega
      rw [this, Int.add_mul_emod_self_left]
      rw [← this]
      exact Int.emod_eq_of_lt (by omega) (by omega)
  rw [he]
  clear he
  by_cases h0 : 0 ≤ x
  · have e1 : x.tmod n = x % n := Int.tmod_eq_emod_of_nonneg h0
    rw [e1] at hb hb2 ⊢
    have := Int.emod_nonneg x (show n ≠ 0 by omega)
    rw [if_neg (by omega)]
    clear e1
    go_enter Tryz.func5, Tryz.ntmps5
    go_wp2
    go_ret
    exact ⟨rfl, rfl⟩
  · by_cases hneg : x.tmod n < 0
    · rw [if_pos hneg]
      go_enter Tryz.func5, Tryz.ntmps5
      go_wp2
      go_ret
      exact ⟨rfl, rfl⟩
    · rw [if_neg hneg]
      go_enter Tryz.func5, Tryz.ntmps5
      go_wp2
      go_ret
      exact ⟨rfl, rfl⟩
end Go.Proofs.YtkniifopfgeopaaGreat
