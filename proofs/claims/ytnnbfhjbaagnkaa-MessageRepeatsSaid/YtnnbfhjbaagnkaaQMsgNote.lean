/-
  A notification in memory of its own (message.copiedNote).
-/
import Derived.Test.YtnnbfhjbaagnkaaQMsg
import Derived.Test.YtnnbfhjbaagnkaaQZ3
import Derived.Deep.RegionWith
import Derived.Deep.Cut
import Derived.Deep.CutRange
import Derived.Deep.CutBlock
namespace Go.Proofs.Ytnnbfhjbaagnkaa
open Go.RowKit
set_option linter.unusedVariables false

/-- A notification lies at block g. -/
structure NtIn (w : World) (g : Nat) (np : Int) (p : Option Addr) (n c : Nat) (nt : Int) (q : Option Addr) (m d : Nat) : Prop where
  c0 : w.cell? ⟨g, 0, none⟩ = some (.int .i64 np)
  c1 : w.cell? ⟨g, 1, none⟩ = some (.slice p n c)
  c2 : w.cell? ⟨g, 2, none⟩ = some (.int .i64 nt)
  c3 : w.cell? ⟨g, 3, none⟩ = some (.slice q m d)
  fr : ∀ j, w.frozen? ⟨g, j, none⟩ = false
section
variable {w w' : World} {g : Nat} {np : Int} {p : Option Addr} {n c : Nat} {nt : Int} {q : Option Addr} {m d : Nat}
theorem NtIn.lt (h : NtIn w g np p n c nt q m d) : g < w.heap.size := World.block_lt_of_cell? w _ h.c0
theorem NtIn.grown {row : Option Nat} (h : NtIn w g np p n c nt q m d) (hg : w.grownBy w' row) (hne : some g ≠ row) : NtIn w' g np p n c nt q m d :=
  ⟨hg.cell h.c0 hne, hg.cell h.c1 hne, hg.cell h.c2 hne, hg.cell h.c3 hne, fun j => (World.frozen?_of_block (show w'.heap[(⟨g, j, none⟩ : Addr).block]? = _ from hg.block g h.lt hne)).trans (h.fr j)⟩
theorem NtIn.below (h : NtIn w g np p n c nt q m d) (hb : Below w.heap.size w w') : NtIn w' g np p n c nt q m d := h.grown (row := none) (grown_of_below hb none) (by simp)
theorem NtIn.new (w : World) (np : Int) (p : Option Addr) (n c : Nat) (nt : Int) (q : Option Addr) (m d : Nat) (T : TypeId) : NtIn (w.alloc (.cells #[.int .i64 np, .slice p n c, .int .i64 nt, .slice q m d] T)) w.heap.size np p n c nt q m d :=
  ⟨by go_simp, by go_simp, by go_simp, by go_simp, fun j => by go_simp⟩
theorem NtIn.set (h : NtIn w g np p n c nt q m d) (p' q' : Option Addr) (n' c' m' d' : Nat) : NtIn ((w.setCell ⟨g, 1, none⟩ (.slice p' n' c')).setCell ⟨g, 3, none⟩ (.slice q' m' d')) g np p' n' c' nt q' m' d' := by
  obtain ⟨c0, c1, c2, c3, fr⟩ := h
  exact ⟨by go_simp, by go_simp, by go_simp, by go_simp, fun j => by simp only [World.frozen?_setCell]; exact fr j⟩
theorem NtIn.all (h : NtIn w g np p n c nt q m d) (zp : Int) (p' : Option Addr) (n' c' : Nat) (zt : Int) (q' : Option Addr) (m' d' : Nat) : NtIn ((((w.setCell ⟨g, 0, none⟩ (.int .i64 zp)).setCell ⟨g, 1, none⟩ (.slice p' n' c')).setCell ⟨g, 2, none⟩ (.int .i64 zt)).setCell ⟨g, 3, none⟩ (.slice q' m' d')) g zp p' n' c' zt q' m' d' := by
  obtain ⟨c0, c1, c2, c3, fr⟩ := h
  exact ⟨by go_simp, by go_simp, by go_simp, by go_simp, fun j => by simp only [World.frozen?_setCell]; exact fr j⟩
theorem NtIn.other (h : NtIn w g np p n c nt q m d) {g' : Nat} (hne : g ≠ g') (u v : Value) : NtIn ((w.setCell ⟨g', 1, none⟩ u).setCell ⟨g', 3, none⟩ v) g np p n c nt q m d :=
  (h.grown (grown_set w g' 1 u) (by simp; exact hne)).grown (grown_set _ g' 3 v) (by simp; exact hne)
theorem load_nt (h : NtIn w g np p n c nt q m d) : (loadVar 44 ⟨g, 0, none⟩).run Try.prog w = .ok (.agg #[.int .i64 np, .slice p n c, .int .i64 nt, .slice q m d]) w := by
  obtain ⟨c0, c1, c2, c3, fr⟩ := h
  simp [loadVar, go_sem, c0, c1, c2, c3, Result.andThen]
theorem ret_nt {fn : Func} {R : Ending → World → Prop} {a : Act} {u : Nat} (h : fn.results = #[.cell u 44]) (hp : a.tmps.getD u undef = .pointer (some ⟨g, 0, none⟩)) (hd : a.defers = [])
    (hh : NtIn w g np p n c nt q m d) (hR : R (.returned (.agg #[.int .i64 np, .slice p n c, .int .i64 nt, .slice q m d])) w) : bodyPost Try.prog fn R .ret a w := by
  refine bodyPost_ret (v := .agg #[.int .i64 np, .slice p n c, .int .i64 nt, .slice q m d]) ?_ hd hR
  rw [Array.getD_eq_getD_getElem?] at hp
  simp [results, h, hp, asAddr, load_nt hh]
end

set_option maxHeartbeats 3200000 in
set_option maxRecDepth 100000 in
theorem copiedNote_any (np nt : Int) (p q : Option Addr) (n c m d : Nat) (xs ys : List Int) (w : World) (h : Byt w p n c xs) (k : Byt w q m d ys) (hn : n ≤ 140737488355328) (hm : m ≤ 140737488355328) :
    Calls Try.prog 29 #[.agg #[.int .i64 np, .slice p n c, .int .i64 nt, .slice q m d]] w fun e w' => (∃ (p' q' : Option Addr) (c' d' : Nat), e = .returned (.agg #[.int .i64 np, .slice p' n c', .int .i64 nt, .slice q' m d'])) ∧ Below w.heap.size w w' := by
  have hx := hidden h.rng
  have hy := hidden k.rng
  have HL := Is.mk h.len
  have KL := Is.mk k.len
  have HX := hidden (fun W (hb : Below w.heap.size w W) => clone_any p n c xs W (h.below hb) hn)
  have HY := hidden (fun W (hb : Below w.heap.size w W) => clone_any q m d ys W (k.below hb) hm)
  clear h k hn hm
  have hBD := ((((Below.refl w.heap.size w).alloc (Nat.le_refl _) (.cells #[.int .i64 np, .slice p n c, .int .i64 nt, .slice q m d] 44)).alloc (by simp) (.cells #[.int .i64 0, .slice none 0 0, .int .i64 0, .slice none 0 0] 44)).drew)
  have hG := ((NtIn.new w np p n c nt q m d 44).below ((Below.refl _ _).alloc (Nat.le_refl _) (.cells #[.int .i64 0, .slice none 0 0, .int .i64 0, .slice none 0 0] 44))).below (drew_below ⟨1, rfl⟩)
  have hR := (NtIn.new (w.alloc (.cells #[.int .i64 np, .slice p n c, .int .i64 nt, .slice q m d] 44)) 0 none 0 0 0 none 0 0 44).below (drew_below (w' := ((w.alloc (.cells #[.int .i64 np, .slice p n c, .int .i64 nt, .slice q m d] 44)).alloc (.cells #[.int .i64 0, .slice none 0 0, .int .i64 0, .slice none 0 0] 44)).drew) ⟨1, rfl⟩)
  rw [show (w.alloc (.cells #[.int .i64 np, .slice p n c, .int .i64 nt, .slice q m d] 44)).heap.size = w.heap.size + 1 by simp] at hR
  have HBD := hidden hBD
  have HG := hidden hG
  have HR := hidden hR
  clear hBD hG hR
  go_enter Try.func29, Try.ntmps29
  go_upto_region 1 with fail
  go_cut [] from 3 to 10 (fun wx => ∃ (p1 p2 : Option Addr) (e1 e2 : Nat), NtIn wx w.heap.size np p1 n e1 nt p2 m e2 ∧ NtIn wx (w.heap.size + 1) 0 none 0 0 0 none 0 0 ∧ Below w.heap.size w wx)
  case first =>
    go_region_with (first
      | (go_at_call 33; (with_reducible refine (HX.out _ HBD.out).mono ?_); rintro _ w1 ⟨v1, rfl, hown1, hb1⟩; obtain ⟨p1, e1, rfl, -⟩ := hown1.bytN rfl HL.eq hx.out; have HB1 := hidden (HBD.out.trans (hb1.mono HBD.out.size)); have HG1 := hidden (HG.out.below hb1); have HR1 := hidden (HR.out.below hb1); obtain ⟨g0, g1, g2, g3, gf⟩ := HG1.out; have gf1 := gf 1; have gf3 := gf 3; clear hown1 hb1 gf)
      | (go_at_call 33; (with_reducible refine (HY.out _ HB1.out).mono ?_); rintro _ w2 ⟨v2, rfl, hown2, hb2⟩; obtain ⟨p2, e2, rfl, -⟩ := hown2.bytN rfl KL.eq hy.out; have HB2 := hidden (HB1.out.trans (hb2.mono HB1.out.size)); have HR2 := hidden (HR1.out.below hb2); have HN2 := hidden (HG1.out.below hb2); obtain ⟨k0, k1, k2, k3, kf⟩ := HG1.out.below hb2; have kf1 := kf 1; have kf3 := kf 3; clear hown2 hb2 kf)
      | fail)
    all_goals
      go_wp2
      go_meet
      case rel => exact ⟨p1, p2, e1, e2, HN2.out.set p1 p2 n e1 m e2, HR2.out.other (by omega) _ _, (HB2.out.setCell (p := ⟨w.heap.size, 1, none⟩) (Nat.le_refl _) _).setCell (p := ⟨w.heap.size, 3, none⟩) (Nat.le_refl _) _⟩
  case rest =>
    obtain ⟨p1, p2, e1, e2, hN, hR, hB⟩ := hcut
    obtain ⟨g0, g1, g2, g3, gf⟩ := hN
    have HR2 := hidden hR
    obtain ⟨r0, r1, r2, r3, rf⟩ := hR
    have rf0 := rf 0
    have rf1 := rf 1
    have rf2 := rf 2
    have rf3 := rf 3
    have HB := hidden hB
    clear HX HY HG HR HBD hB
    go_wp2
    refine ret_nt (g := w.heap.size + 1) rfl rfl rfl (HR2.out.all np p1 n e1 nt p2 m e2) ⟨⟨p1, p2, e1, e2, rfl⟩, ?_⟩
    have h1 : w.heap.size ≤ w.heap.size + 1 := Nat.le_succ _
    exact (((HB.out.setCell (p := ⟨w.heap.size + 1, 0, none⟩) h1 _).setCell (p := ⟨w.heap.size + 1, 1, none⟩) h1 _).setCell (p := ⟨w.heap.size + 1, 2, none⟩) h1 _).setCell (p := ⟨w.heap.size + 1, 3, none⟩) h1 _
end Go.Proofs.Ytnnbfhjbaagnkaa
