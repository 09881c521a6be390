/-
  The law MessageRepeats, walked: it returns true for every input, and only adds memory of its own.
-/
import Derived.Test.YtnnbfhjbaagnkaaQMsgStep
import Derived.Deep.Cut
import Derived.Deep.CutRange
import Derived.Deep.CutBlock
import Derived.Deep.RegionLaw
import Derived.Deep.RegionHeld3
namespace Go.Proofs.Ytnnbfhjbaagnkaa
open Go.RowKit
set_option linter.unusedVariables false
set_option linter.unusedSimpArgs false

theorem Kpt.of_below {w w' : World} (hb : Below w.heap.size w w') (base : Nat) : Kpt w w' base := fun a v _ hc => cell_below hb a v hc
theorem msg_new (w : World) (i r nx x f m : Int) (v : Value) (T : TypeId) : MIn (w.alloc (.cells #[.int .u64 i, .int .u64 r, .int .i64 nx, .int .i64 x, .int .i64 f, .int .u32 m, v] T)) w.heap.size i r nx x f m v := MIn.new w i r nx x f m v T

theorem MIn.put6 {w : World} {B : Nat} {i r nx x f m : Int} {v : Value} (h : MIn w B i r nx x f m v) (v' : Value) : MIn (w.setCell ⟨B, 6, none⟩ v') B i r nx x f m v' := by
  obtain ⟨c0, c1, c2, c3, c4, c5, c6, fr⟩ := h
  exact ⟨by go_simp, by go_simp, by go_simp, by go_simp, by go_simp, by go_simp, by go_simp, fun j => by rw [World.frozen?_setCell]; exact fr j⟩
theorem frz_below {w w' : World} {g : Nat} (hb : Below w.heap.size w w') (hg : g < w.heap.size) (hf : ∀ j, w.frozen? ⟨g, j, none⟩ = false) (j : Nat) : w'.frozen? ⟨g, j, none⟩ = false :=
  (World.frozen?_of_block (a := ⟨g, j, none⟩) (hb.block g hg)).trans (hf j)
theorem SrcG.keepv {α : Type} {K : KindR α} {w w' : World} {p : Option Addr} {m : Nat} {r : List α} (h : SrcG K w p m r) (hk : ∀ a v, w.cell? a = some v → w'.cell? a = some v) : SrcG K w' p m r :=
  ⟨h.1, fun h0 => by obtain ⟨ad, e, hc⟩ := h.2 h0; exact ⟨ad, e, fun j u hj => hk _ _ (hc j u hj)⟩⟩

theorem two46 (j : Nat) (hj : j < 2) : ∃ t : Int, (#[Value.int .i64 46, .int .i64 53] : Array Value)[j]? = some (.int .i64 t) ∧ ([Value.int .i64 46, .int .i64 53] : List Value)[j]? = some (.int .i64 t) ∧ (t = 46 ∨ t = 53) := by
  have : j = 0 ∨ j = 1 := by omega
  rcases this with rfl | rfl
  · exact ⟨_, rfl, rfl, .inl rfl⟩
  · exact ⟨_, rfl, rfl, .inr rfl⟩
theorem last16 {w : World} {base g n c : Nat} {l : List Pv} {y : Pv} (hr : RowG KPv NTv w base (.slice (some ⟨g, 0, none⟩) (n + 1) c) (l ++ [y])) (hn : l.length = n) :
    w.cell? ⟨g, n * 16, none⟩ = some (.int .i64 y.t) ∧ w.cell? ⟨g, n * 16 + 1, none⟩ = some (.slice y.pr.p y.pr.n y.pr.c) ∧ w.cell? ⟨g, n * 16 + 2, none⟩ = some (.int .i64 y.eg) ∧ w.cell? ⟨g, n * 16 + 3, none⟩ = some (.slice y.ed.p y.ed.n y.ed.c) ∧ w.cell? ⟨g, n * 16 + 4, none⟩ = some (.int .i64 y.ik) ∧ w.cell? ⟨g, n * 16 + 5, none⟩ = some (.slice y.id.p y.id.n y.id.c) ∧ w.cell? ⟨g, n * 16 + 6, none⟩ = some (.int .i64 y.am) ∧ w.cell? ⟨g, n * 16 + 7, none⟩ = some (.slice y.ad.p y.ad.n y.ad.c) ∧ w.cell? ⟨g, n * 16 + 8, none⟩ = some (.int .i64 y.np) ∧ w.cell? ⟨g, n * 16 + 9, none⟩ = some (.slice y.ns.p y.ns.n y.ns.c) ∧ w.cell? ⟨g, n * 16 + 10, none⟩ = some (.int .i64 y.nt) ∧ w.cell? ⟨g, n * 16 + 11, none⟩ = some (.slice y.nd.p y.nd.n y.nd.c) ∧ w.cell? ⟨g, n * 16 + 12, none⟩ = some (.int .i64 y.dp) ∧ w.cell? ⟨g, n * 16 + 13, none⟩ = some (.slice y.ds.p y.ds.n y.ds.c) ∧ w.cell? ⟨g, n * 16 + 14, none⟩ = some (.slice y.se.p y.se.n y.se.c) ∧ w.cell? ⟨g, n * 16 + 15, none⟩ = some (.slice y.da.p y.da.n y.da.c) := by
  obtain ⟨g', c', e, -, -, -, -, hc, hf⟩ := hr.at_ (n := n + 1) (by simp [hn]) (Nat.succ_pos _)
  cases e
  have hy : ∀ j u, (KPv.cs y)[j]? = some u → w.cell? ⟨g, n * 16 + j, none⟩ = some u := fun j u hj => by
    have := hc _ _ (KPv.row_get (l ++ [y]) n (by simp [hn]) j u (by rw [List.getElem_append_right (by omega)]; simpa [hn] using hj))
    simpa [KPv] using this
  exact cells16 hy
theorem lastfr {w : World} {base g n c : Nat} {l : List Pv} {y : Pv} (hr : RowG KPv NTv w base (.slice (some ⟨g, 0, none⟩) (n + 1) c) (l ++ [y])) (hn : l.length = n) :
    w.frozen? ⟨g, n * 16, none⟩ = false ∧ w.frozen? ⟨g, n * 16 + 1, none⟩ = false ∧ w.frozen? ⟨g, n * 16 + 2, none⟩ = false ∧ w.frozen? ⟨g, n * 16 + 3, none⟩ = false ∧ w.frozen? ⟨g, n * 16 + 4, none⟩ = false ∧ w.frozen? ⟨g, n * 16 + 5, none⟩ = false ∧ w.frozen? ⟨g, n * 16 + 6, none⟩ = false ∧ w.frozen? ⟨g, n * 16 + 7, none⟩ = false ∧ w.frozen? ⟨g, n * 16 + 8, none⟩ = false ∧ w.frozen? ⟨g, n * 16 + 9, none⟩ = false ∧ w.frozen? ⟨g, n * 16 + 10, none⟩ = false ∧ w.frozen? ⟨g, n * 16 + 11, none⟩ = false ∧ w.frozen? ⟨g, n * 16 + 12, none⟩ = false ∧ w.frozen? ⟨g, n * 16 + 13, none⟩ = false ∧ w.frozen? ⟨g, n * 16 + 14, none⟩ = false ∧ w.frozen? ⟨g, n * 16 + 15, none⟩ = false := by
  obtain ⟨g', c', e, -, -, -, -, hc, hf⟩ := hr.at_ (n := n + 1) (by simp [hn]) (Nat.succ_pos _)
  cases e
  exact frz16 hf
theorem row_cell2 (w w' : World) (k : Nat) (l : List Value) (T : TypeId) (o : Obj) (j : Nat) (u : Value) (hu : l[j]? = some u) (hk : k < w.heap.size) (hg : ((w.alloc (.cells l.toArray T)).alloc o).grownBy w' (some k)) : w'.cell? ⟨w.heap.size, j, none⟩ = some u :=
  hg.cell (cell_below ((Below.refl _ (w.alloc (.cells l.toArray T))).alloc (Nat.le_refl _) o) _ _ (by rw [World.cell?_alloc_at _ _ _ _ rfl]; simpa using hu)) (by simp; omega)
theorem row_cell3 (w w' : World) (k : Nat) (l : List Value) (T : TypeId) (o : Obj) (j : Nat) (u : Value) (hu : l[j]? = some u) (hk : k < w.heap.size) (hg : ((w.alloc o).alloc (.cells l.toArray T)).grownBy w' (some k)) : w'.cell? ⟨w.heap.size + 1, j, none⟩ = some u :=
  hg.cell (by rw [World.cell?_alloc_at _ _ _ _ (World.size_alloc _ _).symm]; simpa using hu) (by simp; omega)

/-- A sealed payload that the law makes. -/
def sq (t : Int) (A : Nat) : Pv := ⟨t, nilV, 0, nilV, 0, nilV, 0, nilV, 0, nilV, 0, nilV, 0, nilV, nilV, ⟨some ⟨A, 0, none⟩, 1, 1⟩⟩
theorem grown16 (wn : World) (g n : Nat) (t : Int) (A : Nat) : wn.grownBy ((((((((((((((((wn.setCell ⟨g, n * 16, none⟩ (.int .i64 t)).setCell ⟨g, n * 16 + 1, none⟩ (.slice none 0 0)).setCell ⟨g, n * 16 + 2, none⟩ (.int .i64 0)).setCell ⟨g, n * 16 + 3, none⟩ (.slice none 0 0)).setCell ⟨g, n * 16 + 4, none⟩ (.int .i64 0)).setCell ⟨g, n * 16 + 5, none⟩ (.slice none 0 0)).setCell ⟨g, n * 16 + 6, none⟩ (.int .i64 0)).setCell ⟨g, n * 16 + 7, none⟩ (.slice none 0 0)).setCell ⟨g, n * 16 + 8, none⟩ (.int .i64 0)).setCell ⟨g, n * 16 + 9, none⟩ (.slice none 0 0)).setCell ⟨g, n * 16 + 10, none⟩ (.int .i64 0)).setCell ⟨g, n * 16 + 11, none⟩ (.slice none 0 0)).setCell ⟨g, n * 16 + 12, none⟩ (.int .i64 0)).setCell ⟨g, n * 16 + 13, none⟩ (.slice none 0 0)).setCell ⟨g, n * 16 + 14, none⟩ (.slice none 0 0)).setCell ⟨g, n * 16 + 15, none⟩ (.slice (some ⟨A, 0, none⟩) 1 1)) (some g) :=
  grown_trans (grown_trans (grown_trans (grown_trans (grown_trans (grown_trans (grown_trans (grown_trans (grown_trans (grown_trans (grown_trans (grown_trans (grown_trans (grown_trans (grown_trans (grown_set _ _ _ _) (grown_set _ _ _ _)) (grown_set _ _ _ _)) (grown_set _ _ _ _)) (grown_set _ _ _ _)) (grown_set _ _ _ _)) (grown_set _ _ _ _)) (grown_set _ _ _ _)) (grown_set _ _ _ _)) (grown_set _ _ _ _)) (grown_set _ _ _ _)) (grown_set _ _ _ _)) (grown_set _ _ _ _)) (grown_set _ _ _ _)) (grown_set _ _ _ _)) (grown_set _ _ _ _)
theorem keepM {wn : World} {g n : Nat} {t : Int} {A M : Nat} {c : Value} (h : wn.cell? ⟨M, 6, none⟩ = some c) (hne : ¬ M = g) : (((((((((((((((((wn.setCell ⟨g, n * 16, none⟩ (.int .i64 t)).setCell ⟨g, n * 16 + 1, none⟩ (.slice none 0 0)).setCell ⟨g, n * 16 + 2, none⟩ (.int .i64 0)).setCell ⟨g, n * 16 + 3, none⟩ (.slice none 0 0)).setCell ⟨g, n * 16 + 4, none⟩ (.int .i64 0)).setCell ⟨g, n * 16 + 5, none⟩ (.slice none 0 0)).setCell ⟨g, n * 16 + 6, none⟩ (.int .i64 0)).setCell ⟨g, n * 16 + 7, none⟩ (.slice none 0 0)).setCell ⟨g, n * 16 + 8, none⟩ (.int .i64 0)).setCell ⟨g, n * 16 + 9, none⟩ (.slice none 0 0)).setCell ⟨g, n * 16 + 10, none⟩ (.int .i64 0)).setCell ⟨g, n * 16 + 11, none⟩ (.slice none 0 0)).setCell ⟨g, n * 16 + 12, none⟩ (.int .i64 0)).setCell ⟨g, n * 16 + 13, none⟩ (.slice none 0 0)).setCell ⟨g, n * 16 + 14, none⟩ (.slice none 0 0)).setCell ⟨g, n * 16 + 15, none⟩ (.slice (some ⟨A, 0, none⟩) 1 1))).cell? ⟨M, 6, none⟩ = some c :=
  (grown16 wn g n t A).cell h (by simp; omega)
theorem below_al1 (w : World) (o : Obj) : Below w.heap.size w (w.alloc o) := (Below.refl _ w).alloc (Nat.le_refl _) o
/-- Behind the last statement but one. -/
structure Fin12 (w w3 : World) (B M : Nat) (i r nx x f m : Int) (g n c P : Nat) (l : List Pv) (q : Pv) (W : World) : Prop where
  m : MIn W M i r nx x f m (.slice (some ⟨g, 0, none⟩) (n + 1) c)
  row : RowG KPv NTv W (P + 1) (.slice (some ⟨g, 0, none⟩) (n + 1) c) (l ++ [q])
  kp : Kpt w3 W B
  bel : Below w.heap.size w W
theorem Fin12.alloc {w w3 W : World} {B M : Nat} {i r nx x f m : Int} {g n c P : Nat} {l : List Pv} {q : Pv} (h : Fin12 w w3 B M i r nx x f m g n c P l q W) (o : Obj) : Fin12 w w3 B M i r nx x f m g n c P l q (W.alloc o) :=
  ⟨h.m.below (below_al1 W o), h.row.alloc o, h.kp.trans (Kpt.alloc W o B), h.bel.alloc h.bel.size o⟩
theorem Fin12.start {w w3 w9 wn : World} {k B M : Nat} {i r nx x f m : Int} {g n c P : Nat} {l : List Pv} {y : Pv} (hm : MIn w9 M i r nx x f m (.slice (some ⟨g, 0, none⟩) (n + 1) c)) (hg : w9.grownBy wn (some k)) (hkM : k < M) (hr : RowG KPv NTv wn (P + 1) (.slice (some ⟨g, 0, none⟩) (n + 1) c) (l ++ [y])) (hl : l.length = n)
    (hne : ¬ M = g) (hk9 : Kpt w3 w9 B) (hkB : k < B) (h3 : w3.heap.size ≤ g) (hb : Below w.heap.size w w9) (hwk : w.heap.size ≤ k) (hb0 : w.heap.size ≤ w3.heap.size) (t : Int) (A : Nat) : Fin12 w w3 B M i r nx x f m g n c P l (sq t A) ((((((((((((((((wn.setCell ⟨g, n * 16, none⟩ (.int .i64 t)).setCell ⟨g, n * 16 + 1, none⟩ (.slice none 0 0)).setCell ⟨g, n * 16 + 2, none⟩ (.int .i64 0)).setCell ⟨g, n * 16 + 3, none⟩ (.slice none 0 0)).setCell ⟨g, n * 16 + 4, none⟩ (.int .i64 0)).setCell ⟨g, n * 16 + 5, none⟩ (.slice none 0 0)).setCell ⟨g, n * 16 + 6, none⟩ (.int .i64 0)).setCell ⟨g, n * 16 + 7, none⟩ (.slice none 0 0)).setCell ⟨g, n * 16 + 8, none⟩ (.int .i64 0)).setCell ⟨g, n * 16 + 9, none⟩ (.slice none 0 0)).setCell ⟨g, n * 16 + 10, none⟩ (.int .i64 0)).setCell ⟨g, n * 16 + 11, none⟩ (.slice none 0 0)).setCell ⟨g, n * 16 + 12, none⟩ (.int .i64 0)).setCell ⟨g, n * 16 + 13, none⟩ (.slice none 0 0)).setCell ⟨g, n * 16 + 14, none⟩ (.slice none 0 0)).setCell ⟨g, n * 16 + 15, none⟩ (.slice (some ⟨A, 0, none⟩) 1 1)) := by
  have hG := grown16 wn g n t A
  refine ⟨(hm.grown hg (by simp; omega)).grown hG (by simp; omega), hr.setLast hl (sq t A), ?_, ?_⟩
  · exact fun a v ha hc => hG.cell (hg.cell (hk9 a v ha hc) (by simp; omega)) (by have := World.block_lt_of_cell? _ _ hc; simp; omega)
  · exact (hb.grown hg hb.size (fun j e => by cases e; exact hwk)).grown hG (Nat.le_trans hb.size hg.size) (fun j e => by cases e; exact Nat.le_trans hb0 h3)

theorem Fin12.fin {w w3 w9 W1 wz : World} {k B M : Nat} {i r nx x f m : Int} {g n c P : Nat} {l : List Pv} {q : Pv} (hm : MIn w9 M i r nx x f m (.slice (some ⟨g, 0, none⟩) (n + 1) c)) (hg : w9.grownBy W1 (some k)) (hG : W1.grownBy wz (some g)) (hkM : k < M) (hr : RowG KPv NTv wz (P + 1) (.slice (some ⟨g, 0, none⟩) (n + 1) c) (l ++ [q]))
    (hne : ¬ M = g) (hk9 : Kpt w3 w9 B) (hkB : k < B) (h3 : w3.heap.size ≤ g) (hb : Below w.heap.size w w9) (hwk : w.heap.size ≤ k) (hb0 : w.heap.size ≤ w3.heap.size) : Fin12 w w3 B M i r nx x f m g n c P l q wz := by
  refine ⟨(hm.grown hg (by simp; omega)).grown hG (by simp; omega), hr, ?_, ?_⟩
  · exact fun a v ha hc => hG.cell (hg.cell (hk9 a v ha hc) (by simp; omega)) (by have := World.block_lt_of_cell? _ _ hc; simp; omega)
  · exact (hb.grown hg hb.size (fun j e => by cases e; exact hwk)).grown hG (Nat.le_trans hb.size hg.size) (fun j e => by cases e; exact Nat.le_trans hb0 h3)

set_option maxHeartbeats 6400000 in
set_option maxRecDepth 100000 in
theorem messageRepeats_walk (p0 : Option Addr) (n0 c0 : Nat) (xs0 : List Int) (z1 : Int) (w : World) (h0 : Byt w p0 n0 c0 xs0) (r0 : c0 ≤ 140737488351232) (g1 : 0 ≤ z1 ∧ z1 ≤ 255) :
    Calls Try.prog 3 #[.slice p0 n0 c0, .int .u8 z1] w fun e w' => e = .returned (.bool true) ∧ Below w.heap.size w w' := by
  have HA := hidden (awake07_any w)
  have H0 := hidden h0
  clear h0
  go_enter Try.func3, Try.ntmps3
  go_upto_region 5 with (first
    | (go_at_call 4; (with_reducible refine (HA.out).mono ?_); rintro e w1 ⟨rfl, hb⟩; have HB1 := hidden hb; clear hb)
    | (go_at_call 5; (refine (new_any w p0 n0 c0 xs0 w1 H0.out HB1.out 240 (by omega)).mono ?_); rintro e w2 ⟨rfl, hc, hb⟩; have HC2 := hidden hc; have hk2 := hc.lt; have hw1 := HB1.out.size; clear hc hb)
    | (go_at_call 6; (with_reducible refine (message_any w w2 w1.heap.size HC2.out).mono ?_); rintro e w3 ⟨i, r, nx, x, f, m, q, n, d, l, rfl, hn7, hkl, hx, hrd, hcod, hgr⟩)
    | fail)
  generalize hw4 : w3.alloc (.cells _ 32) = w4
  have hm4 : MIn w4 w3.heap.size i r nx x f m (.slice q n d) := by
    rw [← hw4]
    exact msg_new w3 i r nx x f m (.slice q n d) 32
  have hb34 : Below w3.heap.size w3 w4 := by rw [← hw4]; exact (Below.refl _ _).alloc (Nat.le_refl _) _
  have hs34 : w4.heap.size = w3.heap.size + 1 := by rw [← hw4]; exact World.size_alloc _ _
  have h23 := hgr.size
  obtain ⟨M, hM⟩ : ∃ M, w3.heap.size = M := ⟨_, rfl⟩
  obtain ⟨k, hk⟩ : ∃ k, w1.heap.size = k := ⟨_, rfl⟩
  obtain ⟨B, hB⟩ : ∃ B, w2.heap.size = B := ⟨_, rfl⟩
  rw [hM] at hm4 hs34 h23 ⊢
  rw [hk] at hcod hk2 hw1 ⊢
  rw [hB] at hrd hk2 h23
  have HRD := hidden (fun W (hW : Kpt w3 W B) => hrd W hW)
  have HKL := hidden hkl
  have hB34 : Below M w3 w4 := by rw [← hM]; exact hb34
  have HM3 := hidden hM
  have HBM : Hid (∀ W, Below M w3 W → Kpt w3 W B) := fun W hW => Kpt.of_below (by rw [HM3.out]; exact hW) B
  have HC3 := hidden hcod
  have HCK : Hid (∀ W, Below M w3 W → Cod w W k) := fun W hW => HC3.out.below (by rw [HM3.out]; exact hW)
  have HBW := hidden hcod.bel
  have hXI : IntR x := by unfold IntR; omega
  have hck := check_any i r nx x f m q n d l w4 (hrd w4 (HBM.out w4 hB34)) (by omega) hXI
  obtain ⟨E, hE⟩ : ∃ E, checkM x f l = E := ⟨_, rfl⟩
  rw [hE] at hck
  have HE := Is.mk hE
  have HCH := hidden hck
  have HB4 := hidden hB34
  have HM4 := hidden hm4
  have HWM := hidden (show w.heap.size ≤ M by rw [← hM]; exact hcod.bel.size)
  clear hw4 hb34 hM hk hB hrd hkl hck hE hcod hgr HA H0 HB1 HC2 h23
  obtain ⟨m0, m1, m2, m3, m4, m5, m6, mf⟩ := hm4
  by_cases hE0 : E = 0
  rotate_left
  · have hE1 : (E != 0) = true := by simpa using hE0
    go_wp2_with (first
      | (go_at_call 7; (with_reducible refine (HCH.out).mono ?_); rintro e w5 ⟨rfl, hb5⟩; have HB5 := hidden (HB4.out.trans (hb5.mono (by have := HB4.out.size; omega))); clear hb5)
      | fail)
    go_ret
    exact ⟨rfl, HBW.out.trans (HB5.out.mono HWM.out)⟩
  subst hE0
  by_cases hn0 : n = 0
  · subst hn0
    have HM5 := hidden (fun W (hb : Below w4.heap.size w4 W) => (HM4.out.below hb).c6)
    go_wp2_with (first
      | (go_at_call 7; (with_reducible refine (HCH.out).mono ?_); rintro e w5 ⟨rfl, hb5⟩; have m65 := HM5.out _ hb5; have HB5 := hidden (HB4.out.trans (hb5.mono (by have := HB4.out.size; omega))); clear hb5)
      | fail)
    go_ret
    exact ⟨rfl, HBW.out.trans (HB5.out.mono HWM.out)⟩
  have hn0' : ((n : Int) == 0) = false := by simp; omega
  have HM5 := hidden (fun W (hb : Below w4.heap.size w4 W) => (HM4.out.below hb).c6)
  go_upto_region 7 with (first
    | (go_at_call 7; (with_reducible refine (HCH.out).mono ?_); rintro e w5 ⟨rfl, hb5⟩; have m65 := HM5.out _ hb5; have HMM := hidden (HM4.out.below hb5); have HB5 := hidden (HB4.out.trans (hb5.mono (by have := HB4.out.size; omega))); clear hb5)
    | fail)
  clear m0 m1 m2 m3 m4 m5 m6 mf HM5 HM4 HCH HB4 hs34 m65
  go_cut [7] from 9 to 33 (fun v wx => ∃ (P : Nat) (y : Pv), v = .pointer (some ⟨P, 0, none⟩) ∧ y ∈ l ∧ P < wx.heap.size ∧ M < P ∧ MIn wx M i r nx x f m (.slice q n d) ∧ Below M w3 wx ∧ (∀ j u, (KPv.cs y)[j]? = some u → wx.cell? ⟨P, j, none⟩ = some u))
  case first =>
    obtain ⟨J, hJ⟩ := Int.eq_ofNat_of_zero_le (Int.emod_nonneg z1 (show (n : Int) ≠ 0 by omega))
    have hJn : J < n := by have := Int.emod_lt_of_pos z1 (show (0 : Int) < n by omega); omega
    have hJi : (J : Int) < n := by omega
    have hJt : z1.tmod (n : Int) = (J : Int) := by rw [Int.tmod_eq_emod_of_nonneg g1.1]; exact hJ
    have hnz : ¬ (n : Int) = 0 := by omega
    have hrd5 := HRD.out w5 (HBM.out w5 HB5.out)
    have hll : l.length = n := hrd5.len
    obtain ⟨g, y, rfl, hly, -, hny, hcy⟩ := hrd5.drop_cons hJn
    have hyl : y ∈ l := List.mem_of_getElem? hly
    have y0 := hcy 0 _ rfl
    have y1 := hcy 1 _ rfl
    have y2 := hcy 2 _ rfl
    have y3 := hcy 3 _ rfl
    have y4 := hcy 4 _ rfl
    have y5 := hcy 5 _ rfl
    have y6 := hcy 6 _ rfl
    have y7 := hcy 7 _ rfl
    have y8 := hcy 8 _ rfl
    have y9 := hcy 9 _ rfl
    have y10 := hcy 10 _ rfl
    have y11 := hcy 11 _ rfl
    have y12 := hcy 12 _ rfl
    have y13 := hcy 13 _ rfl
    have y14 := hcy 14 _ rfl
    have y15 := hcy 15 _ rfl
    simp only [Nat.add_zero] at y0
    have m6 := HMM.out.c6
    have HYL := hidden hyl
    have HLL := Is.mk hll
    have HNZ := hidden hnz
    have hgl : g < w5.heap.size := World.block_lt_of_cell? _ _ y0
    have hMl : M < w5.heap.size := HMM.out.lt
    clear hJ hrd5 hly hny hcy hyl hll
    have hwz : IntKind.i64.wrap z1 = z1 := by rw [IntKind.wrap_i64]; omega
    have HS7 : Hid (∀ W, Below w5.heap.size w5 W → (fun w' => w'.cell? ⟨M, 6, none⟩ = some (.slice (some ⟨g, 0, none⟩) n d) ∧ w'.cell? ⟨g, J * 16, none⟩ = some (.int .i64 y.t) ∧ w'.cell? ⟨g, J * 16 + 1, none⟩ = some (.slice y.pr.p y.pr.n y.pr.c) ∧ w'.cell? ⟨g, J * 16 + 2, none⟩ = some (.int .i64 y.eg) ∧ w'.cell? ⟨g, J * 16 + 3, none⟩ = some (.slice y.ed.p y.ed.n y.ed.c) ∧ w'.cell? ⟨g, J * 16 + 4, none⟩ = some (.int .i64 y.ik) ∧ w'.cell? ⟨g, J * 16 + 5, none⟩ = some (.slice y.id.p y.id.n y.id.c) ∧ w'.cell? ⟨g, J * 16 + 6, none⟩ = some (.int .i64 y.am) ∧ w'.cell? ⟨g, J * 16 + 7, none⟩ = some (.slice y.ad.p y.ad.n y.ad.c) ∧ w'.cell? ⟨g, J * 16 + 8, none⟩ = some (.int .i64 y.np) ∧ w'.cell? ⟨g, J * 16 + 9, none⟩ = some (.slice y.ns.p y.ns.n y.ns.c) ∧ w'.cell? ⟨g, J * 16 + 10, none⟩ = some (.int .i64 y.nt) ∧ w'.cell? ⟨g, J * 16 + 11, none⟩ = some (.slice y.nd.p y.nd.n y.nd.c) ∧ w'.cell? ⟨g, J * 16 + 12, none⟩ = some (.int .i64 y.dp) ∧ w'.cell? ⟨g, J * 16 + 13, none⟩ = some (.slice y.ds.p y.ds.n y.ds.c) ∧ w'.cell? ⟨g, J * 16 + 14, none⟩ = some (.slice y.se.p y.se.n y.se.c) ∧ w'.cell? ⟨g, J * 16 + 15, none⟩ = some (.slice y.da.p y.da.n y.da.c)) W) := fun W hW => ⟨cell_below hW _ _ HMM.out.c6, cell_below hW _ _ y0, cell_below hW _ _ y1, cell_below hW _ _ y2, cell_below hW _ _ y3, cell_below hW _ _ y4, cell_below hW _ _ y5, cell_below hW _ _ y6, cell_below hW _ _ y7, cell_below hW _ _ y8, cell_below hW _ _ y9, cell_below hW _ _ y10, cell_below hW _ _ y11, cell_below hW _ _ y12, cell_below hW _ _ y13, cell_below hW _ _ y14, cell_below hW _ _ y15⟩
    clear m6 y0 y1 y2 y3 y4 y5 y6 y7 y8 y9 y10 y11 y12 y13 y14 y15
    go_region_held3 (fun w' => w'.cell? ⟨M, 6, none⟩ = some (.slice (some ⟨g, 0, none⟩) n d) ∧ w'.cell? ⟨g, J * 16, none⟩ = some (.int .i64 y.t) ∧ w'.cell? ⟨g, J * 16 + 1, none⟩ = some (.slice y.pr.p y.pr.n y.pr.c) ∧ w'.cell? ⟨g, J * 16 + 2, none⟩ = some (.int .i64 y.eg) ∧ w'.cell? ⟨g, J * 16 + 3, none⟩ = some (.slice y.ed.p y.ed.n y.ed.c) ∧ w'.cell? ⟨g, J * 16 + 4, none⟩ = some (.int .i64 y.ik) ∧ w'.cell? ⟨g, J * 16 + 5, none⟩ = some (.slice y.id.p y.id.n y.id.c) ∧ w'.cell? ⟨g, J * 16 + 6, none⟩ = some (.int .i64 y.am) ∧ w'.cell? ⟨g, J * 16 + 7, none⟩ = some (.slice y.ad.p y.ad.n y.ad.c) ∧ w'.cell? ⟨g, J * 16 + 8, none⟩ = some (.int .i64 y.np) ∧ w'.cell? ⟨g, J * 16 + 9, none⟩ = some (.slice y.ns.p y.ns.n y.ns.c) ∧ w'.cell? ⟨g, J * 16 + 10, none⟩ = some (.int .i64 y.nt) ∧ w'.cell? ⟨g, J * 16 + 11, none⟩ = some (.slice y.nd.p y.nd.n y.nd.c) ∧ w'.cell? ⟨g, J * 16 + 12, none⟩ = some (.int .i64 y.dp) ∧ w'.cell? ⟨g, J * 16 + 13, none⟩ = some (.slice y.ds.p y.ds.n y.ds.c) ∧ w'.cell? ⟨g, J * 16 + 14, none⟩ = some (.slice y.se.p y.se.n y.se.c) ∧ w'.cell? ⟨g, J * 16 + 15, none⟩ = some (.slice y.da.p y.da.n y.da.c)) (first | exact HS7.out _ (drew_below ⟨1, rfl⟩) | exact HS7.out _ (((Below.refl w5.heap.size w5).alloc (Nat.le_refl _) _).trans (drew_below ⟨1, rfl⟩)) | exact HS7.out _ ((Below.refl w5.heap.size w5).alloc (Nat.le_refl _) _) | exact HS7.out _ (Below.refl _ _) | go_keep) (fail)
    go_wp2_with fail
    go_meet
    case rel =>
      have hb57 : Below w5.heap.size w5 (w5.alloc (.cells #[.int .i64 y.t, .slice y.pr.p y.pr.n y.pr.c, .int .i64 y.eg, .slice y.ed.p y.ed.n y.ed.c, .int .i64 y.ik, .slice y.id.p y.id.n y.id.c, .int .i64 y.am, .slice y.ad.p y.ad.n y.ad.c, .int .i64 y.np, .slice y.ns.p y.ns.n y.ns.c, .int .i64 y.nt, .slice y.nd.p y.nd.n y.nd.c, .int .i64 y.dp, .slice y.ds.p y.ds.n y.ds.c, .slice y.se.p y.se.n y.se.c, .slice y.da.p y.da.n y.da.c] 50)).drew := ((Below.refl w5.heap.size w5).alloc (Nat.le_refl _) _).trans (drew_below ⟨1, rfl⟩)
      refine ⟨w5.heap.size, y, rfl, HYL.out, by simp, hMl, HMM.out.below hb57, HB5.out.trans (hb57.mono (by omega)), fun j u hj => ?_⟩
      have e : (w5.alloc (.cells #[.int .i64 y.t, .slice y.pr.p y.pr.n y.pr.c, .int .i64 y.eg, .slice y.ed.p y.ed.n y.ed.c, .int .i64 y.ik, .slice y.id.p y.id.n y.id.c, .int .i64 y.am, .slice y.ad.p y.ad.n y.ad.c, .int .i64 y.np, .slice y.ns.p y.ns.n y.ns.c, .int .i64 y.nt, .slice y.nd.p y.nd.n y.nd.c, .int .i64 y.dp, .slice y.ds.p y.ds.n y.ds.c, .slice y.se.p y.se.n y.se.c, .slice y.da.p y.da.n y.da.c] 50)).cell? ⟨w5.heap.size, j, none⟩ = some u := by
        rw [World.cell?_alloc_at _ _ _ _ rfl]
        simpa using (show ([.int .i64 y.t, .slice y.pr.p y.pr.n y.pr.c, .int .i64 y.eg, .slice y.ed.p y.ed.n y.ed.c, .int .i64 y.ik, .slice y.id.p y.id.n y.id.c, .int .i64 y.am, .slice y.ad.p y.ad.n y.ad.c, .int .i64 y.np, .slice y.ns.p y.ns.n y.ns.c, .int .i64 y.nt, .slice y.nd.p y.nd.n y.nd.c, .int .i64 y.dp, .slice y.ds.p y.ds.n y.ds.c, .slice y.se.p y.se.n y.se.c, .slice y.da.p y.da.n y.da.c] : List Value)[j]? = some u from hj)
      exact e
  case' rest => skip
  generalize wc = w7 at *
  obtain ⟨P, y, rfl, hyl, hs7, hMl, hm7, hb37, hpy⟩ := hcut
  have HYL := hidden hyl
  have HM7 := hidden hm7
  have HB7 := hidden hb37
  have hN0 : 0 < n := by omega
  have hk37 : Kpt w3 w7 B := HBM.out w7 hb37
  obtain ⟨g, rfl, -⟩ := (HRD.out w7 hk37).mem hN0
  have HLL := Is.mk (HRD.out w7 hk37).len
  have hDr : Below w7.heap.size w7 w7.drew := drew_below ⟨1, rfl⟩
  have hDa := hDr.alloc hDr.size (.cells #[.int .i64 y.t, .slice y.pr.p y.pr.n y.pr.c, .int .i64 y.eg, .slice y.ed.p y.ed.n y.ed.c, .int .i64 y.ik, .slice y.id.p y.id.n y.id.c, .int .i64 y.am, .slice y.ad.p y.ad.n y.ad.c, .int .i64 y.np, .slice y.ns.p y.ns.n y.ns.c, .int .i64 y.nt, .slice y.nd.p y.nd.n y.nd.c, .int .i64 y.dp, .slice y.ds.p y.ds.n y.ds.c, .slice y.se.p y.se.n y.se.c, .slice y.da.p y.da.n y.da.c] 50)
  have hs1 : SrcG KPv w7.drew (some ⟨g, 0, none⟩) n l := (HRD.out w7.drew (hk37.trans (Kpt.drew w7 B 1))).src
  have hs2 : SrcG KPv (w7.drew.alloc (.cells #[.int .i64 y.t, .slice y.pr.p y.pr.n y.pr.c, .int .i64 y.eg, .slice y.ed.p y.ed.n y.ed.c, .int .i64 y.ik, .slice y.id.p y.id.n y.id.c, .int .i64 y.am, .slice y.ad.p y.ad.n y.ad.c, .int .i64 y.np, .slice y.ns.p y.ns.n y.ns.c, .int .i64 y.nt, .slice y.nd.p y.nd.n y.nd.c, .int .i64 y.dp, .slice y.ds.p y.ds.n y.ds.c, .slice y.se.p y.se.n y.se.c, .slice y.da.p y.da.n y.da.c] 50)) (some ⟨g, 0, none⟩) n l := (HRD.out _ ((hk37.trans (Kpt.drew w7 B 1)).trans (Kpt.alloc _ _ _))).src
  have HS1 := hidden hs1
  have HS2 := hidden hs2
  have HD := hidden hDr
  have HDA := hidden hDa
  have HPY := hidden hpy
  have HLN : Hid ((l ++ [y]).length = n + 1) := hidden (by rw [List.length_append, HLL.eq]; rfl)
  have HL1 := hidden HLL.eq
  have hM7 : M < w7.heap.size := by omega
  obtain ⟨m0, m1, m2, m3, m4, m5, m6, mf⟩ := HM7.out
  obtain ⟨y0, y1, y2, y3, y4, y5, y6, y7, y8, y9, y10, y11, y12, y13, y14, y15⟩ := cells16z hpy
  have mf6 := mf 6
  have HFR := hidden mf
  have HM6 := hidden m6
  clear m0 m1 m2 m3 m4 m5 mf hpy hb37 hDr hDa hk37 hs1 hs2 hm7 hyl
  go_upto_region 8 with fail
  go_cut [] from 34 to 40 (fun wx => ∃ (g8 c8 : Nat), MIn wx M i r nx x f m (.slice (some ⟨g8, 0, none⟩) (n + 1) c8) ∧ RowG KPv NTv wx (P + 1) (.slice (some ⟨g8, 0, none⟩) (n + 1) c8) (l ++ [y]) ∧ Below M w3 wx ∧ (∀ j u, (KPv.cs y)[j]? = some u → wx.cell? ⟨P, j, none⟩ = some u))
  case first =>
    go_wp2_with fail
    have HSS : Hid (∀ W, Below w7.heap.size w7 W → ((fun w' => w'.cell? ⟨P, 0, none⟩ = some (.int .i64 y.t) ∧ w'.cell? ⟨P, 1, none⟩ = some (.slice y.pr.p y.pr.n y.pr.c) ∧ w'.cell? ⟨P, 2, none⟩ = some (.int .i64 y.eg) ∧ w'.cell? ⟨P, 3, none⟩ = some (.slice y.ed.p y.ed.n y.ed.c) ∧ w'.cell? ⟨P, 4, none⟩ = some (.int .i64 y.ik) ∧ w'.cell? ⟨P, 5, none⟩ = some (.slice y.id.p y.id.n y.id.c) ∧ w'.cell? ⟨P, 6, none⟩ = some (.int .i64 y.am) ∧ w'.cell? ⟨P, 7, none⟩ = some (.slice y.ad.p y.ad.n y.ad.c) ∧ w'.cell? ⟨P, 8, none⟩ = some (.int .i64 y.np) ∧ w'.cell? ⟨P, 9, none⟩ = some (.slice y.ns.p y.ns.n y.ns.c) ∧ w'.cell? ⟨P, 10, none⟩ = some (.int .i64 y.nt) ∧ w'.cell? ⟨P, 11, none⟩ = some (.slice y.nd.p y.nd.n y.nd.c) ∧ w'.cell? ⟨P, 12, none⟩ = some (.int .i64 y.dp) ∧ w'.cell? ⟨P, 13, none⟩ = some (.slice y.ds.p y.ds.n y.ds.c) ∧ w'.cell? ⟨P, 14, none⟩ = some (.slice y.se.p y.se.n y.se.c) ∧ w'.cell? ⟨P, 15, none⟩ = some (.slice y.da.p y.da.n y.da.c)) W)) := fun W hW => cells16z (fun j u hj => cell_below hW _ _ (HPY.out j u hj))
    have hS0 := HSS.out _ HD.out
    clear y0 y1 y2 y3 y4 y5 y6 y7 y8 y9 y10 y11 y12 y13 y14 y15
    go_wp2_with fail
    refine wp_region_held_drew (S := (fun w' => w'.cell? ⟨P, 0, none⟩ = some (.int .i64 y.t) ∧ w'.cell? ⟨P, 1, none⟩ = some (.slice y.pr.p y.pr.n y.pr.c) ∧ w'.cell? ⟨P, 2, none⟩ = some (.int .i64 y.eg) ∧ w'.cell? ⟨P, 3, none⟩ = some (.slice y.ed.p y.ed.n y.ed.c) ∧ w'.cell? ⟨P, 4, none⟩ = some (.int .i64 y.ik) ∧ w'.cell? ⟨P, 5, none⟩ = some (.slice y.id.p y.id.n y.id.c) ∧ w'.cell? ⟨P, 6, none⟩ = some (.int .i64 y.am) ∧ w'.cell? ⟨P, 7, none⟩ = some (.slice y.ad.p y.ad.n y.ad.c) ∧ w'.cell? ⟨P, 8, none⟩ = some (.int .i64 y.np) ∧ w'.cell? ⟨P, 9, none⟩ = some (.slice y.ns.p y.ns.n y.ns.c) ∧ w'.cell? ⟨P, 10, none⟩ = some (.int .i64 y.nt) ∧ w'.cell? ⟨P, 11, none⟩ = some (.slice y.nd.p y.nd.n y.nd.c) ∧ w'.cell? ⟨P, 12, none⟩ = some (.int .i64 y.dp) ∧ w'.cell? ⟨P, 13, none⟩ = some (.slice y.ds.p y.ds.n y.ds.c) ∧ w'.cell? ⟨P, 14, none⟩ = some (.slice y.se.p y.se.n y.se.c) ∧ w'.cell? ⟨P, 15, none⟩ = some (.slice y.da.p y.da.n y.da.c))) (by kernel_rfl) hS0 ?_
    intro hSw
    refine wpAnyH_take (i := 0) (v := ?_) rfl (by kernel_rfl) (by kernel_rfl) (by kernel_rfl) (fun _ _ _ h => h) (Or.inl ⟨by rfl, ?_⟩) (by assumption) ?_
    rotate_left
    · intro w0 hS0; (try dsimp only at hS0); go_simp; (try with_reducible rfl)
    (try simp only [Act.put, List.setIfInBounds_toArray, List.set_cons_zero, List.set_cons_succ])
    refine wpAnyH_take (i := 3) (v := ?_) rfl (by kernel_rfl) (by kernel_rfl) (by kernel_rfl) (fun _ _ _ h => h) (Or.inl ⟨by rfl, ?_⟩) (by assumption) ?_
    rotate_left
    · intro w0 hS0; (try dsimp only at hS0); go_simp; (try with_reducible rfl)
    (try simp only [Act.put, List.setIfInBounds_toArray, List.set_cons_zero, List.set_cons_succ])
    refine wpAnyH_ready (rs := [1, 4]) (by kernel_rfl) (by simp) ?_
    refine AllReadyH.cons rfl (fun K hK => ?_) (AllReadyH.cons rfl (fun K hK => ?_) AllReadyH.nil)
    · skip
      go_simp
      refine hK.out _ _ ?_ (fun hHeld => ?_)
      · (try dsimp only); exact hS0
      clear hK K
      (try simp only [Act.put, List.setIfInBounds_toArray, List.set_cons_zero, List.set_cons_succ])
      refine wpAnyH_ready (rs := [2, 4]) (by kernel_rfl) (by simp) ?_
      refine AllReadyH.cons rfl (fun K hK => ?_) (AllReadyH.cons rfl (fun K hK => ?_) AllReadyH.nil)
      · skip
        (refine step_append_g knownPv (by simp [NTv]) _ (by rfl) _ _ (by rfl) w7.heap.size _ [] (by rfl) (RowG.nil KPv NTv _ _) _ n d l (by rfl) HS1.out (fun x hx => trivial) (by unfold maxLen; simp; omega) (by simp; omega) (by simp) ?_; intro va1 wa1 hra1 hga1; have hb1 := HD.out.grown hga1 HD.out.size (by intro k hk; simp [Value.ownBlock] at hk); have hb1' := hb1; have mf6 := frz_below hb1 hM7 HFR.out 6; have hS1 := HSS.out _ hb1)
        refine hK.out _ _ ?_ (fun hHeld => ?_)
        · (try dsimp only); exact hS1
        clear hK K
        (try simp only [Act.put, List.setIfInBounds_toArray, List.set_cons_zero, List.set_cons_succ])
        refine wpAnyH_ready (rs := [4]) (by kernel_rfl) (by simp) ?_
        refine AllReadyH.cons rfl (fun K hK => ?_) AllReadyH.nil
        go_simp
        refine hK.out _ _ ?_ (fun hHeld => ?_)
        · (try dsimp only); exact HSS.out _ (hb1.alloc hb1.size _)
        clear hK K
        (try simp only [Act.put, List.setIfInBounds_toArray, List.set_cons_zero, List.set_cons_succ])
        refine wpAnyH_ready (rs := [5]) (by kernel_rfl) (by simp) ?_
        refine AllReadyH.cons rfl (fun K hK => ?_) AllReadyH.nil
        (refine step_append_g knownPv (by simp [NTv]) _ (by rfl) _ _ (by rfl) w7.heap.size _ l (by rfl) (hra1.alloc _) _ 1 1 [y] (by rfl) (srcPv wa1 y _) (fun x hx => trivial) (by rw [HL1.out]; unfold maxLen; omega) (by rw [HL1.out]; omega) (by have := hb1.size; simp; omega) ?_; intro vb wb hrb hgb; obtain ⟨g8, c8, rfl, -, -, hg8, -⟩ := hrb.at_ HLN.out (Nat.succ_pos _); have hb2 := (hb1.alloc hb1.size _).grown hgb (by have := hb1.size; simp; omega) (fun k hk => (hra1.lt k hk).1); have mf6 := frz_below hb2 hM7 HFR.out 6; have m6 := cell_below hb2 _ _ HM6.out; have hS3 := HSS.out _ hb2)
        refine hK.out _ _ ?_ (fun hHeld => ?_)
        · (try dsimp only); exact hS3
        clear hK K
        (try simp only [Act.put, List.setIfInBounds_toArray, List.set_cons_zero, List.set_cons_succ])
        refine wpAnyH_take (i := 6) (v := ?_) rfl (by kernel_rfl) (by kernel_rfl) (by kernel_rfl) (fun _ _ _ h => h) (Or.inl ⟨by rfl, ?_⟩) (by assumption) ?_
        rotate_left
        · intro w0 hS0; (try dsimp only at hS0); go_simp; (try with_reducible rfl)
        (try simp only [Act.put, List.setIfInBounds_toArray, List.set_cons_zero, List.set_cons_succ])
        refine wpAnyH_ready (rs := [7]) (by kernel_rfl) (by simp) ?_
        refine AllReadyH.cons rfl (fun K hK => ?_) AllReadyH.nil
        go_simp
        refine hK.out _ _ ?_ (fun hHeld => ?_)
        · (try dsimp only); exact cells16z (fun j u hj => (grown_set wb M 6 _).cell (cell_below hb2 _ _ (HPY.out j u hj)) (by simp; omega))
        clear hK K
        (try simp only [Act.put, List.setIfInBounds_toArray, List.set_cons_zero, List.set_cons_succ])
        refine wpAnyH_done (by kernel_rfl) ?_ _
        have HRB := hidden hrb
        have HBB := hidden hb2
        have hms := HM7.out.below hb2
        have HMB := hidden hms
        clear hrb hb2 hgb mf6 m6 hms
        go_wp2_with fail
        go_meet
        have hgs := grown_set wb M 6 (.slice (some ⟨g8, 0, none⟩) (n + 1) c8)
        case rel =>
          refine ⟨g8, c8, HMB.out.put6 _, (HRB.out.low hgs (by omega)).mono (by omega), (HB7.out.trans (HBB.out.mono (by have := HB7.out.size; have := HM3.out; omega))).grown hgs (by have := HB7.out.size; have := HBB.out.size; have := HM3.out; omega) (fun k hk => by cases hk; exact Nat.le_refl _), fun j u hj => hgs.cell (cell_below HBB.out _ _ (HPY.out j u hj)) (by simp; omega)⟩
      · skip
        go_simp
        refine hK.out _ _ ?_ (fun hHeld => ?_)
        · (try dsimp only); exact HSS.out _ HDA.out
        clear hK K
        (try simp only [Act.put, List.setIfInBounds_toArray, List.set_cons_zero, List.set_cons_succ])
        refine wpAnyH_ready (rs := [2]) (by kernel_rfl) (by simp) ?_
        refine AllReadyH.cons rfl (fun K hK => ?_) AllReadyH.nil
        (refine step_append_g knownPv (by simp [NTv]) _ (by rfl) _ _ (by rfl) w7.heap.size _ [] (by rfl) (RowG.nil KPv NTv _ _) _ n d l (by rfl) HS2.out (fun x hx => trivial) (by unfold maxLen; simp; omega) (by simp; omega) (by simp) ?_; intro va2 wa2 hra2 hga2; have hb1 := HDA.out.grown hga2 HDA.out.size (by intro k hk; simp [Value.ownBlock] at hk); have mf6 := frz_below hb1 hM7 HFR.out 6; have hS2 := HSS.out _ hb1; have hsz := (srcPv w7.drew y 50).keepv (fun a v h => hga2.cell h (by simp [Value.ownBlock])))
        refine hK.out _ _ ?_ (fun hHeld => ?_)
        · (try dsimp only); exact hS2
        clear hK K
        (try simp only [Act.put, List.setIfInBounds_toArray, List.set_cons_zero, List.set_cons_succ])
        refine wpAnyH_ready (rs := [5]) (by kernel_rfl) (by simp) ?_
        refine AllReadyH.cons rfl (fun K hK => ?_) AllReadyH.nil
        (refine step_append_g knownPv (by simp [NTv]) _ (by rfl) _ _ (by rfl) w7.heap.size _ l (by rfl) hra2 _ 1 1 [y] (by rfl) hsz (fun x hx => trivial) (by rw [HL1.out]; unfold maxLen; omega) (by rw [HL1.out]; omega) (by have := hb1.size; omega) ?_; intro vb wb hrb hgb; obtain ⟨g8, c8, rfl, -, -, hg8, -⟩ := hrb.at_ HLN.out (Nat.succ_pos _); have hb2 := hb1.grown hgb hb1.size (fun k hk => (hra2.lt k hk).1); have mf6 := frz_below hb2 hM7 HFR.out 6; have m6 := cell_below hb2 _ _ HM6.out; have hS3 := HSS.out _ hb2)
        refine hK.out _ _ ?_ (fun hHeld => ?_)
        · (try dsimp only); exact hS3
        clear hK K
        (try simp only [Act.put, List.setIfInBounds_toArray, List.set_cons_zero, List.set_cons_succ])
        refine wpAnyH_take (i := 6) (v := ?_) rfl (by kernel_rfl) (by kernel_rfl) (by kernel_rfl) (fun _ _ _ h => h) (Or.inl ⟨by rfl, ?_⟩) (by assumption) ?_
        rotate_left
        · intro w0 hS0; (try dsimp only at hS0); go_simp; (try with_reducible rfl)
        (try simp only [Act.put, List.setIfInBounds_toArray, List.set_cons_zero, List.set_cons_succ])
        refine wpAnyH_ready (rs := [7]) (by kernel_rfl) (by simp) ?_
        refine AllReadyH.cons rfl (fun K hK => ?_) AllReadyH.nil
        go_simp
        refine hK.out _ _ ?_ (fun hHeld => ?_)
        · (try dsimp only); exact cells16z (fun j u hj => (grown_set wb M 6 _).cell (cell_below hb2 _ _ (HPY.out j u hj)) (by simp; omega))
        clear hK K
        (try simp only [Act.put, List.setIfInBounds_toArray, List.set_cons_zero, List.set_cons_succ])
        refine wpAnyH_done (by kernel_rfl) ?_ _
        have HRB := hidden hrb
        have HBB := hidden hb2
        have hms := HM7.out.below hb2
        have HMB := hidden hms
        clear hrb hb2 hgb mf6 m6 hms
        go_wp2_with fail
        go_meet
        have hgs := grown_set wb M 6 (.slice (some ⟨g8, 0, none⟩) (n + 1) c8)
        case rel =>
          refine ⟨g8, c8, HMB.out.put6 _, (HRB.out.low hgs (by omega)).mono (by omega), (HB7.out.trans (HBB.out.mono (by have := HB7.out.size; have := HM3.out; omega))).grown hgs (by have := HB7.out.size; have := HBB.out.size; have := HM3.out; omega) (fun k hk => by cases hk; exact Nat.le_refl _), fun j u hj => hgs.cell (cell_below HBB.out _ _ (HPY.out j u hj)) (by simp; omega)⟩
    · skip
      go_simp
      refine hK.out _ _ ?_ (fun hHeld => ?_)
      · (try dsimp only); exact HSS.out _ HDA.out
      clear hK K
      (try simp only [Act.put, List.setIfInBounds_toArray, List.set_cons_zero, List.set_cons_succ])
      refine wpAnyH_ready (rs := [1]) (by kernel_rfl) (by simp) ?_
      refine AllReadyH.cons rfl (fun K hK => ?_) AllReadyH.nil
      go_simp
      refine hK.out _ _ ?_ (fun hHeld => ?_)
      · (try dsimp only); exact HSS.out _ HDA.out
      clear hK K
      (try simp only [Act.put, List.setIfInBounds_toArray, List.set_cons_zero, List.set_cons_succ])
      refine wpAnyH_ready (rs := [2]) (by kernel_rfl) (by simp) ?_
      refine AllReadyH.cons rfl (fun K hK => ?_) AllReadyH.nil
      (refine step_append_g knownPv (by simp [NTv]) _ (by rfl) _ _ (by rfl) w7.heap.size _ [] (by rfl) (RowG.nil KPv NTv _ _) _ n d l (by rfl) HS2.out (fun x hx => trivial) (by unfold maxLen; simp; omega) (by simp; omega) (by simp) ?_; intro va2 wa2 hra2 hga2; have hb1 := HDA.out.grown hga2 HDA.out.size (by intro k hk; simp [Value.ownBlock] at hk); have mf6 := frz_below hb1 hM7 HFR.out 6; have hS2 := HSS.out _ hb1; have hsz := (srcPv w7.drew y 50).keepv (fun a v h => hga2.cell h (by simp [Value.ownBlock])))
      refine hK.out _ _ ?_ (fun hHeld => ?_)
      · (try dsimp only); exact hS2
      clear hK K
      (try simp only [Act.put, List.setIfInBounds_toArray, List.set_cons_zero, List.set_cons_succ])
      refine wpAnyH_ready (rs := [5]) (by kernel_rfl) (by simp) ?_
      refine AllReadyH.cons rfl (fun K hK => ?_) AllReadyH.nil
      (refine step_append_g knownPv (by simp [NTv]) _ (by rfl) _ _ (by rfl) w7.heap.size _ l (by rfl) hra2 _ 1 1 [y] (by rfl) hsz (fun x hx => trivial) (by rw [HL1.out]; unfold maxLen; omega) (by rw [HL1.out]; omega) (by have := hb1.size; omega) ?_; intro vb wb hrb hgb; obtain ⟨g8, c8, rfl, -, -, hg8, -⟩ := hrb.at_ HLN.out (Nat.succ_pos _); have hb2 := hb1.grown hgb hb1.size (fun k hk => (hra2.lt k hk).1); have mf6 := frz_below hb2 hM7 HFR.out 6; have m6 := cell_below hb2 _ _ HM6.out; have hS3 := HSS.out _ hb2)
      refine hK.out _ _ ?_ (fun hHeld => ?_)
      · (try dsimp only); exact hS3
      clear hK K
      (try simp only [Act.put, List.setIfInBounds_toArray, List.set_cons_zero, List.set_cons_succ])
      refine wpAnyH_take (i := 6) (v := ?_) rfl (by kernel_rfl) (by kernel_rfl) (by kernel_rfl) (fun _ _ _ h => h) (Or.inl ⟨by rfl, ?_⟩) (by assumption) ?_
      rotate_left
      · intro w0 hS0; (try dsimp only at hS0); go_simp; (try with_reducible rfl)
      (try simp only [Act.put, List.setIfInBounds_toArray, List.set_cons_zero, List.set_cons_succ])
      refine wpAnyH_ready (rs := [7]) (by kernel_rfl) (by simp) ?_
      refine AllReadyH.cons rfl (fun K hK => ?_) AllReadyH.nil
      go_simp
      refine hK.out _ _ ?_ (fun hHeld => ?_)
      · (try dsimp only); exact cells16z (fun j u hj => (grown_set wb M 6 _).cell (cell_below hb2 _ _ (HPY.out j u hj)) (by simp; omega))
      clear hK K
      (try simp only [Act.put, List.setIfInBounds_toArray, List.set_cons_zero, List.set_cons_succ])
      refine wpAnyH_done (by kernel_rfl) ?_ _
      have HRB := hidden hrb
      have HBB := hidden hb2
      have hms := HM7.out.below hb2
      have HMB := hidden hms
      clear hrb hb2 hgb mf6 m6 hms
      go_wp2_with fail
      go_meet
      have hgs := grown_set wb M 6 (.slice (some ⟨g8, 0, none⟩) (n + 1) c8)
      case rel =>
        refine ⟨g8, c8, HMB.out.put6 _, (HRB.out.low hgs (by omega)).mono (by omega), (HB7.out.trans (HBB.out.mono (by have := HB7.out.size; have := HM3.out; omega))).grown hgs (by have := HB7.out.size; have := HBB.out.size; have := HM3.out; omega) (fun k hk => by cases hk; exact Nat.le_refl _), fun j u hj => hgs.cell (cell_below HBB.out _ _ (HPY.out j u hj)) (by simp; omega)⟩
  case' rest => skip
  generalize wc = w8 at *
  obtain ⟨g8, c8, hm8, hr8, hb38, hp8⟩ := hcut
  obtain ⟨m0, m1, m2, m3, m4, m5, m6, mf⟩ := hm8
  obtain ⟨y0, y1, y2, y3, y4, y5, y6, y7, y8, y9, y10, y11, y12, y13, y14, y15⟩ := cells16z hp8
  have HM8 : Hid (MIn w8 M i r nx x f m (.slice (some ⟨g8, 0, none⟩) (n + 1) c8)) := hidden ⟨m0, m1, m2, m3, m4, m5, m6, mf⟩
  have HR8 := hidden hr8
  have HB8 := hidden hb38
  have HP8 := hidden hp8
  clear m0 m1 m2 m3 m4 m5 m6 mf hr8 hb38 hp8 y1 y2 y3 y4 y5 y6 y7 y8 y9 y10 y11 y12 y13 y14 y15 mf6 HFR HM6 HD HDA HS1 HS2 HB7 HM7 HPY
  obtain ⟨t, ht⟩ : ∃ t, y.t = t := ⟨_, rfl⟩
  obtain ⟨b, hb⟩ : ∃ b, rep t = b := ⟨_, rfl⟩
  rw [ht] at y0
  have HT := Is.mk ht
  have HRB := Is.mk hb
  clear ht hb
  go_upto_region 9 with fail
  go_cut [8] from 41 to 58 (fun v wx => v = .bool b ∧ w8 = wx)
  case first =>
    by_cases h1 : t = 41
    · subst h1
      have hb : true = b := HRB.eq
      subst hb
      go_wp2
      go_meet
      case rel => exact ⟨rfl, rfl⟩
    by_cases h2 : t = 43
    · subst h2
      have hb : true = b := HRB.eq
      subst hb
      go_wp2
      go_meet
      case rel => exact ⟨rfl, rfl⟩
    by_cases h3 : t = 37
    · subst h3
      have hb : true = b := HRB.eq
      subst hb
      go_wp2
      go_meet
      case rel => exact ⟨rfl, rfl⟩
    by_cases h4 : t = 42
    · subst h4
      have hb : true = b := HRB.eq
      subst hb
      go_wp2
      go_meet
      case rel => exact ⟨rfl, rfl⟩
    have hb : b = false := by rw [← HRB.eq]; simp [rep, h1, h2, h3, h4]
    subst hb
    have e1 : (t == 41) = false := by simp [h1]
    have e2 : (t == 43) = false := by simp [h2]
    have e3 : (t == 37) = false := by simp [h3]
    have e4 : (t == 42) = false := by simp [h4]
    go_wp2
    go_meet
    case rel => exact ⟨rfl, rfl⟩
  case' rest => skip
  obtain ⟨rfl, rfl⟩ := hcut
  have hll2 : (l ++ [y]).length = n + 1 := HLN.out
  have hro : ∀ W, Below w8.heap.size w8 W → RdG KPv DPv W (some ⟨g8, 0, none⟩) (n + 1) c8 (l ++ [y]) := fun W hW => by
    have hn := (HRD.out W ((HBM.out w8 HB8.out).trans (Kpt.of_below hW B))).ok
    refine rdMsg HR8.out hll2 (Kpt.of_below hW (P + 1)) (fun z hz => ?_)
    rcases List.mem_append.1 hz with hz | hz
    · exact hn z hz
    · rw [List.mem_singleton.1 hz]; exact hn y HYL.out
  have hcm := check_more HE.eq HYL.out HKL.out
  rw [HT.eq, HRB.eq] at hcm
  have hca : ∀ W, Below w8.heap.size w8 W → Calls Try.prog 7 #[.agg #[.int .u64 i, .int .u64 r, .int .i64 nx, .int .i64 x, .int .i64 f, .int .u32 m, .slice (some ⟨g8, 0, none⟩) (n + 1) c8]] W fun e w' => e = .returned (.int .i64 (if b = true then 0 else 9)) ∧ Below W.heap.size W w' := fun W hW => by
    have := check_any i r nx x f m (some ⟨g8, 0, none⟩) (n + 1) c8 (l ++ [y]) W (hro W hW) (by omega) hXI
    rw [hcm] at this
    exact this
  have HCA := hidden hca
  have HCM := hidden hcm
  obtain ⟨m0, m1, m2, m3, m4, m5, m6, mf⟩ := HM8.out
  have hs38 := HB8.out.size
  clear hca hcm hro hll2 mf y0
  go_upto_region 10 with fail
  go_cut [72] from 59 to 72 (fun v wx => v = .bool false ∧ Below w8.heap.size w8 wx)
  case first =>
    cases b with
    | true =>
      have HC8 := hidden (HCA.out w8 (Below.refl _ _))
      go_wp2_with (first
        | (go_at_call 7; (with_reducible refine (HC8.out).mono ?_); rintro e w9 ⟨rfl, hb9⟩; have HB9 := hidden hb9; clear hb9)
        | fail)
      go_meet
      case rel => exact ⟨rfl, HB9.out⟩
    | false =>
      have HC8 := hidden (HCA.out w8 (Below.refl _ _))
      have HML := hidden (fun W hW => HM8.out.below (w' := W) hW)
      go_wp2_with (first
        | (go_at_call 7; (with_reducible refine (HC8.out).mono ?_); rintro e w9 ⟨rfl, hb9⟩; obtain ⟨m0, m1, m2, m3, m4, m5, m6, -⟩ := HML.out w9 hb9; have HB9 := hidden hb9; have HC9 := hidden (HCA.out w9 hb9); clear hb9)
        | (go_at_call 7; (with_reducible refine (HC9.out).mono ?_); rintro e w10 ⟨rfl, hb10⟩; have HB10 := hidden (HB9.out.trans (hb10.mono HB9.out.size)); clear hb10)
        | fail)
      go_meet
      case rel => exact ⟨rfl, HB10.out⟩
  case' rest => skip
  generalize wc = w9 at *
  obtain ⟨rfl, hb89⟩ := hcut
  clear m0 m1 m2 m3 m4 m5 m6 HCA HCM
  go_upto_region 12 with fail
  have hcod9 : Cod w w9 k := (HCK.out w8 HB8.out).below hb89
  have hm9 := HM8.out.below hb89
  have hr9 := HR8.out.below hb89
  have hm6 := hm9.c6
  have hg8P := (hr9.lt g8 rfl).1
  have hs89 := hb89.size
  have hP8 : P < w8.heap.size := World.block_lt_of_cell? _ _ (HP8.out 0 _ rfl)
  have HCD : Hid (Cod w w9.drew k) := hidden (hcod9.below (drew_below ⟨1, rfl⟩))
  have hkM : k < M := by have := HM3.out; have := HC3.out.lt; omega
  have HKF : Hid (∀ W, w9.grownBy W (some k) → W.cell? ⟨M, 6, none⟩ = some (.slice (some ⟨g8, 0, none⟩) (n + 1) c8) ∧ RowG KPv NTv W (P + 1) (.slice (some ⟨g8, 0, none⟩) (n + 1) c8) (l ++ [y])) := fun W hW => ⟨hW.cell hm6 (by simp; omega), hr9.low hW (by omega)⟩
  have hne1 : ¬ M = g8 := by omega
  have hne2 : ¬ g8 = M := by omega
  have HM9 := hidden hm9
  have HB9 := hidden hb89
  have hk9 : k < w9.heap.size := hcod9.lt
  have hsub : IntKind.i64.wrap (((n + 1 : Nat) : Int) - 1) = (n : Int) := by rw [IntKind.wrap_i64]; omega
  have hlt : (n : Int) < ((n + 1 : Nat) : Int) := by omega
  have hn0i : (0 : Int) ≤ n := by omega
  have hlt2 : (n : Int) < (n : Int) + 1 := by omega
  have hwr : IntKind.i64.wrap (n : Int) = (n : Int) := by rw [IntKind.wrap_i64]; omega
  clear hm9 hr9 hcod9 hb89
  have h3P : w3.heap.size ≤ P := by have := HM3.out; omega
  have HK9 : Hid (Kpt w3 w9 B) := hidden ((HBM.out w8 HB8.out).trans (Kpt.of_below HB9.out B))
  have HBL9 : Hid (Below w.heap.size w w9) := hidden ((HBW.out.trans (HB8.out.mono HWM.out)).trans (HB9.out.mono (by have := HBW.out.size; have := HB8.out.size; omega)))
  have hk3 : w.heap.size ≤ w3.heap.size := HBW.out.size
  have h3g : w3.heap.size ≤ g8 := by omega
  go_cut [] from 73 to 86 (fun wx => ∃ q : Pv, (q.t = 46 ∨ q.t = 53) ∧ (q.nt = 0 ∧ q.ns = nilV ∧ q.nd = nilV) ∧ Fin12 w w3 B M i r nx x f m g8 n c8 P l q wx)
  case first =>
    go_wp2_with fail
    refine wp_region_held_drew (S := fun w' => w'.cell? ⟨M, 6, none⟩ = some (.slice (some ⟨g8, 0, none⟩) (n + 1) c8)) (by kernel_rfl) hm6 ?_
    intro hSw
    refine wpAnyH_take (i := 0) (v := ?_) rfl (by kernel_rfl) (by kernel_rfl) (by kernel_rfl) (fun _ _ _ h => h) (Or.inl ⟨by rfl, ?_⟩) (by assumption) ?_
    rotate_left
    · intro w0 hS0; (try dsimp only at hS0); go_simp; (try with_reducible rfl)
    (try simp only [Act.put, List.setIfInBounds_toArray, List.set_cons_zero, List.set_cons_succ])
    refine wpAnyH_take (i := 1) (v := ?_) rfl (by kernel_rfl) (by kernel_rfl) (by kernel_rfl) (fun _ _ _ h => h) (Or.inl ⟨by rfl, ?_⟩) (by assumption) ?_
    rotate_left
    · intro w0 hS0; (try dsimp only at hS0); go_simp; (try with_reducible rfl)
    (try simp only [Act.put, List.setIfInBounds_toArray, List.set_cons_zero, List.set_cons_succ])
    refine wpAnyH_take (i := 2) (v := ?_) rfl (by kernel_rfl) (by kernel_rfl) (by kernel_rfl) (fun _ _ _ h => h) (Or.inl ⟨by rfl, ?_⟩) (by assumption) ?_
    rotate_left
    · intro w0 hS0; (try dsimp only at hS0); go_simp; (try with_reducible rfl)
    (try simp only [Act.put, List.setIfInBounds_toArray, List.set_cons_zero, List.set_cons_succ])
    refine wpAnyH_take (i := 3) (v := ?_) rfl (by kernel_rfl) (by kernel_rfl) (by kernel_rfl) (fun _ _ _ h => h) (Or.inl ⟨by rfl, ?_⟩) (by assumption) ?_
    rotate_left
    · intro w0 hS0; (try dsimp only at hS0); go_simp; (try with_reducible rfl)
    (try simp only [Act.put, List.setIfInBounds_toArray, List.set_cons_zero, List.set_cons_succ])
    refine wpAnyH_take (i := 4) (v := ?_) rfl (by kernel_rfl) (by kernel_rfl) (by kernel_rfl) (fun _ _ _ h => h) (Or.inl ⟨by rfl, ?_⟩) (by assumption) ?_
    rotate_left
    · intro w0 hS0; (try dsimp only at hS0); go_simp; (try with_reducible rfl)
    (try simp only [Act.put, List.setIfInBounds_toArray, List.set_cons_zero, List.set_cons_succ])
    refine wpAnyH_take (i := 5) (v := ?_) rfl (by kernel_rfl) (by kernel_rfl) (by kernel_rfl) (fun _ _ _ h => h) (Or.inl ⟨by rfl, ?_⟩) (by assumption) ?_
    rotate_left
    · intro w0 hS0; (try dsimp only at hS0); go_simp; (try with_reducible rfl)
    (try simp only [Act.put, List.setIfInBounds_toArray, List.set_cons_zero, List.set_cons_succ])
    refine wpAnyH_take (i := 7) (v := ?_) rfl (by kernel_rfl) (by kernel_rfl) (by kernel_rfl) (fun _ _ _ h => h) (Or.inl ⟨by rfl, ?_⟩) (by assumption) ?_
    rotate_left
    · intro w0 hS0; (try dsimp only at hS0); go_simp; (try with_reducible rfl)
    (try simp only [Act.put, List.setIfInBounds_toArray, List.set_cons_zero, List.set_cons_succ])
    refine wpAnyH_ready (rs := [6, 8, 11]) (by kernel_rfl) (by simp) ?_
    refine AllReadyH.cons rfl (fun K hK => ?_) (AllReadyH.cons rfl (fun K hK => ?_) (AllReadyH.cons rfl (fun K hK => ?_) AllReadyH.nil))
    · skip
      go_simp
      refine hK.out _ _ ?_ (fun hHeld => ?_)
      · (try dsimp only); (first | (with_reducible exact hm6) | (with_reducible exact m6n) | (with_reducible assumption) | (with_reducible exact cell_below (below_al1 _ _) _ _ hm6) | (with_reducible exact cell_below (below_al1 _ _) _ _ m6n) | (with_reducible exact cell_below (below_al1 _ _) _ _ (cell_below (below_al1 _ _) _ _ hm6)) | (with_reducible exact cell_below (below_al1 _ _) _ _ (cell_below (below_al1 _ _) _ _ m6n)) | go_keep)
      clear hK K
      (try simp only [Act.put, List.setIfInBounds_toArray, List.set_cons_zero, List.set_cons_succ])
      refine wpAnyH_ready (rs := [8, 11]) (by kernel_rfl) (by simp) ?_
      refine AllReadyH.cons rfl (fun K hK => ?_) (AllReadyH.cons rfl (fun K hK => ?_) AllReadyH.nil)
      · skip
        go_simp
        (go_at_call 8; (with_reducible refine (next_any w _ k ?_ _ ?_).mono ?_); (first | exact HCD.out | exact HCD.out.alloc _ | exact (HCD.out.alloc _).alloc _); omega; rintro e wn ⟨z, rfl, z0, z1, hcn, hgn⟩; obtain ⟨z, rfl⟩ := Int.eq_ofNat_of_zero_le z0; obtain ⟨t2, hta, htl, ht2⟩ := two46 z (by omega); have hG : w9.grownBy wn (some k) := (by first | exact grown_trans (grown_drewN w9 1 _) hgn | exact grown_trans (grown_trans (grown_drewN w9 1 _) (World.grownBy_alloc _ _ _)) hgn | exact grown_trans (grown_trans (grown_trans (grown_drewN w9 1 _) (World.grownBy_alloc _ _ _)) (World.grownBy_alloc _ _ _)) hgn); obtain ⟨m6n, hrn⟩ := HKF.out wn hG; have y0 := (last16 hrn HL1.out).1; have HRN := hidden hrn; have HGN := hidden hG; have HCN := hidden hcn; (try have hci : wn.cell? ⟨w9.heap.size, z, none⟩ = some (.int .i64 t2) := row_cell w9.drew wn k _ _ z _ htl hk9 hgn); (try have hci : wn.cell? ⟨w9.heap.size, z, none⟩ = some (.int .i64 t2) := row_cell2 w9.drew wn k _ _ _ z _ htl hk9 hgn); (try have hci : wn.cell? ⟨w9.heap.size + 1, z, none⟩ = some (.int .i64 t2) := row_cell3 w9.drew wn k _ _ _ z _ htl hk9 hgn); (try have hcl := World.block_lt_of_cell? _ _ hci); have hgl8 := World.block_lt_of_cell? _ _ y0; clear hrn hgn hcn hG)
        refine hK.out _ _ ?_ (fun hHeld => ?_)
        · (try dsimp only); (first | (with_reducible exact hm6) | (with_reducible exact m6n) | (with_reducible assumption) | (with_reducible exact cell_below (below_al1 _ _) _ _ hm6) | (with_reducible exact cell_below (below_al1 _ _) _ _ m6n) | (with_reducible exact cell_below (below_al1 _ _) _ _ (cell_below (below_al1 _ _) _ _ hm6)) | (with_reducible exact cell_below (below_al1 _ _) _ _ (cell_below (below_al1 _ _) _ _ m6n)) | go_keep)
        clear hK K
        (try simp only [Act.put, List.setIfInBounds_toArray, List.set_cons_zero, List.set_cons_succ])
        refine wpAnyH_take (i := 9) (v := ?_) rfl (by kernel_rfl) (by kernel_rfl) (by kernel_rfl) (fun _ _ _ h => h) (Or.inl ⟨by rfl, ?_⟩) (by assumption) ?_
        rotate_left
        · intro w0 hS0; (try dsimp only at hS0); go_simp; (try with_reducible rfl)
        (try simp only [Act.put, List.setIfInBounds_toArray, List.set_cons_zero, List.set_cons_succ])
        refine wpAnyH_ready (rs := [10, 11]) (by kernel_rfl) (by simp) ?_
        refine AllReadyH.cons rfl (fun K hK => ?_) (AllReadyH.cons rfl (fun K hK => ?_) AllReadyH.nil)
        · skip
          go_simp
          refine hK.out _ _ ?_ (fun hHeld => ?_)
          · (try dsimp only); (first | (with_reducible exact hm6) | (with_reducible exact m6n) | (with_reducible assumption) | (with_reducible exact cell_below (below_al1 _ _) _ _ hm6) | (with_reducible exact cell_below (below_al1 _ _) _ _ m6n) | (with_reducible exact cell_below (below_al1 _ _) _ _ (cell_below (below_al1 _ _) _ _ hm6)) | (with_reducible exact cell_below (below_al1 _ _) _ _ (cell_below (below_al1 _ _) _ _ m6n)) | go_keep)
          clear hK K
          (try simp only [Act.put, List.setIfInBounds_toArray, List.set_cons_zero, List.set_cons_succ])
          refine wpAnyH_ready (rs := [11]) (by kernel_rfl) (by simp) ?_
          refine AllReadyH.cons rfl (fun K hK => ?_) AllReadyH.nil
          · skip
            go_simp
            refine hK.out _ _ ?_ (fun hHeld => ?_)
            · (try dsimp only); (first | (with_reducible exact hm6) | (with_reducible exact m6n) | (with_reducible assumption) | (with_reducible exact cell_below (below_al1 _ _) _ _ hm6) | (with_reducible exact cell_below (below_al1 _ _) _ _ m6n) | (with_reducible exact cell_below (below_al1 _ _) _ _ (cell_below (below_al1 _ _) _ _ hm6)) | (with_reducible exact cell_below (below_al1 _ _) _ _ (cell_below (below_al1 _ _) _ _ m6n)) | go_keep)
            clear hK K
            (try simp only [Act.put, List.setIfInBounds_toArray, List.set_cons_zero, List.set_cons_succ])
            refine wpAnyH_take (i := 12) (v := ?_) rfl (by kernel_rfl) (by kernel_rfl) (by kernel_rfl) (fun _ _ _ h => h) (Or.inl ⟨by rfl, ?_⟩) (by assumption) ?_
            rotate_left
            · intro w0 hS0; (try dsimp only at hS0); go_simp; (try with_reducible rfl)
            (try simp only [Act.put, List.setIfInBounds_toArray, List.set_cons_zero, List.set_cons_succ])
            refine wpAnyH_take (i := 13) (v := ?_) rfl (by kernel_rfl) (by kernel_rfl) (by kernel_rfl) (fun _ _ _ h => h) (Or.inl ⟨by rfl, ?_⟩) (by assumption) ?_
            rotate_left
            · intro w0 hS0; (try dsimp only at hS0); go_simp; (try with_reducible rfl)
            (try simp only [Act.put, List.setIfInBounds_toArray, List.set_cons_zero, List.set_cons_succ])
            refine wpAnyH_ready (rs := [14]) (by kernel_rfl) (by simp) ?_
            refine AllReadyH.cons rfl (fun K hK => ?_) AllReadyH.nil
            refine step_store_last (by rfl) _ _ (by rfl) ((HRN.out).alloc _) HL1.out (sq t2 _) (by rfl) (by rfl) ?_
            intro wz HRZ HGZ
            refine hK.out _ _ ?_ (fun hHeld2 => ?_)
            · (try dsimp only); exact HGZ.out.cell (by assumption) (by simp; omega)
            clear hK K
            refine wpAnyH_done (by kernel_rfl) ?_ _
            go_wp2_with fail
            go_meet
            case rel => exact ⟨sq t2 _, ht2, ⟨rfl, rfl, rfl⟩, Fin12.fin HM9.out (grown_trans (HGN.out) (World.grownBy_alloc _ _ _)) HGZ.out hkM HRZ.out hne1 HK9.out hk2 h3g HBL9.out hw1 hk3⟩
        · skip
          go_simp
          refine hK.out _ _ ?_ (fun hHeld => ?_)
          · (try dsimp only); (first | (with_reducible exact hm6) | (with_reducible exact m6n) | (with_reducible assumption) | (with_reducible exact cell_below (below_al1 _ _) _ _ hm6) | (with_reducible exact cell_below (below_al1 _ _) _ _ m6n) | (with_reducible exact cell_below (below_al1 _ _) _ _ (cell_below (below_al1 _ _) _ _ hm6)) | (with_reducible exact cell_below (below_al1 _ _) _ _ (cell_below (below_al1 _ _) _ _ m6n)) | go_keep)
          clear hK K
          (try simp only [Act.put, List.setIfInBounds_toArray, List.set_cons_zero, List.set_cons_succ])
          refine wpAnyH_ready (rs := [10]) (by kernel_rfl) (by simp) ?_
          refine AllReadyH.cons rfl (fun K hK => ?_) AllReadyH.nil
          · skip
            go_simp
            refine hK.out _ _ ?_ (fun hHeld => ?_)
            · (try dsimp only); (first | (with_reducible exact hm6) | (with_reducible exact m6n) | (with_reducible assumption) | (with_reducible exact cell_below (below_al1 _ _) _ _ hm6) | (with_reducible exact cell_below (below_al1 _ _) _ _ m6n) | (with_reducible exact cell_below (below_al1 _ _) _ _ (cell_below (below_al1 _ _) _ _ hm6)) | (with_reducible exact cell_below (below_al1 _ _) _ _ (cell_below (below_al1 _ _) _ _ m6n)) | go_keep)
            clear hK K
            (try simp only [Act.put, List.setIfInBounds_toArray, List.set_cons_zero, List.set_cons_succ])
            refine wpAnyH_take (i := 12) (v := ?_) rfl (by kernel_rfl) (by kernel_rfl) (by kernel_rfl) (fun _ _ _ h => h) (Or.inl ⟨by rfl, ?_⟩) (by assumption) ?_
            rotate_left
            · intro w0 hS0; (try dsimp only at hS0); go_simp; (try with_reducible rfl)
            (try simp only [Act.put, List.setIfInBounds_toArray, List.set_cons_zero, List.set_cons_succ])
            refine wpAnyH_take (i := 13) (v := ?_) rfl (by kernel_rfl) (by kernel_rfl) (by kernel_rfl) (fun _ _ _ h => h) (Or.inl ⟨by rfl, ?_⟩) (by assumption) ?_
            rotate_left
            · intro w0 hS0; (try dsimp only at hS0); go_simp; (try with_reducible rfl)
            (try simp only [Act.put, List.setIfInBounds_toArray, List.set_cons_zero, List.set_cons_succ])
            refine wpAnyH_ready (rs := [14]) (by kernel_rfl) (by simp) ?_
            refine AllReadyH.cons rfl (fun K hK => ?_) AllReadyH.nil
            refine step_store_last (by rfl) _ _ (by rfl) ((HRN.out).alloc _) HL1.out (sq t2 _) (by rfl) (by rfl) ?_
            intro wz HRZ HGZ
            refine hK.out _ _ ?_ (fun hHeld2 => ?_)
            · (try dsimp only); exact HGZ.out.cell (by assumption) (by simp; omega)
            clear hK K
            refine wpAnyH_done (by kernel_rfl) ?_ _
            go_wp2_with fail
            go_meet
            case rel => exact ⟨sq t2 _, ht2, ⟨rfl, rfl, rfl⟩, Fin12.fin HM9.out (grown_trans (HGN.out) (World.grownBy_alloc _ _ _)) HGZ.out hkM HRZ.out hne1 HK9.out hk2 h3g HBL9.out hw1 hk3⟩
      · skip
        go_simp
        refine hK.out _ _ ?_ (fun hHeld => ?_)
        · (try dsimp only); (first | (with_reducible exact hm6) | (with_reducible exact m6n) | (with_reducible assumption) | (with_reducible exact cell_below (below_al1 _ _) _ _ hm6) | (with_reducible exact cell_below (below_al1 _ _) _ _ m6n) | (with_reducible exact cell_below (below_al1 _ _) _ _ (cell_below (below_al1 _ _) _ _ hm6)) | (with_reducible exact cell_below (below_al1 _ _) _ _ (cell_below (below_al1 _ _) _ _ m6n)) | go_keep)
        clear hK K
        (try simp only [Act.put, List.setIfInBounds_toArray, List.set_cons_zero, List.set_cons_succ])
        refine wpAnyH_ready (rs := [8]) (by kernel_rfl) (by simp) ?_
        refine AllReadyH.cons rfl (fun K hK => ?_) AllReadyH.nil
        · skip
          go_simp
          (go_at_call 8; (with_reducible refine (next_any w _ k ?_ _ ?_).mono ?_); (first | exact HCD.out | exact HCD.out.alloc _ | exact (HCD.out.alloc _).alloc _); omega; rintro e wn ⟨z, rfl, z0, z1, hcn, hgn⟩; obtain ⟨z, rfl⟩ := Int.eq_ofNat_of_zero_le z0; obtain ⟨t2, hta, htl, ht2⟩ := two46 z (by omega); have hG : w9.grownBy wn (some k) := (by first | exact grown_trans (grown_drewN w9 1 _) hgn | exact grown_trans (grown_trans (grown_drewN w9 1 _) (World.grownBy_alloc _ _ _)) hgn | exact grown_trans (grown_trans (grown_trans (grown_drewN w9 1 _) (World.grownBy_alloc _ _ _)) (World.grownBy_alloc _ _ _)) hgn); obtain ⟨m6n, hrn⟩ := HKF.out wn hG; have y0 := (last16 hrn HL1.out).1; have HRN := hidden hrn; have HGN := hidden hG; have HCN := hidden hcn; (try have hci : wn.cell? ⟨w9.heap.size, z, none⟩ = some (.int .i64 t2) := row_cell w9.drew wn k _ _ z _ htl hk9 hgn); (try have hci : wn.cell? ⟨w9.heap.size, z, none⟩ = some (.int .i64 t2) := row_cell2 w9.drew wn k _ _ _ z _ htl hk9 hgn); (try have hci : wn.cell? ⟨w9.heap.size + 1, z, none⟩ = some (.int .i64 t2) := row_cell3 w9.drew wn k _ _ _ z _ htl hk9 hgn); (try have hcl := World.block_lt_of_cell? _ _ hci); have hgl8 := World.block_lt_of_cell? _ _ y0; clear hrn hgn hcn hG)
          refine hK.out _ _ ?_ (fun hHeld => ?_)
          · (try dsimp only); (first | (with_reducible exact hm6) | (with_reducible exact m6n) | (with_reducible assumption) | (with_reducible exact cell_below (below_al1 _ _) _ _ hm6) | (with_reducible exact cell_below (below_al1 _ _) _ _ m6n) | (with_reducible exact cell_below (below_al1 _ _) _ _ (cell_below (below_al1 _ _) _ _ hm6)) | (with_reducible exact cell_below (below_al1 _ _) _ _ (cell_below (below_al1 _ _) _ _ m6n)) | go_keep)
          clear hK K
          (try simp only [Act.put, List.setIfInBounds_toArray, List.set_cons_zero, List.set_cons_succ])
          refine wpAnyH_take (i := 9) (v := ?_) rfl (by kernel_rfl) (by kernel_rfl) (by kernel_rfl) (fun _ _ _ h => h) (Or.inl ⟨by rfl, ?_⟩) (by assumption) ?_
          rotate_left
          · intro w0 hS0; (try dsimp only at hS0); go_simp; (try with_reducible rfl)
          (try simp only [Act.put, List.setIfInBounds_toArray, List.set_cons_zero, List.set_cons_succ])
          refine wpAnyH_ready (rs := [10]) (by kernel_rfl) (by simp) ?_
          refine AllReadyH.cons rfl (fun K hK => ?_) AllReadyH.nil
          · skip
            go_simp
            refine hK.out _ _ ?_ (fun hHeld => ?_)
            · (try dsimp only); (first | (with_reducible exact hm6) | (with_reducible exact m6n) | (with_reducible assumption) | (with_reducible exact cell_below (below_al1 _ _) _ _ hm6) | (with_reducible exact cell_below (below_al1 _ _) _ _ m6n) | (with_reducible exact cell_below (below_al1 _ _) _ _ (cell_below (below_al1 _ _) _ _ hm6)) | (with_reducible exact cell_below (below_al1 _ _) _ _ (cell_below (below_al1 _ _) _ _ m6n)) | go_keep)
            clear hK K
            (try simp only [Act.put, List.setIfInBounds_toArray, List.set_cons_zero, List.set_cons_succ])
            refine wpAnyH_take (i := 12) (v := ?_) rfl (by kernel_rfl) (by kernel_rfl) (by kernel_rfl) (fun _ _ _ h => h) (Or.inl ⟨by rfl, ?_⟩) (by assumption) ?_
            rotate_left
            · intro w0 hS0; (try dsimp only at hS0); go_simp; (try with_reducible rfl)
            (try simp only [Act.put, List.setIfInBounds_toArray, List.set_cons_zero, List.set_cons_succ])
            refine wpAnyH_take (i := 13) (v := ?_) rfl (by kernel_rfl) (by kernel_rfl) (by kernel_rfl) (fun _ _ _ h => h) (Or.inl ⟨by rfl, ?_⟩) (by assumption) ?_
            rotate_left
            · intro w0 hS0; (try dsimp only at hS0); go_simp; (try with_reducible rfl)
            (try simp only [Act.put, List.setIfInBounds_toArray, List.set_cons_zero, List.set_cons_succ])
            refine wpAnyH_ready (rs := [14]) (by kernel_rfl) (by simp) ?_
            refine AllReadyH.cons rfl (fun K hK => ?_) AllReadyH.nil
            refine step_store_last (by rfl) _ _ (by rfl) (HRN.out) HL1.out (sq t2 _) (by rfl) (by rfl) ?_
            intro wz HRZ HGZ
            refine hK.out _ _ ?_ (fun hHeld2 => ?_)
            · (try dsimp only); exact HGZ.out.cell (by assumption) (by simp; omega)
            clear hK K
            refine wpAnyH_done (by kernel_rfl) ?_ _
            go_wp2_with fail
            go_meet
            case rel => exact ⟨sq t2 _, ht2, ⟨rfl, rfl, rfl⟩, Fin12.fin HM9.out (HGN.out) HGZ.out hkM HRZ.out hne1 HK9.out hk2 h3g HBL9.out hw1 hk3⟩
    · skip
      go_simp
      (go_at_call 8; (with_reducible refine (next_any w _ k ?_ _ ?_).mono ?_); (first | exact HCD.out | exact HCD.out.alloc _ | exact (HCD.out.alloc _).alloc _); omega; rintro e wn ⟨z, rfl, z0, z1, hcn, hgn⟩; obtain ⟨z, rfl⟩ := Int.eq_ofNat_of_zero_le z0; obtain ⟨t2, hta, htl, ht2⟩ := two46 z (by omega); have hG : w9.grownBy wn (some k) := (by first | exact grown_trans (grown_drewN w9 1 _) hgn | exact grown_trans (grown_trans (grown_drewN w9 1 _) (World.grownBy_alloc _ _ _)) hgn | exact grown_trans (grown_trans (grown_trans (grown_drewN w9 1 _) (World.grownBy_alloc _ _ _)) (World.grownBy_alloc _ _ _)) hgn); obtain ⟨m6n, hrn⟩ := HKF.out wn hG; have y0 := (last16 hrn HL1.out).1; have HRN := hidden hrn; have HGN := hidden hG; have HCN := hidden hcn; (try have hci : wn.cell? ⟨w9.heap.size, z, none⟩ = some (.int .i64 t2) := row_cell w9.drew wn k _ _ z _ htl hk9 hgn); (try have hci : wn.cell? ⟨w9.heap.size, z, none⟩ = some (.int .i64 t2) := row_cell2 w9.drew wn k _ _ _ z _ htl hk9 hgn); (try have hci : wn.cell? ⟨w9.heap.size + 1, z, none⟩ = some (.int .i64 t2) := row_cell3 w9.drew wn k _ _ _ z _ htl hk9 hgn); (try have hcl := World.block_lt_of_cell? _ _ hci); have hgl8 := World.block_lt_of_cell? _ _ y0; clear hrn hgn hcn hG)
      refine hK.out _ _ ?_ (fun hHeld => ?_)
      · (try dsimp only); (first | (with_reducible exact hm6) | (with_reducible exact m6n) | (with_reducible assumption) | (with_reducible exact cell_below (below_al1 _ _) _ _ hm6) | (with_reducible exact cell_below (below_al1 _ _) _ _ m6n) | (with_reducible exact cell_below (below_al1 _ _) _ _ (cell_below (below_al1 _ _) _ _ hm6)) | (with_reducible exact cell_below (below_al1 _ _) _ _ (cell_below (below_al1 _ _) _ _ m6n)) | go_keep)
      clear hK K
      (try simp only [Act.put, List.setIfInBounds_toArray, List.set_cons_zero, List.set_cons_succ])
      refine wpAnyH_ready (rs := [6, 11]) (by kernel_rfl) (by simp) ?_
      refine AllReadyH.cons rfl (fun K hK => ?_) (AllReadyH.cons rfl (fun K hK => ?_) AllReadyH.nil)
      · skip
        go_simp
        refine hK.out _ _ ?_ (fun hHeld => ?_)
        · (try dsimp only); (first | (with_reducible exact hm6) | (with_reducible exact m6n) | (with_reducible assumption) | (with_reducible exact cell_below (below_al1 _ _) _ _ hm6) | (with_reducible exact cell_below (below_al1 _ _) _ _ m6n) | (with_reducible exact cell_below (below_al1 _ _) _ _ (cell_below (below_al1 _ _) _ _ hm6)) | (with_reducible exact cell_below (below_al1 _ _) _ _ (cell_below (below_al1 _ _) _ _ m6n)) | go_keep)
        clear hK K
        (try simp only [Act.put, List.setIfInBounds_toArray, List.set_cons_zero, List.set_cons_succ])
        refine wpAnyH_take (i := 9) (v := ?_) rfl (by kernel_rfl) (by kernel_rfl) (by kernel_rfl) (fun _ _ _ h => h) (Or.inl ⟨by rfl, ?_⟩) (by assumption) ?_
        rotate_left
        · intro w0 hS0; (try dsimp only at hS0); go_simp; (try with_reducible rfl)
        (try simp only [Act.put, List.setIfInBounds_toArray, List.set_cons_zero, List.set_cons_succ])
        refine wpAnyH_ready (rs := [10, 11]) (by kernel_rfl) (by simp) ?_
        refine AllReadyH.cons rfl (fun K hK => ?_) (AllReadyH.cons rfl (fun K hK => ?_) AllReadyH.nil)
        · skip
          go_simp
          refine hK.out _ _ ?_ (fun hHeld => ?_)
          · (try dsimp only); (first | (with_reducible exact hm6) | (with_reducible exact m6n) | (with_reducible assumption) | (with_reducible exact cell_below (below_al1 _ _) _ _ hm6) | (with_reducible exact cell_below (below_al1 _ _) _ _ m6n) | (with_reducible exact cell_below (below_al1 _ _) _ _ (cell_below (below_al1 _ _) _ _ hm6)) | (with_reducible exact cell_below (below_al1 _ _) _ _ (cell_below (below_al1 _ _) _ _ m6n)) | go_keep)
          clear hK K
          (try simp only [Act.put, List.setIfInBounds_toArray, List.set_cons_zero, List.set_cons_succ])
          refine wpAnyH_ready (rs := [11]) (by kernel_rfl) (by simp) ?_
          refine AllReadyH.cons rfl (fun K hK => ?_) AllReadyH.nil
          · skip
            go_simp
            refine hK.out _ _ ?_ (fun hHeld => ?_)
            · (try dsimp only); (first | (with_reducible exact hm6) | (with_reducible exact m6n) | (with_reducible assumption) | (with_reducible exact cell_below (below_al1 _ _) _ _ hm6) | (with_reducible exact cell_below (below_al1 _ _) _ _ m6n) | (with_reducible exact cell_below (below_al1 _ _) _ _ (cell_below (below_al1 _ _) _ _ hm6)) | (with_reducible exact cell_below (below_al1 _ _) _ _ (cell_below (below_al1 _ _) _ _ m6n)) | go_keep)
            clear hK K
            (try simp only [Act.put, List.setIfInBounds_toArray, List.set_cons_zero, List.set_cons_succ])
            refine wpAnyH_take (i := 12) (v := ?_) rfl (by kernel_rfl) (by kernel_rfl) (by kernel_rfl) (fun _ _ _ h => h) (Or.inl ⟨by rfl, ?_⟩) (by assumption) ?_
            rotate_left
            · intro w0 hS0; (try dsimp only at hS0); go_simp; (try with_reducible rfl)
            (try simp only [Act.put, List.setIfInBounds_toArray, List.set_cons_zero, List.set_cons_succ])
            refine wpAnyH_take (i := 13) (v := ?_) rfl (by kernel_rfl) (by kernel_rfl) (by kernel_rfl) (fun _ _ _ h => h) (Or.inl ⟨by rfl, ?_⟩) (by assumption) ?_
            rotate_left
            · intro w0 hS0; (try dsimp only at hS0); go_simp; (try with_reducible rfl)
            (try simp only [Act.put, List.setIfInBounds_toArray, List.set_cons_zero, List.set_cons_succ])
            refine wpAnyH_ready (rs := [14]) (by kernel_rfl) (by simp) ?_
            refine AllReadyH.cons rfl (fun K hK => ?_) AllReadyH.nil
            refine step_store_last (by rfl) _ _ (by rfl) (((HRN.out).alloc _).alloc _) HL1.out (sq t2 _) (by rfl) (by rfl) ?_
            intro wz HRZ HGZ
            refine hK.out _ _ ?_ (fun hHeld2 => ?_)
            · (try dsimp only); exact HGZ.out.cell (by assumption) (by simp; omega)
            clear hK K
            refine wpAnyH_done (by kernel_rfl) ?_ _
            go_wp2_with fail
            go_meet
            case rel => exact ⟨sq t2 _, ht2, ⟨rfl, rfl, rfl⟩, Fin12.fin HM9.out (grown_trans (grown_trans (HGN.out) (World.grownBy_alloc _ _ _)) (World.grownBy_alloc _ _ _)) HGZ.out hkM HRZ.out hne1 HK9.out hk2 h3g HBL9.out hw1 hk3⟩
        · skip
          go_simp
          refine hK.out _ _ ?_ (fun hHeld => ?_)
          · (try dsimp only); (first | (with_reducible exact hm6) | (with_reducible exact m6n) | (with_reducible assumption) | (with_reducible exact cell_below (below_al1 _ _) _ _ hm6) | (with_reducible exact cell_below (below_al1 _ _) _ _ m6n) | (with_reducible exact cell_below (below_al1 _ _) _ _ (cell_below (below_al1 _ _) _ _ hm6)) | (with_reducible exact cell_below (below_al1 _ _) _ _ (cell_below (below_al1 _ _) _ _ m6n)) | go_keep)
          clear hK K
          (try simp only [Act.put, List.setIfInBounds_toArray, List.set_cons_zero, List.set_cons_succ])
          refine wpAnyH_ready (rs := [10]) (by kernel_rfl) (by simp) ?_
          refine AllReadyH.cons rfl (fun K hK => ?_) AllReadyH.nil
          · skip
            go_simp
            refine hK.out _ _ ?_ (fun hHeld => ?_)
            · (try dsimp only); (first | (with_reducible exact hm6) | (with_reducible exact m6n) | (with_reducible assumption) | (with_reducible exact cell_below (below_al1 _ _) _ _ hm6) | (with_reducible exact cell_below (below_al1 _ _) _ _ m6n) | (with_reducible exact cell_below (below_al1 _ _) _ _ (cell_below (below_al1 _ _) _ _ hm6)) | (with_reducible exact cell_below (below_al1 _ _) _ _ (cell_below (below_al1 _ _) _ _ m6n)) | go_keep)
            clear hK K
            (try simp only [Act.put, List.setIfInBounds_toArray, List.set_cons_zero, List.set_cons_succ])
            refine wpAnyH_take (i := 12) (v := ?_) rfl (by kernel_rfl) (by kernel_rfl) (by kernel_rfl) (fun _ _ _ h => h) (Or.inl ⟨by rfl, ?_⟩) (by assumption) ?_
            rotate_left
            · intro w0 hS0; (try dsimp only at hS0); go_simp; (try with_reducible rfl)
            (try simp only [Act.put, List.setIfInBounds_toArray, List.set_cons_zero, List.set_cons_succ])
            refine wpAnyH_take (i := 13) (v := ?_) rfl (by kernel_rfl) (by kernel_rfl) (by kernel_rfl) (fun _ _ _ h => h) (Or.inl ⟨by rfl, ?_⟩) (by assumption) ?_
            rotate_left
            · intro w0 hS0; (try dsimp only at hS0); go_simp; (try with_reducible rfl)
            (try simp only [Act.put, List.setIfInBounds_toArray, List.set_cons_zero, List.set_cons_succ])
            refine wpAnyH_ready (rs := [14]) (by kernel_rfl) (by simp) ?_
            refine AllReadyH.cons rfl (fun K hK => ?_) AllReadyH.nil
            refine step_store_last (by rfl) _ _ (by rfl) (((HRN.out).alloc _).alloc _) HL1.out (sq t2 _) (by rfl) (by rfl) ?_
            intro wz HRZ HGZ
            refine hK.out _ _ ?_ (fun hHeld2 => ?_)
            · (try dsimp only); exact HGZ.out.cell (by assumption) (by simp; omega)
            clear hK K
            refine wpAnyH_done (by kernel_rfl) ?_ _
            go_wp2_with fail
            go_meet
            case rel => exact ⟨sq t2 _, ht2, ⟨rfl, rfl, rfl⟩, Fin12.fin HM9.out (grown_trans (grown_trans (HGN.out) (World.grownBy_alloc _ _ _)) (World.grownBy_alloc _ _ _)) HGZ.out hkM HRZ.out hne1 HK9.out hk2 h3g HBL9.out hw1 hk3⟩
      · skip
        go_simp
        refine hK.out _ _ ?_ (fun hHeld => ?_)
        · (try dsimp only); (first | (with_reducible exact hm6) | (with_reducible exact m6n) | (with_reducible assumption) | (with_reducible exact cell_below (below_al1 _ _) _ _ hm6) | (with_reducible exact cell_below (below_al1 _ _) _ _ m6n) | (with_reducible exact cell_below (below_al1 _ _) _ _ (cell_below (below_al1 _ _) _ _ hm6)) | (with_reducible exact cell_below (below_al1 _ _) _ _ (cell_below (below_al1 _ _) _ _ m6n)) | go_keep)
        clear hK K
        (try simp only [Act.put, List.setIfInBounds_toArray, List.set_cons_zero, List.set_cons_succ])
        refine wpAnyH_ready (rs := [6]) (by kernel_rfl) (by simp) ?_
        refine AllReadyH.cons rfl (fun K hK => ?_) AllReadyH.nil
        · skip
          go_simp
          refine hK.out _ _ ?_ (fun hHeld => ?_)
          · (try dsimp only); (first | (with_reducible exact hm6) | (with_reducible exact m6n) | (with_reducible assumption) | (with_reducible exact cell_below (below_al1 _ _) _ _ hm6) | (with_reducible exact cell_below (below_al1 _ _) _ _ m6n) | (with_reducible exact cell_below (below_al1 _ _) _ _ (cell_below (below_al1 _ _) _ _ hm6)) | (with_reducible exact cell_below (below_al1 _ _) _ _ (cell_below (below_al1 _ _) _ _ m6n)) | go_keep)
          clear hK K
          (try simp only [Act.put, List.setIfInBounds_toArray, List.set_cons_zero, List.set_cons_succ])
          refine wpAnyH_take (i := 9) (v := ?_) rfl (by kernel_rfl) (by kernel_rfl) (by kernel_rfl) (fun _ _ _ h => h) (Or.inl ⟨by rfl, ?_⟩) (by assumption) ?_
          rotate_left
          · intro w0 hS0; (try dsimp only at hS0); go_simp; (try with_reducible rfl)
          (try simp only [Act.put, List.setIfInBounds_toArray, List.set_cons_zero, List.set_cons_succ])
          refine wpAnyH_ready (rs := [10]) (by kernel_rfl) (by simp) ?_
          refine AllReadyH.cons rfl (fun K hK => ?_) AllReadyH.nil
          · skip
            go_simp
            refine hK.out _ _ ?_ (fun hHeld => ?_)
            · (try dsimp only); (first | (with_reducible exact hm6) | (with_reducible exact m6n) | (with_reducible assumption) | (with_reducible exact cell_below (below_al1 _ _) _ _ hm6) | (with_reducible exact cell_below (below_al1 _ _) _ _ m6n) | (with_reducible exact cell_below (below_al1 _ _) _ _ (cell_below (below_al1 _ _) _ _ hm6)) | (with_reducible exact cell_below (below_al1 _ _) _ _ (cell_below (below_al1 _ _) _ _ m6n)) | go_keep)
            clear hK K
            (try simp only [Act.put, List.setIfInBounds_toArray, List.set_cons_zero, List.set_cons_succ])
            refine wpAnyH_take (i := 12) (v := ?_) rfl (by kernel_rfl) (by kernel_rfl) (by kernel_rfl) (fun _ _ _ h => h) (Or.inl ⟨by rfl, ?_⟩) (by assumption) ?_
            rotate_left
            · intro w0 hS0; (try dsimp only at hS0); go_simp; (try with_reducible rfl)
            (try simp only [Act.put, List.setIfInBounds_toArray, List.set_cons_zero, List.set_cons_succ])
            refine wpAnyH_take (i := 13) (v := ?_) rfl (by kernel_rfl) (by kernel_rfl) (by kernel_rfl) (fun _ _ _ h => h) (Or.inl ⟨by rfl, ?_⟩) (by assumption) ?_
            rotate_left
            · intro w0 hS0; (try dsimp only at hS0); go_simp; (try with_reducible rfl)
            (try simp only [Act.put, List.setIfInBounds_toArray, List.set_cons_zero, List.set_cons_succ])
            refine wpAnyH_ready (rs := [14]) (by kernel_rfl) (by simp) ?_
            refine AllReadyH.cons rfl (fun K hK => ?_) AllReadyH.nil
            refine step_store_last (by rfl) _ _ (by rfl) (((HRN.out).alloc _).alloc _) HL1.out (sq t2 _) (by rfl) (by rfl) ?_
            intro wz HRZ HGZ
            refine hK.out _ _ ?_ (fun hHeld2 => ?_)
            · (try dsimp only); exact HGZ.out.cell (by assumption) (by simp; omega)
            clear hK K
            refine wpAnyH_done (by kernel_rfl) ?_ _
            go_wp2_with fail
            go_meet
            case rel => exact ⟨sq t2 _, ht2, ⟨rfl, rfl, rfl⟩, Fin12.fin HM9.out (grown_trans (grown_trans (HGN.out) (World.grownBy_alloc _ _ _)) (World.grownBy_alloc _ _ _)) HGZ.out hkM HRZ.out hne1 HK9.out hk2 h3g HBL9.out hw1 hk3⟩
    · skip
      go_simp
      refine hK.out _ _ ?_ (fun hHeld => ?_)
      · (try dsimp only); (first | (with_reducible exact hm6) | (with_reducible exact m6n) | (with_reducible assumption) | (with_reducible exact cell_below (below_al1 _ _) _ _ hm6) | (with_reducible exact cell_below (below_al1 _ _) _ _ m6n) | (with_reducible exact cell_below (below_al1 _ _) _ _ (cell_below (below_al1 _ _) _ _ hm6)) | (with_reducible exact cell_below (below_al1 _ _) _ _ (cell_below (below_al1 _ _) _ _ m6n)) | go_keep)
      clear hK K
      (try simp only [Act.put, List.setIfInBounds_toArray, List.set_cons_zero, List.set_cons_succ])
      refine wpAnyH_ready (rs := [6, 8]) (by kernel_rfl) (by simp) ?_
      refine AllReadyH.cons rfl (fun K hK => ?_) (AllReadyH.cons rfl (fun K hK => ?_) AllReadyH.nil)
      · skip
        go_simp
        refine hK.out _ _ ?_ (fun hHeld => ?_)
        · (try dsimp only); (first | (with_reducible exact hm6) | (with_reducible exact m6n) | (with_reducible assumption) | (with_reducible exact cell_below (below_al1 _ _) _ _ hm6) | (with_reducible exact cell_below (below_al1 _ _) _ _ m6n) | (with_reducible exact cell_below (below_al1 _ _) _ _ (cell_below (below_al1 _ _) _ _ hm6)) | (with_reducible exact cell_below (below_al1 _ _) _ _ (cell_below (below_al1 _ _) _ _ m6n)) | go_keep)
        clear hK K
        (try simp only [Act.put, List.setIfInBounds_toArray, List.set_cons_zero, List.set_cons_succ])
        refine wpAnyH_ready (rs := [8]) (by kernel_rfl) (by simp) ?_
        refine AllReadyH.cons rfl (fun K hK => ?_) AllReadyH.nil
        · skip
          go_simp
          (go_at_call 8; (with_reducible refine (next_any w _ k ?_ _ ?_).mono ?_); (first | exact HCD.out | exact HCD.out.alloc _ | exact (HCD.out.alloc _).alloc _); omega; rintro e wn ⟨z, rfl, z0, z1, hcn, hgn⟩; obtain ⟨z, rfl⟩ := Int.eq_ofNat_of_zero_le z0; obtain ⟨t2, hta, htl, ht2⟩ := two46 z (by omega); have hG : w9.grownBy wn (some k) := (by first | exact grown_trans (grown_drewN w9 1 _) hgn | exact grown_trans (grown_trans (grown_drewN w9 1 _) (World.grownBy_alloc _ _ _)) hgn | exact grown_trans (grown_trans (grown_trans (grown_drewN w9 1 _) (World.grownBy_alloc _ _ _)) (World.grownBy_alloc _ _ _)) hgn); obtain ⟨m6n, hrn⟩ := HKF.out wn hG; have y0 := (last16 hrn HL1.out).1; have HRN := hidden hrn; have HGN := hidden hG; have HCN := hidden hcn; (try have hci : wn.cell? ⟨w9.heap.size, z, none⟩ = some (.int .i64 t2) := row_cell w9.drew wn k _ _ z _ htl hk9 hgn); (try have hci : wn.cell? ⟨w9.heap.size, z, none⟩ = some (.int .i64 t2) := row_cell2 w9.drew wn k _ _ _ z _ htl hk9 hgn); (try have hci : wn.cell? ⟨w9.heap.size + 1, z, none⟩ = some (.int .i64 t2) := row_cell3 w9.drew wn k _ _ _ z _ htl hk9 hgn); (try have hcl := World.block_lt_of_cell? _ _ hci); have hgl8 := World.block_lt_of_cell? _ _ y0; clear hrn hgn hcn hG)
          refine hK.out _ _ ?_ (fun hHeld => ?_)
          · (try dsimp only); (first | (with_reducible exact hm6) | (with_reducible exact m6n) | (with_reducible assumption) | (with_reducible exact cell_below (below_al1 _ _) _ _ hm6) | (with_reducible exact cell_below (below_al1 _ _) _ _ m6n) | (with_reducible exact cell_below (below_al1 _ _) _ _ (cell_below (below_al1 _ _) _ _ hm6)) | (with_reducible exact cell_below (below_al1 _ _) _ _ (cell_below (below_al1 _ _) _ _ m6n)) | go_keep)
          clear hK K
          (try simp only [Act.put, List.setIfInBounds_toArray, List.set_cons_zero, List.set_cons_succ])
          refine wpAnyH_take (i := 9) (v := ?_) rfl (by kernel_rfl) (by kernel_rfl) (by kernel_rfl) (fun _ _ _ h => h) (Or.inl ⟨by rfl, ?_⟩) (by assumption) ?_
          rotate_left
          · intro w0 hS0; (try dsimp only at hS0); go_simp; (try with_reducible rfl)
          (try simp only [Act.put, List.setIfInBounds_toArray, List.set_cons_zero, List.set_cons_succ])
          refine wpAnyH_ready (rs := [10]) (by kernel_rfl) (by simp) ?_
          refine AllReadyH.cons rfl (fun K hK => ?_) AllReadyH.nil
          · skip
            go_simp
            refine hK.out _ _ ?_ (fun hHeld => ?_)
            · (try dsimp only); (first | (with_reducible exact hm6) | (with_reducible exact m6n) | (with_reducible assumption) | (with_reducible exact cell_below (below_al1 _ _) _ _ hm6) | (with_reducible exact cell_below (below_al1 _ _) _ _ m6n) | (with_reducible exact cell_below (below_al1 _ _) _ _ (cell_below (below_al1 _ _) _ _ hm6)) | (with_reducible exact cell_below (below_al1 _ _) _ _ (cell_below (below_al1 _ _) _ _ m6n)) | go_keep)
            clear hK K
            (try simp only [Act.put, List.setIfInBounds_toArray, List.set_cons_zero, List.set_cons_succ])
            refine wpAnyH_take (i := 12) (v := ?_) rfl (by kernel_rfl) (by kernel_rfl) (by kernel_rfl) (fun _ _ _ h => h) (Or.inl ⟨by rfl, ?_⟩) (by assumption) ?_
            rotate_left
            · intro w0 hS0; (try dsimp only at hS0); go_simp; (try with_reducible rfl)
            (try simp only [Act.put, List.setIfInBounds_toArray, List.set_cons_zero, List.set_cons_succ])
            refine wpAnyH_take (i := 13) (v := ?_) rfl (by kernel_rfl) (by kernel_rfl) (by kernel_rfl) (fun _ _ _ h => h) (Or.inl ⟨by rfl, ?_⟩) (by assumption) ?_
            rotate_left
            · intro w0 hS0; (try dsimp only at hS0); go_simp; (try with_reducible rfl)
            (try simp only [Act.put, List.setIfInBounds_toArray, List.set_cons_zero, List.set_cons_succ])
            refine wpAnyH_ready (rs := [14]) (by kernel_rfl) (by simp) ?_
            refine AllReadyH.cons rfl (fun K hK => ?_) AllReadyH.nil
            refine step_store_last (by rfl) _ _ (by rfl) (HRN.out) HL1.out (sq t2 _) (by rfl) (by rfl) ?_
            intro wz HRZ HGZ
            refine hK.out _ _ ?_ (fun hHeld2 => ?_)
            · (try dsimp only); exact HGZ.out.cell (by assumption) (by simp; omega)
            clear hK K
            refine wpAnyH_done (by kernel_rfl) ?_ _
            go_wp2_with fail
            go_meet
            case rel => exact ⟨sq t2 _, ht2, ⟨rfl, rfl, rfl⟩, Fin12.fin HM9.out (HGN.out) HGZ.out hkM HRZ.out hne1 HK9.out hk2 h3g HBL9.out hw1 hk3⟩
      · skip
        go_simp
        (go_at_call 8; (with_reducible refine (next_any w _ k ?_ _ ?_).mono ?_); (first | exact HCD.out | exact HCD.out.alloc _ | exact (HCD.out.alloc _).alloc _); omega; rintro e wn ⟨z, rfl, z0, z1, hcn, hgn⟩; obtain ⟨z, rfl⟩ := Int.eq_ofNat_of_zero_le z0; obtain ⟨t2, hta, htl, ht2⟩ := two46 z (by omega); have hG : w9.grownBy wn (some k) := (by first | exact grown_trans (grown_drewN w9 1 _) hgn | exact grown_trans (grown_trans (grown_drewN w9 1 _) (World.grownBy_alloc _ _ _)) hgn | exact grown_trans (grown_trans (grown_trans (grown_drewN w9 1 _) (World.grownBy_alloc _ _ _)) (World.grownBy_alloc _ _ _)) hgn); obtain ⟨m6n, hrn⟩ := HKF.out wn hG; have y0 := (last16 hrn HL1.out).1; have HRN := hidden hrn; have HGN := hidden hG; have HCN := hidden hcn; (try have hci : wn.cell? ⟨w9.heap.size, z, none⟩ = some (.int .i64 t2) := row_cell w9.drew wn k _ _ z _ htl hk9 hgn); (try have hci : wn.cell? ⟨w9.heap.size, z, none⟩ = some (.int .i64 t2) := row_cell2 w9.drew wn k _ _ _ z _ htl hk9 hgn); (try have hci : wn.cell? ⟨w9.heap.size + 1, z, none⟩ = some (.int .i64 t2) := row_cell3 w9.drew wn k _ _ _ z _ htl hk9 hgn); (try have hcl := World.block_lt_of_cell? _ _ hci); have hgl8 := World.block_lt_of_cell? _ _ y0; clear hrn hgn hcn hG)
        refine hK.out _ _ ?_ (fun hHeld => ?_)
        · (try dsimp only); (first | (with_reducible exact hm6) | (with_reducible exact m6n) | (with_reducible assumption) | (with_reducible exact cell_below (below_al1 _ _) _ _ hm6) | (with_reducible exact cell_below (below_al1 _ _) _ _ m6n) | (with_reducible exact cell_below (below_al1 _ _) _ _ (cell_below (below_al1 _ _) _ _ hm6)) | (with_reducible exact cell_below (below_al1 _ _) _ _ (cell_below (below_al1 _ _) _ _ m6n)) | go_keep)
        clear hK K
        (try simp only [Act.put, List.setIfInBounds_toArray, List.set_cons_zero, List.set_cons_succ])
        refine wpAnyH_ready (rs := [6]) (by kernel_rfl) (by simp) ?_
        refine AllReadyH.cons rfl (fun K hK => ?_) AllReadyH.nil
        · skip
          go_simp
          refine hK.out _ _ ?_ (fun hHeld => ?_)
          · (try dsimp only); (first | (with_reducible exact hm6) | (with_reducible exact m6n) | (with_reducible assumption) | (with_reducible exact cell_below (below_al1 _ _) _ _ hm6) | (with_reducible exact cell_below (below_al1 _ _) _ _ m6n) | (with_reducible exact cell_below (below_al1 _ _) _ _ (cell_below (below_al1 _ _) _ _ hm6)) | (with_reducible exact cell_below (below_al1 _ _) _ _ (cell_below (below_al1 _ _) _ _ m6n)) | go_keep)
          clear hK K
          (try simp only [Act.put, List.setIfInBounds_toArray, List.set_cons_zero, List.set_cons_succ])
          refine wpAnyH_take (i := 9) (v := ?_) rfl (by kernel_rfl) (by kernel_rfl) (by kernel_rfl) (fun _ _ _ h => h) (Or.inl ⟨by rfl, ?_⟩) (by assumption) ?_
          rotate_left
          · intro w0 hS0; (try dsimp only at hS0); go_simp; (try with_reducible rfl)
          (try simp only [Act.put, List.setIfInBounds_toArray, List.set_cons_zero, List.set_cons_succ])
          refine wpAnyH_ready (rs := [10]) (by kernel_rfl) (by simp) ?_
          refine AllReadyH.cons rfl (fun K hK => ?_) AllReadyH.nil
          · skip
            go_simp
            refine hK.out _ _ ?_ (fun hHeld => ?_)
            · (try dsimp only); (first | (with_reducible exact hm6) | (with_reducible exact m6n) | (with_reducible assumption) | (with_reducible exact cell_below (below_al1 _ _) _ _ hm6) | (with_reducible exact cell_below (below_al1 _ _) _ _ m6n) | (with_reducible exact cell_below (below_al1 _ _) _ _ (cell_below (below_al1 _ _) _ _ hm6)) | (with_reducible exact cell_below (below_al1 _ _) _ _ (cell_below (below_al1 _ _) _ _ m6n)) | go_keep)
            clear hK K
            (try simp only [Act.put, List.setIfInBounds_toArray, List.set_cons_zero, List.set_cons_succ])
            refine wpAnyH_take (i := 12) (v := ?_) rfl (by kernel_rfl) (by kernel_rfl) (by kernel_rfl) (fun _ _ _ h => h) (Or.inl ⟨by rfl, ?_⟩) (by assumption) ?_
            rotate_left
            · intro w0 hS0; (try dsimp only at hS0); go_simp; (try with_reducible rfl)
            (try simp only [Act.put, List.setIfInBounds_toArray, List.set_cons_zero, List.set_cons_succ])
            refine wpAnyH_take (i := 13) (v := ?_) rfl (by kernel_rfl) (by kernel_rfl) (by kernel_rfl) (fun _ _ _ h => h) (Or.inl ⟨by rfl, ?_⟩) (by assumption) ?_
            rotate_left
            · intro w0 hS0; (try dsimp only at hS0); go_simp; (try with_reducible rfl)
            (try simp only [Act.put, List.setIfInBounds_toArray, List.set_cons_zero, List.set_cons_succ])
            refine wpAnyH_ready (rs := [14]) (by kernel_rfl) (by simp) ?_
            refine AllReadyH.cons rfl (fun K hK => ?_) AllReadyH.nil
            refine step_store_last (by rfl) _ _ (by rfl) ((HRN.out).alloc _) HL1.out (sq t2 _) (by rfl) (by rfl) ?_
            intro wz HRZ HGZ
            refine hK.out _ _ ?_ (fun hHeld2 => ?_)
            · (try dsimp only); exact HGZ.out.cell (by assumption) (by simp; omega)
            clear hK K
            refine wpAnyH_done (by kernel_rfl) ?_ _
            go_wp2_with fail
            go_meet
            case rel => exact ⟨sq t2 _, ht2, ⟨rfl, rfl, rfl⟩, Fin12.fin HM9.out (grown_trans (HGN.out) (World.grownBy_alloc _ _ _)) HGZ.out hkM HRZ.out hne1 HK9.out hk2 h3g HBL9.out hw1 hk3⟩
  case' rest => skip
  generalize wc = w12 at *
  obtain ⟨q, hq, ⟨hq1, hq2, hq3⟩, hF⟩ := hcut
  have hnn := (HRD.out w12 hF.kp).ok
  have hlq : (l ++ [q]).length = n + 1 := by rw [List.length_append, HL1.out]; rfl
  have hrd := rdMsg hF.row hlq (Kpt.refl w12 (P + 1)) (fun z hz => by
    rcases List.mem_append.1 hz with hz | hz
    · exact hnn z hz
    · rw [List.mem_singleton.1 hz]
      refine ⟨?_, ?_, ⟨[], ?_⟩, ⟨[], ?_⟩, ?_, ?_⟩
      · unfold IntR; rcases hq with h | h <;> rw [h] <;> omega
      · unfold IntR; rw [hq1]; omega
      · rw [hq2]; exact Byt.nil _ _ _ (Nat.zero_le _)
      · rw [hq3]; exact Byt.nil _ _ _ (Nat.zero_le _)
      · rw [hq2]; exact Nat.zero_le _
      · rw [hq3]; exact Nat.zero_le _)
  have hcs := check_any i r nx x f m (some ⟨g8, 0, none⟩) (n + 1) c8 (l ++ [q]) w12 hrd (by omega) hXI
  rw [check_seal HE.eq (List.ne_nil_of_mem HYL.out) HKL.out hq] at hcs
  have HCS := hidden hcs
  have HBF := hidden hF.bel
  obtain ⟨m0, m1, m2, m3, m4, m5, m6, -⟩ := hF.m
  clear hcs hrd hF hnn hq1 hq2 hq3 hq hlq
  go_wp2_with (first
    | (go_at_call 7; (with_reducible refine (HCS.out).mono ?_); rintro e w13 ⟨rfl, hb13⟩; have HB13 := hidden (HBF.out.trans (hb13.mono HBF.out.size)); clear hb13)
    | fail)
  go_ret
  exact ⟨rfl, HB13.out⟩
end Go.Proofs.Ytnnbfhjbaagnkaa
