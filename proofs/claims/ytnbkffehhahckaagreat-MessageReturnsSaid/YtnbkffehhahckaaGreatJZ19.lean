/-
  What package selector reads of the beginning of some bytes.
  A notification in memory of its own (message.copiedNote).
  Whether a message tells of an error (message.fails).
  What the document's own Put returns, for every slice of bytes, number and width.
  A row of payloads of the call's own, with their bodies: what it is, how it stays, and how it grows.
  Plain mathematics, no program: a round of the loops that read and write chains of payloads.
  Slices of ints, and rows of slices of bytes of the call's own.
  append onto a row of the call's own: where the result lies.
-/
import Derived.Test.YtnbkffehhahckaaGreatJZ3
import Derived.Test.YtnbkffehhahckaaGreatJZ1
import Derived.Test.YtnbkffehhahckaaGreatJZ16
import Derived.Test.YtnbkffehhahckaaGreatJNum
import Derived.Test.YtnbkffehhahckaaGreatJZ5
import Derived.Test.YtnbkffehhahckaaGreatJZ0
import Derived.Deep.RegionWith
import Derived.Deep.Cut
import Derived.Deep.CutRange
import Derived.Deep.CutBlock
import Derived.Laws.Entries
import Derived.ArgAppend
namespace Go.Proofs.YtnbkffehhahckaaGreat
open Go.RowKit
set_option linter.unusedVariables false
theorem numR_bd (xs : List Int) (hr : ∀ x ∈ xs, 0 ≤ x ∧ x ≤ 255) (a k : Int) : 0 ≤ (numR xs a k).1 ∧ (numR xs a k).1 ≤ 18446744073709551615 := by
  unfold numR
  split
  · rename_i h
    have hb := val_bd ((xs.drop a.toNat).take k.toNat) (rng_take (rng_drop hr _) _)
    have hl : ((xs.drop a.toNat).take k.toNat).length ≤ 8 := by simp; omega
    have h8 := pow256_le hl
    have e : (256 : Int) ^ 8 = 18446744073709551616 := by decide
    rw [e] at h8
    simp only
    omega
  · simp
theorem numR_two (xs : List Int) (hr : ∀ x ∈ xs, 0 ≤ x ∧ x ≤ 255) (a k : Int) (hk : k ≤ 2) : (numR xs a k).1 ≤ 65535 := by
  unfold numR
  split
  · rename_i h
    have hb := val_bd ((xs.drop a.toNat).take k.toNat) (rng_take (rng_drop hr _) _)
    have hl : ((xs.drop a.toNat).take k.toNat).length ≤ 2 := by simp; omega
    have h8 := pow256_le hl
    have e : (256 : Int) ^ 2 = 65536 := by decide
    rw [e] at h8
    simp only
    omega
  · simp
theorem numR_in (xs : List Int) (a k : Nat) (h1 : 1 ≤ k) (h8 : k ≤ 8) (h : a + k ≤ xs.length) : numR xs a k = (nAt xs a k, true) := by
  unfold numR nAt
  rw [if_pos (by omega)]
  rfl
theorem nAt_one (xs : List Int) (a : Nat) (h : a < xs.length) : nAt xs a 1 = xs.getD a 0 := by
  unfold nAt
  rw [List.drop_eq_getElem_cons h, List.take_succ_cons, List.take_zero, List.getD_eq_getElem?_getD, List.getElem?_eq_getElem h]
  show (0 : Int) * 256 + xs[a] = xs[a]
  omega
theorem oneS_num (xs : List Int) (K Z : Int) (hK : (numR xs 0 1).1 = K) (hZ : (numR xs 2 2).1 = Z) :
    oneS xs = if K = 7 ∧ Z = 16 ∧ 16 ≤ xs.length then some (⟨nAt xs 1 1, nAt xs 4 2, nAt xs 6 2, ⟨4, 0, nAt xs 8 4⟩, ⟨4, 0, nAt xs 12 4⟩⟩, 16)
      else if K = 8 ∧ Z = 40 ∧ 40 ≤ xs.length then some (⟨nAt xs 1 1, nAt xs 4 2, nAt xs 6 2, ⟨6, nAt xs 8 8, nAt xs 16 8⟩, ⟨6, nAt xs 24 8, nAt xs 32 8⟩⟩, 40)
      else none := by
  unfold oneS
  by_cases h : xs.length < 8
  · rw [if_pos h, if_neg (by omega), if_neg (by omega)]
  · rw [if_neg h]
    have h0 := numR_in xs 0 1 (by omega) (by omega) (by omega)
    have h2 := numR_in xs 2 2 (by omega) (by omega) (by omega)
    rw [show ((0 : Nat) : Int) = 0 from rfl, show ((1 : Nat) : Int) = 1 from rfl] at h0
    rw [show ((2 : Nat) : Int) = 2 from rfl] at h2
    rw [h0] at hK
    rw [h2] at hZ
    simp only at hK hZ
    rw [← nAt_one xs 0 (by omega), ← nAt_one xs 1 (by omega), hK, hZ]
theorem snum_any (p : Option Addr) (n c : Nat) (xs : List Int) (w : World) (h : Byt w p n c xs) (a k : Int) (ha : -9223372036854775808 ≤ a ∧ a ≤ 9223372036854775807) (hk : 0 ≤ k ∧ k ≤ 2) (v : Int) (hv : (numR xs a k).1 = v) :
    Calls Tryz.prog 129 #[.slice p n c, .int .i64 a, .int .i64 k] w fun e w' => e = .returned (.int .i64 v) ∧ w = w' := by
  have HN := hidden (number_any p n c xs w h a k ha (by omega))
  have b1 := numR_bd xs h.rng a k
  have b2 := numR_two xs h.rng a k hk.2
  rw [hv] at b1 b2
  obtain ⟨v', ok, hr⟩ : ∃ v' ok, numR xs a k = (v', ok) := ⟨_, _, rfl⟩
  rw [hr] at hv
  obtain rfl : v' = v := hv
  rw [hr] at HN
  have hw : IntKind.i64.wrap v' = v' := by rw [IntKind.wrap_i64]; omega
  clear h hr
  go_enter Tryz.func129, Tryz.ntmps129
  go_wp2_with (first
    | (go_at_call 54; (with_reducible refine (HN.out).mono ?_); rintro e w' ⟨rfl, rfl⟩)
    | fail)
  go_ret
  exact ⟨rfl, rfl⟩
theorem num_b (p : Option Addr) (n c : Nat) (xs : List Int) (w : World) (h : Byt w p n c xs) (a k : Nat) (A K : Int) (hA : A = a) (hK : K = k) (h1 : 1 ≤ k) (h8 : k ≤ 8) (hin : a + k ≤ n) :
    Calls Tryz.prog 54 #[.slice p n c, .int .i64 A, .int .i64 K] w fun e w' => e = .returned (.tuple #[.int .u64 (nAt xs a k), .bool true]) ∧ w = w' := by
  subst hA hK
  exact number_yes p n c xs w h a k h1 h8 hin
theorem read4_any (p : Option Addr) (n c : Nat) (xs : List Int) (w : World) (h : Byt w p n c xs) (a : Nat) (A : Int) (hA : A = a) (hin : a + 4 ≤ n) :
    Calls Tryz.prog 130 #[.slice p n c, .int .i64 A] w fun e w' => e = .returned (.agg #[.int .i64 4, .int .u64 0, .int .u64 (nAt xs a 4)]) ∧ Below w.heap.size w w' := by
  subst hA
  have hn := h.le
  have HN := hidden (num_b p n c xs _ (h.alloc (.cells #[.int .i64 0, .int .u64 0, .int .u64 0] 111)) a 4 a 4 rfl rfl (by omega) (by omega) (by omega))
  have HB := hidden ((Below.refl w.heap.size w).alloc (Nat.le_refl _) (.cells #[.int .i64 0, .int .u64 0, .int .u64 0] 111))
  clear h
  go_enter Tryz.func130, Tryz.ntmps130
  go_wp2_with (first
    | (go_at_call 54; (with_reducible refine (HN.out).mono ?_); rintro e w' ⟨rfl, rfl⟩)
    | fail)
  refine ret_ad (g := w.heap.size) (x := ⟨4, 0, nAt xs a 4⟩) rfl rfl rfl (AdIn.new w ⟨4, 0, nAt xs a 4⟩ _) ?_
  exact ⟨rfl, (Below.refl w.heap.size w).alloc (Nat.le_refl _) _⟩
theorem read6_any (p : Option Addr) (n c : Nat) (xs : List Int) (w : World) (h : Byt w p n c xs) (a : Nat) (A : Int) (hA : A = a) (hin : a + 16 ≤ n) :
    Calls Tryz.prog 131 #[.slice p n c, .int .i64 A] w fun e w' => e = .returned (.agg #[.int .i64 6, .int .u64 (nAt xs a 8), .int .u64 (nAt xs (a + 8) 8)]) ∧ Below w.heap.size w w' := by
  subst hA
  have hn := h.le
  have HN := hidden (num_b p n c xs _ (h.alloc (.cells #[.int .i64 0, .int .u64 0, .int .u64 0] 111)) a 8 a 8 rfl rfl (by omega) (by omega) (by omega))
  have HM := hidden (num_b p n c xs _ (h.alloc (.cells #[.int .i64 0, .int .u64 0, .int .u64 0] 111)) (a + 8) 8 ((a : Int) + 8) 8 (by omega) rfl (by omega) (by omega) (by omega))
  have hw : IntKind.i64.wrap ((a : Int) + 8) = (a : Int) + 8 := by rw [IntKind.wrap_i64]; omega
  clear h
  go_enter Tryz.func131, Tryz.ntmps131
  go_wp2_with (first
    | (go_at_call 54; (first | (with_reducible refine (HN.out).mono ?_) | (with_reducible refine (HM.out).mono ?_)); rintro e w' ⟨rfl, rfl⟩)
    | fail)
  refine ret_ad (g := w.heap.size) (x := ⟨6, nAt xs a 8, nAt xs (a + 8) 8⟩) rfl rfl rfl (AdIn.new w ⟨6, nAt xs a 8, nAt xs (a + 8) 8⟩ _) ?_
  exact ⟨rfl, (Below.refl w.heap.size w).alloc (Nat.le_refl _) _⟩
end Go.Proofs.YtnbkffehhahckaaGreat

namespace Go.Proofs.YtnbkffehhahckaaGreat
open Go.RowKit
set_option linter.unusedVariables false
structure MnIn (w : World) (g : Nat) (np : Int) (p : Option Addr) (n c : Nat) (nt : Int) (q : Option Addr) (m d : Nat) : Prop where
  c0 : w.cell? ⟨g, 0, none⟩ = some (.int .i64 np)
  c1 : w.cell? ⟨g, 1, none⟩ = some (.slice p n c)
  c2 : w.cell? ⟨g, 2, none⟩ = some (.int .i64 nt)
  c3 : w.cell? ⟨g, 3, none⟩ = some (.slice q m d)
  fr : ∀ j, w.frozen? ⟨g, j, none⟩ = false
section
variable {w w' : World} {g : Nat} {np : Int} {p : Option Addr} {n c : Nat} {nt : Int} {q : Option Addr} {m d : Nat}
theorem MnIn.lt (h : MnIn w g np p n c nt q m d) : g < w.heap.size := World.block_lt_of_cell? w _ h.c0
theorem MnIn.grown {row : Option Nat} (h : MnIn w g np p n c nt q m d) (hg : w.grownBy w' row) (hne : some g ≠ row) : MnIn w' g np p n c nt q m d :=
  ⟨hg.cell h.c0 hne, hg.cell h.c1 hne, hg.cell h.c2 hne, hg.cell h.c3 hne, fun j => (World.frozen?_of_block (show w'.heap[(⟨g, j, none⟩ : Addr).block]? = _ from hg.block g h.lt hne)).trans (h.fr j)⟩
theorem MnIn.below (h : MnIn w g np p n c nt q m d) (hb : Below w.heap.size w w') : MnIn w' g np p n c nt q m d := h.grown (row := none) (grown_of_below hb none) (by simp)
theorem MnIn.new (w : World) (np : Int) (p : Option Addr) (n c : Nat) (nt : Int) (q : Option Addr) (m d : Nat) (T : TypeId) : MnIn (w.alloc (.cells #[.int .i64 np, .slice p n c, .int .i64 nt, .slice q m d] T)) w.heap.size np p n c nt q m d :=
  ⟨by go_simp, by go_simp, by go_simp, by go_simp, fun j => by go_simp⟩
theorem MnIn.set (h : MnIn w g np p n c nt q m d) (p' q' : Option Addr) (n' c' m' d' : Nat) : MnIn ((w.setCell ⟨g, 1, none⟩ (.slice p' n' c')).setCell ⟨g, 3, none⟩ (.slice q' m' d')) g np p' n' c' nt q' m' d' := by
  obtain ⟨c0, c1, c2, c3, fr⟩ := h
  exact ⟨by go_simp, by go_simp, by go_simp, by go_simp, fun j => by simp only [World.frozen?_setCell]; exact fr j⟩
theorem MnIn.all (h : MnIn w g np p n c nt q m d) (zp : Int) (p' : Option Addr) (n' c' : Nat) (zt : Int) (q' : Option Addr) (m' d' : Nat) : MnIn ((((w.setCell ⟨g, 0, none⟩ (.int .i64 zp)).setCell ⟨g, 1, none⟩ (.slice p' n' c')).setCell ⟨g, 2, none⟩ (.int .i64 zt)).setCell ⟨g, 3, none⟩ (.slice q' m' d')) g zp p' n' c' zt q' m' d' := by
  obtain ⟨c0, c1, c2, c3, fr⟩ := h
  exact ⟨by go_simp, by go_simp, by go_simp, by go_simp, fun j => by simp only [World.frozen?_setCell]; exact fr j⟩
theorem MnIn.other (h : MnIn w g np p n c nt q m d) {g' : Nat} (hne : g ≠ g') (u v : Value) : MnIn ((w.setCell ⟨g', 1, none⟩ u).setCell ⟨g', 3, none⟩ v) g np p n c nt q m d :=
  (h.grown (grown_set w g' 1 u) (by simp; exact hne)).grown (grown_set _ g' 3 v) (by simp; exact hne)
theorem load_nt (h : MnIn w g np p n c nt q m d) : (loadVar 50 ⟨g, 0, none⟩).run Tryz.prog w = .ok (.agg #[.int .i64 np, .slice p n c, .int .i64 nt, .slice q m d]) w := by
  obtain ⟨c0, c1, c2, c3, fr⟩ := h
  simp [loadVar, go_sem, c0, c1, c2, c3, Result.andThen]
theorem ret_nt {fn : Func} {R : Ending → World → Prop} {a : Act} {u : Nat} (h : fn.results = #[.cell u 50]) (hp : a.tmps.getD u undef = .pointer (some ⟨g, 0, none⟩)) (hd : a.defers = [])
    (hh : MnIn w g np p n c nt q m d) (hR : R (.returned (.agg #[.int .i64 np, .slice p n c, .int .i64 nt, .slice q m d])) w) : bodyPost Tryz.prog fn R .ret a w := by
  refine bodyPost_ret (v := .agg #[.int .i64 np, .slice p n c, .int .i64 nt, .slice q m d]) ?_ hd hR
  rw [Array.getD_eq_getD_getElem?] at hp
  simp [results, h, hp, asAddr, load_nt hh]
end
set_option maxHeartbeats 3200000 in
set_option maxRecDepth 100000 in
theorem copiedNote_any (np nt : Int) (p q : Option Addr) (n c m d : Nat) (xs ys : List Int) (w : World) (h : Byt w p n c xs) (k : Byt w q m d ys) (hn : n ≤ 140737488355328) (hm : m ≤ 140737488355328) :
    Calls Tryz.prog 71 #[.agg #[.int .i64 np, .slice p n c, .int .i64 nt, .slice q m d]] w fun e w' => (∃ (p' q' : Option Addr) (c' d' : Nat), e = .returned (.agg #[.int .i64 np, .slice p' n c', .int .i64 nt, .slice q' m d'])) ∧ Below w.heap.size w w' := by
  have hx := hidden h.rng
  have hy := hidden k.rng
  have HL := Is.mk h.len
  have KL := Is.mk k.len
  have HX := hidden (fun W (hb : Below w.heap.size w W) => clone_any p n c xs W (h.below hb) hn)
  have HY := hidden (fun W (hb : Below w.heap.size w W) => clone_any q m d ys W (k.below hb) hm)
  clear h k hn hm
  have hBD := ((((Below.refl w.heap.size w).alloc (Nat.le_refl _) (.cells #[.int .i64 np, .slice p n c, .int .i64 nt, .slice q m d] 50)).alloc (by simp) (.cells #[.int .i64 0, .slice none 0 0, .int .i64 0, .slice none 0 0] 50)).drew)
  have hG := ((MnIn.new w np p n c nt q m d 50).below ((Below.refl _ _).alloc (Nat.le_refl _) (.cells #[.int .i64 0, .slice none 0 0, .int .i64 0, .slice none 0 0] 50))).below (drew_below ⟨1, rfl⟩)
  have hR := (MnIn.new (w.alloc (.cells #[.int .i64 np, .slice p n c, .int .i64 nt, .slice q m d] 50)) 0 none 0 0 0 none 0 0 50).below (drew_below (w' := ((w.alloc (.cells #[.int .i64 np, .slice p n c, .int .i64 nt, .slice q m d] 50)).alloc (.cells #[.int .i64 0, .slice none 0 0, .int .i64 0, .slice none 0 0] 50)).drew) ⟨1, rfl⟩)
  rw [show (w.alloc (.cells #[.int .i64 np, .slice p n c, .int .i64 nt, .slice q m d] 50)).heap.size = w.heap.size + 1 by simp] at hR
  have HBD := hidden hBD
  have HG := hidden hG
  have HR := hidden hR
  clear hBD hG hR
  go_enter Tryz.func71, Tryz.ntmps71
  go_upto_region 1 with fail
  go_cut [] from 3 to 10 (fun wx => ∃ (p1 p2 : Option Addr) (e1 e2 : Nat), MnIn wx w.heap.size np p1 n e1 nt p2 m e2 ∧ MnIn wx (w.heap.size + 1) 0 none 0 0 0 none 0 0 ∧ Below w.heap.size w wx)
  case first =>
    go_region_with (first
      | (go_at_call 50; (with_reducible refine (HX.out _ HBD.out).mono ?_); rintro _ w1 ⟨v1, rfl, hown1, hb1⟩; obtain ⟨p1, e1, rfl, -⟩ := hown1.bytN rfl HL.eq hx.out; have HB1 := hidden (HBD.out.trans (hb1.mono HBD.out.size)); have HG1 := hidden (HG.out.below hb1); have HR1 := hidden (HR.out.below hb1); obtain ⟨g0, g1, g2, g3, gf⟩ := HG1.out; have gf1 := gf 1; have gf3 := gf 3; clear hown1 hb1 gf)
      | (go_at_call 50; (with_reducible refine (HY.out _ HB1.out).mono ?_); rintro _ w2 ⟨v2, rfl, hown2, hb2⟩; obtain ⟨p2, e2, rfl, -⟩ := hown2.bytN rfl KL.eq hy.out; have HB2 := hidden (HB1.out.trans (hb2.mono HB1.out.size)); have HR2 := hidden (HR1.out.below hb2); have HN2 := hidden (HG1.out.below hb2); obtain ⟨k0, k1, k2, k3, kf⟩ := HG1.out.below hb2; have kf1 := kf 1; have kf3 := kf 3; clear hown2 hb2 kf)
      | fail)
    all_goals
      go_wp2
      go_meet
      case rel => exact ⟨p1, p2, e1, e2, HN2.out.set p1 p2 n e1 m e2, HR2.out.other (by omega) _ _, (HB2.out.setCell (p := ⟨w.heap.size, 1, none⟩) (Nat.le_refl _) _).setCell (p := ⟨w.heap.size, 3, none⟩) (Nat.le_refl _) _⟩
  case rest =>
    obtain ⟨p1, p2, e1, e2, hN, hR, hB⟩ := hcut
    obtain ⟨g0, g1, g2, g3, gf⟩ := hN
    have HR2 := hidden hR
    obtain ⟨r0, r1, r2, r3, rf⟩ := hR
    have rf0 := rf 0
    have rf1 := rf 1
    have rf2 := rf 2
    have rf3 := rf 3
    have HB := hidden hB
    clear HX HY HG HR HBD hB
    go_wp2
    refine ret_nt (g := w.heap.size + 1) rfl rfl rfl (HR2.out.all np p1 n e1 nt p2 m e2) ⟨⟨p1, p2, e1, e2, rfl⟩, ?_⟩
    have h1 : w.heap.size ≤ w.heap.size + 1 := Nat.le_succ _
    exact (((HB.out.setCell (p := ⟨w.heap.size + 1, 0, none⟩) h1 _).setCell (p := ⟨w.heap.size + 1, 1, none⟩) h1 _).setCell (p := ⟨w.heap.size + 1, 2, none⟩) h1 _).setCell (p := ⟨w.heap.size + 1, 3, none⟩) h1 _
end Go.Proofs.YtnbkffehhahckaaGreat

namespace Go.Proofs.YtnbkffehhahckaaGreat
open Go.RowKit
set_option linter.unusedVariables false
set_option maxHeartbeats 800000 in
theorem containsFunc_any (p : Option Addr) (n c : Nat) (l : List Pv) (w : World) (h : RdG KPv DPv w p n c l) :
    Calls Tryz.prog 35 #[.slice p n c, .func (.func 36) #[] #[]] w fun e w' => e = .returned (.bool (l.any tells)) ∧ Below w.heap.size w w' := by
  have HC := hidden (indexFunc_any p n c l w h)
  have HN := Is.mk (firstAt_neg tells l 0)
  generalize firstAt tells l 0 = R at HC HN
  go_enter Tryz.func35, Tryz.ntmps35
  go_wp2_with (first
    | (go_at_call 51; (with_reducible refine (HC.out).mono ?_); rintro _ w1 ⟨rfl, hb1⟩; have HB1 := hidden hb1; clear hb1)
    | fail)
  go_ret
  exact ⟨by rw [← HN.eq]; rfl, HB1.out⟩
set_option maxHeartbeats 800000 in
theorem fails_any (i r nx x f m : Int) (p : Option Addr) (n c : Nat) (l : List Pv) (w : World) (h : RdG KPv DPv w p n c l) :
    Calls Tryz.prog 19 #[.agg #[.int .u64 i, .int .u64 r, .int .i64 nx, .int .i64 x, .int .i64 f, .int .u32 m, .slice p n c]] w fun e w' => e = .returned (.bool (l.any tells)) ∧ Below w.heap.size w w' := by
  have HB0 := hidden ((Below.refl w.heap.size w).alloc (Nat.le_refl _) (.cells #[.int .u64 i, .int .u64 r, .int .i64 nx, .int .i64 x, .int .i64 f, .int .u32 m, .slice p n c] 30))
  have HC := hidden (containsFunc_any p n c l (w.alloc (.cells #[.int .u64 i, .int .u64 r, .int .i64 nx, .int .i64 x, .int .i64 f, .int .u32 m, .slice p n c] 30)) (h.below HB0.out))
  clear h
  go_enter Tryz.func19, Tryz.ntmps19
  go_wp2_with (first
    | (go_at_call 35; (with_reducible refine (HC.out).mono ?_); rintro _ w1 ⟨rfl, hb1⟩; have HB1 := hidden (HB0.out.trans (hb1.mono HB0.out.size)); clear hb1)
    | fail)
  go_ret
  exact ⟨rfl, HB1.out⟩
end Go.Proofs.YtnbkffehhahckaaGreat

namespace Go.Proofs.YtnbkffehhahckaaGreat
open Go.RowKit
set_option linter.unusedVariables false
def BytesNew (w : World) (xs : List Int) (e : Ending) (w' : World) : Prop := ∃ v, e = .returned v ∧ Own w' w.heap.size 5 v xs ∧ Below w.heap.size w w'
end Go.Proofs.YtnbkffehhahckaaGreat

namespace Go.Proofs.YtnbkffehhahckaaGreat
open Go.RowKit
set_option linter.unusedVariables false
def RawP.bod (x : RawP) (w : World) (base : Nat) : Prop := Bod w base x.p x.n x.m x.b
structure Rws (w : World) (base : Nat) (v : Value) (l : List RawP) : Prop where
  own : OwnRw w base 85 v l
  bods : ∀ x ∈ l, x.bod w base
theorem Rws.nil (w : World) (base : Nat) : Rws w base (.slice none 0 0) [] := ⟨OwnRw.nil _ _ _, fun x hx => by cases hx⟩
theorem Rws.bodR {w : World} {base : Nat} {v : Value} {l : List RawP} (h : Rws w base v l) : BodR w l := fun x hx => (h.bods x hx).byt
theorem Rws.mono {w : World} {base base' : Nat} {v : Value} {l : List RawP} (h : Rws w base v l) (hb : base' ≤ base) : Rws w base' v l := by
  refine ⟨⟨h.own.1, ?_⟩, fun x hx => (h.bods x hx).mono hb⟩
  rcases h.own.2 with h1 | ⟨g, cap, cur, hv, hg, rest⟩
  · exact Or.inl h1
  · exact Or.inr ⟨g, cap, cur, hv, by omega, rest⟩
theorem Rws.grown {w w' : World} {base : Nat} {v : Value} {l : List RawP} {row : Option Nat} (h : Rws w base v l) (hg : w.grownBy w' row) (hne : ∀ r, row = some r → v.ownBlock ≠ some r) (hr : OffB w base row) : Rws w' base v l :=
  ⟨World.ownsRow.kept h.own hg (by
    rcases hv : v.ownBlock with _ | b
    · exact Or.inl rfl
    · refine Or.inr ?_
      intro e
      rcases hrow : row with _ | r
      · rw [hrow] at e; cases e
      · rw [hrow] at e
        cases e
        exact hne _ hrow hv), fun x hx => (h.bods x hx).grown hg hr⟩
theorem Rws.low {w w' : World} {base k : Nat} {v : Value} {l : List RawP} (h : Rws w base v l) (hg : w.grownBy w' (some k)) (hk : k < base) : Rws w' base v l :=
  h.grown hg (fun r hr e => by cases hr; have := (h.own.lt k e).1; omega) (OffB.low hk)
theorem Rws.below {w w' : World} {base : Nat} {v : Value} {l : List RawP} (h : Rws w base v l) (hb : Below w.heap.size w w') : Rws w' base v l :=
  h.grown (row := none) ⟨hb.os, hb.tape, hb.output, hb.size, fun i hi _ => hb.block i hi⟩ (fun r hr => by cases hr) (OffB.none _ _)
theorem Rws.alloc {w : World} {base : Nat} {v : Value} {l : List RawP} (h : Rws w base v l) (o : Obj) : Rws (w.alloc o) base v l := h.below ((Below.refl _ w).alloc (Nat.le_refl _) o)
theorem Rws.offB {w : World} {base base' : Nat} {v : Value} {l : List RawP} (h : Rws w base v l) : OffB w base' v.ownBlock := fun r hr => by
  rcases h.own.2 with ⟨rfl, _⟩ | ⟨g, cap, cur, rfl, hg, hh, _⟩
  · simp [Value.ownBlock] at hr
  · simp [Value.ownBlock] at hr
    subst hr
    exact Or.inr (fun cur' fz' e => by rw [hh] at e; simp at e)
def SrcR (w : World) (p : Option Addr) (m : Nat) (r : List RawP) : Prop := r.length = m ∧ (0 < m → ∃ ad, p = some ad ∧ ∀ j u, (rowC r)[j]? = some u → w.cell? (ad.add j) = some u)
theorem Rws.src {w : World} {base : Nat} {p : Option Addr} {m c : Nat} {l : List RawP} (h : Rws w base (.slice p m c) l) : SrcR w p m l := by
  obtain ⟨p', c', e, _⟩ := h.own.form
  simp at e
  obtain ⟨rfl, rfl, rfl⟩ := e
  refine ⟨rfl, fun h0 => ?_⟩
  obtain ⟨g, c', hv, _, _, _, _, hc, _⟩ := h.own.at_ rfl h0
  simp at hv
  obtain ⟨rfl, rfl⟩ := hv
  exact ⟨_, rfl, fun j u hj => by rw [WideShapes.add_plain, Nat.zero_add]; exact hc j u hj⟩
theorem SrcR.one {w : World} {b : Nat} {x : RawP} (h0 : w.cell? ⟨b, 0, none⟩ = some (.int .i64 x.k)) (h1 : w.cell? ⟨b, 1, none⟩ = some (.bool x.c)) (h2 : w.cell? ⟨b, 2, none⟩ = some (.slice x.p x.n x.m)) : SrcR w (some ⟨b, 0, none⟩) 1 [x] :=
  ⟨rfl, fun _ => ⟨_, rfl, fun j u hj => by
    rw [WideShapes.add_plain, Nat.zero_add]
    have hl : j < 3 := by have := (List.getElem?_eq_some_iff.1 hj).1; simpa [rowC, RawP.cells] using this
    have : j = 0 ∨ j = 1 ∨ j = 2 := by omega
    rcases this with rfl | rfl | rfl <;> simp [rowC, RawP.cells] at hj <;> subst hj
    · exact h0
    · exact h1
    · exact h2⟩⟩
theorem SrcR.new (w : World) (k : Int) (c : Bool) (p : Option Addr) (n m : Nat) (b : List Int) (T : TypeId) : SrcR (w.alloc (.cells #[.int .i64 k, .bool c, .slice p n m] T)) (some ⟨w.heap.size, 0, none⟩) 1 [⟨k, c, p, n, m, b⟩] :=
  SrcR.one (by go_simp) (by go_simp) (by go_simp)
theorem Tryz.infoRaw : (Tryz.prog.info? 85).map (fun i => (i.zero, i.size, i.bytes)) = some (some (.agg #[.int .i64 0, .bool false, .slice none 0 0]), 3, 40) := by kernel_rfl
theorem run_append_rws (w : World) (base : Nat) (ty : TypeId) (v : Value) (l : List RawP) (h : Rws w base v l) (p : Option Addr) (m c : Nat) (r : List RawP) (hs : SrcR w p m r) (hr : ∀ x ∈ r, x.bod w base) (hb : l.length + m ≤ 1000000) (hbase : base ≤ w.heap.size) :
    ∃ v' w', (Builtin.append_ #[75, 75] ty #[v, .slice p m c]).run Tryz.prog w = .ok v' w' ∧ Rws w' base v' (l ++ r) ∧ w.grownBy w' v.ownBlock := by
  obtain ⟨i0, hi, hz0, hz1, hz2⟩ := info_parts Tryz.infoRaw
  have ht := Tryz.underlying75
  have key : ∀ {w' : World}, w.grownBy w' v.ownBlock → ∀ x ∈ l ++ r, x.bod w' base := fun hg x hx => by
    rcases List.mem_append.1 hx with hx | hx
    · exact (h.bods x hx).grown hg h.offB
    · exact (hr x hx).grown hg h.offB
  cases p with
  | none =>
    have hm : m = 0 := by
      rcases Nat.eq_zero_or_pos m with h0 | h0
      · exact h0
      · obtain ⟨ad, e, _⟩ := hs.2 h0
        cases e
    subst hm
    obtain rfl : r = [] := List.eq_nil_of_length_eq_zero hs.1
    refine ⟨v, w, ?_, by rw [List.append_nil]; exact h, World.grownBy.refl w _⟩
    rcases h.own.2 with ⟨rfl, hx⟩ | ⟨g, cap, cur, rfl, _, _, hnc, _⟩
    · simp [Builtin.append_, run_underlying ht, sizeOf, typeInfo, hi, Builtin.lenOf, Builtin.firstCells]
    · simp [Builtin.append_, run_underlying ht, sizeOf, typeInfo, hi, Builtin.lenOf, Builtin.firstCells, hnc, storeCells]
  | some a =>
    have hcells : ∀ j u, (rowC r)[j]? = some u → w.cell? (a.add j) = some u := by
      intro j u hj
      rcases Nat.eq_zero_or_pos m with h0 | h0
      · have : r = [] := List.eq_nil_of_length_eq_zero (hs.1.trans h0)
        subst this
        simp [rowC] at hj
      · obtain ⟨ad, e, hc⟩ := hs.2 h0
        cases e
        exact hc j u hj
    obtain ⟨v', w', hrun, h2, h3, _⟩ := run_append_own (P := Tryz.prog) w base 75 ty 85 i0 _ 3 40 ht hi hz0 hz1 hz2 rfl (by decide) v l.length (rowC l) h.own a m c (rowC r) (by rw [rowC_len, hs.1])
      hcells (rowC_one r) (by unfold maxLen; omega) (by omega) hbase
    refine ⟨v', w', hrun, ⟨?_, key h3⟩, h3⟩
    unfold OwnRw
    rw [List.length_append, rowC_append, hs.1]
    exact h2
end Go.Proofs.YtnbkffehhahckaaGreat

namespace Go.Proofs.YtnbkffehhahckaaGreat
open Go.RowKit
set_option linter.unusedVariables false
theorem getD_drop (xs : List Int) (a i : Nat) : (xs.drop a).getD i 0 = xs.getD (a + i) 0 := by simp [List.getD_eq_getElem?_getD, List.getElem?_drop]
theorem lenC_bd (xs : List Int) (h : ∀ x ∈ xs, 0 ≤ x ∧ x ≤ 255) : 0 ≤ lenC xs ∧ lenC xs ≤ 65535 := by
  have h2 := rng_getD h 2
  have h3 := rng_getD h 3
  unfold lenC
  omega
theorem headC_at (kind : Int) (xs : List Int) (a : Nat) : headC kind (xs.drop a) = ⟨kind, decide (128 ≤ xs.getD (a + 1) 0), (xs.drop (a + 4)).take ((lenC (xs.drop a)).toNat - 4)⟩ := by
  rw [headC, getD_drop, List.drop_drop]
section
variable {left : Nat} {kind : Int} {xs : List Int} {a : Nat} {out : List Raw}
theorem round_end (h : kind = 0) : preC out (parseC left kind (xs.drop a)) = if xs.length - a ≠ 0 then failC 2 else ⟨out, 0, 0⟩ := by
  subst h
  rw [parseC_end, List.length_drop]
  split
  · exact preC_fail _ _ (by decide)
  · simp [preC]
theorem round_many (h : kind ≠ 0) : preC out (parseC 0 kind (xs.drop a)) = failC 10 := by rw [parseC_many _ _ h, preC_fail _ _ (by decide)]
theorem round_short (h : kind ≠ 0) (h4 : xs.length - a < 4) : preC out (parseC (left + 1) kind (xs.drop a)) = failC 1 := by
  rw [parseC_more _ _ _ h, List.length_drop, if_pos h4, preC_fail _ _ (by decide)]
theorem round_wrong (h : kind ≠ 0) (h4 : 4 ≤ xs.length - a) (hl : lenC (xs.drop a) < 4 ∨ ((xs.length - a : Nat) : Int) < lenC (xs.drop a)) : preC out (parseC (left + 1) kind (xs.drop a)) = failC 2 := by
  rw [parseC_more _ _ _ h, List.length_drop, if_neg (by omega), if_pos hl, preC_fail _ _ (by decide)]
theorem round_last (h : kind ≠ 0) (h4 : 4 ≤ xs.length - a) (hl : ¬ (lenC (xs.drop a) < 4 ∨ ((xs.length - a : Nat) : Int) < lenC (xs.drop a))) (hk : lastK kind = true) :
    preC out (parseC (left + 1) kind (xs.drop a)) = if ((xs.length - a : Nat) : Int) ≠ lenC (xs.drop a) then failC 2 else ⟨out ++ [headC kind (xs.drop a)], xs.getD a 0, 0⟩ := by
  rw [parseC_more _ _ _ h, List.length_drop, if_neg (by omega), if_neg hl, if_pos hk]
  split
  · exact preC_fail _ _ (by decide)
  · rw [getD_drop]
    simp [preC]
theorem round_more (h : kind ≠ 0) (h4 : 4 ≤ xs.length - a) (hl : ¬ (lenC (xs.drop a) < 4 ∨ ((xs.length - a : Nat) : Int) < lenC (xs.drop a))) (hk : ¬ lastK kind = true) :
    preC out (parseC (left + 1) kind (xs.drop a)) = preC (out ++ [headC kind (xs.drop a)]) (parseC left (xs.getD a 0) (xs.drop (a + (lenC (xs.drop a)).toNat))) := by
  rw [parseC_more _ _ _ h, List.length_drop, if_neg (by omega), if_neg hl, if_neg hk, preC_pre, getD_drop, List.drop_drop]
  rfl
end
section
variable {last : Int} {l : List Raw}
theorem enc_step (i : Nat) (hi : i < l.length) : encC last (l.drop i) = oneC (nextC last (l.drop (i + 1))) l[i] ++ encC last (l.drop (i + 1)) := by
  rw [List.drop_eq_getElem_cons hi]
  rfl
theorem enc_end (i : Nat) (hi : l.length ≤ i) : encC last (l.drop i) = [] := by
  rw [List.drop_of_length_le hi]
  rfl
theorem next_more (i : Nat) (hi : i + 1 < l.length) : nextC last (l.drop (i + 1)) = l[i + 1].k := by
  rw [List.drop_eq_getElem_cons hi]
  rfl
theorem next_end (i : Nat) (hi : l.length ≤ i + 1) : nextC last (l.drop (i + 1)) = last := by
  rw [List.drop_of_length_le hi]
  rfl
theorem err_step (i : Nat) (hi : i < l.length) : errC (l.drop i) = if l[i].k < 1 ∨ 255 < l[i].k then 5 else if 65531 < l[i].b.length then 11 else if lastK l[i].k = true ∧ i + 1 < l.length then 7 else errC (l.drop (i + 1)) := by
  rw [List.drop_eq_getElem_cons hi, errC]
  have : (l.drop (i + 1) ≠ []) ↔ i + 1 < l.length := by
    rw [ne_eq, List.drop_eq_nil_iff]
    omega
  simp only [this]
theorem err_end (i : Nat) (hi : l.length ≤ i) : errC (l.drop i) = 0 := by
  rw [List.drop_of_length_le hi]
  rfl
theorem ends_last : ∀ (l : List Raw) (h : 0 < l.length), endsC l = lastK (l[l.length - 1]).k
  | [r], _ => rfl
  | _ :: r :: l, _ => by
    rw [endsC, ends_last (r :: l) (by simp)]
    simp
end
end Go.Proofs.YtnbkffehhahckaaGreat

namespace Go.Proofs.YtnbkffehhahckaaGreat
open Go.RowKit Go.ChangeShapes Go.WideShapes
set_option linter.unusedVariables false
structure Its (w : World) (p : Option Addr) (n c : Nat) (xs : List Int) : Prop where
  len : xs.length = n
  cap : n ≤ c
  big : c ≤ maxLen
  rng : ∀ x ∈ xs, -9223372036854775808 ≤ x ∧ x ≤ 9223372036854775807
  mem : 0 < n → ∃ b o, p = some ⟨b, o, none⟩ ∧ ∀ i, i < n → w.cell? ⟨b, o + i, none⟩ = some (.int .i64 (xs.getD i 0))
theorem Its.keep {w w' : World} {p : Option Addr} {n c : Nat} {xs : List Int} (h : Its w p n c xs) (hk : ∀ a v, w.cell? a = some v → w'.cell? a = some v) : Its w' p n c xs :=
  ⟨h.len, h.cap, h.big, h.rng, fun h0 => by
    obtain ⟨b, o, e, hc⟩ := h.mem h0
    exact ⟨b, o, e, fun i hi => hk _ _ (hc i hi)⟩⟩
theorem Its.below {w w' : World} {p : Option Addr} {n c : Nat} {xs : List Int} (h : Its w p n c xs) (hb : Below w.heap.size w w') : Its w' p n c xs := h.keep (cell_below hb)
theorem Its.at_ {w : World} {p : Option Addr} {n c : Nat} {xs : List Int} (h : Its w p n c xs) (j : Nat) (hj : j < n) : ∃ b o, p = some ⟨b, o, none⟩ ∧ w.cell? ⟨b, o + j, none⟩ = some (.int .i64 (xs.getD j 0)) := by
  obtain ⟨b, o, e, hc⟩ := h.mem (by omega)
  exact ⟨b, o, e, hc j hj⟩
theorem Its.nil (w : World) : Its w none 0 0 [] := ⟨rfl, Nat.le_refl _, Nat.zero_le _, (fun x hx => by simp at hx), (fun h => by omega)⟩
def KIn : KindR Int where
  e := 3
  k := 1
  cs x := [.int .i64 x]
  len _ := rfl
  one x u hu := by
    simp at hu
    subst hu
    rfl
  pos := by decide
def NIn : NestR Int where
  ts := []
  ok _ _ x := -9223372036854775808 ≤ x ∧ x ≤ 9223372036854775807
  keep h _ _ := h
  mono h _ := h
theorem Tryz.infoInt : (Tryz.prog.info? 3).map (fun i => (i.zero, i.size, i.bytes)) = some (some (.int .i64 0), 1, 8) := by kernel_rfl
theorem knownIn : KnownR Tryz.prog KIn 62 8 := by
  refine ⟨Tryz.underlying62, ?_⟩
  obtain ⟨i0, hi, hz0, hz1, hz2⟩ := info_parts Tryz.infoInt
  exact ⟨i0, _, hi, hz0, hz1, hz2, rfl⟩
theorem row_in (l : List Int) (j : Nat) (hj : j < l.length) : (KIn.row l)[j]? = some (.int .i64 (l.getD j 0)) := by
  have := KIn.row_get l j hj 0 (.int .i64 l[j]) rfl
  simp only [KIn, Nat.mul_one, Nat.add_zero] at this
  rw [List.getD_eq_getElem?_getD, List.getElem?_eq_getElem hj]
  exact this
theorem RowG.its {w : World} {base : Nat} {v : Value} {l : List Int} (h : RowG KIn NIn w base v l) {n : Nat} (hn : l.length = n) : ∃ p c, v = .slice p n c ∧ Its w p n c l := by
  subst hn
  rcases Nat.eq_zero_or_pos l.length with h0 | h0
  · rcases h.own.2 with ⟨rfl, hz⟩ | ⟨g, cap, cur, rfl, hg, hh, hnc, hm, hs, ht⟩
    · exact ⟨none, 0, by rw [h0], rfl, by omega, by unfold maxLen; omega, h.ok, fun h => by omega⟩
    · exact ⟨_, _, rfl, rfl, hnc, hm, h.ok, fun h => by omega⟩
  · obtain ⟨g, c, e, hnc, hm, _, _, hc, _⟩ := h.at_ rfl h0
    exact ⟨_, _, e, rfl, hnc, hm, h.ok, fun _ => ⟨g, 0, rfl, fun i hi => by rw [Nat.zero_add]; exact hc i _ (row_in l i hi)⟩⟩
structure Bl where
  p : Option Addr
  n : Nat
  c : Nat
  xs : List Int
def KBl : KindR Bl where
  e := 22
  k := 1
  cs x := [.slice x.p x.n x.c]
  len _ := rfl
  one x u hu := by
    simp at hu
    subst hu
    rfl
  pos := by decide
def NBl : NestR Bl where
  ts := [5]
  ok w base x := Bod w base x.p x.n x.c x.xs
  keep h hg ho := h.grown hg (fun r hr => (ho r hr).imp id (fun h2 cur fz e => h2 cur _ fz e (by simp)))
  mono h hb := h.mono hb
def DBl : ReadN Bl where
  ok w x := Byt w x.p x.n x.c x.xs
  keep h hk := h.keep hk
theorem srcIn (w : World) (x : Int) (T : TypeId) : SrcG KIn (w.alloc (.cells #[.int .i64 x] T)) (some ⟨w.heap.size, 0, none⟩) 1 [x] := SrcG.new KIn w [x] T
end Go.Proofs.YtnbkffehhahckaaGreat

namespace Go.Proofs.YtnbkffehhahckaaGreat
open Go.RowKit
set_option linter.unusedVariables false
section
variable {α : Type} {P : Program} {K : KindR α} {N : NestR α} {t : TypeId} {bytes : Nat}
theorem run_append_w (hk : KnownR P K t bytes) (he : K.e ∉ N.ts) (w : World) (base : Nat) (ty : TypeId) (v : Value) (l : List α) (h : RowG K N w base v l) (p : Option Addr) (m c : Nat) (r : List α) (hm : 0 < m) (hs : SrcG K w p m r) (hr : ∀ x ∈ r, N.ok w base x)
    (h63 : l.length + m ≤ maxLen) (hbytes : (l.length + m) * bytes ≤ 140737488355328) (hbase : base ≤ w.heap.size) :
    ∃ v' w', (Builtin.append_ #[t, t] ty #[v, .slice p m c]).run P w = .ok v' w' ∧ RowG K N w' base v' (l ++ r) ∧ w.grownBy w' v.ownBlock ∧ (∀ q, v'.ownBlock = some q → v.ownBlock = some q ∨ w.heap.size ≤ q) := by
  obtain ⟨v', w', hrun, h2, h3⟩ := run_append_g hk he w base ty v l h p m c r hs hr h63 hbytes hbase
  refine ⟨v', w', hrun, h2, h3, ?_⟩
  obtain ⟨i0, z, hi, hz0, hz1, hz2, hz3⟩ := hk.info
  obtain ⟨a, rfl, hc⟩ := hs.2 hm
  have hrl : (K.row r).length = m * K.k := by rw [K.row_len, hs.1]
  rcases h.own.2 with ⟨rfl, hx⟩ | ⟨g, cap, cur, rfl, hb, hh, hnc, hcm, hcs, ht⟩
  · have hl0 : l = [] := List.eq_nil_of_length_eq_zero hx
    subst hl0
    obtain ⟨v2, w2, hrun2, r1, -, -⟩ := run_append_own (P := P) w w.heap.size t ty K.e i0 z K.k bytes hk.under hi hz0 hz1 hz2 hz3 K.pos (.slice none 0 0) 0 [] (World.ownsRow_nil w w.heap.size K.e K.k) a m c (K.row r) hrl hc (K.row_one r) (by simpa using h63) (by simpa using hbytes) (Nat.le_refl _)
    rw [hrun] at hrun2
    injection hrun2 with e1 e2
    subst e1 e2
    exact fun q hq => .inr (World.ownsRow.lt r1 q hq).1
  · by_cases hroom : l.length + m ≤ cap
    · have hex : ∀ j, j < (K.row r).length → (w.cell? ⟨g, 0 + l.length * i0.size + j, none⟩).isSome = true := fun j hj => by
        rw [cell_of_row w g _ _ _ _ hh, hz1, Nat.zero_add]
        have : l.length * K.k + j < cur.size := by
          rw [hcs]
          have h1 : l.length * K.k + (K.row r).length ≤ cap * K.k := by rw [hrl, ← Nat.add_mul]; exact Nat.mul_le_mul_right _ hroom
          omega
        simp [this]
      have hfz : ∀ j, j < (K.row r).length → w.frozen? ⟨g, 0 + l.length * i0.size + j, none⟩ = false := fun j hj => frozen_of_row _ _ _ _ _ hh
      have hrun2 := run_append_room_cells (P := P) w t ty K.e i0 hk.under hi g 0 l.length cap a m c (K.row r) (by rw [hz1]; exact hrl) hc (K.row_one r) hroom hex hfz
      rw [hrun] at hrun2
      injection hrun2 with e1 e2
      subst e1
      exact fun q hq => .inl hq
    · obtain ⟨v2, w2, hrun2, r1, -⟩ := run_append_arg_grows (P := P) w t ty K.e i0 z K.k bytes hk.under hi hz0 hz1 hz2 hz3 K.pos ⟨g, 0, none⟩ l.length cap (K.row l) (K.row_len l) (World.ownsRow.cells h.own (g := g) rfl) a m c (K.row r) hrl hc (by omega) h63 hbytes
      rw [hrun] at hrun2
      injection hrun2 with e1 e2
      subst e1 e2
      exact fun q hq => .inr (World.ownsRow.lt r1 q hq).1
theorem step_append_w (hk : KnownR P K t bytes) (he : K.e ∉ N.ts) (w : World) {ops : Array Oper} {o : Oper} {a : Act} {C : Act → World → Prop} {Q : Exit → Act → World → Prop} {E : Prop} (hw : Region.wanted o (yielded ops a.tmps) = true) (s x : Operand)
    (ho : o.op = .call { callee := .builtin .append, args := #[s, x], argTypes := #[t, t] })
    (base : Nat) (v : Value) (l : List α) (hs : a.eval s = v) (hv : RowG K N w base v l)
    (p : Option Addr) (m c : Nat) (r : List α) (hx : a.eval x = .slice p m c) (hm : 0 < m) (hsrc : SrcG K w p m r) (hr : ∀ x ∈ r, N.ok w base x) (h63 : l.length + m ≤ maxLen) (hbytes : (l.length + m) * bytes ≤ 140737488355328) (hbase : base ≤ w.heap.size)
    (h : ∀ v' w', Hid (RowG K N w' base v' (l ++ r)) → Hid (w.grownBy w' v.ownBlock) → Hid (∀ q, v'.ownBlock = some q → v.ownBlock = some q ∨ w.heap.size ≤ q) → C (a.put o.dst v') w') : if Region.wanted o (yielded ops a.tmps) = true then Oper.wp P o a w C Q else E := by
  rw [if_pos hw]
  obtain ⟨v', w', hrun, h2, h3, h4⟩ := run_append_w hk he w base o.type v l hv p m c r hm hsrc hr h63 hbytes hbase
  unfold Oper.wp execOp
  simp only [ho, resolve, invoke, builtin, Sem.run_bind, Sem.run_pure, Result.andThen_ok, List.map_toArray, List.map_cons, List.map_nil, hs, hx, hrun]
  exact h v' w' h2 h3 h4
end
end Go.Proofs.YtnbkffehhahckaaGreat
