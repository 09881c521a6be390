/-
  The law SelectorWrites, walked: it returns true for every input, and only adds memory of its own.
-/
import Derived.Test.YtignenekomlleaaSelectorReturnsWalk
import Derived.Test.YtignenekomlleaaRBuild5
import Derived.Test.YtignenekomlleaaSelSpoil
import Derived.Test.YtignenekomlleaaRCompare
namespace Go.Proofs.Ytignenekomlleaa
open Go.RowKit
set_option linter.unusedVariables false

def lenV : Value → Nat
  | .slice _ n _ => n
  | _ => 0
/-- Element q of the row of inputs: a list of selectors. -/
def InLs (w : World) (g q : Nat) : Prop := ∃ (p : Option Addr) (n c : Nat) (l : List Sl), w.cell? ⟨g, q, none⟩ = some (.slice p n c) ∧ RdG KSl DSlr w p n c l
theorem RdG.allocS {w : World} {p : Option Addr} {n c : Nat} {l : List Sl} (h : RdG KSl DSlr w p n c l) (o : Obj) : RdG KSl DSlr (w.alloc o) p n c l := h.below ((Below.refl _ _).alloc (Nat.le_refl _) o)
theorem insL (w : World) (p0 p1 p2 p3 p4 : Option Addr) (n0 n1 n2 n3 n4 c0 c1 c2 c3 c4 : Nat) (x0 x1 x2 x3 x4 : List Sl) (T : TypeId) (h0 : RdG KSl DSlr w p0 n0 c0 x0) (h1 : RdG KSl DSlr w p1 n1 c1 x1) (h2 : RdG KSl DSlr w p2 n2 c2 x2) (h3 : RdG KSl DSlr w p3 n3 c3 x3) (h4 : RdG KSl DSlr w p4 n4 c4 x4) :
    ∀ q, q < 5 → InLs (w.alloc (.cells #[.slice p0 n0 c0, .slice p1 n1 c1, .slice p2 n2 c2, .slice p3 n3 c3, .slice p4 n4 c4] T)) w.heap.size q := by
  intro q hq
  have : q = 0 ∨ q = 1 ∨ q = 2 ∨ q = 3 ∨ q = 4 := by omega
  rcases this with rfl | rfl | rfl | rfl | rfl
  · exact ⟨p0, n0, c0, x0, by go_simp, h0.allocS _⟩
  · exact ⟨p1, n1, c1, x1, by go_simp, h1.allocS _⟩
  · exact ⟨p2, n2, c2, x2, by go_simp, h2.allocS _⟩
  · exact ⟨p3, n3, c3, x3, by go_simp, h3.allocS _⟩
  · exact ⟨p4, n4, c4, x4, by go_simp, h4.allocS _⟩
theorem RdG.nilS (w : World) : RdG KSl DSlr w none 0 0 [] := ⟨rfl, Nat.le_refl _, by unfold maxLen; omega, fun h => by omega, fun x hx => by cases hx⟩
theorem buildS_rng (l : List Sl) : ∀ z ∈ (buildS l).1, 0 ≤ z ∧ z ≤ 255 := by
  unfold buildS
  split
  · simp
  split
  · simp
  split
  · simp
  · exact rng_append (by intro y hy; simp at hy; omega) (encL_rng l)

/-- What the law keeps: the choices at k, its arguments in three blocks, two rows of selectors; all below B. -/
structure WW (w wx : World) (k B : Nat) (s : Sl) (a b : Ad) (b1 b2 : Nat) (u1 u2 : Value) (l1 l2 : List Sl) : Prop where
  cod : Cod w wx k
  k3 : w.heap.size + 1 + 1 < k
  kB : k < B
  sz : B ≤ wx.heap.size
  k1 : k < b1
  k2 : k < b2
  S : SlIn wx w.heap.size s
  A : AdIn wx (w.heap.size + 1) a
  E : AdIn wx (w.heap.size + 1 + 1) b
  r1 : RowG KSl NSl wx b1 u1 l1
  r2 : RowG KSl NSl wx b2 u2 l2
  o1 : ∀ j, u1.ownBlock = some j → j < B
  o2 : ∀ j, u2.ownBlock = some j → j < B
section
variable {w wx wy : World} {k B : Nat} {s : Sl} {a b : Ad} {b1 b2 : Nat} {u1 u2 : Value} {l1 l2 : List Sl}
theorem offN (w : World) (base : Nat) (row : Option Nat) : OffT NSl.ts w base row := fun r hr => Or.inr (fun _ _ _ _ hm => by cases hm)
/-- Rows from B on are written. -/
theorem WW.grown {row : Option Nat} (h : WW w wx k B s a b b1 b2 u1 u2 l1 l2) (hg : wx.grownBy wy row) (hr : ∀ j, row = some j → B ≤ j) : WW w wy k B s a b b1 b2 u1 u2 l1 l2 :=
  have n3 := h.k3
  have nB := h.kB
  have ne : ∀ i, i < B → some i ≠ row := fun i hi e => by have := hr i e.symm; omega
  ⟨h.cod.grown hg (ne k nB) (fun j hj => by have := hr j hj; omega), h.k3, h.kB, Nat.le_trans h.sz hg.size, h.k1, h.k2, h.S.grown hg (ne _ (by omega)), h.A.grown hg (ne _ (by omega)), h.E.grown hg (ne _ (by omega)),
   h.r1.grown hg (fun r e1 e2 => by have := hr r e1; have := h.o1 r e2; omega) (offN _ _ _), h.r2.grown hg (fun r e1 e2 => by have := hr r e1; have := h.o2 r e2; omega) (offN _ _ _), h.o1, h.o2⟩
theorem WW.below (h : WW w wx k B s a b b1 b2 u1 u2 l1 l2) (hb : Below wx.heap.size wx wy) : WW w wy k B s a b b1 b2 u1 u2 l1 l2 := h.grown (row := none) (grown_of_below hb none) (fun j hj => by cases hj)
theorem WW.alloc (h : WW w wx k B s a b b1 b2 u1 u2 l1 l2) (o : Obj) : WW w (wx.alloc o) k B s a b b1 b2 u1 u2 l1 l2 := h.below ((Below.refl _ _).alloc (Nat.le_refl _) o)
/-- The choices are used. -/
theorem WW.next (h : WW w wx k B s a b b1 b2 u1 u2 l1 l2) (hc : Cod w wy k) (hg : wx.grownBy wy (some k)) : WW w wy k B s a b b1 b2 u1 u2 l1 l2 :=
  have n3 := h.k3
  ⟨hc, h.k3, h.kB, Nat.le_trans h.sz hg.size, h.k1, h.k2, h.S.grown hg (by simp; omega), h.A.grown hg (by simp; omega), h.E.grown hg (by simp; omega), h.r1.low hg h.k1, h.r2.low hg h.k2, h.o1, h.o2⟩
theorem grown9 (w : World) (g i0 i1 i2 i3 i4 i5 i6 i7 i8 : Nat) (x0 x1 x2 x3 x4 x5 x6 x7 x8 : Value) : w.grownBy (((((((((w.setCell ⟨g, i0, none⟩ x0).setCell ⟨g, i1, none⟩ x1).setCell ⟨g, i2, none⟩ x2).setCell ⟨g, i3, none⟩ x3).setCell ⟨g, i4, none⟩ x4).setCell ⟨g, i5, none⟩ x5).setCell ⟨g, i6, none⟩ x6).setCell ⟨g, i7, none⟩ x7).setCell ⟨g, i8, none⟩ x8) (some g) :=
  grown_trans (grown_trans (grown_trans (grown_trans (grown_trans (grown_trans (grown_trans (grown_trans (grown_set w g i0 x0) (grown_set _ g i1 x1)) (grown_set _ g i2 x2)) (grown_set _ g i3 x3)) (grown_set _ g i4 x4)) (grown_set _ g i5 x5)) (grown_set _ g i6 x6)) (grown_set _ g i7 x7)) (grown_set _ g i8 x8)
theorem first_cells {base g n c : Nat} {l : List Sl} (h : RowG KSl NSl wx base (.slice (some ⟨g, 0, none⟩) n c) l) (h0 : 0 < l.length) : SlIn wx g l[0] := by
  obtain ⟨g', c', e, _, _, _, _, hc, hf⟩ := h.at_ rfl h0
  simp at e
  obtain ⟨⟨rfl, -⟩, -⟩ := e
  have k := fun i u (hi : (KSl.cs l[0])[i]? = some u) => hc (0 * 9 + i) u (KSl.row_get l 0 h0 i u hi)
  simp only [Nat.zero_mul, Nat.zero_add] at k
  exact ⟨k 0 _ rfl, k 1 _ rfl, k 2 _ rfl, k 3 _ rfl, k 4 _ rfl, k 5 _ rfl, k 6 _ rfl, k 7 _ rfl, k 8 _ rfl, hf⟩
theorem nth_cells {base g n c : Nat} {l : List Sl} (h : RowG KSl NSl wx base (.slice (some ⟨g, 0, none⟩) n c) l) (r : Nat) (h0 : r < l.length) : ∃ x : Sl,
    wx.cell? ⟨g, r * 9, none⟩ = some (.int .i64 x.p) ∧ wx.cell? ⟨g, r * 9 + 1, none⟩ = some (.int .i64 x.a) ∧ wx.cell? ⟨g, r * 9 + 2, none⟩ = some (.int .i64 x.b) ∧ wx.cell? ⟨g, r * 9 + 3, none⟩ = some (.int .i64 x.lo.f) ∧ wx.cell? ⟨g, r * 9 + 4, none⟩ = some (.int .u64 x.lo.h) ∧ wx.cell? ⟨g, r * 9 + 5, none⟩ = some (.int .u64 x.lo.l) ∧ wx.cell? ⟨g, r * 9 + 6, none⟩ = some (.int .i64 x.hi.f) ∧ wx.cell? ⟨g, r * 9 + 7, none⟩ = some (.int .u64 x.hi.h) ∧ wx.cell? ⟨g, r * 9 + 8, none⟩ = some (.int .u64 x.hi.l) ∧ ∀ j, wx.frozen? ⟨g, j, none⟩ = false := by
  obtain ⟨g', c', e, _, _, _, _, hc, hf⟩ := h.at_ rfl (by omega)
  simp at e
  obtain ⟨⟨rfl, -⟩, -⟩ := e
  have k := fun i u (hi : (KSl.cs l[r])[i]? = some u) => hc (r * 9 + i) u (KSl.row_get l r h0 i u hi)
  exact ⟨l[r], k 0 _ rfl, k 1 _ rfl, k 2 _ rfl, k 3 _ rfl, k 4 _ rfl, k 5 _ rfl, k 6 _ rfl, k 7 _ rfl, k 8 _ rfl, hf⟩
theorem WW.store {g n c : Nat} (h : WW w wx k B s a b b1 b2 u1 (.slice (some ⟨g, 0, none⟩) n c) l1 l2) (hn : l2.length = n) (r : Nat) (hr : r < l2.length) (y : Sl) (hy : FitS y) (hne : u1.ownBlock ≠ some g) :
    WW w (((((((((wx.setCell ⟨g, r * 9, none⟩ (.int .i64 y.p)).setCell ⟨g, r * 9 + 1, none⟩ (.int .i64 y.a)).setCell ⟨g, r * 9 + 2, none⟩ (.int .i64 y.b)).setCell ⟨g, r * 9 + 3, none⟩ (.int .i64 y.lo.f)).setCell ⟨g, r * 9 + 4, none⟩ (.int .u64 y.lo.h)).setCell ⟨g, r * 9 + 5, none⟩ (.int .u64 y.lo.l)).setCell ⟨g, r * 9 + 6, none⟩ (.int .i64 y.hi.f)).setCell ⟨g, r * 9 + 7, none⟩ (.int .u64 y.hi.h)).setCell ⟨g, r * 9 + 8, none⟩ (.int .u64 y.hi.l)) k B s a b b1 b2 u1 (.slice (some ⟨g, 0, none⟩) n c) l1 (l2.set r y) :=
  have hg := grown9 wx g (r * 9) (r * 9 + 1) (r * 9 + 2) (r * 9 + 3) (r * 9 + 4) (r * 9 + 5) (r * 9 + 6) (r * 9 + 7) (r * 9 + 8) (.int .i64 y.p) (.int .i64 y.a) (.int .i64 y.b) (.int .i64 y.lo.f) (.int .u64 y.lo.h) (.int .u64 y.lo.l) (.int .i64 y.hi.f) (.int .u64 y.hi.h) (.int .u64 y.hi.l)
  have hb := (h.r2.lt g rfl).1
  have n3 := h.k3
  have k2 := h.k2
  have hw := h.cod.base
  ⟨h.cod.grown hg (by simp; omega) (by simp; omega), h.k3, h.kB, Nat.le_trans h.sz hg.size, h.k1, h.k2, h.S.grown hg (by simp; omega), h.A.grown hg (by simp; omega), h.E.grown hg (by simp; omega),
   h.r1.grown hg (fun r e1 => by cases e1; exact hne) (offN _ _ _), h.r2.setSl hn r hr y hy, h.o1, h.o2⟩
end

set_option maxHeartbeats 3200000 in
set_option maxRecDepth 100000 in
theorem selectorWrites_walk (q : Option Addr) (m d : Nat) (ys : List Int) (s : Sl) (a b : Ad) (w : World) (hq : Byt w q m d ys) (b2 : d ≤ 140737488351232) (hs : FitS s) (ha : FitA a) (hb : FitA b) :
    Calls Try.prog 5 #[.slice q m d, (.agg #[.int .i64 s.p, .int .i64 s.a, .int .i64 s.b, .int .i64 s.lo.f, .int .u64 s.lo.h, .int .u64 s.lo.l, .int .i64 s.hi.f, .int .u64 s.hi.h, .int .u64 s.hi.l]), (.agg #[.int .i64 a.f, .int .u64 a.h, .int .u64 a.l]), (.agg #[.int .i64 b.f, .int .u64 b.h, .int .u64 b.l])] w fun e w' => e = .returned (.bool true) ∧ Below w.heap.size w w' := by
  have HQ := hidden hq
  have HA := hidden (awake05_any (((w.alloc (.cells #[.int .i64 s.p, .int .i64 s.a, .int .i64 s.b, .int .i64 s.lo.f, .int .u64 s.lo.h, .int .u64 s.lo.l, .int .i64 s.hi.f, .int .u64 s.hi.h, .int .u64 s.hi.l] 48)).alloc (.cells #[.int .i64 a.f, .int .u64 a.h, .int .u64 a.l] 46)).alloc (.cells #[.int .i64 b.f, .int .u64 b.h, .int .u64 b.l] 46)))
  have HB0 := hidden (below_three (w := w) (.cells #[.int .i64 s.p, .int .i64 s.a, .int .i64 s.b, .int .i64 s.lo.f, .int .u64 s.lo.h, .int .u64 s.lo.l, .int .i64 s.hi.f, .int .u64 s.hi.h, .int .u64 s.hi.l] 48) (.cells #[.int .i64 a.f, .int .u64 a.h, .int .u64 a.l] 46) (.cells #[.int .i64 b.f, .int .u64 b.h, .int .u64 b.l] 46))
  have HS0 := hidden (((SlIn.new w s 48).alloc (.cells #[.int .i64 a.f, .int .u64 a.h, .int .u64 a.l] 46)).alloc (.cells #[.int .i64 b.f, .int .u64 b.h, .int .u64 b.l] 46))
  have HA0 : Hid (AdIn (((w.alloc (.cells #[.int .i64 s.p, .int .i64 s.a, .int .i64 s.b, .int .i64 s.lo.f, .int .u64 s.lo.h, .int .u64 s.lo.l, .int .i64 s.hi.f, .int .u64 s.hi.h, .int .u64 s.hi.l] 48)).alloc (.cells #[.int .i64 a.f, .int .u64 a.h, .int .u64 a.l] 46)).alloc (.cells #[.int .i64 b.f, .int .u64 b.h, .int .u64 b.l] 46)) (w.heap.size + 1) a) := hidden (by
    have := (AdIn.new (w.alloc (.cells #[.int .i64 s.p, .int .i64 s.a, .int .i64 s.b, .int .i64 s.lo.f, .int .u64 s.lo.h, .int .u64 s.lo.l, .int .i64 s.hi.f, .int .u64 s.hi.h, .int .u64 s.hi.l] 48)) a 46).alloc (.cells #[.int .i64 b.f, .int .u64 b.h, .int .u64 b.l] 46)
    simpa using this)
  have HB0' : Hid (AdIn (((w.alloc (.cells #[.int .i64 s.p, .int .i64 s.a, .int .i64 s.b, .int .i64 s.lo.f, .int .u64 s.lo.h, .int .u64 s.lo.l, .int .i64 s.hi.f, .int .u64 s.hi.h, .int .u64 s.hi.l] 48)).alloc (.cells #[.int .i64 a.f, .int .u64 a.h, .int .u64 a.l] 46)).alloc (.cells #[.int .i64 b.f, .int .u64 b.h, .int .u64 b.l] 46)) (w.heap.size + 1 + 1) b) := hidden (by
    have := AdIn.new ((w.alloc (.cells #[.int .i64 s.p, .int .i64 s.a, .int .i64 s.b, .int .i64 s.lo.f, .int .u64 s.lo.h, .int .u64 s.lo.l, .int .i64 s.hi.f, .int .u64 s.hi.h, .int .u64 s.hi.l] 48)).alloc (.cells #[.int .i64 a.f, .int .u64 a.h, .int .u64 a.l] 46)) b 46
    simpa using this)
  have HF := hidden hs
  clear hq hs ha hb
  go_enter Try.func5, Try.ntmps5
  go_upto_region 5 with (first
    | (go_at_call 16; (with_reducible refine (HA.out).mono ?_); rintro e w1 ⟨rfl, hb⟩; have HB1 := hidden (HB0.out.trans (hb.mono HB0.out.size)); have HS1 := hidden (HS0.out.below hb); have HA1 := hidden (HA0.out.below hb); have HE1 := hidden (HB0'.out.below hb); clear hb HA HB0 HS0 HA0 HB0')
    | (go_at_call 8; (refine (new_any w q m d ys _ HQ.out HB1.out 160 (by omega)).mono ?_); rintro e w2 ⟨rfl, hc, hb⟩; have HC2 := hidden hc; have HS2 := hidden (HS1.out.below hb); have HA2 := hidden (HA1.out.below hb); have HE2 := hidden (HE1.out.below hb); have hk2 := hc.lt; have hk1 := HE1.out.lt; clear hc hb HB1 HQ HS1 HA1 HE1)
    | (go_at_call 18; (refine (sels_any w _ _ HC2.out 3 (by omega) (by omega)).mono ?_); rintro e w3 ⟨v1, l1, f1, rfl, hf1, h1a, h1b, hd1⟩; have HD3 := hidden hd1; have HS3 := hidden (HS2.out.grown hd1.gr (by simp; omega)); have HA3 := hidden (HA2.out.grown hd1.gr (by simp; omega)); have HE3 := hidden (HE2.out.grown hd1.gr (by simp; omega)); clear hd1 HC2 HS2 HA2 HE2)
    | fail)
  obtain ⟨g1, c1, rfl, -, -, hg1a, hg1b, -, -⟩ := HD3.out.row.at_ rfl (by omega)
  have hg3 := HD3.out.gr.size
  have hl4 : l1.length ≤ 4 := by omega
  go_wp2_with (first
    | (at_builtin; go_loud (refine wpList_append_g (N := NSl) knownSl (by simp [NSl]) _ rfl _ _ rfl w3.heap.size _ [] rfl (RowG.nil KSl NSl _ _) _ l1.length _ l1 rfl HD3.out.row.src (fun x hx => fam_fits (HD3.out.all x hx)) (by unfold maxLen; rw [List.length_nil]; omega) (by rw [List.length_nil]; omega) (Nat.le_refl _) ?_))
    | fail)
  intro v4 w4 hr4 hg4
  obtain ⟨g4, c4, rfl, -, -, hg4a, hg4b, -, -⟩ := hr4.at_ rfl (by omega)
  have hw4 := hg4.size
  have H4 : Hid (WW w w4 w1.heap.size w4.heap.size s a b w2.heap.size w3.heap.size (.slice (some ⟨g1, 0, none⟩) l1.length c1) (.slice (some ⟨g4, 0, none⟩) l1.length c4) l1 l1) :=
    hidden ⟨HD3.out.cod.grown hg4 (by simp [Value.ownBlock]) (by simp [Value.ownBlock]), hk1, by omega, Nat.le_refl _, hk2, by omega, HS3.out.grown hg4 (by simp [Value.ownBlock]), HA3.out.grown hg4 (by simp [Value.ownBlock]), HE3.out.grown hg4 (by simp [Value.ownBlock]), HD3.out.row.grown hg4 (by simp [Value.ownBlock]) (offN _ _ _), hr4, fun j hj => by simp [Value.ownBlock] at hj; omega, fun j hj => by simp [Value.ownBlock] at hj; omega⟩
  have HAL := hidden HD3.out.all
  clear hr4 hg4 HD3 HS3 HA3 HE3
  have HLE := hidden hl4
  go_upto_region 6 with fail
  go_cut [] from 29 to 39 (fun wx => ∃ l2 : List Sl, l2.length = l1.length ∧ WW w wx w1.heap.size w4.heap.size s a b w2.heap.size w3.heap.size (.slice (some ⟨g1, 0, none⟩) l1.length c1) (.slice (some ⟨g4, 0, none⟩) l1.length c4) l1 l2)
  case first =>
    have hpos : 0 < l1.length := by omega
    have HFZ : Hid (FitS (l1[0]'hpos)) := hidden (fam_fits (HAL.out _ (List.getElem_mem hpos)))
    have HFC := hidden (fun wx (h : WW w wx w1.heap.size w4.heap.size s a b w2.heap.size w3.heap.size (.slice (some ⟨g1, 0, none⟩) l1.length c1) (.slice (some ⟨g4, 0, none⟩) l1.length c4) l1 l1) => first_cells h.r2 hpos)
    obtain ⟨z, hz⟩ : ∃ z, l1[0]'hpos = z := ⟨_, rfl⟩
    rw [hz] at HFZ HFC
    have HK := hidden (fun wx h => And.intro (HFC.out wx h).c0 (And.intro (HFC.out wx h).c1 (And.intro (HFC.out wx h).c2 (And.intro (HFC.out wx h).c3 (And.intro (HFC.out wx h).c4 (And.intro (HFC.out wx h).c5 (And.intro (HFC.out wx h).c6 (And.intro (HFC.out wx h).c7 (HFC.out wx h).c8))))))))
    have HD := hidden (H4.out.below (wy := w4.drew) (drew_below ⟨1, rfl⟩))
    have hl0 : (1 : Int) ≤ l1.length ∧ (l1.length : Int) ≤ 9223372036854775807 := by omega
    have hpi : (0 : Int) < l1.length := by omega
    clear hz
    obtain ⟨d0, d1, d2, d3, d4, d5, d6, d7, d8⟩ := HK.out _ HD.out
    go_region_with (first
      | (go_at_call 11; (with_reducible refine (next_any w _ w1.heap.size HD.out.cod _ ?_).mono ?_); (exact hl0); rintro e w5 ⟨r, rfl, r0, r1, hc, hg⟩; obtain ⟨r, rfl⟩ := Int.eq_ofNat_of_zero_le r0; have H5 := hidden (HD.out.next hc hg); clear hc hg d0 d1 d2 d3 d4 d5 d6 d7 d8; obtain ⟨d0, d1, d2, d3, d4, d5, d6, d7, d8⟩ := HK.out _ H5.out)
      | (go_at_call 22; (with_reducible refine (spoilSel_any w _ w1.heap.size H5.out.cod z HFZ.out).mono ?_); rintro e w6 ⟨y, rfl, hy, hc, hg⟩; have H6 := hidden (H5.out.next hc hg); have HY := hidden hy; obtain ⟨x, n0, n1, n2, n3, n4, n5, n6, n7, n8, nf⟩ := nth_cells H6.out.r2 r (by omega); have hr9 : r * 9 + 8 ≤ 9223372036854775807 := (by omega); clear hc hg hy d0 d1 d2 d3 d4 d5 d6 d7 d8)
      | fail)
    all_goals
      clear n0 n1 n2 n3 n4 n5 n6 n7 n8 nf HFC HK
      go_wp2
      go_meet
      case rel => exact ⟨l1.set r y, by rw [List.length_set], H6.out.store rfl r (by omega) y HY.out (by simp [Value.ownBlock]; omega)⟩
  case rest =>
    obtain ⟨l2, hl2, hww⟩ := hcut
    rename World => w6
    have H6 := hidden hww
    have HL2 := hidden hl2
    have hpos : 0 < l1.length := by omega
    have hsz := hww.sz
    clear hww hl2 H4
    go_wp2_with (first
      | (at_builtin; go_loud (refine wpList_append_g (N := NSl) knownSl (by simp [NSl]) _ rfl _ _ rfl w6.heap.size _ [] rfl (RowG.nil KSl NSl _ _) _ l1.length _ l1 rfl H6.out.r1.src (fun x hx => fam_fits (HAL.out x hx)) (by unfold maxLen; rw [List.length_nil]; omega) (by rw [List.length_nil]; omega) (Nat.le_refl _) ?_))
      | fail)
    intro v7 w7 hr7 hg7
    have H7 := hidden (H6.out.grown hg7 (by simp [Value.ownBlock]))
    have HR7 := hidden hr7
    have hg7s := hg7.size
    obtain ⟨p7, c7, rfl⟩ := hr7.form rfl
    clear hr7 hg7 H6
    go_wp2_with fail
    go_loopw [12] (fun v wr => ∃ M : List Sl, 1 ≤ M.length ∧ M.length ≤ 17 ∧ RowG KSl NSl wr w6.heap.size v M ∧ w6.heap.size ≤ wr.heap.size ∧ WW w wr w1.heap.size w4.heap.size s a b w2.heap.size w3.heap.size (.slice (some ⟨g1, 0, none⟩) l1.length c1) (.slice (some ⟨g4, 0, none⟩) l1.length c4) l1 l2) (fun v _ => 20 - lenV v)
    case atStart => exact ⟨l1, by omega, by omega, HR7.out, hg7s, H7.out⟩
    case round =>
      obtain ⟨M, hM1, hM2, hrow, hsw, hww⟩ := hrel
      obtain ⟨pM, cM, rfl⟩ := hrow.form rfl
      have HW := hidden hww
      have HRM := hidden hrow
      clear hww hrow H7 HR7
      go_upto_if 47 with (first
        | (go_at_call 11; (with_reducible refine (next_any w _ w1.heap.size HW.out.cod _ ?_).mono ?_); omega; rintro e w8 ⟨r, rfl, r0, r1, hc, hg⟩; have hg8 := hg.size; have H8 := hidden (HW.out.next hc hg); have hkM := HW.out.k2; have HR8 : Hid (RowG KSl NSl w8 w6.heap.size (.slice pM M.length cM) M) := hidden (HRM.out.low hg (by have := HW.out.kB; omega)); clear hc hg HW HRM)
        | fail)
      by_cases hlt : (M.length : Int) < 16 + r
      · obtain ⟨z, hz⟩ : ∃ z, l1[0]'hpos = z := ⟨_, rfl⟩
        have hzf := fam_fits (HAL.out _ (List.getElem_mem hpos))
        obtain ⟨d0, d1, d2, d3, d4, d5, d6, d7, d8, df⟩ := first_cells H8.out.r1 hpos
        rw [hz] at hzf d0 d1 d2 d3 d4 d5 d6 d7 d8
        have hpi : (0 : Int) < l1.length := by omega
        have HM : Hid (M.length ≤ 17) := hidden hM2
        have hM17 : M.length ≤ 16 := by omega
        have HR9 : Hid (RowG KSl NSl (w8.alloc (.cells #[.int .i64 z.p, .int .i64 z.a, .int .i64 z.b, .int .i64 z.lo.f, .int .u64 z.lo.h, .int .u64 z.lo.l, .int .i64 z.hi.f, .int .u64 z.hi.h, .int .u64 z.hi.l] 48)) w6.heap.size (.slice pM M.length cM) M) := hidden (HR8.out.alloc _)
        have H9 := hidden (H8.out.alloc (.cells #[.int .i64 z.p, .int .i64 z.a, .int .i64 z.b, .int .i64 z.lo.f, .int .u64 z.lo.h, .int .u64 z.lo.l, .int .i64 z.hi.f, .int .u64 z.hi.h, .int .u64 z.hi.l] 48))
        clear hz hM2
        go_wp2_with (first
          | (at_builtin; go_loud (refine wpList_append_g (N := NSl) knownSl (by simp [NSl]) _ rfl _ _ rfl w6.heap.size _ M rfl HR9.out _ 1 1 [z] rfl (srcSl w8 z 48) (fun x hx => by rw [List.mem_singleton.1 hx]; exact hzf) (by unfold maxLen; omega) (by omega) (by simp; omega) ?_))
          | fail)
        intro v10 w10 hr10 hg10
        have hlt := HR9.out.lt
        have hs10 := hg10.size
        simp at hs10
        have H10 := hidden (H9.out.grown hg10 (fun j hj => by have := (hlt j hj).1; omega))
        have HR10 := hidden hr10
        clear hr10 hg10 HR8 HR9 H8 H9 hlt d0 d1 d2 d3 d4 d5 d6 d7 d8 df
        go_wp2
        go_roundw
        case rel => exact ⟨M ++ [z], by simp, by simp; omega, HR10.out, by omega, H10.out⟩
        case measure =>
          obtain ⟨pX, cX, hX⟩ := HR10.out.form rfl
          rw [hX]
          simp [lenV]
          omega
      · have H9 := hidden (H8.out.alloc (.cells #[.int .i64 s.p, .int .i64 s.a, .int .i64 s.b, .int .i64 s.lo.f, .int .u64 s.lo.h, .int .u64 s.lo.l, .int .i64 s.hi.f, .int .u64 s.hi.h, .int .u64 s.hi.l] 48))
        obtain ⟨d0, d1, d2, d3, d4, d5, d6, d7, d8, df⟩ := H8.out.S
        go_wp2_with fail
        have hI : ∀ q, q < 5 → InLs ((w8.alloc (.cells #[.int .i64 s.p, .int .i64 s.a, .int .i64 s.b, .int .i64 s.lo.f, .int .u64 s.lo.h, .int .u64 s.lo.l, .int .i64 s.hi.f, .int .u64 s.hi.h, .int .u64 s.hi.l] 48)).alloc (.cells #[.slice (some ⟨g1, 0, none⟩) l1.length c1, .slice (some ⟨g4, 0, none⟩) l1.length c4, .slice (some ⟨w8.heap.size, 0, none⟩) 1 1, .slice none 0 0, .slice pM M.length cM] 39)) (w8.heap.size + 1) q := by
          obtain ⟨_, _, e1, k1⟩ := H9.out.r1.rd (D := DSlr) rfl (fun _ h => h)
          obtain ⟨_, _, e2, k2⟩ := H9.out.r2.rd (D := DSlr) HL2.out (fun _ h => h)
          obtain ⟨_, _, e3, k3⟩ := HR8.out.rd (D := DSlr) rfl (fun _ h => h)
          simp at e1 e2 e3
          obtain ⟨rfl, rfl⟩ := e1
          obtain ⟨rfl, rfl⟩ := e2
          obtain ⟨rfl, rfl⟩ := e3
          have := insL (w8.alloc (.cells #[.int .i64 s.p, .int .i64 s.a, .int .i64 s.b, .int .i64 s.lo.f, .int .u64 s.lo.h, .int .u64 s.lo.l, .int .i64 s.hi.f, .int .u64 s.hi.h, .int .u64 s.hi.l] 48)) _ _ _ _ _ _ _ _ _ _ _ _ _ _ _ _ _ _ _ _ 39 k1 k2 (RdG.new KSl DSlr w8 [s] 48 (by unfold maxLen; simp) (fun x hx => by rw [List.mem_singleton.1 hx]; exact HF.out)) (RdG.nilS _) (k3.allocS _)
          simpa using this
        have HI := hidden hI
        have H10 : Hid (WW w ((w8.alloc (.cells #[.int .i64 s.p, .int .i64 s.a, .int .i64 s.b, .int .i64 s.lo.f, .int .u64 s.lo.h, .int .u64 s.lo.l, .int .i64 s.hi.f, .int .u64 s.hi.h, .int .u64 s.hi.l] 48)).alloc (.cells #[.slice (some ⟨g1, 0, none⟩) l1.length c1, .slice (some ⟨g4, 0, none⟩) l1.length c4, .slice (some ⟨w8.heap.size, 0, none⟩) 1 1, .slice none 0 0, .slice pM M.length cM] 39)) w1.heap.size w4.heap.size s a b w2.heap.size w3.heap.size (.slice (some ⟨g1, 0, none⟩) l1.length c1) (.slice (some ⟨g4, 0, none⟩) l1.length c4) l1 l2) := hidden (H9.out.alloc (.cells #[.slice (some ⟨g1, 0, none⟩) l1.length c1, .slice (some ⟨g4, 0, none⟩) l1.length c4, .slice (some ⟨w8.heap.size, 0, none⟩) 1 1, .slice none 0 0, .slice pM M.length cM] 39))
        generalize hwi : (w8.alloc (.cells #[.int .i64 s.p, .int .i64 s.a, .int .i64 s.b, .int .i64 s.lo.f, .int .u64 s.lo.h, .int .u64 s.lo.l, .int .i64 s.hi.f, .int .u64 s.hi.h, .int .u64 s.hi.l] 48)).alloc (.cells #[.slice (some ⟨g1, 0, none⟩) l1.length c1, .slice (some ⟨g4, 0, none⟩) l1.length c4, .slice (some ⟨w8.heap.size, 0, none⟩) 1 1, .slice none 0 0, .slice pM M.length cM] 39) = wi at *
        generalize w8.heap.size + 1 = gs at *
        clear hwi hI H8 H9 HR8 d0 d1 d2 d3 d4 d5 d6 d7 d8 df HAL
        go_loopw [61] (fun j wq => ∃ t : Nat, t ≤ 5 ∧ j = .int .i64 t ∧ Below wi.heap.size wi wq) (fun j _ => 5 - (intOf j).toNat)
        case atStart => exact ⟨0, by omega, rfl, Below.refl _ _⟩
        case round =>
          obtain ⟨t, ht, rfl, hbq⟩ := hrel
          have HBq := hidden hbq
          by_cases h5 : t < 5
          · obtain ⟨pt, nt, ct, lt, cell0, hb⟩ := HI.out t h5
            have d0 := cell_below hbq _ _ cell0
            have HBT := hidden (hb.below hbq)
            obtain ⟨L, E, hLE⟩ : ∃ L E, buildS lt = (L, E) := ⟨_, _, rfl⟩
            have HP := hidden (fun w (h : RdG KSl DSlr w pt nt ct lt) => sbuild_any pt nt ct lt w h L E hLE)
            have HR := hidden (fun w (h : RdG KSl DSlr w pt nt ct lt) => rbuild5_any pt nt ct lt w h L E hLE)
            have HRN : Hid (∀ z ∈ L, 0 ≤ z ∧ z ≤ 255) := hidden (by have := buildS_rng lt; rw [hLE] at this; exact this)
            have hee : (E != E) = false := by simp
            clear hbq cell0 hb hLE
            go_wp2_with (first
              | (go_at_call 23; (with_reducible refine (HP.out _ HBT.out).mono ?_); rintro e wa ⟨va, rfl, hoa, hba⟩; obtain ⟨pa, ca, rfl, hya⟩ := hoa.byt HRN.out; have HYA := hidden hya; have HBT3 := hidden (HBT.out.below hba); have HBa := hidden (HBq.out.trans (hba.mono HBq.out.size)); clear hoa hba hya d0 HBT HP)
              | (go_at_call 17; (with_reducible refine (HR.out _ HBT3.out).mono ?_); rintro e wb ⟨vb, rfl, hob, hbb⟩; obtain ⟨pb, cb, rfl, hyb⟩ := hob.byt HRN.out; have HYB := hidden hyb; have HYA2 := hidden (HYA.out.below hbb); have HBb := hidden (HBa.out.trans (hbb.mono HBa.out.size)); clear hob hbb hyb HYA HBT3 HR)
              | (go_at_call 24; (with_reducible refine (requal_any _ _ _ _ _ _ L L _ HYA2.out HYB.out).mono ?_); rintro e wd ⟨rfl, hbd⟩; rw [decide_eq_true (rfl : L = L)]; have HBd := hidden (HBb.out.trans ((drew_below hbd).mono HBb.out.size)); clear hbd HYA2 HYB)
              | fail)
            go_roundw
            case rel => exact ⟨t + 1, by omega, by go_num, HBd.out⟩
            case measure => simp [intOf]; omega
          · obtain rfl : t = 5 := by omega
            have H11 := hidden (H10.out.below hbq)
            clear hbq HBq HI H10
            go_upto_region 19 with (first
              | (go_at_call 25; (with_reducible refine (addr_any w _ w1.heap.size H11.out.cod 4 (Or.inl rfl)).mono ?_); rintro e w12 ⟨x, rfl, hx, hc, hg⟩; have H12 := hidden (H11.out.next hc hg); clear hx hc hg H11)
              | (go_at_call 11; (with_reducible refine (next_any w _ w1.heap.size H12.out.cod _ ?_).mono ?_); omega; rintro e w13 ⟨r2, rfl, r20, r21, hc, hg⟩; have H13 := hidden (H12.out.next hc hg); clear hc hg H12)
              | (go_at_call 25; (with_reducible refine (addr_any w _ w1.heap.size H13.out.cod (4 + r2 * 2) (by omega)).mono ?_); rintro e w14 ⟨y, rfl, hy, hc, hg⟩; have H14 := hidden (H13.out.next hc hg); clear hy hc hg H13)
              | fail)
            have hp2 : 0 < l2.length := by have := HL2.out; omega
            have hpi : (0 : Int) < l1.length := by omega
            obtain ⟨z, hz⟩ : ∃ z, l2[0]'hp2 = z := ⟨_, rfl⟩
            have HK0 : Hid (∀ wx, Below (w14.heap.size + 1 + 1) ((w14.alloc (.cells #[.int .i64 x.f, .int .u64 x.h, .int .u64 x.l] 46)).alloc (.cells #[.int .i64 y.f, .int .u64 y.h, .int .u64 y.l] 46)) wx → SlIn wx w.heap.size s ∧ SlIn wx g4 z ∧ AdIn wx (w.heap.size + 1) a ∧ AdIn wx (w.heap.size + 1 + 1) b ∧ AdIn wx w14.heap.size x ∧ AdIn wx (w14.heap.size + 1) y) := hidden (fun wx hb => by
              have h15 := (H14.out.alloc (.cells #[.int .i64 x.f, .int .u64 x.h, .int .u64 x.l] 46)).alloc (.cells #[.int .i64 y.f, .int .u64 y.h, .int .u64 y.l] 46)
              have hbb : Below ((w14.alloc (.cells #[.int .i64 x.f, .int .u64 x.h, .int .u64 x.l] 46)).alloc (.cells #[.int .i64 y.f, .int .u64 y.h, .int .u64 y.l] 46)).heap.size ((w14.alloc (.cells #[.int .i64 x.f, .int .u64 x.h, .int .u64 x.l] 46)).alloc (.cells #[.int .i64 y.f, .int .u64 y.h, .int .u64 y.l] 46)) wx := by simpa using hb
              have h16 := h15.below hbb
              have k1 := ((AdIn.new w14 x 46).alloc (.cells #[.int .i64 y.f, .int .u64 y.h, .int .u64 y.l] 46)).below hbb
              have k2 := (AdIn.new (w14.alloc (.cells #[.int .i64 x.f, .int .u64 x.h, .int .u64 x.l] 46)) y 46).below hbb
              have f := first_cells h16.r2 hp2
              rw [hz] at f
              exact ⟨h16.S, f, h16.A, h16.E, k1, by simpa using k2⟩)
            have HB14 := hidden (((H14.out.cod.bel.alloc H14.out.cod.bel.size (.cells #[.int .i64 x.f, .int .u64 x.h, .int .u64 x.l] 46)).alloc (by simp; have := H14.out.cod.bel.size; omega) (.cells #[.int .i64 y.f, .int .u64 y.h, .int .u64 y.l] 46)))
            have hsz14 := H14.out.cod.bel.size
            generalize hwz : (w14.alloc (.cells #[.int .i64 x.f, .int .u64 x.h, .int .u64 x.l] 46)).alloc (.cells #[.int .i64 y.f, .int .u64 y.h, .int .u64 y.l] 46) = wz at *
            have HSZ : wz.heap.size = w14.heap.size + 1 + 1 := by rw [← hwz]; simp
            rw [← HSZ] at HK0
            generalize w14.heap.size + 1 = h2 at *
            generalize w14.heap.size = h1 at *
            have HK : Hid (∀ wx : World, Below wz.heap.size wz wx → wx.cell? ⟨w.heap.size, 0, none⟩ = some (.int .i64 s.p) ∧ wx.cell? ⟨w.heap.size, 1, none⟩ = some (.int .i64 s.a) ∧ wx.cell? ⟨w.heap.size, 2, none⟩ = some (.int .i64 s.b) ∧ wx.cell? ⟨w.heap.size, 3, none⟩ = some (.int .i64 s.lo.f) ∧ wx.cell? ⟨w.heap.size, 4, none⟩ = some (.int .u64 s.lo.h) ∧ wx.cell? ⟨w.heap.size, 5, none⟩ = some (.int .u64 s.lo.l) ∧ wx.cell? ⟨w.heap.size, 6, none⟩ = some (.int .i64 s.hi.f) ∧ wx.cell? ⟨w.heap.size, 7, none⟩ = some (.int .u64 s.hi.h) ∧ wx.cell? ⟨w.heap.size, 8, none⟩ = some (.int .u64 s.hi.l) ∧ wx.cell? ⟨g4, 0, none⟩ = some (.int .i64 z.p) ∧ wx.cell? ⟨g4, 1, none⟩ = some (.int .i64 z.a) ∧ wx.cell? ⟨g4, 2, none⟩ = some (.int .i64 z.b) ∧ wx.cell? ⟨g4, 3, none⟩ = some (.int .i64 z.lo.f) ∧ wx.cell? ⟨g4, 4, none⟩ = some (.int .u64 z.lo.h) ∧ wx.cell? ⟨g4, 5, none⟩ = some (.int .u64 z.lo.l) ∧ wx.cell? ⟨g4, 6, none⟩ = some (.int .i64 z.hi.f) ∧ wx.cell? ⟨g4, 7, none⟩ = some (.int .u64 z.hi.h) ∧ wx.cell? ⟨g4, 8, none⟩ = some (.int .u64 z.hi.l) ∧ wx.cell? ⟨w.heap.size + 1, 0, none⟩ = some (.int .i64 a.f) ∧ wx.cell? ⟨w.heap.size + 1, 1, none⟩ = some (.int .u64 a.h) ∧ wx.cell? ⟨w.heap.size + 1, 2, none⟩ = some (.int .u64 a.l) ∧ wx.cell? ⟨w.heap.size + 1 + 1, 0, none⟩ = some (.int .i64 b.f) ∧ wx.cell? ⟨w.heap.size + 1 + 1, 1, none⟩ = some (.int .u64 b.h) ∧ wx.cell? ⟨w.heap.size + 1 + 1, 2, none⟩ = some (.int .u64 b.l) ∧ wx.cell? ⟨h1, 0, none⟩ = some (.int .i64 x.f) ∧ wx.cell? ⟨h1, 1, none⟩ = some (.int .u64 x.h) ∧ wx.cell? ⟨h1, 2, none⟩ = some (.int .u64 x.l) ∧ wx.cell? ⟨h2, 0, none⟩ = some (.int .i64 y.f) ∧ wx.cell? ⟨h2, 1, none⟩ = some (.int .u64 y.h) ∧ wx.cell? ⟨h2, 2, none⟩ = some (.int .u64 y.l)) := hidden (fun wx hb => by
              obtain ⟨k1, k2, k3, k4, k5, k6⟩ := HK0.out wx hb
              exact ⟨k1.c0, k1.c1, k1.c2, k1.c3, k1.c4, k1.c5, k1.c6, k1.c7, k1.c8, k2.c0, k2.c1, k2.c2, k2.c3, k2.c4, k2.c5, k2.c6, k2.c7, k2.c8, k3.c0, k3.c1, k3.c2, k4.c0, k4.c1, k4.c2, k5.c0, k5.c1, k5.c2, k6.c0, k6.c1, k6.c2⟩)
            obtain ⟨E1, hE1⟩ : ∃ E, checkS s = E := ⟨_, rfl⟩
            obtain ⟨E2, hE2⟩ : ∃ E, checkS z = E := ⟨_, rfl⟩
            obtain ⟨v1, hv1⟩ : ∃ v, validA a = v := ⟨_, rfl⟩
            obtain ⟨v2, hv2⟩ : ∃ v, ltA a b = v := ⟨_, rfl⟩
            obtain ⟨v3, hv3⟩ : ∃ v, ltA x y = v := ⟨_, rfl⟩
            have HC1 := hidden (scheck_at s E1 hE1)
            have HC2 := hidden (rscheck_at s E1 hE1)
            have HC3 := hidden (scheck_at z E2 hE2)
            have HC4 := hidden (rscheck_at z E2 hE2)
            have HC5 := hidden (valid_any a)
            have HC6 := hidden (rvalid_any a)
            have HC7 := hidden (sless_any a b)
            have HC8 := hidden (rless_any a b)
            have HC9 := hidden (sless_any x y)
            have HC10 := hidden (rless_any x y)
            rw [hv1] at HC5 HC6
            rw [hv2] at HC7 HC8
            rw [hv3] at HC9 HC10
            have e1 : (E1 == E1) = true := by simp
            have e2 : (E2 == E2) = true := by simp
            have e3 : (v1 == v1) = true := by simp
            have e4 : (v2 == v2) = true := by simp
            have e5 : (v3 == v3) = true := by simp
            have HB : Hid (Below wz.heap.size wz wz.drew) := hidden (drew_below ⟨1, rfl⟩)
            clear hwz HK0 hz hE1 hE2 hv1 hv2 hv3 H14 HSZ
            go_region_held3 (fun w' => w'.cell? ⟨w.heap.size, 0, none⟩ = some (.int .i64 s.p) ∧ w'.cell? ⟨w.heap.size, 1, none⟩ = some (.int .i64 s.a) ∧ w'.cell? ⟨w.heap.size, 2, none⟩ = some (.int .i64 s.b) ∧ w'.cell? ⟨w.heap.size, 3, none⟩ = some (.int .i64 s.lo.f) ∧ w'.cell? ⟨w.heap.size, 4, none⟩ = some (.int .u64 s.lo.h) ∧ w'.cell? ⟨w.heap.size, 5, none⟩ = some (.int .u64 s.lo.l) ∧ w'.cell? ⟨w.heap.size, 6, none⟩ = some (.int .i64 s.hi.f) ∧ w'.cell? ⟨w.heap.size, 7, none⟩ = some (.int .u64 s.hi.h) ∧ w'.cell? ⟨w.heap.size, 8, none⟩ = some (.int .u64 s.hi.l) ∧ w'.cell? ⟨g4, 0, none⟩ = some (.int .i64 z.p) ∧ w'.cell? ⟨g4, 1, none⟩ = some (.int .i64 z.a) ∧ w'.cell? ⟨g4, 2, none⟩ = some (.int .i64 z.b) ∧ w'.cell? ⟨g4, 3, none⟩ = some (.int .i64 z.lo.f) ∧ w'.cell? ⟨g4, 4, none⟩ = some (.int .u64 z.lo.h) ∧ w'.cell? ⟨g4, 5, none⟩ = some (.int .u64 z.lo.l) ∧ w'.cell? ⟨g4, 6, none⟩ = some (.int .i64 z.hi.f) ∧ w'.cell? ⟨g4, 7, none⟩ = some (.int .u64 z.hi.h) ∧ w'.cell? ⟨g4, 8, none⟩ = some (.int .u64 z.hi.l) ∧ w'.cell? ⟨w.heap.size + 1, 0, none⟩ = some (.int .i64 a.f) ∧ w'.cell? ⟨w.heap.size + 1, 1, none⟩ = some (.int .u64 a.h) ∧ w'.cell? ⟨w.heap.size + 1, 2, none⟩ = some (.int .u64 a.l) ∧ w'.cell? ⟨w.heap.size + 1 + 1, 0, none⟩ = some (.int .i64 b.f) ∧ w'.cell? ⟨w.heap.size + 1 + 1, 1, none⟩ = some (.int .u64 b.h) ∧ w'.cell? ⟨w.heap.size + 1 + 1, 2, none⟩ = some (.int .u64 b.l) ∧ w'.cell? ⟨h1, 0, none⟩ = some (.int .i64 x.f) ∧ w'.cell? ⟨h1, 1, none⟩ = some (.int .u64 x.h) ∧ w'.cell? ⟨h1, 2, none⟩ = some (.int .u64 x.l) ∧ w'.cell? ⟨h2, 0, none⟩ = some (.int .i64 y.f) ∧ w'.cell? ⟨h2, 1, none⟩ = some (.int .u64 y.h) ∧ w'.cell? ⟨h2, 2, none⟩ = some (.int .u64 y.l)) (first | exact HK.out _ HB.out | go_keep) (first | (go_at_call 26; (with_reducible refine (HC1.out _).mono ?_); rintro e wn ⟨rfl, hb⟩; replace HB := hidden (HB.out.trans (hb.mono HB.out.size)); clear hb) | (go_at_call 27; (with_reducible refine (HC2.out _).mono ?_); rintro e wn ⟨rfl, hb⟩; replace HB := hidden (HB.out.trans (hb.mono HB.out.size)); clear hb) | (go_at_call 26; (with_reducible refine (HC3.out _).mono ?_); rintro e wn ⟨rfl, hb⟩; replace HB := hidden (HB.out.trans (hb.mono HB.out.size)); clear hb) | (go_at_call 27; (with_reducible refine (HC4.out _).mono ?_); rintro e wn ⟨rfl, hb⟩; replace HB := hidden (HB.out.trans (hb.mono HB.out.size)); clear hb) | (go_at_call 28; (with_reducible refine (HC5.out _).mono ?_); rintro e wn ⟨rfl, hb⟩; replace HB := hidden (HB.out.trans (hb.mono HB.out.size)); clear hb) | (go_at_call 29; (with_reducible refine (HC6.out _).mono ?_); rintro e wn ⟨rfl, hb⟩; replace HB := hidden (HB.out.trans (hb.mono HB.out.size)); clear hb) | (go_at_call 30; (with_reducible refine (HC7.out _).mono ?_); rintro e wn ⟨rfl, hb⟩; replace HB := hidden (HB.out.trans (hb.mono HB.out.size)); clear hb) | (go_at_call 31; (with_reducible refine (HC8.out _).mono ?_); rintro e wn ⟨rfl, hb⟩; replace HB := hidden (HB.out.trans (hb.mono HB.out.size)); clear hb) | (go_at_call 30; (with_reducible refine (HC9.out _).mono ?_); rintro e wn ⟨rfl, hb⟩; replace HB := hidden (HB.out.trans (hb.mono HB.out.size)); clear hb) | (go_at_call 31; (with_reducible refine (HC10.out _).mono ?_); rintro e wn ⟨rfl, hb⟩; replace HB := hidden (HB.out.trans (hb.mono HB.out.size)); clear hb) | fail)
            all_goals
              go_wp2
              go_ret
              exact ⟨rfl, HB14.out.trans (HB.out.mono HB14.out.size)⟩
end Go.Proofs.Ytignenekomlleaa
