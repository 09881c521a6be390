/-
  What package proposal reads of the inside of a proposal, or throws.
-/
import Derived.Test.YtblpkbjbaajdeaaPTrs
namespace Go.Proofs.Ytblpkbjbaajdeaa
open Go.RowKit
set_option linter.unusedVariables false

/-- A proposal in a block of the call's own. -/
structure PrIn (w : World) (g : Nat) (n p : Int) (s t : Value) : Prop where
  c0 : w.cell? ⟨g, 0, none⟩ = some (.int .i64 n)
  c1 : w.cell? ⟨g, 1, none⟩ = some (.int .i64 p)
  c2 : w.cell? ⟨g, 2, none⟩ = some s
  c3 : w.cell? ⟨g, 3, none⟩ = some t
  fr : ∀ j, w.frozen? ⟨g, j, none⟩ = false
section
variable {w w' : World} {g : Nat} {n p : Int} {s t : Value}
theorem PrIn.lt (h : PrIn w g n p s t) : g < w.heap.size := World.block_lt_of_cell? w _ h.c0
theorem PrIn.grown {row : Option Nat} (h : PrIn w g n p s t) (hg : w.grownBy w' row) (hne : some g ≠ row) : PrIn w' g n p s t :=
  ⟨hg.cell h.c0 hne, hg.cell h.c1 hne, hg.cell h.c2 hne, hg.cell h.c3 hne, fun j => (World.frozen?_of_block (a := ⟨g, j, none⟩) (hg.block g h.lt hne)).trans (h.fr j)⟩
theorem PrIn.below (h : PrIn w g n p s t) (hb : Below w.heap.size w w') : PrIn w' g n p s t := h.grown (row := none) (grown_of_below hb none) (by simp)
theorem PrIn.set0 (h : PrIn w g n p s t) (v : Int) : PrIn (w.setCell ⟨g, 0, none⟩ (.int .i64 v)) g v p s t := by
  obtain ⟨c0, c1, c2, c3, fr⟩ := h
  exact ⟨by go_simp, by go_simp, by go_simp, by go_simp, fun j => by rw [World.frozen?_setCell]; exact fr j⟩
theorem PrIn.set1 (h : PrIn w g n p s t) (v : Int) : PrIn (w.setCell ⟨g, 1, none⟩ (.int .i64 v)) g n v s t := by
  obtain ⟨c0, c1, c2, c3, fr⟩ := h
  exact ⟨by go_simp, by go_simp, by go_simp, by go_simp, fun j => by rw [World.frozen?_setCell]; exact fr j⟩
theorem PrIn.set2 (h : PrIn w g n p s t) (q : Option Addr) (m d : Nat) : PrIn (w.setCell ⟨g, 2, none⟩ (.slice q m d)) g n p (.slice q m d) t := by
  obtain ⟨c0, c1, c2, c3, fr⟩ := h
  exact ⟨by go_simp, by go_simp, by go_simp, by go_simp, fun j => by rw [World.frozen?_setCell]; exact fr j⟩
theorem PrIn.set3 (h : PrIn w g n p s t) (q : Option Addr) (m d : Nat) : PrIn (w.setCell ⟨g, 3, none⟩ (.slice q m d)) g n p s (.slice q m d) := by
  obtain ⟨c0, c1, c2, c3, fr⟩ := h
  exact ⟨by go_simp, by go_simp, by go_simp, by go_simp, fun j => by rw [World.frozen?_setCell]; exact fr j⟩
theorem PrIn.new (w : World) (n p : Int) (q : Option Addr) (m d : Nat) (q' : Option Addr) (m' d' : Nat) (T : TypeId) : PrIn (w.alloc (.cells #[.int .i64 n, .int .i64 p, .slice q m d, .slice q' m' d'] T)) w.heap.size n p (.slice q m d) (.slice q' m' d') :=
  ⟨by go_simp, by go_simp, by go_simp, by go_simp, fun j => by go_simp⟩
end
theorem load_pr {w : World} {g : Nat} {n p : Int} {s t : Value} (h : PrIn w g n p s t) : (loadVar 66 ⟨g, 0, none⟩).run Try.prog w = .ok (.agg #[.int .i64 n, .int .i64 p, s, t]) w := by
  obtain ⟨c0, c1, c2, c3, fr⟩ := h
  simp [loadVar, go_sem, c0, c1, c2, c3, Result.andThen]
theorem ret_pr {fn : Func} {R : Ending → World → Prop} {a : Act} {w : World} {p : Nat} {g : Nat} {x y : Int} {s t : Value} (h : fn.results = #[.cell p 66]) (hp : a.tmps.getD p undef = .pointer (some ⟨g, 0, none⟩)) (hd : a.defers = [])
    (hh : PrIn w g x y s t) (hR : R (.returned (.agg #[.int .i64 x, .int .i64 y, s, t])) w) : bodyPost Try.prog fn R .ret a w := by
  refine bodyPost_ret (v := .agg #[.int .i64 x, .int .i64 y, s, t]) ?_ hd hR
  rw [Array.getD_eq_getD_getElem?] at hp
  simp [results, h, hp, asAddr, load_pr hh]

/-- The inside of a proposal. -/
def prV (zs : List Int) : Option Pr :=
  if zs.length < 4 then none else if (zs.length : Int) < 4 + zs.getD 2 0 then none
  else match trsV (zs.drop (4 + (zs.getD 2 0).toNat)) with
  | none => none
  | some ts => if (ts.length : Int) ≠ zs.getD 3 0 then none else some ⟨zs.getD 0 0, zs.getD 1 0, (zs.drop 4).take (zs.getD 2 0).toNat, ts⟩
theorem prs_sec (ys : List Int) (hr : ∀ x ∈ ys, 0 ≤ x ∧ x ≤ 255) (h : ys.length ≠ 0) : prsV ys = match secV 2 ys with
  | none => none
  | some x => match prV x.1 with
    | none => none
    | some t => (prsV (ys.drop x.2)).map (t :: ·) := by
  rw [prsV_step ys h]
  rcases hs : secV 2 ys with _ | ⟨zs, L⟩
  · simp only
    by_cases h8 : ys.length < 8
    · rw [if_pos h8]
    rw [if_neg h8]
    by_cases h9 : w2 ys 2 < 8 ∨ (ys.length : Int) < w2 ys 2
    · rw [if_pos h9]
    rw [if_neg h9]
    rcases secV_cases 2 ys with ⟨h2, h1⟩ | ⟨_, h2, h1⟩ | ⟨_, _, h2, h1⟩ | ⟨h2, h3, h4, h1⟩
    · omega
    · omega
    · rw [if_pos (Or.inl h2)]
    · rw [h1] at hs; cases hs
  · have hi := secV_in hs
    have h1 := hi.len
    have h2 := hi.le
    simp only
    by_cases hz : zs.length < 4
    · have ht : prV zs = none := by unfold prV; rw [if_pos hz]
      rw [ht]
      simp only
      by_cases h8 : ys.length < 8
      · rw [if_pos h8]
      · rw [if_neg h8, hi.l, if_pos (by omega)]
    · have e0 : ¬ (ys.getD 0 0 ≠ if (ys.length : Int) = L then 0 else 2) := Decidable.not_not.2 hi.x0
      have b6 := rng_getD hr 6
      have e2 : zs.getD 0 0 = ys.getD 4 0 := by rw [hi.zs, getD_inside _ _ _ (by omega)]
      have e3 : zs.getD 1 0 = ys.getD 5 0 := by rw [hi.zs, getD_inside _ _ _ (by omega)]
      have e4 : zs.getD 2 0 = ys.getD 6 0 := by rw [hi.zs, getD_inside _ _ _ (by omega)]
      have e5 : zs.getD 3 0 = ys.getD 7 0 := by rw [hi.zs, getD_inside _ _ _ (by omega)]
      rw [if_neg (by omega), hi.l, if_neg (by omega), Int.toNat_natCast]
      unfold prV
      rw [if_neg hz, e2, e3, e4, e5]
      by_cases hb : (L : Int) < 8 + ys.getD 6 0
      · rw [if_pos (Or.inr hb), if_pos (by omega)]
      · rw [if_neg (fun h => h.elim e0 hb), if_neg (show ¬ (zs.length : Int) < 4 + ys.getD 6 0 by omega)]
        have e6 : (ys.take L).drop (8 + (ys.getD 6 0).toNat) = zs.drop (4 + (ys.getD 6 0).toNat) := by
          rw [hi.zs, List.drop_drop]
          congr 1
          omega
        have e7 : (ys.drop 8).take (ys.getD 6 0).toNat = (zs.drop 4).take (ys.getD 6 0).toNat := by
          rw [hi.zs, List.drop_drop, List.drop_take, List.take_take]
          congr 1
          omega
        rw [e6, e7]
        cases trsV (zs.drop (4 + (ys.getD 6 0).toNat)) with
        | none => rfl
        | some ts =>
          simp only
          split <;> rfl

theorem trs_few : ∀ (ys : List Int) (l : List Tr), trsV ys = some l → l.length ≤ ys.length := by
  suffices ∀ m (ys : List Int) (l : List Tr), ys.length ≤ m → trsV ys = some l → l.length ≤ ys.length from fun ys l h => this _ ys l (Nat.le_refl _) h
  intro m
  induction m with
  | zero =>
    intro ys l h0 h
    rw [trsV_nil _ (by omega)] at h
    simp at h
    subst h
    simp
  | succ m ih =>
    intro ys l h0 h
    by_cases hz : ys.length = 0
    · rw [trsV_nil _ hz] at h
      simp at h
      subst h
      simp
    rw [trs_sec _ hz] at h
    rcases hs : secV 3 ys with _ | ⟨zs, L⟩
    · rw [hs] at h; cases h
    rw [hs] at h
    simp only at h
    rcases ht : trV zs with _ | t
    · rw [ht] at h; cases h
    rw [ht] at h
    simp only at h
    have hl := secV_len hs
    rcases hn : trsV (ys.drop L) with _ | l'
    · rw [hn] at h; cases h
    rw [hn] at h
    simp at h
    subst h
    have := ih _ _ (by rw [List.length_drop]; omega) hn
    rw [List.length_drop] at this
    simp
    omega

/-- What proposal returns. -/
def GotPr (w : World) (k : Nat) (r : Option Pr) (e : Ending) (w' : World) : Prop :=
  w.grownBy w' (some k) ∧ match r with
  | none => Thrown e
  | some y => ∃ x : PrP, x.pr = y ∧ e = .returned (.agg #[.int .i64 x.n, .int .i64 x.p, .slice x.sp x.sn x.sc, .slice x.tp x.tn x.tc]) ∧ OkN w' w.heap.size x
theorem gotpr_none {w : World} {k : Nat} {r : Option Pr} {e : Ending} {w' : World} (hg : w.grownBy w' (some k)) (hr : r = none) (ht : Thrown e) : GotPr w k r e w' := by
  subst hr
  exact ⟨hg, ht⟩

/-- In the midst of proposal: what is read, and the two blocks of the result. -/
structure PrS (w w1 : World) (k : Nat) (p : Option Addr) (n c : Nat) (xs : List Int) (a : Nat) (x y : Int) (s t : Value) : Prop where
  ps : PS w1 k p n c xs a
  gr : w.grownBy w1 (some k)
  lk : k < w.heap.size
  sz : w.heap.size + 2 ≤ w1.heap.size
  rt : PrIn w1 w.heap.size 0 0 (.slice none 0 0) (.slice none 0 0)
  ru : PrIn w1 (w.heap.size + 1) x y s t
section
variable {w w1 w2 : World} {k : Nat} {p : Option Addr} {n c : Nat} {xs : List Int} {a b : Nat} {x y : Int} {s t : Value}
theorem PrS.step (h : PrS w w1 k p n c xs a x y s t) (hg : w1.grownBy w2 (some k)) (hp : PS w2 k p n c xs b) : PrS w w2 k p n c xs b x y s t :=
  ⟨hp, grown_trans h.gr hg, h.lk, Nat.le_trans h.sz hg.size, h.rt.grown hg (by have := h.lk; simp; omega), h.ru.grown hg (by have := h.lk; simp; omega)⟩
theorem PrS.below (h : PrS w w1 k p n c xs a x y s t) (hb : Below w1.heap.size w1 w2) : PrS w w2 k p n c xs a x y s t := h.step (grown_of_below hb _) (h.ps.below hb)
theorem PrS.set (h : PrS w w1 k p n c xs a x y s t) (j : Nat) (v : Value) {x' y' : Int} {s' t' : Value} (hu : PrIn (w1.setCell ⟨w.heap.size + 1, j, none⟩ v) (w.heap.size + 1) x' y' s' t') : PrS w (w1.setCell ⟨w.heap.size + 1, j, none⟩ v) k p n c xs a x' y' s' t' :=
  ⟨h.ps.off (grown_set _ _ _ _) (fun r hr => by cases hr; have := h.lk; omega), grown_set_new h.gr _ _ _ (by omega), h.lk, Nat.le_trans h.sz (grown_set _ _ _ _).size, h.rt.grown (grown_set _ _ _ _) (by simp), hu⟩
end
theorem pn1_ok (p : Option Addr) (n c : Nat) (xs : List Int) (w : World) (k a : Nat) (h : PS w k p n c xs a) (v : Int) (hv : xs.getD a 0 = v) (hin : a + 1 ≤ n) :
    Calls Try.prog 64 #[.pointer (some ⟨k, 0, none⟩), .int .i64 1] w fun e w' => e = .returned (.int .i64 v) ∧ w.grownBy w' (some k) ∧ PS w' k p n c xs (a + 1) := by
  refine (pn1 p n c xs w k a h v hv).mono ?_
  rintro e w' ⟨hg, ⟨h1, rfl, hc⟩ | ⟨h1, ht⟩⟩
  · exact ⟨rfl, hg, hc⟩
  · omega
theorem pn1_no (p : Option Addr) (n c : Nat) (xs : List Int) (w : World) (k a : Nat) (h : PS w k p n c xs a) (hin : n < a + 1) :
    Calls Try.prog 64 #[.pointer (some ⟨k, 0, none⟩), .int .i64 1] w fun e w' => Thrown e ∧ w.grownBy w' (some k) := by
  refine (pn1 p n c xs w k a h _ rfl).mono ?_
  rintro e w' ⟨hg, ⟨h1, rfl, hc⟩ | ⟨h1, ht⟩⟩
  · omega
  · exact ⟨ht, hg⟩

/-- A call that throws, in a region that draws its order: nothing follows. -/
theorem thrown_in {P : Program} {G : Prop} (w : World) (h : G) (d : wpAny P .any #[] (fun _ _ _ => True) 0 #[] { tmps := #[], defers := [] } w) : G := h

set_option maxHeartbeats 1600000 in
set_option maxRecDepth 100000 in
theorem proposal_any (p : Option Addr) (n c : Nat) (xs : List Int) (w : World) (k : Nat) (h : PS w k p n c xs 0) (hn : n ≤ 1048576) (r : Option Pr) (hr : prV xs = r) :
    Calls Try.prog 52 #[.pointer (some ⟨k, 0, none⟩)] w (GotPr w k r) := by
  have hlen := h.here.len
  have hrng := h.here.rng
  have hnle := h.here.le
  unfold prV at hr
  rw [hlen] at hr
  obtain ⟨x0, hx0⟩ : ∃ x0, xs.getD 0 0 = x0 := ⟨_, rfl⟩
  obtain ⟨x1, hx1⟩ : ∃ x0, xs.getD 1 0 = x0 := ⟨_, rfl⟩
  obtain ⟨x2, hx2⟩ : ∃ x0, xs.getD 2 0 = x0 := ⟨_, rfl⟩
  obtain ⟨x3, hx3⟩ : ∃ x0, xs.getD 3 0 = x0 := ⟨_, rfl⟩
  have b0 := rng_getD hrng 0
  have b1 := rng_getD hrng 1
  have b2 := rng_getD hrng 2
  have b3 := rng_getD hrng 3
  rw [hx0] at b0
  rw [hx1] at b1
  rw [hx2] at b2
  rw [hx3] at b3
  rw [hx0, hx1, hx2, hx3] at hr
  have HR := hidden hr
  have HX0 := hidden hx0
  have HX1 := hidden hx1
  have HX2 := hidden hx2
  have HX3 := hidden hx3
  have h0 : Below w.heap.size w ((w.alloc (.cells #[.int .i64 0, .int .i64 0, .slice none 0 0, .slice none 0 0] 66)).alloc (.cells #[.int .i64 0, .int .i64 0, .slice none 0 0, .slice none 0 0] 66)) := ((Below.refl _ w).alloc (Nat.le_refl _) _).alloc (by simp) _
  have HS0 : Hid (PrS w ((w.alloc (.cells #[.int .i64 0, .int .i64 0, .slice none 0 0, .slice none 0 0] 66)).alloc (.cells #[.int .i64 0, .int .i64 0, .slice none 0 0, .slice none 0 0] 66)) k p n c xs 0 0 0 (.slice none 0 0) (.slice none 0 0)) := hidden ⟨h.below h0, grown_of_below h0 (some k), h.lt, by simp, (PrIn.new w 0 0 none 0 0 none 0 0 66).below ((Below.refl _ _).alloc (Nat.le_refl _) _), by
    have := PrIn.new (w.alloc (.cells #[.int .i64 0, .int .i64 0, .slice none 0 0, .slice none 0 0] 66)) 0 0 none 0 0 none 0 0 66
    simpa using this⟩
  clear hr h hx0 hx1 hx2 hx3 hrng hlen h0
  go_enter Try.func52, Try.ntmps52
  go_wp2_with fail
  go_at_call 64
  (with_reducible refine (pn1 p n c xs _ k 0 HS0.out.ps x0 HX0.out).mono ?_)
  rintro e w1 ⟨hg1, ⟨hi1, rfl, hps1⟩ | ⟨hi1, ht⟩⟩
  rotate_left
  · subst ht
    exact ⟨rfl, gotpr_none (grown_trans HS0.out.gr hg1) (by rw [← HR.out, if_pos (by omega)]) rfl⟩
  have HS1 := hidden (HS0.out.step hg1 hps1)
  clear HS0 hg1 hps1
  have HS2 := hidden (HS1.out.set 0 (.int .i64 x0) (HS1.out.ru.set0 x0))
  have u1 := HS1.out.ru.c0
  have fr1 := HS1.out.ru.fr
  go_wp2_with fail
  clear u1 fr1
  go_at_call 64
  (with_reducible refine (pn1 p n c xs _ k 1 HS2.out.ps x1 HX1.out).mono ?_)
  rintro e w2 ⟨hg1, ⟨hi2, rfl, hps1⟩ | ⟨hi2, ht⟩⟩
  rotate_left
  · subst ht
    exact ⟨rfl, gotpr_none (grown_trans HS2.out.gr hg1) (by rw [← HR.out, if_pos (by omega)]) rfl⟩
  have HS3 := hidden (HS2.out.step hg1 hps1)
  clear HS1 HS2 hg1 hps1
  have HS4 := hidden (HS3.out.set 1 (.int .i64 x1) (HS3.out.ru.set1 x1))
  have u1 := HS3.out.ru.c1
  have fr1 := HS3.out.ru.fr
  go_wp2_with fail
  clear u1 fr1 HS3
  have HSD : Hid (PrS w (w2.setCell ⟨w.heap.size + 1, 1, none⟩ (.int .i64 x1)).drew k p n c xs 2 x0 x1 (.slice none 0 0) (.slice none 0 0)) := hidden (HS4.out.below (drew_below ⟨1, rfl⟩))
  by_cases h3 : n < 3
  · have C1 := hidden (pn1_no p n c xs _ k 2 HSD.out.ps (by omega))
    have hr := HR.out
    rw [if_pos (by omega)] at hr
    have HR2 := hidden hr
    clear hr HR HS4
    go_region_law (first | (go_simp; go_at_call 64; (with_reducible refine (C1.out).mono ?_); rintro e wA ⟨ht, hg⟩; subst ht; refine thrown_in (P := Try.prog) w ⟨rfl, gotpr_none (grown_trans HSD.out.gr hg) HR2.out.symm rfl⟩ ?_))
    all_goals trivial
  have C1 := hidden (pn1_ok p n c xs _ k 2 HSD.out.ps x2 HX2.out (by omega))
  by_cases h4 : n < 4
  · have C2 := hidden (fun wA (h : PS wA k p n c xs 3) => pn1_no p n c xs wA k 3 h (by omega))
    have hr := HR.out
    rw [if_pos (by omega)] at hr
    have HR2 := hidden hr
    clear hr HR HS4
    go_region_law (first
      | (go_simp; go_at_call 64; (with_reducible refine (C1.out).mono ?_); rintro e wA ⟨rfl, hg, hps⟩; have hg' := grown_trans HSD.out.gr hg)
      | (go_simp; go_at_call 64; (with_reducible refine (C2.out _ hps).mono ?_); rintro e wB ⟨ht, hg⟩; subst ht; refine thrown_in (P := Try.prog) w ⟨rfl, gotpr_none (grown_trans hg' hg) HR2.out.symm rfl⟩ ?_))
    all_goals trivial
  have C2 := hidden (fun wA (h : PS wA k p n c xs 3) => pn1_ok p n c xs wA k 3 h x3 HX3.out (by omega))
  have hr := HR.out
  rw [if_neg h4] at hr
  have HR2 := hidden hr
  clear hr HR HS4
  go_region_law (first
    | (go_simp; go_at_call 64; (with_reducible refine (C1.out).mono ?_); rintro e wA ⟨rfl, hg, hps⟩; have hs5 := HSD.out.step hg hps)
    | (go_simp; go_at_call 64; (with_reducible refine (C2.out _ hps).mono ?_); rintro e wB ⟨rfl, hg, hps⟩; have hs6 := hs5.step hg hps))
  all_goals
    have HS7 := hidden hs6
    clear hs5 hs6 hps hg C1 C2 HSD
    go_wp2_with fail
    go_at_call 65
    (with_reducible refine (pt p n c xs _ k 4 HS7.out.ps (by omega) x2 (by omega)).mono ?_)
    rintro e w5 ⟨hg5, ⟨hi4, hi5, q, m, d, rfl, hby, hps5⟩ | ⟨hi4, ht⟩⟩
    rotate_left
    · subst ht
      exact ⟨rfl, gotpr_none (grown_trans HS7.out.gr hg5) (by rw [← HR2.out, if_pos (by omega)]) rfl⟩
    have hr := HR2.out
    rw [if_neg (by omega)] at hr
    have HR3 := hidden hr
    have HS8 := hidden (HS7.out.step hg5 hps5)
    have hby2 := hby.mono HS7.out.sz
    clear hr HR2 hg5 hps5 hby
    have HS9 := hidden (HS8.out.set 2 (.slice q m d) (HS8.out.ru.set2 q m d))
    have HBY := hidden (hby2.grown (grown_set _ (w.heap.size + 1) 2 (.slice q m d)) (OffB.low (by omega)))
    have u1 := HS8.out.ru.c2
    have fr1 := HS8.out.ru.fr
    clear hby2 HS7
    obtain ⟨tv, htv⟩ : ∃ tv, trsV (xs.drop (4 + x2.toNat)) = tv := ⟨_, rfl⟩
    have HTV := hidden htv
    have hr := HR3.out
    rw [htv] at hr
    have HR4 := hidden hr
    clear htv hr HR3
    go_wp2_with fail
    clear u1 fr1
    go_at_call 67
    (with_reducible refine (ptransforms_any p n c xs _ k (4 + x2.toNat) HS9.out.ps hn tv HTV.out).mono ?_)
    rintro e w6 ⟨hg6, hh⟩
    cases tv with
    | none =>
      subst hh
      exact ⟨rfl, gotpr_none (grown_trans HS9.out.gr hg6) HR4.out.symm rfl⟩
    | some ts =>
      obtain ⟨v, rfl, hrow⟩ := hh
      obtain ⟨tp, tc, rfl⟩ := hrow.form rfl
      have hr := HR4.out
      simp only at hr
      have HR5 := hidden hr
      have hlk := HS9.out.lk
      have HBY2 := hidden (HBY.out.grown hg6 (OffB.low (by omega)))
      have HRW := hidden (hrow.mono HS9.out.sz)
      have hrt := HS9.out.rt.grown hg6 (by simp; omega)
      have hru := HS9.out.ru.grown hg6 (by simp; omega)
      have HG6 := hidden (grown_trans HS9.out.gr hg6)
      have HRT := hidden hrt
      have HRU := hidden hru
      have HSZ := hidden (Nat.le_trans HS9.out.sz hg6.size)
      have c0 := hru.c0
      have c1 := hru.c1
      have c2 := hru.c2
      have c3 := hru.c3
      have fr1 := hru.fr
      have d0 := hrt.c0
      have d1 := hrt.c1
      have d2 := hrt.c2
      have d3 := hrt.c3
      have fr := hrt.fr
      have htl : ts.length ≤ 9223372036854775807 := by
        have := trs_few _ _ HTV.out
        have := HS9.out.ps.here.len
        rw [List.length_drop] at *
        omega
      clear hr HR4 hg6 hrow hrt hru HS9 HBY
      go_wp2_with fail
      go_at_call 66
      (refine (need_any _ _).mono ?_)
      rintro e w8 ⟨rfl, ⟨ht, rfl⟩ | ⟨ht, hth⟩⟩
      rotate_left
      · subst hth
        exact ⟨rfl, gotpr_none (grown_set_new HG6.out _ _ _ (by omega)) (by rw [← HR5.out, if_pos (by simpa using ht)]) rfl⟩
      have hr := HR5.out
      rw [if_neg (by simpa using ht)] at hr
      have HR6 := hidden hr
      clear ht hr HR5
      go_wp2
      refine ret_pr rfl rfl rfl ((((((HRT.out.grown (grown_set _ (w.heap.size + 1) 3 (.slice tp ts.length tc)) (by simp)).set0 x0).set1 x1).set2 q m d).set3 tp ts.length tc)) ?_
      have e1 : (w6.setCell ⟨w.heap.size + 1, 3, none⟩ (.slice tp ts.length tc)).grownBy (((((w6.setCell ⟨w.heap.size + 1, 3, none⟩ (.slice tp ts.length tc)).setCell ⟨w.heap.size, 0, none⟩ (.int .i64 x0)).setCell ⟨w.heap.size, 1, none⟩ (.int .i64 x1)).setCell ⟨w.heap.size, 2, none⟩ (.slice q m d)).setCell ⟨w.heap.size, 3, none⟩ (.slice tp ts.length tc)) (some w.heap.size) :=
        grown_trans (grown_trans (grown_trans (grown_set _ _ _ _) (grown_set _ _ _ _)) (grown_set _ _ _ _)) (grown_set _ _ _ _)
      have e0 := grown_set w6 (w.heap.size + 1) 3 (.slice tp ts.length tc)
      refine ⟨grown_new (grown_set_new HG6.out _ _ _ (by omega)) e1 (Nat.le_refl _), ?_⟩
      rw [← HR6.out]
      refine ⟨⟨x0, x1, q, m, d, (xs.drop 4).take x2.toNat, tp, ts.length, tc, ts⟩, rfl, rfl, ⟨⟨⟨by show -9223372036854775808 ≤ x0; omega, by show x0 ≤ 9223372036854775807; omega⟩, by show -9223372036854775808 ≤ x1; omega, by show x1 ≤ 9223372036854775807; omega⟩, ?_, ?_⟩⟩
      · exact ((HBY2.out.grown e0 (OffB.low (by omega))).grown e1 (OffB.low (by omega))).mono (by omega)
      · exact ((HRW.out.low e0 (by omega)).low e1 (by omega)).mono (by omega)
end Go.Proofs.Ytblpkbjbaajdeaa
