/-
  What package proposal reads of the inside of a transform, or throws.
-/
import Derived.Test.YtblpkbjbaajdeaaPSec
namespace Go.Proofs.Ytblpkbjbaajdeaa
open Go.RowKit
set_option linter.unusedVariables false

/-- A transform in a block of the call's own. -/
structure TrIn (w : World) (g : Nat) (t i k : Int) : Prop where
  c0 : w.cell? ⟨g, 0, none⟩ = some (.int .i64 t)
  c1 : w.cell? ⟨g, 1, none⟩ = some (.int .i64 i)
  c2 : w.cell? ⟨g, 2, none⟩ = some (.int .i64 k)
  fr : ∀ j, w.frozen? ⟨g, j, none⟩ = false
section
variable {w w' : World} {g : Nat} {t i k : Int}
theorem TrIn.lt (h : TrIn w g t i k) : g < w.heap.size := World.block_lt_of_cell? w _ h.c0
theorem TrIn.grown {row : Option Nat} (h : TrIn w g t i k) (hg : w.grownBy w' row) (hne : some g ≠ row) : TrIn w' g t i k :=
  ⟨hg.cell h.c0 hne, hg.cell h.c1 hne, hg.cell h.c2 hne, fun j => (World.frozen?_of_block (a := ⟨g, j, none⟩) (hg.block g h.lt hne)).trans (h.fr j)⟩
theorem TrIn.below (h : TrIn w g t i k) (hb : Below w.heap.size w w') : TrIn w' g t i k := h.grown (row := none) (grown_of_below hb none) (by simp)
theorem TrIn.set0 (h : TrIn w g t i k) (v : Int) : TrIn (w.setCell ⟨g, 0, none⟩ (.int .i64 v)) g v i k := by
  obtain ⟨c0, c1, c2, fr⟩ := h
  exact ⟨by go_simp, by go_simp, by go_simp, fun j => by rw [World.frozen?_setCell]; exact fr j⟩
theorem TrIn.set1 (h : TrIn w g t i k) (v : Int) : TrIn (w.setCell ⟨g, 1, none⟩ (.int .i64 v)) g t v k := by
  obtain ⟨c0, c1, c2, fr⟩ := h
  exact ⟨by go_simp, by go_simp, by go_simp, fun j => by rw [World.frozen?_setCell]; exact fr j⟩
theorem TrIn.set2 (h : TrIn w g t i k) (v : Int) : TrIn (w.setCell ⟨g, 2, none⟩ (.int .i64 v)) g t i v := by
  obtain ⟨c0, c1, c2, fr⟩ := h
  exact ⟨by go_simp, by go_simp, by go_simp, fun j => by rw [World.frozen?_setCell]; exact fr j⟩
theorem TrIn.new (w : World) (t i k : Int) (T : TypeId) : TrIn (w.alloc (.cells #[.int .i64 t, .int .i64 i, .int .i64 k] T)) w.heap.size t i k :=
  ⟨by go_simp, by go_simp, by go_simp, fun j => by go_simp⟩
end
theorem load_tr {w : World} {g : Nat} {t i k : Int} (h : TrIn w g t i k) : (loadVar 63 ⟨g, 0, none⟩).run Try.prog w = .ok (.agg #[.int .i64 t, .int .i64 i, .int .i64 k]) w := by
  obtain ⟨c0, c1, c2, fr⟩ := h
  simp [loadVar, go_sem, c0, c1, c2, Result.andThen]
theorem ret_tr {fn : Func} {R : Ending → World → Prop} {a : Act} {w : World} {p : Nat} {g : Nat} {t i k : Int} (h : fn.results = #[.cell p 63]) (hp : a.tmps.getD p undef = .pointer (some ⟨g, 0, none⟩)) (hd : a.defers = [])
    (hh : TrIn w g t i k) (hR : R (.returned (.agg #[.int .i64 t, .int .i64 i, .int .i64 k])) w) : bodyPost Try.prog fn R .ret a w := by
  refine bodyPost_ret (v := .agg #[.int .i64 t, .int .i64 i, .int .i64 k]) ?_ hd hR
  rw [Array.getD_eq_getD_getElem?] at hp
  simp [results, h, hp, asAddr, load_tr hh]

/-- The inside of a transform. -/
def trV (zs : List Int) : Option Tr :=
  if zs.length < 4 then none else if zs.length = 4 then some ⟨zs.getD 0 0, w2 zs 2, 0⟩
  else if zs.length ≠ 8 ∨ w2 zs 4 ≠ 32782 ∨ w2 zs 6 = 0 then none else some ⟨zs.getD 0 0, w2 zs 2, w2 zs 6⟩
/-- What transform returns. -/
def GotTr (w : World) (k : Nat) (r : Option Tr) (e : Ending) (w' : World) : Prop :=
  w.grownBy w' (some k) ∧ match r with
  | none => Thrown e
  | some x => e = .returned (.agg #[.int .i64 x.t, .int .i64 x.i, .int .i64 x.k]) ∧ IntT x
theorem gottr_none {w : World} {k : Nat} {r : Option Tr} {e : Ending} {w' : World} (hg : w.grownBy w' (some k)) (hr : r = none) (ht : Thrown e) : GotTr w k r e w' := by
  subst hr
  exact ⟨hg, ht⟩
theorem intT_of {a b c : Int} (h1 : 0 ≤ a ∧ a ≤ 65535) (h2 : 0 ≤ b ∧ b ≤ 65535) (h3 : 0 ≤ c ∧ c ≤ 65535) : IntT ⟨a, b, c⟩ := by
  refine ⟨⟨?_, ?_⟩, ⟨?_, ?_⟩, ?_, ?_⟩ <;> simp only <;> omega
theorem gottr_some {w : World} {k : Nat} {r : Option Tr} {t i kk : Int} {w' : World} (hg : w.grownBy w' (some k)) (hr : r = some ⟨t, i, kk⟩) (h : IntT ⟨t, i, kk⟩) : GotTr w k r (.returned (.agg #[.int .i64 t, .int .i64 i, .int .i64 kk])) w' := by
  subst hr
  exact ⟨hg, rfl, h⟩

/-- In the midst of transform: what is read, and the two blocks of the result. -/
structure TS (w w1 : World) (k : Nat) (p : Option Addr) (n c : Nat) (xs : List Int) (a : Nat) (t i kk : Int) : Prop where
  ps : PS w1 k p n c xs a
  gr : w.grownBy w1 (some k)
  lk : k < w.heap.size
  rt : TrIn w1 w.heap.size 0 0 0
  ru : TrIn w1 (w.heap.size + 1) t i kk
section
variable {w w1 w2 : World} {k : Nat} {p : Option Addr} {n c : Nat} {xs : List Int} {a b : Nat} {t i kk : Int}
theorem TS.step (h : TS w w1 k p n c xs a t i kk) (hg : w1.grownBy w2 (some k)) (hp : PS w2 k p n c xs b) : TS w w2 k p n c xs b t i kk :=
  ⟨hp, grown_trans h.gr hg, h.lk, h.rt.grown hg (by have := h.lk; simp; omega), h.ru.grown hg (by have := h.lk; simp; omega)⟩
theorem TS.below (h : TS w w1 k p n c xs a t i kk) (hb : Below w1.heap.size w1 w2) : TS w w2 k p n c xs a t i kk := h.step (grown_of_below hb _) (h.ps.below hb)
theorem TS.set (h : TS w w1 k p n c xs a t i kk) (j : Nat) (v : Int) {t' i' k' : Int} (hu : TrIn (w1.setCell ⟨w.heap.size + 1, j, none⟩ (.int .i64 v)) (w.heap.size + 1) t' i' k') : TS w (w1.setCell ⟨w.heap.size + 1, j, none⟩ (.int .i64 v)) k p n c xs a t' i' k' :=
  ⟨h.ps.off (grown_set _ _ _ _) (fun r hr => by cases hr; have := h.lk; omega), grown_set_new h.gr _ _ _ (by omega), h.lk, h.rt.grown (grown_set _ _ _ _) (by simp), hu⟩
end

set_option maxHeartbeats 1600000 in
set_option maxRecDepth 100000 in
theorem transform_any (p : Option Addr) (n c : Nat) (xs : List Int) (w : World) (k : Nat) (h : PS w k p n c xs 0) (r : Option Tr) (hr : trV xs = r) :
    Calls Try.prog 73 #[.pointer (some ⟨k, 0, none⟩)] w (GotTr w k r) := by
  have hlen := h.here.len
  have hrng := h.here.rng
  have hnle := h.here.le
  unfold trV at hr
  rw [hlen] at hr
  obtain ⟨x0, hx0⟩ : ∃ x0, xs.getD 0 0 = x0 := ⟨_, rfl⟩
  obtain ⟨x1, hx1⟩ : ∃ x0, xs.getD 1 0 = x0 := ⟨_, rfl⟩
  obtain ⟨y2, hy2⟩ : ∃ x0, w2 xs 2 = x0 := ⟨_, rfl⟩
  obtain ⟨y4, hy4⟩ : ∃ x0, w2 xs 4 = x0 := ⟨_, rfl⟩
  obtain ⟨y6, hy6⟩ : ∃ x0, w2 xs 6 = x0 := ⟨_, rfl⟩
  have b0 := rng_getD hrng 0
  have b2 := w2_bdP xs hrng 2
  have b6 := w2_bdP xs hrng 6
  rw [hx0] at b0
  rw [hy2] at b2
  rw [hy6] at b6
  rw [hx0, hy2, hy4, hy6] at hr
  have HR := hidden hr
  have HX0 := hidden hx0
  have HX1 := hidden hx1
  have HY2 := hidden hy2
  have HY4 := hidden hy4
  have HY6 := hidden hy6
  have h0 : Below w.heap.size w ((w.alloc (.cells #[.int .i64 0, .int .i64 0, .int .i64 0] 63)).alloc (.cells #[.int .i64 0, .int .i64 0, .int .i64 0] 63)) := ((Below.refl _ w).alloc (Nat.le_refl _) _).alloc (by simp) _
  have HS0 : Hid (TS w ((w.alloc (.cells #[.int .i64 0, .int .i64 0, .int .i64 0] 63)).alloc (.cells #[.int .i64 0, .int .i64 0, .int .i64 0] 63)) k p n c xs 0 0 0 0) := hidden ⟨h.below h0, grown_of_below h0 (some k), h.lt, (TrIn.new w 0 0 0 63).below ((Below.refl _ _).alloc (Nat.le_refl _) _), by
    have := TrIn.new (w.alloc (.cells #[.int .i64 0, .int .i64 0, .int .i64 0] 63)) 0 0 0 63
    simpa using this⟩
  clear hr h hx0 hx1 hy2 hy4 hy6 hrng hlen h0
  go_enter Try.func73, Try.ntmps73
  go_wp2_with fail
  go_at_call 64
  (with_reducible refine (pn1 p n c xs _ k 0 HS0.out.ps x0 HX0.out).mono ?_)
  rintro e w1 ⟨hg1, ⟨hi1, rfl, hps1⟩ | ⟨hi1, ht⟩⟩
  rotate_left
  · subst ht
    exact ⟨rfl, gottr_none (grown_trans HS0.out.gr hg1) (by rw [← HR.out, if_pos (by omega)]) rfl⟩
  have HS1 := hidden (HS0.out.step hg1 hps1)
  clear HS0 hg1 hps1
  have HS2 := hidden (HS1.out.set 0 x0 (HS1.out.ru.set0 x0))
  have u1 := HS1.out.ru.c0
  have fr1 := HS1.out.ru.fr
  go_wp2_with fail
  clear u1 fr1
  go_at_call 64
  (with_reducible refine (pn1 p n c xs _ k 1 HS2.out.ps x1 HX1.out).mono ?_)
  rintro e w2 ⟨hg1, ⟨hi2, rfl, hps1⟩ | ⟨hi2, ht⟩⟩
  rotate_left
  · subst ht
    exact ⟨rfl, gottr_none (grown_trans HS2.out.gr hg1) (by rw [← HR.out, if_pos (by omega)]) rfl⟩
  have HS3 := hidden (HS2.out.step hg1 hps1)
  clear HS1 HS2 hg1 hps1
  go_wp2_with fail
  go_at_call 64
  (with_reducible refine (pn2 p n c xs _ k 2 HS3.out.ps y2 HY2.out).mono ?_)
  rintro e w3 ⟨hg1, ⟨hi3, rfl, hps1⟩ | ⟨hi3, ht⟩⟩
  rotate_left
  · subst ht
    exact ⟨rfl, gottr_none (grown_trans HS3.out.gr hg1) (by rw [← HR.out, if_pos (by omega)]) rfl⟩
  have HS4 := hidden (HS3.out.step hg1 hps1)
  clear HS3 hg1 hps1
  have HS5 := hidden (HS4.out.set 1 y2 (HS4.out.ru.set1 y2))
  have u1 := HS4.out.ru.c1
  have fr1 := HS4.out.ru.fr
  go_wp2_with fail
  clear u1 fr1
  have hr := HR.out
  rw [if_neg (by omega)] at hr
  have HR2 := hidden hr
  clear hr HR HS4
  obtain ⟨b, hb⟩ : ∃ b, b = decide (4 < n) := ⟨_, rfl⟩
  go_at_call 50
  (with_reducible refine (pl p n c xs _ k 4 HS5.out.ps b hb).mono ?_)
  rintro e w6 ⟨rfl, hb6, -⟩
  have HS6 := hidden (HS5.out.below hb6)
  clear hb6 HS5
  have HB := hidden hb
  clear hb
  by_cases h4 : n = 4
  · obtain rfl : b = false := by rw [HB.out]; simp; omega
    have hr := HR2.out
    rw [if_pos h4] at hr
    have HR3 := hidden hr
    clear hr HR2
    go_wp2_with fail
    go_at_call 50
    (with_reducible refine (pl p n c xs _ k 4 HS6.out.ps false HB.out).mono ?_)
    rintro e w7 ⟨rfl, hb7, -⟩
    have HS7 := hidden (HS6.out.below hb7)
    clear HS6 hb7
    have c0 := HS7.out.ru.c0
    have c1 := HS7.out.ru.c1
    have c2 := HS7.out.ru.c2
    have d0 := HS7.out.rt.c0
    have d1 := HS7.out.rt.c1
    have d2 := HS7.out.rt.c2
    have fr := HS7.out.rt.fr
    go_wp2_with (go_at_call 66; (with_reducible refine (need_yes _).mono ?_); rintro e w8 ⟨rfl, rfl⟩)
    refine ret_tr rfl rfl rfl (((HS7.out.rt.set0 x0).set1 y2).set2 0) (gottr_some ?_ HR3.out.symm (intT_of (by omega) b2 (by omega)))
    exact grown_set_new (grown_set_new (grown_set_new HS7.out.gr _ _ _ (Nat.le_refl _)) _ _ _ (Nat.le_refl _)) _ _ _ (Nat.le_refl _)
  · obtain rfl : b = true := by rw [HB.out]; simp; omega
    have hr := HR2.out
    rw [if_neg h4] at hr
    have HR3 := hidden hr
    clear hr HR2
    go_wp2_with fail
    go_at_call 64
    (with_reducible refine (pn2 p n c xs _ k 4 HS6.out.ps y4 HY4.out).mono ?_)
    rintro e w7 ⟨hg1, ⟨hi4, rfl, hps1⟩ | ⟨hi4, ht⟩⟩
    rotate_left
    · subst ht
      exact ⟨rfl, gottr_none (grown_trans HS6.out.gr hg1) (by rw [← HR3.out, if_pos (by omega)]) rfl⟩
    have HS7 := hidden (HS6.out.step hg1 hps1)
    clear HS6 hg1 hps1
    go_wp2_with fail
    go_at_call 66
    (refine (need_any _ _).mono ?_)
    rintro e w8 ⟨rfl, ⟨ht, rfl⟩ | ⟨ht, hth⟩⟩
    rotate_left
    · subst hth
      exact ⟨rfl, gottr_none HS7.out.gr (by rw [← HR3.out, if_pos (by simp at ht; omega)]) rfl⟩
    replace ht : y4 = 32782 := by simpa using ht
    have HE4 := hidden ht
    clear ht
    go_wp2_with fail
    go_at_call 64
    (with_reducible refine (pn2 p n c xs _ k 6 HS7.out.ps y6 HY6.out).mono ?_)
    rintro e w8 ⟨hg1, ⟨hi5, rfl, hps1⟩ | ⟨hi5, ht⟩⟩
    rotate_left
    · subst ht
      exact ⟨rfl, gottr_none (grown_trans HS7.out.gr hg1) (by rw [← HR3.out, if_pos (by omega)]) rfl⟩
    have HS8 := hidden (HS7.out.step hg1 hps1)
    clear HS7 hg1 hps1
    have HS9 := hidden (HS8.out.set 2 y6 (HS8.out.ru.set2 y6))
    have u1 := HS8.out.ru.c2
    have fr1 := HS8.out.ru.fr
    go_wp2_with fail
    clear u1 fr1
    go_at_call 66
    (refine (need_any _ _).mono ?_)
    rintro e w9 ⟨rfl, ⟨ht, rfl⟩ | ⟨ht, hth⟩⟩
    rotate_left
    · subst hth
      exact ⟨rfl, gottr_none HS9.out.gr (by rw [← HR3.out, if_pos (by simp at ht; omega)]) rfl⟩
    replace ht : y6 ≠ 0 := by simpa using ht
    have HE6 := hidden ht
    clear ht
    obtain ⟨b, hb⟩ : ∃ b, b = decide (8 < n) := ⟨_, rfl⟩
    have HB2 := hidden hb
    clear hb HS8
    go_wp2_with fail
    go_at_call 50
    (with_reducible refine (pl p n c xs _ k 8 HS9.out.ps b HB2.out).mono ?_)
    rintro e wA ⟨rfl, hb7, -⟩
    have HSA := hidden (HS9.out.below hb7)
    clear HS9 hb7
    go_wp2_with fail
    go_at_call 66
    (refine (need_any _ _).mono ?_)
    rintro e wB ⟨rfl, ⟨ht, rfl⟩ | ⟨ht, hth⟩⟩
    rotate_left
    · subst hth
      exact ⟨rfl, gottr_none HSA.out.gr (by rw [← HR3.out, if_pos (by have := HB2.out; simp at ht this; rw [ht] at this; simp at this; omega)]) rfl⟩
    have h8 : n = 8 := by have := HB2.out; simp at ht this; rw [ht] at this; simp at this; omega
    have H8 := hidden h8
    clear ht h8
    have c0 := HSA.out.ru.c0
    have c1 := HSA.out.ru.c1
    have c2 := HSA.out.ru.c2
    have d0 := HSA.out.rt.c0
    have d1 := HSA.out.rt.c1
    have d2 := HSA.out.rt.c2
    have fr := HSA.out.rt.fr
    have hr := HR3.out
    rw [if_neg (by have := H8.out; have := HE4.out; have := HE6.out; omega)] at hr
    have HR4 := hidden hr
    clear hr HR3
    go_wp2
    refine ret_tr rfl rfl rfl (((HSA.out.rt.set0 x0).set1 y2).set2 y6) (gottr_some ?_ HR4.out.symm (intT_of (by omega) b2 b6))
    exact grown_set_new (grown_set_new (grown_set_new HSA.out.gr _ _ _ (Nat.le_refl _)) _ _ _ (Nat.le_refl _)) _ _ _ (Nat.le_refl _)
end Go.Proofs.Ytblpkbjbaajdeaa
