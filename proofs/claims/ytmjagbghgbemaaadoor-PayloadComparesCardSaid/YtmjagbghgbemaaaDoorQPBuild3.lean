/-
  What package proposal's Build returns.
-/
import Derived.Test.YtmjagbghgbemaaaDoorQPBuild2
import Derived.Test.YtmjagbghgbemaaaDoorQPCheck3
namespace Go.Proofs.YtmjagbghgbemaaaDoor
open Go.RowKit
set_option linter.unusedVariables false

theorem encPs_step (l : List Pr) (j : Nat) (hj : j < l.length) (x : Pr) (hx : l[j] = x) : encPs (l.drop j) = secE (if j + 1 < l.length then 2 else 0) (inP x) ++ encPs (l.drop (j + 1)) := by
  subst hx
  rw [List.drop_eq_getElem_cons hj, encPs, encP_sec, List.length_drop]
  by_cases h : j + 1 < l.length
  · rw [if_neg (by omega), if_pos h]
  · rw [if_pos (by omega), if_neg h]
theorem inP_le {p : Pr} (h : OkP p) : (inP p).length ≤ 300 := by
  have h1 := lenP_le h
  have h2 := encP_len 0 p
  rw [encP_sec, secE_len] at h2
  omega
theorem inP_rng (p : Pr) (h : ∀ z ∈ p.s, 0 ≤ z ∧ z ≤ 255) : ∀ z ∈ inP p, 0 ≤ z ∧ z ≤ 255 := by
  refine rng_append ?_ (rng_append h ?_)
  · intro z hz; simp at hz; omega
  · have : ∀ l : List Tr, ∀ z ∈ encTs l, 0 ≤ z ∧ z ≤ 255 := by
      intro l
      induction l with
      | nil => intro z hz; simp [encTs] at hz
      | cons a l ih =>
        rw [encTs, encT_sec]
        exact rng_append (secE_rng _ _ (by split <;> omega) (inT_rng a)) ih
    exact this p.ts

/-- The results of Build. -/
def BuiltP (w : World) (L : List Int) (E : Int) (e : Ending) (w' : World) : Prop := ∃ v, e = .returned (.tuple #[v, .int .i64 E]) ∧ Own w' w.heap.size 5 v L ∧ Below w.heap.size w w'

set_option maxHeartbeats 3200000 in
set_option maxRecDepth 100000 in
theorem pbuild_any (p : Option Addr) (n c : Nat) (ls : List PrP) (w : World) (h : RdG KPr DPr w p n c ls) (L : List Int) (E : Int) (hE : buildP (ls.map PrP.pr) = (L, E)) :
    Calls Tryd.prog 63 #[.slice p n c] w (BuiltP w L E) := by
  obtain ⟨i0, hi0, hz0, hz1, hz2⟩ := info_parts Tryd.infoByte
  have hn := h.le
  have HT := hidden h
  have HTL := hidden h.len
  obtain ⟨E1, hE1⟩ : ∃ E1, checkP (ls.map PrP.pr) = E1 := ⟨_, rfl⟩
  have HC := hidden (checkAll_any p n c ls w h E1 hE1)
  unfold buildP at hE
  rw [hE1] at hE
  clear h
  by_cases hz : E1 ≠ 0
  · rw [if_pos hz] at hE
    simp at hE
    obtain ⟨rfl, rfl⟩ := hE
    have hz' : (E1 != 0) = true := by simpa using hz
    go_enter Tryd.func63, Tryd.ntmps63
    go_wp2_with fail
    go_at_call 75
    (with_reducible refine (HC.out).mono ?_)
    rintro e w1 ⟨rfl, hb1⟩
    go_wp2
    go_ret2
    exact ⟨_, rfl, Own.nil _ _ _, hb1⟩
  obtain rfl : E1 = 0 := by omega
  rw [if_neg (by simp)] at hE
  simp at hE
  obtain ⟨rfl, rfl⟩ := hE
  obtain ⟨q0, q1, q2⟩ := checkP_ok hE1
  rw [List.length_map, HTL.out] at q0 q1
  have HOK := hidden q2
  clear hz q2 hE1
  go_enter Tryd.func63, Tryd.ntmps63
  go_wp2_with fail
  go_at_call 75
  (with_reducible refine (HC.out).mono ?_)
  rintro e w1 ⟨rfl, hb1⟩
  have HB1 := hidden hb1
  clear hb1
  go_wp2_with fail
  go_loopw [5, 15] (fun u i wr => ∃ t : Nat, t ≤ n ∧ i = .int .i64 t ∧ ∃ xs : List Int, xs ++ encPs ((ls.map PrP.pr).drop t) = encPs (ls.map PrP.pr) ∧ xs.length ≤ t * 304 ∧ Own wr w.heap.size 5 u xs ∧ Below w.heap.size w wr) (fun _ i _ => n - (intOf i).toNat)
  case atStart => exact ⟨0, by omega, rfl, [], by simp, by simp, Own.nil _ _ _, HB1.out⟩
  case round =>
    obtain ⟨t, ht, rfl, xs, hxs, hxl, ho, hbl⟩ := hrel
    have HO := hidden ho
    have HBL := hidden hbl
    by_cases hlt : ¬ t < n
    · obtain rfl : t = n := by omega
      rw [List.drop_of_length_le (by rw [List.length_map, HTL.out]; exact Nat.le_refl _), encPs, List.append_nil] at hxs
      have HXS2 := hidden hxs
      clear hxs hbl ho
      go_wp2
      go_ret2
      rw [← HXS2.out]
      exact ⟨_, rfl, HO.out, HBL.out⟩
    replace hlt : t < n := by omega
    have hlt' : (t : Int) < n := by omega
    have htj := HT.out.below hbl
    obtain ⟨g, rfl, hc, hokd⟩ := htj.cell t (by rw [HTL.out]; exact hlt)
    obtain ⟨y, hy⟩ : ∃ y, ls[t]'(by rw [HTL.out]; exact hlt) = y := ⟨_, rfl⟩
    have hyo : OkP y.pr := HOK.out _ (by rw [← hy]; exact List.mem_map.2 ⟨_, List.getElem_mem _, rfl⟩)
    have hst := encPs_step (ls.map PrP.pr) t (by rw [List.length_map, HTL.out]; exact hlt) y.pr (by simp [hy])
    rw [hy] at hc hokd
    rw [List.length_map, HTL.out] at hst
    obtain ⟨b, hb⟩ : ∃ b, b = decide (t + 1 < n) := ⟨_, rfl⟩
    obtain ⟨mk, hmk⟩ : ∃ mk : Int, (if b = true then 2 else 0) = mk := ⟨_, rfl⟩
    have hmk' : (if t + 1 < n then (2 : Int) else 0) = mk := by rw [← hmk, hb]; simp
    rw [hmk'] at hst
    have hmb : 0 ≤ mk ∧ mk ≤ 255 := by rw [← hmk]; split <;> omega
    have hbd : decide ((t : Int) + 1 < n) = b := by rw [hb]; simp; omega
    have c0 := hc 0 _ rfl
    have c1 := hc 1 _ rfl
    have c2 := hc 2 _ rfl
    have c3 := hc 3 _ rfl
    simp only [KPr, Nat.add_zero] at c0 c1 c2 c3
    obtain ⟨M, hML⟩ : ∃ M : Nat, (inP y.pr).length = M := ⟨_, rfl⟩
    have hM8 : M ≤ 300 := by rw [← hML]; exact inP_le hyo
    have hnx : (xs ++ secE mk (inP y.pr)) ++ encPs ((ls.map PrP.pr).drop (t + 1)) = encPs (ls.map PrP.pr) := by rw [List.append_assoc, ← hst]; exact hxs
    have hnl : (xs ++ secE mk (inP y.pr)).length ≤ (t + 1) * 304 := by rw [List.length_append, secE_len, hML]; omega
    have HNX := hidden hnx
    have HNL := hidden hnl
    have HMK := hidden hmk
    have HT1 := hidden (fun w (h : OkD w y) => proposal_w y w h hyo M hML)
    have hal : Below wr.heap.size wr (wr.alloc (.cells #[.int .i64 y.n, .int .i64 y.p, .slice y.sp y.sn y.sc, .slice y.tp y.tn y.tc] 79)) := (Below.refl _ _).alloc (Nat.le_refl _) _
    have HOKA := hidden (DPr.keep hokd (cell_below hal))
    obtain ⟨W1, hW1⟩ : ∃ W1, wr.alloc (.cells #[.int .i64 y.n, .int .i64 y.p, .slice y.sp y.sn y.sc, .slice y.tp y.tn y.tc] 79) = W1 := ⟨_, rfl⟩
    rw [hW1] at HOKA
    have HOKD : Hid (OkD W1.drew y) := hidden (DPr.keep HOKA.out (cell_below (drew_below (B := W1.heap.size) ⟨1, rfl⟩)))
    generalize inP y.pr = ys at *
    clear hy hst hmk hmk' hyo hnx hnl hb hxs htj hokd
    obtain ⟨yn, yp, sp, sn, sc, s, tp, tn, tc, ts⟩ := y
    simp only at HT1 hW1 hal c0 c1 c2 c3 HOKD
    clear hc
    have e0 : W1.drew.cell? ⟨wr.heap.size, 0, none⟩ = some (.int .i64 yn) := by subst hW1; exact World.cell?_alloc_at _ _ _ _ rfl
    have e1 : W1.drew.cell? ⟨wr.heap.size, 1, none⟩ = some (.int .i64 yp) := by subst hW1; exact World.cell?_alloc_at _ _ _ _ rfl
    have e2 : W1.drew.cell? ⟨wr.heap.size, 2, none⟩ = some (.slice sp sn sc) := by subst hW1; exact World.cell?_alloc_at _ _ _ _ rfl
    have e3 : W1.drew.cell? ⟨wr.heap.size, 3, none⟩ = some (.slice tp tn tc) := by subst hW1; exact World.cell?_alloc_at _ _ _ _ rfl
    rw [hW1] at hal
    have HOD : Hid (Own W1.drew w.heap.size 5 u5 xs) := hidden ((ho.below hal).below (drew_below ⟨1, rfl⟩))
    have HBD : Hid (Below w.heap.size w W1.drew) := hidden (hbl.trans ((hal.mono hbl.size).trans (drew_below ⟨1, rfl⟩)))
    have hwt : IntKind.i64.wrap ((t : Int) + 1) = (t : Int) + 1 := by rw [IntKind.wrap_i64]; omega
    clear hal ho hbl HOKA
    go_wp2_with fail
    go_region_law (first
      | (go_simp; go_at_call 77; (with_reducible refine (mark_any 2 b _).mono ?_); rintro e wM ⟨rfl, rfl⟩; rw [HMK.out])
      | (go_simp; go_at_call 78; (with_reducible refine (HT1.out _ HOKD.out).mono ?_); rintro e wA ⟨qa, da, rfl, hoA, hyA, hbA⟩)
      | (go_simp; go_at_call 76; (with_reducible refine (section_w mk hmb qa M da ys _ hyA (by omega)).mono ?_); rintro e wB ⟨qb, db, rfl, hoB, hyB, hbB⟩)
      | (refine step_append_byt _ (by rfl) _ _ 22 (by rfl) w.heap.size 5 i0 (.int .u8 0) Tryd.underlying22 hi0 hz0 hz1 hz2 rfl _ _ (by rfl) ((HOD.out.below hbA).below hbB) _ _ _ _ _ (by rfl) hyB (by rfl) (by omega) (by have := HBD.out.size; have := hbA.size; have := hbB.size; omega) ?_; intro v6 w6 ho6 hg6))
    all_goals
      have hbB1 := HBD.out.trans (hbA.mono HBD.out.size)
      have hbB2 := hbB1.trans (hbB.mono hbB1.size)
      have HB6 := hidden (hbB2.grown hg6 hbB2.size (fun k hk => (((HOD.out.below hbA).below hbB).lt k hk).1))
      have HO6 := hidden ho6
      clear hbB1 hbB2 hg6 ho6 hoA hoB hyA hyB hbA hbB HOD HBD HO HBL
      go_wp2
      go_roundw
      case rel => exact ⟨t + 1, by omega, by go_num, _, HNX.out, HNL.out, HO6.out, HB6.out⟩
      case measure => simp [intOf]; omega
end Go.Proofs.YtmjagbghgbemaaaDoor
