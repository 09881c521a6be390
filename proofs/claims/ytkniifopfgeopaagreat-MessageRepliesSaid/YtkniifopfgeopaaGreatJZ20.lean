/-
  What package proposal writes of a proposal.
  What package proposal's Check of one proposal, and of all, returns.
-/
import Derived.Test.YtkniifopfgeopaaGreatJZ2
import Derived.Test.YtkniifopfgeopaaGreatJZ19
import Derived.Deep.RegionLaw
namespace Go.Proofs.YtkniifopfgeopaaGreat
open Go.RowKit
set_option linter.unusedVariables false

theorem encTs_step (l : List Tr) (j : Nat) (hj : j < l.length) (x : Tr) (hx : l[j] = x) : encTs (l.drop j) = secE (if j + 1 < l.length then 3 else 0) (inT x) ++ encTs (l.drop (j + 1)) := by
  subst hx
  rw [List.drop_eq_getElem_cons hj, encTs, encT_sec, List.length_drop]
  by_cases h : j + 1 < l.length
  · rw [if_neg (by omega), if_pos h]
  · rw [if_pos (by omega), if_neg h]
theorem inT_len (x : Tr) : (inT x).length = if x.k ≠ 0 then 8 else 4 := by
  unfold inT
  split <;> simp [be_len]
theorem inT_rng (x : Tr) : ∀ z ∈ inT x, 0 ≤ z ∧ z ≤ 255 := by
  unfold inT
  refine rng_append ?_ (rng_append (be_rng _ _) ?_)
  · intro z hz
    simp at hz
    omega
  · split
    · exact rng_append (be_rng _ _) (be_rng _ _)
    · intro z hz; simp at hz

set_option maxHeartbeats 3200000 in
set_option maxRecDepth 100000 in
theorem proposal_w (x : PrP) (w : World) (h : OkD w x) (hok : OkP x.pr) (N : Nat) (hN : (inP x.pr).length = N) :
    Calls Tryz.prog 83 #[.agg #[.int .i64 x.n, .int .i64 x.p, .slice x.sp x.sn x.sc, .slice x.tp x.tn x.tc]] w (OwnR w N (inP x.pr)) := by
  obtain ⟨i0, hi0, hz0, hz1, hz2⟩ := info_parts Tryz.infoByte
  have hs : x.s.length = x.sn := h.s.len
  have ht : x.ts.length = x.tn := h.ts.len
  have HT := hidden h.ts
  have HSP := hidden h.s
  have h1 := hok.n
  have h2 := hok.p
  have h3 := hok.s
  have h4 := hok.few
  have HOK := hidden hok.ts
  have HN := hidden hN
  clear h hN hok
  obtain ⟨n, p, sp, sn, sc, s, tp, tn, tc, ts⟩ := x
  simp only [PrP.pr] at *
  have HIN : Hid (inP ⟨n, p, s, ts⟩ = [n % 256, p % 256, (sn : Int) % 256, (tn : Int) % 256] ++ (s ++ encTs ts)) := hidden (by rw [inP, hs, ht])
  rw [hs] at h3
  rw [ht] at h4
  have HS := hidden hs
  have HTL := hidden ht
  clear hs ht
  have hw1 : IntKind.u64.wrap n = n := wraps_u64 _ (by omega) (by omega)
  have hw2 : IntKind.u64.wrap p = p := wraps_u64 _ (by omega) (by omega)
  have hw3 : IntKind.u64.wrap (sn : Int) = sn := wraps_u64 _ (by omega) (by omega)
  have hw4 : IntKind.u64.wrap (tn : Int) = tn := wraps_u64 _ (by omega) (by omega)
  have hal : Below w.heap.size w (w.alloc (.cells #[.int .i64 n, .int .i64 p, .slice sp sn sc, .slice tp tn tc] 109)) := (Below.refl _ _).alloc (Nat.le_refl _) _
  have hs0 : (w.alloc (.cells #[.int .i64 n, .int .i64 p, .slice sp sn sc, .slice tp tn tc] 109)).heap.size = w.heap.size + 1 := by simp
  obtain ⟨W0, hW0⟩ : ∃ W0, w.alloc (.cells #[.int .i64 n, .int .i64 p, .slice sp sn sc, .slice tp tn tc] 109) = W0 := ⟨_, rfl⟩
  have c0 : W0.cell? ⟨w.heap.size, 0, none⟩ = some (.int .i64 n) := by subst hW0; exact World.cell?_alloc_at _ _ _ _ rfl
  have c1 : W0.cell? ⟨w.heap.size, 1, none⟩ = some (.int .i64 p) := by subst hW0; exact World.cell?_alloc_at _ _ _ _ rfl
  have c2 : W0.cell? ⟨w.heap.size, 2, none⟩ = some (.slice sp sn sc) := by subst hW0; exact World.cell?_alloc_at _ _ _ _ rfl
  have c3 : W0.cell? ⟨w.heap.size, 3, none⟩ = some (.slice tp tn tc) := by subst hW0; exact World.cell?_alloc_at _ _ _ _ rfl
  rw [hW0] at hal hs0
  have HAL := hidden hal
  have HS0 := hidden hs0
  have C1 := hidden c1
  have C2 := hidden c2
  have C3 := hidden c3
  go_enter Tryz.func83, Tryz.ntmps83
  go_wp2_with fail
  go_at_call 30
  clear hW0 hal c0 c1 c2 c3 hs0
  (with_reducible refine (put_r none 0 0 [] W0 (Byt.nil _ _ _ (Nat.zero_le _)) (by omega) n (by omega) 1 (by omega) (by omega) 1 rfl [n % 256] (by simp [be]) 1 rfl).mono ?_)
  rintro e w1 ⟨q1, d1, rfl, ho1, hy1, hb1⟩
  have HY1 := hidden hy1
  have HB1 := hidden hb1
  have c1 := cell_below hb1 _ _ C1.out
  clear ho1 hy1 hb1
  go_wp2_with fail
  go_at_call 30
  (with_reducible refine (put_r q1 1 d1 [n % 256] w1 HY1.out (by omega) p (by omega) 1 (by omega) (by omega) 1 rfl [n % 256, p % 256] (by simp [be]) 2 rfl).mono ?_)
  rintro e w2 ⟨q2, d2, rfl, ho2, hy2, hb2⟩
  have HY2 := hidden hy2
  have HB2 := hidden (HB1.out.trans (hb2.mono HB1.out.size))
  have c2 := cell_below HB2.out _ _ C2.out
  clear ho2 hy2 hb2 HY1 HB1 c1
  go_wp2_with fail
  go_at_call 30
  (with_reducible refine (put_r q2 2 d2 [n % 256, p % 256] w2 HY2.out (by omega) sn (by omega) 1 (by omega) (by omega) 1 rfl [n % 256, p % 256, (sn : Int) % 256] (by simp [be]) 3 rfl).mono ?_)
  rintro e w3 ⟨q3, d3, rfl, ho3, hy3, hb3⟩
  have HY3 := hidden hy3
  have HB3 := hidden (HB2.out.trans (hb3.mono HB2.out.size))
  have c3 := cell_below HB3.out _ _ C3.out
  clear ho3 hy3 hb3 HY2 HB2 c2
  go_wp2_with fail
  go_at_call 30
  (with_reducible refine (put_r q3 3 d3 [n % 256, p % 256, (sn : Int) % 256] w3 HY3.out (by omega) tn (by omega) 1 (by omega) (by omega) 1 rfl [n % 256, p % 256, (sn : Int) % 256, (tn : Int) % 256] (by simp [be]) 4 rfl).mono ?_)
  rintro e w4 ⟨q4, d4, rfl, ho4, hy4, hb4⟩
  have HB4 := hidden (HB3.out.trans (hb4.mono HB3.out.size))
  have HO4 := hidden (ho4.mono (show w.heap.size + 1 ≤ w3.heap.size by have := HB3.out.size; have := HS0.out; omega))
  have HSP4 := hidden ((HSP.out.below HAL.out).below HB4.out)
  have c2 := cell_below HB4.out _ _ C2.out
  have c3' := cell_below HB4.out _ _ C3.out
  clear ho4 hy4 hb4 HY3 HB3 c3
  go_wp2_with (at_builtin; go_loud (refine wpList_append_byt _ rfl _ _ 22 rfl (w.heap.size + 1) 5 i0 (.int .u8 0) Tryz.underlying22 hi0 hz0 hz1 hz2 rfl _ _ rfl HO4.out _ _ _ _ _ rfl HSP4.out rfl ?c1 ?c2 ?_))
  case c1 => simp; omega
  case c2 => have := HB4.out.size; have := HS0.out; omega
  intro v5 w5 ho5 hg5
  have hb4w : Below w.heap.size w w4 := HAL.out.trans (HB4.out.mono HAL.out.size)
  have hr5 : ∀ k, (Value.slice q4 4 d4).ownBlock = some k → w.heap.size ≤ k := fun k hk => Nat.le_trans (Nat.le_succ _) (HO4.out.lt k hk).1
  have HB5 := hidden (hb4w.grown hg5 hb4w.size hr5)
  have c3 : w5.cell? ⟨w.heap.size, 3, none⟩ = some (.slice tp tn tc) := hg5.cell c3' (fun e => Nat.lt_irrefl _ (HO4.out.lt _ e.symm).1)
  have HC3 := hidden c3
  have HO5 := hidden ho5
  clear hg5 ho5 c3' c2 HO4 hb4w hr5
  go_wp2_with fail
  go_loopw [3, 34] (fun u i wr => ∃ t : Nat, t ≤ tn ∧ i = .int .i64 t ∧ ∃ xs : List Int, xs ++ encTs (ts.drop t) = inP ⟨n, p, s, ts⟩ ∧ xs.length ≤ 12 + t * 12 ∧ Own wr (w.heap.size + 1) 5 u xs ∧ wr.cell? ⟨w.heap.size, 3, none⟩ = some (.slice tp tn tc) ∧ Below w.heap.size w wr ∧ w.heap.size + 1 ≤ wr.heap.size) (fun _ i _ => tn - (intOf i).toNat)
  case atStart => exact ⟨0, by omega, rfl, _, by rw [HIN.out, List.drop_zero]; simp, by simp; have := HS.out; omega, HO5.out, HC3.out, HB5.out, by have := HB5.out.size; have := HB4.out.size; have := HS0.out; have := World.block_lt_of_cell? _ _ HC3.out; simp at this; omega⟩
  case round =>
    obtain ⟨t, ht, rfl, xs, hxs, hxl, ho, hbx, hbl, hsz⟩ := hrel
    have HO := hidden ho
    have HBL := hidden hbl
    have HXS := hidden hxs
    have HBX := hidden hbx
    by_cases hlt : ¬ t < tn
    · obtain rfl : t = tn := by omega
      rw [List.drop_of_length_le (by rw [HTL.out]; exact Nat.le_refl _), encTs, List.append_nil] at hxs
      have HXS2 := hidden hxs
      have hbytes : ∀ z ∈ xs, 0 ≤ z ∧ z ≤ 255 := by
        rw [hxs, HIN.out]
        refine rng_append ?_ (rng_append HSP.out.rng ?_)
        · intro z hz; simp at hz; omega
        · have : ∀ l : List Tr, ∀ z ∈ encTs l, 0 ≤ z ∧ z ≤ 255 := by
            intro l
            induction l with
            | nil => intro z hz; simp [encTs] at hz
            | cons a l ih =>
              rw [encTs, encT_sec]
              exact rng_append (secE_rng _ _ (by split <;> omega) (inT_rng a)) ih
          exact this ts
      obtain ⟨q, d, rfl, hby⟩ := HO.out.bytN rfl (show xs.length = N by rw [hxs]; exact HN.out) hbytes
      have HBY := hidden hby
      clear hxs hbl ho hbytes hby
      go_wp2
      go_ret
      rw [← HXS2.out]
      exact ⟨q, d, rfl, HO.out.mono (by omega), HBY.out, HBL.out⟩
    replace hlt : t < tn := by omega
    have hlt' : (t : Int) < tn := by omega
    obtain ⟨g, rfl, hc, hint⟩ := (HT.out.below hbl).cell t (by rw [HTL.out]; exact hlt)
    obtain ⟨y, hy⟩ : ∃ y, ts[t]'(by rw [HTL.out]; exact hlt) = y := ⟨_, rfl⟩
    have hyo := HOK.out _ (List.getElem_mem (by rw [HTL.out]; exact hlt) : ts[t]'(by rw [HTL.out]; exact hlt) ∈ ts)
    have hst := encTs_step ts t (by rw [HTL.out]; exact hlt) y hy
    rw [hy] at hc hyo
    rw [HTL.out] at hst
    obtain ⟨b, hb⟩ : ∃ b, b = decide (t + 1 < tn) := ⟨_, rfl⟩
    obtain ⟨mk, hmk⟩ : ∃ mk : Int, (if b = true then 3 else 0) = mk := ⟨_, rfl⟩
    have hmk' : (if t + 1 < tn then (3 : Int) else 0) = mk := by rw [← hmk, hb]; simp
    rw [hmk'] at hst
    have hmb : 0 ≤ mk ∧ mk ≤ 255 := by rw [← hmk]; split <;> omega
    have hbd : decide ((t : Int) + 1 < tn) = b := by rw [hb]; simp; omega
    obtain ⟨yt, yi, yk⟩ := y
    have c0 := hc 0 _ rfl
    have c1 := hc 1 _ rfl
    have c2 := hc 2 _ rfl
    simp only [KTr, Nat.add_zero] at c0 c1 c2
    obtain ⟨M, hM⟩ : ∃ M : Nat, M = if yk ≠ 0 then 8 else 4 := ⟨_, rfl⟩
    have hM8 : M ≤ 8 := by rw [hM]; split <;> omega
    have hML : (inT ⟨yt, yi, yk⟩).length = M := by rw [inT_len, hM]
    have hnx : (xs ++ secE mk (inT ⟨yt, yi, yk⟩)) ++ encTs (ts.drop (t + 1)) = inP ⟨n, p, s, ts⟩ := by rw [List.append_assoc, ← hst]; exact hxs
    have hnl : (xs ++ secE mk (inT ⟨yt, yi, yk⟩)).length ≤ 12 + (t + 1) * 12 := by rw [List.length_append, secE_len, hML]; omega
    have HNX := hidden hnx
    have HNL := hidden hnl
    have HMK := hidden hmk
    have HT1 := hidden (fun w => transform_w ⟨yt, yi, yk⟩ w hyo M hM)
    have HIR := hidden (inT_rng ⟨yt, yi, yk⟩)
    generalize inT ⟨yt, yi, yk⟩ = ys at *
    clear hc hint hy hst hmk hmk' hyo hnx hnl hM hb hxs
    simp only at HT1
    have hal : Below wr.heap.size wr (wr.alloc (.cells #[.int .i64 yt, .int .i64 yi, .int .i64 yk] 112)) := (Below.refl _ _).alloc (Nat.le_refl _) _
    obtain ⟨W1, hW1⟩ : ∃ W1, wr.alloc (.cells #[.int .i64 yt, .int .i64 yi, .int .i64 yk] 112) = W1 := ⟨_, rfl⟩
    have e0 : W1.drew.cell? ⟨wr.heap.size, 0, none⟩ = some (.int .i64 yt) := by subst hW1; exact World.cell?_alloc_at _ _ _ _ rfl
    have e1 : W1.drew.cell? ⟨wr.heap.size, 1, none⟩ = some (.int .i64 yi) := by subst hW1; exact World.cell?_alloc_at _ _ _ _ rfl
    have e2 : W1.drew.cell? ⟨wr.heap.size, 2, none⟩ = some (.int .i64 yk) := by subst hW1; exact World.cell?_alloc_at _ _ _ _ rfl
    rw [hW1] at hal
    have e3 : W1.drew.cell? ⟨w.heap.size, 3, none⟩ = some (.slice (some ⟨g, 0, none⟩) tn tc) := cell_below hal _ _ hbx
    have HOD : Hid (Own W1.drew (w.heap.size + 1) 5 u3 xs) := hidden ((ho.below hal).below (drew_below ⟨1, rfl⟩))
    have HBD : Hid (Below w.heap.size w W1.drew) := hidden (hbl.trans ((hal.mono hbl.size).trans (drew_below ⟨1, rfl⟩)))
    have HSD : Hid (w.heap.size + 1 ≤ W1.drew.heap.size) := hidden (Nat.le_trans hsz hal.size)
    have E3 := hidden e3
    clear hal ho hbl hbx
    go_wp2_with fail
    have hwt : IntKind.i64.wrap ((t : Int) + 1) = (t : Int) + 1 := by rw [IntKind.wrap_i64]; omega
    go_region_law (first
      | (go_simp; go_at_call 82; (with_reducible refine (mark_any 3 b _).mono ?_); rintro e wM ⟨rfl, rfl⟩; rw [HMK.out])
      | (go_simp; go_at_call 102; (with_reducible refine (HT1.out _).mono ?_); rintro e wA ⟨qa, da, rfl, hoA, hyA, hbA⟩; have e3 := cell_below hbA _ _ E3.out)
      | (go_simp; go_at_call 81; (with_reducible refine (section_w mk hmb qa M da ys _ hyA (by omega)).mono ?_); rintro e wB ⟨qb, db, rfl, hoB, hyB, hbB⟩; have e3 := cell_below hbB _ _ (cell_below hbA _ _ E3.out))
      | (refine step_append_byt _ (by rfl) _ _ 22 (by rfl) (w.heap.size + 1) 5 i0 (.int .u8 0) Tryz.underlying22 hi0 hz0 hz1 hz2 rfl _ _ (by rfl) ((HOD.out.below hbA).below hbB) _ _ _ _ _ (by rfl) hyB (by rfl) (by omega) (by have := HSD.out; have := hbA.size; have := hbB.size; omega) ?_; intro v6 w6 ho6 hg6))
    all_goals
      have hbB1 := HBD.out.trans (hbA.mono HBD.out.size)
      have hbB2 := hbB1.trans (hbB.mono hbB1.size)
      have hob := (HOD.out.below hbA).below hbB
      have hr6 : ∀ k, u3.ownBlock = some k → w.heap.size ≤ k := fun k hk => Nat.le_trans (Nat.le_succ _) (hob.lt k hk).1
      have HB6 := hidden (hbB2.grown hg6 hbB2.size hr6)
      have HX6 := hidden (hg6.cell (cell_below hbB _ _ (cell_below hbA _ _ E3.out)) (fun e => Nat.lt_irrefl _ (hob.lt _ e.symm).1))
      have HS6 := hidden (Nat.le_trans HSD.out (Nat.le_trans hbA.size (Nat.le_trans hbB.size hg6.size)))
      have HO6 := hidden ho6
      clear hbB1 hbB2 hob hr6 hg6 ho6 hoA hoB hyA hyB hbA hbB HOD HBD HO HBL
      go_wp2
      go_roundw
      case rel => exact ⟨t + 1, by omega, by go_num, _, HNX.out, HNL.out, HO6.out, HX6.out, HB6.out, HS6.out⟩
      case measure => simp [intOf]; omega
end Go.Proofs.YtkniifopfgeopaaGreat

namespace Go.Proofs.YtkniifopfgeopaaGreat
open Go.RowKit
set_option linter.unusedVariables false

set_option maxHeartbeats 1600000 in
set_option maxRecDepth 100000 in
theorem checkOne_any (x : PrP) (k : Int) (w : World) (h : OkD w x) :
    Calls Tryz.prog 101 #[.agg #[.int .i64 x.n, .int .i64 x.p, .slice x.sp x.sn x.sc, .slice x.tp x.tn x.tc], .int .i64 k] w (ErrNew w (errPr x.pr k)) := by
  obtain ⟨E, hE⟩ : ∃ E, errPr x.pr k = E := ⟨_, rfl⟩
  rw [hE]
  unfold errPr PrP.pr at hE
  simp only at hE
  have hs : x.s.length = x.sn := h.s.len
  have ht : x.ts.length = x.tn := h.ts.len
  rw [hs, ht] at hE
  have hsn := h.s.le
  have htn := h.ts.le
  have HT := hidden h.ts
  have HE := hidden hE
  clear h hE hs
  obtain ⟨n, p, sp, sn, sc, s, tp, tn, tc, ts⟩ := x
  simp only at *
  have HTL := hidden ht
  clear ht
  by_cases h1 : n ≠ k
  · have hE := HE.out
    rw [if_pos h1] at hE
    have h1' : (n != k) = true := by simpa using h1
    go_enter Tryz.func101, Tryz.ntmps101
    go_wp2
    go_ret
    subst hE
    exact ⟨rfl, (Below.refl _ w).alloc (Nat.le_refl _) _⟩
  obtain rfl : n = k := by omega
  by_cases h2 : p < 1 ∨ 3 < p
  · have p1 : (p != 1) = true := by simp; omega
    have p2 : (p != 2) = true := by simp; omega
    have p3 : (p != 3) = true := by simp; omega
    have hE := HE.out
    rw [if_neg h1, if_pos h2] at hE
    clear h2
    go_enter Tryz.func101, Tryz.ntmps101
    go_wp2
    go_ret
    subst hE
    exact ⟨rfl, (Below.refl _ w).alloc (Nat.le_refl _) _⟩
  have hE0 := HE.out
  rw [if_neg h1, if_neg h2] at hE0
  have HE0 := hidden hE0
  clear hE0 HE
  obtain ⟨b, hb⟩ : ∃ b : Bool, b = true ↔ (p = 1 ∧ (sn = 0 ∨ sn = 8)) ∨ (p ≠ 1 ∧ sn = 4) := ⟨decide ((p = 1 ∧ (sn = 0 ∨ sn = 8)) ∨ (p ≠ 1 ∧ sn = 4)), by rw [decide_eq_true_iff]⟩
  have HB := hidden hb
  have HS := hidden (fun w => isSpi_any p sn w b hb)
  have hp : p = 1 ∨ p = 2 ∨ p = 3 := by omega
  clear h2 hb
  cases b with
  | false =>
    have hE := HE0.out
    have hB := HB.out
    simp at hB
    rw [if_pos (by omega)] at hE
    have HE5 := hidden hE
    clear hE HE0 HB hB
    rcases hp with rfl | rfl | rfl
    all_goals
      go_enter Tryz.func101, Tryz.ntmps101
      go_wp2_with (go_at_call 111; (with_reducible refine (HS.out _).mono ?_); rintro e w1 ⟨rfl, rfl⟩)
      go_ret
      have hE := HE5.out
      subst hE
      exact ⟨rfl, (Below.refl _ w).alloc (Nat.le_refl _) _⟩
  | true =>
    have hE := HE0.out
    have hB := HB.out
    simp at hB
    rw [if_neg (by omega)] at hE
    have HE1 := hidden hE
    clear hE HE0 HB hB
    rcases hp with rfl | rfl | rfl
    all_goals
      by_cases h7 : tn = 0
      · have hE := HE1.out
        rw [if_pos h7] at hE
        subst h7
        go_enter Tryz.func101, Tryz.ntmps101
        go_wp2_with (go_at_call 111; (with_reducible refine (HS.out _).mono ?_); rintro e w1 ⟨rfl, rfl⟩)
        go_ret
        subst hE
        exact ⟨rfl, (Below.refl _ w).alloc (Nat.le_refl _) _⟩
      by_cases h8 : 24 < tn
      · have hE := HE1.out
        rw [if_neg h7, if_pos h8] at hE
        have h7' : ((tn : Int) == 0) = false := by simp; omega
        go_enter Tryz.func101, Tryz.ntmps101
        go_wp2_with (go_at_call 111; (with_reducible refine (HS.out _).mono ?_); rintro e w1 ⟨rfl, rfl⟩)
        go_ret
        subst hE
        exact ⟨rfl, (Below.refl _ w).alloc (Nat.le_refl _) _⟩
      have hE := HE1.out
      rw [if_neg h7, if_neg h8] at hE
      have HEL := hidden hE
      have h7' : ((tn : Int) == 0) = false := by simp; omega
      clear hE HE1
      go_enter Tryz.func101, Tryz.ntmps101
      go_wp2_with (go_at_call 111; (with_reducible refine (HS.out _).mono ?_); rintro e w1 ⟨rfl, rfl⟩)
      go_loopw [47] (fun i wr => ∃ j : Nat, j ≤ tn ∧ i = .int .i64 j ∧ errTrs (ts.take j) (ts.drop j) = E ∧ wr.cell? ⟨w.heap.size, 3, none⟩ = some (.slice tp tn tc) ∧ Below w.heap.size w wr) (fun i _ => tn - (intOf i).toNat)
      case atStart => exact ⟨0, by omega, rfl, by simpa using HEL.out, by go_simp, (Below.refl _ w).alloc (Nat.le_refl _) _⟩
      case round =>
        obtain ⟨j, hj, rfl, herr, hbox, hbel⟩ := hrel
        have HBL := hidden hbel
        have HBX := hidden hbox
        by_cases hlt : ¬ j < tn
        · obtain rfl : j = tn := by omega
          rw [List.drop_of_length_le (by rw [HTL.out]; exact Nat.le_refl _), errTrs] at herr
          have HER := hidden herr
          clear herr hbel
          go_wp2
          go_ret
          have hE := HER.out
          subst hE
          exact ⟨rfl, HBL.out⟩
        replace hlt : j < tn := by omega
        have hlt' : (j : Int) < tn := by omega
        have htj := HT.out.below hbel
        obtain ⟨g, rfl, hc, hint⟩ := htj.cell j (by rw [HTL.out]; exact hlt)
        have HTJ := hidden htj
        have hcap : j ≤ tc := by have := htj.cap; omega
        have hst := errTrs_step ts j (by rw [HTL.out]; exact hlt)
        rw [herr] at hst
        obtain ⟨y, hy⟩ : ∃ y, ts[j]'(by rw [HTL.out]; exact hlt) = y := ⟨_, rfl⟩
        rw [hy] at hst hc hint
        obtain ⟨t, i, kk⟩ := y
        have c0 := hc 0 _ rfl
        have c1 := hc 1 _ rfl
        have c2 := hc 2 _ rfl
        simp only [KTr, Nat.add_zero] at c0 c1 c2
        have HST := hidden hst
        clear hst herr hbel hc hy hint htj
        simp only at HST
        have HBA : Hid (Below w.heap.size w (wr.alloc (.cells #[.int .i64 t, .int .i64 i, .int .i64 kk] 112))) := hidden (HBL.out.alloc HBL.out.size _)
        by_cases hbad : t < 1 ∨ 5 < t ∨ i < 0 ∨ 65535 < i ∨ kk < 0 ∨ 65535 < kk
        · have hE := HST.out
          rw [if_pos hbad] at hE
          have HE9 := hidden hE
          have HC := hidden (fun w => inRange_no t i kk w hbad)
          clear hE HST hbad
          go_wp2_with (go_at_call 112; (with_reducible refine (HC.out _).mono ?_); rintro e w1 ⟨rfl, hb1⟩)
          go_ret
          have hE := HE9.out
          subst hE
          exact ⟨rfl, HBA.out.trans (hb1.mono HBA.out.size)⟩
        have hst := HST.out
        rw [if_neg hbad] at hst
        have HS2 := hidden hst
        have HC := hidden (fun w => inRange_yes t i kk w hbad)
        have hbx := HBX.out
        clear hst HST hbad
        go_wp2_with fail
        go_at_call 112
        (with_reducible refine (HC.out _).mono ?_)
        rintro e w1 ⟨rfl, hb1⟩
        have hB1 := HBA.out.trans (hb1.mono HBA.out.size)
        have hb0 := ((Below.refl wr.heap.size wr).alloc (Nat.le_refl _) (.cells #[.int .i64 t, .int .i64 i, .int .i64 kk] 112)).trans (hb1.mono (by simp))
        have d3 := cell_below hb0 _ _ HBX.out
        have e0 := cell_below hb1 ⟨wr.heap.size, 0, none⟩ (.int .i64 t) (World.cell?_alloc_at _ _ _ _ rfl)
        have e1 := cell_below hb1 ⟨wr.heap.size, 1, none⟩ (.int .i64 i) (World.cell?_alloc_at _ _ _ _ rfl)
        have e2 := cell_below hb1 ⟨wr.heap.size, 2, none⟩ (.int .i64 kk) (World.cell?_alloc_at _ _ _ _ rfl)
        obtain ⟨bc, hbc⟩ : ∃ b : Bool, b = true ↔ (⟨t, i, kk⟩ : Tr) ∈ ts.take j := ⟨decide ((⟨t, i, kk⟩ : Tr) ∈ ts.take j), by rw [decide_eq_true_iff]⟩
        have HBC := hidden hbc
        have htk := (HTJ.out.below hb0).front j (by omega)
        have HTK : Hid (RdG KTr DTr w1.drew (some ⟨g, 0, none⟩) j tc (ts.take j)) := hidden (htk.below (drew_below ⟨1, rfl⟩))
        have HCT := hidden (contains_any _ _ _ _ w1.drew HTK.out t i kk bc hbc)
        have HB1 := hidden hB1
        have HD3 := hidden d3
        clear hB1 hb0 hb1 hbc htk hbx c0 c1 c2
        go_wp2_with fail
        go_region_law ((go_simp; go_at_call 113; (with_reducible refine (HCT.out).mono ?_); rintro e wA ⟨rfl, hbA⟩))
        all_goals
          have HBW := hidden (HB1.out.trans ((drew_below (B := w.heap.size) (w := w1) (w' := w1.drew) ⟨1, rfl⟩).trans (hbA.mono (by have := HB1.out.size; simpa using this))))
          have HDW := hidden (cell_below (drew_below (B := w1.heap.size) (w := w1) (w' := w1.drew) ⟨1, rfl⟩) _ _ HD3.out)
          have HDX := hidden (cell_below hbA _ _ HDW.out)
          clear hbA
          cases bc with
          | true =>
            have hE := HS2.out
            rw [if_pos (HBC.out.1 rfl)] at hE
            have HE9 := hidden hE
            clear hE HS2
            go_wp2
            go_ret
            have hE := HE9.out
            subst hE
            exact ⟨rfl, HBW.out⟩
          | false =>
            have hE := HS2.out
            rw [if_neg (fun h => by have := HBC.out.2 h; cases this)] at hE
            have HE9 := hidden hE
            clear hE HS2
            go_wp2
            go_roundw
            case rel => exact ⟨j + 1, by omega, by go_num, HE9.out.symm, HDX.out, HBW.out⟩
            case measure => simp [intOf]; omega
end Go.Proofs.YtkniifopfgeopaaGreat
