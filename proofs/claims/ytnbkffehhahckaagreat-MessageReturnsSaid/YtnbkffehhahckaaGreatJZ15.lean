/-
  What package proposal writes of a proposal.
  What package proposal's Check returns.
  What package proposal reads of proposals one behind the other, or throws; and its read, which catches that.
  What package proposal's Parse returns, for any bytes.
  What the document's own Same says of two lists of proposals that read alike.
-/
import Derived.Test.YtnbkffehhahckaaGreatJZ8
import Derived.Test.YtnbkffehhahckaaGreatJZ3
import Derived.Test.YtnbkffehhahckaaGreatJZ2
import Derived.Deep.RegionLaw
import Derived.Defers
import Derived.Recover
import Derived.Laws.Pointers
import Derived.Deep.QuietTactic
import Derived.BigQuiet
namespace Go.Proofs.YtnbkffehhahckaaGreat
open Go.RowKit
set_option linter.unusedVariables false
theorem encTs_step (l : List Tr) (j : Nat) (hj : j < l.length) (x : Tr) (hx : l[j] = x) : encTs (l.drop j) = secE (if j + 1 < l.length then 3 else 0) (inT x) ++ encTs (l.drop (j + 1)) := by
  subst hx
  rw [List.drop_eq_getElem_cons hj, encTs, encT_sec, List.length_drop]
  by_cases h : j + 1 < l.length
  · rw [if_neg (by omega), if_pos h]
  · rw [if_pos (by omega), if_neg h]
theorem inT_len (x : Tr) : (inT x).length = if x.k ≠ 0 then 8 else 4 := by
  unfold inT
  split <;> simp [be_len]
theorem inT_rng (x : Tr) : ∀ z ∈ inT x, 0 ≤ z ∧ z ≤ 255 := by
  unfold inT
  refine rng_append ?_ (rng_append (be_rng _ _) ?_)
  · intro z hz
    simp at hz
    omega
  · split
    · exact rng_append (be_rng _ _) (be_rng _ _)
    · intro z hz; simp at hz
set_option maxHeartbeats 3200000 in
set_option maxRecDepth 100000 in
theorem proposal_w (x : PrP) (w : World) (h : OkD w x) (hok : OkP x.pr) (N : Nat) (hN : (inP x.pr).length = N) :
    Calls Tryz.prog 90 #[.agg #[.int .i64 x.n, .int .i64 x.p, .slice x.sp x.sn x.sc, .slice x.tp x.tn x.tc]] w (OwnR w N (inP x.pr)) := by
  obtain ⟨i0, hi0, hz0, hz1, hz2⟩ := info_parts Tryz.infoByte
  have hs : x.s.length = x.sn := h.s.len
  have ht : x.ts.length = x.tn := h.ts.len
  have HT := hidden h.ts
  have HSP := hidden h.s
  have h1 := hok.n
  have h2 := hok.p
  have h3 := hok.s
  have h4 := hok.few
  have HOK := hidden hok.ts
  have HN := hidden hN
  clear h hN hok
  obtain ⟨n, p, sp, sn, sc, s, tp, tn, tc, ts⟩ := x
  simp only [PrP.pr] at *
  have HIN : Hid (inP ⟨n, p, s, ts⟩ = [n % 256, p % 256, (sn : Int) % 256, (tn : Int) % 256] ++ (s ++ encTs ts)) := hidden (by rw [inP, hs, ht])
  rw [hs] at h3
  rw [ht] at h4
  have HS := hidden hs
  have HTL := hidden ht
  clear hs ht
  have hw1 : IntKind.u64.wrap n = n := wraps_u64 _ (by omega) (by omega)
  have hw2 : IntKind.u64.wrap p = p := wraps_u64 _ (by omega) (by omega)
  have hw3 : IntKind.u64.wrap (sn : Int) = sn := wraps_u64 _ (by omega) (by omega)
  have hw4 : IntKind.u64.wrap (tn : Int) = tn := wraps_u64 _ (by omega) (by omega)
  have hal : Below w.heap.size w (w.alloc (.cells #[.int .i64 n, .int .i64 p, .slice sp sn sc, .slice tp tn tc] 106)) := (Below.refl _ _).alloc (Nat.le_refl _) _
  have hs0 : (w.alloc (.cells #[.int .i64 n, .int .i64 p, .slice sp sn sc, .slice tp tn tc] 106)).heap.size = w.heap.size + 1 := by simp
  obtain ⟨W0, hW0⟩ : ∃ W0, w.alloc (.cells #[.int .i64 n, .int .i64 p, .slice sp sn sc, .slice tp tn tc] 106) = W0 := ⟨_, rfl⟩
  have c0 : W0.cell? ⟨w.heap.size, 0, none⟩ = some (.int .i64 n) := by subst hW0; exact World.cell?_alloc_at _ _ _ _ rfl
  have c1 : W0.cell? ⟨w.heap.size, 1, none⟩ = some (.int .i64 p) := by subst hW0; exact World.cell?_alloc_at _ _ _ _ rfl
  have c2 : W0.cell? ⟨w.heap.size, 2, none⟩ = some (.slice sp sn sc) := by subst hW0; exact World.cell?_alloc_at _ _ _ _ rfl
  have c3 : W0.cell? ⟨w.heap.size, 3, none⟩ = some (.slice tp tn tc) := by subst hW0; exact World.cell?_alloc_at _ _ _ _ rfl
  rw [hW0] at hal hs0
  have HAL := hidden hal
  have HS0 := hidden hs0
  have C1 := hidden c1
  have C2 := hidden c2
  have C3 := hidden c3
  go_enter Tryz.func90, Tryz.ntmps90
  go_wp2_with fail
  go_at_call 34
  clear hW0 hal c0 c1 c2 c3 hs0
  (with_reducible refine (put_r none 0 0 [] W0 (Byt.nil _ _ _ (Nat.zero_le _)) (by omega) n (by omega) 1 (by omega) (by omega) 1 rfl [n % 256] (by simp [be]) 1 rfl).mono ?_)
  rintro e w1 ⟨q1, d1, rfl, ho1, hy1, hb1⟩
  have HY1 := hidden hy1
  have HB1 := hidden hb1
  have c1 := cell_below hb1 _ _ C1.out
  clear ho1 hy1 hb1
  go_wp2_with fail
  go_at_call 34
  (with_reducible refine (put_r q1 1 d1 [n % 256] w1 HY1.out (by omega) p (by omega) 1 (by omega) (by omega) 1 rfl [n % 256, p % 256] (by simp [be]) 2 rfl).mono ?_)
  rintro e w2 ⟨q2, d2, rfl, ho2, hy2, hb2⟩
  have HY2 := hidden hy2
  have HB2 := hidden (HB1.out.trans (hb2.mono HB1.out.size))
  have c2 := cell_below HB2.out _ _ C2.out
  clear ho2 hy2 hb2 HY1 HB1 c1
  go_wp2_with fail
  go_at_call 34
  (with_reducible refine (put_r q2 2 d2 [n % 256, p % 256] w2 HY2.out (by omega) sn (by omega) 1 (by omega) (by omega) 1 rfl [n % 256, p % 256, (sn : Int) % 256] (by simp [be]) 3 rfl).mono ?_)
  rintro e w3 ⟨q3, d3, rfl, ho3, hy3, hb3⟩
  have HY3 := hidden hy3
  have HB3 := hidden (HB2.out.trans (hb3.mono HB2.out.size))
  have c3 := cell_below HB3.out _ _ C3.out
  clear ho3 hy3 hb3 HY2 HB2 c2
  go_wp2_with fail
  go_at_call 34
  (with_reducible refine (put_r q3 3 d3 [n % 256, p % 256, (sn : Int) % 256] w3 HY3.out (by omega) tn (by omega) 1 (by omega) (by omega) 1 rfl [n % 256, p % 256, (sn : Int) % 256, (tn : Int) % 256] (by simp [be]) 4 rfl).mono ?_)
  rintro e w4 ⟨q4, d4, rfl, ho4, hy4, hb4⟩
  have HB4 := hidden (HB3.out.trans (hb4.mono HB3.out.size))
  have HO4 := hidden (ho4.mono (show w.heap.size + 1 ≤ w3.heap.size by have := HB3.out.size; have := HS0.out; omega))
  have HSP4 := hidden ((HSP.out.below HAL.out).below HB4.out)
  have c2 := cell_below HB4.out _ _ C2.out
  have c3' := cell_below HB4.out _ _ C3.out
  clear ho4 hy4 hb4 HY3 HB3 c3
  go_wp2_with (at_builtin; go_loud (refine wpList_append_byt _ rfl _ _ 22 rfl (w.heap.size + 1) 5 i0 (.int .u8 0) Tryz.underlying22 hi0 hz0 hz1 hz2 rfl _ _ rfl HO4.out _ _ _ _ _ rfl HSP4.out rfl ?c1 ?c2 ?_))
  case c1 => simp; omega
  case c2 => have := HB4.out.size; have := HS0.out; omega
  intro v5 w5 ho5 hg5
  have hb4w : Below w.heap.size w w4 := HAL.out.trans (HB4.out.mono HAL.out.size)
  have hr5 : ∀ k, (Value.slice q4 4 d4).ownBlock = some k → w.heap.size ≤ k := fun k hk => Nat.le_trans (Nat.le_succ _) (HO4.out.lt k hk).1
  have HB5 := hidden (hb4w.grown hg5 hb4w.size hr5)
  have c3 : w5.cell? ⟨w.heap.size, 3, none⟩ = some (.slice tp tn tc) := hg5.cell c3' (fun e => Nat.lt_irrefl _ (HO4.out.lt _ e.symm).1)
  have HC3 := hidden c3
  have HO5 := hidden ho5
  clear hg5 ho5 c3' c2 HO4 hb4w hr5
  go_wp2_with fail
  go_loopw [3, 34] (fun u i wr => ∃ t : Nat, t ≤ tn ∧ i = .int .i64 t ∧ ∃ xs : List Int, xs ++ encTs (ts.drop t) = inP ⟨n, p, s, ts⟩ ∧ xs.length ≤ 12 + t * 12 ∧ Own wr (w.heap.size + 1) 5 u xs ∧ wr.cell? ⟨w.heap.size, 3, none⟩ = some (.slice tp tn tc) ∧ Below w.heap.size w wr ∧ w.heap.size + 1 ≤ wr.heap.size) (fun _ i _ => tn - (intOf i).toNat)
  case atStart => exact ⟨0, by omega, rfl, _, by rw [HIN.out, List.drop_zero]; simp, by simp; have := HS.out; omega, HO5.out, HC3.out, HB5.out, by have := HB5.out.size; have := HB4.out.size; have := HS0.out; have := World.block_lt_of_cell? _ _ HC3.out; simp at this; omega⟩
  case round =>
    obtain ⟨t, ht, rfl, xs, hxs, hxl, ho, hbx, hbl, hsz⟩ := hrel
    have HO := hidden ho
    have HBL := hidden hbl
    have HXS := hidden hxs
    have HBX := hidden hbx
    by_cases hlt : ¬ t < tn
    · obtain rfl : t = tn := by omega
      rw [List.drop_of_length_le (by rw [HTL.out]; exact Nat.le_refl _), encTs, List.append_nil] at hxs
      have HXS2 := hidden hxs
      have hbytes : ∀ z ∈ xs, 0 ≤ z ∧ z ≤ 255 := by
        rw [hxs, HIN.out]
        refine rng_append ?_ (rng_append HSP.out.rng ?_)
        · intro z hz; simp at hz; omega
        · have : ∀ l : List Tr, ∀ z ∈ encTs l, 0 ≤ z ∧ z ≤ 255 := by
            intro l
            induction l with
            | nil => intro z hz; simp [encTs] at hz
            | cons a l ih =>
              rw [encTs, encT_sec]
              exact rng_append (secE_rng _ _ (by split <;> omega) (inT_rng a)) ih
          exact this ts
      obtain ⟨q, d, rfl, hby⟩ := HO.out.bytN rfl (show xs.length = N by rw [hxs]; exact HN.out) hbytes
      have HBY := hidden hby
      clear hxs hbl ho hbytes hby
      go_wp2
      go_ret
      rw [← HXS2.out]
      exact ⟨q, d, rfl, HO.out.mono (by omega), HBY.out, HBL.out⟩
    replace hlt : t < tn := by omega
    have hlt' : (t : Int) < tn := by omega
    obtain ⟨g, rfl, hc, hint⟩ := (HT.out.below hbl).cell t (by rw [HTL.out]; exact hlt)
    obtain ⟨y, hy⟩ : ∃ y, ts[t]'(by rw [HTL.out]; exact hlt) = y := ⟨_, rfl⟩
    have hyo := HOK.out _ (List.getElem_mem (by rw [HTL.out]; exact hlt) : ts[t]'(by rw [HTL.out]; exact hlt) ∈ ts)
    have hst := encTs_step ts t (by rw [HTL.out]; exact hlt) y hy
    rw [hy] at hc hyo
    rw [HTL.out] at hst
    obtain ⟨b, hb⟩ : ∃ b, b = decide (t + 1 < tn) := ⟨_, rfl⟩
    obtain ⟨mk, hmk⟩ : ∃ mk : Int, (if b = true then 3 else 0) = mk := ⟨_, rfl⟩
    have hmk' : (if t + 1 < tn then (3 : Int) else 0) = mk := by rw [← hmk, hb]; simp
    rw [hmk'] at hst
    have hmb : 0 ≤ mk ∧ mk ≤ 255 := by rw [← hmk]; split <;> omega
    have hbd : decide ((t : Int) + 1 < tn) = b := by rw [hb]; simp; omega
    obtain ⟨yt, yi, yk⟩ := y
    have c0 := hc 0 _ rfl
    have c1 := hc 1 _ rfl
    have c2 := hc 2 _ rfl
    simp only [KTr, Nat.add_zero] at c0 c1 c2
    obtain ⟨M, hM⟩ : ∃ M : Nat, M = if yk ≠ 0 then 8 else 4 := ⟨_, rfl⟩
    have hM8 : M ≤ 8 := by rw [hM]; split <;> omega
    have hML : (inT ⟨yt, yi, yk⟩).length = M := by rw [inT_len, hM]
    have hnx : (xs ++ secE mk (inT ⟨yt, yi, yk⟩)) ++ encTs (ts.drop (t + 1)) = inP ⟨n, p, s, ts⟩ := by rw [List.append_assoc, ← hst]; exact hxs
    have hnl : (xs ++ secE mk (inT ⟨yt, yi, yk⟩)).length ≤ 12 + (t + 1) * 12 := by rw [List.length_append, secE_len, hML]; omega
    have HNX := hidden hnx
    have HNL := hidden hnl
    have HMK := hidden hmk
    have HT1 := hidden (fun w => transform_w ⟨yt, yi, yk⟩ w hyo M hM)
    have HIR := hidden (inT_rng ⟨yt, yi, yk⟩)
    generalize inT ⟨yt, yi, yk⟩ = ys at *
    clear hc hint hy hst hmk hmk' hyo hnx hnl hM hb hxs
    simp only at HT1
    have hal : Below wr.heap.size wr (wr.alloc (.cells #[.int .i64 yt, .int .i64 yi, .int .i64 yk] 109)) := (Below.refl _ _).alloc (Nat.le_refl _) _
    obtain ⟨W1, hW1⟩ : ∃ W1, wr.alloc (.cells #[.int .i64 yt, .int .i64 yi, .int .i64 yk] 109) = W1 := ⟨_, rfl⟩
    have e0 : W1.drew.cell? ⟨wr.heap.size, 0, none⟩ = some (.int .i64 yt) := by subst hW1; exact World.cell?_alloc_at _ _ _ _ rfl
    have e1 : W1.drew.cell? ⟨wr.heap.size, 1, none⟩ = some (.int .i64 yi) := by subst hW1; exact World.cell?_alloc_at _ _ _ _ rfl
    have e2 : W1.drew.cell? ⟨wr.heap.size, 2, none⟩ = some (.int .i64 yk) := by subst hW1; exact World.cell?_alloc_at _ _ _ _ rfl
    rw [hW1] at hal
    have e3 : W1.drew.cell? ⟨w.heap.size, 3, none⟩ = some (.slice (some ⟨g, 0, none⟩) tn tc) := cell_below hal _ _ hbx
    have HOD : Hid (Own W1.drew (w.heap.size + 1) 5 u3 xs) := hidden ((ho.below hal).below (drew_below ⟨1, rfl⟩))
    have HBD : Hid (Below w.heap.size w W1.drew) := hidden (hbl.trans ((hal.mono hbl.size).trans (drew_below ⟨1, rfl⟩)))
    have HSD : Hid (w.heap.size + 1 ≤ W1.drew.heap.size) := hidden (Nat.le_trans hsz hal.size)
    have E3 := hidden e3
    clear hal ho hbl hbx
    go_wp2_with fail
    have hwt : IntKind.i64.wrap ((t : Int) + 1) = (t : Int) + 1 := by rw [IntKind.wrap_i64]; omega
    go_region_law (first
      | (go_simp; go_at_call 89; (with_reducible refine (mark_any 3 b _).mono ?_); rintro e wM ⟨rfl, rfl⟩; rw [HMK.out])
      | (go_simp; go_at_call 108; (with_reducible refine (HT1.out _).mono ?_); rintro e wA ⟨qa, da, rfl, hoA, hyA, hbA⟩; have e3 := cell_below hbA _ _ E3.out)
      | (go_simp; go_at_call 88; (with_reducible refine (section_w mk hmb qa M da ys _ hyA (by omega)).mono ?_); rintro e wB ⟨qb, db, rfl, hoB, hyB, hbB⟩; have e3 := cell_below hbB _ _ (cell_below hbA _ _ E3.out))
      | (refine step_append_byt _ (by rfl) _ _ 22 (by rfl) (w.heap.size + 1) 5 i0 (.int .u8 0) Tryz.underlying22 hi0 hz0 hz1 hz2 rfl _ _ (by rfl) ((HOD.out.below hbA).below hbB) _ _ _ _ _ (by rfl) hyB (by rfl) (by omega) (by have := HSD.out; have := hbA.size; have := hbB.size; omega) ?_; intro v6 w6 ho6 hg6))
    all_goals
      have hbB1 := HBD.out.trans (hbA.mono HBD.out.size)
      have hbB2 := hbB1.trans (hbB.mono hbB1.size)
      have hob := (HOD.out.below hbA).below hbB
      have hr6 : ∀ k, u3.ownBlock = some k → w.heap.size ≤ k := fun k hk => Nat.le_trans (Nat.le_succ _) (hob.lt k hk).1
      have HB6 := hidden (hbB2.grown hg6 hbB2.size hr6)
      have HX6 := hidden (hg6.cell (cell_below hbB _ _ (cell_below hbA _ _ E3.out)) (fun e => Nat.lt_irrefl _ (hob.lt _ e.symm).1))
      have HS6 := hidden (Nat.le_trans HSD.out (Nat.le_trans hbA.size (Nat.le_trans hbB.size hg6.size)))
      have HO6 := hidden ho6
      clear hbB1 hbB2 hob hr6 hg6 ho6 hoA hoB hyA hyB hbA hbB HOD HBD HO HBL
      go_wp2
      go_roundw
      case rel => exact ⟨t + 1, by omega, by go_num, _, HNX.out, HNL.out, HO6.out, HX6.out, HB6.out, HS6.out⟩
      case measure => simp [intOf]; omega
end Go.Proofs.YtnbkffehhahckaaGreat

namespace Go.Proofs.YtnbkffehhahckaaGreat
open Go.RowKit
set_option linter.unusedVariables false
theorem errPrs_step (l : List Pr) (j : Nat) (hj : j < l.length) : errPrs ((j : Int) + 1) (l.drop j) =
    if errPr l[j] ((j : Int) + 1) ≠ 0 then errPr l[j] ((j : Int) + 1) else errPrs (((j + 1 : Nat) : Int) + 1) (l.drop (j + 1)) := by
  rw [List.drop_eq_getElem_cons hj, errPrs]
  rfl
theorem errPrs_stepP (ls : List PrP) (j : Nat) (hj : j < ls.length) (x : PrP) (hx : ls[j] = x) (E E1 : Int) (hE : errPrs ((j : Int) + 1) ((ls.map PrP.pr).drop j) = E) (hE1 : errPr x.pr ((j : Int) + 1) = E1) :
    E = if E1 ≠ 0 then E1 else errPrs (((j + 1 : Nat) : Int) + 1) ((ls.map PrP.pr).drop (j + 1)) := by
  subst hE hE1 hx
  rw [errPrs_step _ _ (by simpa using hj)]
  simp
set_option maxHeartbeats 800000 in
theorem checkAll_any (p : Option Addr) (n c : Nat) (ls : List PrP) (w : World) (h : RdG KPr DPr w p n c ls) (E : Int) (hE : checkP (ls.map PrP.pr) = E) :
    Calls Tryz.prog 87 #[.slice p n c] w (ErrNew w E) := by
  have hn := h.le
  have HT := hidden h
  have HTL := hidden h.len
  unfold checkP at hE
  rw [List.length_map, h.len] at hE
  clear h
  by_cases h0 : n = 0
  · rw [if_pos h0] at hE
    subst h0
    go_enter Tryz.func87, Tryz.ntmps87
    go_wp2
    go_ret
    subst hE
    exact ⟨rfl, Below.refl _ _⟩
  rw [if_neg h0] at hE
  have h0' : ((n : Int) == 0) = false := by simp; omega
  by_cases h8 : 8 < n
  · rw [if_pos h8] at hE
    go_enter Tryz.func87, Tryz.ntmps87
    go_wp2
    go_ret
    subst hE
    exact ⟨rfl, Below.refl _ _⟩
  rw [if_neg h8] at hE
  have HE := hidden hE
  clear hE
  go_enter Tryz.func87, Tryz.ntmps87
  go_wp2_with fail
  go_loopw [16] (fun i wr => ∃ j : Nat, j ≤ n ∧ i = .int .i64 j ∧ errPrs ((j : Int) + 1) ((ls.map PrP.pr).drop j) = E ∧ Below w.heap.size w wr) (fun i _ => n - (intOf i).toNat)
  case atStart => exact ⟨0, by omega, rfl, by simpa using HE.out, Below.refl _ _⟩
  case round =>
    obtain ⟨j, hj, rfl, herr, hbel⟩ := hrel
    have HBL := hidden hbel
    by_cases hlt : ¬ j < n
    · obtain rfl : j = n := by omega
      rw [List.drop_of_length_le (by rw [List.length_map, HTL.out]; exact Nat.le_refl _), errPrs] at herr
      have HER := hidden herr
      clear herr hbel
      go_wp2
      go_ret
      have hE := HER.out
      subst hE
      exact ⟨rfl, HBL.out⟩
    replace hlt : j < n := by omega
    have hlt' : (j : Int) < n := by omega
    have htj := HT.out.below hbel
    obtain ⟨g, rfl, hc, hok⟩ := htj.cell j (by rw [HTL.out]; exact hlt)
    obtain ⟨y, hy⟩ : ∃ y, ls[j]'(by rw [HTL.out]; exact hlt) = y := ⟨_, rfl⟩
    rw [hy] at hc hok
    obtain ⟨E1, hE1⟩ : ∃ E1, errPr y.pr ((j : Int) + 1) = E1 := ⟨_, rfl⟩
    have hst := errPrs_stepP ls j (by rw [HTL.out]; exact hlt) y hy E E1 herr hE1
    have c0 := hc 0 _ rfl
    have c1 := hc 1 _ rfl
    have c2 := hc 2 _ rfl
    have c3 := hc 3 _ rfl
    simp only [KPr, Nat.add_zero] at c0 c1 c2 c3
    have hal : Below wr.heap.size wr (wr.alloc (.cells #[.int .i64 y.n, .int .i64 y.p, .slice y.sp y.sn y.sc, .slice y.tp y.tn y.tc] 106)) := (Below.refl _ _).alloc (Nat.le_refl _) _
    have HC := hidden (checkOne_any y ((j : Int) + 1) _ (DPr.keep hok (cell_below hal)))
    rw [hE1] at HC
    have HB1 := hidden (HBL.out.trans (hal.mono HBL.out.size))
    have HST := hidden hst
    have hj8 : (j : Int) + 1 ≤ 9 := by omega
    clear hc hok hst hal hE1 hy htj herr hbel
    go_wp2_with fail
    go_at_call 107
    (with_reducible refine (HC.out).mono ?_)
    rintro e w1 ⟨rfl, hb1⟩
    have HB2 := hidden (HB1.out.trans (hb1.mono HB1.out.size))
    clear hb1 c0 c1 c2 c3
    by_cases hz : E1 = 0
    · subst hz
      have hst := HST.out
      rw [if_neg (by simp)] at hst
      have HS := hidden hst
      clear hst HST
      go_wp2
      go_roundw
      case rel => exact ⟨j + 1, by omega, by go_num, HS.out.symm, HB2.out⟩
      case measure => simp [intOf]; omega
    · have hz' : (E1 != 0) = true := by simpa using hz
      have hst := HST.out
      rw [if_pos hz] at hst
      have HS := hidden hst
      clear hst HST hz
      go_wp2
      go_ret
      have hE := HS.out
      subst hE
      exact ⟨rfl, HB2.out⟩
end Go.Proofs.YtnbkffehhahckaaGreat

namespace Go.Proofs.YtnbkffehhahckaaGreat
open Go.RowKit
set_option linter.unusedVariables false
def GotPs (w : World) (k : Nat) (r : Option (List Pr)) (e : Ending) (w' : World) : Prop :=
  w.grownBy w' (some k) ∧ match r with
  | none => Thrown e
  | some l => ∃ (v : Value) (ls : List PrP), e = .returned v ∧ ls.map PrP.pr = l ∧ RowG KPr NPr w' w.heap.size v ls
theorem gotps_none {w : World} {k : Nat} {r : Option (List Pr)} {e : Ending} {w' : World} (hg : w.grownBy w' (some k)) (hr : r = none) (ht : Thrown e) : GotPs w k r e w' := by
  subst hr
  exact ⟨hg, ht⟩
set_option maxHeartbeats 1600000 in
set_option maxRecDepth 100000 in
theorem pproposals_any (p : Option Addr) (n c : Nat) (xs : List Int) (w : World) (k a : Nat) (h : PS w k p n c xs a) (hn : n ≤ 1048576) (r : Option (List Pr)) (hr : prsV (xs.drop a) = r) :
    Calls Tryz.prog 122 #[.pointer (some ⟨k, 0, none⟩)] w (GotPs w k r) := by
  have HR := hidden hr
  have HL := hidden h.here.len
  have HRG := hidden h.here.rng
  have HP := hidden h
  have HK := hidden h.lt
  clear hr h
  go_enter Tryz.func122, Tryz.ntmps122
  go_wp2_with fail
  go_loopw [3] (fun o wr => ∃ (at_ : Nat) (l : List PrP), at_ ≤ n ∧ l.length ≤ at_ ∧ (prsV (xs.drop at_)).map (l.map PrP.pr ++ ·) = r ∧ RowG KPr NPr wr w.heap.size o l ∧ PS wr k p n c xs at_ ∧ w.grownBy wr (some k)) (fun _ wr => n - (intOf ((wr.cell? ⟨k, 1, none⟩).getD (.int .i64 0))).toNat)
  case atStart => exact ⟨a, [], HP.out.le, by simp, by rw [HR.out]; simp, RowG.nil _ _ _ _, HP.out, grown_refl _ _⟩
  case round =>
    obtain ⟨at_, l, hat, hl8, hres, hrow, hps, hgr⟩ := hrel
    obtain ⟨po, co, rfl⟩ := hrow.form rfl
    have HRW := hidden hrow
    have HPS := hidden hps
    have HGR := hidden hgr
    have hmeas : (intOf ((wr.cell? ⟨k, 1, none⟩).getD (.int .i64 0))).toNat = at_ := by rw [hps.cu.c1]; simp [intOf]
    have HMS := hidden hmeas
    clear hrow hps hgr hmeas
    obtain ⟨b, hb⟩ : ∃ b, b = decide (at_ < n) := ⟨_, rfl⟩
    have HB := hidden hb
    clear hb
    go_wp2_with fail
    go_at_call 126
    (with_reducible refine (pl p n c xs _ k at_ HPS.out b HB.out).mono ?_)
    rintro e w1 ⟨rfl, hb1, hps1⟩
    by_cases hlt : ¬ at_ < n
    · obtain rfl : b = false := by rw [HB.out]; simpa using hlt
      have hz : (xs.drop at_).length = 0 := by simp [HL.out]; omega
      rw [prsV_nil _ hz] at hres
      simp at hres
      subst hres
      have HB1 := hidden hb1
      clear HR hb1
      go_wp2_with fail
      go_ret
      exact ⟨grown_trans HGR.out (grown_of_below HB1.out _), _, _, rfl, rfl, HRW.out.below HB1.out⟩
    · obtain rfl : b = true := by rw [HB.out]; simpa using hlt
      have hnz : (xs.drop at_).length ≠ 0 := by simp [HL.out]; omega
      have hst := prs_sec (xs.drop at_) (rng_drop HRG.out _) hnz
      have HST := hidden hst
      have HRES := hidden hres
      have HP1 := hidden hps1
      have HB1 := hidden hb1
      clear hst hres hps1 hb1 hnz
      obtain ⟨sv, hsv⟩ : ∃ sv, secV 2 (xs.drop at_) = sv := ⟨_, rfl⟩
      have HSV := hidden hsv
      clear hsv
      go_wp2_with fail
      go_at_call 127
      (with_reducible refine (section_any 2 p n c xs _ k at_ HP1.out hn sv HSV.out).mono ?_)
      rintro e w2 ⟨hg2, hh⟩
      cases sv with
      | none =>
        subst hh
        refine ⟨rfl, gotps_none (grown_trans (grown_trans HGR.out (grown_of_below HB1.out _)) hg2) (map_none_app _ _ _ HRES.out ?_) rfl⟩
        rw [HST.out, HSV.out]
      | some x =>
        obtain ⟨zs, L⟩ := x
        obtain ⟨R, q, m, d, rfl, hR, hpi, hpo⟩ := hh
        simp only at hpi hpo
        have HG2 := hidden (grown_trans (grown_of_below HB1.out (some k)) hg2)
        have HPO := hidden hpo
        have HPI := hidden hpi
        have hR' : wr.heap.size ≤ R := Nat.le_trans HB1.out.size hR
        have hlen := secV_len HSV.out
        rw [List.length_drop, HL.out] at hlen
        have hm : m ≤ 1048576 := by have := hpi.here.len; omega
        clear hg2 hpo hpi hR
        obtain ⟨tv, htv⟩ : ∃ tv, prV zs = tv := ⟨_, rfl⟩
        have HTV := hidden htv
        clear htv
        go_wp2_with fail
        go_at_call 128
        (with_reducible refine (proposal_any q m d zs _ R HPI.out hm tv HTV.out).mono ?_)
        rintro e w3 ⟨hg3, hh⟩
        cases tv with
        | none =>
          subst hh
          refine ⟨rfl, gotps_none (grown_trans HGR.out (grown_new HG2.out hg3 hR')) (map_none_app _ _ _ HRES.out ?_) rfl⟩
          rw [HST.out, HSV.out]
          simp only
          rw [HTV.out]
        | some t =>
          obtain ⟨y, hy, rfl, hint⟩ := hh
          have hg4 := grown_new HG2.out hg3 hR'
          have HRW4 := hidden (HRW.out.low hg4 HK.out)
          have HPO4 := hidden (HPO.out.off hg3 (fun r hr => by cases hr; have := HPO.out.lt; have := HPS.out.lt; omega))
          have HG4 := hidden (grown_trans HGR.out hg4)
          have hsz : w.heap.size ≤ w2.heap.size := (grown_trans HGR.out HG2.out).size
          have HI := hidden (NPr.keep (NPr.mono hint hsz) (grown_of_below ((Below.refl _ w3).alloc (Nat.le_refl _) (.cells #[.int .i64 y.n, .int .i64 y.p, .slice y.sp y.sn y.sc, .slice y.tp y.tn y.tc] 106)) none) (OffT.none _ _ _))
          have hnext : (prsV (xs.drop (at_ + L))).map ((l ++ [y]).map PrP.pr ++ ·) = r := by
            rw [← HRES.out, HST.out, HSV.out]
            simp only
            rw [HTV.out]
            simp only [Option.map_map, List.drop_drop]
            congr 1
            funext z
            simp [hy]
          have HNX := hidden hnext
          clear hg3 hg4 hint hnext HRES HST HRW HPS HGR HPO HG2 HP1 HB1 HPI hy
          go_wp2_with (at_builtin; go_loud (refine wpList_append_g knownPr (by simp [NPr, KPr]) _ rfl _ _ rfl w.heap.size _ l rfl (HRW4.out.alloc _) _ 1 1 [y] rfl (srcPr w3 y _) (fun x hx => by rw [List.mem_singleton.1 hx]; exact HI.out) ?b1 ?b2 ?b3 ?_))
          case b1 => unfold maxLen; omega
          case b2 => omega
          case b3 => have := HG4.out.size; simp; omega
          intro v4 w4 hrow4 hg4
          have hk4 : ∀ r, (Value.slice po l.length co).ownBlock = some r → w.heap.size ≤ r := fun r hr => (HRW4.out.lt r hr).1
          have HRW5 := hidden hrow4
          have HPS5 := hidden ((HPO4.out.below ((Below.refl _ _).alloc (Nat.le_refl _) _)).off hg4 (fun r hr => by have := hk4 r hr; have := HK.out; omega))
          have HG5 := hidden (grown_own (grown_alloc_new HG4.out _) hg4 hk4)
          clear hrow4 hg4 HRW4 HPO4 HG4 hk4
          go_wp2_with fail
          go_roundw
          case rel => exact ⟨at_ + L, l ++ [y], by omega, by simp; omega, HNX.out, HRW5.out, HPS5.out, HG5.out⟩
          case measure =>
            rw [HMS.out, HPS5.out.cu.c1]
            simp [intOf]
            omega
theorem catch_thrown (g h : Nat) (u : TypeId) (pv : Value) (older : List PanicEntry) (w : World) (q : Option Addr) (m d : Nat) (b : Bool) (hne : g ≠ h) (hc : w.cell? ⟨g, 0, none⟩ = some (.slice q m d)) (hz : w.frozen? ⟨g, 0, none⟩ = false) (hc' : w.cell? ⟨h, 0, none⟩ = some (.bool b)) (hz' : w.frozen? ⟨h, 0, none⟩ = false) :
    CallsD Tryz.prog 121 #[.pointer (some ⟨g, 0, none⟩), .pointer (some ⟨h, 0, none⟩)] (.panicking ({ v := .iface u pv, recovered := false } :: older)) w fun e u' w' =>
      e = .returned (.tuple #[]) ∧ u' = .panicking ({ v := .iface u pv, recovered := true } :: older) ∧ w' = (w.setCell ⟨g, 0, none⟩ (.slice none 0 0)).setCell ⟨h, 0, none⟩ (.bool false) := by
  refine callsD_of_wpS Tryz.func121 rfl fun c₀ cs hu => ?_
  apply wpS_seq
  apply wpS_region
  simp [wpOpsS, go_sem, recoverD, hu, Tryz.ntmps121, Exit.thenS]
  refine wpS_cond (t := true) (by simp [Act.eval, Array.replicate]) ?_
  simp only [if_true]
  apply wpS_region
  simp [wpOpsS, go_sem, hc, hz, hc', hz', bodyPostS, results, Tryz.results121]
theorem catch_idle (g h : Nat) (w : World) :
    CallsD Tryz.prog 121 #[.pointer (some ⟨g, 0, none⟩), .pointer (some ⟨h, 0, none⟩)] .returning w fun e u' w' => e = .returned (.tuple #[]) ∧ u' = .returning ∧ w' = w := by
  refine callsD_of_wpS Tryz.func121 rfl fun c₀ cs hu => ?_
  apply wpS_seq
  apply wpS_region
  simp [wpOpsS, go_sem, recoverD, hu, Tryz.ntmps121, Exit.thenS]
  refine wpS_cond (t := false) (by simp [Act.eval, Array.replicate]) ?_
  simp only [Bool.false_eq_true, if_false]
  refine wpS_of_wp (wp_skip ?_)
  cases c₀
  simp_all [bodyPostS, results, Tryz.results121]
def ReadP (w : World) (r : Option (List Pr)) (e : Ending) (w' : World) : Prop :=
  Below w.heap.size w w' ∧ match r with
  | none => e = .returned (.tuple #[.slice none 0 0, .bool false])
  | some l => ∃ (v : Value) (ls : List PrP), e = .returned (.tuple #[v, .bool true]) ∧ ls.map PrP.pr = l ∧ RowG KPr NPr w' w.heap.size v ls
set_option maxHeartbeats 1600000 in
set_option maxRecDepth 100000 in
theorem read_any (p : Option Addr) (n c : Nat) (xs : List Int) (w : World) (h : Byt w p n c xs) (hn : n ≤ 1048576) (r : Option (List Pr)) (hr : prsV xs = r) :
    Calls Tryz.prog 113 #[.slice p n c] w (ReadP w r) := by
  have hmf : ∀ (fn : Fn) (first cap : Array Value) (w : World), (Instr.makeFunc fn first cap).run Tryz.prog w = .ok (.func fn first cap) w := fun _ _ _ _ => rfl
  have HX := hidden h
  have HR := hidden hr
  clear h hr
  go_enter_defers Tryz.func113, Tryz.ntmps113
  go_wp2_with fail
  have h2 : Below w.heap.size w ((w.alloc (.cells #[.slice none 0 0] 42)).alloc (.cells #[.bool false] 4)) := ((Below.refl _ w).alloc (Nat.le_refl _) _).alloc (by simp) _
  have h3 : Below w.heap.size w (((w.alloc (.cells #[.slice none 0 0] 42)).alloc (.cells #[.bool false] 4)).alloc (.cells #[.slice p n c, .int .i64 0] 196)) := h2.alloc h2.size _
  have hps : PS (((w.alloc (.cells #[.slice none 0 0] 42)).alloc (.cells #[.bool false] 4)).alloc (.cells #[.slice p n c, .int .i64 0] 196)) (w.heap.size + 1 + 1) p n c xs 0 :=
    ⟨by have := Cu.new ((w.alloc (.cells #[.slice none 0 0] 42)).alloc (.cells #[.bool false] 4)) p n c 0 196; simpa using this, ⟨w, HX.out, h3, by omega⟩, by omega⟩
  obtain ⟨W0, hW0⟩ : ∃ W0, (((w.alloc (.cells #[.slice none 0 0] 42)).alloc (.cells #[.bool false] 4)).alloc (.cells #[.slice p n c, .int .i64 0] 196)) = W0 := ⟨_, rfl⟩
  have c0 : W0.cell? ⟨w.heap.size, 0, none⟩ = some (.slice none 0 0) := by subst hW0; go_simp
  have c1 : W0.cell? ⟨w.heap.size + 1, 0, none⟩ = some (.bool false) := by subst hW0; go_simp
  have f0 : W0.frozen? ⟨w.heap.size, 0, none⟩ = false := by subst hW0; go_simp
  have f1 : W0.frozen? ⟨w.heap.size + 1, 0, none⟩ = false := by subst hW0; go_simp
  have hs : W0.heap.size = w.heap.size + 3 := by subst hW0; simp
  rw [hW0] at hps h3 ⊢
  clear hW0 h2
  (with_reducible refine (pproposals_any p n c xs W0 (w.heap.size + 1 + 1) 0 hps hn r (by rw [List.drop_zero]; exact HR.out)).mono ?_)
  rintro e w1 ⟨hg, hh⟩
  have d0 : w1.cell? ⟨w.heap.size, 0, none⟩ = some (.slice none 0 0) := hg.cell c0 (by simp; omega)
  have d1 : w1.cell? ⟨w.heap.size + 1, 0, none⟩ = some (.bool false) := hg.cell c1 (by simp)
  have g0 : w1.frozen? ⟨w.heap.size, 0, none⟩ = false := (World.frozen?_of_block (a := ⟨w.heap.size, 0, none⟩) (hg.block w.heap.size (by omega) (by simp; omega))).trans f0
  have g1 : w1.frozen? ⟨w.heap.size + 1, 0, none⟩ = false := (World.frozen?_of_block (a := ⟨w.heap.size + 1, 0, none⟩) (hg.block (w.heap.size + 1) (by omega) (by simp))).trans f1
  have hb1 : Below w.heap.size w w1 := h3.grown hg h3.size (fun r hr => by cases hr; omega)
  have hbs : ∀ (a b : Value), Below w.heap.size w ((w1.setCell ⟨w.heap.size, 0, none⟩ a).setCell ⟨w.heap.size + 1, 0, none⟩ b) := fun a b =>
    (hb1.grown (grown_set w1 w.heap.size 0 a) hb1.size (fun r hr => by cases hr; exact Nat.le_refl _)).grown (grown_set _ (w.heap.size + 1) 0 b) (by simpa using hb1.size) (fun r hr => by cases hr; omega)
  cases r with
  | none =>
    subst hh
    refine leaves_cons (f := 121) (args := #[.pointer (some ⟨w.heap.size, 0, none⟩), .pointer (some ⟨w.heap.size + 1, 0, none⟩)]) (by simp) (by simp [go_sem]) ?_
    refine (catch_thrown w.heap.size (w.heap.size + 1) 34 _ [] w1 none 0 0 false (by omega) d0 g0 d1 g1).mono ?_
    rintro e u' w'' ⟨rfl, rfl, rfl⟩
    simp [Leaves, settle, results, Tryz.results113, go_sem, d0, d1]
    exact ⟨hbs _ _, rfl⟩
  | some l =>
    obtain ⟨v, ls, rfl, hl, hrow⟩ := hh
    obtain ⟨vp, vc, rfl⟩ := hrow.form rfl
    go_wp2
    refine leaves_cons (f := 121) (args := #[.pointer (some ⟨w.heap.size, 0, none⟩), .pointer (some ⟨w.heap.size + 1, 0, none⟩)]) (by simp) (by simp [go_sem]) ?_
    refine (catch_idle w.heap.size (w.heap.size + 1) _).mono ?_
    rintro e u' w'' ⟨rfl, rfl, rfl⟩
    simp [Leaves, settle, results, Tryz.results113, go_sem, d0, d1]
    refine ⟨hbs _ _, _, ls, rfl, hl, ?_⟩
    exact ((hrow.low (grown_set w1 w.heap.size 0 _) (by omega)).low (grown_set _ (w.heap.size + 1) 0 _) (by omega)).mono (by omega)
end Go.Proofs.YtnbkffehhahckaaGreat

namespace Go.Proofs.YtnbkffehhahckaaGreat
open Go.RowKit
set_option linter.unusedVariables false
def ParsedP (w : World) (r : List Pr × Int) (e : Ending) (w' : World) : Prop := ∃ (v : Value) (ls : List PrP), e = .returned (.tuple #[v, .int .i64 r.2]) ∧ ls.map PrP.pr = r.1 ∧ RowG KPr NPr w' w.heap.size v ls ∧ Below w.heap.size w w'
theorem parsed_fail (w w' : World) (E : Int) (r : List Pr × Int) (hr : r = ([], E)) (hb : Below w.heap.size w w') : ParsedP w r (.returned (.tuple #[.slice none 0 0, .int .i64 E])) w' := by
  subst hr
  exact ⟨_, [], rfl, rfl, RowG.nil _ _ _ _, hb⟩
set_option maxHeartbeats 800000 in
theorem pparse_any (p : Option Addr) (n c : Nat) (xs : List Int) (w : World) (h : Byt w p n c xs) (hn : n ≤ 1048576) (r : List Pr × Int) (hr : parseP xs = r) :
    Calls Tryz.prog 100 #[.slice p n c] w (ParsedP w r) := by
  unfold parseP at hr
  rw [h.len] at hr
  by_cases h0 : n = 0
  · rw [if_pos h0] at hr
    subst h0
    have HR := hidden hr
    clear h hr
    go_enter Tryz.func100, Tryz.ntmps100
    go_wp2
    go_ret2
    exact parsed_fail _ _ _ _ HR.out.symm (Below.refl _ _)
  rw [if_neg h0] at hr
  have h0' : ((n : Int) == 0) = false := by simp; omega
  obtain ⟨o, ho⟩ : ∃ o, prsV xs = o := ⟨_, rfl⟩
  have HC := hidden (read_any p n c xs w h hn o ho)
  rw [ho] at hr
  have HO := hidden ho
  have HRG := hidden h.rng
  have HL := hidden h.len
  have HR := hidden hr
  clear h ho hr
  go_enter Tryz.func100, Tryz.ntmps100
  go_wp2_with fail
  go_at_call 113
  (with_reducible refine (HC.out).mono ?_)
  rintro e w1 ⟨hb1, hh⟩
  have HB1 := hidden hb1
  cases o with
  | none =>
    subst hh
    clear hb1
    go_wp2
    go_ret2
    exact parsed_fail _ _ _ _ HR.out.symm HB1.out
  | some l =>
    obtain ⟨v, ls, rfl, hl, hrow⟩ := hh
    obtain ⟨q, d, rfl⟩ := hrow.form rfl
    have hr := HR.out
    simp only at hr
    obtain ⟨E, hE⟩ : ∃ E, checkP l = E := ⟨_, rfl⟩
    rw [hE] at hr
    have hrd : RdG KPr DPr w1 q ls.length d ls := by
      obtain ⟨q', d', e, h⟩ := hrow.rd (D := DPr) rfl (fun _ h => h.rd)
      simp at e
      obtain ⟨rfl, rfl⟩ := e
      exact h
    have HC2 := hidden (checkAll_any _ _ _ ls w1 hrd E (by rw [hl]; exact hE))
    have HRW := hidden hrow
    have HR2 := hidden hr
    have HLS := hidden hl
    clear hrow hrd hb1 HC hr HR hE hl
    go_wp2_with fail
    go_at_call 87
    (with_reducible refine (HC2.out).mono ?_)
    rintro e w2 ⟨rfl, hb2⟩
    have HB2 := hidden hb2
    have HB3 := hidden (HB1.out.trans (hb2.mono HB1.out.size))
    clear hb2
    by_cases hz : E = 0
    · subst hz
      have hr := HR2.out
      rw [if_neg (by simp)] at hr
      have HR3 := hidden hr
      clear hr HR2
      go_wp2
      go_ret2
      rw [← HR3.out]
      exact ⟨_, ls, rfl, HLS.out, HRW.out.below HB2.out, HB3.out⟩
    · have hz' : (E != 0) = true := by simpa using hz
      have hr := HR2.out
      rw [if_pos hz] at hr
      have HR3 := hidden hr
      clear hr HR2
      go_wp2
      go_ret2
      exact parsed_fail _ _ _ _ HR3.out.symm HB3.out
end Go.Proofs.YtnbkffehhahckaaGreat

namespace Go.Proofs.YtnbkffehhahckaaGreat
open Go.RowKit
set_option linter.unusedVariables false
end Go.Proofs.YtnbkffehhahckaaGreat
