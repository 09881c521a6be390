/-
  What the document's own Build of chains returns: the bytes of the payloads, or the first error.
-/
import Derived.Test.YtdlcdegfoadajaaKinds
import Derived.Test.YtdlcdegfoadajaaRPut
import Derived.Deep.CutBlock
import Derived.Deep.RegionHeld3
namespace Go.Proofs.Ytdlcdegfoadajaa
open Go.RowKit
set_option linter.unusedVariables false

/-- The results of Build. -/
def BuiltC (w : World) (k : Int) (L : List Int) (E : Int) (e : Ending) (w' : World) : Prop := ∃ v, e = .returned (.tuple #[.int .i64 k, v, .int .i64 E]) ∧ Own w' w.heap.size 5 v L ∧ Below w.heap.size w w'

theorem Own.mono {w : World} {base base' : Nat} {e : TypeId} {v : Value} {xs : List Int} (h : Own w base e v xs) (hb : base' ≤ base) : Own w base' e v xs := by
  refine ⟨h.1, ?_⟩
  rcases h.2 with h1 | ⟨g, cap, cur, hv, hg, rest⟩
  · exact Or.inl h1
  · exact Or.inr ⟨g, cap, cur, hv, by omega, rest⟩
theorem Own.below {w w' : World} {base : Nat} {e : TypeId} {v : Value} {xs : List Int} (h : Own w base e v xs) (hb : Below w.heap.size w w') : Own w' base e v xs :=
  World.ownsRow.kept (row := none) h ⟨hb.os, hb.tape, hb.output, hb.size, fun i hi _ => hb.block i hi⟩ (by
    rcases hv : v.ownBlock with _ | b
    · exact Or.inl rfl
    · exact Or.inr (by simp))

theorem built_many (l : List Raw) (last : Int) (h : 40 < l.length) : buildC l last = (0, [], 10) := by rw [buildC, if_pos h]
theorem built_err (l : List Raw) (last E : Int) (h : ¬ 40 < l.length) (he : errC l = E) (h0 : E ≠ 0) : buildC l last = (0, [], E) := by
  subst he
  rw [buildC, if_neg h, if_pos h0]
theorem built_last (l : List Raw) (last : Int) (h : ¬ 40 < l.length) (he : errC l = 0) (hl : last < 0 ∨ 255 < last) : buildC l last = (0, [], 5) := by
  rw [buildC, if_neg h, if_neg (by omega), if_pos hl]
theorem built_order (l : List Raw) (last : Int) (h : ¬ 40 < l.length) (he : errC l = 0) (hl : ¬ (last < 0 ∨ 255 < last)) (h0 : last ≠ 0) (hn : endsC l = false) : buildC l last = (0, [], 7) := by
  rw [buildC, if_neg h, if_neg (by omega), if_neg hl, if_pos ⟨h0, hn⟩]
theorem built_ok (l : List Raw) (last : Int) (h : ¬ 40 < l.length) (he : errC l = 0) (hl : ¬ (last < 0 ∨ 255 < last)) (h0 : last = 0 ∨ endsC l = true) : buildC l last = (nextC 0 l, encC last l, 0) := by
  rw [buildC, if_neg h, if_neg (by omega), if_neg hl, if_neg]
  rintro ⟨h1, h2⟩
  rcases h0 with h0 | h0
  · exact h1 h0
  · rw [h0] at h2
    cases h2

/-- What the walk knows of the payload at a place. -/
structure AtR (w : World) (l : List RawP) (g i : Nat) (k : Int) (c : Bool) (pb : Option Addr) (nb cb : Nat) (b : List Int) : Prop where
  hk : w.cell? ⟨g, i * 3, none⟩ = some (.int .i64 k)
  hc : w.cell? ⟨g, i * 3 + 1, none⟩ = some (.bool c)
  hb : w.cell? ⟨g, i * 3 + 2, none⟩ = some (.slice pb nb cb)
  byt : Byt w pb nb cb b
  raw : (l.map RawP.raw)[i]? = some ⟨k, c, b⟩
theorem RdR.get {w : World} {p : Option Addr} {n c : Nat} {l : List RawP} (h : RdR w p n c l) (i : Nat) (hi : i < n) : ∃ g k cc pb nb cb b, p = some ⟨g, 0, none⟩ ∧ AtR w l g i k cc pb nb cb b := by
  have hl : i < l.length := by rw [h.len]; exact hi
  obtain ⟨g, e, h0, h1, h2, h3⟩ := h.elem i hl
  exact ⟨g, _, _, _, _, _, _, e, h0, h1, h2, h3, by simp [hl, RawP.raw]⟩
theorem AtR.below {w w' : World} {l : List RawP} {g i : Nat} {k : Int} {c : Bool} {pb : Option Addr} {nb cb : Nat} {b : List Int} (h : AtR w l g i k c pb nb cb b) (hb : Below w.heap.size w w') : AtR w' l g i k c pb nb cb b :=
  ⟨cell_below hb _ _ h.hk, cell_below hb _ _ h.hc, cell_below hb _ _ h.hb, h.byt.below hb, h.raw⟩
theorem AtR.err {w : World} {l : List RawP} {g i : Nat} {k : Int} {c : Bool} {pb : Option Addr} {nb cb : Nat} {b : List Int} (h : AtR w l g i k c pb nb cb b) {n : Nat} (hn : l.length = n) :
    errC ((l.map RawP.raw).drop i) = if k < 1 ∨ 255 < k then 5 else if 65531 < nb then 11 else if lastK k = true ∧ i + 1 < n then 7 else errC ((l.map RawP.raw).drop (i + 1)) := by
  obtain ⟨hi, he⟩ := List.getElem?_eq_some_iff.1 h.raw
  rw [err_step i hi, he]
  have : b.length = nb := h.byt.len
  simp only [this, List.length_map, hn]
theorem AtR.enc {w : World} {l : List RawP} {g i : Nat} {k : Int} {c : Bool} {pb : Option Addr} {nb cb : Nat} {b : List Int} (h : AtR w l g i k c pb nb cb b) (last : Int) :
    encC last ((l.map RawP.raw).drop i) = oneC (nextC last ((l.map RawP.raw).drop (i + 1))) ⟨k, c, b⟩ ++ encC last ((l.map RawP.raw).drop (i + 1)) := by
  obtain ⟨hi, he⟩ := List.getElem?_eq_some_iff.1 h.raw
  rw [enc_step i hi, he]
theorem AtR.next {w : World} {l : List RawP} {g i : Nat} {k : Int} {c : Bool} {pb : Option Addr} {nb cb : Nat} {b : List Int} (h : AtR w l g (i + 1) k c pb nb cb b) (last : Int) : nextC last ((l.map RawP.raw).drop (i + 1)) = k := by
  obtain ⟨hi, he⟩ := List.getElem?_eq_some_iff.1 h.raw
  rw [next_more i hi, he]
/-- A payload that was checked. -/
theorem err_at {l : List Raw} (h : errC l = 0) (i : Nat) (r : Raw) (hr : l[i]? = some r) : 1 ≤ r.k ∧ r.k ≤ 255 ∧ r.b.length ≤ 65531 := by
  induction l generalizing i with
  | nil => simp at hr
  | cons a l ih =>
    obtain ⟨h1, h2, h3, _, h5⟩ := errC_cons h
    cases i with
    | zero =>
      simp at hr
      subst hr
      exact ⟨h1, h2, h3⟩
    | succ i => exact ih h5 i (by simpa using hr)
theorem AtR.good {w : World} {l : List RawP} {g i : Nat} {k : Int} {c : Bool} {pb : Option Addr} {nb cb : Nat} {b : List Int} (h : AtR w l g i k c pb nb cb b) (he : errC (l.map RawP.raw) = 0) : 1 ≤ k ∧ k ≤ 255 ∧ nb ≤ 65531 := by
  have := err_at he i _ h.raw
  have hl : b.length = nb := h.byt.len
  simp only [hl] at this
  exact this
theorem rput_two (p : Option Addr) (n c : Nat) (xs : List Int) (w : World) (h : Byt w p n c xs) (hb : n ≤ 140737488355000) (v : Int) (hv : 0 ≤ v ∧ v ≤ 18446744073709551615) :
    Calls Try.prog 25 #[.slice p n c, .int .u64 v, .int .i64 2] w (BytesNew w (xs ++ be 2 v)) := rput_yes p n c xs w h hb v hv 2 (by omega) (by omega)
theorem be1 (v : Int) : be 1 v = [v % 256] := by simp [be]
theorem oneC_form (next : Int) (k : Int) (c : Bool) (b : List Int) (xs : List Int) (nb : Nat) (h : b.length = nb) : xs ++ oneC next ⟨k, c, b⟩ = (xs ++ [next % 256, if c then 128 else 0] ++ be 2 ((nb : Int) + 4)) ++ b := by
  subst h
  simp [oneC]
theorem oneC_rng (next : Int) (k : Int) (c : Bool) (b : List Int) (h : ∀ x ∈ b, 0 ≤ x ∧ x ≤ 255) : ∀ x ∈ oneC next ⟨k, c, b⟩, 0 ≤ x ∧ x ≤ 255 := by
  refine rng_append ?_ (rng_append (be_rng _ _) h)
  intro x hx
  simp at hx
  rcases hx with rfl | rfl
  · omega
  · split <;> omega

set_option maxHeartbeats 1600000 in
set_option maxRecDepth 100000 in
theorem rbuildC_any (p : Option Addr) (n c : Nat) (l : List RawP) (last : Int) (w : World) (h : RdR w p n c l) (k : Int) (L : List Int) (E : Int) (hb : buildC (l.map RawP.raw) last = (k, L, E)) :
    Calls Try.prog 11 #[.slice p n c, .int .i64 last] w (BuiltC w k L E) := by
  obtain ⟨i0, hi0, hz0, hz1, hz2⟩ := info_parts Try.infoByte
  have hn := h.le
  have HR := hidden h
  have HL := hidden h.len
  have HB := hidden hb
  clear h hb
  by_cases h40 : 40 < n
  · have hb := built_many (l.map RawP.raw) last (by rw [List.length_map, HL.out]; exact h40)
    rw [HB.out] at hb
    simp at hb
    obtain ⟨rfl, rfl, rfl⟩ := hb
    go_enter Try.func11, Try.ntmps11
    go_wp2
    go_ret3
    exact ⟨_, rfl, Own.nil _ _ _, Below.refl _ _⟩
  have h40' : ¬ 40 < (l.map RawP.raw).length := by rw [List.length_map, HL.out]; exact h40
  have H40 := hidden h40'
  clear h40'
  go_enter Try.func11, Try.ntmps11
  go_wp2
  go_loop [7] (fun i => ∃ j : Nat, j ≤ n ∧ i = .int .i64 j ∧ errC (l.map RawP.raw) = errC ((l.map RawP.raw).drop j)) (fun i => n - (intOf i).toNat)
  case atStart => exact ⟨0, by omega, rfl, by simp⟩
  case round =>
    obtain ⟨j, hj, rfl, herr⟩ := hrel
    by_cases hlt : j < n
    · obtain ⟨g, kk, cc, pb, nb, cb, b, rfl, hat⟩ := HR.out.get j hlt
      have e1 := hat.err HL.out
      rw [← herr] at e1
      have HE := hidden e1
      have c0 := hat.hk
      have c2 := hat.hb
      have hnb := hat.byt.le
      clear hat e1 herr
      by_cases k1 : kk < 1
      · have hb := built_err (l.map RawP.raw) last 5 H40.out (by rw [HE.out, if_pos (Or.inl k1)]) (by omega)
        rw [HB.out] at hb
        simp at hb
        obtain ⟨rfl, rfl, rfl⟩ := hb
        go_wp2
        go_ret3
        exact ⟨_, rfl, Own.nil _ _ _, Below.refl _ _⟩
      by_cases k2 : 255 < kk
      · have hb := built_err (l.map RawP.raw) last 5 H40.out (by rw [HE.out, if_pos (Or.inr k2)]) (by omega)
        rw [HB.out] at hb
        simp at hb
        obtain ⟨rfl, rfl, rfl⟩ := hb
        go_wp2
        go_ret3
        exact ⟨_, rfl, Own.nil _ _ _, Below.refl _ _⟩
      by_cases k3 : 65531 < nb
      · have hb := built_err (l.map RawP.raw) last 11 H40.out (by rw [HE.out, if_neg (by omega), if_pos k3]) (by omega)
        rw [HB.out] at hb
        simp at hb
        obtain ⟨rfl, rfl, rfl⟩ := hb
        go_wp2
        go_ret3
        exact ⟨_, rfl, Own.nil _ _ _, Below.refl _ _⟩
      by_cases k4 : lastK kk = true
      · by_cases k5 : j + 1 < n
        · have hb := built_err (l.map RawP.raw) last 7 H40.out (by rw [HE.out, if_neg (by omega), if_neg k3, if_pos ⟨k4, k5⟩]) (by omega)
          rw [HB.out] at hb
          simp at hb
          obtain ⟨rfl, rfl, rfl⟩ := hb
          have k6 : (j : Int) < (n : Int) - 1 := by omega
          go_wp2_with (go_at_call 24; (with_reducible refine (last_any kk _).mono ?_); rintro e w' ⟨rfl, rfl⟩)
          go_ret3
          exact ⟨_, rfl, Own.nil _ _ _, Below.refl _ _⟩
        · have k6 : ¬ (j : Int) < (n : Int) - 1 := by omega
          have he := HE.out
          rw [if_neg (by omega), if_neg k3, if_neg (fun h => k5 h.2)] at he
          have HE2 := hidden he
          clear he
          go_wp2_with (go_at_call 24; (with_reducible refine (last_any kk _).mono ?_); rintro e w' ⟨rfl, rfl⟩)
          go_round
          case rel => exact ⟨j + 1, by omega, by go_num, HE2.out⟩
          case measure => simp [intOf]; omega
      · have k5 : lastK kk = false := by simpa using k4
        have he := HE.out
        rw [if_neg (by omega), if_neg k3, if_neg (fun h => k4 h.1)] at he
        have HE2 := hidden he
        clear he k4
        go_wp2_with (go_at_call 24; (with_reducible refine (last_any kk _).mono ?_); rintro e w' ⟨rfl, rfl⟩)
        go_round
        case rel => exact ⟨j + 1, by omega, by go_num, HE2.out⟩
        case measure => simp [intOf]; omega
    · obtain rfl : j = n := by omega
      have herr0 : errC (l.map RawP.raw) = 0 := by rw [herr, err_end _ (by rw [List.length_map, HL.out]; exact Nat.le_refl _)]
      have HE := hidden herr0
      clear herr herr0
      by_cases hl0 : last < 0 ∨ 255 < last
      · have hb := built_last (l.map RawP.raw) last H40.out HE.out hl0
        rw [HB.out] at hb
        simp at hb
        obtain ⟨rfl, rfl, rfl⟩ := hb
        rcases hl0 with hl0 | hl0
        · go_wp2
          go_ret3
          exact ⟨_, rfl, Own.nil _ _ _, Below.refl _ _⟩
        · go_wp2
          go_ret3
          exact ⟨_, rfl, Own.nil _ _ _, Below.refl _ _⟩
      have hl1 : ¬ last < 0 := by omega
      have hl2 : ¬ 255 < last := by omega
      have HL0 := hidden hl0
      clear hl0
      rcases Nat.eq_zero_or_pos j with h0 | h0
      · subst h0
        have hnil : l = [] := List.eq_nil_of_length_eq_zero HL.out
        subst hnil
        by_cases hz : last = 0
        · subst hz
          have hb := built_ok ([].map RawP.raw) 0 H40.out HE.out HL0.out (Or.inl rfl)
          rw [HB.out] at hb
          simp [nextC, encC] at hb
          obtain ⟨rfl, rfl, rfl⟩ := hb
          clear hl1 hl2
          go_wp2
          go_ret3
          exact ⟨_, rfl, Own.nil _ _ _, Below.refl _ _⟩
        · have hb := built_order ([].map RawP.raw) last H40.out HE.out HL0.out hz rfl
          rw [HB.out] at hb
          simp at hb
          obtain ⟨rfl, rfl, rfl⟩ := hb
          have hz1 : (last != 0) = true := by simpa using hz
          clear hz
          go_wp2
          go_ret3
          exact ⟨_, rfl, Own.nil _ _ _, Below.refl _ _⟩
      obtain ⟨g, kl, cl, pl, nl, cbl, bl, rfl, hatl⟩ := HR.out.get (j - 1) (by omega)
      have hends : endsC (l.map RawP.raw) = lastK kl := by
        rw [ends_last _ (by rw [List.length_map, HL.out]; exact h0)]
        obtain ⟨hi, he⟩ := List.getElem?_eq_some_iff.1 hatl.raw
        have : (l.map RawP.raw).length - 1 = j - 1 := by rw [List.length_map, HL.out]
        simp only [this, he]
      have cl0 := hatl.hk
      obtain ⟨g', kf, cf, pf, nf, cbf, bf, hg', hatf⟩ := HR.out.get 0 h0
      simp at hg'
      subst hg'
      have cf0 := hatf.hk
      have hnx : nextC 0 (l.map RawP.raw) = kf := by
        obtain ⟨hi, he⟩ := List.getElem?_eq_some_iff.1 hatf.raw
        cases l with
        | nil => simp at hi
        | cons a l => simpa [nextC] using congrArg Raw.k he
      have HNX := hidden hnx
      have HEN := hidden hends
      have ej : (j : Int) - 1 = ((j - 1 : Nat) : Int) := by omega
      clear hatl hatf hnx hends
      have go2 : last = 0 ∨ lastK kl = true → (k, L, E) = (kf, encC last (l.map RawP.raw), 0) := by
        intro hh
        have hb := built_ok (l.map RawP.raw) last H40.out HE.out HL0.out (by rcases hh with hh | hh; exact Or.inl hh; exact Or.inr (by rw [HEN.out]; exact hh))
        rw [HB.out, HNX.out] at hb
        exact hb
      have HG := hidden go2
      clear go2
      by_cases hz : last ≠ 0 ∧ lastK kl = false
      · have hb := built_order (l.map RawP.raw) last H40.out HE.out HL0.out hz.1 (by rw [HEN.out]; exact hz.2)
        rw [HB.out] at hb
        simp at hb
        obtain ⟨rfl, rfl, rfl⟩ := hb
        have hz1 : (last != 0) = true := by simpa using hz.1
        have hz2 := hz.2
        clear hz
        go_wp2_with (go_at_call 24; (with_reducible refine (last_any kl _).mono ?_); rintro e w' ⟨rfl, rfl⟩)
        go_ret3
        exact ⟨_, rfl, Own.nil _ _ _, Below.refl _ _⟩
      have hz' : last = 0 ∨ lastK kl = true := by
        by_cases h0 : last = 0
        · exact Or.inl h0
        · exact Or.inr (by simpa using fun hk => hz ⟨h0, hk⟩)
      have heq := HG.out hz'
      simp at heq
      obtain ⟨rfl, rfl, rfl⟩ := heq
      clear hz ej
      have hjpos : (j == 0) = false := by simp; omega
      have za : (last != 0) = true ∧ lastK kl = true ∨ (last != 0) = false := by
        rcases hz' with h | h
        · exact Or.inr (by simp [h])
        · by_cases h0 : last = 0
          · exact Or.inr (by simp [h0])
          · exact Or.inl ⟨by simpa using h0, h⟩
      have HZ := hidden hz'
      clear hz' hjpos
      go_upto_region 14 with fail
      go_cut [81] from 64 to 81 (fun b w' => b = .bool false ∧ w = w')
      case first =>
        rcases za with ⟨za, zb⟩ | za
        all_goals
          go_wp2_with (go_at_call 24; (with_reducible refine (last_any kl _).mono ?_); rintro e w' ⟨rfl, rfl⟩)
          go_meet
          case rel => first | exact ⟨rfl, rfl⟩ | exact ⟨by simp; omega, rfl⟩
      case rest =>
        obtain ⟨rfl, rfl⟩ := hcut
        have HFI := hidden cf0
        clear cf0 cl0 za
        have hjpos : ((j : Int) == 0) = false := by simp; omega
        go_wp2
        go_loopw [8, 9] (fun u i wr => ∃ t : Nat, t ≤ j ∧ i = .int .i64 t ∧ ∃ xs : List Int, xs ++ encC last ((l.map RawP.raw).drop t) = encC last (l.map RawP.raw) ∧ xs.length ≤ t * 65535 ∧ (∀ x ∈ xs, 0 ≤ x ∧ x ≤ 255) ∧ Own wr w.heap.size 5 u xs ∧ Below w.heap.size w wr) (fun _ i _ => j - (intOf i).toNat)
        case atStart => exact ⟨0, by omega, rfl, [], by simp, by simp, by simp, Own.nil _ _ _, Below.refl _ _⟩
        case round =>
          obtain ⟨t, ht, rfl, xs, hxs, hxl, hxr, ho, hbl⟩ := hrel
          have HO := hidden ho
          have HBL := hidden hbl
          by_cases hlt : t < j
          · obtain ⟨g2, kk, cc, pb, nb, cb, b, hg2, hat⟩ := HR.out.get t hlt
            simp at hg2
            subst hg2
            obtain ⟨q1, q2, q3⟩ := hat.good HE.out
            have hst := hat.enc last
            rw [hst] at hxs
            have hat2 := hat.below hbl
            have c0 := hat2.hk
            have c1 := hat2.hc
            have c2 := hat2.hb
            have HBY := hidden hat.byt
            have hgw := World.block_lt_of_cell? w _ hat.hb
            obtain ⟨nx, hnx, hn0, hn1, hnc⟩ : ∃ nx, nextC last ((l.map RawP.raw).drop (t + 1)) = nx ∧ 0 ≤ nx ∧ nx ≤ 255 ∧ ((t : Int) < (j : Int) - 1 ∧ wr.cell? ⟨g, (t + 1) * 3, none⟩ = some (.int .i64 nx) ∨ ¬ ((t : Int) < (j : Int) - 1) ∧ nx = last) := by
              by_cases h1 : t + 1 < j
              · obtain ⟨g3, k3, c3, p3, n3, cb3, b3, hg3, hat3⟩ := HR.out.get (t + 1) h1
                simp at hg3
                subst hg3
                obtain ⟨r1, r2, r3⟩ := hat3.good HE.out
                exact ⟨k3, hat3.next last, by omega, r2, Or.inl ⟨by omega, (hat3.below hbl).hk⟩⟩
              · exact ⟨last, next_end t (by rw [List.length_map, HL.out]; omega), by omega, by omega, Or.inr ⟨by omega, rfl⟩⟩
            rw [hnx] at hxs
            have hxs2 : (xs ++ oneC nx ⟨kk, cc, b⟩) ++ encC last ((l.map RawP.raw).drop (t + 1)) = encC last (l.map RawP.raw) := by rw [List.append_assoc]; exact hxs
            have HXS := hidden hxs2
            have hxl2 : (xs ++ oneC nx ⟨kk, cc, b⟩).length ≤ (t + 1) * 65535 := by
              have := hat.byt.len
              rw [List.length_append, oneC_len]
              simp only
              omega
            have HXL := hidden hxl2
            have HXR2 := hidden (rng_append hxr (oneC_rng nx kk cc b hat.byt.rng))
            have HXR := hidden hxr
            have hj40 : t * 65535 ≤ 2621400 := by omega
            have hbn : some g ≠ u8.ownBlock := fun e => by
              have := (ho.lt g e.symm).1
              exact absurd hgw (Nat.not_lt.2 this)
            have enx : nx % 256 = nx := by omega
            have hfo := oneC_form nx kk cc b xs nb hat.byt.len
            rw [enx] at hfo
            have HFO := hidden hfo
            obtain ⟨bv, hbv, hb0⟩ : ∃ bv : Int, (if cc then (128 : Int) else 0) = bv ∧ (0 ≤ bv ∧ bv ≤ 255) := ⟨_, rfl, by split <;> omega⟩
            rw [hbv] at hfo
            have HFO := hidden hfo
            have HBV := hidden hbv
            have HRN := hidden (fun (w2 : World) (u' : Value) (h : Own w2 w.heap.size 5 u' (xs ++ [nx, bv])) => h.bytN rfl (show (xs ++ [nx, bv]).length = xs.length + 2 by simp) (rng_append hxr (by intro z hz; simp at hz; rcases hz with rfl | rfl <;> omega)))
            clear hst hxs hxs2 hxl2 hat hat2 hnx enx ho hbl hxr hfo hbv hjpos
            go_upto_if 96 with fail
            go_cut [10] from 92 to 102 (fun a w' => a = .int .i64 nx ∧ wr = w')
            case first =>
              rcases hnc with ⟨hlast, cnx⟩ | ⟨hlast, rfl⟩
              all_goals
                go_wp2
                go_meet
                case rel => exact ⟨rfl, rfl⟩
            case rest =>
              obtain ⟨rfl, rfl⟩ := hcut
              go_upto_if 107 with fail
              go_cut [11] from 103 to 107 (fun a w' => a = .int .u8 bv ∧ wr = w')
              case first =>
                have h := HBV.out
                clear HBV
                cases cc
                all_goals
                  simp at h
                  subst h
                  go_wp2
                  go_meet
                  case rel => exact ⟨rfl, rfl⟩
              case rest =>
                obtain ⟨rfl, rfl⟩ := hcut
                clear hnc c0 c1 HBV
                have hw8 : IntKind.u8.wrap nx = nx := by rw [IntKind.wrap_u8]; omega
                have hwi : IntKind.i64.wrap ((nb : Int) + 4) = (nb : Int) + 4 := wraps_i64 _ (by omega) (by omega)
                have hwu : IntKind.u64.wrap ((nb : Int) + 4) = (nb : Int) + 4 := wraps_u64 _ (by omega) (by omega)
                go_wp2
                go_region_held3 (fun w' => w'.cell? ⟨g, t * 3 + 2, none⟩ = some (.slice pb nb cb)) (first | exact c2 | go_keep | exact hcX | exact cell_below hb3 _ _ hcX)
                  ((first
                    | (refine step_append_byt _ (by rfl) _ _ 22 (by rfl) w.heap.size 5 i0 (.int .u8 0) Try.underlying22 hi0 hz0 hz1 hz2 rfl _ _ (by rfl) ((HO.out.alloc _).drew) _ _ _ _ [nx, bv] (by rfl) (two_byt ⟨hn0, hn1⟩ hb0 (by go_simp) (by go_simp)) (by rfl) (by omega) (by have := HBL.out.size; simp; omega) ?_; intro u' w2 hown2 hg2; have hcX : w2.cell? ⟨g, t * 3 + 2, none⟩ = some (.slice pb nb cb) := World.grownBy.cell hg2 (by go_simp) hbn; obtain ⟨pu, cu, rfl, hyu⟩ := HRN.out _ _ hown2; have HPU := hidden (fun w (h : Byt w pu (xs.length + 2) cu (xs ++ [nx, bv])) => rput_two pu (xs.length + 2) cu (xs ++ [nx, bv]) w h (by omega) ((nb : Int) + 4) (by omega)))
                    | (go_at_call 25; (with_reducible refine (HPU.out _ hyu).mono ?_); rintro e w3 ⟨v3, rfl, hown3, hb3⟩)))
                all_goals
                  have HO3 := hidden (hown3.mono (show w.heap.size ≤ w2.heap.size by have := HBL.out.size; have := hg2.size; simp at this; omega))
                  have hb2 := ((HBL.out.alloc HBL.out.size _).drew.grown hg2 (by have := HBL.out.size; simp; omega) (fun g hg => (HO.out.lt g hg).1))
                  have HB3 := hidden (hb2.trans (hb3.mono hb2.size))
                  have HBY3 := hidden (HBY.out.below HB3.out)
                  have hc3 : w3.cell? ⟨g, t * 3 + 2, none⟩ = some (.slice pb nb cb) := cell_below hb3 _ _ hcX
                  have hs3 := HB3.out.size
                  have hlen3 : (xs ++ [nx, bv] ++ be 2 ((nb : Int) + 4)).length = xs.length + 4 := by simp [be_len]
                  have HL3 := hidden hlen3
                  clear hown3 hb2 hb3 hown2 hg2 hcX hyu HPU c2 hlen3 hwi hwu hw8
                  go_wp2_with (at_builtin; go_loud (refine wpList_append_byt _ rfl _ _ 22 rfl w.heap.size 5 i0 (.int .u8 0) Try.underlying22 hi0 hz0 hz1 hz2 rfl _ _ rfl HO3.out _ _ _ _ _ rfl HBY3.out rfl ?c1 hs3 ?_))
                  case c1 => rw [HL3.out]; omega
                  intro v4 w4 hown4 hg4
                  have HB4 := hidden (HB3.out.grown hg4 HB3.out.size (fun g hg => (HO3.out.lt g hg).1))
                  have HO4 := hidden (show Own w4 w.heap.size 5 v4 (xs ++ oneC nx ⟨kk, cc, b⟩) by rw [HFO.out]; simpa using hown4)
                  clear hown4 hg4 hc3 hs3
                  go_wp2
                  go_roundw
                  case rel => exact ⟨t + 1, by omega, by go_num, _, HXS.out, HXL.out, HXR2.out, HO4.out, HB4.out⟩
                  case measure => simp [intOf]; omega
          · obtain rfl : t = j := by omega
            have e1 : xs = encC last (l.map RawP.raw) := by
              rw [← hxs, enc_end t (by rw [List.length_map, HL.out]; exact Nat.le_refl _), List.append_nil]
            subst e1
            have c0 := cell_below hbl _ _ HFI.out
            clear hxs hxl hxr ho hbl
            go_wp2
            go_ret3
            exact ⟨_, rfl, HO.out, HBL.out⟩
end Go.Proofs.Ytdlcdegfoadajaa
