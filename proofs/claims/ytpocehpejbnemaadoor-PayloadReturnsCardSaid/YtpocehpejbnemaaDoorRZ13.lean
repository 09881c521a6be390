/-
  What package proposal writes of a section and of a transform.
  What package proposal writes of a proposal.
-/
import Derived.Test.YtpocehpejbnemaaDoorRZ0
import Derived.Test.YtpocehpejbnemaaDoorRZ3
import Derived.Test.YtpocehpejbnemaaDoorRZ2
import Derived.Deep.RegionLaw
namespace Go.Proofs.YtpocehpejbnemaaDoor
open Go.RowKit
set_option linter.unusedVariables false

/-- Bytes of the call's own. -/
def OwnR (w : World) (m : Nat) (ys : List Int) (e : Ending) (w' : World) : Prop := ∃ q d, e = .returned (.slice q m d) ∧ Own w' w.heap.size 5 (.slice q m d) ys ∧ Byt w' q m d ys ∧ Below w.heap.size w w'
theorem put_r (p : Option Addr) (n c : Nat) (xs : List Int) (w : World) (h : Byt w p n c xs) (hb : n ≤ 140737488355000) (v : Int) (hv : 0 ≤ v ∧ v ≤ 18446744073709551615) (k : Nat) (h1 : 1 ≤ k) (h8 : k ≤ 8) (K : Int) (hK : K = k) (ys : List Int) (hys : xs ++ be k v = ys) (m : Nat) (hm : n + k = m) :
    Calls Tryd.prog 77 #[.slice p n c, .int .u64 v, .int .i64 K] w (OwnR w m ys) := by
  subst hK hys hm
  have hl : (xs ++ be k v).length = n + k := by rw [List.length_append, be_len, h.len]
  refine (put_yes p n c xs w h hb v hv k h1 h8).mono ?_
  rintro e w' ⟨u, rfl, hown, hbel⟩
  obtain ⟨q, d, rfl, hby⟩ := hown.bytN rfl hl (rng_append h.rng (be_rng _ _))
  exact ⟨q, d, rfl, hown, hby, hbel⟩

/-- The bytes of a section. -/
def secE (more : Int) (ys : List Int) : List Int := [more, 0] ++ (be 2 (4 + (ys.length : Int)) ++ ys)
/-- The inside of a transform, of a proposal. -/
def inT (x : Tr) : List Int := [x.t % 256, 0] ++ (be 2 x.i ++ (if x.k ≠ 0 then be 2 32782 ++ be 2 x.k else []))
def inP (p : Pr) : List Int := [p.n % 256, p.p % 256, (p.s.length : Int) % 256, (p.ts.length : Int) % 256] ++ (p.s ++ encTs p.ts)
theorem encT_sec (more : Int) (x : Tr) : encT more x = secE more (inT x) := by
  unfold encT secE inT lenT
  split <;> simp [be_len]
theorem encP_sec (more : Int) (p : Pr) : encP more p = secE more (inP p) := by
  unfold encP secE inP
  have e : 8 + (p.s.length : Int) + ((encTs p.ts).length : Int) = 4 + (([p.n % 256, p.p % 256, (p.s.length : Int) % 256, (p.ts.length : Int) % 256] ++ (p.s ++ encTs p.ts)).length : Int) := by
    simp
    omega
  rw [e]
theorem secE_len (more : Int) (ys : List Int) : (secE more ys).length = 4 + ys.length := by
  simp [secE, be_len]
  omega
theorem secE_rng (more : Int) (ys : List Int) (h0 : 0 ≤ more ∧ more ≤ 255) (h : ∀ x ∈ ys, 0 ≤ x ∧ x ≤ 255) : ∀ x ∈ secE more ys, 0 ≤ x ∧ x ≤ 255 := by
  refine rng_append ?_ (rng_append (be_rng _ _) h)
  intro z hz
  simp at hz
  omega

set_option maxHeartbeats 800000 in
theorem section_w (more : Int) (hm0 : 0 ≤ more ∧ more ≤ 255) (p : Option Addr) (n c : Nat) (ys : List Int) (w : World) (h : Byt w p n c ys) (hn : n ≤ 1048576) :
    Calls Tryd.prog 90 #[.int .i64 more, .slice p n c] w (OwnR w (n + 4) (secE more ys)) := by
  obtain ⟨i0, hi0, hz0, hz1, hz2⟩ := info_parts Tryd.infoByte
  have HX := hidden h
  have HL := hidden h.len
  have hw0 : IntKind.u64.wrap more = more := wraps_u64 _ (by omega) (by omega)
  have hw4 : IntKind.u64.wrap (4 + (n : Int)) = 4 + (n : Int) := wraps_u64 _ (by omega) (by omega)
  clear h
  go_enter Tryd.func90, Tryd.ntmps90
  go_wp2_with fail
  go_at_call 77
  (with_reducible refine (put_r none 0 0 [] w (Byt.nil _ _ _ (Nat.zero_le _)) (by omega) more (by omega) 1 (by omega) (by omega) 1 rfl [more] (by simp [be]; omega) 1 rfl).mono ?_)
  rintro e w1 ⟨q1, d1, rfl, ho1, hy1, hb1⟩
  have HY1 := hidden hy1
  have HB1 := hidden hb1
  clear ho1 hy1 hb1
  go_wp2_with fail
  go_at_call 77
  (with_reducible refine (put_r q1 1 d1 [more] w1 HY1.out (by omega) 0 (by omega) 1 (by omega) (by omega) 1 rfl [more, 0] (by simp [be]) 2 rfl).mono ?_)
  rintro e w2 ⟨q2, d2, rfl, ho2, hy2, hb2⟩
  have HY2 := hidden hy2
  have HB2 := hidden (HB1.out.trans (hb2.mono HB1.out.size))
  clear ho2 hy2 hb2 HY1 HB1
  go_wp2_with fail
  go_at_call 77
  (with_reducible refine (put_r q2 2 d2 [more, 0] w2 HY2.out (by omega) (4 + (n : Int)) (by omega) 2 (by omega) (by omega) 2 rfl ([more, 0] ++ be 2 (4 + (n : Int))) rfl 4 rfl).mono ?_)
  rintro e w3 ⟨q3, d3, rfl, ho3, hy3, hb3⟩
  have HB3 := hidden (HB2.out.trans (hb3.mono HB2.out.size))
  have HO3 := hidden (ho3.mono HB2.out.size)
  have HX3 := hidden (HX.out.below HB3.out)
  have hs3 := HB3.out.size
  clear ho3 hy3 hb3 HY2 HB2 hw0 hw4
  go_wp2_with (at_builtin; go_loud (refine wpList_append_byt _ rfl _ _ 22 rfl w.heap.size 5 i0 (.int .u8 0) Tryd.underlying22 hi0 hz0 hz1 hz2 rfl _ _ rfl HO3.out _ _ _ _ _ rfl HX3.out rfl ?c1 hs3 ?_))
  case c1 => simp [be_len]; omega
  intro v4 w4 ho4 hg4
  replace ho4 : Own w4 w.heap.size 5 v4 (secE more ys) := by
    rw [secE, HL.out]
    simpa using ho4
  obtain ⟨q4, d4, rfl, hy4⟩ := ho4.bytN rfl (show (secE more ys).length = n + 4 by rw [secE_len, HL.out]; omega) (secE_rng more ys hm0 HX.out.rng)
  have HB4 := HB3.out.grown hg4 HB3.out.size (fun g hg => (HO3.out.lt g hg).1)
  have HO4 := hidden ho4
  clear hg4
  go_wp2
  go_ret
  exact ⟨q4, d4, rfl, HO4.out, hy4, HB4⟩

set_option maxHeartbeats 800000 in
theorem transform_w (x : Tr) (w : World) (h : OkT x) (N : Nat) (hN : N = if x.k ≠ 0 then 8 else 4) :
    Calls Tryd.prog 112 #[.agg #[.int .i64 x.t, .int .i64 x.i, .int .i64 x.k]] w (OwnR w N (inT x)) := by
  obtain ⟨t, i, k⟩ := x
  have ht := h.t
  have hi := h.i
  have hk := h.k
  simp only at *
  have HN := hidden hN
  clear h hN
  have hw1 : IntKind.u64.wrap t = t := wraps_u64 _ (by omega) (by omega)
  have hw2 : IntKind.u64.wrap i = i := wraps_u64 _ (by omega) (by omega)
  have hw3 : IntKind.u64.wrap k = k := wraps_u64 _ (by omega) (by omega)
  have hal : Below w.heap.size w (w.alloc (.cells #[.int .i64 t, .int .i64 i, .int .i64 k] 113)) := (Below.refl _ _).alloc (Nat.le_refl _) _
  obtain ⟨W0, hW0⟩ : ∃ W0, w.alloc (.cells #[.int .i64 t, .int .i64 i, .int .i64 k] 113) = W0 := ⟨_, rfl⟩
  have c0 : W0.cell? ⟨w.heap.size, 0, none⟩ = some (.int .i64 t) := by subst hW0; exact World.cell?_alloc_at _ _ _ _ rfl
  have c1 : W0.cell? ⟨w.heap.size, 1, none⟩ = some (.int .i64 i) := by subst hW0; exact World.cell?_alloc_at _ _ _ _ rfl
  have c2 : W0.cell? ⟨w.heap.size, 2, none⟩ = some (.int .i64 k) := by subst hW0; exact World.cell?_alloc_at _ _ _ _ rfl
  rw [hW0] at hal
  have HAL := hidden hal
  have C1 := hidden c1
  have C2 := hidden c2
  go_enter Tryd.func112, Tryd.ntmps112
  go_wp2_with fail
  go_at_call 77
  clear hW0 hal c0 c1 c2
  (with_reducible refine (put_r none 0 0 [] W0 (Byt.nil _ _ _ (Nat.zero_le _)) (by omega) t (by omega) 1 (by omega) (by omega) 1 rfl [t % 256] (by simp [be]) 1 rfl).mono ?_)
  rintro e w1 ⟨q1, d1, rfl, ho1, hy1, hb1⟩
  have HY1 := hidden hy1
  have HB1 := hidden hb1
  clear ho1 hy1 hb1
  go_wp2_with fail
  go_at_call 77
  (with_reducible refine (put_r q1 1 d1 [t % 256] w1 HY1.out (by omega) 0 (by omega) 1 (by omega) (by omega) 1 rfl [t % 256, 0] (by simp [be]) 2 rfl).mono ?_)
  rintro e w2 ⟨q2, d2, rfl, ho2, hy2, hb2⟩
  have HY2 := hidden hy2
  have HB2 := hidden (HB1.out.trans (hb2.mono HB1.out.size))
  have c1 := cell_below HB2.out _ _ C1.out
  clear ho2 hy2 hb2 HY1 HB1
  go_wp2_with fail
  go_at_call 77
  (with_reducible refine (put_r q2 2 d2 [t % 256, 0] w2 HY2.out (by omega) i (by omega) 2 (by omega) (by omega) 2 rfl ([t % 256, 0] ++ be 2 i) rfl 4 rfl).mono ?_)
  rintro e w3 ⟨q3, d3, rfl, ho3, hy3, hb3⟩
  have HB3 := hidden (HB2.out.trans (hb3.mono HB2.out.size))
  have HB3w := hidden (HAL.out.trans (HB3.out.mono HAL.out.size))
  have c2 := cell_below HB3.out _ _ C2.out
  have HY3 := hidden hy3
  have HO3 := hidden (ho3.mono (Nat.le_trans HAL.out.size HB2.out.size))
  clear ho3 hy3 hb3 HY2 HB2 c1
  by_cases hk0 : k = 0
  · subst hk0
    have hN := HN.out
    rw [if_neg (by simp)] at hN
    subst hN
    go_wp2
    go_ret
    refine ⟨q3, d3, rfl, ?_, ?_, HB3w.out⟩
    · have := HO3.out
      simpa [inT] using this
    · have := HY3.out
      simpa [inT] using this
  · have hN := HN.out
    rw [if_pos hk0] at hN
    subst hN
    have hk' : (k == 0) = false := by simpa using hk0
    have HK := hidden hk0
    go_wp2_with fail
    go_at_call 77
    (with_reducible refine (put_r q3 4 d3 ([t % 256, 0] ++ be 2 i) w3 HY3.out (by omega) 32782 (by omega) 2 (by omega) (by omega) 2 rfl ([t % 256, 0] ++ be 2 i ++ be 2 32782) rfl 6 rfl).mono ?_)
    rintro e w4 ⟨q4, d4, rfl, ho4, hy4, hb4⟩
    have HB4 := hidden (HB3.out.trans (hb4.mono HB3.out.size))
    have HY4 := hidden hy4
    have c3 := cell_below HB4.out _ _ C2.out
    clear ho4 hy4 hb4 HY3 HO3 c2
    go_wp2_with fail
    go_at_call 77
    (with_reducible refine (put_r q4 6 d4 ([t % 256, 0] ++ be 2 i ++ be 2 32782) w4 HY4.out (by omega) k (by omega) 2 (by omega) (by omega) 2 rfl ([t % 256, 0] ++ be 2 i ++ be 2 32782 ++ be 2 k) rfl 8 rfl).mono ?_)
    rintro e w5 ⟨q5, d5, rfl, ho5, hy5, hb5⟩
    have HB5 := hidden (HAL.out.trans ((HB4.out.trans (hb5.mono HB4.out.size)).mono HAL.out.size))
    have HO5 := hidden (ho5.mono (Nat.le_trans HAL.out.size HB4.out.size))
    have HY5 := hidden hy5
    clear ho5 hy5 hb5 c3
    go_wp2
    go_ret
    have e : inT ⟨t, i, k⟩ = [t % 256, 0] ++ be 2 i ++ be 2 32782 ++ be 2 k := by
      rw [inT, if_pos HK.out]
      simp
    rw [e]
    exact ⟨q5, d5, rfl, HO5.out, HY5.out, HB5.out⟩
end Go.Proofs.YtpocehpejbnemaaDoor

namespace Go.Proofs.YtpocehpejbnemaaDoor
open Go.RowKit
set_option linter.unusedVariables false

theorem encTs_step (l : List Tr) (j : Nat) (hj : j < l.length) (x : Tr) (hx : l[j] = x) : encTs (l.drop j) = secE (if j + 1 < l.length then 3 else 0) (inT x) ++ encTs (l.drop (j + 1)) := by
  subst hx
  rw [List.drop_eq_getElem_cons hj, encTs, encT_sec, List.length_drop]
  by_cases h : j + 1 < l.length
  · rw [if_neg (by omega), if_pos h]
  · rw [if_pos (by omega), if_neg h]
theorem inT_len (x : Tr) : (inT x).length = if x.k ≠ 0 then 8 else 4 := by
  unfold inT
  split <;> simp [be_len]
theorem inT_rng (x : Tr) : ∀ z ∈ inT x, 0 ≤ z ∧ z ≤ 255 := by
  unfold inT
  refine rng_append ?_ (rng_append (be_rng _ _) ?_)
  · intro z hz
    simp at hz
    omega
  · split
    · exact rng_append (be_rng _ _) (be_rng _ _)
    · intro z hz; simp at hz

set_option maxHeartbeats 3200000 in
set_option maxRecDepth 100000 in
theorem proposal_w (x : PrP) (w : World) (h : OkD w x) (hok : OkP x.pr) (N : Nat) (hN : (inP x.pr).length = N) :
    Calls Tryd.prog 92 #[.agg #[.int .i64 x.n, .int .i64 x.p, .slice x.sp x.sn x.sc, .slice x.tp x.tn x.tc]] w (OwnR w N (inP x.pr)) := by
  obtain ⟨i0, hi0, hz0, hz1, hz2⟩ := info_parts Tryd.infoByte
  have hs : x.s.length = x.sn := h.s.len
  have ht : x.ts.length = x.tn := h.ts.len
  have HT := hidden h.ts
  have HSP := hidden h.s
  have h1 := hok.n
  have h2 := hok.p
  have h3 := hok.s
  have h4 := hok.few
  have HOK := hidden hok.ts
  have HN := hidden hN
  clear h hN hok
  obtain ⟨n, p, sp, sn, sc, s, tp, tn, tc, ts⟩ := x
  simp only [PrP.pr] at *
  have HIN : Hid (inP ⟨n, p, s, ts⟩ = [n % 256, p % 256, (sn : Int) % 256, (tn : Int) % 256] ++ (s ++ encTs ts)) := hidden (by rw [inP, hs, ht])
  rw [hs] at h3
  rw [ht] at h4
  have HS := hidden hs
  have HTL := hidden ht
  clear hs ht
  have hw1 : IntKind.u64.wrap n = n := wraps_u64 _ (by omega) (by omega)
  have hw2 : IntKind.u64.wrap p = p := wraps_u64 _ (by omega) (by omega)
  have hw3 : IntKind.u64.wrap (sn : Int) = sn := wraps_u64 _ (by omega) (by omega)
  have hw4 : IntKind.u64.wrap (tn : Int) = tn := wraps_u64 _ (by omega) (by omega)
  have hal : Below w.heap.size w (w.alloc (.cells #[.int .i64 n, .int .i64 p, .slice sp sn sc, .slice tp tn tc] 111)) := (Below.refl _ _).alloc (Nat.le_refl _) _
  have hs0 : (w.alloc (.cells #[.int .i64 n, .int .i64 p, .slice sp sn sc, .slice tp tn tc] 111)).heap.size = w.heap.size + 1 := by simp
  obtain ⟨W0, hW0⟩ : ∃ W0, w.alloc (.cells #[.int .i64 n, .int .i64 p, .slice sp sn sc, .slice tp tn tc] 111) = W0 := ⟨_, rfl⟩
  have c0 : W0.cell? ⟨w.heap.size, 0, none⟩ = some (.int .i64 n) := by subst hW0; exact World.cell?_alloc_at _ _ _ _ rfl
  have c1 : W0.cell? ⟨w.heap.size, 1, none⟩ = some (.int .i64 p) := by subst hW0; exact World.cell?_alloc_at _ _ _ _ rfl
  have c2 : W0.cell? ⟨w.heap.size, 2, none⟩ = some (.slice sp sn sc) := by subst hW0; exact World.cell?_alloc_at _ _ _ _ rfl
  have c3 : W0.cell? ⟨w.heap.size, 3, none⟩ = some (.slice tp tn tc) := by subst hW0; exact World.cell?_alloc_at _ _ _ _ rfl
  rw [hW0] at hal hs0
  have HAL := hidden hal
  have HS0 := hidden hs0
  have C1 := hidden c1
  have C2 := hidden c2
  have C3 := hidden c3
  go_enter Tryd.func92, Tryd.ntmps92
  go_wp2_with fail
  go_at_call 77
  clear hW0 hal c0 c1 c2 c3 hs0
  (with_reducible refine (put_r none 0 0 [] W0 (Byt.nil _ _ _ (Nat.zero_le _)) (by omega) n (by omega) 1 (by omega) (by omega) 1 rfl [n % 256] (by simp [be]) 1 rfl).mono ?_)
  rintro e w1 ⟨q1, d1, rfl, ho1, hy1, hb1⟩
  have HY1 := hidden hy1
  have HB1 := hidden hb1
  have c1 := cell_below hb1 _ _ C1.out
  clear ho1 hy1 hb1
  go_wp2_with fail
  go_at_call 77
  (with_reducible refine (put_r q1 1 d1 [n % 256] w1 HY1.out (by omega) p (by omega) 1 (by omega) (by omega) 1 rfl [n % 256, p % 256] (by simp [be]) 2 rfl).mono ?_)
  rintro e w2 ⟨q2, d2, rfl, ho2, hy2, hb2⟩
  have HY2 := hidden hy2
  have HB2 := hidden (HB1.out.trans (hb2.mono HB1.out.size))
  have c2 := cell_below HB2.out _ _ C2.out
  clear ho2 hy2 hb2 HY1 HB1 c1
  go_wp2_with fail
  go_at_call 77
  (with_reducible refine (put_r q2 2 d2 [n % 256, p % 256] w2 HY2.out (by omega) sn (by omega) 1 (by omega) (by omega) 1 rfl [n % 256, p % 256, (sn : Int) % 256] (by simp [be]) 3 rfl).mono ?_)
  rintro e w3 ⟨q3, d3, rfl, ho3, hy3, hb3⟩
  have HY3 := hidden hy3
  have HB3 := hidden (HB2.out.trans (hb3.mono HB2.out.size))
  have c3 := cell_below HB3.out _ _ C3.out
  clear ho3 hy3 hb3 HY2 HB2 c2
  go_wp2_with fail
  go_at_call 77
  (with_reducible refine (put_r q3 3 d3 [n % 256, p % 256, (sn : Int) % 256] w3 HY3.out (by omega) tn (by omega) 1 (by omega) (by omega) 1 rfl [n % 256, p % 256, (sn : Int) % 256, (tn : Int) % 256] (by simp [be]) 4 rfl).mono ?_)
  rintro e w4 ⟨q4, d4, rfl, ho4, hy4, hb4⟩
  have HB4 := hidden (HB3.out.trans (hb4.mono HB3.out.size))
  have HO4 := hidden (ho4.mono (show w.heap.size + 1 ≤ w3.heap.size by have := HB3.out.size; have := HS0.out; omega))
  have HSP4 := hidden ((HSP.out.below HAL.out).below HB4.out)
  have c2 := cell_below HB4.out _ _ C2.out
  have c3' := cell_below HB4.out _ _ C3.out
  clear ho4 hy4 hb4 HY3 HB3 c3
  go_wp2_with (at_builtin; go_loud (refine wpList_append_byt _ rfl _ _ 22 rfl (w.heap.size + 1) 5 i0 (.int .u8 0) Tryd.underlying22 hi0 hz0 hz1 hz2 rfl _ _ rfl HO4.out _ _ _ _ _ rfl HSP4.out rfl ?c1 ?c2 ?_))
  case c1 => simp; omega
  case c2 => have := HB4.out.size; have := HS0.out; omega
  intro v5 w5 ho5 hg5
  have hb4w : Below w.heap.size w w4 := HAL.out.trans (HB4.out.mono HAL.out.size)
  have hr5 : ∀ k, (Value.slice q4 4 d4).ownBlock = some k → w.heap.size ≤ k := fun k hk => Nat.le_trans (Nat.le_succ _) (HO4.out.lt k hk).1
  have HB5 := hidden (hb4w.grown hg5 hb4w.size hr5)
  have c3 : w5.cell? ⟨w.heap.size, 3, none⟩ = some (.slice tp tn tc) := hg5.cell c3' (fun e => Nat.lt_irrefl _ (HO4.out.lt _ e.symm).1)
  have HC3 := hidden c3
  have HO5 := hidden ho5
  clear hg5 ho5 c3' c2 HO4 hb4w hr5
  go_wp2_with fail
  go_loopw [3, 34] (fun u i wr => ∃ t : Nat, t ≤ tn ∧ i = .int .i64 t ∧ ∃ xs : List Int, xs ++ encTs (ts.drop t) = inP ⟨n, p, s, ts⟩ ∧ xs.length ≤ 12 + t * 12 ∧ Own wr (w.heap.size + 1) 5 u xs ∧ wr.cell? ⟨w.heap.size, 3, none⟩ = some (.slice tp tn tc) ∧ Below w.heap.size w wr ∧ w.heap.size + 1 ≤ wr.heap.size) (fun _ i _ => tn - (intOf i).toNat)
  case atStart => exact ⟨0, by omega, rfl, _, by rw [HIN.out, List.drop_zero]; simp, by simp; have := HS.out; omega, HO5.out, HC3.out, HB5.out, by have := HB5.out.size; have := HB4.out.size; have := HS0.out; have := World.block_lt_of_cell? _ _ HC3.out; simp at this; omega⟩
  case round =>
    obtain ⟨t, ht, rfl, xs, hxs, hxl, ho, hbx, hbl, hsz⟩ := hrel
    have HO := hidden ho
    have HBL := hidden hbl
    have HXS := hidden hxs
    have HBX := hidden hbx
    by_cases hlt : ¬ t < tn
    · obtain rfl : t = tn := by omega
      rw [List.drop_of_length_le (by rw [HTL.out]; exact Nat.le_refl _), encTs, List.append_nil] at hxs
      have HXS2 := hidden hxs
      have hbytes : ∀ z ∈ xs, 0 ≤ z ∧ z ≤ 255 := by
        rw [hxs, HIN.out]
        refine rng_append ?_ (rng_append HSP.out.rng ?_)
        · intro z hz; simp at hz; omega
        · have : ∀ l : List Tr, ∀ z ∈ encTs l, 0 ≤ z ∧ z ≤ 255 := by
            intro l
            induction l with
            | nil => intro z hz; simp [encTs] at hz
            | cons a l ih =>
              rw [encTs, encT_sec]
              exact rng_append (secE_rng _ _ (by split <;> omega) (inT_rng a)) ih
          exact this ts
      obtain ⟨q, d, rfl, hby⟩ := HO.out.bytN rfl (show xs.length = N by rw [hxs]; exact HN.out) hbytes
      have HBY := hidden hby
      clear hxs hbl ho hbytes hby
      go_wp2
      go_ret
      rw [← HXS2.out]
      exact ⟨q, d, rfl, HO.out.mono (by omega), HBY.out, HBL.out⟩
    replace hlt : t < tn := by omega
    have hlt' : (t : Int) < tn := by omega
    obtain ⟨g, rfl, hc, hint⟩ := (HT.out.below hbl).cell t (by rw [HTL.out]; exact hlt)
    obtain ⟨y, hy⟩ : ∃ y, ts[t]'(by rw [HTL.out]; exact hlt) = y := ⟨_, rfl⟩
    have hyo := HOK.out _ (List.getElem_mem (by rw [HTL.out]; exact hlt) : ts[t]'(by rw [HTL.out]; exact hlt) ∈ ts)
    have hst := encTs_step ts t (by rw [HTL.out]; exact hlt) y hy
    rw [hy] at hc hyo
    rw [HTL.out] at hst
    obtain ⟨b, hb⟩ : ∃ b, b = decide (t + 1 < tn) := ⟨_, rfl⟩
    obtain ⟨mk, hmk⟩ : ∃ mk : Int, (if b = true then 3 else 0) = mk := ⟨_, rfl⟩
    have hmk' : (if t + 1 < tn then (3 : Int) else 0) = mk := by rw [← hmk, hb]; simp
    rw [hmk'] at hst
    have hmb : 0 ≤ mk ∧ mk ≤ 255 := by rw [← hmk]; split <;> omega
    have hbd : decide ((t : Int) + 1 < tn) = b := by rw [hb]; simp; omega
    obtain ⟨yt, yi, yk⟩ := y
    have c0 := hc 0 _ rfl
    have c1 := hc 1 _ rfl
    have c2 := hc 2 _ rfl
    simp only [KTr, Nat.add_zero] at c0 c1 c2
    obtain ⟨M, hM⟩ : ∃ M : Nat, M = if yk ≠ 0 then 8 else 4 := ⟨_, rfl⟩
    have hM8 : M ≤ 8 := by rw [hM]; split <;> omega
    have hML : (inT ⟨yt, yi, yk⟩).length = M := by rw [inT_len, hM]
    have hnx : (xs ++ secE mk (inT ⟨yt, yi, yk⟩)) ++ encTs (ts.drop (t + 1)) = inP ⟨n, p, s, ts⟩ := by rw [List.append_assoc, ← hst]; exact hxs
    have hnl : (xs ++ secE mk (inT ⟨yt, yi, yk⟩)).length ≤ 12 + (t + 1) * 12 := by rw [List.length_append, secE_len, hML]; omega
    have HNX := hidden hnx
    have HNL := hidden hnl
    have HMK := hidden hmk
    have HT1 := hidden (fun w => transform_w ⟨yt, yi, yk⟩ w hyo M hM)
    have HIR := hidden (inT_rng ⟨yt, yi, yk⟩)
    generalize inT ⟨yt, yi, yk⟩ = ys at *
    clear hc hint hy hst hmk hmk' hyo hnx hnl hM hb hxs
    simp only at HT1
    have hal : Below wr.heap.size wr (wr.alloc (.cells #[.int .i64 yt, .int .i64 yi, .int .i64 yk] 113)) := (Below.refl _ _).alloc (Nat.le_refl _) _
    obtain ⟨W1, hW1⟩ : ∃ W1, wr.alloc (.cells #[.int .i64 yt, .int .i64 yi, .int .i64 yk] 113) = W1 := ⟨_, rfl⟩
    have e0 : W1.drew.cell? ⟨wr.heap.size, 0, none⟩ = some (.int .i64 yt) := by subst hW1; exact World.cell?_alloc_at _ _ _ _ rfl
    have e1 : W1.drew.cell? ⟨wr.heap.size, 1, none⟩ = some (.int .i64 yi) := by subst hW1; exact World.cell?_alloc_at _ _ _ _ rfl
    have e2 : W1.drew.cell? ⟨wr.heap.size, 2, none⟩ = some (.int .i64 yk) := by subst hW1; exact World.cell?_alloc_at _ _ _ _ rfl
    rw [hW1] at hal
    have e3 : W1.drew.cell? ⟨w.heap.size, 3, none⟩ = some (.slice (some ⟨g, 0, none⟩) tn tc) := cell_below hal _ _ hbx
    have HOD : Hid (Own W1.drew (w.heap.size + 1) 5 u3 xs) := hidden ((ho.below hal).below (drew_below ⟨1, rfl⟩))
    have HBD : Hid (Below w.heap.size w W1.drew) := hidden (hbl.trans ((hal.mono hbl.size).trans (drew_below ⟨1, rfl⟩)))
    have HSD : Hid (w.heap.size + 1 ≤ W1.drew.heap.size) := hidden (Nat.le_trans hsz hal.size)
    have E3 := hidden e3
    clear hal ho hbl hbx
    go_wp2_with fail
    have hwt : IntKind.i64.wrap ((t : Int) + 1) = (t : Int) + 1 := by rw [IntKind.wrap_i64]; omega
    go_region_law (first
      | (go_simp; go_at_call 91; (with_reducible refine (mark_any 3 b _).mono ?_); rintro e wM ⟨rfl, rfl⟩; rw [HMK.out])
      | (go_simp; go_at_call 112; (with_reducible refine (HT1.out _).mono ?_); rintro e wA ⟨qa, da, rfl, hoA, hyA, hbA⟩; have e3 := cell_below hbA _ _ E3.out)
      | (go_simp; go_at_call 90; (with_reducible refine (section_w mk hmb qa M da ys _ hyA (by omega)).mono ?_); rintro e wB ⟨qb, db, rfl, hoB, hyB, hbB⟩; have e3 := cell_below hbB _ _ (cell_below hbA _ _ E3.out))
      | (refine step_append_byt _ (by rfl) _ _ 22 (by rfl) (w.heap.size + 1) 5 i0 (.int .u8 0) Tryd.underlying22 hi0 hz0 hz1 hz2 rfl _ _ (by rfl) ((HOD.out.below hbA).below hbB) _ _ _ _ _ (by rfl) hyB (by rfl) (by omega) (by have := HSD.out; have := hbA.size; have := hbB.size; omega) ?_; intro v6 w6 ho6 hg6))
    all_goals
      have hbB1 := HBD.out.trans (hbA.mono HBD.out.size)
      have hbB2 := hbB1.trans (hbB.mono hbB1.size)
      have hob := (HOD.out.below hbA).below hbB
      have hr6 : ∀ k, u3.ownBlock = some k → w.heap.size ≤ k := fun k hk => Nat.le_trans (Nat.le_succ _) (hob.lt k hk).1
      have HB6 := hidden (hbB2.grown hg6 hbB2.size hr6)
      have HX6 := hidden (hg6.cell (cell_below hbB _ _ (cell_below hbA _ _ E3.out)) (fun e => Nat.lt_irrefl _ (hob.lt _ e.symm).1))
      have HS6 := hidden (Nat.le_trans HSD.out (Nat.le_trans hbA.size (Nat.le_trans hbB.size hg6.size)))
      have HO6 := hidden ho6
      clear hbB1 hbB2 hob hr6 hg6 ho6 hoA hoB hyA hyB hbA hbB HOD HBD HO HBL
      go_wp2
      go_roundw
      case rel => exact ⟨t + 1, by omega, by go_num, _, HNX.out, HNL.out, HO6.out, HX6.out, HB6.out, HS6.out⟩
      case measure => simp [intOf]; omega
end Go.Proofs.YtpocehpejbnemaaDoor
