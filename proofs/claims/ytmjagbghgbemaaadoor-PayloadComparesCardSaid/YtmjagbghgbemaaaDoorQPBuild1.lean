/-
  What package proposal writes of a section and of a transform.
-/
import Derived.Test.YtmjagbghgbemaaaDoorQZ0
import Derived.Test.YtmjagbghgbemaaaDoorQZ3
namespace Go.Proofs.YtmjagbghgbemaaaDoor
open Go.RowKit
set_option linter.unusedVariables false

/-- Bytes of the call's own. -/
def OwnR (w : World) (m : Nat) (ys : List Int) (e : Ending) (w' : World) : Prop := ∃ q d, e = .returned (.slice q m d) ∧ Own w' w.heap.size 5 (.slice q m d) ys ∧ Byt w' q m d ys ∧ Below w.heap.size w w'
theorem put_r (p : Option Addr) (n c : Nat) (xs : List Int) (w : World) (h : Byt w p n c xs) (hb : n ≤ 140737488355000) (v : Int) (hv : 0 ≤ v ∧ v ≤ 18446744073709551615) (k : Nat) (h1 : 1 ≤ k) (h8 : k ≤ 8) (K : Int) (hK : K = k) (ys : List Int) (hys : xs ++ be k v = ys) (m : Nat) (hm : n + k = m) :
    Calls Tryd.prog 19 #[.slice p n c, .int .u64 v, .int .i64 K] w (OwnR w m ys) := by
  subst hK hys hm
  have hl : (xs ++ be k v).length = n + k := by rw [List.length_append, be_len, h.len]
  refine (put_yes p n c xs w h hb v hv k h1 h8).mono ?_
  rintro e w' ⟨u, rfl, hown, hbel⟩
  obtain ⟨q, d, rfl, hby⟩ := hown.bytN rfl hl (rng_append h.rng (be_rng _ _))
  exact ⟨q, d, rfl, hown, hby, hbel⟩

/-- The bytes of a section. -/
def secE (more : Int) (ys : List Int) : List Int := [more, 0] ++ (be 2 (4 + (ys.length : Int)) ++ ys)
/-- The inside of a transform, of a proposal. -/
def inT (x : Tr) : List Int := [x.t % 256, 0] ++ (be 2 x.i ++ (if x.k ≠ 0 then be 2 32782 ++ be 2 x.k else []))
def inP (p : Pr) : List Int := [p.n % 256, p.p % 256, (p.s.length : Int) % 256, (p.ts.length : Int) % 256] ++ (p.s ++ encTs p.ts)
theorem encT_sec (more : Int) (x : Tr) : encT more x = secE more (inT x) := by
  unfold encT secE inT lenT
  split <;> simp [be_len]
theorem encP_sec (more : Int) (p : Pr) : encP more p = secE more (inP p) := by
  unfold encP secE inP
  have e : 8 + (p.s.length : Int) + ((encTs p.ts).length : Int) = 4 + (([p.n % 256, p.p % 256, (p.s.length : Int) % 256, (p.ts.length : Int) % 256] ++ (p.s ++ encTs p.ts)).length : Int) := by
    simp
    omega
  rw [e]
theorem secE_len (more : Int) (ys : List Int) : (secE more ys).length = 4 + ys.length := by
  simp [secE, be_len]
  omega
theorem secE_rng (more : Int) (ys : List Int) (h0 : 0 ≤ more ∧ more ≤ 255) (h : ∀ x ∈ ys, 0 ≤ x ∧ x ≤ 255) : ∀ x ∈ secE more ys, 0 ≤ x ∧ x ≤ 255 := by
  refine rng_append ?_ (rng_append (be_rng _ _) h)
  intro z hz
  simp at hz
  omega

set_option maxHeartbeats 800000 in
theorem section_w (more : Int) (hm0 : 0 ≤ more ∧ more ≤ 255) (p : Option Addr) (n c : Nat) (ys : List Int) (w : World) (h : Byt w p n c ys) (hn : n ≤ 1048576) :
    Calls Tryd.prog 76 #[.int .i64 more, .slice p n c] w (OwnR w (n + 4) (secE more ys)) := by
  obtain ⟨i0, hi0, hz0, hz1, hz2⟩ := info_parts Tryd.infoByte
  have HX := hidden h
  have HL := hidden h.len
  have hw0 : IntKind.u64.wrap more = more := wraps_u64 _ (by omega) (by omega)
  have hw4 : IntKind.u64.wrap (4 + (n : Int)) = 4 + (n : Int) := wraps_u64 _ (by omega) (by omega)
  clear h
  go_enter Tryd.func76, Tryd.ntmps76
  go_wp2_with fail
  go_at_call 19
  (with_reducible refine (put_r none 0 0 [] w (Byt.nil _ _ _ (Nat.zero_le _)) (by omega) more (by omega) 1 (by omega) (by omega) 1 rfl [more] (by simp [be]; omega) 1 rfl).mono ?_)
  rintro e w1 ⟨q1, d1, rfl, ho1, hy1, hb1⟩
  have HY1 := hidden hy1
  have HB1 := hidden hb1
  clear ho1 hy1 hb1
  go_wp2_with fail
  go_at_call 19
  (with_reducible refine (put_r q1 1 d1 [more] w1 HY1.out (by omega) 0 (by omega) 1 (by omega) (by omega) 1 rfl [more, 0] (by simp [be]) 2 rfl).mono ?_)
  rintro e w2 ⟨q2, d2, rfl, ho2, hy2, hb2⟩
  have HY2 := hidden hy2
  have HB2 := hidden (HB1.out.trans (hb2.mono HB1.out.size))
  clear ho2 hy2 hb2 HY1 HB1
  go_wp2_with fail
  go_at_call 19
  (with_reducible refine (put_r q2 2 d2 [more, 0] w2 HY2.out (by omega) (4 + (n : Int)) (by omega) 2 (by omega) (by omega) 2 rfl ([more, 0] ++ be 2 (4 + (n : Int))) rfl 4 rfl).mono ?_)
  rintro e w3 ⟨q3, d3, rfl, ho3, hy3, hb3⟩
  have HB3 := hidden (HB2.out.trans (hb3.mono HB2.out.size))
  have HO3 := hidden (ho3.mono HB2.out.size)
  have HX3 := hidden (HX.out.below HB3.out)
  have hs3 := HB3.out.size
  clear ho3 hy3 hb3 HY2 HB2 hw0 hw4
  go_wp2_with (at_builtin; go_loud (refine wpList_append_byt _ rfl _ _ 22 rfl w.heap.size 5 i0 (.int .u8 0) Tryd.underlying22 hi0 hz0 hz1 hz2 rfl _ _ rfl HO3.out _ _ _ _ _ rfl HX3.out rfl ?c1 hs3 ?_))
  case c1 => simp [be_len]; omega
  intro v4 w4 ho4 hg4
  replace ho4 : Own w4 w.heap.size 5 v4 (secE more ys) := by
    rw [secE, HL.out]
    simpa using ho4
  obtain ⟨q4, d4, rfl, hy4⟩ := ho4.bytN rfl (show (secE more ys).length = n + 4 by rw [secE_len, HL.out]; omega) (secE_rng more ys hm0 HX.out.rng)
  have HB4 := HB3.out.grown hg4 HB3.out.size (fun g hg => (HO3.out.lt g hg).1)
  have HO4 := hidden ho4
  clear hg4
  go_wp2
  go_ret
  exact ⟨q4, d4, rfl, HO4.out, hy4, HB4⟩

set_option maxHeartbeats 800000 in
theorem transform_w (x : Tr) (w : World) (h : OkT x) (N : Nat) (hN : N = if x.k ≠ 0 then 8 else 4) :
    Calls Tryd.prog 89 #[.agg #[.int .i64 x.t, .int .i64 x.i, .int .i64 x.k]] w (OwnR w N (inT x)) := by
  obtain ⟨t, i, k⟩ := x
  have ht := h.t
  have hi := h.i
  have hk := h.k
  simp only at *
  have HN := hidden hN
  clear h hN
  have hw1 : IntKind.u64.wrap t = t := wraps_u64 _ (by omega) (by omega)
  have hw2 : IntKind.u64.wrap i = i := wraps_u64 _ (by omega) (by omega)
  have hw3 : IntKind.u64.wrap k = k := wraps_u64 _ (by omega) (by omega)
  have hal : Below w.heap.size w (w.alloc (.cells #[.int .i64 t, .int .i64 i, .int .i64 k] 100)) := (Below.refl _ _).alloc (Nat.le_refl _) _
  obtain ⟨W0, hW0⟩ : ∃ W0, w.alloc (.cells #[.int .i64 t, .int .i64 i, .int .i64 k] 100) = W0 := ⟨_, rfl⟩
  have c0 : W0.cell? ⟨w.heap.size, 0, none⟩ = some (.int .i64 t) := by subst hW0; exact World.cell?_alloc_at _ _ _ _ rfl
  have c1 : W0.cell? ⟨w.heap.size, 1, none⟩ = some (.int .i64 i) := by subst hW0; exact World.cell?_alloc_at _ _ _ _ rfl
  have c2 : W0.cell? ⟨w.heap.size, 2, none⟩ = some (.int .i64 k) := by subst hW0; exact World.cell?_alloc_at _ _ _ _ rfl
  rw [hW0] at hal
  have HAL := hidden hal
  have C1 := hidden c1
  have C2 := hidden c2
  go_enter Tryd.func89, Tryd.ntmps89
  go_wp2_with fail
  go_at_call 19
  clear hW0 hal c0 c1 c2
  (with_reducible refine (put_r none 0 0 [] W0 (Byt.nil _ _ _ (Nat.zero_le _)) (by omega) t (by omega) 1 (by omega) (by omega) 1 rfl [t % 256] (by simp [be]) 1 rfl).mono ?_)
  rintro e w1 ⟨q1, d1, rfl, ho1, hy1, hb1⟩
  have HY1 := hidden hy1
  have HB1 := hidden hb1
  clear ho1 hy1 hb1
  go_wp2_with fail
  go_at_call 19
  (with_reducible refine (put_r q1 1 d1 [t % 256] w1 HY1.out (by omega) 0 (by omega) 1 (by omega) (by omega) 1 rfl [t % 256, 0] (by simp [be]) 2 rfl).mono ?_)
  rintro e w2 ⟨q2, d2, rfl, ho2, hy2, hb2⟩
  have HY2 := hidden hy2
  have HB2 := hidden (HB1.out.trans (hb2.mono HB1.out.size))
  have c1 := cell_below HB2.out _ _ C1.out
  clear ho2 hy2 hb2 HY1 HB1
  go_wp2_with fail
  go_at_call 19
  (with_reducible refine (put_r q2 2 d2 [t % 256, 0] w2 HY2.out (by omega) i (by omega) 2 (by omega) (by omega) 2 rfl ([t % 256, 0] ++ be 2 i) rfl 4 rfl).mono ?_)
  rintro e w3 ⟨q3, d3, rfl, ho3, hy3, hb3⟩
  have HB3 := hidden (HB2.out.trans (hb3.mono HB2.out.size))
  have HB3w := hidden (HAL.out.trans (HB3.out.mono HAL.out.size))
  have c2 := cell_below HB3.out _ _ C2.out
  have HY3 := hidden hy3
  have HO3 := hidden (ho3.mono (Nat.le_trans HAL.out.size HB2.out.size))
  clear ho3 hy3 hb3 HY2 HB2 c1
  by_cases hk0 : k = 0
  · subst hk0
    have hN := HN.out
    rw [if_neg (by simp)] at hN
    subst hN
    go_wp2
    go_ret
    refine ⟨q3, d3, rfl, ?_, ?_, HB3w.out⟩
    · have := HO3.out
      simpa [inT] using this
    · have := HY3.out
      simpa [inT] using this
  · have hN := HN.out
    rw [if_pos hk0] at hN
    subst hN
    have hk' : (k == 0) = false := by simpa using hk0
    have HK := hidden hk0
    go_wp2_with fail
    go_at_call 19
    (with_reducible refine (put_r q3 4 d3 ([t % 256, 0] ++ be 2 i) w3 HY3.out (by omega) 32782 (by omega) 2 (by omega) (by omega) 2 rfl ([t % 256, 0] ++ be 2 i ++ be 2 32782) rfl 6 rfl).mono ?_)
    rintro e w4 ⟨q4, d4, rfl, ho4, hy4, hb4⟩
    have HB4 := hidden (HB3.out.trans (hb4.mono HB3.out.size))
    have HY4 := hidden hy4
    have c3 := cell_below HB4.out _ _ C2.out
    clear ho4 hy4 hb4 HY3 HO3 c2
    go_wp2_with fail
    go_at_call 19
    (with_reducible refine (put_r q4 6 d4 ([t % 256, 0] ++ be 2 i ++ be 2 32782) w4 HY4.out (by omega) k (by omega) 2 (by omega) (by omega) 2 rfl ([t % 256, 0] ++ be 2 i ++ be 2 32782 ++ be 2 k) rfl 8 rfl).mono ?_)
    rintro e w5 ⟨q5, d5, rfl, ho5, hy5, hb5⟩
    have HB5 := hidden (HAL.out.trans ((HB4.out.trans (hb5.mono HB4.out.size)).mono HAL.out.size))
    have HO5 := hidden (ho5.mono (Nat.le_trans HAL.out.size HB4.out.size))
    have HY5 := hidden hy5
    clear ho5 hy5 hb5 c3
    go_wp2
    go_ret
    have e : inT ⟨t, i, k⟩ = [t % 256, 0] ++ be 2 i ++ be 2 32782 ++ be 2 k := by
      rw [inT, if_pos HK.out]
      simp
    rw [e]
    exact ⟨q5, d5, rfl, HO5.out, HY5.out, HB5.out⟩
end Go.Proofs.YtmjagbghgbemaaaDoor
