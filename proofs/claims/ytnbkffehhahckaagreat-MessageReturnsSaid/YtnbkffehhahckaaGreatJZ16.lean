/-
  What package proposal's Build returns.
  What the laws of chapter 4 share: the example holds; Build's bytes as bytes; drawn proposals may be written.
  Rows of payloads in memory, and the small functions of package message that look at one payload or search a row.
-/
import Derived.Test.YtnbkffehhahckaaGreatJZ15
import Derived.Test.YtnbkffehhahckaaGreatJDrawP
import Derived.Test.YtnbkffehhahckaaGreatJZ4
import Derived.Test.YtnbkffehhahckaaGreatJZ1
import Derived.Test.YtnbkffehhahckaaGreatJZ2
import Derived.Deep.Cut
namespace Go.Proofs.YtnbkffehhahckaaGreat
open Go.RowKit
set_option linter.unusedVariables false
theorem encPs_step (l : List Pr) (j : Nat) (hj : j < l.length) (x : Pr) (hx : l[j] = x) : encPs (l.drop j) = secE (if j + 1 < l.length then 2 else 0) (inP x) ++ encPs (l.drop (j + 1)) := by
  subst hx
  rw [List.drop_eq_getElem_cons hj, encPs, encP_sec, List.length_drop]
  by_cases h : j + 1 < l.length
  · rw [if_neg (by omega), if_pos h]
  · rw [if_pos (by omega), if_neg h]
theorem inP_le {p : Pr} (h : OkP p) : (inP p).length ≤ 300 := by
  have h1 := lenP_le h
  have h2 := encP_len 0 p
  rw [encP_sec, secE_len] at h2
  omega
theorem inP_rng (p : Pr) (h : ∀ z ∈ p.s, 0 ≤ z ∧ z ≤ 255) : ∀ z ∈ inP p, 0 ≤ z ∧ z ≤ 255 := by
  refine rng_append ?_ (rng_append h ?_)
  · intro z hz; simp at hz; omega
  · have : ∀ l : List Tr, ∀ z ∈ encTs l, 0 ≤ z ∧ z ≤ 255 := by
      intro l
      induction l with
      | nil => intro z hz; simp [encTs] at hz
      | cons a l ih =>
        rw [encTs, encT_sec]
        exact rng_append (secE_rng _ _ (by split <;> omega) (inT_rng a)) ih
    exact this p.ts
def BuiltP (w : World) (L : List Int) (E : Int) (e : Ending) (w' : World) : Prop := ∃ v, e = .returned (.tuple #[v, .int .i64 E]) ∧ Own w' w.heap.size 5 v L ∧ Below w.heap.size w w'
set_option maxHeartbeats 3200000 in
set_option maxRecDepth 100000 in
theorem pbuild_any (p : Option Addr) (n c : Nat) (ls : List PrP) (w : World) (h : RdG KPr DPr w p n c ls) (L : List Int) (E : Int) (hE : buildP (ls.map PrP.pr) = (L, E)) :
    Calls Tryz.prog 61 #[.slice p n c] w (BuiltP w L E) := by
  obtain ⟨i0, hi0, hz0, hz1, hz2⟩ := info_parts Tryz.infoByte
  have hn := h.le
  have HT := hidden h
  have HTL := hidden h.len
  obtain ⟨E1, hE1⟩ : ∃ E1, checkP (ls.map PrP.pr) = E1 := ⟨_, rfl⟩
  have HC := hidden (checkAll_any p n c ls w h E1 hE1)
  unfold buildP at hE
  rw [hE1] at hE
  clear h
  by_cases hz : E1 ≠ 0
  · rw [if_pos hz] at hE
    simp at hE
    obtain ⟨rfl, rfl⟩ := hE
    have hz' : (E1 != 0) = true := by simpa using hz
    go_enter Tryz.func61, Tryz.ntmps61
    go_wp2_with fail
    go_at_call 87
    (with_reducible refine (HC.out).mono ?_)
    rintro e w1 ⟨rfl, hb1⟩
    go_wp2
    go_ret2
    exact ⟨_, rfl, Own.nil _ _ _, hb1⟩
  obtain rfl : E1 = 0 := by omega
  rw [if_neg (by simp)] at hE
  simp at hE
  obtain ⟨rfl, rfl⟩ := hE
  obtain ⟨q0, q1, q2⟩ := checkP_ok hE1
  rw [List.length_map, HTL.out] at q0 q1
  have HOK := hidden q2
  clear hz q2 hE1
  go_enter Tryz.func61, Tryz.ntmps61
  go_wp2_with fail
  go_at_call 87
  (with_reducible refine (HC.out).mono ?_)
  rintro e w1 ⟨rfl, hb1⟩
  have HB1 := hidden hb1
  clear hb1
  go_wp2_with fail
  go_loopw [5, 15] (fun u i wr => ∃ t : Nat, t ≤ n ∧ i = .int .i64 t ∧ ∃ xs : List Int, xs ++ encPs ((ls.map PrP.pr).drop t) = encPs (ls.map PrP.pr) ∧ xs.length ≤ t * 304 ∧ Own wr w.heap.size 5 u xs ∧ Below w.heap.size w wr) (fun _ i _ => n - (intOf i).toNat)
  case atStart => exact ⟨0, by omega, rfl, [], by simp, by simp, Own.nil _ _ _, HB1.out⟩
  case round =>
    obtain ⟨t, ht, rfl, xs, hxs, hxl, ho, hbl⟩ := hrel
    have HO := hidden ho
    have HBL := hidden hbl
    by_cases hlt : ¬ t < n
    · obtain rfl : t = n := by omega
      rw [List.drop_of_length_le (by rw [List.length_map, HTL.out]; exact Nat.le_refl _), encPs, List.append_nil] at hxs
      have HXS2 := hidden hxs
      clear hxs hbl ho
      go_wp2
      go_ret2
      rw [← HXS2.out]
      exact ⟨_, rfl, HO.out, HBL.out⟩
    replace hlt : t < n := by omega
    have hlt' : (t : Int) < n := by omega
    have htj := HT.out.below hbl
    obtain ⟨g, rfl, hc, hokd⟩ := htj.cell t (by rw [HTL.out]; exact hlt)
    obtain ⟨y, hy⟩ : ∃ y, ls[t]'(by rw [HTL.out]; exact hlt) = y := ⟨_, rfl⟩
    have hyo : OkP y.pr := HOK.out _ (by rw [← hy]; exact List.mem_map.2 ⟨_, List.getElem_mem _, rfl⟩)
    have hst := encPs_step (ls.map PrP.pr) t (by rw [List.length_map, HTL.out]; exact hlt) y.pr (by simp [hy])
    rw [hy] at hc hokd
    rw [List.length_map, HTL.out] at hst
    obtain ⟨b, hb⟩ : ∃ b, b = decide (t + 1 < n) := ⟨_, rfl⟩
    obtain ⟨mk, hmk⟩ : ∃ mk : Int, (if b = true then 2 else 0) = mk := ⟨_, rfl⟩
    have hmk' : (if t + 1 < n then (2 : Int) else 0) = mk := by rw [← hmk, hb]; simp
    rw [hmk'] at hst
    have hmb : 0 ≤ mk ∧ mk ≤ 255 := by rw [← hmk]; split <;> omega
    have hbd : decide ((t : Int) + 1 < n) = b := by rw [hb]; simp; omega
    have c0 := hc 0 _ rfl
    have c1 := hc 1 _ rfl
    have c2 := hc 2 _ rfl
    have c3 := hc 3 _ rfl
    simp only [KPr, Nat.add_zero] at c0 c1 c2 c3
    obtain ⟨M, hML⟩ : ∃ M : Nat, (inP y.pr).length = M := ⟨_, rfl⟩
    have hM8 : M ≤ 300 := by rw [← hML]; exact inP_le hyo
    have hnx : (xs ++ secE mk (inP y.pr)) ++ encPs ((ls.map PrP.pr).drop (t + 1)) = encPs (ls.map PrP.pr) := by rw [List.append_assoc, ← hst]; exact hxs
    have hnl : (xs ++ secE mk (inP y.pr)).length ≤ (t + 1) * 304 := by rw [List.length_append, secE_len, hML]; omega
    have HNX := hidden hnx
    have HNL := hidden hnl
    have HMK := hidden hmk
    have HT1 := hidden (fun w (h : OkD w y) => proposal_w y w h hyo M hML)
    have hal : Below wr.heap.size wr (wr.alloc (.cells #[.int .i64 y.n, .int .i64 y.p, .slice y.sp y.sn y.sc, .slice y.tp y.tn y.tc] 106)) := (Below.refl _ _).alloc (Nat.le_refl _) _
    have HOKA := hidden (DPr.keep hokd (cell_below hal))
    obtain ⟨W1, hW1⟩ : ∃ W1, wr.alloc (.cells #[.int .i64 y.n, .int .i64 y.p, .slice y.sp y.sn y.sc, .slice y.tp y.tn y.tc] 106) = W1 := ⟨_, rfl⟩
    rw [hW1] at HOKA
    have HOKD : Hid (OkD W1.drew y) := hidden (DPr.keep HOKA.out (cell_below (drew_below (B := W1.heap.size) ⟨1, rfl⟩)))
    generalize inP y.pr = ys at *
    clear hy hst hmk hmk' hyo hnx hnl hb hxs htj hokd
    obtain ⟨yn, yp, sp, sn, sc, s, tp, tn, tc, ts⟩ := y
    simp only at HT1 hW1 hal c0 c1 c2 c3 HOKD
    clear hc
    have e0 : W1.drew.cell? ⟨wr.heap.size, 0, none⟩ = some (.int .i64 yn) := by subst hW1; exact World.cell?_alloc_at _ _ _ _ rfl
    have e1 : W1.drew.cell? ⟨wr.heap.size, 1, none⟩ = some (.int .i64 yp) := by subst hW1; exact World.cell?_alloc_at _ _ _ _ rfl
    have e2 : W1.drew.cell? ⟨wr.heap.size, 2, none⟩ = some (.slice sp sn sc) := by subst hW1; exact World.cell?_alloc_at _ _ _ _ rfl
    have e3 : W1.drew.cell? ⟨wr.heap.size, 3, none⟩ = some (.slice tp tn tc) := by subst hW1; exact World.cell?_alloc_at _ _ _ _ rfl
    rw [hW1] at hal
    have HOD : Hid (Own W1.drew w.heap.size 5 u5 xs) := hidden ((ho.below hal).below (drew_below ⟨1, rfl⟩))
    have HBD : Hid (Below w.heap.size w W1.drew) := hidden (hbl.trans ((hal.mono hbl.size).trans (drew_below ⟨1, rfl⟩)))
    have hwt : IntKind.i64.wrap ((t : Int) + 1) = (t : Int) + 1 := by rw [IntKind.wrap_i64]; omega
    clear hal ho hbl HOKA
    go_wp2_with fail
    go_region_law (first
      | (go_simp; go_at_call 89; (with_reducible refine (mark_any 2 b _).mono ?_); rintro e wM ⟨rfl, rfl⟩; rw [HMK.out])
      | (go_simp; go_at_call 90; (with_reducible refine (HT1.out _ HOKD.out).mono ?_); rintro e wA ⟨qa, da, rfl, hoA, hyA, hbA⟩)
      | (go_simp; go_at_call 88; (with_reducible refine (section_w mk hmb qa M da ys _ hyA (by omega)).mono ?_); rintro e wB ⟨qb, db, rfl, hoB, hyB, hbB⟩)
      | (refine step_append_byt _ (by rfl) _ _ 22 (by rfl) w.heap.size 5 i0 (.int .u8 0) Tryz.underlying22 hi0 hz0 hz1 hz2 rfl _ _ (by rfl) ((HOD.out.below hbA).below hbB) _ _ _ _ _ (by rfl) hyB (by rfl) (by omega) (by have := HBD.out.size; have := hbA.size; have := hbB.size; omega) ?_; intro v6 w6 ho6 hg6))
    all_goals
      have hbB1 := HBD.out.trans (hbA.mono HBD.out.size)
      have hbB2 := hbB1.trans (hbB.mono hbB1.size)
      have HB6 := hidden (hbB2.grown hg6 hbB2.size (fun k hk => (((HOD.out.below hbA).below hbB).lt k hk).1))
      have HO6 := hidden ho6
      clear hbB1 hbB2 hg6 ho6 hoA hoB hyA hyB hbA hbB HOD HBD HO HBL
      go_wp2
      go_roundw
      case rel => exact ⟨t + 1, by omega, by go_num, _, HNX.out, HNL.out, HO6.out, HB6.out⟩
      case measure => simp [intOf]; omega
end Go.Proofs.YtnbkffehhahckaaGreat

namespace Go.Proofs.YtnbkffehhahckaaGreat
open Go.RowKit
set_option linter.unusedVariables false
theorem encPs_rng : ∀ (l : List Pr), (∀ p ∈ l, ∀ z ∈ p.s, 0 ≤ z ∧ z ≤ 255) → ∀ z ∈ encPs l, 0 ≤ z ∧ z ≤ 255
  | [], _ => by intro z hz; simp [encPs] at hz
  | p :: l, h => by
    rw [encPs, encP_sec]
    exact rng_append (secE_rng _ _ (by split <;> omega) (inP_rng p (h p (by simp)))) (encPs_rng l (fun q hq => h q (by simp [hq])))
theorem buildP_rng (l : List Pr) (h : ∀ p ∈ l, ∀ z ∈ p.s, 0 ≤ z ∧ z ≤ 255) {L : List Int} {E : Int} (hb : buildP l = (L, E)) : ∀ z ∈ L, 0 ≤ z ∧ z ≤ 255 := by
  unfold buildP at hb
  split at hb
  · simp at hb
    obtain ⟨rfl, _⟩ := hb
    intro z hz
    cases hz
  · simp at hb
    obtain ⟨rfl, _⟩ := hb
    exact encPs_rng l h
theorem RdG.rng {w : World} {p : Option Addr} {n c : Nat} {ls : List PrP} (h : RdG KPr DPr w p n c ls) : ∀ q ∈ ls.map PrP.pr, ∀ z ∈ q.s, 0 ≤ z ∧ z ≤ 255 := by
  intro q hq
  obtain ⟨x, hx, rfl⟩ := List.mem_map.1 hq
  exact (h.ok x hx).s.rng
def BuiltB (w : World) (L : List Int) (E : Int) (e : Ending) (w' : World) : Prop := ∃ p c, e = .returned (.tuple #[.slice p L.length c, .int .i64 E]) ∧ Byt w' p L.length c L ∧ Below w.heap.size w w'
theorem errTrs_zero : ∀ (l seen : List Tr), (∀ x ∈ l, OkT x) → (seen ++ l).Nodup → errTrs seen l = 0
  | [], _, _, _ => rfl
  | x :: l, seen, h, hn => by
    have hx := h x (by simp)
    have h1 := hx.t
    have h2 := hx.i
    have h3 := hx.k
    have hns : x ∉ seen := by
      intro hm
      rw [List.nodup_append] at hn
      exact hn.2.2 x hm x (by simp) rfl
    rw [errTrs, if_neg (by omega), if_neg hns]
    exact errTrs_zero l (seen ++ [x]) (fun y hy => h y (by simp [hy])) (by simpa using hn)
theorem drawn_err {pr n : Int} {x : PrP} (h : DrawnP pr n x) (hp : pr = 1 ∨ pr = 2 ∨ pr = 3) : errPr x.pr n = 0 := by
  have h1 := h.n
  have h2 := h.p
  have h3 := h.s
  have h4 := h.ts
  have h5 := h4.some_
  have h6 := h4.few
  have h7 := errTrs_zero x.ts [] h4.ok (by simpa using h4.nodup)
  unfold errPr PrP.pr
  simp only
  rw [if_neg (by omega), if_neg (by omega), if_neg (by split at h3 <;> omega), if_neg (by omega), if_neg (by omega), h7]
theorem drawn_errs (pr : Int) (hp : pr = 1 ∨ pr = 2 ∨ pr = 3) : ∀ (ls : List PrP) (n : Int), (∀ j (h : j < ls.length), DrawnP pr (n + j) ls[j]) → errPrs n (ls.map PrP.pr) = 0
  | [], _, _ => rfl
  | x :: ls, n, h => by
    have h0 := drawn_err (h 0 (by simp)) hp
    simp only [List.getElem_cons_zero] at h0
    rw [show n + ((0 : Nat) : Int) = n by omega] at h0
    rw [List.map_cons, errPrs, if_neg (by omega)]
    refine drawn_errs pr hp ls (n + 1) (fun j hj => ?_)
    have := h (j + 1) (by simpa using hj)
    simp only [List.getElem_cons_succ] at this
    rw [show n + 1 + (j : Int) = n + ((j + 1 : Nat) : Int) by omega]
    exact this
theorem DrawnL.check {pr : Int} {ls : List PrP} (h : DrawnL pr ls) (hp : pr = 1 ∨ pr = 2 ∨ pr = 3) (h1 : 1 ≤ ls.length) (h2 : ls.length ≤ 8) : checkP (ls.map PrP.pr) = 0 := by
  unfold checkP
  rw [List.length_map, if_neg (by omega), if_neg (by omega)]
  refine drawn_errs pr hp ls 1 (fun j hj => ?_)
  rw [show (1 : Int) + j = (j : Int) + 1 by omega]
  exact h j hj
theorem encPs_le : ∀ (l : List Pr), (∀ p ∈ l, OkP p) → (encPs l).length ≤ l.length * 304
  | [], _ => by simp [encPs]
  | p :: l, h => by
    have h1 := encP_len (if l.length = 0 then 0 else 2) p
    have h2 := lenP_le (h p (by simp))
    have h3 := encPs_le l (fun q hq => h q (by simp [hq]))
    rw [encPs, List.length_append, List.length_cons]
    omega
def demo (w : World) : PrP := ⟨1, 3, some ⟨w.heap.size, 0, none⟩, 4, 4, [1, 2, 3, 4], some ⟨w.heap.size + 1, 0, none⟩, 1, 1, [⟨1, 28, 0⟩]⟩
def demoPr : List Pr := [⟨1, 3, [1, 2, 3, 4], [⟨1, 28, 0⟩]⟩]
end Go.Proofs.YtnbkffehhahckaaGreat

namespace Go.Proofs.YtnbkffehhahckaaGreat
open Go.RowKit
set_option linter.unusedVariables false
def IntR (z : Int) : Prop := -9223372036854775808 ≤ z ∧ z ≤ 9223372036854775807
def KPv : KindR Pv where
  e := 56
  k := 16
  cs x := [.int .i64 x.t, .slice x.pr.p x.pr.n x.pr.c, .int .i64 x.eg, .slice x.ed.p x.ed.n x.ed.c, .int .i64 x.ik, .slice x.id.p x.id.n x.id.c, .int .i64 x.am, .slice x.ad.p x.ad.n x.ad.c, .int .i64 x.np, .slice x.ns.p x.ns.n x.ns.c, .int .i64 x.nt, .slice x.nd.p x.nd.n x.nd.c, .int .i64 x.dp, .slice x.ds.p x.ds.n x.ds.c, .slice x.se.p x.se.n x.se.c, .slice x.da.p x.da.n x.da.c]
  len _ := rfl
  one x u hu := by
    simp at hu
    rcases hu with rfl | rfl | rfl | rfl | rfl | rfl | rfl | rfl | rfl | rfl | rfl | rfl | rfl | rfl | rfl | rfl <;> rfl
  pos := by decide
structure NoteOk (w : World) (x : Pv) : Prop where
  t : IntR x.t
  ns : x.t = 41 → ∃ xs, Byt w x.ns.p x.ns.n x.ns.c xs
  nd : x.t = 41 → ∃ xs, Byt w x.nd.p x.nd.n x.nd.c xs
  sn : x.t = 41 → x.ns.n ≤ 140737488355328
  dn : x.t = 41 → x.nd.n ≤ 140737488355328
def DPv : ReadN Pv where
  ok := NoteOk
  keep h k := ⟨h.t, fun e => by obtain ⟨xs, h⟩ := h.ns e; exact ⟨xs, h.keep k⟩, fun e => by obtain ⟨xs, h⟩ := h.nd e; exact ⟨xs, h.keep k⟩, h.sn, h.dn⟩
def rep (t : Int) : Bool := t == 41 || t == 43 || t == 37 || t == 42
set_option maxHeartbeats 800000 in
theorem repeats_any (t : Int) (w : World) : Calls Tryz.prog 18 #[.int .i64 t] w fun e w' => e = .returned (.bool (rep t)) ∧ w' = w := by
  by_cases h1 : t = 41
  · subst h1
    go_enter Tryz.func18, Tryz.ntmps18
    go_wp2
    go_ret
    exact ⟨rfl, rfl⟩
  by_cases h2 : t = 43
  · subst h2
    go_enter Tryz.func18, Tryz.ntmps18
    go_wp2
    go_ret
    exact ⟨rfl, rfl⟩
  by_cases h3 : t = 37
  · subst h3
    go_enter Tryz.func18, Tryz.ntmps18
    go_wp2
    go_ret
    exact ⟨rfl, rfl⟩
  by_cases h4 : t = 42
  · subst h4
    go_enter Tryz.func18, Tryz.ntmps18
    go_wp2
    go_ret
    exact ⟨rfl, rfl⟩
  have hr : rep t = false := by simp [rep, h1, h2, h3, h4]
  go_enter Tryz.func18, Tryz.ntmps18
  go_wp2
  go_ret
  exact ⟨by first | rfl | (rw [hr]; rfl), rfl⟩
def tells (x : Pv) : Bool := x.t == 41 && decide (x.nt < 16384)
set_option maxHeartbeats 800000 in
theorem tells_any (x : Pv) (w : World) : Calls Tryz.prog 36 #[(.agg #[.int .i64 x.t, .slice x.pr.p x.pr.n x.pr.c, .int .i64 x.eg, .slice x.ed.p x.ed.n x.ed.c, .int .i64 x.ik, .slice x.id.p x.id.n x.id.c, .int .i64 x.am, .slice x.ad.p x.ad.n x.ad.c, .int .i64 x.np, .slice x.ns.p x.ns.n x.ns.c, .int .i64 x.nt, .slice x.nd.p x.nd.n x.nd.c, .int .i64 x.dp, .slice x.ds.p x.ds.n x.ds.c, .slice x.se.p x.se.n x.se.c, .slice x.da.p x.da.n x.da.c])] w fun e w' => e = .returned (.bool (tells x)) ∧ Below w.heap.size w w' := by
  by_cases h1 : x.t = 41
  · by_cases h2 : x.nt < 16384
    · have hr : tells x = true := by simp [tells, h1, h2]
      go_enter Tryz.func36, Tryz.ntmps36
      go_wp2
      go_ret
      exact ⟨by first | rfl | (rw [hr]; rfl), (Below.refl _ _).alloc (Nat.le_refl _) _⟩
    · have hr : tells x = false := by simp [tells, h1, h2]
      go_enter Tryz.func36, Tryz.ntmps36
      go_wp2
      go_ret
      exact ⟨by first | rfl | (rw [hr]; rfl), (Below.refl _ _).alloc (Nat.le_refl _) _⟩
  · have hr : tells x = false := by simp [tells, h1]
    go_enter Tryz.func36, Tryz.ntmps36
    go_wp2
    go_ret
    exact ⟨by first | rfl | (rw [hr]; rfl), (Below.refl _ _).alloc (Nat.le_refl _) _⟩
def firstAt (f : Pv → Bool) : List Pv → Nat → Int
  | [], _ => -1
  | x :: l, j => if f x then j else firstAt f l (j + 1)
theorem firstAt_neg (f : Pv → Bool) (l : List Pv) (j : Nat) : decide (0 ≤ firstAt f l j) = l.any f := by
  induction l generalizing j with
  | nil => rfl
  | cons x l ih =>
    unfold firstAt
    cases hx : f x with
    | true => simp [hx]
    | false => simp [hx, ih]
theorem RdG.drop_cons {w : World} {p : Option Addr} {n c j : Nat} {l : List Pv} (h : RdG KPv DPv w p n c l) (hj : j < n) : ∃ g x, p = some ⟨g, 0, none⟩ ∧ l[j]? = some x ∧ l.drop j = x :: l.drop (j + 1) ∧ NoteOk w x ∧ (∀ i u, (KPv.cs x)[i]? = some u → w.cell? ⟨g, j * 16 + i, none⟩ = some u) := by
  have hl : j < l.length := by rw [h.len]; exact hj
  obtain ⟨g, e, hc, hd⟩ := h.cell j hl
  exact ⟨g, l[j], e, List.getElem?_eq_getElem hl, List.drop_eq_getElem_cons hl, hd, hc⟩
set_option maxHeartbeats 1600000 in
set_option maxRecDepth 100000 in
theorem indexFunc_any (p : Option Addr) (n c : Nat) (l : List Pv) (w : World) (h : RdG KPv DPv w p n c l) :
    Calls Tryz.prog 51 #[.slice p n c, .func (.func 36) #[] #[]] w fun e w' => e = .returned (.int .i64 (firstAt tells l 0)) ∧ Below w.heap.size w w' := by
  have hn := h.le
  have H := hidden h
  clear h
  obtain ⟨R, hR⟩ : ∃ R, firstAt tells l 0 = R := ⟨_, rfl⟩
  have HR : Is (firstAt tells (l.drop 0) 0) R := ⟨by simpa using hR⟩
  rw [hR]
  clear hR
  go_enter Tryz.func51, Tryz.ntmps51
  go_wp2_with fail
  go_loopw [8] (fun i wr => ∃ j : Nat, j ≤ n ∧ i = .int .i64 j ∧ Is (firstAt tells (l.drop j) j) R ∧ Below w.heap.size w wr) (fun i _ => n - (intOf i).toNat)
  case atStart => exact ⟨0, by omega, rfl, HR, Below.refl _ _⟩
  case round =>
    obtain ⟨j, hj, rfl, hrel, hb⟩ := hrel
    have HB := hidden hb
    clear hb
    by_cases hlt : j < n
    · have hlt' : (j : Int) < n := by omega
      obtain ⟨g, x, rfl, hx, hdr, hok, hc⟩ := (H.out.below HB.out).drop_cons hlt
      have c0 := hc 0 _ rfl
      have c1 := hc 1 _ rfl
      have c2 := hc 2 _ rfl
      have c3 := hc 3 _ rfl
      have c4 := hc 4 _ rfl
      have c5 := hc 5 _ rfl
      have c6 := hc 6 _ rfl
      have c7 := hc 7 _ rfl
      have c8 := hc 8 _ rfl
      have c9 := hc 9 _ rfl
      have c10 := hc 10 _ rfl
      have c11 := hc 11 _ rfl
      have c12 := hc 12 _ rfl
      have c13 := hc 13 _ rfl
      have c14 := hc 14 _ rfl
      have c15 := hc 15 _ rfl
      simp only [Nat.add_zero] at c0
      have hf := hrel.eq
      rw [hdr] at hf
      unfold firstAt at hf
      have HT := hidden (tells_any x)
      generalize tells x = b at hf HT
      clear hrel hdr hx hok hc
      cases b with
      | true =>
        have HF : Is (j : Int) R := ⟨by simpa using hf⟩
        clear hf
        go_wp2_with (first
          | (go_at_call 36; (with_reducible refine (HT.out _).mono ?_); rintro _ w1 ⟨rfl, hb1⟩; have HB1 := hidden (HB.out.trans (hb1.mono HB.out.size)); clear hb1)
          | fail)
        go_ret
        exact ⟨by rw [← HF.eq]; rfl, HB1.out⟩
      | false =>
        have HF : Is (firstAt tells (l.drop (j + 1)) (j + 1)) R := ⟨by simpa using hf⟩
        clear hf
        go_wp2_with (first
          | (go_at_call 36; (with_reducible refine (HT.out _).mono ?_); rintro _ w1 ⟨rfl, hb1⟩; have HB1 := hidden (HB.out.trans (hb1.mono HB.out.size)); clear hb1)
          | fail)
        go_roundw
        case rel => exact ⟨j + 1, by omega, by go_num, HF, HB1.out⟩
        case measure => simp [intOf]; omega
    · have hlt' : ¬ (j : Int) < n := by omega
      have hd : l.drop j = [] := List.drop_eq_nil_of_le (by rw [H.out.len]; omega)
      have hf := hrel.eq
      rw [hd] at hf
      have HF : Is (-1 : Int) R := ⟨hf⟩
      clear hf hd hrel
      go_wp2
      go_ret
      exact ⟨by rw [← HF.eq]; rfl, HB.out⟩
end Go.Proofs.YtnbkffehhahckaaGreat
