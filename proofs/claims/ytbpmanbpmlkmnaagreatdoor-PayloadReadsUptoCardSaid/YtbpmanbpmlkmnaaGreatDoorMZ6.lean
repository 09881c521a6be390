/-
  What stays readable when the blocks from a place on keep their cells.
  What the laws of chapter 4 share: the example holds; Build's bytes as bytes; drawn proposals may be written.
  What package selector's readOne returns, for any bytes.
  What the document's own Check of proposals returns.
-/
import Derived.Test.YtbpmanbpmlkmnaaGreatDoorMPayEq4
import Derived.Test.YtbpmanbpmlkmnaaGreatDoorMZ13
import Derived.Test.YtbpmanbpmlkmnaaGreatDoorMZ8
import Derived.Test.YtbpmanbpmlkmnaaGreatDoorMZ9
import Derived.Test.YtbpmanbpmlkmnaaGreatDoorMZ2
namespace Go.Proofs.YtbpmanbpmlkmnaaGreatDoor
open Go.RowKit
set_option linter.unusedVariables false

/-- The other world has the cells of the blocks from base on. -/
def Kpt (w w' : World) (base : Nat) : Prop := ∀ a v, base ≤ a.block → w.cell? a = some v → w'.cell? a = some v
theorem Kpt.refl (w : World) (base : Nat) : Kpt w w base := fun _ _ _ h => h
theorem Kpt.mono {w w' : World} {base base' : Nat} (h : Kpt w w' base) (hb : base ≤ base') : Kpt w w' base' := fun a v ha hc => h a v (by omega) hc
theorem Kpt.trans {a b c : World} {base : Nat} (h : Kpt a b base) (k : Kpt b c base) : Kpt a c base := fun x v hx hc => k x v hx (h x v hx hc)
theorem Kpt.low {w w' : World} {base r : Nat} (hg : w.grownBy w' (some r)) (hr : r < base) : Kpt w w' base := fun a v ha hc => hg.cell hc (by simp; omega)
theorem Kpt.alloc (w : World) (o : Obj) (base : Nat) : Kpt w (w.alloc o) base := fun a v _ hc => cell_below ((Below.refl _ w).alloc (Nat.le_refl _) o) a v hc
theorem Kpt.drew (w : World) (base r : Nat) : Kpt w (w.drewN r) base := fun a v _ hc => hc
theorem Bod.kp {w w' : World} {base : Nat} {p : Option Addr} {n c : Nat} {xs : List Int} (h : Bod w base p n c xs) (hk : Kpt w w' base) : Byt w' p n c xs :=
  ⟨h.byt.len, h.byt.cap, h.byt.big, h.byt.rng, fun hn => by
    obtain ⟨b, o, e, hc⟩ := h.byt.mem hn
    obtain ⟨b', o', cur, fz, e', hb, -⟩ := h.own (by have := h.byt.len; omega)
    rw [e] at e'
    injection e' with e'
    injection e' with e1 e2
    subst e1
    exact ⟨b, o, e, fun i hi => hk _ _ hb (hc i hi)⟩⟩
theorem RowG.kp {α : Type} {K : KindR α} {N : NestR α} {D : ReadN α} {w w' : World} {base : Nat} {p : Option Addr} {n c : Nat} {l : List α} (h : RowG K N w base (.slice p n c) l) (hl : l.length = n) (hk : Kpt w w' base) (hd : ∀ x, N.ok w base x → D.ok w' x) : RdG K D w' p n c l := by
  have hok : ∀ x ∈ l, D.ok w' x := fun x hx => hd x (h.ok x hx)
  rcases h.own.2 with ⟨e, h0⟩ | ⟨g, cap, cur, e, hg, hh, hnc, hm, hs, ht⟩
  · simp at e
    obtain ⟨rfl, rfl, rfl⟩ := e
    exact ⟨hl, by omega, by unfold maxLen; omega, fun h => by omega, hok⟩
  · simp at e
    obtain ⟨rfl, rfl, rfl⟩ := e
    refine ⟨hl, hnc, hm, fun h0 => ⟨g, rfl, fun j u hj => ?_⟩, hok⟩
    have := World.ownsRow.cells h.own (g := g) rfl j u hj
    rw [WideShapes.add_plain, Nat.zero_add] at this
    exact hk _ _ hg this
theorem OkN.kp {w w' : World} {base : Nat} {x : PrP} (h : OkN w base x) (hk : Kpt w w' base) : OkD w' x := by
  have hl : x.ts.length = x.tn := by
    rcases h.ts.form rfl with ⟨p, c, e⟩
    simp at e
    exact e.2.1.symm
  exact ⟨h.int, h.s.kp hk, RowG.kp (D := DTr) h.ts hl hk (fun _ h => h)⟩
theorem rdg_nil {α : Type} (K : KindR α) (D : ReadN α) (w : World) : RdG K D w none 0 0 [] := ⟨rfl, Nat.le_refl _, by unfold maxLen; omega, fun h => by omega, fun x hx => by cases hx⟩
theorem byt_nil (w : World) : Byt w none 0 0 [] := Byt.nil _ _ _ (by unfold maxLen; omega)

/-- The payload can be read wherever the blocks from base on are as they were. -/
def PvKp (w : World) (base : Nat) (x : Pv) (C : Pc) : Prop := ∀ w', Kpt w w' base → PvRd w' x C
theorem PvKp.rd {w : World} {base : Nat} {x : Pv} {C : Pc} (h : PvKp w base x C) : PvRd w x C := h w (Kpt.refl _ _)
theorem PvKp.step {w w' : World} {base : Nat} {x : Pv} {C : Pc} (h : PvKp w base x C) (hk : Kpt w w' base) : PvKp w' base x C := fun w'' h2 => h w'' (hk.trans h2)
theorem PvKp.mono {w : World} {base base' : Nat} {x : Pv} {C : Pc} (h : PvKp w base x C) (hb : base' ≤ base) : PvKp w base' x C := fun w' hk => h w' (hk.mono hb)

end Go.Proofs.YtbpmanbpmlkmnaaGreatDoor

namespace Go.Proofs.YtbpmanbpmlkmnaaGreatDoor
open Go.RowKit
set_option linter.unusedVariables false

theorem encPs_rng : ∀ (l : List Pr), (∀ p ∈ l, ∀ z ∈ p.s, 0 ≤ z ∧ z ≤ 255) → ∀ z ∈ encPs l, 0 ≤ z ∧ z ≤ 255
  | [], _ => by intro z hz; simp [encPs] at hz
  | p :: l, h => by
    rw [encPs, encP_sec]
    exact rng_append (secE_rng _ _ (by split <;> omega) (inP_rng p (h p (by simp)))) (encPs_rng l (fun q hq => h q (by simp [hq])))
theorem buildP_rng (l : List Pr) (h : ∀ p ∈ l, ∀ z ∈ p.s, 0 ≤ z ∧ z ≤ 255) {L : List Int} {E : Int} (hb : buildP l = (L, E)) : ∀ z ∈ L, 0 ≤ z ∧ z ≤ 255 := by
  unfold buildP at hb
  split at hb
  · simp at hb
    obtain ⟨rfl, _⟩ := hb
    intro z hz
    cases hz
  · simp at hb
    obtain ⟨rfl, _⟩ := hb
    exact encPs_rng l h
theorem RdG.rng {w : World} {p : Option Addr} {n c : Nat} {ls : List PrP} (h : RdG KPr DPr w p n c ls) : ∀ q ∈ ls.map PrP.pr, ∀ z ∈ q.s, 0 ≤ z ∧ z ≤ 255 := by
  intro q hq
  obtain ⟨x, hx, rfl⟩ := List.mem_map.1 hq
  exact (h.ok x hx).s.rng
/-- Build's results, its bytes as a slice. -/
def BuiltB (w : World) (L : List Int) (E : Int) (e : Ending) (w' : World) : Prop := ∃ p c, e = .returned (.tuple #[.slice p L.length c, .int .i64 E]) ∧ Byt w' p L.length c L ∧ Below w.heap.size w w'
theorem errTrs_zero : ∀ (l seen : List Tr), (∀ x ∈ l, OkT x) → (seen ++ l).Nodup → errTrs seen l = 0
  | [], _, _, _ => rfl
  | x :: l, seen, h, hn => by
    have hx := h x (by simp)
    have h1 := hx.t
    have h2 := hx.i
    have h3 := hx.k
    have hns : x ∉ seen := by
      intro hm
      rw [List.nodup_append] at hn
      exact hn.2.2 x hm x (by simp) rfl
    rw [errTrs, if_neg (by omega), if_neg hns]
    exact errTrs_zero l (seen ++ [x]) (fun y hy => h y (by simp [hy])) (by simpa using hn)
theorem drawn_err {pr n : Int} {x : PrP} (h : DrawnP pr n x) (hp : pr = 1 ∨ pr = 2 ∨ pr = 3) : errPr x.pr n = 0 := by
  have h1 := h.n
  have h2 := h.p
  have h3 := h.s
  have h4 := h.ts
  have h5 := h4.some_
  have h6 := h4.few
  have h7 := errTrs_zero x.ts [] h4.ok (by simpa using h4.nodup)
  unfold errPr PrP.pr
  simp only
  rw [if_neg (by omega), if_neg (by omega), if_neg (by split at h3 <;> omega), if_neg (by omega), if_neg (by omega), h7]
theorem drawn_errs (pr : Int) (hp : pr = 1 ∨ pr = 2 ∨ pr = 3) : ∀ (ls : List PrP) (n : Int), (∀ j (h : j < ls.length), DrawnP pr (n + j) ls[j]) → errPrs n (ls.map PrP.pr) = 0
  | [], _, _ => rfl
  | x :: ls, n, h => by
    have h0 := drawn_err (h 0 (by simp)) hp
    simp only [List.getElem_cons_zero] at h0
    rw [show n + ((0 : Nat) : Int) = n by omega] at h0
    rw [List.map_cons, errPrs, if_neg (by omega)]
    refine drawn_errs pr hp ls (n + 1) (fun j hj => ?_)
    have := h (j + 1) (by simpa using hj)
    simp only [List.getElem_cons_succ] at this
    rw [show n + 1 + (j : Int) = n + ((j + 1 : Nat) : Int) by omega]
    exact this
theorem DrawnL.check {pr : Int} {ls : List PrP} (h : DrawnL pr ls) (hp : pr = 1 ∨ pr = 2 ∨ pr = 3) (h1 : 1 ≤ ls.length) (h2 : ls.length ≤ 8) : checkP (ls.map PrP.pr) = 0 := by
  unfold checkP
  rw [List.length_map, if_neg (by omega), if_neg (by omega)]
  refine drawn_errs pr hp ls 1 (fun j hj => ?_)
  rw [show (1 : Int) + j = (j : Int) + 1 by omega]
  exact h j hj
theorem encPs_le : ∀ (l : List Pr), (∀ p ∈ l, OkP p) → (encPs l).length ≤ l.length * 304
  | [], _ => by simp [encPs]
  | p :: l, h => by
    have h1 := encP_len (if l.length = 0 then 0 else 2) p
    have h2 := lenP_le (h p (by simp))
    have h3 := encPs_le l (fun q hq => h q (by simp [hq]))
    rw [encPs, List.length_append, List.length_cons]
    omega

/-- The example of the chapter. -/
def demo (w : World) : PrP := ⟨1, 3, some ⟨w.heap.size, 0, none⟩, 4, 4, [1, 2, 3, 4], some ⟨w.heap.size + 1, 0, none⟩, 1, 1, [⟨1, 28, 0⟩]⟩
def demoPr : List Pr := [⟨1, 3, [1, 2, 3, 4], [⟨1, 28, 0⟩]⟩]
end Go.Proofs.YtbpmanbpmlkmnaaGreatDoor

namespace Go.Proofs.YtbpmanbpmlkmnaaGreatDoor
open Go.RowKit
set_option linter.unusedVariables false

theorem ret_sl3 {fn : Func} {R : Ending → World → Prop} {a : Act} {w : World} {p x y : Nat} {g : Nat} {s : Sl} {u v : Value} (h : fn.results = #[.cell p 98, .tmp x, .tmp y]) (hp : a.tmps.getD p undef = .pointer (some ⟨g, 0, none⟩)) (hu : a.tmps.getD x undef = u) (hv : a.tmps.getD y undef = v) (hd : a.defers = [])
    (hh : SlIn w g s) (hR : R (.returned (.tuple #[(.agg #[.int .i64 s.p, .int .i64 s.a, .int .i64 s.b, .int .i64 s.lo.f, .int .u64 s.lo.h, .int .u64 s.lo.l, .int .i64 s.hi.f, .int .u64 s.hi.h, .int .u64 s.hi.l]), u, v])) w) : bodyPost Tryz.prog fn R .ret a w := by
  refine bodyPost_ret (v := .tuple #[(.agg #[.int .i64 s.p, .int .i64 s.a, .int .i64 s.b, .int .i64 s.lo.f, .int .u64 s.lo.h, .int .u64 s.lo.l, .int .i64 s.hi.f, .int .u64 s.hi.h, .int .u64 s.hi.l]), u, v]) ?_ hd hR
  rw [Array.getD_eq_getD_getElem?] at hp hu hv
  simp [results, h, hp, hu, hv, asAddr, load_sl hh, Result.andThen]
theorem put_lohi {w : World} {B M R : Nat} {m r : Sl} (hr : SlIn w R r) (hne : R ≠ M) (h1 : B ≤ M) (h2 : B ≤ R) (z1 z2 : Ad) : SlIn (((((((((((((((w.setCell ⟨M, 3, none⟩ (.int .i64 z1.f)).setCell ⟨M, 4, none⟩ (.int .u64 z1.h)).setCell ⟨M, 5, none⟩ (.int .u64 z1.l)).setCell ⟨M, 6, none⟩ (.int .i64 z2.f)).setCell ⟨M, 7, none⟩ (.int .u64 z2.h)).setCell ⟨M, 8, none⟩ (.int .u64 z2.l)).setCell ⟨R, 0, none⟩ (.int .i64 m.p)).setCell ⟨R, 1, none⟩ (.int .i64 m.a)).setCell ⟨R, 2, none⟩ (.int .i64 m.b)).setCell ⟨R, 3, none⟩ (.int .i64 z1.f)).setCell ⟨R, 4, none⟩ (.int .u64 z1.h)).setCell ⟨R, 5, none⟩ (.int .u64 z1.l)).setCell ⟨R, 6, none⟩ (.int .i64 z2.f)).setCell ⟨R, 7, none⟩ (.int .u64 z2.h)).setCell ⟨R, 8, none⟩ (.int .u64 z2.l)) R { m with lo := z1, hi := z2 } ∧ (∀ W : World, W.heap.size = B → Below B W w → Below B W (((((((((((((((w.setCell ⟨M, 3, none⟩ (.int .i64 z1.f)).setCell ⟨M, 4, none⟩ (.int .u64 z1.h)).setCell ⟨M, 5, none⟩ (.int .u64 z1.l)).setCell ⟨M, 6, none⟩ (.int .i64 z2.f)).setCell ⟨M, 7, none⟩ (.int .u64 z2.h)).setCell ⟨M, 8, none⟩ (.int .u64 z2.l)).setCell ⟨R, 0, none⟩ (.int .i64 m.p)).setCell ⟨R, 1, none⟩ (.int .i64 m.a)).setCell ⟨R, 2, none⟩ (.int .i64 m.b)).setCell ⟨R, 3, none⟩ (.int .i64 z1.f)).setCell ⟨R, 4, none⟩ (.int .u64 z1.h)).setCell ⟨R, 5, none⟩ (.int .u64 z1.l)).setCell ⟨R, 6, none⟩ (.int .i64 z2.f)).setCell ⟨R, 7, none⟩ (.int .u64 z2.h)).setCell ⟨R, 8, none⟩ (.int .u64 z2.l))) :=
  ⟨((((((hr.set_ne _ _ _ hne).set_ne _ _ _ hne).set_ne _ _ _ hne).set_ne _ _ _ hne).set_ne _ _ _ hne).set_ne _ _ _ hne).setAll { m with lo := z1, hi := z2 }, fun W hW hb => (((((((((((((((hb.setCell (p := ⟨M, 3, none⟩) (by simp <;> omega) _).setCell (p := ⟨M, 4, none⟩) (by simp <;> omega) _).setCell (p := ⟨M, 5, none⟩) (by simp <;> omega) _).setCell (p := ⟨M, 6, none⟩) (by simp <;> omega) _).setCell (p := ⟨M, 7, none⟩) (by simp <;> omega) _).setCell (p := ⟨M, 8, none⟩) (by simp <;> omega) _).setCell (p := ⟨R, 0, none⟩) (by simp <;> omega) _).setCell (p := ⟨R, 1, none⟩) (by simp <;> omega) _).setCell (p := ⟨R, 2, none⟩) (by simp <;> omega) _).setCell (p := ⟨R, 3, none⟩) (by simp <;> omega) _).setCell (p := ⟨R, 4, none⟩) (by simp <;> omega) _).setCell (p := ⟨R, 5, none⟩) (by simp <;> omega) _).setCell (p := ⟨R, 6, none⟩) (by simp <;> omega) _).setCell (p := ⟨R, 7, none⟩) (by simp <;> omega) _).setCell (p := ⟨R, 8, none⟩) (by simp <;> omega) _)⟩
/-- What readOne returns. -/
def ReadS (w : World) (r : Option (Sl × Nat)) (e : Ending) (w' : World) : Prop := Below w.heap.size w w' ∧ match r with
  | none => e = .returned (.tuple #[(.agg #[.int .i64 zeroS.p, .int .i64 zeroS.a, .int .i64 zeroS.b, .int .i64 zeroS.lo.f, .int .u64 zeroS.lo.h, .int .u64 zeroS.lo.l, .int .i64 zeroS.hi.f, .int .u64 zeroS.hi.h, .int .u64 zeroS.hi.l]), .int .i64 0, .bool false])
  | some (s, k) => e = .returned (.tuple #[(.agg #[.int .i64 s.p, .int .i64 s.a, .int .i64 s.b, .int .i64 s.lo.f, .int .u64 s.lo.h, .int .u64 s.lo.l, .int .i64 s.hi.f, .int .u64 s.hi.h, .int .u64 s.hi.l]), .int .i64 k, .bool true])

set_option maxHeartbeats 1600000 in
set_option maxRecDepth 100000 in
theorem readOne_any (p : Option Addr) (n c : Nat) (xs : List Int) (w : World) (h : Byt w p n c xs) (r : Option (Sl × Nat)) (hr : oneS xs = r) :
    Calls Tryz.prog 112 #[.slice p n c] w (ReadS w r) := by
  obtain ⟨K, hK⟩ : ∃ K, (numR xs 0 1).1 = K := ⟨_, rfl⟩
  obtain ⟨Z, hZ⟩ : ∃ Z, (numR xs 2 2).1 = Z := ⟨_, rfl⟩
  have hone := oneS_num xs K Z hK hZ
  rw [hr, h.len] at hone
  have hn := h.le
  have HL := hidden h.len
  have HXX := hidden (h.alloc (.cells #[.int .i64 0, .int .i64 0, .int .i64 0, .int .i64 0, .int .u64 0, .int .u64 0, .int .i64 0, .int .u64 0, .int .u64 0] 98))
  have HRZ := hidden (SlIn.new w zeroS 98)
  have HBZ := hidden ((Below.refl w.heap.size w).alloc (Nat.le_refl _) (.cells #[.int .i64 0, .int .i64 0, .int .i64 0, .int .i64 0, .int .u64 0, .int .u64 0, .int .i64 0, .int .u64 0, .int .u64 0] 98))
  have HN01 := hidden (fun w h => snum_any p n c xs w h 0 1 (by omega) (by omega) K hK)
  have HN22 := hidden (fun w h => snum_any p n c xs w h 2 2 (by omega) (by omega) Z hZ)
  clear hK hZ hr
  have hcs : (K = 7 ∧ Z = 16 ∧ 16 ≤ n ∧ r = some (⟨nAt xs 1 1, nAt xs 4 2, nAt xs 6 2, ⟨4, 0, nAt xs 8 4⟩, ⟨4, 0, nAt xs 12 4⟩⟩, 16)) ∨
      (K = 8 ∧ Z = 40 ∧ 40 ≤ n ∧ r = some (⟨nAt xs 1 1, nAt xs 4 2, nAt xs 6 2, ⟨6, nAt xs 8 8, nAt xs 16 8⟩, ⟨6, nAt xs 24 8, nAt xs 32 8⟩⟩, 40)) ∨
      (K = 7 ∧ Z = 16 ∧ n < 16 ∧ r = none) ∨ (K = 8 ∧ Z = 40 ∧ n < 40 ∧ r = none) ∨ (K = 7 ∧ (Z == 16) = false ∧ r = none) ∨ (K = 8 ∧ (Z == 40) = false ∧ r = none) ∨ ((K == 7) = false ∧ (K == 8) = false ∧ r = none) := by
    by_cases h7 : K = 7
    · by_cases h16 : Z = 16
      · by_cases hn16 : 16 ≤ n
        · rw [if_pos ⟨h7, h16, hn16⟩] at hone
          exact Or.inl ⟨h7, h16, hn16, hone⟩
        · rw [if_neg (by omega), if_neg (by omega)] at hone
          exact Or.inr (Or.inr (Or.inl ⟨h7, h16, by omega, hone⟩))
      · rw [if_neg (by omega), if_neg (by omega)] at hone
        exact Or.inr (Or.inr (Or.inr (Or.inr (Or.inl ⟨h7, by simpa using h16, hone⟩))))
    · by_cases h8 : K = 8
      · by_cases h40 : Z = 40
        · by_cases hn40 : 40 ≤ n
          · rw [if_neg (by omega), if_pos ⟨h8, h40, hn40⟩] at hone
            exact Or.inr (Or.inl ⟨h8, h40, hn40, hone⟩)
          · rw [if_neg (by omega), if_neg (by omega)] at hone
            exact Or.inr (Or.inr (Or.inr (Or.inl ⟨h8, h40, by omega, hone⟩)))
        · rw [if_neg (by omega), if_neg (by omega)] at hone
          exact Or.inr (Or.inr (Or.inr (Or.inr (Or.inr (Or.inl ⟨h8, by simpa using h40, hone⟩)))))
      · rw [if_neg (by omega), if_neg (by omega)] at hone
        exact Or.inr (Or.inr (Or.inr (Or.inr (Or.inr (Or.inr ⟨by simpa using h7, by simpa using h8, hone⟩)))))
  clear hone
  rcases hcs with ⟨rfl, rfl, hN, hO⟩ | ⟨rfl, rfl, hN, hO⟩ | ⟨rfl, rfl, hN, hO⟩ | ⟨rfl, rfl, hN, hO⟩ | ⟨rfl, hN, hO⟩ | ⟨rfl, hN, hO⟩ | ⟨hN, hN2, hO⟩
  all_goals have HO := hidden hO
  all_goals clear hO
  · have HM0 : Hid (SlIn ((w.alloc (.cells #[.int .i64 0, .int .i64 0, .int .i64 0, .int .i64 0, .int .u64 0, .int .u64 0, .int .i64 0, .int .u64 0, .int .u64 0] 98)).alloc (.cells #[.int .i64 (nAt xs 1 1), .int .i64 (nAt xs 4 2), .int .i64 (nAt xs 6 2), .int .i64 0, .int .u64 0, .int .u64 0, .int .i64 0, .int .u64 0, .int .u64 0] 98)) (w.heap.size + 1) ⟨nAt xs 1 1, nAt xs 4 2, nAt xs 6 2, zeroA, zeroA⟩) := hidden (by
      have := SlIn.new (w.alloc (.cells #[.int .i64 0, .int .i64 0, .int .i64 0, .int .i64 0, .int .u64 0, .int .u64 0, .int .i64 0, .int .u64 0, .int .u64 0] 98)) ⟨nAt xs 1 1, nAt xs 4 2, nAt xs 6 2, zeroA, zeroA⟩ 98
      simpa [zeroA] using this)
    have HR0 := hidden ((SlIn.new w zeroS 98).alloc (.cells #[.int .i64 (nAt xs 1 1), .int .i64 (nAt xs 4 2), .int .i64 (nAt xs 6 2), .int .i64 0, .int .u64 0, .int .u64 0, .int .i64 0, .int .u64 0, .int .u64 0] 98))
    have HB0 := hidden (below_two (w := w) (.cells #[.int .i64 0, .int .i64 0, .int .i64 0, .int .i64 0, .int .u64 0, .int .u64 0, .int .i64 0, .int .u64 0, .int .u64 0] 98) (.cells #[.int .i64 (nAt xs 1 1), .int .i64 (nAt xs 4 2), .int .i64 (nAt xs 6 2), .int .i64 0, .int .u64 0, .int .u64 0, .int .i64 0, .int .u64 0, .int .u64 0] 98))
    have HS1X := hidden (HXX.out.alloc (.cells #[.int .i64 (nAt xs 1 1), .int .i64 (nAt xs 4 2), .int .i64 (nAt xs 6 2), .int .i64 0, .int .u64 0, .int .u64 0, .int .i64 0, .int .u64 0, .int .u64 0] 98))
    have HN11 := hidden (fun w h => snum_any p n c xs w h 1 1 (by omega) (by omega) (nAt xs 1 1) (by have := numR_in xs 1 1 (by omega) (by omega) (by rw [HL.out]; omega); rw [show ((1 : Nat) : Int) = 1 from rfl] at this; rw [this]))
    have HN42 := hidden (fun w h => snum_any p n c xs w h 4 2 (by omega) (by omega) (nAt xs 4 2) (by have := numR_in xs 4 2 (by omega) (by omega) (by rw [HL.out]; omega); rw [show ((4 : Nat) : Int) = 4 from rfl, show ((2 : Nat) : Int) = 2 from rfl] at this; rw [this]))
    have HN62 := hidden (fun w h => snum_any p n c xs w h 6 2 (by omega) (by omega) (nAt xs 6 2) (by have := numR_in xs 6 2 (by omega) (by omega) (by rw [HL.out]; omega); rw [show ((6 : Nat) : Int) = 6 from rfl, show ((2 : Nat) : Int) = 2 from rfl] at this; rw [this]))
    clear h
    go_enter Tryz.func112, Tryz.ntmps112
    go_wp2_with (first
      | (go_at_call 123; (with_reducible refine (HN01.out _ HXX.out).mono ?_); rintro e w' ⟨rfl, rfl⟩)
      | (go_at_call 123; (with_reducible refine (HN22.out _ HXX.out).mono ?_); rintro e w' ⟨rfl, rfl⟩)
      | (go_at_call 123; (with_reducible refine (HN11.out _ HXX.out).mono ?_); rintro e w' ⟨rfl, rfl⟩)
      | (go_at_call 123; (with_reducible refine (HN42.out _ HXX.out).mono ?_); rintro e w' ⟨rfl, rfl⟩)
      | (go_at_call 123; (with_reducible refine (HN62.out _ HXX.out).mono ?_); rintro e w' ⟨rfl, rfl⟩)
      | (go_at_call 124; (with_reducible refine (read4_any p n c xs _ HS1X.out 8 8 rfl (by omega)).mono ?_); rintro e w1 ⟨rfl, hb⟩; have HM1 := hidden (HM0.out.below hb); have HR1 := hidden (HR0.out.below hb); have HX1 := hidden (HS1X.out.below hb); have HB1 := hidden (HB0.out.trans (hb.mono HB0.out.size)); clear hb)
      | (go_at_call 124; (with_reducible refine (read4_any p n c xs _ HX1.out 12 12 rfl (by omega)).mono ?_); rintro e w2 ⟨rfl, hb⟩; have HM2 := hidden (HM1.out.below hb); have HR2 := hidden (HR1.out.below hb); have HB2 := hidden (HB1.out.trans (hb.mono HB1.out.size)); obtain ⟨m0, m1, m2, m3, m4, m5, m6, m7, m8, mf⟩ := HM2.out; obtain ⟨r0, r1, r2, r3, r4, r5, r6, r7, r8, rf⟩ := HR2.out; clear hb)
      | fail)
    obtain ⟨z1, z2⟩ := put_lohi (B := w.heap.size) (m := ⟨nAt xs 1 1, nAt xs 4 2, nAt xs 6 2, zeroA, zeroA⟩) HR2.out (show w.heap.size ≠ w.heap.size + 1 by omega) (by omega) (Nat.le_refl _) ⟨4, 0, nAt xs 8 4⟩ ⟨4, 0, nAt xs 12 4⟩
    refine ret_sl3 (g := w.heap.size) (s := ⟨nAt xs 1 1, nAt xs 4 2, nAt xs 6 2, ⟨4, 0, nAt xs 8 4⟩, ⟨4, 0, nAt xs 12 4⟩⟩) (u := .int .i64 16) (v := .bool true) rfl rfl rfl rfl rfl z1 ?_
    refine ⟨z2 w rfl HB2.out, ?_⟩
    rw [HO.out]
    rfl
  · have HM0 : Hid (SlIn ((w.alloc (.cells #[.int .i64 0, .int .i64 0, .int .i64 0, .int .i64 0, .int .u64 0, .int .u64 0, .int .i64 0, .int .u64 0, .int .u64 0] 98)).alloc (.cells #[.int .i64 (nAt xs 1 1), .int .i64 (nAt xs 4 2), .int .i64 (nAt xs 6 2), .int .i64 0, .int .u64 0, .int .u64 0, .int .i64 0, .int .u64 0, .int .u64 0] 98)) (w.heap.size + 1) ⟨nAt xs 1 1, nAt xs 4 2, nAt xs 6 2, zeroA, zeroA⟩) := hidden (by
      have := SlIn.new (w.alloc (.cells #[.int .i64 0, .int .i64 0, .int .i64 0, .int .i64 0, .int .u64 0, .int .u64 0, .int .i64 0, .int .u64 0, .int .u64 0] 98)) ⟨nAt xs 1 1, nAt xs 4 2, nAt xs 6 2, zeroA, zeroA⟩ 98
      simpa [zeroA] using this)
    have HR0 := hidden ((SlIn.new w zeroS 98).alloc (.cells #[.int .i64 (nAt xs 1 1), .int .i64 (nAt xs 4 2), .int .i64 (nAt xs 6 2), .int .i64 0, .int .u64 0, .int .u64 0, .int .i64 0, .int .u64 0, .int .u64 0] 98))
    have HB0 := hidden (below_two (w := w) (.cells #[.int .i64 0, .int .i64 0, .int .i64 0, .int .i64 0, .int .u64 0, .int .u64 0, .int .i64 0, .int .u64 0, .int .u64 0] 98) (.cells #[.int .i64 (nAt xs 1 1), .int .i64 (nAt xs 4 2), .int .i64 (nAt xs 6 2), .int .i64 0, .int .u64 0, .int .u64 0, .int .i64 0, .int .u64 0, .int .u64 0] 98))
    have HS1X := hidden (HXX.out.alloc (.cells #[.int .i64 (nAt xs 1 1), .int .i64 (nAt xs 4 2), .int .i64 (nAt xs 6 2), .int .i64 0, .int .u64 0, .int .u64 0, .int .i64 0, .int .u64 0, .int .u64 0] 98))
    have HN11 := hidden (fun w h => snum_any p n c xs w h 1 1 (by omega) (by omega) (nAt xs 1 1) (by have := numR_in xs 1 1 (by omega) (by omega) (by rw [HL.out]; omega); rw [show ((1 : Nat) : Int) = 1 from rfl] at this; rw [this]))
    have HN42 := hidden (fun w h => snum_any p n c xs w h 4 2 (by omega) (by omega) (nAt xs 4 2) (by have := numR_in xs 4 2 (by omega) (by omega) (by rw [HL.out]; omega); rw [show ((4 : Nat) : Int) = 4 from rfl, show ((2 : Nat) : Int) = 2 from rfl] at this; rw [this]))
    have HN62 := hidden (fun w h => snum_any p n c xs w h 6 2 (by omega) (by omega) (nAt xs 6 2) (by have := numR_in xs 6 2 (by omega) (by omega) (by rw [HL.out]; omega); rw [show ((6 : Nat) : Int) = 6 from rfl, show ((2 : Nat) : Int) = 2 from rfl] at this; rw [this]))
    clear h
    go_enter Tryz.func112, Tryz.ntmps112
    go_wp2_with (first
      | (go_at_call 123; (with_reducible refine (HN01.out _ HXX.out).mono ?_); rintro e w' ⟨rfl, rfl⟩)
      | (go_at_call 123; (with_reducible refine (HN22.out _ HXX.out).mono ?_); rintro e w' ⟨rfl, rfl⟩)
      | (go_at_call 123; (with_reducible refine (HN11.out _ HXX.out).mono ?_); rintro e w' ⟨rfl, rfl⟩)
      | (go_at_call 123; (with_reducible refine (HN42.out _ HXX.out).mono ?_); rintro e w' ⟨rfl, rfl⟩)
      | (go_at_call 123; (with_reducible refine (HN62.out _ HXX.out).mono ?_); rintro e w' ⟨rfl, rfl⟩)
      | (go_at_call 125; (with_reducible refine (read6_any p n c xs _ HS1X.out 8 8 rfl (by omega)).mono ?_); rintro e w1 ⟨rfl, hb⟩; have HM1 := hidden (HM0.out.below hb); have HR1 := hidden (HR0.out.below hb); have HX1 := hidden (HS1X.out.below hb); have HB1 := hidden (HB0.out.trans (hb.mono HB0.out.size)); clear hb)
      | (go_at_call 125; (with_reducible refine (read6_any p n c xs _ HX1.out 24 24 rfl (by omega)).mono ?_); rintro e w2 ⟨rfl, hb⟩; have HM2 := hidden (HM1.out.below hb); have HR2 := hidden (HR1.out.below hb); have HB2 := hidden (HB1.out.trans (hb.mono HB1.out.size)); obtain ⟨m0, m1, m2, m3, m4, m5, m6, m7, m8, mf⟩ := HM2.out; obtain ⟨r0, r1, r2, r3, r4, r5, r6, r7, r8, rf⟩ := HR2.out; clear hb)
      | fail)
    obtain ⟨z1, z2⟩ := put_lohi (B := w.heap.size) (m := ⟨nAt xs 1 1, nAt xs 4 2, nAt xs 6 2, zeroA, zeroA⟩) HR2.out (show w.heap.size ≠ w.heap.size + 1 by omega) (by omega) (Nat.le_refl _) ⟨6, nAt xs 8 8, nAt xs 16 8⟩ ⟨6, nAt xs 24 8, nAt xs 32 8⟩
    refine ret_sl3 (g := w.heap.size) (s := ⟨nAt xs 1 1, nAt xs 4 2, nAt xs 6 2, ⟨6, nAt xs 8 8, nAt xs 16 8⟩, ⟨6, nAt xs 24 8, nAt xs 32 8⟩⟩) (u := .int .i64 40) (v := .bool true) rfl rfl rfl rfl rfl z1 ?_
    refine ⟨z2 w rfl HB2.out, ?_⟩
    rw [HO.out]
    rfl
  all_goals
    obtain ⟨r0, r1, r2, r3, r4, r5, r6, r7, r8, rf⟩ := HRZ.out
    clear h
    go_enter Tryz.func112, Tryz.ntmps112
    go_wp2_with (first
      | (go_at_call 123; (with_reducible refine (HN01.out _ HXX.out).mono ?_); rintro e w' ⟨rfl, rfl⟩)
      | (go_at_call 123; (with_reducible refine (HN22.out _ HXX.out).mono ?_); rintro e w' ⟨rfl, rfl⟩)
      | fail)
    refine ret_sl3 (g := w.heap.size) (s := zeroS) (u := .int .i64 0) (v := .bool false) rfl rfl rfl rfl rfl HRZ.out ?_
    refine ⟨HBZ.out, ?_⟩
    rw [HO.out]
end Go.Proofs.YtbpmanbpmlkmnaaGreatDoor

namespace Go.Proofs.YtbpmanbpmlkmnaaGreatDoor
open Go.RowKit
set_option linter.unusedVariables false

set_option maxHeartbeats 800000 in
theorem rcheckAll_any (p : Option Addr) (n c : Nat) (ls : List PrP) (w : World) (h : RdG KPr DPr w p n c ls) (E : Int) (hE : checkP (ls.map PrP.pr) = E) :
    Calls Tryz.prog 51 #[.slice p n c] w (ErrNew w E) := by
  have hn := h.le
  have HT := hidden h
  have HTL := hidden h.len
  unfold checkP at hE
  rw [List.length_map, h.len] at hE
  clear h
  by_cases h0 : n = 0
  · rw [if_pos h0] at hE
    subst h0
    go_enter Tryz.func51, Tryz.ntmps51
    go_wp2
    go_ret
    subst hE
    exact ⟨rfl, Below.refl _ _⟩
  rw [if_neg h0] at hE
  have h0' : ((n : Int) == 0) = false := by simp; omega
  by_cases h8 : 8 < n
  · rw [if_pos h8] at hE
    go_enter Tryz.func51, Tryz.ntmps51
    go_wp2
    go_ret
    subst hE
    exact ⟨rfl, Below.refl _ _⟩
  rw [if_neg h8] at hE
  have HE := hidden hE
  clear hE
  go_enter Tryz.func51, Tryz.ntmps51
  go_wp2_with fail
  go_loopw [3] (fun i wr => ∃ j : Nat, j ≤ n ∧ i = .int .i64 j ∧ errPrs ((j : Int) + 1) ((ls.map PrP.pr).drop j) = E ∧ Below w.heap.size w wr) (fun i _ => n - (intOf i).toNat)
  case atStart => exact ⟨0, by omega, rfl, by simpa using HE.out, Below.refl _ _⟩
  case round =>
    obtain ⟨j, hj, rfl, herr, hbel⟩ := hrel
    have HBL := hidden hbel
    by_cases hlt : ¬ j < n
    · obtain rfl : j = n := by omega
      rw [List.drop_of_length_le (by rw [List.length_map, HTL.out]; exact Nat.le_refl _), errPrs] at herr
      have HER := hidden herr
      clear herr hbel
      go_wp2
      go_ret
      have hE := HER.out
      subst hE
      exact ⟨rfl, HBL.out⟩
    replace hlt : j < n := by omega
    have hlt' : (j : Int) < n := by omega
    have htj := HT.out.below hbel
    obtain ⟨g, rfl, hc, hok⟩ := htj.cell j (by rw [HTL.out]; exact hlt)
    obtain ⟨y, hy⟩ : ∃ y, ls[j]'(by rw [HTL.out]; exact hlt) = y := ⟨_, rfl⟩
    rw [hy] at hc hok
    obtain ⟨E1, hE1⟩ : ∃ E1, errPr y.pr ((j : Int) + 1) = E1 := ⟨_, rfl⟩
    have hst := errPrs_stepP ls j (by rw [HTL.out]; exact hlt) y hy E E1 herr hE1
    have c0 := hc 0 _ rfl
    have c1 := hc 1 _ rfl
    have c2 := hc 2 _ rfl
    have c3 := hc 3 _ rfl
    simp only [KPr, Nat.add_zero] at c0 c1 c2 c3
    have HC := hidden (one_any y ((j : Int) + 1) wr hok)
    rw [hE1] at HC
    have HB1 := HBL
    have HST := hidden hst
    have hj8 : (j : Int) + 1 ≤ 9 := by omega
    clear hc hok hst hE1 hy htj herr hbel
    go_wp2_with fail
    go_at_call 81
    (with_reducible refine (HC.out).mono ?_)
    rintro e w1 ⟨rfl, hb1⟩
    have HB2 := hidden (HB1.out.trans (hb1.mono HB1.out.size))
    clear hb1 c0 c1 c2 c3
    by_cases hz : E1 = 0
    · subst hz
      have hst := HST.out
      rw [if_neg (by simp)] at hst
      have HS := hidden hst
      clear hst HST
      go_wp2
      go_roundw
      case rel => exact ⟨j + 1, by omega, by go_num, HS.out.symm, HB2.out⟩
      case measure => simp [intOf]; omega
    · have hz' : (E1 != 0) = true := by simpa using hz
      have hst := HST.out
      rw [if_pos hz] at hst
      have HS := hidden hst
      clear hst HST hz
      go_wp2
      go_ret
      have hE := HS.out
      subst hE
      exact ⟨rfl, HB2.out⟩
end Go.Proofs.YtbpmanbpmlkmnaaGreatDoor
