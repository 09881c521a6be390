/-
  Which slices are the same: slices.Equal and slices.EqualFunc at the types that package payload compares, and the document's own Same of proposals and of selectors: each says yes just where the lists read alike.
  The document's own Same of proposals, and package payload's comparison of proposals, of notifications and of lists of bytes: each says yes just where both read alike.
  Package payload's comparison of proposals, of notifications and of lists of bytes: each says yes just where both read alike.
  Which payloads are the same: package payload's Same and the document's own, at payloads that can be read, both by one function of what is read.
  What stays readable when the blocks from a place on keep their cells.
  What the laws of chapter 4 share: the example holds; Build's bytes as bytes; drawn proposals may be written.
-/
import Derived.Test.YtkniifopfgeopaaGreatJZ3
import Derived.Test.YtkniifopfgeopaaGreatJZ11
import Derived.Test.YtkniifopfgeopaaGreatJZ13
import Derived.Test.YtkniifopfgeopaaGreatJZ6
import Derived.Test.YtkniifopfgeopaaGreatJZ12
import Derived.Test.YtkniifopfgeopaaGreatJDrawP
import Derived.Deep.QuietTactic
import Derived.BigQuiet
namespace Go.Proofs.YtkniifopfgeopaaGreat
open Go.RowKit
set_option linter.unusedVariables false

end Go.Proofs.YtkniifopfgeopaaGreat

namespace Go.Proofs.YtkniifopfgeopaaGreat
open Go.RowKit
set_option linter.unusedVariables false

end Go.Proofs.YtkniifopfgeopaaGreat

namespace Go.Proofs.YtkniifopfgeopaaGreat
open Go.RowKit
set_option linter.unusedVariables false

/-- A notification's four cells, its slices. -/
structure Nt where
  p : Int
  sp : Option Addr
  sn : Nat
  sc : Nat
  s : List Int
  t : Int
  dp : Option Addr
  dn : Nat
  dc : Nat
  d : List Int

end Go.Proofs.YtkniifopfgeopaaGreat

namespace Go.Proofs.YtkniifopfgeopaaGreat
open Go.RowKit
set_option linter.unusedVariables false

/-- What the slices of a payload hold. -/
structure Pc where
  pr : List PrP
  ed : List Int
  id : List Int
  ad : List Int
  ns : List Int
  nd : List Int
  ds : List Sb
  se : List Sl
  da : List Int
/-- The payload can be read. -/
structure PvRd (w : World) (x : Pv) (C : Pc) : Prop where
  pr : RdG KPr DPr w x.pr.p x.pr.n x.pr.c C.pr
  ed : Byt w x.ed.p x.ed.n x.ed.c C.ed
  id : Byt w x.id.p x.id.n x.id.c C.id
  ad : Byt w x.ad.p x.ad.n x.ad.c C.ad
  ns : Byt w x.ns.p x.ns.n x.ns.c C.ns
  nd : Byt w x.nd.p x.nd.n x.nd.c C.nd
  ds : RdG KSb DSb w x.ds.p x.ds.n x.ds.c C.ds
  se : RdG KSl DSlr w x.se.p x.se.n x.se.c C.se
  da : Byt w x.da.p x.da.n x.da.c C.da
theorem PvRd.below {w w' : World} {x : Pv} {C : Pc} (h : PvRd w x C) (hb : Below w.heap.size w w') : PvRd w' x C :=
  ⟨h.pr.below hb, h.ed.below hb, h.id.below hb, h.ad.below hb, h.ns.below hb, h.nd.below hb, h.ds.below hb, h.se.below hb, h.da.below hb⟩
/-- Both payloads are the same. -/
def sameV (x : Pv) (C : Pc) (y : Pv) (D : Pc) : Bool :=
  if x.t ≠ y.t then false
  else if x.t = 33 then decide (C.pr.map PrP.pr = D.pr.map PrP.pr)
  else if x.t = 34 then decide (x.eg = y.eg) && decide (C.ed = D.ed)
  else if x.t = 35 ∨ x.t = 36 then decide (x.ik = y.ik) && decide (C.id = D.id)
  else if x.t = 39 then decide (x.am = y.am) && decide (C.ad = D.ad)
  else if x.t = 41 then decide (x.np = y.np) && decide (x.nt = y.nt) && decide (C.ns = D.ns) && decide (C.nd = D.nd)
  else if x.t = 42 then decide (x.dp = y.dp) && decide (C.ds.map Sb.xs = D.ds.map Sb.xs)
  else if x.t = 44 ∨ x.t = 45 then decide (C.se = D.se)
  else decide (C.da = D.da)
end Go.Proofs.YtkniifopfgeopaaGreat

namespace Go.Proofs.YtkniifopfgeopaaGreat
open Go.RowKit
set_option linter.unusedVariables false

/-- The other world has the cells of the blocks from base on. -/
def Kpt (w w' : World) (base : Nat) : Prop := ∀ a v, base ≤ a.block → w.cell? a = some v → w'.cell? a = some v
theorem Kpt.refl (w : World) (base : Nat) : Kpt w w base := fun _ _ _ h => h
theorem Kpt.mono {w w' : World} {base base' : Nat} (h : Kpt w w' base) (hb : base ≤ base') : Kpt w w' base' := fun a v ha hc => h a v (by omega) hc
theorem Kpt.trans {a b c : World} {base : Nat} (h : Kpt a b base) (k : Kpt b c base) : Kpt a c base := fun x v hx hc => k x v hx (h x v hx hc)
theorem Kpt.low {w w' : World} {base r : Nat} (hg : w.grownBy w' (some r)) (hr : r < base) : Kpt w w' base := fun a v ha hc => hg.cell hc (by simp; omega)
theorem Kpt.alloc (w : World) (o : Obj) (base : Nat) : Kpt w (w.alloc o) base := fun a v _ hc => cell_below ((Below.refl _ w).alloc (Nat.le_refl _) o) a v hc
theorem Kpt.drew (w : World) (base r : Nat) : Kpt w (w.drewN r) base := fun a v _ hc => hc
theorem Bod.kp {w w' : World} {base : Nat} {p : Option Addr} {n c : Nat} {xs : List Int} (h : Bod w base p n c xs) (hk : Kpt w w' base) : Byt w' p n c xs :=
  ⟨h.byt.len, h.byt.cap, h.byt.big, h.byt.rng, fun hn => by
    obtain ⟨b, o, e, hc⟩ := h.byt.mem hn
    obtain ⟨b', o', cur, fz, e', hb, -⟩ := h.own (by have := h.byt.len; omega)
    rw [e] at e'
    injection e' with e'
    injection e' with e1 e2
    subst e1
    exact ⟨b, o, e, fun i hi => hk _ _ hb (hc i hi)⟩⟩
theorem RowG.kp {α : Type} {K : KindR α} {N : NestR α} {D : ReadN α} {w w' : World} {base : Nat} {p : Option Addr} {n c : Nat} {l : List α} (h : RowG K N w base (.slice p n c) l) (hl : l.length = n) (hk : Kpt w w' base) (hd : ∀ x, N.ok w base x → D.ok w' x) : RdG K D w' p n c l := by
  have hok : ∀ x ∈ l, D.ok w' x := fun x hx => hd x (h.ok x hx)
  rcases h.own.2 with ⟨e, h0⟩ | ⟨g, cap, cur, e, hg, hh, hnc, hm, hs, ht⟩
  · simp at e
    obtain ⟨rfl, rfl, rfl⟩ := e
    exact ⟨hl, by omega, by unfold maxLen; omega, fun h => by omega, hok⟩
  · simp at e
    obtain ⟨rfl, rfl, rfl⟩ := e
    refine ⟨hl, hnc, hm, fun h0 => ⟨g, rfl, fun j u hj => ?_⟩, hok⟩
    have := World.ownsRow.cells h.own (g := g) rfl j u hj
    rw [WideShapes.add_plain, Nat.zero_add] at this
    exact hk _ _ hg this
theorem OkN.kp {w w' : World} {base : Nat} {x : PrP} (h : OkN w base x) (hk : Kpt w w' base) : OkD w' x := by
  have hl : x.ts.length = x.tn := by
    rcases h.ts.form rfl with ⟨p, c, e⟩
    simp at e
    exact e.2.1.symm
  exact ⟨h.int, h.s.kp hk, RowG.kp (D := DTr) h.ts hl hk (fun _ h => h)⟩
theorem rdg_nil {α : Type} (K : KindR α) (D : ReadN α) (w : World) : RdG K D w none 0 0 [] := ⟨rfl, Nat.le_refl _, by unfold maxLen; omega, fun h => by omega, fun x hx => by cases hx⟩
theorem byt_nil (w : World) : Byt w none 0 0 [] := Byt.nil _ _ _ (by unfold maxLen; omega)

/-- The payload can be read wherever the blocks from base on are as they were. -/
def PvKp (w : World) (base : Nat) (x : Pv) (C : Pc) : Prop := ∀ w', Kpt w w' base → PvRd w' x C
theorem PvKp.rd {w : World} {base : Nat} {x : Pv} {C : Pc} (h : PvKp w base x C) : PvRd w x C := h w (Kpt.refl _ _)
theorem PvKp.step {w w' : World} {base : Nat} {x : Pv} {C : Pc} (h : PvKp w base x C) (hk : Kpt w w' base) : PvKp w' base x C := fun w'' h2 => h w'' (hk.trans h2)
theorem PvKp.mono {w : World} {base base' : Nat} {x : Pv} {C : Pc} (h : PvKp w base x C) (hb : base' ≤ base) : PvKp w base' x C := fun w' hk => h w' (hk.mono hb)

end Go.Proofs.YtkniifopfgeopaaGreat

namespace Go.Proofs.YtkniifopfgeopaaGreat
open Go.RowKit
set_option linter.unusedVariables false

theorem encPs_rng : ∀ (l : List Pr), (∀ p ∈ l, ∀ z ∈ p.s, 0 ≤ z ∧ z ≤ 255) → ∀ z ∈ encPs l, 0 ≤ z ∧ z ≤ 255
  | [], _ => by intro z hz; simp [encPs] at hz
  | p :: l, h => by
    rw [encPs, encP_sec]
    exact rng_append (secE_rng _ _ (by split <;> omega) (inP_rng p (h p (by simp)))) (encPs_rng l (fun q hq => h q (by simp [hq])))
theorem buildP_rng (l : List Pr) (h : ∀ p ∈ l, ∀ z ∈ p.s, 0 ≤ z ∧ z ≤ 255) {L : List Int} {E : Int} (hb : buildP l = (L, E)) : ∀ z ∈ L, 0 ≤ z ∧ z ≤ 255 := by
  unfold buildP at hb
  split at hb
  · simp at hb
    obtain ⟨rfl, _⟩ := hb
    intro z hz
    cases hz
  · simp at hb
    obtain ⟨rfl, _⟩ := hb
    exact encPs_rng l h
theorem RdG.rng {w : World} {p : Option Addr} {n c : Nat} {ls : List PrP} (h : RdG KPr DPr w p n c ls) : ∀ q ∈ ls.map PrP.pr, ∀ z ∈ q.s, 0 ≤ z ∧ z ≤ 255 := by
  intro q hq
  obtain ⟨x, hx, rfl⟩ := List.mem_map.1 hq
  exact (h.ok x hx).s.rng
/-- Build's results, its bytes as a slice. -/
def BuiltB (w : World) (L : List Int) (E : Int) (e : Ending) (w' : World) : Prop := ∃ p c, e = .returned (.tuple #[.slice p L.length c, .int .i64 E]) ∧ Byt w' p L.length c L ∧ Below w.heap.size w w'
theorem errTrs_zero : ∀ (l seen : List Tr), (∀ x ∈ l, OkT x) → (seen ++ l).Nodup → errTrs seen l = 0
  | [], _, _, _ => rfl
  | x :: l, seen, h, hn => by
    have hx := h x (by simp)
    have h1 := hx.t
    have h2 := hx.i
    have h3 := hx.k
    have hns : x ∉ seen := by
      intro hm
      rw [List.nodup_append] at hn
      exact hn.2.2 x hm x (by simp) rfl
    rw [errTrs, if_neg (by omega), if_neg hns]
    exact errTrs_zero l (seen ++ [x]) (fun y hy => h y (by simp [hy])) (by simpa using hn)
theorem drawn_err {pr n : Int} {x : PrP} (h : DrawnP pr n x) (hp : pr = 1 ∨ pr = 2 ∨ pr = 3) : errPr x.pr n = 0 := by
  have h1 := h.n
  have h2 := h.p
  have h3 := h.s
  have h4 := h.ts
  have h5 := h4.some_
  have h6 := h4.few
  have h7 := errTrs_zero x.ts [] h4.ok (by simpa using h4.nodup)
  unfold errPr PrP.pr
  simp only
  rw [if_neg (by omega), if_neg (by omega), if_neg (by split at h3 <;> omega), if_neg (by omega), if_neg (by omega), h7]
theorem drawn_errs (pr : Int) (hp : pr = 1 ∨ pr = 2 ∨ pr = 3) : ∀ (ls : List PrP) (n : Int), (∀ j (h : j < ls.length), DrawnP pr (n + j) ls[j]) → errPrs n (ls.map PrP.pr) = 0
  | [], _, _ => rfl
  | x :: ls, n, h => by
    have h0 := drawn_err (h 0 (by simp)) hp
    simp only [List.getElem_cons_zero] at h0
    rw [show n + ((0 : Nat) : Int) = n by omega] at h0
    rw [List.map_cons, errPrs, if_neg (by omega)]
    refine drawn_errs pr hp ls (n + 1) (fun j hj => ?_)
    have := h (j + 1) (by simpa using hj)
    simp only [List.getElem_cons_succ] at this
    rw [show n + 1 + (j : Int) = n + ((j + 1 : Nat) : Int) by omega]
    exact this
theorem DrawnL.check {pr : Int} {ls : List PrP} (h : DrawnL pr ls) (hp : pr = 1 ∨ pr = 2 ∨ pr = 3) (h1 : 1 ≤ ls.length) (h2 : ls.length ≤ 8) : checkP (ls.map PrP.pr) = 0 := by
  unfold checkP
  rw [List.length_map, if_neg (by omega), if_neg (by omega)]
  refine drawn_errs pr hp ls 1 (fun j hj => ?_)
  rw [show (1 : Int) + j = (j : Int) + 1 by omega]
  exact h j hj
theorem encPs_le : ∀ (l : List Pr), (∀ p ∈ l, OkP p) → (encPs l).length ≤ l.length * 304
  | [], _ => by simp [encPs]
  | p :: l, h => by
    have h1 := encP_len (if l.length = 0 then 0 else 2) p
    have h2 := lenP_le (h p (by simp))
    have h3 := encPs_le l (fun q hq => h q (by simp [hq]))
    rw [encPs, List.length_append, List.length_cons]
    omega

/-- The example of the chapter. -/
def demo (w : World) : PrP := ⟨1, 3, some ⟨w.heap.size, 0, none⟩, 4, 4, [1, 2, 3, 4], some ⟨w.heap.size + 1, 0, none⟩, 1, 1, [⟨1, 28, 0⟩]⟩
def demoPr : List Pr := [⟨1, 3, [1, 2, 3, 4], [⟨1, 28, 0⟩]⟩]
end Go.Proofs.YtkniifopfgeopaaGreat
