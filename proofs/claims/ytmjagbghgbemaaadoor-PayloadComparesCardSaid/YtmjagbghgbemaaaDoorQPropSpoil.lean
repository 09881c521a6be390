/-
  Rows of proposals of which the call owns the row alone; and what Check says of lists that were spoilt.
-/
import Derived.Test.YtmjagbghgbemaaaDoorQPropLaws
namespace Go.Proofs.YtmjagbghgbemaaaDoor
open Go.RowKit
set_option linter.unusedVariables false

/-- Nothing is asked of what lies behind a proposal. -/
def NPd : NestR PrP where
  ts := []
  ok _ _ x := IntP x
  keep h _ _ := h
  mono h _ := h
theorem RowG.rd2 {α : Type} {K : KindR α} {N : NestR α} {D : ReadN α} {w : World} {base : Nat} {p : Option Addr} {n c : Nat} {l : List α} (h : RowG K N w base (.slice p n c) l) (hd : ∀ x ∈ l, D.ok w x) : RdG K D w p n c l := by
  obtain ⟨p', c', e⟩ := h.form rfl
  simp at e
  obtain ⟨rfl, rfl, rfl⟩ := e
  let D' : ReadN α := ⟨fun _ _ => True, fun h _ => h⟩
  obtain ⟨p', c', e, h2⟩ := h.rd (D := D') rfl (fun _ _ => trivial)
  simp at e
  obtain ⟨rfl, rfl⟩ := e
  exact ⟨h2.len, h2.cap, h2.big, h2.mem, hd⟩

theorem RowG.rd2' {α : Type} {K : KindR α} {N : NestR α} {D : ReadN α} {w : World} {base : Nat} {p : Option Addr} {n c : Nat} {l : List α} (h : RowG K N w base (.slice p n c) l) (hn : l.length = n) (hd : ∀ x ∈ l, D.ok w x) : RdG K D w p n c l := by
  subst hn
  exact h.rd2 hd
theorem fr_below {w w' : World} {g : Nat} (hb : Below w.heap.size w w') (hg : g < w.heap.size) (hf : ∀ j, w.frozen? ⟨g, j, none⟩ = false) (j : Nat) : w'.frozen? ⟨g, j, none⟩ = false :=
  (World.frozen?_of_block (a := ⟨g, j, none⟩) (hb.block g hg)).trans (hf j)
theorem SrcG.keep {α : Type} {K : KindR α} {w w' : World} {p : Option Addr} {m : Nat} {r : List α} (h : SrcG K w p m r) (hk : ∀ a v, w.cell? a = some v → w'.cell? a = some v) : SrcG K w' p m r :=
  ⟨h.1, fun h0 => by
    obtain ⟨ad, e, hc⟩ := h.2 h0
    exact ⟨ad, e, fun j u hj => hk _ _ (hc j u hj)⟩⟩

theorem errPrs_hit : ∀ (l : List Pr) (n : Int) (i : Nat) (hi : i < l.length), (∀ j (hj : j < i), errPr (l[j]'(by omega)) (n + j) = 0) → errPr l[i] (n + i) ≠ 0 → errPrs n l = errPr l[i] (n + i)
  | [], _, i, hi, _, _ => by simp at hi
  | p :: l, n, 0, _, _, h => by
    simp only [List.getElem_cons_zero] at h ⊢
    rw [show n + ((0 : Nat) : Int) = n by omega] at h ⊢
    rw [errPrs, if_pos h]
  | p :: l, n, i + 1, hi, h0, h => by
    have hz := h0 0 (by omega)
    simp only [List.getElem_cons_zero] at hz
    rw [show n + ((0 : Nat) : Int) = n by omega] at hz
    simp only [List.getElem_cons_succ] at h ⊢
    rw [show n + ((i + 1 : Nat) : Int) = n + 1 + i by omega] at h ⊢
    rw [errPrs, if_neg (by omega)]
    refine errPrs_hit l (n + 1) i (by simpa using hi) (fun j hj => ?_) h
    have := h0 (j + 1) (by omega)
    simp only [List.getElem_cons_succ] at this
    rw [show n + 1 + (j : Int) = n + ((j + 1 : Nat) : Int) by omega]
    exact this
/-- One proposal of drawn ones was spoilt. -/
theorem check_spoilt {pr : Int} (hp : pr = 1 ∨ pr = 2 ∨ pr = 3) {ls : List PrP} (h : DrawnL pr ls) (h8 : ls.length ≤ 8) (i : Nat) (hi : i < ls.length) (y : PrP) (E : Int) (hy : errPr y.pr ((i : Int) + 1) = E) (hE : E ≠ 0) : checkP ((ls.set i y).map PrP.pr) = E := by
  unfold checkP
  rw [List.length_map, List.length_set, if_neg (by omega), if_neg (by omega)]
  have hg : ((ls.set i y).map PrP.pr)[i]'(by simpa using hi) = y.pr := by simp
  have := errPrs_hit ((ls.set i y).map PrP.pr) 1 i (by simpa using hi) (fun j hj => by
    have h1 : ((ls.set i y).map PrP.pr)[j]'(by simp; omega) = (ls[j]'(by omega)).pr := by
      simp [show ¬ i = j by omega]
    rw [h1, show (1 : Int) + j = (j : Int) + 1 by omega]
    exact drawn_err (h j (by omega)) hp) (by rw [hg, show (1 : Int) + i = (i : Int) + 1 by omega, hy]; exact hE)
  rw [this, hg, show (1 : Int) + i = (i : Int) + 1 by omega, hy]
/-- Another number. -/
theorem err_number {pr n : Int} {x : PrP} (h : DrawnP pr n x) (v : Int) (hv : v ≠ n) : errPr ({ x with n := v } : PrP).pr n = 7 := by
  unfold errPr PrP.pr
  simp only
  rw [if_pos hv]
/-- A transform twice. -/
theorem errTrs_twice : ∀ (l seen : List Tr) (z : Tr), (∀ x ∈ l, OkT x) → OkT z → (seen ++ l).Nodup → z ∈ seen ++ l → errTrs seen (l ++ [z]) = 9
  | [], seen, z, _, hz, _, hm => by
    have h1 := hz.t
    have h2 := hz.i
    have h3 := hz.k
    rw [List.nil_append, errTrs, if_neg (by omega), if_pos (by simpa using hm)]
  | x :: l, seen, z, h, hz, hn, hm => by
    have hx := h x (by simp)
    have h1 := hx.t
    have h2 := hx.i
    have h3 := hx.k
    have hns : x ∉ seen := by
      intro hm
      rw [List.nodup_append] at hn
      exact hn.2.2 x hm x (by simp) rfl
    rw [List.cons_append, errTrs, if_neg (by omega), if_neg hns]
    exact errTrs_twice l (seen ++ [x]) z (fun y hy => h y (by simp [hy])) hz (by simpa using hn) (by simpa using hm)
theorem err_twice {pr n : Int} {x : PrP} (h : DrawnP pr n x) (hp : pr = 1 ∨ pr = 2 ∨ pr = 3) (z : Tr) (hz : z ∈ x.ts) (tp : Option Addr) (tn tc : Nat) : errPr ({ x with tp := tp, tn := tn, tc := tc, ts := x.ts ++ [z] } : PrP).pr n = 9 := by
  have h1 := h.n
  have h2 := h.p
  have h3 := h.s
  have h4 := h.ts
  have h5 := h4.some_
  have h6 := h4.few
  have h7 := errTrs_twice x.ts [] z h4.ok (h4.ok z hz) (by simpa using h4.nodup) (by simpa using hz)
  unfold errPr PrP.pr
  simp only
  have hl : (x.ts ++ [z]).length = x.ts.length + 1 := by simp
  rw [if_neg (by omega), if_neg (by omega), if_neg (by split at h3 <;> omega), hl, if_neg (by omega), if_neg (by omega), h7]

theorem encPs_at (l : List Pr) (j : Nat) (hj : j < l.length) : (encPs (l.drop j)).length = 8 + l[j].s.length + (encTs l[j].ts).length + (encPs (l.drop (j + 1))).length := by
  rw [List.drop_eq_getElem_cons hj, encPs, List.length_append, encP_len, lenP]
theorem encTs_at (l : List Tr) (j : Nat) (hj : j < l.length) : ((encTs (l.drop j)).length : Int) = lenT l[j] + (encTs (l.drop (j + 1))).length := by
  rw [List.drop_eq_getElem_cons hj]
  exact encTs_cons _ _
end Go.Proofs.YtmjagbghgbemaaaDoor
