/-
  What the laws of chapter 4 share: the example holds; Build's bytes as bytes; drawn proposals may be written.
-/
import Derived.Test.YtpocehpejbnemaaDoorRZ12
import Derived.Test.YtpocehpejbnemaaDoorRZ5
import Derived.Test.YtpocehpejbnemaaDoorRZ18
import Derived.Test.YtpocehpejbnemaaDoorRZ23
namespace Go.Proofs.YtpocehpejbnemaaDoor
open Go.RowKit
set_option linter.unusedVariables false

theorem encPs_rng : ∀ (l : List Pr), (∀ p ∈ l, ∀ z ∈ p.s, 0 ≤ z ∧ z ≤ 255) → ∀ z ∈ encPs l, 0 ≤ z ∧ z ≤ 255
  | [], _ => by intro z hz; simp [encPs] at hz
  | p :: l, h => by
    rw [encPs, encP_sec]
    exact rng_append (secE_rng _ _ (by split <;> omega) (inP_rng p (h p (by simp)))) (encPs_rng l (fun q hq => h q (by simp [hq])))
theorem buildP_rng (l : List Pr) (h : ∀ p ∈ l, ∀ z ∈ p.s, 0 ≤ z ∧ z ≤ 255) {L : List Int} {E : Int} (hb : buildP l = (L, E)) : ∀ z ∈ L, 0 ≤ z ∧ z ≤ 255 := by
  unfold buildP at hb
  split at hb
  · simp at hb
    obtain ⟨rfl, _⟩ := hb
    intro z hz
    cases hz
  · simp at hb
    obtain ⟨rfl, _⟩ := hb
    exact encPs_rng l h
theorem RdG.rng {w : World} {p : Option Addr} {n c : Nat} {ls : List PrP} (h : RdG KPr DPr w p n c ls) : ∀ q ∈ ls.map PrP.pr, ∀ z ∈ q.s, 0 ≤ z ∧ z ≤ 255 := by
  intro q hq
  obtain ⟨x, hx, rfl⟩ := List.mem_map.1 hq
  exact (h.ok x hx).s.rng
/-- Build's results, its bytes as a slice. -/
def BuiltB (w : World) (L : List Int) (E : Int) (e : Ending) (w' : World) : Prop := ∃ p c, e = .returned (.tuple #[.slice p L.length c, .int .i64 E]) ∧ Byt w' p L.length c L ∧ Below w.heap.size w w'
theorem pbuild_b (p : Option Addr) (n c : Nat) (ls : List PrP) (w : World) (h : RdG KPr DPr w p n c ls) (L : List Int) (E : Int) (hE : buildP (ls.map PrP.pr) = (L, E)) :
    Calls Tryd.prog 57 #[.slice p n c] w (BuiltB w L E) := by
  refine (pbuild_any p n c ls w h L E hE).mono ?_
  rintro e w' ⟨v, rfl, ho, hb⟩
  obtain ⟨q, d, rfl, hy⟩ := ho.bytN rfl rfl (buildP_rng _ h.rng hE)
  exact ⟨q, d, rfl, hy, hb⟩

theorem errTrs_zero : ∀ (l seen : List Tr), (∀ x ∈ l, OkT x) → (seen ++ l).Nodup → errTrs seen l = 0
  | [], _, _, _ => rfl
  | x :: l, seen, h, hn => by
    have hx := h x (by simp)
    have h1 := hx.t
    have h2 := hx.i
    have h3 := hx.k
    have hns : x ∉ seen := by
      intro hm
      rw [List.nodup_append] at hn
      exact hn.2.2 x hm x (by simp) rfl
    rw [errTrs, if_neg (by omega), if_neg hns]
    exact errTrs_zero l (seen ++ [x]) (fun y hy => h y (by simp [hy])) (by simpa using hn)
theorem drawn_err {pr n : Int} {x : PrP} (h : DrawnP pr n x) (hp : pr = 1 ∨ pr = 2 ∨ pr = 3) : errPr x.pr n = 0 := by
  have h1 := h.n
  have h2 := h.p
  have h3 := h.s
  have h4 := h.ts
  have h5 := h4.some_
  have h6 := h4.few
  have h7 := errTrs_zero x.ts [] h4.ok (by simpa using h4.nodup)
  unfold errPr PrP.pr
  simp only
  rw [if_neg (by omega), if_neg (by omega), if_neg (by split at h3 <;> omega), if_neg (by omega), if_neg (by omega), h7]
theorem drawn_errs (pr : Int) (hp : pr = 1 ∨ pr = 2 ∨ pr = 3) : ∀ (ls : List PrP) (n : Int), (∀ j (h : j < ls.length), DrawnP pr (n + j) ls[j]) → errPrs n (ls.map PrP.pr) = 0
  | [], _, _ => rfl
  | x :: ls, n, h => by
    have h0 := drawn_err (h 0 (by simp)) hp
    simp only [List.getElem_cons_zero] at h0
    rw [show n + ((0 : Nat) : Int) = n by omega] at h0
    rw [List.map_cons, errPrs, if_neg (by omega)]
    refine drawn_errs pr hp ls (n + 1) (fun j hj => ?_)
    have := h (j + 1) (by simpa using hj)
    simp only [List.getElem_cons_succ] at this
    rw [show n + 1 + (j : Int) = n + ((j + 1 : Nat) : Int) by omega]
    exact this
theorem DrawnL.check {pr : Int} {ls : List PrP} (h : DrawnL pr ls) (hp : pr = 1 ∨ pr = 2 ∨ pr = 3) (h1 : 1 ≤ ls.length) (h2 : ls.length ≤ 8) : checkP (ls.map PrP.pr) = 0 := by
  unfold checkP
  rw [List.length_map, if_neg (by omega), if_neg (by omega)]
  refine drawn_errs pr hp ls 1 (fun j hj => ?_)
  rw [show (1 : Int) + j = (j : Int) + 1 by omega]
  exact h j hj
theorem DrawnL.built {pr : Int} {ls : List PrP} (h : DrawnL pr ls) (hp : pr = 1 ∨ pr = 2 ∨ pr = 3) (h1 : 1 ≤ ls.length) (h2 : ls.length ≤ 8) : buildP (ls.map PrP.pr) = (encPs (ls.map PrP.pr), 0) := by
  unfold buildP
  rw [h.check hp h1 h2]
  simp
theorem encPs_le : ∀ (l : List Pr), (∀ p ∈ l, OkP p) → (encPs l).length ≤ l.length * 304
  | [], _ => by simp [encPs]
  | p :: l, h => by
    have h1 := encP_len (if l.length = 0 then 0 else 2) p
    have h2 := lenP_le (h p (by simp))
    have h3 := encPs_le l (fun q hq => h q (by simp [hq]))
    rw [encPs, List.length_append, List.length_cons]
    omega

theorem byt_lit4 (w : World) (xs : List Int) (T : TypeId) (hl : xs.length ≤ 1000) (hr : ∀ x ∈ xs, 0 ≤ x ∧ x ≤ 255) : Byt (w.alloc (.cells (xs.map (Value.int .u8)).toArray T)) (some ⟨w.heap.size, 0, none⟩) xs.length xs.length xs :=
  ⟨rfl, Nat.le_refl _, by unfold maxLen; omega, hr, fun hn => ⟨w.heap.size, 0, rfl, fun i hi => by
    rw [World.cell?_alloc_at _ _ _ _ rfl]
    simp [List.getD_eq_getElem?_getD, List.getElem?_eq_getElem hi]⟩⟩

/-- The example of the chapter. -/
def demo (w : World) : PrP := ⟨1, 3, some ⟨w.heap.size, 0, none⟩, 4, 4, [1, 2, 3, 4], some ⟨w.heap.size + 1, 0, none⟩, 1, 1, [⟨1, 28, 0⟩]⟩
def demoPr : List Pr := [⟨1, 3, [1, 2, 3, 4], [⟨1, 28, 0⟩]⟩]
theorem demo_pr (w : World) : [demo w].map PrP.pr = demoPr := rfl
theorem demo_check (w : World) : checkP ([demo w].map PrP.pr) = 0 := by rw [demo_pr]; decide
theorem demo_built (w : World) : buildP ([demo w].map PrP.pr) = (encPs ([demo w].map PrP.pr), 0) := by
  unfold buildP
  rw [demo_check]
  simp
theorem demo_len (w : World) : (encPs ([demo w].map PrP.pr)).length = 20 := by rw [demo_pr]; decide
theorem demo_rd (w : World) : RdG KPr DPr (((w.alloc (.cells #[.int .u8 1, .int .u8 2, .int .u8 3, .int .u8 4] 5)).alloc (.cells #[.int .i64 1, .int .i64 28, .int .i64 0] 113)).alloc (.cells #[.int .i64 1, .int .i64 3, .slice (some ⟨w.heap.size, 0, none⟩) 4 4, .slice (some ⟨w.heap.size + 1, 0, none⟩) 1 1] 111)) (some ⟨w.heap.size + 1 + 1, 0, none⟩) 1 1 [demo w] := by
  have h1 : Byt (w.alloc (.cells #[.int .u8 1, .int .u8 2, .int .u8 3, .int .u8 4] 5)) (some ⟨w.heap.size, 0, none⟩) 4 4 [1, 2, 3, 4] := byt_lit4 w [1, 2, 3, 4] 5 (by decide) (by decide)
  have h2 : RdG KTr DTr ((w.alloc (.cells #[.int .u8 1, .int .u8 2, .int .u8 3, .int .u8 4] 5)).alloc (.cells #[.int .i64 1, .int .i64 28, .int .i64 0] 113)) (some ⟨w.heap.size + 1, 0, none⟩) 1 1 [⟨1, 28, 0⟩] := by
    have := RdG.new KTr DTr (w.alloc (.cells #[.int .u8 1, .int .u8 2, .int .u8 3, .int .u8 4] 5)) [⟨1, 28, 0⟩] 113 (by decide) (fun x hx => by
      rw [List.mem_singleton.1 hx]
      exact ⟨⟨by decide, by decide⟩, ⟨by decide, by decide⟩, by decide, by decide⟩)
    rw [show (KTr.row [⟨1, 28, 0⟩]).toArray = #[.int .i64 1, .int .i64 28, .int .i64 0] from rfl] at this
    simpa using this
  have h3 := h1.alloc (.cells #[.int .i64 1, .int .i64 28, .int .i64 0] 113)
  have := RdG.new KPr DPr ((w.alloc (.cells #[.int .u8 1, .int .u8 2, .int .u8 3, .int .u8 4] 5)).alloc (.cells #[.int .i64 1, .int .i64 28, .int .i64 0] 113)) [demo w] 111 (by simp [maxLen]) (fun x hx => by
    rw [List.mem_singleton.1 hx]
    exact ⟨⟨⟨by simp [demo], by simp [demo]⟩, by simp [demo], by simp [demo]⟩, h3, h2⟩)
  rw [show (KPr.row [demo w]).toArray = #[.int .i64 1, .int .i64 3, .slice (some ⟨w.heap.size, 0, none⟩) 4 4, .slice (some ⟨w.heap.size + 1, 0, none⟩) 1 1] from rfl] at this
  simpa using this

end Go.Proofs.YtpocehpejbnemaaDoor
