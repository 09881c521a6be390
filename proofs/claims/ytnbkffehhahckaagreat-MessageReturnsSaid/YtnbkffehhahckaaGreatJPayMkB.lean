/-
  Codes.Payload, a type at a time.
-/
import Derived.Test.YtnbkffehhahckaaGreatJPayMk
import Derived.Test.YtnbkffehhahckaaGreatJMkAddr
import Derived.Deep.RegionLaw
import Derived.Deep.CutBlock
namespace Go.Proofs.YtnbkffehhahckaaGreat
open Go.RowKit
set_option linter.unusedVariables false
theorem next_pa {W w wr0 : World} {k : Nat} {x : Pv} (H : Hid (PyS W w wr0 k x)) (hk : k < w.heap.size) (wr : World) (h : PyS W w wr k x) (m : Int) (hm : 1 ≤ m ∧ m ≤ 9223372036854775807) :
    Calls Tryz.prog 13 #[.pointer (some ⟨k, 0, none⟩), .int .i64 m] wr fun e w' => ∃ r : Int, e = .returned (.int .i64 r) ∧ 0 ≤ r ∧ r < m ∧ PyS W w w' k x ∧ wr.grownBy w' (some k) := next_ps h hk m hm
theorem bytes_pa {W w wr0 : World} {k : Nat} {x : Pv} (H : Hid (PyS W w wr0 k x)) (hk : k < w.heap.size) (wr : World) (h : PyS W w wr k x) (n : Nat) (hn : n ≤ 100000) :
    Calls Tryz.prog 29 #[.pointer (some ⟨k, 0, none⟩), .int .i64 n] wr fun e w' => ∃ p c ys, e = .returned (.slice p n c) ∧ Bod w' (w.heap.size + 2) p n c ys ∧ PyS W w w' k x ∧ wr.grownBy w' (some k) := bytes_ps h hk n hn
theorem PyS.put {W w wx wy : World} {k : Nat} {x x' : Pv} (h : PyS W w wx k x) (hk : k < w.heap.size) (hb : W.heap.size ≤ w.heap.size) (hy : wx.grownBy wy (some (w.heap.size + 1))) (hS : PvIn wy (w.heap.size + 1) x') : PyS W w wy k x' :=
  ⟨h.cod.grown hy (by simp; omega) (by intro j hj; simp at hj; omega), grown_own h.gr hy (by intro j hj; simp at hj; omega), h.R.grown hy (by simp), hS, by have := h.ge; have := hy.size; omega⟩
theorem PvIn.setE {w : World} {g : Nat} {x : Pv} (h : PvIn w g x) (z : Int) (s : Sv) : PvIn ((w.setCell ⟨g, 2, none⟩ (.int .i64 z)).setCell ⟨g, 3, none⟩ (.slice s.p s.n s.c)) g { x with eg := z, ed := s } := by
  obtain ⟨c0, c1, c2, c3, c4, c5, c6, c7, c8, c9, c10, c11, c12, c13, c14, c15, fr⟩ := h
  exact ⟨by go_simp, by go_simp, by go_simp, by go_simp, by go_simp, by go_simp, by go_simp, by go_simp, by go_simp, by go_simp, by go_simp, by go_simp, by go_simp, by go_simp, by go_simp, by go_simp, fun j => by rw [World.frozen?_setCell, World.frozen?_setCell]; exact fr j⟩
theorem PvIn.setI {w : World} {g : Nat} {x : Pv} (h : PvIn w g x) (z : Int) (s : Sv) : PvIn ((w.setCell ⟨g, 4, none⟩ (.int .i64 z)).setCell ⟨g, 5, none⟩ (.slice s.p s.n s.c)) g { x with ik := z, id := s } := by
  obtain ⟨c0, c1, c2, c3, c4, c5, c6, c7, c8, c9, c10, c11, c12, c13, c14, c15, fr⟩ := h
  exact ⟨by go_simp, by go_simp, by go_simp, by go_simp, by go_simp, by go_simp, by go_simp, by go_simp, by go_simp, by go_simp, by go_simp, by go_simp, by go_simp, by go_simp, by go_simp, by go_simp, fun j => by rw [World.frozen?_setCell, World.frozen?_setCell]; exact fr j⟩
theorem PvIn.setA {w : World} {g : Nat} {x : Pv} (h : PvIn w g x) (z : Int) (s : Sv) : PvIn ((w.setCell ⟨g, 6, none⟩ (.int .i64 z)).setCell ⟨g, 7, none⟩ (.slice s.p s.n s.c)) g { x with am := z, ad := s } := by
  obtain ⟨c0, c1, c2, c3, c4, c5, c6, c7, c8, c9, c10, c11, c12, c13, c14, c15, fr⟩ := h
  exact ⟨by go_simp, by go_simp, by go_simp, by go_simp, by go_simp, by go_simp, by go_simp, by go_simp, by go_simp, by go_simp, by go_simp, by go_simp, by go_simp, by go_simp, by go_simp, by go_simp, fun j => by rw [World.frozen?_setCell, World.frozen?_setCell]; exact fr j⟩
theorem PvIn.setD {w : World} {g : Nat} {x : Pv} (h : PvIn w g x) (z : Int) (s : Sv) : PvIn ((w.setCell ⟨g, 12, none⟩ (.int .i64 z)).setCell ⟨g, 13, none⟩ (.slice s.p s.n s.c)) g { x with dp := z, ds := s } := by
  obtain ⟨c0, c1, c2, c3, c4, c5, c6, c7, c8, c9, c10, c11, c12, c13, c14, c15, fr⟩ := h
  exact ⟨by go_simp, by go_simp, by go_simp, by go_simp, by go_simp, by go_simp, by go_simp, by go_simp, by go_simp, by go_simp, by go_simp, by go_simp, by go_simp, by go_simp, by go_simp, by go_simp, fun j => by rw [World.frozen?_setCell, World.frozen?_setCell]; exact fr j⟩
theorem PvIn.setP {w : World} {g : Nat} {x : Pv} (h : PvIn w g x) (z : Int) (s : Sv) : PvIn ((w.setCell ⟨g, 8, none⟩ (.int .i64 z)).setCell ⟨g, 9, none⟩ (.slice s.p s.n s.c)) g { x with np := z, ns := s } := by
  obtain ⟨c0, c1, c2, c3, c4, c5, c6, c7, c8, c9, c10, c11, c12, c13, c14, c15, fr⟩ := h
  exact ⟨by go_simp, by go_simp, by go_simp, by go_simp, by go_simp, by go_simp, by go_simp, by go_simp, by go_simp, by go_simp, by go_simp, by go_simp, by go_simp, by go_simp, by go_simp, by go_simp, fun j => by rw [World.frozen?_setCell, World.frozen?_setCell]; exact fr j⟩
theorem PvIn.setN {w : World} {g : Nat} {x : Pv} (h : PvIn w g x) (a t : Int) (s d : Sv) : PvIn ((((w.setCell ⟨g, 8, none⟩ (.int .i64 a)).setCell ⟨g, 9, none⟩ (.slice s.p s.n s.c)).setCell ⟨g, 10, none⟩ (.int .i64 t)).setCell ⟨g, 11, none⟩ (.slice d.p d.n d.c)) g { x with np := a, ns := s, nt := t, nd := d } := by
  obtain ⟨c0, c1, c2, c3, c4, c5, c6, c7, c8, c9, c10, c11, c12, c13, c14, c15, fr⟩ := h
  exact ⟨by go_simp, by go_simp, by go_simp, by go_simp, by go_simp, by go_simp, by go_simp, by go_simp, by go_simp, by go_simp, by go_simp, by go_simp, by go_simp, by go_simp, by go_simp, by go_simp, fun j => by rw [World.frozen?_setCell, World.frozen?_setCell, World.frozen?_setCell, World.frozen?_setCell]; exact fr j⟩
theorem byt_at (w w' : World) (xs : List Int) (b : Nat) (hl : xs.length ≤ 1000) (hr : ∀ x ∈ xs, 0 ≤ x ∧ x ≤ 255) (hc : ∀ i (h : i < xs.length), w'.cell? ⟨b, i, none⟩ = some (.int .u8 xs[i])) : Byt w' (some ⟨b, 0, none⟩) xs.length xs.length xs :=
  ⟨rfl, Nat.le_refl _, by unfold maxLen; omega, hr, fun hn => ⟨b, 0, rfl, fun i hi => by
    rw [Nat.zero_add, hc i hi]
    simp [List.getD_eq_getElem?_getD, List.getElem?_eq_getElem hi]⟩⟩
theorem two_sb (w w' : World) (k : Nat) (hk : k < w.heap.size) (hg : (((w.alloc (.cells #[.int .u8 1, .int .u8 2, .int .u8 3, .int .u8 4] 5)).alloc (.cells #[.int .u8 1, .int .u8 2, .int .u8 3, .int .u8 5] 5)).alloc (.cells #[.slice (some ⟨w.heap.size, 0, none⟩) 4 4, .slice (some ⟨w.heap.size + 1, 0, none⟩) 4 4] 22)).grownBy w' (some k)) (base : Nat) (hb : base ≤ w.heap.size) :
    ∀ w'', Kpt w' w'' base → RdG KSb DSb w'' (some ⟨w.heap.size + 1 + 1, 0, none⟩) 2 2 [⟨some ⟨w.heap.size, 0, none⟩, 4, 4, [1, 2, 3, 4]⟩, ⟨some ⟨w.heap.size + 1, 0, none⟩, 4, 4, [1, 2, 3, 5]⟩] := by
  intro w'' hk2
  have key : ∀ b j v, w.heap.size ≤ b → (((w.alloc (.cells #[.int .u8 1, .int .u8 2, .int .u8 3, .int .u8 4] 5)).alloc (.cells #[.int .u8 1, .int .u8 2, .int .u8 3, .int .u8 5] 5)).alloc (.cells #[.slice (some ⟨w.heap.size, 0, none⟩) 4 4, .slice (some ⟨w.heap.size + 1, 0, none⟩) 4 4] 22)).cell? ⟨b, j, none⟩ = some v → w''.cell? ⟨b, j, none⟩ = some v := fun b j v hbb h => hk2 _ _ (by show base ≤ b; omega) (hg.cell h (by simp; omega))
  have b1 : Byt w'' (some ⟨w.heap.size, 0, none⟩) 4 4 [1, 2, 3, 4] := byt_at w w'' [1, 2, 3, 4] _ (by decide) (by decide) (fun i hi => key _ _ _ (by omega) (by
    have : i = 0 ∨ i = 1 ∨ i = 2 ∨ i = 3 := by simp at hi; omega
    rcases this with rfl | rfl | rfl | rfl <;> go_simp))
  have b2 : Byt w'' (some ⟨w.heap.size + 1, 0, none⟩) 4 4 [1, 2, 3, 5] := byt_at w w'' [1, 2, 3, 5] _ (by decide) (by decide) (fun i hi => key _ _ _ (by omega) (by
    have : i = 0 ∨ i = 1 ∨ i = 2 ∨ i = 3 := by simp at hi; omega
    rcases this with rfl | rfl | rfl | rfl <;> go_simp))
  refine ⟨rfl, Nat.le_refl _, by unfold maxLen; omega, fun _ => ⟨_, rfl, fun j u hj => key _ _ _ (by omega) ?_⟩, fun x hx => ?_⟩
  · have hj' : ([.slice (some ⟨w.heap.size, 0, none⟩) 4 4, .slice (some ⟨w.heap.size + 1, 0, none⟩) 4 4] : List Value)[j]? = some u := hj
    have : j = 0 ∨ j = 1 := by have := (List.getElem?_eq_some_iff.1 hj').1; simp at this; omega
    rcases this with rfl | rfl
    all_goals
      simp at hj'
      subst hj'
      go_simp
  · simp at hx
    rcases hx with rfl | rfl
    · exact b1
    · exact b2
theorem lst34 (j : Nat) (hj : j < 2) : ∃ t : Int, (#[Value.int .i64 31, .int .i64 1024] : Array Value)[j]? = some (.int .i64 t) ∧ ([Value.int .i64 31, .int .i64 1024] : List Value)[j]? = some (.int .i64 t) ∧ 0 ≤ t ∧ t ≤ 65535 ∧ (t = 31 ∨ t = 1024) := by
  have : j = 0 ∨ j = 1 := by omega
  rcases this with rfl | rfl
  all_goals exact ⟨_, rfl, rfl, by omega, by omega, by omega⟩
theorem lst35 (j : Nat) (hj : j < 3) : ∃ t : Int, (#[Value.int .i64 2, .int .i64 3, .int .i64 11] : Array Value)[j]? = some (.int .i64 t) ∧ ([Value.int .i64 2, .int .i64 3, .int .i64 11] : List Value)[j]? = some (.int .i64 t) ∧ 0 ≤ t ∧ t ≤ 65535 ∧ (t = 2 ∨ t = 3 ∨ t = 11) := by
  have : j = 0 ∨ j = 1 ∨ j = 2 := by omega
  rcases this with rfl | rfl | rfl
  all_goals exact ⟨_, rfl, rfl, by omega, by omega, by omega⟩
theorem lst39 (j : Nat) (hj : j < 2) : ∃ t : Int, (#[Value.int .i64 2, .int .i64 14] : Array Value)[j]? = some (.int .i64 t) ∧ ([Value.int .i64 2, .int .i64 14] : List Value)[j]? = some (.int .i64 t) ∧ 0 ≤ t ∧ t ≤ 65535 ∧ (t = 2 ∨ t = 14) := by
  have : j = 0 ∨ j = 1 := by omega
  rcases this with rfl | rfl
  all_goals exact ⟨_, rfl, rfl, by omega, by omega, by omega⟩
theorem lst41 (j : Nat) (hj : j < 5) : ∃ t : Int, (#[Value.int .i64 14, .int .i64 16390, .int .i64 16388, .int .i64 24, .int .i64 16396] : Array Value)[j]? = some (.int .i64 t) ∧ ([Value.int .i64 14, .int .i64 16390, .int .i64 16388, .int .i64 24, .int .i64 16396] : List Value)[j]? = some (.int .i64 t) ∧ 0 ≤ t ∧ t ≤ 65535 ∧ (t = 14 ∨ t = 16390 ∨ t = 16388 ∨ t = 24 ∨ t = 16396) := by
  have : j = 0 ∨ j = 1 ∨ j = 2 ∨ j = 3 ∨ j = 4 := by omega
  rcases this with rfl | rfl | rfl | rfl | rfl
  all_goals exact ⟨_, rfl, rfl, by omega, by omega, by omega⟩
end Go.Proofs.YtnbkffehhahckaaGreat
