/-
  Slices of ints, and rows of slices of bytes of the call's own.
-/
import Derived.Test.YtnnbfhjbaagnkaaQZ0
import Derived.Test.YtnnbfhjbaagnkaaQZ3
namespace Go.Proofs.Ytnnbfhjbaagnkaa
open Go.RowKit Go.ChangeShapes Go.WideShapes
set_option linter.unusedVariables false

/-- The slice value reads as these ints. -/
structure Its (w : World) (p : Option Addr) (n c : Nat) (xs : List Int) : Prop where
  len : xs.length = n
  cap : n ≤ c
  big : c ≤ maxLen
  rng : ∀ x ∈ xs, -9223372036854775808 ≤ x ∧ x ≤ 9223372036854775807
  mem : 0 < n → ∃ b o, p = some ⟨b, o, none⟩ ∧ ∀ i, i < n → w.cell? ⟨b, o + i, none⟩ = some (.int .i64 (xs.getD i 0))
theorem Its.keep {w w' : World} {p : Option Addr} {n c : Nat} {xs : List Int} (h : Its w p n c xs) (hk : ∀ a v, w.cell? a = some v → w'.cell? a = some v) : Its w' p n c xs :=
  ⟨h.len, h.cap, h.big, h.rng, fun h0 => by
    obtain ⟨b, o, e, hc⟩ := h.mem h0
    exact ⟨b, o, e, fun i hi => hk _ _ (hc i hi)⟩⟩
theorem Its.below {w w' : World} {p : Option Addr} {n c : Nat} {xs : List Int} (h : Its w p n c xs) (hb : Below w.heap.size w w') : Its w' p n c xs := h.keep (cell_below hb)
theorem Its.le' {w : World} {p : Option Addr} {n c : Nat} {xs : List Int} (h : Its w p n c xs) : n ≤ 9223372036854775807 := by
  have h1 := h.cap
  have h2 := h.big
  unfold maxLen at h2
  omega
theorem Its.at_ {w : World} {p : Option Addr} {n c : Nat} {xs : List Int} (h : Its w p n c xs) (j : Nat) (hj : j < n) : ∃ b o, p = some ⟨b, o, none⟩ ∧ w.cell? ⟨b, o + j, none⟩ = some (.int .i64 (xs.getD j 0)) := by
  obtain ⟨b, o, e, hc⟩ := h.mem (by omega)
  exact ⟨b, o, e, hc j hj⟩
theorem Its.at_rng {w : World} {p : Option Addr} {n c : Nat} {xs : List Int} (h : Its w p n c xs) (j : Nat) : -9223372036854775808 ≤ xs.getD j 0 ∧ xs.getD j 0 ≤ 9223372036854775807 := by
  rw [List.getD_eq_getElem?_getD]
  rcases Nat.lt_or_ge j xs.length with hi | hi
  · rw [List.getElem?_eq_getElem hi]
    exact h.rng _ (List.getElem_mem hi)
  · rw [List.getElem?_eq_none hi]
    simp
theorem Its.nil (w : World) : Its w none 0 0 [] := ⟨rfl, Nat.le_refl _, Nat.zero_le _, (fun x hx => by simp at hx), (fun h => by omega)⟩

theorem bounds_i64' {n : Int} (h : (Lit.int .i64 n).wf = true) : -9223372036854775808 ≤ n ∧ n ≤ 9223372036854775807 := by
  simp [Lit.wf, IntKind.min, IntKind.max, IntKind.signed, IntKind.bits] at h
  omega
/-- An argument that is a slice of ints, opened, nil or not. -/
theorem opened_ints {H : Type} {enc : TypeId × Value → H} {P : Program} {t e : TypeId} (ht : P.underlying t = some (.slice e)) (he : P.underlying e = some (.int .i64)) (hc : P.cellsOf e = 1)
    {W : World} {r : Reach} {b0 : Nat} {v : Value} {d : DataW H} {q : List MemPlace} (hval : Value.okWide P W r b0 t v) (h0 : DataW.Trod enc P W 0 (fun _ => true) true t v d q) :
    ∃ p n c xs, v = .slice p n c ∧ Its W p n c xs := by
  obtain ⟨p, n, c, rfl⟩ := okWide_slice ht hval
  obtain ⟨fuel, hf⟩ := h0
  rcases open_ints ht he hc hf with ⟨hcs, hx⟩ | ⟨a, len', cap', zs, hcs, _, hl, hm, hall, hx, hcell, hwz⟩
  · simp [Value.cells] at hcs
    obtain ⟨rfl, rfl, rfl⟩ := hcs
    exact ⟨none, 0, 0, [], rfl, Its.nil _⟩
  · simp [Value.cells] at hcs
    obtain ⟨rfl, rfl, rfl⟩ := hcs
    simp only [if_true] at hall
    refine ⟨_, _, _, zs.take n, rfl, ⟨by simp; omega, hl, hm, fun x hx => bounds_i64' (hwz x (List.mem_of_mem_take hx)), fun hn => ?_⟩⟩
    have hp : 0 < zs.length := by omega
    obtain ⟨b, o, s⟩ := a
    obtain rfl : s = none := by simpa [Addr.add] using World.cell?_spot (hcell 0 hp)
    refine ⟨b, o, rfl, fun i hi => ?_⟩
    have := hcell i (by omega)
    rw [add_plain] at this
    rw [this]
    simp [List.getD_eq_getElem?_getD, List.getElem?_take_of_lt hi]

/-- A row of ints of the call's own. -/
def KIn : KindR Int where
  e := 3
  k := 1
  cs x := [.int .i64 x]
  len _ := rfl
  one x u hu := by
    simp at hu
    subst hu
    rfl
  pos := by decide
def NIn : NestR Int where
  ts := []
  ok _ _ x := -9223372036854775808 ≤ x ∧ x ≤ 9223372036854775807
  keep h _ _ := h
  mono h _ := h
theorem Try.infoInt : (Try.prog.info? 3).map (fun i => (i.zero, i.size, i.bytes)) = some (some (.int .i64 0), 1, 8) := by kernel_rfl
theorem knownIn : KnownR Try.prog KIn 51 8 := by
  refine ⟨Try.underlying51, ?_⟩
  obtain ⟨i0, hi, hz0, hz1, hz2⟩ := info_parts Try.infoInt
  exact ⟨i0, _, hi, hz0, hz1, hz2, rfl⟩
theorem row_in (l : List Int) (j : Nat) (hj : j < l.length) : (KIn.row l)[j]? = some (.int .i64 (l.getD j 0)) := by
  have := KIn.row_get l j hj 0 (.int .i64 l[j]) rfl
  simp only [KIn, Nat.mul_one, Nat.add_zero] at this
  rw [List.getD_eq_getElem?_getD, List.getElem?_eq_getElem hj]
  exact this
theorem RowG.its {w : World} {base : Nat} {v : Value} {l : List Int} (h : RowG KIn NIn w base v l) {n : Nat} (hn : l.length = n) : ∃ p c, v = .slice p n c ∧ Its w p n c l := by
  subst hn
  rcases Nat.eq_zero_or_pos l.length with h0 | h0
  · rcases h.own.2 with ⟨rfl, hz⟩ | ⟨g, cap, cur, rfl, hg, hh, hnc, hm, hs, ht⟩
    · exact ⟨none, 0, by rw [h0], rfl, by omega, by unfold maxLen; omega, h.ok, fun h => by omega⟩
    · exact ⟨_, _, rfl, rfl, hnc, hm, h.ok, fun h => by omega⟩
  · obtain ⟨g, c, e, hnc, hm, _, _, hc, _⟩ := h.at_ rfl h0
    exact ⟨_, _, e, rfl, hnc, hm, h.ok, fun _ => ⟨g, 0, rfl, fun i hi => by rw [Nat.zero_add]; exact hc i _ (row_in l i hi)⟩⟩

/-- An element of a list of bytes: where its bytes lie. -/
structure Bl where
  p : Option Addr
  n : Nat
  c : Nat
  xs : List Int
def KBl : KindR Bl where
  e := 22
  k := 1
  cs x := [.slice x.p x.n x.c]
  len _ := rfl
  one x u hu := by
    simp at hu
    subst hu
    rfl
  pos := by decide
def NBl : NestR Bl where
  ts := [5]
  ok w base x := Bod w base x.p x.n x.c x.xs
  keep h hg ho := h.grown hg (fun r hr => (ho r hr).imp id (fun h2 cur fz e => h2 cur _ fz e (by simp)))
  mono h hb := h.mono hb
def DBl : ReadN Bl where
  ok w x := Byt w x.p x.n x.c x.xs
  keep h hk := h.keep hk
theorem Try.infoBl : (Try.prog.info? 22).map (fun i => (i.zero, i.size, i.bytes)) = some (some (.slice none 0 0), 1, 24) := by kernel_rfl
theorem knownBl : KnownR Try.prog KBl 45 24 := by
  refine ⟨Try.underlying45, ?_⟩
  obtain ⟨i0, hi, hz0, hz1, hz2⟩ := info_parts Try.infoBl
  exact ⟨i0, _, hi, hz0, hz1, hz2, rfl⟩
theorem srcBl (w : World) (x : Bl) (T : TypeId) : SrcG KBl (w.alloc (.cells #[.slice x.p x.n x.c] T)) (some ⟨w.heap.size, 0, none⟩) 1 [x] := SrcG.new KBl w [x] T
theorem srcIn (w : World) (x : Int) (T : TypeId) : SrcG KIn (w.alloc (.cells #[.int .i64 x] T)) (some ⟨w.heap.size, 0, none⟩) 1 [x] := SrcG.new KIn w [x] T
theorem RowG.bls {w : World} {base : Nat} {v : Value} {l : List Bl} (h : RowG KBl NBl w base v l) {n : Nat} (hn : l.length = n) : ∃ p c, v = .slice p n c ∧ RdG KBl DBl w p n c l := h.rd hn (fun x hx => hx.byt)
theorem RdG.bl {w : World} {p : Option Addr} {n c : Nat} {l : List Bl} (h : RdG KBl DBl w p n c l) (j : Nat) (hj : j < l.length) : ∃ g, p = some ⟨g, 0, none⟩ ∧ w.cell? ⟨g, j, none⟩ = some (.slice l[j].p l[j].n l[j].c) ∧ Byt w l[j].p l[j].n l[j].c l[j].xs := by
  obtain ⟨g, e, hc, ho⟩ := h.cell j hj
  have := hc 0 _ rfl
  simp only [KBl, Nat.mul_one, Nat.add_zero] at this
  exact ⟨g, e, this, ho⟩
end Go.Proofs.Ytnnbfhjbaagnkaa
