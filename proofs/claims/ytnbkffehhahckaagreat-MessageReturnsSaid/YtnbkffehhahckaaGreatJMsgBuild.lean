/-
  message.build and message.Build of a message that was made: an error, and at most 8192 bytes.
-/
import Derived.Test.YtnbkffehhahckaaGreatJZ26
import Derived.Test.YtnbkffehhahckaaGreatJMkMsg
import Derived.Test.YtnbkffehhahckaaGreatJZ12
import Derived.Test.YtnbkffehhahckaaGreatJZ6
import Derived.Test.YtnbkffehhahckaaGreatJZ18
namespace Go.Proofs.YtnbkffehhahckaaGreat
open Go.RowKit
set_option linter.unusedVariables false
set_option linter.unusedSimpArgs false
def KRw : KindR RawP where
  e := 85
  k := 3
  cs := RawP.cells
  len _ := rfl
  one x u hu := by
    simp [RawP.cells] at hu
    rcases hu with rfl | rfl | rfl <;> rfl
  pos := by decide
def NRw : NestR RawP where
  ts := []
  ok _ _ _ := True
  keep _ _ _ := trivial
  mono _ _ := trivial
theorem row_raw (l : List RawP) : KRw.row l = rowC l := by
  induction l with
  | nil => rfl
  | cons x l ih => rw [KindR.row_cons, ih]; rfl
theorem knownRw : KnownR Tryz.prog KRw 75 40 := by
  refine ⟨Tryz.underlying75, ?_⟩
  obtain ⟨i0, hi, hz0, hz1, hz2⟩ := info_parts Tryz.infoRaw
  exact ⟨i0, _, hi, hz0, hz1, hz2, rfl⟩
theorem rdr_of {w : World} {base : Nat} {v : Value} {l : List RawP} {n : Nat} (h : RowG KRw NRw w base v l) (hn : l.length = n) (hb : BodR w l) : ∃ p c, v = .slice p n c ∧ RdR w p n c l := by
  have ho : OwnRw w base 85 v l := by
    have := h.own
    rw [row_raw] at this
    exact this
  subst hn
  rcases ho.2 with ⟨rfl, h0⟩ | ⟨g, cap, cur, rfl, hg, hh, hnc, hm, hs, ht⟩
  · exact ⟨none, 0, by rw [h0], rfl, by omega, by unfold maxLen; omega, fun h => by omega, hb⟩
  · refine ⟨_, _, rfl, rfl, hnc, hm, fun h0 => ⟨g, rfl, fun j u hj => ?_⟩, hb⟩
    have := World.ownsRow.cells ho (g := g) rfl j u hj
    rw [WideShapes.add_plain, Nat.zero_add] at this
    exact this
structure BSt (w : World) (v : Value) (l : List RawP) (wr : World) : Prop where
  bel : Below w.heap.size w wr
  row : RowG KRw NRw wr w.heap.size v l
  el : ∀ y ∈ l, ElemP (fun W => Byt W y.p y.n y.m y.b) wr w.heap.size v
theorem BSt.start (w : World) : BSt w (.slice none 0 0) [] w := ⟨Below.refl _ _, RowG.nil _ _ _ _, fun y hy => by cases hy⟩
theorem BSt.below {w : World} {v : Value} {l : List RawP} {wr wy : World} (h : BSt w v l wr) (hb : Below wr.heap.size wr wy) : BSt w v l wy :=
  ⟨h.bel.trans (hb.mono h.bel.size), h.row.below hb, fun y hy => (h.el y hy).below hb⟩
theorem BSt.app {w : World} {v v' : Value} {l : List RawP} {y : RawP} {wr wy : World} (h : BSt w v l wr) (he : ElemP (fun W => Byt W y.p y.n y.m y.b) wr w.heap.size v) (hrow : RowG KRw NRw wy w.heap.size v' (l ++ [y])) (hg : wr.grownBy wy v.ownBlock) (hq : ∀ q, v'.ownBlock = some q → v.ownBlock = some q ∨ wr.heap.size ≤ q) : BSt w v' (l ++ [y]) wy := by
  refine ⟨h.bel.grown hg h.bel.size (fun q e => (h.row.lt q e).1), hrow, fun z hz => ?_⟩
  rcases List.mem_append.1 hz with hz | hz
  · exact (h.el z hz).app hg hq
  · rw [List.mem_singleton.1 hz]
    exact he.app hg hq
theorem BSt.bods {w : World} {v : Value} {l : List RawP} {wr : World} (h : BSt w v l wr) : BodR wr l := fun y hy => (h.el y hy).out (Kpt.refl _ _)
theorem encC_rng (last : Int) : ∀ (l : List Raw), (∀ r ∈ l, ∀ z ∈ r.b, 0 ≤ z ∧ z ≤ 255) → ∀ z ∈ encC last l, 0 ≤ z ∧ z ≤ 255
  | [], _ => fun z hz => by cases hz
  | r :: l, h => by
    refine rng_append (rng_append (fun z hz => ?_) (rng_append (be_rng _ _) (h r (List.mem_cons_self ..)))) (encC_rng last l (fun y hy => h y (List.mem_cons_of_mem _ hy)))
    simp only [List.mem_cons, List.not_mem_nil, or_false] at hz
    rcases hz with rfl | rfl
    · omega
    · split <;> omega
theorem buildC_rng (l : List Raw) (last : Int) (h : ∀ r ∈ l, ∀ z ∈ r.b, 0 ≤ z ∧ z ≤ 255) : ∀ z ∈ (buildC l last).2.1, 0 ≤ z ∧ z ≤ 255 := by
  unfold buildC
  repeat' split
  all_goals first | exact encC_rng _ _ h | (intro z hz; cases hz)
theorem mwraps_no (k : Int) (hk : KindOk k) (w : World) : Calls Tryz.prog 31 #[.int .i64 k] w fun e w' => e = .returned (.bool false) ∧ w' = w := by
  have h1 : (k == 46) = false := by simp; unfold KindOk at hk; omega
  have h2 : (k == 53) = false := by simp; unfold KindOk at hk; omega
  clear hk
  go_enter Tryz.func31, Tryz.ntmps31
  go_wp2
  all_goals go_ret
  all_goals exact ⟨rfl, rfl⟩
end Go.Proofs.YtnbkffehhahckaaGreat
