/-
  Plain words for slices of bytes in the model's memory, whatever the program: what it means that a slice value reads as a list of numbers, and that this stays so while a call only adds memory of its own.
  A list of choices: what its methods return is a number in range, and they write nothing but the list's own place.
  A list of choices: its making.
  A list of choices: an int; ints that lie in a block; growing worlds.
  Plain mathematics, no program: selectors as sets of packets; their meet; who lies inside whom.
-/
import Derived.Test.YtnbkffehhahckaaGreatRows
import Derived.Test.YtnbkffehhahckaaGreatJNum
import Derived.WalkKit
import Derived.ProofKit
import Derived.SizedLaws
import Derived.Deep.Draws
import Derived.Lib.SliceRun
import Derived.Deep.QuietTactic
import Derived.BigQuiet
namespace Go.Proofs.YtnbkffehhahckaaGreat
open Go.RowKit Go.ChangeShapes Go.WideShapes
theorem hidden {p : Prop} (h : p) : Hid p := h
def InMem (w : World) (p : Option Addr) (xs : List Int) : Prop :=
  0 < xs.length → ∃ b o, p = some ⟨b, o, none⟩ ∧ ∀ i, i < xs.length → w.cell? ⟨b, o + i, none⟩ = some (.int .u8 (xs.getD i 0))
structure Byt (w : World) (p : Option Addr) (n c : Nat) (xs : List Int) : Prop where
  len : xs.length = n
  cap : n ≤ c
  big : c ≤ maxLen
  rng : ∀ x ∈ xs, 0 ≤ x ∧ x ≤ 255
  mem : InMem w p xs
theorem rng_getD {xs : List Int} (h : ∀ x ∈ xs, 0 ≤ x ∧ x ≤ 255) (i : Nat) : 0 ≤ xs.getD i 0 ∧ xs.getD i 0 ≤ 255 := by
  rw [List.getD_eq_getElem?_getD]
  rcases Nat.lt_or_ge i xs.length with hi | hi
  · rw [List.getElem?_eq_getElem hi]
    exact h _ (List.getElem_mem hi)
  · rw [List.getElem?_eq_none hi]
    simp
theorem rng_take {xs : List Int} (h : ∀ x ∈ xs, 0 ≤ x ∧ x ≤ 255) (k : Nat) : ∀ x ∈ xs.take k, 0 ≤ x ∧ x ≤ 255 := fun x hx => h x (List.mem_of_mem_take hx)
theorem rng_drop {xs : List Int} (h : ∀ x ∈ xs, 0 ≤ x ∧ x ≤ 255) (k : Nat) : ∀ x ∈ xs.drop k, 0 ≤ x ∧ x ≤ 255 := fun x hx => h x (List.mem_of_mem_drop hx)
theorem rng_append {xs ys : List Int} (h : ∀ x ∈ xs, 0 ≤ x ∧ x ≤ 255) (k : ∀ x ∈ ys, 0 ≤ x ∧ x ≤ 255) : ∀ x ∈ xs ++ ys, 0 ≤ x ∧ x ≤ 255 := fun x hx => (List.mem_append.1 hx).elim (h x) (k x)
theorem InMem.nil (w : World) (p : Option Addr) : InMem w p [] := fun h => absurd h (by simp)
theorem InMem.keep {w w' : World} {p : Option Addr} {xs : List Int} (h : InMem w p xs) (hk : ∀ a v, w.cell? a = some v → w'.cell? a = some v) : InMem w' p xs := fun hn => by
  obtain ⟨b, o, e, hc⟩ := h hn
  exact ⟨b, o, e, fun i hi => hk _ _ (hc i hi)⟩
theorem Byt.keep {w w' : World} {p : Option Addr} {n c : Nat} {xs : List Int} (h : Byt w p n c xs) (hk : ∀ a v, w.cell? a = some v → w'.cell? a = some v) : Byt w' p n c xs :=
  ⟨h.len, h.cap, h.big, h.rng, h.mem.keep hk⟩
theorem cell_below {w w' : World} (hb : Below w.heap.size w w') (a : Addr) (v : Value) (h : w.cell? a = some v) : w'.cell? a = some v :=
  (hb.cell (World.block_lt_of_cell? w a h)).trans h
theorem Byt.below {w w' : World} {p : Option Addr} {n c : Nat} {xs : List Int} (h : Byt w p n c xs) (hb : Below w.heap.size w w') : Byt w' p n c xs := h.keep (cell_below hb)
theorem Byt.alloc {w : World} {p : Option Addr} {n c : Nat} {xs : List Int} (h : Byt w p n c xs) (o : Obj) : Byt (w.alloc o) p n c xs := h.below ((Below.refl _ _).alloc (Nat.le_refl _) o)
theorem Byt.le {w : World} {p : Option Addr} {n c : Nat} {xs : List Int} (h : Byt w p n c xs) : n ≤ 9223372036854775807 := by
  have h1 := h.cap
  have h2 := h.big
  unfold maxLen at h2
  omega
theorem Byt.at_ {w : World} {p : Option Addr} {n c : Nat} {xs : List Int} (h : Byt w p n c xs) (hn : 0 < n) :
    ∃ b o, p = some ⟨b, o, none⟩ ∧ ∀ i, i < n → w.cell? ⟨b, o + i, none⟩ = some (.int .u8 (xs.getD i 0)) := by
  obtain ⟨b, o, e, hc⟩ := h.mem (by have := h.len; omega)
  exact ⟨b, o, e, fun i hi => hc i (by have := h.len; omega)⟩
theorem Byt.lt {w : World} {b o n c : Nat} {xs : List Int} (h : Byt w (some ⟨b, o, none⟩) n c xs) (hn : 0 < n) : b < w.heap.size := by
  obtain ⟨b', o', e, hc⟩ := h.at_ hn
  injection e with e
  injection e with e1 e2
  subst e1
  exact World.block_lt_of_cell? w _ (hc 0 hn)
theorem Byt.nil (w : World) (p : Option Addr) (c : Nat) (hc : c ≤ maxLen) : Byt w p 0 c [] := ⟨rfl, Nat.zero_le _, hc, fun _ h => by simp at h, InMem.nil _ _⟩
theorem Byt.part {w : World} {p : Option Addr} {n c : Nat} {xs : List Int} (h : Byt w p n c xs) (i j : Nat) (hij : i ≤ j) (hj : j ≤ n) :
    Byt w (if c = i then p else p.map (·.add i)) (j - i) (c - i) ((xs.take j).drop i) := by
  have hl := h.len
  have hcap := h.cap
  refine ⟨by simp; omega, by omega, by have := h.big; omega, rng_drop (rng_take h.rng _) _, fun hn => ?_⟩
  have hn' : i < j := by simp at hn; omega
  obtain ⟨b, o, rfl, hc⟩ := h.mem (by omega)
  rw [if_neg (by omega)]
  refine ⟨b, o + i, ?_, fun k hk => ?_⟩
  · simp [Addr.add]
  · have hk' : i + k < xs.length := by simp at hk; omega
    have := hc (i + k) hk'
    rw [Nat.add_assoc, this]
    congr 2
    rw [List.getD_eq_getElem?_getD, List.getD_eq_getElem?_getD, List.getElem?_drop, List.getElem?_take_of_lt (by simp at hk; omega)]
theorem Byt.front {w : World} {p : Option Addr} {n c : Nat} {xs : List Int} (h : Byt w p n c xs) (j : Nat) (hj : j ≤ n) : Byt w p j c (xs.take j) := by
  have hl := h.len
  refine ⟨by simp; omega, by have := h.cap; omega, h.big, rng_take h.rng _, fun hn => ?_⟩
  obtain ⟨b, o, e, hc⟩ := h.at_ (by simp at hn; omega)
  refine ⟨b, o, e, fun i hi => ?_⟩
  have hi' : i < j := by simp at hi; omega
  rw [hc i (by omega)]
  simp [List.getD_eq_getElem?_getD, List.getElem?_take_of_lt hi']
theorem Byt.of_own {w : World} {base : Nat} {e : TypeId} {v : Value} {n : Nat} {xs : List Int} (h : w.ownsRow base e 1 v n (xs.map (Value.int .u8))) (hr : ∀ x ∈ xs, 0 ≤ x ∧ x ≤ 255) :
    ∃ p c, v = .slice p n c ∧ Byt w p n c xs := by
  have hl : xs.length = n := by simpa using h.1
  rcases h.2 with ⟨rfl, rfl⟩ | ⟨g, cap, cur, rfl, hg, hh, hn, hc, hs, ht⟩
  · obtain rfl : xs = [] := List.eq_nil_of_length_eq_zero hl
    exact ⟨none, 0, rfl, Byt.nil _ _ _ (Nat.zero_le _)⟩
  · refine ⟨some ⟨g, 0, none⟩, cap, rfl, hl, hn, hc, hr, fun hn' => ⟨g, 0, rfl, fun i hi => ?_⟩⟩
    rw [Nat.zero_add, h.cellAt i (by omega)]
    simp [List.getD_eq_getElem?_getD, List.getElem?_eq_getElem hi]
theorem Byt.src {w : World} {a : Addr} {n c : Nat} {xs : List Int} (h : Byt w (some a) n c xs) (j : Nat) (u : Value) (hj : (xs.map (Value.int .u8))[j]? = some u) : w.cell? (a.add j) = some u := by
  have hl : j < xs.length := by have := (List.getElem?_eq_some_iff.1 hj).1; simpa using this
  obtain ⟨b, o, e, hc⟩ := h.mem (by omega)
  injection e with e
  subst e
  have : (⟨b, o, none⟩ : Addr).add j = ⟨b, o + j, none⟩ := by unfold Addr.add; split <;> simp_all
  rw [this, hc j hl]
  simp [List.getD_eq_getElem?_getD, List.getElem?_eq_getElem hl] at hj ⊢
  exact hj
theorem u8_one (xs : List Int) : ∀ u ∈ xs.map (Value.int .u8), u.oneCell' = true := by
  intro u hu
  obtain ⟨x, _, rfl⟩ := List.mem_map.1 hu
  rfl
theorem bounds_u8' {n : Int} (h : (Lit.int .u8 n).wf = true) : 0 ≤ n ∧ n ≤ 255 := by
  simp [Lit.wf, IntKind.min, IntKind.max, IntKind.signed, IntKind.bits] at h
  omega
theorem opened {H : Type} {enc : TypeId × Value → H} {P : Program} {t e : TypeId} (ht : P.underlying t = some (.slice e)) (he : P.underlying e = some (.int .u8)) (hc : P.cellsOf e = 1) (hb : P.bytesOf e = 1)
    {W : World} {r : Reach} {b0 : Nat} {v : Value} {d : DataW H} {q : List MemPlace} {ts : List TypeId} {ds : List (DataW H)} (j : Nat) (htj : ts[j]? = some t) (hdj : ds[j]? = some d)
    (hval : Value.okWide P W r b0 t v) (h0 : DataW.Trod enc P W 0 (fun _ => true) true t v d q) (hz : (DataW.weightsEach P ts ds).all (· ≤ reachBytes) = true) :
    ∃ p n c xs, v = .slice p n c ∧ Byt W p n c xs ∧ c ≤ 140737488351232 := by
  obtain ⟨p, n, c, rfl⟩ := okWide_slice ht hval
  obtain ⟨fuel, hf⟩ := h0
  rcases open_ints ht he hc hf with ⟨hcs, hx⟩ | ⟨a, len', cap', zs, hcs, _, hl, hm, hall, hx, hcell, hwz⟩
  · simp [Value.cells] at hcs
    obtain ⟨rfl, rfl, rfl⟩ := hcs
    exact ⟨none, 0, 0, [], rfl, Byt.nil _ _ _ (Nat.zero_le _), Nat.zero_le _⟩
  · simp [Value.cells] at hcs
    obtain ⟨rfl, rfl, rfl⟩ := hcs
    simp only [Prod.mk.injEq] at hx
    obtain ⟨rfl, rfl⟩ := hx
    simp only [if_true] at hall
    have hsz := sized_slice hz (j := j) (t := t) (e := e) htj hdj ht
    rw [hb] at hsz
    simp only [lits, List.length_map, List.length_take, List.length_drop, reachBytes] at hsz
    refine ⟨_, _, _, zs.take n, rfl, ⟨by simp; omega, hl, hm, fun x hx => bounds_u8' (hwz x (List.mem_of_mem_take hx)), fun hn => ?_⟩, by omega⟩
    have hp : 0 < zs.length := by simp at hn; omega
    obtain ⟨b, o, s⟩ := a
    obtain rfl : s = none := by simpa [Addr.add] using World.cell?_spot (hcell 0 hp)
    refine ⟨b, o, rfl, fun i hi => ?_⟩
    have hi' : i < n := by simp at hi; omega
    have := hcell i (by omega)
    rw [add_plain] at this
    rw [this]
    simp [List.getD_eq_getElem?_getD, List.getElem?_take_of_lt hi']
theorem drew_below {w w' : World} {B : Nat} (h : ∃ r, w' = w.drewN r) : Below B w w' := by
  obtain ⟨r, rfl⟩ := h
  exact ⟨rfl, rfl, rfl, Nat.le_refl _, fun _ _ => rfl⟩
end Go.Proofs.YtnbkffehhahckaaGreat

namespace Go.Proofs.YtnbkffehhahckaaGreat
open Go.RowKit
set_option linter.unusedVariables false
structure Cod (W w : World) (k : Nat) : Prop where
  base : W.heap.size ≤ k
  bel : Below W.heap.size W w
  free : ∀ j, w.frozen? ⟨k, j, none⟩ = false
  list : ∃ p n c xs, ∃ t : Nat, Byt W p n c xs ∧ t ≤ n ∧ w.cell? ⟨k, 0, none⟩ = some (.slice p n c) ∧ w.cell? ⟨k, 1, none⟩ = some (.int .i64 t)
theorem grown_trans {a b c : World} {row : Option Nat} (h : a.grownBy b row) (k : b.grownBy c row) : a.grownBy c row :=
  ⟨k.os.trans h.os, k.tape.trans h.tape, k.output.trans h.output, Nat.le_trans h.size k.size, fun i hi hne => (k.block i (Nat.lt_of_lt_of_le hi h.size) hne).trans (h.block i hi hne)⟩
theorem grown_refl (w : World) (row : Option Nat) : w.grownBy w row := ⟨rfl, rfl, rfl, Nat.le_refl _, fun _ _ _ => rfl⟩
theorem grown_of_below {w w' : World} (h : Below w.heap.size w w') (row : Option Nat) : w.grownBy w' row := ⟨h.os, h.tape, h.output, h.size, fun i hi _ => h.block i hi⟩
theorem grown_drewN (w : World) (r : Nat) (row : Option Nat) : w.grownBy (w.drewN r) row := ⟨rfl, rfl, rfl, Nat.le_refl _, fun _ _ _ => rfl⟩
theorem grown_set (w : World) (k j : Nat) (v : Value) : w.grownBy (w.setCell ⟨k, j, none⟩ v) (some k) :=
  ⟨rfl, rfl, rfl, by simp [World.setCell], fun i hi hne => Below.heap_setCell _ _ _ _ (by simp at hne; exact hne)⟩
theorem Cod.lt {W w : World} {k : Nat} (h : Cod W w k) : k < w.heap.size := by
  obtain ⟨p, n, c, xs, t, _, _, h0, _⟩ := h.list
  exact World.block_lt_of_cell? w _ h0
theorem Cod.grown {W w w' : World} {k : Nat} {row : Option Nat} (h : Cod W w k) (hg : w.grownBy w' row) (hne : some k ≠ row) (hr : ∀ j, row = some j → W.heap.size ≤ j) : Cod W w' k := by
  have hk := h.lt
  obtain ⟨p, n, c, xs, t, hb, ht, h0, h1⟩ := h.list
  exact ⟨h.base, h.bel.grown hg h.bel.size hr, fun j => (World.frozen?_of_block (a := ⟨k, j, none⟩) (hg.block k hk hne)).trans (h.free j), p, n, c, xs, t, hb, ht, hg.cell h0 hne, hg.cell h1 hne⟩
theorem Cod.below {W w w' : World} {k : Nat} (h : Cod W w k) (hb : Below w.heap.size w w') : Cod W w' k := h.grown (row := none) (grown_of_below hb none) (by simp) (by simp)
theorem left_at (k : Nat) (p : Option Addr) (n c t : Nat) (w : World) (h0 : w.cell? ⟨k, 0, none⟩ = some (.slice p n c)) (h1 : w.cell? ⟨k, 1, none⟩ = some (.int .i64 t)) (hn : n ≤ 9223372036854775807) :
    Calls Tryz.prog 26 #[.pointer (some ⟨k, 0, none⟩)] w fun e w' => e = .returned (.bool (decide (t < n))) ∧ ∃ r, w' = w.drewN r := by
  go_enter Tryz.func26, Tryz.ntmps26
  go_wp2
  go_quiet (fail)
  go_wp2
  go_ret
  refine ⟨?_, _, rfl⟩
  simp
set_option maxHeartbeats 400000 in
theorem next_any (W w : World) (k : Nat) (h : Cod W w k) (m : Int) (hm : 1 ≤ m ∧ m ≤ 9223372036854775807) :
    Calls Tryz.prog 13 #[.pointer (some ⟨k, 0, none⟩), .int .i64 m] w fun e w' => ∃ r : Int, e = .returned (.int .i64 r) ∧ 0 ≤ r ∧ r < m ∧ Cod W w' k ∧ w.grownBy w' (some k) := by
  obtain ⟨p, n, c, xs, t, hb, ht, h0, h1⟩ := h.list
  have hle := hb.le
  by_cases hlt : t < n
  · obtain ⟨b, o, rfl, hc⟩ := hb.at_ (by omega)
    have hbl := hb.lt (by omega)
    have hbase := h.base
    have hfr := h.free 1
    have hne : b ≠ k := by omega
    have hx := (cell_below h.bel _ _ (hc t hlt))
    have hr := rng_getD hb.rng t
    generalize xs.getD t 0 = x at hx hr
    have H := hidden h
    have HB := hidden hb
    have e2 : x.tmod m = x % m := Int.tmod_eq_emod_of_nonneg hr.1
    have e3 := Int.emod_nonneg x (show m ≠ 0 by omega)
    have e4 := Int.emod_lt_of_pos x (show 0 < m by omega)
    clear h hb hc
    go_enter Tryz.func13, Tryz.ntmps13
    go_wp2_with (go_at_call 26; refine (left_at k _ _ _ t _ h0 h1 (by omega)).mono ?_; rintro e w' ⟨rfl, r, rfl⟩)
    obtain ⟨w1, hw1⟩ : ∃ v, v = (w.drewN r).setCell ⟨k, 1, none⟩ (.int .i64 (t + 1)) := ⟨_, rfl⟩
    rw [← hw1]
    have g0 : w1.cell? ⟨k, 0, none⟩ = some (.slice (some ⟨b, o, none⟩) n c) := by rw [hw1]; go_simp
    have g1 : w1.cell? ⟨k, 1, none⟩ = some (.int .i64 (t + 1)) := by rw [hw1]; go_simp
    have gx : w1.cell? ⟨b, o + t, none⟩ = some (.int .u8 x) := by rw [hw1]; go_simp
    have gf : ∀ j, w1.frozen? ⟨k, j, none⟩ = false := fun j => by rw [hw1, World.frozen?_setCell]; exact H.out.free j
    have gg : w.grownBy w1 (some k) := by rw [hw1]; exact grown_trans (grown_drewN w r _) (grown_set _ k 1 _)
    have HG := hidden gg
    have HF := hidden gf
    have HW := hidden (show Cod W w1 k from ⟨hbase, H.out.bel.grown gg H.out.bel.size (by intro j hj; simp at hj; omega), gf, _, _, _, _, t + 1, HB.out, by omega, g0, g1⟩)
    clear h0 h1 hx hw1 hfr gg gf
    go_quiet (fail)
    go_wp2
    go_ret
    exact ⟨x % m, rfl, e3, e4, HW.out.below (drew_below ⟨_, rfl⟩), grown_trans HG.out (grown_drewN _ _ _)⟩
  · have H := hidden h
    clear h hb
    go_enter Tryz.func13, Tryz.ntmps13
    go_wp2_with (go_at_call 26; refine (left_at k _ _ _ t _ h0 h1 (by omega)).mono ?_; rintro e w' ⟨rfl, r, rfl⟩)
    go_ret
    exact ⟨0, rfl, by omega, by omega, H.out.below (drew_below ⟨_, rfl⟩), grown_drewN _ _ _⟩
end Go.Proofs.YtnbkffehhahckaaGreat

namespace Go.Proofs.YtnbkffehhahckaaGreat
open Go.RowKit
set_option linter.unusedVariables false
theorem Cod.alloc {W w : World} {k : Nat} (h : Cod W w k) (o : Obj) : Cod W (w.alloc o) k := h.below ((Below.refl _ _).alloc (Nat.le_refl _) o)
theorem Cod.set {W w : World} {k : Nat} (h : Cod W w k) (g j : Nat) (v : Value) (hg : W.heap.size ≤ g) (hne : g ≠ k) : Cod W (w.setCell ⟨g, j, none⟩ v) k :=
  h.grown (grown_set w g j v) (by simp; omega) (by simp; omega)
set_option maxHeartbeats 400000 in
theorem new_any (W : World) (p : Option Addr) (n c : Nat) (xs : List Int) (w : World) (h : Byt W p n c xs) (hb : Below W.heap.size W w) (m : Nat) (hm : m ≤ 9223372036854775807) :
    Calls Tryz.prog 5 #[.slice p n c, .int .i64 m] w fun e w' => e = .returned (.pointer (some ⟨w.heap.size, 0, none⟩)) ∧ Cod W w' w.heap.size ∧ Below w.heap.size w w' := by
  have hn := h.le
  have hcap := h.cap
  have hbig := h.big
  have hs := hb.size
  unfold maxLen at hbig
  have key : ∀ (w' : World) p n c xs, Byt W p n c xs → w' = w.alloc (.cells #[.slice p n c, .int .i64 0] 60) → Cod W w' w.heap.size ∧ Below w.heap.size w w' := by
    intro w' p n c xs hx hw
    have hbb := (Below.refl w.heap.size w).alloc (Nat.le_refl _) (.cells #[.slice p n c, .int .i64 0] 60)
    subst hw
    refine ⟨⟨hs, hb.alloc hs _, fun j => by go_simp, p, n, c, xs, 0, hx, Nat.zero_le _, by go_simp, by go_simp⟩, hbb⟩
  have HK := hidden key
  have H := hidden h
  clear key h hb
  by_cases hlt : m < n
  · go_enter Tryz.func5, Tryz.ntmps5
    go_wp2
    go_ret
    exact ⟨rfl, HK.out _ _ _ _ _ (H.out.front m (by omega)) rfl⟩
  · go_enter Tryz.func5, Tryz.ntmps5
    go_wp2
    go_ret
    exact ⟨rfl, HK.out _ _ _ _ _ H.out rfl⟩
end Go.Proofs.YtnbkffehhahckaaGreat

namespace Go.Proofs.YtnbkffehhahckaaGreat
open Go.RowKit
set_option linter.unusedVariables false
theorem grown_set_new {a b : World} {row : Option Nat} (h : a.grownBy b row) (g j : Nat) (v : Value) (hg : a.heap.size ≤ g) : a.grownBy (b.setCell ⟨g, j, none⟩ v) row :=
  ⟨h.os, h.tape, h.output, by simp [World.setCell]; exact h.size, fun i hi hne => (Below.heap_setCell _ _ _ _ (by simp; omega)).trans (h.block i hi hne)⟩
theorem grown_alloc_new {a b : World} {row : Option Nat} (h : a.grownBy b row) (o : Obj) : a.grownBy (b.alloc o) row := grown_trans h (World.grownBy_alloc b o row)
theorem grown_own {a b c : World} {row row' : Option Nat} (h : a.grownBy b row) (hg : b.grownBy c row') (hr : ∀ j, row' = some j → a.heap.size ≤ j) : a.grownBy c row :=
  ⟨hg.os.trans h.os, hg.tape.trans h.tape, hg.output.trans h.output, Nat.le_trans h.size hg.size, fun i hi hne => (hg.block i (Nat.lt_of_lt_of_le hi h.size) (fun e => by have := hr i e.symm; omega)).trans (h.block i hi hne)⟩
theorem ints_at (w : World) (l : List Int) (T : TypeId) (j : Nat) (hj : j < l.length) : (w.alloc (.cells (l.map (Value.int .i64)).toArray T)).cell? ⟨w.heap.size, j, none⟩ = some (.int .i64 (l.getD j 0)) := by
  rw [World.cell?_alloc_at _ _ _ _ rfl]
  simp [List.getD_eq_getElem?_getD, List.getElem?_eq_getElem hj]
end Go.Proofs.YtnbkffehhahckaaGreat

namespace Go.Proofs.YtnbkffehhahckaaGreat
open Go.RowKit
set_option linter.unusedVariables false
structure Ad where
  f : Int
  h : Int
  l : Int
  deriving DecidableEq
structure Sl where
  p : Int
  a : Int
  b : Int
  lo : Ad
  hi : Ad
  deriving DecidableEq
def ltA (x y : Ad) : Bool := if x.f ≠ y.f then decide (x.f < y.f) else if x.h ≠ y.h then decide (x.h < y.h) else decide (x.l < y.l)
def validA (x : Ad) : Bool := decide (x.f = 6) || (decide (x.f = 4) && decide (x.h = 0) && decide (x.l < 4294967296))
structure FitA (x : Ad) : Prop where
  f : -9223372036854775808 ≤ x.f ∧ x.f ≤ 9223372036854775807
  h : 0 ≤ x.h ∧ x.h ≤ 18446744073709551615
  l : 0 ≤ x.l ∧ x.l ≤ 18446744073709551615
structure FitS (x : Sl) : Prop where
  p : -9223372036854775808 ≤ x.p ∧ x.p ≤ 9223372036854775807
  a : -9223372036854775808 ≤ x.a ∧ x.a ≤ 9223372036854775807
  b : -9223372036854775808 ≤ x.b ∧ x.b ≤ 9223372036854775807
  lo : FitA x.lo
  hi : FitA x.hi
def keyA (x : Ad) : Int := (x.f * 18446744073709551616 + x.h) * 18446744073709551616 + x.l
theorem key_lt {x y : Ad} (hx : FitA x) (hy : FitA y) : ltA x y = decide (keyA x < keyA y) := by
  obtain ⟨_, h1, l1⟩ := hx
  obtain ⟨_, h2, l2⟩ := hy
  unfold ltA keyA
  split
  · apply decide_eq_decide.2
    omega
  · split
    · apply decide_eq_decide.2
      omega
    · apply decide_eq_decide.2
      omega
def portsOk (a b : Int) : Bool := (decide (a = 65535) && decide (b = 0)) || (decide (0 ≤ a) && decide (a ≤ b) && decide (b ≤ 65535))
def checkS (s : Sl) : Int :=
  if validA s.lo = false ∨ validA s.hi = false ∨ s.lo.f ≠ s.hi.f then 15
  else if ltA s.hi s.lo = true ∨ s.p < 0 ∨ s.p > 255 ∨ portsOk s.a s.b = false then 5 else 0
def spanP (s : Sl) : Int × Int := if s.a = 65535 ∧ s.b = 0 then (-1, -1) else if s.a = 0 ∧ s.b = 65535 then (-1, 65535) else (s.a, s.b)
def fieldsP (lo hi : Int) : Int × Int := if hi = -1 then (65535, 0) else if lo = -1 then (0, 65535) else (lo, hi)
def withinA (x lo hi : Ad) : Bool := !ltA x lo && !ltA hi x
def hasS (s : Sl) (x : Ad) (p port : Int) : Bool := withinA x s.lo s.hi && (decide (s.p = 0) || decide (s.p = p)) && decide ((spanP s).1 ≤ port) && decide (port ≤ (spanP s).2)
def zeroA : Ad := ⟨0, 0, 0⟩
def zeroS : Sl := ⟨0, 0, 0, zeroA, zeroA⟩
def loM (a b : Sl) : Ad := if ltA a.lo b.lo = true then b.lo else a.lo
def hiM (a b : Sl) : Ad := if ltA b.hi a.hi = true then b.hi else a.hi
def prM (a b : Sl) : Int := if a.p = 0 then b.p else a.p
def loP (a b : Sl) : Int := max (spanP a).1 (spanP b).1
def hiP (a b : Sl) : Int := min (spanP a).2 (spanP b).2
def meetS (a b : Sl) : Sl × Bool :=
  if ltA (hiM a b) (loM a b) = true ∨ (b.p ≠ 0 ∧ b.p ≠ prM a b) ∨ hiP a b < loP a b then (zeroS, false)
  else (⟨prM a b, (fieldsP (loP a b) (hiP a b)).1, (fieldsP (loP a b) (hiP a b)).2, loM a b, hiM a b⟩, true)
def insideS (a b : Sl) : Bool := (meetS a b).2 && decide ((meetS a b).1 = a)
structure GoodS (s : Sl) : Prop where
  flo : FitA s.lo
  fhi : FitA s.hi
  vlo : validA s.lo = true
  vhi : validA s.hi = true
  fam : s.lo.f = s.hi.f
  le : keyA s.lo ≤ keyA s.hi
  p : 0 ≤ s.p ∧ s.p ≤ 255
  q : (s.a = 65535 ∧ s.b = 0) ∨ (0 ≤ s.a ∧ s.a ≤ s.b ∧ s.b ≤ 65535)
theorem GoodS.check {s : Sl} (h : GoodS s) : checkS s = 0 := by
  unfold checkS
  rw [key_lt h.fhi h.flo, h.vlo, h.vhi]
  have h1 := h.le
  have h2 := h.p
  have h3 := h.q
  have hp : portsOk s.a s.b = true := by
    unfold portsOk
    simp
    omega
  rw [if_neg (by simp; exact h.fam), if_neg (by simp [hp]; omega)]
theorem good_of_check {s : Sl} (f : FitS s) (h : checkS s = 0) : GoodS s := by
  unfold checkS at h
  split at h
  · cases h
  rename_i h1
  split at h
  · cases h
  rename_i h2
  rw [key_lt f.hi f.lo] at h2
  have hp : portsOk s.a s.b = true := by
    cases hh : portsOk s.a s.b
    · exact absurd (Or.inr (Or.inr (Or.inr hh))) h2
    · rfl
  have hl : validA s.lo = true := by
    cases hh : validA s.lo
    · exact absurd (Or.inl hh) h1
    · rfl
  have hh : validA s.hi = true := by
    cases hh : validA s.hi
    · exact absurd (Or.inr (Or.inl hh)) h1
    · rfl
  have hf : s.lo.f = s.hi.f := by
    apply Classical.byContradiction
    intro k
    exact h1 (Or.inr (Or.inr k))
  unfold portsOk at hp
  simp only [Bool.or_eq_true, Bool.and_eq_true, decide_eq_true_eq] at hp h2
  exact ⟨f.lo, f.hi, hl, hh, hf, by omega, by omega, by omega⟩
theorem GoodS.fit {s : Sl} (h : GoodS s) : FitS s := by
  have h2 := h.p
  have h3 := h.q
  exact ⟨by omega, by omega, by omega, h.flo, h.fhi⟩
def OkP2 (l h : Int) : Prop := (l = -1 ∧ h = -1) ∨ (l = -1 ∧ h = 65535) ∨ (0 ≤ l ∧ l ≤ h ∧ h ≤ 65535 ∧ ¬ (l = 0 ∧ h = 65535))
structure MeetS (a b c : Sl) : Prop where
  p : c.p = prM a b
  pb : b.p = 0 ∨ b.p = prM a b
  lo : keyA c.lo = max (keyA a.lo) (keyA b.lo)
  hi : keyA c.hi = min (keyA a.hi) (keyA b.hi)
  slo : c.lo = a.lo ∨ c.lo = b.lo
  shi : c.hi = a.hi ∨ c.hi = b.hi
  le : keyA c.lo ≤ keyA c.hi
  q1 : (spanP c).1 = max (spanP a).1 (spanP b).1
  q2 : (spanP c).2 = min (spanP a).2 (spanP b).2
  ok : OkP2 (spanP c).1 (spanP c).2
  fld : fieldsP (spanP c).1 (spanP c).2 = (c.a, c.b)
def canMeet (a b : Sl) : Prop := max (keyA a.lo) (keyA b.lo) ≤ min (keyA a.hi) (keyA b.hi) ∧ (b.p = 0 ∨ b.p = prM a b) ∧ max (spanP a).1 (spanP b).1 ≤ min (spanP a).2 (spanP b).2
theorem MeetS.good {a b c : Sl} (ha : GoodS a) (hb : GoodS b) (hf : a.lo.f = b.lo.f) (h : MeetS a b c) : GoodS c := by
  have hq := h.ok
  have hfl := h.fld
  have e1 := ha.fam
  have e2 := hb.fam
  refine ⟨?_, ?_, ?_, ?_, ?_, h.le, ?_, ?_⟩
  · rcases h.slo with e | e <;> rw [e]; exact ha.flo; exact hb.flo
  · rcases h.shi with e | e <;> rw [e]; exact ha.fhi; exact hb.fhi
  · rcases h.slo with e | e <;> rw [e]; exact ha.vlo; exact hb.vlo
  · rcases h.shi with e | e <;> rw [e]; exact ha.vhi; exact hb.vhi
  · rcases h.slo with e | e <;> rcases h.shi with e' | e' <;> rw [e, e'] <;> omega
  · rw [h.p]
    unfold prM
    split
    · exact hb.p
    · exact ha.p
  · unfold OkP2 at hq
    unfold fieldsP at hfl
    split at hfl
    · simp at hfl; omega
    split at hfl
    · simp at hfl; omega
    · simp at hfl; omega
def pm (a b : Int) : Int := if a = 0 then b else a
end Go.Proofs.YtnbkffehhahckaaGreat
