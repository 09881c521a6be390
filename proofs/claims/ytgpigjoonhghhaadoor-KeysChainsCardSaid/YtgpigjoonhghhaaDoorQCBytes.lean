/-
  Plain words for slices of bytes in the model's memory, whatever the program: what it means that a slice value reads as a list of numbers, and that this stays so while a call only adds memory of its own.
-/
import Derived.WalkKit
import Derived.ProofKit
import Derived.SizedLaws
import Derived.Deep.Draws
import Derived.Lib.SliceRun
namespace Go.Proofs.YtgpigjoonhghhaaDoor
open Go.RowKit Go.ChangeShapes Go.WideShapes
theorem hidden {p : Prop} (h : p) : Hid p := h
def InMem (w : World) (p : Option Addr) (xs : List Int) : Prop :=
  0 < xs.length → ∃ b o, p = some ⟨b, o, none⟩ ∧ ∀ i, i < xs.length → w.cell? ⟨b, o + i, none⟩ = some (.int .u8 (xs.getD i 0))
structure Byt (w : World) (p : Option Addr) (n c : Nat) (xs : List Int) : Prop where
  len : xs.length = n
  cap : n ≤ c
  big : c ≤ maxLen
  rng : ∀ x ∈ xs, 0 ≤ x ∧ x ≤ 255
  mem : InMem w p xs
theorem rng_getD {xs : List Int} (h : ∀ x ∈ xs, 0 ≤ x ∧ x ≤ 255) (i : Nat) : 0 ≤ xs.getD i 0 ∧ xs.getD i 0 ≤ 255 := by
  rw [List.getD_eq_getElem?_getD]
  rcases Nat.lt_or_ge i xs.length with hi | hi
  · rw [List.getElem?_eq_getElem hi]
    exact h _ (List.getElem_mem hi)
  · rw [List.getElem?_eq_none hi]
    simp
theorem rng_take {xs : List Int} (h : ∀ x ∈ xs, 0 ≤ x ∧ x ≤ 255) (k : Nat) : ∀ x ∈ xs.take k, 0 ≤ x ∧ x ≤ 255 := fun x hx => h x (List.mem_of_mem_take hx)
theorem rng_drop {xs : List Int} (h : ∀ x ∈ xs, 0 ≤ x ∧ x ≤ 255) (k : Nat) : ∀ x ∈ xs.drop k, 0 ≤ x ∧ x ≤ 255 := fun x hx => h x (List.mem_of_mem_drop hx)
theorem rng_set {xs : List Int} (h : ∀ x ∈ xs, 0 ≤ x ∧ x ≤ 255) (k : Nat) {v : Int} (hv : 0 ≤ v ∧ v ≤ 255) : ∀ x ∈ xs.set k v, 0 ≤ x ∧ x ≤ 255 := fun x hx => by
  rcases List.mem_or_eq_of_mem_set hx with hx | rfl
  · exact h x hx
  · exact hv
theorem rng_append {xs ys : List Int} (h : ∀ x ∈ xs, 0 ≤ x ∧ x ≤ 255) (k : ∀ x ∈ ys, 0 ≤ x ∧ x ≤ 255) : ∀ x ∈ xs ++ ys, 0 ≤ x ∧ x ≤ 255 := fun x hx => (List.mem_append.1 hx).elim (h x) (k x)
theorem InMem.nil (w : World) (p : Option Addr) : InMem w p [] := fun h => absurd h (by simp)
theorem InMem.keep {w w' : World} {p : Option Addr} {xs : List Int} (h : InMem w p xs) (hk : ∀ a v, w.cell? a = some v → w'.cell? a = some v) : InMem w' p xs := fun hn => by
  obtain ⟨b, o, e, hc⟩ := h hn
  exact ⟨b, o, e, fun i hi => hk _ _ (hc i hi)⟩
theorem Byt.keep {w w' : World} {p : Option Addr} {n c : Nat} {xs : List Int} (h : Byt w p n c xs) (hk : ∀ a v, w.cell? a = some v → w'.cell? a = some v) : Byt w' p n c xs :=
  ⟨h.len, h.cap, h.big, h.rng, h.mem.keep hk⟩
theorem cell_below {w w' : World} (hb : Below w.heap.size w w') (a : Addr) (v : Value) (h : w.cell? a = some v) : w'.cell? a = some v :=
  (hb.cell (World.block_lt_of_cell? w a h)).trans h
theorem Byt.below {w w' : World} {p : Option Addr} {n c : Nat} {xs : List Int} (h : Byt w p n c xs) (hb : Below w.heap.size w w') : Byt w' p n c xs := h.keep (cell_below hb)
theorem Byt.alloc {w : World} {p : Option Addr} {n c : Nat} {xs : List Int} (h : Byt w p n c xs) (o : Obj) : Byt (w.alloc o) p n c xs := h.below ((Below.refl _ _).alloc (Nat.le_refl _) o)
theorem Byt.le {w : World} {p : Option Addr} {n c : Nat} {xs : List Int} (h : Byt w p n c xs) : n ≤ 9223372036854775807 := by
  have h1 := h.cap
  have h2 := h.big
  unfold maxLen at h2
  omega
theorem Byt.at_ {w : World} {p : Option Addr} {n c : Nat} {xs : List Int} (h : Byt w p n c xs) (hn : 0 < n) :
    ∃ b o, p = some ⟨b, o, none⟩ ∧ ∀ i, i < n → w.cell? ⟨b, o + i, none⟩ = some (.int .u8 (xs.getD i 0)) := by
  obtain ⟨b, o, e, hc⟩ := h.mem (by have := h.len; omega)
  exact ⟨b, o, e, fun i hi => hc i (by have := h.len; omega)⟩
theorem Byt.lt {w : World} {b o n c : Nat} {xs : List Int} (h : Byt w (some ⟨b, o, none⟩) n c xs) (hn : 0 < n) : b < w.heap.size := by
  obtain ⟨b', o', e, hc⟩ := h.at_ hn
  injection e with e
  injection e with e1 e2
  subst e1
  exact World.block_lt_of_cell? w _ (hc 0 hn)
theorem Byt.nil (w : World) (p : Option Addr) (c : Nat) (hc : c ≤ maxLen) : Byt w p 0 c [] := ⟨rfl, Nat.zero_le _, hc, fun _ h => by simp at h, InMem.nil _ _⟩
theorem Byt.part {w : World} {p : Option Addr} {n c : Nat} {xs : List Int} (h : Byt w p n c xs) (i j : Nat) (hij : i ≤ j) (hj : j ≤ n) :
    Byt w (if c = i then p else p.map (·.add i)) (j - i) (c - i) ((xs.take j).drop i) := by
  have hl := h.len
  have hcap := h.cap
  refine ⟨by simp; omega, by omega, by have := h.big; omega, rng_drop (rng_take h.rng _) _, fun hn => ?_⟩
  have hn' : i < j := by simp at hn; omega
  obtain ⟨b, o, rfl, hc⟩ := h.mem (by omega)
  rw [if_neg (by omega)]
  refine ⟨b, o + i, ?_, fun k hk => ?_⟩
  · simp [Addr.add]
  · have hk' : i + k < xs.length := by simp at hk; omega
    have := hc (i + k) hk'
    rw [Nat.add_assoc, this]
    congr 2
    rw [List.getD_eq_getElem?_getD, List.getD_eq_getElem?_getD, List.getElem?_drop, List.getElem?_take_of_lt (by simp at hk; omega)]
theorem Byt.front {w : World} {p : Option Addr} {n c : Nat} {xs : List Int} (h : Byt w p n c xs) (j : Nat) (hj : j ≤ n) : Byt w p j c (xs.take j) := by
  have hl := h.len
  refine ⟨by simp; omega, by have := h.cap; omega, h.big, rng_take h.rng _, fun hn => ?_⟩
  obtain ⟨b, o, e, hc⟩ := h.at_ (by simp at hn; omega)
  refine ⟨b, o, e, fun i hi => ?_⟩
  have hi' : i < j := by simp at hi; omega
  rw [hc i (by omega)]
  simp [List.getD_eq_getElem?_getD, List.getElem?_take_of_lt hi']
theorem Byt.of_own {w : World} {base : Nat} {e : TypeId} {v : Value} {n : Nat} {xs : List Int} (h : w.ownsRow base e 1 v n (xs.map (Value.int .u8))) (hr : ∀ x ∈ xs, 0 ≤ x ∧ x ≤ 255) :
    ∃ p c, v = .slice p n c ∧ Byt w p n c xs := by
  have hl : xs.length = n := by simpa using h.1
  rcases h.2 with ⟨rfl, rfl⟩ | ⟨g, cap, cur, rfl, hg, hh, hn, hc, hs, ht⟩
  · obtain rfl : xs = [] := List.eq_nil_of_length_eq_zero hl
    exact ⟨none, 0, rfl, Byt.nil _ _ _ (Nat.zero_le _)⟩
  · refine ⟨some ⟨g, 0, none⟩, cap, rfl, hl, hn, hc, hr, fun hn' => ⟨g, 0, rfl, fun i hi => ?_⟩⟩
    rw [Nat.zero_add, h.cellAt i (by omega)]
    simp [List.getD_eq_getElem?_getD, List.getElem?_eq_getElem hi]
theorem Byt.src {w : World} {a : Addr} {n c : Nat} {xs : List Int} (h : Byt w (some a) n c xs) (j : Nat) (u : Value) (hj : (xs.map (Value.int .u8))[j]? = some u) : w.cell? (a.add j) = some u := by
  have hl : j < xs.length := by have := (List.getElem?_eq_some_iff.1 hj).1; simpa using this
  obtain ⟨b, o, e, hc⟩ := h.mem (by omega)
  injection e with e
  subst e
  have : (⟨b, o, none⟩ : Addr).add j = ⟨b, o + j, none⟩ := by unfold Addr.add; split <;> simp_all
  rw [this, hc j hl]
  simp [List.getD_eq_getElem?_getD, List.getElem?_eq_getElem hl] at hj ⊢
  exact hj
theorem u8_one (xs : List Int) : ∀ u ∈ xs.map (Value.int .u8), u.oneCell' = true := by
  intro u hu
  obtain ⟨x, _, rfl⟩ := List.mem_map.1 hu
  rfl
theorem bounds_u8' {n : Int} (h : (Lit.int .u8 n).wf = true) : 0 ≤ n ∧ n ≤ 255 := by
  simp [Lit.wf, IntKind.min, IntKind.max, IntKind.signed, IntKind.bits] at h
  omega
theorem opened {H : Type} {enc : TypeId × Value → H} {P : Program} {t e : TypeId} (ht : P.underlying t = some (.slice e)) (he : P.underlying e = some (.int .u8)) (hc : P.cellsOf e = 1) (hb : P.bytesOf e = 1)
    {W : World} {r : Reach} {b0 : Nat} {v : Value} {d : DataW H} {q : List MemPlace} {ts : List TypeId} {ds : List (DataW H)} (j : Nat) (htj : ts[j]? = some t) (hdj : ds[j]? = some d)
    (hval : Value.okWide P W r b0 t v) (h0 : DataW.Trod enc P W 0 (fun _ => true) true t v d q) (hz : (DataW.weightsEach P ts ds).all (· ≤ reachBytes) = true) :
    ∃ p n c xs, v = .slice p n c ∧ Byt W p n c xs ∧ c ≤ 140737488351232 := by
  obtain ⟨p, n, c, rfl⟩ := okWide_slice ht hval
  obtain ⟨fuel, hf⟩ := h0
  rcases open_ints ht he hc hf with ⟨hcs, hx⟩ | ⟨a, len', cap', zs, hcs, _, hl, hm, hall, hx, hcell, hwz⟩
  · simp [Value.cells] at hcs
    obtain ⟨rfl, rfl, rfl⟩ := hcs
    exact ⟨none, 0, 0, [], rfl, Byt.nil _ _ _ (Nat.zero_le _), Nat.zero_le _⟩
  · simp [Value.cells] at hcs
    obtain ⟨rfl, rfl, rfl⟩ := hcs
    simp only [Prod.mk.injEq] at hx
    obtain ⟨rfl, rfl⟩ := hx
    simp only [if_true] at hall
    have hsz := sized_slice hz (j := j) (t := t) (e := e) htj hdj ht
    rw [hb] at hsz
    simp only [lits, List.length_map, List.length_take, List.length_drop, reachBytes] at hsz
    refine ⟨_, _, _, zs.take n, rfl, ⟨by simp; omega, hl, hm, fun x hx => bounds_u8' (hwz x (List.mem_of_mem_take hx)), fun hn => ?_⟩, by omega⟩
    have hp : 0 < zs.length := by simp at hn; omega
    obtain ⟨b, o, s⟩ := a
    obtain rfl : s = none := by simpa [Addr.add] using World.cell?_spot (hcell 0 hp)
    refine ⟨b, o, rfl, fun i hi => ?_⟩
    have hi' : i < n := by simp at hi; omega
    have := hcell i (by omega)
    rw [add_plain] at this
    rw [this]
    simp [List.getD_eq_getElem?_getD, List.getElem?_take_of_lt hi']
theorem drew_below {w w' : World} {B : Nat} (h : ∃ r, w' = w.drewN r) : Below B w w' := by
  obtain ⟨r, rfl⟩ := h
  exact ⟨rfl, rfl, rfl, Nat.le_refl _, fun _ _ => rfl⟩
end Go.Proofs.YtgpigjoonhghhaaDoor
