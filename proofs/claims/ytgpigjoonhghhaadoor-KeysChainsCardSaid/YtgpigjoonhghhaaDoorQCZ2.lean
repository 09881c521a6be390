/-
  What the document's own Put returns, for every slice of bytes, number and width.
  The document's Pad: what follows a message.
  Bytes that lie in a block of bytes of the call's own: they stay while rows of other things, or blocks of before, are written.
  Rows of structures of the call's own, whatever the program: elements of a fixed number of cells, with memory of their own behind them.
  What wire.Slice returns, for every slice of bytes, place and length.
-/
import Derived.Test.YtgpigjoonhghhaaDoorQCInfoB
import Derived.Test.YtgpigjoonhghhaaDoorQCNum
import Derived.Test.YtgpigjoonhghhaaDoorQCShaWd
import Derived.Test.YtgpigjoonhghhaaDoorQCOwnB
import Derived.Test.YtgpigjoonhghhaaDoorRows
import Derived.Test.YtgpigjoonhghhaaDoorQCGrow
import Derived.Test.YtgpigjoonhghhaaDoorQCWNumber
import Derived.Test.YtgpigjoonhghhaaDoorQCClone
namespace Go.Proofs.YtgpigjoonhghhaaDoor
open Go.RowKit
set_option linter.unusedVariables false
def BytesNew (w : World) (xs : List Int) (e : Ending) (w' : World) : Prop := ∃ v, e = .returned v ∧ Own w' w.heap.size 5 v xs ∧ Below w.heap.size w w'
set_option maxHeartbeats 400000 in
set_option maxRecDepth 100000 in
theorem rput_yes (p : Option Addr) (n c : Nat) (xs : List Int) (w : World) (h : Byt w p n c xs) (hb : n ≤ 140737488355000) (v : Int) (hv : 0 ≤ v ∧ v ≤ 18446744073709551615) (k : Nat) (h1 : 1 ≤ k) (h8 : k ≤ 8) :
    Calls Tryd.prog 32 #[.slice p n c, .int .u64 v, .int .i64 k] w (BytesNew w (xs ++ be k v)) := by
  have hn := h.le
  have hl := h.len
  obtain ⟨i0, hi, hz0, hz1, hz2⟩ := info_parts Tryd.infoByte
  have H := hidden h
  clear h
  go_enter Tryd.func32, Tryd.ntmps32
  go_wp2_with (at_builtin; refine wpList_append_byt _ rfl _ _ 22 rfl w.heap.size 5 i0 (.int .u8 0) Tryd.underlying22 hi hz0 hz1 hz2 rfl _ _ rfl (Own.nil w w.heap.size 5) _ _ _ _ _ rfl H.out rfl ?c1 (Nat.le_refl _) ?_)
  case c1 => first | omega | (simp; omega)
  intro u w1 hown hg
  have hbel := (Below.refl w.heap.size w).grown hg (Nat.le_refl _) (by intro k hk; simp [Value.ownBlock] at hk)
  clear hg
  go_wp2
  go_loopw [7, 8] (fun u i wr => ∃ j : Nat, j ≤ k ∧ i = .int .i64 ((j : Int) - 1) ∧ ∃ ys, ys ++ be j v = xs ++ be k v ∧ Own wr w.heap.size 5 u ys ∧ Below w.heap.size w wr) (fun _ i _ => (intOf i + 1).toNat)
  case atStart => exact ⟨k, Nat.le_refl _, rfl, xs, rfl, hown, hbel⟩
  case round =>
    obtain ⟨j, hj, rfl, ys, hys, ho, hbl⟩ := hrel
    by_cases hpos : 1 ≤ j
    · obtain ⟨j, rfl⟩ : ∃ m, j = m + 1 := ⟨j - 1, by omega⟩
      have hlen : ys.length ≤ n + 8 := by
        have := congrArg List.length hys
        simp only [List.length_append, be_len] at this
        omega
      have HY := hidden hys
      have HO := hidden ho
      clear hys ho H
      go_wp2_with (at_builtin; go_loud (refine wpList_append_byt _ rfl _ _ 22 rfl w.heap.size 5 i0 (.int .u8 0) Tryd.underlying22 hi hz0 hz1 hz2 rfl _ _ rfl (HO.out.alloc _) _ _ _ _ _ rfl (one_byte _ _ (v / 2 ^ (8 * j) % 256) ?c0 ?c1) rfl ?c2 ?c3 ?_))
      case c0 => exact byte_rng _
      case c1 => rw [World.cell?_alloc_at _ _ _ _ rfl]; rfl
      case c2 => omega
      case c3 => have := hbl.size; simp; omega
      intro u' w2 hown2 hg2
      have HB2 := hidden ((hbl.alloc hbl.size _).grown hg2 (by have := hbl.size; simp; omega) (fun g hg => (HO.out.lt g hg).1))
      clear hbl hg2 hbel
      go_wp2
      go_roundw
      case rel => exact ⟨j, by omega, rfl, _, be_next _ _ _ _ HY.out, hown2, HB2.out⟩
      case measure => simp [intOf] <;> omega
    · obtain rfl : j = 0 := by omega
      have e1 : ys = xs ++ be k v := by simpa [be] using hys
      subst e1
      have HO := hidden ho
      have HB := hidden hbl
      clear ho hbl hys H hbel hown
      go_wp2
      go_ret
      exact ⟨_, rfl, HO.out, HB.out⟩
end Go.Proofs.YtgpigjoonhghhaaDoor

namespace Go.Proofs.YtgpigjoonhghhaaDoor
open Go.RowKit
set_option linter.unusedVariables false
def lenOf : Value → Nat
  | .slice _ n _ => n
  | _ => 0
theorem Own.one (w : World) (base : Nat) (e : TypeId) (x : Int) (hb : base ≤ w.heap.size) : Own (w.alloc (.cells #[.int .u8 x] e)) base e (.slice (some ⟨w.heap.size, 0, none⟩) 1 1) [x] :=
  ⟨by simp, .inr ⟨w.heap.size, 1, _, by simp, hb, heap_alloc_new w _, by simp, by decide, by simp, by simp⟩⟩
end Go.Proofs.YtgpigjoonhghhaaDoor

namespace Go.Proofs.YtgpigjoonhghhaaDoor
open Go.RowKit
set_option linter.unusedVariables false
structure Bod (w : World) (base : Nat) (p : Option Addr) (n c : Nat) (xs : List Int) : Prop where
  byt : Byt w p n c xs
  own : 0 < n → ∃ b o cur fz, p = some ⟨b, o, none⟩ ∧ base ≤ b ∧ w.heap[b]? = some (.cells cur 5 fz)
def OffB (w : World) (base : Nat) (row : Option Nat) : Prop := ∀ r, row = some r → r < base ∨ ∀ cur fz, w.heap[r]? ≠ some (.cells cur 5 fz)
theorem OffB.none (w : World) (base : Nat) : OffB w base none := fun r h => by cases h
theorem OffB.low {w : World} {base k : Nat} (h : k < base) : OffB w base (some k) := fun r hr => by cases hr; exact Or.inl h
theorem Bod.grown {w w' : World} {base : Nat} {p : Option Addr} {n c : Nat} {xs : List Int} {row : Option Nat} (h : Bod w base p n c xs) (hg : w.grownBy w' row) (hr : OffB w base row) : Bod w' base p n c xs := by
  rcases Nat.eq_zero_or_pos n with h0 | h0
  · have hx : xs = [] := List.eq_nil_of_length_eq_zero (h.byt.len.trans h0)
    subst h0 hx
    exact ⟨Byt.nil _ _ _ h.byt.big, fun h => by omega⟩
  · obtain ⟨b, o, cur, fz, rfl, hb, hh⟩ := h.own h0
    have hne : some b ≠ row := by
      intro e
      rcases hr b e.symm with h1 | h1
      · omega
      · exact h1 _ _ hh
    have hlt : b < w.heap.size := (Array.getElem?_eq_some_iff.1 hh).1
    have hblk := hg.block b hlt hne
    refine ⟨⟨h.byt.len, h.byt.cap, h.byt.big, h.byt.rng, fun hn => ?_⟩, fun _ => ⟨b, o, cur, fz, rfl, hb, hblk.trans hh⟩⟩
    obtain ⟨b', o', e, hc⟩ := h.byt.mem hn
    injection e with e
    injection e with e1 e2
    subst e1 e2
    exact ⟨b, o, rfl, fun i hi => (World.cell?_of_block (a := ⟨b, o + i, none⟩) hblk).trans (hc i hi)⟩
theorem Bod.below {w w' : World} {base : Nat} {p : Option Addr} {n c : Nat} {xs : List Int} (h : Bod w base p n c xs) (hb : Below w.heap.size w w') : Bod w' base p n c xs :=
  h.grown (row := none) ⟨hb.os, hb.tape, hb.output, hb.size, fun i hi _ => hb.block i hi⟩ (OffB.none _ _)
theorem Bod.alloc {w : World} {base : Nat} {p : Option Addr} {n c : Nat} {xs : List Int} (h : Bod w base p n c xs) (o : Obj) : Bod (w.alloc o) base p n c xs := h.below ((Below.refl _ w).alloc (Nat.le_refl _) o)
theorem Bod.mono {w : World} {base base' : Nat} {p : Option Addr} {n c : Nat} {xs : List Int} (h : Bod w base p n c xs) (hb : base' ≤ base) : Bod w base' p n c xs :=
  ⟨h.byt, fun h0 => by
    obtain ⟨b, o, cur, fz, e, hb', hh⟩ := h.own h0
    exact ⟨b, o, cur, fz, e, by omega, hh⟩⟩
theorem Own.bod {w : World} {base : Nat} {v : Value} {xs : List Int} {n : Nat} (h : Own w base 5 v xs) (hl : xs.length = n) (hr : ∀ x ∈ xs, 0 ≤ x ∧ x ≤ 255) : ∃ p c, v = .slice p n c ∧ Bod w base p n c xs := by
  obtain ⟨p, c, rfl, hb⟩ := h.bytN rfl hl hr
  refine ⟨p, c, rfl, hb, fun h0 => ?_⟩
  rcases h.2 with ⟨hv, hn⟩ | ⟨g, cap, cur, hv, hg, hh, _⟩
  · omega
  · simp at hv
    exact ⟨g, 0, cur, (0, 0), hv.1, hg, hh⟩
theorem Bod.nil (w : World) (base : Nat) (p : Option Addr) (c : Nat) (hc : c ≤ maxLen) : Bod w base p 0 c [] := ⟨Byt.nil _ _ _ hc, fun h => by omega⟩
end Go.Proofs.YtgpigjoonhghhaaDoor

namespace Go.Proofs.YtgpigjoonhghhaaDoor
open Go.RowKit
set_option linter.unusedVariables false
structure KindR (α : Type) where
  e : TypeId
  k : Nat
  cs : α → List Value
  len : ∀ x, (cs x).length = k
  one : ∀ x, ∀ u ∈ cs x, u.oneCell' = true
  pos : 0 < k
section
variable {α : Type} (K : KindR α)
def KindR.row (l : List α) : List Value := l.flatMap K.cs
theorem KindR.row_cons (x : α) (l : List α) : K.row (x :: l) = K.cs x ++ K.row l := rfl
theorem KindR.row_append (l r : List α) : K.row (l ++ r) = K.row l ++ K.row r := by simp [KindR.row]
theorem KindR.row_len (l : List α) : (K.row l).length = l.length * K.k := by
  induction l with
  | nil => simp [KindR.row]
  | cons x l ih => rw [K.row_cons, List.length_append, K.len, ih, List.length_cons, Nat.add_mul]; omega
theorem KindR.row_one (l : List α) : ∀ u ∈ K.row l, u.oneCell' = true := by
  intro u hu
  obtain ⟨x, _, h⟩ := List.mem_flatMap.1 hu
  exact K.one x u h
theorem KindR.row_get (l : List α) (j : Nat) (hj : j < l.length) (i : Nat) (u : Value) (hu : (K.cs l[j])[i]? = some u) : (K.row l)[j * K.k + i]? = some u := by
  induction l generalizing j with
  | nil => simp at hj
  | cons x l ih =>
    have hi : i < K.k := by have := (List.getElem?_eq_some_iff.1 hu).1; rw [K.len] at this; exact this
    rw [K.row_cons]
    cases j with
    | zero =>
      rw [Nat.zero_mul, Nat.zero_add, List.getElem?_append_left (by rw [K.len]; exact hi)]
      exact hu
    | succ j =>
      rw [List.getElem?_append_right (by rw [K.len, Nat.add_mul]; omega), K.len, show (j + 1) * K.k + i - K.k = j * K.k + i by rw [Nat.add_mul]; omega]
      exact ih j (by simpa using hj) (by simpa using hu)
theorem KindR.row_set (l : List α) (j : Nat) (hj : j < l.length) (i : Nat) (hi : i < K.k) (u : Value) (y : α) (hy : K.cs y = (K.cs l[j]).set i u) : K.row (l.set j y) = (K.row l).set (j * K.k + i) u := by
  induction l generalizing j with
  | nil => simp at hj
  | cons x l ih =>
    cases j with
    | zero =>
      rw [List.set_cons_zero, K.row_cons, K.row_cons, Nat.zero_mul, Nat.zero_add, List.set_append_left _ _ (by rw [K.len]; exact hi), hy]
      rfl
    | succ j =>
      rw [List.set_cons_succ, K.row_cons, K.row_cons, List.set_append_right _ _ (by rw [K.len, Nat.add_mul]; omega), K.len, show (j + 1) * K.k + i - K.k = j * K.k + i by rw [Nat.add_mul]; omega]
      rw [ih j (by simpa using hj) (by simpa using hy)]
end
def OffT (ts : List TypeId) (w : World) (base : Nat) (row : Option Nat) : Prop := ∀ r, row = some r → r < base ∨ ∀ cur e fz, w.heap[r]? = some (.cells cur e fz) → e ∉ ts
theorem OffT.none (ts : List TypeId) (w : World) (base : Nat) : OffT ts w base none := fun r h => by cases h
theorem OffT.low {ts : List TypeId} {w : World} {base k : Nat} (h : k < base) : OffT ts w base (some k) := fun r hr => by cases hr; exact Or.inl h
theorem OffT.of_type {ts : List TypeId} {w : World} {base r : Nat} {cur : Array Value} {e : TypeId} {fz : Nat × Nat} (h : w.heap[r]? = some (.cells cur e fz)) (he : e ∉ ts) : OffT ts w base (some r) := fun r' hr => by
  cases hr
  exact Or.inr (fun cur' e' fz' h' => by rw [h] at h'; simp at h'; rw [← h'.2.1]; exact he)
structure NestR (α : Type) where
  ts : List TypeId
  ok : World → Nat → α → Prop
  keep : ∀ {w w' : World} {base : Nat} {row : Option Nat} {x : α}, ok w base x → w.grownBy w' row → OffT ts w base row → ok w' base x
  mono : ∀ {w : World} {base base' : Nat} {x : α}, ok w base x → base' ≤ base → ok w base' x
structure RowG {α : Type} (K : KindR α) (N : NestR α) (w : World) (base : Nat) (v : Value) (l : List α) : Prop where
  own : w.ownsRow base K.e K.k v l.length (K.row l)
  ok : ∀ x ∈ l, N.ok w base x
section
variable {α : Type} {K : KindR α} {N : NestR α} {w w' : World} {base : Nat} {v : Value} {l : List α}
theorem RowG.nil (K : KindR α) (N : NestR α) (w : World) (base : Nat) : RowG K N w base (.slice none 0 0) [] := ⟨World.ownsRow_nil w base K.e K.k, fun x hx => by cases hx⟩
theorem RowG.mono {base' : Nat} (h : RowG K N w base v l) (hb : base' ≤ base) : RowG K N w base' v l := by
  refine ⟨⟨h.own.1, ?_⟩, fun x hx => N.mono (h.ok x hx) hb⟩
  rcases h.own.2 with h1 | ⟨g, cap, cur, hv, hg, rest⟩
  · exact Or.inl h1
  · exact Or.inr ⟨g, cap, cur, hv, by omega, rest⟩
theorem RowG.lt (h : RowG K N w base v l) : ∀ k, v.ownBlock = some k → base ≤ k ∧ k < w.heap.size := World.ownsRow.lt h.own
theorem RowG.grown {row : Option Nat} (h : RowG K N w base v l) (hg : w.grownBy w' row) (hne : ∀ r, row = some r → v.ownBlock ≠ some r) (hr : OffT N.ts w base row) : RowG K N w' base v l :=
  ⟨World.ownsRow.kept h.own hg (by
    rcases hv : v.ownBlock with _ | b
    · exact Or.inl rfl
    · refine Or.inr ?_
      intro e
      rcases hrow : row with _ | r
      · rw [hrow] at e; cases e
      · rw [hrow] at e
        cases e
        exact hne _ hrow hv), fun x hx => N.keep (h.ok x hx) hg hr⟩
theorem RowG.low {k : Nat} (h : RowG K N w base v l) (hg : w.grownBy w' (some k)) (hk : k < base) : RowG K N w' base v l :=
  h.grown hg (fun r hr e => by cases hr; have := (h.lt k e).1; omega) (OffT.low hk)
theorem RowG.below (h : RowG K N w base v l) (hb : Below w.heap.size w w') : RowG K N w' base v l :=
  h.grown (row := none) ⟨hb.os, hb.tape, hb.output, hb.size, fun i hi _ => hb.block i hi⟩ (fun r hr => by cases hr) (OffT.none _ _ _)
theorem RowG.alloc (h : RowG K N w base v l) (o : Obj) : RowG K N (w.alloc o) base v l := h.below ((Below.refl _ w).alloc (Nat.le_refl _) o)
theorem RowG.offT {ts : List TypeId} {base' : Nat} (h : RowG K N w base v l) (he : K.e ∉ ts) : OffT ts w base' v.ownBlock := fun r hr => by
  rcases h.own.2 with ⟨rfl, _⟩ | ⟨g, cap, cur, rfl, hg, hh, _⟩
  · simp [Value.ownBlock] at hr
  · simp [Value.ownBlock] at hr
    subst hr
    exact OffT.of_type hh he g rfl
theorem RowG.form (h : RowG K N w base v l) {n : Nat} (hn : l.length = n) : ∃ p c, v = .slice p n c := by
  subst hn
  rcases h.own.2 with ⟨rfl, h0⟩ | ⟨g, cap, cur, rfl, _⟩
  · exact ⟨none, 0, by rw [h0]⟩
  · exact ⟨_, _, rfl⟩
theorem RowG.at_ (h : RowG K N w base v l) {n : Nat} (hn : l.length = n) (hp : 0 < n) :
    ∃ g c, v = .slice (some ⟨g, 0, none⟩) n c ∧ n ≤ c ∧ c ≤ maxLen ∧ base ≤ g ∧ g < w.heap.size ∧ (∀ j u, (K.row l)[j]? = some u → w.cell? ⟨g, j, none⟩ = some u) ∧ (∀ j, w.frozen? ⟨g, j, none⟩ = false) := by
  subst hn
  have h0 := h.own
  rcases h.own.2 with ⟨rfl, hz⟩ | ⟨g, cap, cur, rfl, hb, hh, hnc, hm, hs, ht⟩
  · omega
  · refine ⟨g, cap, rfl, hnc, hm, hb, (Array.getElem?_eq_some_iff.1 hh).1, fun j u hj => ?_, fun j => World.ownsRow.frozenAt h0 j⟩
    have := World.ownsRow.cells h0 (g := g) rfl j u hj
    rw [WideShapes.add_plain, Nat.zero_add] at this
    exact this
theorem RowG.set {g n c : Nat} (h : RowG K N w base (.slice (some ⟨g, 0, none⟩) n c) l) (j : Nat) (hj : j < l.length) (i : Nat) (hi : i < K.k) (u : Value) (y : α) (hy : K.cs y = (K.cs l[j]).set i u) (hn : l.length = n) (he : K.e ∉ N.ts)
    (hok : N.ok (w.setCell ⟨g, j * K.k + i, none⟩ u) base y) : RowG K N (w.setCell ⟨g, j * K.k + i, none⟩ u) base (.slice (some ⟨g, 0, none⟩) n c) (l.set j y) := by
  subst hn
  have hg : w.grownBy (w.setCell ⟨g, j * K.k + i, none⟩ u) (some g) := ⟨rfl, rfl, rfl, by simp [World.setCell], fun i hi hne => Below.heap_setCell _ _ _ _ (by simp at hne; exact hne)⟩
  refine ⟨?_, fun x hx => ?_⟩
  · have := (World.ownsRow.stored h.own (j * K.k + i) u).1
    rw [List.length_set, K.row_set l j hj i hi u y hy]
    exact this
  · rcases List.mem_or_eq_of_mem_set hx with hx | rfl
    · exact N.keep (h.ok x hx) hg (by have := h.offT (ts := N.ts) (base' := base) he; simpa [Value.ownBlock] using this)
    · exact hok
end
def SrcG {α : Type} (K : KindR α) (w : World) (p : Option Addr) (m : Nat) (r : List α) : Prop := r.length = m ∧ (0 < m → ∃ ad, p = some ad ∧ ∀ j u, (K.row r)[j]? = some u → w.cell? (ad.add j) = some u)
theorem RowG.src {α : Type} {K : KindR α} {N : NestR α} {w : World} {base : Nat} {p : Option Addr} {m c : Nat} {l : List α} (h : RowG K N w base (.slice p m c) l) : SrcG K w p m l := by
  obtain ⟨p', c', e⟩ := h.form rfl
  simp at e
  obtain ⟨rfl, rfl, rfl⟩ := e
  refine ⟨rfl, fun h0 => ?_⟩
  obtain ⟨g, c', hv, _, _, _, _, hc, _⟩ := h.at_ rfl h0
  simp at hv
  obtain ⟨rfl, rfl⟩ := hv
  exact ⟨_, rfl, fun j u hj => by rw [WideShapes.add_plain, Nat.zero_add]; exact hc j u hj⟩
theorem SrcG.new {α : Type} (K : KindR α) (w : World) (r : List α) (T : TypeId) : SrcG K (w.alloc (.cells (K.row r).toArray T)) (some ⟨w.heap.size, 0, none⟩) r.length r :=
  ⟨rfl, fun _ => ⟨_, rfl, fun j u hj => by
    rw [WideShapes.add_plain, Nat.zero_add, World.cell?_alloc_at _ _ _ _ rfl]
    simpa using hj⟩⟩
structure KnownR {α : Type} (P : Program) (K : KindR α) (t : TypeId) (bytes : Nat) : Prop where
  under : P.underlying t = some (.slice K.e)
  info : ∃ i z, P.info? K.e = some i ∧ i.zero = some z ∧ i.size = K.k ∧ i.bytes = bytes ∧ z.cells.size = K.k
section
variable {α : Type} {P : Program} {K : KindR α} {N : NestR α} {t : TypeId} {bytes : Nat}
theorem run_append_g (hk : KnownR P K t bytes) (he : K.e ∉ N.ts) (w : World) (base : Nat) (ty : TypeId) (v : Value) (l : List α) (h : RowG K N w base v l) (p : Option Addr) (m c : Nat) (r : List α) (hs : SrcG K w p m r) (hr : ∀ x ∈ r, N.ok w base x)
    (h63 : l.length + m ≤ maxLen) (hbytes : (l.length + m) * bytes ≤ 140737488355328) (hbase : base ≤ w.heap.size) :
    ∃ v' w', (Builtin.append_ #[t, t] ty #[v, .slice p m c]).run P w = .ok v' w' ∧ RowG K N w' base v' (l ++ r) ∧ w.grownBy w' v.ownBlock := by
  obtain ⟨i0, z, hi, hz0, hz1, hz2, hz3⟩ := hk.info
  have ht := hk.under
  have key : ∀ {w' : World}, w.grownBy w' v.ownBlock → ∀ x ∈ l ++ r, N.ok w' base x := fun hg x hx => by
    rcases List.mem_append.1 hx with hx | hx
    · exact N.keep (h.ok x hx) hg (h.offT he)
    · exact N.keep (hr x hx) hg (h.offT he)
  cases p with
  | none =>
    have hm : m = 0 := by
      rcases Nat.eq_zero_or_pos m with h0 | h0
      · exact h0
      · obtain ⟨ad, e, _⟩ := hs.2 h0
        cases e
    subst hm
    obtain rfl : r = [] := List.eq_nil_of_length_eq_zero hs.1
    refine ⟨v, w, ?_, by rw [List.append_nil]; exact h, World.grownBy.refl w _⟩
    rcases h.own.2 with ⟨rfl, hx⟩ | ⟨g, cap, cur, rfl, _, _, hnc, _⟩
    · simp [Builtin.append_, run_underlying ht, sizeOf, typeInfo, hi, Builtin.lenOf, Builtin.firstCells]
    · simp [Builtin.append_, run_underlying ht, sizeOf, typeInfo, hi, Builtin.lenOf, Builtin.firstCells, hnc, storeCells]
  | some a =>
    have hcells : ∀ j u, (K.row r)[j]? = some u → w.cell? (a.add j) = some u := by
      intro j u hj
      rcases Nat.eq_zero_or_pos m with h0 | h0
      · have : r = [] := List.eq_nil_of_length_eq_zero (hs.1.trans h0)
        subst this
        simp [KindR.row] at hj
      · obtain ⟨ad, e, hc⟩ := hs.2 h0
        cases e
        exact hc j u hj
    obtain ⟨v', w', hrun, h2, h3, _⟩ := run_append_own (P := P) w base t ty K.e i0 z K.k bytes ht hi hz0 hz1 hz2 hz3 K.pos v l.length (K.row l) h.own a m c (K.row r) (by rw [K.row_len, hs.1])
      hcells (K.row_one r) h63 hbytes hbase
    refine ⟨v', w', hrun, ⟨?_, key h3⟩, h3⟩
    rw [List.length_append, K.row_append, hs.1]
    exact h2
theorem wp_append_g (hk : KnownR P K t bytes) (he : K.e ∉ N.ts) (w : World) {o : Oper} {a : Act} {C : Act → World → Prop} {Q : Exit → Act → World → Prop} (s x : Operand)
    (ho : o.op = .call { callee := .builtin .append, args := #[s, x], argTypes := #[t, t] })
    (base : Nat) (v : Value) (l : List α) (hs : a.eval s = v) (hv : RowG K N w base v l)
    (p : Option Addr) (m c : Nat) (r : List α) (hx : a.eval x = .slice p m c) (hsrc : SrcG K w p m r) (hr : ∀ x ∈ r, N.ok w base x) (h63 : l.length + m ≤ maxLen) (hbytes : (l.length + m) * bytes ≤ 140737488355328) (hbase : base ≤ w.heap.size)
    (h : ∀ v' w', RowG K N w' base v' (l ++ r) → w.grownBy w' v.ownBlock → C (a.put o.dst v') w') : o.wp P a w C Q := by
  obtain ⟨v', w', hrun, h2, h3⟩ := run_append_g hk he w base o.type v l hv p m c r hsrc hr h63 hbytes hbase
  unfold Oper.wp execOp
  simp only [ho, resolve, invoke, builtin, Sem.run_bind, Sem.run_pure, Result.andThen_ok, List.map_toArray, List.map_cons, List.map_nil, hs, hx, hrun]
  exact h v' w' h2 h3
theorem wpList_append_g (hk : KnownR P K t bytes) (he : K.e ∉ N.ts) (w : World) {ops : Array Oper} {rest : List Oper} {o : Oper} {a : Act} {Q : Exit → Act → World → Prop} (hw : Region.wanted o (yielded ops a.tmps) = true) (s x : Operand)
    (ho : o.op = .call { callee := .builtin .append, args := #[s, x], argTypes := #[t, t] })
    (base : Nat) (v : Value) (l : List α) (hs : a.eval s = v) (hv : RowG K N w base v l)
    (p : Option Addr) (m c : Nat) (r : List α) (hx : a.eval x = .slice p m c) (hsrc : SrcG K w p m r) (hr : ∀ x ∈ r, N.ok w base x) (h63 : l.length + m ≤ maxLen) (hbytes : (l.length + m) * bytes ≤ 140737488355328) (hbase : base ≤ w.heap.size)
    (h : ∀ v' w', RowG K N w' base v' (l ++ r) → w.grownBy w' v.ownBlock → wpList P ops Q rest (a.put o.dst v') w') : wpList P ops Q (o :: rest) a w := by
  refine wpList_step fun C hC => ?_
  rw [if_pos hw]
  exact wp_append_g hk he w s x ho base v l hs hv p m c r hx hsrc hr h63 hbytes hbase fun v' w' h2 h3 => hC _ _ (h v' w' h2 h3)
end
structure ReadN (α : Type) where
  ok : World → α → Prop
  keep : ∀ {w w' : World} {x : α}, ok w x → (∀ a v, w.cell? a = some v → w'.cell? a = some v) → ok w' x
structure RdG {α : Type} (K : KindR α) (D : ReadN α) (w : World) (p : Option Addr) (n c : Nat) (l : List α) : Prop where
  len : l.length = n
  cap : n ≤ c
  big : c ≤ maxLen
  mem : 0 < n → ∃ g, p = some ⟨g, 0, none⟩ ∧ ∀ j u, (K.row l)[j]? = some u → w.cell? ⟨g, j, none⟩ = some u
  ok : ∀ x ∈ l, D.ok w x
section
variable {α : Type} {K : KindR α} {D : ReadN α} {w w' : World} {p : Option Addr} {n c : Nat} {l : List α}
theorem RdG.keep (h : RdG K D w p n c l) (hk : ∀ a v, w.cell? a = some v → w'.cell? a = some v) : RdG K D w' p n c l :=
  ⟨h.len, h.cap, h.big, fun h0 => by
    obtain ⟨g, e, hc⟩ := h.mem h0
    exact ⟨g, e, fun j u hj => hk _ _ (hc j u hj)⟩, fun x hx => D.keep (h.ok x hx) hk⟩
theorem RdG.below (h : RdG K D w p n c l) (hb : Below w.heap.size w w') : RdG K D w' p n c l := h.keep (cell_below hb)
theorem RdG.le (h : RdG K D w p n c l) : n ≤ 9223372036854775807 := by
  have h1 := h.cap
  have h2 := h.big
  unfold maxLen at h2
  omega
theorem RdG.cell (h : RdG K D w p n c l) (j : Nat) (hj : j < l.length) : ∃ g, p = some ⟨g, 0, none⟩ ∧ (∀ i u, (K.cs l[j])[i]? = some u → w.cell? ⟨g, j * K.k + i, none⟩ = some u) ∧ D.ok w l[j] := by
  obtain ⟨g, e, hc⟩ := h.mem (by have := h.len; omega)
  exact ⟨g, e, fun i u hi => hc _ _ (K.row_get l j hj i u hi), h.ok _ (List.getElem_mem hj)⟩
theorem RowG.rd {N : NestR α} {base : Nat} {v : Value} (h : RowG K N w base v l) {n : Nat} (hn : l.length = n) (hd : ∀ x, N.ok w base x → D.ok w x) : ∃ p c, v = .slice p n c ∧ RdG K D w p n c l := by
  subst hn
  have hok : ∀ x ∈ l, D.ok w x := fun x hx => hd x (h.ok x hx)
  rcases h.own.2 with ⟨rfl, h0⟩ | ⟨g, cap, cur, rfl, hg, hh, hnc, hm, hs, ht⟩
  · exact ⟨none, 0, by rw [h0], rfl, by omega, by unfold maxLen; omega, fun h => by omega, hok⟩
  · refine ⟨_, _, rfl, rfl, hnc, hm, fun h0 => ⟨g, rfl, fun j u hj => ?_⟩, hok⟩
    have := World.ownsRow.cells h.own (g := g) rfl j u hj
    rw [WideShapes.add_plain, Nat.zero_add] at this
    exact this
theorem RdG.new (K : KindR α) (D : ReadN α) (w : World) (l : List α) (T : TypeId) (hl : l.length ≤ maxLen) (hd : ∀ x ∈ l, D.ok w x) : RdG K D (w.alloc (.cells (K.row l).toArray T)) (some ⟨w.heap.size, 0, none⟩) l.length l.length l :=
  ⟨rfl, Nat.le_refl _, hl, fun _ => ⟨_, rfl, fun j u hj => by
    rw [World.cell?_alloc_at _ _ _ _ rfl]
    simpa using hj⟩, fun x hx => D.keep (hd x hx) (cell_below ((Below.refl _ w).alloc (Nat.le_refl _) _))⟩
theorem RdG.src (h : RdG K D w p n c l) : SrcG K w p n l :=
  ⟨h.len, fun h0 => by
    obtain ⟨g, e, hc⟩ := h.mem h0
    exact ⟨_, e, fun j u hj => by rw [WideShapes.add_plain, Nat.zero_add]; exact hc j u hj⟩⟩
theorem RdG.front (h : RdG K D w p n c l) (j : Nat) (hj : j ≤ n) : RdG K D w p j c (l.take j) := by
  have hl := h.len
  refine ⟨by simp; omega, by have := h.cap; omega, h.big, fun h0 => ?_, fun x hx => h.ok x (List.mem_of_mem_take hx)⟩
  obtain ⟨g, e, hc⟩ := h.mem (by omega)
  refine ⟨g, e, fun i u hi => hc i u ?_⟩
  have h2 : K.row l = K.row (l.take j) ++ K.row (l.drop j) := by rw [← K.row_append, List.take_append_drop]
  rw [h2, List.getElem?_append_left (List.getElem?_eq_some_iff.1 hi).1]
  exact hi
end
end Go.Proofs.YtgpigjoonhghhaaDoor

namespace Go.Proofs.YtgpigjoonhghhaaDoor
open Go.RowKit
set_option linter.unusedVariables false
def BytesOk (w : World) (r : List Int × Bool) (e : Ending) (w' : World) : Prop := ∃ p n c, e = .returned (.tuple #[.slice p n c, .bool r.2]) ∧ Byt w' p n c r.1 ∧ Below w.heap.size w w'
def BodOk (w : World) (r : List Int × Bool) (e : Ending) (w' : World) : Prop := ∃ p n c, e = .returned (.tuple #[.slice p n c, .bool r.2]) ∧ Bod w' w.heap.size p n c r.1 ∧ Below w.heap.size w w'
set_option maxHeartbeats 400000 in
theorem slice_bod (p : Option Addr) (n c : Nat) (xs : List Int) (w : World) (h : Byt w p n c xs) (hb : n ≤ 140737488355328) (a k : Int) (ha : -9223372036854775808 ≤ a ∧ a ≤ 9223372036854775807) (hk : -9223372036854775808 ≤ k ∧ k ≤ 9223372036854775807) :
    Calls Tryd.prog 64 #[.slice p n c, .int .i64 a, .int .i64 k] w (BodOk w (pieceR xs a k)) := by
  have hn := h.le
  by_cases hi : 0 ≤ a ∧ 0 ≤ k ∧ a + k ≤ n
  · obtain ⟨a, rfl⟩ := Int.eq_ofNat_of_zero_le hi.1
    obtain ⟨k, rfl⟩ := Int.eq_ofNat_of_zero_le hi.2.1
    have hin : a + k ≤ n := by omega
    have hcap := h.cap
    have hp := h.part a (a + k) (by omega) hin
    rw [pieceR, if_pos (by have := h.len; omega)]
    have e1 : (xs.take (a + k)).drop a = (xs.drop a).take k := by rw [List.drop_take]; congr 1; omega
    have hr : ∀ x ∈ (xs.drop a).take k, 0 ≤ x ∧ x ≤ 255 := rng_take (rng_drop h.rng _) _
    rw [e1] at hp
    rw [show a + k - a = k by omega] at hp
    have HR := hidden hr
    clear h hi e1 hr
    by_cases hca : c = a
    · subst hca
      obtain rfl : k = 0 := by omega
      rw [if_pos rfl, Nat.sub_self] at hp
      have HB := hidden hp
      clear hp
      go_enter Tryd.func64, Tryd.ntmps64
      go_wp2_with (first | (go_at_call 72; refine (inside_yes _ _ _ _ _ _ (by omega) (by omega) (by omega) (by omega)).mono ?_; rintro e w' ⟨rfl, rfl⟩))
      refine (clone_any _ _ _ _ _ HB.out (by omega)).mono ?_
      rintro e w' ⟨v, rfl, hown, hbel⟩
      go_wp2
      obtain ⟨p', c', rfl, hby⟩ := hown.bod rfl HR.out
      go_ret2
      exact ⟨p', _, c', rfl, hby, hbel⟩
    · rw [if_neg hca] at hp
      have HB := hidden hp
      clear hp
      go_enter Tryd.func64, Tryd.ntmps64
      go_wp2_with (first | (go_at_call 72; refine (inside_yes _ _ _ _ _ _ (by omega) (by omega) (by omega) (by omega)).mono ?_; rintro e w' ⟨rfl, rfl⟩) | (go_at_call 57; refine (clone_any _ _ _ _ _ HB.out (by omega)).mono ?_; rintro e w' ⟨v, rfl, hown, hbel⟩))
      obtain ⟨p', c', rfl, hby⟩ := hown.bod rfl HR.out
      go_ret2
      exact ⟨p', _, c', rfl, hby, hbel⟩
  · rw [pieceR, if_neg (by have := h.len; omega)]
    clear h
    go_enter Tryd.func64, Tryd.ntmps64
    go_wp2_with (first | (go_at_call 72; refine (inside_no _ _ _ _ _ _ (by omega) (by omega) (by omega)).mono ?_; rintro e w' ⟨rfl, rfl⟩))
    go_ret2
    exact ⟨_, _, _, rfl, Bod.nil _ _ _ _ (Nat.zero_le _), Below.refl _ _⟩
end Go.Proofs.YtgpigjoonhghhaaDoor
