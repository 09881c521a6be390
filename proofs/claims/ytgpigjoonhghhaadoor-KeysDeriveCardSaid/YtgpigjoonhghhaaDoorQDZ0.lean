/-
  The keyed hash of the document, as functions on lists of numbers.
  A block of bytes of the call's own; copying a shorter slice into one; an element of an array of bytes.
  Bytes that lie in a block of bytes of the call's own: they stay while rows of other things, or blocks of before, are written.
  Slices of ints, and rows of slices of bytes of the call's own.
-/
import Derived.Test.YtgpigjoonhghhaaDoorQDShaMath
import Derived.Test.YtgpigjoonhghhaaDoorQDShaWd
import Derived.Test.YtgpigjoonhghhaaDoorQDInfoB
import Derived.Test.YtgpigjoonhghhaaDoorQDOwnB
import Derived.Test.YtgpigjoonhghhaaDoorRows
import Derived.Test.YtgpigjoonhghhaaDoorQDGrow
import Derived.Test.YtgpigjoonhghhaaDoorQDZ4
import Derived.Laws.CopyOwn
namespace Go.Proofs.YtgpigjoonhghhaaDoor
open Go.RowKit
set_option linter.unusedVariables false
theorem xor8_comm (a b : Int) : bits .xor .u8 a b = bits .xor .u8 b a := by
  show IntKind.u8.wrap ((BitVec.ofInt 8 a ^^^ BitVec.ofInt 8 b).toNat : Int) = IntKind.u8.wrap ((BitVec.ofInt 8 b ^^^ BitVec.ofInt 8 a).toNat : Int)
  rw [BitVec.xor_comm]
theorem xor8_rng (a b : Int) : 0 ≤ bits .xor .u8 a b ∧ bits .xor .u8 a b ≤ 255 := by
  show 0 ≤ IntKind.u8.wrap _ ∧ IntKind.u8.wrap _ ≤ _
  rw [IntKind.wrap_u8]; omega
theorem xor8_zero (m : Int) (h : 0 ≤ m ∧ m ≤ 255) : bits .xor .u8 0 m = m := by
  show IntKind.u8.wrap ((BitVec.ofInt 8 0 ^^^ BitVec.ofInt 8 m).toNat : Int) = m
  rw [IntKind.wrap_u8, show BitVec.ofInt 8 0 = 0#8 from rfl, BitVec.zero_xor, BitVec.toNat_ofInt]
  omega
def keyS (key : List Int) : List Int := if 64 < key.length then shaS key else key
theorem keyS_len (key : List Int) : (keyS key).length ≤ 64 := by
  unfold keyS
  split
  · rw [shaS_len]; omega
  · omega
def padK (key : List Int) : List Int := keyS key ++ List.replicate (64 - (keyS key).length) 0
theorem padK_len (key : List Int) : (padK key).length = 64 := by
  have := keyS_len key
  simp [padK]; omega
def maskL (m : Int) (l : List Int) : List Int := l.map (fun x => bits .xor .u8 x m)
theorem maskL_len (m : Int) (l : List Int) : (maskL m l).length = l.length := by simp [maskL]
theorem maskL_rng (m : Int) (l : List Int) : ∀ x ∈ maskL m l, 0 ≤ x ∧ x ≤ 255 := by
  intro x hx
  obtain ⟨y, _, rfl⟩ := List.mem_map.1 hx
  exact xor8_rng _ _
theorem maskL_take (m : Int) (l : List Int) (j : Nat) (hj : j < l.length) : maskL m (l.take (j + 1)) = maskL m (l.take j) ++ [bits .xor .u8 (l.getD j 0) m] := by
  rw [List.take_succ_eq_append_getElem hj, maskL, maskL, List.map_append]
  simp [List.getD_eq_getElem?_getD, hj]
def maskS (m : Int) (key : List Int) : List Int := maskL m (padK key)
theorem maskS_len (m : Int) (key : List Int) : (maskS m key).length = 64 := by rw [maskS, maskL_len, padK_len]
theorem maskS_in (m : Int) (key : List Int) (j : Nat) (hj : j < (keyS key).length) : (maskS m key).getD j 0 = bits .xor .u8 m ((keyS key).getD j 0) := by
  have hl := keyS_len key
  rw [xor8_comm, maskS, maskL, padK, List.getD_eq_getElem?_getD, List.getElem?_map, List.getElem?_append_left hj, List.getElem?_eq_getElem hj, List.getD_eq_getElem?_getD, List.getElem?_eq_getElem hj]
  rfl
theorem maskS_out (m : Int) (hm : 0 ≤ m ∧ m ≤ 255) (key : List Int) (j : Nat) (hj : ¬ j < (keyS key).length) (h64 : j < 64) : (maskS m key).getD j 0 = m := by
  have hl := keyS_len key
  rw [maskS, maskL, padK, List.getD_eq_getElem?_getD, List.getElem?_map, List.getElem?_append_right (by omega), List.getElem?_replicate, if_pos (by omega)]
  exact xor8_zero m hm
theorem take_getD (l : List Int) (j : Nat) (hj : j < l.length) : l.take (j + 1) = l.take j ++ [l.getD j 0] := by
  rw [List.take_succ_eq_append_getElem hj]
  simp [List.getD_eq_getElem?_getD, hj]
def hmacS (key b : List Int) : List Int := shaS (maskS 92 key ++ shaS (maskS 54 key ++ b))
theorem hmacS_len (key b : List Int) : (hmacS key b).length = 32 := shaS_len _
theorem hmacS_rng (key b : List Int) : ∀ x ∈ hmacS key b, 0 ≤ x ∧ x ≤ 255 := shaS_rng _
def plusT (key seed : List Int) : Nat → List Int
  | 0 => []
  | i + 1 => hmacS key (plusT key seed i ++ (seed ++ [((i + 1 : Nat) : Int) % 256]))
def plusO (key seed : List Int) : Nat → List Int
  | 0 => []
  | i + 1 => plusO key seed i ++ plusT key seed (i + 1)
theorem plusT_len (key seed : List Int) (i : Nat) : (plusT key seed (i + 1)).length = 32 := hmacS_len _ _
theorem plusT_le (key seed : List Int) (i : Nat) : (plusT key seed i).length ≤ 32 := by
  cases i with
  | zero => simp [plusT]
  | succ i => rw [plusT_len]; exact Nat.le_refl _
theorem plusT_rng (key seed : List Int) (i : Nat) : ∀ x ∈ plusT key seed i, 0 ≤ x ∧ x ≤ 255 := by
  cases i with
  | zero => intro x hx; cases hx
  | succ i => exact hmacS_rng _ _
theorem plusO_len (key seed : List Int) (i : Nat) : (plusO key seed i).length = 32 * i := by
  induction i with
  | zero => rfl
  | succ i ih => rw [plusO, List.length_append, ih, plusT_len]; omega
theorem plusO_rng (key seed : List Int) (i : Nat) : ∀ x ∈ plusO key seed i, 0 ≤ x ∧ x ≤ 255 := by
  induction i with
  | zero => intro x hx; cases hx
  | succ i ih => exact rng_append ih (plusT_rng _ _ _)
theorem plusO_take (key seed : List Int) (i d n : Nat) (h : n ≤ 32 * i) : (plusO key seed (i + d)).take n = (plusO key seed i).take n := by
  induction d with
  | zero => rfl
  | succ d ih => rw [← Nat.add_assoc, plusO, List.take_append_of_le_length (by rw [plusO_len]; omega), ih]
def plusS (key seed : List Int) (n : Nat) : List Int := (plusO key seed ((n + 31) / 32)).take n
theorem plusS_of (key seed : List Int) (i n : Nat) (h : n ≤ 32 * i) : (plusO key seed i).take n = plusS key seed n := by
  unfold plusS
  obtain ⟨d, hd⟩ : ∃ d, i = (n + 31) / 32 + d := ⟨i - (n + 31) / 32, by omega⟩
  rw [hd]
  exact plusO_take _ _ _ _ _ (by omega)
theorem plusS_len (key seed : List Int) (n : Nat) : (plusS key seed n).length = n := by
  rw [plusS, List.length_take, plusO_len]; omega
theorem plusS_rng (key seed : List Int) (n : Nat) : ∀ x ∈ plusS key seed n, 0 ≤ x ∧ x ≤ 255 := rng_take (plusO_rng _ _ _) _
def splitS (b : List Int) : List Int → Option (List (List Int))
  | [] => some []
  | n :: l => if 0 ≤ n ∧ n ≤ b.length then (splitS (b.drop n.toNat) l).map (b.take n.toNat :: ·) else none
theorem splitS_step (b : List Int) (sizes : List Int) (j at_ : Nat) (L : List (List Int)) (R : Option (List (List Int))) (hj : j < sizes.length) (hat : at_ ≤ b.length)
    (h : R = (splitS (b.drop at_) (sizes.drop j)).map (L ++ ·)) (h0 : 0 ≤ sizes.getD j 0) (h1 : at_ + (sizes.getD j 0).toNat ≤ b.length) :
    R = (splitS (b.drop (at_ + (sizes.getD j 0).toNat)) (sizes.drop (j + 1))).map ((L ++ [(b.drop at_).take (sizes.getD j 0).toNat]) ++ ·) := by
  rw [List.drop_eq_getElem_cons hj] at h
  have e : sizes[j] = sizes.getD j 0 := by simp [List.getD_eq_getElem?_getD, hj]
  rw [e] at h
  generalize sizes.getD j 0 = z at h h0 h1 ⊢
  rw [splitS, if_pos (by rw [List.length_drop]; omega), List.drop_drop, Option.map_map] at h
  rw [h]
  congr 1
  funext x
  simp
theorem splitS_fail (b : List Int) (sizes : List Int) (j at_ : Nat) (L : List (List Int)) (R : Option (List (List Int))) (hj : j < sizes.length) (hat : at_ ≤ b.length)
    (h : R = (splitS (b.drop at_) (sizes.drop j)).map (L ++ ·)) (h0 : ¬ (0 ≤ sizes.getD j 0 ∧ (at_ : Int) + sizes.getD j 0 ≤ b.length)) : R = none := by
  rw [List.drop_eq_getElem_cons hj] at h
  have e : sizes[j] = sizes.getD j 0 := by simp [List.getD_eq_getElem?_getD, hj]
  rw [e] at h
  generalize sizes.getD j 0 = z at h h0
  rw [splitS, if_neg (by rw [List.length_drop]; omega)] at h
  rw [h]
  rfl
theorem splitS_end (b : List Int) (sizes : List Int) (j at_ : Nat) (L : List (List Int)) (R : Option (List (List Int))) (hj : sizes.length ≤ j)
    (h : R = (splitS (b.drop at_) (sizes.drop j)).map (L ++ ·)) : R = some L := by
  rw [List.drop_eq_nil_of_le hj, splitS] at h
  simpa using h
end Go.Proofs.YtgpigjoonhghhaaDoor

namespace Go.Proofs.YtgpigjoonhghhaaDoor
open Go.RowKit
set_option linter.unusedVariables false
structure Wb (w : World) (g : Nat) (t : TypeId) (l : List Int) : Prop where
  heap : w.heap[g]? = some (.cells (l.map (Value.int .u8)).toArray t (0, 0))
section
variable {w : World} {g : Nat} {t : TypeId} {l : List Int}
theorem Wb.lt (h : Wb w g t l) : g < w.heap.size := (Array.getElem?_eq_some_iff.1 h.heap).1
theorem Wb.cell (h : Wb w g t l) (j : Nat) (hj : j < l.length) : w.cell? ⟨g, j, none⟩ = some (.int .u8 (l.getD j 0)) := by
  rw [cell_of_row w g j _ _ _ h.heap]
  simp [List.getD_eq_getElem?_getD, hj]
theorem Wb.fr (h : Wb w g t l) (j : Nat) : w.frozen? ⟨g, j, none⟩ = false := frozen_of_row w g j _ _ h.heap
theorem Wb.alloc (h : Wb w g t l) (o : Obj) : Wb (w.alloc o) g t l := ⟨by rw [Below.heap_alloc w o g h.lt]; exact h.heap⟩
theorem Wb.drew (h : Wb w g t l) : Wb w.drew g t l := ⟨h.heap⟩
theorem Wb.below {w' : World} (h : Wb w g t l) (hb : Below w.heap.size w w') : Wb w' g t l := ⟨by rw [hb.block g h.lt]; exact h.heap⟩
theorem Wb.row (h : Wb w g t l) (m : List Int) : Wb (w.setRow g (m.map (Value.int .u8)).toArray) g t m := ⟨setRow_heap w g _ _ _ _ h.heap⟩
theorem Wb.new (w : World) (t : TypeId) (l : List Int) (cs : Array Value) (hc : cs = (l.map (Value.int .u8)).toArray) : Wb (w.alloc (.cells cs t)) w.heap.size t l := ⟨by rw [heap_alloc_new]; rw [hc]⟩
theorem one8 (l : List Int) : ((l.map (Value.int .u8)).toArray).all (·.oneCell') = true := by
  simp [Value.oneCell']
theorem Wb.byt (h : Wb w g t l) (n : Nat) (hn : l.length = n) (hb : n ≤ maxLen) (hr : ∀ x ∈ l, 0 ≤ x ∧ x ≤ 255) : Byt w (some ⟨g, 0, none⟩) n n l :=
  ⟨hn, Nat.le_refl _, hb, hr, fun _ => ⟨g, 0, rfl, fun i hi => by rw [Nat.zero_add]; exact h.cell i hi⟩⟩
end
theorem run_index8 {P : Program} {t e : TypeId} {n : Nat} (ht : P.underlying t = some (.array n e)) (he : P.underlying e = some (.int .u8)) {i : TypeInfo} (hi : P.info? e = some i) (hs : i.size = 1) (l : List Int) (hl : l.length = n) (j : Nat) (hj : j < n) (w : World) :
    (Instr.index t (.agg (l.map (Value.int .u8)).toArray) (.int .i64 j)).run P w = .ok (.int .u8 (l.getD j 0)) w := by
  subst hl
  have h1 : (0 : Int) ≤ (j : Int) ∧ (j : Int) < (l.length : Int) := by omega
  have h2 : (Option.map (Value.int IntKind.u8) l[j]?) = some (.int .u8 (l.getD j 0)) := by
    simp [List.getD_eq_getElem?_getD, hj]
  unfold Instr.index
  simp [asIntOf, run_underlying ht, run_underlying he, part, isAgg, sizeOf, typeInfo, hi, hs, h2, Result.andThen]
  intro h
  omega
theorem wpList_copy_row {P : Program} {w : World} {ops : Array Oper} {rest : List Oper} {o : Oper} {a : Act} {Q : Exit → Act → World → Prop} (hgd : o.guard = none) (d s : Operand) (dT sT : TypeId)
    (ho : o.op = .call { callee := .builtin .copy, args := #[d, s], argTypes := #[dT, sT] }) (elem : TypeId) (hu : P.underlying dT = some (.slice elem)) (hsz : (P.info? elem).map (·.size) = some 1)
    (g n m : Nat) (hd : a.eval d = .slice (some ⟨g, 0, none⟩) n m) (zs : List Int) (t : TypeId) (hg : w.heap[g]? = some (.cells (zs.map (Value.int .u8)).toArray t (0, 0))) (hzn : n ≤ zs.length)
    (p : Option Addr) (k c : Nat) (ys : List Int) (hs : a.eval s = .slice p k c) (hy : Byt w p k c ys) (hk : k ≤ n)
    (R : List Int) (hR : ys ++ zs.drop k = R) (h : ∀ w', Hid (Wb w' g t R) → Hid (w.grownBy w' (some g)) → wpList P ops Q rest (a.put o.dst (goInt k)) w') : wpList P ops Q (o :: rest) a w := by
  subst hR
  have hlen := hy.len
  rcases Nat.eq_zero_or_pos k with h0 | h0
  · subst h0
    obtain rfl : ys = [] := List.eq_nil_of_length_eq_zero hlen
    refine wpList_copy_nothing hgd d s dT sT ho elem hu hsz _ _ _ _ _ _ hd hs (by simp) ?_
    exact h w ⟨by simpa using hg⟩ (World.grownBy.refl w _)
  · obtain ⟨b, off, rfl, hc⟩ := hy.at_ h0
    refine wpList_copy_own hgd d s dT sT ho elem hu hsz g 0 _ _ _ _ _ hd hs _ t hg (ys.map (Value.int .u8)) (by simp [hlen]; exact (Nat.min_eq_left hk).symm) (fun j u hj => hy.src j u hj) (by simp [hlen]; omega) (u8_one ys) ?_
    have := h (w.setRow g ((zs.map (Value.int .u8)).toArray.toList.take 0 ++ (ys.map (Value.int .u8) ++ (zs.map (Value.int .u8)).toArray.toList.drop (0 + (ys.map (Value.int .u8)).length))).toArray)
      ⟨by rw [setRow_heap w g _ _ t _ hg]; simp [hlen, List.map_drop]⟩
      ⟨rfl, rfl, rfl, by simp, fun k hk hne => setRow_other w g k _ (fun e => hne (by rw [e]))⟩
    simpa [hlen] using this
end Go.Proofs.YtgpigjoonhghhaaDoor

namespace Go.Proofs.YtgpigjoonhghhaaDoor
open Go.RowKit
set_option linter.unusedVariables false
structure Bod (w : World) (base : Nat) (p : Option Addr) (n c : Nat) (xs : List Int) : Prop where
  byt : Byt w p n c xs
  own : 0 < n → ∃ b o cur fz, p = some ⟨b, o, none⟩ ∧ base ≤ b ∧ w.heap[b]? = some (.cells cur 5 fz)
def OffB (w : World) (base : Nat) (row : Option Nat) : Prop := ∀ r, row = some r → r < base ∨ ∀ cur fz, w.heap[r]? ≠ some (.cells cur 5 fz)
theorem OffB.none (w : World) (base : Nat) : OffB w base none := fun r h => by cases h
theorem OffB.low {w : World} {base k : Nat} (h : k < base) : OffB w base (some k) := fun r hr => by cases hr; exact Or.inl h
theorem Bod.grown {w w' : World} {base : Nat} {p : Option Addr} {n c : Nat} {xs : List Int} {row : Option Nat} (h : Bod w base p n c xs) (hg : w.grownBy w' row) (hr : OffB w base row) : Bod w' base p n c xs := by
  rcases Nat.eq_zero_or_pos n with h0 | h0
  · have hx : xs = [] := List.eq_nil_of_length_eq_zero (h.byt.len.trans h0)
    subst h0 hx
    exact ⟨Byt.nil _ _ _ h.byt.big, fun h => by omega⟩
  · obtain ⟨b, o, cur, fz, rfl, hb, hh⟩ := h.own h0
    have hne : some b ≠ row := by
      intro e
      rcases hr b e.symm with h1 | h1
      · omega
      · exact h1 _ _ hh
    have hlt : b < w.heap.size := (Array.getElem?_eq_some_iff.1 hh).1
    have hblk := hg.block b hlt hne
    refine ⟨⟨h.byt.len, h.byt.cap, h.byt.big, h.byt.rng, fun hn => ?_⟩, fun _ => ⟨b, o, cur, fz, rfl, hb, hblk.trans hh⟩⟩
    obtain ⟨b', o', e, hc⟩ := h.byt.mem hn
    injection e with e
    injection e with e1 e2
    subst e1 e2
    exact ⟨b, o, rfl, fun i hi => (World.cell?_of_block (a := ⟨b, o + i, none⟩) hblk).trans (hc i hi)⟩
theorem Bod.below {w w' : World} {base : Nat} {p : Option Addr} {n c : Nat} {xs : List Int} (h : Bod w base p n c xs) (hb : Below w.heap.size w w') : Bod w' base p n c xs :=
  h.grown (row := none) ⟨hb.os, hb.tape, hb.output, hb.size, fun i hi _ => hb.block i hi⟩ (OffB.none _ _)
theorem Bod.alloc {w : World} {base : Nat} {p : Option Addr} {n c : Nat} {xs : List Int} (h : Bod w base p n c xs) (o : Obj) : Bod (w.alloc o) base p n c xs := h.below ((Below.refl _ w).alloc (Nat.le_refl _) o)
theorem Bod.mono {w : World} {base base' : Nat} {p : Option Addr} {n c : Nat} {xs : List Int} (h : Bod w base p n c xs) (hb : base' ≤ base) : Bod w base' p n c xs :=
  ⟨h.byt, fun h0 => by
    obtain ⟨b, o, cur, fz, e, hb', hh⟩ := h.own h0
    exact ⟨b, o, cur, fz, e, by omega, hh⟩⟩
theorem Own.bod {w : World} {base : Nat} {v : Value} {xs : List Int} {n : Nat} (h : Own w base 5 v xs) (hl : xs.length = n) (hr : ∀ x ∈ xs, 0 ≤ x ∧ x ≤ 255) : ∃ p c, v = .slice p n c ∧ Bod w base p n c xs := by
  obtain ⟨p, c, rfl, hb⟩ := h.bytN rfl hl hr
  refine ⟨p, c, rfl, hb, fun h0 => ?_⟩
  rcases h.2 with ⟨hv, hn⟩ | ⟨g, cap, cur, hv, hg, hh, _⟩
  · omega
  · simp at hv
    exact ⟨g, 0, cur, (0, 0), hv.1, hg, hh⟩
theorem Bod.nil (w : World) (base : Nat) (p : Option Addr) (c : Nat) (hc : c ≤ maxLen) : Bod w base p 0 c [] := ⟨Byt.nil _ _ _ hc, fun h => by omega⟩
end Go.Proofs.YtgpigjoonhghhaaDoor

namespace Go.Proofs.YtgpigjoonhghhaaDoor
open Go.RowKit Go.ChangeShapes Go.WideShapes
set_option linter.unusedVariables false
structure Its (w : World) (p : Option Addr) (n c : Nat) (xs : List Int) : Prop where
  len : xs.length = n
  cap : n ≤ c
  big : c ≤ maxLen
  rng : ∀ x ∈ xs, -9223372036854775808 ≤ x ∧ x ≤ 9223372036854775807
  mem : 0 < n → ∃ b o, p = some ⟨b, o, none⟩ ∧ ∀ i, i < n → w.cell? ⟨b, o + i, none⟩ = some (.int .i64 (xs.getD i 0))
theorem Its.keep {w w' : World} {p : Option Addr} {n c : Nat} {xs : List Int} (h : Its w p n c xs) (hk : ∀ a v, w.cell? a = some v → w'.cell? a = some v) : Its w' p n c xs :=
  ⟨h.len, h.cap, h.big, h.rng, fun h0 => by
    obtain ⟨b, o, e, hc⟩ := h.mem h0
    exact ⟨b, o, e, fun i hi => hk _ _ (hc i hi)⟩⟩
theorem Its.below {w w' : World} {p : Option Addr} {n c : Nat} {xs : List Int} (h : Its w p n c xs) (hb : Below w.heap.size w w') : Its w' p n c xs := h.keep (cell_below hb)
theorem Its.le' {w : World} {p : Option Addr} {n c : Nat} {xs : List Int} (h : Its w p n c xs) : n ≤ 9223372036854775807 := by
  have h1 := h.cap
  have h2 := h.big
  unfold maxLen at h2
  omega
theorem Its.at_ {w : World} {p : Option Addr} {n c : Nat} {xs : List Int} (h : Its w p n c xs) (j : Nat) (hj : j < n) : ∃ b o, p = some ⟨b, o, none⟩ ∧ w.cell? ⟨b, o + j, none⟩ = some (.int .i64 (xs.getD j 0)) := by
  obtain ⟨b, o, e, hc⟩ := h.mem (by omega)
  exact ⟨b, o, e, hc j hj⟩
theorem Its.at_rng {w : World} {p : Option Addr} {n c : Nat} {xs : List Int} (h : Its w p n c xs) (j : Nat) : -9223372036854775808 ≤ xs.getD j 0 ∧ xs.getD j 0 ≤ 9223372036854775807 := by
  rw [List.getD_eq_getElem?_getD]
  rcases Nat.lt_or_ge j xs.length with hi | hi
  · rw [List.getElem?_eq_getElem hi]
    exact h.rng _ (List.getElem_mem hi)
  · rw [List.getElem?_eq_none hi]
    simp
theorem Its.nil (w : World) : Its w none 0 0 [] := ⟨rfl, Nat.le_refl _, Nat.zero_le _, (fun x hx => by simp at hx), (fun h => by omega)⟩
def KIn : KindR Int where
  e := 3
  k := 1
  cs x := [.int .i64 x]
  len _ := rfl
  one x u hu := by
    simp at hu
    subst hu
    rfl
  pos := by decide
def NIn : NestR Int where
  ts := []
  ok _ _ x := -9223372036854775808 ≤ x ∧ x ≤ 9223372036854775807
  keep h _ _ := h
  mono h _ := h
theorem row_in (l : List Int) (j : Nat) (hj : j < l.length) : (KIn.row l)[j]? = some (.int .i64 (l.getD j 0)) := by
  have := KIn.row_get l j hj 0 (.int .i64 l[j]) rfl
  simp only [KIn, Nat.mul_one, Nat.add_zero] at this
  rw [List.getD_eq_getElem?_getD, List.getElem?_eq_getElem hj]
  exact this
theorem RowG.its {w : World} {base : Nat} {v : Value} {l : List Int} (h : RowG KIn NIn w base v l) {n : Nat} (hn : l.length = n) : ∃ p c, v = .slice p n c ∧ Its w p n c l := by
  subst hn
  rcases Nat.eq_zero_or_pos l.length with h0 | h0
  · rcases h.own.2 with ⟨rfl, hz⟩ | ⟨g, cap, cur, rfl, hg, hh, hnc, hm, hs, ht⟩
    · exact ⟨none, 0, by rw [h0], rfl, by omega, by unfold maxLen; omega, h.ok, fun h => by omega⟩
    · exact ⟨_, _, rfl, rfl, hnc, hm, h.ok, fun h => by omega⟩
  · obtain ⟨g, c, e, hnc, hm, _, _, hc, _⟩ := h.at_ rfl h0
    exact ⟨_, _, e, rfl, hnc, hm, h.ok, fun _ => ⟨g, 0, rfl, fun i hi => by rw [Nat.zero_add]; exact hc i _ (row_in l i hi)⟩⟩
structure Bl where
  p : Option Addr
  n : Nat
  c : Nat
  xs : List Int
def KBl : KindR Bl where
  e := 22
  k := 1
  cs x := [.slice x.p x.n x.c]
  len _ := rfl
  one x u hu := by
    simp at hu
    subst hu
    rfl
  pos := by decide
def NBl : NestR Bl where
  ts := [5]
  ok w base x := Bod w base x.p x.n x.c x.xs
  keep h hg ho := h.grown hg (fun r hr => (ho r hr).imp id (fun h2 cur fz e => h2 cur _ fz e (by simp)))
  mono h hb := h.mono hb
def DBl : ReadN Bl where
  ok w x := Byt w x.p x.n x.c x.xs
  keep h hk := h.keep hk
theorem Tryd.infoBl : (Tryd.prog.info? 22).map (fun i => (i.zero, i.size, i.bytes)) = some (some (.slice none 0 0), 1, 24) := by kernel_rfl
theorem knownBl : KnownR Tryd.prog KBl 58 24 := by
  refine ⟨Tryd.underlying58, ?_⟩
  obtain ⟨i0, hi, hz0, hz1, hz2⟩ := info_parts Tryd.infoBl
  exact ⟨i0, _, hi, hz0, hz1, hz2, rfl⟩
theorem srcBl (w : World) (x : Bl) (T : TypeId) : SrcG KBl (w.alloc (.cells #[.slice x.p x.n x.c] T)) (some ⟨w.heap.size, 0, none⟩) 1 [x] := SrcG.new KBl w [x] T
theorem RowG.bls {w : World} {base : Nat} {v : Value} {l : List Bl} (h : RowG KBl NBl w base v l) {n : Nat} (hn : l.length = n) : ∃ p c, v = .slice p n c ∧ RdG KBl DBl w p n c l := h.rd hn (fun x hx => hx.byt)
theorem RdG.bl {w : World} {p : Option Addr} {n c : Nat} {l : List Bl} (h : RdG KBl DBl w p n c l) (j : Nat) (hj : j < l.length) : ∃ g, p = some ⟨g, 0, none⟩ ∧ w.cell? ⟨g, j, none⟩ = some (.slice l[j].p l[j].n l[j].c) ∧ Byt w l[j].p l[j].n l[j].c l[j].xs := by
  obtain ⟨g, e, hc, ho⟩ := h.cell j hj
  have := hc 0 _ rfl
  simp only [KBl, Nat.mul_one, Nat.add_zero] at this
  exact ⟨g, e, this, ho⟩
end Go.Proofs.YtgpigjoonhghhaaDoor
