/-
  The keyed hash of the document, as functions on lists of numbers.
  A block of bytes of the call's own; copying a shorter slice into one; an element of an array of bytes.
  Numbers: powers modulo a number, Fermat's little theorem, and that the modulus of the small group and its order are primes.
-/
import Derived.Test.YtgpigjoonhghhaaDoorQCShaMath
import Derived.Test.YtgpigjoonhghhaaDoorQCShaWd
import Derived.Test.YtgpigjoonhghhaaDoorQCInfoB
import Derived.Test.YtgpigjoonhghhaaDoorQCOwnB
import Derived.Test.YtgpigjoonhghhaaDoorQCBytes
import Derived.Laws.CopyOwn
namespace Go.Proofs.YtgpigjoonhghhaaDoor
open Go.RowKit
set_option linter.unusedVariables false
theorem xor8_rng (a b : Int) : 0 ≤ bits .xor .u8 a b ∧ bits .xor .u8 a b ≤ 255 := by
  show 0 ≤ IntKind.u8.wrap _ ∧ IntKind.u8.wrap _ ≤ _
  rw [IntKind.wrap_u8]; omega
def keyS (key : List Int) : List Int := if 64 < key.length then shaS key else key
theorem keyS_len (key : List Int) : (keyS key).length ≤ 64 := by
  unfold keyS
  split
  · rw [shaS_len]; omega
  · omega
def padK (key : List Int) : List Int := keyS key ++ List.replicate (64 - (keyS key).length) 0
theorem padK_len (key : List Int) : (padK key).length = 64 := by
  have := keyS_len key
  simp [padK]; omega
def maskL (m : Int) (l : List Int) : List Int := l.map (fun x => bits .xor .u8 x m)
theorem maskL_len (m : Int) (l : List Int) : (maskL m l).length = l.length := by simp [maskL]
theorem maskL_rng (m : Int) (l : List Int) : ∀ x ∈ maskL m l, 0 ≤ x ∧ x ≤ 255 := by
  intro x hx
  obtain ⟨y, _, rfl⟩ := List.mem_map.1 hx
  exact xor8_rng _ _
theorem maskL_take (m : Int) (l : List Int) (j : Nat) (hj : j < l.length) : maskL m (l.take (j + 1)) = maskL m (l.take j) ++ [bits .xor .u8 (l.getD j 0) m] := by
  rw [List.take_succ_eq_append_getElem hj, maskL, maskL, List.map_append]
  simp [List.getD_eq_getElem?_getD, hj]
def maskS (m : Int) (key : List Int) : List Int := maskL m (padK key)
def hmacS (key b : List Int) : List Int := shaS (maskS 92 key ++ shaS (maskS 54 key ++ b))
theorem hmacS_len (key b : List Int) : (hmacS key b).length = 32 := shaS_len _
theorem hmacS_rng (key b : List Int) : ∀ x ∈ hmacS key b, 0 ≤ x ∧ x ≤ 255 := shaS_rng _
def plusT (key seed : List Int) : Nat → List Int
  | 0 => []
  | i + 1 => hmacS key (plusT key seed i ++ (seed ++ [((i + 1 : Nat) : Int) % 256]))
def plusO (key seed : List Int) : Nat → List Int
  | 0 => []
  | i + 1 => plusO key seed i ++ plusT key seed (i + 1)
theorem plusT_len (key seed : List Int) (i : Nat) : (plusT key seed (i + 1)).length = 32 := hmacS_len _ _
theorem plusT_le (key seed : List Int) (i : Nat) : (plusT key seed i).length ≤ 32 := by
  cases i with
  | zero => simp [plusT]
  | succ i => rw [plusT_len]; exact Nat.le_refl _
theorem plusT_rng (key seed : List Int) (i : Nat) : ∀ x ∈ plusT key seed i, 0 ≤ x ∧ x ≤ 255 := by
  cases i with
  | zero => intro x hx; cases hx
  | succ i => exact hmacS_rng _ _
theorem plusO_len (key seed : List Int) (i : Nat) : (plusO key seed i).length = 32 * i := by
  induction i with
  | zero => rfl
  | succ i ih => rw [plusO, List.length_append, ih, plusT_len]; omega
theorem plusO_rng (key seed : List Int) (i : Nat) : ∀ x ∈ plusO key seed i, 0 ≤ x ∧ x ≤ 255 := by
  induction i with
  | zero => intro x hx; cases hx
  | succ i ih => exact rng_append ih (plusT_rng _ _ _)
theorem plusO_take (key seed : List Int) (i d n : Nat) (h : n ≤ 32 * i) : (plusO key seed (i + d)).take n = (plusO key seed i).take n := by
  induction d with
  | zero => rfl
  | succ d ih => rw [← Nat.add_assoc, plusO, List.take_append_of_le_length (by rw [plusO_len]; omega), ih]
def plusS (key seed : List Int) (n : Nat) : List Int := (plusO key seed ((n + 31) / 32)).take n
theorem plusS_of (key seed : List Int) (i n : Nat) (h : n ≤ 32 * i) : (plusO key seed i).take n = plusS key seed n := by
  unfold plusS
  obtain ⟨d, hd⟩ : ∃ d, i = (n + 31) / 32 + d := ⟨i - (n + 31) / 32, by omega⟩
  rw [hd]
  exact plusO_take _ _ _ _ _ (by omega)
theorem plusS_len (key seed : List Int) (n : Nat) : (plusS key seed n).length = n := by
  rw [plusS, List.length_take, plusO_len]; omega
theorem plusS_rng (key seed : List Int) (n : Nat) : ∀ x ∈ plusS key seed n, 0 ≤ x ∧ x ≤ 255 := rng_take (plusO_rng _ _ _) _
def splitS (b : List Int) : List Int → Option (List (List Int))
  | [] => some []
  | n :: l => if 0 ≤ n ∧ n ≤ b.length then (splitS (b.drop n.toNat) l).map (b.take n.toNat :: ·) else none
theorem splitS_step (b : List Int) (sizes : List Int) (j at_ : Nat) (L : List (List Int)) (R : Option (List (List Int))) (hj : j < sizes.length) (hat : at_ ≤ b.length)
    (h : R = (splitS (b.drop at_) (sizes.drop j)).map (L ++ ·)) (h0 : 0 ≤ sizes.getD j 0) (h1 : at_ + (sizes.getD j 0).toNat ≤ b.length) :
    R = (splitS (b.drop (at_ + (sizes.getD j 0).toNat)) (sizes.drop (j + 1))).map ((L ++ [(b.drop at_).take (sizes.getD j 0).toNat]) ++ ·) := by
  rw [List.drop_eq_getElem_cons hj] at h
  have e : sizes[j] = sizes.getD j 0 := by simp [List.getD_eq_getElem?_getD, hj]
  rw [e] at h
  generalize sizes.getD j 0 = z at h h0 h1 ⊢
  rw [splitS, if_pos (by rw [List.length_drop]; omega), List.drop_drop, Option.map_map] at h
  rw [h]
  congr 1
  funext x
  simp
theorem splitS_fail (b : List Int) (sizes : List Int) (j at_ : Nat) (L : List (List Int)) (R : Option (List (List Int))) (hj : j < sizes.length) (hat : at_ ≤ b.length)
    (h : R = (splitS (b.drop at_) (sizes.drop j)).map (L ++ ·)) (h0 : ¬ (0 ≤ sizes.getD j 0 ∧ (at_ : Int) + sizes.getD j 0 ≤ b.length)) : R = none := by
  rw [List.drop_eq_getElem_cons hj] at h
  have e : sizes[j] = sizes.getD j 0 := by simp [List.getD_eq_getElem?_getD, hj]
  rw [e] at h
  generalize sizes.getD j 0 = z at h h0
  rw [splitS, if_neg (by rw [List.length_drop]; omega)] at h
  rw [h]
  rfl
theorem splitS_end (b : List Int) (sizes : List Int) (j at_ : Nat) (L : List (List Int)) (R : Option (List (List Int))) (hj : sizes.length ≤ j)
    (h : R = (splitS (b.drop at_) (sizes.drop j)).map (L ++ ·)) : R = some L := by
  rw [List.drop_eq_nil_of_le hj, splitS] at h
  simpa using h
end Go.Proofs.YtgpigjoonhghhaaDoor

namespace Go.Proofs.YtgpigjoonhghhaaDoor
open Go.RowKit
set_option linter.unusedVariables false
structure Wb (w : World) (g : Nat) (t : TypeId) (l : List Int) : Prop where
  heap : w.heap[g]? = some (.cells (l.map (Value.int .u8)).toArray t (0, 0))
section
variable {w : World} {g : Nat} {t : TypeId} {l : List Int}
theorem Wb.lt (h : Wb w g t l) : g < w.heap.size := (Array.getElem?_eq_some_iff.1 h.heap).1
theorem Wb.cell (h : Wb w g t l) (j : Nat) (hj : j < l.length) : w.cell? ⟨g, j, none⟩ = some (.int .u8 (l.getD j 0)) := by
  rw [cell_of_row w g j _ _ _ h.heap]
  simp [List.getD_eq_getElem?_getD, hj]
theorem Wb.fr (h : Wb w g t l) (j : Nat) : w.frozen? ⟨g, j, none⟩ = false := frozen_of_row w g j _ _ h.heap
theorem Wb.alloc (h : Wb w g t l) (o : Obj) : Wb (w.alloc o) g t l := ⟨by rw [Below.heap_alloc w o g h.lt]; exact h.heap⟩
theorem Wb.drew (h : Wb w g t l) : Wb w.drew g t l := ⟨h.heap⟩
theorem Wb.below {w' : World} (h : Wb w g t l) (hb : Below w.heap.size w w') : Wb w' g t l := ⟨by rw [hb.block g h.lt]; exact h.heap⟩
theorem Wb.row (h : Wb w g t l) (m : List Int) : Wb (w.setRow g (m.map (Value.int .u8)).toArray) g t m := ⟨setRow_heap w g _ _ _ _ h.heap⟩
theorem Wb.new (w : World) (t : TypeId) (l : List Int) (cs : Array Value) (hc : cs = (l.map (Value.int .u8)).toArray) : Wb (w.alloc (.cells cs t)) w.heap.size t l := ⟨by rw [heap_alloc_new]; rw [hc]⟩
theorem one8 (l : List Int) : ((l.map (Value.int .u8)).toArray).all (·.oneCell') = true := by
  simp [Value.oneCell']
theorem Wb.byt (h : Wb w g t l) (n : Nat) (hn : l.length = n) (hb : n ≤ maxLen) (hr : ∀ x ∈ l, 0 ≤ x ∧ x ≤ 255) : Byt w (some ⟨g, 0, none⟩) n n l :=
  ⟨hn, Nat.le_refl _, hb, hr, fun _ => ⟨g, 0, rfl, fun i hi => by rw [Nat.zero_add]; exact h.cell i hi⟩⟩
end
theorem run_index8 {P : Program} {t e : TypeId} {n : Nat} (ht : P.underlying t = some (.array n e)) (he : P.underlying e = some (.int .u8)) {i : TypeInfo} (hi : P.info? e = some i) (hs : i.size = 1) (l : List Int) (hl : l.length = n) (j : Nat) (hj : j < n) (w : World) :
    (Instr.index t (.agg (l.map (Value.int .u8)).toArray) (.int .i64 j)).run P w = .ok (.int .u8 (l.getD j 0)) w := by
  subst hl
  have h1 : (0 : Int) ≤ (j : Int) ∧ (j : Int) < (l.length : Int) := by omega
  have h2 : (Option.map (Value.int IntKind.u8) l[j]?) = some (.int .u8 (l.getD j 0)) := by
    simp [List.getD_eq_getElem?_getD, hj]
  unfold Instr.index
  simp [asIntOf, run_underlying ht, run_underlying he, part, isAgg, sizeOf, typeInfo, hi, hs, h2, Result.andThen]
  intro h
  omega
theorem wpList_copy_row {P : Program} {w : World} {ops : Array Oper} {rest : List Oper} {o : Oper} {a : Act} {Q : Exit → Act → World → Prop} (hgd : o.guard = none) (d s : Operand) (dT sT : TypeId)
    (ho : o.op = .call { callee := .builtin .copy, args := #[d, s], argTypes := #[dT, sT] }) (elem : TypeId) (hu : P.underlying dT = some (.slice elem)) (hsz : (P.info? elem).map (·.size) = some 1)
    (g n m : Nat) (hd : a.eval d = .slice (some ⟨g, 0, none⟩) n m) (zs : List Int) (t : TypeId) (hg : w.heap[g]? = some (.cells (zs.map (Value.int .u8)).toArray t (0, 0))) (hzn : n ≤ zs.length)
    (p : Option Addr) (k c : Nat) (ys : List Int) (hs : a.eval s = .slice p k c) (hy : Byt w p k c ys) (hk : k ≤ n)
    (R : List Int) (hR : ys ++ zs.drop k = R) (h : ∀ w', Hid (Wb w' g t R) → Hid (w.grownBy w' (some g)) → wpList P ops Q rest (a.put o.dst (goInt k)) w') : wpList P ops Q (o :: rest) a w := by
  subst hR
  have hlen := hy.len
  rcases Nat.eq_zero_or_pos k with h0 | h0
  · subst h0
    obtain rfl : ys = [] := List.eq_nil_of_length_eq_zero hlen
    refine wpList_copy_nothing hgd d s dT sT ho elem hu hsz _ _ _ _ _ _ hd hs (by simp) ?_
    exact h w ⟨by simpa using hg⟩ (World.grownBy.refl w _)
  · obtain ⟨b, off, rfl, hc⟩ := hy.at_ h0
    refine wpList_copy_own hgd d s dT sT ho elem hu hsz g 0 _ _ _ _ _ hd hs _ t hg (ys.map (Value.int .u8)) (by simp [hlen]; exact (Nat.min_eq_left hk).symm) (fun j u hj => hy.src j u hj) (by simp [hlen]; omega) (u8_one ys) ?_
    have := h (w.setRow g ((zs.map (Value.int .u8)).toArray.toList.take 0 ++ (ys.map (Value.int .u8) ++ (zs.map (Value.int .u8)).toArray.toList.drop (0 + (ys.map (Value.int .u8)).length))).toArray)
      ⟨by rw [setRow_heap w g _ _ t _ hg]; simp [hlen, List.map_drop]⟩
      ⟨rfl, rfl, rfl, by simp, fun k hk hne => setRow_other w g k _ (fun e => hne (by rw [e]))⟩
    simpa [hlen] using this
end Go.Proofs.YtgpigjoonhghhaaDoor

namespace Go.Proofs.YtgpigjoonhghhaaDoor
set_option linter.unusedVariables false
def IsP (n : Nat) : Prop := 2 ≤ n ∧ ∀ d, d ∣ n → d = 1 ∨ d = n
def choose : Nat → Nat → Nat
  | _, 0 => 1
  | 0, _ + 1 => 0
  | n + 1, k + 1 => choose n k + choose n (k + 1)
def row (n a : Nat) : Nat → Nat
  | 0 => 0
  | m + 1 => row n a m + choose n m * a ^ m
def pw (N : Nat) : Nat → Nat → Nat → Nat
  | 0, _, _ => 1
  | k + 1, a, e => if e % 2 = 1 then a * pw N k (a * a % N) (e / 2) % N else pw N k (a * a % N) (e / 2)
def noDiv (n : Nat) : Nat → Bool
  | 0 => true
  | k + 1 => n % (k + 2) != 0 && noDiv n k
def gp : Nat := 4611686018427377339
def gq : Nat := 2305843009213688669
def gmul (a b : Nat) : Nat := a * b % gp
def gpow (a e : Nat) : Nat := a ^ e % gp
def gel (a : Nat) : Bool := decide (2 ≤ a) && decide (a < gp) && gpow a gq == 1
end Go.Proofs.YtgpigjoonhghhaaDoor
