/-
  What lies where during the document's ladder; the document's functions as the statements that draw their order want them.
-/
import Derived.Test.YtilnbmlbahflkaaMRCrvRed
import Derived.Test.YtilnbmlbahflkaaMFlowC
import Derived.Test.YtilnbmlbahflkaaMCrvSpec
namespace Go.Proofs.Ytilnbmlbahflkaa
open Go.RowKit
set_option linter.unusedVariables false

/-- A value is an element of the document's: its digits are below 2^16, and it stands for x. -/
def ResD (x : K) (v : Value) : Prop := ∃ L, v = .agg (ints .u64 L) ∧ Ld 65536 L ∧ fd L = x
theorem dadd_c (A B : List Int) (hA : Ld 65536 A) (hB : Ld 65536 B) (U : World) : Calls Try.prog 23 #[.agg (ints .u64 A), .agg (ints .u64 B)] U fun e w' => ∃ v, e = .returned v ∧ (ResD (fd A + fd B) v ∧ Below U.heap.size U w') :=
  (fadd_any A B hA hB U).mono fun e w' ⟨R, h, h1, h2, hb⟩ => ⟨_, h, ⟨R, rfl, h1, h2⟩, hb⟩
theorem dsub_c (A B : List Int) (hA : Ld 65536 A) (hB : Ld 65536 B) (U : World) : Calls Try.prog 24 #[.agg (ints .u64 A), .agg (ints .u64 B)] U fun e w' => ∃ v, e = .returned v ∧ (ResD (fd A - fd B) v ∧ Below U.heap.size U w') :=
  (fsub_any A B hA hB U).mono fun e w' ⟨R, h, h1, h2, hb⟩ => ⟨_, h, ⟨R, rfl, h1, h2⟩, hb⟩
theorem dmul_c (A B : List Int) (hA : Ld 65536 A) (hB : Ld 65536 B) (U : World) : Calls Try.prog 25 #[.agg (ints .u64 A), .agg (ints .u64 B)] U fun e w' => ∃ v, e = .returned v ∧ (ResD (fd A * fd B) v ∧ Below U.heap.size U w') :=
  (fmul_any A B hA hB U).mono fun e w' ⟨R, h, h1, h2, hb⟩ => ⟨_, h, ⟨R, rfl, h1, h2⟩, hb⟩
theorem dsmall_c (A : List Int) (hA : Ld 65536 A) (U : World) : Calls Try.prog 26 #[.agg (ints .u64 A), .int .u64 121665] U fun e w' => ∃ v, e = .returned v ∧ (ResD (121665 * fd A) v ∧ Below U.heap.size U w') :=
  (fsmall_any A hA U).mono fun e w' ⟨R, h, h1, h2, hb⟩ => ⟨_, h, ⟨R, rfl, h1, h2⟩, hb⟩
theorem dinv_c (A : List Int) (hA : Ld 65536 A) (U : World) : Calls Try.prog 28 #[.agg (ints .u64 A)] U fun e w' => ∃ v, e = .returned v ∧ (ResD (kinv (fd A)) v ∧ Below U.heap.size U w') :=
  (finv_any A hA U).mono fun e w' ⟨R, h, h1, h2, hb⟩ => ⟨_, h, ⟨R, rfl, h1, h2⟩, hb⟩
/-- What lies where during the ladder. -/
structure RI (w W : World) (n gk g7 g8 g9 g10 g11 : Nat) (ok : Obj) (LU A B C D : List Int) : Prop where
  hk : W.heap[gk]? = some ok
  h7 : Wn .u64 W g7 54 LU
  h8 : Wn .u64 W g8 54 A
  h9 : Wn .u64 W g9 54 B
  h10 : Wn .u64 W g10 54 C
  h11 : Wn .u64 W g11 54 D
  bel : Below n w W
structure RD (n gk g7 g8 g9 g10 g11 : Nat) : Prop where
  n8 : n ≤ g8
  n9 : n ≤ g9
  n10 : n ≤ g10
  n11 : n ≤ g11
  k8 : gk ≠ g8
  k9 : gk ≠ g9
  k10 : gk ≠ g10
  k11 : gk ≠ g11
  u8 : g7 ≠ g8
  u9 : g7 ≠ g9
  u10 : g7 ≠ g10
  u11 : g7 ≠ g11
  a : g8 ≠ g9
  b : g8 ≠ g10
  c : g8 ≠ g11
  d : g9 ≠ g10
  e : g9 ≠ g11
  f : g10 ≠ g11
section
variable {w W : World} {n gk g7 g8 g9 g10 g11 : Nat} {ok : Obj} {LU A B C D : List Int}
theorem heap_lt {W : World} {g : Nat} {o : Obj} (h : W.heap[g]? = some o) : g < W.heap.size := (Array.getElem?_eq_some_iff.1 h).1
theorem RI.below {W' : World} (h : RI w W n gk g7 g8 g9 g10 g11 ok LU A B C D) (hd : RD n gk g7 g8 g9 g10 g11) (hb : Below W.heap.size W W') : RI w W' n gk g7 g8 g9 g10 g11 ok LU A B C D :=
  ⟨by rw [hb.block gk (heap_lt h.hk)]; exact h.hk, h.h7.below hb, h.h8.below hb, h.h9.below hb, h.h10.below hb, h.h11.below hb, h.bel.trans (hb.mono (by have := h.h8.lt; have := hd.n8; omega))⟩
theorem RI.set8 (h : RI w W n gk g7 g8 g9 g10 g11 ok LU A B C D) (hd : RD n gk g7 g8 g9 g10 g11) (V : List Int) : RI w (W.setRow g8 (ints .u64 V)) n gk g7 g8 g9 g10 g11 ok LU V B C D :=
  ⟨by rw [setRow_other _ _ _ _ hd.k8]; exact h.hk, h.h7.rowOther _ _ hd.u8, h.h8.row V, h.h9.rowOther _ _ (Ne.symm hd.a), h.h10.rowOther _ _ (Ne.symm hd.b), h.h11.rowOther _ _ (Ne.symm hd.c), below_setRow h.bel hd.n8 _⟩
theorem RI.set9 (h : RI w W n gk g7 g8 g9 g10 g11 ok LU A B C D) (hd : RD n gk g7 g8 g9 g10 g11) (V : List Int) : RI w (W.setRow g9 (ints .u64 V)) n gk g7 g8 g9 g10 g11 ok LU A V C D :=
  ⟨by rw [setRow_other _ _ _ _ hd.k9]; exact h.hk, h.h7.rowOther _ _ hd.u9, h.h8.rowOther _ _ hd.a, h.h9.row V, h.h10.rowOther _ _ (Ne.symm hd.d), h.h11.rowOther _ _ (Ne.symm hd.e), below_setRow h.bel hd.n9 _⟩
theorem RI.set10 (h : RI w W n gk g7 g8 g9 g10 g11 ok LU A B C D) (hd : RD n gk g7 g8 g9 g10 g11) (V : List Int) : RI w (W.setRow g10 (ints .u64 V)) n gk g7 g8 g9 g10 g11 ok LU A B V D :=
  ⟨by rw [setRow_other _ _ _ _ hd.k10]; exact h.hk, h.h7.rowOther _ _ hd.u10, h.h8.rowOther _ _ hd.b, h.h9.rowOther _ _ hd.d, h.h10.row V, h.h11.rowOther _ _ (Ne.symm hd.f), below_setRow h.bel hd.n10 _⟩
theorem RI.set11 (h : RI w W n gk g7 g8 g9 g10 g11 ok LU A B C D) (hd : RD n gk g7 g8 g9 g10 g11) (V : List Int) : RI w (W.setRow g11 (ints .u64 V)) n gk g7 g8 g9 g10 g11 ok LU A B C V :=
  ⟨by rw [setRow_other _ _ _ _ hd.k11]; exact h.hk, h.h7.rowOther _ _ hd.u11, h.h8.rowOther _ _ hd.c, h.h9.rowOther _ _ hd.e, h.h10.rowOther _ _ hd.f, h.h11.row V, below_setRow h.bel hd.n11 _⟩
end
/-- Four elements that stand for a state of the ladder. -/
structure LR (s : Lad) (A B C D : List Int) : Prop where
  la : Ld 65536 A
  lb : Ld 65536 B
  lc : Ld 65536 C
  ld : Ld 65536 D
  fa : fd A = s.a
  fb : fd B = s.b
  fc : fd C = s.c
  fdd : fd D = s.d
theorem LR.swp1 {s : Lad} {A B C D : List Int} (h : LR s A B C D) : LR (lswp 1 s) C D A B := ⟨h.lc, h.ld, h.la, h.lb, h.fc, h.fdd, h.fa, h.fb⟩
theorem LR.swp0 {s : Lad} {A B C D : List Int} (h : LR s A B C D) : LR (lswp 0 s) A B C D := ⟨h.la, h.lb, h.lc, h.ld, h.fa, h.fb, h.fc, h.fdd⟩
theorem lr_start (u : K) (k LU : List Int) (hl : Ld 65536 LU) (hf : fd LU = u) : LR (lad u k 0) [1, 0, 0, 0, 0, 0, 0, 0, 0, 0, 0, 0, 0, 0, 0, 0] (List.replicate 16 0) LU [1, 0, 0, 0, 0, 0, 0, 0, 0, 0, 0, 0, 0, 0, 0, 0] :=
  ⟨one16, null16, hl, one16, fd_one, fd_null, hf, fd_one⟩
/-- The cells of a block do not change while the block does not. -/
theorem cell_blk {w W : World} {g : Nat} {o : Obj} (h : w.heap[g]? = some o) (hW : W.heap[g]? = some o) (j : Nat) : W.cell? ⟨g, j, none⟩ = w.cell? ⟨g, j, none⟩ := by
  simp [World.cell?, h, hW]
/-- The clamped scalar's bytes, as the document makes them. -/
theorem clamp_ref (s : List Int) (hl : s.length = 32) (h : ∀ x ∈ s, 0 ≤ x ∧ x ≤ 255) :
    (s.set 0 (bits .and .u8 (s.getD 0 0) 248)).set 31 (bits .or .u8 (bits .and .u8 (s.getD 31 0) 127) 64) = clampK s := by
  have h0 := rng_getD h 0
  have h31 := rng_getD h 31
  have e0 : bits .and .u8 (s.getD 0 0) 248 = s.getD 0 0 - s.getD 0 0 % 8 := by
    generalize s.getD 0 0 = x at *
    obtain ⟨y, rfl⟩ := Int.eq_ofNat_of_zero_le h0.1
    have : ∀ y : Nat, y < 256 → bits .and .u8 (y : Int) 248 = (y : Int) - (y : Int) % 8 := by decide +kernel
    exact this y (by omega)
  have e31 : bits .or .u8 (bits .and .u8 (s.getD 31 0) 127) 64 = s.getD 31 0 % 64 + 64 := by
    generalize s.getD 31 0 = x at *
    obtain ⟨y, rfl⟩ := Int.eq_ofNat_of_zero_le h31.1
    have : ∀ y : Nat, y < 256 → bits .or .u8 (bits .and .u8 (y : Int) 127) 64 = (y : Int) % 64 + 64 := by decide +kernel
    exact this y (by omega)
  rw [e0, e31]
  rfl
end Go.Proofs.Ytilnbmlbahflkaa
