/-
  The document's word and mix.
-/
import Derived.Test.YtpocehpejbnemaaDoorQChaArr
import Derived.Test.YtpocehpejbnemaaDoorQChaQ
import Derived.Deep.QuietTactic
import Derived.BigQuiet
import Derived.Deep.Cut
import Derived.Deep.CutRange
import Derived.Laws.CopyOwn
namespace Go.Proofs.YtpocehpejbnemaaDoor
open Go.RowKit
set_option linter.unusedVariables false
set_option linter.unusedSimpArgs false

set_option maxHeartbeats 800000 in
set_option maxRecDepth 100000 in
theorem rword_any (p : Option Addr) (n c : Nat) (b : List Int) (j : Nat) (w : World) (h : Byt w p n c b) (hj : 4 * j + 3 < n) (hj2 : j ≤ 100) :
    Calls Tryd.prog 79 #[.slice p n c, .int .i64 j] w fun e w' => e = .returned (.int .u32 (leW b j)) ∧ ∃ r, w' = w.drewN r := by
  obtain ⟨bb, off, rfl, cc⟩ := h.at_ (by omega)
  have hcap := h.cap
  have hbig := h.le
  have x0 := cc (4 * j) (by omega)
  have x1 := cc (4 * j + 1) (by omega)
  have x2 := cc (4 * j + 2) (by omega)
  have x3 := cc (4 * j + 3) (by omega)
  have r0 := rng_getD h.rng (4 * j)
  have r1 := rng_getD h.rng (4 * j + 1)
  have r2 := rng_getD h.rng (4 * j + 2)
  have r3 := rng_getD h.rng (4 * j + 3)
  unfold leW
  generalize b.getD (4 * j) 0 = y0 at *
  generalize b.getD (4 * j + 1) 0 = y1 at *
  generalize b.getD (4 * j + 2) 0 = y2 at *
  generalize b.getD (4 * j + 3) 0 = y3 at *
  have a0 : (0 : Int) ≤ 4 * (j : Int) := by omega
  have a1 : (0 : Int) ≤ 4 * (j : Int) + 1 := by omega
  have a2 : (0 : Int) ≤ 4 * (j : Int) + 2 := by omega
  have a3 : (0 : Int) ≤ 4 * (j : Int) + 3 := by omega
  have c0 : 4 * (j : Int) < (n : Int) := by omega
  have c1 : 4 * (j : Int) + 1 < (n : Int) := by omega
  have c2 : 4 * (j : Int) + 2 < (n : Int) := by omega
  have c3 : 4 * (j : Int) + 3 < (n : Int) := by omega
  have v0 : IntKind.i64.wrap (4 * (j : Int)) = 4 * (j : Int) := wraps_i64 _ (by omega) (by omega)
  have v1 : IntKind.i64.wrap (4 * (j : Int) + 1) = 4 * (j : Int) + 1 := wraps_i64 _ (by omega) (by omega)
  have v2 : IntKind.i64.wrap (4 * (j : Int) + 2) = 4 * (j : Int) + 2 := wraps_i64 _ (by omega) (by omega)
  have v3 : IntKind.i64.wrap (4 * (j : Int) + 3) = 4 * (j : Int) + 3 := wraps_i64 _ (by omega) (by omega)
  have n0 : (4 * (j : Int)).toNat = 4 * j := by omega
  have n1 : (4 * (j : Int) + 1).toNat = 4 * j + 1 := by omega
  have n2 : (4 * (j : Int) + 2).toNat = 4 * j + 2 := by omega
  have n3 : (4 * (j : Int) + 3).toNat = 4 * j + 3 := by omega
  have q0 : IntKind.u32.wrap y0 = y0 := by rw [IntKind.wrap_u32']; omega
  have q1 : IntKind.u32.wrap y1 = y1 := by rw [IntKind.wrap_u32']; omega
  have q2 : IntKind.u32.wrap y2 = y2 := by rw [IntKind.wrap_u32']; omega
  have q3 : IntKind.u32.wrap y3 = y3 := by rw [IntKind.wrap_u32']; omega
  have p1 : IntKind.u32.wrap (y1 * 256) = y1 * 256 := by rw [IntKind.wrap_u32']; omega
  have p2 : IntKind.u32.wrap (y2 * 65536) = y2 * 65536 := by rw [IntKind.wrap_u32']; omega
  have p3 : IntKind.u32.wrap (y3 * 16777216) = y3 * 16777216 := by rw [IntKind.wrap_u32']; omega
  clear h cc hj
  go_enter Tryd.func79, Tryd.ntmps79
  go_wp2
  go_quiet (fail)
  go_wp2
  go_ret
  exact ⟨rfl, _, rfl⟩

theorem below_drewC {B : Nat} (w : World) (n : Nat) : Below B w (w.drewN n) := ⟨rfl, rfl, rfl, Nat.le_refl _, fun _ _ => rfl⟩

set_option maxHeartbeats 1600000 in
set_option maxRecDepth 100000 in
theorem rmix_any (s : List Int) (i j k l : Nat) (hs : s.length = 16) (hi : i < 16) (hj : j < 16) (hk : k < 16) (hl : l < 16) (w : World) :
    Calls Tryd.prog 80 #[.agg (s.map (Value.int .u32)).toArray, .int .i64 i, .int .i64 j, .int .i64 k, .int .i64 l] w fun e w' => e = .returned (.agg ((mixL s i j k l).map (Value.int .u32)).toArray) ∧ Below w.heap.size w w' := by
  obtain ⟨R, hR⟩ : ∃ R, mixL s i j k l = R := ⟨_, rfl⟩
  have hRl : R.length = 16 := by rw [← hR, mixL_len, hs]
  rw [hR]
  have hRS : Is R ((((s.set i (quarter ⟨s.getD i 0, s.getD j 0, s.getD k 0, s.getD l 0⟩).a).set j (quarter ⟨s.getD i 0, s.getD j 0, s.getD k 0, s.getD l 0⟩).b).set k (quarter ⟨s.getD i 0, s.getD j 0, s.getD k 0, s.getD l 0⟩).c).set l (quarter ⟨s.getD i 0, s.getD j 0, s.getD k 0, s.getD l 0⟩).d) := ⟨hR.symm⟩
  have hiR : (Tryd.prog.info? 84).map (·.size) = some ((R.map (Value.int .u32)).toArray).size := by rw [infoS16]; simp [hRl]
  have hzr : ((List.replicate 16 (0 : Int)).map (Value.int .u32)).toArray.size = ((R.map (Value.int .u32)).toArray).size := by simp [hRl]
  have HIR := hidden hiR
  have HZR := hidden hzr
  have HONE := hidden (one32 R)
  have HQS : Hid (∀ W, Calls Tryd.prog 108 #[.int .u32 (s.getD i 0), .int .u32 (s.getD j 0), .int .u32 (s.getD k 0), .int .u32 (s.getD l 0)] W fun e w' => e = .returned (.tuple #[.int .u32 (quarter ⟨s.getD i 0, s.getD j 0, s.getD k 0, s.getD l 0⟩).a, .int .u32 (quarter ⟨s.getD i 0, s.getD j 0, s.getD k 0, s.getD l 0⟩).b, .int .u32 (quarter ⟨s.getD i 0, s.getD j 0, s.getD k 0, s.getD l 0⟩).c, .int .u32 (quarter ⟨s.getD i 0, s.getD j 0, s.getD k 0, s.getD l 0⟩).d]) ∧ w' = W) := fun W => (rquarter_any _ _ _ _ W).mono fun e w' h => ⟨h.1, h.2.symm⟩
  obtain ⟨S, hS⟩ : ∃ S, (s.map (Value.int .u32)).toArray = S := ⟨_, rfl⟩
  have HSS := Is.mk hS
  have HSL := Is.mk hs
  simp only [hS]
  clear hR hRl hiR hzr hS hs
  go_enter Tryd.func80, Tryd.ntmps80
  go_upto_region 1 with fail
  generalize hw1 : (w.alloc (.cells S 84)).alloc (.cells _ 84) = w1
  have hb : Wd w1 w.heap.size 84 s := by
    rw [← hw1, ← HSS.eq]
    exact (Wd.new w _ s _ rfl).alloc _
  have hd : Wd w1 (w.heap.size + 1) 84 (List.replicate 16 0) := by
    rw [← hw1]
    have := Wd.new (w.alloc (.cells S 84)) 84 (List.replicate 16 0) _ rfl
    rw [World.size_alloc] at this
    exact this
  have hbl : Below w.heap.size w w1 := by
    rw [← hw1]
    exact ((Below.refl _ w).alloc (Nat.le_refl _) _).alloc (by simp) _
  clear hw1
  obtain ⟨n, hn⟩ : ∃ n, w.heap.size = n := ⟨_, rfl⟩
  simp only [hn] at hb hd hbl ⊢
  have HN := hidden hn
  have y0 := hb.cell i (by rw [HSL.eq]; exact hi)
  have y1 := hb.cell j (by rw [HSL.eq]; exact hj)
  have y2 := hb.cell k (by rw [HSL.eq]; exact hk)
  have y3 := hb.cell l (by rw [HSL.eq]; exact hl)
  have HB := hidden hb
  have HD := hidden hd
  have HBL := hidden hbl
  generalize s.getD i 0 = b0 at *
  generalize s.getD j 0 = b1 at *
  generalize s.getD k 0 = b2 at *
  generalize s.getD l 0 = b3 at *
  generalize quarter ⟨b0, b1, b2, b3⟩ = qq at *
  have b00 : (0 : Int) ≤ (i : Int) := by omega
  have b01 : (0 : Int) ≤ (j : Int) := by omega
  have b02 : (0 : Int) ≤ (k : Int) := by omega
  have b03 : (0 : Int) ≤ (l : Int) := by omega
  have b10 : (i : Int) < 16 := by omega
  have b11 : (j : Int) < 16 := by omega
  have b12 : (k : Int) < 16 := by omega
  have b13 : (l : Int) < 16 := by omega
  clear hb hd hbl hn
  go_quiet (first | (go_at_call 108; exact Calls.quiet_of_same (HQS.out _)) | fail)
  have HB2 : Hid (Wd (w1.drewN nq) n 84 s) := ⟨HB.out.heap⟩
  have HD2 : Hid (Wd (w1.drewN nq) (n + 1) 84 (List.replicate 16 0)) := ⟨HD.out.heap⟩
  have HBL2 : Hid (Below n w (w1.drewN nq)) := HBL.out.trans (below_drewC _ _)
  clear y0 y1 y2 y3 HB HD HBL
  generalize w1.drewN nq = w2 at *
  have W0 : Wd w2 n 84 s := HB2.out
  have yy0 := W0.cell i (by simp only [List.length_set, HSL.eq]; omega)
  have ff0 := W0.fr i
  clear W0
  have W1 : Wd (w2.setCell ⟨n, i, none⟩ (.int .u32 qq.a)) n 84 (s.set i qq.a) := (HB2.out.set i qq.a)
  have yy1 := W1.cell j (by simp only [List.length_set, HSL.eq]; omega)
  have ff1 := W1.fr j
  clear W1
  have W2 : Wd ((w2.setCell ⟨n, i, none⟩ (.int .u32 qq.a)).setCell ⟨n, j, none⟩ (.int .u32 qq.b)) n 84 ((s.set i qq.a).set j qq.b) := ((HB2.out.set i qq.a).set j qq.b)
  have yy2 := W2.cell k (by simp only [List.length_set, HSL.eq]; omega)
  have ff2 := W2.fr k
  clear W2
  have W3 : Wd (((w2.setCell ⟨n, i, none⟩ (.int .u32 qq.a)).setCell ⟨n, j, none⟩ (.int .u32 qq.b)).setCell ⟨n, k, none⟩ (.int .u32 qq.c)) n 84 (((s.set i qq.a).set j qq.b).set k qq.c) := (((HB2.out.set i qq.a).set j qq.b).set k qq.c)
  have yy3 := W3.cell l (by simp only [List.length_set, HSL.eq]; omega)
  have ff3 := W3.fr l
  clear W3
  have HE : Hid (Wd ((((w2.setCell ⟨n, i, none⟩ (.int .u32 qq.a)).setCell ⟨n, j, none⟩ (.int .u32 qq.b)).setCell ⟨n, k, none⟩ (.int .u32 qq.c)).setCell ⟨n, l, none⟩ (.int .u32 qq.d)) n 84 R) := by
    rw [hRS.eq]
    exact ((((HB2.out.set i qq.a).set j qq.b).set k qq.c).set l qq.d)
  have HD3 : Hid (Wd ((((w2.setCell ⟨n, i, none⟩ (.int .u32 qq.a)).setCell ⟨n, j, none⟩ (.int .u32 qq.b)).setCell ⟨n, k, none⟩ (.int .u32 qq.c)).setCell ⟨n, l, none⟩ (.int .u32 qq.d)) (n + 1) 84 (List.replicate 16 0)) := (((HD2.out.other _ _ (by simp)).other _ _ (by simp)).other _ _ (by simp)).other _ _ (by simp)
  have HBL3 : Hid (Below n w ((((w2.setCell ⟨n, i, none⟩ (.int .u32 qq.a)).setCell ⟨n, j, none⟩ (.int .u32 qq.b)).setCell ⟨n, k, none⟩ (.int .u32 qq.c)).setCell ⟨n, l, none⟩ (.int .u32 qq.d))) := (((HBL2.out.setCell (Nat.le_refl _) _).setCell (Nat.le_refl _) _).setCell (Nat.le_refl _) _).setCell (Nat.le_refl _) _
  clear HB2 HD2 HBL2
  go_upto_region 6 with fail
  clear yy0 yy1 yy2 yy3 ff0 ff1 ff2 ff3
  generalize ((((w2.setCell ⟨n, i, none⟩ (.int .u32 qq.a)).setCell ⟨n, j, none⟩ (.int .u32 qq.b)).setCell ⟨n, k, none⟩ (.int .u32 qq.c)).setCell ⟨n, l, none⟩ (.int .u32 qq.d)) = w3 at *
  have HD4 := hidden (HD3.out.row R)
  have HBL4 := hidden (below_setRow HBL3.out (Nat.le_succ n) (R.map (Value.int .u32)).toArray)
  clear HBL3
  go_wp2_with (first
    | (refine wpList_load_row rfl 84 _ rfl n rfl 84 _ (0, 0) _ HE.out.heap Tryd.underlying84 rfl HIR.out ?_)
    | (refine wpList_store_row rfl 84 _ _ rfl (n + 1) (R.map (Value.int .u32)).toArray rfl rfl 84 _ HD3.out.heap HIR.out HZR.out HONE.out ?_)
    | fail)
  refine bodyPost_ret (results_cell_row rfl _ _ (n + 1) 84 _ _ _ rfl HD4.out.heap Tryd.underlying84 rfl HIR.out) rfl ?_
  exact ⟨rfl, by rw [HN.out]; exact HBL4.out⟩
end Go.Proofs.YtpocehpejbnemaaDoor
