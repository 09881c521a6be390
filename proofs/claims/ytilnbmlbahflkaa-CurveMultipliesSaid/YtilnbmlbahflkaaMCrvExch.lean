/-
  curve.exchanged.
-/
import Derived.Test.YtilnbmlbahflkaaMCrvProd
import Derived.Test.YtilnbmlbahflkaaMFlow
import Derived.Deep.RegionHeld3
namespace Go.Proofs.Ytilnbmlbahflkaa
open Go.RowKit
set_option linter.unusedVariables false

theorem xor_xor_left (a b : Nat) : a ^^^ (a ^^^ b) = b := by rw [← Nat.xor_assoc, Nat.xor_self, Nat.zero_xor]
theorem xor_xor_right (a b : Nat) : b ^^^ (a ^^^ b) = a := by rw [Nat.xor_comm a b, xor_xor_left]
/-- One of two, by a bit. -/
def selT (t x y : Int) : Int := if t = 1 then y else x
/-- What the mask leaves. -/
def maskX (t a b : Int) : Int := if t = 1 then bits .xor .u64 a b else 0
theorem mask_all (y : Nat) (h : y < 18446744073709551616) : bits .and .u64 18446744073709551615 (y : Int) = (y : Int) := by
  have := u64_and_nat 18446744073709551615 y (by decide) h
  rw [Nat.and_comm, show (18446744073709551615 : Nat) = 2 ^ 64 - 1 by decide, Nat.and_two_pow_sub_one_eq_mod, Nat.mod_eq_of_lt (by omega)] at this
  exact this
theorem mask_none (y : Nat) (h : y < 18446744073709551616) : bits .and .u64 0 (y : Int) = 0 := by
  have := u64_and_nat 0 y (by decide) h
  rw [Nat.zero_and] at this
  exact this
theorem mask_is (t M a b : Int) (ht : t = 0 ∨ t = 1) (hM : IntKind.u64.wrap (-t) = M) (ha : 0 ≤ a ∧ a < 18446744073709551616) (hb : 0 ≤ b ∧ b < 18446744073709551616) :
    bits .and .u64 M (bits .xor .u64 a b) = maskX t a b ∧ bits .xor .u64 a (maskX t a b) = selT t a b ∧ bits .xor .u64 b (maskX t a b) = selT t b a := by
  obtain ⟨a, rfl⟩ := Int.eq_ofNat_of_zero_le ha.1
  obtain ⟨b, rfl⟩ := Int.eq_ofNat_of_zero_le hb.1
  have hx : a ^^^ b < 18446744073709551616 := Nat.xor_lt_two_pow (n := 64) (by omega) (by omega)
  have e := u64_xor_nat a b (by omega) (by omega)
  rcases ht with rfl | rfl
  · have hM0 : M = 0 := by rw [← hM]; decide
    subst hM0
    unfold maskX selT
    rw [e, if_neg (by decide), if_neg (by decide), if_neg (by decide), mask_none _ hx]
    refine ⟨rfl, ?_, ?_⟩
    · have := u64_xor_nat a 0 (by omega) (by decide); rwa [Nat.xor_zero] at this
    · have := u64_xor_nat b 0 (by omega) (by decide); rwa [Nat.xor_zero] at this
  · have hM0 : M = 18446744073709551615 := by rw [← hM]; decide
    subst hM0
    unfold maskX selT
    rw [e, if_pos rfl, if_pos rfl, if_pos rfl, mask_all _ hx]
    refine ⟨rfl, ?_, ?_⟩
    · rw [u64_xor_nat a _ (by omega) hx, xor_xor_left]
    · rw [u64_xor_nat b _ (by omega) hx, xor_xor_right]
/-- The first j limbs are the other's. -/
def midX (A B : List Int) (j : Nat) : List Int := B.take j ++ A.drop j
theorem midX_zero (A B : List Int) : midX A B 0 = A := by simp [midX]
theorem midX_len (A B : List Int) (j : Nat) (hA : A.length = 5) (hB : B.length = 5) (hj : j ≤ 5) : (midX A B j).length = 5 := by simp [midX, hA, hB]; omega
theorem midX_end (A B : List Int) (hA : A.length = 5) (hB : B.length = 5) : midX A B 5 = B := by
  unfold midX
  rw [List.take_of_length_le (by omega), List.drop_of_length_le (by omega), List.append_nil]
theorem midX_succ (A B : List Int) (j : Nat) (hA : A.length = 5) (hB : B.length = 5) (hj : j < 5) : (midX A B j).set j (B.getD j 0) = midX A B (j + 1) := by
  unfold midX
  rw [set_mid _ _ _ _ (by simp; omega) (by omega), List.take_succ_eq_append_getElem (by omega)]
  simp [List.getD_eq_getElem?_getD, show j < B.length by omega]
theorem midX_get (A B : List Int) (j : Nat) (hA : A.length = 5) (hB : B.length = 5) (hj : j < 5) : (midX A B j).getD j 0 = A.getD j 0 := by
  unfold midX
  exact getD_mid _ _ _ (by simp; omega)
/-- Two elements one behind the other. -/
theorem two_set_l (A B : List Int) (j : Nat) (v : Int) (hA : A.length = 5) (hj : j < 5) : (A ++ B).set j v = A.set j v ++ B := List.set_append_left _ _ (by omega)
theorem two_set_r (A B : List Int) (j : Nat) (v : Int) (hA : A.length = 5) : (A ++ B).set (5 + j) v = A ++ B.set j v := by
  rw [List.set_append_right _ _ (by omega), hA, show 5 + j - 5 = j by omega]
theorem two_get_l (A B : List Int) (j : Nat) (hA : A.length = 5) (hj : j < 5) : (A ++ B).getD j 0 = A.getD j 0 := by
  rw [List.getD_eq_getElem?_getD, List.getElem?_append_left (by omega), List.getD_eq_getElem?_getD]
theorem two_get_r (A B : List Int) (j : Nat) (hA : A.length = 5) : (A ++ B).getD (5 + j) 0 = B.getD j 0 := by
  rw [List.getD_eq_getElem?_getD, List.getElem?_append_right (by omega), hA, show 5 + j - 5 = j by omega, List.getD_eq_getElem?_getD]
/-- The limbs that are there behind the exchange. -/
def selL (t : Int) (A B : List Int) : List Int := if t = 1 then B else A
theorem selL_get (t : Int) (A B : List Int) (j : Nat) : (selL t A B).getD j 0 = selT t (A.getD j 0) (B.getD j 0) := by unfold selL selT; split <;> rfl
theorem selL_len (t : Int) (A B : List Int) (hA : A.length = 5) (hB : B.length = 5) : (selL t A B).length = 5 := by unfold selL; split <;> assumption
/-- What lies in the two blocks in round j, and behind its first statement. -/
def rndV (t : Int) (X Z X' Z' : List Int) (i j : Nat) : List Int := midX X (selL t X X') i ++ midX Z (selL t Z Z') j
theorem rnd_succ (t : Int) (X Z X' Z' : List Int) (j : Nat) (hX : X.length = 5) (hZ : Z.length = 5) (hX' : X'.length = 5) (hZ' : Z'.length = 5) (hj : j < 5) :
    ((rndV t X Z X' Z' j j).set j (selT t (X.getD j 0) (X'.getD j 0))).set (5 + j) (selT t (Z.getD j 0) (Z'.getD j 0)) = rndV t X Z X' Z' (j + 1) (j + 1) := by
  have s1 := midX_succ X (selL t X X') j hX (selL_len t X X' hX hX') hj
  have s2 := midX_succ Z (selL t Z Z') j hZ (selL_len t Z Z' hZ hZ') hj
  have l1 := midX_len X (selL t X X') j hX (selL_len t X X' hX hX') (by omega)
  rw [selL_get] at s1 s2
  unfold rndV
  rw [two_set_l _ _ _ _ l1 hj, two_set_r _ _ _ _ (by rw [List.length_set]; exact l1), s1, s2]
theorem rnd_end (t : Int) (X Z X' Z' : List Int) (hX : X.length = 5) (hZ : Z.length = 5) (hX' : X'.length = 5) (hZ' : Z'.length = 5) : rndV t X Z X' Z' 5 5 = selL t X X' ++ selL t Z Z' := by
  unfold rndV
  rw [midX_end X _ hX (selL_len t X X' hX hX'), midX_end Z _ hZ (selL_len t Z Z' hZ hZ')]
theorem infoF0 : (Try.prog.info? 45).map (·.size) = some 10 := by kernel_rfl
theorem infoF (l : List Int) (h : l.length = 10) : (Try.prog.info? 45).map (·.size) = some (ints .u64 l).size := by rw [infoF0, ints_size, h]
theorem patch_whole (a b : Array Value) (h : a.size = b.size) : (patch a.toList b.toList 0).toArray = b := by
  unfold patch
  rw [List.drop_of_length_le (by simp [h])]
  simp
theorem results_two {P : Program} {fn : Func} {p q : Tmp} {ty : TypeId} (h : fn.results = #[.cell p ty, .cell q ty]) (tmps : Array Value) (w : World) (g g' : Nat) (t : TypeId) (cs cs' : Array Value) (fr fr' : Nat × Nat) (d : TypeDesc)
    (hp : tmps.getD p undef = .pointer (some ⟨g, 0, none⟩)) (hq : tmps.getD q undef = .pointer (some ⟨g', 0, none⟩)) (hg : w.heap[g]? = some (.cells cs t fr)) (hg' : w.heap[g']? = some (.cells cs' t fr'))
    (hu : P.underlying ty = some d) (hd : (match d with | .struct _ | .array _ _ => true | _ => false) = true) (hi : (P.info? ty).map (·.size) = some cs.size) (hi' : (P.info? ty).map (·.size) = some cs'.size) :
    (results fn tmps).run P w = .ok (.tuple #[.agg cs, .agg cs']) w := by
  have hp' : tmps[p]?.getD undef = .pointer (some ⟨g, 0, none⟩) := by simpa using hp
  have hq' : tmps[q]?.getD undef = .pointer (some ⟨g', 0, none⟩) := by simpa using hq
  simp [results, h, hp', hq', asAddr, run_loadVar_row w g t ty cs fr d hg hu hd hi, run_loadVar_row w g' t ty cs' fr' d hg' hu hd hi', Result.andThen]

set_option maxHeartbeats 3200000 in
set_option maxRecDepth 100000 in
theorem cexch_any (t : Int) (X Z X' Z' : List Int) (m : Int) (ht : t = 0 ∨ t = 1) (hX : Lw m X) (hZ : Lw m Z) (hX' : Lw m X') (hZ' : Lw m Z') (hm : m ≤ 18446744073709551616) (w : World) :
    Calls Try.prog 17 #[.int .u64 t, .agg (ints .u64 (X ++ Z)), .agg (ints .u64 (X' ++ Z'))] w fun e w' =>
      e = .returned (.tuple #[.agg (ints .u64 (selL t X X' ++ selL t Z Z')), .agg (ints .u64 (selL t X' X ++ selL t Z' Z))]) ∧ Below w.heap.size w w' := by
  obtain ⟨M, hM⟩ : ∃ M, IntKind.u64.wrap (-t) = M := ⟨_, rfl⟩
  have HXX := hidden (fun j (hj : j < 5) => mask_is t M (X.getD j 0) (X'.getD j 0) ht hM (by have := hX.get j hj; omega) (by have := hX'.get j hj; omega))
  have HZZ := hidden (fun j (hj : j < 5) => mask_is t M (Z.getD j 0) (Z'.getD j 0) ht hM (by have := hZ.get j hj; omega) (by have := hZ'.get j hj; omega))
  have HL1 := hidden (fun i j (hi : i ≤ 5) (hj : j ≤ 5) => (⟨midX_len X (selL t X X') i hX.len (selL_len t X X' hX.len hX'.len) hi, midX_len Z (selL t Z Z') j hZ.len (selL_len t Z Z' hZ.len hZ'.len) hj⟩ : (midX X (selL t X X') i).length = 5 ∧ (midX Z (selL t Z Z') j).length = 5))
  have HL2 := hidden (fun i j (hi : i ≤ 5) (hj : j ≤ 5) => (⟨midX_len X' (selL t X' X) i hX'.len (selL_len t X' X hX'.len hX.len) hi, midX_len Z' (selL t Z' Z) j hZ'.len (selL_len t Z' Z hZ'.len hZ.len) hj⟩ : (midX X' (selL t X' X) i).length = 5 ∧ (midX Z' (selL t Z' Z) j).length = 5))
  have HG1 := hidden (fun i (hi : i < 5) => midX_get X (selL t X X') i hX.len (selL_len t X X' hX.len hX'.len) hi)
  have HG2 := hidden (fun i (hi : i < 5) => midX_get Z (selL t Z Z') i hZ.len (selL_len t Z Z' hZ.len hZ'.len) hi)
  have HG3 := hidden (fun i (hi : i < 5) => midX_get X' (selL t X' X) i hX'.len (selL_len t X' X hX'.len hX.len) hi)
  have HG4 := hidden (fun i (hi : i < 5) => midX_get Z' (selL t Z' Z) i hZ'.len (selL_len t Z' Z hZ'.len hZ.len) hi)
  have HS1 := hidden (fun j (hj : j < 5) => rnd_succ t X Z X' Z' j hX.len hZ.len hX'.len hZ'.len hj)
  have HS2 := hidden (fun j (hj : j < 5) => rnd_succ t X' Z' X Z j hX'.len hZ'.len hX.len hZ.len hj)
  have HE1 := Is.mk (rnd_end t X Z X' Z' hX.len hZ.len hX'.len hZ'.len)
  have HE2 := Is.mk (rnd_end t X' Z' X Z hX'.len hZ'.len hX.len hZ.len)
  have HVL1 : Hid ((selL t X X' ++ selL t Z Z').length = 10) := by show _ = _; rw [List.length_append, selL_len t X X' hX.len hX'.len, selL_len t Z Z' hZ.len hZ'.len]
  have HVL2 : Hid ((selL t X' X ++ selL t Z' Z).length = 10) := by show _ = _; rw [List.length_append, selL_len t X' X hX'.len hX.len, selL_len t Z' Z hZ'.len hZ.len]
  have HM := Is.mk hM
  have HV0 : Is (X ++ Z) (rndV t X Z X' Z' 0 0) := ⟨by unfold rndV; rw [midX_zero, midX_zero]⟩
  have HW0 : Is (X' ++ Z') (rndV t X' Z' X Z 0 0) := ⟨by unfold rndV; rw [midX_zero, midX_zero]⟩
  have HXR := hidden (fun j (hj : j < 5) => (⟨mask_is t M (X'.getD j 0) (X.getD j 0) ht hM (by have := hX'.get j hj; omega) (by have := hX.get j hj; omega), mask_is t M (Z'.getD j 0) (Z.getD j 0) ht hM (by have := hZ'.get j hj; omega) (by have := hZ.get j hj; omega)⟩ : _ ∧ _))
  clear hX hZ hX' hZ' hm ht
  go_enter Try.func17, Try.ntmps17
  go_upto_region 2 with fail
  rw [HV0.eq, HW0.eq]
  generalize hw1 : World.alloc _ (.cells _ 45) = w1
  have hV : Wn .u64 w1 w.heap.size 45 (rndV t X Z X' Z' 0 0) := by
    rw [← hw1]
    exact (((Wn.new .u64 w 45 _ _ rfl).alloc _).alloc _).alloc _
  have hW : Wn .u64 w1 (w.heap.size + 1) 45 (rndV t X' Z' X Z 0 0) := by
    rw [← hw1]
    exact ((Wn.new' .u64 _ 45 _ _ rfl _ (by simp)).alloc _).alloc _
  have hP : Wn .u64 w1 (w.heap.size + 1 + 1) 45 (List.replicate 10 0) := by
    rw [← hw1]
    exact (Wn.new' .u64 _ 45 (List.replicate 10 0) _ rfl _ (by simp)).alloc _
  have hR : Wn .u64 w1 (w.heap.size + 1 + 1 + 1) 45 (List.replicate 10 0) := by
    rw [← hw1]
    exact Wn.new' .u64 _ 45 (List.replicate 10 0) _ rfl _ (by simp)
  have hb : Below w.heap.size w w1 := by
    rw [← hw1]
    exact ((((Below.refl _ w).alloc (Nat.le_refl _) _).alloc (by simp) _).alloc (by simp; omega) _).alloc (by simp; omega) _
  clear hw1
  obtain ⟨n, hn⟩ : ∃ n, w.heap.size = n := ⟨_, rfl⟩
  simp only [hn] at hV hW hP hR hb ⊢
  have HN := hidden hn
  have HV := hidden hV
  have HW := hidden hW
  have HP := hidden hP
  have HR := hidden hR
  have HB := hidden hb
  clear hV hW hP hR hb hn
  go_wp2
  go_loopw [14] (fun i wr => ∃ (j : Nat), j ≤ 5 ∧ i = .int .i64 j ∧ Wn .u64 wr n 45 (rndV t X Z X' Z' j j) ∧ Wn .u64 wr (n + 1) 45 (rndV t X' Z' X Z j j) ∧ Wn .u64 wr (n + 1 + 1) 45 (List.replicate 10 0) ∧ Wn .u64 wr (n + 1 + 1 + 1) 45 (List.replicate 10 0) ∧ Below n w wr) (fun i _ => 5 - (intOf i).toNat)
  case atStart => exact ⟨0, by omega, rfl, HV.out, HW.out, HP.out, HR.out, HB.out⟩
  case round =>
    clear HV HW HP HR HB
    obtain ⟨j, hj, rfl, hv, hw, hp, hr, hb⟩ := hrel
    have HV := hidden hv
    have HW := hidden hw
    have HP := hidden hp
    have HR := hidden hr
    have HB := hidden hb
    clear hv hw hp hr hb
    by_cases hlt : j < 5
    · have hl1 := HL1.out j j hj hj
      have hl2 := HL2.out j j hj hj
      have c0 := HV.out.cell j (by unfold rndV; rw [List.length_append, hl1.1, hl1.2]; omega)
      have c1 := HW.out.cell j (by unfold rndV; rw [List.length_append, hl2.1, hl2.2]; omega)
      have c2 := HV.out.cell (5 + j) (by unfold rndV; rw [List.length_append, hl1.1, hl1.2]; omega)
      have c3 := HW.out.cell (5 + j) (by unfold rndV; rw [List.length_append, hl2.1, hl2.2]; omega)
      have f0 := HV.out.fr j
      have f1 := HW.out.fr j
      have f2 := HV.out.fr (5 + j)
      have f3 := HW.out.fr (5 + j)
      unfold rndV at c0 c1 c2 c3
      rw [two_get_l _ _ _ hl1.1 hlt, HG1.out j hlt] at c0
      rw [two_get_l _ _ _ hl2.1 hlt, HG3.out j hlt] at c1
      rw [two_get_r _ _ _ hl1.1, HG2.out j hlt] at c2
      rw [two_get_r _ _ _ hl2.1, HG4.out j hlt] at c3
      obtain ⟨x1, x2, x3⟩ := HXX.out j hlt
      obtain ⟨z1, z2, z3⟩ := HZZ.out j hlt
      have HNV := Is.mk (HS1.out j hlt)
      have HNW := Is.mk (HS2.out j hlt)
      have hmw := HM.eq
      generalize X.getD j 0 = x at *
      generalize X'.getD j 0 = x' at *
      generalize Z.getD j 0 = z at *
      generalize Z'.getD j 0 = z' at *
      generalize maskX t x x' = ex at *
      generalize maskX t z z' = ez at *
      generalize selT t x x' = a0 at *
      generalize selT t x' x = b0 at *
      generalize selT t z z' = d0 at *
      generalize selT t z' z = e0 at *
      generalize hv0 : rndV t X Z X' Z' j j = V at *
      generalize hw0 : rndV t X' Z' X Z j j = W at *
      clear hl1 hl2 hv0 hw0
      have b0' : (j : Int) < 5 := by omega
      have b1' : (0 : Int) ≤ (j : Int) := by omega
      have hne : ¬ n = n + 1 := by omega
      have hne' : ¬ n + 1 = n := by omega
      have hne5 : ¬ j = 5 + j := by omega
      have hne5' : ¬ 5 + j = j := by omega
      go_upto_region 5 with fail
      go_region
      have HV5 := hidden HV.out.drew
      have HW5 := hidden HW.out.drew
      have HP5 := hidden HP.out.drew
      have HR5 := hidden HR.out.drew
      have HB5 := hidden HB.out.drew
      replace c0 : wr.drew.cell? ⟨n, j, none⟩ = some (.int .u64 x) := c0
      replace c1 : wr.drew.cell? ⟨n + 1, j, none⟩ = some (.int .u64 x') := c1
      replace c2 : wr.drew.cell? ⟨n, 5 + j, none⟩ = some (.int .u64 z) := c2
      replace c3 : wr.drew.cell? ⟨n + 1, 5 + j, none⟩ = some (.int .u64 z') := c3
      replace f0 : wr.drew.frozen? ⟨n, j, none⟩ = false := f0
      replace f1 : wr.drew.frozen? ⟨n + 1, j, none⟩ = false := f1
      replace f2 : wr.drew.frozen? ⟨n, 5 + j, none⟩ = false := f2
      replace f3 : wr.drew.frozen? ⟨n + 1, 5 + j, none⟩ = false := f3
      clear HV HW HP HR HB x1 z1
      generalize wr.drew = w5 at *
      go_upto_region 6 with fail
      go_region
      have HV6 := hidden (((HV5.out.set j a0).other ⟨n + 1, j, none⟩ (.int .u64 b0) hne).drew)
      have HW6 := hidden (((HW5.out.other ⟨n, j, none⟩ (.int .u64 a0) hne').set j b0).drew)
      have HP6 := hidden (((HP5.out.other ⟨n, j, none⟩ (.int .u64 a0) (by simp; omega)).other ⟨n + 1, j, none⟩ (.int .u64 b0) (by simp)).drew)
      have HR6 := hidden (((HR5.out.other ⟨n, j, none⟩ (.int .u64 a0) (by simp; omega)).other ⟨n + 1, j, none⟩ (.int .u64 b0) (by simp; omega)).drew)
      have HB6 := hidden (((HB5.out.setCell (p := ⟨n, j, none⟩) (Nat.le_refl _) (.int .u64 a0)).setCell (p := ⟨n + 1, j, none⟩) (Nat.le_succ _) (.int .u64 b0)).drew)
      replace c2 : ((w5.setCell ⟨n, j, none⟩ (.int .u64 a0)).setCell ⟨n + 1, j, none⟩ (.int .u64 b0)).drew.cell? ⟨n, 5 + j, none⟩ = some (.int .u64 z) := by go_simp
      replace c3 : ((w5.setCell ⟨n, j, none⟩ (.int .u64 a0)).setCell ⟨n + 1, j, none⟩ (.int .u64 b0)).drew.cell? ⟨n + 1, 5 + j, none⟩ = some (.int .u64 z') := by go_simp
      replace f2 := HV6.out.fr (5 + j)
      replace f3 := HW6.out.fr (5 + j)
      clear HV5 HW5 HP5 HR5 HB5 c0 c1 f0 f1 x2 x3
      generalize World.drew _ = w6 at *
      go_upto_region 7 with fail
      go_region
      have HV7 := (((HV6.out.set (5 + j) d0).other ⟨n + 1, 5 + j, none⟩ (.int .u64 e0) hne).drew)
      have HW7 := (((HW6.out.other ⟨n, 5 + j, none⟩ (.int .u64 d0) hne').set (5 + j) e0).drew)
      rw [HNV.eq] at HV7
      rw [HNW.eq] at HW7
      have HP7 := (((HP6.out.other ⟨n, 5 + j, none⟩ (.int .u64 d0) (by simp; omega)).other ⟨n + 1, 5 + j, none⟩ (.int .u64 e0) (by simp)).drew)
      have HR7 := (((HR6.out.other ⟨n, 5 + j, none⟩ (.int .u64 d0) (by simp; omega)).other ⟨n + 1, 5 + j, none⟩ (.int .u64 e0) (by simp; omega)).drew)
      have HB7 := (((HB6.out.setCell (p := ⟨n, 5 + j, none⟩) (Nat.le_refl _) (.int .u64 d0)).setCell (p := ⟨n + 1, 5 + j, none⟩) (Nat.le_succ _) (.int .u64 e0)).drew)
      clear HV6 HW6 HP6 HR6 HB6 c2 c3 f2 f3 z2 z3
      generalize World.drew _ = w7 at *
      have H7 := hidden (⟨HV7, HW7, HP7, HR7, HB7⟩ : _ ∧ _ ∧ _ ∧ _ ∧ _)
      clear HV7 HW7 HP7 HR7 HB7
      go_wp2
      go_roundw
      case rel => exact ⟨j + 1, by omega, by go_num, H7.out⟩
      case measure => simp [intOf]; omega
    · have hj5 : j = 5 := by omega
      have hge : ¬ (j : Int) < 5 := by omega
      have hv := HV.out
      have hw := HW.out
      rw [hj5, HE1.eq] at hv
      rw [hj5, HE2.eq] at hw
      generalize hV1 : selL t X X' ++ selL t Z Z' = V1 at *
      generalize hV2 : selL t X' X ++ selL t Z' Z = V2 at *
      have HVE1 := Is.mk hV1
      have HVE2 := Is.mk hV2
      have HV := hidden hv
      have HW := hidden hw
      have HI1 := hidden (infoF V1 HVL1.out)
      have HI2 := hidden (infoF V2 HVL2.out)
      have HZ1 : Hid ((ints .u64 (List.replicate 10 (0 : Int))).size = (ints .u64 V1).size) := by show _ = _; rw [ints_size, ints_size, HVL1.out]; rfl
      have HZ2 : Hid ((ints .u64 (List.replicate 10 (0 : Int))).size = (ints .u64 V2).size) := by show _ = _; rw [ints_size, ints_size, HVL2.out]; rfl
      clear hj5 hv hw hV1 hV2
      go_upto_region 9 with fail
      refine region_C 2 (fun U => Wn .u64 U n 45 V1 ∧ Wn .u64 U (n + 1) 45 V2) (fun _ => True) (by kernel_rfl) ⟨HV.out.drew, HW.out.drew⟩ trivial (fun hS0 _ => ?_)
      have HP9 := hidden HP.out.drew
      have HR9 := hidden HR.out.drew
      have HB9 := hidden HB.out.drew
      have HV9 := hidden HV.out.drew
      have HW9 := hidden HW.out.drew
      clear HV HW HP HR HB
      generalize wr.drew = w9 at *
      refine anyC_take (i := 0) (v := .agg (ints .u64 V1)) rfl rfl (by decide) (by kernel_rfl) (by kernel_rfl) (by kernel_rfl) (fun _ _ _ h => h) (Or.inl ⟨by rfl, ?_⟩) hS0 (fun _ => trivial) ?_
      · rintro w0 ⟨s0, s1⟩
        exact fl_load 45 _ rfl n 0 rfl 45 _ _ (0, 0) _ s0.heap Try.underlying45 rfl HI1.out (fun j v h => by rw [Nat.zero_add, ← Array.getElem?_toList]; exact h)
      refine anyC_take (i := 1) (v := .agg (ints .u64 V2)) rfl rfl (by decide) (by kernel_rfl) (by kernel_rfl) (by kernel_rfl) (fun _ _ _ h => h) (Or.inl ⟨by rfl, ?_⟩) hS0 (fun _ => trivial) ?_
      · rintro w0 ⟨s0, s1⟩
        exact fl_load 45 _ rfl (n + 1) 0 rfl 45 _ _ (0, 0) _ s1.heap Try.underlying45 rfl HI2.out (fun j v h => by rw [Nat.zero_add, ← Array.getElem?_toList]; exact h)
      refine anyC_one (i := 2) (by kernel_rfl) rfl (fun K' hK => ?_)
      refine fl_skip rfl (fl_store 45 _ _ rfl (n + 1 + 1) 0 (ints .u64 V1) (ints .u64 V1) rfl rfl 45 _ HP9.out.heap HI1.out (by rw [HZ1.out]; omega) (onek .u64 V1) (patch_whole _ _ HZ1.out)) (hK.out _ _ ⟨HV9.out.rowOther _ _ (by omega), HW9.out.rowOther _ _ (by omega)⟩ (fun _ => trivial) ?_)
      clear hK K'
      have HR10 : Hid (Wn .u64 (w9.setRow (n + 1 + 1) (ints .u64 V1)) (n + 1 + 1 + 1) 45 (List.replicate 10 0)) := HR9.out.rowOther _ _ (by omega)
      have HP10 := hidden (HP9.out.row V1)
      have HV10 : Hid (Wn .u64 (w9.setRow (n + 1 + 1) (ints .u64 V1)) n 45 V1) := HV9.out.rowOther _ _ (by omega)
      have HW10 : Hid (Wn .u64 (w9.setRow (n + 1 + 1) (ints .u64 V1)) (n + 1) 45 V2) := HW9.out.rowOther _ _ (by omega)
      have HB10 := hidden (below_setRow HB9.out (show n ≤ n + 1 + 1 by omega) (ints .u64 V1))
      clear HV9 HW9 HP9 HR9 HB9 hS0
      generalize World.setRow w9 _ _ = w10 at *
      refine anyC_one (i := 3) (by kernel_rfl) rfl (fun K' hK => ?_)
      refine fl_skip rfl (fl_store 45 _ _ rfl (n + 1 + 1 + 1) 0 (ints .u64 V2) (ints .u64 V2) rfl rfl 45 _ HR10.out.heap HI2.out (by rw [HZ2.out]; omega) (onek .u64 V2) (patch_whole _ _ HZ2.out)) (hK.out _ _ ⟨HV10.out.rowOther _ _ (by omega), HW10.out.rowOther _ _ (by omega)⟩ (fun _ => trivial) ?_)
      clear hK K'
      have HR11 := hidden (HR10.out.row V2)
      have HP11 : Hid (Wn .u64 (w10.setRow (n + 1 + 1 + 1) (ints .u64 V2)) (n + 1 + 1) 45 V1) := HP10.out.rowOther _ _ (by omega)
      have HB11 := hidden (below_setRow HB10.out (show n ≤ n + 1 + 1 + 1 by omega) (ints .u64 V2))
      clear HV10 HW10 HP10 HR10 HB10
      generalize World.setRow w10 _ _ = w11 at *
      refine anyC_done (by kernel_rfl) ?_ _
      go_wp2
      refine bodyPost_ret (results_two rfl _ _ (n + 1 + 1) (n + 1 + 1 + 1) 45 _ _ _ _ _ rfl rfl HP11.out.heap HR11.out.heap Try.underlying45 rfl HI1.out HI2.out) rfl ?_
      exact ⟨by rw [HVE1.eq, HVE2.eq], by rw [HN.out]; exact HB11.out⟩
end Go.Proofs.Ytilnbmlbahflkaa
