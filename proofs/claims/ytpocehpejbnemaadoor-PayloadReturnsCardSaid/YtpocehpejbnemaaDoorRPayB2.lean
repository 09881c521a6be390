/-
  Package payload's writer of deletions.
-/
import Derived.Test.YtpocehpejbnemaaDoorRPayB1
import Derived.Test.YtpocehpejbnemaaDoorRZ22
namespace Go.Proofs.YtpocehpejbnemaaDoor
open Go.RowKit
set_option linter.unusedVariables false
set_option linter.unusedSimpArgs false

/-- The length that an SPI has: a wrong one if there is any. -/
def sizeBad (z : Nat) : List (List Int) → Nat
  | [] => z
  | x :: l => if x.length = z then sizeBad z l else x.length
theorem sizeBad_drop (z : Nat) : ∀ (l : List (List Int)) (j : Nat), (∀ x ∈ l.take j, x.length = z) → sizeBad z (l.drop j) = sizeBad z l
  | l, 0, _ => rfl
  | [], j + 1, _ => rfl
  | x :: l, j + 1, h => by
    rw [List.drop_succ_cons, sizeBad_drop z l j (fun y hy => h y (by simp [hy])), sizeBad, if_pos (h x (by simp))]
theorem sizeBad_all (z : Nat) : ∀ (l : List (List Int)), sizeBad z l = z → ∀ x ∈ l, x.length = z
  | [], _ => fun x hx => by cases hx
  | y :: l, h => by
    unfold sizeBad at h
    split at h
    · rename_i hy
      intro x hx
      rcases List.mem_cons.1 hx with rfl | hx
      · exact hy
      · exact sizeBad_all z l h x hx
    · rename_i hy
      exact absurd h hy

set_option maxHeartbeats 1600000 in
set_option maxRecDepth 100000 in
theorem spisSize_any (k : Int) (p : Option Addr) (n c : Nat) (l : List Sb) (w : World) (h : RdG KSb DSb w p n c l) :
    Calls Tryd.prog 95 #[.agg #[.int .i64 k, .slice p n c]] w fun e w' => e = .returned (.int .i64 (sizeBad (spiZ k) (l.map Sb.xs))) ∧ Below w.heap.size w w' := by
  have hn := h.le
  have HB := hidden ((Below.refl w.heap.size w).alloc (Nat.le_refl _) (.cells #[.int .i64 k, .slice p n c] 37))
  have H := hidden (h.below HB.out)
  have HLN := hidden h.len
  have HS := hidden (fun W => spiSize_any k W)
  obtain ⟨X, hX⟩ : ∃ X, l.map Sb.xs = X := ⟨_, rfl⟩
  have HX := Is.mk hX
  rw [hX]
  have HD := hidden (sizeBad_drop (spiZ k) X)
  have hXl : X.length = n := by rw [← hX, List.length_map, h.len]
  have HXL := Is.mk hXl
  generalize spiZ k = z at *
  clear h hX hXl
  go_enter Tryd.func95, Tryd.ntmps95
  go_wp2_with (first
    | (go_at_call 113; (with_reducible refine (HS.out _).mono ?_); rintro e w1 ⟨rfl, rfl⟩)
    | fail)
  generalize hw1 : w.alloc (.cells #[.int .i64 k, .slice p n c] 37) = w1 at *
  go_loopw [12] (fun i wr => ∃ j : Nat, j ≤ n ∧ i = .int .i64 j ∧ Hid (∀ x ∈ X.take j, x.length = z) ∧ wr = w1) (fun i _ => n - (intOf i).toNat)
  case atStart => exact ⟨0, by omega, rfl, hidden (by simp), rfl⟩
  case round =>
    obtain ⟨j, hj, rfl, ha, rfl⟩ := hrel
    by_cases hlt : j < n
    · have hlt' : (j : Int) < n := by omega
      obtain ⟨g, y, rfl, hly, hld, hyb, hcell⟩ := H.out.sb_cons hlt
      have hyl := hyb.len
      have hXj : X.drop j = y.xs :: X.drop (j + 1) := by rw [← HX.eq, ← List.map_drop, hld, List.map_cons, List.map_drop]
      by_cases hyz : y.n = z
      · have hne : ((y.n : Int) != (z : Int)) = false := by simp; omega
        have HA2 : Hid (∀ x ∈ X.take (j + 1), x.length = z) := by
          intro x hx
          have hjx : j < X.length := by rw [HXL.eq]; exact hlt
          have hxj : X[j] = y.xs := by
            have := congrArg (fun l => l[0]?) hXj
            simpa [List.getElem?_drop, hjx] using this
          rw [List.take_succ_eq_append_getElem hjx, List.mem_append, List.mem_singleton] at hx
          rcases hx with hx | rfl
          · exact ha.out x hx
          · rw [hxj]; omega
        clear hly hld hyb hXj ha
        go_wp2
        go_roundw
        case rel => exact ⟨j + 1, by omega, by go_num, HA2, trivial⟩
        case measure => simp [intOf]; omega
      · have hne : ((y.n : Int) != (z : Int)) = true := by simp; omega
        have hres : sizeBad z X = y.n := by
          rw [← HD.out j ha.out, hXj, sizeBad, if_neg (by omega), hyl]
        have HRS := hidden hres
        clear hly hld hyb hXj ha hres
        go_wp2
        go_ret
        exact ⟨by rw [HRS.out]; rfl, HB.out⟩
    · obtain rfl : j = n := by omega
      have hge : ¬ (j : Int) < j := by omega
      have hres : sizeBad z X = z := by rw [← HD.out j ha.out, List.drop_of_length_le (by rw [HXL.eq]; exact Nat.le_refl _)]; rfl
      have HRS := hidden hres
      clear ha hres
      go_wp2
      go_ret
      exact ⟨by rw [HRS.out]; rfl, HB.out⟩

/-- The bytes of a deletion, and the first error. -/
def delL (k : Int) (l : List (List Int)) : List Int := [k % 256, (sizeBad (spiZ k) l : Int) % 256, (l.length : Int) / 256 % 256, (l.length : Int) % 256] ++ l.flatten
def delBE (k : Int) (l : List (List Int)) : Int := if deleteE k (sizeBad (spiZ k) l) l.length ≠ 0 then deleteE k (sizeBad (spiZ k) l) l.length else spisX k l
def delBL (k : Int) (l : List (List Int)) : List Int := if deleteE k (sizeBad (spiZ k) l) l.length ≠ 0 then [] else delL k l
theorem flatten_len (z : Nat) : ∀ (l : List (List Int)), (∀ x ∈ l, x.length = z) → l.flatten.length = l.length * z
  | [], _ => by simp
  | x :: l, h => by
    have h1 := h x (by simp)
    have h2 := flatten_len z l (fun y hy => h y (by simp [hy]))
    rw [List.flatten_cons, List.length_append, h1, h2, List.length_cons, Nat.add_mul]
    omega
theorem spiZ_le (k : Int) : spiZ k ≤ 4 := by unfold spiZ; split <;> omega
def sbPart (x : Sb) : Part := ⟨x.p, x.n, x.c, x.xs⟩
theorem RdG.sbParts {w : World} {p : Option Addr} {n c : Nat} {l : List Sb} (h : RdG KSb DSb w p n c l) : Parts w p n c (l.map sbPart) :=
  ⟨by rw [List.length_map, h.len], h.cap, h.big, fun h0 => by
    obtain ⟨g, x, e, -⟩ := h.sb_cons h0
    refine ⟨g, e, fun j hj => ?_⟩
    rw [List.length_map] at hj
    obtain ⟨g', y, e', hy, -, -, hc⟩ := h.sb_cons (j := j) (by rw [← h.len]; exact hj)
    rw [e] at e'
    injection e' with e'
    injection e' with e1 e2
    subst e1
    have : (l.map sbPart)[j]'(by rw [List.length_map]; exact hj) = sbPart y := by
      rw [List.getElem_map]
      congr 1
      rw [List.getElem?_eq_getElem hj] at hy
      exact Option.some.inj hy
    rw [this]
    exact hc, fun x hx => by
    obtain ⟨y, hy, rfl⟩ := List.mem_map.1 hx
    exact h.ok y hy⟩
theorem sbParts_bytes (l : List Sb) : bytesOf (l.map sbPart) = (l.map Sb.xs).flatten := by
  unfold bytesOf
  induction l with
  | nil => rfl
  | cons x l ih => simp only [List.map_cons, List.flatMap_cons, List.flatten_cons, ih]; rfl

set_option maxHeartbeats 6400000 in
set_option maxRecDepth 100000 in
theorem buildDelete_any (k : Int) (p : Option Addr) (n c : Nat) (l : List Sb) (w : World) (h : RdG KSb DSb w p n c l) (hn : n ≤ 1000000) :
    Calls Tryd.prog 65 #[.agg #[.int .i64 k, .slice p n c]] w (GotBE w (delBL k (l.map Sb.xs)) (delBE k (l.map Sb.xs))) := by
  have HB0 := hidden ((Below.refl w.heap.size w).alloc (Nat.le_refl _) (.cells #[.int .i64 k, .slice p n c] 37))
  have HRD := hidden (fun W (hW : Below w.heap.size w W) => h.below hW)
  have HSZ := hidden (fun W (hW : Below w.heap.size w W) => spisSize_any k p n c l W (h.below hW))
  obtain ⟨X, hX⟩ : ∃ X, l.map Sb.xs = X := ⟨_, rfl⟩
  have hXl : X.length = n := by rw [← hX, List.length_map, h.len]
  obtain ⟨z, hz⟩ : ∃ z, sizeBad (spiZ k) X = z := ⟨_, rfl⟩
  obtain ⟨E1, hE1⟩ : ∃ E1, deleteE k z n = E1 := ⟨_, rfl⟩
  have hle : delBE k X = if E1 ≠ 0 then E1 else spisX k X := by unfold delBE; rw [hz, hXl, hE1]
  have hll : delBL k X = if E1 ≠ 0 then [] else [k % 256, (z : Int) % 256, (n : Int) / 256 % 256, (n : Int) % 256] ++ X.flatten := by unfold delBL; rw [hz, hXl, hE1]; unfold delL; rw [hz, hXl]
  rw [hX, hz] at HSZ
  rw [hX]
  have HCD := hidden (fun W => checkDelete_any k z n W E1 hE1)
  have HLE := Is.mk hle
  have HLL := Is.mk hll
  have HXL := Is.mk hXl
  have HXX := Is.mk hX
  have HZ := Is.mk hz
  have HE1 := Is.mk hE1
  have hspi : spisE k l = spisX k X := by rw [spisE_xs, hX]
  have HSP := Is.mk hspi
  generalize delBE k X = EE at *
  generalize delBL k X = LL at *
  clear h hX hXl hz hE1 hle hll hspi
  go_enter Tryd.func65, Tryd.ntmps65
  go_upto_region 1 with fail
  have k0 : (w.alloc (.cells #[.int .i64 k, .slice p n c] 37)).cell? ⟨w.heap.size, 0, none⟩ = some (.int .i64 k) := by go_simp
  have k1 : (w.alloc (.cells #[.int .i64 k, .slice p n c] 37)).cell? ⟨w.heap.size, 1, none⟩ = some (.slice p n c) := by go_simp
  generalize w.alloc (.cells #[.int .i64 k, .slice p n c] 37) = w1 at *
  have HKK := hidden (fun W (hW : Below w1.heap.size w1 W) => (⟨cell_below hW _ _ k0, cell_below hW _ _ k1⟩ : W.cell? ⟨w.heap.size, 0, none⟩ = some (.int .i64 k) ∧ W.cell? ⟨w.heap.size, 1, none⟩ = some (.slice p n c)))
  have HR0 := hidden (show Below w1.heap.size w1 w1.drew from drew_below ⟨1, rfl⟩)
  have hwN : w.heap.size ≤ w1.heap.size := HB0.out.size
  have HS1 := hidden (fun W (hW : Below w1.heap.size w1 W) => HSZ.out W (HB0.out.trans (hW.mono hwN)))
  go_cut [4, 5] from 8 to 12 (fun a b wx => a = .int .i64 z ∧ b = .int .i64 n ∧ Below w1.heap.size w1 wx)
  case first =>
    go_region_held3 (fun W => W.cell? ⟨w.heap.size, 0, none⟩ = some (.int .i64 k) ∧ W.cell? ⟨w.heap.size, 1, none⟩ = some (.slice p n c)) (first | exact HKK.out _ HR0.out | exact HKK.out _ HB2.out | go_keep)
      (first
      | (go_at_call 95; (with_reducible refine (HS1.out _ HR0.out).mono ?_); rintro e w2 ⟨rfl, hb2⟩; have HB2 : Hid (Below w1.heap.size w1 w2) := hidden (HR0.out.trans (hb2.mono HR0.out.size)); clear hb2)
      | fail)
    all_goals
      go_wp2_with fail
      go_meet
    all_goals exact ⟨rfl, rfl, HB2.out⟩
  case rest =>
    obtain ⟨rfl, rfl, hbc⟩ := hcut
    have HBC := hidden hbc
    obtain ⟨c0, c1⟩ := HKK.out wc hbc
    have HCD1 := hidden (HCD.out wc)
    have HBw := hidden (HB0.out.trans (hbc.mono hwN))
    clear hbc
    go_upto_region 3 with (first
      | (go_at_call 96; (with_reducible refine (HCD1.out).mono ?_); rintro e w3 ⟨rfl, rfl⟩)
      | fail)
    by_cases h0 : E1 ≠ 0
    · have hne : (E1 != 0) = true := by simpa using h0
      have hle := HLE.eq
      have hll := HLL.eq
      rw [if_pos h0] at hle hll
      subst hle hll
      clear h0
      go_wp2
      go_ret2
      exact ⟨none, 0, rfl, Frs.nil _ _ _ _ (by decide), HBw.out⟩
    · have hEe : E1 = 0 := by omega
      have hz : z = spiZ k := by
        have := HE1.eq
        rw [hEe] at this
        unfold deleteE at this
        split at this
        · exact absurd this (by decide)
        · split at this
          · rename_i h2
            exact_mod_cast h2.1
          · exact absurd this (by decide)
      have hall : ∀ x ∈ X, x.length = z := by
        have h1 := HZ.eq
        rw [← hz] at h1
        exact sizeBad_all z X h1
      have hz4 := spiZ_le k
      have hfl : X.flatten.length ≤ 4000000 := by
        rw [flatten_len z X hall, HXL.eq]
        calc n * z ≤ n * 4 := Nat.mul_le_mul_left n (by omega)
          _ ≤ 4000000 := by omega
      have hle := HLE.eq
      have hll := HLL.eq
      rw [if_neg h0] at hle hll
      have hx1 := mod256_rng k
      have hx2 := mod256_rng (z : Int)
      have hx3 := mod256_rng ((n : Int) / 256)
      have hx4 := mod256_rng (n : Int)
      have HCS := hidden (fun W (hW : Below w1.heap.size w1 W) => checkSpis_any k p n c l W (HRD.out W (HB0.out.trans (hW.mono hwN))))
      rw [HSP.eq, ← hle] at HCS
      have hsz : sizeOf' (l.map sbPart) ≤ 140737488355000 := by
        have := bytesOf_len' (w := w) (l := l.map sbPart) (fun x hx => by
          obtain ⟨y, hy, rfl⟩ := List.mem_map.1 hx
          exact (HRD.out w (Below.refl _ _)).ok y hy)
        rw [sbParts_bytes, HXX.eq] at this
        omega
      have HBF := hidden (fun W (hW : Below w1.heap.size w1 W) => before_any (k % 256) ((z : Int) % 256) ((n : Int) / 256 % 256) ((n : Int) % 256) hx1 hx2 hx3 hx4 p n c _ W (HRD.out W (HB0.out.trans (hW.mono hwN))).sbParts hsz LL (by rw [hll, sbParts_bytes, HXX.eq]))
      clear hle hll hall hsz h0
      subst hEe
      clear hz HE1 HLE HLL
      go_upto_region 6 with fail
      generalize hw2 : wc.alloc (.cells _ 102) = w2
      have k2 : w2.cell? ⟨wc.heap.size, 0, none⟩ = some (.int .u8 (k % 256)) := by rw [← hw2]; clear hw2; go_simp
      have k3 : w2.cell? ⟨wc.heap.size, 1, none⟩ = some (.int .u8 ((z : Int) % 256)) := by rw [← hw2]; clear hw2; go_simp
      have k4 : w2.cell? ⟨wc.heap.size, 2, none⟩ = some (.int .u8 ((n : Int) / 256 % 256)) := by rw [← hw2]; clear hw2; go_simp
      have k5 : w2.cell? ⟨wc.heap.size, 3, none⟩ = some (.int .u8 ((n : Int) % 256)) := by rw [← hw2]; clear hw2; go_simp
      have hb2 : Below w1.heap.size w1 w2 := by rw [← hw2]; exact HBC.out.alloc HBC.out.size _
      have HB2 := hidden hb2
      have k6 := cell_below hb2 _ _ k0
      have k7 := cell_below hb2 _ _ k1
      have HBw2 := hidden (HB0.out.trans (hb2.mono hwN))
      have HK2 := hidden (fun W (hW : Below w2.heap.size w2 W) => (⟨cell_below hW _ _ k6, cell_below hW _ _ k7, cell_below hW _ _ k2, cell_below hW _ _ k3, cell_below hW _ _ k4, cell_below hW _ _ k5⟩ : W.cell? ⟨w.heap.size, 0, none⟩ = some (.int .i64 k) ∧ W.cell? ⟨w.heap.size, 1, none⟩ = some (.slice p n c) ∧ W.cell? ⟨wc.heap.size, 0, none⟩ = some (.int .u8 (k % 256)) ∧ W.cell? ⟨wc.heap.size, 1, none⟩ = some (.int .u8 ((z : Int) % 256)) ∧ W.cell? ⟨wc.heap.size, 2, none⟩ = some (.int .u8 ((n : Int) / 256 % 256)) ∧ W.cell? ⟨wc.heap.size, 3, none⟩ = some (.int .u8 ((n : Int) % 256))))
      have hW2 := fun W (hW : Below w2.heap.size w2 W) => (show Below w1.heap.size w1 W from hb2.trans (hW.mono hb2.size))
      have HBF2 := hidden (fun W (hW : Below w2.heap.size w2 W) => HBF.out W (hW2 W hW))
      have HCS2 := hidden (fun W (hW : Below w2.heap.size w2 W) => HCS.out W (hW2 W hW))
      have HR2 := hidden (show Below w2.heap.size w2 w2.drew from drew_below ⟨1, rfl⟩)
      have HFIN := hidden (fun (q : Option Addr) (d : Nat) W (hf : Frs W w2.heap.size q LL.length d LL) (hW : Below w2.heap.size w2 W) => show GotBE w LL EE (.returned (.tuple #[.slice q LL.length d, .int .i64 EE])) W from ⟨q, d, rfl, hf.mono HBw2.out.size, HBw2.out.trans (hW.mono HBw2.out.size)⟩)
      clear hw2 hb2 hW2 HBF HCS HR0 HS1 c0 c1
      generalize w.heap.size = N at *
      generalize wc.heap.size = M at *
      go_region_held3 (fun W => W.cell? ⟨N, 0, none⟩ = some (.int .i64 k) ∧ W.cell? ⟨N, 1, none⟩ = some (.slice p n c) ∧ W.cell? ⟨M, 0, none⟩ = some (.int .u8 (k % 256)) ∧ W.cell? ⟨M, 1, none⟩ = some (.int .u8 ((z : Int) % 256)) ∧ W.cell? ⟨M, 2, none⟩ = some (.int .u8 ((n : Int) / 256 % 256)) ∧ W.cell? ⟨M, 3, none⟩ = some (.int .u8 ((n : Int) % 256)))
        (first | exact HK2.out _ HB5.out | exact HK2.out _ HB6.out | exact HK2.out _ HR2.out | go_keep)
        (first
        | (go_at_call 59; (with_reducible refine (HBF2.out _ HR2.out).mono ?_); rintro e w5 ⟨q5, d5, rfl, hf5, hb5⟩; have HF5 := hidden (hf5.mono HR2.out.size); have HB5 : Hid (Below w2.heap.size w2 w5) := hidden (HR2.out.trans (hb5.mono HR2.out.size)); clear hf5 hb5)
        | (go_at_call 59; (with_reducible refine (HBF2.out _ HB6.out).mono ?_); rintro e w5 ⟨q5, d5, rfl, hf5, hb5⟩; have HF5 := hidden (hf5.mono HB6.out.size); have HB5 : Hid (Below w2.heap.size w2 w5) := hidden (HB6.out.trans (hb5.mono HB6.out.size)); clear hf5 hb5)
        | (go_at_call 97; (with_reducible refine (HCS2.out _ HR2.out).mono ?_); rintro e w6 ⟨rfl, hb6⟩; have HB6 : Hid (Below w2.heap.size w2 w6) := hidden (HR2.out.trans (hb6.mono HR2.out.size)); clear hb6)
        | (go_at_call 97; (with_reducible refine (HCS2.out _ HB5.out).mono ?_); rintro e w6 ⟨rfl, hb6⟩; have HB6 : Hid (Below w2.heap.size w2 w6) := hidden (HB5.out.trans (hb6.mono HB5.out.size)); have HF6 : Hid (∀ q d, Frs w5 w2.heap.size q LL.length d LL → Frs w6 w2.heap.size q LL.length d LL) := hidden (fun q d hf => hf.below hb6); clear hb6)
        | fail)
      all_goals
        go_wp2
        go_ret2
        first
          | exact HFIN.out q5 d5 _ HF5.out HB5.out
          | exact HFIN.out q5 d5 _ (HF6.out _ _ HF5.out) HB6.out
end Go.Proofs.YtpocehpejbnemaaDoor
