/-
  Package payload's writer of deletions.
  Package payload's Build, given what build returns.
  What header.Parse returns: the header in any bytes, or the first error.
  Plain mathematics, no program: what is read of the bytes of a header.
  The generator of a chain's payloads: what it hands to the loop over it, and what the reader holds when it ends.
  What chain.Parse returns: the payloads in any bytes, or the first error.
  What is known of an element of a row as long as the memory from some place on stays; append to a row as a law of the walk that says where the row lies.
  A statement that draws its order: a condition on the world that holds till one operation, a call, has come up, beside one that holds throughout. What that call waits for may be loaded by the first condition, although stores behind the call end it.
-/
import Derived.Test.YtnbkffehhahckaaGreatJZ11
import Derived.Test.YtnbkffehhahckaaGreatJZ5
import Derived.Test.YtnbkffehhahckaaGreatJZ4
import Derived.Test.YtnbkffehhahckaaGreatJZ6
import Derived.Test.YtnbkffehhahckaaGreatJZ18
import Derived.Test.YtnbkffehhahckaaGreatJZ19
import Derived.Test.YtnbkffehhahckaaGreatJPayKp
import Derived.Test.YtnbkffehhahckaaGreatRows
import Derived.Shelf.RegionOpen
import Derived.OwnWalkIn
import Derived.TacticsInMore
import Derived.LoopNIn
import Derived.LoopIn
import Derived.Sort.QuietIn
import Derived.OrdersHeld
import Derived.Deep.RegionHeld
namespace Go.Proofs.YtnbkffehhahckaaGreat
open Go.RowKit
set_option linter.unusedVariables false
set_option linter.unusedSimpArgs false
def sizeBad (z : Nat) : List (List Int) → Nat
  | [] => z
  | x :: l => if x.length = z then sizeBad z l else x.length
theorem sizeBad_drop (z : Nat) : ∀ (l : List (List Int)) (j : Nat), (∀ x ∈ l.take j, x.length = z) → sizeBad z (l.drop j) = sizeBad z l
  | l, 0, _ => rfl
  | [], j + 1, _ => rfl
  | x :: l, j + 1, h => by
    rw [List.drop_succ_cons, sizeBad_drop z l j (fun y hy => h y (by simp [hy])), sizeBad, if_pos (h x (by simp))]
theorem sizeBad_all (z : Nat) : ∀ (l : List (List Int)), sizeBad z l = z → ∀ x ∈ l, x.length = z
  | [], _ => fun x hx => by cases hx
  | y :: l, h => by
    unfold sizeBad at h
    split at h
    · rename_i hy
      intro x hx
      rcases List.mem_cons.1 hx with rfl | hx
      · exact hy
      · exact sizeBad_all z l h x hx
    · rename_i hy
      exact absurd h hy
set_option maxHeartbeats 1600000 in
set_option maxRecDepth 100000 in
theorem spisSize_any (k : Int) (p : Option Addr) (n c : Nat) (l : List Sb) (w : World) (h : RdG KSb DSb w p n c l) :
    Calls Tryz.prog 94 #[.agg #[.int .i64 k, .slice p n c]] w fun e w' => e = .returned (.int .i64 (sizeBad (spiZ k) (l.map Sb.xs))) ∧ Below w.heap.size w w' := by
  have hn := h.le
  have HB := hidden ((Below.refl w.heap.size w).alloc (Nat.le_refl _) (.cells #[.int .i64 k, .slice p n c] 53))
  have H := hidden (h.below HB.out)
  have HLN := hidden h.len
  have HS := hidden (fun W => spiSize_any k W)
  obtain ⟨X, hX⟩ : ∃ X, l.map Sb.xs = X := ⟨_, rfl⟩
  have HX := Is.mk hX
  rw [hX]
  have HD := hidden (sizeBad_drop (spiZ k) X)
  have hXl : X.length = n := by rw [← hX, List.length_map, h.len]
  have HXL := Is.mk hXl
  generalize spiZ k = z at *
  clear h hX hXl
  go_enter Tryz.func94, Tryz.ntmps94
  go_wp2_with (first
    | (go_at_call 110; (with_reducible refine (HS.out _).mono ?_); rintro e w1 ⟨rfl, rfl⟩)
    | fail)
  generalize hw1 : w.alloc (.cells #[.int .i64 k, .slice p n c] 53) = w1 at *
  go_loopw [12] (fun i wr => ∃ j : Nat, j ≤ n ∧ i = .int .i64 j ∧ Hid (∀ x ∈ X.take j, x.length = z) ∧ wr = w1) (fun i _ => n - (intOf i).toNat)
  case atStart => exact ⟨0, by omega, rfl, hidden (by simp), rfl⟩
  case round =>
    obtain ⟨j, hj, rfl, ha, rfl⟩ := hrel
    by_cases hlt : j < n
    · have hlt' : (j : Int) < n := by omega
      obtain ⟨g, y, rfl, hly, hld, hyb, hcell⟩ := H.out.sb_cons hlt
      have hyl := hyb.len
      have hXj : X.drop j = y.xs :: X.drop (j + 1) := by rw [← HX.eq, ← List.map_drop, hld, List.map_cons, List.map_drop]
      by_cases hyz : y.n = z
      · have hne : ((y.n : Int) != (z : Int)) = false := by simp; omega
        have HA2 : Hid (∀ x ∈ X.take (j + 1), x.length = z) := by
          intro x hx
          have hjx : j < X.length := by rw [HXL.eq]; exact hlt
          have hxj : X[j] = y.xs := by
            have := congrArg (fun l => l[0]?) hXj
            simpa [List.getElem?_drop, hjx] using this
          rw [List.take_succ_eq_append_getElem hjx, List.mem_append, List.mem_singleton] at hx
          rcases hx with hx | rfl
          · exact ha.out x hx
          · rw [hxj]; omega
        clear hly hld hyb hXj ha
        go_wp2
        go_roundw
        case rel => exact ⟨j + 1, by omega, by go_num, HA2, trivial⟩
        case measure => simp [intOf]; omega
      · have hne : ((y.n : Int) != (z : Int)) = true := by simp; omega
        have hres : sizeBad z X = y.n := by
          rw [← HD.out j ha.out, hXj, sizeBad, if_neg (by omega), hyl]
        have HRS := hidden hres
        clear hly hld hyb hXj ha hres
        go_wp2
        go_ret
        exact ⟨by rw [HRS.out]; rfl, HB.out⟩
    · obtain rfl : j = n := by omega
      have hge : ¬ (j : Int) < j := by omega
      have hres : sizeBad z X = z := by rw [← HD.out j ha.out, List.drop_of_length_le (by rw [HXL.eq]; exact Nat.le_refl _)]; rfl
      have HRS := hidden hres
      clear ha hres
      go_wp2
      go_ret
      exact ⟨by rw [HRS.out]; rfl, HB.out⟩
def delL (k : Int) (l : List (List Int)) : List Int := [k % 256, (sizeBad (spiZ k) l : Int) % 256, (l.length : Int) / 256 % 256, (l.length : Int) % 256] ++ l.flatten
def delBE (k : Int) (l : List (List Int)) : Int := if deleteE k (sizeBad (spiZ k) l) l.length ≠ 0 then deleteE k (sizeBad (spiZ k) l) l.length else spisX k l
def delBL (k : Int) (l : List (List Int)) : List Int := if deleteE k (sizeBad (spiZ k) l) l.length ≠ 0 then [] else delL k l
theorem flatten_len (z : Nat) : ∀ (l : List (List Int)), (∀ x ∈ l, x.length = z) → l.flatten.length = l.length * z
  | [], _ => by simp
  | x :: l, h => by
    have h1 := h x (by simp)
    have h2 := flatten_len z l (fun y hy => h y (by simp [hy]))
    rw [List.flatten_cons, List.length_append, h1, h2, List.length_cons, Nat.add_mul]
    omega
theorem spiZ_le (k : Int) : spiZ k ≤ 4 := by unfold spiZ; split <;> omega
def sbPart (x : Sb) : Part := ⟨x.p, x.n, x.c, x.xs⟩
theorem RdG.sbParts {w : World} {p : Option Addr} {n c : Nat} {l : List Sb} (h : RdG KSb DSb w p n c l) : Parts w p n c (l.map sbPart) :=
  ⟨by rw [List.length_map, h.len], h.cap, h.big, fun h0 => by
    obtain ⟨g, x, e, -⟩ := h.sb_cons h0
    refine ⟨g, e, fun j hj => ?_⟩
    rw [List.length_map] at hj
    obtain ⟨g', y, e', hy, -, -, hc⟩ := h.sb_cons (j := j) (by rw [← h.len]; exact hj)
    rw [e] at e'
    injection e' with e'
    injection e' with e1 e2
    subst e1
    have : (l.map sbPart)[j]'(by rw [List.length_map]; exact hj) = sbPart y := by
      rw [List.getElem_map]
      congr 1
      rw [List.getElem?_eq_getElem hj] at hy
      exact Option.some.inj hy
    rw [this]
    exact hc, fun x hx => by
    obtain ⟨y, hy, rfl⟩ := List.mem_map.1 hx
    exact h.ok y hy⟩
theorem sbParts_bytes (l : List Sb) : bytesOf (l.map sbPart) = (l.map Sb.xs).flatten := by
  unfold bytesOf
  induction l with
  | nil => rfl
  | cons x l ih => simp only [List.map_cons, List.flatMap_cons, List.flatten_cons, ih]; rfl
set_option maxHeartbeats 6400000 in
set_option maxRecDepth 100000 in
theorem buildDelete_any (k : Int) (p : Option Addr) (n c : Nat) (l : List Sb) (w : World) (h : RdG KSb DSb w p n c l) (hn : n ≤ 1000000) :
    Calls Tryz.prog 68 #[.agg #[.int .i64 k, .slice p n c]] w (GotBE w (delBL k (l.map Sb.xs)) (delBE k (l.map Sb.xs))) := by
  have HB0 := hidden ((Below.refl w.heap.size w).alloc (Nat.le_refl _) (.cells #[.int .i64 k, .slice p n c] 53))
  have HRD := hidden (fun W (hW : Below w.heap.size w W) => h.below hW)
  have HSZ := hidden (fun W (hW : Below w.heap.size w W) => spisSize_any k p n c l W (h.below hW))
  obtain ⟨X, hX⟩ : ∃ X, l.map Sb.xs = X := ⟨_, rfl⟩
  have hXl : X.length = n := by rw [← hX, List.length_map, h.len]
  obtain ⟨z, hz⟩ : ∃ z, sizeBad (spiZ k) X = z := ⟨_, rfl⟩
  obtain ⟨E1, hE1⟩ : ∃ E1, deleteE k z n = E1 := ⟨_, rfl⟩
  have hle : delBE k X = if E1 ≠ 0 then E1 else spisX k X := by unfold delBE; rw [hz, hXl, hE1]
  have hll : delBL k X = if E1 ≠ 0 then [] else [k % 256, (z : Int) % 256, (n : Int) / 256 % 256, (n : Int) % 256] ++ X.flatten := by unfold delBL; rw [hz, hXl, hE1]; unfold delL; rw [hz, hXl]
  rw [hX, hz] at HSZ
  rw [hX]
  have HCD := hidden (fun W => checkDelete_any k z n W E1 hE1)
  have HLE := Is.mk hle
  have HLL := Is.mk hll
  have HXL := Is.mk hXl
  have HXX := Is.mk hX
  have HZ := Is.mk hz
  have HE1 := Is.mk hE1
  have hspi : spisE k l = spisX k X := by rw [spisE_xs, hX]
  have HSP := Is.mk hspi
  generalize delBE k X = EE at *
  generalize delBL k X = LL at *
  clear h hX hXl hz hE1 hle hll hspi
  go_enter Tryz.func68, Tryz.ntmps68
  go_upto_region 1 with fail
  have k0 : (w.alloc (.cells #[.int .i64 k, .slice p n c] 53)).cell? ⟨w.heap.size, 0, none⟩ = some (.int .i64 k) := by go_simp
  have k1 : (w.alloc (.cells #[.int .i64 k, .slice p n c] 53)).cell? ⟨w.heap.size, 1, none⟩ = some (.slice p n c) := by go_simp
  generalize w.alloc (.cells #[.int .i64 k, .slice p n c] 53) = w1 at *
  have HKK := hidden (fun W (hW : Below w1.heap.size w1 W) => (⟨cell_below hW _ _ k0, cell_below hW _ _ k1⟩ : W.cell? ⟨w.heap.size, 0, none⟩ = some (.int .i64 k) ∧ W.cell? ⟨w.heap.size, 1, none⟩ = some (.slice p n c)))
  have HR0 := hidden (show Below w1.heap.size w1 w1.drew from drew_below ⟨1, rfl⟩)
  have hwN : w.heap.size ≤ w1.heap.size := HB0.out.size
  have HS1 := hidden (fun W (hW : Below w1.heap.size w1 W) => HSZ.out W (HB0.out.trans (hW.mono hwN)))
  go_cut [4, 5] from 8 to 12 (fun a b wx => a = .int .i64 z ∧ b = .int .i64 n ∧ Below w1.heap.size w1 wx)
  case first =>
    go_region_held3 (fun W => W.cell? ⟨w.heap.size, 0, none⟩ = some (.int .i64 k) ∧ W.cell? ⟨w.heap.size, 1, none⟩ = some (.slice p n c)) (first | exact HKK.out _ HR0.out | exact HKK.out _ HB2.out | go_keep)
      (first
      | (go_at_call 94; (with_reducible refine (HS1.out _ HR0.out).mono ?_); rintro e w2 ⟨rfl, hb2⟩; have HB2 : Hid (Below w1.heap.size w1 w2) := hidden (HR0.out.trans (hb2.mono HR0.out.size)); clear hb2)
      | fail)
    all_goals
      go_wp2_with fail
      go_meet
    all_goals exact ⟨rfl, rfl, HB2.out⟩
  case rest =>
    obtain ⟨rfl, rfl, hbc⟩ := hcut
    have HBC := hidden hbc
    obtain ⟨c0, c1⟩ := HKK.out wc hbc
    have HCD1 := hidden (HCD.out wc)
    have HBw := hidden (HB0.out.trans (hbc.mono hwN))
    clear hbc
    go_upto_region 3 with (first
      | (go_at_call 95; (with_reducible refine (HCD1.out).mono ?_); rintro e w3 ⟨rfl, rfl⟩)
      | fail)
    by_cases h0 : E1 ≠ 0
    · have hne : (E1 != 0) = true := by simpa using h0
      have hle := HLE.eq
      have hll := HLL.eq
      rw [if_pos h0] at hle hll
      subst hle hll
      clear h0
      go_wp2
      go_ret2
      exact ⟨none, 0, rfl, Frs.nil _ _ _ _ (by decide), HBw.out⟩
    · have hEe : E1 = 0 := by omega
      have hz : z = spiZ k := by
        have := HE1.eq
        rw [hEe] at this
        unfold deleteE at this
        split at this
        · exact absurd this (by decide)
        · split at this
          · rename_i h2
            exact_mod_cast h2.1
          · exact absurd this (by decide)
      have hall : ∀ x ∈ X, x.length = z := by
        have h1 := HZ.eq
        rw [← hz] at h1
        exact sizeBad_all z X h1
      have hz4 := spiZ_le k
      have hfl : X.flatten.length ≤ 4000000 := by
        rw [flatten_len z X hall, HXL.eq]
        calc n * z ≤ n * 4 := Nat.mul_le_mul_left n (by omega)
          _ ≤ 4000000 := by omega
      have hle := HLE.eq
      have hll := HLL.eq
      rw [if_neg h0] at hle hll
      have hx1 := mod256_rng k
      have hx2 := mod256_rng (z : Int)
      have hx3 := mod256_rng ((n : Int) / 256)
      have hx4 := mod256_rng (n : Int)
      have HCS := hidden (fun W (hW : Below w1.heap.size w1 W) => checkSpis_any k p n c l W (HRD.out W (HB0.out.trans (hW.mono hwN))))
      rw [HSP.eq, ← hle] at HCS
      have hsz : sizeOf' (l.map sbPart) ≤ 140737488355000 := by
        have := bytesOf_len' (w := w) (l := l.map sbPart) (fun x hx => by
          obtain ⟨y, hy, rfl⟩ := List.mem_map.1 hx
          exact (HRD.out w (Below.refl _ _)).ok y hy)
        rw [sbParts_bytes, HXX.eq] at this
        omega
      have HBF := hidden (fun W (hW : Below w1.heap.size w1 W) => before_any (k % 256) ((z : Int) % 256) ((n : Int) / 256 % 256) ((n : Int) % 256) hx1 hx2 hx3 hx4 p n c _ W (HRD.out W (HB0.out.trans (hW.mono hwN))).sbParts hsz LL (by rw [hll, sbParts_bytes, HXX.eq]))
      clear hle hll hall hsz h0
      subst hEe
      clear hz HE1 HLE HLL
      go_upto_region 6 with fail
      generalize hw2 : wc.alloc (.cells _ 141) = w2
      have k2 : w2.cell? ⟨wc.heap.size, 0, none⟩ = some (.int .u8 (k % 256)) := by rw [← hw2]; clear hw2; go_simp
      have k3 : w2.cell? ⟨wc.heap.size, 1, none⟩ = some (.int .u8 ((z : Int) % 256)) := by rw [← hw2]; clear hw2; go_simp
      have k4 : w2.cell? ⟨wc.heap.size, 2, none⟩ = some (.int .u8 ((n : Int) / 256 % 256)) := by rw [← hw2]; clear hw2; go_simp
      have k5 : w2.cell? ⟨wc.heap.size, 3, none⟩ = some (.int .u8 ((n : Int) % 256)) := by rw [← hw2]; clear hw2; go_simp
      have hb2 : Below w1.heap.size w1 w2 := by rw [← hw2]; exact HBC.out.alloc HBC.out.size _
      have HB2 := hidden hb2
      have k6 := cell_below hb2 _ _ k0
      have k7 := cell_below hb2 _ _ k1
      have HBw2 := hidden (HB0.out.trans (hb2.mono hwN))
      have HK2 := hidden (fun W (hW : Below w2.heap.size w2 W) => (⟨cell_below hW _ _ k6, cell_below hW _ _ k7, cell_below hW _ _ k2, cell_below hW _ _ k3, cell_below hW _ _ k4, cell_below hW _ _ k5⟩ : W.cell? ⟨w.heap.size, 0, none⟩ = some (.int .i64 k) ∧ W.cell? ⟨w.heap.size, 1, none⟩ = some (.slice p n c) ∧ W.cell? ⟨wc.heap.size, 0, none⟩ = some (.int .u8 (k % 256)) ∧ W.cell? ⟨wc.heap.size, 1, none⟩ = some (.int .u8 ((z : Int) % 256)) ∧ W.cell? ⟨wc.heap.size, 2, none⟩ = some (.int .u8 ((n : Int) / 256 % 256)) ∧ W.cell? ⟨wc.heap.size, 3, none⟩ = some (.int .u8 ((n : Int) % 256))))
      have hW2 := fun W (hW : Below w2.heap.size w2 W) => (show Below w1.heap.size w1 W from hb2.trans (hW.mono hb2.size))
      have HBF2 := hidden (fun W (hW : Below w2.heap.size w2 W) => HBF.out W (hW2 W hW))
      have HCS2 := hidden (fun W (hW : Below w2.heap.size w2 W) => HCS.out W (hW2 W hW))
      have HR2 := hidden (show Below w2.heap.size w2 w2.drew from drew_below ⟨1, rfl⟩)
      have HFIN := hidden (fun (q : Option Addr) (d : Nat) W (hf : Frs W w2.heap.size q LL.length d LL) (hW : Below w2.heap.size w2 W) => show GotBE w LL EE (.returned (.tuple #[.slice q LL.length d, .int .i64 EE])) W from ⟨q, d, rfl, hf.mono HBw2.out.size, HBw2.out.trans (hW.mono HBw2.out.size)⟩)
      clear hw2 hb2 hW2 HBF HCS HR0 HS1 c0 c1
      generalize w.heap.size = N at *
      generalize wc.heap.size = M at *
      go_region_held3 (fun W => W.cell? ⟨N, 0, none⟩ = some (.int .i64 k) ∧ W.cell? ⟨N, 1, none⟩ = some (.slice p n c) ∧ W.cell? ⟨M, 0, none⟩ = some (.int .u8 (k % 256)) ∧ W.cell? ⟨M, 1, none⟩ = some (.int .u8 ((z : Int) % 256)) ∧ W.cell? ⟨M, 2, none⟩ = some (.int .u8 ((n : Int) / 256 % 256)) ∧ W.cell? ⟨M, 3, none⟩ = some (.int .u8 ((n : Int) % 256)))
        (first | exact HK2.out _ HB5.out | exact HK2.out _ HB6.out | exact HK2.out _ HR2.out | go_keep)
        (first
        | (go_at_call 63; (with_reducible refine (HBF2.out _ HR2.out).mono ?_); rintro e w5 ⟨q5, d5, rfl, hf5, hb5⟩; have HF5 := hidden (hf5.mono HR2.out.size); have HB5 : Hid (Below w2.heap.size w2 w5) := hidden (HR2.out.trans (hb5.mono HR2.out.size)); clear hf5 hb5)
        | (go_at_call 63; (with_reducible refine (HBF2.out _ HB6.out).mono ?_); rintro e w5 ⟨q5, d5, rfl, hf5, hb5⟩; have HF5 := hidden (hf5.mono HB6.out.size); have HB5 : Hid (Below w2.heap.size w2 w5) := hidden (HB6.out.trans (hb5.mono HB6.out.size)); clear hf5 hb5)
        | (go_at_call 96; (with_reducible refine (HCS2.out _ HR2.out).mono ?_); rintro e w6 ⟨rfl, hb6⟩; have HB6 : Hid (Below w2.heap.size w2 w6) := hidden (HR2.out.trans (hb6.mono HR2.out.size)); clear hb6)
        | (go_at_call 96; (with_reducible refine (HCS2.out _ HB5.out).mono ?_); rintro e w6 ⟨rfl, hb6⟩; have HB6 : Hid (Below w2.heap.size w2 w6) := hidden (HB5.out.trans (hb6.mono HB5.out.size)); have HF6 : Hid (∀ q d, Frs w5 w2.heap.size q LL.length d LL → Frs w6 w2.heap.size q LL.length d LL) := hidden (fun q d hf => hf.below hb6); clear hb6)
        | fail)
      all_goals
        go_wp2
        go_ret2
        first
          | exact HFIN.out q5 d5 _ HF5.out HB5.out
          | exact HFIN.out q5 d5 _ (HF6.out _ _ HF5.out) HB6.out
end Go.Proofs.YtnbkffehhahckaaGreat

namespace Go.Proofs.YtnbkffehhahckaaGreat
open Go.RowKit
set_option linter.unusedVariables false
set_option linter.unusedSimpArgs false
theorem ret_raw3 {fn : Func} {R : Ending → World → Prop} {act : Act} {w : World} {p s : Nat} {g : Nat} {a b c : Value} {u : Value} (h : fn.results = #[.cell p 85, .tmp s]) (hp : act.tmps.getD p undef = .pointer (some ⟨g, 0, none⟩)) (hs : act.tmps.getD s undef = u) (hd : act.defers = [])
    (c0 : w.cell? ⟨g, 0, none⟩ = some a) (c1 : w.cell? ⟨g, 1, none⟩ = some b) (c2 : w.cell? ⟨g, 2, none⟩ = some c) (hR : R (.returned (.tuple #[.agg #[a, b, c], u])) w) : bodyPost Tryz.prog fn R .ret act w := by
  refine bodyPost_ret (v := .tuple #[.agg #[a, b, c], u]) ?_ hd hR
  rw [Array.getD_eq_getD_getElem?] at hp hs
  have hl : (loadVar 85 ⟨g, 0, none⟩).run Tryz.prog w = .ok (.agg #[a, b, c]) w := by simp [loadVar, go_sem, c0, c1, c2, Result.andThen]
  simp [results, h, hp, hs, asAddr, hl, Result.andThen]
def GotRaw (w : World) (t : Int) (L : List Int) (E : Int) (e : Ending) (w' : World) : Prop :=
  Below w.heap.size w w' ∧ ((E = 0 ∧ ∃ q d, e = .returned (.tuple #[.agg #[.int .i64 t, .bool false, .slice q L.length d], .int .i64 0]) ∧ Frs w' w.heap.size q L.length d L) ∨
    (E ≠ 0 ∧ e = .returned (.tuple #[.agg #[.int .i64 0, .bool false, .slice none 0 0], .int .i64 E])))
def rawE (t : Int) (L : List Int) (E : Int) : Int := if t < 1 ∨ 255 < t then 5 else if E ≠ 0 then E else if 65531 < L.length then 11 else 0
set_option maxHeartbeats 3200000 in
set_option maxRecDepth 100000 in
theorem pBuild_of (x : Pv) (L : List Int) (E : Int) (w : World) (hB : ∀ W, Below w.heap.size w W → Calls Tryz.prog 45 #[(.agg #[.int .i64 x.t, .slice x.pr.p x.pr.n x.pr.c, .int .i64 x.eg, .slice x.ed.p x.ed.n x.ed.c, .int .i64 x.ik, .slice x.id.p x.id.n x.id.c, .int .i64 x.am, .slice x.ad.p x.ad.n x.ad.c, .int .i64 x.np, .slice x.ns.p x.ns.n x.ns.c, .int .i64 x.nt, .slice x.nd.p x.nd.n x.nd.c, .int .i64 x.dp, .slice x.ds.p x.ds.n x.ds.c, .slice x.se.p x.se.n x.se.c, .slice x.da.p x.da.n x.da.c])] W (GotBE W L E)) (R : Int) (hR : rawE x.t L E = R) :
    Calls Tryz.prog 30 #[(.agg #[.int .i64 x.t, .slice x.pr.p x.pr.n x.pr.c, .int .i64 x.eg, .slice x.ed.p x.ed.n x.ed.c, .int .i64 x.ik, .slice x.id.p x.id.n x.id.c, .int .i64 x.am, .slice x.ad.p x.ad.n x.ad.c, .int .i64 x.np, .slice x.ns.p x.ns.n x.ns.c, .int .i64 x.nt, .slice x.nd.p x.nd.n x.nd.c, .int .i64 x.dp, .slice x.ds.p x.ds.n x.ds.c, .slice x.se.p x.se.n x.se.c, .slice x.da.p x.da.n x.da.c])] w (GotRaw w x.t L R) := by
  have hcase : (x.t < 1 ∧ R = 5) ∨ (¬ x.t < 1 ∧ 255 < x.t ∧ R = 5) ∨ (¬ x.t < 1 ∧ ¬ 255 < x.t ∧ E ≠ 0 ∧ R = E) ∨ (¬ x.t < 1 ∧ ¬ 255 < x.t ∧ E = 0 ∧ 65531 < L.length ∧ R = 11) ∨ (¬ x.t < 1 ∧ ¬ 255 < x.t ∧ E = 0 ∧ ¬ 65531 < L.length ∧ R = 0) := by
    unfold rawE at hR
    by_cases h1 : x.t < 1
    · rw [if_pos (Or.inl h1)] at hR; omega
    by_cases h2 : 255 < x.t
    · rw [if_pos (Or.inr h2)] at hR; omega
    rw [if_neg (by omega)] at hR
    by_cases h3 : E ≠ 0
    · rw [if_pos h3] at hR; omega
    rw [if_neg h3] at hR
    by_cases h4 : 65531 < L.length
    · rw [if_pos h4] at hR; omega
    · rw [if_neg h4] at hR; omega
  obtain ⟨w1, hw1⟩ : ∃ w1, (w.alloc (.cells #[.int .i64 x.t, .slice x.pr.p x.pr.n x.pr.c, .int .i64 x.eg, .slice x.ed.p x.ed.n x.ed.c, .int .i64 x.ik, .slice x.id.p x.id.n x.id.c, .int .i64 x.am, .slice x.ad.p x.ad.n x.ad.c, .int .i64 x.np, .slice x.ns.p x.ns.n x.ns.c, .int .i64 x.nt, .slice x.nd.p x.nd.n x.nd.c, .int .i64 x.dp, .slice x.ds.p x.ds.n x.ds.c, .slice x.se.p x.se.n x.se.c, .slice x.da.p x.da.n x.da.c] 56)).alloc (.cells #[.int .i64 0, .bool false, .slice none 0 0] 85) = w1 := ⟨_, rfl⟩
  have hb1 : Below w.heap.size w w1 := by rw [← hw1]; exact ((Below.refl _ w).alloc (Nat.le_refl _) _).alloc (by simp) _
  have hP1 : PvIn w1 w.heap.size x := by rw [← hw1]; exact (PvIn.new w x 56).alloc _
  have k0 : w1.cell? ⟨w.heap.size + 1, 0, none⟩ = some (.int .i64 0) := by rw [← hw1]; clear hw1 hP1 hb1; go_simp
  have k1 : w1.cell? ⟨w.heap.size + 1, 1, none⟩ = some (.bool false) := by rw [← hw1]; clear hw1 k0 hP1 hb1; go_simp
  have k2 : w1.cell? ⟨w.heap.size + 1, 2, none⟩ = some (.slice none 0 0) := by rw [← hw1]; clear hw1 k0 k1 hP1 hb1; go_simp
  have kf : ∀ j, w1.frozen? ⟨w.heap.size + 1, j, none⟩ = false := by rw [← hw1]; clear hw1 k0 k1 k2 hP1 hb1; intro j; go_simp
  have hsz : w1.heap.size = w.heap.size + 2 := by rw [← hw1]; simp
  have HB1 := hidden hb1
  have HBC := hidden (hB w1 hb1)
  have HP1 := hidden hP1
  clear hB hb1 hR
  rcases hcase with ⟨h1, rfl⟩ | ⟨h1, h2, rfl⟩ | ⟨h1, h2, h3, rfl⟩ | ⟨h1, h2, rfl, h4, rfl⟩ | ⟨h1, h2, rfl, h4, rfl⟩
  · obtain ⟨c0, -⟩ := hP1
    go_enter Tryz.func30, Tryz.ntmps30
    go_upto_region 1 with fail
    clear hw1
    have hst := HB1.out.setCell (p := ⟨w.heap.size + 1, 0, none⟩) (by simp) (.int .i64 0)
    have hst := hst.setCell (p := ⟨w.heap.size + 1, 1, none⟩) (by simp) (.bool false)
    have hst := hst.setCell (p := ⟨w.heap.size + 1, 2, none⟩) (by simp) (.slice none 0 0)
    have HST := hidden hst
    clear hst
    go_wp2
    exact ret_raw3 (g := w.heap.size + 1) rfl rfl rfl rfl (by go_simp) (by go_simp) (by go_simp) ⟨HST.out, Or.inr ⟨by decide, rfl⟩⟩
  · obtain ⟨c0, -⟩ := hP1
    go_enter Tryz.func30, Tryz.ntmps30
    go_upto_region 1 with fail
    clear hw1
    have hst := HB1.out.setCell (p := ⟨w.heap.size + 1, 0, none⟩) (by simp) (.int .i64 0)
    have hst := hst.setCell (p := ⟨w.heap.size + 1, 1, none⟩) (by simp) (.bool false)
    have hst := hst.setCell (p := ⟨w.heap.size + 1, 2, none⟩) (by simp) (.slice none 0 0)
    have HST := hidden hst
    clear hst
    go_wp2
    exact ret_raw3 (g := w.heap.size + 1) rfl rfl rfl rfl (by go_simp) (by go_simp) (by go_simp) ⟨HST.out, Or.inr ⟨by decide, rfl⟩⟩
  · go_enter Tryz.func30, Tryz.ntmps30
    go_upto_region 1 with fail
    clear hw1
    have HPC := hidden (fun W (hW : Below w1.heap.size w1 W) => (⟨cell_below hW _ _ k0, cell_below hW _ _ k1, cell_below hW _ _ k2, fun j => (World.frozen?_of_block (a := ⟨w.heap.size + 1, j, none⟩) (hW.block (w.heap.size + 1) (by omega))).trans (kf j), HP1.out.below hW, HB1.out.trans (hW.mono HB1.out.size)⟩ : W.cell? ⟨w.heap.size + 1, 0, none⟩ = some (.int .i64 0) ∧ W.cell? ⟨w.heap.size + 1, 1, none⟩ = some (.bool false) ∧ W.cell? ⟨w.heap.size + 1, 2, none⟩ = some (.slice none 0 0) ∧ (∀ j, W.frozen? ⟨w.heap.size + 1, j, none⟩ = false) ∧ PvIn W w.heap.size x ∧ Below w.heap.size w W))
    obtain ⟨c0, c1, c2, c3, c4, c5, c6, c7, c8, c9, c10, c11, c12, c13, c14, c15, cf⟩ := hP1
    clear k0 k1 k2 kf
    go_upto_region 4 with (first
      | (go_at_call 45; (with_reducible refine (HBC.out).mono ?_); rintro e w5 ⟨q5, d5, rfl, hf5, hb5⟩; have HF5 := hidden (hf5.mono (show w.heap.size + 2 ≤ w1.heap.size from by omega)); have HB5 := hidden hb5; obtain ⟨k0, k1, k2, kf, hP5, hbw⟩ := HPC.out w5 hb5; have HBW := hidden hbw; clear hf5 hb5 hbw)
      | fail)
    clear c0 c1 c2 c3 c4 c5 c6 c7 c8 c9 c10 c11 c12 c13 c14 c15 cf
    obtain ⟨c0, -⟩ := hP5
    have hst := HBW.out.setCell (p := ⟨w.heap.size + 1, 0, none⟩) (by simp) (.int .i64 0)
    have hst := hst.setCell (p := ⟨w.heap.size + 1, 1, none⟩) (by simp) (.bool false)
    have hst := hst.setCell (p := ⟨w.heap.size + 1, 2, none⟩) (by simp) (.slice none 0 0)
    have HST := hidden hst
    clear hst
    have hne : (R != 0) = true := by simpa using h3
    go_wp2
    exact ret_raw3 (g := w.heap.size + 1) rfl rfl rfl rfl (by go_simp) (by go_simp) (by go_simp) ⟨HST.out, Or.inr ⟨h3, rfl⟩⟩
  · go_enter Tryz.func30, Tryz.ntmps30
    go_upto_region 1 with fail
    clear hw1
    have HPC := hidden (fun W (hW : Below w1.heap.size w1 W) => (⟨cell_below hW _ _ k0, cell_below hW _ _ k1, cell_below hW _ _ k2, fun j => (World.frozen?_of_block (a := ⟨w.heap.size + 1, j, none⟩) (hW.block (w.heap.size + 1) (by omega))).trans (kf j), HP1.out.below hW, HB1.out.trans (hW.mono HB1.out.size)⟩ : W.cell? ⟨w.heap.size + 1, 0, none⟩ = some (.int .i64 0) ∧ W.cell? ⟨w.heap.size + 1, 1, none⟩ = some (.bool false) ∧ W.cell? ⟨w.heap.size + 1, 2, none⟩ = some (.slice none 0 0) ∧ (∀ j, W.frozen? ⟨w.heap.size + 1, j, none⟩ = false) ∧ PvIn W w.heap.size x ∧ Below w.heap.size w W))
    obtain ⟨c0, c1, c2, c3, c4, c5, c6, c7, c8, c9, c10, c11, c12, c13, c14, c15, cf⟩ := hP1
    clear k0 k1 k2 kf
    go_upto_region 4 with (first
      | (go_at_call 45; (with_reducible refine (HBC.out).mono ?_); rintro e w5 ⟨q5, d5, rfl, hf5, hb5⟩; have HF5 := hidden (hf5.mono (show w.heap.size + 2 ≤ w1.heap.size from by omega)); have HB5 := hidden hb5; obtain ⟨k0, k1, k2, kf, hP5, hbw⟩ := HPC.out w5 hb5; have HBW := hidden hbw; clear hf5 hb5 hbw)
      | fail)
    clear c0 c1 c2 c3 c4 c5 c6 c7 c8 c9 c10 c11 c12 c13 c14 c15 cf
    obtain ⟨c0, -⟩ := hP5
    have hst := HBW.out.setCell (p := ⟨w.heap.size + 1, 0, none⟩) (by simp) (.int .i64 0)
    have hst := hst.setCell (p := ⟨w.heap.size + 1, 1, none⟩) (by simp) (.bool false)
    have hst := hst.setCell (p := ⟨w.heap.size + 1, 2, none⟩) (by simp) (.slice none 0 0)
    have HST := hidden hst
    clear hst
    have hgt : (65531 : Int) < (L.length : Int) := by omega
    go_wp2
    exact ret_raw3 (g := w.heap.size + 1) rfl rfl rfl rfl (by go_simp) (by go_simp) (by go_simp) ⟨HST.out, Or.inr ⟨by decide, rfl⟩⟩
  · go_enter Tryz.func30, Tryz.ntmps30
    go_upto_region 1 with fail
    clear hw1
    have HPC := hidden (fun W (hW : Below w1.heap.size w1 W) => (⟨cell_below hW _ _ k0, cell_below hW _ _ k1, cell_below hW _ _ k2, fun j => (World.frozen?_of_block (a := ⟨w.heap.size + 1, j, none⟩) (hW.block (w.heap.size + 1) (by omega))).trans (kf j), HP1.out.below hW, HB1.out.trans (hW.mono HB1.out.size)⟩ : W.cell? ⟨w.heap.size + 1, 0, none⟩ = some (.int .i64 0) ∧ W.cell? ⟨w.heap.size + 1, 1, none⟩ = some (.bool false) ∧ W.cell? ⟨w.heap.size + 1, 2, none⟩ = some (.slice none 0 0) ∧ (∀ j, W.frozen? ⟨w.heap.size + 1, j, none⟩ = false) ∧ PvIn W w.heap.size x ∧ Below w.heap.size w W))
    obtain ⟨c0, c1, c2, c3, c4, c5, c6, c7, c8, c9, c10, c11, c12, c13, c14, c15, cf⟩ := hP1
    clear k0 k1 k2 kf
    go_upto_region 4 with (first
      | (go_at_call 45; (with_reducible refine (HBC.out).mono ?_); rintro e w5 ⟨q5, d5, rfl, hf5, hb5⟩; have HF5 := hidden (hf5.mono (show w.heap.size + 2 ≤ w1.heap.size from by omega)); have HB5 := hidden hb5; obtain ⟨k0, k1, k2, kf, hP5, hbw⟩ := HPC.out w5 hb5; have HBW := hidden hbw; clear hf5 hb5 hbw)
      | fail)
    clear c0 c1 c2 c3 c4 c5 c6 c7 c8 c9 c10 c11 c12 c13 c14 c15 cf
    obtain ⟨c0, -⟩ := hP5
    have hst := HBW.out.setCell (p := ⟨w.heap.size + 1, 0, none⟩) (by simp) (.int .i64 x.t)
    have hst := hst.setCell (p := ⟨w.heap.size + 1, 1, none⟩) (by simp) (.bool false)
    have hst := hst.setCell (p := ⟨w.heap.size + 1, 2, none⟩) (by simp) (.slice q5 L.length d5)
    have hff := ((HF5.out.low (grown_set w5 (w.heap.size + 1) 0 (.int .i64 x.t)) (by omega)).low (grown_set _ (w.heap.size + 1) 1 (.bool false)) (by omega)).low (grown_set _ (w.heap.size + 1) 2 (.slice q5 L.length d5)) (by omega)
    have HFF := hidden (hff.mono (show w.heap.size ≤ w.heap.size + 2 from by omega))
    clear hff
    have HST := hidden hst
    clear hst
    have hgt : ¬ (65531 : Int) < (L.length : Int) := by omega
    go_wp2
    exact ret_raw3 (g := w.heap.size + 1) rfl rfl rfl rfl (by go_simp) (by go_simp) (by go_simp) ⟨HST.out, Or.inl ⟨rfl, q5, d5, rfl, HFF.out⟩⟩
end Go.Proofs.YtnbkffehhahckaaGreat

namespace Go.Proofs.YtnbkffehhahckaaGreat
open Go.RowKit
set_option linter.unusedVariables false
def Hdr.zero : Hdr := ⟨0, 0, 0, 0, 0, 0⟩
def parseV (v1 v2 v3 v4 v5 v6 v7 v8 : Int) (n : Nat) : Hdr × Int :=
  if v4 / 16 ≠ 2 then (Hdr.zero, 3) else if v8 ≠ n then (Hdr.zero, 2)
  else if checkR v1 v2 v3 v5 (bits .and .i64 v6 56) v7 ≠ 0 then (Hdr.zero, checkR v1 v2 v3 v5 (bits .and .i64 v6 56) v7)
  else (⟨v1, v2, v3, v5, bits .and .i64 v6 56, v7⟩, 0)
def numAt (xs : List Int) (a d : Nat) : Int := val ((xs.drop a).take d)
def parseR (xs : List Int) : Hdr × Int :=
  if xs.length < 28 then (Hdr.zero, 1) else parseV (numAt xs 0 8) (numAt xs 8 8) (numAt xs 16 1) (numAt xs 17 1) (numAt xs 18 1) (numAt xs 19 1) (numAt xs 20 4) (numAt xs 24 4) xs.length
def Parsed (w : World) (h : Hdr × Int) (e : Ending) (w' : World) : Prop := e = .returned (.tuple #[.agg #[.int .u64 h.1.i, .int .u64 h.1.r, .int .i64 h.1.n, .int .i64 h.1.x, .int .i64 h.1.f, .int .u32 h.1.m], .int .i64 h.2]) ∧ Below w.heap.size w w'
theorem field_at (p : Option Addr) (n c : Nat) (xs : List Int) (w : World) (k a d N : Nat) (v : Int) (hv : numAt xs a d = v) (hc : Cur w k p n c a 0) (h : Byt w p n c xs) (h1 : 1 ≤ d) (h8 : d ≤ 8) (hN : a + d = N) (hin : N ≤ n) :
    Calls Tryz.prog 39 #[.pointer (some ⟨k, 0, none⟩), .int .i64 d] w fun e w' => e = .returned (.int .u64 v) ∧ Cur w' k p n c (N : Nat) 0 ∧ w.grownBy w' (some k) := by
  subst hN
  subst hv
  exact field_yes p n c xs w k a d hc h h1 h8 hin
structure Three (w0 w : World) (g : Nat) (i r n x f m : Int) : Prop where
  bel : Below w0.heap.size w0 w
  res : HdrIn w g 0 0 0 0 0 0 0
  hdr : HdrIn w (g + 2) 0 i r n x f m
  g0 : g = w0.heap.size
theorem HdrIn.drew {w : World} {g o : Nat} {i r n x f m : Int} (h : HdrIn w g o i r n x f m) : HdrIn w.drew g o i r n x f m := h.below ((Below.refl _ _).drew)
theorem stored_below {w0 w : World} {g : Nat} {i r n x f m : Int} (h : Below w0.heap.size w0 w) (hg : w0.heap.size ≤ g) :
    Below w0.heap.size w0 ((((((w.setCell ⟨g, 0, none⟩ (.int .u64 i)).setCell ⟨g, 1, none⟩ (.int .u64 r)).setCell ⟨g, 2, none⟩ (.int .i64 n)).setCell ⟨g, 3, none⟩ (.int .i64 x)).setCell ⟨g, 4, none⟩ (.int .i64 f)).setCell ⟨g, 5, none⟩ (.int .u32 m)) :=
  (((((h.setCell hg _).setCell hg _).setCell hg _).setCell hg _).setCell hg _).setCell hg _
set_option maxHeartbeats 1600000 in
theorem parse_core (p : Option Addr) (n c : Nat) (xs : List Int) (w : World) (h : Byt w p n c xs) (hn : 28 ≤ n) (v1 v2 v3 v4 v5 v6 v7 v8 : Int)
    (e1 : numAt xs 0 8 = v1) (e2 : numAt xs 8 8 = v2) (e3 : numAt xs 16 1 = v3) (e4 : numAt xs 17 1 = v4) (e5 : numAt xs 18 1 = v5) (e6 : numAt xs 19 1 = v6) (e7 : numAt xs 20 4 = v7) (e8 : numAt xs 24 4 = v8)
    (b1 : 0 ≤ v1 ∧ v1 ≤ 18446744073709551615) (b2 : 0 ≤ v2 ∧ v2 ≤ 18446744073709551615) (b3 : 0 ≤ v3 ∧ v3 ≤ 255) (b4 : 0 ≤ v4 ∧ v4 ≤ 255) (b5 : 0 ≤ v5 ∧ v5 ≤ 255) (b6 : 0 ≤ v6 ∧ v6 ≤ 255) (b7 : 0 ≤ v7 ∧ v7 ≤ 4294967295) (b8 : 0 ≤ v8 ∧ v8 ≤ 4294967295) :
    Calls Tryz.prog 21 #[.slice p n c] w (Parsed w (parseV v1 v2 v3 v4 v5 v6 v7 v8 n)) := by
  have hle := h.le
  have HY := hidden h
  have E1 := hidden e1
  have E2 := hidden e2
  have E3 := hidden e3
  have E4 := hidden e4
  have E5 := hidden e5
  have E6 := hidden e6
  have E7 := hidden e7
  have E8 := hidden e8
  clear h e1 e2 e3 e4 e5 e6 e7 e8
  obtain ⟨g, hg0⟩ : ∃ g, g = w.heap.size := ⟨_, rfl⟩
  have HW := hidden (show ∀ w3, w3 = ((w.alloc (.cells #[.int .u64 0, .int .u64 0, .int .i64 0, .int .i64 0, .int .i64 0, .int .u32 0] 27)).alloc (.cells #[.slice p n c, .int .i64 0, .int .i64 0] 95)).alloc (.cells #[.int .u64 0, .int .u64 0, .int .i64 0, .int .i64 0, .int .i64 0, .int .u32 0] 27) →
      Three w w3 w.heap.size 0 0 0 0 0 0 ∧ Cur w3 (w.heap.size + 1) p n c 0 0 by
    rintro w3 rfl
    have hs1 : (w.alloc (.cells #[.int .u64 0, .int .u64 0, .int .i64 0, .int .i64 0, .int .i64 0, .int .u32 0] 27)).heap.size = w.heap.size + 1 := by simp
    have hb := (((Below.refl w.heap.size w).alloc (Nat.le_refl _) (.cells #[.int .u64 0, .int .u64 0, .int .i64 0, .int .i64 0, .int .i64 0, .int .u32 0] 27)).alloc (by simp) (.cells #[.slice p n c, .int .i64 0, .int .i64 0] 95)).alloc (by simp; omega) (.cells #[.int .u64 0, .int .u64 0, .int .i64 0, .int .i64 0, .int .i64 0, .int .u32 0] 27)
    refine ⟨⟨hb, ((HdrIn.new w 0 0 0 0 0 0 27).alloc _).alloc _, ?_, rfl⟩, ?_⟩
    · have := HdrIn.new ((w.alloc (.cells #[.int .u64 0, .int .u64 0, .int .i64 0, .int .i64 0, .int .i64 0, .int .u32 0] 27)).alloc (.cells #[.slice p n c, .int .i64 0, .int .i64 0] 95)) 0 0 0 0 0 0 27
      simpa using this
    · refine Cur.alloc ?_ _
      exact ⟨by go_simp, by go_simp, by go_simp, fun j => by go_simp⟩)
  go_enter Tryz.func21, Tryz.ntmps21
  have H0 := (HW.out _ rfl).1
  have HC0 := hidden (HW.out _ rfl).2
  have HB0 := hidden H0.bel
  have HR0 := hidden H0.res
  have HH0 := hidden H0.hdr
  have hs0 := H0.hdr.lt
  have HS0 := hidden hs0
  clear H0 HW hs0
  go_wp2_with (go_at_call 39; (refine (field_at p n c xs _ (w.heap.size + 1) 0 8 8 v1 E1.out HC0.out (HY.out.below HB0.out) (by omega) (by omega) rfl (by omega)).mono ?_))
  rintro e w1 ⟨rfl, hc, hg⟩
  have hb := HB0.out.grown hg HB0.out.size (fun k hk => by simp at hk; omega)
  have hr := HR0.out.grown hg (by simp)
  have hh := HH0.out.grown hg (by simp)
  clear hg HC0 HB0 HR0 HH0
  have HB1 := hidden (hb.setCell (p := ⟨w.heap.size + 2, 0, none⟩) (by simp) (.int .u64 v1))
  have HR1 := hidden (hr.set_ne (w.heap.size + 2) 0 (.int .u64 v1) (by omega))
  have HC1 := hidden (hc.set_ne (w.heap.size + 2) 0 (.int .u64 v1) (by omega))
  have HH1 := hidden (hh.set0 v1)
  (try clear k0 k1 k2 k3 k4 k5 kf)
  obtain ⟨k0, k1, k2, k3, k4, k5, kf⟩ := hh
  clear hb hr hc
  go_wp2_with (go_at_call 39; (refine (field_at p n c xs _ (w.heap.size + 1) 8 8 16 v2 E2.out HC1.out (HY.out.below HB1.out) (by omega) (by omega) rfl (by omega)).mono ?_))
  rintro e w2 ⟨rfl, hc, hg⟩
  have hb := HB1.out.grown hg HB1.out.size (fun k hk => by simp at hk; omega)
  have hr := HR1.out.grown hg (by simp)
  have hh := HH1.out.grown hg (by simp)
  clear hg HC1 HB1 HR1 HH1
  have HB2 := hidden (hb.setCell (p := ⟨w.heap.size + 2, 1, none⟩) (by simp) (.int .u64 v2))
  have HR2 := hidden (hr.set_ne (w.heap.size + 2) 1 (.int .u64 v2) (by omega))
  have HC2 := hidden (hc.set_ne (w.heap.size + 2) 1 (.int .u64 v2) (by omega))
  have HH2 := hidden (hh.set1 v2)
  (try clear k0 k1 k2 k3 k4 k5 kf)
  obtain ⟨k0, k1, k2, k3, k4, k5, kf⟩ := hh
  clear hb hr hc
  go_wp2_with (go_at_call 39; (refine (field_at p n c xs _ (w.heap.size + 1) 16 1 17 v3 E3.out HC2.out (HY.out.below HB2.out) (by omega) (by omega) rfl (by omega)).mono ?_))
  rintro e w3 ⟨rfl, hc, hg⟩
  have hb := HB2.out.grown hg HB2.out.size (fun k hk => by simp at hk; omega)
  have hr := HR2.out.grown hg (by simp)
  have hh := HH2.out.grown hg (by simp)
  clear hg HC2 HB2 HR2 HH2
  have HB3 := hidden (hb.setCell (p := ⟨w.heap.size + 2, 2, none⟩) (by simp) (.int .i64 v3))
  have HR3 := hidden (hr.set_ne (w.heap.size + 2) 2 (.int .i64 v3) (by omega))
  have HC3 := hidden (hc.set_ne (w.heap.size + 2) 2 (.int .i64 v3) (by omega))
  have HH3 := hidden (hh.set2 v3)
  (try clear k0 k1 k2 k3 k4 k5 kf)
  obtain ⟨k0, k1, k2, k3, k4, k5, kf⟩ := hh
  clear hb hr hc
  go_wp2_with (go_at_call 39; (refine (field_at p n c xs _ (w.heap.size + 1) 17 1 18 v4 E4.out HC3.out (HY.out.below HB3.out) (by omega) (by omega) rfl (by omega)).mono ?_))
  rintro e w4 ⟨rfl, hc, hg⟩
  have hb := HB3.out.grown hg HB3.out.size (fun k hk => by simp at hk; omega)
  have hr := HR3.out.grown hg (by simp)
  have hh := HH3.out.grown hg (by simp)
  clear hg HC3 HB3 HR3 HH3
  have HB4 := hidden hb
  have HR4 := hidden hr
  have HC4 := hidden hc
  have HH4 := hidden hh
  clear hb hr hc hh
  go_wp2_with (go_at_call 39; (refine (field_at p n c xs _ (w.heap.size + 1) 18 1 19 v5 E5.out HC4.out (HY.out.below HB4.out) (by omega) (by omega) rfl (by omega)).mono ?_))
  rintro e w5 ⟨rfl, hc, hg⟩
  have hb := HB4.out.grown hg HB4.out.size (fun k hk => by simp at hk; omega)
  have hr := HR4.out.grown hg (by simp)
  have hh := HH4.out.grown hg (by simp)
  clear hg HC4 HB4 HR4 HH4
  have HB5 := hidden (hb.setCell (p := ⟨w.heap.size + 2, 3, none⟩) (by simp) (.int .i64 v5))
  have HR5 := hidden (hr.set_ne (w.heap.size + 2) 3 (.int .i64 v5) (by omega))
  have HC5 := hidden (hc.set_ne (w.heap.size + 2) 3 (.int .i64 v5) (by omega))
  have HH5 := hidden (hh.set3 v5)
  (try clear k0 k1 k2 k3 k4 k5 kf)
  obtain ⟨k0, k1, k2, k3, k4, k5, kf⟩ := hh
  clear hb hr hc
  go_wp2_with (go_at_call 39; (refine (field_at p n c xs _ (w.heap.size + 1) 19 1 20 v6 E6.out HC5.out (HY.out.below HB5.out) (by omega) (by omega) rfl (by omega)).mono ?_))
  rintro e w6 ⟨rfl, hc, hg⟩
  have hb := HB5.out.grown hg HB5.out.size (fun k hk => by simp at hk; omega)
  have hr := HR5.out.grown hg (by simp)
  have hh := HH5.out.grown hg (by simp)
  clear hg HC5 HB5 HR5 HH5
  have HB6 := hidden (hb.setCell (p := ⟨w.heap.size + 2, 4, none⟩) (by simp) (.int .i64 (bits .and .i64 v6 56)))
  have HR6 := hidden (hr.set_ne (w.heap.size + 2) 4 (.int .i64 (bits .and .i64 v6 56)) (by omega))
  have HC6 := hidden (hc.set_ne (w.heap.size + 2) 4 (.int .i64 (bits .and .i64 v6 56)) (by omega))
  have HH6 := hidden (hh.set4 (bits .and .i64 v6 56))
  (try clear k0 k1 k2 k3 k4 k5 kf)
  obtain ⟨k0, k1, k2, k3, k4, k5, kf⟩ := hh
  clear hb hr hc
  go_wp2_with (go_at_call 39; (refine (field_at p n c xs _ (w.heap.size + 1) 20 4 24 v7 E7.out HC6.out (HY.out.below HB6.out) (by omega) (by omega) rfl (by omega)).mono ?_))
  rintro e w7 ⟨rfl, hc, hg⟩
  have hb := HB6.out.grown hg HB6.out.size (fun k hk => by simp at hk; omega)
  have hr := HR6.out.grown hg (by simp)
  have hh := HH6.out.grown hg (by simp)
  clear hg HC6 HB6 HR6 HH6
  have HB7 := hidden (hb.setCell (p := ⟨w.heap.size + 2, 5, none⟩) (by simp) (.int .u32 v7))
  have HR7 := hidden (hr.set_ne (w.heap.size + 2) 5 (.int .u32 v7) (by omega))
  have HC7 := hidden (hc.set_ne (w.heap.size + 2) 5 (.int .u32 v7) (by omega))
  have HH7 := hidden (hh.set5 v7)
  (try clear k0 k1 k2 k3 k4 k5 kf)
  obtain ⟨k0, k1, k2, k3, k4, k5, kf⟩ := hh
  clear hb hr hc
  go_wp2_with (go_at_call 39; (refine (field_at p n c xs _ (w.heap.size + 1) 24 4 28 v8 E8.out HC7.out (HY.out.below HB7.out) (by omega) (by omega) rfl (by omega)).mono ?_))
  rintro e w8 ⟨rfl, hc, hg⟩
  have hb := HB7.out.grown hg HB7.out.size (fun k hk => by simp at hk; omega)
  have hr := HR7.out.grown hg (by simp)
  have hh := HH7.out.grown hg (by simp)
  clear hg HC7 HB7 HR7 HH7
  have HB8 := hidden hb
  have HR8 := hidden hr
  have HC8 := hidden hc
  have HH8 := hidden hh
  clear hb hr hc hh
  clear E1 E2 E3 E4 E5 E6 E7 E8 HY
  (try clear k0 k1 k2 k3 k4 k5 kf)
  obtain ⟨k0, k1, k2, k3, k4, k5, kf⟩ := HH8.out
  obtain ⟨r0, r1, r2, r3, r4, r5, rf⟩ := HR8.out
  obtain ⟨u0, u1, u2, uf⟩ := HC8.out
  by_cases q4 : v4 / 16 = 2
  case neg =>
    have hp : parseV v1 v2 v3 v4 v5 v6 v7 v8 n = (Hdr.zero, 3) := by rw [parseV, if_pos q4]
    have HP := hidden hp
    have q4' : (v4 / 16 != 2) = true := by simpa using q4
    clear hp
    go_wp2
    refine ret_hdr2 (g := w.heap.size) rfl rfl rfl rfl (stored_hdr HR8.out) ?_
    rw [HP.out]
    exact ⟨rfl, stored_below HB8.out (Nat.le_refl _)⟩
  have q4' : (v4 / 16 != 2) = false := by simp [q4]
  have HQ4 := hidden q4
  by_cases q8 : v8 = n
  case neg =>
    have hp : parseV v1 v2 v3 v4 v5 v6 v7 v8 n = (Hdr.zero, 2) := by rw [parseV, if_neg (by simp [q4]), if_pos q8]
    have HP := hidden hp
    have q8' : (v8 != (n : Int)) = true := by simpa using q8
    clear hp q4
    go_wp2
    refine ret_hdr2 (g := w.heap.size) rfl rfl rfl rfl (stored_hdr HR8.out) ?_
    rw [HP.out]
    exact ⟨rfl, stored_below HB8.out (Nat.le_refl _)⟩
  have q8' : (v8 != (n : Int)) = false := by simp [q8]
  have hp0 : parseV v1 v2 v3 v4 v5 v6 v7 v8 n = if checkR v1 v2 v3 v5 (bits .and .i64 v6 56) v7 ≠ 0 then (Hdr.zero, checkR v1 v2 v3 v5 (bits .and .i64 v6 56) v7) else (⟨v1, v2, v3, v5, bits .and .i64 v6 56, v7⟩, 0) := by
    rw [parseV, if_neg (by simp [q4]), if_neg (by simp [q8])]
  generalize bits .and .i64 v6 56 = y at *
  rcases hz : checkR v1 v2 v3 v5 y v7 with z
  have HC := hidden (fun w => check_at v1 v2 v3 v5 y v7 _ w hz)
  rw [hz] at hp0
  have HP0 := hidden hp0
  clear hp0 hz q4 q8 HQ4
  go_wp2_with (go_at_call 16; (with_reducible refine (HC.out _).mono ?_))
  rintro e w9 ⟨rfl, hb⟩
  have HB9 := hidden (HB8.out.trans (hb.mono HB8.out.size))
  have HR9 := hidden (HR8.out.below hb)
  have HH9 := hidden (HH8.out.below hb)
  clear hb HB8 HR8 HH8 HC8 HC k0 k1 k2 k3 k4 k5 kf r0 r1 r2 r3 r4 r5 rf u0 u1 u2 uf
  obtain ⟨k0, k1, k2, k3, k4, k5, kf⟩ := HH9.out
  obtain ⟨r0, r1, r2, r3, r4, r5, rf⟩ := HR9.out
  by_cases hz0 : z = 0
  · subst hz0
    go_wp2
    refine ret_hdr2 (g := w.heap.size) rfl rfl rfl rfl (stored_hdr HR9.out) ?_
    rw [HP0.out, if_neg (by simp)]
    exact ⟨rfl, stored_below HB9.out (Nat.le_refl _)⟩
  · have hz1 : (z != 0) = true := by simpa using hz0
    have HZ := hidden hz0
    clear hz0
    go_wp2
    refine ret_hdr2 (g := w.heap.size) rfl rfl rfl rfl (stored_hdr HR9.out) ?_
    rw [HP0.out, if_pos HZ.out]
    exact ⟨rfl, stored_below HB9.out (Nat.le_refl _)⟩
set_option maxHeartbeats 1600000 in
theorem parse_short (p : Option Addr) (n c : Nat) (xs : List Int) (w : World) (h : Byt w p n c xs) (hn : n < 28) :
    Calls Tryz.prog 21 #[.slice p n c] w (Parsed w (Hdr.zero, 1)) := by
  have hle := h.le
  have HY := hidden h
  clear h
  have HW := hidden (show ∀ w3, w3 = ((w.alloc (.cells #[.int .u64 0, .int .u64 0, .int .i64 0, .int .i64 0, .int .i64 0, .int .u32 0] 27)).alloc (.cells #[.slice p n c, .int .i64 0, .int .i64 0] 95)).alloc (.cells #[.int .u64 0, .int .u64 0, .int .i64 0, .int .i64 0, .int .i64 0, .int .u32 0] 27) →
      Three w w3 w.heap.size 0 0 0 0 0 0 ∧ CurPart w3 (w.heap.size + 1) p n c 0 by
    rintro w3 rfl
    have hb := (((Below.refl w.heap.size w).alloc (Nat.le_refl _) (.cells #[.int .u64 0, .int .u64 0, .int .i64 0, .int .i64 0, .int .i64 0, .int .u32 0] 27)).alloc (by simp) (.cells #[.slice p n c, .int .i64 0, .int .i64 0] 95)).alloc (by simp; omega) (.cells #[.int .u64 0, .int .u64 0, .int .i64 0, .int .i64 0, .int .i64 0, .int .u32 0] 27)
    refine ⟨⟨hb, ((HdrIn.new w 0 0 0 0 0 0 27).alloc _).alloc _, ?_, rfl⟩, 0, 0, ?_, Or.inl ⟨rfl, rfl, by omega⟩⟩
    · have := HdrIn.new ((w.alloc (.cells #[.int .u64 0, .int .u64 0, .int .i64 0, .int .i64 0, .int .i64 0, .int .u32 0] 27)).alloc (.cells #[.slice p n c, .int .i64 0, .int .i64 0] 95)) 0 0 0 0 0 0 27
      simpa using this
    · refine Cur.alloc ?_ _
      exact ⟨by go_simp, by go_simp, by go_simp, fun j => by go_simp⟩)
  go_enter Tryz.func21, Tryz.ntmps21
  have H0 := (HW.out _ rfl).1
  have HC0 := hidden (HW.out _ rfl).2
  have HB0 := hidden H0.bel
  have HR0 := hidden H0.res
  have HH0 := hidden H0.hdr
  clear H0 HW
  go_wp2_with (go_at_call 39; (refine (field_some p n c xs _ (w.heap.size + 1) 0 8 8 HC0.out (HY.out.below HB0.out) (by omega) (by omega) rfl 18446744073709551615 (by decide) (by decide)).mono ?_))
  rintro e w1 ⟨z1, rfl, z1a, z1b, hc, hg⟩
  have hb := HB0.out.grown hg HB0.out.size (fun k hk => by simp at hk; omega)
  have hr := HR0.out.grown hg (by simp)
  have hh := HH0.out.grown hg (by simp)
  clear hg HC0 HB0 HR0 HH0
  have HB1 := hidden (hb.setCell (p := ⟨w.heap.size + 2, 0, none⟩) (by simp) (.int .u64 z1))
  have HR1 := hidden (hr.set_ne (w.heap.size + 2) 0 (.int .u64 z1) (by omega))
  have HC1 := hidden (hc.set_ne (w.heap.size + 2) 0 (.int .u64 z1) (by omega))
  have HH1 := hidden (hh.set0 z1)
  (try clear k0 k1 k2 k3 k4 k5 kf)
  obtain ⟨k0, k1, k2, k3, k4, k5, kf⟩ := hh
  clear hb hr hc
  go_wp2_with (go_at_call 39; (refine (field_some p n c xs _ (w.heap.size + 1) 8 8 16 HC1.out (HY.out.below HB1.out) (by omega) (by omega) rfl 18446744073709551615 (by decide) (by decide)).mono ?_))
  rintro e w2 ⟨z2, rfl, z2a, z2b, hc, hg⟩
  have hb := HB1.out.grown hg HB1.out.size (fun k hk => by simp at hk; omega)
  have hr := HR1.out.grown hg (by simp)
  have hh := HH1.out.grown hg (by simp)
  clear hg HC1 HB1 HR1 HH1
  have HB2 := hidden (hb.setCell (p := ⟨w.heap.size + 2, 1, none⟩) (by simp) (.int .u64 z2))
  have HR2 := hidden (hr.set_ne (w.heap.size + 2) 1 (.int .u64 z2) (by omega))
  have HC2 := hidden (hc.set_ne (w.heap.size + 2) 1 (.int .u64 z2) (by omega))
  have HH2 := hidden (hh.set1 z2)
  (try clear k0 k1 k2 k3 k4 k5 kf)
  obtain ⟨k0, k1, k2, k3, k4, k5, kf⟩ := hh
  clear hb hr hc
  go_wp2_with (go_at_call 39; (refine (field_some p n c xs _ (w.heap.size + 1) 16 1 17 HC2.out (HY.out.below HB2.out) (by omega) (by omega) rfl 255 (by decide) (by decide)).mono ?_))
  rintro e w3 ⟨z3, rfl, z3a, z3b, hc, hg⟩
  have hb := HB2.out.grown hg HB2.out.size (fun k hk => by simp at hk; omega)
  have hr := HR2.out.grown hg (by simp)
  have hh := HH2.out.grown hg (by simp)
  clear hg HC2 HB2 HR2 HH2
  have HB3 := hidden (hb.setCell (p := ⟨w.heap.size + 2, 2, none⟩) (by simp) (.int .i64 z3))
  have HR3 := hidden (hr.set_ne (w.heap.size + 2) 2 (.int .i64 z3) (by omega))
  have HC3 := hidden (hc.set_ne (w.heap.size + 2) 2 (.int .i64 z3) (by omega))
  have HH3 := hidden (hh.set2 z3)
  (try clear k0 k1 k2 k3 k4 k5 kf)
  obtain ⟨k0, k1, k2, k3, k4, k5, kf⟩ := hh
  clear hb hr hc
  go_wp2_with (go_at_call 39; (refine (field_some p n c xs _ (w.heap.size + 1) 17 1 18 HC3.out (HY.out.below HB3.out) (by omega) (by omega) rfl 255 (by decide) (by decide)).mono ?_))
  rintro e w4 ⟨z4, rfl, z4a, z4b, hc, hg⟩
  have hb := HB3.out.grown hg HB3.out.size (fun k hk => by simp at hk; omega)
  have hr := HR3.out.grown hg (by simp)
  have hh := HH3.out.grown hg (by simp)
  clear hg HC3 HB3 HR3 HH3
  have HB4 := hidden hb
  have HR4 := hidden hr
  have HC4 := hidden hc
  have HH4 := hidden hh
  clear hb hr hc hh
  go_wp2_with (go_at_call 39; (refine (field_some p n c xs _ (w.heap.size + 1) 18 1 19 HC4.out (HY.out.below HB4.out) (by omega) (by omega) rfl 255 (by decide) (by decide)).mono ?_))
  rintro e w5 ⟨z5, rfl, z5a, z5b, hc, hg⟩
  have hb := HB4.out.grown hg HB4.out.size (fun k hk => by simp at hk; omega)
  have hr := HR4.out.grown hg (by simp)
  have hh := HH4.out.grown hg (by simp)
  clear hg HC4 HB4 HR4 HH4
  have HB5 := hidden (hb.setCell (p := ⟨w.heap.size + 2, 3, none⟩) (by simp) (.int .i64 z5))
  have HR5 := hidden (hr.set_ne (w.heap.size + 2) 3 (.int .i64 z5) (by omega))
  have HC5 := hidden (hc.set_ne (w.heap.size + 2) 3 (.int .i64 z5) (by omega))
  have HH5 := hidden (hh.set3 z5)
  (try clear k0 k1 k2 k3 k4 k5 kf)
  obtain ⟨k0, k1, k2, k3, k4, k5, kf⟩ := hh
  clear hb hr hc
  go_wp2_with (go_at_call 39; (refine (field_some p n c xs _ (w.heap.size + 1) 19 1 20 HC5.out (HY.out.below HB5.out) (by omega) (by omega) rfl 255 (by decide) (by decide)).mono ?_))
  rintro e w6 ⟨z6, rfl, z6a, z6b, hc, hg⟩
  have hb := HB5.out.grown hg HB5.out.size (fun k hk => by simp at hk; omega)
  have hr := HR5.out.grown hg (by simp)
  have hh := HH5.out.grown hg (by simp)
  clear hg HC5 HB5 HR5 HH5
  have HB6 := hidden (hb.setCell (p := ⟨w.heap.size + 2, 4, none⟩) (by simp) (.int .i64 (bits .and .i64 z6 56)))
  have HR6 := hidden (hr.set_ne (w.heap.size + 2) 4 (.int .i64 (bits .and .i64 z6 56)) (by omega))
  have HC6 := hidden (hc.set_ne (w.heap.size + 2) 4 (.int .i64 (bits .and .i64 z6 56)) (by omega))
  have HH6 := hidden (hh.set4 (bits .and .i64 z6 56))
  (try clear k0 k1 k2 k3 k4 k5 kf)
  obtain ⟨k0, k1, k2, k3, k4, k5, kf⟩ := hh
  clear hb hr hc
  go_wp2_with (go_at_call 39; (refine (field_some p n c xs _ (w.heap.size + 1) 20 4 24 HC6.out (HY.out.below HB6.out) (by omega) (by omega) rfl 4294967295 (by decide) (by decide)).mono ?_))
  rintro e w7 ⟨z7, rfl, z7a, z7b, hc, hg⟩
  have hb := HB6.out.grown hg HB6.out.size (fun k hk => by simp at hk; omega)
  have hr := HR6.out.grown hg (by simp)
  have hh := HH6.out.grown hg (by simp)
  clear hg HC6 HB6 HR6 HH6
  have HB7 := hidden (hb.setCell (p := ⟨w.heap.size + 2, 5, none⟩) (by simp) (.int .u32 z7))
  have HR7 := hidden (hr.set_ne (w.heap.size + 2) 5 (.int .u32 z7) (by omega))
  have HC7 := hidden (hc.set_ne (w.heap.size + 2) 5 (.int .u32 z7) (by omega))
  have HH7 := hidden (hh.set5 z7)
  (try clear k0 k1 k2 k3 k4 k5 kf)
  obtain ⟨k0, k1, k2, k3, k4, k5, kf⟩ := hh
  clear hb hr hc
  go_wp2_with (go_at_call 39; (refine (field_some p n c xs _ (w.heap.size + 1) 24 4 28 HC7.out (HY.out.below HB7.out) (by omega) (by omega) rfl 4294967295 (by decide) (by decide)).mono ?_))
  rintro e w8 ⟨z8, rfl, z8a, z8b, hc, hg⟩
  have hb := HB7.out.grown hg HB7.out.size (fun k hk => by simp at hk; omega)
  have hr := HR7.out.grown hg (by simp)
  have hh := HH7.out.grown hg (by simp)
  clear hg HC7 HB7 HR7 HH7
  have HB8 := hidden hb
  have HR8 := hidden hr
  have HC8 := hidden hc
  have HH8 := hidden hh
  clear hb hr hc hh
  clear HY HH8
  (try clear k0 k1 k2 k3 k4 k5 kf)
  obtain ⟨a, e, hcur, he⟩ := HC8.out
  obtain rfl : e = 1 := by omega
  obtain ⟨r0, r1, r2, r3, r4, r5, rf⟩ := HR8.out
  obtain ⟨u0, u1, u2, uf⟩ := hcur
  clear HC8 he
  go_wp2
  go_region
  all_goals
    go_wp2
    refine ret_hdr2 (g := w.heap.size) rfl rfl rfl rfl (HdrIn.drew (stored_hdr HR8.out)) ?_
    exact ⟨rfl, (stored_below HB8.out (Nat.le_refl _)).drew⟩
theorem numAt_bd (xs : List Int) (a d : Nat) (h : ∀ x ∈ xs, 0 ≤ x ∧ x ≤ 255) (hl : a + d ≤ xs.length) (M : Int) (hM : (256 : Int) ^ d ≤ M + 1) : 0 ≤ numAt xs a d ∧ numAt xs a d ≤ M := by
  have hb := val_bd ((xs.drop a).take d) (rng_take (rng_drop h _) _)
  rw [show ((xs.drop a).take d).length = d by simp; omega] at hb
  exact ⟨hb.1, by have := hb.2; unfold numAt; omega⟩
theorem parse_any (p : Option Addr) (n c : Nat) (xs : List Int) (w : World) (h : Byt w p n c xs) :
    Calls Tryz.prog 21 #[.slice p n c] w (Parsed w (parseR xs)) := by
  have hl := h.len
  by_cases hn : n < 28
  · rw [parseR, if_pos (by omega)]
    exact parse_short p n c xs w h hn
  · rw [parseR, if_neg (by omega), hl]
    exact parse_core p n c xs w h (by omega) _ _ _ _ _ _ _ _ rfl rfl rfl rfl rfl rfl rfl rfl
      (numAt_bd xs 0 8 h.rng (by omega) _ (by decide)) (numAt_bd xs 8 8 h.rng (by omega) _ (by decide)) (numAt_bd xs 16 1 h.rng (by omega) _ (by decide)) (numAt_bd xs 17 1 h.rng (by omega) _ (by decide))
      (numAt_bd xs 18 1 h.rng (by omega) _ (by decide)) (numAt_bd xs 19 1 h.rng (by omega) _ (by decide)) (numAt_bd xs 20 4 h.rng (by omega) _ (by decide)) (numAt_bd xs 24 4 h.rng (by omega) _ (by decide))
end Go.Proofs.YtnbkffehhahckaaGreat

namespace Go.Proofs.YtnbkffehhahckaaGreat
open Go.RowKit
set_option linter.unusedVariables false
def msg (i r n z x g m len : Int) (zs : List Int) : List Int := be 8 i ++ (be 8 r ++ ([n, z, x, g] ++ (be 4 m ++ (be 4 len ++ zs))))
theorem numAt_at (u v w : List Int) (a d : Nat) (ha : u.length = a) (hd : v.length = d) : numAt (u ++ (v ++ w)) a d = val v := by
  subst ha hd
  rw [numAt, List.drop_left, List.take_left]
theorem msg_len (i r n z x g m len : Int) (zs : List Int) : (msg i r n z x g m len zs).length = 28 + zs.length := by
  simp [msg, be_len]
  omega
theorem be_val8 (v : Int) (h : 0 ≤ v ∧ v ≤ 18446744073709551615) : val (be 8 v) = v := by
  have e : (2 : Int) ^ (8 * 8) = 18446744073709551616 := by decide
  rw [val_be, e]
  omega
theorem be_val4 (v : Int) (h : 0 ≤ v ∧ v ≤ 4294967295) : val (be 4 v) = v := by
  have e : (2 : Int) ^ (8 * 4) = 4294967296 := by decide
  rw [val_be, e]
  omega
theorem val_one (v : Int) : val [v] = v := by simp [val]
theorem msg_0 (i r n z x g m len : Int) (zs : List Int) (h : 0 ≤ i ∧ i ≤ 18446744073709551615) : numAt (msg i r n z x g m len zs) 0 8 = i :=
  (numAt_at [] (be 8 i) _ 0 8 rfl (be_len _ _)).trans (be_val8 i h)
theorem msg_8 (i r n z x g m len : Int) (zs : List Int) (h : 0 ≤ r ∧ r ≤ 18446744073709551615) : numAt (msg i r n z x g m len zs) 8 8 = r :=
  (numAt_at (be 8 i) (be 8 r) _ 8 8 (be_len _ _) (be_len _ _)).trans (be_val8 r h)
theorem msg_split (i r n z x g m len : Int) (zs u v : List Int) (h : [n, z, x, g] ++ (be 4 m ++ (be 4 len ++ zs)) = u ++ v) : msg i r n z x g m len zs = (be 8 i ++ (be 8 r ++ u)) ++ v := by
  rw [msg, h]
  simp
theorem pre_len (i r : Int) (u : List Int) (a : Nat) (h : 16 + u.length = a) : (be 8 i ++ (be 8 r ++ u)).length = a := by
  simp only [List.length_append, be_len]
  omega
theorem msg_16 (i r n z x g m len : Int) (zs : List Int) : numAt (msg i r n z x g m len zs) 16 1 = n := by
  rw [msg_split i r n z x g m len zs [] ([n] ++ ([z, x, g] ++ (be 4 m ++ (be 4 len ++ zs)))) rfl]
  exact (numAt_at _ [n] _ 16 1 (pre_len _ _ _ _ rfl) rfl).trans (val_one n)
theorem msg_17 (i r n z x g m len : Int) (zs : List Int) : numAt (msg i r n z x g m len zs) 17 1 = z := by
  rw [msg_split i r n z x g m len zs [n] ([z] ++ ([x, g] ++ (be 4 m ++ (be 4 len ++ zs)))) rfl]
  exact (numAt_at _ [z] _ 17 1 (pre_len _ _ _ _ rfl) rfl).trans (val_one z)
theorem msg_18 (i r n z x g m len : Int) (zs : List Int) : numAt (msg i r n z x g m len zs) 18 1 = x := by
  rw [msg_split i r n z x g m len zs [n, z] ([x] ++ ([g] ++ (be 4 m ++ (be 4 len ++ zs)))) rfl]
  exact (numAt_at _ [x] _ 18 1 (pre_len _ _ _ _ rfl) rfl).trans (val_one x)
theorem msg_19 (i r n z x g m len : Int) (zs : List Int) : numAt (msg i r n z x g m len zs) 19 1 = g := by
  rw [msg_split i r n z x g m len zs [n, z, x] ([g] ++ (be 4 m ++ (be 4 len ++ zs))) rfl]
  exact (numAt_at _ [g] _ 19 1 (pre_len _ _ _ _ rfl) rfl).trans (val_one g)
theorem msg_20 (i r n z x g m len : Int) (zs : List Int) (h : 0 ≤ m ∧ m ≤ 4294967295) : numAt (msg i r n z x g m len zs) 20 4 = m := by
  rw [msg_split i r n z x g m len zs [n, z, x, g] (be 4 m ++ (be 4 len ++ zs)) rfl]
  exact (numAt_at _ (be 4 m) _ 20 4 (pre_len _ _ _ _ rfl) (be_len _ _)).trans (be_val4 m h)
theorem msg_24 (i r n z x g m len : Int) (zs : List Int) (h : 0 ≤ len ∧ len ≤ 4294967295) : numAt (msg i r n z x g m len zs) 24 4 = len := by
  rw [msg_split i r n z x g m len zs ([n, z, x, g] ++ be 4 m) (be 4 len ++ zs) (by simp)]
  exact (numAt_at _ (be 4 len) _ 24 4 (pre_len _ _ _ _ (by simp [be_len])) (be_len _ _)).trans (be_val4 len h)
theorem msg_read (i r n z x g f m len : Int) (zs : List Int) (hi : 0 ≤ i ∧ i ≤ 18446744073709551615) (hr : 0 ≤ r ∧ r ≤ 18446744073709551615) (hm : 0 ≤ m ∧ m ≤ 4294967295) (hl : 0 ≤ len ∧ len ≤ 4294967295)
    (hz : z / 16 = 2) (hg : bits .and .i64 g 56 = f) (hc : checkR i r n x f m = 0) (hlen : len = 28 + zs.length) : parseR (msg i r n z x g m len zs) = (⟨i, r, n, x, f, m⟩, 0) := by
  rw [parseR, if_neg (by rw [msg_len]; omega), msg_0 _ _ _ _ _ _ _ _ _ hi, msg_8 _ _ _ _ _ _ _ _ _ hr, msg_16, msg_17, msg_18, msg_19, msg_20 _ _ _ _ _ _ _ _ _ hm, msg_24 _ _ _ _ _ _ _ _ _ hl, msg_len,
    parseV, if_neg (by omega), if_neg (by omega), hg, if_neg (by rw [hc]; simp)]
theorem hdr_msg (i r n x f m len : Int) (zs : List Int) : hdrL i r n x f m len ++ zs = msg i r (n % 256) 32 (x % 256) (f % 256) m len zs := by
  simp [hdrL, msg]
theorem Good.check {i r n x f m : Int} (h : Good i r n x f m) : checkR i r n x f m = 0 := by
  have hn := h.gn
  subst hn
  have hf : (bits BinOp.andNot IntKind.i64 f 56 == 0) = true := by rcases h.gf with rfl | rfl | rfl | rfl <;> decide
  have hr : rangeR 0 x f = true := by
    rw [rangeR, hf]
    simp
    exact h.gx
  have h1 := h.gi
  have h2 := h.later
  have h3 := h.first
  rw [checkR, if_neg (by omega), if_neg (by rw [hr]; simp), if_neg (by omega), if_neg (by omega)]
theorem Good.bytes {i r n x f m : Int} (h : Good i r n x f m) (len : Int) (zs : List Int) : hdrL i r n x f m len ++ zs = msg i r n 32 x f m len zs := by
  have h1 := h.gn
  have h2 := h.gx
  have h3 := h.gf
  rw [hdr_msg, show n % 256 = n by omega, show x % 256 = x by omega, show f % 256 = f by omega]
theorem flags_same (f : Int) (hf : f = 8 ∨ f = 32 ∨ f = 40 ∨ f = 0) : bits .and .i64 f 56 = f := by
  rcases hf with rfl | rfl | rfl | rfl <;> decide
end Go.Proofs.YtnbkffehhahckaaGreat

namespace Go.Proofs.YtnbkffehhahckaaGreat
open Go.RowKit Go.Shelf
set_option linter.unusedVariables false
attribute [local go_sem] Oper.semAt_some
structure MidP (wr : World) (R : Nat) (p : Option Addr) (n c : Nat) (xs : List Int) (r : ResC) (pre : List RawP) : Prop where
  ex : ∃ (at_ : Nat) (kd ins : Int), Rdr wr R p n c at_ kd ins 0 ∧ at_ ≤ n ∧ 0 ≤ kd ∧ kd ≤ 255 ∧
    (kd ≠ 0 ∧ ins = 0 ∧ preC (pre.map RawP.raw) (parseC (40 - pre.length) kd (xs.drop at_)) = r ∨ kd = 0 ∧ (if n - at_ ≠ 0 then failC 2 else ⟨pre.map RawP.raw, ins, 0⟩) = r)
def EndP (R : Nat) (p : Option Addr) (n c : Nat) (r : ResC) (pre : List RawP) (W : World) : Prop :=
  ∃ at_ next ins : Int, Rdr W R p n c at_ next ins r.e ∧ (r.e = 0 → ins = r.n ∧ pre.map RawP.raw = r.l) ∧ pre.length ≤ 40
theorem Rdr.set4 {w : World} {R : Nat} {p : Option Addr} {n c : Nat} {a b d e : Int} (h : Rdr w R p n c a b d e) (v : Int) : Rdr (w.setCell ⟨R, 4, none⟩ (.int .i64 v)) R p n c a b d v := by
  obtain ⟨c0, c1, c2, c3, c4, fr⟩ := h
  exact ⟨by go_simp, by go_simp, by go_simp, by go_simp, by go_simp, fun j => by rw [World.frozen?_setCell]; exact fr j⟩
theorem end_fail {R : Nat} {p : Option Addr} {n c : Nat} {E : Int} {pre : List RawP} {W : World} {r : ResC} (a b d : Int) (h : Rdr W R p n c a b d E) (hr : failC E = r) (h0 : E ≠ 0) (hl : pre.length ≤ 40) : EndP R p n c r pre W := by
  subst hr
  exact ⟨a, b, d, h, fun he => absurd he h0, hl⟩
def encR (x : RawP) : Array Value := #[.agg #[.int .i64 x.k, .bool x.c, .slice x.p x.n x.m]]
set_option maxHeartbeats 3200000 in
set_option maxRecDepth 100000 in
theorem payloads_seq (w0 w : World) (R : Nat) (p : Option Addr) (n c : Nat) (xs : List Int) (first : Int) (r : ResC) (hx : Byt w0 p n c xs) (hn : n ≤ 140737488351232) (hb : Below w0.heap.size w0 w) (hR : w0.heap.size ≤ R) (hr : Rdr w R p n c 0 first 0 0) (hf : 0 ≤ first ∧ first ≤ 255) (hres : parseC 40 first xs = r) (m : Nat) (b0 : Nat) (hb0 : b0 ≤ w.heap.size) :
    SeqSt Fence.wide (m + 3) Tryz.prog 40 #[.pointer (some ⟨R, 0, none⟩)] encR R (R + 1) 40 (fun x U => x.bod U b0) (EndP R p n c r) w := by
  intro l J W hW hJ hY h0
  have hlt := hr.lt
  have hrW := hr.below hW hlt
  have hmid : MidP W R p n c xs r [] := by
    refine ⟨0, first, 0, hrW, by omega, hf.1, hf.2, ?_⟩
    by_cases h : first = 0
    · refine Or.inr ⟨h, ?_⟩
      subst h
      rw [← hres, parseC_end, hx.len]
      simp
    · refine Or.inl ⟨h, rfl, ?_⟩
      simp only [List.map_nil, List.length_nil, Nat.sub_zero, List.drop_zero]
      rw [hres]
      exact preC_nil r (by rw [← hres]; exact parse_form 40 first xs)
  have hBW : Below w0.heap.size w0 W := hb.trans (hW.mono (by have := hb.size; omega))
  have HM := hidden hmid
  have HX := hidden hx
  have HBW := hidden hBW
  have HSW := hidden hW.size
  have HJ := hidden hJ
  have HY := hidden hY
  have H0 := hidden h0
  have HL := hidden hx.len
  clear hmid hx hb hr hf hres hW hJ hY h0 hBW hrW
  refine callsIn_of_wp Tryz.func40 rfl trivial ?_ rfl
  simp only [Tryz.ntmps40, List.size_toArray, List.length_cons, List.length_nil, Nat.reduceAdd, Nat.reduceSub, Array.replicate_succ, Array.replicate_zero, List.push_toArray, List.append_toArray, List.nil_append, List.cons_append]
  gi_wp2
  gi_loopw [4] (fun i wr => ∃ pre : List RawP, i = .int .i64 pre.length ∧ pre.length ≤ 40 ∧ J pre wr ∧ MidP wr R p n c xs r pre ∧ Below w0.heap.size w0 wr ∧ w.heap.size ≤ wr.heap.size) (fun i _ => 41 - (intOf i).toNat)
  case atStart => exact ⟨[], rfl, by simp, H0.out, HM.out, HBW.out, HSW.out⟩
  case round =>
    obtain ⟨pre, rfl, hpl, hj, ⟨at_, kd, ins, hrd, hat, hk0, hk1, hcase⟩, hbl, hws⟩ := hrel
    have HRD := hidden hrd
    have HBL := hidden hbl
    have HJJ := hidden hj
    have HXr := hidden (HX.out.below hbl)
    obtain ⟨c0, c1, c2, c3, c4, fr⟩ := hrd
    clear hj hbl HM HBW H0
    rcases hcase with ⟨hkd, rfl, hpre⟩ | ⟨rfl, hpre⟩
    · have hkd1 : (kd != 0) = true := by simpa using hkd
      have HP := hidden hpre
      clear hpre
      by_cases h40 : pre.length = 40
      · have hre := round_many (kind := kd) (xs := xs) (a := at_) (out := pre.map RawP.raw) hkd
        rw [show 0 = 40 - pre.length by omega, HP.out] at hre
        have HRE := hidden hre.symm
        have h40' : (pre.length : Int) = 40 := by omega
        clear hre hkd
        rw [h40']
        gi_wp2
        refine bodyPost_ret (results_none rfl _ _ _) rfl ?_
        exact ⟨⟨_, rfl⟩, pre, end_fail _ _ _ (HRD.out.set4 10) HRE.out (by omega) hpl, HJ.out _ _ _ HJJ.out (grown_set _ _ _ _)⟩
      obtain ⟨left, hleft⟩ : ∃ k, 40 - pre.length = k + 1 := ⟨39 - pre.length, by omega⟩
      have h40' : ¬ (pre.length : Int) = 40 := by omega
      have h40b : ((pre.length : Int) == 40) = false := by simpa using h40'
      rw [hleft] at HP
      by_cases h4 : n - at_ < 4
      · have hre := round_short (left := left) (kind := kd) (xs := xs) (a := at_) (out := pre.map RawP.raw) hkd (by rw [HL.out]; exact h4)
        rw [HP.out] at hre
        have HRE := hidden hre.symm
        have HC := hidden (callsIn_wide (n := m + 2).2 (pay_short wr R p n c xs HXr.out hn at_ kd 0 0 HRD.out hat h4))
        clear hre hkd hleft h4
        gi_wp2_with (refine ⟨trivial, ?_⟩; gi_at_call 55; (with_reducible refine (HC.out).mono ?_); rintro e w2 ⟨rfl, hb2⟩; have hrd2 := HRD.out.below hb2 HRD.out.lt; have hl2 := hrd2.lt; have hne2 : R ≠ w2.heap.size := (by omega); obtain ⟨d0, d1, d2, d3, d4, dr⟩ := hrd2; have dr4 := dr 4)
        refine bodyPost_ret (results_none rfl _ _ _) rfl ?_
        have hb2' := grown_of_below hb2 (some R)
        exact ⟨⟨_, rfl⟩, pre, end_fail _ _ _ (((HRD.out.below hb2 HRD.out.lt).set4 1).grown (World.grownBy_alloc _ _ none) (by simp)) HRE.out (by omega) hpl, HJ.out _ _ _ HJJ.out (grown_alloc_new (grown_trans hb2' (grown_set _ _ _ _)) _)⟩
      obtain ⟨L, hL⟩ : ∃ L, lenC (xs.drop at_) = L := ⟨_, rfl⟩
      have hlb := lenC_bd (xs.drop at_) (rng_drop HX.out.rng at_)
      rw [hL] at hlb
      by_cases hbad : L < 4 ∨ (n : Int) - at_ < L
      · have hre := round_wrong (left := left) (kind := kd) (xs := xs) (a := at_) (out := pre.map RawP.raw) hkd (by rw [HL.out]; omega) (by rw [HL.out, hL]; omega)
        rw [HP.out] at hre
        have HRE := hidden hre.symm
        have HC := hidden (callsIn_wide (n := m + 2).2 (pay_wrong wr R p n c xs HXr.out hn at_ kd 0 0 HRD.out (by omega) L hL hbad))
        clear hre hkd hleft h4 hbad hL
        gi_wp2_with (refine ⟨trivial, ?_⟩; gi_at_call 55; (with_reducible refine (HC.out).mono ?_); rintro e w2 ⟨rfl, hb2⟩; have hrd2 := HRD.out.below hb2 HRD.out.lt; have hl2 := hrd2.lt; have hne2 : R ≠ w2.heap.size := (by omega); obtain ⟨d0, d1, d2, d3, d4, dr⟩ := hrd2; have dr4 := dr 4)
        refine bodyPost_ret (results_none rfl _ _ _) rfl ?_
        have hb2' := grown_of_below hb2 (some R)
        exact ⟨⟨_, rfl⟩, pre, end_fail _ _ _ (((HRD.out.below hb2 HRD.out.lt).set4 2).grown (World.grownBy_alloc _ _ none) (by simp)) HRE.out (by omega) hpl, HJ.out _ _ _ HJJ.out (grown_alloc_new (grown_trans hb2' (grown_set _ _ _ _)) _)⟩
      obtain ⟨k, hk⟩ := Int.eq_ofNat_of_zero_le (show 0 ≤ L - 4 by omega)
      have hhead := headC_at kd xs at_
      have hmt : (lenC (xs.drop at_)).toNat - 4 = k := by rw [hL]; omega
      rw [hmt] at hhead
      have hlt' : (lenC (xs.drop at_)).toNat = k + 4 := by rw [hL]; omega
      have hlast := fun hh => round_last (left := left) (kind := kd) (xs := xs) (a := at_) (out := pre.map RawP.raw) hkd (by rw [HL.out]; omega) (by rw [HL.out, hL]; omega) hh
      have hmore := fun hh => round_more (left := left) (kind := kd) (xs := xs) (a := at_) (out := pre.map RawP.raw) hkd (by rw [HL.out]; omega) (by rw [HL.out, hL]; omega) hh
      rw [hhead, HP.out] at hlast hmore
      rw [hlt'] at hmore
      rw [HL.out, hL] at hlast
      have r0 := rng_getD HX.out.rng at_
      have hc := callsIn_wide (n := m + 2).2 (pay_ok wr R p n c xs HXr.out hn at_ kd 0 0 HRD.out L hL k hk (by omega))
      unfold PayOk at hc
      generalize xs.getD at_ 0 = x0 at *
      generalize xs.getD (at_ + 1) 0 = x1 at *
      generalize hbs : (xs.drop (at_ + 4)).take k = bs at *
      have hfit : at_ + 4 + k ≤ n := by omega
      have HC := hidden hc
      have HLAST := hidden hlast
      have HMORE := hidden hmore
      have HLEFT := hidden hleft
      have HK := hidden hk
      clear hhead hmt hlt' hlast hmore hL hk hleft hbad hc hbs
      gi_wp2_with (refine ⟨trivial, ?_⟩; gi_at_call 55; (with_reducible refine (HC.out).mono ?_); rintro e w2 ⟨q, d, rfl, hbod, hrd2, hg2⟩; obtain ⟨fn, tmps, assign, body, hy, hRnd⟩ := HY.out pre ⟨kd, decide (128 ≤ x1), q, k, d, bs⟩ _ (HJ.out _ _ _ (HJ.out _ _ _ HJJ.out hg2) (World.grownBy_alloc w2 (.cells #[.int .i64 kd, .bool (decide (128 ≤ x1)), .slice q k d] 85) _)) ((hbod.mono (Nat.le_trans hb0 hws)).alloc (.cells #[.int .i64 kd, .bool (decide (128 ≤ x1)), .slice q k d] 85)) (by omega); simp only [encR] at hy)
      have HB2 := hidden (HBL.out.grown hg2 HBL.out.size (by intro k hk; simp at hk; omega))
      have HRD2 := hidden hrd2
      have hl2 := hrd2.lt
      have hs2 := hg2.size
      clear hbod hrd2 hg2 HC c0 c1 c2 c3 c4 fr
      refine hRnd.mono ?_
      rintro e W3 ⟨rfl, hJ3, hk3⟩
      have hs3 := hk3.size
      simp at hs3
      have HS3 := hidden (show w.heap.size ≤ W3.heap.size by omega)
      have HJ3 := hidden hJ3
      have HRD3 := hidden ((HRD2.out.grown (World.grownBy_alloc w2 (.cells #[.int .i64 kd, .bool (decide (128 ≤ x1)), .slice q k d] 85) none) (by simp)).below hk3 (Nat.lt_succ_self _))
      have HB3 := hidden ((HB2.out.alloc HB2.out.size (.cells #[.int .i64 kd, .bool (decide (128 ≤ x1)), .slice q k d] 85)).trans (hk3.mono (by omega)))
      clear hJ3 hk3 hy hRnd HB2 HRD2
      gi_wp2
      go_roundw
      case rel =>
        have hk' := HK.out
        have hat' : (at_ : Int) + L = ((at_ + (k + 4) : Nat) : Int) := by omega
        have hr3 := HRD3.out
        rw [hat'] at hr3
        refine ⟨pre ++ [⟨kd, decide (128 ≤ x1), q, k, d, bs⟩], by simp, by simp; omega, HJ3.out, ?_, HB3.out, HS3.out⟩
        have hmap : (pre ++ [(⟨kd, decide (128 ≤ x1), q, k, d, bs⟩ : RawP)]).map RawP.raw = pre.map RawP.raw ++ [⟨kd, decide (128 ≤ x1), bs⟩] := by simp [RawP.raw]
        by_cases hlk : lastK kd = true
        · rw [if_pos hlk, if_pos hlk] at hr3
          refine ⟨at_ + (k + 4), 0, x0, hr3, by omega, by omega, by omega, Or.inr ⟨rfl, ?_⟩⟩
          rw [hmap, HLAST.out hlk]
          by_cases he : n - (at_ + (k + 4)) = 0
          · rw [if_neg (by omega), if_neg (by omega)]
          · rw [if_pos (by omega), if_pos (by omega)]
        · rw [if_neg hlk, if_neg hlk] at hr3
          refine ⟨at_ + (k + 4), x0, 0, hr3, by omega, r0.1, r0.2, ?_⟩
          have hm := HMORE.out hlk
          by_cases hz : x0 = 0
          · refine Or.inr ⟨hz, ?_⟩
            have hre := round_end (left := left) (kind := x0) (xs := xs) (a := at_ + (k + 4)) (out := pre.map RawP.raw ++ [⟨kd, decide (128 ≤ x1), bs⟩]) hz
            rw [HL.out] at hre
            rw [hm, hre, hmap]
          · refine Or.inl ⟨hz, rfl, ?_⟩
            have := HLEFT.out
            rw [hmap, List.length_append, List.length_singleton, show 40 - (pre.length + 1) = left by omega]
            exact hm.symm
      case measure =>
        simp [intOf]
        omega
    · by_cases he : at_ = n
      · subst he
        rw [if_neg (by omega)] at hpre
        subst hpre
        gi_wp2
        gi_quiet (fail)
        gi_wp2
        go_end0
        exact ⟨⟨_, rfl⟩, pre, ⟨_, _, _, (HRD.out.grown (grown_drewN wr _ none) (by simp)), fun _ => ⟨rfl, rfl⟩, hpl⟩, HJ.out _ _ _ HJJ.out (grown_drewN _ _ _)⟩
      · rw [if_pos (by omega)] at hpre
        have HRE := hidden hpre
        have hne : ((at_ : Int) != (n : Int)) = true := by simp; omega
        clear hpre he
        gi_wp2
        gi_quiet (fail)
        gi_wp2
        go_end0
        exact ⟨⟨_, rfl⟩, pre, end_fail _ _ _ ((HRD.out.grown (grown_drewN wr _ none) (by simp)).set4 2) HRE.out (by omega) hpl, HJ.out _ _ _ HJJ.out (grown_trans (grown_drewN _ _ _) (grown_set _ _ _ _))⟩
end Go.Proofs.YtnbkffehhahckaaGreat

namespace Go.Proofs.YtnbkffehhahckaaGreat
open Go.RowKit Go.Shelf
set_option linter.unusedVariables false
attribute [local go_sem] Oper.semAt_some
theorem cells_ne {U : World} {b r : Nat} {j : Nat} {v : Value} (h : U.cell? ⟨b, j, none⟩ = some v) (hr : ∃ o : Obj, U.heap[r]? = some o ∧ o.isCells = false) : b ≠ r := by
  obtain ⟨o, ho, hc⟩ := cells_of_cell h
  obtain ⟨o', ho', hc'⟩ := hr
  intro e
  simp only at ho
  rw [e, ho'] at ho
  cases ho
  rw [hc] at hc'
  cases hc'
theorem offB_non {U : World} {base : Nat} {row : Option Nat} (h : ∀ r, row = some r → r < base ∨ ∃ o : Obj, U.heap[r]? = some o ∧ o.isCells = false) : OffB U base row := fun r e => by
  rcases h r e with h | ⟨o, ho, hc⟩
  · exact Or.inl h
  · refine Or.inr (fun cur fz hh => ?_)
    rw [hh] at ho
    cases ho
    cases hc
theorem bod_abides (base Bd : Nat) : AbidesN Bd (fun (x : RawP) U => x.bod U base) := fun x U U' row h hg hr => Bod.grown h hg (offB_non (fun r e => Or.inr (hr r e).2))
theorem end_abides (R : Nat) (p : Option Addr) (n c : Nat) (r : ResC) (Bd : Nat) : AbidesN Bd (EndP R p n c r) := fun pre U U' row h hg hr => by
  obtain ⟨a, b, d, hrd, rest⟩ := h
  exact ⟨a, b, d, hrd.grown hg (fun e => cells_ne hrd.c0 (hr R e.symm).2 rfl), rest⟩
def InvP (w : World) (pre : List RawP) (U : World) : Prop :=
  (∃ v, U.cell? ⟨w.heap.size + 1, 0, none⟩ = some v ∧ U.frozen? ⟨w.heap.size + 1, 0, none⟩ = false ∧ Rws U (w.heap.size + 2) v pre) ∧ Below w.heap.size w U
theorem inv_abides (w : World) (Bd : Nat) (hB : w.heap.size ≤ Bd) : AbidesR w.heap.size Bd (InvP w) := fun pre U U' row h hg hr => by
  obtain ⟨⟨v, hc, hf, hw⟩, hb⟩ := h
  have hne : some (w.heap.size + 1) ≠ row := fun e => by
    rcases hr _ e.symm with h | ⟨_, h⟩
    · omega
    · exact cells_ne hc h rfl
  have hlt := World.block_lt_of_cell? U _ hc
  refine ⟨⟨v, hg.cell hc hne, (World.frozen?_of_block (a := ⟨w.heap.size + 1, 0, none⟩) (hg.block _ hlt hne)).trans hf, hw.grown hg ?_ (offB_non (fun r e => ?_))⟩, hb.grown hg hb.size (fun k e => ?_)⟩
  · intro r e ho
    rcases hr r e with h | ⟨_, h⟩
    · have := (hw.own.lt r ho).1
      omega
    · obtain ⟨o, ho', hc'⟩ := h
      rcases hw.own.2 with ⟨rfl, _⟩ | ⟨g, cap, cur, rfl, _, hh, _⟩
      · simp [Value.ownBlock] at ho
      · simp [Value.ownBlock] at ho
        subst ho
        rw [hh] at ho'
        cases ho'
        cases hc'
  · rcases hr r e with h | ⟨_, h⟩
    · exact Or.inl (by omega)
    · exact Or.inr h
  · rcases hr k e with h | ⟨h, _⟩ <;> omega
theorem wpListIn_append_rws {F : Fence} {nn : Nat} (w : World) {ops : Array Oper} {rest : List Oper} {o : Oper} {a : Act} {Q : Exit → Act → World → Prop} (hgd : o.guard = none) (s x : Operand)
    (ho : o.op = .call { callee := .builtin .append, args := #[s, x], argTypes := #[75, 75] })
    (base : Nat) (v : Value) (l : List RawP) (hs : a.eval s = v) (hv : Rws w base v l)
    (p : Option Addr) (m c : Nat) (r : List RawP) (hx : a.eval x = .slice p m c) (hsrc : SrcR w p m r) (hr : ∀ x ∈ r, x.bod w base) (hb : l.length + m ≤ 1000000) (hbase : base ≤ w.heap.size)
    (h : ∀ v' w', Rws w' base v' (l ++ r) → w.grownBy w' v.ownBlock → wpListIn F nn Tryz.prog ops Q rest (a.put o.dst v') w') : wpListIn F nn Tryz.prog ops Q (o :: rest) a w := by
  refine wpListIn_plain hgd fun K hK => ?_
  obtain ⟨v', w', hrun, h2, h3⟩ := run_append_rws w base o.type v l hv p m c r hsrc hr hb hbase
  unfold Oper.wpIn
  refine ⟨?_, ?_⟩
  · simp [Oper.about, ho, resolve, Target.leads, Sem.run_pure]
  · rw [Oper.semAt_plain F _ _ (by rw [ho]; intro c hc'; cases hc')]
    simp [execOp, ho, resolve, invoke, builtin, hs, hx, hrun, Result.andThen]
    exact hK _ _ (h v' w' h2 h3)
theorem cell_of_heap {U : World} {b j : Nat} {cs : Array Value} {e : TypeId} {v : Value} (h : U.heap[b]? = some (.cells cs e)) (hj : cs[j]? = some v) : U.cell? ⟨b, j, none⟩ = some v := by
  simp [World.cell?, h, hj]
set_option maxHeartbeats 3200000 in
set_option maxRecDepth 100000 in
theorem parseC_any (p : Option Addr) (n c : Nat) (xs : List Int) (w : World) (h : Byt w p n c xs) (hb : n ≤ 140737488351232) (first : Int) (r : ResC) (hr : parseTop first xs = r) :
    Calls Tryz.prog 22 #[.int .i64 first, .slice p n c] w (ParsedC w r) := by
  have HX := hidden h
  by_cases hf : first < 0 ∨ 255 < first
  · have hr0 : failC 5 = r := by rw [← hr, parseTop, if_pos hf]
    have HR := hidden hr0
    clear hr hr0 h
    rcases hf with hf | hf
    · go_enter Tryz.func22, Tryz.ntmps22
      go_wp2
      go_ret3
      exact parsedC_fail w _ 5 r HR.out (Below.refl _ _)
    · go_enter Tryz.func22, Tryz.ntmps22
      go_wp2
      go_ret3
      exact parsedC_fail w _ 5 r HR.out (Below.refl _ _)
  have hr0 : parseC 40 first xs = r := by rw [← hr, parseTop, if_neg hf]
  have HR := hidden hr0
  have hf1 : ¬ first < 0 := by omega
  have hf2 : ¬ 255 < first := by omega
  clear hr hr0 h hf
  refine (callsIn_wide (n := 6)).1 ?_
  refine callsIn_of_wp_marks Tryz.func22 rfl trivial ?_ rfl
  simp only [Tryz.ntmps22, List.size_toArray, List.length_cons, List.length_nil, Nat.reduceAdd, Nat.reduceSub, Array.replicate_succ, Array.replicate_zero, List.push_toArray, List.append_toArray, List.nil_append, List.cons_append]
  gi_wp2
  have hB0 : Below w.heap.size w ((w.alloc (.cells #[.slice p n c, .int .i64 0, .int .i64 first, .int .i64 0, .int .i64 0] 98)).alloc (.cells #[.slice none 0 0] 75)) := ((Below.refl _ w).alloc (Nat.le_refl _) _).alloc (by simp) _
  have hR0 : Rdr ((w.alloc (.cells #[.slice p n c, .int .i64 0, .int .i64 first, .int .i64 0, .int .i64 0] 98)).alloc (.cells #[.slice none 0 0] 75)) w.heap.size p n c 0 first 0 0 :=
    ⟨by go_simp, by go_simp, by go_simp, by go_simp, by go_simp, fun j => by go_simp⟩
  have hI0 : InvP w [] ((w.alloc (.cells #[.slice p n c, .int .i64 0, .int .i64 first, .int .i64 0, .int .i64 0] 98)).alloc (.cells #[.slice none 0 0] 75)) :=
    ⟨⟨.slice none 0 0, by go_simp, by go_simp, Rws.nil _ _⟩, hB0⟩
  have hsz : ((w.alloc (.cells #[.slice p n c, .int .i64 0, .int .i64 first, .int .i64 0, .int .i64 0] 98)).alloc (.cells #[.slice none 0 0] 75)).heap.size = w.heap.size + 2 := by simp
  obtain ⟨W0, hW0⟩ : ∃ W0, (w.alloc (.cells #[.slice p n c, .int .i64 0, .int .i64 first, .int .i64 0, .int .i64 0] 98)).alloc (.cells #[.slice none 0 0] 75) = W0 := ⟨_, rfl⟩
  rw [hW0] at hB0 hR0 hI0 hsz ⊢
  have HSEQ := payloads_seq w W0 w.heap.size p n c xs first r HX.out hb hB0 (Nat.le_refl _) hR0 ⟨by omega, by omega⟩ HR.out 2 (w.heap.size + 2) (by omega)
  refine wpIn_rangeFunc_state rfl (by omega) (gf := 40) (bnd := #[.pointer (some ⟨w.heap.size, 0, none⟩)]) rfl trivial (enters_of Tryz.func40 (by kernel_rfl) rfl) (fun _ => rfl) HSEQ (by omega) (by omega)
    (bod_abides _ _) (end_abides _ _ _ _ _ _) (InvP w) (inv_abides w _ (by omega)) hI0
    (fun x U => { tmps := #[.int .i64 first, .slice p n c, undef, undef, .slice none 0 0, .int .i64 0, .int .i64 0, .pointer (some ⟨w.heap.size, 0, none⟩), .pointer (some ⟨w.heap.size + 1, 0, none⟩), .pointer (some ⟨U.heap.size, 0, none⟩), .int .i64 first, .bool false, .bool false, .int .i64 first, .bool false, .bool false, .slice p n c, .int .i64 first,
      .agg #[.slice p n c, .int .i64 0, .int .i64 first, .int .i64 0, .int .i64 0], .func (.func 40) #[.pointer (some ⟨w.heap.size, 0, none⟩)] #[], .agg #[.int .i64 x.k, .bool x.c, .slice x.p x.n x.m], undef, undef, undef, undef, undef, undef, undef, undef, undef, undef, undef, undef], defers := [] })
    (fun x => .cells #[.int .i64 x.k, .bool x.c, .slice x.p x.n x.m] 85) ?assign ?body ?done
  case assign =>
    intro l x U K hK
    simp only [encR]
    gi_wp2
    exact hK
  case body =>
    rintro l pre x U U2 ⟨⟨v, hc, hf, hw⟩, hbl⟩ hs hlen ho hU
    have c0 := cell_of_heap (j := 0) ho rfl
    have c1 := cell_of_heap (j := 1) ho rfl
    have c2 := cell_of_heap (j := 2) ho rfl
    obtain ⟨pv, cv, rfl, _⟩ := hw.rd rfl
    have HW := hidden (hw.alloc (.cells #[.int .i64 x.k, .bool x.c, .slice x.p x.n x.m] 85))
    have HBL := hidden hbl
    have HS := hidden (show Bod U2 (w.heap.size + 2) x.p x.n x.m x.b from hs)
    have hsz2 : w.heap.size + 1 < U2.heap.size := World.block_lt_of_cell? U2 _ hc
    have hne2 : w.heap.size + 1 ≠ U2.heap.size := by omega
    clear hw hbl hs ho
    gi_wp2_with (gi_at_builtin; refine wpListIn_append_rws _ rfl _ _ rfl (w.heap.size + 2) _ pre rfl HW.out _ _ _ _ rfl (SrcR.new U2 x.k x.c x.p x.n x.m x.b _) ?c1 ?c2 ?c3 ?_)
    case c1 =>
      intro y hy
      rw [List.mem_singleton.1 hy]
      exact HS.out.alloc _
    case c2 => omega
    case c3 => simp; omega
    intro v' w3 hrw3 hg3
    have hown := fun e => (HW.out.own.lt (w.heap.size + 1) e).1
    have hc3 := hg3.cell (cell_below ((Below.refl _ U2).alloc (Nat.le_refl _) _) _ _ hc) (fun e => by have := hown e.symm; omega)
    have hf3 : w3.frozen? ⟨w.heap.size + 1, 0, none⟩ = false := (World.frozen?_of_block (a := ⟨w.heap.size + 1, 0, none⟩) (hg3.block _ (by simp; omega) (fun e => by have := hown e.symm; omega))).trans (by go_simp)
    have HB3 := hidden ((HBL.out.alloc HBL.out.size (.cells #[.int .i64 x.k, .bool x.c, .slice x.p x.n x.m] 85)).grown hg3 (by have := HBL.out.size; simp; omega) (fun k e => by have := (HW.out.own.lt k e).1; omega))
    have HK3 := hidden ((KeepsOthers.alloc U2 (.cells #[.int .i64 x.k, .bool x.c, .slice x.p x.n x.m] 85)).trans (KeepsOthers.of_grownBy hg3 (fun j o e ho => by
      rcases HW.out.own.2 with ⟨hv, _⟩ | ⟨g, cap, cur, hv, _, hh, _⟩
      · simp at hv
        rw [hv.1] at e
        simp [Value.ownBlock] at e
      · simp at hv
        rw [hv.1] at e
        simp [Value.ownBlock] at e
        subst e
        rw [hh] at ho
        cases ho
        rfl)))
    have HBB := hidden (((Below.refl (w.heap.size + 1) U2).alloc (by omega) (.cells #[.int .i64 x.k, .bool x.c, .slice x.p x.n x.m] 85)).grown hg3 (by simp; omega) (fun k e => by have := (HW.out.own.lt k e).1; omega))
    have HR3 := hidden hrw3
    clear hg3 hown hrw3 HW HBL HS hc hf
    obtain ⟨pv', cv', rfl, _⟩ := HR3.out.rd (n := pre.length + 1) (by simp)
    gi_wp2
    refine ⟨HK3.out.trans (KeepsOthers.setCell _ _ _), HBB.out.setCell (p := ⟨w.heap.size + 1, 0, none⟩) (Nat.le_refl _) _, ⟨_, World.cell?_setCell_same' _ _ _ (by rw [hc3]; rfl), by rw [World.frozen?_setCell]; exact hf3, HR3.out.low (grown_set _ _ _ _) (show w.heap.size + 1 < w.heap.size + 2 by omega)⟩, HB3.out.setCell (p := ⟨w.heap.size + 1, 0, none⟩) (by simp) _⟩
  case done =>
    rintro D pre W hD ⟨a, b, d, hrd, hend, hlen⟩ ⟨⟨v, hc, hf, hw⟩, hbl⟩ hK
    have fin : ∀ (nq : Nat), Below w.heap.size w ((W.drewN nq).putObj D (.deferred none)) ∧ Rws ((W.drewN nq).putObj D (.deferred none)) w.heap.size v pre := fun nq => by
      have hKq : (W.drewN nq).heap[D]? = some (.deferred (some [])) := hK
      have hg : W.grownBy ((W.drewN nq).putObj D (.deferred none)) (some D) := grown_trans (grown_drewN W nq _) (grownBy_putObj' _ D _)
      refine ⟨hbl.grown hg hbl.size (fun k e => by cases e; omega), (hw.grown hg (fun r e ho => ?_) (offB_non (fun r e => Or.inr (by cases e; exact ⟨_, hK, rfl⟩)))).mono (by omega)⟩
      cases e
      rcases hw.own.2 with ⟨rfl, _⟩ | ⟨g, cap, cur, rfl, _, hh, _⟩
      · simp [Value.ownBlock] at ho
      · simp [Value.ownBlock] at ho
        subst ho
        rw [hh] at hK
        cases hK
    obtain ⟨pv, cv, rfl, _⟩ := hw.rd rfl
    have FIN := hidden fin
    have HEND := hidden hend
    obtain ⟨c0, c1, c2, c3, c4, fr⟩ := hrd
    have HKD := hidden hK
    clear fin hend hw hbl c0 c1 c2 fr hf
    by_cases he : r.e = 0
    · have e1 := HEND.out he
      rw [he] at c4
      rw [e1.1] at c3
      have he0 := hidden he
      have HMAP := hidden e1.2
      clear e1 he
      generalize hrn : r.n = rn at *
      gi_wp2
      gi_quiet (fail)
      gi_wp2
      refine ⟨by simp, .inl ⟨_, _, rfl, run_takeDeferred (show (W.drewN nq).heap[D]? = _ from HKD.out), ?_⟩⟩
      exact ⟨_, results_tmp3 rfl _ _ _, ⟨_, pre, by rw [hrn, he0.out]; rfl, (FIN.out nq).2, HMAP.out, hlen, (FIN.out nq).1⟩⟩
    · have he1 : (r.e != 0) = true := by simpa using he
      have hform : failC r.e = r := by
        have := parse_form 40 first xs
        rw [HR.out] at this
        exact (this he).symm
      have HFO := hidden hform
      clear he hform
      generalize hre : r.e = re at *
      gi_wp2
      gi_quiet (fail)
      gi_wp2
      refine ⟨by simp, .inl ⟨_, _, rfl, run_takeDeferred (show (W.drewN nq).heap[D]? = _ from HKD.out), ?_⟩⟩
      refine ⟨_, results_tmp3 rfl _ _ _, ?_⟩
      simpa using parsedC_fail w _ re r HFO.out (FIN.out nq).1
end Go.Proofs.YtnbkffehhahckaaGreat

namespace Go.Proofs.YtnbkffehhahckaaGreat
open Go.RowKit
set_option linter.unusedVariables false
section
variable {α : Type} {K : KindR α} {N : NestR α} {P : Program} {t : TypeId} {bytes : Nat}
theorem wpList_append_w (hk : KnownR P K t bytes) (he : K.e ∉ N.ts) (w : World) {ops : Array Oper} {rest : List Oper} {o : Oper} {a : Act} {Q : Exit → Act → World → Prop} (hw : Region.wanted o (yielded ops a.tmps) = true) (s x : Operand)
    (ho : o.op = .call { callee := .builtin .append, args := #[s, x], argTypes := #[t, t] })
    (base : Nat) (v : Value) (l : List α) (hs : a.eval s = v) (hv : RowG K N w base v l)
    (p : Option Addr) (m c : Nat) (r : List α) (hx : a.eval x = .slice p m c) (hm : 0 < m) (hsrc : SrcG K w p m r) (hr : ∀ x ∈ r, N.ok w base x) (h63 : l.length + m ≤ maxLen) (hbytes : (l.length + m) * bytes ≤ 140737488355328) (hbase : base ≤ w.heap.size)
    (h : ∀ v' w', Hid (RowG K N w' base v' (l ++ r)) → Hid (w.grownBy w' v.ownBlock) → Hid (∀ q, v'.ownBlock = some q → v.ownBlock = some q ∨ w.heap.size ≤ q) → wpList P ops Q rest (a.put o.dst v') w') : wpList P ops Q (o :: rest) a w :=
  wpList_step fun C hC => step_append_w hk he w hw s x ho base v l hs hv p m c r hx hm hsrc hr h63 hbytes hbase fun v' w' h2 h3 h4 => hC _ _ (h v' w' h2 h3 h4)
end
def ElemP (R : World → Prop) (wr : World) (base0 : Nat) (v : Value) : Prop :=
  ∃ (w0 : World) (base : Nat), (∀ W, Kpt w0 W base → R W) ∧ Kpt w0 wr base ∧ w0.heap.size ≤ wr.heap.size ∧ base0 ≤ base ∧ (∀ q, v.ownBlock = some q → q < base ∨ w0.heap.size ≤ q)
theorem ElemP.new {R : World → Prop} {w0 : World} {base0 base : Nat} {v : Value} (h : ∀ W, Kpt w0 W base → R W) (hb : base0 ≤ base) (hv : ∀ q, v.ownBlock = some q → q < base) : ElemP R w0 base0 v :=
  ⟨w0, base, h, Kpt.refl _ _, Nat.le_refl _, hb, fun q e => .inl (hv q e)⟩
theorem ElemP.step {R : World → Prop} {wr wy : World} {base0 : Nat} {v : Value} {row : Option Nat} (h : ElemP R wr base0 v) (hg : wr.grownBy wy row) (hr : ∀ q, row = some q → q < base0 ∨ v.ownBlock = some q) : ElemP R wy base0 v := by
  obtain ⟨w0, base, h1, h2, h3, h4, h5⟩ := h
  refine ⟨w0, base, h1, fun a u ha hc => ?_, Nat.le_trans h3 hg.size, h4, h5⟩
  refine hg.cell (h2 a u ha hc) (fun e => ?_)
  have hlt := World.block_lt_of_cell? w0 a hc
  rcases hr _ e.symm with h | h
  · omega
  · rcases h5 _ h with h | h <;> omega
theorem ElemP.below {R : World → Prop} {wr wy : World} {base0 : Nat} {v : Value} (h : ElemP R wr base0 v) (hb : Below wr.heap.size wr wy) : ElemP R wy base0 v := h.step (grown_of_below hb none) (fun q e => by cases e)
theorem ElemP.app {R : World → Prop} {wa wy : World} {base0 : Nat} {v v' : Value} (h : ElemP R wa base0 v) (hg : wa.grownBy wy v.ownBlock) (hq : ∀ q, v'.ownBlock = some q → v.ownBlock = some q ∨ wa.heap.size ≤ q) : ElemP R wy base0 v' := by
  obtain ⟨w0, base, h1, h2, h3, h4, h5⟩ := h.step hg (fun q e => .inr e)
  obtain ⟨w0', base', g1, g2, g3, g4, g5⟩ := h
  have hk : Kpt w0' wy base' := fun a u ha hc => by
    refine hg.cell (g2 a u ha hc) (fun e => ?_)
    have hlt := World.block_lt_of_cell? w0' a hc
    rcases g5 _ e.symm with h | h <;> omega
  exact ⟨w0', base', g1, hk, Nat.le_trans g3 hg.size, g4, fun q hv => (hq q hv).elim (g5 q) (fun h => .inr (by omega))⟩
theorem ElemP.out {R : World → Prop} {wr w' : World} {base0 : Nat} {v : Value} (h : ElemP R wr base0 v) (hk : Kpt wr w' base0) : R w' := by
  obtain ⟨w0, base, h1, h2, h3, h4, h5⟩ := h
  exact h1 w' (h2.trans (hk.mono h4))
end Go.Proofs.YtnbkffehhahckaaGreat

namespace Go.Proofs.YtnbkffehhahckaaGreat
open Go
set_option linter.unusedVariables false
section
variable {P : Program} {ops : Array Oper} {Q : Exit → Act → World → Prop} {md : Region.Mode} {c : Nat} {S0 S1 : World → Prop}
def anyC (P : Program) (md : Region.Mode) (ops : Array Oper) (Q : Exit → Act → World → Prop) (c : Nat) (S0 S1 : World → Prop) : Nat → Array Bool → Act → World → Prop
  | 0, l, a, w => Region.ready md ops l = [] ∧ Q .normal a w
  | n + 1, l, a, w => (Region.ready md ops l = [] → Q .normal a w) ∧
      ∀ i ∈ Region.ready md ops l, wpOp P ops Q i (fun a' w' => (S0 w' ∧ ((l.setIfInBounds i true).getD c true = false → S1 w')) ∧ anyC P md ops Q c S0 S1 n (l.setIfInBounds i true) a' w') a w
theorem any_of_C : ∀ (n : Nat) (l : Array Bool) (a : Act) (w : World), anyC P md ops Q c S0 S1 n l a w → wpAny P md ops Q n l a w
  | 0, _, _, _, h => h
  | n + 1, _, _, _, h => ⟨h.1, fun i hi => wpOp_mono (fun a' w' k => any_of_C n _ a' w' k.2) (h.2 i hi)⟩
theorem anyC_first (B : Bool) {i : Nat} {oi oc : Oper} {v : Value} (hi : ops[i]? = some oi) (hsel : ∀ (j : Nat) (o : Oper) cs b, ops[j]? = some o → o.op ≠ .select cs b)
    (hQ : ∀ ch a w, Q (.panic ch) (a.put oi.dst v) w → Q (.panic ch) a w) (hic : i ≠ c) (hoc : ops[c]? = some oc) (hB : B = true → ∃ e ∈ oc.after, Region.binds md e = true ∧ e.on = i) :
    ∀ (n : Nat) (l : Array Bool) (a : Act) (w : World),
      (∀ j oj, ops[j]? = some oj → j ≠ i → l.getD j true = false → (∀ e ∈ oj.after, Region.binds md e = true → e.on ≠ i) → oi.apart ops oj = true) →
      i ∈ Region.ready md ops l → (B = true → l.getD c true = false) → YieldsIf P ops (fun w => S0 w ∧ (B = true → S1 w)) oi v a → S0 w → (l.getD c true = false → S1 w) →
      anyC P md ops Q c S0 S1 n (l.setIfInBounds i true) (a.put oi.dst v) w → anyC P md ops Q c S0 S1 (n + 1) l a w := by
  intro n
  induction n with
  | zero =>
    intro l a w _ hr hl hy h0 h1 H
    refine ⟨fun h => (by rw [h] at hr; cases hr), fun j hj => ?_⟩
    by_cases hji : j = i
    · subst hji
      exact hy.wpOp hi ⟨h0, fun hb => h1 (hl hb)⟩ ⟨⟨h0, fun hc => h1 (by rw [getD_set_ne true hic] at hc; exact hc)⟩, H⟩
    · have := ready_mono hj hji
      rw [H.1] at this
      cases this
  | succ n ih =>
    intro l a w hfree hr hl hy h0 h1 H
    refine ⟨fun h => (by rw [h] at hr; cases hr), fun j hj => ?_⟩
    by_cases hji : j = i
    · subst hji
      exact hy.wpOp hi ⟨h0, fun hb => h1 (hl hb)⟩ ⟨⟨h0, fun hc => h1 (by rw [getD_set_ne true hic] at hc; exact hc)⟩, H⟩
    · have k1 := H.2 j (ready_mono hj hji)
      obtain ⟨hjun, oj, hoj, hall⟩ := mem_ready.1 hj
      have hnot : ∀ e ∈ oj.after, Region.binds md e = true → e.on ≠ i := fun e he hb heq => by
        have g1 := hall e he hb
        have g0 := (mem_ready.1 hr).1
        rw [heq] at g1
        rcases Nat.lt_or_ge i l.size with h' | h'
        · simp [h'] at g0 g1
          rw [g0] at g1
          cases g1
        · simp [Array.getElem?_eq_none h'] at g1
      have k2 := wpOp_putIf hoj (hfree j oj hoj hji hjun hnot) (fun cs b => hsel i oi cs b hi) (fun cs b => hsel j oj cs b hoj) hQ hy k1
      have hfree' : ∀ k ok, ops[k]? = some ok → k ≠ i → (l.setIfInBounds j true).getD k true = false → (∀ e ∈ ok.after, Region.binds md e = true → e.on ≠ i) → oi.apart ops ok = true := fun k ok hk hki hun hno => by
        refine hfree k ok hk hki ?_ hno
        by_cases hjk : j = k
        · subst hjk; exact hjun
        · rw [getD_set_ne true hjk] at hun; exact hun
      have hjc : B = true → j ≠ c := fun hb e => by
        subst e
        obtain ⟨e, he, hbe, hon⟩ := hB hb
        rw [hoc] at hoj
        cases hoj
        exact hnot e he hbe hon
      have hlc : B = true → (l.setIfInBounds j true).getD c true = false := fun hb => by rw [getD_set_ne true (hjc hb)]; exact hl hb
      have hcc : ∀ l' : Array Bool, ((l'.setIfInBounds i true).setIfInBounds j true).getD c true = (l'.setIfInBounds j true).getD c true := fun l' => by
        rw [Array.setIfInBounds_comm _ _ (Ne.symm hji), getD_set_ne true hic]
      refine wpOp_mono (fun a' w' k3 => ?_) k2
      obtain ⟨hy', ⟨g0, g1⟩, hrest⟩ := k3
      rw [hcc] at g1
      refine ⟨⟨g0, g1⟩, ih (l.setIfInBounds j true) a' w' hfree' (ready_mono hr (Ne.symm hji)) hlc ?_ g0 g1 ?_⟩
      · exact hy'
      · rw [Array.setIfInBounds_comm _ _ hji]
        exact hrest
theorem anyC_take {i : Nat} {oi oc : Oper} {v : Value} {n : Nat} {l : Array Bool} {a : Act} {w : World} (hi : ops[i]? = some oi) (hoc : ops[c]? = some oc) (hic : i ≠ c)
    (hs : Region.noSelect ops = true) (hf : Region.free md ops l i = true) (hr : (Region.ready md ops l).contains i = true)
    (hQ : ∀ ch a w, Q (.panic ch) (a.put oi.dst v) w → Q (.panic ch) a w) (hy : YieldsIf P ops S0 oi v a) (h0 : S0 w) (h1 : l.getD c true = false → S1 w)
    (h : anyC P md ops Q c S0 S1 n (l.setIfInBounds i true) (a.put oi.dst v) w) : anyC P md ops Q c S0 S1 (n + 1) l a w :=
  anyC_first false hi (Region.noSelect_spec hs) hQ hic hoc (fun h => by cases h) n l a w (Region.free_spec hi hf) (by simpa using hr) (fun h => by cases h)
    (hy.imp (fun ⟨a, b⟩ => ⟨a, fun w k => b w k.1⟩) id) h0 h1 h
theorem anyC_one {i : Nat} {o : Oper} {n : Nat} {l : Array Bool} {a : Act} {w : World} (hr : Region.ready md ops l = [i]) (ho : ops[i]? = some o)
    (h : ∀ K' : Act → World → Prop, Shut (∀ a w, S0 w → ((l.setIfInBounds i true).getD c true = false → S1 w) → anyC P md ops Q c S0 S1 n (l.setIfInBounds i true) a w → K' a w) →
      if Region.wanted o (yielded ops a.tmps) = true then Oper.wp P o a w K' Q else K' (a.put o.dst undef) w) : anyC P md ops Q c S0 S1 (n + 1) l a w :=
  ⟨fun h0 => (by rw [hr] at h0; cases h0), fun j hj => (by
    rw [hr] at hj
    have e : j = i := by simpa using hj
    subst e
    exact wpOp_step ho fun K' hK => h K' fun a w h0 h1 k => hK a w ⟨⟨h0, h1⟩, k⟩)⟩
theorem anyC_done {l : Array Bool} {a : Act} {w : World} (hr : Region.ready md ops l = []) (h : Q .normal a w) : ∀ n, anyC P md ops Q c S0 S1 n l a w
  | 0 => ⟨hr, h⟩
  | _ + 1 => ⟨fun _ => h, by rw [hr]; simp⟩
theorem region_C {id : Nat} {a : Act} {w : World} (c : Nat) (S0 S1 : World → Prop) (hm : P.follows .mixedOrders = true) (h0 : S0 w.drew) (h1 : S1 w.drew)
    (h : S0 w.drew → S1 w.drew → anyC P .any ops Q c S0 S1 ops.size (Array.replicate ops.size false) a w.drew) : (Code.region id ops true).wp P Q a w :=
  wp_region_any hm (any_of_C _ _ _ _ (h h0 h1))
end
end Go.Proofs.YtnbkffehhahckaaGreat
