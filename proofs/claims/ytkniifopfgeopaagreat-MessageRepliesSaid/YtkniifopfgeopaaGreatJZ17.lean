/-
  Package payload's writer of deletions.
  Which payloads are the same, where only the part that the type needs can be read.
  Package payload's Build, given what build returns.
  What chain.Parse returns: the payloads in any bytes, or the first error.
  What is known of an element of a row as long as the memory from some place on stays; append to a row as a law of the walk that says where the row lies.
-/
import Derived.Test.YtkniifopfgeopaaGreatJZ16
import Derived.Test.YtkniifopfgeopaaGreatJZ7
import Derived.Test.YtkniifopfgeopaaGreatJZ14
import Derived.Test.YtkniifopfgeopaaGreatJZ6
import Derived.Test.YtkniifopfgeopaaGreatJZ30
namespace Go.Proofs.YtkniifopfgeopaaGreat
open Go.RowKit
set_option linter.unusedVariables false
set_option linter.unusedSimpArgs false

/-- The length that an SPI has: a wrong one if there is any. -/
def sizeBad (z : Nat) : List (List Int) → Nat
  | [] => z
  | x :: l => if x.length = z then sizeBad z l else x.length
theorem sizeBad_drop (z : Nat) : ∀ (l : List (List Int)) (j : Nat), (∀ x ∈ l.take j, x.length = z) → sizeBad z (l.drop j) = sizeBad z l
  | l, 0, _ => rfl
  | [], j + 1, _ => rfl
  | x :: l, j + 1, h => by
    rw [List.drop_succ_cons, sizeBad_drop z l j (fun y hy => h y (by simp [hy])), sizeBad, if_pos (h x (by simp))]
theorem sizeBad_all (z : Nat) : ∀ (l : List (List Int)), sizeBad z l = z → ∀ x ∈ l, x.length = z
  | [], _ => fun x hx => by cases hx
  | y :: l, h => by
    unfold sizeBad at h
    split at h
    · rename_i hy
      intro x hx
      rcases List.mem_cons.1 hx with rfl | hx
      · exact hy
      · exact sizeBad_all z l h x hx
    · rename_i hy
      exact absurd h hy

set_option maxHeartbeats 1600000 in
set_option maxRecDepth 100000 in
theorem spisSize_any (k : Int) (p : Option Addr) (n c : Nat) (l : List Sb) (w : World) (h : RdG KSb DSb w p n c l) :
    Calls Tryz.prog 87 #[.agg #[.int .i64 k, .slice p n c]] w fun e w' => e = .returned (.int .i64 (sizeBad (spiZ k) (l.map Sb.xs))) ∧ Below w.heap.size w w' := by
  have hn := h.le
  have HB := hidden ((Below.refl w.heap.size w).alloc (Nat.le_refl _) (.cells #[.int .i64 k, .slice p n c] 56))
  have H := hidden (h.below HB.out)
  have HLN := hidden h.len
  have HS := hidden (fun W => spiSize_any k W)
  obtain ⟨X, hX⟩ : ∃ X, l.map Sb.xs = X := ⟨_, rfl⟩
  have HX := Is.mk hX
  rw [hX]
  have HD := hidden (sizeBad_drop (spiZ k) X)
  have hXl : X.length = n := by rw [← hX, List.length_map, h.len]
  have HXL := Is.mk hXl
  generalize spiZ k = z at *
  clear h hX hXl
  go_enter Tryz.func87, Tryz.ntmps87
  go_wp2_with (first
    | (go_at_call 104; (with_reducible refine (HS.out _).mono ?_); rintro e w1 ⟨rfl, rfl⟩)
    | fail)
  generalize hw1 : w.alloc (.cells #[.int .i64 k, .slice p n c] 56) = w1 at *
  go_loopw [12] (fun i wr => ∃ j : Nat, j ≤ n ∧ i = .int .i64 j ∧ Hid (∀ x ∈ X.take j, x.length = z) ∧ wr = w1) (fun i _ => n - (intOf i).toNat)
  case atStart => exact ⟨0, by omega, rfl, hidden (by simp), rfl⟩
  case round =>
    obtain ⟨j, hj, rfl, ha, rfl⟩ := hrel
    by_cases hlt : j < n
    · have hlt' : (j : Int) < n := by omega
      obtain ⟨g, y, rfl, hly, hld, hyb, hcell⟩ := H.out.sb_cons hlt
      have hyl := hyb.len
      have hXj : X.drop j = y.xs :: X.drop (j + 1) := by rw [← HX.eq, ← List.map_drop, hld, List.map_cons, List.map_drop]
      by_cases hyz : y.n = z
      · have hne : ((y.n : Int) != (z : Int)) = false := by simp; omega
        have HA2 : Hid (∀ x ∈ X.take (j + 1), x.length = z) := by
          intro x hx
          have hjx : j < X.length := by rw [HXL.eq]; exact hlt
          have hxj : X[j] = y.xs := by
            have := congrArg (fun l => l[0]?) hXj
            simpa [List.getElem?_drop, hjx] using this
          rw [List.take_succ_eq_append_getElem hjx, List.mem_append, List.mem_singleton] at hx
          rcases hx with hx | rfl
          · exact ha.out x hx
          · rw [hxj]; omega
        clear hly hld hyb hXj ha
        go_wp2
        go_roundw
        case rel => exact ⟨j + 1, by omega, by go_num, HA2, trivial⟩
        case measure => simp [intOf]; omega
      · have hne : ((y.n : Int) != (z : Int)) = true := by simp; omega
        have hres : sizeBad z X = y.n := by
          rw [← HD.out j ha.out, hXj, sizeBad, if_neg (by omega), hyl]
        have HRS := hidden hres
        clear hly hld hyb hXj ha hres
        go_wp2
        go_ret
        exact ⟨by rw [HRS.out]; rfl, HB.out⟩
    · obtain rfl : j = n := by omega
      have hge : ¬ (j : Int) < j := by omega
      have hres : sizeBad z X = z := by rw [← HD.out j ha.out, List.drop_of_length_le (by rw [HXL.eq]; exact Nat.le_refl _)]; rfl
      have HRS := hidden hres
      clear ha hres
      go_wp2
      go_ret
      exact ⟨by rw [HRS.out]; rfl, HB.out⟩

/-- The bytes of a deletion, and the first error. -/
def delL (k : Int) (l : List (List Int)) : List Int := [k % 256, (sizeBad (spiZ k) l : Int) % 256, (l.length : Int) / 256 % 256, (l.length : Int) % 256] ++ l.flatten
def delBE (k : Int) (l : List (List Int)) : Int := if deleteE k (sizeBad (spiZ k) l) l.length ≠ 0 then deleteE k (sizeBad (spiZ k) l) l.length else spisX k l
def delBL (k : Int) (l : List (List Int)) : List Int := if deleteE k (sizeBad (spiZ k) l) l.length ≠ 0 then [] else delL k l
theorem flatten_len (z : Nat) : ∀ (l : List (List Int)), (∀ x ∈ l, x.length = z) → l.flatten.length = l.length * z
  | [], _ => by simp
  | x :: l, h => by
    have h1 := h x (by simp)
    have h2 := flatten_len z l (fun y hy => h y (by simp [hy]))
    rw [List.flatten_cons, List.length_append, h1, h2, List.length_cons, Nat.add_mul]
    omega
theorem spiZ_le (k : Int) : spiZ k ≤ 4 := by unfold spiZ; split <;> omega
def sbPart (x : Sb) : Part := ⟨x.p, x.n, x.c, x.xs⟩
theorem RdG.sbParts {w : World} {p : Option Addr} {n c : Nat} {l : List Sb} (h : RdG KSb DSb w p n c l) : Parts w p n c (l.map sbPart) :=
  ⟨by rw [List.length_map, h.len], h.cap, h.big, fun h0 => by
    obtain ⟨g, x, e, -⟩ := h.sb_cons h0
    refine ⟨g, e, fun j hj => ?_⟩
    rw [List.length_map] at hj
    obtain ⟨g', y, e', hy, -, -, hc⟩ := h.sb_cons (j := j) (by rw [← h.len]; exact hj)
    rw [e] at e'
    injection e' with e'
    injection e' with e1 e2
    subst e1
    have : (l.map sbPart)[j]'(by rw [List.length_map]; exact hj) = sbPart y := by
      rw [List.getElem_map]
      congr 1
      rw [List.getElem?_eq_getElem hj] at hy
      exact Option.some.inj hy
    rw [this]
    exact hc, fun x hx => by
    obtain ⟨y, hy, rfl⟩ := List.mem_map.1 hx
    exact h.ok y hy⟩
theorem sbParts_bytes (l : List Sb) : bytesOf (l.map sbPart) = (l.map Sb.xs).flatten := by
  unfold bytesOf
  induction l with
  | nil => rfl
  | cons x l ih => simp only [List.map_cons, List.flatMap_cons, List.flatten_cons, ih]; rfl

set_option maxHeartbeats 6400000 in
set_option maxRecDepth 100000 in
theorem buildDelete_any (k : Int) (p : Option Addr) (n c : Nat) (l : List Sb) (w : World) (h : RdG KSb DSb w p n c l) (hn : n ≤ 1000000) :
    Calls Tryz.prog 64 #[.agg #[.int .i64 k, .slice p n c]] w (GotBE w (delBL k (l.map Sb.xs)) (delBE k (l.map Sb.xs))) := by
  have HB0 := hidden ((Below.refl w.heap.size w).alloc (Nat.le_refl _) (.cells #[.int .i64 k, .slice p n c] 56))
  have HRD := hidden (fun W (hW : Below w.heap.size w W) => h.below hW)
  have HSZ := hidden (fun W (hW : Below w.heap.size w W) => spisSize_any k p n c l W (h.below hW))
  obtain ⟨X, hX⟩ : ∃ X, l.map Sb.xs = X := ⟨_, rfl⟩
  have hXl : X.length = n := by rw [← hX, List.length_map, h.len]
  obtain ⟨z, hz⟩ : ∃ z, sizeBad (spiZ k) X = z := ⟨_, rfl⟩
  obtain ⟨E1, hE1⟩ : ∃ E1, deleteE k z n = E1 := ⟨_, rfl⟩
  have hle : delBE k X = if E1 ≠ 0 then E1 else spisX k X := by unfold delBE; rw [hz, hXl, hE1]
  have hll : delBL k X = if E1 ≠ 0 then [] else [k % 256, (z : Int) % 256, (n : Int) / 256 % 256, (n : Int) % 256] ++ X.flatten := by unfold delBL; rw [hz, hXl, hE1]; unfold delL; rw [hz, hXl]
  rw [hX, hz] at HSZ
  rw [hX]
  have HCD := hidden (fun W => checkDelete_any k z n W E1 hE1)
  have HLE := Is.mk hle
  have HLL := Is.mk hll
  have HXL := Is.mk hXl
  have HXX := Is.mk hX
  have HZ := Is.mk hz
  have HE1 := Is.mk hE1
  have hspi : spisE k l = spisX k X := by rw [spisE_xs, hX]
  have HSP := Is.mk hspi
  generalize delBE k X = EE at *
  generalize delBL k X = LL at *
  clear h hX hXl hz hE1 hle hll hspi
  go_enter Tryz.func64, Tryz.ntmps64
  go_upto_region 1 with fail
  have k0 : (w.alloc (.cells #[.int .i64 k, .slice p n c] 56)).cell? ⟨w.heap.size, 0, none⟩ = some (.int .i64 k) := by go_simp
  have k1 : (w.alloc (.cells #[.int .i64 k, .slice p n c] 56)).cell? ⟨w.heap.size, 1, none⟩ = some (.slice p n c) := by go_simp
  generalize w.alloc (.cells #[.int .i64 k, .slice p n c] 56) = w1 at *
  have HKK := hidden (fun W (hW : Below w1.heap.size w1 W) => (⟨cell_below hW _ _ k0, cell_below hW _ _ k1⟩ : W.cell? ⟨w.heap.size, 0, none⟩ = some (.int .i64 k) ∧ W.cell? ⟨w.heap.size, 1, none⟩ = some (.slice p n c)))
  have HR0 := hidden (show Below w1.heap.size w1 w1.drew from drew_below ⟨1, rfl⟩)
  have hwN : w.heap.size ≤ w1.heap.size := HB0.out.size
  have HS1 := hidden (fun W (hW : Below w1.heap.size w1 W) => HSZ.out W (HB0.out.trans (hW.mono hwN)))
  go_cut [4, 5] from 8 to 12 (fun a b wx => a = .int .i64 z ∧ b = .int .i64 n ∧ Below w1.heap.size w1 wx)
  case first =>
    go_region_held3 (fun W => W.cell? ⟨w.heap.size, 0, none⟩ = some (.int .i64 k) ∧ W.cell? ⟨w.heap.size, 1, none⟩ = some (.slice p n c)) (first | exact HKK.out _ HR0.out | exact HKK.out _ HB2.out | go_keep)
      (first
      | (go_at_call 87; (with_reducible refine (HS1.out _ HR0.out).mono ?_); rintro e w2 ⟨rfl, hb2⟩; have HB2 : Hid (Below w1.heap.size w1 w2) := hidden (HR0.out.trans (hb2.mono HR0.out.size)); clear hb2)
      | fail)
    all_goals
      go_wp2_with fail
      go_meet
    all_goals exact ⟨rfl, rfl, HB2.out⟩
  case rest =>
    obtain ⟨rfl, rfl, hbc⟩ := hcut
    have HBC := hidden hbc
    obtain ⟨c0, c1⟩ := HKK.out wc hbc
    have HCD1 := hidden (HCD.out wc)
    have HBw := hidden (HB0.out.trans (hbc.mono hwN))
    clear hbc
    go_upto_region 3 with (first
      | (go_at_call 88; (with_reducible refine (HCD1.out).mono ?_); rintro e w3 ⟨rfl, rfl⟩)
      | fail)
    by_cases h0 : E1 ≠ 0
    · have hne : (E1 != 0) = true := by simpa using h0
      have hle := HLE.eq
      have hll := HLL.eq
      rw [if_pos h0] at hle hll
      subst hle hll
      clear h0
      go_wp2
      go_ret2
      exact ⟨none, 0, rfl, Frs.nil _ _ _ _ (by decide), HBw.out⟩
    · have hEe : E1 = 0 := by omega
      have hz : z = spiZ k := by
        have := HE1.eq
        rw [hEe] at this
        unfold deleteE at this
        split at this
        · exact absurd this (by decide)
        · split at this
          · rename_i h2
            exact_mod_cast h2.1
          · exact absurd this (by decide)
      have hall : ∀ x ∈ X, x.length = z := by
        have h1 := HZ.eq
        rw [← hz] at h1
        exact sizeBad_all z X h1
      have hz4 := spiZ_le k
      have hfl : X.flatten.length ≤ 4000000 := by
        rw [flatten_len z X hall, HXL.eq]
        calc n * z ≤ n * 4 := Nat.mul_le_mul_left n (by omega)
          _ ≤ 4000000 := by omega
      have hle := HLE.eq
      have hll := HLL.eq
      rw [if_neg h0] at hle hll
      have hx1 := mod256_rng k
      have hx2 := mod256_rng (z : Int)
      have hx3 := mod256_rng ((n : Int) / 256)
      have hx4 := mod256_rng (n : Int)
      have HCS := hidden (fun W (hW : Below w1.heap.size w1 W) => checkSpis_any k p n c l W (HRD.out W (HB0.out.trans (hW.mono hwN))))
      rw [HSP.eq, ← hle] at HCS
      have hsz : sizeOf' (l.map sbPart) ≤ 140737488355000 := by
        have := bytesOf_len' (w := w) (l := l.map sbPart) (fun x hx => by
          obtain ⟨y, hy, rfl⟩ := List.mem_map.1 hx
          exact (HRD.out w (Below.refl _ _)).ok y hy)
        rw [sbParts_bytes, HXX.eq] at this
        omega
      have HBF := hidden (fun W (hW : Below w1.heap.size w1 W) => before_any (k % 256) ((z : Int) % 256) ((n : Int) / 256 % 256) ((n : Int) % 256) hx1 hx2 hx3 hx4 p n c _ W (HRD.out W (HB0.out.trans (hW.mono hwN))).sbParts hsz LL (by rw [hll, sbParts_bytes, HXX.eq]))
      clear hle hll hall hsz h0
      subst hEe
      clear hz HE1 HLE HLL
      go_upto_region 6 with fail
      generalize hw2 : wc.alloc (.cells _ 134) = w2
      have k2 : w2.cell? ⟨wc.heap.size, 0, none⟩ = some (.int .u8 (k % 256)) := by rw [← hw2]; clear hw2; go_simp
      have k3 : w2.cell? ⟨wc.heap.size, 1, none⟩ = some (.int .u8 ((z : Int) % 256)) := by rw [← hw2]; clear hw2; go_simp
      have k4 : w2.cell? ⟨wc.heap.size, 2, none⟩ = some (.int .u8 ((n : Int) / 256 % 256)) := by rw [← hw2]; clear hw2; go_simp
      have k5 : w2.cell? ⟨wc.heap.size, 3, none⟩ = some (.int .u8 ((n : Int) % 256)) := by rw [← hw2]; clear hw2; go_simp
      have hb2 : Below w1.heap.size w1 w2 := by rw [← hw2]; exact HBC.out.alloc HBC.out.size _
      have HB2 := hidden hb2
      have k6 := cell_below hb2 _ _ k0
      have k7 := cell_below hb2 _ _ k1
      have HBw2 := hidden (HB0.out.trans (hb2.mono hwN))
      have HK2 := hidden (fun W (hW : Below w2.heap.size w2 W) => (⟨cell_below hW _ _ k6, cell_below hW _ _ k7, cell_below hW _ _ k2, cell_below hW _ _ k3, cell_below hW _ _ k4, cell_below hW _ _ k5⟩ : W.cell? ⟨w.heap.size, 0, none⟩ = some (.int .i64 k) ∧ W.cell? ⟨w.heap.size, 1, none⟩ = some (.slice p n c) ∧ W.cell? ⟨wc.heap.size, 0, none⟩ = some (.int .u8 (k % 256)) ∧ W.cell? ⟨wc.heap.size, 1, none⟩ = some (.int .u8 ((z : Int) % 256)) ∧ W.cell? ⟨wc.heap.size, 2, none⟩ = some (.int .u8 ((n : Int) / 256 % 256)) ∧ W.cell? ⟨wc.heap.size, 3, none⟩ = some (.int .u8 ((n : Int) % 256))))
      have hW2 := fun W (hW : Below w2.heap.size w2 W) => (show Below w1.heap.size w1 W from hb2.trans (hW.mono hb2.size))
      have HBF2 := hidden (fun W (hW : Below w2.heap.size w2 W) => HBF.out W (hW2 W hW))
      have HCS2 := hidden (fun W (hW : Below w2.heap.size w2 W) => HCS.out W (hW2 W hW))
      have HR2 := hidden (show Below w2.heap.size w2 w2.drew from drew_below ⟨1, rfl⟩)
      have HFIN := hidden (fun (q : Option Addr) (d : Nat) W (hf : Frs W w2.heap.size q LL.length d LL) (hW : Below w2.heap.size w2 W) => show GotBE w LL EE (.returned (.tuple #[.slice q LL.length d, .int .i64 EE])) W from ⟨q, d, rfl, hf.mono HBw2.out.size, HBw2.out.trans (hW.mono HBw2.out.size)⟩)
      clear hw2 hb2 hW2 HBF HCS HR0 HS1 c0 c1
      generalize w.heap.size = N at *
      generalize wc.heap.size = M at *
      go_region_held3 (fun W => W.cell? ⟨N, 0, none⟩ = some (.int .i64 k) ∧ W.cell? ⟨N, 1, none⟩ = some (.slice p n c) ∧ W.cell? ⟨M, 0, none⟩ = some (.int .u8 (k % 256)) ∧ W.cell? ⟨M, 1, none⟩ = some (.int .u8 ((z : Int) % 256)) ∧ W.cell? ⟨M, 2, none⟩ = some (.int .u8 ((n : Int) / 256 % 256)) ∧ W.cell? ⟨M, 3, none⟩ = some (.int .u8 ((n : Int) % 256)))
        (first | exact HK2.out _ HB5.out | exact HK2.out _ HB6.out | exact HK2.out _ HR2.out | go_keep)
        (first
        | (go_at_call 59; (with_reducible refine (HBF2.out _ HR2.out).mono ?_); rintro e w5 ⟨q5, d5, rfl, hf5, hb5⟩; have HF5 := hidden (hf5.mono HR2.out.size); have HB5 : Hid (Below w2.heap.size w2 w5) := hidden (HR2.out.trans (hb5.mono HR2.out.size)); clear hf5 hb5)
        | (go_at_call 59; (with_reducible refine (HBF2.out _ HB6.out).mono ?_); rintro e w5 ⟨q5, d5, rfl, hf5, hb5⟩; have HF5 := hidden (hf5.mono HB6.out.size); have HB5 : Hid (Below w2.heap.size w2 w5) := hidden (HB6.out.trans (hb5.mono HB6.out.size)); clear hf5 hb5)
        | (go_at_call 89; (with_reducible refine (HCS2.out _ HR2.out).mono ?_); rintro e w6 ⟨rfl, hb6⟩; have HB6 : Hid (Below w2.heap.size w2 w6) := hidden (HR2.out.trans (hb6.mono HR2.out.size)); clear hb6)
        | (go_at_call 89; (with_reducible refine (HCS2.out _ HB5.out).mono ?_); rintro e w6 ⟨rfl, hb6⟩; have HB6 : Hid (Below w2.heap.size w2 w6) := hidden (HB5.out.trans (hb6.mono HB5.out.size)); have HF6 : Hid (∀ q d, Frs w5 w2.heap.size q LL.length d LL → Frs w6 w2.heap.size q LL.length d LL) := hidden (fun q d hf => hf.below hb6); clear hb6)
        | fail)
      all_goals
        go_wp2
        go_ret2
        first
          | exact HFIN.out q5 d5 _ HF5.out HB5.out
          | exact HFIN.out q5 d5 _ (HF6.out _ _ HF5.out) HB6.out
end Go.Proofs.YtkniifopfgeopaaGreat

namespace Go.Proofs.YtkniifopfgeopaaGreat
open Go.RowKit
set_option linter.unusedVariables false

structure R33 (w : World) (x : Pv) (C : Pc) : Prop where
  pr : RdG KPr DPr w x.pr.p x.pr.n x.pr.c C.pr
structure R34 (w : World) (x : Pv) (C : Pc) : Prop where
  ed : Byt w x.ed.p x.ed.n x.ed.c C.ed
structure R35 (w : World) (x : Pv) (C : Pc) : Prop where
  id : Byt w x.id.p x.id.n x.id.c C.id
structure R39 (w : World) (x : Pv) (C : Pc) : Prop where
  ad : Byt w x.ad.p x.ad.n x.ad.c C.ad
structure R41 (w : World) (x : Pv) (C : Pc) : Prop where
  ns : Byt w x.ns.p x.ns.n x.ns.c C.ns
  nd : Byt w x.nd.p x.nd.n x.nd.c C.nd
structure R42 (w : World) (x : Pv) (C : Pc) : Prop where
  ds : RdG KSb DSb w x.ds.p x.ds.n x.ds.c C.ds
structure R44 (w : World) (x : Pv) (C : Pc) : Prop where
  se : RdG KSl DSlr w x.se.p x.se.n x.se.c C.se
structure RX (w : World) (x : Pv) (C : Pc) : Prop where
  da : Byt w x.da.p x.da.n x.da.c C.da
/-- The part of a payload that its type needs can be read. -/
structure PvRk (w : World) (x : Pv) (C : Pc) : Prop where
  a33 : x.t = 33 → R33 w x C
  a34 : x.t = 34 → R34 w x C
  a35 : x.t = 35 → R35 w x C
  a36 : x.t = 36 → R35 w x C
  a39 : x.t = 39 → R39 w x C
  a41 : x.t = 41 → R41 w x C
  a42 : x.t = 42 → R42 w x C
  a44 : x.t = 44 → R44 w x C
  a45 : x.t = 45 → R44 w x C
  aX : x.t ≠ 33 → x.t ≠ 34 → x.t ≠ 35 → x.t ≠ 36 → x.t ≠ 39 → x.t ≠ 41 → x.t ≠ 42 → x.t ≠ 44 → x.t ≠ 45 → RX w x C
theorem PvRd.rk {w : World} {x : Pv} {C : Pc} (h : PvRd w x C) : PvRk w x C :=
  ⟨fun _ => ⟨h.pr⟩, fun _ => ⟨h.ed⟩, fun _ => ⟨h.id⟩, fun _ => ⟨h.id⟩, fun _ => ⟨h.ad⟩, fun _ => ⟨h.ns, h.nd⟩, fun _ => ⟨h.ds⟩, fun _ => ⟨h.se⟩, fun _ => ⟨h.se⟩, fun _ _ _ _ _ _ _ _ _ => ⟨h.da⟩⟩
theorem PvRk.below {w w' : World} {x : Pv} {C : Pc} (h : PvRk w x C) (hb : Below w.heap.size w w') : PvRk w' x C :=
  ⟨fun e => ⟨(h.a33 e).pr.below hb⟩, fun e => ⟨(h.a34 e).ed.below hb⟩, fun e => ⟨(h.a35 e).id.below hb⟩, fun e => ⟨(h.a36 e).id.below hb⟩, fun e => ⟨(h.a39 e).ad.below hb⟩, fun e => ⟨(h.a41 e).ns.below hb, (h.a41 e).nd.below hb⟩, fun e => ⟨(h.a42 e).ds.below hb⟩, fun e => ⟨(h.a44 e).se.below hb⟩, fun e => ⟨(h.a45 e).se.below hb⟩, fun e1 e2 e3 e4 e5 e6 e7 e8 e9 => ⟨(h.aX e1 e2 e3 e4 e5 e6 e7 e8 e9).da.below hb⟩⟩
end Go.Proofs.YtkniifopfgeopaaGreat

namespace Go.Proofs.YtkniifopfgeopaaGreat
open Go.RowKit
set_option linter.unusedVariables false
set_option linter.unusedSimpArgs false

theorem ret_raw3 {fn : Func} {R : Ending → World → Prop} {act : Act} {w : World} {p s : Nat} {g : Nat} {a b c : Value} {u : Value} (h : fn.results = #[.cell p 82, .tmp s]) (hp : act.tmps.getD p undef = .pointer (some ⟨g, 0, none⟩)) (hs : act.tmps.getD s undef = u) (hd : act.defers = [])
    (c0 : w.cell? ⟨g, 0, none⟩ = some a) (c1 : w.cell? ⟨g, 1, none⟩ = some b) (c2 : w.cell? ⟨g, 2, none⟩ = some c) (hR : R (.returned (.tuple #[.agg #[a, b, c], u])) w) : bodyPost Tryz.prog fn R .ret act w := by
  refine bodyPost_ret (v := .tuple #[.agg #[a, b, c], u]) ?_ hd hR
  rw [Array.getD_eq_getD_getElem?] at hp hs
  have hl : (loadVar 82 ⟨g, 0, none⟩).run Tryz.prog w = .ok (.agg #[a, b, c]) w := by simp [loadVar, go_sem, c0, c1, c2, Result.andThen]
  simp [results, h, hp, hs, asAddr, hl, Result.andThen]
/-- A raw payload and an error are returned. -/
def GotRaw (w : World) (t : Int) (L : List Int) (E : Int) (e : Ending) (w' : World) : Prop :=
  Below w.heap.size w w' ∧ ((E = 0 ∧ ∃ q d, e = .returned (.tuple #[.agg #[.int .i64 t, .bool false, .slice q L.length d], .int .i64 0]) ∧ Frs w' w.heap.size q L.length d L) ∨
    (E ≠ 0 ∧ e = .returned (.tuple #[.agg #[.int .i64 0, .bool false, .slice none 0 0], .int .i64 E])))
/-- The first error of a payload whose body is L, or has the error E. -/
def rawE (t : Int) (L : List Int) (E : Int) : Int := if t < 1 ∨ 255 < t then 5 else if E ≠ 0 then E else if 65531 < L.length then 11 else 0

set_option maxHeartbeats 3200000 in
set_option maxRecDepth 100000 in
theorem pBuild_of (x : Pv) (L : List Int) (E : Int) (w : World) (hB : ∀ W, Below w.heap.size w W → Calls Tryz.prog 44 #[(.agg #[.int .i64 x.t, .slice x.pr.p x.pr.n x.pr.c, .int .i64 x.eg, .slice x.ed.p x.ed.n x.ed.c, .int .i64 x.ik, .slice x.id.p x.id.n x.id.c, .int .i64 x.am, .slice x.ad.p x.ad.n x.ad.c, .int .i64 x.np, .slice x.ns.p x.ns.n x.ns.c, .int .i64 x.nt, .slice x.nd.p x.nd.n x.nd.c, .int .i64 x.dp, .slice x.ds.p x.ds.n x.ds.c, .slice x.se.p x.se.n x.se.c, .slice x.da.p x.da.n x.da.c])] W (GotBE W L E)) (R : Int) (hR : rawE x.t L E = R) :
    Calls Tryz.prog 26 #[(.agg #[.int .i64 x.t, .slice x.pr.p x.pr.n x.pr.c, .int .i64 x.eg, .slice x.ed.p x.ed.n x.ed.c, .int .i64 x.ik, .slice x.id.p x.id.n x.id.c, .int .i64 x.am, .slice x.ad.p x.ad.n x.ad.c, .int .i64 x.np, .slice x.ns.p x.ns.n x.ns.c, .int .i64 x.nt, .slice x.nd.p x.nd.n x.nd.c, .int .i64 x.dp, .slice x.ds.p x.ds.n x.ds.c, .slice x.se.p x.se.n x.se.c, .slice x.da.p x.da.n x.da.c])] w (GotRaw w x.t L R) := by
  have hcase : (x.t < 1 ∧ R = 5) ∨ (¬ x.t < 1 ∧ 255 < x.t ∧ R = 5) ∨ (¬ x.t < 1 ∧ ¬ 255 < x.t ∧ E ≠ 0 ∧ R = E) ∨ (¬ x.t < 1 ∧ ¬ 255 < x.t ∧ E = 0 ∧ 65531 < L.length ∧ R = 11) ∨ (¬ x.t < 1 ∧ ¬ 255 < x.t ∧ E = 0 ∧ ¬ 65531 < L.length ∧ R = 0) := by
    unfold rawE at hR
    by_cases h1 : x.t < 1
    · rw [if_pos (Or.inl h1)] at hR; omega
    by_cases h2 : 255 < x.t
    · rw [if_pos (Or.inr h2)] at hR; omega
    rw [if_neg (by omega)] at hR
    by_cases h3 : E ≠ 0
    · rw [if_pos h3] at hR; omega
    rw [if_neg h3] at hR
    by_cases h4 : 65531 < L.length
    · rw [if_pos h4] at hR; omega
    · rw [if_neg h4] at hR; omega
  obtain ⟨w1, hw1⟩ : ∃ w1, (w.alloc (.cells #[.int .i64 x.t, .slice x.pr.p x.pr.n x.pr.c, .int .i64 x.eg, .slice x.ed.p x.ed.n x.ed.c, .int .i64 x.ik, .slice x.id.p x.id.n x.id.c, .int .i64 x.am, .slice x.ad.p x.ad.n x.ad.c, .int .i64 x.np, .slice x.ns.p x.ns.n x.ns.c, .int .i64 x.nt, .slice x.nd.p x.nd.n x.nd.c, .int .i64 x.dp, .slice x.ds.p x.ds.n x.ds.c, .slice x.se.p x.se.n x.se.c, .slice x.da.p x.da.n x.da.c] 59)).alloc (.cells #[.int .i64 0, .bool false, .slice none 0 0] 82) = w1 := ⟨_, rfl⟩
  have hb1 : Below w.heap.size w w1 := by rw [← hw1]; exact ((Below.refl _ w).alloc (Nat.le_refl _) _).alloc (by simp) _
  have hP1 : PvIn w1 w.heap.size x := by rw [← hw1]; exact (PvIn.new w x 59).alloc _
  have k0 : w1.cell? ⟨w.heap.size + 1, 0, none⟩ = some (.int .i64 0) := by rw [← hw1]; clear hw1 hP1 hb1; go_simp
  have k1 : w1.cell? ⟨w.heap.size + 1, 1, none⟩ = some (.bool false) := by rw [← hw1]; clear hw1 k0 hP1 hb1; go_simp
  have k2 : w1.cell? ⟨w.heap.size + 1, 2, none⟩ = some (.slice none 0 0) := by rw [← hw1]; clear hw1 k0 k1 hP1 hb1; go_simp
  have kf : ∀ j, w1.frozen? ⟨w.heap.size + 1, j, none⟩ = false := by rw [← hw1]; clear hw1 k0 k1 k2 hP1 hb1; intro j; go_simp
  have hsz : w1.heap.size = w.heap.size + 2 := by rw [← hw1]; simp
  have HB1 := hidden hb1
  have HBC := hidden (hB w1 hb1)
  have HP1 := hidden hP1
  clear hB hb1 hR
  rcases hcase with ⟨h1, rfl⟩ | ⟨h1, h2, rfl⟩ | ⟨h1, h2, h3, rfl⟩ | ⟨h1, h2, rfl, h4, rfl⟩ | ⟨h1, h2, rfl, h4, rfl⟩
  · obtain ⟨c0, -⟩ := hP1
    go_enter Tryz.func26, Tryz.ntmps26
    go_upto_region 1 with fail
    clear hw1
    have hst := HB1.out.setCell (p := ⟨w.heap.size + 1, 0, none⟩) (by simp) (.int .i64 0)
    have hst := hst.setCell (p := ⟨w.heap.size + 1, 1, none⟩) (by simp) (.bool false)
    have hst := hst.setCell (p := ⟨w.heap.size + 1, 2, none⟩) (by simp) (.slice none 0 0)
    have HST := hidden hst
    clear hst
    go_wp2
    exact ret_raw3 (g := w.heap.size + 1) rfl rfl rfl rfl (by go_simp) (by go_simp) (by go_simp) ⟨HST.out, Or.inr ⟨by decide, rfl⟩⟩
  · obtain ⟨c0, -⟩ := hP1
    go_enter Tryz.func26, Tryz.ntmps26
    go_upto_region 1 with fail
    clear hw1
    have hst := HB1.out.setCell (p := ⟨w.heap.size + 1, 0, none⟩) (by simp) (.int .i64 0)
    have hst := hst.setCell (p := ⟨w.heap.size + 1, 1, none⟩) (by simp) (.bool false)
    have hst := hst.setCell (p := ⟨w.heap.size + 1, 2, none⟩) (by simp) (.slice none 0 0)
    have HST := hidden hst
    clear hst
    go_wp2
    exact ret_raw3 (g := w.heap.size + 1) rfl rfl rfl rfl (by go_simp) (by go_simp) (by go_simp) ⟨HST.out, Or.inr ⟨by decide, rfl⟩⟩
  · go_enter Tryz.func26, Tryz.ntmps26
    go_upto_region 1 with fail
    clear hw1
    have HPC := hidden (fun W (hW : Below w1.heap.size w1 W) => (⟨cell_below hW _ _ k0, cell_below hW _ _ k1, cell_below hW _ _ k2, fun j => (World.frozen?_of_block (a := ⟨w.heap.size + 1, j, none⟩) (hW.block (w.heap.size + 1) (by omega))).trans (kf j), HP1.out.below hW, HB1.out.trans (hW.mono HB1.out.size)⟩ : W.cell? ⟨w.heap.size + 1, 0, none⟩ = some (.int .i64 0) ∧ W.cell? ⟨w.heap.size + 1, 1, none⟩ = some (.bool false) ∧ W.cell? ⟨w.heap.size + 1, 2, none⟩ = some (.slice none 0 0) ∧ (∀ j, W.frozen? ⟨w.heap.size + 1, j, none⟩ = false) ∧ PvIn W w.heap.size x ∧ Below w.heap.size w W))
    obtain ⟨c0, c1, c2, c3, c4, c5, c6, c7, c8, c9, c10, c11, c12, c13, c14, c15, cf⟩ := hP1
    clear k0 k1 k2 kf
    go_upto_region 4 with (first
      | (go_at_call 44; (with_reducible refine (HBC.out).mono ?_); rintro e w5 ⟨q5, d5, rfl, hf5, hb5⟩; have HF5 := hidden (hf5.mono (show w.heap.size + 2 ≤ w1.heap.size from by omega)); have HB5 := hidden hb5; obtain ⟨k0, k1, k2, kf, hP5, hbw⟩ := HPC.out w5 hb5; have HBW := hidden hbw; clear hf5 hb5 hbw)
      | fail)
    clear c0 c1 c2 c3 c4 c5 c6 c7 c8 c9 c10 c11 c12 c13 c14 c15 cf
    obtain ⟨c0, -⟩ := hP5
    have hst := HBW.out.setCell (p := ⟨w.heap.size + 1, 0, none⟩) (by simp) (.int .i64 0)
    have hst := hst.setCell (p := ⟨w.heap.size + 1, 1, none⟩) (by simp) (.bool false)
    have hst := hst.setCell (p := ⟨w.heap.size + 1, 2, none⟩) (by simp) (.slice none 0 0)
    have HST := hidden hst
    clear hst
    have hne : (R != 0) = true := by simpa using h3
    go_wp2
    exact ret_raw3 (g := w.heap.size + 1) rfl rfl rfl rfl (by go_simp) (by go_simp) (by go_simp) ⟨HST.out, Or.inr ⟨h3, rfl⟩⟩
  · go_enter Tryz.func26, Tryz.ntmps26
    go_upto_region 1 with fail
    clear hw1
    have HPC := hidden (fun W (hW : Below w1.heap.size w1 W) => (⟨cell_below hW _ _ k0, cell_below hW _ _ k1, cell_below hW _ _ k2, fun j => (World.frozen?_of_block (a := ⟨w.heap.size + 1, j, none⟩) (hW.block (w.heap.size + 1) (by omega))).trans (kf j), HP1.out.below hW, HB1.out.trans (hW.mono HB1.out.size)⟩ : W.cell? ⟨w.heap.size + 1, 0, none⟩ = some (.int .i64 0) ∧ W.cell? ⟨w.heap.size + 1, 1, none⟩ = some (.bool false) ∧ W.cell? ⟨w.heap.size + 1, 2, none⟩ = some (.slice none 0 0) ∧ (∀ j, W.frozen? ⟨w.heap.size + 1, j, none⟩ = false) ∧ PvIn W w.heap.size x ∧ Below w.heap.size w W))
    obtain ⟨c0, c1, c2, c3, c4, c5, c6, c7, c8, c9, c10, c11, c12, c13, c14, c15, cf⟩ := hP1
    clear k0 k1 k2 kf
    go_upto_region 4 with (first
      | (go_at_call 44; (with_reducible refine (HBC.out).mono ?_); rintro e w5 ⟨q5, d5, rfl, hf5, hb5⟩; have HF5 := hidden (hf5.mono (show w.heap.size + 2 ≤ w1.heap.size from by omega)); have HB5 := hidden hb5; obtain ⟨k0, k1, k2, kf, hP5, hbw⟩ := HPC.out w5 hb5; have HBW := hidden hbw; clear hf5 hb5 hbw)
      | fail)
    clear c0 c1 c2 c3 c4 c5 c6 c7 c8 c9 c10 c11 c12 c13 c14 c15 cf
    obtain ⟨c0, -⟩ := hP5
    have hst := HBW.out.setCell (p := ⟨w.heap.size + 1, 0, none⟩) (by simp) (.int .i64 0)
    have hst := hst.setCell (p := ⟨w.heap.size + 1, 1, none⟩) (by simp) (.bool false)
    have hst := hst.setCell (p := ⟨w.heap.size + 1, 2, none⟩) (by simp) (.slice none 0 0)
    have HST := hidden hst
    clear hst
    have hgt : (65531 : Int) < (L.length : Int) := by omega
    go_wp2
    exact ret_raw3 (g := w.heap.size + 1) rfl rfl rfl rfl (by go_simp) (by go_simp) (by go_simp) ⟨HST.out, Or.inr ⟨by decide, rfl⟩⟩
  · go_enter Tryz.func26, Tryz.ntmps26
    go_upto_region 1 with fail
    clear hw1
    have HPC := hidden (fun W (hW : Below w1.heap.size w1 W) => (⟨cell_below hW _ _ k0, cell_below hW _ _ k1, cell_below hW _ _ k2, fun j => (World.frozen?_of_block (a := ⟨w.heap.size + 1, j, none⟩) (hW.block (w.heap.size + 1) (by omega))).trans (kf j), HP1.out.below hW, HB1.out.trans (hW.mono HB1.out.size)⟩ : W.cell? ⟨w.heap.size + 1, 0, none⟩ = some (.int .i64 0) ∧ W.cell? ⟨w.heap.size + 1, 1, none⟩ = some (.bool false) ∧ W.cell? ⟨w.heap.size + 1, 2, none⟩ = some (.slice none 0 0) ∧ (∀ j, W.frozen? ⟨w.heap.size + 1, j, none⟩ = false) ∧ PvIn W w.heap.size x ∧ Below w.heap.size w W))
    obtain ⟨c0, c1, c2, c3, c4, c5, c6, c7, c8, c9, c10, c11, c12, c13, c14, c15, cf⟩ := hP1
    clear k0 k1 k2 kf
    go_upto_region 4 with (first
      | (go_at_call 44; (with_reducible refine (HBC.out).mono ?_); rintro e w5 ⟨q5, d5, rfl, hf5, hb5⟩; have HF5 := hidden (hf5.mono (show w.heap.size + 2 ≤ w1.heap.size from by omega)); have HB5 := hidden hb5; obtain ⟨k0, k1, k2, kf, hP5, hbw⟩ := HPC.out w5 hb5; have HBW := hidden hbw; clear hf5 hb5 hbw)
      | fail)
    clear c0 c1 c2 c3 c4 c5 c6 c7 c8 c9 c10 c11 c12 c13 c14 c15 cf
    obtain ⟨c0, -⟩ := hP5
    have hst := HBW.out.setCell (p := ⟨w.heap.size + 1, 0, none⟩) (by simp) (.int .i64 x.t)
    have hst := hst.setCell (p := ⟨w.heap.size + 1, 1, none⟩) (by simp) (.bool false)
    have hst := hst.setCell (p := ⟨w.heap.size + 1, 2, none⟩) (by simp) (.slice q5 L.length d5)
    have hff := ((HF5.out.low (grown_set w5 (w.heap.size + 1) 0 (.int .i64 x.t)) (by omega)).low (grown_set _ (w.heap.size + 1) 1 (.bool false)) (by omega)).low (grown_set _ (w.heap.size + 1) 2 (.slice q5 L.length d5)) (by omega)
    have HFF := hidden (hff.mono (show w.heap.size ≤ w.heap.size + 2 from by omega))
    clear hff
    have HST := hidden hst
    clear hst
    have hgt : ¬ (65531 : Int) < (L.length : Int) := by omega
    go_wp2
    exact ret_raw3 (g := w.heap.size + 1) rfl rfl rfl rfl (by go_simp) (by go_simp) (by go_simp) ⟨HST.out, Or.inl ⟨rfl, q5, d5, rfl, HFF.out⟩⟩
end Go.Proofs.YtkniifopfgeopaaGreat

namespace Go.Proofs.YtkniifopfgeopaaGreat
open Go.RowKit Go.Shelf
set_option linter.unusedVariables false
attribute [local go_sem] Oper.semAt_some

theorem cells_ne {U : World} {b r : Nat} {j : Nat} {v : Value} (h : U.cell? ⟨b, j, none⟩ = some v) (hr : ∃ o : Obj, U.heap[r]? = some o ∧ o.isCells = false) : b ≠ r := by
  obtain ⟨o, ho, hc⟩ := cells_of_cell h
  obtain ⟨o', ho', hc'⟩ := hr
  intro e
  simp only at ho
  rw [e, ho'] at ho
  cases ho
  rw [hc] at hc'
  cases hc'
theorem offB_non {U : World} {base : Nat} {row : Option Nat} (h : ∀ r, row = some r → r < base ∨ ∃ o : Obj, U.heap[r]? = some o ∧ o.isCells = false) : OffB U base row := fun r e => by
  rcases h r e with h | ⟨o, ho, hc⟩
  · exact Or.inl h
  · refine Or.inr (fun cur fz hh => ?_)
    rw [hh] at ho
    cases ho
    cases hc
theorem bod_abides (base Bd : Nat) : AbidesN Bd (fun (x : RawP) U => x.bod U base) := fun x U U' row h hg hr => Bod.grown h hg (offB_non (fun r e => Or.inr (hr r e).2))
theorem end_abides (R : Nat) (p : Option Addr) (n c : Nat) (r : ResC) (Bd : Nat) : AbidesN Bd (EndP R p n c r) := fun pre U U' row h hg hr => by
  obtain ⟨a, b, d, hrd, rest⟩ := h
  exact ⟨a, b, d, hrd.grown hg (fun e => cells_ne hrd.c0 (hr R e.symm).2 rfl), rest⟩

/-- What the loop holds: the payloads so far. -/
def InvP (w : World) (pre : List RawP) (U : World) : Prop :=
  (∃ v, U.cell? ⟨w.heap.size + 1, 0, none⟩ = some v ∧ U.frozen? ⟨w.heap.size + 1, 0, none⟩ = false ∧ Rws U (w.heap.size + 2) v pre) ∧ Below w.heap.size w U
theorem inv_abides (w : World) (Bd : Nat) (hB : w.heap.size ≤ Bd) : AbidesR w.heap.size Bd (InvP w) := fun pre U U' row h hg hr => by
  obtain ⟨⟨v, hc, hf, hw⟩, hb⟩ := h
  have hne : some (w.heap.size + 1) ≠ row := fun e => by
    rcases hr _ e.symm with h | ⟨_, h⟩
    · omega
    · exact cells_ne hc h rfl
  have hlt := World.block_lt_of_cell? U _ hc
  refine ⟨⟨v, hg.cell hc hne, (World.frozen?_of_block (a := ⟨w.heap.size + 1, 0, none⟩) (hg.block _ hlt hne)).trans hf, hw.grown hg ?_ (offB_non (fun r e => ?_))⟩, hb.grown hg hb.size (fun k e => ?_)⟩
  · intro r e ho
    rcases hr r e with h | ⟨_, h⟩
    · have := (hw.own.lt r ho).1
      omega
    · obtain ⟨o, ho', hc'⟩ := h
      rcases hw.own.2 with ⟨rfl, _⟩ | ⟨g, cap, cur, rfl, _, hh, _⟩
      · simp [Value.ownBlock] at ho
      · simp [Value.ownBlock] at ho
        subst ho
        rw [hh] at ho'
        cases ho'
        cases hc'
  · rcases hr r e with h | ⟨_, h⟩
    · exact Or.inl (by omega)
    · exact Or.inr h
  · rcases hr k e with h | ⟨h, _⟩ <;> omega

/-- append(l, r...) in a fenced walk. -/
theorem wpListIn_append_rws {F : Fence} {nn : Nat} (w : World) {ops : Array Oper} {rest : List Oper} {o : Oper} {a : Act} {Q : Exit → Act → World → Prop} (hgd : o.guard = none) (s x : Operand)
    (ho : o.op = .call { callee := .builtin .append, args := #[s, x], argTypes := #[73, 73] })
    (base : Nat) (v : Value) (l : List RawP) (hs : a.eval s = v) (hv : Rws w base v l)
    (p : Option Addr) (m c : Nat) (r : List RawP) (hx : a.eval x = .slice p m c) (hsrc : SrcR w p m r) (hr : ∀ x ∈ r, x.bod w base) (hb : l.length + m ≤ 1000000) (hbase : base ≤ w.heap.size)
    (h : ∀ v' w', Rws w' base v' (l ++ r) → w.grownBy w' v.ownBlock → wpListIn F nn Tryz.prog ops Q rest (a.put o.dst v') w') : wpListIn F nn Tryz.prog ops Q (o :: rest) a w := by
  refine wpListIn_plain hgd fun K hK => ?_
  obtain ⟨v', w', hrun, h2, h3⟩ := run_append_rws w base o.type v l hv p m c r hsrc hr hb hbase
  unfold Oper.wpIn
  refine ⟨?_, ?_⟩
  · simp [Oper.about, ho, resolve, Target.leads, Sem.run_pure]
  · rw [Oper.semAt_plain F _ _ (by rw [ho]; intro c hc'; cases hc')]
    simp [execOp, ho, resolve, invoke, builtin, hs, hx, hrun, Result.andThen]
    exact hK _ _ (h v' w' h2 h3)

theorem cell_of_heap {U : World} {b j : Nat} {cs : Array Value} {e : TypeId} {v : Value} (h : U.heap[b]? = some (.cells cs e)) (hj : cs[j]? = some v) : U.cell? ⟨b, j, none⟩ = some v := by
  simp [World.cell?, h, hj]

set_option maxHeartbeats 3200000 in
set_option maxRecDepth 100000 in
theorem parseC_any (p : Option Addr) (n c : Nat) (xs : List Int) (w : World) (h : Byt w p n c xs) (hb : n ≤ 140737488351232) (first : Int) (r : ResC) (hr : parseTop first xs = r) :
    Calls Tryz.prog 21 #[.int .i64 first, .slice p n c] w (ParsedC w r) := by
  have HX := hidden h
  by_cases hf : first < 0 ∨ 255 < first
  · have hr0 : failC 5 = r := by rw [← hr, parseTop, if_pos hf]
    have HR := hidden hr0
    clear hr hr0 h
    rcases hf with hf | hf
    · go_enter Tryz.func21, Tryz.ntmps21
      go_wp2
      go_ret3
      exact parsedC_fail w _ 5 r HR.out (Below.refl _ _)
    · go_enter Tryz.func21, Tryz.ntmps21
      go_wp2
      go_ret3
      exact parsedC_fail w _ 5 r HR.out (Below.refl _ _)
  have hr0 : parseC 40 first xs = r := by rw [← hr, parseTop, if_neg hf]
  have HR := hidden hr0
  have hf1 : ¬ first < 0 := by omega
  have hf2 : ¬ 255 < first := by omega
  clear hr hr0 h hf
  refine (callsIn_wide (n := 6)).1 ?_
  refine callsIn_of_wp_marks Tryz.func21 rfl trivial ?_ rfl
  simp only [Tryz.ntmps21, List.size_toArray, List.length_cons, List.length_nil, Nat.reduceAdd, Nat.reduceSub, Array.replicate_succ, Array.replicate_zero, List.push_toArray, List.append_toArray, List.nil_append, List.cons_append]
  gi_wp2
  have hB0 : Below w.heap.size w ((w.alloc (.cells #[.slice p n c, .int .i64 0, .int .i64 first, .int .i64 0, .int .i64 0] 96)).alloc (.cells #[.slice none 0 0] 73)) := ((Below.refl _ w).alloc (Nat.le_refl _) _).alloc (by simp) _
  have hR0 : Rdr ((w.alloc (.cells #[.slice p n c, .int .i64 0, .int .i64 first, .int .i64 0, .int .i64 0] 96)).alloc (.cells #[.slice none 0 0] 73)) w.heap.size p n c 0 first 0 0 :=
    ⟨by go_simp, by go_simp, by go_simp, by go_simp, by go_simp, fun j => by go_simp⟩
  have hI0 : InvP w [] ((w.alloc (.cells #[.slice p n c, .int .i64 0, .int .i64 first, .int .i64 0, .int .i64 0] 96)).alloc (.cells #[.slice none 0 0] 73)) :=
    ⟨⟨.slice none 0 0, by go_simp, by go_simp, Rws.nil _ _⟩, hB0⟩
  have hsz : ((w.alloc (.cells #[.slice p n c, .int .i64 0, .int .i64 first, .int .i64 0, .int .i64 0] 96)).alloc (.cells #[.slice none 0 0] 73)).heap.size = w.heap.size + 2 := by simp
  obtain ⟨W0, hW0⟩ : ∃ W0, (w.alloc (.cells #[.slice p n c, .int .i64 0, .int .i64 first, .int .i64 0, .int .i64 0] 96)).alloc (.cells #[.slice none 0 0] 73) = W0 := ⟨_, rfl⟩
  rw [hW0] at hB0 hR0 hI0 hsz ⊢
  have HSEQ := payloads_seq w W0 w.heap.size p n c xs first r HX.out hb hB0 (Nat.le_refl _) hR0 ⟨by omega, by omega⟩ HR.out 2 (w.heap.size + 2) (by omega)
  refine wpIn_rangeFunc_state rfl (by omega) (gf := 37) (bnd := #[.pointer (some ⟨w.heap.size, 0, none⟩)]) rfl trivial (enters_of Tryz.func37 (by kernel_rfl) rfl) (fun _ => rfl) HSEQ (by omega) (by omega)
    (bod_abides _ _) (end_abides _ _ _ _ _ _) (InvP w) (inv_abides w _ (by omega)) hI0
    (fun x U => { tmps := #[.int .i64 first, .slice p n c, undef, undef, .slice none 0 0, .int .i64 0, .int .i64 0, .pointer (some ⟨w.heap.size, 0, none⟩), .pointer (some ⟨w.heap.size + 1, 0, none⟩), .pointer (some ⟨U.heap.size, 0, none⟩), .int .i64 first, .bool false, .bool false, .int .i64 first, .bool false, .bool false, .slice p n c, .int .i64 first,
      .agg #[.slice p n c, .int .i64 0, .int .i64 first, .int .i64 0, .int .i64 0], .func (.func 37) #[.pointer (some ⟨w.heap.size, 0, none⟩)] #[], .agg #[.int .i64 x.k, .bool x.c, .slice x.p x.n x.m], undef, undef, undef, undef, undef, undef, undef, undef, undef, undef, undef, undef], defers := [] })
    (fun x => .cells #[.int .i64 x.k, .bool x.c, .slice x.p x.n x.m] 82) ?assign ?body ?done
  case assign =>
    intro l x U K hK
    simp only [encR]
    gi_wp2
    exact hK
  case body =>
    rintro l pre x U U2 ⟨⟨v, hc, hf, hw⟩, hbl⟩ hs hlen ho hU
    have c0 := cell_of_heap (j := 0) ho rfl
    have c1 := cell_of_heap (j := 1) ho rfl
    have c2 := cell_of_heap (j := 2) ho rfl
    obtain ⟨pv, cv, rfl, _⟩ := hw.rd rfl
    have HW := hidden (hw.alloc (.cells #[.int .i64 x.k, .bool x.c, .slice x.p x.n x.m] 82))
    have HBL := hidden hbl
    have HS := hidden (show Bod U2 (w.heap.size + 2) x.p x.n x.m x.b from hs)
    have hsz2 : w.heap.size + 1 < U2.heap.size := World.block_lt_of_cell? U2 _ hc
    have hne2 : w.heap.size + 1 ≠ U2.heap.size := by omega
    clear hw hbl hs ho
    gi_wp2_with (gi_at_builtin; refine wpListIn_append_rws _ rfl _ _ rfl (w.heap.size + 2) _ pre rfl HW.out _ _ _ _ rfl (SrcR.new U2 x.k x.c x.p x.n x.m x.b _) ?c1 ?c2 ?c3 ?_)
    case c1 =>
      intro y hy
      rw [List.mem_singleton.1 hy]
      exact HS.out.alloc _
    case c2 => omega
    case c3 => simp; omega
    intro v' w3 hrw3 hg3
    have hown := fun e => (HW.out.own.lt (w.heap.size + 1) e).1
    have hc3 := hg3.cell (cell_below ((Below.refl _ U2).alloc (Nat.le_refl _) _) _ _ hc) (fun e => by have := hown e.symm; omega)
    have hf3 : w3.frozen? ⟨w.heap.size + 1, 0, none⟩ = false := (World.frozen?_of_block (a := ⟨w.heap.size + 1, 0, none⟩) (hg3.block _ (by simp; omega) (fun e => by have := hown e.symm; omega))).trans (by go_simp)
    have HB3 := hidden ((HBL.out.alloc HBL.out.size (.cells #[.int .i64 x.k, .bool x.c, .slice x.p x.n x.m] 82)).grown hg3 (by have := HBL.out.size; simp; omega) (fun k e => by have := (HW.out.own.lt k e).1; omega))
    have HK3 := hidden ((KeepsOthers.alloc U2 (.cells #[.int .i64 x.k, .bool x.c, .slice x.p x.n x.m] 82)).trans (KeepsOthers.of_grownBy hg3 (fun j o e ho => by
      rcases HW.out.own.2 with ⟨hv, _⟩ | ⟨g, cap, cur, hv, _, hh, _⟩
      · simp at hv
        rw [hv.1] at e
        simp [Value.ownBlock] at e
      · simp at hv
        rw [hv.1] at e
        simp [Value.ownBlock] at e
        subst e
        rw [hh] at ho
        cases ho
        rfl)))
    have HBB := hidden (((Below.refl (w.heap.size + 1) U2).alloc (by omega) (.cells #[.int .i64 x.k, .bool x.c, .slice x.p x.n x.m] 82)).grown hg3 (by simp; omega) (fun k e => by have := (HW.out.own.lt k e).1; omega))
    have HR3 := hidden hrw3
    clear hg3 hown hrw3 HW HBL HS hc hf
    obtain ⟨pv', cv', rfl, _⟩ := HR3.out.rd (n := pre.length + 1) (by simp)
    gi_wp2
    refine ⟨HK3.out.trans (KeepsOthers.setCell _ _ _), HBB.out.setCell (p := ⟨w.heap.size + 1, 0, none⟩) (Nat.le_refl _) _, ⟨_, World.cell?_setCell_same' _ _ _ (by rw [hc3]; rfl), by rw [World.frozen?_setCell]; exact hf3, HR3.out.low (grown_set _ _ _ _) (show w.heap.size + 1 < w.heap.size + 2 by omega)⟩, HB3.out.setCell (p := ⟨w.heap.size + 1, 0, none⟩) (by simp) _⟩
  case done =>
    rintro D pre W hD ⟨a, b, d, hrd, hend, hlen⟩ ⟨⟨v, hc, hf, hw⟩, hbl⟩ hK
    have fin : ∀ (nq : Nat), Below w.heap.size w ((W.drewN nq).putObj D (.deferred none)) ∧ Rws ((W.drewN nq).putObj D (.deferred none)) w.heap.size v pre := fun nq => by
      have hKq : (W.drewN nq).heap[D]? = some (.deferred (some [])) := hK
      have hg : W.grownBy ((W.drewN nq).putObj D (.deferred none)) (some D) := grown_trans (grown_drewN W nq _) (grownBy_putObj' _ D _)
      refine ⟨hbl.grown hg hbl.size (fun k e => by cases e; omega), (hw.grown hg (fun r e ho => ?_) (offB_non (fun r e => Or.inr (by cases e; exact ⟨_, hK, rfl⟩)))).mono (by omega)⟩
      cases e
      rcases hw.own.2 with ⟨rfl, _⟩ | ⟨g, cap, cur, rfl, _, hh, _⟩
      · simp [Value.ownBlock] at ho
      · simp [Value.ownBlock] at ho
        subst ho
        rw [hh] at hK
        cases hK
    obtain ⟨pv, cv, rfl, _⟩ := hw.rd rfl
    have FIN := hidden fin
    have HEND := hidden hend
    obtain ⟨c0, c1, c2, c3, c4, fr⟩ := hrd
    have HKD := hidden hK
    clear fin hend hw hbl c0 c1 c2 fr hf
    by_cases he : r.e = 0
    · have e1 := HEND.out he
      rw [he] at c4
      rw [e1.1] at c3
      have he0 := hidden he
      have HMAP := hidden e1.2
      clear e1 he
      generalize hrn : r.n = rn at *
      gi_wp2
      gi_quiet (fail)
      gi_wp2
      refine ⟨by simp, .inl ⟨_, _, rfl, run_takeDeferred (show (W.drewN nq).heap[D]? = _ from HKD.out), ?_⟩⟩
      exact ⟨_, results_tmp3 rfl _ _ _, ⟨_, pre, by rw [hrn, he0.out]; rfl, (FIN.out nq).2, HMAP.out, hlen, (FIN.out nq).1⟩⟩
    · have he1 : (r.e != 0) = true := by simpa using he
      have hform : failC r.e = r := by
        have := parse_form 40 first xs
        rw [HR.out] at this
        exact (this he).symm
      have HFO := hidden hform
      clear he hform
      generalize hre : r.e = re at *
      gi_wp2
      gi_quiet (fail)
      gi_wp2
      refine ⟨by simp, .inl ⟨_, _, rfl, run_takeDeferred (show (W.drewN nq).heap[D]? = _ from HKD.out), ?_⟩⟩
      refine ⟨_, results_tmp3 rfl _ _ _, ?_⟩
      simpa using parsedC_fail w _ re r HFO.out (FIN.out nq).1
end Go.Proofs.YtkniifopfgeopaaGreat

namespace Go.Proofs.YtkniifopfgeopaaGreat
open Go.RowKit
set_option linter.unusedVariables false

section
variable {α : Type} {K : KindR α} {N : NestR α} {P : Program} {t : TypeId} {bytes : Nat}
theorem wpList_append_w (hk : KnownR P K t bytes) (he : K.e ∉ N.ts) (w : World) {ops : Array Oper} {rest : List Oper} {o : Oper} {a : Act} {Q : Exit → Act → World → Prop} (hw : Region.wanted o (yielded ops a.tmps) = true) (s x : Operand)
    (ho : o.op = .call { callee := .builtin .append, args := #[s, x], argTypes := #[t, t] })
    (base : Nat) (v : Value) (l : List α) (hs : a.eval s = v) (hv : RowG K N w base v l)
    (p : Option Addr) (m c : Nat) (r : List α) (hx : a.eval x = .slice p m c) (hm : 0 < m) (hsrc : SrcG K w p m r) (hr : ∀ x ∈ r, N.ok w base x) (h63 : l.length + m ≤ maxLen) (hbytes : (l.length + m) * bytes ≤ 140737488355328) (hbase : base ≤ w.heap.size)
    (h : ∀ v' w', Hid (RowG K N w' base v' (l ++ r)) → Hid (w.grownBy w' v.ownBlock) → Hid (∀ q, v'.ownBlock = some q → v.ownBlock = some q ∨ w.heap.size ≤ q) → wpList P ops Q rest (a.put o.dst v') w') : wpList P ops Q (o :: rest) a w :=
  wpList_step fun C hC => step_append_w hk he w hw s x ho base v l hs hv p m c r hx hm hsrc hr h63 hbytes hbase fun v' w' h2 h3 h4 => hC _ _ (h v' w' h2 h3 h4)
end


/-- R holds, and holds on wherever the blocks from some place on stay; the row v lies apart from them. -/
def ElemP (R : World → Prop) (wr : World) (base0 : Nat) (v : Value) : Prop :=
  ∃ (w0 : World) (base : Nat), (∀ W, Kpt w0 W base → R W) ∧ Kpt w0 wr base ∧ w0.heap.size ≤ wr.heap.size ∧ base0 ≤ base ∧ (∀ q, v.ownBlock = some q → q < base ∨ w0.heap.size ≤ q)
theorem ElemP.new {R : World → Prop} {w0 : World} {base0 base : Nat} {v : Value} (h : ∀ W, Kpt w0 W base → R W) (hb : base0 ≤ base) (hv : ∀ q, v.ownBlock = some q → q < base) : ElemP R w0 base0 v :=
  ⟨w0, base, h, Kpt.refl _ _, Nat.le_refl _, hb, fun q e => .inl (hv q e)⟩
theorem ElemP.step {R : World → Prop} {wr wy : World} {base0 : Nat} {v : Value} {row : Option Nat} (h : ElemP R wr base0 v) (hg : wr.grownBy wy row) (hr : ∀ q, row = some q → q < base0 ∨ v.ownBlock = some q) : ElemP R wy base0 v := by
  obtain ⟨w0, base, h1, h2, h3, h4, h5⟩ := h
  refine ⟨w0, base, h1, fun a u ha hc => ?_, Nat.le_trans h3 hg.size, h4, h5⟩
  refine hg.cell (h2 a u ha hc) (fun e => ?_)
  have hlt := World.block_lt_of_cell? w0 a hc
  rcases hr _ e.symm with h | h
  · omega
  · rcases h5 _ h with h | h <;> omega
theorem ElemP.below {R : World → Prop} {wr wy : World} {base0 : Nat} {v : Value} (h : ElemP R wr base0 v) (hb : Below wr.heap.size wr wy) : ElemP R wy base0 v := h.step (grown_of_below hb none) (fun q e => by cases e)
theorem ElemP.app {R : World → Prop} {wa wy : World} {base0 : Nat} {v v' : Value} (h : ElemP R wa base0 v) (hg : wa.grownBy wy v.ownBlock) (hq : ∀ q, v'.ownBlock = some q → v.ownBlock = some q ∨ wa.heap.size ≤ q) : ElemP R wy base0 v' := by
  obtain ⟨w0, base, h1, h2, h3, h4, h5⟩ := h.step hg (fun q e => .inr e)
  obtain ⟨w0', base', g1, g2, g3, g4, g5⟩ := h
  have hk : Kpt w0' wy base' := fun a u ha hc => by
    refine hg.cell (g2 a u ha hc) (fun e => ?_)
    have hlt := World.block_lt_of_cell? w0' a hc
    rcases g5 _ e.symm with h | h <;> omega
  exact ⟨w0', base', g1, hk, Nat.le_trans g3 hg.size, g4, fun q hv => (hq q hv).elim (g5 q) (fun h => .inr (by omega))⟩
theorem ElemP.out {R : World → Prop} {wr w' : World} {base0 : Nat} {v : Value} (h : ElemP R wr base0 v) (hk : Kpt wr w' base0) : R w' := by
  obtain ⟨w0, base, h1, h2, h3, h4, h5⟩ := h
  exact h1 w' (h2.trans (hk.mono h4))
end Go.Proofs.YtkniifopfgeopaaGreat
