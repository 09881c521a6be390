/-
  append(b, make([]byte, n)...) on a row of the call's own that is not empty: n zeros more.
-/
import Derived.Test.YtgpigjoonhghhaaDoorQDGrow
namespace Go.Proofs.YtgpigjoonhghhaaDoor
open Go.RowKit
theorem zeros_list (n : Nat) : (Builtin.zeroCells (Value.int IntKind.u8 0).cells n).toList = (List.replicate n (0 : Int)).map (Value.int .u8) := by
  simp [Builtin.zeroCells, Value.cells]
  apply List.ext_getElem
  · simp
  · intro j h1 h2
    simp [Nat.mod_one]
section
variable {P : Program} (w : World)
theorem run_append_zeros (base : Nat) (t u ty e : TypeId) (i : TypeInfo) (ht : P.underlying t = some (.slice e)) (hu : P.underlying u = some (.int .i64)) (hi : P.info? e = some i) (hz : i.zero = some (.int .u8 0))
    (hsize : i.size = 1) (hby : i.bytes = 1) (g N c : Nat) (xs : List Int) (hown : Own w base e (.slice (some ⟨g, 0, none⟩) N c) xs) (hN : xs.length = N) (n : Nat) (hn : n ≤ 1000) (hNb : N ≤ 10000) (hbase : base ≤ w.heap.size) :
    ∃ v' w', (Builtin.append_ #[t, u] ty #[.slice (some ⟨g, 0, none⟩) N c, .int .i64 n]).run P w = .ok v' w' ∧ Own w' base e v' (xs ++ List.replicate n 0) ∧ w.grownBy w' (some g) := by
  subst hN
  rcases hown.2 with ⟨hv, _⟩ | ⟨g', cap, cur, hv, hbg, hg, hnc, hcm, hcs, htake⟩
  · simp at hv
  simp only [Value.slice.injEq, Option.some.injEq, Addr.mk.injEq, and_true, true_and] at hv
  obtain ⟨rfl, rfl⟩ := hv
  have hw : IntKind.i64.wrap (n : Int) = n := by rw [IntKind.wrap_i64]; omega
  have h1 : ¬ ((n : Int) < 0) := by omega
  have h2 : ¬ (281474976710656 < (n : Int)) := by omega
  have hlz : ((List.replicate n (0 : Int)).map (Value.int .u8)).length = n := by simp
  have ha : ∀ (z : Int) (w' : World), (asInt (.int .i64 z)).run P w' = .ok z w' := fun z w' => by simp [asInt, asIntOf]
  have hw0 : IntKind.i64.wrap 0 = 0 := by decide
  by_cases hroom : xs.length + n ≤ c
  · have hst := run_storeCells_at P g xs.length e ((List.replicate n (0 : Int)).map (Value.int .u8)) 0 cur w hg (by simp [hcs]; omega) (u8_one _)
    simp only [Nat.add_zero] at hst
    refine ⟨.slice (some ⟨g, 0, none⟩) (xs.length + n) c, w.setRow g (cur.toList.take xs.length ++ (List.replicate n (0 : Int)).map (Value.int .u8) ++ cur.toList.drop (xs.length + ((List.replicate n (0 : Int)).map (Value.int .u8)).length)).toArray, ?_, ?_, ⟨rfl, rfl, rfl, by simp, fun k hk hne => setRow_other w g k _ (fun e => hne (by rw [e]))⟩⟩
    · by_cases h0 : n = 0
      · subst h0
        simp only [List.replicate_zero, List.map_nil] at hst
        simp [Builtin.append_, run_underlying ht, run_underlying hu, sizeOf, typeInfo, hi, hsize, hby, Addr.add_lit, ha, hw0, hst]
        intro hh
        omega
      · simp only [List.map_replicate, List.length_replicate, List.append_assoc] at hst
        simp [Builtin.append_, run_underlying ht, run_underlying hu, sizeOf, typeInfo, zeroValue, hz, hi, hroom, hsize, hby, Addr.add_lit, ha, hw, h1, h2, h0, zeros_list, hst]
    · refine ⟨by simp, .inr ⟨g, c, _, by simp, hbg, setRow_heap w g cur _ e _ hg, by simpa using hroom, hcm, ?_, ?_⟩⟩
      · simp [hcs]
        omega
      · rw [Nat.mul_one] at htake
        rw [htake]
        have e1 : (xs ++ List.replicate n 0).length * 1 = (List.map (Value.int IntKind.u8) xs ++ List.map (Value.int IntKind.u8) (List.replicate n 0)).length := by simp
        rw [e1, List.map_append]
        exact List.take_left
  · have holds : ∀ j u, (xs.map (Value.int .u8))[j]? = some u → w.drew.cell? ((⟨g, 0, none⟩ : Addr).add j) = some u := hown.cells (g := g) rfl
    have hfo := run_firstCells_some (P := P) w.drew 1 xs.length ⟨g, 0, none⟩ xs.length c (xs.map (Value.int .u8)) (by simp) holds
    have h0 : n ≠ 0 := by omega
    have h63 : ¬ (9223372036854775807 < ((xs.length : Int) + (n : Int))) := by omega
    have h48 : ¬ (281474976710656 < Builtin.nextslicecap (xs.length + n) c) := by
      have := nextslicecap_le (show c < xs.length + n by omega)
      omega
    have hge := grownCap_ge w (xs.length + n) c e
    have hcm' : grownCap w (xs.length + n) c e ≤ maxLen := grownCap_le_maxLen w (xs.length + n) c e (by unfold maxLen; omega)
    refine ⟨.slice (some ⟨w.heap.size, 0, none⟩) (xs.length + n) (grownCap w (xs.length + n) c e), w.drew.alloc (.cells ((xs.map (Value.int .u8)).toArray ++ ((List.replicate n (0 : Int)).map (Value.int .u8)).toArray ++ Builtin.zeroCells (Value.int IntKind.u8 0).cells (grownCap w (xs.length + n) c e - (xs.length + n))) e), ?_, ?_, ⟨rfl, rfl, rfl, by simp, fun k hk _ => heap_alloc_old w.drew _ hk⟩⟩
    · have hzl : Builtin.zeroCells (Value.int IntKind.u8 0).cells n = ((List.replicate n (0 : Int)).map (Value.int .u8)).toArray := by
        apply Array.ext'
        rw [zeros_list]
      simp [Builtin.append_, run_underlying ht, run_underlying hu, sizeOf, typeInfo, zeroValue, hz, hi, hroom, hsize, hby, ha, hw, h1, h2, h0, h63, h48, Question.forced, hfo, newRow, grownCap, hzl]
    · refine ⟨by simp, .inr ⟨w.heap.size, _, _, by simp, hbase, heap_alloc_new w.drew _, by simpa using hge, hcm', ?_, ?_⟩⟩
      · simp [size_zeroCells, Value.cells]
        omega
      · simp only [Array.toList_append, List.map_append, List.append_assoc]
        have e1 : (xs ++ List.replicate n 0).length * 1 = (List.map (Value.int IntKind.u8) xs ++ List.map (Value.int IntKind.u8) (List.replicate n 0)).length := by simp
        rw [← List.append_assoc, e1]
        exact List.take_left
end
end Go.Proofs.YtgpigjoonhghhaaDoor
