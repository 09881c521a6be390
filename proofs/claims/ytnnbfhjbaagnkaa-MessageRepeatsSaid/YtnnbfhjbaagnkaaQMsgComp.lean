/-
  Whether the types that were found are all that the exchange needs (message.complete).
-/
import Derived.Test.YtnnbfhjbaagnkaaQMsgAsks
import Derived.Test.YtnnbfhjbaagnkaaQMsgNeed
namespace Go.Proofs.Ytnnbfhjbaagnkaa
open Go.RowKit
set_option linter.unusedVariables false

theorem needL_int (x : Int) (q : Bool) : ∀ k ∈ needL x q, IntR k := by
  intro k hk
  unfold needL at hk
  unfold IntR
  cases q <;> (repeat' split at hk) <;> simp at hk <;> omega
set_option maxHeartbeats 6400000 in
set_option maxRecDepth 100000 in
theorem complete_any (i r nx x f m : Int) (p : Option Addr) (n c : Nat) (l : List Pv) (b : Nat) (ts : List Int) (w : World) (h : RdG KPv DPv w p n c l) (hn : n ≤ 100000) (hx : IntR x) (hF : Fnd w b ts) :
    Calls Try.prog 14 #[.agg #[.int .u64 i, .int .u64 r, .int .i64 nx, .int .i64 x, .int .i64 f, .int .u32 m, .slice p n c], .map (some b)] w fun e w' => e = .returned (.bool ((needL x (bits BinOp.and IntKind.i64 f 32 == 0)).all (fun k => decide (k ∈ ts)) || (x == 34 && (l.all plainP && l.any (isNote 16390))))) ∧ Below w.heap.size w w' := by
  have HBX := hidden ((Below.refl w.heap.size w).alloc (Nat.le_refl _) (.cells #[.int .u64 i, .int .u64 r, .int .i64 nx, .int .i64 x, .int .i64 f, .int .u32 m, .slice p n c] 32))
  have HCX : Hid (∀ j u, (#[Value.int .u64 i, .int .u64 r, .int .i64 nx, .int .i64 x, .int .i64 f, .int .u32 m, .slice p n c] : Array Value)[j]? = some u → (w.alloc (.cells #[.int .u64 i, .int .u64 r, .int .i64 nx, .int .i64 x, .int .i64 f, .int .u32 m, .slice p n c] 32)).cell? ⟨w.heap.size, j, none⟩ = some u) := fun j u hj => by
    rw [World.cell?_alloc_at _ _ _ _ rfl]
    simpa using hj
  have HA := hidden (fun W (hW : Below w.heap.size w W) => asksCookie_any i r nx x f m p n c l W (h.below hW) hn)
  have HND := hidden (needed_any i r nx x f m (w.alloc (.cells #[.int .u64 i, .int .u64 r, .int .i64 nx, .int .i64 x, .int .i64 f, .int .u32 m, .slice p n c] 32)) hx)
  have HLI := hidden (needL_int x (bits BinOp.and IntKind.i64 f 32 == 0))
  have HFN := hidden hF
  obtain ⟨A, hA⟩ : ∃ A, (l.all plainP && l.any (isNote 16390)) = A := ⟨_, rfl⟩
  rw [hA] at HA ⊢
  generalize needL x (bits BinOp.and IntKind.i64 f 32 == 0) = L at HND HLI ⊢
  obtain ⟨R, hR⟩ : ∃ R, (L.all (fun k => decide (k ∈ ts)) || (x == 34 && A)) = R := ⟨_, rfl⟩
  have HR : Is ((L.drop 0).all (fun k => decide (k ∈ ts)) || (x == 34 && A)) R := ⟨by simpa using hR⟩
  rw [hR]
  clear hR h hA hx hF
  go_enter Try.func14, Try.ntmps14
  go_wp2_with (first
    | (go_at_call 22; (with_reducible refine (HND.out).mono ?_); rintro _ w1 ⟨v, rfl, ⟨p1, n1, c1, rfl, hn1, hm1, hmem⟩, hb1⟩; have HB1 := hidden (HBX.out.trans (hb1.mono HBX.out.size)); have HC1 := hidden (cell_below hb1); have HMM := hidden hmem; have HL1 := Is.mk hn1; clear hb1 hmem hn1)
    | fail)
  go_loopw [11] (fun v wr => ∃ (j : Nat), j ≤ n1 ∧ v = .int .i64 j ∧ Is ((L.drop j).all (fun k => decide (k ∈ ts)) || (x == 34 && A)) R ∧ wr = w1) (fun v _ => n1 - (intOf v).toNat)
  case atStart => exact ⟨0, by omega, rfl, HR, rfl⟩
  case round =>
    obtain ⟨j, hj, rfl, hrel, rfl⟩ := hrel
    have HB := HB1
    have m0 := HC1.out _ _ (HCX.out 0 _ rfl)
    have m1 := HC1.out _ _ (HCX.out 1 _ rfl)
    have m2 := HC1.out _ _ (HCX.out 2 _ rfl)
    have m3 := HC1.out _ _ (HCX.out 3 _ rfl)
    have m4 := HC1.out _ _ (HCX.out 4 _ rfl)
    have m5 := HC1.out _ _ (HCX.out 5 _ rfl)
    have m6 := HC1.out _ _ (HCX.out 6 _ rfl)
    by_cases hlt : j < n1
    · have hlt' : (j : Int) < n1 := by omega
      obtain ⟨g, rfl, hcc⟩ := HMM.out (by omega)
      have hl : j < L.length := by rw [← HL1.eq]; exact hlt
      have hcj := hcc j L[j] (List.getElem?_eq_getElem hl)
      have hlk := (HFN.out.below HB.out).look L[j] (HLI.out _ (List.getElem_mem hl))
      have hf := hrel.eq
      rw [List.drop_eq_getElem_cons hl, List.all_cons] at hf
      generalize L[j] = k at hcj hlk hf
      generalize decide (k ∈ ts) = z at hlk hf
      clear hcc hrel hl
      cases z with
      | true =>
        have HT : Is ((L.drop (j + 1)).all (fun k => decide (k ∈ ts)) || (x == 34 && A)) R := ⟨by simpa using hf⟩
        clear hf
        go_wp2
        go_roundw
        case rel => exact ⟨j + 1, by omega, by go_num, HT, by first | rfl | trivial⟩
        case measure => simp [intOf]; omega
      | false =>
        have HT : Is (x == 34 && A) R := ⟨by simpa using hf⟩
        clear hf
        cases hq : (x == 34) with
        | true =>
          rw [hq] at HT
          go_wp2_with (first
            | (go_at_call 23; (with_reducible refine (HA.out _ HB.out).mono ?_); rintro _ w2 ⟨rfl, hb2⟩; have HB2 := hidden (HB.out.trans (hb2.mono HB.out.size)); clear hb2)
            | fail)
          go_ret
          exact ⟨by rw [← HT.eq]; rfl, HB2.out⟩
        | false =>
          rw [hq] at HT
          go_wp2
          go_ret
          exact ⟨by rw [← HT.eq]; rfl, HB.out⟩
    · have hlt' : ¬ (j : Int) < n1 := by omega
      have hd : L.drop j = [] := List.drop_eq_nil_of_le (by rw [← HL1.eq]; omega)
      have hf := hrel.eq
      rw [hd, List.all_nil, Bool.true_or] at hf
      have HF := Is.mk hf
      clear hf hd hrel
      go_wp2
      go_ret
      exact ⟨by rw [← HF.eq]; rfl, HB.out⟩
end Go.Proofs.Ytnnbfhjbaagnkaa
