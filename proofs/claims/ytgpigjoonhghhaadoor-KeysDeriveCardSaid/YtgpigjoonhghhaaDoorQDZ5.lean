/-
  A list of choices: some bytes.
  A list of choices: some bytes, as a row of the call's own.
  append(v, make([]byte, z)...) on a row of the call's own that may be nil: z zeros more.
-/
import Derived.Test.YtgpigjoonhghhaaDoorQDZ3
import Derived.Test.YtgpigjoonhghhaaDoorQDZ0
import Derived.Test.YtgpigjoonhghhaaDoorQDZeros
import Derived.Test.YtgpigjoonhghhaaDoorQDOwnB
import Derived.Test.YtgpigjoonhghhaaDoorQDConcat
namespace Go.Proofs.YtgpigjoonhghhaaDoor
open Go.RowKit
set_option linter.unusedVariables false
theorem Own.kept_row {w w' : World} {base : Nat} {e : TypeId} {v : Value} {xs : List Int} {k : Nat} (h : Own w base e v xs) (hg : w.grownBy w' (some k)) (hk : k < base) : Own w' base e v xs :=
  World.ownsRow.kept h hg (by
    rcases hv : v.ownBlock with _ | b
    · exact Or.inl rfl
    · have := (h.lt b hv).1
      exact Or.inr (by simp; omega))
end Go.Proofs.YtgpigjoonhghhaaDoor

namespace Go.Proofs.YtgpigjoonhghhaaDoor
open Go.RowKit
set_option linter.unusedVariables false
set_option maxHeartbeats 800000 in
theorem mbytes_ownC (W w : World) (k : Nat) (h : Cod W w k) (n : Nat) (hn : n ≤ 100000) :
    Calls Tryd.prog 28 #[.pointer (some ⟨k, 0, none⟩), .int .i64 n] w fun e w' => ∃ v ys, e = .returned v ∧ ys.length = n ∧ (∀ x ∈ ys, 0 ≤ x ∧ x ≤ 255) ∧ Own w' w.heap.size 5 v ys ∧ Cod W w' k ∧ w.grownBy w' (some k) := by
  obtain ⟨i0, hi, hz0, hz1, hz2⟩ := info_parts Tryd.infoByte
  have hk := h.lt
  have H := hidden h
  clear h
  go_enter Tryd.func28, Tryd.ntmps28
  go_wp2
  go_loopw [5, 6] (fun u i wr => ∃ j : Nat, j ≤ n ∧ i = .int .i64 j ∧ ∃ ys : List Int, ys.length = j ∧ (∀ x ∈ ys, 0 ≤ x ∧ x ≤ 255) ∧ Own wr w.heap.size 5 u ys ∧ Cod W wr k ∧ w.grownBy wr (some k)) (fun _ i _ => n - (intOf i).toNat)
  case atStart => exact ⟨0, by omega, rfl, [], rfl, by simp, Own.nil _ _ _, H.out, grown_refl _ _⟩
  case round =>
    obtain ⟨j, hj, rfl, ys, hl, hr, ho, hc, hg⟩ := hrel
    have HO := hidden ho
    have HR := hidden hr
    have HC := hidden hc
    have HG := hidden hg
    clear ho hr hc hg H
    by_cases hlt : j < n
    · go_wp2_with (go_at_call 29; refine (next_any W _ k HC.out _ ?_).mono ?_; omega)
      rintro e w2 ⟨r, rfl, r0, r1, hc, hg⟩
      have HO2 := hidden (HO.out.kept_row hg hk)
      have HC2 := hidden hc
      have HG2 := hidden (grown_trans HG.out hg)
      clear hc hg HO HC HG
      go_wp2_with (at_builtin; go_loud (refine wpList_append_byt _ rfl _ _ 22 rfl w.heap.size 5 i0 (.int .u8 0) Tryd.underlying22 hi hz0 hz1 hz2 rfl _ _ rfl (HO2.out.alloc _) _ _ _ _ _ rfl (one_byte _ _ ((r + j * 7) % 256) ?c0 ?c1) rfl ?c2 ?c3 ?_))
      case c0 => omega
      case c1 => rw [World.cell?_alloc_at _ _ _ _ rfl]; rfl
      case c2 => omega
      case c3 => have := HG2.out.size; simp; omega
      intro u w4 hown hg
      have HC4 := hidden ((HC2.out.alloc _).grown hg (fun e => by have := (HO2.out.lt k e.symm).1; omega) (fun j hj => by have := (HO2.out.lt j hj).1; have := HC2.out.bel.size; have := HC2.out.base; omega))
      have HG4 := hidden (grown_own (grown_alloc_new HG2.out _) hg (fun j hj => (HO2.out.lt j hj).1))
      have HO4 := hidden hown
      clear hown hg HO2 HC2 HG2
      go_wp2
      go_roundw
      case rel => exact ⟨j + 1, by omega, by go_num, _, by simp [hl], rng_append HR.out (by intro z hz; simp at hz; omega), HO4.out, HC4.out, HG4.out⟩
      case measure => simp [intOf]; omega
    · obtain rfl : j = n := by omega
      go_wp2
      go_ret
      exact ⟨_, ys, rfl, hl, HR.out, HO.out, HC.out, HG.out⟩
end Go.Proofs.YtgpigjoonhghhaaDoor

namespace Go.Proofs.YtgpigjoonhghhaaDoor
open Go.RowKit
set_option linter.unusedVariables false
section
variable {P : Program} {w : World}
theorem run_append_more (base : Nat) (t u ty e : TypeId) (i : TypeInfo) (ht : P.underlying t = some (.slice e)) (hu : P.underlying u = some (.int .i64)) (hi : P.info? e = some i) (hz : i.zero = some (.int .u8 0))
    (hsize : i.size = 1) (hby : i.bytes = 1) (v : Value) (xs : List Int) (hown : Own w base e v xs) (n : Nat) (hn0 : xs = [] → n ≠ 0) (hn : n ≤ 1000) (hN : xs.length ≤ 10000) (hbase : base ≤ w.heap.size) :
    ∃ v' w', (Builtin.append_ #[t, u] ty #[v, .int .i64 n]).run P w = .ok v' w' ∧ Own w' base e v' (xs ++ List.replicate n 0) ∧ w.grownBy w' v.ownBlock := by
  rcases hown.2 with ⟨rfl, h0⟩ | ⟨g, cap, cur, rfl, _⟩
  · obtain rfl : xs = [] := List.eq_nil_of_length_eq_zero h0
    obtain ⟨c, w', hr, h2, h3⟩ := run_append_nilz (P := P) w base t u ty e i ht hu hi hz hsize hby n (hn0 rfl) (by omega) hbase
    exact ⟨_, w', hr, by rw [List.nil_append]; exact h2, h3⟩
  · obtain ⟨v', w', hr, h2, h3⟩ := run_append_zeros (P := P) w base t u ty e i ht hu hi hz hsize hby g xs.length cap xs hown rfl n hn hN hbase
    exact ⟨v', w', hr, h2, h3⟩
theorem wpList_append_more {ops : Array Oper} {rest : List Oper} {o : Oper} {a : Act} {Q : Exit → Act → World → Prop} (hgd : o.guard = none) (s x : Operand) (t u : TypeId)
    (ho : o.op = .call { callee := .builtin .append, args := #[s, x], argTypes := #[t, u] })
    (base : Nat) (e : TypeId) (i : TypeInfo) (ht : P.underlying t = some (.slice e)) (hu : P.underlying u = some (.int .i64)) (hi : P.info? e = some i) (hz : i.zero = some (.int .u8 0))
    (hsize : i.size = 1) (hby : i.bytes = 1) (v : Value) (xs : List Int) (hs : a.eval s = v) (hown : Own w base e v xs) (z : Int) (n : Nat) (hx : a.eval x = .int .i64 z) (hzn : z = n)
    (hn0 : xs = [] → n ≠ 0) (hn : n ≤ 1000) (hN : xs.length ≤ 10000) (hbase : base ≤ w.heap.size) (R : List Int) (hR : xs ++ List.replicate n 0 = R)
    (h : ∀ v' w', Hid (Own w' base e v' R) → Hid (w.grownBy w' v.ownBlock) → wpList P ops Q rest (a.put o.dst v') w') : wpList P ops Q (o :: rest) a w := by
  subst hR
  refine wpList_plain hgd fun K hK => ?_
  subst hzn
  obtain ⟨v', w', hr, h2, h3⟩ := run_append_more (P := P) base t u o.type e i ht hu hi hz hsize hby v xs hown n hn0 hn hN hbase
  unfold Oper.wp execOp
  simp only [ho, resolve, invoke, builtin, Sem.run_bind, Sem.run_pure, Result.andThen_ok, List.map_toArray, List.map_cons, List.map_nil, hs, hx, hr]
  exact hK _ _ (h v' w' h2 h3)
end
end Go.Proofs.YtgpigjoonhghhaaDoor
