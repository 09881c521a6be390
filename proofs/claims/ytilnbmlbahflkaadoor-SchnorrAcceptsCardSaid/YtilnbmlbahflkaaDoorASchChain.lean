/-
  schnorr.Chain, and what walk says of a chain that was issued.
-/
import Derived.Test.YtilnbmlbahflkaaDoorASchWalk
namespace Go.Proofs.YtilnbmlbahflkaaDoor
open Go.RowKit
set_option linter.unusedVariables false

set_option maxHeartbeats 3200000 in
set_option maxRecDepth 100000 in
theorem chain_any (L : List Ct) (g n : Nat) (hl : L.length = n) (hn1 : 1 ≤ n) (hn6 : n ≤ 6) (hL : ∀ x ∈ L, CtOk x) (now : Int) (key : Nat) (hk : key < 18446744073709551616) (w : World) (hr : RwE w g L) (hb : ∀ x ∈ L, Byt w x.p x.n x.c x.g) (hK : KAt w) :
    Calls Tryd.prog 20 #[.slice (some ⟨g, 0, none⟩) n n, .int .u64 (key : Int), .int .i64 now] w fun e w' => ((wkE L now n key = 0 ∧ e = .returned (.tuple #[.string (L.getD 0 zc).s, .int .u64 ((L.getD 0 zc).k : Int), .int .i64 0])) ∨ (wkE L now n key ≠ 0 ∧ e = .returned (.tuple #[.string ⟨#[]⟩, .int .u64 0, .int .i64 (wkE L now n key)]))) ∧ Below w.heap.size w w' := by
  have HW := hidden (walk_any L g n hL now (by omega) n key (by omega) (by omega) hk w hr hb hK)
  generalize wkE L now n key = E at *
  have HAT := hidden (fun (W : World) (hW : Below w.heap.size w W) => (hr.below hW).at_ 0 (by omega))
  have hgl := hr.lt
  generalize L.getD 0 zc = x at *
  obtain ⟨s, k, f, t, a, p, m, d, gg⟩ := x
  clear hr hb hK hL
  have h0 : (0 : Int) < (n : Int) := by omega
  have h1 : ¬ (n : Int) = 0 := by omega
  have h6 : ¬ (6 : Int) < (n : Int) := by omega
  go_enter Tryd.func20, Tryd.ntmps20
  go_upto_region 6 with (first
    | (go_at_call 56; (with_reducible refine (HW.out).mono ?_); rintro e w2 ⟨rfl, hb2⟩; have HB2 := hidden hb2; clear hb2 HW)
    | fail)
  by_cases hE1 : E = 0
  · subst hE1
    obtain ⟨c0, c1, c2, c3, c4, c5⟩ := HAT.out w2 HB2.out
    simp only [Nat.zero_mul, Nat.zero_add] at c0 c1
    clear HAT c2 c3 c4 c5
    go_wp2
    go_region
    go_wp2
    go_ret3
    refine ⟨rfl, ?_⟩
    first
      | exact HB2.out
      | exact HB2.out.drew
  · clear HAT
    go_wp2
    go_ret3
    exact ⟨Or.inr ⟨hE1, rfl⟩, HB2.out⟩
/-- A chain that was issued is right while all its certificates are. -/
theorem wk_good (A : Nat) (L : List Ct) (now : Int) (h1 : 10 ≤ now) (h2 : now < 20) (hs : ∀ j, SigAt A L j) : ∀ n, n ≤ L.length → wkE L now n (keyAt A L n) = 0 := by
  intro n
  induction n with
  | zero => intro _; rfl
  | succ n ih =>
    intro hn
    have hx : L[n]? = some L[n] := List.getElem?_eq_getElem (by omega)
    obtain ⟨hg, ha, hv⟩ := hs n _ hx
    have e1 : L.getD n zc = L[n] := by rw [List.getD_eq_getElem?_getD, hx]; rfl
    have e2 : (L.getD n zc).k = keyAt A L n := by rw [e1, keyAt_in A L n (by omega)]
    unfold wkE
    rw [e2, ih (by omega), if_pos rfl, e1]
    unfold ckE
    rw [if_neg, if_neg]
    · exact hv
    · have := hg.f0; have := hg.t0; omega
    · intro h
      simp only [Bool.and_eq_true, decide_eq_true_eq, Bool.not_eq_true'] at h
      rw [ha h.1] at h
      exact absurd h.2 (by decide)
/-- It is not when their times are over. -/
theorem wk_late (A : Nat) (L : List Ct) (now : Int) (h1 : 80 ≤ now) (hs : ∀ j, SigAt A L j) : ∀ n key, 1 ≤ n → n ≤ L.length → wkE L now n key = 19 := by
  intro n
  induction n with
  | zero => intro _ h; omega
  | succ n ih =>
    intro key _ hn
    have hx : L[n]? = some L[n] := List.getElem?_eq_getElem (by omega)
    obtain ⟨hg, ha, hv⟩ := hs n _ hx
    have e1 : L.getD n zc = L[n] := by rw [List.getD_eq_getElem?_getD, hx]; rfl
    unfold wkE
    by_cases hn0 : n = 0
    · subst hn0
      have e3 : wkE L now 0 (L.getD 0 zc).k = 0 := rfl
      rw [e3, if_pos rfl, e1]
      unfold ckE
      rw [if_neg (by simp), if_pos (by have := hg.t0; omega)]
    · rw [ih _ (by omega) (by omega), if_neg (by decide)]
end Go.Proofs.YtilnbmlbahflkaaDoor
