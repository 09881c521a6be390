/-
  Package payload's readers of nonces and of identities, and the first errors that they tell.
-/
import Derived.Test.YtignenekomlleaaPaySplit
import Derived.Test.YtignenekomlleaaPayVal
import Derived.Test.YtignenekomlleaaSelBytes
namespace Go.Proofs.Ytignenekomlleaa
open Go.RowKit
set_option linter.unusedVariables false

/-- What a reader of bodies returns: a payload and an error. -/
def ReadP (w : World) (E : Int) (good : World → Pv → Prop) (e : Ending) (w' : World) : Prop := ∃ x : Pv, e = .returned (.tuple #[(.agg #[.int .i64 x.t, .slice x.pr.p x.pr.n x.pr.c, .int .i64 x.eg, .slice x.ed.p x.ed.n x.ed.c, .int .i64 x.ik, .slice x.id.p x.id.n x.id.c, .int .i64 x.am, .slice x.ad.p x.ad.n x.ad.c, .int .i64 x.np, .slice x.ns.p x.ns.n x.ns.c, .int .i64 x.nt, .slice x.nd.p x.nd.n x.nd.c, .int .i64 x.dp, .slice x.ds.p x.ds.n x.ds.c, .slice x.se.p x.se.n x.se.c, .slice x.da.p x.da.n x.da.c]), .int .i64 E]) ∧ Below w.heap.size w w' ∧ (E = 0 → good w' x)
/-- Bytes in a slice of a payload, fresh from base on. -/
def FrV (w : World) (base : Nat) (s : Sv) (xs : List Int) : Prop := Frs w base s.p s.n s.c xs

def nonceE (n : Nat) : Int := if n < 16 ∨ 256 < n then 13 else 0
theorem checkNonce_any (p : Option Addr) (n c : Nat) (w : World) (hn : n ≤ 9223372036854775807) :
    Calls Try.prog 104 #[.slice p n c] w fun e w' => e = .returned (.int .i64 (nonceE n)) ∧ w = w' := by
  unfold nonceE
  by_cases h1 : n < 16
  · rw [if_pos (Or.inl h1)]
    go_enter Try.func104, Try.ntmps104
    go_wp2
    go_ret
    exact ⟨rfl, rfl⟩
  by_cases h2 : 256 < n
  · rw [if_pos (Or.inr h2)]
    go_enter Try.func104, Try.ntmps104
    go_wp2
    go_ret
    exact ⟨rfl, rfl⟩
  · rw [if_neg (by omega)]
    go_enter Try.func104, Try.ntmps104
    go_wp2
    go_ret
    exact ⟨rfl, rfl⟩

set_option maxHeartbeats 800000 in
set_option maxRecDepth 100000 in
theorem nonce_read (p : Option Addr) (n c : Nat) (xs : List Int) (w : World) (h : Byt w p n c xs) (hb : n ≤ 140737488355328) :
    Calls Try.prog 80 #[.slice p n c] w (ReadP w (nonceE n) fun w' x => FrV w' w.heap.size x.da xs) := by
  have hn := h.le
  have H1 := hidden (h.alloc (.cells #[.int .i64 0, .slice none 0 0, .int .i64 0, .slice none 0 0, .int .i64 0, .slice none 0 0, .int .i64 0, .slice none 0 0, .int .i64 0, .slice none 0 0, .int .i64 0, .slice none 0 0, .int .i64 0, .slice none 0 0, .slice none 0 0, .slice none 0 0] 68))
  have HB := hidden ((Below.refl w.heap.size w).alloc (Nat.le_refl _) (.cells #[.int .i64 0, .slice none 0 0, .int .i64 0, .slice none 0 0, .int .i64 0, .slice none 0 0, .int .i64 0, .slice none 0 0, .int .i64 0, .slice none 0 0, .int .i64 0, .slice none 0 0, .int .i64 0, .slice none 0 0, .slice none 0 0, .slice none 0 0] 68))
  have HZ : Hid (PvIn (w.alloc (.cells #[.int .i64 0, .slice none 0 0, .int .i64 0, .slice none 0 0, .int .i64 0, .slice none 0 0, .int .i64 0, .slice none 0 0, .int .i64 0, .slice none 0 0, .int .i64 0, .slice none 0 0, .int .i64 0, .slice none 0 0, .slice none 0 0, .slice none 0 0] 68)) w.heap.size zeroP) := hidden (PvIn.new w zeroP 68)
  have HL := hidden h.len
  have HR := hidden h.rng
  clear h
  go_enter Try.func80, Try.ntmps80
  go_wp2_with (first
    | (go_at_call 110; (with_reducible refine (cloneB_any _ _ _ _ _ H1.out hb).mono ?_); rintro e w2 ⟨v2, rfl, ho, hbc⟩; obtain ⟨q2, d2, rfl, hf0⟩ := ho.frs HL.out HR.out; have HF0 := hidden hf0; have HB2 := hidden (HB.out.trans (hbc.mono HB.out.size)); have HZ2 := hidden (HZ.out.below hbc); obtain ⟨z0, z1, z2, z3, z4, z5, z6, z7, z8, z9, z10, z11, z12, z13, z14, z15, zf⟩ := HZ2.out; clear ho hbc hf0)
    | (go_at_call 104; (with_reducible refine (checkNonce_any _ _ _ _ (by omega)).mono ?_); rintro e w3 ⟨rfl, rfl⟩)
    | fail)
  have hlo := setPv_grown w2 w.heap.size ⟨0, nilV, 0, nilV, 0, nilV, 0, nilV, 0, nilV, 0, nilV, 0, nilV, nilV, ⟨q2, n, d2⟩⟩
  have hz := setPv_in HZ2.out ⟨0, nilV, 0, nilV, 0, nilV, 0, nilV, 0, nilV, 0, nilV, 0, nilV, nilV, ⟨q2, n, d2⟩⟩
  have hfl := (HF0.out.low hlo (by simp)).mono (show w.heap.size ≤ _ from HB.out.size)
  have HBS := hidden (HB2.out.grown hlo HB2.out.size (fun j hj => by cases hj; exact Nat.le_refl _))
  simp only [setPv, nilV] at hz hfl HBS
  have HZZ := hidden hz
  have HFF := hidden hfl
  clear hz hfl hlo
  refine ret_pv (g := w.heap.size) rfl rfl rfl rfl HZZ.out ?_
  exact ⟨_, rfl, HBS.out, fun _ => HFF.out⟩

def idE (k : Int) (n : Nat) : Int := if k = 1 then (if n = 4 then 0 else 2) else if k = 5 then (if n = 16 then 0 else 2) else if k = 2 ∨ k = 3 ∨ k = 11 then (if n = 0 then 2 else 0) else 5
theorem idE_cases (k : Int) (n : Nat) (E : Int) (h : idE k n = E) :
    (k = 1 ∧ ((n = 4 ∧ E = 0) ∨ (¬ n = 4 ∧ E = 2))) ∨ ((k == 1) = false ∧ k = 5 ∧ ((n = 16 ∧ E = 0) ∨ (¬ n = 16 ∧ E = 2))) ∨
    ((k == 1) = false ∧ (k == 5) = false ∧ (k = 2 ∨ k = 3 ∨ k = 11) ∧ ((n = 0 ∧ E = 2) ∨ (¬ n = 0 ∧ E = 0))) ∨
    ((k == 1) = false ∧ (k == 5) = false ∧ (k == 2) = false ∧ (k == 3) = false ∧ (k == 11) = false ∧ E = 5) := by
  unfold idE at h
  subst h
  by_cases h1 : k = 1
  · subst h1
    by_cases h : n = 4 <;> simp [h]
  by_cases h2 : k = 5
  · subst h2
    by_cases h : n = 16 <;> simp [h]
  by_cases h3 : k = 2 ∨ k = 3 ∨ k = 11
  · by_cases h : n = 0 <;> simp [h1, h2, h3, h]
  · simp [h1, h2]
    simp only [not_or] at h3
    simp [h3]
set_option maxHeartbeats 800000 in
theorem checkIdentity_any (k : Int) (p : Option Addr) (n c : Nat) (w : World) (hn : n ≤ 9223372036854775807) (E : Int) (hE : idE k n = E) :
    Calls Try.prog 102 #[.agg #[.int .i64 k, .slice p n c]] w fun e w' => e = .returned (.int .i64 E) ∧ Below w.heap.size w w' := by
  have HB := hidden ((Below.refl w.heap.size w).alloc (Nat.le_refl _) (.cells #[.int .i64 k, .slice p n c] 60))
  rcases idE_cases k n E hE with ⟨rfl, ⟨h, rfl⟩ | ⟨h, rfl⟩⟩ | ⟨k1, rfl, ⟨h, rfl⟩ | ⟨h, rfl⟩⟩ | ⟨k1, k2, k3, ⟨h, rfl⟩ | ⟨h, rfl⟩⟩ | ⟨k1, k2, k3, k4, k5, rfl⟩
  all_goals clear hE
  all_goals (try rcases k3 with rfl | rfl | rfl)
  all_goals (try subst h)
  all_goals (try have hge : (1 : Int) ≤ n := (by omega))
  all_goals (try have hz : ((n : Int) == 4) = false := (by simp; omega))
  all_goals (try have hz2 : ((n : Int) == 16) = false := (by simp; omega))
  all_goals (try clear h)
  all_goals
    go_enter Try.func102, Try.ntmps102
    go_wp2
    go_ret
    exact ⟨rfl, HB.out⟩
end Go.Proofs.Ytignenekomlleaa
