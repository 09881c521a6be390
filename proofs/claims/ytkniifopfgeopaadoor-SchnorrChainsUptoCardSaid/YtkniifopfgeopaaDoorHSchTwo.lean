/-
  Issue and Decode on both sides, told alike.
-/
import Derived.Test.YtkniifopfgeopaaDoorHRSchEncB
namespace Go.Proofs.YtkniifopfgeopaaDoor
open Go.RowKit
set_option linter.unusedVariables false

/-- A certificate and an error are returned. -/
def IssV (s : ByteArray) (k : Nat) (f t : Int) (a : Bool) (gl : List Int) (E : Int) (w : World) (e : Ending) (w' : World) : Prop :=
  ∃ p n c, e = .returned (.tuple #[.agg #[.string s, .int .u64 (k : Int), .int .i64 f, .int .i64 t, .bool a, .slice p n c], .int .i64 E]) ∧ Byt w' p n c gl ∧ Below w.heap.size w w'
theorem iss_both (x : Ct) (v : CtV x) (sk : Nat) (h1 : 1 ≤ sk) (h2 : sk < gq) : ∃ s k f t a gl E,
    (∀ w, KAt w → Calls Tryd.prog 20 #[.agg #[.string x.s, .int .u64 (x.k : Int), .int .i64 x.f, .int .i64 x.t, .bool x.a, .slice x.p x.n x.c], .int .u64 (sk : Int)] w (IssV s k f t a gl E w)) ∧
    (∀ w, Calls Tryd.prog 21 #[.agg #[.string x.s, .int .u64 (x.k : Int), .int .i64 x.f, .int .i64 x.t, .bool x.a, .slice x.p x.n x.c], .int .u64 (sk : Int)] w (IssV s k f t a gl E w)) := by
  by_cases h0 : bodyE x = 0
  · refine ⟨x.s, x.k, x.f, x.t, x.a, sigL sk (bdL x), 0, fun w hK => ?_, fun w => ?_⟩
    · exact (sissue_ok x (bodyE_ok v h0) sk h1 h2 w hK).mono (fun e w' ⟨p, n, c, he, hy, hb⟩ => ⟨p, n, c, he, hy, hb⟩)
    · exact (rissue_ok x (bodyE_ok v h0) sk h1 h2 w).mono (fun e w' ⟨p, n, c, he, hy, hb⟩ => ⟨p, n, c, he, hy.byt, hb⟩)
  · refine ⟨⟨#[]⟩, 0, 0, 0, false, [], bodyE x, fun w hK => ?_, fun w => ?_⟩
    · exact (sissue_no x v h0 sk w).mono (fun e w' ⟨he, hb⟩ => ⟨none, 0, 0, he, Byt.nil _ _ _ (Nat.zero_le _), hb⟩)
    · exact (rissue_no x v h0 sk w).mono (fun e w' ⟨he, hb⟩ => ⟨none, 0, 0, he, Byt.nil _ _ _ (Nat.zero_le _), hb⟩)
/-- A list of certificates and an error are returned. -/
def DecV (Lz : List Ct) (E : Int) (w : World) (e : Ending) (w' : World) : Prop :=
  ∃ p c ls, e = .returned (.tuple #[.slice p Lz.length c, .int .i64 E]) ∧ RdG KCt DCt w' p Lz.length c ls ∧ ls.map Ct.z = Lz ∧ Below w.heap.size w w'
theorem dec_both (T : Option (List Ct)) : ∃ Lz E, Lz.length ≤ 1000 ∧ ∀ w e w', DecX T w e w' → DecV Lz E w e w' := by
  have nilV : ∀ (E : Int) (w w' : World) (e : Ending), e = .returned (.tuple #[.slice none 0 0, .int .i64 E]) → Below w.heap.size w w' → DecV [] E w e w' := fun E w w' e he hb =>
    ⟨none, 0, [], he, ⟨rfl, Nat.le_refl _, by unfold maxLen; omega, fun h => by simp at h, fun x hx => by cases hx⟩, rfl, hb⟩
  cases T with
  | none =>
    refine ⟨[], 4, by simp, fun w e w' ⟨h, hb⟩ => ?_⟩
    rcases h with ⟨-, he⟩ | ⟨L, h1, _⟩ | ⟨L, v, ls, h1, _⟩
    · exact nilV 4 w w' e he hb
    · cases h1
    · cases h1
  | some L =>
    by_cases h6 : 6 < L.length
    · refine ⟨[], 10, by simp, fun w e w' ⟨h, hb⟩ => ?_⟩
      rcases h with ⟨h1, _⟩ | ⟨L', h1, h2, he⟩ | ⟨L', v, ls, h1, h2, _⟩
      · cases h1
      · exact nilV 10 w w' e he hb
      · cases h1; omega
    · refine ⟨L, 0, by omega, fun w e w' ⟨h, hb⟩ => ?_⟩
      rcases h with ⟨h1, _⟩ | ⟨L', h1, h2, he⟩ | ⟨L', v, ls, h1, h2, he, hr, hz⟩
      · cases h1
      · cases h1; omega
      · cases h1
        have hl : ls.length = L.length := by rw [← hz, List.length_map]
        obtain ⟨p, c, rfl, hrd⟩ := hr.rd (D := DCt) hl (fun x hx => hx.byt)
        exact ⟨p, c, ls, he, hrd, hz, hb⟩
end Go.Proofs.YtkniifopfgeopaaDoor
