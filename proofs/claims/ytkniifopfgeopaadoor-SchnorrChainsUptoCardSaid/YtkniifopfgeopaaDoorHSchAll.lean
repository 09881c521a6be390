/-
  Chain and Encode of up to seven certificates, on both sides alike; what the law keeps of its lists.
-/
import Derived.Test.YtkniifopfgeopaaDoorHSchSpo
import Derived.Test.YtkniifopfgeopaaDoorHRSchChainG
namespace Go.Proofs.YtkniifopfgeopaaDoor
open Go.RowKit
set_option linter.unusedVariables false

/-- What both Chains return. -/
def cF (L : List Ct) (now : Int) (key : Nat) : Int := if 6 < L.length then 10 else wkG L now L.length key
theorem chG_of {F : Int} {s : ByteArray} {k : Nat} {w : World} {e : Ending} {w' : World} (h : ((F = 0 ∧ e = .returned (.tuple #[.string s, .int .u64 (k : Int), .int .i64 0])) ∨ (F ≠ 0 ∧ e = .returned (.tuple #[.string ⟨#[]⟩, .int .u64 0, .int .i64 F]))) ∧ Below w.heap.size w w') : ChG F s k w e w' := h
/-- The three values. -/
theorem chG_vals (F : Int) (s : ByteArray) (k : Nat) : ∃ (s' : ByteArray) (k' : Int) (F' : Int), ∀ w e w', ChG F s k w e w' → e = .returned (.tuple #[.string s', .int .u64 k', .int .i64 F']) ∧ Below w.heap.size w w' := by
  by_cases h : F = 0
  · exact ⟨s, k, 0, fun w e w' ⟨h1, h2⟩ => ⟨h1.elim (fun h3 => h3.2) (fun h3 => absurd h h3.1), h2⟩⟩
  · exact ⟨⟨#[]⟩, 0, F, fun w e w' ⟨h1, h2⟩ => ⟨h1.elim (fun h3 => absurd h3.1 h) (fun h3 => h3.2), h2⟩⟩
theorem chain_all (L : List Ct) (g n c : Nat) (hn1 : 1 ≤ n) (hL : ∀ x ∈ L, CtV x) (now : Int) (key : Nat) (hk : key < 18446744073709551616) (w : World) (hr : RdG KCt DCt w (some ⟨g, 0, none⟩) n c L) (hK : KAt w) :
    Calls Tryd.prog 11 #[.slice (some ⟨g, 0, none⟩) n c, .int .u64 (key : Int), .int .i64 now] w (ChG (cF L now key) (L.getD 0 zc).s (L.getD 0 zc).k w) := by
  have hl := hr.len
  have hc := hr.le
  unfold cF
  by_cases h6 : n ≤ 6
  · rw [if_neg (by omega), hl]
    exact (chain_gen L g n c hn1 h6 hL now key hk w hr hK).mono (fun e w' h => chG_of h)
  · rw [if_pos (by omega)]
    refine Calls.mono (P := Tryd.prog) (R := fun e w' => e = .returned (.tuple #[.string ⟨#[]⟩, .int .u64 0, .int .i64 10]) ∧ w = w') ?_ (fun e w' h => ⟨Or.inr ⟨by decide, h.1⟩, by rw [← h.2]; exact Below.refl _ _⟩)
    have h0 : ¬ (n : Int) = 0 := by omega
    have h7 : (6 : Int) < (n : Int) := by omega
    clear hr hK hL hl
    go_enter Tryd.func11, Tryd.ntmps11
    go_wp2
    go_ret3
    exact ⟨rfl, rfl⟩
theorem rchain_all (L : List Ct) (g n c : Nat) (hn1 : 1 ≤ n) (hL : ∀ x ∈ L, CtV x) (now : Int) (key : Nat) (hk : key < 18446744073709551616) (w : World) (hr : RdG KCt DCt w (some ⟨g, 0, none⟩) n c L) :
    Calls Tryd.prog 12 #[.slice (some ⟨g, 0, none⟩) n c, .int .u64 (key : Int), .int .i64 now] w (ChG (cF L now key) (L.getD 0 zc).s (L.getD 0 zc).k w) := by
  have hl := hr.len
  have hc := hr.le
  unfold cF
  by_cases h6 : n ≤ 6
  · rw [if_neg (by omega), hl]
    exact rchain_gen L g n c hn1 h6 hL now key hk w hr
  · rw [if_pos (by omega)]
    refine Calls.mono (P := Tryd.prog) (R := fun e w' => e = .returned (.tuple #[.string ⟨#[]⟩, .int .u64 0, .int .i64 10]) ∧ w = w') ?_ (fun e w' h => ⟨Or.inr ⟨by decide, h.1⟩, by rw [← h.2]; exact Below.refl _ _⟩)
    have h0 : ¬ (n : Int) = 0 := by omega
    have h7 : (6 : Int) < (n : Int) := by omega
    clear hr hL hl
    go_enter Tryd.func12, Tryd.ntmps12
    go_wp2
    go_ret3
    exact ⟨rfl, rfl⟩
/-- What both Encodes return. -/
def eF (L : List Ct) : Int := if 6 < L.length then 10 else encF L
theorem enc_all (L : List Ct) (g n c : Nat) (hL : ∀ x ∈ L, CtV x) (w : World) (hr : RdG KCt DCt w (some ⟨g, 0, none⟩) n c L) :
    Calls Tryd.prog 13 #[.slice (some ⟨g, 0, none⟩) n c] w (EncG (eF L) L w) := by
  have hl := hr.len
  have hc := hr.le
  unfold eF
  by_cases h6 : n ≤ 6
  · rw [if_neg (by omega)]
    exact enc_gen L g n c h6 hL w hr
  · rw [if_pos (by omega)]
    refine Calls.mono (P := Tryd.prog) (R := fun e w' => e = .returned (.tuple #[.slice none 0 0, .int .i64 10]) ∧ w = w') ?_ (fun e w' h => by obtain ⟨rfl, rfl⟩ := h; exact encG_no rfl (by decide) (Below.refl _ _))
    have h7 : (6 : Int) < (n : Int) := by omega
    clear hr hL hl
    go_enter Tryd.func13, Tryd.ntmps13
    go_wp2
    go_ret2
    exact ⟨rfl, rfl⟩
theorem encF_len (L : List Ct) (hv : ∀ x ∈ L, CtV x) (h : encF L = 0) : (encL L).length ≤ 50 * L.length := by
  induction L with
  | nil => simp [encL]
  | cons x t ih =>
    unfold encF at h
    by_cases h1 : bodyE x = 0
    · rw [if_pos h1] at h
      by_cases h2 : x.g.length = 16
      · rw [if_pos h2] at h
        have h3 := ih (fun y hy => hv y (List.mem_cons_of_mem _ hy)) h
        have h4 := (bodyE_ok (hv x (by simp)) h1).nm.le
        rw [encL_cons, List.length_append, List.length_append, bdL_len, List.length_cons]
        omega
      · rw [if_neg h2] at h
        exact absurd h (by decide)
    · rw [if_neg h1] at h
      exact absurd h h1
theorem eF_len (L : List Ct) (hv : ∀ x ∈ L, CtV x) : (if eF L = 0 then encL L else []).length ≤ 300 := by
  by_cases h : eF L = 0
  · rw [if_pos h]
    unfold eF at h
    by_cases h6 : 6 < L.length
    · rw [if_pos h6] at h; exact absurd h (by decide)
    · rw [if_neg h6] at h
      have := encF_len L hv h
      omega
  · rw [if_neg h]; simp
/-- A list of the law's. -/
structure ChI (U : World) (B0 g n c : Nat) (L : List Ct) : Prop where
  row : RowG KCt NTc U B0 (.slice (some ⟨g, 0, none⟩) n c) L
  len : L.length = n
  n1 : 1 ≤ n
  n7 : n ≤ 7
  bod : ∀ x ∈ L, Bod U B0 x.p x.n x.c x.g
  val : ∀ x ∈ L, CtV x
  ln : ∀ x ∈ L, x.n ≤ 8000
section
variable {W w U U' : World} {k g n c B0 M : Nat} {L : List Ct}
theorem ChI.grown (h : ChI U B0 g n c L) (hk : k < B0) (hg : U.grownBy U' (some k)) : ChI U' B0 g n c L :=
  ⟨h.row.low hg hk, h.len, h.n1, h.n7, fun x hx => (h.bod x hx).grown hg (OffB.low hk), h.val, h.ln⟩
theorem ChI.below (h : ChI U B0 g n c L) (hb : Below U.heap.size U U') : ChI U' B0 g n c L :=
  ⟨h.row.below hb, h.len, h.n1, h.n7, fun x hx => (h.bod x hx).below hb, h.val, h.ln⟩
theorem ChI.rd (h : ChI U B0 g n c L) : RdG KCt DCt U (some ⟨g, 0, none⟩) n c L := by
  obtain ⟨g', c', e, h1, h2, _, _, hc, _⟩ := h.row.at_ h.len h.n1
  cases e
  exact ⟨h.len, h1, h2, fun _ => ⟨g, rfl, hc⟩, fun x hx => (h.bod x hx).byt⟩
theorem ChI.of (h : SpI W w U k g n c B0 M L) (h1 : 1 ≤ n) (h7 : n ≤ 7) (hw : B0 ≤ w.heap.size) (hM : M ≤ 8000) : ChI U B0 g n c L :=
  ⟨h.row.mono hw, h.len, h1, h7, h.bod, h.val, fun x hx => Nat.le_trans (h.ln x hx) hM⟩
theorem ChI.src (h : ChI U B0 g n c L) : SrcG KCt U (some ⟨g, 0, none⟩) n L := h.rd.src
end
/-- The drawn list is such a list. -/
theorem ChI.drawn {U : World} {B0 g n : Nat} {L : List Ct} (h : RwE U g L) (hl : L.length = n) (h1 : 1 ≤ n) (h7 : n ≤ 7) (hg : B0 ≤ g) (hb : ∀ x ∈ L, Bod U B0 x.p x.n x.c x.g) (hs : ∀ x ∈ L, CtG x) : ChI U B0 g n n L :=
  ⟨⟨⟨by rw [KCt.row_len], Or.inr ⟨g, n, _, by rw [hl], hg, h.heap, by omega, by unfold maxLen; omega, by rw [List.size_toArray, KCt.row_len, hl], by rw [List.take_of_length_le (by rw [KCt.row_len]; exact Nat.le_refl _)]⟩⟩, fun x hx => trivial⟩, hl, h1, h7, hb,
    fun x hx => (by have h9 := hs x hx; have a1 := h9.ok.nm.le; have a2 := h9.f0; have a3 := h9.t0; exact ⟨by omega, h9.ok.kl, by omega, by omega⟩), fun x hx => (by have h9 := (hb x hx).byt.len; have := (hs x hx).gl; omega)⟩
/-- The law's three lists lie in this block. -/
def LstAt (U : World) (B0 B : Nat) : Prop := ∀ m, m < 3 → ∃ g n c L, U.cell? ⟨B, m, none⟩ = some (.slice (some ⟨g, 0, none⟩) n c) ∧ ChI U B0 g n c L
theorem LstAt.grown {U U' : World} {B0 B k : Nat} (h : LstAt U B0 B) (hk : k < B0) (hB : B0 ≤ B) (hg : U.grownBy U' (some k)) : LstAt U' B0 B := fun m hm => by
  obtain ⟨g, n, c, L, h1, h2⟩ := h m hm
  exact ⟨g, n, c, L, hg.cell h1 (by simp; omega), h2.grown hk hg⟩
theorem LstAt.below {U U' : World} {B0 B : Nat} (h : LstAt U B0 B) (hb : Below U.heap.size U U') : LstAt U' B0 B := fun m hm => by
  obtain ⟨g, n, c, L, h1, h2⟩ := h m hm
  exact ⟨g, n, c, L, cell_below hb _ _ h1, h2.below hb⟩
end Go.Proofs.YtkniifopfgeopaaDoor
