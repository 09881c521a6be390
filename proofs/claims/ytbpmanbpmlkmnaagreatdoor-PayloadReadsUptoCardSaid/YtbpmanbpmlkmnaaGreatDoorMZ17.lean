/-
  The bodies of payloads, as functions: what is written is read again, and what is read is written with as many bytes.
  What the law PayloadReturns uses: drawn payloads are written; the twelve kinds at once.
  The document's own body of a payload whose numbers fit: all types but deletions.
  The document's own writer of deletions: removal.
  Package payload's Parse at any type.
-/
import Derived.Test.YtbpmanbpmlkmnaaGreatDoorMZ16
import Derived.Test.YtbpmanbpmlkmnaaGreatDoorMPayMk
import Derived.Test.YtbpmanbpmlkmnaaGreatDoorMZ19
import Derived.Test.YtbpmanbpmlkmnaaGreatDoorMZ14
import Derived.Test.YtbpmanbpmlkmnaaGreatDoorMRBuild4
import Derived.Test.YtbpmanbpmlkmnaaGreatDoorMZ8
import Derived.Test.YtbpmanbpmlkmnaaGreatDoorMZ20
import Derived.Deep.RegionHeld3
import Derived.Deep.QuietTactic
import Derived.BigQuiet
namespace Go.Proofs.YtbpmanbpmlkmnaaGreatDoor
open Go.RowKit
set_option linter.unusedVariables false

theorem errL_all : ∀ (l : List Sl), (∀ s ∈ l, FitS s) → errL l = 0 → ∀ s ∈ l, GoodS s
  | [], _, _ => fun s hs => by cases hs
  | s :: l, hf, h => by
    unfold errL at h
    split at h
    · rename_i hc
      exact absurd h hc
    · rename_i hc
      intro z hz
      rcases List.mem_cons.1 hz with rfl | hz
      · exact good_of_check (hf z (by simp)) (by omega)
      · exact errL_all l (fun s hs => hf s (by simp [hs])) h z hz
theorem flat_get (z : Nat) : ∀ (X : List (List Int)), (∀ x ∈ X, x.length = z) → ∀ (i : Nat) (hi : i < X.length), (X.flatten.drop (i * z)).take z = X[i]
  | [], _, i, hi => by simp at hi
  | x :: X, h, 0, _ => by
    have h1 := h x (by simp)
    rw [Nat.zero_mul, List.drop_zero, List.flatten_cons, List.getElem_cons_zero]
    rw [List.take_left' h1]
  | x :: X, h, i + 1, hi => by
    have h1 := h x (by simp)
    rw [List.flatten_cons, show (i + 1) * z = x.length + i * z by rw [Nat.add_mul, h1]; omega, ← List.drop_drop, List.drop_left, List.getElem_cons_succ]
    exact flat_get z X (fun y hy => h y (by simp [hy])) i (by simpa using hi)
theorem spisL_flat (z : Nat) (X : List (List Int)) (h : ∀ x ∈ X, x.length = z) : spisL X.flatten z X.length = X := by
  apply List.ext_getElem (by simp [spisL])
  intro i h1 h2
  simp only [spisL, List.getElem_map, List.getElem_range]
  exact flat_get z X h i h2
theorem deleteE_z (k s t : Int) (h : deleteE k s t = 0) : s = (spiZ k : Int) ∧ (k = 1 ∨ k = 2 ∨ k = 3) ∧ (k = 1 → t = 0) := by
  unfold deleteE at h
  split at h
  · exact absurd h (by decide)
  · split at h
    · rename_i h1 h2
      refine ⟨h2.1, by omega, fun e => ?_⟩
      by_cases ht : t = 0
      · exact ht
      · exact absurd ⟨e, ht⟩ h2.2
    · exact absurd h (by decide)
/-- What is written is read again. -/
theorem build_parse (x : Pv) (C : Pc) (w : World) (h : PvRk w x C) (L : List Int) (hb : buildB x C = (L, 0)) (hL : L.length ≤ 65531) (hk : x.t = 33 ∨ x.t = 34 ∨ x.t = 35 ∨ x.t = 36 ∨ x.t = 39 ∨ x.t = 40 ∨ x.t = 41 ∨ x.t = 42 ∨ x.t = 44 ∨ x.t = 45 ∨ x.t = 37 ∨ x.t = 43) :
    parseE x.t L = 0 ∧ ∀ y D, y.t = x.t → RdAs x.t L y D → sameV y D x C = true := by
  unfold buildB at hb
  rcases hk with e | e | e | e | e | e | e | e | e | e | e | e
  · -- proposals
    rw [if_pos e] at hb
    have hc : checkP (C.pr.map PrP.pr) = 0 := by
      unfold buildP at hb
      split at hb
      · rename_i hc
        simp only [Prod.mk.injEq] at hb
        exact absurd hb.2 hc
      · omega
    have hb2 : L = encPs (C.pr.map PrP.pr) := by
      unfold buildP at hb
      rw [hc, if_neg (by simp)] at hb
      simp only [Prod.mk.injEq, and_true] at hb
      exact hb.symm
    have hp := parse_build hc
    rw [← hb2] at hp
    refine ⟨by rw [e]; show (parseP L).2 = 0; rw [hp], fun y D hy hd => ?_⟩
    have h1 := hd.a33 e
    rw [hp] at h1
    unfold sameV
    rw [hy, e]
    simp [h1]
  · -- key exchanges
    rw [if_neg (by rw [e]; decide), if_pos e] at hb
    simp only [Prod.mk.injEq] at hb
    obtain ⟨rfl, hE⟩ := hb
    have hl := (h.a34 e).ed.len
    have hg : 0 ≤ x.eg ∧ x.eg ≤ 65535 := by
      unfold exchE at hE
      split at hE
      · exact absurd hE (by decide)
      · omega
    have hw : x.eg / 256 % 256 * 256 + x.eg % 256 = x.eg := by omega
    have hlen : (exchL x.eg C.ed).length = 4 + C.ed.length := by simp [exchL]; omega
    have n0 : nthB (exchL x.eg C.ed) 0 = x.eg / 256 % 256 := rfl
    have n1 : nthB (exchL x.eg C.ed) 1 = x.eg % 256 := rfl
    have dr : (exchL x.eg C.ed).drop 4 = C.ed := rfl
    refine ⟨?_, fun y D hy hd => ?_⟩
    · rw [e]
      show exchangeE (exchL x.eg C.ed) (exchL x.eg C.ed).length = 0
      unfold exchangeE
      rw [n0, n1, hw, hlen, if_neg (by omega), show 4 + C.ed.length - 4 = x.ed.n by omega]
      exact hE
    · obtain ⟨h1, h2⟩ := hd.a34 e
      rw [n0, n1, hw] at h1
      rw [dr] at h2
      unfold sameV
      rw [hy, e]
      simp [h1, h2]
  · -- identities
    rw [if_neg (by rw [e]; decide), if_neg (by rw [e]; decide), if_pos e] at hb
    simp only [Prod.mk.injEq] at hb
    obtain ⟨rfl, hE⟩ := hb
    have hl := (h.a35 e).id.len
    have hg : x.ik % 256 = x.ik := by
      have := idE_cases _ _ _ hE
      omega
    have hlen : (headL x.ik C.id).length = 4 + C.id.length := by simp [headL]; omega
    have n0 : nthB (headL x.ik C.id) 0 = x.ik % 256 := rfl
    have dr : (headL x.ik C.id).drop 4 = C.id := rfl
    refine ⟨?_, fun y D hy hd => ?_⟩
    · rw [e]
      show identE (headL x.ik C.id) (headL x.ik C.id).length = 0
      unfold identE
      rw [n0, hg, hlen, if_neg (by omega), show 4 + C.id.length - 4 = x.id.n by omega]
      exact hE
    · obtain ⟨h1, h2⟩ := hd.a35 (Or.inl e)
      rw [n0, hg] at h1
      rw [dr] at h2
      unfold sameV
      rw [hy, e]
      simp [h1, h2]
  · -- identities
    rw [if_neg (by rw [e]; decide), if_neg (by rw [e]; decide), if_neg (by rw [e]; decide), if_pos e] at hb
    simp only [Prod.mk.injEq] at hb
    obtain ⟨rfl, hE⟩ := hb
    have hl := (h.a36 e).id.len
    have hg : x.ik % 256 = x.ik := by
      have := idE_cases _ _ _ hE
      omega
    have hlen : (headL x.ik C.id).length = 4 + C.id.length := by simp [headL]; omega
    have n0 : nthB (headL x.ik C.id) 0 = x.ik % 256 := rfl
    have dr : (headL x.ik C.id).drop 4 = C.id := rfl
    refine ⟨?_, fun y D hy hd => ?_⟩
    · rw [e]
      show identE (headL x.ik C.id) (headL x.ik C.id).length = 0
      unfold identE
      rw [n0, hg, hlen, if_neg (by omega), show 4 + C.id.length - 4 = x.id.n by omega]
      exact hE
    · obtain ⟨h1, h2⟩ := hd.a35 (Or.inr e)
      rw [n0, hg] at h1
      rw [dr] at h2
      unfold sameV
      rw [hy, e]
      simp [h1, h2]
  · -- authentications
    rw [if_neg (by rw [e]; decide), if_neg (by rw [e]; decide), if_neg (by rw [e]; decide), if_neg (by rw [e]; decide), if_pos e] at hb
    simp only [Prod.mk.injEq] at hb
    obtain ⟨rfl, hE⟩ := hb
    have hl := (h.a39 e).ad.len
    have hg : x.am % 256 = x.am := by
      unfold authE at hE
      split at hE
      · exact absurd hE (by decide)
      · omega
    have hlen : (headL x.am C.ad).length = 4 + C.ad.length := by simp [headL]; omega
    have n0 : nthB (headL x.am C.ad) 0 = x.am % 256 := rfl
    have dr : (headL x.am C.ad).drop 4 = C.ad := rfl
    refine ⟨?_, fun y D hy hd => ?_⟩
    · rw [e]
      show authenE (headL x.am C.ad) (headL x.am C.ad).length = 0
      unfold authenE
      rw [n0, hg, hlen, if_neg (by omega), show 4 + C.ad.length - 4 = x.ad.n by omega]
      exact hE
    · obtain ⟨h1, h2⟩ := hd.a39 e
      rw [n0, hg] at h1
      rw [dr] at h2
      unfold sameV
      rw [hy, e]
      simp [h1, h2]
  · -- nonces
    rw [if_neg (by rw [e]; decide), if_neg (by rw [e]; decide), if_neg (by rw [e]; decide), if_neg (by rw [e]; decide), if_neg (by rw [e]; decide), if_pos e] at hb
    simp only [Prod.mk.injEq] at hb
    obtain ⟨rfl, hE⟩ := hb
    have hl := (h.aX (by rw [e]; decide) (by rw [e]; decide) (by rw [e]; decide) (by rw [e]; decide) (by rw [e]; decide) (by rw [e]; decide) (by rw [e]; decide) (by rw [e]; decide) (by rw [e]; decide)).da.len
    refine ⟨?_, fun y D hy hd => ?_⟩
    · rw [e]
      show nonceE C.da.length = 0
      rw [hl]
      exact hE
    · have h1 := hd.aX (by rw [e]; decide) (by rw [e]; decide) (by rw [e]; decide) (by rw [e]; decide) (by rw [e]; decide) (by rw [e]; decide) (by rw [e]; decide) (by rw [e]; decide) (by rw [e]; decide)
      unfold sameV
      rw [hy, e]
      simp [h1]
  · -- notifications
    rw [if_neg (by rw [e]; decide), if_neg (by rw [e]; decide), if_neg (by rw [e]; decide), if_neg (by rw [e]; decide), if_neg (by rw [e]; decide), if_neg (by rw [e]; decide), if_pos e] at hb
    simp only [Prod.mk.injEq] at hb
    obtain ⟨rfl, hE⟩ := hb
    have hl := (h.a41 e).ns.len
    have hg : (0 ≤ x.nt ∧ x.nt ≤ 65535) ∧ (0 ≤ x.np ∧ x.np ≤ 3) ∧ (x.ns.n : Int) = spiZ x.np := by
      unfold notifyE at hE
      split at hE
      · exact absurd hE (by decide)
      · split at hE
        · omega
        · exact absurd hE (by decide)
    have hz := spiZ_le x.np
    have hw : x.nt / 256 % 256 * 256 + x.nt % 256 = x.nt := by omega
    have hp : x.np % 256 = x.np := by omega
    have hs : (C.ns.length : Int) % 256 = C.ns.length := by omega
    have hlen : (noteL x.np x.nt C.ns C.nd).length = 4 + (C.ns.length + C.nd.length) := by simp [noteL]; omega
    have n0 : nthB (noteL x.np x.nt C.ns C.nd) 0 = x.np % 256 := rfl
    have n1 : nthB (noteL x.np x.nt C.ns C.nd) 1 = (C.ns.length : Int) % 256 := rfl
    have n2 : nthB (noteL x.np x.nt C.ns C.nd) 2 = x.nt / 256 % 256 := rfl
    have n3 : nthB (noteL x.np x.nt C.ns C.nd) 3 = x.nt % 256 := rfl
    have dr : (noteL x.np x.nt C.ns C.nd).drop 4 = C.ns ++ C.nd := rfl
    have dr2 : (noteL x.np x.nt C.ns C.nd).drop (4 + C.ns.length) = C.nd := by
      rw [← List.drop_drop, dr, List.drop_left]
    refine ⟨?_, fun y D hy hd => ?_⟩
    · rw [e]
      show noteE (noteL x.np x.nt C.ns C.nd) (noteL x.np x.nt C.ns C.nd).length = 0
      unfold noteE
      rw [n0, n1, n2, n3, hw, hp, hs, hlen, if_neg (by omega), hl, hE, if_neg (by simp), if_neg (by omega)]
    · obtain ⟨h1, h2, h3, h4⟩ := hd.a41 e
      rw [n0, hp] at h1
      rw [n2, n3, hw] at h2
      rw [n1, hs, Int.toNat_natCast, dr, List.take_left] at h3
      rw [n1, hs, Int.toNat_natCast, dr2] at h4
      unfold sameV
      rw [hy, e]
      simp [h1, h2, h3, h4]
  · -- deletions
    rw [if_neg (by rw [e]; decide), if_neg (by rw [e]; decide), if_neg (by rw [e]; decide), if_neg (by rw [e]; decide), if_neg (by rw [e]; decide), if_neg (by rw [e]; decide), if_neg (by rw [e]; decide), if_pos e] at hb
    simp only [Prod.mk.injEq] at hb
    obtain ⟨hLL, hE⟩ := hb
    obtain ⟨X, hX⟩ : ∃ X, C.ds.map Sb.xs = X := ⟨_, rfl⟩
    rw [hX] at hLL hE
    have hd0 : deleteE x.dp (sizeBad (spiZ x.dp) X) X.length = 0 := by
      unfold delBE at hE
      split at hE
      · rename_i h1
        exact absurd hE h1
      · omega
    have hsx : spisX x.dp X = 0 := by
      unfold delBE at hE
      rw [hd0, if_neg (by simp)] at hE
      exact hE
    obtain ⟨hz, hk, h1⟩ := deleteE_z _ _ _ hd0
    have hall := sizeBad_all (spiZ x.dp) X (by exact_mod_cast hz)
    have hfl := flatten_len _ X hall
    have hLe : L = [x.dp % 256, ((spiZ x.dp : Nat) : Int) % 256, (X.length : Int) / 256 % 256, (X.length : Int) % 256] ++ X.flatten := by
      rw [← hLL]
      unfold delBL
      rw [hd0, if_neg (by simp)]
      unfold delL
      rw [hz]
    have hlen : L.length = 4 + X.length * spiZ x.dp := by rw [hLe, List.length_append, hfl]; simp
    have hz4 : spiZ x.dp = 0 ∨ spiZ x.dp = 4 := by unfold spiZ; split <;> simp
    have hn : X.length ≤ 65535 := by
      rcases hz4 with h0 | h4
      · have : x.dp = 1 := by
          unfold spiZ at h0
          split at h0
          · omega
          · omega
        have := h1 this
        omega
      · rw [h4] at hlen; omega
    have n0 : nthB L 0 = x.dp % 256 := by rw [hLe]; rfl
    have n1 : nthB L 1 = ((spiZ x.dp : Nat) : Int) % 256 := by rw [hLe]; rfl
    have n2 : nthB L 2 = (X.length : Int) / 256 % 256 := by rw [hLe]; rfl
    have n3 : nthB L 3 = (X.length : Int) % 256 := by rw [hLe]; rfl
    have dr : L.drop 4 = X.flatten := by rw [hLe]; rfl
    have e0 : x.dp % 256 = x.dp := by omega
    have e1 : ((spiZ x.dp : Nat) : Int) % 256 = (spiZ x.dp : Nat) := by have := spiZ_le x.dp; omega
    have e2 : (X.length : Int) / 256 % 256 * 256 + (X.length : Int) % 256 = X.length := by omega
    rw [hz] at hd0
    refine ⟨?_, fun y D hy hd => ?_⟩
    · rw [e]
      show delE L L.length = 0
      unfold delE
      rw [n0, n1, n2, n3, e0, e1, e2, hd0, if_neg (by omega), if_neg (by simp), dr, Int.toNat_natCast, Int.toNat_natCast, spisL_flat _ X hall, hsx, if_neg]
      rw [hlen]
      push_cast
      rw [Int.mul_comm]
      omega
    · obtain ⟨h2, h3⟩ := hd.a42 e
      rw [n0, e0] at h2
      rw [n1, n2, n3, e1, e2, dr, Int.toNat_natCast, Int.toNat_natCast, spisL_flat _ X hall] at h3
      unfold sameV
      rw [hy, e]
      simp [h2, h3, hX]
  · -- selectors
    rw [if_neg (by rw [e]; decide), if_neg (by rw [e]; decide), if_neg (by rw [e]; decide), if_neg (by rw [e]; decide), if_neg (by rw [e]; decide), if_neg (by rw [e]; decide), if_neg (by rw [e]; decide), if_neg (by rw [e]; decide), if_pos e] at hb
    have hfit := (h.a44 e).se.ok
    have hz : C.se.length ≠ 0 ∧ C.se.length ≤ 16 ∧ errL C.se = 0 ∧ L = [(C.se.length : Int), 0, 0, 0] ++ encL C.se := by
      unfold buildS at hb
      split at hb
      · simp at hb
      split at hb
      · simp at hb
      split at hb
      · rename_i hc
        simp only [Prod.mk.injEq] at hb
        exact absurd hb.2 hc
      · rename_i h1 h2 h3
        simp only [Prod.mk.injEq, and_true] at hb
        exact ⟨h1, by omega, by omega, hb.symm⟩
    have hgood := errL_all C.se hfit hz.2.2.1
    have hp := parse_encS C.se hgood (by omega) hz.2.1 0 0 0
    rw [← hz.2.2.2] at hp
    refine ⟨by rw [e]; show (parseS L).2 = 0; rw [hp], fun y D hy hd => ?_⟩
    have h1 := hd.a44 (Or.inl e)
    rw [hp] at h1
    unfold sameV
    rw [hy, e]
    simp [h1]
  · -- selectors
    rw [if_neg (by rw [e]; decide), if_neg (by rw [e]; decide), if_neg (by rw [e]; decide), if_neg (by rw [e]; decide), if_neg (by rw [e]; decide), if_neg (by rw [e]; decide), if_neg (by rw [e]; decide), if_neg (by rw [e]; decide), if_neg (by rw [e]; decide), if_pos e] at hb
    have hfit := (h.a45 e).se.ok
    have hz : C.se.length ≠ 0 ∧ C.se.length ≤ 16 ∧ errL C.se = 0 ∧ L = [(C.se.length : Int), 0, 0, 0] ++ encL C.se := by
      unfold buildS at hb
      split at hb
      · simp at hb
      split at hb
      · simp at hb
      split at hb
      · rename_i hc
        simp only [Prod.mk.injEq] at hb
        exact absurd hb.2 hc
      · rename_i h1 h2 h3
        simp only [Prod.mk.injEq, and_true] at hb
        exact ⟨h1, by omega, by omega, hb.symm⟩
    have hgood := errL_all C.se hfit hz.2.2.1
    have hp := parse_encS C.se hgood (by omega) hz.2.1 0 0 0
    rw [← hz.2.2.2] at hp
    refine ⟨by rw [e]; show (parseS L).2 = 0; rw [hp], fun y D hy hd => ?_⟩
    have h1 := hd.a44 (Or.inr e)
    rw [hp] at h1
    unfold sameV
    rw [hy, e]
    simp [h1]
  · -- others
    rw [if_neg (by rw [e]; decide), if_neg (by rw [e]; decide), if_neg (by rw [e]; decide), if_neg (by rw [e]; decide), if_neg (by rw [e]; decide), if_neg (by rw [e]; decide), if_neg (by rw [e]; decide), if_neg (by rw [e]; decide), if_neg (by rw [e]; decide), if_neg (by rw [e]; decide)] at hb
    simp only [Prod.mk.injEq, and_true] at hb
    subst hb
    refine ⟨by rw [e]; rfl, fun y D hy hd => ?_⟩
    have h1 := hd.aX (by rw [e]; decide) (by rw [e]; decide) (by rw [e]; decide) (by rw [e]; decide) (by rw [e]; decide) (by rw [e]; decide) (by rw [e]; decide) (by rw [e]; decide) (by rw [e]; decide)
    unfold sameV
    rw [hy, e]
    simp [h1]
  · -- others
    rw [if_neg (by rw [e]; decide), if_neg (by rw [e]; decide), if_neg (by rw [e]; decide), if_neg (by rw [e]; decide), if_neg (by rw [e]; decide), if_neg (by rw [e]; decide), if_neg (by rw [e]; decide), if_neg (by rw [e]; decide), if_neg (by rw [e]; decide), if_neg (by rw [e]; decide)] at hb
    simp only [Prod.mk.injEq, and_true] at hb
    subst hb
    refine ⟨by rw [e]; rfl, fun y D hy hd => ?_⟩
    have h1 := hd.aX (by rw [e]; decide) (by rw [e]; decide) (by rw [e]; decide) (by rw [e]; decide) (by rw [e]; decide) (by rw [e]; decide) (by rw [e]; decide) (by rw [e]; decide) (by rw [e]; decide)
    unfold sameV
    rw [hy, e]
    simp [h1]

end Go.Proofs.YtbpmanbpmlkmnaaGreatDoor

namespace Go.Proofs.YtbpmanbpmlkmnaaGreatDoor
open Go.RowKit
set_option linter.unusedVariables false

def Kind12 (t : Int) : Prop := t = 33 ∨ t = 34 ∨ t = 35 ∨ t = 36 ∨ t = 39 ∨ t = 40 ∨ t = 41 ∨ t = 42 ∨ t = 44 ∨ t = 45 ∨ t = 37 ∨ t = 43
theorem pk_any (t : Int) (ht : Kind12 t) (p : Option Addr) (n c : Nat) (xs : List Int) (cr : Bool) (w : World) (h : Byt w p n c xs) (hn : n ≤ 1048576) :
    Calls Tryz.prog 10 #[.agg #[.int .i64 t, .bool cr, .slice p n c]] w (ParsedV w t (parseE t xs) (gdK t xs)) := by
  rcases ht with rfl | rfl | rfl | rfl | rfl | rfl | rfl | rfl | rfl | rfl | rfl | rfl
  · exact pk_33 p n c xs cr w h hn
  · exact pk_34 p n c xs cr w h hn
  · exact pk_35 p n c xs cr w h hn
  · exact pk_36 p n c xs cr w h hn
  · exact pk_39 p n c xs cr w h hn
  · exact pk_40 p n c xs cr w h hn
  · exact pk_41 p n c xs cr w h hn
  · exact pk_42 p n c xs cr w h hn
  · exact pk_44 p n c xs cr w h hn
  · exact pk_45 p n c xs cr w h hn
  · exact pk_37 p n c xs cr w h hn
  · exact pk_43 p n c xs cr w h hn
/-- What was drawn is written, in few bytes. -/
theorem vld_build (x : Pv) (C : Pc) (w : World) (h : PvRd w x C) (hn : NumOk x) (hv : Vld x C) (hk : Kind12 x.t) : (buildB x C).2 = 0 ∧ (buildB x C).1.length ≤ 8000 ∧ PvSz x := by
  obtain ⟨n1, n2, n3, n4⟩ := hn
  have hdl := h.ds.len
  unfold buildB
  rcases hk with e | e | e | e | e | e | e | e | e | e | e | e
  · have v := (vld33 e).1 hv
    rw [if_pos e]
    have h1 := encPs_le (C.pr.map PrP.pr) (checkP_ok v).2.2
    have h2 := (checkP_ok v).2.1
    refine ⟨by unfold buildP; rw [v, if_neg (by simp)], ?_, ⟨fun h0 => by rw [e] at h0; exact absurd h0 (by decide), fun h0 => by rw [e] at h0; exact absurd h0 (by decide), fun h0 => by rw [e] at h0; exact absurd h0 (by decide), fun h0 => by rw [e] at h0; exact absurd h0 (by decide), fun h0 => by rw [e] at h0; exact absurd h0 (by decide), fun h0 => by rw [e] at h0; exact absurd h0 (by decide), fun a1 a2 a3 a4 a5 a6 a7 a8 a9 => absurd e a1⟩⟩
    unfold buildP
    rw [v, if_neg (by simp)]
    show (encPs _).length ≤ _
    omega
  · have v := (vld34 e).1 hv
    rw [if_neg (by rw [e]; decide), if_pos e]
    have hl := h.ed.len
    refine ⟨by show exchE _ _ = 0; unfold exchE; rw [if_neg (by omega), if_neg (by omega)], ?_, ⟨fun _ => by omega, fun h0 => by rw [e] at h0; exact absurd h0 (by decide), fun h0 => by rw [e] at h0; exact absurd h0 (by decide), fun h0 => by rw [e] at h0; exact absurd h0 (by decide), fun h0 => by rw [e] at h0; exact absurd h0 (by decide), fun h0 => by rw [e] at h0; exact absurd h0 (by decide), fun a1 a2 a3 a4 a5 a6 a7 a8 a9 => absurd e a2⟩⟩
    show (exchL _ _).length ≤ _
    simp [exchL]
    omega
  · have v := (vld35 e).1 hv
    rw [if_neg (by rw [e]; decide), if_neg (by rw [e]; decide), if_pos e]
    have hl := h.id.len
    refine ⟨?_, ?_, ⟨fun h0 => by rw [e] at h0; exact absurd h0 (by decide), fun _ => by omega, fun h0 => by rw [e] at h0; exact absurd h0 (by decide), fun h0 => by rw [e] at h0; exact absurd h0 (by decide), fun h0 => by rw [e] at h0; exact absurd h0 (by decide), fun h0 => by rw [e] at h0; exact absurd h0 (by decide), fun a1 a2 a3 a4 a5 a6 a7 a8 a9 => absurd e a3⟩⟩
    · show idE _ _ = 0
      obtain ⟨v1, v2, v3⟩ := v
      unfold idE
      rw [if_neg (by omega), if_neg (by omega), if_pos v1, if_neg (by omega)]
    · show (headL _ _).length ≤ _
      simp [headL]
      omega
  · have v := (vld36 e).1 hv
    rw [if_neg (by rw [e]; decide), if_neg (by rw [e]; decide), if_neg (by rw [e]; decide), if_pos e]
    have hl := h.id.len
    refine ⟨?_, ?_, ⟨fun h0 => by rw [e] at h0; exact absurd h0 (by decide), fun _ => by omega, fun h0 => by rw [e] at h0; exact absurd h0 (by decide), fun h0 => by rw [e] at h0; exact absurd h0 (by decide), fun h0 => by rw [e] at h0; exact absurd h0 (by decide), fun h0 => by rw [e] at h0; exact absurd h0 (by decide), fun a1 a2 a3 a4 a5 a6 a7 a8 a9 => absurd e a4⟩⟩
    · show idE _ _ = 0
      obtain ⟨v1, v2, v3⟩ := v
      unfold idE
      rw [if_neg (by omega), if_neg (by omega), if_pos v1, if_neg (by omega)]
    · show (headL _ _).length ≤ _
      simp [headL]
      omega
  · have v := (vld39 e).1 hv
    rw [if_neg (by rw [e]; decide), if_neg (by rw [e]; decide), if_neg (by rw [e]; decide), if_neg (by rw [e]; decide), if_pos e]
    have hl := h.ad.len
    refine ⟨?_, ?_, ⟨fun h0 => by rw [e] at h0; exact absurd h0 (by decide), fun h0 => by rw [e] at h0; exact absurd h0 (by decide), fun _ => by omega, fun h0 => by rw [e] at h0; exact absurd h0 (by decide), fun h0 => by rw [e] at h0; exact absurd h0 (by decide), fun h0 => by rw [e] at h0; exact absurd h0 (by decide), fun a1 a2 a3 a4 a5 a6 a7 a8 a9 => absurd e a5⟩⟩
    · show authE _ _ = 0
      unfold authE
      rw [if_neg (by omega), if_neg (by omega)]
    · show (headL _ _).length ≤ _
      simp [headL]
      omega
  · have v := (vld40 e).1 hv
    rw [if_neg (by rw [e]; decide), if_neg (by rw [e]; decide), if_neg (by rw [e]; decide), if_neg (by rw [e]; decide), if_neg (by rw [e]; decide), if_pos e]
    have hl := h.da.len
    refine ⟨?_, ?_, ⟨fun h0 => by rw [e] at h0; exact absurd h0 (by decide), fun h0 => by rw [e] at h0; exact absurd h0 (by decide), fun h0 => by rw [e] at h0; exact absurd h0 (by decide), fun h0 => by rw [e] at h0; exact absurd h0 (by decide), fun h0 => by rw [e] at h0; exact absurd h0 (by decide), fun h0 => by rw [e] at h0; exact absurd h0 (by decide), fun _ _ _ _ _ _ _ _ _ => by omega⟩⟩
    · show nonceE _ = 0
      unfold nonceE
      rw [if_neg (by omega)]
    · show C.da.length ≤ _
      omega
  · have v := (vld41 e).1 hv
    rw [if_neg (by rw [e]; decide), if_neg (by rw [e]; decide), if_neg (by rw [e]; decide), if_neg (by rw [e]; decide), if_neg (by rw [e]; decide), if_neg (by rw [e]; decide), if_pos e]
    have hl := h.ns.len
    have hl2 := h.nd.len
    refine ⟨?_, ?_, ⟨fun h0 => by rw [e] at h0; exact absurd h0 (by decide), fun h0 => by rw [e] at h0; exact absurd h0 (by decide), fun h0 => by rw [e] at h0; exact absurd h0 (by decide), fun _ => by omega, fun _ => by omega, fun h0 => by rw [e] at h0; exact absurd h0 (by decide), fun a1 a2 a3 a4 a5 a6 a7 a8 a9 => absurd e a6⟩⟩
    · show notifyE _ _ _ = 0
      unfold notifyE
      rw [if_neg (by omega), if_pos]
      rcases v with ⟨v1, v2⟩ | ⟨v1, v2⟩
      · rw [v1, v2]; rfl
      · rw [v1, v2]; rfl
    · show (noteL _ _ _ _).length ≤ _
      simp [noteL]
      omega
  · have v := (vld42 e).1 hv
    rw [if_neg (by rw [e]; decide), if_neg (by rw [e]; decide), if_neg (by rw [e]; decide), if_neg (by rw [e]; decide), if_neg (by rw [e]; decide), if_neg (by rw [e]; decide), if_neg (by rw [e]; decide), if_pos e]
    rcases v with ⟨v1, v2⟩ | ⟨v1, v2 | v2⟩
    · have hd0 : x.ds.n = 0 := by rw [← hdl, v2]; rfl
      rw [v1, v2]
      exact ⟨by decide, by decide, ⟨fun h0 => by rw [e] at h0; exact absurd h0 (by decide), fun h0 => by rw [e] at h0; exact absurd h0 (by decide), fun h0 => by rw [e] at h0; exact absurd h0 (by decide), fun h0 => by rw [e] at h0; exact absurd h0 (by decide), fun h0 => by rw [e] at h0; exact absurd h0 (by decide), fun _ => by omega, fun a1 a2 a3 a4 a5 a6 a7 a8 a9 => absurd e a7⟩⟩
    · have hd0 : x.ds.n = 1 := by rw [← hdl]; have := congrArg List.length v2; simpa using this
      rw [v1, v2]
      exact ⟨by decide, by decide, ⟨fun h0 => by rw [e] at h0; exact absurd h0 (by decide), fun h0 => by rw [e] at h0; exact absurd h0 (by decide), fun h0 => by rw [e] at h0; exact absurd h0 (by decide), fun h0 => by rw [e] at h0; exact absurd h0 (by decide), fun h0 => by rw [e] at h0; exact absurd h0 (by decide), fun _ => by omega, fun a1 a2 a3 a4 a5 a6 a7 a8 a9 => absurd e a7⟩⟩
    · have hd0 : x.ds.n = 2 := by rw [← hdl]; have := congrArg List.length v2; simpa using this
      rw [v1, v2]
      exact ⟨by decide, by decide, ⟨fun h0 => by rw [e] at h0; exact absurd h0 (by decide), fun h0 => by rw [e] at h0; exact absurd h0 (by decide), fun h0 => by rw [e] at h0; exact absurd h0 (by decide), fun h0 => by rw [e] at h0; exact absurd h0 (by decide), fun h0 => by rw [e] at h0; exact absurd h0 (by decide), fun _ => by omega, fun a1 a2 a3 a4 a5 a6 a7 a8 a9 => absurd e a7⟩⟩
  · have v := (vld44 e).1 hv
    rw [if_neg (by rw [e]; decide), if_neg (by rw [e]; decide), if_neg (by rw [e]; decide), if_neg (by rw [e]; decide), if_neg (by rw [e]; decide), if_neg (by rw [e]; decide), if_neg (by rw [e]; decide), if_neg (by rw [e]; decide), if_pos e]
    obtain ⟨v1, v2, v3⟩ := v
    have h1 := encL_le C.se v1
    have h2 := errL_good (fun s hs => (v1 s hs).check)
    have h3 : buildS C.se = ([(C.se.length : Int), 0, 0, 0] ++ encL C.se, 0) := by
      unfold buildS
      rw [if_neg (by omega), if_neg (by omega), h2, if_neg (by simp)]
    rw [h3]
    refine ⟨rfl, ?_, ⟨fun h0 => by rw [e] at h0; exact absurd h0 (by decide), fun h0 => by rw [e] at h0; exact absurd h0 (by decide), fun h0 => by rw [e] at h0; exact absurd h0 (by decide), fun h0 => by rw [e] at h0; exact absurd h0 (by decide), fun h0 => by rw [e] at h0; exact absurd h0 (by decide), fun h0 => by rw [e] at h0; exact absurd h0 (by decide), fun a1 a2 a3 a4 a5 a6 a7 a8 a9 => absurd e a8⟩⟩
    show (_ ++ _ : List Int).length ≤ _
    simp only [List.length_append, List.length_cons, List.length_nil]
    omega
  · have v := (vld45 e).1 hv
    rw [if_neg (by rw [e]; decide), if_neg (by rw [e]; decide), if_neg (by rw [e]; decide), if_neg (by rw [e]; decide), if_neg (by rw [e]; decide), if_neg (by rw [e]; decide), if_neg (by rw [e]; decide), if_neg (by rw [e]; decide), if_neg (by rw [e]; decide), if_pos e]
    obtain ⟨v1, v2, v3⟩ := v
    have h1 := encL_le C.se v1
    have h2 := errL_good (fun s hs => (v1 s hs).check)
    have h3 : buildS C.se = ([(C.se.length : Int), 0, 0, 0] ++ encL C.se, 0) := by
      unfold buildS
      rw [if_neg (by omega), if_neg (by omega), h2, if_neg (by simp)]
    rw [h3]
    refine ⟨rfl, ?_, ⟨fun h0 => by rw [e] at h0; exact absurd h0 (by decide), fun h0 => by rw [e] at h0; exact absurd h0 (by decide), fun h0 => by rw [e] at h0; exact absurd h0 (by decide), fun h0 => by rw [e] at h0; exact absurd h0 (by decide), fun h0 => by rw [e] at h0; exact absurd h0 (by decide), fun h0 => by rw [e] at h0; exact absurd h0 (by decide), fun a1 a2 a3 a4 a5 a6 a7 a8 a9 => absurd e a9⟩⟩
    show (_ ++ _ : List Int).length ≤ _
    simp only [List.length_append, List.length_cons, List.length_nil]
    omega
  · have v := (vld37 e).1 hv
    rw [if_neg (by rw [e]; decide), if_neg (by rw [e]; decide), if_neg (by rw [e]; decide), if_neg (by rw [e]; decide), if_neg (by rw [e]; decide), if_neg (by rw [e]; decide), if_neg (by rw [e]; decide), if_neg (by rw [e]; decide), if_neg (by rw [e]; decide), if_neg (by rw [e]; decide)]
    have hl := h.da.len
    exact ⟨rfl, by show C.da.length ≤ _; omega, ⟨fun h0 => by rw [e] at h0; exact absurd h0 (by decide), fun h0 => by rw [e] at h0; exact absurd h0 (by decide), fun h0 => by rw [e] at h0; exact absurd h0 (by decide), fun h0 => by rw [e] at h0; exact absurd h0 (by decide), fun h0 => by rw [e] at h0; exact absurd h0 (by decide), fun h0 => by rw [e] at h0; exact absurd h0 (by decide), fun _ _ _ _ _ _ _ _ _ => by omega⟩⟩
  · have v := (vld43 e).1 hv
    rw [if_neg (by rw [e]; decide), if_neg (by rw [e]; decide), if_neg (by rw [e]; decide), if_neg (by rw [e]; decide), if_neg (by rw [e]; decide), if_neg (by rw [e]; decide), if_neg (by rw [e]; decide), if_neg (by rw [e]; decide), if_neg (by rw [e]; decide), if_neg (by rw [e]; decide)]
    have hl := h.da.len
    exact ⟨rfl, by show C.da.length ≤ _; omega, ⟨fun h0 => by rw [e] at h0; exact absurd h0 (by decide), fun h0 => by rw [e] at h0; exact absurd h0 (by decide), fun h0 => by rw [e] at h0; exact absurd h0 (by decide), fun h0 => by rw [e] at h0; exact absurd h0 (by decide), fun h0 => by rw [e] at h0; exact absurd h0 (by decide), fun h0 => by rw [e] at h0; exact absurd h0 (by decide), fun _ _ _ _ _ _ _ _ _ => by omega⟩⟩
end Go.Proofs.YtbpmanbpmlkmnaaGreatDoor

namespace Go.Proofs.YtbpmanbpmlkmnaaGreatDoor
open Go.RowKit
set_option linter.unusedVariables false

set_option maxHeartbeats 800000 in
set_option maxRecDepth 100000 in
theorem rwidth_same (k : Int) (w : World) : Calls Tryz.prog 35 #[.int .i64 k] w fun e w' => e = .returned (.int .i64 (widthN k)) ∧ w' = w := by
  unfold widthN
  by_cases h0 : k = 0
  · subst h0
    go_enter Tryz.func35, Tryz.ntmps35
    go_wp2
    go_ret
    exact ⟨rfl, rfl⟩
  by_cases h1 : k = 1
  · subst h1
    go_enter Tryz.func35, Tryz.ntmps35
    go_wp2
    go_ret
    exact ⟨rfl, rfl⟩
  have e0 : (k == 0) = false := by simpa using h0
  have e1 : (k == 1) = false := by simpa using h1
  rw [if_neg (by omega)]
  clear h0 h1
  go_enter Tryz.func35, Tryz.ntmps35
  go_wp2
  go_ret
  exact ⟨rfl, rfl⟩
/-- The body of a payload, and the first error of its lengths of SPIs, as the document has them. -/
def rbodyB (x : Pv) (C : Pc) : List Int × Int :=
  if x.t = 33 then buildP (C.pr.map PrP.pr)
  else if x.t = 34 then (exchL x.eg C.ed, 0)
  else if x.t = 35 ∨ x.t = 36 then (headL x.ik C.id, 0)
  else if x.t = 39 then (headL x.am C.ad, 0)
  else if x.t = 41 then (if 3 < x.np then ([], 5) else if (x.ns.n : Int) ≠ widthN x.np then ([], 20) else (noteL x.np x.nt C.ns C.nd, 0))
  else if x.t = 44 ∨ x.t = 45 then buildS C.se
  else (C.da, 0)
theorem be_exch (g : Int) (h0 : 0 ≤ g) (h1 : g ≤ 65535) : be 4 (g * 65536) = [g / 256 % 256, g % 256, 0, 0] := by
  have e : be 4 (g * 65536) = [g * 65536 / 2 ^ (8 * 3) % 256, g * 65536 / 2 ^ (8 * 2) % 256, g * 65536 / 2 ^ (8 * 1) % 256, g * 65536 / 2 ^ (8 * 0) % 256] := rfl
  rw [e]
  simp only [List.cons.injEq, and_true]
  refine ⟨by omega, by omega, by omega, by omega⟩
theorem be_two (v : Int) (h0 : 0 ≤ v) (h1 : v ≤ 65535) : be 2 v = [v / 256 % 256, v % 256] := by
  have e : be 2 v = [v / 2 ^ (8 * 1) % 256, v / 2 ^ (8 * 0) % 256] := rfl
  rw [e]
  simp only [List.cons.injEq, and_true]
  refine ⟨by omega, by omega⟩
theorem own_two6 (w : World) (base : Nat) (hb : base ≤ w.heap.size) (x0 x1 : Int) : Own (w.alloc (.cells #[.int .u8 x0, .int .u8 x1] 5)) base 5 (.slice (some ⟨w.heap.size, 0, none⟩) 2 2) [x0, x1] :=
  ⟨rfl, Or.inr ⟨w.heap.size, 2, #[.int .u8 x0, .int .u8 x1], rfl, hb, heap_alloc_new w _, Nat.le_refl _, by unfold maxLen; omega, rfl, rfl⟩⟩
theorem byt_two6 (w : World) (x0 x1 : Int) (h0 : 0 ≤ x0 ∧ x0 ≤ 255) (h1 : 0 ≤ x1 ∧ x1 ≤ 255) : Byt (w.alloc (.cells #[.int .u8 x0, .int .u8 x1] 5)) (some ⟨w.heap.size, 0, none⟩) 2 2 [x0, x1] := by
  obtain ⟨p, c, e, h⟩ := (own_two6 w 0 (Nat.zero_le _) x0 x1).byt (by intro z hz; simp at hz; omega)
  cases e
  exact h

set_option maxHeartbeats 6400000 in
set_option maxRecDepth 100000 in
theorem rbody_any (x : Pv) (C : Pc) (w : World) (h : PvRk w x C) (f : Fit x) (sz : PvSz x) (h42 : x.t ≠ 42) : Calls Tryz.prog 16 #[(.agg #[.int .i64 x.t, .slice x.pr.p x.pr.n x.pr.c, .int .i64 x.eg, .slice x.ed.p x.ed.n x.ed.c, .int .i64 x.ik, .slice x.id.p x.id.n x.id.c, .int .i64 x.am, .slice x.ad.p x.ad.n x.ad.c, .int .i64 x.np, .slice x.ns.p x.ns.n x.ns.c, .int .i64 x.nt, .slice x.nd.p x.nd.n x.nd.c, .int .i64 x.dp, .slice x.ds.p x.ds.n x.ds.c, .slice x.se.p x.se.n x.se.c, .slice x.da.p x.da.n x.da.c])] w (GotBE w (rbodyB x C).1 (rbodyB x C).2) := by
  obtain ⟨i0, hi0, hz0, hz1, hz2⟩ := info_parts Tryz.infoByte
  have HB := hidden ((Below.refl w.heap.size w).alloc (Nat.le_refl _) (.cells #[.int .i64 x.t, .slice x.pr.p x.pr.n x.pr.c, .int .i64 x.eg, .slice x.ed.p x.ed.n x.ed.c, .int .i64 x.ik, .slice x.id.p x.id.n x.id.c, .int .i64 x.am, .slice x.ad.p x.ad.n x.ad.c, .int .i64 x.np, .slice x.ns.p x.ns.n x.ns.c, .int .i64 x.nt, .slice x.nd.p x.nd.n x.nd.c, .int .i64 x.dp, .slice x.ds.p x.ds.n x.ds.c, .slice x.se.p x.se.n x.se.c, .slice x.da.p x.da.n x.da.c] 45))
  have HPV := hidden (PvIn.new w x 45)
  unfold rbodyB
  obtain ⟨t, pr, eg, ed, ik, id, am, ad, np, ns, nt, nd, dp, ds, se, da⟩ := x
  dsimp only at *
  obtain ⟨⟨t0, t1⟩, f34, f35, f39, f41, -⟩ := f
  dsimp only at *
  obtain ⟨w1, hw1⟩ : ∃ w1, w.alloc (.cells #[.int .i64 t, .slice pr.p pr.n pr.c, .int .i64 eg, .slice ed.p ed.n ed.c, .int .i64 ik, .slice id.p id.n id.c, .int .i64 am, .slice ad.p ad.n ad.c, .int .i64 np, .slice ns.p ns.n ns.c, .int .i64 nt, .slice nd.p nd.n nd.c, .int .i64 dp, .slice ds.p ds.n ds.c, .slice se.p se.n se.c, .slice da.p da.n da.c] 45) = w1 := ⟨_, rfl⟩
  rw [hw1] at HB HPV
  by_cases h33_ : t = 33
  · subst h33_
    rw [if_pos rfl]
    have hpr := (h.a33 rfl).pr
    have hr := buildP_rng _ hpr.rng (L := (buildP (C.pr.map PrP.pr)).1) (E := (buildP (C.pr.map PrP.pr)).2) rfl
    have HC := hidden (rbuild_any pr.p pr.n pr.c C.pr w1 (hpr.below HB.out) (buildP (C.pr.map PrP.pr)).1 (buildP (C.pr.map PrP.pr)).2 rfl)
    generalize buildP (C.pr.map PrP.pr) = R at *
    obtain ⟨L, E⟩ := R
    have HR := hidden hr
    clear h hr hpr f34 f35 f39 f41 sz
    dsimp only at HC HR ⊢
    go_enter Tryz.func16, Tryz.ntmps16
    go_upto_region 1 with fail
    obtain ⟨c0, c1, c2, c3, c4, c5, c6, c7, c8, c9, c10, c11, c12, c13, c14, c15, cf⟩ := HPV.out
    go_wp2_with (first
      | (go_at_call 32; (with_reducible refine (HC.out).mono ?_); rintro e w2 ⟨v, rfl, ho, hb⟩; have HO := hidden ho; have HB2 := hidden hb; clear ho hb)
      | fail)
    go_ret2
    exact own_be (HO.out.mono HB.out.size) HR.out (HB.out.trans (HB2.out.mono HB.out.size))
  rw [if_neg h33_]
  by_cases h34_ : t = 34
  · subst h34_
    rw [if_pos rfl]
    have hed := (h.a34 rfl).ed
    have hsz := sz.ed rfl
    obtain ⟨g0, g1⟩ := f34 rfl
    have hel := hed.len
    dsimp only at hed hsz
    have HED := hidden hed
    have HEL := Is.mk hel
    have HPU := hidden (fun W => rput_yes none 0 0 [] W (Byt.nil _ _ _ (Nat.zero_le _)) (by omega) (eg * 65536) (by omega) 4 (by omega) (by omega))
    rw [List.nil_append, be_exch eg g0 g1, show ((4 : Nat) : Int) = 4 from rfl] at HPU
    have hw2 : IntKind.u64.wrap eg = eg := wraps_u64 _ (by omega) (by omega)
    have hw3 : IntKind.u64.wrap (eg * 65536) = eg * 65536 := wraps_u64 _ (by omega) (by omega)
    have HRG := hidden (show ∀ z ∈ exchL eg C.ed, 0 ≤ z ∧ z ≤ 255 from rng_append (by intro z hz; simp at hz; omega) hed.rng)
    have HXL : Is ([eg / 256 % 256, eg % 256, 0, 0] ++ C.ed) (exchL eg C.ed) := ⟨rfl⟩
    have HBD := hidden HB.out.drew
    have HKD := hidden (fun W (hW : Below w1.drew.heap.size w1.drew W) => HPV.out.below (Below.trans (drew_below ⟨1, rfl⟩) hW))
    have HK0 := hidden (Below.refl w1.drew.heap.size w1.drew)
    clear h f34 f35 f39 f41 sz hed hel
    go_enter Tryz.func16, Tryz.ntmps16
    go_upto_region 1 with fail
    obtain ⟨c0, c1, c2, c3, c4, c5, c6, c7, c8, c9, c10, c11, c12, c13, c14, c15, cf⟩ := HPV.out
    go_upto_region 8 with fail
    go_region_held3 (fun W => W.cell? ⟨w.heap.size, 2, none⟩ = some (.int .i64 eg) ∧ W.cell? ⟨w.heap.size, 3, none⟩ = some (.slice ed.p ed.n ed.c)) (first | exact ⟨(HKD.out _ HK0.out).c2, (HKD.out _ HK0.out).c3⟩ | exact ⟨(HKD.out _ HK3.out).c2, (HKD.out _ HK3.out).c3⟩ | exact ⟨(HKD.out _ HK2.out).c2, (HKD.out _ HK2.out).c3⟩ | go_keep) (first
      | (go_at_call 34; (with_reducible refine (HPU.out _).mono ?_); rintro e w2 ⟨v2, rfl, ho, hb⟩; have HO2 := hidden ho; have HK2 := hidden hb; clear ho hb)
      | (refine step_append_byt _ (by rfl) _ _ 22 (by rfl) w1.heap.size 5 i0 (.int .u8 0) Tryz.underlying22 hi0 hz0 hz1 hz2 rfl _ _ (by rfl) HO2.out _ _ _ _ _ (by rfl) (HED.out.below (HBD.out.trans (HK2.out.mono HBD.out.size))) (by rfl) (by simp; omega) (by have := HK2.out.size; simp at this; omega) ?_; intro u3 w3 ho3 hg3; have HO3 := hidden ho3; have HG3 := hidden hg3; have HK3 : Hid (Below w1.drew.heap.size w1.drew w3) := hidden (HK2.out.grown hg3 HK2.out.size (fun k hk => (HO2.out.lt k hk).1)); obtain ⟨q3, n3, d3, rfl⟩ : ∃ q n d, u3 = .slice q n d := (by obtain ⟨q, d, e⟩ := HO3.out.form; exact ⟨q, _, d, e⟩); clear ho3 hg3)
      | fail)
    all_goals
      go_wp2
      go_ret2
      exact own_be (HO3.out.mono HB.out.size) HRG.out (HBD.out.trans (HK3.out.mono HBD.out.size))
  rw [if_neg h34_]
  by_cases h35_ : t = 35
  · subst h35_
    rw [if_pos (Or.inl rfl)]
    have hed := (h.a35 rfl).id
    have hsz := sz.id (Or.inl rfl)
    obtain ⟨g0, g1⟩ := f35 (Or.inl rfl)
    have hel := hed.len
    dsimp only at hed hsz
    have HED := hidden (fun W (hW : Below w1.heap.size w1 W) => (hed.below HB.out).below hW)
    have hw2 : IntKind.u8.wrap ik = ik := by rw [IntKind.wrap_u8]; omega
    have HRG := hidden (show ∀ z ∈ headL ik C.id, 0 ≤ z ∧ z ≤ 255 from rng_append (by intro z hz; simp at hz; omega) hed.rng)
    have HXL : Hid ([ik, 0, 0, 0] ++ C.id = headL ik C.id) := hidden (by show _ = [_, _, _, _] ++ _; rw [Int.emod_eq_of_lt g0 (by omega)])
    have HO4 := hidden (own_four w1 w.heap.size HB.out.size ik 0 0 0)
    have HB4 := hidden ((Below.refl w1.heap.size w1).alloc (Nat.le_refl _) (.cells #[.int .u8 ik, .int .u8 0, .int .u8 0, .int .u8 0] 5))
    have e5 := (HPV.out.below HB4.out).c5
    have hlt : w.heap.size < w1.heap.size := by rw [← hw1]; simp only [World.alloc, Array.size_push]; omega
    have hne : w.heap.size ≠ w1.heap.size := Nat.ne_of_lt hlt
    clear h f34 f35 f39 f41 sz hed hel
    go_enter Tryz.func16, Tryz.ntmps16
    go_upto_region 1 with fail
    obtain ⟨c0, c1, c2, c3, c4, c5, c6, c7, c8, c9, c10, c11, c12, c13, c14, c15, cf⟩ := HPV.out
    go_wp2_with (first
      | (at_builtin; refine wpList_append_byt _ rfl _ _ 22 rfl w.heap.size 5 i0 (.int .u8 0) Tryz.underlying22 hi0 hz0 hz1 hz2 rfl _ _ rfl HO4.out _ _ _ _ _ rfl (HED.out _ HB4.out) rfl ?c2 ?c3 ?_)
      | fail)
    case c2 => first | omega | (simp; omega)
    case c3 => have := HB.out.size; first | omega | (simp only [World.alloc, Array.size_push]; omega)
    intro u3 w3 ho3 hg3
    have HO3 := hidden (show Own w3 w.heap.size 5 u3 (headL ik C.id) by rw [← HXL.out]; exact ho3)
    have HB3 := hidden ((HB.out.alloc HB.out.size _).grown hg3 (HB.out.alloc HB.out.size _).size (fun k hk => (HO4.out.lt k hk).1))
    obtain ⟨q3, n3, d3, rfl⟩ : ∃ q n d, u3 = .slice q n d := (by obtain ⟨q, d, e⟩ := ho3.form; exact ⟨q, _, d, e⟩)
    clear ho3 hg3
    go_wp2
    go_ret2
    exact own_be HO3.out HRG.out HB3.out
  by_cases h36_ : t = 36
  · subst h36_
    rw [if_pos (Or.inr rfl)]
    have hed := (h.a36 rfl).id
    have hsz := sz.id (Or.inr rfl)
    obtain ⟨g0, g1⟩ := f35 (Or.inr rfl)
    have hel := hed.len
    dsimp only at hed hsz
    have HED := hidden (fun W (hW : Below w1.heap.size w1 W) => (hed.below HB.out).below hW)
    have hw2 : IntKind.u8.wrap ik = ik := by rw [IntKind.wrap_u8]; omega
    have HRG := hidden (show ∀ z ∈ headL ik C.id, 0 ≤ z ∧ z ≤ 255 from rng_append (by intro z hz; simp at hz; omega) hed.rng)
    have HXL : Hid ([ik, 0, 0, 0] ++ C.id = headL ik C.id) := hidden (by show _ = [_, _, _, _] ++ _; rw [Int.emod_eq_of_lt g0 (by omega)])
    have HO4 := hidden (own_four w1 w.heap.size HB.out.size ik 0 0 0)
    have HB4 := hidden ((Below.refl w1.heap.size w1).alloc (Nat.le_refl _) (.cells #[.int .u8 ik, .int .u8 0, .int .u8 0, .int .u8 0] 5))
    have e5 := (HPV.out.below HB4.out).c5
    have hlt : w.heap.size < w1.heap.size := by rw [← hw1]; simp only [World.alloc, Array.size_push]; omega
    have hne : w.heap.size ≠ w1.heap.size := Nat.ne_of_lt hlt
    clear h f34 f35 f39 f41 sz hed hel
    go_enter Tryz.func16, Tryz.ntmps16
    go_upto_region 1 with fail
    obtain ⟨c0, c1, c2, c3, c4, c5, c6, c7, c8, c9, c10, c11, c12, c13, c14, c15, cf⟩ := HPV.out
    go_wp2_with (first
      | (at_builtin; refine wpList_append_byt _ rfl _ _ 22 rfl w.heap.size 5 i0 (.int .u8 0) Tryz.underlying22 hi0 hz0 hz1 hz2 rfl _ _ rfl HO4.out _ _ _ _ _ rfl (HED.out _ HB4.out) rfl ?c2 ?c3 ?_)
      | fail)
    case c2 => first | omega | (simp; omega)
    case c3 => have := HB.out.size; first | omega | (simp only [World.alloc, Array.size_push]; omega)
    intro u3 w3 ho3 hg3
    have HO3 := hidden (show Own w3 w.heap.size 5 u3 (headL ik C.id) by rw [← HXL.out]; exact ho3)
    have HB3 := hidden ((HB.out.alloc HB.out.size _).grown hg3 (HB.out.alloc HB.out.size _).size (fun k hk => (HO4.out.lt k hk).1))
    obtain ⟨q3, n3, d3, rfl⟩ : ∃ q n d, u3 = .slice q n d := (by obtain ⟨q, d, e⟩ := ho3.form; exact ⟨q, _, d, e⟩)
    clear ho3 hg3
    go_wp2
    go_ret2
    exact own_be HO3.out HRG.out HB3.out
  rw [if_neg (by omega)]
  by_cases h39_ : t = 39
  · subst h39_
    rw [if_pos rfl]
    have hed := (h.a39 rfl).ad
    have hsz := sz.ad rfl
    obtain ⟨g0, g1⟩ := f39 rfl
    have hel := hed.len
    dsimp only at hed hsz
    have HED := hidden (fun W (hW : Below w1.heap.size w1 W) => (hed.below HB.out).below hW)
    have hw2 : IntKind.u8.wrap am = am := by rw [IntKind.wrap_u8]; omega
    have HRG := hidden (show ∀ z ∈ headL am C.ad, 0 ≤ z ∧ z ≤ 255 from rng_append (by intro z hz; simp at hz; omega) hed.rng)
    have HXL : Hid ([am, 0, 0, 0] ++ C.ad = headL am C.ad) := hidden (by show _ = [_, _, _, _] ++ _; rw [Int.emod_eq_of_lt g0 (by omega)])
    have HO4 := hidden (own_four w1 w.heap.size HB.out.size am 0 0 0)
    have HB4 := hidden ((Below.refl w1.heap.size w1).alloc (Nat.le_refl _) (.cells #[.int .u8 am, .int .u8 0, .int .u8 0, .int .u8 0] 5))
    have e5 := (HPV.out.below HB4.out).c7
    have hlt : w.heap.size < w1.heap.size := by rw [← hw1]; simp only [World.alloc, Array.size_push]; omega
    have hne : w.heap.size ≠ w1.heap.size := Nat.ne_of_lt hlt
    clear h f34 f35 f39 f41 sz hed hel
    go_enter Tryz.func16, Tryz.ntmps16
    go_upto_region 1 with fail
    obtain ⟨c0, c1, c2, c3, c4, c5, c6, c7, c8, c9, c10, c11, c12, c13, c14, c15, cf⟩ := HPV.out
    go_wp2_with (first
      | (at_builtin; refine wpList_append_byt _ rfl _ _ 22 rfl w.heap.size 5 i0 (.int .u8 0) Tryz.underlying22 hi0 hz0 hz1 hz2 rfl _ _ rfl HO4.out _ _ _ _ _ rfl (HED.out _ HB4.out) rfl ?c2 ?c3 ?_)
      | fail)
    case c2 => first | omega | (simp; omega)
    case c3 => have := HB.out.size; first | omega | (simp only [World.alloc, Array.size_push]; omega)
    intro u3 w3 ho3 hg3
    have HO3 := hidden (show Own w3 w.heap.size 5 u3 (headL am C.ad) by rw [← HXL.out]; exact ho3)
    have HB3 := hidden ((HB.out.alloc HB.out.size _).grown hg3 (HB.out.alloc HB.out.size _).size (fun k hk => (HO4.out.lt k hk).1))
    obtain ⟨q3, n3, d3, rfl⟩ : ∃ q n d, u3 = .slice q n d := (by obtain ⟨q, d, e⟩ := ho3.form; exact ⟨q, _, d, e⟩)
    clear ho3 hg3
    go_wp2
    go_ret2
    exact own_be HO3.out HRG.out HB3.out
  rw [if_neg h39_]
  by_cases h41_ : t = 41
  · subst h41_
    rw [if_pos rfl]
    have hns := (h.a41 rfl).ns
    have hnd := (h.a41 rfl).nd
    have hsn := sz.ns rfl
    have hsd := sz.nd rfl
    obtain ⟨p0, p1, q0, q1⟩ := f41 rfl
    have hel := hns.len
    have hel' := hnd.len
    dsimp only at hns hnd hsn hsd hel hel'
    by_cases h3 : 3 < np
    · rw [if_pos h3]
      clear h f34 f35 f39 f41 sz hns hnd hel hel'
      go_enter Tryz.func16, Tryz.ntmps16
      go_upto_region 1 with fail
      obtain ⟨c0, c1, c2, c3, c4, c5, c6, c7, c8, c9, c10, c11, c12, c13, c14, c15, cf⟩ := HPV.out
      go_wp2
      go_ret2
      exact ⟨none, 0, rfl, Frs.nil _ _ _ _ (by decide), HB.out⟩
    rw [if_neg h3]
    have HW := hidden (fun W => rwidth_same np W)
    obtain ⟨ZZ, hZZ⟩ : ∃ ZZ, widthN np = ZZ := ⟨_, rfl⟩
    have hz0_ : 0 ≤ ZZ ∧ ZZ ≤ 4 := by rw [← hZZ]; unfold widthN; split <;> omega
    rw [hZZ] at HW ⊢
    clear hZZ
    by_cases hnn : (ns.n : Int) ≠ ZZ
    · rw [if_pos hnn]
      have hb_ : ((ns.n : Int) != ZZ) = true := by simpa using hnn
      clear h f34 f35 f39 f41 sz hns hnd hel hel' hnn
      go_enter Tryz.func16, Tryz.ntmps16
      go_upto_region 1 with fail
      obtain ⟨c0, c1, c2, c3, c4, c5, c6, c7, c8, c9, c10, c11, c12, c13, c14, c15, cf⟩ := HPV.out
      go_upto_region 17 with fail
      go_quiet ((go_at_call 35; (with_reducible exact Calls.quiet_of_same (HW.out _))))
      go_wp2
      go_ret2
      exact ⟨none, 0, rfl, Frs.nil _ _ _ _ (by decide), HB.out.trans (drew_below ⟨_, rfl⟩)⟩
    rw [if_neg hnn]
    have hne : (ns.n : Int) = ZZ := by omega
    have hb_ : ((ns.n : Int) != ZZ) = false := by simpa using hne
    have hn4 : (ns.n : Int) ≤ 4 := by omega
    have HNS := hidden (hns.below HB.out)
    have HND := hidden (hnd.below HB.out)
    have hw2 : IntKind.u8.wrap np = np := by rw [IntKind.wrap_u8]; omega
    have hw3 : IntKind.u8.wrap (ns.n : Int) = (ns.n : Int) := by rw [IntKind.wrap_u8]; omega
    have hw4 : IntKind.u64.wrap nt = nt := wraps_u64 _ (by omega) (by omega)
    have HRG := hidden (show ∀ z ∈ noteL np nt C.ns C.nd, 0 ≤ z ∧ z ≤ 255 from rng_append (by intro z hz; simp at hz; omega) (rng_append hns.rng hnd.rng))
    have HXL : Hid (([np, (ns.n : Int)] ++ be 2 nt) ++ C.ns ++ C.nd = noteL np nt C.ns C.nd) := hidden (by
      have e1 : np % 256 = np := Int.emod_eq_of_lt p0 (by omega)
      have e2 : (ns.n : Int) % 256 = ns.n := Int.emod_eq_of_lt (by omega) (by omega)
      rw [be_two nt q0 q1, noteL, hel, e1, e2]
      simp)
    have HPU := hidden (fun W p c (h : Byt W p 2 c [np, (ns.n : Int)]) => rput_yes p 2 c _ W h (by omega) nt (by omega) 2 (by omega) (by omega))
    rw [show ((2 : Nat) : Int) = 2 from rfl] at HPU
    have hX2l : ([np, (ns.n : Int)] ++ be 2 nt).length = 4 := rfl
    generalize [np, (ns.n : Int)] ++ be 2 nt = X2 at *
    have HL2 := Is.mk hX2l
    clear hX2l
    have hlt : w.heap.size < w1.heap.size := by rw [← hw1]; simp only [World.alloc, Array.size_push]; omega
    have hne2 : w.heap.size ≠ w1.heap.size := Nat.ne_of_lt hlt
    have HELS := Is.mk hel
    have HELD := Is.mk hel'
    clear h f34 f35 f39 f41 sz hns hnd hel hel' hne hnn
    go_enter Tryz.func16, Tryz.ntmps16
    go_upto_region 1 with fail
    obtain ⟨c0, c1, c2, c3, c4, c5, c6, c7, c8, c9, c10, c11, c12, c13, c14, c15, cf⟩ := HPV.out
    go_upto_region 17 with fail
    go_quiet ((go_at_call 35; (with_reducible exact Calls.quiet_of_same (HW.out _))))
    go_upto_region 19 with fail
    generalize hwq : World.drewN w1 _ = wq
    have HQ := hidden (show Below w1.heap.size w1 wq by rw [← hwq]; exact drew_below ⟨_, rfl⟩)
    have hsq : wq.heap.size = w1.heap.size := by rw [← hwq]; rfl
    have hne3 : w.heap.size ≠ wq.heap.size := by rw [hsq]; exact hne2
    have hlt3 : w.heap.size < wq.heap.size := by rw [hsq]; exact hlt
    have HSQ := hidden hsq
    clear hwq c0 c1 c2 c3 c4 c5 c6 c7 c8 c9 c10 c11 c12 c13 c14 c15 cf hsq hne2 hlt
    have HPQ := hidden (HPV.out.below HQ.out)
    have c8 := HPQ.out.c8
    have c9 := HPQ.out.c9
    have c10 := HPQ.out.c10
    have HBY := hidden (byt_two6 wq np (ns.n : Int) ⟨p0, p1⟩ (by omega))
    have HQA := hidden (HQ.out.alloc (Nat.le_of_eq HSQ.out.symm) (.cells #[.int .u8 np, .int .u8 (ns.n : Int)] 5))
    have d10 := (HPV.out.below HQA.out).c10
    have HKD := hidden (fun W (hW : Below w1.heap.size w1 W) => HPV.out.below hW)
    go_upto_region 20 with (first
      | (go_at_call 34; (with_reducible refine (HPU.out _ _ _ HBY.out).mono ?_); rintro e w2 ⟨v2, rfl, ho, hb⟩; have HO2 := hidden ((ho.mono (by have := HQA.out.size; exact this)).drew); have HK2 := hidden (HQA.out.trans (hb.mono HQA.out.size) |>.trans (drew_below (B := w1.heap.size) (w := w2) (w' := w2.drew) ⟨1, rfl⟩)); clear ho hb)
      | fail)
    go_region_held3 (fun W => W.cell? ⟨w.heap.size, 9, none⟩ = some (.slice ns.p ns.n ns.c) ∧ W.cell? ⟨w.heap.size, 11, none⟩ = some (.slice nd.p nd.n nd.c)) (first | exact ⟨(HKD.out _ HK2.out).c9, (HKD.out _ HK2.out).c11⟩ | exact ⟨(HKD.out _ HK3.out).c9, (HKD.out _ HK3.out).c11⟩ | exact ⟨(HKD.out _ HK5.out).c9, (HKD.out _ HK5.out).c11⟩ | go_keep) (first
      | (refine step_append_byt _ (by rfl) _ _ 22 (by rfl) w1.heap.size 5 i0 (.int .u8 0) Tryz.underlying22 hi0 hz0 hz1 hz2 rfl _ _ (by rfl) HO2.out _ _ _ _ _ (by rfl) (HNS.out.below HK2.out) (by rfl) (by have := HL2.eq; omega) HK2.out.size ?_; intro u3 w3 ho3 hg3; have HO3 := hidden ho3; have HK3 := hidden (HK2.out.grown hg3 HK2.out.size (fun k hk => (HO2.out.lt k hk).1)); clear ho3 hg3)
      | (refine step_append_byt _ (by rfl) _ _ 22 (by rfl) w1.heap.size 5 i0 (.int .u8 0) Tryz.underlying22 hi0 hz0 hz1 hz2 rfl _ _ (by rfl) HO3.out _ _ _ _ _ (by rfl) (HND.out.below HK3.out) (by rfl) (by rw [List.length_append, HL2.eq, HELS.eq]; omega) HK3.out.size ?_; intro u5 w5 ho5 hg5; have HO5 := hidden ho5; have HK5 := hidden (HK3.out.grown hg5 HK3.out.size (fun k hk => (HO3.out.lt k hk).1)); obtain ⟨q3, n3, d3, rfl⟩ : ∃ q n d, u5 = .slice q n d := (by obtain ⟨q, d, e⟩ := ho5.form; exact ⟨q, _, d, e⟩); clear ho5 hg5)
      | fail)
    all_goals
      go_wp2
      go_ret2
      exact own_be ((show Own _ _ _ _ (noteL np nt C.ns C.nd) by rw [← HXL.out]; exact HO5.out).mono HB.out.size) HRG.out (HB.out.trans (HK5.out.mono HB.out.size))
  rw [if_neg h41_]
  by_cases h44_ : t = 44
  · subst h44_
    rw [if_pos (Or.inl rfl)]
    have hse := (h.a44 rfl).se
    have hr := buildS_rng C.se
    have HC := hidden (rbuild5_any se.p se.n se.c C.se w1 (hse.below HB.out) (buildS C.se).1 (buildS C.se).2 rfl)
    generalize buildS C.se = R at *
    obtain ⟨L, E⟩ := R
    have HR := hidden hr
    clear h hse hr f34 f35 f39 f41 sz
    dsimp only at HC HR ⊢
    go_enter Tryz.func16, Tryz.ntmps16
    go_upto_region 1 with fail
    obtain ⟨c0, c1, c2, c3, c4, c5, c6, c7, c8, c9, c10, c11, c12, c13, c14, c15, cf⟩ := HPV.out
    go_wp2_with (first
      | (go_at_call 33; (with_reducible refine (HC.out).mono ?_); rintro e w2 ⟨v, rfl, ho, hb⟩; have HO := hidden ho; have HB2 := hidden hb; clear ho hb)
      | fail)
    go_ret2
    exact own_be (HO.out.mono HB.out.size) HR.out (HB.out.trans (HB2.out.mono HB.out.size))
  by_cases h45_ : t = 45
  · subst h45_
    rw [if_pos (Or.inr rfl)]
    have hse := (h.a45 rfl).se
    have hr := buildS_rng C.se
    have HC := hidden (rbuild5_any se.p se.n se.c C.se w1 (hse.below HB.out) (buildS C.se).1 (buildS C.se).2 rfl)
    generalize buildS C.se = R at *
    obtain ⟨L, E⟩ := R
    have HR := hidden hr
    clear h hse hr f34 f35 f39 f41 sz
    dsimp only at HC HR ⊢
    go_enter Tryz.func16, Tryz.ntmps16
    go_upto_region 1 with fail
    obtain ⟨c0, c1, c2, c3, c4, c5, c6, c7, c8, c9, c10, c11, c12, c13, c14, c15, cf⟩ := HPV.out
    go_wp2_with (first
      | (go_at_call 33; (with_reducible refine (HC.out).mono ?_); rintro e w2 ⟨v, rfl, ho, hb⟩; have HO := hidden ho; have HB2 := hidden hb; clear ho hb)
      | fail)
    go_ret2
    exact own_be (HO.out.mono HB.out.size) HR.out (HB.out.trans (HB2.out.mono HB.out.size))
  rw [if_neg (by omega)]
  have hda := (h.aX h33_ h34_ h35_ h36_ h39_ h41_ h42 h44_ h45_).da
  have hsz := sz.da h33_ h34_ h35_ h36_ h39_ h41_ h42 h44_ h45_
  have hel := hda.len
  dsimp only at hda hsz
  have HED := hidden (hda.below HB.out)
  have HRG := hidden hda.rng
  have e33 : (t == 33) = false := by simpa using h33_
  clear h f34 f35 f39 f41 sz hel hda
  go_enter Tryz.func16, Tryz.ntmps16
  go_upto_region 1 with fail
  obtain ⟨c0, c1, c2, c3, c4, c5, c6, c7, c8, c9, c10, c11, c12, c13, c14, c15, cf⟩ := HPV.out
  go_wp2_with (first
    | (at_builtin; refine wpList_append_byt _ rfl _ _ 22 rfl w.heap.size 5 i0 (.int .u8 0) Tryz.underlying22 hi0 hz0 hz1 hz2 rfl _ _ rfl (Own.nil _ _ _) _ _ _ _ _ rfl HED.out rfl ?c2 ?c3 ?_)
    | fail)
  case c2 => first | omega | (simp; omega)
  case c3 => exact HB.out.size
  intro u3 w3 ho3 hg3
  have HO3 := hidden (show Own w3 w.heap.size 5 u3 C.da from ho3)
  have HB3 := hidden (HB.out.grown hg3 HB.out.size (nob _))
  obtain ⟨q3, n3, d3, rfl⟩ : ∃ q n d, u3 = .slice q n d := (by obtain ⟨q, d, e⟩ := ho3.form; exact ⟨q, _, d, e⟩)
  clear ho3 hg3
  go_wp2
  go_ret2
  exact own_be HO3.out HRG.out HB3.out
end Go.Proofs.YtbpmanbpmlkmnaaGreatDoor

namespace Go.Proofs.YtbpmanbpmlkmnaaGreatDoor
open Go.RowKit
set_option linter.unusedVariables false

/-- The bytes of a deletion and the first error, as the document has them. -/
def remB (k : Int) (l : List (List Int)) : List Int × Int :=
  if k < 1 ∨ 3 < k then ([], 5)
  else if k = 1 ∧ l ≠ [] then ([], 20)
  else if sizeBad (spiZ k) l ≠ spiZ k then ([], 20)
  else if k ≠ 1 ∧ l = [] then ([], 8)
  else (delL k l, 0)

set_option maxHeartbeats 6400000 in
set_option maxRecDepth 100000 in
theorem removal_any (k : Int) (p : Option Addr) (n c : Nat) (l : List Sb) (w : World) (h : RdG KSb DSb w p n c l) (hn : n ≤ 1000) :
    Calls Tryz.prog 36 #[.agg #[.int .i64 k, .slice p n c]] w (GotBE w (remB k (l.map Sb.xs)).1 (remB k (l.map Sb.xs)).2) := by
  obtain ⟨i0, hi0, hz0, hz1, hz2⟩ := info_parts Tryz.infoByte
  have HB := hidden ((Below.refl w.heap.size w).alloc (Nat.le_refl _) (.cells #[.int .i64 k, .slice p n c] 42))
  have k0 : (w.alloc (.cells #[.int .i64 k, .slice p n c] 42)).cell? ⟨w.heap.size, 0, none⟩ = some (.int .i64 k) := by go_simp
  have k1 : (w.alloc (.cells #[.int .i64 k, .slice p n c] 42)).cell? ⟨w.heap.size, 1, none⟩ = some (.slice p n c) := by go_simp
  obtain ⟨X, hX⟩ : ∃ X, l.map Sb.xs = X := ⟨_, rfl⟩
  have hXl : X.length = n := by rw [← hX, List.length_map, h.len]
  rw [hX]
  have HX := Is.mk hX
  have HXL := Is.mk hXl
  have hn0 := h.le
  have hlt : w.heap.size < (w.alloc (.cells #[.int .i64 k, .slice p n c] 42)).heap.size := by simp only [World.alloc, Array.size_push]; omega
  obtain ⟨w1, hw1⟩ : ∃ w1, w.alloc (.cells #[.int .i64 k, .slice p n c] 42) = w1 := ⟨_, rfl⟩
  rw [hw1] at HB k0 k1 hlt
  have HRD := hidden (fun W (hW : Below w1.heap.size w1 W) => (h.below HB.out).below hW)
  have HKK := hidden (fun W (hW : Below w1.heap.size w1 W) => (⟨cell_below hW _ _ k0, cell_below hW _ _ k1⟩ : W.cell? ⟨w.heap.size, 0, none⟩ = some (.int .i64 k) ∧ W.cell? ⟨w.heap.size, 1, none⟩ = some (.slice p n c)))
  clear h hX hXl
  by_cases hk1 : k < 1
  · rw [show remB k X = ([], 5) from by unfold remB; rw [if_pos (Or.inl hk1)]]
    go_enter Tryz.func36, Tryz.ntmps36
    go_wp2
    go_ret2
    exact ⟨none, 0, rfl, Frs.nil _ _ none 0 (by decide), HB.out⟩
  by_cases hk3 : 3 < k
  · rw [show remB k X = ([], 5) from by unfold remB; rw [if_pos (Or.inr hk3)]]
    go_enter Tryz.func36, Tryz.ntmps36
    go_wp2
    go_ret2
    exact ⟨none, 0, rfl, Frs.nil _ _ none 0 (by decide), HB.out⟩
  have HW := hidden (fun W => rwidth_same k W)
  rw [width_spi k (by omega) (by omega)] at HW
  obtain ⟨z, hz⟩ : ∃ z, spiZ k = z := ⟨_, rfl⟩
  have hz4 : z ≤ 4 := by rw [← hz]; exact spiZ_le k
  have hrem : remB k X = if k = 1 ∧ X ≠ [] then ([], 20) else if sizeBad z X ≠ z then ([], 20) else if k ≠ 1 ∧ X = [] then ([], 8) else (delL k X, 0) := by unfold remB; rw [if_neg (by omega), hz]
  have hdel : delL k X = [k % 256, (sizeBad z X : Int) % 256, (n : Int) / 256 % 256, (n : Int) % 256] ++ X.flatten := by unfold delL; rw [hz, HXL.eq]
  have hnil : X = [] ↔ n = 0 := by rw [← HXL.eq]; exact List.length_eq_zero_iff.symm
  have HD := hidden (sizeBad_drop z X)
  rw [hz] at HW
  have HREM := Is.mk hrem
  have HDEL := Is.mk hdel
  clear hz hrem hdel
  by_cases hs : k = 1 ∧ n ≠ 0
  · obtain ⟨rfl, hn1⟩ := hs
    rw [HREM.eq, if_pos ⟨rfl, fun e => hn1 (hnil.1 e)⟩]
    have hb_ : ((n : Int) != 0) = true := by simp; omega
    clear hnil
    go_enter Tryz.func36, Tryz.ntmps36
    go_wp2_with (first
      | (go_at_call 35; (with_reducible refine (HW.out _).mono ?_); rintro e w2 ⟨rfl, hx⟩; replace hx := hx.symm; subst hx)
      | fail)
    go_ret2
    exact ⟨none, 0, rfl, Frs.nil _ _ none 0 (by decide), HB.out⟩
  have hXn : ¬ (k = 1 ∧ X ≠ []) := fun e => hs ⟨e.1, fun e2 => e.2 (hnil.2 e2)⟩
  rw [if_neg hXn] at HREM
  have hw2 : IntKind.u8.wrap k = k := by rw [IntKind.wrap_u8]; omega
  have hw3 : IntKind.u8.wrap (z : Int) = (z : Int) := by rw [IntKind.wrap_u8]; omega
  have hw4 : IntKind.u64.wrap (n : Int) = (n : Int) := wraps_u64 _ (by omega) (by omega)
  have HA := hidden ((Below.refl w1.heap.size w1).alloc (Nat.le_refl _) (.cells #[.int .u8 k, .int .u8 (z : Int)] 5))
  have d1 := (HKK.out _ HA.out).2
  have HPU := hidden ((rput_yes _ 2 _ _ _ (byt_two6 w1 k (z : Int) (by omega) (by omega)) (by omega) (n : Int) (by omega) 2 (by omega) (by omega)))
  rw [show ((2 : Nat) : Int) = 2 from rfl] at HPU
  have hX0 : [k, (z : Int)] ++ be 2 n = [k % 256, (z : Int) % 256, (n : Int) / 256 % 256, (n : Int) % 256] := by
    rw [be_two n (by omega) (by omega), Int.emod_eq_of_lt (a := k) (by omega) (by omega), Int.emod_eq_of_lt (a := (z : Int)) (by omega) (by omega)]
    rfl
  rw [hX0] at HPU
  clear hX0 hXn
  obtain ⟨X0, hX0⟩ : ∃ X0, [k % 256, (z : Int) % 256, (n : Int) / 256 % 256, (n : Int) % 256] = X0 := ⟨_, rfl⟩
  have hX04 : X0.length = 4 := by rw [← hX0]; rfl
  have hX0r : ∀ x ∈ X0, 0 ≤ x ∧ x ≤ 255 := by rw [← hX0]; intro x hx; simp at hx; omega
  have HX0 := Is.mk hX0
  have HX04 := Is.mk hX04
  have HX0R := hidden hX0r
  rw [hX0] at HPU
  have HN := hidden hnil
  clear hX0 hX04 hX0r hnil
  by_cases h1 : k = 1
  · obtain rfl : k = 1 := h1
    have h0 : n = 0 := by omega
    have hb_ : ((n : Int) != 0) = false := by simp; omega
    have hge : ¬ (0 : Int) < (n : Int) := by omega
    have HRE := Is.mk (show remB 1 X = (delL 1 X, 0) by
      have hx : X = [] := HN.out.2 h0
      rw [HREM.eq, if_neg (by rw [hx]; simp [sizeBad]), if_neg (by simp)])
    have HLL : Hid (X0 = delL 1 X) := hidden (by rw [HDEL.eq, HN.out.2 h0, ← HX0.eq]; simp [sizeBad])
    have HRG := hidden (show ∀ x ∈ delL 1 X, 0 ≤ x ∧ x ≤ 255 by rw [← HLL.out]; exact HX0R.out)
    clear hs h0
    go_enter Tryz.func36, Tryz.ntmps36
    go_wp2_with (first
      | (go_at_call 35; (with_reducible refine (HW.out _).mono ?_); rintro e w2 ⟨rfl, hx⟩; replace hx := hx.symm; subst hx)
      | (go_at_call 34; (with_reducible refine (HPU.out).mono ?_); rintro e w2 ⟨v2, rfl, ho, hb⟩; have HO2 := hidden (ho.mono HA.out.size); have HK2 := hidden (HA.out.trans (hb.mono HA.out.size)); have hc2 := (HKK.out _ HK2.out); obtain ⟨q2, d2, rfl⟩ : ∃ q d, v2 = .slice q 4 d := (by obtain ⟨q, d, e⟩ := HO2.out.form; rw [HX04.eq] at e; exact ⟨q, d, e⟩); obtain ⟨e0, e1⟩ := hc2; clear ho hb)
      | fail)
    go_loopw [5, 6] (fun v i wr => v = .slice q2 4 d2 ∧ i = .int .i64 0 ∧ wr = w2) (fun _ _ _ => 0)
    case atStart => exact ⟨rfl, rfl, rfl⟩
    case round =>
      obtain ⟨rfl, rfl, hx⟩ := hrel
      replace hx := hx.symm
      subst hx
      go_wp2
      go_ret2
      refine (?_ : GotBE w (remB 1 X).1 (remB 1 X).2 _ _)
      rw [HRE.eq]
      exact own_be (show Own _ _ _ _ (delL 1 X) by rw [← HLL.out]; exact HO2.out.mono HB.out.size) HRG.out (HB.out.trans (HK2.out.mono HB.out.size))
  have hb1 : (k == 1) = false := by simpa using h1
  have hb2 : (k != 1) = true := by simpa using h1
  clear hs
  go_enter Tryz.func36, Tryz.ntmps36
  go_wp2_with (first
    | (go_at_call 35; (with_reducible refine (HW.out _).mono ?_); rintro e w2 ⟨rfl, hx⟩; replace hx := hx.symm; subst hx)
    | (go_at_call 34; (with_reducible refine (HPU.out).mono ?_); rintro e w2 ⟨v2, rfl, ho, hb⟩; have HO2 := hidden (ho.mono HA.out.size); have HK2 := hidden (HA.out.trans (hb.mono HA.out.size)); clear ho hb)
    | fail)
  clear d1
  go_loopw [5, 6] (fun v i wr => ∃ j : Nat, j ≤ n ∧ i = .int .i64 j ∧ Hid (∀ x ∈ X.take j, x.length = z) ∧ Own wr w1.heap.size 5 v (X0 ++ (X.take j).flatten) ∧ Below w1.heap.size w1 wr) (fun _ i _ => n - (intOf i).toNat)
  case atStart => exact ⟨0, by omega, rfl, hidden (by simp), by simpa using HO2.out, HK2.out⟩
  case round =>
    obtain ⟨j, hj, rfl, ha, ho, hb⟩ := hrel
    clear HO2 HK2
    rename World => wr
    have hc := HKK.out _ hb
    obtain ⟨c0, c1⟩ := hc
    have HO := hidden ho
    have HK := hidden hb
    by_cases hlt : j < n
    · have hlt' : (j : Int) < n := by omega
      obtain ⟨g, y, rfl, hly, hld, hyb, hcell⟩ := (HRD.out _ hb).sb_cons hlt
      have hyl := hyb.len
      have hXj : X.drop j = y.xs :: X.drop (j + 1) := by rw [← HX.eq, ← List.map_drop, hld, List.map_cons, List.map_drop]
      by_cases hyz : y.n = z
      · have hne : ((y.n : Int) != (z : Int)) = false := by simp; omega
        have hjx : j < X.length := by rw [HXL.eq]; exact hlt
        have hxj : X[j] = y.xs := by
          have := congrArg (fun l => l[0]?) hXj
          simpa [List.getElem?_drop, hjx] using this
        have HA2 : Hid (∀ x ∈ X.take (j + 1), x.length = z) := by
          intro x hx
          rw [List.take_succ_eq_append_getElem hjx, List.mem_append, List.mem_singleton] at hx
          rcases hx with hx | rfl
          · exact ha.out x hx
          · rw [hxj]; omega
        have HT : Hid ((X0 ++ (X.take j).flatten) ++ y.xs = X0 ++ (X.take (j + 1)).flatten) := hidden (by
          rw [List.take_succ_eq_append_getElem hjx, hxj, List.flatten_append, List.append_assoc]; simp)
        have hfl : (X0 ++ (X.take j).flatten).length ≤ 4 + 4000 := by
          rw [List.length_append, HX04.eq, flatten_len z _ ha.out, List.length_take]
          have : min j X.length * z ≤ 1000 * 4 := Nat.mul_le_mul (by omega) hz4
          omega
        have HFL := hidden hfl
        have HY := hidden hyb
        generalize X0 ++ (X.take j).flatten = P0 at *
        have HYZ := Is.mk hyz
        clear hly hld hyb hXj ha hjx hxj hfl ho hb hyl hyz
        go_wp2_with (first
          | (at_builtin; refine wpList_append_byt _ rfl _ _ 22 rfl w1.heap.size 5 i0 (.int .u8 0) Tryz.underlying22 hi0 hz0 hz1 hz2 rfl _ _ rfl HO.out _ _ _ _ _ rfl HY.out rfl ?c2 ?c3 ?_)
          | fail)
        case c2 => have := HFL.out; have := HYZ.eq; omega
        case c3 => exact HK.out.size
        intro u3 w3 ho3 hg3
        have HO3 := hidden ho3
        have HK3 := hidden (HK.out.grown hg3 HK.out.size (fun k hk => (HO.out.lt k hk).1))
        clear ho3 hg3
        go_wp2
        go_roundw
        case rel => exact ⟨j + 1, by omega, by go_num, HA2, by rw [← HT.out]; exact HO3.out, HK3.out⟩
        case measure => simp [intOf]; omega
      · have hne : ((y.n : Int) != (z : Int)) = true := by simp; omega
        have hres : sizeBad z X ≠ z := by
          rw [← HD.out j ha.out, hXj, sizeBad, if_neg (by omega), hyl]
          exact hyz
        have HRE := Is.mk (show remB k X = ([], 20) by rw [HREM.eq, if_pos hres])
        clear hly hld hyb hXj ha hres ho hb
        go_wp2
        go_ret2
        refine (?_ : GotBE w (remB k X).1 (remB k X).2 _ _)
        rw [HRE.eq]
        exact ⟨none, 0, rfl, Frs.nil _ _ none 0 (by decide), HB.out.trans (HK.out.mono HB.out.size)⟩
    · obtain rfl : j = n := by omega
      have hge : ¬ (j : Int) < j := by omega
      have hres : sizeBad z X = z := by rw [← HD.out j ha.out, List.drop_of_length_le (by rw [HXL.eq]; exact Nat.le_refl _)]; rfl
      have hre : remB k X = if k ≠ 1 ∧ X = [] then ([], 8) else (delL k X, 0) := by rw [HREM.eq, if_neg (by rw [hres]; simp)]
      have htk : X.take j = X := List.take_of_length_le (by rw [HXL.eq]; exact Nat.le_refl _)
      rw [htk] at ho HO
      by_cases hj0 : j = 0
      · have hb3 : ((j : Int) == 0) = true := by simp; omega
        rw [if_pos ⟨h1, HN.out.2 hj0⟩] at hre
        have HRE := Is.mk hre
        clear ha hres ho hb htk hre
        go_wp2
        go_ret2
        refine (?_ : GotBE w (remB k X).1 (remB k X).2 _ _)
        rw [HRE.eq]
        exact ⟨none, 0, rfl, Frs.nil _ _ none 0 (by decide), HB.out.trans (HK.out.mono HB.out.size)⟩
      have hb3 : ((j : Int) == 0) = false := by simp; omega
      rw [if_neg (fun e => hj0 (HN.out.1 e.2))] at hre
      have HRE := Is.mk hre
      have hall := sizeBad_all z X hres
      have HLL : Hid (X0 ++ X.flatten = delL k X) := hidden (by rw [HDEL.eq, hres, ← HX0.eq])
      obtain ⟨q, d, rfl⟩ := ho.form
      have hfl : (X0 ++ X.flatten).length ≤ 4 + 4000 := by
        rw [List.length_append, HX04.eq, flatten_len z _ hall, HXL.eq]
        have : j * z ≤ 1000 * 4 := Nat.mul_le_mul (by omega) hz4
        omega
      have hgt : ¬ (65531 : Int) < ((X0 ++ X.flatten).length : Int) := by omega
      have HR := hidden hall
      have hO : Hid (Own wr w1.heap.size 5 (.slice q (X0 ++ X.flatten).length d) (delL k X)) := hidden (by rw [← HLL.out]; exact ho)
      have hXr : ∀ x ∈ X.flatten, 0 ≤ x ∧ x ≤ 255 := by
        intro x hx
        obtain ⟨b, hb', hx⟩ := List.mem_flatten.1 hx
        rw [← HX.eq] at hb'
        obtain ⟨s, hs, rfl⟩ := List.mem_map.1 hb'
        exact ((HRD.out _ hb).ok s hs).rng x hx
      have HRG := hidden (show ∀ x ∈ delL k X, 0 ≤ x ∧ x ≤ 255 by rw [← HLL.out]; exact rng_append HX0R.out hXr)
      generalize (X0 ++ X.flatten).length = N at *
      clear ha hres ho hb htk hall hfl HO hre hXr
      go_wp2
      go_ret2
      refine (?_ : GotBE w (remB k X).1 (remB k X).2 _ _)
      rw [HRE.eq]
      exact own_be (hO.out.mono HB.out.size) HRG.out (HB.out.trans (HK.out.mono HB.out.size))
end Go.Proofs.YtbpmanbpmlkmnaaGreatDoor

namespace Go.Proofs.YtbpmanbpmlkmnaaGreatDoor
open Go.RowKit
set_option linter.unusedVariables false

theorem parseE_X (t : Int) (ht : Other t) (xs : List Int) : parseE t xs = 0 := by
  obtain ⟨h33, h34, h35, h36, h39, h40, h41, h42, h44, h45⟩ := ht
  unfold parseE
  rw [if_neg h33, if_neg h34, if_neg h35, if_neg h36, if_neg h39, if_neg h40, if_neg h41, if_neg h42, if_neg h44, if_neg h45]
theorem pk_X (t : Int) (ht : Other t) (p : Option Addr) (n c : Nat) (xs : List Int) (cr : Bool) (w : World) (h : Byt w p n c xs) (hn : n ≤ 1048576) :
    Calls Tryz.prog 10 #[.agg #[.int .i64 t, .bool cr, .slice p n c]] w (ParsedV w t (parseE t xs) (gdK t xs)) := by
  rw [parseE_X t ht]
  refine pparse_X t ht p n c xs cr _ (gdK t xs) w h (fun W hW => (data_read p n c xs W hW (by omega)).mono ?_)
  obtain ⟨h33, h34, h35, h36, h39, h40, h41, h42, h44, h45⟩ := ht
  rintro e w' ⟨x, he, hb, hg⟩
  refine ⟨x, he, hb, fun h0 => ?_⟩
  obtain h2 := hg h0
  exact ⟨{ Cn with da := xs }, fun W hW => ⟨fun e => absurd e h33, fun e => absurd e h34, fun e => absurd e h35, fun e => absurd e h36, fun e => absurd e h39, fun e => absurd e h41, fun e => absurd e h42, fun e => absurd e h44, fun e => absurd e h45, fun _ _ _ _ _ _ _ _ _ => ⟨Frs.kp h2 hW⟩⟩,
    ⟨fun e => absurd e h33, fun e => absurd e h34, fun e => absurd e (by omega), fun e => absurd e h39, fun e => absurd e h41, fun e => absurd e h42, fun e => absurd e (by omega), fun _ _ _ _ _ _ _ _ _ => rfl⟩⟩
theorem pk_all (t : Int) (p : Option Addr) (n c : Nat) (xs : List Int) (cr : Bool) (w : World) (h : Byt w p n c xs) (hn : n ≤ 1048576) :
    Calls Tryz.prog 10 #[.agg #[.int .i64 t, .bool cr, .slice p n c]] w (ParsedV w t (parseE t xs) (gdK t xs)) := by
  by_cases ht : Kind12 t
  · exact pk_any t ht p n c xs cr w h hn
  · exact pk_X t (by unfold Kind12 at ht; unfold Other; omega) p n c xs cr w h hn
end Go.Proofs.YtbpmanbpmlkmnaaGreatDoor
