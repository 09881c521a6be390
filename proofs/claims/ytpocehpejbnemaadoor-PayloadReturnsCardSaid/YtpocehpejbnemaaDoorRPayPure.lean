/-
  The bodies of payloads, as functions: what is written is read again, and what is read is written with as many bytes.
-/
import Derived.Test.YtpocehpejbnemaaDoorRPayAll
namespace Go.Proofs.YtpocehpejbnemaaDoor
open Go.RowKit
set_option linter.unusedVariables false

theorem attr_len (a : List Int) (h : (attrV a).2 = true) : (a.length = 0 ∧ (attrV a).1 = 0) ∨ (a.length = 4 ∧ (attrV a).1 ≠ 0) := by
  unfold attrV at h ⊢
  by_cases h0 : a.length = 0
  · rw [if_pos h0] at h ⊢
    exact Or.inl ⟨h0, rfl⟩
  · rw [if_neg h0] at h ⊢
    by_cases h1 : a.length ≠ 4 ∨ w2 a 0 ≠ 32782 ∨ w2 a 2 = 0
    · rw [if_pos h1] at h
      cases h
    · rw [if_neg h1]
      refine Or.inr ⟨by omega, ?_⟩
      show w2 a 2 ≠ 0
      omega
theorem trs_len : ∀ (f : Nat) (xs : List Int) (ts : List Tr), trsF f xs = some ts → (encTs ts).length = xs.length
  | 0, xs, ts, h => by
    unfold trsF at h
    by_cases h0 : xs.length = 0
    · rw [if_pos h0] at h
      cases h
      simpa [encTs] using h0.symm
    · rw [if_neg h0] at h
      cases h
  | f + 1, xs, ts, h => by
    rw [trsF] at h
    by_cases h0 : xs.length = 0
    · rw [if_pos h0] at h
      cases h
      simpa [encTs] using h0.symm
    rw [if_neg h0] at h
    by_cases h8 : xs.length < 8
    · rw [if_pos h8] at h
      cases h
    rw [if_neg h8] at h
    by_cases hm : w2 xs 2 < 8 ∨ (xs.length : Int) < w2 xs 2
    · rw [if_pos hm] at h
      cases h
    rw [if_neg hm] at h
    by_cases ha : xs.getD 0 0 ≠ (if (xs.length : Int) = w2 xs 2 then 0 else 3) ∨ (attrV ((xs.drop 8).take ((w2 xs 2).toNat - 8))).2 = false
    · rw [if_pos ha] at h
      cases h
    rw [if_neg ha] at h
    rcases hr : trsF f (xs.drop (w2 xs 2).toNat) with _ | ts'
    · rw [hr] at h; cases h
    rw [hr] at h
    simp only [Option.map_some, Option.some.injEq] at h
    subst h
    have ih := trs_len f _ ts' hr
    have hat : (attrV ((xs.drop 8).take ((w2 xs 2).toNat - 8))).2 = true := by
      cases hb : (attrV ((xs.drop 8).take ((w2 xs 2).toNat - 8))).2
      · exact absurd (Or.inr hb) ha
      · rfl
    have hl := attr_len _ hat
    rw [List.length_take, List.length_drop] at hl
    rw [List.length_drop] at ih
    have he := encT_len (if ts'.length = 0 then 0 else 3) ⟨xs.getD 4 0, w2 xs 6, (attrV ((xs.drop 8).take ((w2 xs 2).toNat - 8))).1⟩
    unfold lenT at he
    simp only at he
    rw [encTs, List.length_append, ih]
    generalize (if ts'.length = 0 then (0 : Int) else 3) = mo at he ⊢
    rcases hl with ⟨h1, h2⟩ | ⟨h1, h2⟩
    · rw [if_neg (by rw [h2]; simp)] at he; omega
    · rw [if_pos h2] at he; omega
theorem prs_len : ∀ (f : Nat) (xs : List Int) (l : List Pr), (∀ z ∈ xs, 0 ≤ z ∧ z ≤ 255) → prsF f xs = some l → (encPs l).length = xs.length
  | 0, xs, l, _, h => by
    unfold prsF at h
    by_cases h0 : xs.length = 0
    · rw [if_pos h0] at h
      cases h
      simpa [encPs] using h0.symm
    · rw [if_neg h0] at h
      cases h
  | f + 1, xs, l, hrng, h => by
    rw [prsF] at h
    by_cases h0 : xs.length = 0
    · rw [if_pos h0] at h
      cases h
      simpa [encPs] using h0.symm
    rw [if_neg h0] at h
    by_cases h8 : xs.length < 8
    · rw [if_pos h8] at h
      cases h
    rw [if_neg h8] at h
    by_cases hm : w2 xs 2 < 8 ∨ (xs.length : Int) < w2 xs 2
    · rw [if_pos hm] at h
      cases h
    rw [if_neg hm] at h
    by_cases ha : xs.getD 0 0 ≠ (if (xs.length : Int) = w2 xs 2 then 0 else 2) ∨ w2 xs 2 < 8 + xs.getD 6 0
    · rw [if_pos ha] at h
      cases h
    rw [if_neg ha] at h
    have h6 := rng_getD hrng 6
    have hb6 : ¬ w2 xs 2 < 8 + xs.getD 6 0 := fun e => ha (Or.inr e)
    clear ha
    rcases ht : trsV ((xs.take (w2 xs 2).toNat).drop (8 + (xs.getD 6 0).toNat)) with _ | ts
    · rw [ht] at h; cases h
    rw [ht] at h
    simp only at h
    by_cases h7 : (ts.length : Int) ≠ xs.getD 7 0
    · rw [if_pos h7] at h
      cases h
    rw [if_neg h7] at h
    rcases hr : prsF f (xs.drop (w2 xs 2).toNat) with _ | l'
    · rw [hr] at h; cases h
    rw [hr] at h
    simp only [Option.map_some, Option.some.injEq] at h
    subst h
    have ih := prs_len f _ l' (rng_drop hrng _) hr
    have ht2 := trs_len _ _ ts ht
    rw [List.length_drop, List.length_take] at ht2
    rw [List.length_drop] at ih
    rw [encPs, List.length_append, encP_len, ih]
    unfold lenP
    simp only [List.length_take, List.length_drop]
    rw [ht2]
    omega
theorem oneS_len (xs : List Int) (s : Sl) (k : Nat) (h : oneS xs = some (s, k)) : (encO s).length = k ∧ k ≤ xs.length := by
  unfold oneS at h
  split at h
  · cases h
  split at h
  · rename_i h1
    simp only [Option.some.injEq, Prod.mk.injEq] at h
    obtain ⟨rfl, rfl⟩ := h
    rw [encO_len]
    exact ⟨rfl, h1.2.2⟩
  split at h
  · rename_i h1
    simp only [Option.some.injEq, Prod.mk.injEq] at h
    obtain ⟨rfl, rfl⟩ := h
    rw [encO_len]
    exact ⟨rfl, h1.2.2⟩
  · cases h
theorem many_len : ∀ (n : Nat) (xs : List Int) (l : List Sl), manyS n xs = some l → (encL l).length = xs.length ∧ l.length = n
  | 0, xs, l, h => by
    unfold manyS at h
    split at h
    · rename_i h0
      cases h
      exact ⟨by simpa [encL] using h0.symm, rfl⟩
    · cases h
  | n + 1, xs, l, h => by
    unfold manyS at h
    split at h
    · cases h
    · rename_i s k h1
      rcases hr : manyS n (xs.drop k) with _ | l'
      · rw [hr] at h; cases h
      rw [hr] at h
      simp only [Option.map_some, Option.some.injEq] at h
      subst h
      obtain ⟨i1, i2⟩ := many_len n _ l' hr
      obtain ⟨o1, o2⟩ := oneS_len xs s k h1
      rw [List.length_drop] at i1
      rw [encL, List.length_append, o1, i1, List.length_cons, i2]
      exact ⟨by omega, rfl⟩
/-- Proposals that were read are written with as many bytes. -/
theorem propBack (xs : List Int) (hr : ∀ z ∈ xs, 0 ≤ z ∧ z ≤ 255) (l : List Pr) (h : parseP xs = (l, 0)) : buildP l = (encPs l, 0) ∧ (encPs l).length = xs.length ∧ checkP l = 0 := by
  unfold parseP at h
  split at h
  · simp at h
  rcases hp : prsV xs with _ | l'
  · rw [hp] at h; simp at h
  rw [hp] at h
  simp only at h
  split at h
  · rename_i hc
    simp only [Prod.mk.injEq] at h
    exact absurd h.2 hc
  · rename_i hc
    simp only [Prod.mk.injEq, and_true] at h
    subst h
    have hc0 : checkP l' = 0 := by omega
    refine ⟨?_, prs_len _ _ _ hr hp, hc0⟩
    unfold buildP
    rw [hc0, if_neg (by simp)]
/-- Selectors that were read are written with as many bytes. -/
theorem selBack (xs : List Int) (hr : ∀ z ∈ xs, 0 ≤ z ∧ z ≤ 255) (l : List Sl) (h : parseS xs = (l, 0)) : buildS l = ([(l.length : Int), 0, 0, 0] ++ encL l, 0) ∧ 4 + (encL l).length = xs.length ∧ errL l = 0 ∧ 1 ≤ l.length ∧ l.length ≤ 16 := by
  unfold parseS at h
  split at h
  · simp at h
  split at h
  · simp at h
  split at h
  · simp at h
  rename_i h4 hz h16
  have h0 := rng_getD hr 0
  rcases hp : manyS (xs.getD 0 0).toNat (xs.drop 4) with _ | l'
  · rw [hp] at h; simp at h
  rw [hp] at h
  simp only at h
  split at h
  · rename_i hc
    simp only [Prod.mk.injEq] at h
    exact absurd h.2 hc
  · rename_i hc
    simp only [Prod.mk.injEq, and_true] at h
    subst h
    obtain ⟨m1, m2⟩ := many_len _ _ _ hp
    rw [List.length_drop] at m1
    have hc0 : errL l' = 0 := by omega
    refine ⟨?_, by omega, hc0, by omega, by omega⟩
    unfold buildS
    rw [if_neg (by omega), if_neg (by omega), hc0, if_neg (by simp)]

theorem errL_all : ∀ (l : List Sl), (∀ s ∈ l, FitS s) → errL l = 0 → ∀ s ∈ l, GoodS s
  | [], _, _ => fun s hs => by cases hs
  | s :: l, hf, h => by
    unfold errL at h
    split at h
    · rename_i hc
      exact absurd h hc
    · rename_i hc
      intro z hz
      rcases List.mem_cons.1 hz with rfl | hz
      · exact good_of_check (hf z (by simp)) (by omega)
      · exact errL_all l (fun s hs => hf s (by simp [hs])) h z hz
theorem flat_get (z : Nat) : ∀ (X : List (List Int)), (∀ x ∈ X, x.length = z) → ∀ (i : Nat) (hi : i < X.length), (X.flatten.drop (i * z)).take z = X[i]
  | [], _, i, hi => by simp at hi
  | x :: X, h, 0, _ => by
    have h1 := h x (by simp)
    rw [Nat.zero_mul, List.drop_zero, List.flatten_cons, List.getElem_cons_zero]
    rw [List.take_left' h1]
  | x :: X, h, i + 1, hi => by
    have h1 := h x (by simp)
    rw [List.flatten_cons, show (i + 1) * z = x.length + i * z by rw [Nat.add_mul, h1]; omega, ← List.drop_drop, List.drop_left, List.getElem_cons_succ]
    exact flat_get z X (fun y hy => h y (by simp [hy])) i (by simpa using hi)
theorem spisL_flat (z : Nat) (X : List (List Int)) (h : ∀ x ∈ X, x.length = z) : spisL X.flatten z X.length = X := by
  apply List.ext_getElem (by simp [spisL])
  intro i h1 h2
  simp only [spisL, List.getElem_map, List.getElem_range]
  exact flat_get z X h i h2
theorem deleteE_z (k s t : Int) (h : deleteE k s t = 0) : s = (spiZ k : Int) ∧ (k = 1 ∨ k = 2 ∨ k = 3) ∧ (k = 1 → t = 0) := by
  unfold deleteE at h
  split at h
  · exact absurd h (by decide)
  · split at h
    · rename_i h1 h2
      refine ⟨h2.1, by omega, fun e => ?_⟩
      by_cases ht : t = 0
      · exact ht
      · exact absurd ⟨e, ht⟩ h2.2
    · exact absurd h (by decide)
/-- What is written is read again. -/
theorem build_parse (x : Pv) (C : Pc) (w : World) (h : PvRk w x C) (L : List Int) (hb : buildB x C = (L, 0)) (hL : L.length ≤ 65531) (hk : x.t = 33 ∨ x.t = 34 ∨ x.t = 35 ∨ x.t = 36 ∨ x.t = 39 ∨ x.t = 40 ∨ x.t = 41 ∨ x.t = 42 ∨ x.t = 44 ∨ x.t = 45 ∨ x.t = 37 ∨ x.t = 43) :
    parseE x.t L = 0 ∧ ∀ y D, y.t = x.t → RdAs x.t L y D → sameV y D x C = true := by
  unfold buildB at hb
  rcases hk with e | e | e | e | e | e | e | e | e | e | e | e
  · -- proposals
    rw [if_pos e] at hb
    have hc : checkP (C.pr.map PrP.pr) = 0 := by
      unfold buildP at hb
      split at hb
      · rename_i hc
        simp only [Prod.mk.injEq] at hb
        exact absurd hb.2 hc
      · omega
    have hb2 : L = encPs (C.pr.map PrP.pr) := by
      unfold buildP at hb
      rw [hc, if_neg (by simp)] at hb
      simp only [Prod.mk.injEq, and_true] at hb
      exact hb.symm
    have hp := parse_build hc
    rw [← hb2] at hp
    refine ⟨by rw [e]; show (parseP L).2 = 0; rw [hp], fun y D hy hd => ?_⟩
    have h1 := hd.a33 e
    rw [hp] at h1
    unfold sameV
    rw [hy, e]
    simp [h1]
  · -- key exchanges
    rw [if_neg (by rw [e]; decide), if_pos e] at hb
    simp only [Prod.mk.injEq] at hb
    obtain ⟨rfl, hE⟩ := hb
    have hl := (h.a34 e).ed.len
    have hg : 0 ≤ x.eg ∧ x.eg ≤ 65535 := by
      unfold exchE at hE
      split at hE
      · exact absurd hE (by decide)
      · omega
    have hw : x.eg / 256 % 256 * 256 + x.eg % 256 = x.eg := by omega
    have hlen : (exchL x.eg C.ed).length = 4 + C.ed.length := by simp [exchL]; omega
    have n0 : nthB (exchL x.eg C.ed) 0 = x.eg / 256 % 256 := rfl
    have n1 : nthB (exchL x.eg C.ed) 1 = x.eg % 256 := rfl
    have dr : (exchL x.eg C.ed).drop 4 = C.ed := rfl
    refine ⟨?_, fun y D hy hd => ?_⟩
    · rw [e]
      show exchangeE (exchL x.eg C.ed) (exchL x.eg C.ed).length = 0
      unfold exchangeE
      rw [n0, n1, hw, hlen, if_neg (by omega), show 4 + C.ed.length - 4 = x.ed.n by omega]
      exact hE
    · obtain ⟨h1, h2⟩ := hd.a34 e
      rw [n0, n1, hw] at h1
      rw [dr] at h2
      unfold sameV
      rw [hy, e]
      simp [h1, h2]
  · -- identities
    rw [if_neg (by rw [e]; decide), if_neg (by rw [e]; decide), if_pos e] at hb
    simp only [Prod.mk.injEq] at hb
    obtain ⟨rfl, hE⟩ := hb
    have hl := (h.a35 e).id.len
    have hg : x.ik % 256 = x.ik := by
      have := idE_cases _ _ _ hE
      omega
    have hlen : (headL x.ik C.id).length = 4 + C.id.length := by simp [headL]; omega
    have n0 : nthB (headL x.ik C.id) 0 = x.ik % 256 := rfl
    have dr : (headL x.ik C.id).drop 4 = C.id := rfl
    refine ⟨?_, fun y D hy hd => ?_⟩
    · rw [e]
      show identE (headL x.ik C.id) (headL x.ik C.id).length = 0
      unfold identE
      rw [n0, hg, hlen, if_neg (by omega), show 4 + C.id.length - 4 = x.id.n by omega]
      exact hE
    · obtain ⟨h1, h2⟩ := hd.a35 (Or.inl e)
      rw [n0, hg] at h1
      rw [dr] at h2
      unfold sameV
      rw [hy, e]
      simp [h1, h2]
  · -- identities
    rw [if_neg (by rw [e]; decide), if_neg (by rw [e]; decide), if_neg (by rw [e]; decide), if_pos e] at hb
    simp only [Prod.mk.injEq] at hb
    obtain ⟨rfl, hE⟩ := hb
    have hl := (h.a36 e).id.len
    have hg : x.ik % 256 = x.ik := by
      have := idE_cases _ _ _ hE
      omega
    have hlen : (headL x.ik C.id).length = 4 + C.id.length := by simp [headL]; omega
    have n0 : nthB (headL x.ik C.id) 0 = x.ik % 256 := rfl
    have dr : (headL x.ik C.id).drop 4 = C.id := rfl
    refine ⟨?_, fun y D hy hd => ?_⟩
    · rw [e]
      show identE (headL x.ik C.id) (headL x.ik C.id).length = 0
      unfold identE
      rw [n0, hg, hlen, if_neg (by omega), show 4 + C.id.length - 4 = x.id.n by omega]
      exact hE
    · obtain ⟨h1, h2⟩ := hd.a35 (Or.inr e)
      rw [n0, hg] at h1
      rw [dr] at h2
      unfold sameV
      rw [hy, e]
      simp [h1, h2]
  · -- authentications
    rw [if_neg (by rw [e]; decide), if_neg (by rw [e]; decide), if_neg (by rw [e]; decide), if_neg (by rw [e]; decide), if_pos e] at hb
    simp only [Prod.mk.injEq] at hb
    obtain ⟨rfl, hE⟩ := hb
    have hl := (h.a39 e).ad.len
    have hg : x.am % 256 = x.am := by
      unfold authE at hE
      split at hE
      · exact absurd hE (by decide)
      · omega
    have hlen : (headL x.am C.ad).length = 4 + C.ad.length := by simp [headL]; omega
    have n0 : nthB (headL x.am C.ad) 0 = x.am % 256 := rfl
    have dr : (headL x.am C.ad).drop 4 = C.ad := rfl
    refine ⟨?_, fun y D hy hd => ?_⟩
    · rw [e]
      show authenE (headL x.am C.ad) (headL x.am C.ad).length = 0
      unfold authenE
      rw [n0, hg, hlen, if_neg (by omega), show 4 + C.ad.length - 4 = x.ad.n by omega]
      exact hE
    · obtain ⟨h1, h2⟩ := hd.a39 e
      rw [n0, hg] at h1
      rw [dr] at h2
      unfold sameV
      rw [hy, e]
      simp [h1, h2]
  · -- nonces
    rw [if_neg (by rw [e]; decide), if_neg (by rw [e]; decide), if_neg (by rw [e]; decide), if_neg (by rw [e]; decide), if_neg (by rw [e]; decide), if_pos e] at hb
    simp only [Prod.mk.injEq] at hb
    obtain ⟨rfl, hE⟩ := hb
    have hl := (h.aX (by rw [e]; decide) (by rw [e]; decide) (by rw [e]; decide) (by rw [e]; decide) (by rw [e]; decide) (by rw [e]; decide) (by rw [e]; decide) (by rw [e]; decide) (by rw [e]; decide)).da.len
    refine ⟨?_, fun y D hy hd => ?_⟩
    · rw [e]
      show nonceE C.da.length = 0
      rw [hl]
      exact hE
    · have h1 := hd.aX (by rw [e]; decide) (by rw [e]; decide) (by rw [e]; decide) (by rw [e]; decide) (by rw [e]; decide) (by rw [e]; decide) (by rw [e]; decide) (by rw [e]; decide) (by rw [e]; decide)
      unfold sameV
      rw [hy, e]
      simp [h1]
  · -- notifications
    rw [if_neg (by rw [e]; decide), if_neg (by rw [e]; decide), if_neg (by rw [e]; decide), if_neg (by rw [e]; decide), if_neg (by rw [e]; decide), if_neg (by rw [e]; decide), if_pos e] at hb
    simp only [Prod.mk.injEq] at hb
    obtain ⟨rfl, hE⟩ := hb
    have hl := (h.a41 e).ns.len
    have hg : (0 ≤ x.nt ∧ x.nt ≤ 65535) ∧ (0 ≤ x.np ∧ x.np ≤ 3) ∧ (x.ns.n : Int) = spiZ x.np := by
      unfold notifyE at hE
      split at hE
      · exact absurd hE (by decide)
      · split at hE
        · omega
        · exact absurd hE (by decide)
    have hz := spiZ_le x.np
    have hw : x.nt / 256 % 256 * 256 + x.nt % 256 = x.nt := by omega
    have hp : x.np % 256 = x.np := by omega
    have hs : (C.ns.length : Int) % 256 = C.ns.length := by omega
    have hlen : (noteL x.np x.nt C.ns C.nd).length = 4 + (C.ns.length + C.nd.length) := by simp [noteL]; omega
    have n0 : nthB (noteL x.np x.nt C.ns C.nd) 0 = x.np % 256 := rfl
    have n1 : nthB (noteL x.np x.nt C.ns C.nd) 1 = (C.ns.length : Int) % 256 := rfl
    have n2 : nthB (noteL x.np x.nt C.ns C.nd) 2 = x.nt / 256 % 256 := rfl
    have n3 : nthB (noteL x.np x.nt C.ns C.nd) 3 = x.nt % 256 := rfl
    have dr : (noteL x.np x.nt C.ns C.nd).drop 4 = C.ns ++ C.nd := rfl
    have dr2 : (noteL x.np x.nt C.ns C.nd).drop (4 + C.ns.length) = C.nd := by
      rw [← List.drop_drop, dr, List.drop_left]
    refine ⟨?_, fun y D hy hd => ?_⟩
    · rw [e]
      show noteE (noteL x.np x.nt C.ns C.nd) (noteL x.np x.nt C.ns C.nd).length = 0
      unfold noteE
      rw [n0, n1, n2, n3, hw, hp, hs, hlen, if_neg (by omega), hl, hE, if_neg (by simp), if_neg (by omega)]
    · obtain ⟨h1, h2, h3, h4⟩ := hd.a41 e
      rw [n0, hp] at h1
      rw [n2, n3, hw] at h2
      rw [n1, hs, Int.toNat_natCast, dr, List.take_left] at h3
      rw [n1, hs, Int.toNat_natCast, dr2] at h4
      unfold sameV
      rw [hy, e]
      simp [h1, h2, h3, h4]
  · -- deletions
    rw [if_neg (by rw [e]; decide), if_neg (by rw [e]; decide), if_neg (by rw [e]; decide), if_neg (by rw [e]; decide), if_neg (by rw [e]; decide), if_neg (by rw [e]; decide), if_neg (by rw [e]; decide), if_pos e] at hb
    simp only [Prod.mk.injEq] at hb
    obtain ⟨hLL, hE⟩ := hb
    obtain ⟨X, hX⟩ : ∃ X, C.ds.map Sb.xs = X := ⟨_, rfl⟩
    rw [hX] at hLL hE
    have hd0 : deleteE x.dp (sizeBad (spiZ x.dp) X) X.length = 0 := by
      unfold delBE at hE
      split at hE
      · rename_i h1
        exact absurd hE h1
      · omega
    have hsx : spisX x.dp X = 0 := by
      unfold delBE at hE
      rw [hd0, if_neg (by simp)] at hE
      exact hE
    obtain ⟨hz, hk, h1⟩ := deleteE_z _ _ _ hd0
    have hall := sizeBad_all (spiZ x.dp) X (by exact_mod_cast hz)
    have hfl := flatten_len _ X hall
    have hLe : L = [x.dp % 256, ((spiZ x.dp : Nat) : Int) % 256, (X.length : Int) / 256 % 256, (X.length : Int) % 256] ++ X.flatten := by
      rw [← hLL]
      unfold delBL
      rw [hd0, if_neg (by simp)]
      unfold delL
      rw [hz]
    have hlen : L.length = 4 + X.length * spiZ x.dp := by rw [hLe, List.length_append, hfl]; simp
    have hz4 : spiZ x.dp = 0 ∨ spiZ x.dp = 4 := by unfold spiZ; split <;> simp
    have hn : X.length ≤ 65535 := by
      rcases hz4 with h0 | h4
      · have : x.dp = 1 := by
          unfold spiZ at h0
          split at h0
          · omega
          · omega
        have := h1 this
        omega
      · rw [h4] at hlen; omega
    have n0 : nthB L 0 = x.dp % 256 := by rw [hLe]; rfl
    have n1 : nthB L 1 = ((spiZ x.dp : Nat) : Int) % 256 := by rw [hLe]; rfl
    have n2 : nthB L 2 = (X.length : Int) / 256 % 256 := by rw [hLe]; rfl
    have n3 : nthB L 3 = (X.length : Int) % 256 := by rw [hLe]; rfl
    have dr : L.drop 4 = X.flatten := by rw [hLe]; rfl
    have e0 : x.dp % 256 = x.dp := by omega
    have e1 : ((spiZ x.dp : Nat) : Int) % 256 = (spiZ x.dp : Nat) := by have := spiZ_le x.dp; omega
    have e2 : (X.length : Int) / 256 % 256 * 256 + (X.length : Int) % 256 = X.length := by omega
    rw [hz] at hd0
    refine ⟨?_, fun y D hy hd => ?_⟩
    · rw [e]
      show delE L L.length = 0
      unfold delE
      rw [n0, n1, n2, n3, e0, e1, e2, hd0, if_neg (by omega), if_neg (by simp), dr, Int.toNat_natCast, Int.toNat_natCast, spisL_flat _ X hall, hsx, if_neg]
      rw [hlen]
      push_cast
      rw [Int.mul_comm]
      omega
    · obtain ⟨h2, h3⟩ := hd.a42 e
      rw [n0, e0] at h2
      rw [n1, n2, n3, e1, e2, dr, Int.toNat_natCast, Int.toNat_natCast, spisL_flat _ X hall] at h3
      unfold sameV
      rw [hy, e]
      simp [h2, h3, hX]
  · -- selectors
    rw [if_neg (by rw [e]; decide), if_neg (by rw [e]; decide), if_neg (by rw [e]; decide), if_neg (by rw [e]; decide), if_neg (by rw [e]; decide), if_neg (by rw [e]; decide), if_neg (by rw [e]; decide), if_neg (by rw [e]; decide), if_pos e] at hb
    have hfit := (h.a44 e).se.ok
    have hz : C.se.length ≠ 0 ∧ C.se.length ≤ 16 ∧ errL C.se = 0 ∧ L = [(C.se.length : Int), 0, 0, 0] ++ encL C.se := by
      unfold buildS at hb
      split at hb
      · simp at hb
      split at hb
      · simp at hb
      split at hb
      · rename_i hc
        simp only [Prod.mk.injEq] at hb
        exact absurd hb.2 hc
      · rename_i h1 h2 h3
        simp only [Prod.mk.injEq, and_true] at hb
        exact ⟨h1, by omega, by omega, hb.symm⟩
    have hgood := errL_all C.se hfit hz.2.2.1
    have hp := parse_encS C.se hgood (by omega) hz.2.1 0 0 0
    rw [← hz.2.2.2] at hp
    refine ⟨by rw [e]; show (parseS L).2 = 0; rw [hp], fun y D hy hd => ?_⟩
    have h1 := hd.a44 (Or.inl e)
    rw [hp] at h1
    unfold sameV
    rw [hy, e]
    simp [h1]
  · -- selectors
    rw [if_neg (by rw [e]; decide), if_neg (by rw [e]; decide), if_neg (by rw [e]; decide), if_neg (by rw [e]; decide), if_neg (by rw [e]; decide), if_neg (by rw [e]; decide), if_neg (by rw [e]; decide), if_neg (by rw [e]; decide), if_neg (by rw [e]; decide), if_pos e] at hb
    have hfit := (h.a45 e).se.ok
    have hz : C.se.length ≠ 0 ∧ C.se.length ≤ 16 ∧ errL C.se = 0 ∧ L = [(C.se.length : Int), 0, 0, 0] ++ encL C.se := by
      unfold buildS at hb
      split at hb
      · simp at hb
      split at hb
      · simp at hb
      split at hb
      · rename_i hc
        simp only [Prod.mk.injEq] at hb
        exact absurd hb.2 hc
      · rename_i h1 h2 h3
        simp only [Prod.mk.injEq, and_true] at hb
        exact ⟨h1, by omega, by omega, hb.symm⟩
    have hgood := errL_all C.se hfit hz.2.2.1
    have hp := parse_encS C.se hgood (by omega) hz.2.1 0 0 0
    rw [← hz.2.2.2] at hp
    refine ⟨by rw [e]; show (parseS L).2 = 0; rw [hp], fun y D hy hd => ?_⟩
    have h1 := hd.a44 (Or.inr e)
    rw [hp] at h1
    unfold sameV
    rw [hy, e]
    simp [h1]
  · -- others
    rw [if_neg (by rw [e]; decide), if_neg (by rw [e]; decide), if_neg (by rw [e]; decide), if_neg (by rw [e]; decide), if_neg (by rw [e]; decide), if_neg (by rw [e]; decide), if_neg (by rw [e]; decide), if_neg (by rw [e]; decide), if_neg (by rw [e]; decide), if_neg (by rw [e]; decide)] at hb
    simp only [Prod.mk.injEq, and_true] at hb
    subst hb
    refine ⟨by rw [e]; rfl, fun y D hy hd => ?_⟩
    have h1 := hd.aX (by rw [e]; decide) (by rw [e]; decide) (by rw [e]; decide) (by rw [e]; decide) (by rw [e]; decide) (by rw [e]; decide) (by rw [e]; decide) (by rw [e]; decide) (by rw [e]; decide)
    unfold sameV
    rw [hy, e]
    simp [h1]
  · -- others
    rw [if_neg (by rw [e]; decide), if_neg (by rw [e]; decide), if_neg (by rw [e]; decide), if_neg (by rw [e]; decide), if_neg (by rw [e]; decide), if_neg (by rw [e]; decide), if_neg (by rw [e]; decide), if_neg (by rw [e]; decide), if_neg (by rw [e]; decide), if_neg (by rw [e]; decide)] at hb
    simp only [Prod.mk.injEq, and_true] at hb
    subst hb
    refine ⟨by rw [e]; rfl, fun y D hy hd => ?_⟩
    have h1 := hd.aX (by rw [e]; decide) (by rw [e]; decide) (by rw [e]; decide) (by rw [e]; decide) (by rw [e]; decide) (by rw [e]; decide) (by rw [e]; decide) (by rw [e]; decide) (by rw [e]; decide)
    unfold sameV
    rw [hy, e]
    simp [h1]

/-- What is read is written, with as many bytes. -/
theorem parse_back (xs : List Int) (hr : ∀ z ∈ xs, 0 ≤ z ∧ z ≤ 255) (x : Pv) (C : Pc) (w : World) (h : PvRk w x C) (hE : parseE x.t xs = 0) (hd : RdAs x.t xs x C) (hk : x.t = 33 ∨ x.t = 34 ∨ x.t = 35 ∨ x.t = 36 ∨ x.t = 39 ∨ x.t = 40 ∨ x.t = 41 ∨ x.t = 42 ∨ x.t = 44 ∨ x.t = 45 ∨ x.t = 37 ∨ x.t = 43) :
    (buildB x C).2 = 0 ∧ (buildB x C).1.length = xs.length := by
  have b0 := rng_getD hr 0
  have b1 := rng_getD hr 1
  have b2 := rng_getD hr 2
  have b3 := rng_getD hr 3
  unfold buildB
  unfold parseE at hE
  rcases hk with e | e | e | e | e | e | e | e | e | e | e | e
  · -- proposals
    rw [if_pos e]
    rw [if_pos e] at hE
    have h1 := hd.a33 e
    obtain ⟨p1, p2, p3⟩ := propBack xs hr (parseP xs).1 (by rw [← hE])
    rw [h1, p1]
    exact ⟨rfl, p2⟩
  · -- key exchanges
    rw [if_neg (by rw [e]; decide), if_pos e]
    rw [if_neg (by rw [e]; decide), if_pos e] at hE
    obtain ⟨h1, h2⟩ := hd.a34 e
    have hl := (h.a34 e).ed.len
    unfold exchangeE at hE
    by_cases h4 : xs.length < 4
    · rw [if_pos h4] at hE
      exact absurd hE (by decide)
    rw [if_neg h4] at hE
    rw [h2, List.length_drop] at hl
    refine ⟨by rw [h1, ← hl]; exact hE, ?_⟩
    show (exchL x.eg C.ed).length = _
    simp [exchL, h2]
    omega
  · -- identities
    rw [if_neg (by rw [e]; decide), if_neg (by rw [e]; decide), if_pos e]
    rw [if_neg (by rw [e]; decide), if_neg (by rw [e]; decide), if_pos e] at hE
    obtain ⟨h1, h2⟩ := hd.a35 (Or.inl e)
    have hl := (h.a35 e).id.len
    unfold identE at hE
    by_cases h4 : xs.length < 4
    · rw [if_pos h4] at hE
      exact absurd hE (by decide)
    rw [if_neg h4] at hE
    rw [h2, List.length_drop] at hl
    refine ⟨by rw [h1, ← hl]; exact hE, ?_⟩
    show (headL x.ik C.id).length = _
    simp [headL, h2]
    omega
  · -- identities
    rw [if_neg (by rw [e]; decide), if_neg (by rw [e]; decide), if_neg (by rw [e]; decide), if_pos e]
    rw [if_neg (by rw [e]; decide), if_neg (by rw [e]; decide), if_neg (by rw [e]; decide), if_pos e] at hE
    obtain ⟨h1, h2⟩ := hd.a35 (Or.inr e)
    have hl := (h.a36 e).id.len
    unfold identE at hE
    by_cases h4 : xs.length < 4
    · rw [if_pos h4] at hE
      exact absurd hE (by decide)
    rw [if_neg h4] at hE
    rw [h2, List.length_drop] at hl
    refine ⟨by rw [h1, ← hl]; exact hE, ?_⟩
    show (headL x.ik C.id).length = _
    simp [headL, h2]
    omega
  · -- authentications
    rw [if_neg (by rw [e]; decide), if_neg (by rw [e]; decide), if_neg (by rw [e]; decide), if_neg (by rw [e]; decide), if_pos e]
    rw [if_neg (by rw [e]; decide), if_neg (by rw [e]; decide), if_neg (by rw [e]; decide), if_neg (by rw [e]; decide), if_pos e] at hE
    obtain ⟨h1, h2⟩ := hd.a39 e
    have hl := (h.a39 e).ad.len
    unfold authenE at hE
    by_cases h4 : xs.length < 4
    · rw [if_pos h4] at hE
      exact absurd hE (by decide)
    rw [if_neg h4] at hE
    rw [h2, List.length_drop] at hl
    refine ⟨by rw [h1, ← hl]; exact hE, ?_⟩
    show (headL x.am C.ad).length = _
    simp [headL, h2]
    omega
  · -- nonces
    rw [if_neg (by rw [e]; decide), if_neg (by rw [e]; decide), if_neg (by rw [e]; decide), if_neg (by rw [e]; decide), if_neg (by rw [e]; decide), if_pos e]
    rw [if_neg (by rw [e]; decide), if_neg (by rw [e]; decide), if_neg (by rw [e]; decide), if_neg (by rw [e]; decide), if_neg (by rw [e]; decide), if_pos e] at hE
    have h1 := hd.aX (by rw [e]; decide) (by rw [e]; decide) (by rw [e]; decide) (by rw [e]; decide) (by rw [e]; decide) (by rw [e]; decide) (by rw [e]; decide) (by rw [e]; decide) (by rw [e]; decide)
    have hl := (h.aX (by rw [e]; decide) (by rw [e]; decide) (by rw [e]; decide) (by rw [e]; decide) (by rw [e]; decide) (by rw [e]; decide) (by rw [e]; decide) (by rw [e]; decide) (by rw [e]; decide)).da.len
    rw [h1] at hl ⊢
    exact ⟨by rw [← hl]; exact hE, rfl⟩
  · -- notifications
    rw [if_neg (by rw [e]; decide), if_neg (by rw [e]; decide), if_neg (by rw [e]; decide), if_neg (by rw [e]; decide), if_neg (by rw [e]; decide), if_neg (by rw [e]; decide), if_pos e]
    rw [if_neg (by rw [e]; decide), if_neg (by rw [e]; decide), if_neg (by rw [e]; decide), if_neg (by rw [e]; decide), if_neg (by rw [e]; decide), if_neg (by rw [e]; decide), if_pos e] at hE
    obtain ⟨h1, h2, h3, h4⟩ := hd.a41 e
    have hl := (h.a41 e).ns.len
    unfold noteE at hE
    by_cases h5 : xs.length < 4
    · rw [if_pos h5] at hE
      exact absurd hE (by decide)
    rw [if_neg h5] at hE
    by_cases h6 : notifyE (nthB xs 0) (nthB xs 2 * 256 + nthB xs 3) (nthB xs 1) ≠ 0
    · rw [if_pos h6] at hE
      exact absurd hE h6
    rw [if_neg h6] at hE
    by_cases h7 : (xs.length : Int) - 4 < nthB xs 1
    · rw [if_pos h7] at hE
      exact absurd hE (by decide)
    have b1' : 0 ≤ nthB xs 1 ∧ nthB xs 1 ≤ 255 := b1
    rw [h3, List.length_take, List.length_drop] at hl
    have hn : (x.ns.n : Int) = nthB xs 1 := by omega
    refine ⟨by rw [h1, h2, hn]; exact Decidable.not_not.1 h6, ?_⟩
    show (noteL x.np x.nt C.ns C.nd).length = _
    simp only [noteL, List.length_append, List.length_cons, List.length_nil, h3, h4, List.length_take, List.length_drop]
    omega
  · -- deletions
    rw [if_neg (by rw [e]; decide), if_neg (by rw [e]; decide), if_neg (by rw [e]; decide), if_neg (by rw [e]; decide), if_neg (by rw [e]; decide), if_neg (by rw [e]; decide), if_neg (by rw [e]; decide), if_pos e]
    rw [if_neg (by rw [e]; decide), if_neg (by rw [e]; decide), if_neg (by rw [e]; decide), if_neg (by rw [e]; decide), if_neg (by rw [e]; decide), if_neg (by rw [e]; decide), if_neg (by rw [e]; decide), if_pos e] at hE
    obtain ⟨h1, h2⟩ := hd.a42 e
    unfold delE at hE
    by_cases h5 : xs.length < 4
    · rw [if_pos h5] at hE
      exact absurd hE (by decide)
    rw [if_neg h5] at hE
    by_cases h6 : deleteE (nthB xs 0) (nthB xs 1) (nthB xs 2 * 256 + nthB xs 3) ≠ 0
    · rw [if_pos h6] at hE
      exact absurd hE h6
    rw [if_neg h6] at hE
    have h6' := Decidable.not_not.1 h6
    by_cases h7 : (xs.length : Int) - 4 ≠ nthB xs 1 * (nthB xs 2 * 256 + nthB xs 3)
    · rw [if_pos h7] at hE
      exact absurd hE (by decide)
    rw [if_neg h7] at hE
    obtain ⟨hz, hk, hc⟩ := deleteE_z _ _ _ h6'
    have bb2 : 0 ≤ nthB xs 2 ∧ nthB xs 2 ≤ 255 := b2
    have bb3 : 0 ≤ nthB xs 3 ∧ nthB xs 3 ≤ 255 := b3
    obtain ⟨cnt, hcnt⟩ := Int.eq_ofNat_of_zero_le (show 0 ≤ nthB xs 2 * 256 + nthB xs 3 by omega)
    rw [hcnt] at h7 h6' hE h2
    rw [hz] at h7 h6' hE h2
    rw [Int.toNat_natCast, Int.toNat_natCast] at hE h2
    have hxl : xs.length = 4 + spiZ (nthB xs 0) * cnt := by
      have := Decidable.not_not.1 h7
      have h8 : ((spiZ (nthB xs 0) : Nat) : Int) * (cnt : Int) = ((spiZ (nthB xs 0) * cnt : Nat) : Int) := by push_cast; rfl
      rw [h8] at this
      omega
    have hlen : (spisL (xs.drop 4) (spiZ (nthB xs 0)) cnt).length = cnt := by simp [spisL]
    have hall : ∀ y ∈ spisL (xs.drop 4) (spiZ (nthB xs 0)) cnt, y.length = spiZ (nthB xs 0) := by
      intro y hy
      obtain ⟨i, hi, rfl⟩ := List.mem_map.1 hy
      rw [List.mem_range] at hi
      rw [List.length_take, List.length_drop, List.length_drop, hxl]
      have h9 : (i + 1) * spiZ (nthB xs 0) ≤ cnt * spiZ (nthB xs 0) := Nat.mul_le_mul_right _ hi
      rw [Nat.add_mul, Nat.one_mul] at h9
      rw [Nat.mul_comm (spiZ (nthB xs 0)) cnt]
      omega
    have hsb : sizeBad (spiZ (nthB xs 0)) (spisL (xs.drop 4) (spiZ (nthB xs 0)) cnt) = spiZ (nthB xs 0) := by
      have := sizeBad_drop (spiZ (nthB xs 0)) (spisL (xs.drop 4) (spiZ (nthB xs 0)) cnt) cnt (fun y hy => hall y (List.mem_of_mem_take hy))
      rw [List.drop_of_length_le (by omega)] at this
      exact this.symm
    have hfl := flatten_len _ _ hall
    rw [hlen] at hfl
    rw [h1, h2]
    have hdb : deleteE (nthB xs 0) (sizeBad (spiZ (nthB xs 0)) (spisL (xs.drop 4) (spiZ (nthB xs 0)) cnt)) (spisL (xs.drop 4) (spiZ (nthB xs 0)) cnt).length = 0 := by rw [hsb, hlen]; exact h6'
    refine ⟨?_, ?_⟩
    · show delBE _ _ = 0
      unfold delBE
      rw [hdb, if_neg (by simp)]
      exact hE
    · show (delBL _ _).length = _
      unfold delBL
      rw [hdb, if_neg (by simp)]
      unfold delL
      rw [List.length_append, hfl, hxl, Nat.mul_comm cnt]
      rfl
  · -- selectors
    rw [if_neg (by rw [e]; decide), if_neg (by rw [e]; decide), if_neg (by rw [e]; decide), if_neg (by rw [e]; decide), if_neg (by rw [e]; decide), if_neg (by rw [e]; decide), if_neg (by rw [e]; decide), if_neg (by rw [e]; decide), if_pos e]
    rw [if_neg (by rw [e]; decide), if_neg (by rw [e]; decide), if_neg (by rw [e]; decide), if_neg (by rw [e]; decide), if_neg (by rw [e]; decide), if_neg (by rw [e]; decide), if_neg (by rw [e]; decide), if_neg (by rw [e]; decide), if_pos e] at hE
    have h1 := hd.a44 (Or.inl e)
    obtain ⟨p1, p2, p3, p4, p5⟩ := selBack xs hr (parseS xs).1 (by rw [← hE])
    rw [h1, p1]
    refine ⟨rfl, ?_⟩
    show (_ ++ _ : List Int).length = _
    simp only [List.length_append, List.length_cons, List.length_nil]
    omega
  · -- selectors
    rw [if_neg (by rw [e]; decide), if_neg (by rw [e]; decide), if_neg (by rw [e]; decide), if_neg (by rw [e]; decide), if_neg (by rw [e]; decide), if_neg (by rw [e]; decide), if_neg (by rw [e]; decide), if_neg (by rw [e]; decide), if_neg (by rw [e]; decide), if_pos e]
    rw [if_neg (by rw [e]; decide), if_neg (by rw [e]; decide), if_neg (by rw [e]; decide), if_neg (by rw [e]; decide), if_neg (by rw [e]; decide), if_neg (by rw [e]; decide), if_neg (by rw [e]; decide), if_neg (by rw [e]; decide), if_neg (by rw [e]; decide), if_pos e] at hE
    have h1 := hd.a44 (Or.inr e)
    obtain ⟨p1, p2, p3, p4, p5⟩ := selBack xs hr (parseS xs).1 (by rw [← hE])
    rw [h1, p1]
    refine ⟨rfl, ?_⟩
    show (_ ++ _ : List Int).length = _
    simp only [List.length_append, List.length_cons, List.length_nil]
    omega
  · -- others
    rw [if_neg (by rw [e]; decide), if_neg (by rw [e]; decide), if_neg (by rw [e]; decide), if_neg (by rw [e]; decide), if_neg (by rw [e]; decide), if_neg (by rw [e]; decide), if_neg (by rw [e]; decide), if_neg (by rw [e]; decide), if_neg (by rw [e]; decide), if_neg (by rw [e]; decide)]
    rw [if_neg (by rw [e]; decide), if_neg (by rw [e]; decide), if_neg (by rw [e]; decide), if_neg (by rw [e]; decide), if_neg (by rw [e]; decide), if_neg (by rw [e]; decide), if_neg (by rw [e]; decide), if_neg (by rw [e]; decide), if_neg (by rw [e]; decide), if_neg (by rw [e]; decide)] at hE
    have h1 := hd.aX (by rw [e]; decide) (by rw [e]; decide) (by rw [e]; decide) (by rw [e]; decide) (by rw [e]; decide) (by rw [e]; decide) (by rw [e]; decide) (by rw [e]; decide) (by rw [e]; decide)
    exact ⟨rfl, by rw [h1]⟩
  · -- others
    rw [if_neg (by rw [e]; decide), if_neg (by rw [e]; decide), if_neg (by rw [e]; decide), if_neg (by rw [e]; decide), if_neg (by rw [e]; decide), if_neg (by rw [e]; decide), if_neg (by rw [e]; decide), if_neg (by rw [e]; decide), if_neg (by rw [e]; decide), if_neg (by rw [e]; decide)]
    rw [if_neg (by rw [e]; decide), if_neg (by rw [e]; decide), if_neg (by rw [e]; decide), if_neg (by rw [e]; decide), if_neg (by rw [e]; decide), if_neg (by rw [e]; decide), if_neg (by rw [e]; decide), if_neg (by rw [e]; decide), if_neg (by rw [e]; decide), if_neg (by rw [e]; decide)] at hE
    have h1 := hd.aX (by rw [e]; decide) (by rw [e]; decide) (by rw [e]; decide) (by rw [e]; decide) (by rw [e]; decide) (by rw [e]; decide) (by rw [e]; decide) (by rw [e]; decide) (by rw [e]; decide)
    exact ⟨rfl, by rw [h1]⟩
end Go.Proofs.YtpocehpejbnemaaDoor
