/-
  The document's Chain over any certificates.
-/
import Derived.Test.YtkniifopfgeopaaDoorHSchWalkG
namespace Go.Proofs.YtkniifopfgeopaaDoor
open Go.RowKit
set_option linter.unusedVariables false

theorem getD_key (A : Nat) (L : List Ct) (j : Nat) (hj : j < L.length) : (L.getD j zc).k = keyAt A L j := by
  rw [keyAt_in A L j hj, List.getD_eq_getElem?_getD, List.getElem?_eq_getElem hj]
  rfl
theorem wkG_step (A : Nat) (L : List Ct) (now : Int) (j : Nat) (hj : j < L.length) (K : Nat) : wkG L now (j + 1) K = if wkG L now j (keyAt A L j) = 0 then ckG (L.getD j zc) (decide (0 < j)) K now else wkG L now j (keyAt A L j) := by
  rw [← getD_key A L j hj]
  rfl
theorem wkG_stay (A : Nat) (L : List Ct) (now : Int) (j : Nat) (E : Int) (h0 : E ≠ 0) (h : wkG L now j (keyAt A L j) = E) : ∀ m, j ≤ m → m ≤ L.length → wkG L now m (keyAt A L m) = E := by
  intro m
  induction m with
  | zero =>
    intro h1 _
    obtain rfl : j = 0 := by omega
    exact h
  | succ m ih =>
    intro h1 h2
    rcases Nat.lt_or_ge j (m + 1) with h3 | h3
    · rw [wkG_step A L now m (by omega), ih (by omega) (by omega), if_neg h0]
    · obtain rfl : j = m + 1 := by omega
      exact h
/-- What one round of Chain tells of the whole. -/
structure RdE (F E1 V : Int) (j : Nat) (a : Bool) (f t now : Int) (nxt : Prop) : Prop where
  e1 : E1 ≠ 0 → F = E1
  e24 : E1 = 0 → 0 < j → a = false → F = 24
  e19 : E1 = 0 → (j = 0 ∨ a = true) → (now < f ∨ t < now) → F = 19
  ev : E1 = 0 → (j = 0 ∨ a = true) → ¬ (now < f ∨ t < now) → V ≠ 0 → F = V
  en : E1 = 0 → (j = 0 ∨ a = true) → ¬ (now < f ∨ t < now) → V = 0 → nxt
theorem rdE_of (A : Nat) (L : List Ct) (now : Int) (j : Nat) (hj : j < L.length) (h : wkG L now j (keyAt A L j) = 0) :
    RdE (wkG L now L.length A) (bodyE (L.getD j zc)) (verE (keyAt A L (j + 1)) (bdL (L.getD j zc)) (L.getD j zc).g) j (L.getD j zc).a (L.getD j zc).f (L.getD j zc).t now (wkG L now (j + 1) (keyAt A L (j + 1)) = 0) := by
  have hs := wkG_step A L now j hj (keyAt A L (j + 1))
  rw [h, if_pos rfl] at hs
  have hst : ∀ E, E ≠ 0 → ckG (L.getD j zc) (decide (0 < j)) (keyAt A L (j + 1)) now = E → wkG L now L.length A = E := fun E h0 h9 => by
    have h8 := wkG_stay A L now (j + 1) E h0 (hs.trans h9) L.length (by omega) (Nat.le_refl _)
    rw [keyAt_end A L L.length (Nat.le_refl _)] at h8
    exact h8
  have hno : ∀ {a : Bool}, (j = 0 ∨ a = true) → ¬ ((decide (0 < j) && !a) = true) := fun {a} h9 h8 => by
    simp only [Bool.and_eq_true, decide_eq_true_eq, Bool.not_eq_true'] at h8
    rcases h9 with h9 | h9
    · omega
    · rw [h9] at h8; exact absurd h8.2 (by decide)
  refine ⟨fun h1 => hst _ h1 ?_, fun h1 h2 h3 => hst _ (by decide) ?_, fun h1 h2 h3 => hst _ (by decide) ?_, fun h1 h2 h3 h4 => hst _ h4 ?_, fun h1 h2 h3 h4 => hs.trans ?_⟩
  · unfold ckG; rw [if_neg h1]
  · unfold ckG ckE; rw [if_pos h1, if_pos (by simp only [Bool.and_eq_true, decide_eq_true_eq, Bool.not_eq_true']; exact ⟨h2, h3⟩)]
  · unfold ckG ckE; rw [if_pos h1, if_neg (hno h2), if_pos h3]
  · unfold ckG ckE; rw [if_pos h1, if_neg (hno h2), if_neg h3]
  · unfold ckG ckE; rw [if_pos h1, if_neg (hno h2), if_neg h3]; exact h4

/-- What Chain returns: F is the first error. -/
def ChG (F : Int) (s : ByteArray) (k : Nat) (w : World) (e : Ending) (w' : World) : Prop :=
  ((F = 0 ∧ e = .returned (.tuple #[.string s, .int .u64 (k : Int), .int .i64 0])) ∨ (F ≠ 0 ∧ e = .returned (.tuple #[.string ⟨#[]⟩, .int .u64 0, .int .i64 F]))) ∧ Below w.heap.size w w'
theorem chG_no {F E : Int} {s : ByteArray} {k : Nat} {w w' : World} (h : F = E) (h0 : E ≠ 0) (hb : Below w.heap.size w w') : ChG F s k w (.returned (.tuple #[.string ⟨#[]⟩, .int .u64 0, .int .i64 E])) w' := by
  subst h
  exact ⟨Or.inr ⟨h0, rfl⟩, hb⟩
theorem chG_yes {F : Int} {s : ByteArray} {k : Nat} {w w' : World} (h : F = 0) (hb : Below w.heap.size w w') : ChG F s k w (.returned (.tuple #[.string s, .int .u64 (k : Int), .int .i64 0])) w' := ⟨Or.inl ⟨h, rfl⟩, hb⟩

set_option maxHeartbeats 6400000 in
set_option maxRecDepth 100000 in
theorem rchain_gen (L : List Ct) (g n c : Nat) (hn1 : 1 ≤ n) (hn6 : n ≤ 6) (hL : ∀ x ∈ L, CtV x) (now : Int) (key : Nat) (hk : key < 18446744073709551616) (w : World) (hr : RdG KCt DCt w (some ⟨g, 0, none⟩) n c L) :
    Calls Tryd.prog 12 #[.slice (some ⟨g, 0, none⟩) n c, .int .u64 (key : Int), .int .i64 now] w (ChG (wkG L now n key) (L.getD 0 zc).s (L.getD 0 zc).k w) := by
  have hl := hr.len
  have hcp := hr.cap
  have HR := hidden hr
  have HLV := hidden hL
  have HLN := Is.mk hl
  have HKL := hidden hk
  have hFF := HLN.eq
  obtain ⟨F, hF⟩ : ∃ F, wkG L now n key = F := ⟨_, rfl⟩
  rw [hF]
  have HF := Is.mk hF
  have HAT := hidden (fun (W : World) (hW : Below w.heap.size w W) => rd_at (hr.below hW) 0 (by omega))
  generalize L.getD 0 zc = x0 at *
  obtain ⟨s0, k0, f0, t0, a0, p0, m0, d0, gg0⟩ := x0
  simp only
  clear hr hL hk hF hFF hl
  have h0 : (0 : Int) < (n : Int) := by omega
  have h1 : ¬ (n : Int) = 0 := by omega
  have h6 : ¬ (6 : Int) < (n : Int) := by omega
  go_enter Tryd.func12, Tryd.ntmps12
  go_wp2
  go_loopw [9] (fun i wr => ∃ j : Nat, j ≤ n ∧ i = .int .i64 (j : Int) ∧ Is (wkG L now j (keyAt key L j)) 0 ∧ Below w.heap.size w wr) (fun i _ => n - (intOf i).toNat)
  case atStart => exact ⟨0, by omega, rfl, ⟨rfl⟩, Below.refl _ _⟩
  case round =>
    obtain ⟨j, hj, rfl, HJ, hbw⟩ := hrel
    have HBW := hidden hbw
    by_cases hjn : j < n
    · have hat := rd_at (HR.out.below hbw) j (by have := HLN.eq; omega)
      have hmem : L.getD j zc ∈ L := by
        rw [List.getD_eq_getElem?_getD, List.getElem?_eq_getElem (show j < L.length by have := HLN.eq; omega)]
        exact List.getElem_mem _
      have hv := HLV.out _ hmem
      have hby := HR.out.ok _ hmem
      have HE := hidden (rdE_of key L now j (by have := HLN.eq; omega) HJ.eq)
      rw [HLN.eq, HF.eq] at HE
      have hkl : keyAt key L (j + 1) < 18446744073709551616 := by
        unfold keyAt
        cases hh : L[j + 1]? with
        | none => exact HKL.out
        | some y => exact (HLV.out y (List.mem_of_getElem? hh)).kl
      have HVE := hidden (fun W (hW : Below w.heap.size w W) (q : Option Addr) (N d : Nat) (hN : N ≤ 1000) (hq : Byt W q N d (bdL (L.getD j zc))) => rverS_any (keyAt key L (j + 1)) hkl q N d (bdL (L.getD j zc)) _ _ _ _ W hq (by omega) (hby.below hW))
      have HBO := hidden (fun W => rbodyS_any _ hv W)
      unfold BdG at HBO
      have HLE : Hid (bodyE (L.getD j zc) = 0 → (bdL (L.getD j zc)).length ≤ 1000) := hidden (fun h9 => by rw [bdL_len]; have := (bodyE_ok hv h9).nm.le; omega)
      have HCA := hidden (fun W (hW : Below wr.heap.size wr W) => hat.below hW)
      have HNX : Hid (j + 1 < n → ∀ W, Below w.heap.size w W → W.cell? ⟨g, (j + 1) * 6 + 1, none⟩ = some (.int .u64 (keyAt key L (j + 1) : Int))) := hidden (fun h9 W hW => by
        have h8 := (rd_at (HR.out.below hW) (j + 1) (by have := HLN.eq; omega)).c1
        rw [getD_key key L (j + 1) (by have := HLN.eq; omega)] at h8
        exact h8)
      have HLA : Hid (¬ j + 1 < n → keyAt key L (j + 1) = key) := hidden (fun h9 => keyAt_end _ _ _ (by have := HLN.eq; omega))
      generalize hKe : keyAt key L (j + 1) = K at *
      have HKE := Is.mk hKe
      clear hKe
      generalize bodyE (L.getD j zc) = E1 at *
      generalize verE K (bdL (L.getD j zc)) (L.getD j zc).g = V at *
      generalize bdL (L.getD j zc) = BL at *
      generalize L.getD j zc = x at *
      obtain ⟨s, k, f, t, a, p, m, d, gg⟩ := x
      obtain ⟨c0, c1, c2, c3, c4, c5⟩ := hat
      simp only at *
      have hj1 : (j : Int) < (n : Int) := by omega
      have hj0 : (0 : Int) ≤ (j : Int) := by omega
      clear hbw hmem hby hv HJ HAT HR HLV HF
      go_upto_region 9 with (first
        | (go_at_call 23; (with_reducible refine (HBO.out _).mono ?_); rintro e w2 ⟨p2, n2, d2, rfl, hy2, hb2⟩; have HY2 := hidden hy2; have HB2 := hidden hb2; clear hy2 hb2)
        | fail)
      have HB3 := hidden (HBW.out.trans (HB2.out.mono HBW.out.size))
      obtain ⟨c0, c1, c2, c3, c4, c5⟩ := HCA.out w2 HB2.out
      clear HCA HBO HB2
      by_cases he1 : E1 = 0
      rotate_left
      · have HFv := hidden (HE.out.e1 he1)
        clear HE HVE HY2 HLE HNX HLA
        go_wp2
        go_ret3
        exact chG_no HFv.out he1 HB3.out
      subst he1
      have hy2 := HY2.out
      rw [if_pos rfl] at hy2
      have HVX := hidden (HVE.out w2 HB3.out p2 n2 d2 (by have h9 := HLE.out rfl; rw [hy2.len] at h9; exact h9) hy2)
      have hnx := fun h9 => HNX.out h9 w2 HB3.out
      have HNY := hidden hnx
      clear HVE HLE HY2 hy2 HNX hnx

      by_cases hj2 : 0 < j
      · have hj3 : (0 : Int) < (j : Int) := by omega
        cases a with
        | false =>
          have HFv := hidden (HE.out.e24 rfl hj2 rfl)
          clear HE HVX HLA HNY
          go_wp2
          go_ret3
          exact chG_no HFv.out (by decide) HB3.out
        | true =>
          have hpol : j = 0 ∨ true = true := Or.inr rfl
          by_cases b1 : now < f
          · have HFv := hidden (HE.out.e19 rfl hpol (by omega))
            clear HE HVX HLA HNY
            go_wp2
            go_ret3
            exact chG_no HFv.out (by decide) HB3.out
          by_cases b2 : t < now
          · have HFv := hidden (HE.out.e19 rfl hpol (by omega))
            clear HE HVX HLA HNY
            go_wp2
            go_ret3
            exact chG_no HFv.out (by decide) HB3.out
          have hx : ¬ (now < f ∨ t < now) := by omega
          by_cases hnn : j + 1 < n
          · have q1 : (j : Int) + 1 < (n : Int) := by omega
            have q2 : (0 : Int) ≤ (j : Int) + 1 := by omega
            have q3 := HNY.out hnn
            clear HLA HNY
            by_cases hV : V = 0
            · have HN := Is.mk (HE.out.en rfl hpol hx hV)
              clear HE
              subst hV
              go_wp2_with (first
                | (go_at_call 34; (with_reducible refine (HVX.out).mono ?_); rintro e w3 ⟨rfl, hb3⟩; have HB4 := hidden (HB3.out.trans (hb3.mono HB3.out.size)); clear hb3 HVX)
                | fail)
              go_roundw
              case rel => exact ⟨j + 1, by omega, by go_num, by rw [HKE.eq]; exact HN, HB4.out⟩
              case measure => simp [intOf] <;> omega
            · have HFv := hidden (HE.out.ev rfl hpol hx hV)
              clear HE
              go_wp2_with (first
                | (go_at_call 34; (with_reducible refine (HVX.out).mono ?_); rintro e w3 ⟨rfl, hb3⟩; have HB4 := hidden (HB3.out.trans (hb3.mono HB3.out.size)); clear hb3 HVX)
                | fail)
              go_ret3
              exact chG_no HFv.out hV HB4.out
          · have q1 : ¬ (j : Int) + 1 < (n : Int) := by omega
            have hKk := HLA.out hnn
            subst hKk
            clear HLA HNY
            by_cases hV : V = 0
            · have HN := Is.mk (HE.out.en rfl hpol hx hV)
              clear HE
              subst hV
              go_wp2_with (first
                | (go_at_call 34; (with_reducible refine (HVX.out).mono ?_); rintro e w3 ⟨rfl, hb3⟩; have HB4 := hidden (HB3.out.trans (hb3.mono HB3.out.size)); clear hb3 HVX)
                | fail)
              go_roundw
              case rel => exact ⟨j + 1, by omega, by go_num, by rw [HKE.eq]; exact HN, HB4.out⟩
              case measure => simp [intOf] <;> omega
            · have HFv := hidden (HE.out.ev rfl hpol hx hV)
              clear HE
              go_wp2_with (first
                | (go_at_call 34; (with_reducible refine (HVX.out).mono ?_); rintro e w3 ⟨rfl, hb3⟩; have HB4 := hidden (HB3.out.trans (hb3.mono HB3.out.size)); clear hb3 HVX)
                | fail)
              go_ret3
              exact chG_no HFv.out hV HB4.out
      · have hj3 : ¬ (0 : Int) < (j : Int) := by omega
        have hpol : j = 0 ∨ a = true := Or.inl (by omega)
        by_cases b1 : now < f
        · have HFv := hidden (HE.out.e19 rfl hpol (by omega))
          clear HE HVX HLA HNY
          go_wp2
          go_ret3
          exact chG_no HFv.out (by decide) HB3.out
        by_cases b2 : t < now
        · have HFv := hidden (HE.out.e19 rfl hpol (by omega))
          clear HE HVX HLA HNY
          go_wp2
          go_ret3
          exact chG_no HFv.out (by decide) HB3.out
        have hx : ¬ (now < f ∨ t < now) := by omega
        by_cases hnn : j + 1 < n
        · have q1 : (j : Int) + 1 < (n : Int) := by omega
          have q2 : (0 : Int) ≤ (j : Int) + 1 := by omega
          have q3 := HNY.out hnn
          clear HLA HNY
          by_cases hV : V = 0
          · have HN := Is.mk (HE.out.en rfl hpol hx hV)
            clear HE
            subst hV
            go_wp2_with (first
              | (go_at_call 34; (with_reducible refine (HVX.out).mono ?_); rintro e w3 ⟨rfl, hb3⟩; have HB4 := hidden (HB3.out.trans (hb3.mono HB3.out.size)); clear hb3 HVX)
              | fail)
            go_roundw
            case rel => exact ⟨j + 1, by omega, by go_num, by rw [HKE.eq]; exact HN, HB4.out⟩
            case measure => simp [intOf] <;> omega
          · have HFv := hidden (HE.out.ev rfl hpol hx hV)
            clear HE
            go_wp2_with (first
              | (go_at_call 34; (with_reducible refine (HVX.out).mono ?_); rintro e w3 ⟨rfl, hb3⟩; have HB4 := hidden (HB3.out.trans (hb3.mono HB3.out.size)); clear hb3 HVX)
              | fail)
            go_ret3
            exact chG_no HFv.out hV HB4.out
        · have q1 : ¬ (j : Int) + 1 < (n : Int) := by omega
          have hKk := HLA.out hnn
          subst hKk
          clear HLA HNY
          by_cases hV : V = 0
          · have HN := Is.mk (HE.out.en rfl hpol hx hV)
            clear HE
            subst hV
            go_wp2_with (first
              | (go_at_call 34; (with_reducible refine (HVX.out).mono ?_); rintro e w3 ⟨rfl, hb3⟩; have HB4 := hidden (HB3.out.trans (hb3.mono HB3.out.size)); clear hb3 HVX)
              | fail)
            go_roundw
            case rel => exact ⟨j + 1, by omega, by go_num, by rw [HKE.eq]; exact HN, HB4.out⟩
            case measure => simp [intOf] <;> omega
          · have HFv := hidden (HE.out.ev rfl hpol hx hV)
            clear HE
            go_wp2_with (first
              | (go_at_call 34; (with_reducible refine (HVX.out).mono ?_); rintro e w3 ⟨rfl, hb3⟩; have HB4 := hidden (HB3.out.trans (hb3.mono HB3.out.size)); clear hb3 HVX)
              | fail)
            go_ret3
            exact chG_no HFv.out hV HB4.out
    · obtain rfl : j = n := by omega
      have hj1 : ¬ (j : Int) < (j : Int) := by omega
      have hFv : F = 0 := by
        have h9 := HJ.eq
        rw [keyAt_end _ _ _ (by have := HLN.eq; omega), HF.eq] at h9
        exact h9
      obtain ⟨c0, c1, c2, c3, c4, c5⟩ := HAT.out wr hbw
      simp only [Nat.zero_mul, Nat.zero_add] at c0 c1
      clear HR HLV HF HAT c2 c3 c4 c5 hbw HJ
      go_wp2
      go_region
      go_wp2
      go_ret3
      exact chG_yes hFv (by first | exact HBW.out | exact HBW.out.drew)
end Go.Proofs.YtkniifopfgeopaaDoor
