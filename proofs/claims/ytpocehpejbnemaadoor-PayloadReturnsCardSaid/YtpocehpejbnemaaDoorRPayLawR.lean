/-
  What the law PayloadReturns uses: drawn payloads are written; the twelve kinds at once.
-/
import Derived.Test.YtpocehpejbnemaaDoorRPayPure
import Derived.Test.YtpocehpejbnemaaDoorRPayMk
namespace Go.Proofs.YtpocehpejbnemaaDoor
open Go.RowKit
set_option linter.unusedVariables false

def Kind12 (t : Int) : Prop := t = 33 ∨ t = 34 ∨ t = 35 ∨ t = 36 ∨ t = 39 ∨ t = 40 ∨ t = 41 ∨ t = 42 ∨ t = 44 ∨ t = 45 ∨ t = 37 ∨ t = 43
theorem pk_any (t : Int) (ht : Kind12 t) (p : Option Addr) (n c : Nat) (xs : List Int) (cr : Bool) (w : World) (h : Byt w p n c xs) (hn : n ≤ 1000000) :
    Calls Tryd.prog 12 #[.agg #[.int .i64 t, .bool cr, .slice p n c]] w (ParsedV w t (parseE t xs) (gdK t xs)) := by
  rcases ht with rfl | rfl | rfl | rfl | rfl | rfl | rfl | rfl | rfl | rfl | rfl | rfl
  · exact pk_33 p n c xs cr w h hn
  · exact pk_34 p n c xs cr w h hn
  · exact pk_35 p n c xs cr w h hn
  · exact pk_36 p n c xs cr w h hn
  · exact pk_39 p n c xs cr w h hn
  · exact pk_40 p n c xs cr w h hn
  · exact pk_41 p n c xs cr w h hn
  · exact pk_42 p n c xs cr w h hn
  · exact pk_44 p n c xs cr w h hn
  · exact pk_45 p n c xs cr w h hn
  · exact pk_37 p n c xs cr w h hn
  · exact pk_43 p n c xs cr w h hn
theorem sameV_symm (x : Pv) (C : Pc) (y : Pv) (D : Pc) : sameV x C y D = sameV y D x C := by
  unfold sameV
  by_cases h : x.t = y.t
  · rw [h]
    simp only [ne_eq, not_true_eq_false, if_false]
    have e : ∀ {α : Type} [DecidableEq α] (a b : α), decide (a = b) = decide (b = a) := fun a b => by
      rw [Bool.eq_iff_iff, decide_eq_true_eq, decide_eq_true_eq]
      exact ⟨Eq.symm, Eq.symm⟩
    rw [e (C.pr.map PrP.pr), e x.eg, e C.ed, e x.ik, e C.id, e x.am, e C.ad, e x.np, e x.nt, e C.ns, e C.nd, e x.dp, e (C.ds.map Sb.xs), e C.se, e C.da]
  · rw [if_pos (by simpa using h), if_pos (by simpa using fun e => h e.symm)]
/-- What was drawn is written, in few bytes. -/
theorem vld_build (x : Pv) (C : Pc) (w : World) (h : PvRd w x C) (hn : NumOk x) (hv : Vld x C) (hk : Kind12 x.t) : (buildB x C).2 = 0 ∧ (buildB x C).1.length ≤ 8000 ∧ PvSz x := by
  obtain ⟨n1, n2, n3, n4⟩ := hn
  have hdl := h.ds.len
  unfold buildB
  rcases hk with e | e | e | e | e | e | e | e | e | e | e | e
  · have v := (vld33 e).1 hv
    rw [if_pos e]
    have h1 := encPs_le (C.pr.map PrP.pr) (checkP_ok v).2.2
    have h2 := (checkP_ok v).2.1
    refine ⟨by unfold buildP; rw [v, if_neg (by simp)], ?_, ⟨fun h0 => by rw [e] at h0; exact absurd h0 (by decide), fun h0 => by rw [e] at h0; exact absurd h0 (by decide), fun h0 => by rw [e] at h0; exact absurd h0 (by decide), fun h0 => by rw [e] at h0; exact absurd h0 (by decide), fun h0 => by rw [e] at h0; exact absurd h0 (by decide), fun h0 => by rw [e] at h0; exact absurd h0 (by decide), fun a1 a2 a3 a4 a5 a6 a7 a8 a9 => absurd e a1⟩⟩
    unfold buildP
    rw [v, if_neg (by simp)]
    show (encPs _).length ≤ _
    omega
  · have v := (vld34 e).1 hv
    rw [if_neg (by rw [e]; decide), if_pos e]
    have hl := h.ed.len
    refine ⟨by show exchE _ _ = 0; unfold exchE; rw [if_neg (by omega), if_neg (by omega)], ?_, ⟨fun _ => by omega, fun h0 => by rw [e] at h0; exact absurd h0 (by decide), fun h0 => by rw [e] at h0; exact absurd h0 (by decide), fun h0 => by rw [e] at h0; exact absurd h0 (by decide), fun h0 => by rw [e] at h0; exact absurd h0 (by decide), fun h0 => by rw [e] at h0; exact absurd h0 (by decide), fun a1 a2 a3 a4 a5 a6 a7 a8 a9 => absurd e a2⟩⟩
    show (exchL _ _).length ≤ _
    simp [exchL]
    omega
  · have v := (vld35 e).1 hv
    rw [if_neg (by rw [e]; decide), if_neg (by rw [e]; decide), if_pos e]
    have hl := h.id.len
    refine ⟨?_, ?_, ⟨fun h0 => by rw [e] at h0; exact absurd h0 (by decide), fun _ => by omega, fun h0 => by rw [e] at h0; exact absurd h0 (by decide), fun h0 => by rw [e] at h0; exact absurd h0 (by decide), fun h0 => by rw [e] at h0; exact absurd h0 (by decide), fun h0 => by rw [e] at h0; exact absurd h0 (by decide), fun a1 a2 a3 a4 a5 a6 a7 a8 a9 => absurd e a3⟩⟩
    · show idE _ _ = 0
      obtain ⟨v1, v2, v3⟩ := v
      unfold idE
      rw [if_neg (by omega), if_neg (by omega), if_pos v1, if_neg (by omega)]
    · show (headL _ _).length ≤ _
      simp [headL]
      omega
  · have v := (vld36 e).1 hv
    rw [if_neg (by rw [e]; decide), if_neg (by rw [e]; decide), if_neg (by rw [e]; decide), if_pos e]
    have hl := h.id.len
    refine ⟨?_, ?_, ⟨fun h0 => by rw [e] at h0; exact absurd h0 (by decide), fun _ => by omega, fun h0 => by rw [e] at h0; exact absurd h0 (by decide), fun h0 => by rw [e] at h0; exact absurd h0 (by decide), fun h0 => by rw [e] at h0; exact absurd h0 (by decide), fun h0 => by rw [e] at h0; exact absurd h0 (by decide), fun a1 a2 a3 a4 a5 a6 a7 a8 a9 => absurd e a4⟩⟩
    · show idE _ _ = 0
      obtain ⟨v1, v2, v3⟩ := v
      unfold idE
      rw [if_neg (by omega), if_neg (by omega), if_pos v1, if_neg (by omega)]
    · show (headL _ _).length ≤ _
      simp [headL]
      omega
  · have v := (vld39 e).1 hv
    rw [if_neg (by rw [e]; decide), if_neg (by rw [e]; decide), if_neg (by rw [e]; decide), if_neg (by rw [e]; decide), if_pos e]
    have hl := h.ad.len
    refine ⟨?_, ?_, ⟨fun h0 => by rw [e] at h0; exact absurd h0 (by decide), fun h0 => by rw [e] at h0; exact absurd h0 (by decide), fun _ => by omega, fun h0 => by rw [e] at h0; exact absurd h0 (by decide), fun h0 => by rw [e] at h0; exact absurd h0 (by decide), fun h0 => by rw [e] at h0; exact absurd h0 (by decide), fun a1 a2 a3 a4 a5 a6 a7 a8 a9 => absurd e a5⟩⟩
    · show authE _ _ = 0
      unfold authE
      rw [if_neg (by omega), if_neg (by omega)]
    · show (headL _ _).length ≤ _
      simp [headL]
      omega
  · have v := (vld40 e).1 hv
    rw [if_neg (by rw [e]; decide), if_neg (by rw [e]; decide), if_neg (by rw [e]; decide), if_neg (by rw [e]; decide), if_neg (by rw [e]; decide), if_pos e]
    have hl := h.da.len
    refine ⟨?_, ?_, ⟨fun h0 => by rw [e] at h0; exact absurd h0 (by decide), fun h0 => by rw [e] at h0; exact absurd h0 (by decide), fun h0 => by rw [e] at h0; exact absurd h0 (by decide), fun h0 => by rw [e] at h0; exact absurd h0 (by decide), fun h0 => by rw [e] at h0; exact absurd h0 (by decide), fun h0 => by rw [e] at h0; exact absurd h0 (by decide), fun _ _ _ _ _ _ _ _ _ => by omega⟩⟩
    · show nonceE _ = 0
      unfold nonceE
      rw [if_neg (by omega)]
    · show C.da.length ≤ _
      omega
  · have v := (vld41 e).1 hv
    rw [if_neg (by rw [e]; decide), if_neg (by rw [e]; decide), if_neg (by rw [e]; decide), if_neg (by rw [e]; decide), if_neg (by rw [e]; decide), if_neg (by rw [e]; decide), if_pos e]
    have hl := h.ns.len
    have hl2 := h.nd.len
    refine ⟨?_, ?_, ⟨fun h0 => by rw [e] at h0; exact absurd h0 (by decide), fun h0 => by rw [e] at h0; exact absurd h0 (by decide), fun h0 => by rw [e] at h0; exact absurd h0 (by decide), fun _ => by omega, fun _ => by omega, fun h0 => by rw [e] at h0; exact absurd h0 (by decide), fun a1 a2 a3 a4 a5 a6 a7 a8 a9 => absurd e a6⟩⟩
    · show notifyE _ _ _ = 0
      unfold notifyE
      rw [if_neg (by omega), if_pos]
      rcases v with ⟨v1, v2⟩ | ⟨v1, v2⟩
      · rw [v1, v2]; rfl
      · rw [v1, v2]; rfl
    · show (noteL _ _ _ _).length ≤ _
      simp [noteL]
      omega
  · have v := (vld42 e).1 hv
    rw [if_neg (by rw [e]; decide), if_neg (by rw [e]; decide), if_neg (by rw [e]; decide), if_neg (by rw [e]; decide), if_neg (by rw [e]; decide), if_neg (by rw [e]; decide), if_neg (by rw [e]; decide), if_pos e]
    rcases v with ⟨v1, v2⟩ | ⟨v1, v2 | v2⟩
    · have hd0 : x.ds.n = 0 := by rw [← hdl, v2]; rfl
      rw [v1, v2]
      exact ⟨by decide, by decide, ⟨fun h0 => by rw [e] at h0; exact absurd h0 (by decide), fun h0 => by rw [e] at h0; exact absurd h0 (by decide), fun h0 => by rw [e] at h0; exact absurd h0 (by decide), fun h0 => by rw [e] at h0; exact absurd h0 (by decide), fun h0 => by rw [e] at h0; exact absurd h0 (by decide), fun _ => by omega, fun a1 a2 a3 a4 a5 a6 a7 a8 a9 => absurd e a7⟩⟩
    · have hd0 : x.ds.n = 1 := by rw [← hdl]; have := congrArg List.length v2; simpa using this
      rw [v1, v2]
      exact ⟨by decide, by decide, ⟨fun h0 => by rw [e] at h0; exact absurd h0 (by decide), fun h0 => by rw [e] at h0; exact absurd h0 (by decide), fun h0 => by rw [e] at h0; exact absurd h0 (by decide), fun h0 => by rw [e] at h0; exact absurd h0 (by decide), fun h0 => by rw [e] at h0; exact absurd h0 (by decide), fun _ => by omega, fun a1 a2 a3 a4 a5 a6 a7 a8 a9 => absurd e a7⟩⟩
    · have hd0 : x.ds.n = 2 := by rw [← hdl]; have := congrArg List.length v2; simpa using this
      rw [v1, v2]
      exact ⟨by decide, by decide, ⟨fun h0 => by rw [e] at h0; exact absurd h0 (by decide), fun h0 => by rw [e] at h0; exact absurd h0 (by decide), fun h0 => by rw [e] at h0; exact absurd h0 (by decide), fun h0 => by rw [e] at h0; exact absurd h0 (by decide), fun h0 => by rw [e] at h0; exact absurd h0 (by decide), fun _ => by omega, fun a1 a2 a3 a4 a5 a6 a7 a8 a9 => absurd e a7⟩⟩
  · have v := (vld44 e).1 hv
    rw [if_neg (by rw [e]; decide), if_neg (by rw [e]; decide), if_neg (by rw [e]; decide), if_neg (by rw [e]; decide), if_neg (by rw [e]; decide), if_neg (by rw [e]; decide), if_neg (by rw [e]; decide), if_neg (by rw [e]; decide), if_pos e]
    obtain ⟨v1, v2, v3⟩ := v
    have h1 := encL_le C.se v1
    have h2 := errL_good (fun s hs => (v1 s hs).check)
    have h3 : buildS C.se = ([(C.se.length : Int), 0, 0, 0] ++ encL C.se, 0) := by
      unfold buildS
      rw [if_neg (by omega), if_neg (by omega), h2, if_neg (by simp)]
    rw [h3]
    refine ⟨rfl, ?_, ⟨fun h0 => by rw [e] at h0; exact absurd h0 (by decide), fun h0 => by rw [e] at h0; exact absurd h0 (by decide), fun h0 => by rw [e] at h0; exact absurd h0 (by decide), fun h0 => by rw [e] at h0; exact absurd h0 (by decide), fun h0 => by rw [e] at h0; exact absurd h0 (by decide), fun h0 => by rw [e] at h0; exact absurd h0 (by decide), fun a1 a2 a3 a4 a5 a6 a7 a8 a9 => absurd e a8⟩⟩
    show (_ ++ _ : List Int).length ≤ _
    simp only [List.length_append, List.length_cons, List.length_nil]
    omega
  · have v := (vld45 e).1 hv
    rw [if_neg (by rw [e]; decide), if_neg (by rw [e]; decide), if_neg (by rw [e]; decide), if_neg (by rw [e]; decide), if_neg (by rw [e]; decide), if_neg (by rw [e]; decide), if_neg (by rw [e]; decide), if_neg (by rw [e]; decide), if_neg (by rw [e]; decide), if_pos e]
    obtain ⟨v1, v2, v3⟩ := v
    have h1 := encL_le C.se v1
    have h2 := errL_good (fun s hs => (v1 s hs).check)
    have h3 : buildS C.se = ([(C.se.length : Int), 0, 0, 0] ++ encL C.se, 0) := by
      unfold buildS
      rw [if_neg (by omega), if_neg (by omega), h2, if_neg (by simp)]
    rw [h3]
    refine ⟨rfl, ?_, ⟨fun h0 => by rw [e] at h0; exact absurd h0 (by decide), fun h0 => by rw [e] at h0; exact absurd h0 (by decide), fun h0 => by rw [e] at h0; exact absurd h0 (by decide), fun h0 => by rw [e] at h0; exact absurd h0 (by decide), fun h0 => by rw [e] at h0; exact absurd h0 (by decide), fun h0 => by rw [e] at h0; exact absurd h0 (by decide), fun a1 a2 a3 a4 a5 a6 a7 a8 a9 => absurd e a9⟩⟩
    show (_ ++ _ : List Int).length ≤ _
    simp only [List.length_append, List.length_cons, List.length_nil]
    omega
  · have v := (vld37 e).1 hv
    rw [if_neg (by rw [e]; decide), if_neg (by rw [e]; decide), if_neg (by rw [e]; decide), if_neg (by rw [e]; decide), if_neg (by rw [e]; decide), if_neg (by rw [e]; decide), if_neg (by rw [e]; decide), if_neg (by rw [e]; decide), if_neg (by rw [e]; decide), if_neg (by rw [e]; decide)]
    have hl := h.da.len
    exact ⟨rfl, by show C.da.length ≤ _; omega, ⟨fun h0 => by rw [e] at h0; exact absurd h0 (by decide), fun h0 => by rw [e] at h0; exact absurd h0 (by decide), fun h0 => by rw [e] at h0; exact absurd h0 (by decide), fun h0 => by rw [e] at h0; exact absurd h0 (by decide), fun h0 => by rw [e] at h0; exact absurd h0 (by decide), fun h0 => by rw [e] at h0; exact absurd h0 (by decide), fun _ _ _ _ _ _ _ _ _ => by omega⟩⟩
  · have v := (vld43 e).1 hv
    rw [if_neg (by rw [e]; decide), if_neg (by rw [e]; decide), if_neg (by rw [e]; decide), if_neg (by rw [e]; decide), if_neg (by rw [e]; decide), if_neg (by rw [e]; decide), if_neg (by rw [e]; decide), if_neg (by rw [e]; decide), if_neg (by rw [e]; decide), if_neg (by rw [e]; decide)]
    have hl := h.da.len
    exact ⟨rfl, by show C.da.length ≤ _; omega, ⟨fun h0 => by rw [e] at h0; exact absurd h0 (by decide), fun h0 => by rw [e] at h0; exact absurd h0 (by decide), fun h0 => by rw [e] at h0; exact absurd h0 (by decide), fun h0 => by rw [e] at h0; exact absurd h0 (by decide), fun h0 => by rw [e] at h0; exact absurd h0 (by decide), fun h0 => by rw [e] at h0; exact absurd h0 (by decide), fun _ _ _ _ _ _ _ _ _ => by omega⟩⟩
/-- What was read out of few bytes is small. -/
theorem rd_sz (t : Int) (xs : List Int) (hr : ∀ z ∈ xs, 0 ≤ z ∧ z ≤ 255) (hl : xs.length ≤ 1000000) (x : Pv) (C : Pc) (w : World) (h : PvRk w x C) (hd : RdAs x.t xs x C) : PvSz x := by
  have b2 : 0 ≤ nthB xs 2 ∧ nthB xs 2 ≤ 255 := rng_getD hr 2
  have b3 : 0 ≤ nthB xs 3 ∧ nthB xs 3 ≤ 255 := rng_getD hr 3
  refine ⟨fun e => ?_, fun e => ?_, fun e => ?_, fun e => ?_, fun e => ?_, fun e => ?_, fun a1 a2 a3 a4 a5 a6 a7 a8 a9 => ?_⟩
  · have := (h.a34 e).ed.len
    rw [(hd.a34 e).2, List.length_drop] at this
    omega
  · have h1 := (hd.a35 e).2
    rcases e with e | e
    · have := (h.a35 e).id.len
      rw [h1, List.length_drop] at this
      omega
    · have := (h.a36 e).id.len
      rw [h1, List.length_drop] at this
      omega
  · have := (h.a39 e).ad.len
    rw [(hd.a39 e).2, List.length_drop] at this
    omega
  · have := (h.a41 e).ns.len
    rw [(hd.a41 e).2.2.1, List.length_take, List.length_drop] at this
    omega
  · have := (h.a41 e).nd.len
    rw [(hd.a41 e).2.2.2, List.length_drop] at this
    omega
  · have h1 := (h.a42 e).ds.len
    have h2 := congrArg List.length (hd.a42 e).2
    simp only [spisL, List.length_map, List.length_range] at h2
    omega
  · have := (h.aX a1 a2 a3 a4 a5 a6 a7 a8 a9).da.len
    rw [hd.aX a1 a2 a3 a4 a5 a6 a7 a8 a9] at this
    omega
end Go.Proofs.YtpocehpejbnemaaDoor
