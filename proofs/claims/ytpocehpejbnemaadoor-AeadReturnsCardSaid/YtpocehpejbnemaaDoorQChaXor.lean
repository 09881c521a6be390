/-
  chacha.Block and chacha.Xor.
-/
import Derived.Test.YtpocehpejbnemaaDoorQChaMix
import Derived.Test.YtpocehpejbnemaaDoorQChaInit
import Derived.Test.YtpocehpejbnemaaDoorQChaChunk
import Derived.Test.YtpocehpejbnemaaDoorQHeldIn
import Derived.Test.YtpocehpejbnemaaDoorQBod
namespace Go.Proofs.YtpocehpejbnemaaDoor
open Go.RowKit Go.Shelf
set_option linter.unusedVariables false
set_option linter.unusedSimpArgs false
attribute [local go_sem] Oper.semAt_some

theorem noFit {n m : Nat} (h : ¬ (n = 32 ∧ m = 12)) : decide (n = 32 ∧ m = 12) = false := by simp only [decide_eq_false_iff_not]; exact h
theorem cblock_no (p q : Option Addr) (n c m d : Nat) (ctr : Int) (w : World) (hn : n ≤ 9223372036854775807) (hm : m ≤ 9223372036854775807) (h : ¬ (n = 32 ∧ m = 12)) :
    Calls Tryd.prog 25 #[.slice p n c, .int .u32 ctr, .slice q m d] w fun e w' => e = .returned (.tuple #[.slice none 0 0, .bool false]) ∧ w = w' := by
  have H := fit_any p q n c m d w hn hm
  rw [noFit h] at H
  have HF := hidden H
  clear H h
  go_enter Tryd.func25, Tryd.ntmps25
  go_wp2_with (first
    | (go_at_call 43; (with_reducible refine (HF.out).mono ?_); rintro e w1 ⟨rfl, rfl⟩)
    | fail)
  go_ret2
  exact ⟨rfl, rfl⟩
theorem cxor_no (p q : Option Addr) (n c m d : Nat) (ctr : Int) (r : Option Addr) (k e : Nat) (w : World) (hn : n ≤ 9223372036854775807) (hm : m ≤ 9223372036854775807) (h : ¬ (n = 32 ∧ m = 12)) :
    Calls Tryd.prog 24 #[.slice p n c, .int .u32 ctr, .slice q m d, .slice r k e] w fun e w' => e = .returned (.tuple #[.slice none 0 0, .bool false]) ∧ w = w' := by
  have H := fit_any p q n c m d w hn hm
  rw [noFit h] at H
  have HF := hidden H
  clear H h
  go_enter Tryd.func24, Tryd.ntmps24
  go_wp2_with (first
    | (go_at_call 43; (with_reducible refine (HF.out).mono ?_); rintro e w1 ⟨rfl, rfl⟩)
    | fail)
  go_ret2
  exact ⟨rfl, rfl⟩

set_option maxHeartbeats 1600000 in
set_option maxRecDepth 100000 in
theorem cblock_yes (p q : Option Addr) (c d : Nat) (key nonce : List Int) (ctr : Int) (w : World) (h : Byt w p 32 c key) (h' : Byt w q 12 d nonce) (hQ : QAt w) :
    Calls Tryd.prog 25 #[.slice p 32 c, .int .u32 ctr, .slice q 12 d] w fun e w' => ∃ B, e = .returned (.tuple #[.slice (some ⟨B, 0, none⟩) 64 64, .bool true]) ∧ w.heap.size ≤ B ∧ Wb w' B 89 (blockC key ctr nonce) ∧ Below w.heap.size w w' := by
  have HF := hidden (fit_any p q 32 c 12 d w (by omega) (by omega))
  have HI := hidden (initial_any p q c d key nonce ctr w h h')
  have HM := hidden (fun W (hW : Below w.heap.size w W) => mixed_any (initC key ctr nonce) (initC_len _ _ _) W (hQ.below hW hQ.lt))
  have hRl := mixedC_len (initC key ctr nonce)
  have HBC : Is (blockC key ctr nonce) (mixedC (initC key ctr nonce)) := ⟨rfl⟩
  generalize initC key ctr nonce = S at *
  generalize mixedC S = R at *
  rw [HBC.eq]
  have hiR : (Tryd.prog.info? 89).map (·.size) = some ((R.map (Value.int .u8)).toArray).size := by rw [infoB64]; simp [hRl]
  have hzr : ((List.replicate 64 (0 : Int)).map (Value.int .u8)).toArray.size = ((R.map (Value.int .u8)).toArray).size := by simp [hRl]
  have HIR := hidden hiR
  have HZR := hidden hzr
  have HONE := hidden (one8 R)
  have hdec : decide ((32 : Nat) = 32 ∧ (12 : Nat) = 12) = true := by decide
  clear h h' hQ hiR hzr HBC hRl
  go_enter Tryd.func25, Tryd.ntmps25
  go_wp2_with (first
    | (go_at_call 43; (with_reducible refine (HF.out).mono ?_); rintro e w1 ⟨rfl, rfl⟩)
    | (go_at_call 44; (with_reducible refine (HI.out).mono ?_); rintro e w2 ⟨rfl, hb2⟩; have HB2 := hidden hb2; clear hb2)
    | (go_at_call 46; (with_reducible refine (HM.out w2 HB2.out).mono ?_); rintro e w3 ⟨rfl, hb3⟩; have HB3 := hidden (HB2.out.trans (hb3.mono HB2.out.size)); clear hb3)
    | (refine wpList_store_row rfl 89 _ _ rfl w3.heap.size (R.map (Value.int .u8)).toArray rfl rfl 89 _ (heap_alloc_new w3 _) HIR.out HZR.out HONE.out ?_)
    | fail)
  go_ret2
  refine ⟨_, rfl, HB3.out.size, ?_, ?_⟩
  · exact (Wb.new w3 89 (List.replicate 64 0) _ rfl).row R
  · exact below_setRow (HB3.out.alloc HB3.out.size _) HB3.out.size _

/-- Pieces, one after the other, each xor its part of the stream. -/
def pieceX (f : Nat → Int) : Nat → List (List Int) → List Int
  | _, [] => []
  | j, x :: l => xorL f (64 * j) x ++ pieceX f (j + 1) l
theorem pieceX_append (f : Nat → Int) (j : Nat) (l : List (List Int)) (x : List Int) : pieceX f j (l ++ [x]) = pieceX f j l ++ xorL f (64 * (j + l.length)) x := by
  induction l generalizing j with
  | nil => simp [pieceX]
  | cons y l ih => simp only [List.cons_append, pieceX, ih, List.append_assoc, List.length_cons]; congr 3; omega
theorem pieceX_chunks (f : Nat → Int) (b : List Int) (k : Nat) (h : 64 * k < b.length + 64) : pieceX f 0 (chunksP k b) = xorL f 0 (b.take (64 * k)) := by
  induction k with
  | zero => simp [chunksP, pieceX, xorL]
  | succ k ih =>
    rw [chunksP, pieceX_append, ih (by omega), chunksP_len, show 64 * (k + 1) = 64 * k + 64 by omega, List.take_add, xorL_append]
    congr 2
    simp; omega
theorem pieceX_all (f : Nat → Int) (b : List Int) (k : Nat) (h : 64 * k < b.length + 64) (h2 : b.length ≤ 64 * k) : pieceX f 0 (chunksP k b) = xorL f 0 b := by
  rw [pieceX_chunks f b k h, List.take_of_length_le h2]
theorem pieceX_rng (f : Nat → Int) (j : Nat) (l : List (List Int)) : ∀ x ∈ pieceX f j l, 0 ≤ x ∧ x ≤ 255 := by
  induction l generalizing j with
  | nil => intro x hx; cases hx
  | cons y l ih => exact rng_append (xorL_rng _ _ _) (ih _)
theorem Below.le {B B' : Nat} {w w' : World} (h : Below B w w') (hb : B' ≤ B) : Below B' w w' := h.mono hb
theorem ksC_at (key : List Int) (c : Int) (nonce : List Int) (k i : Nat) (h : i < 64) : ksC key c nonce (64 * k + i) = (mixedC (initC key ((c + (k : Int)) % 4294967296) nonce)).getD i 0 := by
  unfold ksC blockC
  rw [show (64 * k + i) / 64 = k by omega, show (64 * k + i) % 64 = i by omega]
theorem xorL_next' (f : Nat → Int) (i : Nat) (l : List Int) (j : Nat) (hj : j < l.length) : xorL f i (l.take (j + 1)) = xorL f i (l.take j) ++ [bits .xor .u8 (l.getD j 0) (f (i + j))] := by
  rw [List.take_succ_eq_append_getElem hj, xorL_append]
  simp [xorL, List.getD_eq_getElem?_getD, hj]
  congr 2
  omega
theorem Own.typed {w : World} {base : Nat} {e : TypeId} {v : Value} {xs : List Int} (h : Own w base e v xs) (k : Nat) (hk : v.ownBlock = some k) : ∃ cur, w.heap[k]? = some (.cells cur e (0, 0)) := by
  rcases h.2 with ⟨rfl, _⟩ | ⟨g, cap, cur, rfl, _, hh, _⟩
  · simp [Value.ownBlock] at hk
  · simp [Value.ownBlock] at hk
    subst hk
    exact ⟨cur, hh⟩
/-- The blocks that a round keeps as they are. -/
structure MidX (w : World) (o : Nat) (r : Option Addr) (n e : Nat) (U : World) : Prop where
  q : QAt U
  bel : Below w.heap.size w U
  c0 : U.heap[o + 1]? = some (.cells #[.slice r n e] 22 (0, 0))
  c1 : U.heap[o + 2]? = some (.cells #[.int .i64 64] 3 (0, 0))
/-- What the rounds keep: the state, with its counter, and the bytes so far. -/
structure InvX (w : World) (g o : Nat) (f : Nat → Int) (T : Nat → List Int) (r : Option Addr) (n e : Nat) (pre : List ChP) (U : World) : Prop where
  mid : MidX w o r n e U
  st : Wd U g 84 (T pre.length)
  out : ∃ v, U.heap[o]? = some (.cells #[v] 22 (0, 0)) ∧ Own U w.heap.size 5 v (pieceX f 0 (pre.map (·.b)))
  len : (pieceX f 0 (pre.map (·.b))).length ≤ 64 * pre.length
theorem Own.stays {U U' : World} {base : Nat} {e : TypeId} {v : Value} {xs : List Int} {row : Option Nat} (h : Own U base e v xs) (hg : U.grownBy U' row) (hr : ∀ k, row = some k → ∀ cur, U.heap[k]? ≠ some (.cells cur e (0, 0))) : Own U' base e v xs :=
  World.ownsRow.kept h hg (by
    rcases hv : v.ownBlock with _ | b
    · exact Or.inl rfl
    · obtain ⟨cur, hc⟩ := h.typed b hv
      refine Or.inr fun e => ?_
      exact hr b e.symm cur hc)
theorem QAt.grown {U U' : World} {row : Option Nat} (h : QAt U) (hg : U.grownBy U' row) (hr : some 1 ≠ row) : QAt U' := by
  obtain ⟨t, fr, hq⟩ := h.heap
  exact ⟨t, fr, (hg.block _ h.lt hr).trans hq⟩
theorem MidX.grown {w : World} {o : Nat} {r : Option Addr} {n e : Nat} {U U' : World} {row : Option Nat} (h : MidX w o r n e U) (hg : U.grownBy U' row) (hq : 1 < w.heap.size) (hr : ∀ k, row = some k → w.heap.size ≤ k ∧ k ≠ o + 1 ∧ k ≠ o + 2) : MidX w o r n e U' := by
  have l1 := (Array.getElem?_eq_some_iff.1 h.c0).1
  have l2 := (Array.getElem?_eq_some_iff.1 h.c1).1
  refine ⟨h.q.grown hg (fun e => ?_), h.bel.grown hg h.bel.size (fun k e => (hr k e).1), (hg.block _ l1 (fun e => ?_)).trans h.c0, (hg.block _ l2 (fun e => ?_)).trans h.c1⟩
  · have := (hr _ e.symm).1; omega
  · exact (hr _ e.symm).2.1 rfl
  · exact (hr _ e.symm).2.2 rfl
theorem InvX.stays {w : World} {g o : Nat} {f : Nat → Int} {T : Nat → List Int} {r : Option Addr} {n e : Nat} {pre : List ChP} {U U' : World} {row : Option Nat} (h : InvX w g o f T r n e pre U) (hg : U.grownBy U' row)
    (hq : 1 < w.heap.size) (hr : ∀ k, row = some k → w.heap.size ≤ k ∧ k ≠ g ∧ k ≠ o ∧ k ≠ o + 1 ∧ k ≠ o + 2 ∧ ∀ cur, U.heap[k]? ≠ some (.cells cur 5 (0, 0))) : InvX w g o f T r n e pre U' := by
  obtain ⟨v, hv, ho⟩ := h.out
  have l1 := (Array.getElem?_eq_some_iff.1 hv).1
  refine ⟨h.mid.grown hg hq (fun k e => ⟨(hr k e).1, (hr k e).2.2.2.1, (hr k e).2.2.2.2.1⟩), h.st.grownC hg (fun e => (hr _ e.symm).2.1 rfl), ⟨v, (hg.block _ l1 (fun e => (hr _ e.symm).2.2.1 rfl)).trans hv, ho.stays hg (fun k e => (hr k e).2.2.2.2.2)⟩, h.len⟩
theorem invX_abides (w : World) (g o : Nat) (f : Nat → Int) (T : Nat → List Int) (r : Option Addr) (n e Bd : Nat) (hq : 1 < w.heap.size) (hg : g < Bd) (ho : o + 2 < Bd) (hw : w.heap.size ≤ Bd) : AbidesN Bd (InvX w g o f T r n e) := fun pre U U' row h hgr hr => by
  refine h.stays hgr hq (fun k e => ?_)
  obtain ⟨h1, ob, h2, h3⟩ := hr k e
  refine ⟨by omega, by omega, by omega, by omega, by omega, fun cur hc => ?_⟩
  rw [h2] at hc
  cases hc
  cases h3
/-- What the loop over a piece keeps. -/
structure LoopX (w : World) (g o M : Nat) (S R : List Int) (r : Option Addr) (n e : Nat) (x : ChP) (D : Nat → Prop) (U2 wr : World) (P : List Int) : Prop where
  mid : MidX w o r n e wr
  st : Wd wr g 84 S
  out : ∃ v, wr.heap[o]? = some (.cells #[v] 22 (0, 0)) ∧ Own wr w.heap.size 5 v P
  str : Wb wr M 89 R
  byt : Byt wr x.p x.n x.n x.b
  keep : KeepS D U2 wr
  oth : KeepsOthers U2 wr
theorem LoopX.next {w : World} {g o M : Nat} {S R : List Int} {r : Option Addr} {n e : Nat} {x : ChP} {D : Nat → Prop} {U2 wr W1 w4 : World} {P : List Int} {z : Int} {v v' : Value} (h : LoopX w g o M S R r n e x D U2 wr P)
    (hv : wr.heap[o]? = some (.cells #[v] 22 (0, 0))) (hov : Own wr w.heap.size 5 v P) (h1 : wr.grownBy W1 none) (hg : W1.grownBy w4 v.ownBlock) (ho : Own w4 w.heap.size 5 v' (P ++ [z]))
    (hq : 1 < w.heap.size) (hwg : w.heap.size ≤ g) (hgo : o = g + 2) (hMo : o + 2 < M) (hx : ∃ bb oo, x.p = some ⟨bb, oo, none⟩ ∧ bb < w.heap.size) (hD : ∀ j, D j → j < w.heap.size ∨ j = o + 1 ∨ j = o + 2) (hU2 : o + 2 < U2.heap.size) :
    LoopX w g o M S R r n e x D U2 (w4.setCell ⟨o, 0, none⟩ v') (P ++ [z]) := by
  have hgr : wr.grownBy w4 v.ownBlock := grown_trans (⟨h1.os, h1.tape, h1.output, h1.size, fun k hk _ => h1.block k hk (by simp)⟩) hg
  have hrow : ∀ k, v.ownBlock = some k → w.heap.size ≤ k ∧ ∃ cur, wr.heap[k]? = some (.cells cur 5 (0, 0)) := fun k hk => ⟨(hov.lt k hk).1, hov.typed k hk⟩
  have kg : ∀ k, v.ownBlock = some k → k ≠ g := fun k hk e => by
    obtain ⟨_, cur, hc⟩ := hrow k hk
    rw [e, h.st.heap] at hc
    simp at hc
  have ko : ∀ k, v.ownBlock = some k → k ≠ o := fun k hk e => by
    obtain ⟨_, cur, hc⟩ := hrow k hk
    rw [e, hv] at hc
    simp at hc
  have kM : ∀ k, v.ownBlock = some k → k ≠ M := fun k hk e => by
    obtain ⟨_, cur, hc⟩ := hrow k hk
    rw [e, h.str.heap] at hc
    simp at hc
  have k1 : ∀ k, v.ownBlock = some k → k ≠ o + 1 := fun k hk e => by
    obtain ⟨_, cur, hc⟩ := hrow k hk
    rw [e, h.mid.c0] at hc
    simp at hc
  have k2 : ∀ k, v.ownBlock = some k → k ≠ o + 2 := fun k hk e => by
    obtain ⟨_, cur, hc⟩ := hrow k hk
    rw [e, h.mid.c1] at hc
    simp at hc
  have lo := (Array.getElem?_eq_some_iff.1 hv).1
  have hv4 : w4.heap[o]? = some (.cells #[v] 22 (0, 0)) := (hgr.block _ lo (fun e => ko _ e.symm rfl)).trans hv
  have hgs : w4.grownBy (w4.setCell ⟨o, 0, none⟩ v') (some o) := grown_set _ _ _ _
  have hbb := hx
  obtain ⟨bb, oo, hxp, hbbl⟩ := hx
  have hbyt : ∀ {A B : World} {row : Option Nat}, Byt A x.p x.n x.n x.b → A.grownBy B row → (∀ k, row = some k → w.heap.size ≤ k) → Byt B x.p x.n x.n x.b := fun hA hAB hr => by
    refine ⟨hA.len, hA.cap, hA.big, hA.rng, fun hn => ?_⟩
    obtain ⟨b', o', e', hc⟩ := hA.mem hn
    have : b' = bb := by rw [hxp] at e'; cases e'; rfl
    refine ⟨b', o', e', fun i hi => hAB.cell (hc i hi) (fun e => ?_)⟩
    have := hr _ e.symm
    simp only at this
    omega
  refine ⟨(h.mid.grown hgr hq (fun k hk => ⟨(hrow k hk).1, k1 k hk, k2 k hk⟩)).grown hgs hq (fun k hk => by cases hk; omega), (h.st.grownC hgr (fun e => kg _ e.symm rfl)).other _ _ (by simp; omega), ⟨v', ?_, ho.stays hgs (fun k hk cur hc => ?_)⟩,
    ⟨?_⟩, hbyt (hbyt h.byt hgr (fun k hk => (hrow k hk).1)) hgs (fun k hk => by cases hk; omega), ?_, ?_⟩
  · rw [heap_setCell_same w4 o 0 _ _ _ hv4]
    rfl
  · cases hk
    rw [hv4] at hc
    simp at hc
  · rw [Below.heap_setCell _ _ _ _ (by simp; omega)]
    exact (hgr.block _ h.str.lt (fun e => kM _ e.symm rfl)).trans h.str.heap
  · refine h.keep.trans (KeepS.trans (KeepS.grown (fun j hj => ?_) hgr (fun k hk hd => ?_)) (KeepS.grown (fun j hj => ?_) hgs (fun k hk hd => ?_)))
    · have := h.keep.size
      have := hD j hj
      omega
    · have h1 := hD k hd
      have h2 := (hrow k hk).1
      rcases h1 with h1 | h1 | h1
      · omega
      · exact k1 k hk h1
      · exact k2 k hk h1
    · have := h.keep.size
      have := hgr.size
      have := hD j hj
      omega
    · cases hk
      have := hD _ hd
      omega
  · refine h.oth.trans ((KeepsOthers.of_grownBy hgr (fun j ob hj hob => ?_)).trans (KeepsOthers.setCell _ _ _))
    obtain ⟨_, cur, hc⟩ := hrow j hj
    rw [hc] at hob
    cases hob
    rfl
end Go.Proofs.YtpocehpejbnemaaDoor
