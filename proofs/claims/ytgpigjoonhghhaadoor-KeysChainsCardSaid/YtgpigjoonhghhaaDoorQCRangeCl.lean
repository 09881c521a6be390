/-
  A range over a function that is a closure: the statement's law, where the body always goes on. The closure may write one block R of its own; the body keeps what lies below B, but for the block X.
-/
import Derived.Test.YtgpigjoonhghhaaDoorQCRangeSt
import Derived.Laws.CopyOwn
namespace Go.Proofs.YtgpigjoonhghhaaDoor
open Go.RowKit Go.Shelf
set_option linter.unusedVariables false
structure KeepX (X B : Nat) (w w' : World) : Prop where
  size : w.heap.size ≤ w'.heap.size
  block : ∀ k, k < B → k ≠ X → w'.heap[k]? = w.heap[k]?
theorem KeepX.refl (X B : Nat) (w : World) : KeepX X B w w := ⟨Nat.le_refl _, fun _ _ _ => rfl⟩
theorem KeepX.trans {X B : Nat} {a b c : World} (h : KeepX X B a b) (k : KeepX X B b c) : KeepX X B a c :=
  ⟨Nat.le_trans h.size k.size, fun j hj hx => (k.block j hj hx).trans (h.block j hj hx)⟩
theorem KeepX.of_below {X B : Nat} {a b : World} (h : Below B a b) : KeepX X B a b := ⟨h.size, fun j hj _ => h.block j hj⟩
theorem KeepX.setCell {X B : Nat} (w : World) (a : Addr) (v : Value) (h : a.block = X) : KeepX X B w (w.setCell a v) :=
  ⟨by simp, fun j _ hx => Below.heap_setCell w a v j (by rw [h]; exact hx)⟩
theorem KeepX.setRow {X B : Nat} (w : World) (cs : Array Value) : KeepX X B w (w.setRow X cs) :=
  ⟨by simp, fun j _ hx => setRow_other w X j cs hx⟩
def roundX {α : Type} (I : List α → World → Prop) (X B : Nat) (xs : List α) (W : World) : Exit → Act → World → Prop
  | .normal, _, W' => KeepsOthers W W' ∧ KeepX X B W W' ∧ I xs W'
  | _, _, _ => False
def SeqCl {α : Type} (F : Fence) (n : Nat) (P : Program) (gf : Nat) (lb : Array Value) (encs : α → Array Value) (R X B N : Nat) (S : α → World → Prop) (T : List α → World → Prop) (w : World) : Prop :=
  ∀ (l : Nat) (J : List α → World → Prop) (W : World), Below w.heap.size w W → (∀ pre U U', J pre U → U.grownBy U' (some R) → J pre U') →
    (∀ pre x U, J pre U → S x U → pre.length < N → YieldAt F (n - 1) P l (encs x) U fun e U' => e = .returned (.bool true) ∧ J (pre ++ [x]) U' ∧ KeepX X B U U') → J [] W →
    CallsIn F n P gf (#[.func (.yield l) #[] #[]] ++ lb) W fun e W' => (∃ v, e = .returned v) ∧ ∃ xs, T xs W' ∧ J xs W'
variable {F : Fence} {n : Nat} {P : Program}
set_option maxHeartbeats 800000 in
theorem wpIn_rangeFunc_cl {α : Type} {g : Operand} {ps : Array Tmp} {assign body : Code} {Q : Exit → Act → World → Prop} {a : Act} {w : World}
    (hro : F.round = none) (h1 : 1 ≤ n) {gf : Nat} {lb : Array Value} (hg : a.eval g = .func (.func gf) #[] lb) (hF : F.fn gf) (eg : ∀ args w, (callFunc gf args).run P w = .ok (.enter gf args) w)
    {encs : α → Array Value} (hps : ∀ x, (encs x).size = ps.size) {R X B N : Nat} {S : α → World → Prop} {T : List α → World → Prop} (hseq : SeqCl F (n - 1) P gf lb encs R X B N S T w)
    (hR : R < w.heap.size) (hB : B ≤ w.heap.size) (hS : AbidesN w.heap.size S) (hT : AbidesN w.heap.size T) (I : List α → World → Prop) (hI : AbidesR R w.heap.size I) (h0 : I [] w) (aa : α → Act)
    (hassign : ∀ (l : Nat) (x : α) (U : World) (K : Act → World → Prop), K (aa x) U →
      assign.wpIn (F.inRound l) (n - 1 - 1) P (Exit.then K (fun _ _ _ => False)) { tmps := (ps.zip (encs x)).foldl (fun t (p, v) => t.setIfInBounds p v) a.tmps, defers := [] } U)
    (hbody : ∀ (l : Nat) (pre : List α) (x : α) (U2 : World), I pre U2 → S x U2 → pre.length < N → w.heap.size ≤ U2.heap.size → body.wpIn (F.inRound l) (n - 1 - 1) P (roundX I X B (pre ++ [x]) U2) (aa x) U2)
    (hdone : ∀ (D : Nat) (xs : List α) (W : World), w.heap.size ≤ D → T xs W → I xs W → W.heap[D]? = some (.deferred (some [])) → Q .normal { a with defers := { target := .collected D, args := #[] } :: a.defers } W) :
    (Code.rangeFunc g ps assign body).wpIn F n P Q a w := by
  refine wpIn_rangeFunc ?_
  intro fn hfn
  rw [hro]
  obtain ⟨rec, hrec⟩ : ∃ rec : LoopState → Loop, rec = fun st => { state := st, pending := none, fn, tmps := a.tmps, params := ps, assign, body, defers := w.heap.size } := ⟨_, rfl⟩
  obtain ⟨W1, hW1⟩ : ∃ W1, (w.alloc (.deferred (some []))).alloc (.loop (rec .ready)) = W1 := ⟨_, rfl⟩
  have e1 : (w.alloc (.deferred (some []))).heap.size = w.heap.size + 1 := World.size_alloc _ _
  have hL1 : W1.heap[w.heap.size + 1]? = some (.loop (rec .ready)) := by
    rw [← hW1, ← e1]
    exact World.alloc_heap_new _ _
  have hK1 : W1.heap[w.heap.size]? = some (.deferred (some [])) := by
    rw [← hW1]
    exact (Below.heap_alloc _ _ _ (by simp)).trans (World.alloc_heap_new w _)
  have hI1 : I [] W1 := by
    rw [← hW1]
    exact hI.n.alloc _ (hI.n.alloc _ h0)
  have hb1 : Below w.heap.size w W1 := by
    rw [← hW1]
    exact ((Below.refl _ w).alloc (Nat.le_refl _) _).alloc (by simp) _
  refine ⟨w.heap.size + 1, [{ target := .collected w.heap.size, args := #[] }], W1, { target := .fn (.func gf) lb, args := #[.func (.yield (w.heap.size + 1)) #[] #[]] }, W1, gf,
    #[.func (.yield (w.heap.size + 1)) #[] #[]] ++ lb, W1, ?_, ?_, ?_, ?_, fun _ => h1, ?_⟩
  · rw [← hW1, hrec]
    exact run_enterLoop_outer _ _ _ _ _
  · simp only [resolve, hg]
    simp [go_sem]
  · intro f' hf'
    simp [Target.leads] at hf'
    subst hf'
    exact hF
  · simp [invoke, go_sem, eg]
  · refine (hseq (w.heap.size + 1) (fun pre U => I pre U ∧ U.heap[w.heap.size + 1]? = some (.loop (rec .ready)) ∧ U.heap[w.heap.size]? = some (.deferred (some []))) W1 hb1 ?_ ?_ ⟨hI1, hL1, hK1⟩).mono ?_
    · rintro pre U U' ⟨hi, hl, hk⟩ hgr
      have hlt := (Array.getElem?_eq_some_iff.1 hl).1
      exact ⟨hI pre U U' _ hi hgr (fun r e => by cases e; exact Or.inl rfl), (hgr.block _ hlt (by simp; omega)).trans hl, (hgr.block _ (by omega) (by simp; omega)).trans hk⟩
    · rintro pre x U ⟨hi, hl, hk⟩ hs hN
      have hlt := (Array.getElem?_eq_some_iff.1 hl).1
      have hy := run_yield (P := P) (args := encs x) hl (by rw [hrec]; exact hps x)
      rw [hrec] at hy
      have hl' := hl
      have hk' := hk
      refine ⟨fn, _, assign, body, hy, roundIn_of_wpIn hfn (hassign _ x U _ ⟨_, run_beginRound hl' (by rw [hrec]), ?_⟩)⟩
      obtain ⟨U2, hU2⟩ : ∃ U2, U.putObj (w.heap.size + 1) (.loop { rec .ready with state := .busy }) = U2 := ⟨_, rfl⟩
      have hl2 : U2.heap[w.heap.size + 1]? = some (.loop (rec .busy)) := by
        rw [← hU2, World.putObj_heap_same (by omega), hrec]
      have hk2 : U2.heap[w.heap.size]? = some (.deferred (some [])) := by
        rw [← hU2]
        exact (World.putObj_heap_other (by omega)).trans hk'
      have hi2 : I pre U2 := by
        rw [← hU2]
        exact hI.n.put _ hi (by omega) hl' rfl
      have hs2 : S x U2 := by
        rw [← hU2]
        exact hS.put _ hs (by omega) hl' rfl
      have hb2 : KeepX X B U U2 := by
        rw [← hU2]
        exact KeepX.of_below (below_put U _ _ (by omega) (by omega))
      rw [hU2]
      refine wpIn_mono (hbody _ pre x U2 hi2 hs2 hN (by rw [← hU2]; simp; omega)) ?_
      rintro e a3 W3 hp
      cases e with
      | normal =>
        obtain ⟨hk3, hb3, hi3⟩ := hp
        have hl3 := hk3.same _ _ hl2 rfl
        have hr := run_endRound (P := P) none hl3
        have hlt3 := (Array.getElem?_eq_some_iff.1 hl3).1
        refine ⟨_, _, hr, rfl, ⟨hI.n.put _ hi3 (by omega) hl3 rfl, ?_, ?_⟩, hb2.trans (hb3.trans (KeepX.of_below (below_put _ _ _ (by omega) (by have := hb3.size; omega))))⟩
        · rw [World.putObj_heap_same hlt3, hrec]
          rfl
        · exact (World.putObj_heap_other (by omega)).trans (hk3.same _ _ hk2 rfl)
      | ret => exact hp.elim
      | exit id => exact hp.elim
      | goto t => exact hp.elim
      | panic ch => exact hp.elim
      | outgrown => exact hp.elim
    · rintro e W2 ⟨⟨v, rfl⟩, xs, ht, hi, hl, hk⟩
      have := run_endLoop (P := P) hl (by rw [hrec]; simp)
      rw [hrec] at this hl
      exact ⟨none, _, this, hdone _ xs _ (Nat.le_refl _) (hT.put _ ht (by omega) hl rfl) (hI.n.put _ hi (by omega) hl rfl) ((World.putObj_heap_other (by omega)).trans hk)⟩
end Go.Proofs.YtgpigjoonhghhaaDoor
