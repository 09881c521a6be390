/-
  What the laws on chains share: the chapter's example, and what was written is read again.
-/
import Derived.Test.YtdlcdegfoadajaaCParse
import Derived.Test.YtdlcdegfoadajaaDraw
namespace Go.Proofs.Ytdlcdegfoadajaa
open Go.RowKit
set_option linter.unusedVariables false

theorem byt_lit (w : World) (l : List Int) (T : TypeId) (hr : ∀ x ∈ l, 0 ≤ x ∧ x ≤ 255) (hl : l.length ≤ maxLen) : Byt (w.alloc (.cells (l.map (Value.int .u8)).toArray T)) (some ⟨w.heap.size, 0, none⟩) l.length l.length l :=
  ⟨rfl, Nat.le_refl _, hl, hr, fun _ => ⟨_, _, rfl, fun i hi => by
    rw [World.cell?_alloc_at _ _ _ _ rfl, Nat.zero_add]
    simp [List.getD_eq_getElem?_getD, List.getElem?_eq_getElem hi]⟩⟩
/-- A row of one payload that was laid out. -/
theorem rd_one (w : World) (k : Int) (c : Bool) (p : Option Addr) (n m : Nat) (b : List Int) (T : TypeId) (h : Byt w p n m b) : RdR (w.alloc (.cells #[.int .i64 k, .bool c, .slice p n m] T)) (some ⟨w.heap.size, 0, none⟩) 1 1 [⟨k, c, p, n, m, b⟩] :=
  ⟨rfl, Nat.le_refl _, by unfold maxLen; omega, fun _ => ⟨_, rfl, fun j u hj => by
    obtain ⟨_, hs⟩ := SrcR.new w k c p n m b T
    obtain ⟨ad, e, hc⟩ := hs (by omega)
    cases e
    have := hc j u hj
    rw [WideShapes.add_plain, Nat.zero_add] at this
    exact this⟩, BodR.one (h.alloc _)⟩

theorem enc_rng (last : Int) : ∀ (l : List Raw), (∀ r ∈ l, ∀ x ∈ r.b, 0 ≤ x ∧ x ≤ 255) → ∀ x ∈ encC last l, 0 ≤ x ∧ x ≤ 255
  | [], _ => fun x hx => by simp [encC] at hx
  | r :: l, h => rng_append (oneC_rng _ r.k r.c r.b (h r (by simp))) (enc_rng last l (fun s hs => h s (by simp [hs])))
theorem built_rng {l : List Raw} {last k : Int} {L : List Int} {E : Int} (h : buildC l last = (k, L, E)) (hb : ∀ r ∈ l, ∀ x ∈ r.b, 0 ≤ x ∧ x ≤ 255) : ∀ x ∈ L, 0 ≤ x ∧ x ≤ 255 := by
  unfold buildC at h
  split at h
  · simp at h; rw [h.2.1]; simp
  split at h
  · simp at h; rw [h.2.1]; simp
  split at h
  · simp at h; rw [h.2.1]; simp
  split at h
  · simp at h; rw [h.2.1]; simp
  · simp at h; rw [← h.2.1]; exact enc_rng last l hb
theorem RdR.rng {w : World} {p : Option Addr} {n c : Nat} {l : List RawP} (h : RdR w p n c l) : ∀ r ∈ l.map RawP.raw, ∀ x ∈ r.b, 0 ≤ x ∧ x ≤ 255 := fun r hr => by
  obtain ⟨y, hy, rfl⟩ := List.mem_map.1 hr
  exact (h.bods y hy).rng
theorem enc_len (last : Int) (m : Nat) : ∀ (l : List Raw), (∀ r ∈ l, r.b.length ≤ m) → (encC last l).length ≤ l.length * (m + 4)
  | [], _ => by simp [encC]
  | r :: l, h => by
    have h1 := h r (by simp)
    have h2 := enc_len last m l (fun s hs => h s (by simp [hs]))
    rw [show encC last (r :: l) = oneC (nextC last l) r ++ encC last l from rfl, List.length_append, oneC_len, List.length_cons, Nat.add_mul]
    omega

/-- What Build returns, as the walk of a law takes it. -/
def BuiltV (w : World) (k : Int) (L : List Int) (E : Int) (e : Ending) (w' : World) : Prop := ∃ p n c, e = .returned (.tuple #[.int .i64 k, .slice p n c, .int .i64 E]) ∧ Byt w' p n c L ∧ Own w' w.heap.size 5 (.slice p n c) L ∧ Below w.heap.size w w'
theorem BuiltC.v {w : World} {k : Int} {L : List Int} {E : Int} {e : Ending} {w' : World} (h : BuiltC w k L E e w') (hr : ∀ x ∈ L, 0 ≤ x ∧ x ≤ 255) : BuiltV w k L E e w' := by
  obtain ⟨v, he, ho, hb⟩ := h
  obtain ⟨p, c, rfl, hy⟩ := ho.byt hr
  exact ⟨p, _, c, he, hy, ho, hb⟩
theorem build_val (p : Option Addr) (n c : Nat) (l : List RawP) (last : Int) (w : World) (h : RdR w p n c l) (k : Int) (L : List Int) (E : Int) (hb : buildC (l.map RawP.raw) last = (k, L, E)) :
    Calls Try.prog 19 #[.slice p n c, .int .i64 last] w (BuiltV w k L E) := (buildC_any p n c l last w h k L E hb).mono fun e w' hh => hh.v (built_rng hb h.rng)
theorem rbuild_val (p : Option Addr) (n c : Nat) (l : List RawP) (last : Int) (w : World) (h : RdR w p n c l) (k : Int) (L : List Int) (E : Int) (hb : buildC (l.map RawP.raw) last = (k, L, E)) :
    Calls Try.prog 11 #[.slice p n c, .int .i64 last] w (BuiltV w k L E) := (rbuildC_any p n c l last w h k L E hb).mono fun e w' hh => hh.v (built_rng hb h.rng)

theorem GoodL.built {l : List RawP} {last : Int} (h : GoodL l last) : buildC (l.map RawP.raw) last = (nextC 0 (l.map RawP.raw), encC last (l.map RawP.raw), 0) :=
  built_ok _ _ (by have := h.ok.few; omega) h.ok.err (by have := h.ok.rng; omega) h.ok.ends
theorem next_bd {l : List Raw} (h : errC l = 0) : 0 ≤ nextC 0 l ∧ nextC 0 l ≤ 255 := by
  cases l with
  | nil => simp [nextC]
  | cons a l =>
    obtain ⟨h1, h2, _⟩ := errC_cons h
    simp [nextC]
    omega
theorem top_bd {first : Int} (h : 0 ≤ first ∧ first ≤ 255) (xs : List Int) : parseTop first xs = parseC 40 first xs := by rw [parseTop, if_neg (by omega)]
theorem GoodL.read {l : List RawP} {last : Int} (h : GoodL l last) : parseTop (nextC 0 (l.map RawP.raw)) (encC last (l.map RawP.raw)) = ⟨l.map RawP.raw, last, 0⟩ := by
  rw [top_bd (next_bd h.ok.err)]
  exact parse_enc last h.ok.rng _ 40 h.ok.err h.ok.few h.ok.ends
theorem GoodL.cut {l : List RawP} {last : Int} (h : GoodL l last) (n : Nat) (hn : n < (encC last (l.map RawP.raw)).length) :
    parseTop (nextC 0 (l.map RawP.raw)) ((encC last (l.map RawP.raw)).take n) = failC 1 ∨ parseTop (nextC 0 (l.map RawP.raw)) ((encC last (l.map RawP.raw)).take n) = failC 2 := by
  rw [top_bd (next_bd h.ok.err)]
  exact parse_cut last h.ok.rng _ 40 n h.ok.err h.ok.few h.ok.ends hn
theorem GoodL.short {l : List RawP} {last : Int} (h : GoodL l last) : (encC last (l.map RawP.raw)).length ≤ 60 := by
  have h1 := enc_len last 8 (l.map RawP.raw) (fun r hr => by
    obtain ⟨y, hy, rfl⟩ := List.mem_map.1 hr
    exact h.small y hy)
  have h2 := h.few
  simp at h1
  omega

theorem demo_built : buildC [⟨40, false, [1, 2]⟩] 0 = (40, [0, 0, 0, 6, 1, 2], 0) := by kernel_rfl

set_option maxHeartbeats 800000 in
theorem awake03_any (w : World) : Calls Try.prog 8 #[] w fun e w' => e = .returned (.bool true) ∧ Below w.heap.size w w' := by
  have hy0 : Byt (w.alloc (.cells #[.int .u8 1, .int .u8 2] 5)) (some ⟨w.heap.size, 0, none⟩) 2 2 [1, 2] := byt_lit w [1, 2] 5 (by decide) (by decide)
  have hr0 := rd_one _ 40 false _ _ _ _ 43 hy0
  have hb0 := ((Below.refl w.heap.size w).alloc (Nat.le_refl _) (.cells #[.int .u8 1, .int .u8 2] 5)).alloc (by simp) (.cells #[.int .i64 40, .bool false, .slice (some ⟨w.heap.size, 0, none⟩) 2 2] 43)
  have hsz : (w.alloc (.cells #[.int .u8 1, .int .u8 2] 5)).heap.size = w.heap.size + 1 := by simp
  rw [hsz] at hr0
  have HBd := hidden (build_val _ 1 1 _ 0 _ hr0 40 [0, 0, 0, 6, 1, 2] 0 demo_built)
  have HB0 := hidden hb0
  clear hy0 hr0 hb0 hsz
  go_enter Try.func8, Try.ntmps8
  go_wp2_with (go_at_call 19; (with_reducible refine (HBd.out).mono ?_))
  rintro e w1 ⟨p, n, c, rfl, hy, ho, hb⟩
  have HB1 := hidden (HB0.out.trans (hb.mono HB0.out.size))
  have HL := hidden (show Byt (w1.alloc (.cells #[.int .u8 0, .int .u8 0, .int .u8 0, .int .u8 6, .int .u8 1, .int .u8 2] 5)) (some ⟨w1.heap.size, 0, none⟩) 6 6 [0, 0, 0, 6, 1, 2] from byt_lit w1 [0, 0, 0, 6, 1, 2] 5 (by decide) (by decide))
  have HE := hidden ((requal_any p (some ⟨w1.heap.size, 0, none⟩) n c 6 6 [0, 0, 0, 6, 1, 2] [0, 0, 0, 6, 1, 2] _ (hy.alloc (.cells #[.int .u8 0, .int .u8 0, .int .u8 0, .int .u8 6, .int .u8 1, .int .u8 2] 5)) HL.out).mono (R' := fun e w' => e = .returned (.bool true) ∧ ∃ r, w' = (w1.alloc (.cells #[.int .u8 0, .int .u8 0, .int .u8 0, .int .u8 6, .int .u8 1, .int .u8 2] 5)).drewN r) (fun e w' ⟨h1, h2⟩ => ⟨by rw [h1]; simp, h2⟩))
  clear hy ho hb HL HB0 HBd
  go_wp2_with (go_at_call 20; (with_reducible refine (HE.out).mono ?_); rintro e w' ⟨rfl, rr, rfl⟩)
  go_ret
  exact ⟨rfl, (HB1.out.alloc HB1.out.size _).trans (drew_below ⟨_, rfl⟩)⟩
end Go.Proofs.Ytdlcdegfoadajaa
