/-
  Bytes that lie beyond a place; what the fixed part and some parts behind it make.
-/
import Derived.Test.YtpocehpejbnemaaDoorRConcat
import Derived.Test.YtpocehpejbnemaaDoorRZ0
import Derived.ArgAppend
import Derived.Deep.RegionLaw
namespace Go.Proofs.YtpocehpejbnemaaDoor
open Go.RowKit
set_option linter.unusedVariables false

/-- The slice reads as the bytes, and where there is one, it lies at block base or beyond. -/
structure Frs (w : World) (base : Nat) (p : Option Addr) (n c : Nat) (xs : List Int) : Prop where
  byt : Byt w p n c xs
  own : 0 < n → ∃ b o, p = some ⟨b, o, none⟩ ∧ base ≤ b
theorem Bod.frs {w : World} {base : Nat} {p : Option Addr} {n c : Nat} {xs : List Int} (h : Bod w base p n c xs) : Frs w base p n c xs :=
  ⟨h.byt, fun h0 => by
    obtain ⟨b, o, cur, fz, e, hb, -⟩ := h.own h0
    exact ⟨b, o, e, hb⟩⟩
theorem Own.frs {w : World} {base : Nat} {v : Value} {xs : List Int} {n : Nat} (h : Own w base 5 v xs) (hl : xs.length = n) (hr : ∀ x ∈ xs, 0 ≤ x ∧ x ≤ 255) : ∃ p c, v = .slice p n c ∧ Frs w base p n c xs := by
  obtain ⟨p, c, e, hb⟩ := h.bod hl hr
  exact ⟨p, c, e, hb.frs⟩
section
variable {w w' : World} {base : Nat} {p : Option Addr} {n c : Nat} {xs : List Int}
theorem Frs.mono {base' : Nat} (h : Frs w base p n c xs) (hb : base' ≤ base) : Frs w base' p n c xs :=
  ⟨h.byt, fun h0 => by
    obtain ⟨b, o, e, hb'⟩ := h.own h0
    exact ⟨b, o, e, by omega⟩⟩
theorem Frs.low {k : Nat} (h : Frs w base p n c xs) (hg : w.grownBy w' (some k)) (hk : k < base) : Frs w' base p n c xs := by
  rcases Nat.eq_zero_or_pos n with h0 | h0
  · have hx : xs = [] := List.eq_nil_of_length_eq_zero (h.byt.len.trans h0)
    subst h0 hx
    exact ⟨Byt.nil _ _ _ h.byt.big, fun h => by omega⟩
  · obtain ⟨b, o, rfl, hb⟩ := h.own h0
    refine ⟨⟨h.byt.len, h.byt.cap, h.byt.big, h.byt.rng, fun hn => ?_⟩, fun _ => ⟨b, o, rfl, hb⟩⟩
    obtain ⟨b', o', e, hc⟩ := h.byt.mem hn
    injection e with e
    injection e with e1 e2
    subst e1 e2
    exact ⟨b, o, rfl, fun i hi => hg.cell (hc i hi) (by simp; omega)⟩
theorem Frs.below (h : Frs w base p n c xs) (hb : Below w.heap.size w w') : Frs w' base p n c xs := ⟨h.byt.below hb, h.own⟩
theorem Frs.alloc (h : Frs w base p n c xs) (o : Obj) : Frs (w.alloc o) base p n c xs := ⟨h.byt.alloc o, h.own⟩
end
theorem Frs.nil (w : World) (base : Nat) (p : Option Addr) (c : Nat) (hc : c ≤ maxLen) : Frs w base p 0 c [] := ⟨Byt.nil _ _ _ hc, fun h => by omega⟩

section
variable {P : Program} (w : World)
theorem run_append_full (base : Nat) (t ty e : TypeId) (i : TypeInfo) (z : Value) (ht : P.underlying t = some (.slice e)) (hi : P.info? e = some i) (hz : i.zero = some z)
    (hsize : i.size = 1) (hby : i.bytes = 1) (hzs : z.cells.size = 1) (b off n : Nat) (xs : List Int) (hx : Byt w (some ⟨b, off, none⟩) n n xs) (hb : base ≤ b) (hn0 : 0 < n)
    (p : Option Addr) (m c : Nat) (ys : List Int) (hy : Byt w p m c ys) (hlim : n + m ≤ 140737488355328) (hbase : base ≤ w.heap.size) :
    ∃ q d w', (Builtin.append_ #[t, t] ty #[.slice (some ⟨b, off, none⟩) n n, .slice p m c]).run P w = .ok (.slice q (n + m) d) w' ∧ Frs w' base q (n + m) d (xs ++ ys) ∧ w.grownBy w' none := by
  have hl := hy.len
  have hsame : m = 0 → Frs w base (some ⟨b, off, none⟩) (n + m) n (xs ++ ys) := fun h0 => by
    subst h0
    obtain rfl : ys = [] := List.eq_nil_of_length_eq_zero hl
    rw [List.append_nil]
    exact ⟨hx, fun _ => ⟨b, off, rfl, hb⟩⟩
  cases p with
  | none =>
    have hm : m = 0 := by
      rcases Nat.eq_zero_or_pos m with h0 | h0
      · exact h0
      · obtain ⟨b, o, h, _⟩ := hy.at_ h0
        cases h
    refine ⟨some ⟨b, off, none⟩, n, w, ?_, hsame hm, World.grownBy.refl w _⟩
    subst hm
    simp [Builtin.append_, run_underlying ht, sizeOf, typeInfo, hi, Builtin.lenOf, Builtin.firstCells, storeCells]
  | some a =>
    rcases Nat.eq_zero_or_pos m with h0 | h0
    · refine ⟨some ⟨b, off, none⟩, n, w, ?_, hsame h0, World.grownBy.refl w _⟩
      subst h0
      have hrun := run_append_room_cells (P := P) w t ty e i ht hi b off n n a 0 c [] (by simp) (fun j u hj => by simp at hj) (fun u hu => by cases hu) (by omega) (fun j hj => by simp at hj) (fun j hj => by simp at hj)
      rw [hrun]
      rfl
    · obtain ⟨v', w', hrun, r1, r2⟩ := run_append_arg_grows (P := P) w t ty e i z 1 1 ht hi hz hsize hby hzs (by decide) ⟨b, off, none⟩ n n (xs.map (Value.int .u8)) (by simp [hx.len]) (fun j u hj => hx.src j u hj) a m c (ys.map (Value.int .u8)) (by simp [hl]) (fun j u hj => hy.src j u hj) (by omega) (by unfold maxLen; omega) (by omega)
      have hown : w'.ownsRow w.heap.size e 1 v' (n + m) ((xs ++ ys).map (Value.int .u8)) := by rw [List.map_append]; exact r1
      obtain ⟨q, d, rfl, hby2⟩ := Byt.of_own hown (rng_append hx.rng hy.rng)
      refine ⟨q, d, w', hrun, ⟨hby2, fun hp => ?_⟩, r2⟩
      rcases hown.2 with ⟨hv, hz0⟩ | ⟨g, cap, cur, hv, hg, _⟩
      · simp at hv; omega
      · simp at hv
        exact ⟨g, 0, hv.1, by omega⟩
theorem step_append_full {ops : Array Oper} {o : Oper} {a : Act} {K : Act → World → Prop} {Q : Exit → Act → World → Prop} {E : Prop} (hw : Region.wanted o (yielded ops a.tmps) = true) (s x : Operand) (t : TypeId)
    (ho : o.op = .call { callee := .builtin .append, args := #[s, x], argTypes := #[t, t] })
    (base : Nat) (e : TypeId) (i : TypeInfo) (z : Value) (ht : P.underlying t = some (.slice e)) (hi : P.info? e = some i) (hz : i.zero = some z)
    (hsize : i.size = 1) (hby : i.bytes = 1) (hzs : z.cells.size = 1) (b off n : Nat) (xs : List Int) (hs : a.eval s = .slice (some ⟨b, off, none⟩) n n) (hx : Byt w (some ⟨b, off, none⟩) n n xs) (hb : base ≤ b) (hn0 : 0 < n)
    (p : Option Addr) (m c : Nat) (ys : List Int) (hxv : a.eval x = .slice p m c) (hy : Byt w p m c ys) (hlim : n + m ≤ 140737488355328) (hbase : base ≤ w.heap.size)
    (h : ∀ q d w', Frs w' base q (n + m) d (xs ++ ys) → w.grownBy w' none → K (a.put o.dst (.slice q (n + m) d)) w') :
    if Region.wanted o (yielded ops a.tmps) = true then Oper.wp P o a w K Q else E := by
  rw [if_pos hw]
  obtain ⟨q, d, w', hr, h2, h3⟩ := run_append_full (P := P) w base t o.type e i z ht hi hz hsize hby hzs b off n xs hx hb hn0 p m c ys hy hlim hbase
  unfold Oper.wp execOp
  simp only [ho, resolve, invoke, builtin, Sem.run_bind, Sem.run_pure, Result.andThen_ok, List.map_toArray, List.map_cons, List.map_nil, hs, hxv, hr]
  exact h q d w' h2 h3
end

/-- Bytes that a function returns. -/
def GotF (w : World) (ys : List Int) (e : Ending) (w' : World) : Prop := ∃ q d, e = .returned (.slice q ys.length d) ∧ Frs w' w.heap.size q ys.length d ys ∧ Below w.heap.size w w'
theorem four_byt (w : World) (a b c d : Int) (T : TypeId) (ha : 0 ≤ a ∧ a ≤ 255) (hb : 0 ≤ b ∧ b ≤ 255) (hc : 0 ≤ c ∧ c ≤ 255) (hd : 0 ≤ d ∧ d ≤ 255) : Byt (w.alloc (.cells #[.int .u8 a, .int .u8 b, .int .u8 c, .int .u8 d] T)) (some ⟨w.heap.size, 0, none⟩) 4 4 [a, b, c, d] :=
  ⟨rfl, Nat.le_refl _, by decide, fun x hx => by simp at hx; rcases hx with rfl | rfl | rfl | rfl <;> assumption, fun _ => ⟨w.heap.size, 0, rfl, fun i hi => by
    have : i = 0 ∨ i = 1 ∨ i = 2 ∨ i = 3 := by simp at hi; omega
    rcases this with rfl | rfl | rfl | rfl <;> go_simp⟩⟩

set_option maxHeartbeats 800000 in
set_option maxRecDepth 100000 in
theorem before_any (a b c d : Int) (ha : 0 ≤ a ∧ a ≤ 255) (hb : 0 ≤ b ∧ b ≤ 255) (hc : 0 ≤ c ∧ c ≤ 255) (hd : 0 ≤ d ∧ d ≤ 255) (q : Option Addr) (m e : Nat) (l : List Part) (w : World) (h : Parts w q m e l) (hs : sizeOf' l ≤ 140737488355000) (L : List Int) (hL : [a, b, c, d] ++ bytesOf l = L) :
    Calls Tryd.prog 59 #[.agg #[.int .u8 a, .int .u8 b, .int .u8 c, .int .u8 d], .slice q m e] w (GotF w L) := by
  obtain ⟨i0, hi0, hz0, hz1, hz2⟩ := info_parts Tryd.infoByte
  have hl := bytesOf_len h
  have hr := bytesOf_rng h
  obtain ⟨X, hX⟩ : ∃ X, bytesOf l = X := ⟨_, rfl⟩
  have HC := hidden (fun wx (h : Parts wx q m e l) => concat_any q m e l wx h (by omega))
  rw [hX] at hl hr hL HC
  have hN : 4 + X.length = L.length := by rw [← hL]; simp; omega
  have HP := hidden ((h.below ((Below.refl _ w).alloc (Nat.le_refl _) (.cells #[.int .u8 a, .int .u8 b, .int .u8 c, .int .u8 d] 102))).below (w' := (w.alloc (.cells #[.int .u8 a, .int .u8 b, .int .u8 c, .int .u8 d] 102)).drew) (drew_below ⟨1, rfl⟩))
  have HB := hidden (((Below.refl w.heap.size w).alloc (Nat.le_refl _) (.cells #[.int .u8 a, .int .u8 b, .int .u8 c, .int .u8 d] 102)).trans (drew_below (B := w.heap.size) (w' := (w.alloc (.cells #[.int .u8 a, .int .u8 b, .int .u8 c, .int .u8 d] 102)).drew) ⟨1, rfl⟩))
  have HF := hidden ((four_byt w a b c d 102 ha hb hc hd).below (w' := (w.alloc (.cells #[.int .u8 a, .int .u8 b, .int .u8 c, .int .u8 d] 102)).drew) (drew_below ⟨1, rfl⟩))
  have HL := hidden hL
  have HR := hidden hr
  have hXb : X.length ≤ 140737488355000 := by omega
  have HN := hidden hN
  clear h hL hr hX hl hN
  go_enter Tryd.func59, Tryd.ntmps59
  go_wp2_with fail
  go_region_law (first
    | (go_simp; go_at_call 33; (with_reducible refine (HC.out _ HP.out).mono ?_); rintro e w1 ⟨v1, rfl, ho, hb1⟩; obtain ⟨p1, c1, rfl, hy⟩ := ho.byt HR.out; have HF1 := HF.out.below hb1; have HB1 := HB.out.trans (hb1.mono HB.out.size))
    | (refine step_append_full _ (by rfl) _ _ 22 (by rfl) w.heap.size 5 i0 (.int .u8 0) Tryd.underlying22 hi0 hz0 hz1 hz2 rfl w.heap.size 0 4 _ (by rfl) HF1 (Nat.le_refl _) (by omega) _ _ _ X (by rfl) hy (by omega) HB1.size ?_; intro q2 d2 w2 hf2 hg2))
  all_goals
    have hB2 := HB1.grown hg2 HB1.size (fun j hj => by cases hj)
    go_wp2
    go_ret
    rw [HL.out, HN.out] at hf2
    exact ⟨q2, d2, by rw [← HN.out]; rfl, hf2, hB2⟩
end Go.Proofs.YtpocehpejbnemaaDoor
