/-
  What package payload's fixed part reads: its numbers, and a body split into the fixed part and the rest.
  Package payload's readers of nonces and of identities, and the first errors that they tell.
  An equation that no walk looks into.
  The lengths of SPIs and the first errors of notifications and deletions, as package payload tells them.
  Plain mathematics, no program: chains of payloads as bytes, written and read.
-/
import Derived.Test.YtkniifopfgeopaaGreatJZ1
import Derived.Test.YtkniifopfgeopaaGreatJZ4
import Derived.Test.YtkniifopfgeopaaGreatJZ6
import Derived.Test.YtkniifopfgeopaaGreatRows
import Derived.Test.YtkniifopfgeopaaGreatJZ0
import Derived.Laws.CopyOwn
namespace Go.Proofs.YtkniifopfgeopaaGreat
open Go.RowKit
set_option linter.unusedVariables false

set_option maxHeartbeats 400000 in
theorem cloneB_any (p : Option Addr) (n c : Nat) (xs : List Int) (w : World) (h : Byt w p n c xs) (hb : n ≤ 140737488355328) :
    Calls Tryz.prog 99 #[.slice p n c] w fun e w' => ∃ v, e = .returned v ∧ Own w' w.heap.size 5 v xs ∧ Below w.heap.size w w' := by
  have hl := h.len
  have q := fun (w : World) (a : Option Addr) (n c n' c' : Nat) => Lib.run_eql_slice_nil (P := Tryz.prog) w 125 _ a n c n' c' Tryz.underlying125
  cases p with
  | none =>
    have hn : n = 0 := by
      rcases Nat.eq_zero_or_pos n with h0 | h0
      · exact h0
      · obtain ⟨b, o, h, _⟩ := h.at_ h0
        cases h
    subst hn
    obtain rfl : xs = [] := List.eq_nil_of_length_eq_zero hl
    clear h hl
    go_enter Tryz.func99, Tryz.ntmps99
    go_wp2
    go_ret
    exact ⟨_, rfl, Own.nil _ _ _, Below.refl _ _⟩
  | some a =>
    obtain ⟨i0, hi, hz0, hz1, hz2⟩ := info_parts Tryz.infoByte
    have H := hidden h
    clear h
    go_enter Tryz.func99, Tryz.ntmps99
    go_wp2_with (at_builtin; refine wpList_append_byt _ rfl _ _ 125 rfl w.heap.size 5 i0 (.int .u8 0) Tryz.underlying125 hi hz0 hz1 hz2 rfl _ _ rfl (Own.made w w.heap.size 5 (Nat.le_refl _)) _ _ _ _ _ rfl (H.out.alloc _) rfl ?c1 ?c2 ?_)
    case c1 => simp; omega
    case c2 => simp
    intro v w1 hown hg
    go_wp2
    go_ret
    exact ⟨v, rfl, hown, ((Below.refl _ w).alloc (Nat.le_refl _) _).grown hg (by simp) (by intro k hk; simp [Value.ownBlock] at hk; omega)⟩

set_option maxHeartbeats 400000 in
theorem fnumber_any (a b c d : Int) (ha : 0 ≤ a ∧ a ≤ 255) (hb : 0 ≤ b ∧ b ≤ 255) (hc : 0 ≤ c ∧ c ≤ 255) (hd : 0 ≤ d ∧ d ≤ 255) (A K : Nat) (AI KI : Int) (hA : AI = A) (hK : KI = K) (h1 : 1 ≤ K) (hin : A + K ≤ 4) (V : Int) (hV : val (([a, b, c, d].drop A).take K) = V) (w : World) :
    Calls Tryz.prog 98 #[.agg #[.int .u8 a, .int .u8 b, .int .u8 c, .int .u8 d],   .int .i64 AI, .int .i64 KI] w fun e w' => e = .returned (.int .i64 V) ∧ Below w.heap.size w w' := by
  subst hA hK
  have hF := four_byt w a b c d 134 ha hb hc hd
  have HN := hidden (number_yes _ 4 4 _ _ hF A K h1 (by omega) hin)
  rw [hV] at HN
  have HB := hidden ((Below.refl w.heap.size w).alloc (Nat.le_refl _) (.cells #[.int .u8 a, .int .u8 b, .int .u8 c, .int .u8 d] 134))
  have hbd := val_bd (([a, b, c, d].drop A).take K) (rng_take (rng_drop hF.rng _) _)
  have hlen : (([a, b, c, d].drop A).take K).length ≤ 4 := by simp; omega
  have h8 := pow256_le hlen
  have e4 : (256 : Int) ^ 4 = 4294967296 := by decide
  rw [e4] at h8
  rw [hV] at hbd
  have hw : IntKind.i64.wrap V = V := by rw [IntKind.wrap_i64]; omega
  clear hF hbd h8 hV hlen e4
  go_enter Tryz.func98, Tryz.ntmps98
  go_wp2_with (first
    | (go_at_call 51; (with_reducible refine (HN.out).mono ?_); rintro e w' ⟨rfl, rfl⟩)
    | fail)
  go_ret
  exact ⟨rfl, HB.out⟩

/-- A byte of a body. -/
def nthB (xs : List Int) (j : Nat) : Int := xs.getD j 0
/-- What split returns. -/
def Split4 (w : World) (xs : List Int) (n : Nat) (e : Ending) (w' : World) : Prop :=
  Below w.heap.size w w' ∧ ((n < 4 ∧ e = .returned (.tuple #[.agg #[.int .u8 0, .int .u8 0, .int .u8 0, .int .u8 0], .slice none 0 0, .int .i64 1])) ∨
    (4 ≤ n ∧ ∃ q d, e = .returned (.tuple #[.agg #[.int .u8 (nthB xs 0), .int .u8 (nthB xs 1), .int .u8 (nthB xs 2), .int .u8 (nthB xs 3)], .slice q (n - 4) d, .int .i64 0]) ∧ Frs w' w.heap.size q (n - 4) d (xs.drop 4)))

theorem ret_f4 {fn : Func} {R : Ending → World → Prop} {act : Act} {w : World} {p s t : Nat} {g : Nat} {a b c d : Int} {u v : Value} (h : fn.results = #[.cell p 134, .tmp s, .tmp t]) (hp : act.tmps.getD p undef = .pointer (some ⟨g, 0, none⟩)) (hs : act.tmps.getD s undef = u) (ht : act.tmps.getD t undef = v) (hd : act.defers = [])
    (c0 : w.cell? ⟨g, 0, none⟩ = some (.int .u8 a)) (c1 : w.cell? ⟨g, 1, none⟩ = some (.int .u8 b)) (c2 : w.cell? ⟨g, 2, none⟩ = some (.int .u8 c)) (c3 : w.cell? ⟨g, 3, none⟩ = some (.int .u8 d))
    (hR : R (.returned (.tuple #[.agg #[.int .u8 a, .int .u8 b, .int .u8 c, .int .u8 d], u, v])) w) : bodyPost Tryz.prog fn R .ret act w := by
  refine bodyPost_ret (v := .tuple #[.agg #[.int .u8 a, .int .u8 b, .int .u8 c, .int .u8 d], u, v]) ?_ hd hR
  rw [Array.getD_eq_getD_getElem?] at hp hs ht
  have hl : (loadVar 134 ⟨g, 0, none⟩).run Tryz.prog w = .ok (.agg #[.int .u8 a, .int .u8 b, .int .u8 c, .int .u8 d]) w := by simp [loadVar, go_sem, c0, c1, c2, c3, Result.andThen]
  simp [results, h, hp, hs, ht, asAddr, hl]

/-- copy(f[:], b), where f is an array of four bytes that was just made. -/
theorem wpList_copy4 {P : Program} {w : World} {ops : Array Oper} {rest : List Oper} {o : Oper} {a : Act} {Q : Exit → Act → World → Prop} (hgd : o.guard = none) (d s : Operand) (dT sT : TypeId)
    (ho : o.op = .call { callee := .builtin .copy, args := #[d, s], argTypes := #[dT, sT] }) (elem : TypeId) (hu : P.underlying dT = some (.slice elem)) (hsz : (P.info? elem).map (·.size) = some 1)
    (g : Nat) (hd : a.eval d = .slice (some ⟨g, 0, none⟩) 4 4) (y0 y1 y2 y3 : Int) (t : TypeId) (hg : w.heap[g]? = some (.cells #[.int .u8 y0, .int .u8 y1, .int .u8 y2, .int .u8 y3] t (0, 0)))
    (p : Option Addr) (n c : Nat) (xs : List Int) (hs : a.eval s = .slice p n c) (hx : Byt w p n c xs) (N : Nat) (hN : Nat.min n 4 = N)
    (h : ∀ w', w.grownBy w' (some g) → (4 ≤ n → ∀ j, j < 4 → w'.cell? ⟨g, j, none⟩ = some (.int .u8 (nthB xs j))) → (∀ j, w'.frozen? ⟨g, j, none⟩ = false) → wpList P ops Q rest (a.put o.dst (goInt N)) w') : wpList P ops Q (o :: rest) a w := by
  have hl := hx.len
  have hfz : ∀ (w' : World) (cs : Array Value), w'.heap[g]? = some (.cells cs t (0, 0)) → ∀ j, w'.frozen? ⟨g, j, none⟩ = false := fun w' cs hh j => by
    simp [World.frozen?, hh]
  rcases Nat.eq_zero_or_pos n with h0 | h0
  · subst h0
    obtain rfl : N = 0 := by rw [← hN]; simp
    refine wpList_copy_nothing hgd d s dT sT ho elem hu hsz _ _ _ _ _ _ hd hs (by simp) (h w (grown_refl w _) (fun h => by omega) (hfz w _ hg))
  · obtain ⟨b, off, rfl, hc⟩ := hx.at_ h0
    have hcl : ((xs.take 4).map (Value.int .u8)).length = Nat.min n 4 := by rw [List.length_map, List.length_take, hl]; exact Nat.min_comm 4 n
    refine wpList_copy_own hgd d s dT sT ho elem hu hsz g 0 4 4 ⟨b, off, none⟩ n c hd hs _ t hg ((xs.take 4).map (Value.int .u8)) hcl (fun j v hj => ?_) (by have := Nat.min_le_right n 4; rw [hcl]; simpa using this) (u8_one _) ?_
    · have hj4 : j < 4 ∧ j < n := by
        have := (List.getElem?_eq_some_iff.1 hj).1
        rw [hcl] at this
        exact ⟨Nat.lt_of_lt_of_le this (Nat.min_le_right n 4), Nat.lt_of_lt_of_le this (Nat.min_le_left n 4)⟩
      rw [WideShapes.add_plain, hc j hj4.2]
      rw [List.getElem?_map, List.getElem?_take_of_lt hj4.1, List.getElem?_eq_getElem (by omega)] at hj
      rw [List.getD_eq_getElem?_getD, List.getElem?_eq_getElem (by omega)]
      simpa using hj
    · rw [hcl, hN]
      obtain ⟨cs, hcs⟩ : ∃ cs, (#[Value.int IntKind.u8 y0, .int .u8 y1, .int .u8 y2, .int .u8 y3].toList.take 0 ++ ((xs.take 4).map (Value.int .u8) ++ #[Value.int IntKind.u8 y0, .int .u8 y1, .int .u8 y2, .int .u8 y3].toList.drop (0 + N))).toArray = cs := ⟨_, rfl⟩
      rw [hcs]
      have hh : (w.setRow g cs).heap[g]? = some (.cells cs t (0, 0)) := setRow_heap w g _ cs t _ hg
      refine h _ ⟨rfl, rfl, rfl, by simp, fun k hk hne => setRow_other w g k _ (fun e => hne (by rw [e]))⟩ (fun h4 j hj => ?_) (hfz _ _ hh)
      have hN4 : N = 4 := by rw [← hN]; exact Nat.min_eq_right h4
      subst hN4
      have e1 : cs[j]? = some (.int .u8 (nthB xs j)) := by
        unfold nthB
        rw [← hcs]
        simp only [List.take_zero, List.nil_append, List.getElem?_toArray]
        rw [List.getElem?_append_left (by rw [hcl, hN]; exact hj), List.getElem?_map, List.getElem?_take_of_lt hj, List.getD_eq_getElem?_getD, List.getElem?_eq_getElem (by omega)]
        rfl
      simp [World.cell?, hh, e1]

set_option maxHeartbeats 800000 in
set_option maxRecDepth 100000 in
theorem split_any (p : Option Addr) (n c : Nat) (xs : List Int) (w : World) (h : Byt w p n c xs) (hb : n ≤ 140737488355328) :
    Calls Tryz.prog 97 #[.slice p n c] w (Split4 w xs n) := by
  have H := hidden h
  have hn := h.le
  obtain ⟨N, hN⟩ : ∃ N, Nat.min n 4 = N := ⟨_, rfl⟩
  have HY := hidden ((h.alloc (.cells #[.int .u8 0, .int .u8 0, .int .u8 0, .int .u8 0] 134)).alloc (.cells #[.int .u8 0, .int .u8 0, .int .u8 0, .int .u8 0] 134))
  have HB := hidden (((Below.refl w.heap.size w).alloc (Nat.le_refl _) (.cells #[.int .u8 0, .int .u8 0, .int .u8 0, .int .u8 0] 134)).alloc (by simp) (.cells #[.int .u8 0, .int .u8 0, .int .u8 0, .int .u8 0] 134))
  clear h
  go_enter Tryz.func97, Tryz.ntmps97
  go_wp2_with (first
    | (go_loud (refine wpList_copy4 rfl (.tmp 6) (.tmp 7) 22 125 rfl 5 Tryz.underlying22 Tryz.sizeByte (w.heap.size + 1) rfl 0 0 0 0 134 ?_ _ _ _ xs rfl HY.out N hN ?_))
    | fail)
  · have := heap_alloc_new (w.alloc (.cells #[.int .u8 0, .int .u8 0, .int .u8 0, .int .u8 0] 134)) (.cells #[.int .u8 0, .int .u8 0, .int .u8 0, .int .u8 0] 134)
    simpa using this
  · intro w1 hg hc hf
    have HB1 := hidden (HB.out.grown hg HB.out.size (fun j hj => by cases hj; omega))
    have HC := hidden hc
    have r0 := hg.cell (show ((w.alloc (.cells #[.int .u8 0, .int .u8 0, .int .u8 0, .int .u8 0] 134)).alloc (.cells #[.int .u8 0, .int .u8 0, .int .u8 0, .int .u8 0] 134)).cell? ⟨w.heap.size, 0, none⟩ = some (.int .u8 0) by go_simp) (by simp)
    have r1 := hg.cell (show ((w.alloc (.cells #[.int .u8 0, .int .u8 0, .int .u8 0, .int .u8 0] 134)).alloc (.cells #[.int .u8 0, .int .u8 0, .int .u8 0, .int .u8 0] 134)).cell? ⟨w.heap.size, 1, none⟩ = some (.int .u8 0) by go_simp) (by simp)
    have r2 := hg.cell (show ((w.alloc (.cells #[.int .u8 0, .int .u8 0, .int .u8 0, .int .u8 0] 134)).alloc (.cells #[.int .u8 0, .int .u8 0, .int .u8 0, .int .u8 0] 134)).cell? ⟨w.heap.size, 2, none⟩ = some (.int .u8 0) by go_simp) (by simp)
    have r3 := hg.cell (show ((w.alloc (.cells #[.int .u8 0, .int .u8 0, .int .u8 0, .int .u8 0] 134)).alloc (.cells #[.int .u8 0, .int .u8 0, .int .u8 0, .int .u8 0] 134)).cell? ⟨w.heap.size, 3, none⟩ = some (.int .u8 0) by go_simp) (by simp)
    have rf : ∀ j, w1.frozen? ⟨w.heap.size, j, none⟩ = false := fun j => (World.frozen?_of_block (a := ⟨w.heap.size, j, none⟩) (hg.block w.heap.size (by simp; omega) (by simp))).trans (by go_simp)
    clear hg hc
    by_cases h4 : n < 4
    · obtain rfl : N = n := by rw [← hN]; exact Nat.min_eq_left (by omega)
      clear hN hf
      go_wp2_with fail
      refine ret_f4 (g := w.heap.size) (a := 0) (b := 0) (c := 0) (d := 0) rfl rfl rfl rfl rfl (by go_simp) (by go_simp) (by go_simp) (by go_simp) ?_
      exact ⟨(((HB1.out.setCell (p := ⟨w.heap.size, 0, none⟩) (Nat.le_refl _) _).setCell (p := ⟨w.heap.size, 1, none⟩) (Nat.le_refl _) _).setCell (p := ⟨w.heap.size, 2, none⟩) (Nat.le_refl _) _).setCell (p := ⟨w.heap.size, 3, none⟩) (Nat.le_refl _) _, Or.inl ⟨h4, rfl⟩⟩
    · obtain rfl : N = 4 := by rw [← hN]; exact Nat.min_eq_right (by omega)
      have hpart := H.out.part 4 n (by omega) (Nat.le_refl _)
      rw [List.take_of_length_le (by rw [H.out.len]; exact Nat.le_refl _)] at hpart
      obtain ⟨c0, c1, c2, c3⟩ : w1.cell? ⟨w.heap.size + 1, 0, none⟩ = some (.int .u8 (nthB xs 0)) ∧ w1.cell? ⟨w.heap.size + 1, 1, none⟩ = some (.int .u8 (nthB xs 1)) ∧ w1.cell? ⟨w.heap.size + 1, 2, none⟩ = some (.int .u8 (nthB xs 2)) ∧ w1.cell? ⟨w.heap.size + 1, 3, none⟩ = some (.int .u8 (nthB xs 3)) :=
        ⟨HC.out (by omega) 0 (by omega), HC.out (by omega) 1 (by omega), HC.out (by omega) 2 (by omega), HC.out (by omega) 3 (by omega)⟩
      have HR := hidden (fun wx (hb : Below w1.heap.size w1 wx) => And.intro (cell_below hb _ _ r0) (And.intro (cell_below hb _ _ r1) (And.intro (cell_below hb _ _ r2) (And.intro (cell_below hb _ _ r3) (fun j => (World.frozen?_of_block (a := ⟨w.heap.size, j, none⟩) (hb.block w.heap.size (World.block_lt_of_cell? w1 _ r0))).trans (rf j))))))
      have HK := hidden (fun wx (hb : Below w1.heap.size w1 wx) => And.intro (cell_below hb _ _ c0) (And.intro (cell_below hb _ _ c1) (And.intro (cell_below hb _ _ c2) (cell_below hb _ _ c3))))
      obtain ⟨bb, oo, rfl, -⟩ := H.out.at_ (by omega)
      have hrl := H.out.len
      have hcap := H.out.cap
      have hrng := rng_drop H.out.rng 4
      have hdl : (xs.drop 4).length = n - 4 := by rw [List.length_drop, hrl]
      have HD := hidden hdl
      have HG := hidden hrng
      have hbig := H.out.big
      unfold maxLen at hbig
      have hn4 : (4 : Int) ≤ n := by omega
      have hnc : (n : Int) ≤ c := by omega
      have HP1 := hidden hpart
      clear hpart hrl hdl hrng hN H HC HY hf
      have hcc : (c = 4 ∧ n = 4) ∨ c ≠ 4 := by omega
      go_wp2_with fail
      have HBD := hidden (show Below w1.heap.size w1 w1.drew from drew_below ⟨1, rfl⟩)
      rcases hcc with ⟨rfl, rfl⟩ | hcc
      all_goals
        first | (rw [if_pos rfl, Nat.sub_self] at HP1) | (rw [if_neg hcc, Option.map_some, WideShapes.add_plain] at HP1)
        have HPD := hidden ((HP1.out.below HB1.out).below HBD.out)
        go_region_held3 (fun w' => w'.cell? ⟨w.heap.size + 1, 0, none⟩ = some (.int .u8 (nthB xs 0)) ∧ w'.cell? ⟨w.heap.size + 1, 1, none⟩ = some (.int .u8 (nthB xs 1)) ∧ w'.cell? ⟨w.heap.size + 1, 2, none⟩ = some (.int .u8 (nthB xs 2)) ∧ w'.cell? ⟨w.heap.size + 1, 3, none⟩ = some (.int .u8 (nthB xs 3))) (first | exact HK.out _ HBD.out | exact HK.out _ (HBD.out.trans hbc) | go_keep)
          (first
          | (go_at_call 99; (with_reducible refine (cloneB_any _ _ _ _ _ HPD.out (by omega)).mono ?_); rintro e w2 ⟨v2, rfl, ho, hbc⟩; have HO2 := hidden ho; obtain ⟨z0, z1, z2, z3, zf⟩ := HR.out _ (HBD.out.trans hbc); clear r0 r1 r2 r3 rf)
          | fail)
        all_goals
          have hs1 := HB1.out.size
          have hks : w.heap.size < w1.drew.heap.size := World.block_lt_of_cell? w1 _ c0 |> fun h => by simp at h ⊢; omega
          obtain ⟨q2, d2, rfl, hf2⟩ := HO2.out.frs HD.out HG.out
          have hB2 := HB1.out.trans ((HBD.out.trans hbc).mono HB1.out.size)
          have hF := ((((hf2.low (grown_set w2 w.heap.size 0 (.int .u8 (nthB xs 0))) hks).low (grown_set _ w.heap.size 1 (.int .u8 (nthB xs 1))) hks).low (grown_set _ w.heap.size 2 (.int .u8 (nthB xs 2))) hks).low (grown_set _ w.heap.size 3 (.int .u8 (nthB xs 3))) hks).mono (by omega : w.heap.size ≤ w1.drew.heap.size)
          have hB := (((hB2.setCell (p := ⟨w.heap.size, 0, none⟩) (Nat.le_refl _) (.int .u8 (nthB xs 0))).setCell (p := ⟨w.heap.size, 1, none⟩) (Nat.le_refl _) (.int .u8 (nthB xs 1))).setCell (p := ⟨w.heap.size, 2, none⟩) (Nat.le_refl _) (.int .u8 (nthB xs 2))).setCell (p := ⟨w.heap.size, 3, none⟩) (Nat.le_refl _) (.int .u8 (nthB xs 3))
          have HF := hidden hF
          have HBB := hidden hB
          clear ho hbc HO2 hf2 hB2 hF hB
          go_wp2
          refine ret_f4 (g := w.heap.size) (a := nthB xs 0) (b := nthB xs 1) (c := nthB xs 2) (d := nthB xs 3) rfl rfl rfl rfl rfl (by go_simp) (by go_simp) (by go_simp) (by go_simp) ?_
          exact ⟨HBB.out, Or.inr ⟨by omega, q2, d2, rfl, HF.out⟩⟩
end Go.Proofs.YtkniifopfgeopaaGreat

namespace Go.Proofs.YtkniifopfgeopaaGreat
open Go.RowKit
set_option linter.unusedVariables false

/-- What a reader of bodies returns: a payload and an error. -/
def ReadPv (w : World) (E : Int) (good : World → Pv → Prop) (e : Ending) (w' : World) : Prop := ∃ x : Pv, e = .returned (.tuple #[(.agg #[.int .i64 x.t, .slice x.pr.p x.pr.n x.pr.c, .int .i64 x.eg, .slice x.ed.p x.ed.n x.ed.c, .int .i64 x.ik, .slice x.id.p x.id.n x.id.c, .int .i64 x.am, .slice x.ad.p x.ad.n x.ad.c, .int .i64 x.np, .slice x.ns.p x.ns.n x.ns.c, .int .i64 x.nt, .slice x.nd.p x.nd.n x.nd.c, .int .i64 x.dp, .slice x.ds.p x.ds.n x.ds.c, .slice x.se.p x.se.n x.se.c, .slice x.da.p x.da.n x.da.c]), .int .i64 E]) ∧ Below w.heap.size w w' ∧ (E = 0 → good w' x)
/-- Bytes in a slice of a payload, fresh from base on. -/
def FrV (w : World) (base : Nat) (s : Sv) (xs : List Int) : Prop := Frs w base s.p s.n s.c xs

def nonceE (n : Nat) : Int := if n < 16 ∨ 256 < n then 13 else 0
theorem checkNonce_any (p : Option Addr) (n c : Nat) (w : World) (hn : n ≤ 9223372036854775807) :
    Calls Tryz.prog 62 #[.slice p n c] w fun e w' => e = .returned (.int .i64 (nonceE n)) ∧ w = w' := by
  unfold nonceE
  by_cases h1 : n < 16
  · rw [if_pos (Or.inl h1)]
    go_enter Tryz.func62, Tryz.ntmps62
    go_wp2
    go_ret
    exact ⟨rfl, rfl⟩
  by_cases h2 : 256 < n
  · rw [if_pos (Or.inr h2)]
    go_enter Tryz.func62, Tryz.ntmps62
    go_wp2
    go_ret
    exact ⟨rfl, rfl⟩
  · rw [if_neg (by omega)]
    go_enter Tryz.func62, Tryz.ntmps62
    go_wp2
    go_ret
    exact ⟨rfl, rfl⟩

set_option maxHeartbeats 800000 in
set_option maxRecDepth 100000 in
theorem nonce_read (p : Option Addr) (n c : Nat) (xs : List Int) (w : World) (h : Byt w p n c xs) (hb : n ≤ 140737488355328) :
    Calls Tryz.prog 74 #[.slice p n c] w (ReadPv w (nonceE n) fun w' x => FrV w' w.heap.size x.da xs) := by
  have hn := h.le
  have H1 := hidden (h.alloc (.cells #[.int .i64 0, .slice none 0 0, .int .i64 0, .slice none 0 0, .int .i64 0, .slice none 0 0, .int .i64 0, .slice none 0 0, .int .i64 0, .slice none 0 0, .int .i64 0, .slice none 0 0, .int .i64 0, .slice none 0 0, .slice none 0 0, .slice none 0 0] 59))
  have HB := hidden ((Below.refl w.heap.size w).alloc (Nat.le_refl _) (.cells #[.int .i64 0, .slice none 0 0, .int .i64 0, .slice none 0 0, .int .i64 0, .slice none 0 0, .int .i64 0, .slice none 0 0, .int .i64 0, .slice none 0 0, .int .i64 0, .slice none 0 0, .int .i64 0, .slice none 0 0, .slice none 0 0, .slice none 0 0] 59))
  have HZ : Hid (PvIn (w.alloc (.cells #[.int .i64 0, .slice none 0 0, .int .i64 0, .slice none 0 0, .int .i64 0, .slice none 0 0, .int .i64 0, .slice none 0 0, .int .i64 0, .slice none 0 0, .int .i64 0, .slice none 0 0, .int .i64 0, .slice none 0 0, .slice none 0 0, .slice none 0 0] 59)) w.heap.size zeroP) := hidden (PvIn.new w zeroP 59)
  have HL := hidden h.len
  have HR := hidden h.rng
  clear h
  go_enter Tryz.func74, Tryz.ntmps74
  go_wp2_with (first
    | (go_at_call 99; (with_reducible refine (cloneB_any _ _ _ _ _ H1.out hb).mono ?_); rintro e w2 ⟨v2, rfl, ho, hbc⟩; obtain ⟨q2, d2, rfl, hf0⟩ := ho.frs HL.out HR.out; have HF0 := hidden hf0; have HB2 := hidden (HB.out.trans (hbc.mono HB.out.size)); have HZ2 := hidden (HZ.out.below hbc); obtain ⟨z0, z1, z2, z3, z4, z5, z6, z7, z8, z9, z10, z11, z12, z13, z14, z15, zf⟩ := HZ2.out; clear ho hbc hf0)
    | (go_at_call 62; (with_reducible refine (checkNonce_any _ _ _ _ (by omega)).mono ?_); rintro e w3 ⟨rfl, rfl⟩)
    | fail)
  have hlo := setPv_grown w2 w.heap.size ⟨0, nilV, 0, nilV, 0, nilV, 0, nilV, 0, nilV, 0, nilV, 0, nilV, nilV, ⟨q2, n, d2⟩⟩
  have hz := setPv_in HZ2.out ⟨0, nilV, 0, nilV, 0, nilV, 0, nilV, 0, nilV, 0, nilV, 0, nilV, nilV, ⟨q2, n, d2⟩⟩
  have hfl := (HF0.out.low hlo (by simp)).mono (show w.heap.size ≤ _ from HB.out.size)
  have HBS := hidden (HB2.out.grown hlo HB2.out.size (fun j hj => by cases hj; exact Nat.le_refl _))
  simp only [setPv, nilV] at hz hfl HBS
  have HZZ := hidden hz
  have HFF := hidden hfl
  clear hz hfl hlo
  refine ret_pv (g := w.heap.size) rfl rfl rfl rfl HZZ.out ?_
  exact ⟨_, rfl, HBS.out, fun _ => HFF.out⟩

def idE (k : Int) (n : Nat) : Int := if k = 1 then (if n = 4 then 0 else 2) else if k = 5 then (if n = 16 then 0 else 2) else if k = 2 ∨ k = 3 ∨ k = 11 then (if n = 0 then 2 else 0) else 5
theorem idE_cases (k : Int) (n : Nat) (E : Int) (h : idE k n = E) :
    (k = 1 ∧ ((n = 4 ∧ E = 0) ∨ (¬ n = 4 ∧ E = 2))) ∨ ((k == 1) = false ∧ k = 5 ∧ ((n = 16 ∧ E = 0) ∨ (¬ n = 16 ∧ E = 2))) ∨
    ((k == 1) = false ∧ (k == 5) = false ∧ (k = 2 ∨ k = 3 ∨ k = 11) ∧ ((n = 0 ∧ E = 2) ∨ (¬ n = 0 ∧ E = 0))) ∨
    ((k == 1) = false ∧ (k == 5) = false ∧ (k == 2) = false ∧ (k == 3) = false ∧ (k == 11) = false ∧ E = 5) := by
  unfold idE at h
  subst h
  by_cases h1 : k = 1
  · subst h1
    by_cases h : n = 4 <;> simp [h]
  by_cases h2 : k = 5
  · subst h2
    by_cases h : n = 16 <;> simp [h]
  by_cases h3 : k = 2 ∨ k = 3 ∨ k = 11
  · by_cases h : n = 0 <;> simp [h1, h2, h3, h]
  · simp [h1, h2]
    simp only [not_or] at h3
    simp [h3]
set_option maxHeartbeats 800000 in
theorem checkIdentity_any (k : Int) (p : Option Addr) (n c : Nat) (w : World) (hn : n ≤ 9223372036854775807) (E : Int) (hE : idE k n = E) :
    Calls Tryz.prog 60 #[.agg #[.int .i64 k, .slice p n c]] w fun e w' => e = .returned (.int .i64 E) ∧ Below w.heap.size w w' := by
  have HB := hidden ((Below.refl w.heap.size w).alloc (Nat.le_refl _) (.cells #[.int .i64 k, .slice p n c] 50))
  rcases idE_cases k n E hE with ⟨rfl, ⟨h, rfl⟩ | ⟨h, rfl⟩⟩ | ⟨k1, rfl, ⟨h, rfl⟩ | ⟨h, rfl⟩⟩ | ⟨k1, k2, k3, ⟨h, rfl⟩ | ⟨h, rfl⟩⟩ | ⟨k1, k2, k3, k4, k5, rfl⟩
  all_goals clear hE
  all_goals (try rcases k3 with rfl | rfl | rfl)
  all_goals (try subst h)
  all_goals (try have hge : (1 : Int) ≤ n := (by omega))
  all_goals (try have hz : ((n : Int) == 4) = false := (by simp; omega))
  all_goals (try have hz2 : ((n : Int) == 16) = false := (by simp; omega))
  all_goals (try clear h)
  all_goals
    go_enter Tryz.func60, Tryz.ntmps60
    go_wp2
    go_ret
    exact ⟨rfl, HB.out⟩
end Go.Proofs.YtkniifopfgeopaaGreat

namespace Go.Proofs.YtkniifopfgeopaaGreat

/-- An equation that no walk looks into. -/
structure Is {α : Type} (a b : α) : Prop where
  eq : a = b
end Go.Proofs.YtkniifopfgeopaaGreat

namespace Go.Proofs.YtkniifopfgeopaaGreat
open Go.RowKit
set_option linter.unusedVariables false

/-- The length of the SPIs of a protocol. -/
def spiZ (k : Int) : Nat := if k = 2 ∨ k = 3 then 4 else 0
theorem spiSize_any (k : Int) (w : World) : Calls Tryz.prog 104 #[.int .i64 k] w fun e w' => e = .returned (.int .i64 (spiZ k)) ∧ w = w' := by
  by_cases h2 : k = 2
  · subst h2
    go_enter Tryz.func104, Tryz.ntmps104
    go_wp2
    go_ret
    exact ⟨rfl, rfl⟩
  by_cases h3 : k = 3
  · subst h3
    go_enter Tryz.func104, Tryz.ntmps104
    go_wp2
    go_ret
    exact ⟨rfl, rfl⟩
  · have e : spiZ k = 0 := by unfold spiZ; rw [if_neg (by omega)]
    rw [e]
    have e2 : (k == 2) = false := by simpa using h2
    have e3 : (k == 3) = false := by simpa using h3
    clear e h2 h3
    go_enter Tryz.func104, Tryz.ntmps104
    go_wp2
    go_ret
    exact ⟨rfl, rfl⟩
/-- The first error of a notification's fixed part. -/
def notifyE (np nt size : Int) : Int := if nt < 0 ∨ 65535 < nt ∨ np < 0 ∨ 3 < np then 5 else if size = spiZ np then 0 else 20
set_option maxHeartbeats 1600000 in
set_option maxRecDepth 100000 in
theorem checkNotify_any (np nt size : Int) (ps pd : Option Addr) (ns cs nd cd : Nat) (w : World) (E : Int) (hE : notifyE np nt size = E) :
    Calls Tryz.prog 86 #[.agg #[.int .i64 np, .slice ps ns cs, .int .i64 nt, .slice pd nd cd], .int .i64 size] w fun e w' => e = .returned (.int .i64 E) ∧ Below w.heap.size w w' := by
  have HB := hidden ((Below.refl w.heap.size w).alloc (Nat.le_refl _) (.cells #[.int .i64 np, .slice ps ns cs, .int .i64 nt, .slice pd nd cd] 54))
  have HS := hidden (fun W => spiSize_any np W)
  unfold notifyE at hE
  by_cases h1 : nt < 0
  · rw [if_pos (Or.inl h1)] at hE
    subst hE
    go_enter Tryz.func86, Tryz.ntmps86
    go_wp2
    go_ret
    exact ⟨rfl, HB.out⟩
  by_cases h2 : 65535 < nt
  · rw [if_pos (Or.inr (Or.inl h2))] at hE
    subst hE
    go_enter Tryz.func86, Tryz.ntmps86
    go_wp2
    go_ret
    exact ⟨rfl, HB.out⟩
  by_cases h3 : np < 0
  · rw [if_pos (Or.inr (Or.inr (Or.inl h3)))] at hE
    subst hE
    go_enter Tryz.func86, Tryz.ntmps86
    go_wp2
    go_ret
    exact ⟨rfl, HB.out⟩
  by_cases h4 : 3 < np
  · rw [if_pos (Or.inr (Or.inr (Or.inr h4)))] at hE
    subst hE
    go_enter Tryz.func86, Tryz.ntmps86
    go_wp2
    go_ret
    exact ⟨rfl, HB.out⟩
  rw [if_neg (by omega)] at hE
  obtain ⟨Z, hZ⟩ : ∃ Z : Nat, spiZ np = Z := ⟨_, rfl⟩
  rw [hZ] at hE HS
  clear hZ
  by_cases h5 : size = (Z : Int)
  · rw [if_pos h5] at hE
    subst hE
    have e : (size != (Z : Int)) = false := by simpa using h5
    clear h5
    go_enter Tryz.func86, Tryz.ntmps86
    go_wp2_with (first
      | (go_at_call 104; (with_reducible refine (HS.out _).mono ?_); rintro e w' ⟨rfl, rfl⟩)
      | fail)
    go_ret
    exact ⟨rfl, HB.out⟩
  · rw [if_neg h5] at hE
    subst hE
    have e : (size != (Z : Int)) = true := by simpa using h5
    clear h5
    go_enter Tryz.func86, Tryz.ntmps86
    go_wp2_with (first
      | (go_at_call 104; (with_reducible refine (HS.out _).mono ?_); rintro e w' ⟨rfl, rfl⟩)
      | fail)
    go_ret
    exact ⟨rfl, HB.out⟩
/-- The first error of a deletion's fixed part. -/
def deleteE (k size count : Int) : Int := if k ≠ 1 ∧ k ≠ 2 ∧ k ≠ 3 then 5 else if size = spiZ k ∧ ¬ (k = 1 ∧ count ≠ 0) then 0 else 20
set_option maxHeartbeats 1600000 in
set_option maxRecDepth 100000 in
theorem checkDelete_any (k size count : Int) (w : World) (E : Int) (hE : deleteE k size count = E) :
    Calls Tryz.prog 88 #[.int .i64 k, .int .i64 size, .int .i64 count] w fun e w' => e = .returned (.int .i64 E) ∧ w = w' := by
  have HS := hidden (fun W => spiSize_any k W)
  unfold deleteE at hE
  by_cases h1 : k ≠ 1 ∧ k ≠ 2 ∧ k ≠ 3
  · rw [if_pos h1] at hE
    subst hE
    have e1 : (k == 1) = false := by simpa using h1.1
    have e2 : (k != 2) = true := by simpa using h1.2.1
    have e3 : (k != 3) = true := by simpa using h1.2.2
    clear h1 HS
    go_enter Tryz.func88, Tryz.ntmps88
    go_wp2
    go_ret
    exact ⟨rfl, rfl⟩
  rw [if_neg h1] at hE
  obtain ⟨Z, hZ⟩ : ∃ Z : Nat, spiZ k = Z := ⟨_, rfl⟩
  rw [hZ] at hE HS
  clear hZ
  have hk : k = 1 ∨ k = 2 ∨ k = 3 := by omega
  clear h1
  by_cases h5 : size = (Z : Int)
  · have e : (size != (Z : Int)) = false := by simpa using h5
    by_cases h6 : k = 1 ∧ count ≠ 0
    · rw [if_neg (fun h => h.2 h6)] at hE
      subst hE
      obtain ⟨rfl, h6⟩ := h6
      have e6 : (count != 0) = true := by simpa using h6
      clear h5 h6 hk
      go_enter Tryz.func88, Tryz.ntmps88
      go_wp2_with (first
        | (go_at_call 104; (with_reducible refine (HS.out _).mono ?_); rintro e w' ⟨rfl, rfl⟩)
        | fail)
      go_ret
      exact ⟨rfl, rfl⟩
    · rw [if_pos ⟨h5, h6⟩] at hE
      subst hE
      clear h5
      rcases hk with rfl | rfl | rfl
      · have e6 : (count != 0) = false := by simp; omega
        clear h6
        go_enter Tryz.func88, Tryz.ntmps88
        go_wp2_with (first
          | (go_at_call 104; (with_reducible refine (HS.out _).mono ?_); rintro e w' ⟨rfl, rfl⟩)
          | fail)
        go_ret
        exact ⟨rfl, rfl⟩
      all_goals
        clear h6
        go_enter Tryz.func88, Tryz.ntmps88
        go_wp2_with (first
          | (go_at_call 104; (with_reducible refine (HS.out _).mono ?_); rintro e w' ⟨rfl, rfl⟩)
          | fail)
        go_ret
        exact ⟨rfl, rfl⟩
  · have e : (size != (Z : Int)) = true := by simpa using h5
    rw [if_neg (fun h => h5 h.1)] at hE
    subst hE
    clear h5
    rcases hk with rfl | rfl | rfl
    all_goals
      go_enter Tryz.func88, Tryz.ntmps88
      go_wp2_with (first
        | (go_at_call 104; (with_reducible refine (HS.out _).mono ?_); rintro e w' ⟨rfl, rfl⟩)
        | fail)
      go_ret
      exact ⟨rfl, rfl⟩
end Go.Proofs.YtkniifopfgeopaaGreat

namespace Go.Proofs.YtkniifopfgeopaaGreat
set_option linter.unusedVariables false

/-- A payload: its type, its critical bit, its body. -/
structure Raw where
  k : Int
  c : Bool
  b : List Int
  deriving DecidableEq

/-- A payload of this type is the last one. -/
def lastK (k : Int) : Bool := k == 46 || k == 53
/-- The length that stands in a payload's head. -/
def lenC (xs : List Int) : Int := xs.getD 2 0 * 256 + xs.getD 3 0
/-- Results: the payloads, the type of the first one inside, the error. -/
structure ResC where
  l : List Raw
  n : Int
  e : Int
  deriving DecidableEq
def failC (e : Int) : ResC := ⟨[], 0, e⟩
/-- Payloads that were read before, ahead of a result. -/
def preC (out : List Raw) (r : ResC) : ResC := if r.e ≠ 0 then failC r.e else ⟨out ++ r.l, r.n, 0⟩
theorem preC_nil (r : ResC) (h : r.e ≠ 0 → r = failC r.e) : preC [] r = r := by
  unfold preC
  split
  · rename_i he; exact (h he).symm
  · rename_i he
    have : r.e = 0 := by omega
    cases r
    simp_all
theorem preC_fail (out : List Raw) (e : Int) (h : e ≠ 0) : preC out (failC e) = failC e := by simp [preC, failC, h]
theorem preC_pre (a b : List Raw) (r : ResC) : preC a (preC b r) = preC (a ++ b) r := by
  unfold preC
  by_cases h : r.e = 0
  · simp [h]
  · simp [h, failC]

/-- The payload at the beginning of the bytes. -/
def headC (kind : Int) (xs : List Int) : Raw := ⟨kind, decide (128 ≤ xs.getD 1 0), (xs.drop 4).take ((lenC xs).toNat - 4)⟩
/-- What is read: so many payloads may come, the type of the next one, the bytes. -/
def parseC : Nat → Int → List Int → ResC
  | left, kind, xs =>
    if kind = 0 then (if xs.length ≠ 0 then failC 2 else ⟨[], 0, 0⟩)
    else match left with
      | 0 => failC 10
      | left + 1 =>
        if xs.length < 4 then failC 1
        else if lenC xs < 4 ∨ (xs.length : Int) < lenC xs then failC 2
        else if lastK kind then (if (xs.length : Int) ≠ lenC xs then failC 2 else ⟨[headC kind xs], xs.getD 0 0, 0⟩)
        else preC [headC kind xs] (parseC left (xs.getD 0 0) (xs.drop (lenC xs).toNat))
theorem parseC_end (left : Nat) (xs : List Int) : parseC left 0 xs = if xs.length ≠ 0 then failC 2 else ⟨[], 0, 0⟩ := by
  cases left <;> simp [parseC]
theorem parseC_many (kind : Int) (xs : List Int) (h : kind ≠ 0) : parseC 0 kind xs = failC 10 := by
  rw [parseC, if_neg h]
theorem parseC_more (left : Nat) (kind : Int) (xs : List Int) (h : kind ≠ 0) : parseC (left + 1) kind xs =
    if xs.length < 4 then failC 1
    else if lenC xs < 4 ∨ (xs.length : Int) < lenC xs then failC 2
    else if lastK kind then (if (xs.length : Int) ≠ lenC xs then failC 2 else ⟨[headC kind xs], xs.getD 0 0, 0⟩)
    else preC [headC kind xs] (parseC left (xs.getD 0 0) (xs.drop (lenC xs).toNat)) := by
  rw [parseC, if_neg h]
def parseTop (first : Int) (xs : List Int) : ResC := if first < 0 ∨ 255 < first then failC 5 else parseC 40 first xs

/-- One payload's bytes, the next one's type ahead. -/
def oneC (next : Int) (r : Raw) : List Int := [next % 256, if r.c then 128 else 0] ++ (be 2 ((r.b.length : Int) + 4) ++ r.b)
/-- The type that stands ahead. -/
def nextC (last : Int) : List Raw → Int
  | [] => last
  | r :: _ => r.k
def encC (last : Int) : List Raw → List Int
  | [] => []
  | r :: l => oneC (nextC last l) r ++ encC last l

/-- The first error of the payloads. -/
def errC : List Raw → Int
  | [] => 0
  | r :: l => if r.k < 1 ∨ 255 < r.k then 5 else if 65531 < r.b.length then 11 else if lastK r.k = true ∧ l ≠ [] then 7 else errC l
/-- Is the last payload sealed or a fragment? -/
def endsC : List Raw → Bool
  | [] => false
  | [r] => lastK r.k
  | _ :: r :: l => endsC (r :: l)
/-- The type of the first payload, the bytes, the error. -/
def buildC (l : List Raw) (last : Int) : Int × List Int × Int :=
  if 40 < l.length then (0, [], 10) else if errC l ≠ 0 then (0, [], errC l) else if last < 0 ∨ 255 < last then (0, [], 5)
  else if last ≠ 0 ∧ endsC l = false then (0, [], 7) else (nextC 0 l, encC last l, 0)

theorem oneC_len (next : Int) (r : Raw) : (oneC next r).length = r.b.length + 4 := by
  simp [oneC, be_len]
  omega
/-- The payloads may be written. -/
structure OkC (l : List Raw) (last : Int) : Prop where
  few : l.length ≤ 40
  err : errC l = 0
  rng : 0 ≤ last ∧ last ≤ 255
  ends : last = 0 ∨ endsC l = true

theorem errC_cons {r : Raw} {l : List Raw} (h : errC (r :: l) = 0) : 1 ≤ r.k ∧ r.k ≤ 255 ∧ r.b.length ≤ 65531 ∧ (lastK r.k = true → l = []) ∧ errC l = 0 := by
  unfold errC at h
  split at h
  · omega
  split at h
  · omega
  split at h
  · omega
  · rename_i h1 h2 h3
    refine ⟨by omega, by omega, by omega, fun hk => ?_, h⟩
    by_cases hl : l = []
    · exact hl
    · exact absurd ⟨hk, hl⟩ h3

end Go.Proofs.YtkniifopfgeopaaGreat
