/-
  What package payload's fixed part reads: its numbers, and a body split into the fixed part and the rest.
  The lengths of SPIs and the first errors of notifications and deletions, as package payload tells them.
  A map of the call's own from uint64s to bools that holds just those of a list.
  What package proposal's Check returns.
  What package proposal reads of the inside of a transform, or throws.
  What package proposal reads of transforms one behind the other, or throws.
  What package proposal reads of the inside of a proposal, or throws.
  What the document's own Same says of two lists of proposals that read alike.
  What the document's own Put returns, for every slice of bytes, number and width.
  A statement that draws its order: a condition on the world that holds till one operation, a call, has come up, beside one that holds throughout. What that call waits for may be loaded by the first condition, although stores behind the call end it.
-/
import Derived.Test.YtbpmanbpmlkmnaaGreatDoorMZ5
import Derived.Test.YtbpmanbpmlkmnaaGreatDoorMZ1
import Derived.Test.YtbpmanbpmlkmnaaGreatDoorMZ0
import Derived.Test.YtbpmanbpmlkmnaaGreatDoorMRCheck4
import Derived.Test.YtbpmanbpmlkmnaaGreatDoorMNum
import Derived.Test.YtbpmanbpmlkmnaaGreatDoorRows
import Derived.Laws.CopyOwn
import Derived.Maps.OwnOps
import Derived.Maps.Views
import Derived.Deep.RegionLaw
import Derived.Deep.QuietTactic
import Derived.BigQuiet
import Derived.OrdersHeld
import Derived.Deep.RegionHeld
namespace Go.Proofs.YtbpmanbpmlkmnaaGreatDoor
open Go.RowKit
set_option linter.unusedVariables false

set_option maxHeartbeats 400000 in
theorem cloneB_any (p : Option Addr) (n c : Nat) (xs : List Int) (w : World) (h : Byt w p n c xs) (hb : n ≤ 140737488355328) :
    Calls Tryz.prog 73 #[.slice p n c] w fun e w' => ∃ v, e = .returned v ∧ Own w' w.heap.size 5 v xs ∧ Below w.heap.size w w' := by
  have hl := h.len
  have q := fun (w : World) (a : Option Addr) (n c n' c' : Nat) => Lib.run_eql_slice_nil (P := Tryz.prog) w 65 _ a n c n' c' Tryz.underlying65
  cases p with
  | none =>
    have hn : n = 0 := by
      rcases Nat.eq_zero_or_pos n with h0 | h0
      · exact h0
      · obtain ⟨b, o, h, _⟩ := h.at_ h0
        cases h
    subst hn
    obtain rfl : xs = [] := List.eq_nil_of_length_eq_zero hl
    clear h hl
    go_enter Tryz.func73, Tryz.ntmps73
    go_wp2
    go_ret
    exact ⟨_, rfl, Own.nil _ _ _, Below.refl _ _⟩
  | some a =>
    obtain ⟨i0, hi, hz0, hz1, hz2⟩ := info_parts Tryz.infoByte
    have H := hidden h
    clear h
    go_enter Tryz.func73, Tryz.ntmps73
    go_wp2_with (at_builtin; refine wpList_append_byt _ rfl _ _ 65 rfl w.heap.size 5 i0 (.int .u8 0) Tryz.underlying65 hi hz0 hz1 hz2 rfl _ _ rfl (Own.made w w.heap.size 5 (Nat.le_refl _)) _ _ _ _ _ rfl (H.out.alloc _) rfl ?c1 ?c2 ?_)
    case c1 => simp; omega
    case c2 => simp
    intro v w1 hown hg
    go_wp2
    go_ret
    exact ⟨v, rfl, hown, ((Below.refl _ w).alloc (Nat.le_refl _) _).grown hg (by simp) (by intro k hk; simp [Value.ownBlock] at hk; omega)⟩

set_option maxHeartbeats 400000 in
theorem fnumber_any (a b c d : Int) (ha : 0 ≤ a ∧ a ≤ 255) (hb : 0 ≤ b ∧ b ≤ 255) (hc : 0 ≤ c ∧ c ≤ 255) (hd : 0 ≤ d ∧ d ≤ 255) (A K : Nat) (AI KI : Int) (hA : AI = A) (hK : KI = K) (h1 : 1 ≤ K) (hin : A + K ≤ 4) (V : Int) (hV : val (([a, b, c, d].drop A).take K) = V) (w : World) :
    Calls Tryz.prog 71 #[.agg #[.int .u8 a, .int .u8 b, .int .u8 c, .int .u8 d],   .int .i64 AI, .int .i64 KI] w fun e w' => e = .returned (.int .i64 V) ∧ Below w.heap.size w w' := by
  subst hA hK
  have hF := four_byt w a b c d 110 ha hb hc hd
  have HN := hidden (number_yes _ 4 4 _ _ hF A K h1 (by omega) hin)
  rw [hV] at HN
  have HB := hidden ((Below.refl w.heap.size w).alloc (Nat.le_refl _) (.cells #[.int .u8 a, .int .u8 b, .int .u8 c, .int .u8 d] 110))
  have hbd := val_bd (([a, b, c, d].drop A).take K) (rng_take (rng_drop hF.rng _) _)
  have hlen : (([a, b, c, d].drop A).take K).length ≤ 4 := by simp; omega
  have h8 := pow256_le hlen
  have e4 : (256 : Int) ^ 4 = 4294967296 := by decide
  rw [e4] at h8
  rw [hV] at hbd
  have hw : IntKind.i64.wrap V = V := by rw [IntKind.wrap_i64]; omega
  clear hF hbd h8 hV hlen e4
  go_enter Tryz.func71, Tryz.ntmps71
  go_wp2_with (first
    | (go_at_call 95; (with_reducible refine (HN.out).mono ?_); rintro e w' ⟨rfl, rfl⟩)
    | fail)
  go_ret
  exact ⟨rfl, HB.out⟩

/-- A byte of a body. -/
def nthB (xs : List Int) (j : Nat) : Int := xs.getD j 0
/-- What split returns. -/
def Split4 (w : World) (xs : List Int) (n : Nat) (e : Ending) (w' : World) : Prop :=
  Below w.heap.size w w' ∧ ((n < 4 ∧ e = .returned (.tuple #[.agg #[.int .u8 0, .int .u8 0, .int .u8 0, .int .u8 0], .slice none 0 0, .int .i64 1])) ∨
    (4 ≤ n ∧ ∃ q d, e = .returned (.tuple #[.agg #[.int .u8 (nthB xs 0), .int .u8 (nthB xs 1), .int .u8 (nthB xs 2), .int .u8 (nthB xs 3)], .slice q (n - 4) d, .int .i64 0]) ∧ Frs w' w.heap.size q (n - 4) d (xs.drop 4)))

theorem ret_f4 {fn : Func} {R : Ending → World → Prop} {act : Act} {w : World} {p s t : Nat} {g : Nat} {a b c d : Int} {u v : Value} (h : fn.results = #[.cell p 110, .tmp s, .tmp t]) (hp : act.tmps.getD p undef = .pointer (some ⟨g, 0, none⟩)) (hs : act.tmps.getD s undef = u) (ht : act.tmps.getD t undef = v) (hd : act.defers = [])
    (c0 : w.cell? ⟨g, 0, none⟩ = some (.int .u8 a)) (c1 : w.cell? ⟨g, 1, none⟩ = some (.int .u8 b)) (c2 : w.cell? ⟨g, 2, none⟩ = some (.int .u8 c)) (c3 : w.cell? ⟨g, 3, none⟩ = some (.int .u8 d))
    (hR : R (.returned (.tuple #[.agg #[.int .u8 a, .int .u8 b, .int .u8 c, .int .u8 d], u, v])) w) : bodyPost Tryz.prog fn R .ret act w := by
  refine bodyPost_ret (v := .tuple #[.agg #[.int .u8 a, .int .u8 b, .int .u8 c, .int .u8 d], u, v]) ?_ hd hR
  rw [Array.getD_eq_getD_getElem?] at hp hs ht
  have hl : (loadVar 110 ⟨g, 0, none⟩).run Tryz.prog w = .ok (.agg #[.int .u8 a, .int .u8 b, .int .u8 c, .int .u8 d]) w := by simp [loadVar, go_sem, c0, c1, c2, c3, Result.andThen]
  simp [results, h, hp, hs, ht, asAddr, hl]

/-- copy(f[:], b), where f is an array of four bytes that was just made. -/
theorem wpList_copy4 {P : Program} {w : World} {ops : Array Oper} {rest : List Oper} {o : Oper} {a : Act} {Q : Exit → Act → World → Prop} (hgd : o.guard = none) (d s : Operand) (dT sT : TypeId)
    (ho : o.op = .call { callee := .builtin .copy, args := #[d, s], argTypes := #[dT, sT] }) (elem : TypeId) (hu : P.underlying dT = some (.slice elem)) (hsz : (P.info? elem).map (·.size) = some 1)
    (g : Nat) (hd : a.eval d = .slice (some ⟨g, 0, none⟩) 4 4) (y0 y1 y2 y3 : Int) (t : TypeId) (hg : w.heap[g]? = some (.cells #[.int .u8 y0, .int .u8 y1, .int .u8 y2, .int .u8 y3] t (0, 0)))
    (p : Option Addr) (n c : Nat) (xs : List Int) (hs : a.eval s = .slice p n c) (hx : Byt w p n c xs) (N : Nat) (hN : Nat.min n 4 = N)
    (h : ∀ w', w.grownBy w' (some g) → (4 ≤ n → ∀ j, j < 4 → w'.cell? ⟨g, j, none⟩ = some (.int .u8 (nthB xs j))) → (∀ j, w'.frozen? ⟨g, j, none⟩ = false) → wpList P ops Q rest (a.put o.dst (goInt N)) w') : wpList P ops Q (o :: rest) a w := by
  have hl := hx.len
  have hfz : ∀ (w' : World) (cs : Array Value), w'.heap[g]? = some (.cells cs t (0, 0)) → ∀ j, w'.frozen? ⟨g, j, none⟩ = false := fun w' cs hh j => by
    simp [World.frozen?, hh]
  rcases Nat.eq_zero_or_pos n with h0 | h0
  · subst h0
    obtain rfl : N = 0 := by rw [← hN]; simp
    refine wpList_copy_nothing hgd d s dT sT ho elem hu hsz _ _ _ _ _ _ hd hs (by simp) (h w (grown_refl w _) (fun h => by omega) (hfz w _ hg))
  · obtain ⟨b, off, rfl, hc⟩ := hx.at_ h0
    have hcl : ((xs.take 4).map (Value.int .u8)).length = Nat.min n 4 := by rw [List.length_map, List.length_take, hl]; exact Nat.min_comm 4 n
    refine wpList_copy_own hgd d s dT sT ho elem hu hsz g 0 4 4 ⟨b, off, none⟩ n c hd hs _ t hg ((xs.take 4).map (Value.int .u8)) hcl (fun j v hj => ?_) (by have := Nat.min_le_right n 4; rw [hcl]; simpa using this) (u8_one _) ?_
    · have hj4 : j < 4 ∧ j < n := by
        have := (List.getElem?_eq_some_iff.1 hj).1
        rw [hcl] at this
        exact ⟨Nat.lt_of_lt_of_le this (Nat.min_le_right n 4), Nat.lt_of_lt_of_le this (Nat.min_le_left n 4)⟩
      rw [WideShapes.add_plain, hc j hj4.2]
      rw [List.getElem?_map, List.getElem?_take_of_lt hj4.1, List.getElem?_eq_getElem (by omega)] at hj
      rw [List.getD_eq_getElem?_getD, List.getElem?_eq_getElem (by omega)]
      simpa using hj
    · rw [hcl, hN]
      obtain ⟨cs, hcs⟩ : ∃ cs, (#[Value.int IntKind.u8 y0, .int .u8 y1, .int .u8 y2, .int .u8 y3].toList.take 0 ++ ((xs.take 4).map (Value.int .u8) ++ #[Value.int IntKind.u8 y0, .int .u8 y1, .int .u8 y2, .int .u8 y3].toList.drop (0 + N))).toArray = cs := ⟨_, rfl⟩
      rw [hcs]
      have hh : (w.setRow g cs).heap[g]? = some (.cells cs t (0, 0)) := setRow_heap w g _ cs t _ hg
      refine h _ ⟨rfl, rfl, rfl, by simp, fun k hk hne => setRow_other w g k _ (fun e => hne (by rw [e]))⟩ (fun h4 j hj => ?_) (hfz _ _ hh)
      have hN4 : N = 4 := by rw [← hN]; exact Nat.min_eq_right h4
      subst hN4
      have e1 : cs[j]? = some (.int .u8 (nthB xs j)) := by
        unfold nthB
        rw [← hcs]
        simp only [List.take_zero, List.nil_append, List.getElem?_toArray]
        rw [List.getElem?_append_left (by rw [hcl, hN]; exact hj), List.getElem?_map, List.getElem?_take_of_lt hj, List.getD_eq_getElem?_getD, List.getElem?_eq_getElem (by omega)]
        rfl
      simp [World.cell?, hh, e1]

set_option maxHeartbeats 800000 in
set_option maxRecDepth 100000 in
theorem split_any (p : Option Addr) (n c : Nat) (xs : List Int) (w : World) (h : Byt w p n c xs) (hb : n ≤ 140737488355328) :
    Calls Tryz.prog 70 #[.slice p n c] w (Split4 w xs n) := by
  have H := hidden h
  have hn := h.le
  obtain ⟨N, hN⟩ : ∃ N, Nat.min n 4 = N := ⟨_, rfl⟩
  have HY := hidden ((h.alloc (.cells #[.int .u8 0, .int .u8 0, .int .u8 0, .int .u8 0] 110)).alloc (.cells #[.int .u8 0, .int .u8 0, .int .u8 0, .int .u8 0] 110))
  have HB := hidden (((Below.refl w.heap.size w).alloc (Nat.le_refl _) (.cells #[.int .u8 0, .int .u8 0, .int .u8 0, .int .u8 0] 110)).alloc (by simp) (.cells #[.int .u8 0, .int .u8 0, .int .u8 0, .int .u8 0] 110))
  clear h
  go_enter Tryz.func70, Tryz.ntmps70
  go_wp2_with (first
    | (go_loud (refine wpList_copy4 rfl (.tmp 6) (.tmp 7) 22 65 rfl 5 Tryz.underlying22 Tryz.sizeByte (w.heap.size + 1) rfl 0 0 0 0 110 ?_ _ _ _ xs rfl HY.out N hN ?_))
    | fail)
  · have := heap_alloc_new (w.alloc (.cells #[.int .u8 0, .int .u8 0, .int .u8 0, .int .u8 0] 110)) (.cells #[.int .u8 0, .int .u8 0, .int .u8 0, .int .u8 0] 110)
    simpa using this
  · intro w1 hg hc hf
    have HB1 := hidden (HB.out.grown hg HB.out.size (fun j hj => by cases hj; omega))
    have HC := hidden hc
    have r0 := hg.cell (show ((w.alloc (.cells #[.int .u8 0, .int .u8 0, .int .u8 0, .int .u8 0] 110)).alloc (.cells #[.int .u8 0, .int .u8 0, .int .u8 0, .int .u8 0] 110)).cell? ⟨w.heap.size, 0, none⟩ = some (.int .u8 0) by go_simp) (by simp)
    have r1 := hg.cell (show ((w.alloc (.cells #[.int .u8 0, .int .u8 0, .int .u8 0, .int .u8 0] 110)).alloc (.cells #[.int .u8 0, .int .u8 0, .int .u8 0, .int .u8 0] 110)).cell? ⟨w.heap.size, 1, none⟩ = some (.int .u8 0) by go_simp) (by simp)
    have r2 := hg.cell (show ((w.alloc (.cells #[.int .u8 0, .int .u8 0, .int .u8 0, .int .u8 0] 110)).alloc (.cells #[.int .u8 0, .int .u8 0, .int .u8 0, .int .u8 0] 110)).cell? ⟨w.heap.size, 2, none⟩ = some (.int .u8 0) by go_simp) (by simp)
    have r3 := hg.cell (show ((w.alloc (.cells #[.int .u8 0, .int .u8 0, .int .u8 0, .int .u8 0] 110)).alloc (.cells #[.int .u8 0, .int .u8 0, .int .u8 0, .int .u8 0] 110)).cell? ⟨w.heap.size, 3, none⟩ = some (.int .u8 0) by go_simp) (by simp)
    have rf : ∀ j, w1.frozen? ⟨w.heap.size, j, none⟩ = false := fun j => (World.frozen?_of_block (a := ⟨w.heap.size, j, none⟩) (hg.block w.heap.size (by simp; omega) (by simp))).trans (by go_simp)
    clear hg hc
    by_cases h4 : n < 4
    · obtain rfl : N = n := by rw [← hN]; exact Nat.min_eq_left (by omega)
      clear hN hf
      go_wp2_with fail
      refine ret_f4 (g := w.heap.size) (a := 0) (b := 0) (c := 0) (d := 0) rfl rfl rfl rfl rfl (by go_simp) (by go_simp) (by go_simp) (by go_simp) ?_
      exact ⟨(((HB1.out.setCell (p := ⟨w.heap.size, 0, none⟩) (Nat.le_refl _) _).setCell (p := ⟨w.heap.size, 1, none⟩) (Nat.le_refl _) _).setCell (p := ⟨w.heap.size, 2, none⟩) (Nat.le_refl _) _).setCell (p := ⟨w.heap.size, 3, none⟩) (Nat.le_refl _) _, Or.inl ⟨h4, rfl⟩⟩
    · obtain rfl : N = 4 := by rw [← hN]; exact Nat.min_eq_right (by omega)
      have hpart := H.out.part 4 n (by omega) (Nat.le_refl _)
      rw [List.take_of_length_le (by rw [H.out.len]; exact Nat.le_refl _)] at hpart
      obtain ⟨c0, c1, c2, c3⟩ : w1.cell? ⟨w.heap.size + 1, 0, none⟩ = some (.int .u8 (nthB xs 0)) ∧ w1.cell? ⟨w.heap.size + 1, 1, none⟩ = some (.int .u8 (nthB xs 1)) ∧ w1.cell? ⟨w.heap.size + 1, 2, none⟩ = some (.int .u8 (nthB xs 2)) ∧ w1.cell? ⟨w.heap.size + 1, 3, none⟩ = some (.int .u8 (nthB xs 3)) :=
        ⟨HC.out (by omega) 0 (by omega), HC.out (by omega) 1 (by omega), HC.out (by omega) 2 (by omega), HC.out (by omega) 3 (by omega)⟩
      have HR := hidden (fun wx (hb : Below w1.heap.size w1 wx) => And.intro (cell_below hb _ _ r0) (And.intro (cell_below hb _ _ r1) (And.intro (cell_below hb _ _ r2) (And.intro (cell_below hb _ _ r3) (fun j => (World.frozen?_of_block (a := ⟨w.heap.size, j, none⟩) (hb.block w.heap.size (World.block_lt_of_cell? w1 _ r0))).trans (rf j))))))
      have HK := hidden (fun wx (hb : Below w1.heap.size w1 wx) => And.intro (cell_below hb _ _ c0) (And.intro (cell_below hb _ _ c1) (And.intro (cell_below hb _ _ c2) (cell_below hb _ _ c3))))
      obtain ⟨bb, oo, rfl, -⟩ := H.out.at_ (by omega)
      have hrl := H.out.len
      have hcap := H.out.cap
      have hrng := rng_drop H.out.rng 4
      have hdl : (xs.drop 4).length = n - 4 := by rw [List.length_drop, hrl]
      have HD := hidden hdl
      have HG := hidden hrng
      have hbig := H.out.big
      unfold maxLen at hbig
      have hn4 : (4 : Int) ≤ n := by omega
      have hnc : (n : Int) ≤ c := by omega
      have HP1 := hidden hpart
      clear hpart hrl hdl hrng hN H HC HY hf
      have hcc : (c = 4 ∧ n = 4) ∨ c ≠ 4 := by omega
      go_wp2_with fail
      have HBD := hidden (show Below w1.heap.size w1 w1.drew from drew_below ⟨1, rfl⟩)
      rcases hcc with ⟨rfl, rfl⟩ | hcc
      all_goals
        first | (rw [if_pos rfl, Nat.sub_self] at HP1) | (rw [if_neg hcc, Option.map_some, WideShapes.add_plain] at HP1)
        have HPD := hidden ((HP1.out.below HB1.out).below HBD.out)
        go_region_held3 (fun w' => w'.cell? ⟨w.heap.size + 1, 0, none⟩ = some (.int .u8 (nthB xs 0)) ∧ w'.cell? ⟨w.heap.size + 1, 1, none⟩ = some (.int .u8 (nthB xs 1)) ∧ w'.cell? ⟨w.heap.size + 1, 2, none⟩ = some (.int .u8 (nthB xs 2)) ∧ w'.cell? ⟨w.heap.size + 1, 3, none⟩ = some (.int .u8 (nthB xs 3))) (first | exact HK.out _ HBD.out | exact HK.out _ (HBD.out.trans hbc) | go_keep)
          (first
          | (go_at_call 73; (with_reducible refine (cloneB_any _ _ _ _ _ HPD.out (by omega)).mono ?_); rintro e w2 ⟨v2, rfl, ho, hbc⟩; have HO2 := hidden ho; obtain ⟨z0, z1, z2, z3, zf⟩ := HR.out _ (HBD.out.trans hbc); clear r0 r1 r2 r3 rf)
          | fail)
        all_goals
          have hs1 := HB1.out.size
          have hks : w.heap.size < w1.drew.heap.size := World.block_lt_of_cell? w1 _ c0 |> fun h => by simp at h ⊢; omega
          obtain ⟨q2, d2, rfl, hf2⟩ := HO2.out.frs HD.out HG.out
          have hB2 := HB1.out.trans ((HBD.out.trans hbc).mono HB1.out.size)
          have hF := ((((hf2.low (grown_set w2 w.heap.size 0 (.int .u8 (nthB xs 0))) hks).low (grown_set _ w.heap.size 1 (.int .u8 (nthB xs 1))) hks).low (grown_set _ w.heap.size 2 (.int .u8 (nthB xs 2))) hks).low (grown_set _ w.heap.size 3 (.int .u8 (nthB xs 3))) hks).mono (by omega : w.heap.size ≤ w1.drew.heap.size)
          have hB := (((hB2.setCell (p := ⟨w.heap.size, 0, none⟩) (Nat.le_refl _) (.int .u8 (nthB xs 0))).setCell (p := ⟨w.heap.size, 1, none⟩) (Nat.le_refl _) (.int .u8 (nthB xs 1))).setCell (p := ⟨w.heap.size, 2, none⟩) (Nat.le_refl _) (.int .u8 (nthB xs 2))).setCell (p := ⟨w.heap.size, 3, none⟩) (Nat.le_refl _) (.int .u8 (nthB xs 3))
          have HF := hidden hF
          have HBB := hidden hB
          clear ho hbc HO2 hf2 hB2 hF hB
          go_wp2
          refine ret_f4 (g := w.heap.size) (a := nthB xs 0) (b := nthB xs 1) (c := nthB xs 2) (d := nthB xs 3) rfl rfl rfl rfl rfl (by go_simp) (by go_simp) (by go_simp) (by go_simp) ?_
          exact ⟨HBB.out, Or.inr ⟨by omega, q2, d2, rfl, HF.out⟩⟩
end Go.Proofs.YtbpmanbpmlkmnaaGreatDoor

namespace Go.Proofs.YtbpmanbpmlkmnaaGreatDoor
open Go.RowKit
set_option linter.unusedVariables false

/-- The length of the SPIs of a protocol. -/
def spiZ (k : Int) : Nat := if k = 2 ∨ k = 3 then 4 else 0
theorem spiSize_any (k : Int) (w : World) : Calls Tryz.prog 96 #[.int .i64 k] w fun e w' => e = .returned (.int .i64 (spiZ k)) ∧ w = w' := by
  by_cases h2 : k = 2
  · subst h2
    go_enter Tryz.func96, Tryz.ntmps96
    go_wp2
    go_ret
    exact ⟨rfl, rfl⟩
  by_cases h3 : k = 3
  · subst h3
    go_enter Tryz.func96, Tryz.ntmps96
    go_wp2
    go_ret
    exact ⟨rfl, rfl⟩
  · have e : spiZ k = 0 := by unfold spiZ; rw [if_neg (by omega)]
    rw [e]
    have e2 : (k == 2) = false := by simpa using h2
    have e3 : (k == 3) = false := by simpa using h3
    clear e h2 h3
    go_enter Tryz.func96, Tryz.ntmps96
    go_wp2
    go_ret
    exact ⟨rfl, rfl⟩
/-- The first error of a notification's fixed part. -/
def notifyE (np nt size : Int) : Int := if nt < 0 ∨ 65535 < nt ∨ np < 0 ∨ 3 < np then 5 else if size = spiZ np then 0 else 20
set_option maxHeartbeats 1600000 in
set_option maxRecDepth 100000 in
theorem checkNotify_any (np nt size : Int) (ps pd : Option Addr) (ns cs nd cd : Nat) (w : World) (E : Int) (hE : notifyE np nt size = E) :
    Calls Tryz.prog 74 #[.agg #[.int .i64 np, .slice ps ns cs, .int .i64 nt, .slice pd nd cd], .int .i64 size] w fun e w' => e = .returned (.int .i64 E) ∧ Below w.heap.size w w' := by
  have HB := hidden ((Below.refl w.heap.size w).alloc (Nat.le_refl _) (.cells #[.int .i64 np, .slice ps ns cs, .int .i64 nt, .slice pd nd cd] 39))
  have HS := hidden (fun W => spiSize_any np W)
  unfold notifyE at hE
  by_cases h1 : nt < 0
  · rw [if_pos (Or.inl h1)] at hE
    subst hE
    go_enter Tryz.func74, Tryz.ntmps74
    go_wp2
    go_ret
    exact ⟨rfl, HB.out⟩
  by_cases h2 : 65535 < nt
  · rw [if_pos (Or.inr (Or.inl h2))] at hE
    subst hE
    go_enter Tryz.func74, Tryz.ntmps74
    go_wp2
    go_ret
    exact ⟨rfl, HB.out⟩
  by_cases h3 : np < 0
  · rw [if_pos (Or.inr (Or.inr (Or.inl h3)))] at hE
    subst hE
    go_enter Tryz.func74, Tryz.ntmps74
    go_wp2
    go_ret
    exact ⟨rfl, HB.out⟩
  by_cases h4 : 3 < np
  · rw [if_pos (Or.inr (Or.inr (Or.inr h4)))] at hE
    subst hE
    go_enter Tryz.func74, Tryz.ntmps74
    go_wp2
    go_ret
    exact ⟨rfl, HB.out⟩
  rw [if_neg (by omega)] at hE
  obtain ⟨Z, hZ⟩ : ∃ Z : Nat, spiZ np = Z := ⟨_, rfl⟩
  rw [hZ] at hE HS
  clear hZ
  by_cases h5 : size = (Z : Int)
  · rw [if_pos h5] at hE
    subst hE
    have e : (size != (Z : Int)) = false := by simpa using h5
    clear h5
    go_enter Tryz.func74, Tryz.ntmps74
    go_wp2_with (first
      | (go_at_call 96; (with_reducible refine (HS.out _).mono ?_); rintro e w' ⟨rfl, rfl⟩)
      | fail)
    go_ret
    exact ⟨rfl, HB.out⟩
  · rw [if_neg h5] at hE
    subst hE
    have e : (size != (Z : Int)) = true := by simpa using h5
    clear h5
    go_enter Tryz.func74, Tryz.ntmps74
    go_wp2_with (first
      | (go_at_call 96; (with_reducible refine (HS.out _).mono ?_); rintro e w' ⟨rfl, rfl⟩)
      | fail)
    go_ret
    exact ⟨rfl, HB.out⟩
/-- The first error of a deletion's fixed part. -/
def deleteE (k size count : Int) : Int := if k ≠ 1 ∧ k ≠ 2 ∧ k ≠ 3 then 5 else if size = spiZ k ∧ ¬ (k = 1 ∧ count ≠ 0) then 0 else 20
set_option maxHeartbeats 1600000 in
set_option maxRecDepth 100000 in
theorem checkDelete_any (k size count : Int) (w : World) (E : Int) (hE : deleteE k size count = E) :
    Calls Tryz.prog 76 #[.int .i64 k, .int .i64 size, .int .i64 count] w fun e w' => e = .returned (.int .i64 E) ∧ w = w' := by
  have HS := hidden (fun W => spiSize_any k W)
  unfold deleteE at hE
  by_cases h1 : k ≠ 1 ∧ k ≠ 2 ∧ k ≠ 3
  · rw [if_pos h1] at hE
    subst hE
    have e1 : (k == 1) = false := by simpa using h1.1
    have e2 : (k != 2) = true := by simpa using h1.2.1
    have e3 : (k != 3) = true := by simpa using h1.2.2
    clear h1 HS
    go_enter Tryz.func76, Tryz.ntmps76
    go_wp2
    go_ret
    exact ⟨rfl, rfl⟩
  rw [if_neg h1] at hE
  obtain ⟨Z, hZ⟩ : ∃ Z : Nat, spiZ k = Z := ⟨_, rfl⟩
  rw [hZ] at hE HS
  clear hZ
  have hk : k = 1 ∨ k = 2 ∨ k = 3 := by omega
  clear h1
  by_cases h5 : size = (Z : Int)
  · have e : (size != (Z : Int)) = false := by simpa using h5
    by_cases h6 : k = 1 ∧ count ≠ 0
    · rw [if_neg (fun h => h.2 h6)] at hE
      subst hE
      obtain ⟨rfl, h6⟩ := h6
      have e6 : (count != 0) = true := by simpa using h6
      clear h5 h6 hk
      go_enter Tryz.func76, Tryz.ntmps76
      go_wp2_with (first
        | (go_at_call 96; (with_reducible refine (HS.out _).mono ?_); rintro e w' ⟨rfl, rfl⟩)
        | fail)
      go_ret
      exact ⟨rfl, rfl⟩
    · rw [if_pos ⟨h5, h6⟩] at hE
      subst hE
      clear h5
      rcases hk with rfl | rfl | rfl
      · have e6 : (count != 0) = false := by simp; omega
        clear h6
        go_enter Tryz.func76, Tryz.ntmps76
        go_wp2_with (first
          | (go_at_call 96; (with_reducible refine (HS.out _).mono ?_); rintro e w' ⟨rfl, rfl⟩)
          | fail)
        go_ret
        exact ⟨rfl, rfl⟩
      all_goals
        clear h6
        go_enter Tryz.func76, Tryz.ntmps76
        go_wp2_with (first
          | (go_at_call 96; (with_reducible refine (HS.out _).mono ?_); rintro e w' ⟨rfl, rfl⟩)
          | fail)
        go_ret
        exact ⟨rfl, rfl⟩
  · have e : (size != (Z : Int)) = true := by simpa using h5
    rw [if_neg (fun h => h5 h.1)] at hE
    subst hE
    clear h5
    rcases hk with rfl | rfl | rfl
    all_goals
      go_enter Tryz.func76, Tryz.ntmps76
      go_wp2_with (first
        | (go_at_call 96; (with_reducible refine (HS.out _).mono ?_); rintro e w' ⟨rfl, rfl⟩)
        | fail)
      go_ret
      exact ⟨rfl, rfl⟩
end Go.Proofs.YtbpmanbpmlkmnaaGreatDoor

namespace Go.Proofs.YtbpmanbpmlkmnaaGreatDoor
open Go.RowKit
open Go.Maps (Keyed IsMap)
set_option linter.unusedVariables false
set_option maxRecDepth 100000

/-- What a word of 64 bits holds. -/
def WdR (t : Int) : Prop := 0 ≤ t ∧ t ≤ 18446744073709551615
theorem lawU : Keyed Tryz.prog 71 := Maps.int_keyed Tryz.underlying71
theorem key_u (t : Int) (h : WdR t) : keyOf Tryz.prog 71 (.int .u64 t) = some (.int .u64 t) := Maps.keyOf_int_mk Tryz.underlying71 (WalkArith.wf_u64 (by unfold WdR at h; omega))
/-- What the map reads as, and the ints that it holds. -/
structure FndUD (D : DataW Unit) (ts : List Int) : Prop where
  map : IsMap D
  at_ : ∀ (t : Int), WdR t → D.atKey (.int .u64 t) (.lit (.bool false)) = .lit (.bool (decide (t ∈ ts)))
def FndU (w : World) (b : Nat) (ts : List Int) : Prop := ∃ D : DataW Unit, w.ownsMap Tryz.prog 71 (plainElem Tryz.prog 4) b ts.length D ∧ FndUD D ts
theorem FndU.made (w : World) : FndU (w.alloc (.map #[] 0)) w.heap.size [] := ⟨_, World.ownsMap_made _ _ _ _, ⟨[], rfl⟩, fun t h => by simp [DataW.atKey]⟩
theorem FndU.lt {w : World} {b : Nat} {ts : List Int} (h : FndU w b ts) : b < w.heap.size := by
  obtain ⟨D, h1, _⟩ := h
  exact h1.lt
theorem FndU.grown {w w' : World} {b : Nat} {ts : List Int} {row : Option Nat} (h : FndU w b ts) (hg : w.grownBy w' row) (hne : some b ≠ row) : FndU w' b ts := by
  obtain ⟨D, h1, h2⟩ := h
  exact ⟨D, h1.kept hg hne, h2⟩
theorem FndU.below {w w' : World} {b : Nat} {ts : List Int} (h : FndU w b ts) (hb : Below w.heap.size w w') : FndU w' b ts := h.grown (row := none) (grown_of_below hb none) (by simp)
theorem FndU.notCells {w : World} {b : Nat} {ts : List Int} (h : FndU w b ts) (cur : Array Value) (e : TypeId) (fz : Nat × Nat) : w.heap[b]? ≠ some (.cells cur e fz) := by
  obtain ⟨D, ⟨es, clock, h1, _⟩, _⟩ := h
  rw [h1]
  simp
theorem Tryz.zeroBoolU (w : World) : (zeroValue 4).run Tryz.prog w = .ok (.bool false) w := by kernel_rfl
theorem FndU.look {w : World} {b : Nat} {ts : List Int} (h : FndU w b ts) (t : Int) (hi : WdR t) :
    (Instr.lookup 142 (.map (some b)) (.int .u64 t) false).run Tryz.prog w = .ok (.bool (decide (t ∈ ts))) w := by
  obtain ⟨D, h1, h2⟩ := h
  obtain ⟨v, ps, hrun, hv⟩ := h1.lookup lawU Tryz.underlying142 (Tryz.zeroBoolU w) (plainElem_bool Tryz.underlying4 false) (key_u t hi)
  rw [h2.at_ t hi] at hv
  have : v = .bool (decide (t ∈ ts)) := by
    unfold plainElem at hv
    rw [Tryz.underlying4] at hv
    cases v <;> simp at hv
    rw [hv.1]
  rw [← this]
  exact hrun
theorem FndUD.put {D : DataW Unit} {ts : List Int} (h : FndUD D ts) (t : Int) (hi : WdR t) : FndUD (D.put (.int .u64 t) (.lit (.bool true))) (ts ++ [t]) := by
  refine ⟨h.map.put _ _, fun t' hi' => ?_⟩
  by_cases he : t' = t
  · subst he
    rw [Maps.atKey_put_same h.map (lawU.key (key_u t' hi))]
    simp
  · have hne : (Lit.int .u64 t' : Lit) ≠ .int .u64 t := by
      intro e
      injection e with _ e
      exact he e
    rw [Maps.atKey_put_other hne, h.at_ t' hi']
    simp [he]
/-- A store into the map as a law of the walk. -/
theorem wpList_fndU (w : World) {ops : Array Oper} {rest : List Oper} {o : Oper} {a : Act} {Q : Exit → Act → World → Prop} (hg : o.guard = none) (m x v : Operand) (hop : o.op = Op.mapUpdate 142 m x v)
    (b : Nat) (ts : List Int) (h : FndU w b ts) (hn : ts.length < maxLen) (hm : a.eval m = .map (some b)) (t : Int) (hx : a.eval x = .int .u64 t) (hv : a.eval v = .bool true) (hi : WdR t)
    (hK : ∀ w', FndU w' b (ts ++ [t]) → w.grownBy w' (some b) → wpList Tryz.prog ops Q rest (a.put o.dst undef) w') : wpList Tryz.prog ops Q (o :: rest) a w := by
  obtain ⟨D, h1, h2⟩ := h
  refine wpList_mapUpdate_own w hg m x v _ hop _ _ lawU Tryz.underlying142 _ b _ D hm h1 hn _ _ (.int .u64 t) hx hv (key_u t hi) _ [] (plainElem_bool Tryz.underlying4 true) ?_
  intro w' h3 h4
  exact hK w' ⟨_, by simpa using h3, h2.put t hi⟩ h4
end Go.Proofs.YtbpmanbpmlkmnaaGreatDoor

namespace Go.Proofs.YtbpmanbpmlkmnaaGreatDoor
open Go.RowKit
set_option linter.unusedVariables false

set_option maxHeartbeats 400000 in
theorem isSpi_any (p : Int) (n : Nat) (w : World) (b : Bool) (hb : b = true ↔ (p = 1 ∧ (n = 0 ∨ n = 8)) ∨ (p ≠ 1 ∧ n = 4)) :
    Calls Tryz.prog 113 #[.int .i64 p, .int .i64 n] w fun e w' => e = .returned (.bool b) ∧ w = w' := by
  by_cases h1 : p = 1
  · subst h1
    by_cases h0 : n = 0
    · subst h0
      obtain rfl : b = true := by simpa using hb
      clear hb
      go_enter Tryz.func113, Tryz.ntmps113
      go_wp2
      go_ret
      exact ⟨rfl, rfl⟩
    · have hb' : b = ((n : Int) == 8) := by
        rw [Bool.eq_iff_iff, hb]
        simp [h0]
        omega
      have h0' : ((n : Int) == 0) = false := by simpa using h0
      clear hb
      go_enter Tryz.func113, Tryz.ntmps113
      go_wp2
      go_ret
      exact ⟨by rw [hb']; rfl, rfl⟩
  · have h1' : (p == 1) = false := by simpa using h1
    have hb' : b = ((n : Int) == 4) := by
      rw [Bool.eq_iff_iff, hb]
      simp [h1]
      omega
    clear hb
    go_enter Tryz.func113, Tryz.ntmps113
    go_wp2
    go_ret
    exact ⟨by rw [hb']; rfl, rfl⟩

set_option maxHeartbeats 400000 in
theorem inRange_no (t i k : Int) (w : World) (h : t < 1 ∨ 5 < t ∨ i < 0 ∨ 65535 < i ∨ k < 0 ∨ 65535 < k) :
    Calls Tryz.prog 114 #[.agg #[.int .i64 t, .int .i64 i, .int .i64 k]] w fun e w' => e = .returned (.bool false) ∧ Below w.heap.size w w' := by
  by_cases q1 : t < 1
  · have r1 : ¬ 1 ≤ t := by omega
    clear h
    go_enter Tryz.func114, Tryz.ntmps114
    go_wp2
    go_ret
    exact ⟨rfl, (Below.refl _ w).alloc (Nat.le_refl _) _⟩
  have r1 : 1 ≤ t := by omega
  by_cases q2 : 5 < t
  · have r2 : ¬ t ≤ 5 := by omega
    clear h
    go_enter Tryz.func114, Tryz.ntmps114
    go_wp2
    go_ret
    exact ⟨rfl, (Below.refl _ w).alloc (Nat.le_refl _) _⟩
  have r2 : t ≤ 5 := by omega
  by_cases q3 : i < 0
  · have r3 : ¬ 0 ≤ i := by omega
    clear h
    go_enter Tryz.func114, Tryz.ntmps114
    go_wp2
    go_ret
    exact ⟨rfl, (Below.refl _ w).alloc (Nat.le_refl _) _⟩
  have r3 : 0 ≤ i := by omega
  by_cases q4 : 65535 < i
  · have r4 : ¬ i ≤ 65535 := by omega
    clear h
    go_enter Tryz.func114, Tryz.ntmps114
    go_wp2
    go_ret
    exact ⟨rfl, (Below.refl _ w).alloc (Nat.le_refl _) _⟩
  have r4 : i ≤ 65535 := by omega
  by_cases q5 : k < 0
  · have r5 : ¬ 0 ≤ k := by omega
    clear h
    go_enter Tryz.func114, Tryz.ntmps114
    go_wp2
    go_ret
    exact ⟨rfl, (Below.refl _ w).alloc (Nat.le_refl _) _⟩
  have r5 : 0 ≤ k := by omega
  have r6 : ¬ k ≤ 65535 := by omega
  clear h
  go_enter Tryz.func114, Tryz.ntmps114
  go_wp2
  go_ret
  exact ⟨by simp <;> omega, (Below.refl _ w).alloc (Nat.le_refl _) _⟩
set_option maxHeartbeats 400000 in
theorem inRange_yes (t i k : Int) (w : World) (h : ¬ (t < 1 ∨ 5 < t ∨ i < 0 ∨ 65535 < i ∨ k < 0 ∨ 65535 < k)) :
    Calls Tryz.prog 114 #[.agg #[.int .i64 t, .int .i64 i, .int .i64 k]] w fun e w' => e = .returned (.bool true) ∧ Below w.heap.size w w' := by
  have r1 : 1 ≤ t := by omega
  have r2 : t ≤ 5 := by omega
  have r3 : 0 ≤ i := by omega
  have r4 : i ≤ 65535 := by omega
  have r5 : 0 ≤ k := by omega
  have r6 : k ≤ 65535 := by omega
  clear h
  go_enter Tryz.func114, Tryz.ntmps114
  go_wp2
  go_ret
  exact ⟨by simp <;> omega, (Below.refl _ w).alloc (Nat.le_refl _) _⟩

set_option maxHeartbeats 800000 in
theorem index_any (p : Option Addr) (n c : Nat) (l : List Tr) (w : World) (h : RdG KTr DTr w p n c l) (t i k : Int) :
    Calls Tryz.prog 126 #[.slice p n c, .agg #[.int .i64 t, .int .i64 i, .int .i64 k]] w fun e w' => ∃ r : Int, e = .returned (.int .i64 r) ∧ (0 ≤ r ↔ (⟨t, i, k⟩ : Tr) ∈ l) ∧ Below w.heap.size w w' := by
  have hn := h.le
  have HT := hidden h
  have HTL := hidden h.len
  clear h
  go_enter Tryz.func126, Tryz.ntmps126
  go_wp2_with fail
  go_loopw [8] (fun m wq => ∃ q : Nat, q ≤ n ∧ m = .int .i64 q ∧ (∀ r, r < q → l[r]? ≠ some ⟨t, i, k⟩) ∧ wq.cell? ⟨w.heap.size, 0, none⟩ = some (.int .i64 t) ∧ wq.cell? ⟨w.heap.size, 1, none⟩ = some (.int .i64 i) ∧ wq.cell? ⟨w.heap.size, 2, none⟩ = some (.int .i64 k) ∧ Below w.heap.size w wq) (fun m _ => n - (intOf m).toNat)
  case atStart => exact ⟨0, by omega, rfl, by omega, by go_simp, by go_simp, by go_simp, (Below.refl _ w).alloc (Nat.le_refl _) _⟩
  case round =>
    obtain ⟨q, hq, rfl, hno, y0, y1, y2, hbq⟩ := hrel
    have HNO := hidden hno
    have HBQ := hidden hbq
    have HY0 := hidden y0
    have HY1 := hidden y1
    have HY2 := hidden y2
    clear hno hbq
    by_cases hqj : ¬ q < n
    · obtain rfl : q = n := by omega
      have hnot : (⟨t, i, k⟩ : Tr) ∉ l := by
        intro hm
        obtain ⟨r, hr, he⟩ := List.mem_iff_getElem.1 hm
        exact HNO.out r (by have := HTL.out; omega) (by rw [List.getElem?_eq_getElem hr, he])
      have HN := hidden hnot
      clear hnot y0 y1 y2
      go_wp2
      go_ret
      exact ⟨-1, rfl, ⟨fun h => by omega, fun h => absurd h HN.out⟩, HBQ.out⟩
    replace hqj : q < n := by omega
    have hqj' : (q : Int) < n := by omega
    obtain ⟨g, rfl, hc, hint⟩ := (HT.out.below HBQ.out).cell q (by rw [HTL.out]; omega)
    obtain ⟨z, hz⟩ : ∃ z, l[q]'(by rw [HTL.out]; omega) = z := ⟨_, rfl⟩
    rw [hz] at hc
    have HZ := hidden hz
    obtain ⟨zt, zi, zk⟩ := z
    have z0 := hc 0 _ rfl
    have z1 := hc 1 _ rfl
    have z2 := hc 2 _ rfl
    simp only [KTr, Nat.add_zero] at z0 z1 z2
    clear hc hint hz
    have hqe := fun w => eql_tr w t i k zt zi zk
    by_cases heq : t = zt ∧ i = zi ∧ k = zk
    · obtain ⟨rfl, rfl, rfl⟩ := heq
      have hin : (⟨t, i, k⟩ : Tr) ∈ l := List.mem_iff_getElem.2 ⟨q, by have := HTL.out; omega, HZ.out⟩
      have HIN := hidden hin
      have hqb : (t == t && i == i && k == k) = true := by simp
      simp only [hqb] at hqe
      clear hin hqb
      go_wp2_with fail
      go_region
      go_wp2
      go_ret
      exact ⟨q, rfl, ⟨fun _ => HIN.out, fun _ => by omega⟩, HBQ.out.trans (drew_below ⟨1, rfl⟩)⟩
    · have hqb : (t == zt && i == zi && k == zk) = false := by
        rw [Bool.eq_false_iff]
        intro hh
        simp at hh
        exact heq ⟨hh.1.1, hh.1.2, hh.2⟩
      simp only [hqb] at hqe
      clear hqb
      go_wp2_with fail
      go_region
      go_wp2
      go_roundw
      case rel =>
        refine ⟨q + 1, by omega, by go_num, fun r hr => ?_, HY0.out, HY1.out, HY2.out, HBQ.out.trans (drew_below ⟨1, rfl⟩)⟩
        rcases Nat.lt_succ_iff_lt_or_eq.1 hr with hrq | hrq
        · exact HNO.out r hrq
        · subst hrq
          rw [List.getElem?_eq_getElem (by have := HTL.out; omega), HZ.out]
          intro hh
          simp at hh
          exact heq ⟨hh.1.symm, hh.2.1.symm, hh.2.2.symm⟩
      case measure => simp [intOf]; omega

set_option maxHeartbeats 400000 in
theorem contains_any (p : Option Addr) (n c : Nat) (l : List Tr) (w : World) (h : RdG KTr DTr w p n c l) (t i k : Int) (b : Bool) (hb : b = true ↔ (⟨t, i, k⟩ : Tr) ∈ l) :
    Calls Tryz.prog 115 #[.slice p n c, .agg #[.int .i64 t, .int .i64 i, .int .i64 k]] w fun e w' => e = .returned (.bool b) ∧ Below w.heap.size w w' := by
  have HT := hidden h
  have HB := hidden hb
  clear h hb
  go_enter Tryz.func115, Tryz.ntmps115
  go_wp2_with (go_at_call 126; (with_reducible refine (index_any p n c l _ (HT.out.below ((Below.refl _ w).alloc (Nat.le_refl _) _)) t i k).mono ?_); rintro e w1 ⟨r, rfl, hr, hbel⟩)
  go_ret
  refine ⟨?_, ((Below.refl _ w).alloc (Nat.le_refl _) _).trans (hbel.mono (by simp))⟩
  have e : decide ((⟨t, i, k⟩ : Tr) ∈ l) = b := by
    rw [Bool.eq_iff_iff, HB.out]
    simp
  rw [← e]
  rfl
end Go.Proofs.YtbpmanbpmlkmnaaGreatDoor

namespace Go.Proofs.YtbpmanbpmlkmnaaGreatDoor
open Go.RowKit
set_option linter.unusedVariables false

/-- A transform in a block of the call's own. -/
structure TrIn (w : World) (g : Nat) (t i k : Int) : Prop where
  c0 : w.cell? ⟨g, 0, none⟩ = some (.int .i64 t)
  c1 : w.cell? ⟨g, 1, none⟩ = some (.int .i64 i)
  c2 : w.cell? ⟨g, 2, none⟩ = some (.int .i64 k)
  fr : ∀ j, w.frozen? ⟨g, j, none⟩ = false
section
variable {w w' : World} {g : Nat} {t i k : Int}
theorem TrIn.lt (h : TrIn w g t i k) : g < w.heap.size := World.block_lt_of_cell? w _ h.c0
theorem TrIn.grown {row : Option Nat} (h : TrIn w g t i k) (hg : w.grownBy w' row) (hne : some g ≠ row) : TrIn w' g t i k :=
  ⟨hg.cell h.c0 hne, hg.cell h.c1 hne, hg.cell h.c2 hne, fun j => (World.frozen?_of_block (a := ⟨g, j, none⟩) (hg.block g h.lt hne)).trans (h.fr j)⟩
theorem TrIn.below (h : TrIn w g t i k) (hb : Below w.heap.size w w') : TrIn w' g t i k := h.grown (row := none) (grown_of_below hb none) (by simp)
theorem TrIn.set0 (h : TrIn w g t i k) (v : Int) : TrIn (w.setCell ⟨g, 0, none⟩ (.int .i64 v)) g v i k := by
  obtain ⟨c0, c1, c2, fr⟩ := h
  exact ⟨by go_simp, by go_simp, by go_simp, fun j => by rw [World.frozen?_setCell]; exact fr j⟩
theorem TrIn.set1 (h : TrIn w g t i k) (v : Int) : TrIn (w.setCell ⟨g, 1, none⟩ (.int .i64 v)) g t v k := by
  obtain ⟨c0, c1, c2, fr⟩ := h
  exact ⟨by go_simp, by go_simp, by go_simp, fun j => by rw [World.frozen?_setCell]; exact fr j⟩
theorem TrIn.set2 (h : TrIn w g t i k) (v : Int) : TrIn (w.setCell ⟨g, 2, none⟩ (.int .i64 v)) g t i v := by
  obtain ⟨c0, c1, c2, fr⟩ := h
  exact ⟨by go_simp, by go_simp, by go_simp, fun j => by rw [World.frozen?_setCell]; exact fr j⟩
theorem TrIn.new (w : World) (t i k : Int) (T : TypeId) : TrIn (w.alloc (.cells #[.int .i64 t, .int .i64 i, .int .i64 k] T)) w.heap.size t i k :=
  ⟨by go_simp, by go_simp, by go_simp, fun j => by go_simp⟩
end
theorem load_tr {w : World} {g : Nat} {t i k : Int} (h : TrIn w g t i k) : (loadVar 107 ⟨g, 0, none⟩).run Tryz.prog w = .ok (.agg #[.int .i64 t, .int .i64 i, .int .i64 k]) w := by
  obtain ⟨c0, c1, c2, fr⟩ := h
  simp [loadVar, go_sem, c0, c1, c2, Result.andThen]
theorem ret_tr {fn : Func} {R : Ending → World → Prop} {a : Act} {w : World} {p : Nat} {g : Nat} {t i k : Int} (h : fn.results = #[.cell p 107]) (hp : a.tmps.getD p undef = .pointer (some ⟨g, 0, none⟩)) (hd : a.defers = [])
    (hh : TrIn w g t i k) (hR : R (.returned (.agg #[.int .i64 t, .int .i64 i, .int .i64 k])) w) : bodyPost Tryz.prog fn R .ret a w := by
  refine bodyPost_ret (v := .agg #[.int .i64 t, .int .i64 i, .int .i64 k]) ?_ hd hR
  rw [Array.getD_eq_getD_getElem?] at hp
  simp [results, h, hp, asAddr, load_tr hh]

/-- The inside of a transform. -/
def trV (zs : List Int) : Option Tr :=
  if zs.length < 4 then none else if zs.length = 4 then some ⟨zs.getD 0 0, w2 zs 2, 0⟩
  else if zs.length ≠ 8 ∨ w2 zs 4 ≠ 32782 ∨ w2 zs 6 = 0 then none else some ⟨zs.getD 0 0, w2 zs 2, w2 zs 6⟩
/-- What transform returns. -/
def GotTr (w : World) (k : Nat) (r : Option Tr) (e : Ending) (w' : World) : Prop :=
  w.grownBy w' (some k) ∧ match r with
  | none => Thrown e
  | some x => e = .returned (.agg #[.int .i64 x.t, .int .i64 x.i, .int .i64 x.k]) ∧ IntT x
theorem gottr_none {w : World} {k : Nat} {r : Option Tr} {e : Ending} {w' : World} (hg : w.grownBy w' (some k)) (hr : r = none) (ht : Thrown e) : GotTr w k r e w' := by
  subst hr
  exact ⟨hg, ht⟩
theorem intT_of {a b c : Int} (h1 : 0 ≤ a ∧ a ≤ 65535) (h2 : 0 ≤ b ∧ b ≤ 65535) (h3 : 0 ≤ c ∧ c ≤ 65535) : IntT ⟨a, b, c⟩ := by
  refine ⟨⟨?_, ?_⟩, ⟨?_, ?_⟩, ?_, ?_⟩ <;> simp only <;> omega
theorem gottr_some {w : World} {k : Nat} {r : Option Tr} {t i kk : Int} {w' : World} (hg : w.grownBy w' (some k)) (hr : r = some ⟨t, i, kk⟩) (h : IntT ⟨t, i, kk⟩) : GotTr w k r (.returned (.agg #[.int .i64 t, .int .i64 i, .int .i64 kk])) w' := by
  subst hr
  exact ⟨hg, rfl, h⟩

/-- In the midst of transform: what is read, and the two blocks of the result. -/
structure TS (w w1 : World) (k : Nat) (p : Option Addr) (n c : Nat) (xs : List Int) (a : Nat) (t i kk : Int) : Prop where
  ps : PS w1 k p n c xs a
  gr : w.grownBy w1 (some k)
  lk : k < w.heap.size
  rt : TrIn w1 w.heap.size 0 0 0
  ru : TrIn w1 (w.heap.size + 1) t i kk
section
variable {w w1 w2 : World} {k : Nat} {p : Option Addr} {n c : Nat} {xs : List Int} {a b : Nat} {t i kk : Int}
theorem TS.step (h : TS w w1 k p n c xs a t i kk) (hg : w1.grownBy w2 (some k)) (hp : PS w2 k p n c xs b) : TS w w2 k p n c xs b t i kk :=
  ⟨hp, grown_trans h.gr hg, h.lk, h.rt.grown hg (by have := h.lk; simp; omega), h.ru.grown hg (by have := h.lk; simp; omega)⟩
theorem TS.below (h : TS w w1 k p n c xs a t i kk) (hb : Below w1.heap.size w1 w2) : TS w w2 k p n c xs a t i kk := h.step (grown_of_below hb _) (h.ps.below hb)
theorem TS.set (h : TS w w1 k p n c xs a t i kk) (j : Nat) (v : Int) {t' i' k' : Int} (hu : TrIn (w1.setCell ⟨w.heap.size + 1, j, none⟩ (.int .i64 v)) (w.heap.size + 1) t' i' k') : TS w (w1.setCell ⟨w.heap.size + 1, j, none⟩ (.int .i64 v)) k p n c xs a t' i' k' :=
  ⟨h.ps.off (grown_set _ _ _ _) (fun r hr => by cases hr; have := h.lk; omega), grown_set_new h.gr _ _ _ (by omega), h.lk, h.rt.grown (grown_set _ _ _ _) (by simp), hu⟩
end

set_option maxHeartbeats 1600000 in
set_option maxRecDepth 100000 in
theorem transform_any (p : Option Addr) (n c : Nat) (xs : List Int) (w : World) (k : Nat) (h : PS w k p n c xs 0) (r : Option Tr) (hr : trV xs = r) :
    Calls Tryz.prog 132 #[.pointer (some ⟨k, 0, none⟩)] w (GotTr w k r) := by
  have hlen := h.here.len
  have hrng := h.here.rng
  have hnle := h.here.le
  unfold trV at hr
  rw [hlen] at hr
  obtain ⟨x0, hx0⟩ : ∃ x0, xs.getD 0 0 = x0 := ⟨_, rfl⟩
  obtain ⟨x1, hx1⟩ : ∃ x0, xs.getD 1 0 = x0 := ⟨_, rfl⟩
  obtain ⟨y2, hy2⟩ : ∃ x0, w2 xs 2 = x0 := ⟨_, rfl⟩
  obtain ⟨y4, hy4⟩ : ∃ x0, w2 xs 4 = x0 := ⟨_, rfl⟩
  obtain ⟨y6, hy6⟩ : ∃ x0, w2 xs 6 = x0 := ⟨_, rfl⟩
  have b0 := rng_getD hrng 0
  have b2 := w2_bdP xs hrng 2
  have b6 := w2_bdP xs hrng 6
  rw [hx0] at b0
  rw [hy2] at b2
  rw [hy6] at b6
  rw [hx0, hy2, hy4, hy6] at hr
  have HR := hidden hr
  have HX0 := hidden hx0
  have HX1 := hidden hx1
  have HY2 := hidden hy2
  have HY4 := hidden hy4
  have HY6 := hidden hy6
  have h0 : Below w.heap.size w ((w.alloc (.cells #[.int .i64 0, .int .i64 0, .int .i64 0] 107)).alloc (.cells #[.int .i64 0, .int .i64 0, .int .i64 0] 107)) := ((Below.refl _ w).alloc (Nat.le_refl _) _).alloc (by simp) _
  have HS0 : Hid (TS w ((w.alloc (.cells #[.int .i64 0, .int .i64 0, .int .i64 0] 107)).alloc (.cells #[.int .i64 0, .int .i64 0, .int .i64 0] 107)) k p n c xs 0 0 0 0) := hidden ⟨h.below h0, grown_of_below h0 (some k), h.lt, (TrIn.new w 0 0 0 107).below ((Below.refl _ _).alloc (Nat.le_refl _) _), by
    have := TrIn.new (w.alloc (.cells #[.int .i64 0, .int .i64 0, .int .i64 0] 107)) 0 0 0 107
    simpa using this⟩
  clear hr h hx0 hx1 hy2 hy4 hy6 hrng hlen h0
  go_enter Tryz.func132, Tryz.ntmps132
  go_wp2_with fail
  go_at_call 128
  (with_reducible refine (pn1 p n c xs _ k 0 HS0.out.ps x0 HX0.out).mono ?_)
  rintro e w1 ⟨hg1, ⟨hi1, rfl, hps1⟩ | ⟨hi1, ht⟩⟩
  rotate_left
  · subst ht
    exact ⟨rfl, gottr_none (grown_trans HS0.out.gr hg1) (by rw [← HR.out, if_pos (by omega)]) rfl⟩
  have HS1 := hidden (HS0.out.step hg1 hps1)
  clear HS0 hg1 hps1
  have HS2 := hidden (HS1.out.set 0 x0 (HS1.out.ru.set0 x0))
  have u1 := HS1.out.ru.c0
  have fr1 := HS1.out.ru.fr
  go_wp2_with fail
  clear u1 fr1
  go_at_call 128
  (with_reducible refine (pn1 p n c xs _ k 1 HS2.out.ps x1 HX1.out).mono ?_)
  rintro e w2 ⟨hg1, ⟨hi2, rfl, hps1⟩ | ⟨hi2, ht⟩⟩
  rotate_left
  · subst ht
    exact ⟨rfl, gottr_none (grown_trans HS2.out.gr hg1) (by rw [← HR.out, if_pos (by omega)]) rfl⟩
  have HS3 := hidden (HS2.out.step hg1 hps1)
  clear HS1 HS2 hg1 hps1
  go_wp2_with fail
  go_at_call 128
  (with_reducible refine (pn2 p n c xs _ k 2 HS3.out.ps y2 HY2.out).mono ?_)
  rintro e w3 ⟨hg1, ⟨hi3, rfl, hps1⟩ | ⟨hi3, ht⟩⟩
  rotate_left
  · subst ht
    exact ⟨rfl, gottr_none (grown_trans HS3.out.gr hg1) (by rw [← HR.out, if_pos (by omega)]) rfl⟩
  have HS4 := hidden (HS3.out.step hg1 hps1)
  clear HS3 hg1 hps1
  have HS5 := hidden (HS4.out.set 1 y2 (HS4.out.ru.set1 y2))
  have u1 := HS4.out.ru.c1
  have fr1 := HS4.out.ru.fr
  go_wp2_with fail
  clear u1 fr1
  have hr := HR.out
  rw [if_neg (by omega)] at hr
  have HR2 := hidden hr
  clear hr HR HS4
  obtain ⟨b, hb⟩ : ∃ b, b = decide (4 < n) := ⟨_, rfl⟩
  go_at_call 120
  (with_reducible refine (pl p n c xs _ k 4 HS5.out.ps b hb).mono ?_)
  rintro e w6 ⟨rfl, hb6, -⟩
  have HS6 := hidden (HS5.out.below hb6)
  clear hb6 HS5
  have HB := hidden hb
  clear hb
  by_cases h4 : n = 4
  · obtain rfl : b = false := by rw [HB.out]; simp; omega
    have hr := HR2.out
    rw [if_pos h4] at hr
    have HR3 := hidden hr
    clear hr HR2
    go_wp2_with fail
    go_at_call 120
    (with_reducible refine (pl p n c xs _ k 4 HS6.out.ps false HB.out).mono ?_)
    rintro e w7 ⟨rfl, hb7, -⟩
    have HS7 := hidden (HS6.out.below hb7)
    clear HS6 hb7
    have c0 := HS7.out.ru.c0
    have c1 := HS7.out.ru.c1
    have c2 := HS7.out.ru.c2
    have d0 := HS7.out.rt.c0
    have d1 := HS7.out.rt.c1
    have d2 := HS7.out.rt.c2
    have fr := HS7.out.rt.fr
    go_wp2_with (go_at_call 130; (with_reducible refine (need_yes _).mono ?_); rintro e w8 ⟨rfl, rfl⟩)
    refine ret_tr rfl rfl rfl (((HS7.out.rt.set0 x0).set1 y2).set2 0) (gottr_some ?_ HR3.out.symm (intT_of (by omega) b2 (by omega)))
    exact grown_set_new (grown_set_new (grown_set_new HS7.out.gr _ _ _ (Nat.le_refl _)) _ _ _ (Nat.le_refl _)) _ _ _ (Nat.le_refl _)
  · obtain rfl : b = true := by rw [HB.out]; simp; omega
    have hr := HR2.out
    rw [if_neg h4] at hr
    have HR3 := hidden hr
    clear hr HR2
    go_wp2_with fail
    go_at_call 128
    (with_reducible refine (pn2 p n c xs _ k 4 HS6.out.ps y4 HY4.out).mono ?_)
    rintro e w7 ⟨hg1, ⟨hi4, rfl, hps1⟩ | ⟨hi4, ht⟩⟩
    rotate_left
    · subst ht
      exact ⟨rfl, gottr_none (grown_trans HS6.out.gr hg1) (by rw [← HR3.out, if_pos (by omega)]) rfl⟩
    have HS7 := hidden (HS6.out.step hg1 hps1)
    clear HS6 hg1 hps1
    go_wp2_with fail
    go_at_call 130
    (refine (need_any _ _).mono ?_)
    rintro e w8 ⟨rfl, ⟨ht, rfl⟩ | ⟨ht, hth⟩⟩
    rotate_left
    · subst hth
      exact ⟨rfl, gottr_none HS7.out.gr (by rw [← HR3.out, if_pos (by simp at ht; omega)]) rfl⟩
    replace ht : y4 = 32782 := by simpa using ht
    have HE4 := hidden ht
    clear ht
    go_wp2_with fail
    go_at_call 128
    (with_reducible refine (pn2 p n c xs _ k 6 HS7.out.ps y6 HY6.out).mono ?_)
    rintro e w8 ⟨hg1, ⟨hi5, rfl, hps1⟩ | ⟨hi5, ht⟩⟩
    rotate_left
    · subst ht
      exact ⟨rfl, gottr_none (grown_trans HS7.out.gr hg1) (by rw [← HR3.out, if_pos (by omega)]) rfl⟩
    have HS8 := hidden (HS7.out.step hg1 hps1)
    clear HS7 hg1 hps1
    have HS9 := hidden (HS8.out.set 2 y6 (HS8.out.ru.set2 y6))
    have u1 := HS8.out.ru.c2
    have fr1 := HS8.out.ru.fr
    go_wp2_with fail
    clear u1 fr1
    go_at_call 130
    (refine (need_any _ _).mono ?_)
    rintro e w9 ⟨rfl, ⟨ht, rfl⟩ | ⟨ht, hth⟩⟩
    rotate_left
    · subst hth
      exact ⟨rfl, gottr_none HS9.out.gr (by rw [← HR3.out, if_pos (by simp at ht; omega)]) rfl⟩
    replace ht : y6 ≠ 0 := by simpa using ht
    have HE6 := hidden ht
    clear ht
    obtain ⟨b, hb⟩ : ∃ b, b = decide (8 < n) := ⟨_, rfl⟩
    have HB2 := hidden hb
    clear hb HS8
    go_wp2_with fail
    go_at_call 120
    (with_reducible refine (pl p n c xs _ k 8 HS9.out.ps b HB2.out).mono ?_)
    rintro e wA ⟨rfl, hb7, -⟩
    have HSA := hidden (HS9.out.below hb7)
    clear HS9 hb7
    go_wp2_with fail
    go_at_call 130
    (refine (need_any _ _).mono ?_)
    rintro e wB ⟨rfl, ⟨ht, rfl⟩ | ⟨ht, hth⟩⟩
    rotate_left
    · subst hth
      exact ⟨rfl, gottr_none HSA.out.gr (by rw [← HR3.out, if_pos (by have := HB2.out; simp at ht this; rw [ht] at this; simp at this; omega)]) rfl⟩
    have h8 : n = 8 := by have := HB2.out; simp at ht this; rw [ht] at this; simp at this; omega
    have H8 := hidden h8
    clear ht h8
    have c0 := HSA.out.ru.c0
    have c1 := HSA.out.ru.c1
    have c2 := HSA.out.ru.c2
    have d0 := HSA.out.rt.c0
    have d1 := HSA.out.rt.c1
    have d2 := HSA.out.rt.c2
    have fr := HSA.out.rt.fr
    have hr := HR3.out
    rw [if_neg (by have := H8.out; have := HE4.out; have := HE6.out; omega)] at hr
    have HR4 := hidden hr
    clear hr HR3
    go_wp2
    refine ret_tr rfl rfl rfl (((HSA.out.rt.set0 x0).set1 y2).set2 y6) (gottr_some ?_ HR4.out.symm (intT_of (by omega) b2 b6))
    exact grown_set_new (grown_set_new (grown_set_new HSA.out.gr _ _ _ (Nat.le_refl _)) _ _ _ (Nat.le_refl _)) _ _ _ (Nat.le_refl _)
end Go.Proofs.YtbpmanbpmlkmnaaGreatDoor

namespace Go.Proofs.YtbpmanbpmlkmnaaGreatDoor
open Go.RowKit
set_option linter.unusedVariables false

theorem secV_cases (more : Int) (ys : List Int) :
    (ys.length < 4 ∧ secV more ys = none) ∨ (4 ≤ ys.length ∧ (w2 ys 2 < 4 ∨ (ys.length : Int) < w2 ys 2) ∧ secV more ys = none)
    ∨ (4 ≤ ys.length ∧ ¬ (w2 ys 2 < 4 ∨ (ys.length : Int) < w2 ys 2) ∧ ys.getD 0 0 ≠ (if (ys.length : Int) = w2 ys 2 then 0 else more) ∧ secV more ys = none)
    ∨ (4 ≤ ys.length ∧ ¬ (w2 ys 2 < 4 ∨ (ys.length : Int) < w2 ys 2) ∧ ys.getD 0 0 = (if (ys.length : Int) = w2 ys 2 then 0 else more) ∧ secV more ys = some ((ys.take (w2 ys 2).toNat).drop 4, (w2 ys 2).toNat)) := by
  unfold secV
  by_cases h1 : ys.length < 4
  · exact Or.inl ⟨h1, if_pos h1⟩
  by_cases h2 : w2 ys 2 < 4 ∨ (ys.length : Int) < w2 ys 2
  · exact Or.inr (Or.inl ⟨by omega, h2, by rw [if_neg h1, if_pos h2]⟩)
  by_cases h3 : ys.getD 0 0 ≠ (if (ys.length : Int) = w2 ys 2 then 0 else more)
  · exact Or.inr (Or.inr (Or.inl ⟨by omega, h2, h3, by rw [if_neg h1, if_neg h2, if_pos h3]⟩))
  · exact Or.inr (Or.inr (Or.inr ⟨by omega, h2, Decidable.not_not.1 h3, by rw [if_neg h1, if_neg h2, if_neg h3]⟩))
/-- What a section's inside is. -/
structure InS (more : Int) (ys zs : List Int) (L : Nat) : Prop where
  l : w2 ys 2 = L
  len : zs.length + 4 = L
  le : L ≤ ys.length
  x0 : ys.getD 0 0 = (if (ys.length : Int) = L then 0 else more)
  zs : zs = (ys.take L).drop 4
theorem secV_in {more : Int} {ys zs : List Int} {L : Nat} (h : secV more ys = some (zs, L)) : InS more ys zs L := by
  rcases secV_cases more ys with ⟨_, h1⟩ | ⟨_, _, h1⟩ | ⟨_, _, _, h1⟩ | ⟨h2, h3, h4, h1⟩
  · rw [h1] at h; cases h
  · rw [h1] at h; cases h
  · rw [h1] at h; cases h
  rw [h1] at h
  simp only [Option.some.injEq, Prod.mk.injEq] at h
  obtain ⟨h5, h6⟩ := h
  have h7 : w2 ys 2 = L := by omega
  have h8 : zs.length + 4 = L := by rw [← h5, List.length_drop, List.length_take]; omega
  rw [h7] at h4
  exact ⟨h7, h8, by omega, h4, by rw [← h5, h6]⟩
theorem secV_len {more : Int} {ys zs : List Int} {L : Nat} (h : secV more ys = some (zs, L)) : zs.length + 4 = L ∧ L ≤ ys.length := ⟨(secV_in h).len, (secV_in h).le⟩
theorem getD_inside (ys : List Int) (L a : Nat) (h : 4 + a < L) : ((ys.take L).drop 4).getD a 0 = ys.getD (4 + a) 0 := by
  rw [getD_dropP, List.getD_eq_getElem?_getD, List.getD_eq_getElem?_getD, List.getElem?_take_of_lt h]
theorem w2_inside (ys : List Int) (L a : Nat) (h : 4 + a + 1 < L) : w2 ((ys.take L).drop 4) a = w2 ys (4 + a) := by
  rw [w2, getD_inside _ _ _ (by omega), getD_inside _ _ _ (by omega), w2, Nat.add_assoc]
theorem trV_attr (zs : List Int) (h : 4 ≤ zs.length) : trV zs = if (attrV (zs.drop 4)).2 = false then none else some ⟨zs.getD 0 0, w2 zs 2, (attrV (zs.drop 4)).1⟩ := by
  have h3 : ¬ zs.length < 4 := by omega
  have hl : (zs.drop 4).length = zs.length - 4 := by simp
  by_cases h4 : zs.length = 4
  · have ha : attrV (zs.drop 4) = (0, true) := by rw [attrV, if_pos (by omega)]
    rw [ha, trV, if_neg h3, if_pos h4]
    rfl
  have h5 : ¬ (zs.drop 4).length = 0 := by omega
  by_cases h8 : zs.length ≠ 8 ∨ w2 zs 4 ≠ 32782 ∨ w2 zs 6 = 0
  · have ha : attrV (zs.drop 4) = (0, false) := by rw [attrV, if_neg h5, if_pos]; rw [w2_dropP, w2_dropP, hl]; simp only [Nat.add_zero, Nat.reduceAdd]; omega
    rw [ha, trV, if_neg h3, if_neg h4, if_pos h8]
    rfl
  · have ha : attrV (zs.drop 4) = (w2 zs 6, true) := by rw [attrV, if_neg h5, if_neg, w2_dropP]; rw [w2_dropP, w2_dropP, hl]; simp only [Nat.add_zero, Nat.reduceAdd]; omega
    rw [ha, trV, if_neg h3, if_neg h4, if_neg h8]
    rfl
/-- One step of the reader of transforms, by sections. -/
theorem trs_sec (ys : List Int) (h : ys.length ≠ 0) : trsV ys = match secV 3 ys with
  | none => none
  | some x => match trV x.1 with
    | none => none
    | some t => (trsV (ys.drop x.2)).map (t :: ·) := by
  rw [trsV_step ys h]
  rcases hs : secV 3 ys with _ | ⟨zs, L⟩
  · simp only
    by_cases h8 : ys.length < 8
    · rw [if_pos h8]
    rw [if_neg h8]
    by_cases h9 : w2 ys 2 < 8 ∨ (ys.length : Int) < w2 ys 2
    · rw [if_pos h9]
    rw [if_neg h9]
    rcases secV_cases 3 ys with ⟨h2, h1⟩ | ⟨_, h2, h1⟩ | ⟨_, _, h2, h1⟩ | ⟨h2, h3, h4, h1⟩
    · omega
    · omega
    · rw [if_pos (Or.inl h2)]
    · rw [h1] at hs; cases hs
  · have hi := secV_in hs
    have h1 := hi.len
    have h2 := hi.le
    simp only
    by_cases hz : zs.length < 4
    · have ht : trV zs = none := by unfold trV; rw [if_pos hz]
      rw [ht]
      simp only
      by_cases h8 : ys.length < 8
      · rw [if_pos h8]
      · rw [if_neg h8, hi.l, if_pos (by omega)]
    · have e0 : ¬ (ys.getD 0 0 ≠ if (ys.length : Int) = L then 0 else 3) := Decidable.not_not.2 hi.x0
      have e1 : (ys.drop 8).take (L - 8) = zs.drop 4 := by
        rw [hi.zs, List.drop_drop, List.drop_take]
      have e2 : zs.getD 0 0 = ys.getD 4 0 := by rw [hi.zs, getD_inside _ _ _ (by omega)]
      have e3 : w2 zs 2 = w2 ys 6 := by rw [hi.zs, w2_inside _ _ _ (by omega)]
      rw [if_neg (by omega), hi.l, if_neg (by omega), Int.toNat_natCast, trV_attr zs (by omega), e1, e2, e3]
      by_cases ha : (attrV (zs.drop 4)).2 = false
      · rw [if_pos (Or.inr ha), if_pos ha]
      · rw [if_neg (fun h => h.elim e0 ha), if_neg ha]

/-- What transforms returns. -/
def GotTs (w : World) (k : Nat) (r : Option (List Tr)) (e : Ending) (w' : World) : Prop :=
  w.grownBy w' (some k) ∧ match r with
  | none => Thrown e
  | some l => ∃ v, e = .returned v ∧ RowG KTr NTr w' w.heap.size v l
theorem gotts_none {w : World} {k : Nat} {r : Option (List Tr)} {e : Ending} {w' : World} (hg : w.grownBy w' (some k)) (hr : r = none) (ht : Thrown e) : GotTs w k r e w' := by
  subst hr
  exact ⟨hg, ht⟩
theorem grown_own4 {a b c : World} {row row' : Option Nat} (h : a.grownBy b row) (k : b.grownBy c row') (hR : ∀ r, row' = some r → a.heap.size ≤ r) : a.grownBy c row :=
  ⟨k.os.trans h.os, k.tape.trans h.tape, k.output.trans h.output, Nat.le_trans h.size k.size, fun i hi hne => (k.block i (Nat.lt_of_lt_of_le hi h.size) (fun e => by have := hR i e.symm; omega)).trans (h.block i hi hne)⟩
theorem map_none_app {α : Type} (l : List α) (o : Option (List α)) (r : Option (List α)) (h : o.map (l ++ ·) = r) (ho : o = none) : r = none := by
  subst ho
  exact h.symm

set_option maxHeartbeats 1600000 in
set_option maxRecDepth 100000 in
theorem ptransforms_any (p : Option Addr) (n c : Nat) (xs : List Int) (w : World) (k a : Nat) (h : PS w k p n c xs a) (hn : n ≤ 1048576) (r : Option (List Tr)) (hr : trsV (xs.drop a) = r) :
    Calls Tryz.prog 131 #[.pointer (some ⟨k, 0, none⟩)] w (GotTs w k r) := by
  have HR := hidden hr
  have HL := hidden h.here.len
  have HRG := hidden h.here.rng
  have HP := hidden h
  have HK := hidden h.lt
  clear hr h
  go_enter Tryz.func131, Tryz.ntmps131
  go_wp2_with fail
  go_loopw [3] (fun o wr => ∃ (at_ : Nat) (l : List Tr), at_ ≤ n ∧ l.length ≤ at_ ∧ (trsV (xs.drop at_)).map (l ++ ·) = r ∧ RowG KTr NTr wr w.heap.size o l ∧ PS wr k p n c xs at_ ∧ w.grownBy wr (some k)) (fun _ wr => n - (intOf ((wr.cell? ⟨k, 1, none⟩).getD (.int .i64 0))).toNat)
  case atStart => exact ⟨a, [], HP.out.le, by simp, by rw [HR.out]; simp, RowG.nil _ _ _ _, HP.out, grown_refl _ _⟩
  case round =>
    obtain ⟨at_, l, hat, hl8, hres, hrow, hps, hgr⟩ := hrel
    obtain ⟨po, co, rfl⟩ := hrow.form rfl
    have HRW := hidden hrow
    have HPS := hidden hps
    have HGR := hidden hgr
    have hmeas : (intOf ((wr.cell? ⟨k, 1, none⟩).getD (.int .i64 0))).toNat = at_ := by rw [hps.cu.c1]; simp [intOf]
    have HMS := hidden hmeas
    clear hrow hps hgr hmeas
    obtain ⟨b, hb⟩ : ∃ b, b = decide (at_ < n) := ⟨_, rfl⟩
    have HB := hidden hb
    clear hb
    go_wp2_with fail
    go_at_call 120
    (with_reducible refine (pl p n c xs _ k at_ HPS.out b HB.out).mono ?_)
    rintro e w1 ⟨rfl, hb1, hps1⟩
    by_cases hlt : ¬ at_ < n
    · obtain rfl : b = false := by rw [HB.out]; simpa using hlt
      have hz : (xs.drop at_).length = 0 := by simp [HL.out]; omega
      rw [trsV_nil _ hz] at hres
      simp at hres
      subst hres
      have HB1 := hidden hb1
      clear HR hb1
      go_wp2_with fail
      go_ret
      exact ⟨grown_trans HGR.out (grown_of_below HB1.out _), _, rfl, HRW.out.below HB1.out⟩
    · obtain rfl : b = true := by rw [HB.out]; simpa using hlt
      have hnz : (xs.drop at_).length ≠ 0 := by simp [HL.out]; omega
      have hst := trs_sec (xs.drop at_) hnz
      have HST := hidden hst
      have HRES := hidden hres
      have HP1 := hidden hps1
      have HB1 := hidden hb1
      clear hst hres hps1 hb1 hnz
      obtain ⟨sv, hsv⟩ : ∃ sv, secV 3 (xs.drop at_) = sv := ⟨_, rfl⟩
      have HSV := hidden hsv
      clear hsv
      go_wp2_with fail
      go_at_call 121
      (with_reducible refine (section_any 3 p n c xs _ k at_ HP1.out hn sv HSV.out).mono ?_)
      rintro e w2 ⟨hg2, hh⟩
      cases sv with
      | none =>
        subst hh
        refine ⟨rfl, gotts_none (grown_trans (grown_trans HGR.out (grown_of_below HB1.out _)) hg2) (map_none_app _ _ _ HRES.out ?_) rfl⟩
        rw [HST.out, HSV.out]
      | some x =>
        obtain ⟨zs, L⟩ := x
        obtain ⟨R, q, m, d, rfl, hR, hpi, hpo⟩ := hh
        simp only at hpi hpo
        have HG2 := hidden (grown_trans (grown_of_below HB1.out (some k)) hg2)
        have HPO := hidden hpo
        have HPI := hidden hpi
        have hR' : wr.heap.size ≤ R := Nat.le_trans HB1.out.size hR
        clear hg2 hpo hpi hR
        obtain ⟨tv, htv⟩ : ∃ tv, trV zs = tv := ⟨_, rfl⟩
        have HTV := hidden htv
        clear htv
        go_wp2_with fail
        go_at_call 132
        (with_reducible refine (transform_any q m d zs _ R HPI.out tv HTV.out).mono ?_)
        rintro e w3 ⟨hg3, hh⟩
        cases tv with
        | none =>
          subst hh
          refine ⟨rfl, gotts_none (grown_trans HGR.out (grown_new HG2.out hg3 hR')) (map_none_app _ _ _ HRES.out ?_) rfl⟩
          rw [HST.out, HSV.out]
          simp only
          rw [HTV.out]
        | some t =>
          obtain ⟨rfl, hint⟩ := hh
          have hg4 := grown_new HG2.out hg3 hR'
          have HRW4 := hidden (HRW.out.low hg4 HK.out)
          have HPO4 := hidden (HPO.out.off hg3 (fun r hr => by cases hr; have := HPO.out.lt; have := HPS.out.lt; omega))
          have HG4 := hidden (grown_trans HGR.out hg4)
          have HI := hidden hint
          have hlen := secV_len HSV.out
          rw [List.length_drop, HL.out] at hlen
          have hnext : (trsV (xs.drop (at_ + L))).map ((l ++ [t]) ++ ·) = r := by
            rw [← HRES.out, HST.out, HSV.out]
            simp only
            rw [HTV.out]
            simp only [Option.map_map, List.drop_drop]
            congr 1
            funext z
            simp
          have HNX := hidden hnext
          clear hg3 hg4 hint hnext HRES HST HRW HPS HGR HPO HG2 HP1 HB1 HPI
          go_wp2_with (at_builtin; go_loud (refine wpList_append_g knownTr (by simp [NTr]) _ rfl _ _ rfl w.heap.size _ l rfl (HRW4.out.alloc _) _ 1 1 [t] rfl (srcTr w3 t.t t.i t.k _) (fun x hx => by rw [List.mem_singleton.1 hx]; exact HI.out) ?b1 ?b2 ?b3 ?_))
          case b1 => unfold maxLen; omega
          case b2 => omega
          case b3 => have := HG4.out.size; simp; omega
          intro v4 w4 hrow4 hg4
          have hk4 : ∀ r, (Value.slice po l.length co).ownBlock = some r → w.heap.size ≤ r := fun r hr => (HRW4.out.lt r hr).1
          have HRW5 := hidden hrow4
          have HPS5 := hidden ((HPO4.out.below ((Below.refl _ _).alloc (Nat.le_refl _) _)).off hg4 (fun r hr => by have := hk4 r hr; have := HK.out; omega))
          have HG5 := hidden (grown_own4 (grown_alloc_new HG4.out _) hg4 hk4)
          clear hrow4 hg4 HRW4 HPO4 HG4 hk4
          go_wp2_with fail
          go_roundw
          case rel => exact ⟨at_ + L, l ++ [t], by omega, by simp; omega, HNX.out, HRW5.out, HPS5.out, HG5.out⟩
          case measure =>
            rw [HMS.out, HPS5.out.cu.c1]
            simp [intOf]
            omega
end Go.Proofs.YtbpmanbpmlkmnaaGreatDoor

namespace Go.Proofs.YtbpmanbpmlkmnaaGreatDoor
open Go.RowKit
set_option linter.unusedVariables false

/-- A proposal in a block of the call's own. -/
structure PrIn (w : World) (g : Nat) (n p : Int) (s t : Value) : Prop where
  c0 : w.cell? ⟨g, 0, none⟩ = some (.int .i64 n)
  c1 : w.cell? ⟨g, 1, none⟩ = some (.int .i64 p)
  c2 : w.cell? ⟨g, 2, none⟩ = some s
  c3 : w.cell? ⟨g, 3, none⟩ = some t
  fr : ∀ j, w.frozen? ⟨g, j, none⟩ = false
section
variable {w w' : World} {g : Nat} {n p : Int} {s t : Value}
theorem PrIn.lt (h : PrIn w g n p s t) : g < w.heap.size := World.block_lt_of_cell? w _ h.c0
theorem PrIn.grown {row : Option Nat} (h : PrIn w g n p s t) (hg : w.grownBy w' row) (hne : some g ≠ row) : PrIn w' g n p s t :=
  ⟨hg.cell h.c0 hne, hg.cell h.c1 hne, hg.cell h.c2 hne, hg.cell h.c3 hne, fun j => (World.frozen?_of_block (a := ⟨g, j, none⟩) (hg.block g h.lt hne)).trans (h.fr j)⟩
theorem PrIn.below (h : PrIn w g n p s t) (hb : Below w.heap.size w w') : PrIn w' g n p s t := h.grown (row := none) (grown_of_below hb none) (by simp)
theorem PrIn.set0 (h : PrIn w g n p s t) (v : Int) : PrIn (w.setCell ⟨g, 0, none⟩ (.int .i64 v)) g v p s t := by
  obtain ⟨c0, c1, c2, c3, fr⟩ := h
  exact ⟨by go_simp, by go_simp, by go_simp, by go_simp, fun j => by rw [World.frozen?_setCell]; exact fr j⟩
theorem PrIn.set1 (h : PrIn w g n p s t) (v : Int) : PrIn (w.setCell ⟨g, 1, none⟩ (.int .i64 v)) g n v s t := by
  obtain ⟨c0, c1, c2, c3, fr⟩ := h
  exact ⟨by go_simp, by go_simp, by go_simp, by go_simp, fun j => by rw [World.frozen?_setCell]; exact fr j⟩
theorem PrIn.set2 (h : PrIn w g n p s t) (q : Option Addr) (m d : Nat) : PrIn (w.setCell ⟨g, 2, none⟩ (.slice q m d)) g n p (.slice q m d) t := by
  obtain ⟨c0, c1, c2, c3, fr⟩ := h
  exact ⟨by go_simp, by go_simp, by go_simp, by go_simp, fun j => by rw [World.frozen?_setCell]; exact fr j⟩
theorem PrIn.set3 (h : PrIn w g n p s t) (q : Option Addr) (m d : Nat) : PrIn (w.setCell ⟨g, 3, none⟩ (.slice q m d)) g n p s (.slice q m d) := by
  obtain ⟨c0, c1, c2, c3, fr⟩ := h
  exact ⟨by go_simp, by go_simp, by go_simp, by go_simp, fun j => by rw [World.frozen?_setCell]; exact fr j⟩
theorem PrIn.new (w : World) (n p : Int) (q : Option Addr) (m d : Nat) (q' : Option Addr) (m' d' : Nat) (T : TypeId) : PrIn (w.alloc (.cells #[.int .i64 n, .int .i64 p, .slice q m d, .slice q' m' d'] T)) w.heap.size n p (.slice q m d) (.slice q' m' d') :=
  ⟨by go_simp, by go_simp, by go_simp, by go_simp, fun j => by go_simp⟩
end
theorem load_pr {w : World} {g : Nat} {n p : Int} {s t : Value} (h : PrIn w g n p s t) : (loadVar 105 ⟨g, 0, none⟩).run Tryz.prog w = .ok (.agg #[.int .i64 n, .int .i64 p, s, t]) w := by
  obtain ⟨c0, c1, c2, c3, fr⟩ := h
  simp [loadVar, go_sem, c0, c1, c2, c3, Result.andThen]
theorem ret_pr {fn : Func} {R : Ending → World → Prop} {a : Act} {w : World} {p : Nat} {g : Nat} {x y : Int} {s t : Value} (h : fn.results = #[.cell p 105]) (hp : a.tmps.getD p undef = .pointer (some ⟨g, 0, none⟩)) (hd : a.defers = [])
    (hh : PrIn w g x y s t) (hR : R (.returned (.agg #[.int .i64 x, .int .i64 y, s, t])) w) : bodyPost Tryz.prog fn R .ret a w := by
  refine bodyPost_ret (v := .agg #[.int .i64 x, .int .i64 y, s, t]) ?_ hd hR
  rw [Array.getD_eq_getD_getElem?] at hp
  simp [results, h, hp, asAddr, load_pr hh]

/-- The inside of a proposal. -/
def prV (zs : List Int) : Option Pr :=
  if zs.length < 4 then none else if (zs.length : Int) < 4 + zs.getD 2 0 then none
  else match trsV (zs.drop (4 + (zs.getD 2 0).toNat)) with
  | none => none
  | some ts => if (ts.length : Int) ≠ zs.getD 3 0 then none else some ⟨zs.getD 0 0, zs.getD 1 0, (zs.drop 4).take (zs.getD 2 0).toNat, ts⟩
theorem prs_sec (ys : List Int) (hr : ∀ x ∈ ys, 0 ≤ x ∧ x ≤ 255) (h : ys.length ≠ 0) : prsV ys = match secV 2 ys with
  | none => none
  | some x => match prV x.1 with
    | none => none
    | some t => (prsV (ys.drop x.2)).map (t :: ·) := by
  rw [prsV_step ys h]
  rcases hs : secV 2 ys with _ | ⟨zs, L⟩
  · simp only
    by_cases h8 : ys.length < 8
    · rw [if_pos h8]
    rw [if_neg h8]
    by_cases h9 : w2 ys 2 < 8 ∨ (ys.length : Int) < w2 ys 2
    · rw [if_pos h9]
    rw [if_neg h9]
    rcases secV_cases 2 ys with ⟨h2, h1⟩ | ⟨_, h2, h1⟩ | ⟨_, _, h2, h1⟩ | ⟨h2, h3, h4, h1⟩
    · omega
    · omega
    · rw [if_pos (Or.inl h2)]
    · rw [h1] at hs; cases hs
  · have hi := secV_in hs
    have h1 := hi.len
    have h2 := hi.le
    simp only
    by_cases hz : zs.length < 4
    · have ht : prV zs = none := by unfold prV; rw [if_pos hz]
      rw [ht]
      simp only
      by_cases h8 : ys.length < 8
      · rw [if_pos h8]
      · rw [if_neg h8, hi.l, if_pos (by omega)]
    · have e0 : ¬ (ys.getD 0 0 ≠ if (ys.length : Int) = L then 0 else 2) := Decidable.not_not.2 hi.x0
      have b6 := rng_getD hr 6
      have e2 : zs.getD 0 0 = ys.getD 4 0 := by rw [hi.zs, getD_inside _ _ _ (by omega)]
      have e3 : zs.getD 1 0 = ys.getD 5 0 := by rw [hi.zs, getD_inside _ _ _ (by omega)]
      have e4 : zs.getD 2 0 = ys.getD 6 0 := by rw [hi.zs, getD_inside _ _ _ (by omega)]
      have e5 : zs.getD 3 0 = ys.getD 7 0 := by rw [hi.zs, getD_inside _ _ _ (by omega)]
      rw [if_neg (by omega), hi.l, if_neg (by omega), Int.toNat_natCast]
      unfold prV
      rw [if_neg hz, e2, e3, e4, e5]
      by_cases hb : (L : Int) < 8 + ys.getD 6 0
      · rw [if_pos (Or.inr hb), if_pos (by omega)]
      · rw [if_neg (fun h => h.elim e0 hb), if_neg (show ¬ (zs.length : Int) < 4 + ys.getD 6 0 by omega)]
        have e6 : (ys.take L).drop (8 + (ys.getD 6 0).toNat) = zs.drop (4 + (ys.getD 6 0).toNat) := by
          rw [hi.zs, List.drop_drop]
          congr 1
          omega
        have e7 : (ys.drop 8).take (ys.getD 6 0).toNat = (zs.drop 4).take (ys.getD 6 0).toNat := by
          rw [hi.zs, List.drop_drop, List.drop_take, List.take_take]
          congr 1
          omega
        rw [e6, e7]
        cases trsV (zs.drop (4 + (ys.getD 6 0).toNat)) with
        | none => rfl
        | some ts =>
          simp only
          split <;> rfl

theorem trs_few : ∀ (ys : List Int) (l : List Tr), trsV ys = some l → l.length ≤ ys.length := by
  suffices ∀ m (ys : List Int) (l : List Tr), ys.length ≤ m → trsV ys = some l → l.length ≤ ys.length from fun ys l h => this _ ys l (Nat.le_refl _) h
  intro m
  induction m with
  | zero =>
    intro ys l h0 h
    rw [trsV_nil _ (by omega)] at h
    simp at h
    subst h
    simp
  | succ m ih =>
    intro ys l h0 h
    by_cases hz : ys.length = 0
    · rw [trsV_nil _ hz] at h
      simp at h
      subst h
      simp
    rw [trs_sec _ hz] at h
    rcases hs : secV 3 ys with _ | ⟨zs, L⟩
    · rw [hs] at h; cases h
    rw [hs] at h
    simp only at h
    rcases ht : trV zs with _ | t
    · rw [ht] at h; cases h
    rw [ht] at h
    simp only at h
    have hl := secV_len hs
    rcases hn : trsV (ys.drop L) with _ | l'
    · rw [hn] at h; cases h
    rw [hn] at h
    simp at h
    subst h
    have := ih _ _ (by rw [List.length_drop]; omega) hn
    rw [List.length_drop] at this
    simp
    omega

/-- What proposal returns. -/
def GotPr (w : World) (k : Nat) (r : Option Pr) (e : Ending) (w' : World) : Prop :=
  w.grownBy w' (some k) ∧ match r with
  | none => Thrown e
  | some y => ∃ x : PrP, x.pr = y ∧ e = .returned (.agg #[.int .i64 x.n, .int .i64 x.p, .slice x.sp x.sn x.sc, .slice x.tp x.tn x.tc]) ∧ OkN w' w.heap.size x
theorem gotpr_none {w : World} {k : Nat} {r : Option Pr} {e : Ending} {w' : World} (hg : w.grownBy w' (some k)) (hr : r = none) (ht : Thrown e) : GotPr w k r e w' := by
  subst hr
  exact ⟨hg, ht⟩

/-- In the midst of proposal: what is read, and the two blocks of the result. -/
structure PrS (w w1 : World) (k : Nat) (p : Option Addr) (n c : Nat) (xs : List Int) (a : Nat) (x y : Int) (s t : Value) : Prop where
  ps : PS w1 k p n c xs a
  gr : w.grownBy w1 (some k)
  lk : k < w.heap.size
  sz : w.heap.size + 2 ≤ w1.heap.size
  rt : PrIn w1 w.heap.size 0 0 (.slice none 0 0) (.slice none 0 0)
  ru : PrIn w1 (w.heap.size + 1) x y s t
section
variable {w w1 w2 : World} {k : Nat} {p : Option Addr} {n c : Nat} {xs : List Int} {a b : Nat} {x y : Int} {s t : Value}
theorem PrS.step (h : PrS w w1 k p n c xs a x y s t) (hg : w1.grownBy w2 (some k)) (hp : PS w2 k p n c xs b) : PrS w w2 k p n c xs b x y s t :=
  ⟨hp, grown_trans h.gr hg, h.lk, Nat.le_trans h.sz hg.size, h.rt.grown hg (by have := h.lk; simp; omega), h.ru.grown hg (by have := h.lk; simp; omega)⟩
theorem PrS.below (h : PrS w w1 k p n c xs a x y s t) (hb : Below w1.heap.size w1 w2) : PrS w w2 k p n c xs a x y s t := h.step (grown_of_below hb _) (h.ps.below hb)
theorem PrS.set (h : PrS w w1 k p n c xs a x y s t) (j : Nat) (v : Value) {x' y' : Int} {s' t' : Value} (hu : PrIn (w1.setCell ⟨w.heap.size + 1, j, none⟩ v) (w.heap.size + 1) x' y' s' t') : PrS w (w1.setCell ⟨w.heap.size + 1, j, none⟩ v) k p n c xs a x' y' s' t' :=
  ⟨h.ps.off (grown_set _ _ _ _) (fun r hr => by cases hr; have := h.lk; omega), grown_set_new h.gr _ _ _ (by omega), h.lk, Nat.le_trans h.sz (grown_set _ _ _ _).size, h.rt.grown (grown_set _ _ _ _) (by simp), hu⟩
end
theorem pn1_ok (p : Option Addr) (n c : Nat) (xs : List Int) (w : World) (k a : Nat) (h : PS w k p n c xs a) (v : Int) (hv : xs.getD a 0 = v) (hin : a + 1 ≤ n) :
    Calls Tryz.prog 128 #[.pointer (some ⟨k, 0, none⟩), .int .i64 1] w fun e w' => e = .returned (.int .i64 v) ∧ w.grownBy w' (some k) ∧ PS w' k p n c xs (a + 1) := by
  refine (pn1 p n c xs w k a h v hv).mono ?_
  rintro e w' ⟨hg, ⟨h1, rfl, hc⟩ | ⟨h1, ht⟩⟩
  · exact ⟨rfl, hg, hc⟩
  · omega
theorem pn1_no (p : Option Addr) (n c : Nat) (xs : List Int) (w : World) (k a : Nat) (h : PS w k p n c xs a) (hin : n < a + 1) :
    Calls Tryz.prog 128 #[.pointer (some ⟨k, 0, none⟩), .int .i64 1] w fun e w' => Thrown e ∧ w.grownBy w' (some k) := by
  refine (pn1 p n c xs w k a h _ rfl).mono ?_
  rintro e w' ⟨hg, ⟨h1, rfl, hc⟩ | ⟨h1, ht⟩⟩
  · omega
  · exact ⟨ht, hg⟩

/-- A call that throws, in a region that draws its order: nothing follows. -/
theorem thrown_in {P : Program} {G : Prop} (w : World) (h : G) (d : wpAny P .any #[] (fun _ _ _ => True) 0 #[] { tmps := #[], defers := [] } w) : G := h

set_option maxHeartbeats 1600000 in
set_option maxRecDepth 100000 in
theorem proposal_any (p : Option Addr) (n c : Nat) (xs : List Int) (w : World) (k : Nat) (h : PS w k p n c xs 0) (hn : n ≤ 1048576) (r : Option Pr) (hr : prV xs = r) :
    Calls Tryz.prog 122 #[.pointer (some ⟨k, 0, none⟩)] w (GotPr w k r) := by
  have hlen := h.here.len
  have hrng := h.here.rng
  have hnle := h.here.le
  unfold prV at hr
  rw [hlen] at hr
  obtain ⟨x0, hx0⟩ : ∃ x0, xs.getD 0 0 = x0 := ⟨_, rfl⟩
  obtain ⟨x1, hx1⟩ : ∃ x0, xs.getD 1 0 = x0 := ⟨_, rfl⟩
  obtain ⟨x2, hx2⟩ : ∃ x0, xs.getD 2 0 = x0 := ⟨_, rfl⟩
  obtain ⟨x3, hx3⟩ : ∃ x0, xs.getD 3 0 = x0 := ⟨_, rfl⟩
  have b0 := rng_getD hrng 0
  have b1 := rng_getD hrng 1
  have b2 := rng_getD hrng 2
  have b3 := rng_getD hrng 3
  rw [hx0] at b0
  rw [hx1] at b1
  rw [hx2] at b2
  rw [hx3] at b3
  rw [hx0, hx1, hx2, hx3] at hr
  have HR := hidden hr
  have HX0 := hidden hx0
  have HX1 := hidden hx1
  have HX2 := hidden hx2
  have HX3 := hidden hx3
  have h0 : Below w.heap.size w ((w.alloc (.cells #[.int .i64 0, .int .i64 0, .slice none 0 0, .slice none 0 0] 105)).alloc (.cells #[.int .i64 0, .int .i64 0, .slice none 0 0, .slice none 0 0] 105)) := ((Below.refl _ w).alloc (Nat.le_refl _) _).alloc (by simp) _
  have HS0 : Hid (PrS w ((w.alloc (.cells #[.int .i64 0, .int .i64 0, .slice none 0 0, .slice none 0 0] 105)).alloc (.cells #[.int .i64 0, .int .i64 0, .slice none 0 0, .slice none 0 0] 105)) k p n c xs 0 0 0 (.slice none 0 0) (.slice none 0 0)) := hidden ⟨h.below h0, grown_of_below h0 (some k), h.lt, by simp, (PrIn.new w 0 0 none 0 0 none 0 0 105).below ((Below.refl _ _).alloc (Nat.le_refl _) _), by
    have := PrIn.new (w.alloc (.cells #[.int .i64 0, .int .i64 0, .slice none 0 0, .slice none 0 0] 105)) 0 0 none 0 0 none 0 0 105
    simpa using this⟩
  clear hr h hx0 hx1 hx2 hx3 hrng hlen h0
  go_enter Tryz.func122, Tryz.ntmps122
  go_wp2_with fail
  go_at_call 128
  (with_reducible refine (pn1 p n c xs _ k 0 HS0.out.ps x0 HX0.out).mono ?_)
  rintro e w1 ⟨hg1, ⟨hi1, rfl, hps1⟩ | ⟨hi1, ht⟩⟩
  rotate_left
  · subst ht
    exact ⟨rfl, gotpr_none (grown_trans HS0.out.gr hg1) (by rw [← HR.out, if_pos (by omega)]) rfl⟩
  have HS1 := hidden (HS0.out.step hg1 hps1)
  clear HS0 hg1 hps1
  have HS2 := hidden (HS1.out.set 0 (.int .i64 x0) (HS1.out.ru.set0 x0))
  have u1 := HS1.out.ru.c0
  have fr1 := HS1.out.ru.fr
  go_wp2_with fail
  clear u1 fr1
  go_at_call 128
  (with_reducible refine (pn1 p n c xs _ k 1 HS2.out.ps x1 HX1.out).mono ?_)
  rintro e w2 ⟨hg1, ⟨hi2, rfl, hps1⟩ | ⟨hi2, ht⟩⟩
  rotate_left
  · subst ht
    exact ⟨rfl, gotpr_none (grown_trans HS2.out.gr hg1) (by rw [← HR.out, if_pos (by omega)]) rfl⟩
  have HS3 := hidden (HS2.out.step hg1 hps1)
  clear HS1 HS2 hg1 hps1
  have HS4 := hidden (HS3.out.set 1 (.int .i64 x1) (HS3.out.ru.set1 x1))
  have u1 := HS3.out.ru.c1
  have fr1 := HS3.out.ru.fr
  go_wp2_with fail
  clear u1 fr1 HS3
  have HSD : Hid (PrS w (w2.setCell ⟨w.heap.size + 1, 1, none⟩ (.int .i64 x1)).drew k p n c xs 2 x0 x1 (.slice none 0 0) (.slice none 0 0)) := hidden (HS4.out.below (drew_below ⟨1, rfl⟩))
  by_cases h3 : n < 3
  · have C1 := hidden (pn1_no p n c xs _ k 2 HSD.out.ps (by omega))
    have hr := HR.out
    rw [if_pos (by omega)] at hr
    have HR2 := hidden hr
    clear hr HR HS4
    go_region_law (first | (go_simp; go_at_call 128; (with_reducible refine (C1.out).mono ?_); rintro e wA ⟨ht, hg⟩; subst ht; refine thrown_in (P := Tryz.prog) w ⟨rfl, gotpr_none (grown_trans HSD.out.gr hg) HR2.out.symm rfl⟩ ?_))
    all_goals trivial
  have C1 := hidden (pn1_ok p n c xs _ k 2 HSD.out.ps x2 HX2.out (by omega))
  by_cases h4 : n < 4
  · have C2 := hidden (fun wA (h : PS wA k p n c xs 3) => pn1_no p n c xs wA k 3 h (by omega))
    have hr := HR.out
    rw [if_pos (by omega)] at hr
    have HR2 := hidden hr
    clear hr HR HS4
    go_region_law (first
      | (go_simp; go_at_call 128; (with_reducible refine (C1.out).mono ?_); rintro e wA ⟨rfl, hg, hps⟩; have hg' := grown_trans HSD.out.gr hg)
      | (go_simp; go_at_call 128; (with_reducible refine (C2.out _ hps).mono ?_); rintro e wB ⟨ht, hg⟩; subst ht; refine thrown_in (P := Tryz.prog) w ⟨rfl, gotpr_none (grown_trans hg' hg) HR2.out.symm rfl⟩ ?_))
    all_goals trivial
  have C2 := hidden (fun wA (h : PS wA k p n c xs 3) => pn1_ok p n c xs wA k 3 h x3 HX3.out (by omega))
  have hr := HR.out
  rw [if_neg h4] at hr
  have HR2 := hidden hr
  clear hr HR HS4
  go_region_law (first
    | (go_simp; go_at_call 128; (with_reducible refine (C1.out).mono ?_); rintro e wA ⟨rfl, hg, hps⟩; have hs5 := HSD.out.step hg hps)
    | (go_simp; go_at_call 128; (with_reducible refine (C2.out _ hps).mono ?_); rintro e wB ⟨rfl, hg, hps⟩; have hs6 := hs5.step hg hps))
  all_goals
    have HS7 := hidden hs6
    clear hs5 hs6 hps hg C1 C2 HSD
    go_wp2_with fail
    go_at_call 129
    (with_reducible refine (pt p n c xs _ k 4 HS7.out.ps (by omega) x2 (by omega)).mono ?_)
    rintro e w5 ⟨hg5, ⟨hi4, hi5, q, m, d, rfl, hby, hps5⟩ | ⟨hi4, ht⟩⟩
    rotate_left
    · subst ht
      exact ⟨rfl, gotpr_none (grown_trans HS7.out.gr hg5) (by rw [← HR2.out, if_pos (by omega)]) rfl⟩
    have hr := HR2.out
    rw [if_neg (by omega)] at hr
    have HR3 := hidden hr
    have HS8 := hidden (HS7.out.step hg5 hps5)
    have hby2 := hby.mono HS7.out.sz
    clear hr HR2 hg5 hps5 hby
    have HS9 := hidden (HS8.out.set 2 (.slice q m d) (HS8.out.ru.set2 q m d))
    have HBY := hidden (hby2.grown (grown_set _ (w.heap.size + 1) 2 (.slice q m d)) (OffB.low (by omega)))
    have u1 := HS8.out.ru.c2
    have fr1 := HS8.out.ru.fr
    clear hby2 HS7
    obtain ⟨tv, htv⟩ : ∃ tv, trsV (xs.drop (4 + x2.toNat)) = tv := ⟨_, rfl⟩
    have HTV := hidden htv
    have hr := HR3.out
    rw [htv] at hr
    have HR4 := hidden hr
    clear htv hr HR3
    go_wp2_with fail
    clear u1 fr1
    go_at_call 131
    (with_reducible refine (ptransforms_any p n c xs _ k (4 + x2.toNat) HS9.out.ps hn tv HTV.out).mono ?_)
    rintro e w6 ⟨hg6, hh⟩
    cases tv with
    | none =>
      subst hh
      exact ⟨rfl, gotpr_none (grown_trans HS9.out.gr hg6) HR4.out.symm rfl⟩
    | some ts =>
      obtain ⟨v, rfl, hrow⟩ := hh
      obtain ⟨tp, tc, rfl⟩ := hrow.form rfl
      have hr := HR4.out
      simp only at hr
      have HR5 := hidden hr
      have hlk := HS9.out.lk
      have HBY2 := hidden (HBY.out.grown hg6 (OffB.low (by omega)))
      have HRW := hidden (hrow.mono HS9.out.sz)
      have hrt := HS9.out.rt.grown hg6 (by simp; omega)
      have hru := HS9.out.ru.grown hg6 (by simp; omega)
      have HG6 := hidden (grown_trans HS9.out.gr hg6)
      have HRT := hidden hrt
      have HRU := hidden hru
      have HSZ := hidden (Nat.le_trans HS9.out.sz hg6.size)
      have c0 := hru.c0
      have c1 := hru.c1
      have c2 := hru.c2
      have c3 := hru.c3
      have fr1 := hru.fr
      have d0 := hrt.c0
      have d1 := hrt.c1
      have d2 := hrt.c2
      have d3 := hrt.c3
      have fr := hrt.fr
      have htl : ts.length ≤ 9223372036854775807 := by
        have := trs_few _ _ HTV.out
        have := HS9.out.ps.here.len
        rw [List.length_drop] at *
        omega
      clear hr HR4 hg6 hrow hrt hru HS9 HBY
      go_wp2_with fail
      go_at_call 130
      (refine (need_any _ _).mono ?_)
      rintro e w8 ⟨rfl, ⟨ht, rfl⟩ | ⟨ht, hth⟩⟩
      rotate_left
      · subst hth
        exact ⟨rfl, gotpr_none (grown_set_new HG6.out _ _ _ (by omega)) (by rw [← HR5.out, if_pos (by simpa using ht)]) rfl⟩
      have hr := HR5.out
      rw [if_neg (by simpa using ht)] at hr
      have HR6 := hidden hr
      clear ht hr HR5
      go_wp2
      refine ret_pr rfl rfl rfl ((((((HRT.out.grown (grown_set _ (w.heap.size + 1) 3 (.slice tp ts.length tc)) (by simp)).set0 x0).set1 x1).set2 q m d).set3 tp ts.length tc)) ?_
      have e1 : (w6.setCell ⟨w.heap.size + 1, 3, none⟩ (.slice tp ts.length tc)).grownBy (((((w6.setCell ⟨w.heap.size + 1, 3, none⟩ (.slice tp ts.length tc)).setCell ⟨w.heap.size, 0, none⟩ (.int .i64 x0)).setCell ⟨w.heap.size, 1, none⟩ (.int .i64 x1)).setCell ⟨w.heap.size, 2, none⟩ (.slice q m d)).setCell ⟨w.heap.size, 3, none⟩ (.slice tp ts.length tc)) (some w.heap.size) :=
        grown_trans (grown_trans (grown_trans (grown_set _ _ _ _) (grown_set _ _ _ _)) (grown_set _ _ _ _)) (grown_set _ _ _ _)
      have e0 := grown_set w6 (w.heap.size + 1) 3 (.slice tp ts.length tc)
      refine ⟨grown_new (grown_set_new HG6.out _ _ _ (by omega)) e1 (Nat.le_refl _), ?_⟩
      rw [← HR6.out]
      refine ⟨⟨x0, x1, q, m, d, (xs.drop 4).take x2.toNat, tp, ts.length, tc, ts⟩, rfl, rfl, ⟨⟨⟨by show -9223372036854775808 ≤ x0; omega, by show x0 ≤ 9223372036854775807; omega⟩, by show -9223372036854775808 ≤ x1; omega, by show x1 ≤ 9223372036854775807; omega⟩, ?_, ?_⟩⟩
      · exact ((HBY2.out.grown e0 (OffB.low (by omega))).grown e1 (OffB.low (by omega))).mono (by omega)
      · exact ((HRW.out.low e0 (by omega)).low e1 (by omega)).mono (by omega)
end Go.Proofs.YtbpmanbpmlkmnaaGreatDoor

namespace Go.Proofs.YtbpmanbpmlkmnaaGreatDoor
open Go.RowKit
set_option linter.unusedVariables false

end Go.Proofs.YtbpmanbpmlkmnaaGreatDoor

namespace Go.Proofs.YtbpmanbpmlkmnaaGreatDoor
open Go.RowKit
set_option linter.unusedVariables false

/-- The result of a function that returns bytes of its own. -/
def BytesNew (w : World) (xs : List Int) (e : Ending) (w' : World) : Prop := ∃ v, e = .returned v ∧ Own w' w.heap.size 5 v xs ∧ Below w.heap.size w w'

set_option maxHeartbeats 400000 in
set_option maxRecDepth 100000 in
theorem rput_yes (p : Option Addr) (n c : Nat) (xs : List Int) (w : World) (h : Byt w p n c xs) (hb : n ≤ 140737488355000) (v : Int) (hv : 0 ≤ v ∧ v ≤ 18446744073709551615) (k : Nat) (h1 : 1 ≤ k) (h8 : k ≤ 8) :
    Calls Tryz.prog 34 #[.slice p n c, .int .u64 v, .int .i64 k] w (BytesNew w (xs ++ be k v)) := by
  have hn := h.le
  have hl := h.len
  obtain ⟨i0, hi, hz0, hz1, hz2⟩ := info_parts Tryz.infoByte
  have H := hidden h
  clear h
  go_enter Tryz.func34, Tryz.ntmps34
  go_wp2_with (at_builtin; refine wpList_append_byt _ rfl _ _ 22 rfl w.heap.size 5 i0 (.int .u8 0) Tryz.underlying22 hi hz0 hz1 hz2 rfl _ _ rfl (Own.nil w w.heap.size 5) _ _ _ _ _ rfl H.out rfl ?c1 (Nat.le_refl _) ?_)
  case c1 => first | omega | (simp; omega)
  intro u w1 hown hg
  have hbel := (Below.refl w.heap.size w).grown hg (Nat.le_refl _) (by intro k hk; simp [Value.ownBlock] at hk)
  clear hg
  go_wp2
  go_loopw [7, 8] (fun u i wr => ∃ j : Nat, j ≤ k ∧ i = .int .i64 ((j : Int) - 1) ∧ ∃ ys, ys ++ be j v = xs ++ be k v ∧ Own wr w.heap.size 5 u ys ∧ Below w.heap.size w wr) (fun _ i _ => (intOf i + 1).toNat)
  case atStart => exact ⟨k, Nat.le_refl _, rfl, xs, rfl, hown, hbel⟩
  case round =>
    obtain ⟨j, hj, rfl, ys, hys, ho, hbl⟩ := hrel
    by_cases hpos : 1 ≤ j
    · obtain ⟨j, rfl⟩ : ∃ m, j = m + 1 := ⟨j - 1, by omega⟩
      have hlen : ys.length ≤ n + 8 := by
        have := congrArg List.length hys
        simp only [List.length_append, be_len] at this
        omega
      have HY := hidden hys
      have HO := hidden ho
      clear hys ho H
      go_wp2_with (at_builtin; go_loud (refine wpList_append_byt _ rfl _ _ 22 rfl w.heap.size 5 i0 (.int .u8 0) Tryz.underlying22 hi hz0 hz1 hz2 rfl _ _ rfl (HO.out.alloc _) _ _ _ _ _ rfl (one_byte _ _ (v / 2 ^ (8 * j) % 256) ?c0 ?c1) rfl ?c2 ?c3 ?_))
      case c0 => exact byte_rng _
      case c1 => rw [World.cell?_alloc_at _ _ _ _ rfl]; rfl
      case c2 => omega
      case c3 => have := hbl.size; simp; omega
      intro u' w2 hown2 hg2
      have HB2 := hidden ((hbl.alloc hbl.size _).grown hg2 (by have := hbl.size; simp; omega) (fun g hg => (HO.out.lt g hg).1))
      clear hbl hg2 hbel
      go_wp2
      go_roundw
      case rel => exact ⟨j, by omega, rfl, _, be_next _ _ _ _ HY.out, hown2, HB2.out⟩
      case measure => simp [intOf] <;> omega
    · obtain rfl : j = 0 := by omega
      have e1 : ys = xs ++ be k v := by simpa [be] using hys
      subst e1
      have HO := hidden ho
      have HB := hidden hbl
      clear ho hbl hys H hbel hown
      go_wp2
      go_ret
      exact ⟨_, rfl, HO.out, HB.out⟩

end Go.Proofs.YtbpmanbpmlkmnaaGreatDoor

namespace Go.Proofs.YtbpmanbpmlkmnaaGreatDoor
open Go
set_option linter.unusedVariables false

section
variable {P : Program} {ops : Array Oper} {Q : Exit → Act → World → Prop} {md : Region.Mode} {c : Nat} {S0 S1 : World → Prop}
/-- Whatever order is picked: behind each operation S0 holds, and S1 till the operation c has come up. -/
def anyC (P : Program) (md : Region.Mode) (ops : Array Oper) (Q : Exit → Act → World → Prop) (c : Nat) (S0 S1 : World → Prop) : Nat → Array Bool → Act → World → Prop
  | 0, l, a, w => Region.ready md ops l = [] ∧ Q .normal a w
  | n + 1, l, a, w => (Region.ready md ops l = [] → Q .normal a w) ∧
      ∀ i ∈ Region.ready md ops l, wpOp P ops Q i (fun a' w' => (S0 w' ∧ ((l.setIfInBounds i true).getD c true = false → S1 w')) ∧ anyC P md ops Q c S0 S1 n (l.setIfInBounds i true) a' w') a w
theorem any_of_C : ∀ (n : Nat) (l : Array Bool) (a : Act) (w : World), anyC P md ops Q c S0 S1 n l a w → wpAny P md ops Q n l a w
  | 0, _, _, _, h => h
  | n + 1, _, _, _, h => ⟨h.1, fun i hi => wpOp_mono (fun a' w' k => any_of_C n _ a' w' k.2) (h.2 i hi)⟩
/-- The first condition, or the second one as well, where c waits for i. -/
theorem anyC_first (B : Bool) {i : Nat} {oi oc : Oper} {v : Value} (hi : ops[i]? = some oi) (hsel : ∀ (j : Nat) (o : Oper) cs b, ops[j]? = some o → o.op ≠ .select cs b)
    (hQ : ∀ ch a w, Q (.panic ch) (a.put oi.dst v) w → Q (.panic ch) a w) (hic : i ≠ c) (hoc : ops[c]? = some oc) (hB : B = true → ∃ e ∈ oc.after, Region.binds md e = true ∧ e.on = i) :
    ∀ (n : Nat) (l : Array Bool) (a : Act) (w : World),
      (∀ j oj, ops[j]? = some oj → j ≠ i → l.getD j true = false → (∀ e ∈ oj.after, Region.binds md e = true → e.on ≠ i) → oi.apart ops oj = true) →
      i ∈ Region.ready md ops l → (B = true → l.getD c true = false) → YieldsIf P ops (fun w => S0 w ∧ (B = true → S1 w)) oi v a → S0 w → (l.getD c true = false → S1 w) →
      anyC P md ops Q c S0 S1 n (l.setIfInBounds i true) (a.put oi.dst v) w → anyC P md ops Q c S0 S1 (n + 1) l a w := by
  intro n
  induction n with
  | zero =>
    intro l a w _ hr hl hy h0 h1 H
    refine ⟨fun h => (by rw [h] at hr; cases hr), fun j hj => ?_⟩
    by_cases hji : j = i
    · subst hji
      exact hy.wpOp hi ⟨h0, fun hb => h1 (hl hb)⟩ ⟨⟨h0, fun hc => h1 (by rw [getD_set_ne true hic] at hc; exact hc)⟩, H⟩
    · have := ready_mono hj hji
      rw [H.1] at this
      cases this
  | succ n ih =>
    intro l a w hfree hr hl hy h0 h1 H
    refine ⟨fun h => (by rw [h] at hr; cases hr), fun j hj => ?_⟩
    by_cases hji : j = i
    · subst hji
      exact hy.wpOp hi ⟨h0, fun hb => h1 (hl hb)⟩ ⟨⟨h0, fun hc => h1 (by rw [getD_set_ne true hic] at hc; exact hc)⟩, H⟩
    · have k1 := H.2 j (ready_mono hj hji)
      obtain ⟨hjun, oj, hoj, hall⟩ := mem_ready.1 hj
      have hnot : ∀ e ∈ oj.after, Region.binds md e = true → e.on ≠ i := fun e he hb heq => by
        have g1 := hall e he hb
        have g0 := (mem_ready.1 hr).1
        rw [heq] at g1
        rcases Nat.lt_or_ge i l.size with h' | h'
        · simp [h'] at g0 g1
          rw [g0] at g1
          cases g1
        · simp [Array.getElem?_eq_none h'] at g1
      have k2 := wpOp_putIf hoj (hfree j oj hoj hji hjun hnot) (fun cs b => hsel i oi cs b hi) (fun cs b => hsel j oj cs b hoj) hQ hy k1
      have hfree' : ∀ k ok, ops[k]? = some ok → k ≠ i → (l.setIfInBounds j true).getD k true = false → (∀ e ∈ ok.after, Region.binds md e = true → e.on ≠ i) → oi.apart ops ok = true := fun k ok hk hki hun hno => by
        refine hfree k ok hk hki ?_ hno
        by_cases hjk : j = k
        · subst hjk; exact hjun
        · rw [getD_set_ne true hjk] at hun; exact hun
      have hjc : B = true → j ≠ c := fun hb e => by
        subst e
        obtain ⟨e, he, hbe, hon⟩ := hB hb
        rw [hoc] at hoj
        cases hoj
        exact hnot e he hbe hon
      have hlc : B = true → (l.setIfInBounds j true).getD c true = false := fun hb => by rw [getD_set_ne true (hjc hb)]; exact hl hb
      have hcc : ∀ l' : Array Bool, ((l'.setIfInBounds i true).setIfInBounds j true).getD c true = (l'.setIfInBounds j true).getD c true := fun l' => by
        rw [Array.setIfInBounds_comm _ _ (Ne.symm hji), getD_set_ne true hic]
      refine wpOp_mono (fun a' w' k3 => ?_) k2
      obtain ⟨hy', ⟨g0, g1⟩, hrest⟩ := k3
      rw [hcc] at g1
      refine ⟨⟨g0, g1⟩, ih (l.setIfInBounds j true) a' w' hfree' (ready_mono hr (Ne.symm hji)) hlc ?_ g0 g1 ?_⟩
      · exact hy'
      · rw [Array.setIfInBounds_comm _ _ hji]
        exact hrest
/-- An operation that yields its value wherever S0 holds. -/
theorem anyC_take {i : Nat} {oi oc : Oper} {v : Value} {n : Nat} {l : Array Bool} {a : Act} {w : World} (hi : ops[i]? = some oi) (hoc : ops[c]? = some oc) (hic : i ≠ c)
    (hs : Region.noSelect ops = true) (hf : Region.free md ops l i = true) (hr : (Region.ready md ops l).contains i = true)
    (hQ : ∀ ch a w, Q (.panic ch) (a.put oi.dst v) w → Q (.panic ch) a w) (hy : YieldsIf P ops S0 oi v a) (h0 : S0 w) (h1 : l.getD c true = false → S1 w)
    (h : anyC P md ops Q c S0 S1 n (l.setIfInBounds i true) (a.put oi.dst v) w) : anyC P md ops Q c S0 S1 (n + 1) l a w :=
  anyC_first false hi (Region.noSelect_spec hs) hQ hic hoc (fun h => by cases h) n l a w (Region.free_spec hi hf) (by simpa using hr) (fun h => by cases h)
    (hy.imp (fun ⟨a, b⟩ => ⟨a, fun w k => b w k.1⟩) id) h0 h1 h
/-- An operation that c waits for, and that yields its value wherever both hold. -/
theorem anyC_take1 {i : Nat} {oi oc : Oper} {v : Value} {n : Nat} {l : Array Bool} {a : Act} {w : World} (hi : ops[i]? = some oi) (hoc : ops[c]? = some oc) (hic : i ≠ c)
    (hw : (oc.after.any fun e => Region.binds md e && e.on == i) = true) (hl : l.getD c true = false)
    (hs : Region.noSelect ops = true) (hf : Region.free md ops l i = true) (hr : (Region.ready md ops l).contains i = true)
    (hQ : ∀ ch a w, Q (.panic ch) (a.put oi.dst v) w → Q (.panic ch) a w) (hy : YieldsIf P ops (fun w => S0 w ∧ S1 w) oi v a) (h0 : S0 w) (h1 : S1 w)
    (h : anyC P md ops Q c S0 S1 n (l.setIfInBounds i true) (a.put oi.dst v) w) : anyC P md ops Q c S0 S1 (n + 1) l a w :=
  anyC_first true hi (Region.noSelect_spec hs) hQ hic hoc (fun _ => by
      obtain ⟨j, hj, he⟩ := Array.any_eq_true.1 hw
      simp only [Bool.and_eq_true, beq_iff_eq] at he
      exact ⟨_, Array.getElem_mem hj, he.1, he.2⟩) n l a w (Region.free_spec hi hf) (by simpa using hr) (fun _ => hl)
    (hy.imp (fun ⟨a, b⟩ => ⟨a, fun w k => b w ⟨k.1, k.2 rfl⟩⟩) id) h0 (fun _ => h1) h
/-- The one operation that may come up. -/
theorem anyC_one {i : Nat} {o : Oper} {n : Nat} {l : Array Bool} {a : Act} {w : World} (hr : Region.ready md ops l = [i]) (ho : ops[i]? = some o)
    (h : ∀ K' : Act → World → Prop, Shut (∀ a w, S0 w → ((l.setIfInBounds i true).getD c true = false → S1 w) → anyC P md ops Q c S0 S1 n (l.setIfInBounds i true) a w → K' a w) →
      if Region.wanted o (yielded ops a.tmps) = true then Oper.wp P o a w K' Q else K' (a.put o.dst undef) w) : anyC P md ops Q c S0 S1 (n + 1) l a w :=
  ⟨fun h0 => (by rw [hr] at h0; cases h0), fun j hj => (by
    rw [hr] at hj
    have e : j = i := by simpa using hj
    subst e
    exact wpOp_step ho fun K' hK => h K' fun a w h0 h1 k => hK a w ⟨⟨h0, h1⟩, k⟩)⟩
theorem anyC_done {l : Array Bool} {a : Act} {w : World} (hr : Region.ready md ops l = []) (h : Q .normal a w) : ∀ n, anyC P md ops Q c S0 S1 n l a w
  | 0 => ⟨hr, h⟩
  | _ + 1 => ⟨fun _ => h, by rw [hr]; simp⟩
/-- The beginning. -/
theorem region_C {id : Nat} {a : Act} {w : World} (c : Nat) (S0 S1 : World → Prop) (hm : P.follows .mixedOrders = true) (h0 : S0 w.drew) (h1 : S1 w.drew)
    (h : S0 w.drew → S1 w.drew → anyC P .any ops Q c S0 S1 ops.size (Array.replicate ops.size false) a w.drew) : (Code.region id ops true).wp P Q a w :=
  wp_region_any hm (any_of_C _ _ _ _ (h h0 h1))
end
end Go.Proofs.YtbpmanbpmlkmnaaGreatDoor
