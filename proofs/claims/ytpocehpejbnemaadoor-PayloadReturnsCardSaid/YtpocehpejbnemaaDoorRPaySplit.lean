/-
  What package payload's fixed part reads: its numbers, and a body split into the fixed part and the rest.
-/
import Derived.Test.YtpocehpejbnemaaDoorRPayPut
import Derived.Test.YtpocehpejbnemaaDoorRZ3
import Derived.Laws.CopyOwn
namespace Go.Proofs.YtpocehpejbnemaaDoor
open Go.RowKit
set_option linter.unusedVariables false

set_option maxHeartbeats 400000 in
theorem cloneB_any (p : Option Addr) (n c : Nat) (xs : List Int) (w : World) (h : Byt w p n c xs) (hb : n ≤ 140737488355328) :
    Calls Tryd.prog 104 #[.slice p n c] w fun e w' => ∃ v, e = .returned v ∧ Own w' w.heap.size 5 v xs ∧ Below w.heap.size w w' := by
  have hl := h.len
  have q := fun (w : World) (a : Option Addr) (n c n' c' : Nat) => Lib.run_eql_slice_nil (P := Tryd.prog) w 76 _ a n c n' c' Tryd.underlying76
  cases p with
  | none =>
    have hn : n = 0 := by
      rcases Nat.eq_zero_or_pos n with h0 | h0
      · exact h0
      · obtain ⟨b, o, h, _⟩ := h.at_ h0
        cases h
    subst hn
    obtain rfl : xs = [] := List.eq_nil_of_length_eq_zero hl
    clear h hl
    go_enter Tryd.func104, Tryd.ntmps104
    go_wp2
    go_ret
    exact ⟨_, rfl, Own.nil _ _ _, Below.refl _ _⟩
  | some a =>
    obtain ⟨i0, hi, hz0, hz1, hz2⟩ := info_parts Tryd.infoByte
    have H := hidden h
    clear h
    go_enter Tryd.func104, Tryd.ntmps104
    go_wp2_with (at_builtin; refine wpList_append_byt _ rfl _ _ 76 rfl w.heap.size 5 i0 (.int .u8 0) Tryd.underlying76 hi hz0 hz1 hz2 rfl _ _ rfl (Own.made w w.heap.size 5 (Nat.le_refl _)) _ _ _ _ _ rfl (H.out.alloc _) rfl ?c1 ?c2 ?_)
    case c1 => simp; omega
    case c2 => simp
    intro v w1 hown hg
    go_wp2
    go_ret
    exact ⟨v, rfl, hown, ((Below.refl _ w).alloc (Nat.le_refl _) _).grown hg (by simp) (by intro k hk; simp [Value.ownBlock] at hk; omega)⟩

set_option maxHeartbeats 400000 in
theorem fnumber_any (a b c d : Int) (ha : 0 ≤ a ∧ a ≤ 255) (hb : 0 ≤ b ∧ b ≤ 255) (hc : 0 ≤ c ∧ c ≤ 255) (hd : 0 ≤ d ∧ d ≤ 255) (A K : Nat) (AI KI : Int) (hA : AI = A) (hK : KI = K) (h1 : 1 ≤ K) (hin : A + K ≤ 4) (V : Int) (hV : val (([a, b, c, d].drop A).take K) = V) (w : World) :
    Calls Tryd.prog 103 #[.agg #[.int .u8 a, .int .u8 b, .int .u8 c, .int .u8 d],   .int .i64 AI, .int .i64 KI] w fun e w' => e = .returned (.int .i64 V) ∧ Below w.heap.size w w' := by
  subst hA hK
  have hF := four_byt w a b c d 102 ha hb hc hd
  have HN := hidden (number_yes _ 4 4 _ _ hF A K h1 (by omega) hin)
  rw [hV] at HN
  have HB := hidden ((Below.refl w.heap.size w).alloc (Nat.le_refl _) (.cells #[.int .u8 a, .int .u8 b, .int .u8 c, .int .u8 d] 102))
  have hbd := val_bd (([a, b, c, d].drop A).take K) (rng_take (rng_drop hF.rng _) _)
  have hlen : (([a, b, c, d].drop A).take K).length ≤ 4 := by simp; omega
  have h8 := pow256_le hlen
  have e4 : (256 : Int) ^ 4 = 4294967296 := by decide
  rw [e4] at h8
  rw [hV] at hbd
  have hw : IntKind.i64.wrap V = V := by rw [IntKind.wrap_i64]; omega
  clear hF hbd h8 hV hlen e4
  go_enter Tryd.func103, Tryd.ntmps103
  go_wp2_with (first
    | (go_at_call 114; (with_reducible refine (HN.out).mono ?_); rintro e w' ⟨rfl, rfl⟩)
    | fail)
  go_ret
  exact ⟨rfl, HB.out⟩

/-- A byte of a body. -/
def nthB (xs : List Int) (j : Nat) : Int := xs.getD j 0
/-- What split returns. -/
def Split4 (w : World) (xs : List Int) (n : Nat) (e : Ending) (w' : World) : Prop :=
  Below w.heap.size w w' ∧ ((n < 4 ∧ e = .returned (.tuple #[.agg #[.int .u8 0, .int .u8 0, .int .u8 0, .int .u8 0], .slice none 0 0, .int .i64 1])) ∨
    (4 ≤ n ∧ ∃ q d, e = .returned (.tuple #[.agg #[.int .u8 (nthB xs 0), .int .u8 (nthB xs 1), .int .u8 (nthB xs 2), .int .u8 (nthB xs 3)], .slice q (n - 4) d, .int .i64 0]) ∧ Frs w' w.heap.size q (n - 4) d (xs.drop 4)))

theorem ret_f4 {fn : Func} {R : Ending → World → Prop} {act : Act} {w : World} {p s t : Nat} {g : Nat} {a b c d : Int} {u v : Value} (h : fn.results = #[.cell p 102, .tmp s, .tmp t]) (hp : act.tmps.getD p undef = .pointer (some ⟨g, 0, none⟩)) (hs : act.tmps.getD s undef = u) (ht : act.tmps.getD t undef = v) (hd : act.defers = [])
    (c0 : w.cell? ⟨g, 0, none⟩ = some (.int .u8 a)) (c1 : w.cell? ⟨g, 1, none⟩ = some (.int .u8 b)) (c2 : w.cell? ⟨g, 2, none⟩ = some (.int .u8 c)) (c3 : w.cell? ⟨g, 3, none⟩ = some (.int .u8 d))
    (hR : R (.returned (.tuple #[.agg #[.int .u8 a, .int .u8 b, .int .u8 c, .int .u8 d], u, v])) w) : bodyPost Tryd.prog fn R .ret act w := by
  refine bodyPost_ret (v := .tuple #[.agg #[.int .u8 a, .int .u8 b, .int .u8 c, .int .u8 d], u, v]) ?_ hd hR
  rw [Array.getD_eq_getD_getElem?] at hp hs ht
  have hl : (loadVar 102 ⟨g, 0, none⟩).run Tryd.prog w = .ok (.agg #[.int .u8 a, .int .u8 b, .int .u8 c, .int .u8 d]) w := by simp [loadVar, go_sem, c0, c1, c2, c3, Result.andThen]
  simp [results, h, hp, hs, ht, asAddr, hl]

/-- copy(f[:], b), where f is an array of four bytes that was just made. -/
theorem wpList_copy4 {P : Program} {w : World} {ops : Array Oper} {rest : List Oper} {o : Oper} {a : Act} {Q : Exit → Act → World → Prop} (hgd : o.guard = none) (d s : Operand) (dT sT : TypeId)
    (ho : o.op = .call { callee := .builtin .copy, args := #[d, s], argTypes := #[dT, sT] }) (elem : TypeId) (hu : P.underlying dT = some (.slice elem)) (hsz : (P.info? elem).map (·.size) = some 1)
    (g : Nat) (hd : a.eval d = .slice (some ⟨g, 0, none⟩) 4 4) (y0 y1 y2 y3 : Int) (t : TypeId) (hg : w.heap[g]? = some (.cells #[.int .u8 y0, .int .u8 y1, .int .u8 y2, .int .u8 y3] t (0, 0)))
    (p : Option Addr) (n c : Nat) (xs : List Int) (hs : a.eval s = .slice p n c) (hx : Byt w p n c xs) (N : Nat) (hN : Nat.min n 4 = N)
    (h : ∀ w', w.grownBy w' (some g) → (4 ≤ n → ∀ j, j < 4 → w'.cell? ⟨g, j, none⟩ = some (.int .u8 (nthB xs j))) → (∀ j, w'.frozen? ⟨g, j, none⟩ = false) → wpList P ops Q rest (a.put o.dst (goInt N)) w') : wpList P ops Q (o :: rest) a w := by
  have hl := hx.len
  have hfz : ∀ (w' : World) (cs : Array Value), w'.heap[g]? = some (.cells cs t (0, 0)) → ∀ j, w'.frozen? ⟨g, j, none⟩ = false := fun w' cs hh j => by
    simp [World.frozen?, hh]
  rcases Nat.eq_zero_or_pos n with h0 | h0
  · subst h0
    obtain rfl : N = 0 := by rw [← hN]; simp
    refine wpList_copy_nothing hgd d s dT sT ho elem hu hsz _ _ _ _ _ _ hd hs (by simp) (h w (grown_refl w _) (fun h => by omega) (hfz w _ hg))
  · obtain ⟨b, off, rfl, hc⟩ := hx.at_ h0
    have hcl : ((xs.take 4).map (Value.int .u8)).length = Nat.min n 4 := by rw [List.length_map, List.length_take, hl]; exact Nat.min_comm 4 n
    refine wpList_copy_own hgd d s dT sT ho elem hu hsz g 0 4 4 ⟨b, off, none⟩ n c hd hs _ t hg ((xs.take 4).map (Value.int .u8)) hcl (fun j v hj => ?_) (by have := Nat.min_le_right n 4; rw [hcl]; simpa using this) (u8_one _) ?_
    · have hj4 : j < 4 ∧ j < n := by
        have := (List.getElem?_eq_some_iff.1 hj).1
        rw [hcl] at this
        exact ⟨Nat.lt_of_lt_of_le this (Nat.min_le_right n 4), Nat.lt_of_lt_of_le this (Nat.min_le_left n 4)⟩
      rw [WideShapes.add_plain, hc j hj4.2]
      rw [List.getElem?_map, List.getElem?_take_of_lt hj4.1, List.getElem?_eq_getElem (by omega)] at hj
      rw [List.getD_eq_getElem?_getD, List.getElem?_eq_getElem (by omega)]
      simpa using hj
    · rw [hcl, hN]
      obtain ⟨cs, hcs⟩ : ∃ cs, (#[Value.int IntKind.u8 y0, .int .u8 y1, .int .u8 y2, .int .u8 y3].toList.take 0 ++ ((xs.take 4).map (Value.int .u8) ++ #[Value.int IntKind.u8 y0, .int .u8 y1, .int .u8 y2, .int .u8 y3].toList.drop (0 + N))).toArray = cs := ⟨_, rfl⟩
      rw [hcs]
      have hh : (w.setRow g cs).heap[g]? = some (.cells cs t (0, 0)) := setRow_heap w g _ cs t _ hg
      refine h _ ⟨rfl, rfl, rfl, by simp, fun k hk hne => setRow_other w g k _ (fun e => hne (by rw [e]))⟩ (fun h4 j hj => ?_) (hfz _ _ hh)
      have hN4 : N = 4 := by rw [← hN]; exact Nat.min_eq_right h4
      subst hN4
      have e1 : cs[j]? = some (.int .u8 (nthB xs j)) := by
        unfold nthB
        rw [← hcs]
        simp only [List.take_zero, List.nil_append, List.getElem?_toArray]
        rw [List.getElem?_append_left (by rw [hcl, hN]; exact hj), List.getElem?_map, List.getElem?_take_of_lt hj, List.getD_eq_getElem?_getD, List.getElem?_eq_getElem (by omega)]
        rfl
      simp [World.cell?, hh, e1]

set_option maxHeartbeats 800000 in
set_option maxRecDepth 100000 in
theorem split_any (p : Option Addr) (n c : Nat) (xs : List Int) (w : World) (h : Byt w p n c xs) (hb : n ≤ 140737488355328) :
    Calls Tryd.prog 102 #[.slice p n c] w (Split4 w xs n) := by
  have H := hidden h
  have hn := h.le
  obtain ⟨N, hN⟩ : ∃ N, Nat.min n 4 = N := ⟨_, rfl⟩
  have HY := hidden ((h.alloc (.cells #[.int .u8 0, .int .u8 0, .int .u8 0, .int .u8 0] 102)).alloc (.cells #[.int .u8 0, .int .u8 0, .int .u8 0, .int .u8 0] 102))
  have HB := hidden (((Below.refl w.heap.size w).alloc (Nat.le_refl _) (.cells #[.int .u8 0, .int .u8 0, .int .u8 0, .int .u8 0] 102)).alloc (by simp) (.cells #[.int .u8 0, .int .u8 0, .int .u8 0, .int .u8 0] 102))
  clear h
  go_enter Tryd.func102, Tryd.ntmps102
  go_wp2_with (first
    | (go_loud (refine wpList_copy4 rfl (.tmp 6) (.tmp 7) 22 76 rfl 5 Tryd.underlying22 Tryd.sizeByte (w.heap.size + 1) rfl 0 0 0 0 102 ?_ _ _ _ xs rfl HY.out N hN ?_))
    | fail)
  · have := heap_alloc_new (w.alloc (.cells #[.int .u8 0, .int .u8 0, .int .u8 0, .int .u8 0] 102)) (.cells #[.int .u8 0, .int .u8 0, .int .u8 0, .int .u8 0] 102)
    simpa using this
  · intro w1 hg hc hf
    have HB1 := hidden (HB.out.grown hg HB.out.size (fun j hj => by cases hj; omega))
    have HC := hidden hc
    have r0 := hg.cell (show ((w.alloc (.cells #[.int .u8 0, .int .u8 0, .int .u8 0, .int .u8 0] 102)).alloc (.cells #[.int .u8 0, .int .u8 0, .int .u8 0, .int .u8 0] 102)).cell? ⟨w.heap.size, 0, none⟩ = some (.int .u8 0) by go_simp) (by simp)
    have r1 := hg.cell (show ((w.alloc (.cells #[.int .u8 0, .int .u8 0, .int .u8 0, .int .u8 0] 102)).alloc (.cells #[.int .u8 0, .int .u8 0, .int .u8 0, .int .u8 0] 102)).cell? ⟨w.heap.size, 1, none⟩ = some (.int .u8 0) by go_simp) (by simp)
    have r2 := hg.cell (show ((w.alloc (.cells #[.int .u8 0, .int .u8 0, .int .u8 0, .int .u8 0] 102)).alloc (.cells #[.int .u8 0, .int .u8 0, .int .u8 0, .int .u8 0] 102)).cell? ⟨w.heap.size, 2, none⟩ = some (.int .u8 0) by go_simp) (by simp)
    have r3 := hg.cell (show ((w.alloc (.cells #[.int .u8 0, .int .u8 0, .int .u8 0, .int .u8 0] 102)).alloc (.cells #[.int .u8 0, .int .u8 0, .int .u8 0, .int .u8 0] 102)).cell? ⟨w.heap.size, 3, none⟩ = some (.int .u8 0) by go_simp) (by simp)
    have rf : ∀ j, w1.frozen? ⟨w.heap.size, j, none⟩ = false := fun j => (World.frozen?_of_block (a := ⟨w.heap.size, j, none⟩) (hg.block w.heap.size (by simp; omega) (by simp))).trans (by go_simp)
    clear hg hc
    by_cases h4 : n < 4
    · obtain rfl : N = n := by rw [← hN]; exact Nat.min_eq_left (by omega)
      clear hN hf
      go_wp2_with fail
      refine ret_f4 (g := w.heap.size) (a := 0) (b := 0) (c := 0) (d := 0) rfl rfl rfl rfl rfl (by go_simp) (by go_simp) (by go_simp) (by go_simp) ?_
      exact ⟨(((HB1.out.setCell (p := ⟨w.heap.size, 0, none⟩) (Nat.le_refl _) _).setCell (p := ⟨w.heap.size, 1, none⟩) (Nat.le_refl _) _).setCell (p := ⟨w.heap.size, 2, none⟩) (Nat.le_refl _) _).setCell (p := ⟨w.heap.size, 3, none⟩) (Nat.le_refl _) _, Or.inl ⟨h4, rfl⟩⟩
    · obtain rfl : N = 4 := by rw [← hN]; exact Nat.min_eq_right (by omega)
      have hpart := H.out.part 4 n (by omega) (Nat.le_refl _)
      rw [List.take_of_length_le (by rw [H.out.len]; exact Nat.le_refl _)] at hpart
      obtain ⟨c0, c1, c2, c3⟩ : w1.cell? ⟨w.heap.size + 1, 0, none⟩ = some (.int .u8 (nthB xs 0)) ∧ w1.cell? ⟨w.heap.size + 1, 1, none⟩ = some (.int .u8 (nthB xs 1)) ∧ w1.cell? ⟨w.heap.size + 1, 2, none⟩ = some (.int .u8 (nthB xs 2)) ∧ w1.cell? ⟨w.heap.size + 1, 3, none⟩ = some (.int .u8 (nthB xs 3)) :=
        ⟨HC.out (by omega) 0 (by omega), HC.out (by omega) 1 (by omega), HC.out (by omega) 2 (by omega), HC.out (by omega) 3 (by omega)⟩
      have HR := hidden (fun wx (hb : Below w1.heap.size w1 wx) => And.intro (cell_below hb _ _ r0) (And.intro (cell_below hb _ _ r1) (And.intro (cell_below hb _ _ r2) (And.intro (cell_below hb _ _ r3) (fun j => (World.frozen?_of_block (a := ⟨w.heap.size, j, none⟩) (hb.block w.heap.size (World.block_lt_of_cell? w1 _ r0))).trans (rf j))))))
      have HK := hidden (fun wx (hb : Below w1.heap.size w1 wx) => And.intro (cell_below hb _ _ c0) (And.intro (cell_below hb _ _ c1) (And.intro (cell_below hb _ _ c2) (cell_below hb _ _ c3))))
      obtain ⟨bb, oo, rfl, -⟩ := H.out.at_ (by omega)
      have hrl := H.out.len
      have hcap := H.out.cap
      have hrng := rng_drop H.out.rng 4
      have hdl : (xs.drop 4).length = n - 4 := by rw [List.length_drop, hrl]
      have HD := hidden hdl
      have HG := hidden hrng
      have hbig := H.out.big
      unfold maxLen at hbig
      have hn4 : (4 : Int) ≤ n := by omega
      have hnc : (n : Int) ≤ c := by omega
      have HP1 := hidden hpart
      clear hpart hrl hdl hrng hN H HC HY hf
      have hcc : (c = 4 ∧ n = 4) ∨ c ≠ 4 := by omega
      go_wp2_with fail
      have HBD := hidden (show Below w1.heap.size w1 w1.drew from drew_below ⟨1, rfl⟩)
      rcases hcc with ⟨rfl, rfl⟩ | hcc
      all_goals
        first | (rw [if_pos rfl, Nat.sub_self] at HP1) | (rw [if_neg hcc, Option.map_some, WideShapes.add_plain] at HP1)
        have HPD := hidden ((HP1.out.below HB1.out).below HBD.out)
        go_region_held3 (fun w' => w'.cell? ⟨w.heap.size + 1, 0, none⟩ = some (.int .u8 (nthB xs 0)) ∧ w'.cell? ⟨w.heap.size + 1, 1, none⟩ = some (.int .u8 (nthB xs 1)) ∧ w'.cell? ⟨w.heap.size + 1, 2, none⟩ = some (.int .u8 (nthB xs 2)) ∧ w'.cell? ⟨w.heap.size + 1, 3, none⟩ = some (.int .u8 (nthB xs 3))) (first | exact HK.out _ HBD.out | exact HK.out _ (HBD.out.trans hbc) | go_keep)
          (first
          | (go_at_call 104; (with_reducible refine (cloneB_any _ _ _ _ _ HPD.out (by omega)).mono ?_); rintro e w2 ⟨v2, rfl, ho, hbc⟩; have HO2 := hidden ho; obtain ⟨z0, z1, z2, z3, zf⟩ := HR.out _ (HBD.out.trans hbc); clear r0 r1 r2 r3 rf)
          | fail)
        all_goals
          have hs1 := HB1.out.size
          have hks : w.heap.size < w1.drew.heap.size := World.block_lt_of_cell? w1 _ c0 |> fun h => by simp at h ⊢; omega
          obtain ⟨q2, d2, rfl, hf2⟩ := HO2.out.frs HD.out HG.out
          have hB2 := HB1.out.trans ((HBD.out.trans hbc).mono HB1.out.size)
          have hF := ((((hf2.low (grown_set w2 w.heap.size 0 (.int .u8 (nthB xs 0))) hks).low (grown_set _ w.heap.size 1 (.int .u8 (nthB xs 1))) hks).low (grown_set _ w.heap.size 2 (.int .u8 (nthB xs 2))) hks).low (grown_set _ w.heap.size 3 (.int .u8 (nthB xs 3))) hks).mono (by omega : w.heap.size ≤ w1.drew.heap.size)
          have hB := (((hB2.setCell (p := ⟨w.heap.size, 0, none⟩) (Nat.le_refl _) (.int .u8 (nthB xs 0))).setCell (p := ⟨w.heap.size, 1, none⟩) (Nat.le_refl _) (.int .u8 (nthB xs 1))).setCell (p := ⟨w.heap.size, 2, none⟩) (Nat.le_refl _) (.int .u8 (nthB xs 2))).setCell (p := ⟨w.heap.size, 3, none⟩) (Nat.le_refl _) (.int .u8 (nthB xs 3))
          have HF := hidden hF
          have HBB := hidden hB
          clear ho hbc HO2 hf2 hB2 hF hB
          go_wp2
          refine ret_f4 (g := w.heap.size) (a := nthB xs 0) (b := nthB xs 1) (c := nthB xs 2) (d := nthB xs 3) rfl rfl rfl rfl rfl (by go_simp) (by go_simp) (by go_simp) (by go_simp) ?_
          exact ⟨HBB.out, Or.inr ⟨by omega, q2, d2, rfl, HF.out⟩⟩
end Go.Proofs.YtpocehpejbnemaaDoor
