/-
  What chain.Parse returns: the payloads in any bytes, or the first error.
-/
import Derived.Test.YtdlcdegfoadajaaPayloads
namespace Go.Proofs.Ytdlcdegfoadajaa
open Go.RowKit Go.Shelf
set_option linter.unusedVariables false
attribute [local go_sem] Oper.semAt_some

theorem cells_ne {U : World} {b r : Nat} {j : Nat} {v : Value} (h : U.cell? ⟨b, j, none⟩ = some v) (hr : ∃ o : Obj, U.heap[r]? = some o ∧ o.isCells = false) : b ≠ r := by
  obtain ⟨o, ho, hc⟩ := cells_of_cell h
  obtain ⟨o', ho', hc'⟩ := hr
  intro e
  simp only at ho
  rw [e, ho'] at ho
  cases ho
  rw [hc] at hc'
  cases hc'
theorem offB_non {U : World} {base : Nat} {row : Option Nat} (h : ∀ r, row = some r → r < base ∨ ∃ o : Obj, U.heap[r]? = some o ∧ o.isCells = false) : OffB U base row := fun r e => by
  rcases h r e with h | ⟨o, ho, hc⟩
  · exact Or.inl h
  · refine Or.inr (fun cur fz hh => ?_)
    rw [hh] at ho
    cases ho
    cases hc
theorem bod_abides (base Bd : Nat) : AbidesN Bd (fun (x : RawP) U => x.bod U base) := fun x U U' row h hg hr => Bod.grown h hg (offB_non (fun r e => Or.inr (hr r e).2))
theorem end_abides (R : Nat) (p : Option Addr) (n c : Nat) (r : ResC) (Bd : Nat) : AbidesN Bd (EndP R p n c r) := fun pre U U' row h hg hr => by
  obtain ⟨a, b, d, hrd, rest⟩ := h
  exact ⟨a, b, d, hrd.grown hg (fun e => cells_ne hrd.c0 (hr R e.symm).2 rfl), rest⟩

/-- What the loop holds: the payloads so far. -/
def InvP (w : World) (pre : List RawP) (U : World) : Prop :=
  (∃ v, U.cell? ⟨w.heap.size + 1, 0, none⟩ = some v ∧ U.frozen? ⟨w.heap.size + 1, 0, none⟩ = false ∧ Rws U (w.heap.size + 2) v pre) ∧ Below w.heap.size w U
theorem inv_abides (w : World) (Bd : Nat) (hB : w.heap.size ≤ Bd) : AbidesR w.heap.size Bd (InvP w) := fun pre U U' row h hg hr => by
  obtain ⟨⟨v, hc, hf, hw⟩, hb⟩ := h
  have hne : some (w.heap.size + 1) ≠ row := fun e => by
    rcases hr _ e.symm with h | ⟨_, h⟩
    · omega
    · exact cells_ne hc h rfl
  have hlt := World.block_lt_of_cell? U _ hc
  refine ⟨⟨v, hg.cell hc hne, (World.frozen?_of_block (a := ⟨w.heap.size + 1, 0, none⟩) (hg.block _ hlt hne)).trans hf, hw.grown hg ?_ (offB_non (fun r e => ?_))⟩, hb.grown hg hb.size (fun k e => ?_)⟩
  · intro r e ho
    rcases hr r e with h | ⟨_, h⟩
    · have := (hw.own.lt r ho).1
      omega
    · obtain ⟨o, ho', hc'⟩ := h
      rcases hw.own.2 with ⟨rfl, _⟩ | ⟨g, cap, cur, rfl, _, hh, _⟩
      · simp [Value.ownBlock] at ho
      · simp [Value.ownBlock] at ho
        subst ho
        rw [hh] at ho'
        cases ho'
        cases hc'
  · rcases hr r e with h | ⟨_, h⟩
    · exact Or.inl (by omega)
    · exact Or.inr h
  · rcases hr k e with h | ⟨h, _⟩ <;> omega

/-- append(l, r...) in a fenced walk. -/
theorem wpListIn_append_rws {F : Fence} {nn : Nat} (w : World) {ops : Array Oper} {rest : List Oper} {o : Oper} {a : Act} {Q : Exit → Act → World → Prop} (hgd : o.guard = none) (s x : Operand)
    (ho : o.op = .call { callee := .builtin .append, args := #[s, x], argTypes := #[26, 26] })
    (base : Nat) (v : Value) (l : List RawP) (hs : a.eval s = v) (hv : Rws w base v l)
    (p : Option Addr) (m c : Nat) (r : List RawP) (hx : a.eval x = .slice p m c) (hsrc : SrcR w p m r) (hr : ∀ x ∈ r, x.bod w base) (hb : l.length + m ≤ 1000000) (hbase : base ≤ w.heap.size)
    (h : ∀ v' w', Rws w' base v' (l ++ r) → w.grownBy w' v.ownBlock → wpListIn F nn Try.prog ops Q rest (a.put o.dst v') w') : wpListIn F nn Try.prog ops Q (o :: rest) a w := by
  refine wpListIn_plain hgd fun K hK => ?_
  obtain ⟨v', w', hrun, h2, h3⟩ := run_append_rws w base o.type v l hv p m c r hsrc hr hb hbase
  unfold Oper.wpIn
  refine ⟨?_, ?_⟩
  · simp [Oper.about, ho, resolve, Target.leads, Sem.run_pure]
  · rw [Oper.semAt_plain F _ _ (by rw [ho]; intro c hc'; cases hc')]
    simp [execOp, ho, resolve, invoke, builtin, hs, hx, hrun, Result.andThen]
    exact hK _ _ (h v' w' h2 h3)

theorem cell_of_heap {U : World} {b j : Nat} {cs : Array Value} {e : TypeId} {v : Value} (h : U.heap[b]? = some (.cells cs e)) (hj : cs[j]? = some v) : U.cell? ⟨b, j, none⟩ = some v := by
  simp [World.cell?, h, hj]

set_option maxHeartbeats 3200000 in
set_option maxRecDepth 100000 in
theorem parseC_any (p : Option Addr) (n c : Nat) (xs : List Int) (w : World) (h : Byt w p n c xs) (hb : n ≤ 140737488351232) (first : Int) (r : ResC) (hr : parseTop first xs = r) :
    Calls Try.prog 14 #[.int .i64 first, .slice p n c] w (ParsedC w r) := by
  have HX := hidden h
  by_cases hf : first < 0 ∨ 255 < first
  · have hr0 : failC 5 = r := by rw [← hr, parseTop, if_pos hf]
    have HR := hidden hr0
    clear hr hr0 h
    rcases hf with hf | hf
    · go_enter Try.func14, Try.ntmps14
      go_wp2
      go_ret3
      exact parsed_fail w _ 5 r HR.out (Below.refl _ _)
    · go_enter Try.func14, Try.ntmps14
      go_wp2
      go_ret3
      exact parsed_fail w _ 5 r HR.out (Below.refl _ _)
  have hr0 : parseC 40 first xs = r := by rw [← hr, parseTop, if_neg hf]
  have HR := hidden hr0
  have hf1 : ¬ first < 0 := by omega
  have hf2 : ¬ 255 < first := by omega
  clear hr hr0 h hf
  refine (callsIn_wide (n := 6)).1 ?_
  refine callsIn_of_wp_marks Try.func14 rfl trivial ?_ rfl
  simp only [Try.ntmps14, List.size_toArray, List.length_cons, List.length_nil, Nat.reduceAdd, Nat.reduceSub, Array.replicate_succ, Array.replicate_zero, List.push_toArray, List.append_toArray, List.nil_append, List.cons_append]
  gi_wp2
  have hB0 : Below w.heap.size w ((w.alloc (.cells #[.slice p n c, .int .i64 0, .int .i64 first, .int .i64 0, .int .i64 0] 58)).alloc (.cells #[.slice none 0 0] 26)) := ((Below.refl _ w).alloc (Nat.le_refl _) _).alloc (by simp) _
  have hR0 : Rdr ((w.alloc (.cells #[.slice p n c, .int .i64 0, .int .i64 first, .int .i64 0, .int .i64 0] 58)).alloc (.cells #[.slice none 0 0] 26)) w.heap.size p n c 0 first 0 0 :=
    ⟨by go_simp, by go_simp, by go_simp, by go_simp, by go_simp, fun j => by go_simp⟩
  have hI0 : InvP w [] ((w.alloc (.cells #[.slice p n c, .int .i64 0, .int .i64 first, .int .i64 0, .int .i64 0] 58)).alloc (.cells #[.slice none 0 0] 26)) :=
    ⟨⟨.slice none 0 0, by go_simp, by go_simp, Rws.nil _ _⟩, hB0⟩
  have hsz : ((w.alloc (.cells #[.slice p n c, .int .i64 0, .int .i64 first, .int .i64 0, .int .i64 0] 58)).alloc (.cells #[.slice none 0 0] 26)).heap.size = w.heap.size + 2 := by simp
  obtain ⟨W0, hW0⟩ : ∃ W0, (w.alloc (.cells #[.slice p n c, .int .i64 0, .int .i64 first, .int .i64 0, .int .i64 0] 58)).alloc (.cells #[.slice none 0 0] 26) = W0 := ⟨_, rfl⟩
  rw [hW0] at hB0 hR0 hI0 hsz ⊢
  have HSEQ := payloads_seq w W0 w.heap.size p n c xs first r HX.out hb hB0 (Nat.le_refl _) hR0 ⟨by omega, by omega⟩ HR.out 2 (w.heap.size + 2) (by omega)
  refine wpIn_rangeFunc_state rfl (by omega) (gf := 26) (bnd := #[.pointer (some ⟨w.heap.size, 0, none⟩)]) rfl trivial (enters_of Try.func26 (by kernel_rfl) rfl) (fun _ => rfl) HSEQ (by omega) (by omega)
    (bod_abides _ _) (end_abides _ _ _ _ _ _) (InvP w) (inv_abides w _ (by omega)) hI0
    (fun x U => { tmps := #[.int .i64 first, .slice p n c, undef, undef, .slice none 0 0, .int .i64 0, .int .i64 0, .pointer (some ⟨w.heap.size, 0, none⟩), .pointer (some ⟨w.heap.size + 1, 0, none⟩), .pointer (some ⟨U.heap.size, 0, none⟩), .int .i64 first, .bool false, .bool false, .int .i64 first, .bool false, .bool false, .slice p n c, .int .i64 first,
      .agg #[.slice p n c, .int .i64 0, .int .i64 first, .int .i64 0, .int .i64 0], .func (.func 26) #[.pointer (some ⟨w.heap.size, 0, none⟩)] #[], .agg #[.int .i64 x.k, .bool x.c, .slice x.p x.n x.m], undef, undef, undef, undef, undef, undef, undef, undef, undef, undef, undef, undef], defers := [] })
    (fun x => .cells #[.int .i64 x.k, .bool x.c, .slice x.p x.n x.m] 43) ?assign ?body ?done
  case assign =>
    intro l x U K hK
    simp only [encR]
    gi_wp2
    exact hK
  case body =>
    rintro l pre x U U2 ⟨⟨v, hc, hf, hw⟩, hbl⟩ hs hlen ho hU
    have c0 := cell_of_heap (j := 0) ho rfl
    have c1 := cell_of_heap (j := 1) ho rfl
    have c2 := cell_of_heap (j := 2) ho rfl
    obtain ⟨pv, cv, rfl, _⟩ := hw.rd rfl
    have HW := hidden (hw.alloc (.cells #[.int .i64 x.k, .bool x.c, .slice x.p x.n x.m] 43))
    have HBL := hidden hbl
    have HS := hidden (show Bod U2 (w.heap.size + 2) x.p x.n x.m x.b from hs)
    have hsz2 : w.heap.size + 1 < U2.heap.size := World.block_lt_of_cell? U2 _ hc
    have hne2 : w.heap.size + 1 ≠ U2.heap.size := by omega
    clear hw hbl hs ho
    gi_wp2_with (gi_at_builtin; refine wpListIn_append_rws _ rfl _ _ rfl (w.heap.size + 2) _ pre rfl HW.out _ _ _ _ rfl (SrcR.new U2 x.k x.c x.p x.n x.m x.b _) ?c1 ?c2 ?c3 ?_)
    case c1 =>
      intro y hy
      rw [List.mem_singleton.1 hy]
      exact HS.out.alloc _
    case c2 => omega
    case c3 => simp; omega
    intro v' w3 hrw3 hg3
    have hown := fun e => (HW.out.own.lt (w.heap.size + 1) e).1
    have hc3 := hg3.cell (cell_below ((Below.refl _ U2).alloc (Nat.le_refl _) _) _ _ hc) (fun e => by have := hown e.symm; omega)
    have hf3 : w3.frozen? ⟨w.heap.size + 1, 0, none⟩ = false := (World.frozen?_of_block (a := ⟨w.heap.size + 1, 0, none⟩) (hg3.block _ (by simp; omega) (fun e => by have := hown e.symm; omega))).trans (by go_simp)
    have HB3 := hidden ((HBL.out.alloc HBL.out.size (.cells #[.int .i64 x.k, .bool x.c, .slice x.p x.n x.m] 43)).grown hg3 (by have := HBL.out.size; simp; omega) (fun k e => by have := (HW.out.own.lt k e).1; omega))
    have HK3 := hidden ((KeepsOthers.alloc U2 (.cells #[.int .i64 x.k, .bool x.c, .slice x.p x.n x.m] 43)).trans (KeepsOthers.of_grownBy hg3 (fun j o e ho => by
      rcases HW.out.own.2 with ⟨hv, _⟩ | ⟨g, cap, cur, hv, _, hh, _⟩
      · simp at hv
        rw [hv.1] at e
        simp [Value.ownBlock] at e
      · simp at hv
        rw [hv.1] at e
        simp [Value.ownBlock] at e
        subst e
        rw [hh] at ho
        cases ho
        rfl)))
    have HBB := hidden (((Below.refl (w.heap.size + 1) U2).alloc (by omega) (.cells #[.int .i64 x.k, .bool x.c, .slice x.p x.n x.m] 43)).grown hg3 (by simp; omega) (fun k e => by have := (HW.out.own.lt k e).1; omega))
    have HR3 := hidden hrw3
    clear hg3 hown hrw3 HW HBL HS hc hf
    obtain ⟨pv', cv', rfl, _⟩ := HR3.out.rd (n := pre.length + 1) (by simp)
    gi_wp2
    refine ⟨HK3.out.trans (KeepsOthers.setCell _ _ _), HBB.out.setCell (p := ⟨w.heap.size + 1, 0, none⟩) (Nat.le_refl _) _, ⟨_, World.cell?_setCell_same' _ _ _ (by rw [hc3]; rfl), by rw [World.frozen?_setCell]; exact hf3, HR3.out.low (grown_set _ _ _ _) (show w.heap.size + 1 < w.heap.size + 2 by omega)⟩, HB3.out.setCell (p := ⟨w.heap.size + 1, 0, none⟩) (by simp) _⟩
  case done =>
    rintro D pre W hD ⟨a, b, d, hrd, hend, hlen⟩ ⟨⟨v, hc, hf, hw⟩, hbl⟩ hK
    have fin : ∀ (nq : Nat), Below w.heap.size w ((W.drewN nq).putObj D (.deferred none)) ∧ Rws ((W.drewN nq).putObj D (.deferred none)) w.heap.size v pre := fun nq => by
      have hKq : (W.drewN nq).heap[D]? = some (.deferred (some [])) := hK
      have hg : W.grownBy ((W.drewN nq).putObj D (.deferred none)) (some D) := grown_trans (grown_drewN W nq _) (grownBy_putObj' _ D _)
      refine ⟨hbl.grown hg hbl.size (fun k e => by cases e; omega), (hw.grown hg (fun r e ho => ?_) (offB_non (fun r e => Or.inr (by cases e; exact ⟨_, hK, rfl⟩)))).mono (by omega)⟩
      cases e
      rcases hw.own.2 with ⟨rfl, _⟩ | ⟨g, cap, cur, rfl, _, hh, _⟩
      · simp [Value.ownBlock] at ho
      · simp [Value.ownBlock] at ho
        subst ho
        rw [hh] at hK
        cases hK
    obtain ⟨pv, cv, rfl, _⟩ := hw.rd rfl
    have FIN := hidden fin
    have HEND := hidden hend
    obtain ⟨c0, c1, c2, c3, c4, fr⟩ := hrd
    have HKD := hidden hK
    clear fin hend hw hbl c0 c1 c2 fr hf
    by_cases he : r.e = 0
    · have e1 := HEND.out he
      rw [he] at c4
      rw [e1.1] at c3
      have he0 := hidden he
      have HMAP := hidden e1.2
      clear e1 he
      generalize hrn : r.n = rn at *
      gi_wp2
      gi_quiet (fail)
      gi_wp2
      refine ⟨by simp, .inl ⟨_, _, rfl, run_takeDeferred (show (W.drewN nq).heap[D]? = _ from HKD.out), ?_⟩⟩
      exact ⟨_, results_tmp3 rfl _ _ _, ⟨_, pre, by rw [hrn, he0.out]; rfl, (FIN.out nq).2, HMAP.out, hlen, (FIN.out nq).1⟩⟩
    · have he1 : (r.e != 0) = true := by simpa using he
      have hform : failC r.e = r := by
        have := parse_form 40 first xs
        rw [HR.out] at this
        exact (this he).symm
      have HFO := hidden hform
      clear he hform
      generalize hre : r.e = re at *
      gi_wp2
      gi_quiet (fail)
      gi_wp2
      refine ⟨by simp, .inl ⟨_, _, rfl, run_takeDeferred (show (W.drewN nq).heap[D]? = _ from HKD.out), ?_⟩⟩
      refine ⟨_, results_tmp3 rfl _ _ _, ?_⟩
      simpa using parsed_fail w _ re r HFO.out (FIN.out nq).1
end Go.Proofs.Ytdlcdegfoadajaa
