/-
  What an exchange needs (message.needed): a map literal from ints to slices, looked up once.
-/
import Derived.Test.YtnnbfhjbaagnkaaQMsgMap
import Derived.Test.YtnnbfhjbaagnkaaQHead
namespace Go.Proofs.Ytnnbfhjbaagnkaa
open Go.RowKit
open Go.Maps (Keyed IsMap)
set_option linter.unusedVariables false
set_option maxRecDepth 100000

/-- The slice reads as these ints. -/
def IntsAt (w : World) (v : Value) (l : List Int) : Prop := ∃ (p : Option Addr) (n c : Nat), v = .slice p n c ∧ n = l.length ∧ n ≤ 1000 ∧ (0 < n → ∃ g, p = some ⟨g, 0, none⟩ ∧ ∀ i u, l[i]? = some u → w.cell? ⟨g, i, none⟩ = some (.int .i64 u))
theorem IntsAt.keep {w w' : World} {v : Value} {l : List Int} (h : IntsAt w v l) (hk : ∀ a v, w.cell? a = some v → w'.cell? a = some v) : IntsAt w' v l := by
  obtain ⟨p, n, c, e, hn, hm, hc⟩ := h
  refine ⟨p, n, c, e, hn, hm, fun h0 => ?_⟩
  obtain ⟨g, eg, hc⟩ := hc h0
  exact ⟨g, eg, fun i u hu => hk _ _ (hc i u hu)⟩
theorem IntsAt.below {w w' : World} {v : Value} {l : List Int} (h : IntsAt w v l) (hb : Below w.heap.size w w') : IntsAt w' v l := h.keep (cell_below hb)
theorem IntsAt.nil (w : World) : IntsAt w (.slice none 0 0) [] := ⟨none, 0, 0, rfl, rfl, by omega, fun h => by omega⟩
theorem IntsAt.new (w : World) (l : List Int) (T : TypeId) (c : Nat) (hl : l.length ≤ 1000) : IntsAt (w.alloc (.cells (l.map (Value.int .i64)).toArray T)) (.slice (some ⟨w.heap.size, 0, none⟩) l.length c) l :=
  ⟨_, _, _, rfl, rfl, hl, fun _ => ⟨_, rfl, fun i u hu => by
    rw [World.cell?_alloc_at _ _ _ _ rfl]
    simp [hu]⟩⟩
theorem IntsAt.map {w w' : World} {v : Value} {l : List Int} {b : Nat} {es : Array MapEntry} {k : Nat} (h : IntsAt w v l) (hm : w.heap[b]? = some (.map es k)) (hg : w.grownBy w' (some b)) : IntsAt w' v l :=
  h.keep fun a u hc => hg.cell hc (by
    intro e
    injection e with e
    simp only [World.cell?] at hc
    rw [e, hm] at hc
    simp at hc)

def readS (v : Value) : Option (DataW Value × List MemPlace) := some (.held v, [])
def nilS : Value := .slice none 0 0
/-- The block is a map of the call's own; this is what stands at each int. -/
def Tab (w : World) (b N : Nat) (f : Int → Value) : Prop := ∃ (D : DataW Value), w.ownsMap Try.prog 3 readS b N D ∧ IsMap D ∧ ∀ t, IntR t → D.atKey (.int .i64 t) (.held nilS) = .held (f t)
theorem Tab.made (w : World) : Tab (w.alloc (.map #[] 0)) w.heap.size 0 (fun _ => nilS) := ⟨_, World.ownsMap_made _ _ _ _, ⟨[], rfl⟩, fun t h => by simp [DataW.atKey]⟩
theorem Tab.grown {w w' : World} {b N : Nat} {f : Int → Value} {row : Option Nat} (h : Tab w b N f) (hg : w.grownBy w' row) (hne : some b ≠ row) : Tab w' b N f := by
  obtain ⟨D, h1, h2⟩ := h
  exact ⟨D, h1.kept hg hne, h2⟩
theorem Tab.alloc {w : World} {b N : Nat} {f : Int → Value} (h : Tab w b N f) (o : Obj) : Tab (w.alloc o) b N f := h.grown (row := none) (grown_of_below ((Below.refl w.heap.size w).alloc (Nat.le_refl _) o) none) (by simp)
theorem Tab.isMap {w : World} {b N : Nat} {f : Int → Value} (h : Tab w b N f) : ∃ es k, w.heap[b]? = some (.map es k) := by
  obtain ⟨D, ⟨es, k, h, _⟩, _⟩ := h
  exact ⟨es, k, h⟩
theorem Try.zeroInts (w : World) : (zeroValue 51).run Try.prog w = .ok nilS w := by kernel_rfl
theorem Tab.look {w : World} {b N : Nat} {f : Int → Value} (h : Tab w b N f) (t : Int) (hi : IntR t) :
    (Instr.lookup 85 (.map (some b)) (.int .i64 t) false).run Try.prog w = .ok (f t) w := by
  obtain ⟨D, h1, hm, h2⟩ := h
  obtain ⟨v, ps, hrun, hv⟩ := h1.lookup lawInt Try.underlying85 (Try.zeroInts w) (zd := .held nilS) (zp := []) rfl (key_int t hi)
  rw [h2 t hi] at hv
  unfold readS at hv
  simp at hv
  rw [← hv.1]
  exact hrun
/-- An insertion of the literal as a law of the walk. -/
theorem wpList_tab (w : World) {ops : Array Oper} {rest : List Oper} {o : Oper} {a : Act} {Q : Exit → Act → World → Prop} (hg : o.guard = none) (m x v : Operand) (hop : o.op = Op.insert 85 m x v)
    (b N : Nat) (f : Int → Value) (h : Tab w b N f) (hN : N ≤ 900) (hm : a.eval m = .map (some b)) (t : Int) (hx : a.eval x = .int .i64 t) (u : Value) (hv : a.eval v = u) (hi : IntR t)
    (hK : ∀ w', Tab w' b (N + 1) (fun z => if z = t then u else f z) → w.grownBy w' (some b) → wpList Try.prog ops Q rest (a.put o.dst undef) w') : wpList Try.prog ops Q (o :: rest) a w := by
  obtain ⟨D, h1, hmp, h2⟩ := h
  refine wpList_plain hg fun K' hK' => ?_
  obtain ⟨w', hrun, r1, r2⟩ := h1.update lawInt Try.underlying85 (by unfold maxLen; omega) (key_int t hi) (val := u) (d := .held u) (ps := []) rfl
  unfold Oper.wp
  simp [execOp, hop, hm, hx, hv, hrun, Result.andThen]
  refine hK' _ _ (hK w' ⟨_, r1, hmp.put _ _, fun z hz => ?_⟩ r2)
  · by_cases he : z = t
    · subst he
      rw [Maps.atKey_put_same hmp (lawInt.key (key_int z hz))]
      simp
    · have hne : (Lit.int .i64 z : Lit) ≠ .int .i64 t := by
        intro e
        injection e with _ e
        exact he e
      rw [Maps.atKey_put_other hne, h2 z hz]
      simp [he]

/-- While the literal is made: the map, the block of the parameter, the slices so far. -/
structure Lts (w wx : World) (b N : Nat) (g : Int → Value) (x : Int) (I : List (Value × List Int)) : Prop where
  tab : Tab wx b N g
  bel : Below w.heap.size w wx
  cx : wx.cell? ⟨w.heap.size, 3, none⟩ = some (.int .i64 x)
  lt : w.heap.size < b
  its : ∀ p ∈ I, IntsAt wx p.1 p.2
theorem Lts.step {w wx : World} {b N : Nat} {g : Int → Value} {x : Int} {I : List (Value × List Int)} (h : Lts w wx b N g x I) (l : List Int) (T : TypeId) (hl : l.length ≤ 1000) :
    Lts w (wx.alloc (.cells (l.map (Value.int .i64)).toArray T)) b N g x ((.slice (some ⟨wx.heap.size, 0, none⟩) l.length l.length, l) :: I) := by
  have hb : Below wx.heap.size wx (wx.alloc (.cells (l.map (Value.int .i64)).toArray T)) := (Below.refl _ _).alloc (Nat.le_refl _) _
  refine ⟨h.tab.alloc _, h.bel.alloc h.bel.size _, cell_below hb _ _ h.cx, h.lt, fun p hp => ?_⟩
  rcases List.mem_cons.1 hp with rfl | hp
  · exact IntsAt.new wx l T l.length hl
  · exact (h.its p hp).below hb
theorem Lts.ins {w wx wy : World} {b N M : Nat} {g k : Int → Value} {x : Int} {I : List (Value × List Int)} (h : Lts w wx b N g x I) (ht : Tab wy b M k) (hg : wx.grownBy wy (some b)) : Lts w wy b M k x I := by
  obtain ⟨es, cl, hm⟩ := h.tab.isMap
  exact ⟨ht, h.bel.grown hg h.bel.size (fun k hk => by cases hk; exact Nat.le_of_lt h.lt), hg.cell h.cx (by simp; have := h.lt; omega), h.lt, fun p hp => (h.its p hp).map hm hg⟩

/-- The types that an exchange needs. -/
def needL (x : Int) (q : Bool) : List Int := if x = 37 then [] else if x = 36 then [33, 40] else if x = 35 then [if q then 35 else 36, 39, 33, 44, 45] else if x = 34 then [33, 34, 40] else []
set_option maxHeartbeats 1600000 in
theorem needed_true (i r nx x f m : Int) (w : World) (hx : IntR x) (HQ : Hid (∀ W, Calls Try.prog 26 #[.agg #[.int .u64 i, .int .u64 r, .int .i64 nx, .int .i64 x, .int .i64 f, .int .u32 m]] W fun e w' => e = .returned (.bool true) ∧ Below W.heap.size W w')) :
    Calls Try.prog 22 #[.agg #[.int .u64 i, .int .u64 r, .int .i64 nx, .int .i64 x, .int .i64 f, .int .u32 m]] w fun e w' => ∃ v, e = .returned v ∧ IntsAt w' v (needL x true) ∧ Below w.heap.size w w' := by
  have hmm := @run_makeMap Try.prog
  have HX := hidden hx
  clear hx
  have HB0 := hidden ((Below.refl w.heap.size w).alloc (Nat.le_refl _) (.cells #[.int .u64 i, .int .u64 r, .int .i64 nx, .int .i64 x, .int .i64 f, .int .u32 m] 29))
  have HC0 : Hid ((w.alloc (.cells #[.int .u64 i, .int .u64 r, .int .i64 nx, .int .i64 x, .int .i64 f, .int .u32 m] 29)).cell? ⟨w.heap.size, 3, none⟩ = some (.int .i64 x)) := by
    rw [World.cell?_alloc_at _ _ _ _ rfl]
    rfl
  go_enter Try.func22, Try.ntmps22
  go_upto_region 5 with (first
    | (go_at_call 26; (with_reducible refine (HQ.out _).mono ?_); rintro _ w1 ⟨rfl, hb1⟩; have HB1 := hidden (HB0.out.trans (hb1.mono HB0.out.size)); have HC1 := hidden (cell_below hb1 _ _ HC0.out); have hl1 := World.block_lt_of_cell? _ _ HC1.out; clear hb1; have hsz : (w1.alloc (.map #[] 0)).heap.size = w1.heap.size + 1 := (by simp); have hL1 := (Lts.mk (w := w) (x := x) (I := []) (Tab.made w1) (HB1.out.alloc HB1.out.size _) (cell_below ((Below.refl _ _).alloc (Nat.le_refl _) (.map #[] 0)) _ _ HC1.out) hl1 (fun _ h => nomatch h)).step [33, 34, 40] 3 (by decide); rw [hsz] at hL1; have HL1 := hidden hL1; clear hL1 hsz)
    | (refine wpList_tab _ rfl _ _ _ rfl w1.heap.size 0 _ HL1.out.tab (by omega) rfl 34 rfl _ rfl (by unfold IntR; omega) ?_; rintro w2 hT2 hg2; have HL2 := hidden ((HL1.out.ins hT2 hg2).step [35, 39, 33, 44, 45] 3 (by decide)); clear hT2 hg2)
    | (refine wpList_tab _ rfl _ _ _ rfl w1.heap.size _ _ HL2.out.tab (by omega) rfl 35 rfl _ rfl (by unfold IntR; omega) ?_; rintro w3 hT3 hg3; have HL3 := hidden ((HL2.out.ins hT3 hg3).step [33, 40] 3 (by decide)); clear hT3 hg3)
    | (refine wpList_tab _ rfl _ _ _ rfl w1.heap.size _ _ HL3.out.tab (by omega) rfl 36 rfl _ rfl (by unfold IntR; omega) ?_; rintro w4 hT4 hg4; have HL4 := hidden ((HL3.out.ins hT4 hg4).step [] 3 (by decide)); clear hT4 hg4)
    | (refine wpList_tab _ rfl _ _ _ rfl w1.heap.size _ _ HL4.out.tab (by omega) rfl 37 rfl _ rfl (by unfold IntR; omega) ?_; rintro w5 hT5 hg5; have HL5 := hidden (HL4.out.ins hT5 hg5); clear hT5 hg5)
    | fail)
  have hcx := HL5.out.cx
  obtain ⟨v, hv, hI⟩ : ∃ v, (Instr.lookup 85 (.map (some w1.heap.size)) (.int .i64 x) false).run Try.prog w5 = .ok v w5 ∧ IntsAt w5 v (needL x true) := by
    refine ⟨_, HL5.out.tab.look x HX.out, ?_⟩
    have hits := HL5.out.its
    by_cases h37 : x = 37
    · subst h37
      exact hits (_, []) (by simp)
    by_cases h36 : x = 36
    · subst h36
      exact hits (_, [33, 40]) (by simp)
    by_cases h35 : x = 35
    · subst h35
      exact hits (_, [35, 39, 33, 44, 45]) (by simp)
    by_cases h34 : x = 34
    · subst h34
      exact hits (_, [33, 34, 40]) (by simp)
    simp only [h37, h36, h35, h34, if_false, needL]
    exact IntsAt.nil _
  have HI := hidden hI
  have HB5 := hidden HL5.out.bel
  clear hI HL1 HL2 HL3 HL4 HL5 HQ hmm HX HB0 HC0 HB1 HC1
  go_wp2
  go_ret
  exact ⟨_, rfl, HI.out, HB5.out⟩
set_option maxHeartbeats 1600000 in
theorem needed_false (i r nx x f m : Int) (w : World) (hx : IntR x) (HQ : Hid (∀ W, Calls Try.prog 26 #[.agg #[.int .u64 i, .int .u64 r, .int .i64 nx, .int .i64 x, .int .i64 f, .int .u32 m]] W fun e w' => e = .returned (.bool false) ∧ Below W.heap.size W w')) :
    Calls Try.prog 22 #[.agg #[.int .u64 i, .int .u64 r, .int .i64 nx, .int .i64 x, .int .i64 f, .int .u32 m]] w fun e w' => ∃ v, e = .returned v ∧ IntsAt w' v (needL x false) ∧ Below w.heap.size w w' := by
  have hmm := @run_makeMap Try.prog
  have HX := hidden hx
  clear hx
  have HB0 := hidden ((Below.refl w.heap.size w).alloc (Nat.le_refl _) (.cells #[.int .u64 i, .int .u64 r, .int .i64 nx, .int .i64 x, .int .i64 f, .int .u32 m] 29))
  have HC0 : Hid ((w.alloc (.cells #[.int .u64 i, .int .u64 r, .int .i64 nx, .int .i64 x, .int .i64 f, .int .u32 m] 29)).cell? ⟨w.heap.size, 3, none⟩ = some (.int .i64 x)) := by
    rw [World.cell?_alloc_at _ _ _ _ rfl]
    rfl
  go_enter Try.func22, Try.ntmps22
  go_upto_region 5 with (first
    | (go_at_call 26; (with_reducible refine (HQ.out _).mono ?_); rintro _ w1 ⟨rfl, hb1⟩; have HB1 := hidden (HB0.out.trans (hb1.mono HB0.out.size)); have HC1 := hidden (cell_below hb1 _ _ HC0.out); have hl1 := World.block_lt_of_cell? _ _ HC1.out; clear hb1; have hsz : (w1.alloc (.map #[] 0)).heap.size = w1.heap.size + 1 := (by simp); have hL1 := (Lts.mk (w := w) (x := x) (I := []) (Tab.made w1) (HB1.out.alloc HB1.out.size _) (cell_below ((Below.refl _ _).alloc (Nat.le_refl _) (.map #[] 0)) _ _ HC1.out) hl1 (fun _ h => nomatch h)).step [33, 34, 40] 3 (by decide); rw [hsz] at hL1; have HL1 := hidden hL1; clear hL1 hsz)
    | (refine wpList_tab _ rfl _ _ _ rfl w1.heap.size 0 _ HL1.out.tab (by omega) rfl 34 rfl _ rfl (by unfold IntR; omega) ?_; rintro w2 hT2 hg2; have HL2 := hidden ((HL1.out.ins hT2 hg2).step [36, 39, 33, 44, 45] 3 (by decide)); clear hT2 hg2)
    | (refine wpList_tab _ rfl _ _ _ rfl w1.heap.size _ _ HL2.out.tab (by omega) rfl 35 rfl _ rfl (by unfold IntR; omega) ?_; rintro w3 hT3 hg3; have HL3 := hidden ((HL2.out.ins hT3 hg3).step [33, 40] 3 (by decide)); clear hT3 hg3)
    | (refine wpList_tab _ rfl _ _ _ rfl w1.heap.size _ _ HL3.out.tab (by omega) rfl 36 rfl _ rfl (by unfold IntR; omega) ?_; rintro w4 hT4 hg4; have HL4 := hidden ((HL3.out.ins hT4 hg4).step [] 3 (by decide)); clear hT4 hg4)
    | (refine wpList_tab _ rfl _ _ _ rfl w1.heap.size _ _ HL4.out.tab (by omega) rfl 37 rfl _ rfl (by unfold IntR; omega) ?_; rintro w5 hT5 hg5; have HL5 := hidden (HL4.out.ins hT5 hg5); clear hT5 hg5)
    | fail)
  have hcx := HL5.out.cx
  obtain ⟨v, hv, hI⟩ : ∃ v, (Instr.lookup 85 (.map (some w1.heap.size)) (.int .i64 x) false).run Try.prog w5 = .ok v w5 ∧ IntsAt w5 v (needL x false) := by
    refine ⟨_, HL5.out.tab.look x HX.out, ?_⟩
    have hits := HL5.out.its
    by_cases h37 : x = 37
    · subst h37
      exact hits (_, []) (by simp)
    by_cases h36 : x = 36
    · subst h36
      exact hits (_, [33, 40]) (by simp)
    by_cases h35 : x = 35
    · subst h35
      exact hits (_, [36, 39, 33, 44, 45]) (by simp)
    by_cases h34 : x = 34
    · subst h34
      exact hits (_, [33, 34, 40]) (by simp)
    simp only [h37, h36, h35, h34, if_false, needL]
    exact IntsAt.nil _
  have HI := hidden hI
  have HB5 := hidden HL5.out.bel
  clear hI HL1 HL2 HL3 HL4 HL5 HQ hmm HX HB0 HC0 HB1 HC1
  go_wp2
  go_ret
  exact ⟨_, rfl, HI.out, HB5.out⟩
theorem needed_any (i r nx x f m : Int) (w : World) (hx : IntR x) :
    Calls Try.prog 22 #[.agg #[.int .u64 i, .int .u64 r, .int .i64 nx, .int .i64 x, .int .i64 f, .int .u32 m]] w fun e w' => ∃ v, e = .returned v ∧ IntsAt w' v (needL x (bits BinOp.and IntKind.i64 f 32 == 0)) ∧ Below w.heap.size w w' := by
  have HQ := hidden (fun W => request_any i r nx x f m W)
  generalize (bits BinOp.and IntKind.i64 f 32 == 0) = q at HQ
  cases q with
  | true => exact needed_true i r nx x f m w hx HQ
  | false => exact needed_false i r nx x f m w hx HQ
end Go.Proofs.Ytnnbfhjbaagnkaa
