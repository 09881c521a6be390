/-
  A map of the call's own from ints to bools that holds just those of a list.
  What an exchange needs (message.needed): a map literal from ints to slices, looked up once.
  Whether a message tells of an error (message.fails).
  Slices of ints, and rows of slices of bytes of the call's own.
  append onto a row of the call's own: where the result lies.
  What chain.Build returns: the bytes of the payloads, or the first error.
  What the document's own Slice returns, for every slice of bytes, place and length.
  What the document's own Parse of chains returns: the payloads in any bytes, or the first error.
  A range over a function whose function keeps a state of its own in one block, whatever the program: the statement's law, where the body always goes on.
-/
import Derived.Test.YtkniifopfgeopaaGreatJZ7
import Derived.Test.YtkniifopfgeopaaGreatJZ1
import Derived.Test.YtkniifopfgeopaaGreatJZ3
import Derived.Test.YtkniifopfgeopaaGreatJZ2
import Derived.Test.YtkniifopfgeopaaGreatJZ0
import Derived.Maps.OwnOps
import Derived.Maps.Views
import Derived.ArgAppend
import Derived.Deep.RegionLaw
import Derived.RangeFuncNested
import Derived.RangeFuncBound
import Derived.RangeFuncCalls
import Derived.RangeFuncLeaves
import Derived.Shelf.Abstract
import Derived.WalkKit
namespace Go.Proofs.YtkniifopfgeopaaGreat
open Go.RowKit
open Go.Maps (Keyed IsMap)
set_option linter.unusedVariables false
set_option maxRecDepth 100000

theorem lawInt : Keyed Tryz.prog 3 := Maps.int_keyed Tryz.underlying3
theorem key_int (t : Int) (h : IntR t) : keyOf Tryz.prog 3 (.int .i64 t) = some (.int .i64 t) := Maps.keyOf_int_mk Tryz.underlying3 (WalkArith.wf_i64 (by unfold IntR at h; omega))
/-- What the map reads as, and the ints that it holds. -/
structure FndD (D : DataW Unit) (ts : List Int) : Prop where
  map : IsMap D
  at_ : ∀ (t : Int), IntR t → D.atKey (.int .i64 t) (.lit (.bool false)) = .lit (.bool (decide (t ∈ ts)))
def Fnd (w : World) (b : Nat) (ts : List Int) : Prop := ∃ D : DataW Unit, w.ownsMap Tryz.prog 3 (plainElem Tryz.prog 4) b ts.length D ∧ FndD D ts
theorem Fnd.made (w : World) : Fnd (w.alloc (.map #[] 0)) w.heap.size [] := ⟨_, World.ownsMap_made _ _ _ _, ⟨[], rfl⟩, fun t h => by simp [DataW.atKey]⟩
theorem Fnd.lt {w : World} {b : Nat} {ts : List Int} (h : Fnd w b ts) : b < w.heap.size := by
  obtain ⟨D, h1, _⟩ := h
  exact h1.lt
theorem Fnd.grown {w w' : World} {b : Nat} {ts : List Int} {row : Option Nat} (h : Fnd w b ts) (hg : w.grownBy w' row) (hne : some b ≠ row) : Fnd w' b ts := by
  obtain ⟨D, h1, h2⟩ := h
  exact ⟨D, h1.kept hg hne, h2⟩
theorem Fnd.below {w w' : World} {b : Nat} {ts : List Int} (h : Fnd w b ts) (hb : Below w.heap.size w w') : Fnd w' b ts := h.grown (row := none) (grown_of_below hb none) (by simp)
theorem Fnd.notCells {w : World} {b : Nat} {ts : List Int} (h : Fnd w b ts) (cur : Array Value) (e : TypeId) (fz : Nat × Nat) : w.heap[b]? ≠ some (.cells cur e fz) := by
  obtain ⟨D, ⟨es, clock, h1, _⟩, _⟩ := h
  rw [h1]
  simp
theorem Tryz.zeroBoolI (w : World) : (zeroValue 4).run Tryz.prog w = .ok (.bool false) w := by kernel_rfl
theorem Fnd.look {w : World} {b : Nat} {ts : List Int} (h : Fnd w b ts) (t : Int) (hi : IntR t) :
    (Instr.lookup 77 (.map (some b)) (.int .i64 t) false).run Tryz.prog w = .ok (.bool (decide (t ∈ ts))) w := by
  obtain ⟨D, h1, h2⟩ := h
  obtain ⟨v, ps, hrun, hv⟩ := h1.lookup lawInt Tryz.underlying77 (Tryz.zeroBoolI w) (plainElem_bool Tryz.underlying4 false) (key_int t hi)
  rw [h2.at_ t hi] at hv
  have : v = .bool (decide (t ∈ ts)) := by
    unfold plainElem at hv
    rw [Tryz.underlying4] at hv
    cases v <;> simp at hv
    rw [hv.1]
  rw [← this]
  exact hrun
theorem FndD.put {D : DataW Unit} {ts : List Int} (h : FndD D ts) (t : Int) (hi : IntR t) : FndD (D.put (.int .i64 t) (.lit (.bool true))) (ts ++ [t]) := by
  refine ⟨h.map.put _ _, fun t' hi' => ?_⟩
  by_cases he : t' = t
  · subst he
    rw [Maps.atKey_put_same h.map (lawInt.key (key_int t' hi))]
    simp
  · have hne : (Lit.int .i64 t' : Lit) ≠ .int .i64 t := by
      intro e
      injection e with _ e
      exact he e
    rw [Maps.atKey_put_other hne, h.at_ t' hi']
    simp [he]
/-- A store into the map as a law of the walk. -/
theorem wpList_fnd (w : World) {ops : Array Oper} {rest : List Oper} {o : Oper} {a : Act} {Q : Exit → Act → World → Prop} (hg : o.guard = none) (m x v : Operand) (hop : o.op = Op.mapUpdate 77 m x v)
    (b : Nat) (ts : List Int) (h : Fnd w b ts) (hn : ts.length < maxLen) (hm : a.eval m = .map (some b)) (t : Int) (hx : a.eval x = .int .i64 t) (hv : a.eval v = .bool true) (hi : IntR t)
    (hK : ∀ w', Fnd w' b (ts ++ [t]) → w.grownBy w' (some b) → wpList Tryz.prog ops Q rest (a.put o.dst undef) w') : wpList Tryz.prog ops Q (o :: rest) a w := by
  obtain ⟨D, h1, h2⟩ := h
  refine wpList_mapUpdate_own w hg m x v _ hop _ _ lawInt Tryz.underlying77 _ b _ D hm h1 hn _ _ (.int .i64 t) hx hv (key_int t hi) _ [] (plainElem_bool Tryz.underlying4 true) ?_
  intro w' h3 h4
  exact hK w' ⟨_, by simpa using h3, h2.put t hi⟩ h4
end Go.Proofs.YtkniifopfgeopaaGreat

namespace Go.Proofs.YtkniifopfgeopaaGreat
open Go.RowKit
open Go.Maps (Keyed IsMap)
set_option linter.unusedVariables false
set_option maxRecDepth 100000

/-- The slice reads as these ints. -/
def IntsAt (w : World) (v : Value) (l : List Int) : Prop := ∃ (p : Option Addr) (n c : Nat), v = .slice p n c ∧ n = l.length ∧ n ≤ 1000 ∧ (0 < n → ∃ g, p = some ⟨g, 0, none⟩ ∧ ∀ i u, l[i]? = some u → w.cell? ⟨g, i, none⟩ = some (.int .i64 u))
theorem IntsAt.keep {w w' : World} {v : Value} {l : List Int} (h : IntsAt w v l) (hk : ∀ a v, w.cell? a = some v → w'.cell? a = some v) : IntsAt w' v l := by
  obtain ⟨p, n, c, e, hn, hm, hc⟩ := h
  refine ⟨p, n, c, e, hn, hm, fun h0 => ?_⟩
  obtain ⟨g, eg, hc⟩ := hc h0
  exact ⟨g, eg, fun i u hu => hk _ _ (hc i u hu)⟩
theorem IntsAt.below {w w' : World} {v : Value} {l : List Int} (h : IntsAt w v l) (hb : Below w.heap.size w w') : IntsAt w' v l := h.keep (cell_below hb)
theorem IntsAt.nil (w : World) : IntsAt w (.slice none 0 0) [] := ⟨none, 0, 0, rfl, rfl, by omega, fun h => by omega⟩
theorem IntsAt.new (w : World) (l : List Int) (T : TypeId) (c : Nat) (hl : l.length ≤ 1000) : IntsAt (w.alloc (.cells (l.map (Value.int .i64)).toArray T)) (.slice (some ⟨w.heap.size, 0, none⟩) l.length c) l :=
  ⟨_, _, _, rfl, rfl, hl, fun _ => ⟨_, rfl, fun i u hu => by
    rw [World.cell?_alloc_at _ _ _ _ rfl]
    simp [hu]⟩⟩
theorem IntsAt.map {w w' : World} {v : Value} {l : List Int} {b : Nat} {es : Array MapEntry} {k : Nat} (h : IntsAt w v l) (hm : w.heap[b]? = some (.map es k)) (hg : w.grownBy w' (some b)) : IntsAt w' v l :=
  h.keep fun a u hc => hg.cell hc (by
    intro e
    injection e with e
    simp only [World.cell?] at hc
    rw [e, hm] at hc
    simp at hc)

def readS (v : Value) : Option (DataW Value × List MemPlace) := some (.held v, [])
def nilS : Value := .slice none 0 0
/-- The block is a map of the call's own; this is what stands at each int. -/
def Tab (w : World) (b N : Nat) (f : Int → Value) : Prop := ∃ (D : DataW Value), w.ownsMap Tryz.prog 3 readS b N D ∧ IsMap D ∧ ∀ t, IntR t → D.atKey (.int .i64 t) (.held nilS) = .held (f t)
theorem Tab.made (w : World) : Tab (w.alloc (.map #[] 0)) w.heap.size 0 (fun _ => nilS) := ⟨_, World.ownsMap_made _ _ _ _, ⟨[], rfl⟩, fun t h => by simp [DataW.atKey]⟩
theorem Tab.grown {w w' : World} {b N : Nat} {f : Int → Value} {row : Option Nat} (h : Tab w b N f) (hg : w.grownBy w' row) (hne : some b ≠ row) : Tab w' b N f := by
  obtain ⟨D, h1, h2⟩ := h
  exact ⟨D, h1.kept hg hne, h2⟩
theorem Tab.alloc {w : World} {b N : Nat} {f : Int → Value} (h : Tab w b N f) (o : Obj) : Tab (w.alloc o) b N f := h.grown (row := none) (grown_of_below ((Below.refl w.heap.size w).alloc (Nat.le_refl _) o) none) (by simp)
theorem Tab.isMap {w : World} {b N : Nat} {f : Int → Value} (h : Tab w b N f) : ∃ es k, w.heap[b]? = some (.map es k) := by
  obtain ⟨D, ⟨es, k, h, _⟩, _⟩ := h
  exact ⟨es, k, h⟩
theorem Tryz.zeroInts (w : World) : (zeroValue 25).run Tryz.prog w = .ok nilS w := by kernel_rfl
theorem Tab.look {w : World} {b N : Nat} {f : Int → Value} (h : Tab w b N f) (t : Int) (hi : IntR t) :
    (Instr.lookup 128 (.map (some b)) (.int .i64 t) false).run Tryz.prog w = .ok (f t) w := by
  obtain ⟨D, h1, hm, h2⟩ := h
  obtain ⟨v, ps, hrun, hv⟩ := h1.lookup lawInt Tryz.underlying128 (Tryz.zeroInts w) (zd := .held nilS) (zp := []) rfl (key_int t hi)
  rw [h2 t hi] at hv
  unfold readS at hv
  simp at hv
  rw [← hv.1]
  exact hrun
/-- An insertion of the literal as a law of the walk. -/
theorem wpList_tab (w : World) {ops : Array Oper} {rest : List Oper} {o : Oper} {a : Act} {Q : Exit → Act → World → Prop} (hg : o.guard = none) (m x v : Operand) (hop : o.op = Op.insert 128 m x v)
    (b N : Nat) (f : Int → Value) (h : Tab w b N f) (hN : N ≤ 900) (hm : a.eval m = .map (some b)) (t : Int) (hx : a.eval x = .int .i64 t) (u : Value) (hv : a.eval v = u) (hi : IntR t)
    (hK : ∀ w', Tab w' b (N + 1) (fun z => if z = t then u else f z) → w.grownBy w' (some b) → wpList Tryz.prog ops Q rest (a.put o.dst undef) w') : wpList Tryz.prog ops Q (o :: rest) a w := by
  obtain ⟨D, h1, hmp, h2⟩ := h
  refine wpList_plain hg fun K' hK' => ?_
  obtain ⟨w', hrun, r1, r2⟩ := h1.update lawInt Tryz.underlying128 (by unfold maxLen; omega) (key_int t hi) (val := u) (d := .held u) (ps := []) rfl
  unfold Oper.wp
  simp [execOp, hop, hm, hx, hv, hrun, Result.andThen]
  refine hK' _ _ (hK w' ⟨_, r1, hmp.put _ _, fun z hz => ?_⟩ r2)
  · by_cases he : z = t
    · subst he
      rw [Maps.atKey_put_same hmp (lawInt.key (key_int z hz))]
      simp
    · have hne : (Lit.int .i64 z : Lit) ≠ .int .i64 t := by
        intro e
        injection e with _ e
        exact he e
      rw [Maps.atKey_put_other hne, h2 z hz]
      simp [he]

/-- While the literal is made: the map, the block of the parameter, the slices so far. -/
structure Lts (w wx : World) (b N : Nat) (g : Int → Value) (x : Int) (I : List (Value × List Int)) : Prop where
  tab : Tab wx b N g
  bel : Below w.heap.size w wx
  cx : wx.cell? ⟨w.heap.size, 3, none⟩ = some (.int .i64 x)
  lt : w.heap.size < b
  its : ∀ p ∈ I, IntsAt wx p.1 p.2
theorem Lts.step {w wx : World} {b N : Nat} {g : Int → Value} {x : Int} {I : List (Value × List Int)} (h : Lts w wx b N g x I) (l : List Int) (T : TypeId) (hl : l.length ≤ 1000) :
    Lts w (wx.alloc (.cells (l.map (Value.int .i64)).toArray T)) b N g x ((.slice (some ⟨wx.heap.size, 0, none⟩) l.length l.length, l) :: I) := by
  have hb : Below wx.heap.size wx (wx.alloc (.cells (l.map (Value.int .i64)).toArray T)) := (Below.refl _ _).alloc (Nat.le_refl _) _
  refine ⟨h.tab.alloc _, h.bel.alloc h.bel.size _, cell_below hb _ _ h.cx, h.lt, fun p hp => ?_⟩
  rcases List.mem_cons.1 hp with rfl | hp
  · exact IntsAt.new wx l T l.length hl
  · exact (h.its p hp).below hb
theorem Lts.ins {w wx wy : World} {b N M : Nat} {g k : Int → Value} {x : Int} {I : List (Value × List Int)} (h : Lts w wx b N g x I) (ht : Tab wy b M k) (hg : wx.grownBy wy (some b)) : Lts w wy b M k x I := by
  obtain ⟨es, cl, hm⟩ := h.tab.isMap
  exact ⟨ht, h.bel.grown hg h.bel.size (fun k hk => by cases hk; exact Nat.le_of_lt h.lt), hg.cell h.cx (by simp; have := h.lt; omega), h.lt, fun p hp => (h.its p hp).map hm hg⟩

/-- The types that an exchange needs. -/
def needL (x : Int) (q : Bool) : List Int := if x = 37 then [] else if x = 36 then [33, 40] else if x = 35 then [if q then 35 else 36, 39, 33, 44, 45] else if x = 34 then [33, 34, 40] else []
set_option maxHeartbeats 1600000 in
theorem needed_true (i r nx x f m : Int) (w : World) (hx : IntR x) (HQ : Hid (∀ W, Calls Tryz.prog 55 #[.agg #[.int .u64 i, .int .u64 r, .int .i64 nx, .int .i64 x, .int .i64 f, .int .u32 m]] W fun e w' => e = .returned (.bool true) ∧ Below W.heap.size W w')) :
    Calls Tryz.prog 42 #[.agg #[.int .u64 i, .int .u64 r, .int .i64 nx, .int .i64 x, .int .i64 f, .int .u32 m]] w fun e w' => ∃ v, e = .returned v ∧ IntsAt w' v (needL x true) ∧ Below w.heap.size w w' := by
  have hmm := @run_makeMap Tryz.prog
  have HX := hidden hx
  clear hx
  have HB0 := hidden ((Below.refl w.heap.size w).alloc (Nat.le_refl _) (.cells #[.int .u64 i, .int .u64 r, .int .i64 nx, .int .i64 x, .int .i64 f, .int .u32 m] 36))
  have HC0 : Hid ((w.alloc (.cells #[.int .u64 i, .int .u64 r, .int .i64 nx, .int .i64 x, .int .i64 f, .int .u32 m] 36)).cell? ⟨w.heap.size, 3, none⟩ = some (.int .i64 x)) := by
    rw [World.cell?_alloc_at _ _ _ _ rfl]
    rfl
  go_enter Tryz.func42, Tryz.ntmps42
  go_upto_region 5 with (first
    | (go_at_call 55; (with_reducible refine (HQ.out _).mono ?_); rintro _ w1 ⟨rfl, hb1⟩; have HB1 := hidden (HB0.out.trans (hb1.mono HB0.out.size)); have HC1 := hidden (cell_below hb1 _ _ HC0.out); have hl1 := World.block_lt_of_cell? _ _ HC1.out; clear hb1; have hsz : (w1.alloc (.map #[] 0)).heap.size = w1.heap.size + 1 := (by simp); have hL1 := (Lts.mk (w := w) (x := x) (I := []) (Tab.made w1) (HB1.out.alloc HB1.out.size _) (cell_below ((Below.refl _ _).alloc (Nat.le_refl _) (.map #[] 0)) _ _ HC1.out) hl1 (fun _ h => nomatch h)).step [33, 34, 40] 3 (by decide); rw [hsz] at hL1; have HL1 := hidden hL1; clear hL1 hsz)
    | (refine wpList_tab _ rfl _ _ _ rfl w1.heap.size 0 _ HL1.out.tab (by omega) rfl 34 rfl _ rfl (by unfold IntR; omega) ?_; rintro w2 hT2 hg2; have HL2 := hidden ((HL1.out.ins hT2 hg2).step [35, 39, 33, 44, 45] 3 (by decide)); clear hT2 hg2)
    | (refine wpList_tab _ rfl _ _ _ rfl w1.heap.size _ _ HL2.out.tab (by omega) rfl 35 rfl _ rfl (by unfold IntR; omega) ?_; rintro w3 hT3 hg3; have HL3 := hidden ((HL2.out.ins hT3 hg3).step [33, 40] 3 (by decide)); clear hT3 hg3)
    | (refine wpList_tab _ rfl _ _ _ rfl w1.heap.size _ _ HL3.out.tab (by omega) rfl 36 rfl _ rfl (by unfold IntR; omega) ?_; rintro w4 hT4 hg4; have HL4 := hidden ((HL3.out.ins hT4 hg4).step [] 3 (by decide)); clear hT4 hg4)
    | (refine wpList_tab _ rfl _ _ _ rfl w1.heap.size _ _ HL4.out.tab (by omega) rfl 37 rfl _ rfl (by unfold IntR; omega) ?_; rintro w5 hT5 hg5; have HL5 := hidden (HL4.out.ins hT5 hg5); clear hT5 hg5)
    | fail)
  have hcx := HL5.out.cx
  obtain ⟨v, hv, hI⟩ : ∃ v, (Instr.lookup 128 (.map (some w1.heap.size)) (.int .i64 x) false).run Tryz.prog w5 = .ok v w5 ∧ IntsAt w5 v (needL x true) := by
    refine ⟨_, HL5.out.tab.look x HX.out, ?_⟩
    have hits := HL5.out.its
    by_cases h37 : x = 37
    · subst h37
      exact hits (_, []) (by simp)
    by_cases h36 : x = 36
    · subst h36
      exact hits (_, [33, 40]) (by simp)
    by_cases h35 : x = 35
    · subst h35
      exact hits (_, [35, 39, 33, 44, 45]) (by simp)
    by_cases h34 : x = 34
    · subst h34
      exact hits (_, [33, 34, 40]) (by simp)
    simp only [h37, h36, h35, h34, if_false, needL]
    exact IntsAt.nil _
  have HI := hidden hI
  have HB5 := hidden HL5.out.bel
  clear hI HL1 HL2 HL3 HL4 HL5 HQ hmm HX HB0 HC0 HB1 HC1
  go_wp2
  go_ret
  exact ⟨_, rfl, HI.out, HB5.out⟩
set_option maxHeartbeats 1600000 in
theorem needed_false (i r nx x f m : Int) (w : World) (hx : IntR x) (HQ : Hid (∀ W, Calls Tryz.prog 55 #[.agg #[.int .u64 i, .int .u64 r, .int .i64 nx, .int .i64 x, .int .i64 f, .int .u32 m]] W fun e w' => e = .returned (.bool false) ∧ Below W.heap.size W w')) :
    Calls Tryz.prog 42 #[.agg #[.int .u64 i, .int .u64 r, .int .i64 nx, .int .i64 x, .int .i64 f, .int .u32 m]] w fun e w' => ∃ v, e = .returned v ∧ IntsAt w' v (needL x false) ∧ Below w.heap.size w w' := by
  have hmm := @run_makeMap Tryz.prog
  have HX := hidden hx
  clear hx
  have HB0 := hidden ((Below.refl w.heap.size w).alloc (Nat.le_refl _) (.cells #[.int .u64 i, .int .u64 r, .int .i64 nx, .int .i64 x, .int .i64 f, .int .u32 m] 36))
  have HC0 : Hid ((w.alloc (.cells #[.int .u64 i, .int .u64 r, .int .i64 nx, .int .i64 x, .int .i64 f, .int .u32 m] 36)).cell? ⟨w.heap.size, 3, none⟩ = some (.int .i64 x)) := by
    rw [World.cell?_alloc_at _ _ _ _ rfl]
    rfl
  go_enter Tryz.func42, Tryz.ntmps42
  go_upto_region 5 with (first
    | (go_at_call 55; (with_reducible refine (HQ.out _).mono ?_); rintro _ w1 ⟨rfl, hb1⟩; have HB1 := hidden (HB0.out.trans (hb1.mono HB0.out.size)); have HC1 := hidden (cell_below hb1 _ _ HC0.out); have hl1 := World.block_lt_of_cell? _ _ HC1.out; clear hb1; have hsz : (w1.alloc (.map #[] 0)).heap.size = w1.heap.size + 1 := (by simp); have hL1 := (Lts.mk (w := w) (x := x) (I := []) (Tab.made w1) (HB1.out.alloc HB1.out.size _) (cell_below ((Below.refl _ _).alloc (Nat.le_refl _) (.map #[] 0)) _ _ HC1.out) hl1 (fun _ h => nomatch h)).step [33, 34, 40] 3 (by decide); rw [hsz] at hL1; have HL1 := hidden hL1; clear hL1 hsz)
    | (refine wpList_tab _ rfl _ _ _ rfl w1.heap.size 0 _ HL1.out.tab (by omega) rfl 34 rfl _ rfl (by unfold IntR; omega) ?_; rintro w2 hT2 hg2; have HL2 := hidden ((HL1.out.ins hT2 hg2).step [36, 39, 33, 44, 45] 3 (by decide)); clear hT2 hg2)
    | (refine wpList_tab _ rfl _ _ _ rfl w1.heap.size _ _ HL2.out.tab (by omega) rfl 35 rfl _ rfl (by unfold IntR; omega) ?_; rintro w3 hT3 hg3; have HL3 := hidden ((HL2.out.ins hT3 hg3).step [33, 40] 3 (by decide)); clear hT3 hg3)
    | (refine wpList_tab _ rfl _ _ _ rfl w1.heap.size _ _ HL3.out.tab (by omega) rfl 36 rfl _ rfl (by unfold IntR; omega) ?_; rintro w4 hT4 hg4; have HL4 := hidden ((HL3.out.ins hT4 hg4).step [] 3 (by decide)); clear hT4 hg4)
    | (refine wpList_tab _ rfl _ _ _ rfl w1.heap.size _ _ HL4.out.tab (by omega) rfl 37 rfl _ rfl (by unfold IntR; omega) ?_; rintro w5 hT5 hg5; have HL5 := hidden (HL4.out.ins hT5 hg5); clear hT5 hg5)
    | fail)
  have hcx := HL5.out.cx
  obtain ⟨v, hv, hI⟩ : ∃ v, (Instr.lookup 128 (.map (some w1.heap.size)) (.int .i64 x) false).run Tryz.prog w5 = .ok v w5 ∧ IntsAt w5 v (needL x false) := by
    refine ⟨_, HL5.out.tab.look x HX.out, ?_⟩
    have hits := HL5.out.its
    by_cases h37 : x = 37
    · subst h37
      exact hits (_, []) (by simp)
    by_cases h36 : x = 36
    · subst h36
      exact hits (_, [33, 40]) (by simp)
    by_cases h35 : x = 35
    · subst h35
      exact hits (_, [36, 39, 33, 44, 45]) (by simp)
    by_cases h34 : x = 34
    · subst h34
      exact hits (_, [33, 34, 40]) (by simp)
    simp only [h37, h36, h35, h34, if_false, needL]
    exact IntsAt.nil _
  have HI := hidden hI
  have HB5 := hidden HL5.out.bel
  clear hI HL1 HL2 HL3 HL4 HL5 HQ hmm HX HB0 HC0 HB1 HC1
  go_wp2
  go_ret
  exact ⟨_, rfl, HI.out, HB5.out⟩
theorem needed_any (i r nx x f m : Int) (w : World) (hx : IntR x) :
    Calls Tryz.prog 42 #[.agg #[.int .u64 i, .int .u64 r, .int .i64 nx, .int .i64 x, .int .i64 f, .int .u32 m]] w fun e w' => ∃ v, e = .returned v ∧ IntsAt w' v (needL x (bits BinOp.and IntKind.i64 f 32 == 0)) ∧ Below w.heap.size w w' := by
  have HQ := hidden (fun W => request_any i r nx x f m W)
  generalize (bits BinOp.and IntKind.i64 f 32 == 0) = q at HQ
  cases q with
  | true => exact needed_true i r nx x f m w hx HQ
  | false => exact needed_false i r nx x f m w hx HQ
end Go.Proofs.YtkniifopfgeopaaGreat

namespace Go.Proofs.YtkniifopfgeopaaGreat
open Go.RowKit
set_option linter.unusedVariables false

set_option maxHeartbeats 800000 in
theorem containsFunc_any (p : Option Addr) (n c : Nat) (l : List Pv) (w : World) (h : RdG KPv DPv w p n c l) :
    Calls Tryz.prog 40 #[.slice p n c, .func (.func 41) #[] #[]] w fun e w' => e = .returned (.bool (l.any tells)) ∧ Below w.heap.size w w' := by
  have HC := hidden (indexFunc_any p n c l w h)
  have HN := Is.mk (firstAt_neg tells l 0)
  generalize firstAt tells l 0 = R at HC HN
  go_enter Tryz.func40, Tryz.ntmps40
  go_wp2_with (first
    | (go_at_call 54; (with_reducible refine (HC.out).mono ?_); rintro _ w1 ⟨rfl, hb1⟩; have HB1 := hidden hb1; clear hb1)
    | fail)
  go_ret
  exact ⟨by rw [← HN.eq]; rfl, HB1.out⟩
set_option maxHeartbeats 800000 in
theorem fails_any (i r nx x f m : Int) (p : Option Addr) (n c : Nat) (l : List Pv) (w : World) (h : RdG KPv DPv w p n c l) :
    Calls Tryz.prog 24 #[.agg #[.int .u64 i, .int .u64 r, .int .i64 nx, .int .i64 x, .int .i64 f, .int .u32 m, .slice p n c]] w fun e w' => e = .returned (.bool (l.any tells)) ∧ Below w.heap.size w w' := by
  have HB0 := hidden ((Below.refl w.heap.size w).alloc (Nat.le_refl _) (.cells #[.int .u64 i, .int .u64 r, .int .i64 nx, .int .i64 x, .int .i64 f, .int .u32 m, .slice p n c] 39))
  have HC := hidden (containsFunc_any p n c l (w.alloc (.cells #[.int .u64 i, .int .u64 r, .int .i64 nx, .int .i64 x, .int .i64 f, .int .u32 m, .slice p n c] 39)) (h.below HB0.out))
  clear h
  go_enter Tryz.func24, Tryz.ntmps24
  go_wp2_with (first
    | (go_at_call 40; (with_reducible refine (HC.out).mono ?_); rintro _ w1 ⟨rfl, hb1⟩; have HB1 := hidden (HB0.out.trans (hb1.mono HB0.out.size)); clear hb1)
    | fail)
  go_ret
  exact ⟨rfl, HB1.out⟩
end Go.Proofs.YtkniifopfgeopaaGreat

namespace Go.Proofs.YtkniifopfgeopaaGreat
open Go.RowKit Go.ChangeShapes Go.WideShapes
set_option linter.unusedVariables false

/-- The slice value reads as these ints. -/
structure Its (w : World) (p : Option Addr) (n c : Nat) (xs : List Int) : Prop where
  len : xs.length = n
  cap : n ≤ c
  big : c ≤ maxLen
  rng : ∀ x ∈ xs, -9223372036854775808 ≤ x ∧ x ≤ 9223372036854775807
  mem : 0 < n → ∃ b o, p = some ⟨b, o, none⟩ ∧ ∀ i, i < n → w.cell? ⟨b, o + i, none⟩ = some (.int .i64 (xs.getD i 0))
theorem Its.keep {w w' : World} {p : Option Addr} {n c : Nat} {xs : List Int} (h : Its w p n c xs) (hk : ∀ a v, w.cell? a = some v → w'.cell? a = some v) : Its w' p n c xs :=
  ⟨h.len, h.cap, h.big, h.rng, fun h0 => by
    obtain ⟨b, o, e, hc⟩ := h.mem h0
    exact ⟨b, o, e, fun i hi => hk _ _ (hc i hi)⟩⟩
theorem Its.below {w w' : World} {p : Option Addr} {n c : Nat} {xs : List Int} (h : Its w p n c xs) (hb : Below w.heap.size w w') : Its w' p n c xs := h.keep (cell_below hb)
theorem Its.at_ {w : World} {p : Option Addr} {n c : Nat} {xs : List Int} (h : Its w p n c xs) (j : Nat) (hj : j < n) : ∃ b o, p = some ⟨b, o, none⟩ ∧ w.cell? ⟨b, o + j, none⟩ = some (.int .i64 (xs.getD j 0)) := by
  obtain ⟨b, o, e, hc⟩ := h.mem (by omega)
  exact ⟨b, o, e, hc j hj⟩
theorem Its.nil (w : World) : Its w none 0 0 [] := ⟨rfl, Nat.le_refl _, Nat.zero_le _, (fun x hx => by simp at hx), (fun h => by omega)⟩

/-- A row of ints of the call's own. -/
def KIn : KindR Int where
  e := 3
  k := 1
  cs x := [.int .i64 x]
  len _ := rfl
  one x u hu := by
    simp at hu
    subst hu
    rfl
  pos := by decide
def NIn : NestR Int where
  ts := []
  ok _ _ x := -9223372036854775808 ≤ x ∧ x ≤ 9223372036854775807
  keep h _ _ := h
  mono h _ := h
theorem Tryz.infoInt : (Tryz.prog.info? 3).map (fun i => (i.zero, i.size, i.bytes)) = some (some (.int .i64 0), 1, 8) := by kernel_rfl
theorem knownIn : KnownR Tryz.prog KIn 25 8 := by
  refine ⟨Tryz.underlying25, ?_⟩
  obtain ⟨i0, hi, hz0, hz1, hz2⟩ := info_parts Tryz.infoInt
  exact ⟨i0, _, hi, hz0, hz1, hz2, rfl⟩
theorem row_in (l : List Int) (j : Nat) (hj : j < l.length) : (KIn.row l)[j]? = some (.int .i64 (l.getD j 0)) := by
  have := KIn.row_get l j hj 0 (.int .i64 l[j]) rfl
  simp only [KIn, Nat.mul_one, Nat.add_zero] at this
  rw [List.getD_eq_getElem?_getD, List.getElem?_eq_getElem hj]
  exact this
theorem RowG.its {w : World} {base : Nat} {v : Value} {l : List Int} (h : RowG KIn NIn w base v l) {n : Nat} (hn : l.length = n) : ∃ p c, v = .slice p n c ∧ Its w p n c l := by
  subst hn
  rcases Nat.eq_zero_or_pos l.length with h0 | h0
  · rcases h.own.2 with ⟨rfl, hz⟩ | ⟨g, cap, cur, rfl, hg, hh, hnc, hm, hs, ht⟩
    · exact ⟨none, 0, by rw [h0], rfl, by omega, by unfold maxLen; omega, h.ok, fun h => by omega⟩
    · exact ⟨_, _, rfl, rfl, hnc, hm, h.ok, fun h => by omega⟩
  · obtain ⟨g, c, e, hnc, hm, _, _, hc, _⟩ := h.at_ rfl h0
    exact ⟨_, _, e, rfl, hnc, hm, h.ok, fun _ => ⟨g, 0, rfl, fun i hi => by rw [Nat.zero_add]; exact hc i _ (row_in l i hi)⟩⟩

/-- An element of a list of bytes: where its bytes lie. -/
structure Bl where
  p : Option Addr
  n : Nat
  c : Nat
  xs : List Int
def KBl : KindR Bl where
  e := 22
  k := 1
  cs x := [.slice x.p x.n x.c]
  len _ := rfl
  one x u hu := by
    simp at hu
    subst hu
    rfl
  pos := by decide
def NBl : NestR Bl where
  ts := [5]
  ok w base x := Bod w base x.p x.n x.c x.xs
  keep h hg ho := h.grown hg (fun r hr => (ho r hr).imp id (fun h2 cur fz e => h2 cur _ fz e (by simp)))
  mono h hb := h.mono hb
def DBl : ReadN Bl where
  ok w x := Byt w x.p x.n x.c x.xs
  keep h hk := h.keep hk
theorem srcIn (w : World) (x : Int) (T : TypeId) : SrcG KIn (w.alloc (.cells #[.int .i64 x] T)) (some ⟨w.heap.size, 0, none⟩) 1 [x] := SrcG.new KIn w [x] T
end Go.Proofs.YtkniifopfgeopaaGreat

namespace Go.Proofs.YtkniifopfgeopaaGreat
open Go.RowKit
set_option linter.unusedVariables false

section
variable {α : Type} {P : Program} {K : KindR α} {N : NestR α} {t : TypeId} {bytes : Nat}
theorem run_append_w (hk : KnownR P K t bytes) (he : K.e ∉ N.ts) (w : World) (base : Nat) (ty : TypeId) (v : Value) (l : List α) (h : RowG K N w base v l) (p : Option Addr) (m c : Nat) (r : List α) (hm : 0 < m) (hs : SrcG K w p m r) (hr : ∀ x ∈ r, N.ok w base x)
    (h63 : l.length + m ≤ maxLen) (hbytes : (l.length + m) * bytes ≤ 140737488355328) (hbase : base ≤ w.heap.size) :
    ∃ v' w', (Builtin.append_ #[t, t] ty #[v, .slice p m c]).run P w = .ok v' w' ∧ RowG K N w' base v' (l ++ r) ∧ w.grownBy w' v.ownBlock ∧ (∀ q, v'.ownBlock = some q → v.ownBlock = some q ∨ w.heap.size ≤ q) := by
  obtain ⟨v', w', hrun, h2, h3⟩ := run_append_g hk he w base ty v l h p m c r hs hr h63 hbytes hbase
  refine ⟨v', w', hrun, h2, h3, ?_⟩
  obtain ⟨i0, z, hi, hz0, hz1, hz2, hz3⟩ := hk.info
  obtain ⟨a, rfl, hc⟩ := hs.2 hm
  have hrl : (K.row r).length = m * K.k := by rw [K.row_len, hs.1]
  rcases h.own.2 with ⟨rfl, hx⟩ | ⟨g, cap, cur, rfl, hb, hh, hnc, hcm, hcs, ht⟩
  · have hl0 : l = [] := List.eq_nil_of_length_eq_zero hx
    subst hl0
    obtain ⟨v2, w2, hrun2, r1, -, -⟩ := run_append_own (P := P) w w.heap.size t ty K.e i0 z K.k bytes hk.under hi hz0 hz1 hz2 hz3 K.pos (.slice none 0 0) 0 [] (World.ownsRow_nil w w.heap.size K.e K.k) a m c (K.row r) hrl hc (K.row_one r) (by simpa using h63) (by simpa using hbytes) (Nat.le_refl _)
    rw [hrun] at hrun2
    injection hrun2 with e1 e2
    subst e1 e2
    exact fun q hq => .inr (World.ownsRow.lt r1 q hq).1
  · by_cases hroom : l.length + m ≤ cap
    · have hex : ∀ j, j < (K.row r).length → (w.cell? ⟨g, 0 + l.length * i0.size + j, none⟩).isSome = true := fun j hj => by
        rw [cell_of_row w g _ _ _ _ hh, hz1, Nat.zero_add]
        have : l.length * K.k + j < cur.size := by
          rw [hcs]
          have h1 : l.length * K.k + (K.row r).length ≤ cap * K.k := by rw [hrl, ← Nat.add_mul]; exact Nat.mul_le_mul_right _ hroom
          omega
        simp [this]
      have hfz : ∀ j, j < (K.row r).length → w.frozen? ⟨g, 0 + l.length * i0.size + j, none⟩ = false := fun j hj => frozen_of_row _ _ _ _ _ hh
      have hrun2 := run_append_room_cells (P := P) w t ty K.e i0 hk.under hi g 0 l.length cap a m c (K.row r) (by rw [hz1]; exact hrl) hc (K.row_one r) hroom hex hfz
      rw [hrun] at hrun2
      injection hrun2 with e1 e2
      subst e1
      exact fun q hq => .inl hq
    · obtain ⟨v2, w2, hrun2, r1, -⟩ := run_append_arg_grows (P := P) w t ty K.e i0 z K.k bytes hk.under hi hz0 hz1 hz2 hz3 K.pos ⟨g, 0, none⟩ l.length cap (K.row l) (K.row_len l) (World.ownsRow.cells h.own (g := g) rfl) a m c (K.row r) hrl hc (by omega) h63 hbytes
      rw [hrun] at hrun2
      injection hrun2 with e1 e2
      subst e1 e2
      exact fun q hq => .inr (World.ownsRow.lt r1 q hq).1
/-- append as one step of a region that draws its order. -/
theorem step_append_w (hk : KnownR P K t bytes) (he : K.e ∉ N.ts) (w : World) {ops : Array Oper} {o : Oper} {a : Act} {C : Act → World → Prop} {Q : Exit → Act → World → Prop} {E : Prop} (hw : Region.wanted o (yielded ops a.tmps) = true) (s x : Operand)
    (ho : o.op = .call { callee := .builtin .append, args := #[s, x], argTypes := #[t, t] })
    (base : Nat) (v : Value) (l : List α) (hs : a.eval s = v) (hv : RowG K N w base v l)
    (p : Option Addr) (m c : Nat) (r : List α) (hx : a.eval x = .slice p m c) (hm : 0 < m) (hsrc : SrcG K w p m r) (hr : ∀ x ∈ r, N.ok w base x) (h63 : l.length + m ≤ maxLen) (hbytes : (l.length + m) * bytes ≤ 140737488355328) (hbase : base ≤ w.heap.size)
    (h : ∀ v' w', Hid (RowG K N w' base v' (l ++ r)) → Hid (w.grownBy w' v.ownBlock) → Hid (∀ q, v'.ownBlock = some q → v.ownBlock = some q ∨ w.heap.size ≤ q) → C (a.put o.dst v') w') : if Region.wanted o (yielded ops a.tmps) = true then Oper.wp P o a w C Q else E := by
  rw [if_pos hw]
  obtain ⟨v', w', hrun, h2, h3, h4⟩ := run_append_w hk he w base o.type v l hv p m c r hm hsrc hr h63 hbytes hbase
  unfold Oper.wp execOp
  simp only [ho, resolve, invoke, builtin, Sem.run_bind, Sem.run_pure, Result.andThen_ok, List.map_toArray, List.map_cons, List.map_nil, hs, hx, hrun]
  exact h v' w' h2 h3 h4
end
end Go.Proofs.YtkniifopfgeopaaGreat

namespace Go.Proofs.YtkniifopfgeopaaGreat
open Go.RowKit
set_option linter.unusedVariables false

theorem ends_take (l : List Raw) (j : Nat) (h : j < l.length) : endsC (l.take (j + 1)) = lastK l[j].k := by
  rw [ends_last _ (by rw [List.length_take]; omega)]
  have : (l.take (j + 1)).length - 1 = j := by rw [List.length_take]; omega
  simp only [this, List.getElem_take]

theorem put_one (p : Option Addr) (n c : Nat) (xs : List Int) (w : World) (h : Byt w p n c xs) (hb : n ≤ 140737488355000) (v : Int) (hv : 0 ≤ v ∧ v ≤ 255) :
    Calls Tryz.prog 30 #[.slice p n c, .int .u64 v, .int .i64 1] w (BytesPut w (xs ++ [v])) := by
  have := put_yes p n c xs w h hb v (by omega) 1 (by omega) (by omega)
  have e : be 1 v = [v] := by
    rw [beOne]
    congr 1
    omega
  rw [e] at this
  exact this
theorem put_two (p : Option Addr) (n c : Nat) (xs : List Int) (w : World) (h : Byt w p n c xs) (hb : n ≤ 140737488355000) (v : Int) (hv : 0 ≤ v ∧ v ≤ 18446744073709551615) :
    Calls Tryz.prog 30 #[.slice p n c, .int .u64 v, .int .i64 2] w (BytesPut w (xs ++ be 2 v)) := put_yes p n c xs w h hb v hv 2 (by omega) (by omega)

set_option maxHeartbeats 800000 in
theorem head_any (k : Int) (c : Bool) (pb : Option Addr) (nb cb : Nat) (nx : Int) (w : World) (hn : nb ≤ 65531) (hx : 0 ≤ nx ∧ nx ≤ 255) :
    Calls Tryz.prog 46 #[.agg #[.int .i64 k, .bool c, .slice pb nb cb], .int .i64 nx] w (BytesPut w ([nx, if c then 128 else 0] ++ be 2 ((nb : Int) + 4))) := by
  have hx0 := hx.1
  have hx1 := hx.2
  have HP1 := hidden (fun w => put_one none 0 0 [] w (Byt.nil _ _ _ (Nat.zero_le _)) (by omega) nx hx)
  have hb0 := (Below.refl w.heap.size w).alloc (Nat.le_refl _) (.cells #[.int .i64 k, .bool c, .slice pb nb cb] 82)
  have HB0 := hidden hb0
  have hw1 : w.heap.size < (w.alloc (.cells #[.int .i64 k, .bool c, .slice pb nb cb] 82)).heap.size := by simp
  have HC := hidden (show (w.alloc (.cells #[.int .i64 k, .bool c, .slice pb nb cb] 82)).cell? ⟨w.heap.size, 2, none⟩ = some (.slice pb nb cb) by go_simp)
  obtain ⟨bv, hbv, hb1⟩ : ∃ bv : Int, (if c then (128 : Int) else 0) = bv ∧ (0 ≤ bv ∧ bv ≤ 255) := ⟨_, rfl, by split <;> omega⟩
  rw [hbv]
  have HBV := hidden hbv
  clear hbv hb0 hx
  go_enter Tryz.func46, Tryz.ntmps46
  go_upto_if 8 with fail
  go_cut [5] from 7 to 8 (fun a w' => a = .int .i64 bv ∧ w.alloc (.cells #[.int .i64 k, .bool c, .slice pb nb cb] 82) = w')
  case first =>
    have h := HBV.out
    clear HBV
    cases c
    all_goals
      simp at h
      subst h
      go_wp2
      go_meet
      case rel => exact ⟨rfl, rfl⟩
  case rest =>
    obtain ⟨rfl, rfl⟩ := hcut
    go_wp2_with (go_at_call 30; (with_reducible refine (HP1.out _).mono ?_))
    rintro e w2 ⟨v2, rfl, hown, hb⟩
    have HC2 := hidden (cell_below hb _ _ HC.out)
    have HB2 := hidden (HB0.out.trans (hb.mono HB0.out.size))
    obtain ⟨p2, c2, rfl, hy⟩ := hown.bytN (N := 1) rfl rfl (by intro z hz; simp at hz; omega)
    have HY2 := hidden hy
    clear hown hb hy HC HB0 HP1
    have HP2 := hidden (fun w (h : Byt w p2 1 c2 ([] ++ [nx])) => put_one p2 1 c2 ([] ++ [nx]) w h (by omega) bv hb1)
    go_wp2_with (go_at_call 30; (with_reducible refine (HP2.out _ HY2.out).mono ?_))
    rintro e w3 ⟨v3, rfl, hown, hb⟩
    have hc3 := cell_below hb _ _ HC2.out
    have HB3 := hidden (HB2.out.trans (hb.mono HB2.out.size))
    obtain ⟨p3, c3, rfl, hy⟩ := hown.bytN (N := 2) rfl rfl (by intro z hz; simp at hz; omega)
    have HY3 := hidden hy
    clear hown hb hy HC2 HB2 HP2 HY2
    have HP3 := hidden (fun w (h : Byt w p3 2 c3 ([] ++ [nx] ++ [bv])) => put_two p3 2 c3 ([] ++ [nx] ++ [bv]) w h (by omega) (4 + (nb : Int)) (by omega))
    go_wp2_with (go_at_call 30; (with_reducible refine (HP3.out _ HY3.out).mono ?_))
    rintro e w4 ⟨v4, rfl, hown, hb⟩
    have HB4 := hidden (HB3.out.trans (hb.mono HB3.out.size))
    have HO4 := hidden (hown.mono HB3.out.size)
    clear hown hb hc3
    go_wp2
    go_ret
    refine ⟨v4, rfl, ?_, HB4.out⟩
    have e : ((nb : Int) + 4) = 4 + (nb : Int) := by omega
    rw [e]
    simpa using HO4.out

set_option maxHeartbeats 1600000 in
set_option maxRecDepth 100000 in
theorem ccheck_any (p : Option Addr) (n c : Nat) (l : List RawP) (last : Int) (w : World) (h : RdR w p n c l) (k : Int) (L : List Int) (E : Int) (hb : buildC (l.map RawP.raw) last = (k, L, E)) :
    Calls Tryz.prog 45 #[.slice p n c, .int .i64 last] w fun e w' => e = .returned (.int .i64 E) ∧ Below w.heap.size w w' := by
  have hn := h.le
  have HR := hidden h
  have HL := hidden h.len
  have HB := hidden hb
  clear h hb
  by_cases h40 : 40 < n
  · have hb := built_many (l.map RawP.raw) last (by rw [List.length_map, HL.out]; exact h40)
    rw [HB.out] at hb
    simp at hb
    obtain ⟨rfl, rfl, rfl⟩ := hb
    go_enter Tryz.func45, Tryz.ntmps45
    go_wp2
    go_ret
    exact ⟨rfl, Below.refl _ _⟩
  have h40' : ¬ 40 < (l.map RawP.raw).length := by rw [List.length_map, HL.out]; exact h40
  have H40 := hidden h40'
  clear h40'
  go_enter Tryz.func45, Tryz.ntmps45
  go_wp2
  go_loopw [5, 13] (fun o i wr => ∃ j : Nat, j ≤ n ∧ i = .int .i64 j ∧ o = .bool (endsC ((l.map RawP.raw).take j)) ∧ errC (l.map RawP.raw) = errC ((l.map RawP.raw).drop j) ∧ Below w.heap.size w wr) (fun _ i _ => n - (intOf i).toNat)
  case atStart => exact ⟨0, by omega, rfl, by simp [endsC], by simp, Below.refl _ _⟩
  case round =>
    obtain ⟨j, hj, rfl, rfl, herr, hbl⟩ := hrel
    have HBL := hidden hbl
    by_cases hlt : j < n
    · obtain ⟨g, kk, cc, pb, nb, cb, b, rfl, hat⟩ := HR.out.get j hlt
      have e1 := hat.err HL.out
      rw [← herr] at e1
      have HE := hidden e1
      have c0 := cell_below hbl _ _ hat.hk
      have c1 := cell_below hbl _ _ hat.hc
      have c2 := cell_below hbl _ _ hat.hb
      have hnb := hat.byt.le
      have het : endsC ((l.map RawP.raw).take (j + 1)) = lastK kk := by
        obtain ⟨hi, he⟩ := List.getElem?_eq_some_iff.1 hat.raw
        rw [ends_take _ j hi, he]
      have HET := hidden het
      have HBX := hidden (HBL.out.alloc HBL.out.size (.cells #[.int .i64 kk, .bool cc, .slice pb nb cb] 82))
      have HW := hidden (fun w => wraps_any kk w)
      clear hat e1 herr hbl het
      by_cases k1 : kk < 1
      · have hb := built_err (l.map RawP.raw) last 5 H40.out (by rw [HE.out, if_pos (Or.inl k1)]) (by omega)
        rw [HB.out] at hb
        simp at hb
        obtain ⟨rfl, rfl, rfl⟩ := hb
        go_wp2_with (go_at_call 66; (with_reducible refine (HW.out _).mono ?_); rintro e w' ⟨rfl, rfl⟩)
        go_ret
        exact ⟨rfl, HBX.out⟩
      by_cases k2 : 255 < kk
      · have hb := built_err (l.map RawP.raw) last 5 H40.out (by rw [HE.out, if_pos (Or.inr k2)]) (by omega)
        rw [HB.out] at hb
        simp at hb
        obtain ⟨rfl, rfl, rfl⟩ := hb
        go_wp2_with (go_at_call 66; (with_reducible refine (HW.out _).mono ?_); rintro e w' ⟨rfl, rfl⟩)
        go_ret
        exact ⟨rfl, HBX.out⟩
      by_cases k3 : 65531 < nb
      · have hb := built_err (l.map RawP.raw) last 11 H40.out (by rw [HE.out, if_neg (by omega), if_pos k3]) (by omega)
        rw [HB.out] at hb
        simp at hb
        obtain ⟨rfl, rfl, rfl⟩ := hb
        go_wp2_with (go_at_call 66; (with_reducible refine (HW.out _).mono ?_); rintro e w' ⟨rfl, rfl⟩)
        go_ret
        exact ⟨rfl, HBX.out⟩
      by_cases k4 : lastK kk = true
      · by_cases k5 : j + 1 < n
        · have hb := built_err (l.map RawP.raw) last 7 H40.out (by rw [HE.out, if_neg (by omega), if_neg k3, if_pos ⟨k4, k5⟩]) (by omega)
          rw [HB.out] at hb
          simp at hb
          obtain ⟨rfl, rfl, rfl⟩ := hb
          go_wp2_with (go_at_call 66; (with_reducible refine (HW.out _).mono ?_); rintro e w' ⟨rfl, rfl⟩)
          go_ret
          exact ⟨rfl, HBX.out⟩
        · have he := HE.out
          rw [if_neg (by omega), if_neg k3, if_neg (fun h => k5 h.2)] at he
          have HE2 := hidden he
          clear he
          go_wp2_with (go_at_call 66; (with_reducible refine (HW.out _).mono ?_); rintro e w' ⟨rfl, rfl⟩)
          go_roundw
          case rel => exact ⟨j + 1, by omega, by go_num, by rw [HET.out]; simp [k4], HE2.out, HBX.out⟩
          case measure => simp [intOf]; omega
      · have k5 : lastK kk = false := by simpa using k4
        have he := HE.out
        rw [if_neg (by omega), if_neg k3, if_neg (fun h => k4 h.1)] at he
        have HE2 := hidden he
        clear he k4
        go_wp2_with (go_at_call 66; (with_reducible refine (HW.out _).mono ?_); rintro e w' ⟨rfl, rfl⟩)
        go_roundw
        case rel => exact ⟨j + 1, by omega, by go_num, by rw [HET.out]; simp [k5], HE2.out, HBX.out⟩
        case measure => simp [intOf]; omega
    · obtain rfl : j = n := by omega
      have herr0 : errC (l.map RawP.raw) = 0 := by rw [herr, err_end _ (by rw [List.length_map, HL.out]; exact Nat.le_refl _)]
      rw [List.take_of_length_le (by rw [List.length_map, HL.out]; exact Nat.le_refl _)]
      have HE := hidden herr0
      clear herr herr0 hbl
      by_cases hl0 : last < 0
      · have hb := built_last (l.map RawP.raw) last H40.out HE.out (Or.inl hl0)
        rw [HB.out] at hb
        simp at hb
        obtain ⟨rfl, rfl, rfl⟩ := hb
        go_wp2
        go_ret
        exact ⟨rfl, HBL.out⟩
      by_cases hl1 : 255 < last
      · have hb := built_last (l.map RawP.raw) last H40.out HE.out (Or.inr hl1)
        rw [HB.out] at hb
        simp at hb
        obtain ⟨rfl, rfl, rfl⟩ := hb
        go_wp2
        go_ret
        exact ⟨rfl, HBL.out⟩
      by_cases hz : last = 0
      · have hb := built_ok (l.map RawP.raw) last H40.out HE.out (by omega) (Or.inl hz)
        rw [HB.out] at hb
        simp at hb
        obtain ⟨rfl, rfl, rfl⟩ := hb
        have hz1 : (last != 0) = false := by simpa using hz
        clear hz
        go_wp2
        go_ret
        exact ⟨rfl, HBL.out⟩
      have hz1 : (last != 0) = true := by simpa using hz
      rcases he : endsC (l.map RawP.raw) with _ | _
      · have hb := built_order (l.map RawP.raw) last H40.out HE.out (by omega) hz he
        rw [HB.out] at hb
        simp at hb
        obtain ⟨rfl, rfl, rfl⟩ := hb
        clear hz he
        go_wp2
        go_ret
        exact ⟨rfl, HBL.out⟩
      · have hb := built_ok (l.map RawP.raw) last H40.out HE.out (by omega) (Or.inr he)
        rw [HB.out] at hb
        simp at hb
        obtain ⟨rfl, rfl, rfl⟩ := hb
        clear hz he
        go_wp2
        go_ret
        exact ⟨rfl, HBL.out⟩

set_option maxHeartbeats 1600000 in
set_option maxRecDepth 100000 in
theorem buildC_any (p : Option Addr) (n c : Nat) (l : List RawP) (last : Int) (w : World) (h : RdR w p n c l) (k : Int) (L : List Int) (E : Int) (hb : buildC (l.map RawP.raw) last = (k, L, E)) :
    Calls Tryz.prog 28 #[.slice p n c, .int .i64 last] w (BuiltC w k L E) := by
  obtain ⟨i0, hi0, hz0, hz1, hz2⟩ := info_parts Tryz.infoByte
  have hn := h.le
  have HCK := hidden (ccheck_any p n c l last w h k L E hb)
  by_cases hE : E ≠ 0
  · obtain ⟨rfl, rfl⟩ : k = 0 ∧ L = [] := by
      unfold buildC at hb
      split at hb
      · simp at hb; exact ⟨hb.1.symm, hb.2.1⟩
      split at hb
      · simp at hb; exact ⟨hb.1.symm, hb.2.1⟩
      split at hb
      · simp at hb; exact ⟨hb.1.symm, hb.2.1⟩
      split at hb
      · simp at hb; exact ⟨hb.1.symm, hb.2.1⟩
      · simp at hb; exact absurd hb.2.2.symm hE
    have hE1 : (E != 0) = true := by simpa using hE
    clear h hb hE
    go_enter Tryz.func28, Tryz.ntmps28
    go_wp2_with (go_at_call 45; (with_reducible refine (HCK.out).mono ?_); rintro e w' ⟨rfl, hb⟩)
    go_ret3
    exact ⟨_, rfl, Own.nil _ _ _, hb⟩
  obtain rfl : E = 0 := by omega
  obtain ⟨herr, h40, rfl, rfl, hl0, hl1⟩ : errC (l.map RawP.raw) = 0 ∧ (l.map RawP.raw).length ≤ 40 ∧ k = nextC 0 (l.map RawP.raw) ∧ L = encC last (l.map RawP.raw) ∧ 0 ≤ last ∧ last ≤ 255 := by
    unfold buildC at hb
    split at hb
    · simp at hb
    split at hb
    · simp at hb; omega
    split at hb
    · simp at hb
    split at hb
    · simp at hb
    · simp at hb; exact ⟨by omega, by omega, hb.1.symm, hb.2.symm, by omega, by omega⟩
  have hlast0 : l = [] → last = 0 := by
    intro he
    subst he
    unfold buildC at hb
    by_cases h0 : last = 0
    · exact h0
    · simp [errC, endsC, h0] at hb
      split at hb
      · simp at hb
      · simp at hb
  have HR := hidden h
  have HL := hidden h.len
  have HE := hidden herr
  have HL0 := hidden hlast0
  have hn40 : n ≤ 40 := by rw [← h.len]; simpa using h40
  clear h hb hE herr h40 hlast0
  go_enter Tryz.func28, Tryz.ntmps28
  go_wp2_with (go_at_call 45; (with_reducible refine (HCK.out).mono ?_))
  rintro e w1 ⟨rfl, hb⟩
  have HB1 := hidden hb
  clear hb HCK
  go_wp2
  go_loopw [8, 19] (fun u i wr => ∃ t : Nat, t ≤ n ∧ i = .int .i64 t ∧ ∃ xs : List Int, xs ++ encC last ((l.map RawP.raw).drop t) = encC last (l.map RawP.raw) ∧ xs.length ≤ t * 65535 ∧ (∀ x ∈ xs, 0 ≤ x ∧ x ≤ 255) ∧ Own wr w.heap.size 5 u xs ∧ Below w.heap.size w wr) (fun _ i _ => n - (intOf i).toNat)
  case atStart => exact ⟨0, by omega, rfl, [], by simp, by simp, by simp, Own.nil _ _ _, HB1.out⟩
  case round =>
    obtain ⟨t, ht, rfl, xs, hxs, hxl, hxr, ho, hbl⟩ := hrel
    have HO := hidden ho
    have HBL := hidden hbl
    by_cases hlt : t < n
    · obtain ⟨g, kk, cc, pb, nb, cb, b, rfl, hat⟩ := HR.out.get t hlt
      obtain ⟨q1, q2, q3⟩ := hat.good HE.out
      have hst := hat.enc last
      rw [hst] at hxs
      have hat2 := hat.below hbl
      have c0 := hat2.hk
      have c1 := hat2.hc
      have c2 := hat2.hb
      have HBY := hidden hat.byt
      obtain ⟨nx, hnx, hn0, hn1, hcall⟩ : ∃ nx, nextC last ((l.map RawP.raw).drop (t + 1)) = nx ∧ 0 ≤ nx ∧ nx ≤ 255 ∧ ∀ w', Below w.heap.size w w' → Calls Tryz.prog 47 #[.slice (some ⟨g, 0, none⟩) n c, .int .i64 ((t : Int) + 1), .int .i64 last] w' (fun e w'' => e = .returned (.int .i64 nx) ∧ w' = w'') := by
        by_cases h1 : t + 1 < n
        · obtain ⟨g3, k3, c3, p3, n3, cb3, b3, hg3, hat3⟩ := HR.out.get (t + 1) h1
          obtain ⟨r1, r2, r3⟩ := hat3.good HE.out
          obtain ⟨hi, he⟩ := List.getElem?_eq_some_iff.1 hat3.raw
          refine ⟨k3, hat3.next last, by omega, r2, fun w' hb => ?_⟩
          have := typeAt_in _ n c l w' (HR.out.below hb) (t + 1) (by rw [HL.out]; exact h1) last k3 (by simpa [RawP.raw] using congrArg Raw.k he)
          exact this
        · refine ⟨last, next_end t (by rw [List.length_map, HL.out]; omega), by omega, by omega, fun w' hb => ?_⟩
          have := typeAt_out (some ⟨g, 0, none⟩) n c w' hn (t + 1) (by omega) last
          exact this
      have HT := hidden hcall
      rw [hnx] at hxs
      have hxs2 : (xs ++ oneC nx ⟨kk, cc, b⟩) ++ encC last ((l.map RawP.raw).drop (t + 1)) = encC last (l.map RawP.raw) := by rw [List.append_assoc]; exact hxs
      have HXS := hidden hxs2
      have hxl2 : (xs ++ oneC nx ⟨kk, cc, b⟩).length ≤ (t + 1) * 65535 := by
        have := hat.byt.len
        rw [List.length_append, oneC_len]
        simp only
        omega
      have HXL := hidden hxl2
      have HXR2 := hidden (rng_append hxr (oneC_rng nx kk cc b hat.byt.rng))
      have hj40 : t * 65535 ≤ 2621400 := by omega
      have enx : nx % 256 = nx := by omega
      have hfo := oneC_form nx kk cc b xs nb hat.byt.len
      rw [enx] at hfo
      have hhd := fun w => head_any kk cc pb nb cb nx w q3 ⟨hn0, hn1⟩
      obtain ⟨bv, hbv, hbv0⟩ : ∃ bv : Int, (if cc then (128 : Int) else 0) = bv ∧ (0 ≤ bv ∧ bv ≤ 255) := ⟨_, rfl, by split <;> omega⟩
      rw [hbv] at hfo
      simp only [hbv] at hhd
      have HFO := hidden hfo
      have HHD := hidden hhd
      have HHR := hidden (show ∀ x ∈ [nx, bv] ++ be 2 ((nb : Int) + 4), 0 ≤ x ∧ x ≤ 255 from rng_append (by intro z hz; simp at hz; rcases hz with rfl | rfl <;> omega) (be_rng _ _))
      clear hbv hhd
      have hwi : IntKind.i64.wrap ((t : Int) + 1) = (t : Int) + 1 := wraps_i64 _ (by omega) (by omega)
      have HBX := hidden (HBL.out.alloc HBL.out.size (.cells #[.int .i64 kk, .bool cc, .slice pb nb cb] 82))
      have HOX := hidden (HO.out.alloc (.cells #[.int .i64 kk, .bool cc, .slice pb nb cb] 82))
      have hgr := HBL.out.size
      have hneq : some wr.heap.size ≠ u8.ownBlock := fun e => by
        have := (ho.lt _ e.symm).2
        omega
      clear hst hxs hxs2 hxl2 hat hat2 hnx enx ho hbl hxr hfo hcall
      go_wp2
      have d0 : (wr.alloc (.cells #[.int .i64 kk, .bool cc, .slice pb nb cb] 82)).cell? ⟨wr.heap.size, 0, none⟩ = some (.int .i64 kk) := by go_simp
      have d1 : (wr.alloc (.cells #[.int .i64 kk, .bool cc, .slice pb nb cb] 82)).cell? ⟨wr.heap.size, 1, none⟩ = some (.bool cc) := by go_simp
      have d2 : (wr.alloc (.cells #[.int .i64 kk, .bool cc, .slice pb nb cb] 82)).cell? ⟨wr.heap.size, 2, none⟩ = some (.slice pb nb cb) := by go_simp
      generalize wr.alloc (.cells #[.int .i64 kk, .bool cc, .slice pb nb cb] 82) = wa at *
      generalize wr.heap.size = X at *
      have HBD := hidden HBX.out.drew
      have hl4 : ([nx, bv] ++ be 2 ((nb : Int) + 4)).length = 4 := by simp [be_len]
      have HL4 := hidden hl4
      have hXs := World.block_lt_of_cell? wa _ d2
      clear c0 c1 c2 HBL HO hl4
      go_region_law (first
        | (go_simp; go_at_call 47; (with_reducible refine (HT.out _ HBD.out).mono ?_); rintro e w' ⟨rfl, rfl⟩)
        | (go_simp; go_at_call 46; (with_reducible refine (HHD.out _).mono ?_); rintro e w3 ⟨v3, rfl, hown3, hb3⟩; obtain ⟨p3, c3, rfl, hy3⟩ := hown3.bytN (N := 4) rfl HL4.out HHR.out)
        | (refine step_append_byt _ (by rfl) (.tmp 24) (.tmp 31) 22 (by rfl) w.heap.size 5 i0 (.int .u8 0) Tryz.underlying22 hi0 hz0 hz1 hz2 rfl _ _ (by rfl) (HOX.out.drew.below hb3) _ _ _ _ _ (by rfl) hy3 (by rfl) (by omega) (by have := HBD.out.size; have := hb3.size; omega) ?_; intro u' w4 hown4 hg4))
      all_goals
        have hb3' := HBD.out.trans (hb3.mono HBD.out.size)
        have HB4 := hidden (hb3'.grown hg4 hb3'.size (fun g hg => (HOX.out.lt g hg).1))
        have e2 := hg4.cell (cell_below hb3 _ _ (show wa.drew.cell? _ = _ from d2)) hneq
        have HBY4 := hidden (HBY.out.below HB4.out)
        have hs4 := HB4.out.size
        have HO4 := hidden hown4
        clear hown4 hg4 hb3 hb3' hown3 hy3 d0 d1 d2 HOX HBX HBD HT HHD HHR hwi hneq
        go_wp2_with (at_builtin; go_loud (refine wpList_append_byt _ rfl _ _ 22 rfl w.heap.size 5 i0 (.int .u8 0) Tryz.underlying22 hi0 hz0 hz1 hz2 rfl _ _ rfl HO4.out _ _ _ _ _ rfl HBY4.out rfl ?c1 hs4 ?_))
        case c1 =>
          have := HL4.out
          simp only [List.length_append] at this ⊢
          omega
        intro v5 w5 hown5 hg5
        have HB5 := hidden (HB4.out.grown hg5 HB4.out.size (fun g hg => (HO4.out.lt g hg).1))
        have HO5 := hidden (show Own w5 w.heap.size 5 v5 (xs ++ oneC nx ⟨kk, cc, b⟩) by rw [HFO.out]; simpa using hown5)
        clear hown5 hg5 e2 hs4
        go_wp2
        go_roundw
        case rel => exact ⟨t + 1, by omega, by go_num, _, HXS.out, HXL.out, HXR2.out, HO5.out, HB5.out⟩
        case measure => simp [intOf]; omega
    · obtain rfl : t = n := by omega
      have e1 : xs = encC last (l.map RawP.raw) := by
        rw [← hxs, enc_end t (by rw [List.length_map, HL.out]; exact Nat.le_refl _), List.append_nil]
      subst e1
      have HTY := hidden (show ∀ w', Below w.heap.size w w' → Calls Tryz.prog 47 #[.slice p t c, .int .i64 0, .int .i64 last] w' (fun e w'' => e = .returned (.int .i64 (nextC 0 (l.map RawP.raw))) ∧ w' = w'') by
        intro w' hb
        rcases Nat.eq_zero_or_pos t with h0 | h0
        · subst h0
          have hnil : l = [] := List.eq_nil_of_length_eq_zero HL.out
          have h1 := HL0.out hnil
          subst hnil
          have := typeAt_out p 0 c w' (by omega) 0 (by omega) last
          rw [h1] at this ⊢
          exact this
        · have hpos : 0 < l.length := by rw [HL.out]; exact h0
          have hz : l[0].k = nextC 0 (l.map RawP.raw) := by
            cases l with
            | nil => simp at hpos
            | cons a l => simp [nextC, RawP.raw]
          exact typeAt_in p t c l w' (HR.out.below hb) 0 hpos last _ hz)
      clear hxs hxl hxr ho hbl
      go_wp2_with (go_at_call 47; (with_reducible refine (HTY.out _ HBL.out).mono ?_); rintro e w' ⟨rfl, rfl⟩)
      go_ret3
      exact ⟨_, rfl, HO.out, HBL.out⟩
end Go.Proofs.YtkniifopfgeopaaGreat

namespace Go.Proofs.YtkniifopfgeopaaGreat
open Go.RowKit
set_option linter.unusedVariables false

/-- The result of a function that returns bytes of its own and a bool. -/
def BytesOkR (w : World) (r : List Int × Bool) (e : Ending) (w' : World) : Prop := ∃ p n c, e = .returned (.tuple #[.slice p n c, .bool r.2]) ∧ Byt w' p n c r.1 ∧ Below w.heap.size w w'

/-- The same; the bytes lie in a block of bytes of the call's own. -/
def BodOkR (w : World) (r : List Int × Bool) (e : Ending) (w' : World) : Prop := ∃ p n c, e = .returned (.tuple #[.slice p n c, .bool r.2]) ∧ Bod w' w.heap.size p n c r.1 ∧ Below w.heap.size w w'

end Go.Proofs.YtkniifopfgeopaaGreat

namespace Go.Proofs.YtkniifopfgeopaaGreat
open Go.RowKit
set_option linter.unusedVariables false

/-- The results of Parse. -/
def ParsedC (w : World) (r : ResC) (e : Ending) (w' : World) : Prop := ∃ v l, e = .returned (.tuple #[v, .int .i64 r.n, .int .i64 r.e]) ∧ Rws w' w.heap.size v l ∧ l.map RawP.raw = r.l ∧ l.length ≤ 40 ∧ Below w.heap.size w w'
theorem parsedC_fail (w w' : World) (E : Int) (r : ResC) (hr : failC E = r) (hb : Below w.heap.size w w') : ParsedC w r (.returned (.tuple #[.slice none 0 0, .int .i64 0, .int .i64 E])) w' := by
  subst hr
  exact ⟨_, [], rfl, Rws.nil _ _, rfl, by simp, hb⟩

theorem preC_form (out : List Raw) (r : ResC) (h : (preC out r).e ≠ 0) : preC out r = failC (preC out r).e := by
  unfold preC at h ⊢
  split
  · rfl
  · rename_i h1
    rw [if_neg h1] at h
    exact absurd rfl h
theorem parse_form (left : Nat) (kind : Int) (xs : List Int) (h : (parseC left kind xs).e ≠ 0) : parseC left kind xs = failC (parseC left kind xs).e := by
  by_cases hk : kind = 0
  · subst hk
    rw [parseC_end] at h ⊢
    split
    · rfl
    · rename_i h1
      rw [if_neg h1] at h
      exact absurd rfl h
  cases left with
  | zero => rw [parseC_many _ _ hk]; rfl
  | succ left =>
    rw [parseC_more _ _ _ hk] at h ⊢
    by_cases h1 : xs.length < 4
    · rw [if_pos h1]; rfl
    rw [if_neg h1] at h ⊢
    by_cases h2 : lenC xs < 4 ∨ (xs.length : Int) < lenC xs
    · rw [if_pos h2]; rfl
    rw [if_neg h2] at h ⊢
    by_cases h3 : lastK kind = true
    · rw [if_pos h3] at h ⊢
      split
      · rfl
      · rename_i h4
        rw [if_neg h4] at h
        exact absurd rfl h
    · rw [if_neg h3] at h ⊢
      exact preC_form _ _ h

/-- The state of the reader's loop. -/
structure StP (w wr : World) (xs : List Int) (n : Nat) (r : ResC) (o : Value) (k a : Int) : Prop where
  ex : ∃ (at_ : Nat) (l : List RawP), a = (at_ : Int) ∧ at_ ≤ n ∧ 0 ≤ k ∧ k ≤ 255 ∧ l.length ≤ 40 ∧ preC (l.map RawP.raw) (parseC (40 - l.length) k (xs.drop at_)) = r ∧ Rws wr w.heap.size o l
  bel : Below w.heap.size w wr

end Go.Proofs.YtkniifopfgeopaaGreat

namespace Go.Proofs.YtkniifopfgeopaaGreat
open Go.RowKit Go.Shelf
set_option linter.unusedVariables false

/-- The contract of a function that is ranged over: it writes the block R alone, and what is new; a round keeps what lies below B. -/
def SeqSt {α : Type} (F : Fence) (n : Nat) (P : Program) (gf : Nat) (bnd : Array Value) (encs : α → Array Value) (R B N : Nat) (S : α → World → Prop) (T : List α → World → Prop) (w : World) : Prop :=
  ∀ (l : Nat) (J : List α → World → Prop) (W : World), Below w.heap.size w W → (∀ pre U U', J pre U → U.grownBy U' (some R) → J pre U') →
    (∀ pre x U, J pre U → S x U → pre.length < N → YieldAt F (n - 1) P l (encs x) U fun e U' => e = .returned (.bool true) ∧ J (pre ++ [x]) U' ∧ Below B U U') → J [] W →
    CallsIn F n P gf (bnd ++ #[.func (.yield l) #[] #[]]) W fun e W' => (∃ v, e = .returned v) ∧ ∃ xs, T xs W' ∧ J xs W'

/-- What is said stays while the block R is written, or a block that holds no cells. -/
def AbidesR {α : Type} (R Bd : Nat) (I : α → World → Prop) : Prop :=
  ∀ s U U' row, I s U → U.grownBy U' row → (∀ r, row = some r → r = R ∨ Bd ≤ r ∧ ∃ o : Obj, U.heap[r]? = some o ∧ o.isCells = false) → I s U'
/-- What is said stays while a block is written that holds no cells. -/
def AbidesN {α : Type} (Bd : Nat) (I : α → World → Prop) : Prop :=
  ∀ s U U' row, I s U → U.grownBy U' row → (∀ r, row = some r → Bd ≤ r ∧ ∃ o : Obj, U.heap[r]? = some o ∧ o.isCells = false) → I s U'
theorem AbidesR.n {α : Type} {R Bd : Nat} {I : α → World → Prop} (h : AbidesR R Bd I) : AbidesN Bd I := fun s U U' row hs hg hr => h s U U' row hs hg (fun r e => Or.inr (hr r e))
theorem AbidesN.alloc {α : Type} {Bd : Nat} {I : α → World → Prop} (h : AbidesN Bd I) {s : α} {U : World} (o : Obj) (hs : I s U) : I s (U.alloc o) := h s U _ none hs (World.grownBy_alloc U o none) (fun r e => by cases e)
theorem AbidesN.put {α : Type} {Bd : Nat} {I : α → World → Prop} (h : AbidesN Bd I) {s : α} {U : World} {l : Nat} {o : Obj} (o' : Obj) (hs : I s U) (hB : Bd ≤ l) (hl : U.heap[l]? = some o) (ho : o.isCells = false) : I s (U.putObj l o') :=
  h s U _ (some l) hs (grownBy_putObj' U l o') (fun r e => by cases e; exact ⟨hB, o, hl, ho⟩)

/-- How a round is left: the body has gone on, and what is no cells lies as it lay. -/
def roundSt {α : Type} (I : List α → World → Prop) (B : Nat) (xs : List α) (W : World) : Exit → Act → World → Prop
  | .normal, _, W' => KeepsOthers W W' ∧ Below B W W' ∧ I xs W'
  | _, _, _ => False

variable {F : Fence} {n : Nat} {P : Program}

theorem below_put {B : Nat} (W : World) (l : Nat) (o : Obj) (h : B ≤ l) (hB : B ≤ W.heap.size) : Below B W (W.putObj l o) :=
  (Below.refl B W).grown (grownBy_putObj' W l o) hB (fun k e => by cases e; exact h)

set_option maxHeartbeats 800000 in
/-- The statement's law. -/
theorem wpIn_rangeFunc_state {α : Type} {g : Operand} {ps : Array Tmp} {assign body : Code} {Q : Exit → Act → World → Prop} {a : Act} {w : World}
    (hro : F.round = none) (h1 : 1 ≤ n) {gf : Nat} {bnd : Array Value} (hg : a.eval g = .func (.func gf) bnd #[]) (hF : F.fn gf) (eg : ∀ args w, (callFunc gf args).run P w = .ok (.enter gf args) w)
    {encs : α → Array Value} (hps : ∀ x, (encs x).size = ps.size) {R B N : Nat} {S : α → World → Prop} {T : List α → World → Prop} (hseq : SeqSt F (n - 1) P gf bnd encs R B N S T w)
    (hR : R < w.heap.size) (hB : B ≤ w.heap.size) (hS : AbidesN w.heap.size S) (hT : AbidesN w.heap.size T) (I : List α → World → Prop) (hI : AbidesR R w.heap.size I) (h0 : I [] w) (aa : α → World → Act) (obj : α → Obj)
    (hassign : ∀ (l : Nat) (x : α) (U : World) (K : Act → World → Prop), K (aa x U) (U.alloc (obj x)) →
      assign.wpIn (F.inRound l) (n - 1 - 1) P (Exit.then K (fun _ _ _ => False)) { tmps := (ps.zip (encs x)).foldl (fun t (p, v) => t.setIfInBounds p v) a.tmps, defers := [] } U)
    (hbody : ∀ (l : Nat) (pre : List α) (x : α) (U U2 : World), I pre U2 → S x U2 → pre.length < N → U2.heap[U.heap.size]? = some (obj x) → w.heap.size ≤ U.heap.size → body.wpIn (F.inRound l) (n - 1 - 1) P (roundSt I B (pre ++ [x]) U2) (aa x U) U2)
    (hdone : ∀ (D : Nat) (xs : List α) (W : World), w.heap.size ≤ D → T xs W → I xs W → W.heap[D]? = some (.deferred (some [])) → Q .normal { a with defers := { target := .collected D, args := #[] } :: a.defers } W) :
    (Code.rangeFunc g ps assign body).wpIn F n P Q a w := by
  refine wpIn_rangeFunc ?_
  intro fn hfn
  rw [hro]
  obtain ⟨rec, hrec⟩ : ∃ rec : LoopState → Loop, rec = fun st => { state := st, pending := none, fn, tmps := a.tmps, params := ps, assign, body, defers := w.heap.size } := ⟨_, rfl⟩
  obtain ⟨W1, hW1⟩ : ∃ W1, (w.alloc (.deferred (some []))).alloc (.loop (rec .ready)) = W1 := ⟨_, rfl⟩
  have e1 : (w.alloc (.deferred (some []))).heap.size = w.heap.size + 1 := World.size_alloc _ _
  have hL1 : W1.heap[w.heap.size + 1]? = some (.loop (rec .ready)) := by
    rw [← hW1, ← e1]
    exact World.alloc_heap_new _ _
  have hK1 : W1.heap[w.heap.size]? = some (.deferred (some [])) := by
    rw [← hW1]
    exact (Below.heap_alloc _ _ _ (by simp)).trans (World.alloc_heap_new w _)
  have hI1 : I [] W1 := by
    rw [← hW1]
    exact hI.n.alloc _ (hI.n.alloc _ h0)
  have hb1 : Below w.heap.size w W1 := by
    rw [← hW1]
    exact ((Below.refl _ w).alloc (Nat.le_refl _) _).alloc (by simp) _
  refine ⟨w.heap.size + 1, [{ target := .collected w.heap.size, args := #[] }], W1, { target := .fn (.func gf) #[], args := bnd ++ #[.func (.yield (w.heap.size + 1)) #[] #[]] }, W1, gf,
    bnd ++ #[.func (.yield (w.heap.size + 1)) #[] #[]], W1, ?_, ?_, ?_, ?_, fun _ => h1, ?_⟩
  · rw [← hW1, hrec]
    exact run_enterLoop_outer _ _ _ _ _
  · simp only [resolve, hg]
    simp [go_sem]
  · intro f' hf'
    simp [Target.leads] at hf'
    subst hf'
    exact hF
  · simp [invoke, go_sem, eg]
  · refine (hseq (w.heap.size + 1) (fun pre U => I pre U ∧ U.heap[w.heap.size + 1]? = some (.loop (rec .ready)) ∧ U.heap[w.heap.size]? = some (.deferred (some []))) W1 hb1 ?_ ?_ ⟨hI1, hL1, hK1⟩).mono ?_
    · rintro pre U U' ⟨hi, hl, hk⟩ hgr
      have hlt := (Array.getElem?_eq_some_iff.1 hl).1
      exact ⟨hI pre U U' _ hi hgr (fun r e => by cases e; exact Or.inl rfl), (hgr.block _ hlt (by simp; omega)).trans hl, (hgr.block _ (by omega) (by simp; omega)).trans hk⟩
    · rintro pre x U ⟨hi, hl, hk⟩ hs hN
      have hlt := (Array.getElem?_eq_some_iff.1 hl).1
      have hy := run_yield (P := P) (args := encs x) hl (by rw [hrec]; exact hps x)
      rw [hrec] at hy
      have hl' : (U.alloc (obj x)).heap[w.heap.size + 1]? = some (.loop (rec .ready)) := (Below.heap_alloc _ _ _ hlt).trans hl
      have hk' : (U.alloc (obj x)).heap[w.heap.size]? = some (.deferred (some [])) := (Below.heap_alloc _ _ _ (by omega)).trans hk
      refine ⟨fn, _, assign, body, hy, roundIn_of_wpIn hfn (hassign _ x U _ ⟨_, run_beginRound hl' (by rw [hrec]), ?_⟩)⟩
      obtain ⟨U2, hU2⟩ : ∃ U2, (U.alloc (obj x)).putObj (w.heap.size + 1) (.loop { rec .ready with state := .busy }) = U2 := ⟨_, rfl⟩
      have hsz : (U.alloc (obj x)).heap.size = U.heap.size + 1 := World.size_alloc _ _
      have hl2 : U2.heap[w.heap.size + 1]? = some (.loop (rec .busy)) := by
        rw [← hU2, World.putObj_heap_same (by omega), hrec]
      have hk2 : U2.heap[w.heap.size]? = some (.deferred (some [])) := by
        rw [← hU2]
        exact (World.putObj_heap_other (by omega)).trans hk'
      have ho2 : U2.heap[U.heap.size]? = some (obj x) := by
        rw [← hU2]
        exact (World.putObj_heap_other (by omega)).trans (World.alloc_heap_new U (obj x))
      have hi2 : I pre U2 := by
        rw [← hU2]
        exact hI.n.put _ (hI.n.alloc _ hi) (by omega) hl' rfl
      have hs2 : S x U2 := by
        rw [← hU2]
        exact hS.put _ (hS.alloc _ hs) (by omega) hl' rfl
      have hb2 : Below B U U2 := by
        rw [← hU2]
        exact ((Below.refl B U).alloc (by omega) _).trans (below_put _ _ _ (by omega) (by omega))
      rw [hU2]
      refine wpIn_mono (hbody _ pre x U U2 hi2 hs2 hN ho2 (by omega)) ?_
      rintro e a3 W3 hp
      cases e with
      | normal =>
        obtain ⟨hk3, hb3, hi3⟩ := hp
        have hl3 := hk3.same _ _ hl2 rfl
        have hr := run_endRound (P := P) none hl3
        have hlt3 := (Array.getElem?_eq_some_iff.1 hl3).1
        refine ⟨_, _, hr, rfl, ⟨hI.n.put _ hi3 (by omega) hl3 rfl, ?_, ?_⟩, hb2.trans (hb3.trans (below_put _ _ _ (by omega) (by omega)))⟩
        · rw [World.putObj_heap_same hlt3, hrec]
          rfl
        · exact (World.putObj_heap_other (by omega)).trans (hk3.same _ _ hk2 rfl)
      | ret => exact hp.elim
      | exit id => exact hp.elim
      | goto t => exact hp.elim
      | panic ch => exact hp.elim
      | outgrown => exact hp.elim
    · rintro e W2 ⟨⟨v, rfl⟩, xs, ht, hi, hl, hk⟩
      have := run_endLoop (P := P) hl (by rw [hrec]; simp)
      rw [hrec] at this hl
      exact ⟨none, _, this, hdone _ xs _ (Nat.le_refl _) (hT.put _ ht (by omega) hl rfl) (hI.n.put _ hi (by omega) hl rfl) ((World.putObj_heap_other (by omega)).trans hk)⟩
end Go.Proofs.YtkniifopfgeopaaGreat
