/-
  Package payload's Parse, given what the reader of the type returns.
  A map of the call's own from uint64s to bools that holds just those of a list.
  The first error of the SPIs of a deletion, as package payload tells it.
  What package selector reads of the beginning of some bytes.
  Rows of payloads in memory, and the small functions of package message that look at one payload or search a row.
  Lists of payloads in memory, whatever the program: a row of the call's own whose elements have three cells: a number, a Boolean, a slice of bytes.
  A row of payloads of the call's own, with their bodies: what it is, how it stays, and how it grows.
  Plain mathematics, no program: a round of the loops that read and write chains of payloads.
  Types of payloads, and whether two lists of payloads are the same.
  What the document's own Put returns, for every slice of bytes, number and width.
  What the document's own Build of chains returns: the bytes of the payloads, or the first error.
-/
import Derived.Test.YtkniifopfgeopaaGreatJZ5
import Derived.Test.YtkniifopfgeopaaGreatJZ0
import Derived.Test.YtkniifopfgeopaaGreatJZ6
import Derived.Test.YtkniifopfgeopaaGreatJZ4
import Derived.Test.YtkniifopfgeopaaGreatJZ9
import Derived.Test.YtkniifopfgeopaaGreatJZ3
import Derived.Test.YtkniifopfgeopaaGreatJZ2
import Derived.Maps.OwnOps
import Derived.Maps.Views
import Derived.Deep.Cut
import Derived.Laws.Entries
import Derived.Deep.QuietTactic
import Derived.BigQuiet
import Derived.Deep.CutBlock
import Derived.Deep.RegionHeld3
namespace Go.Proofs.YtkniifopfgeopaaGreat
open Go.RowKit
set_option linter.unusedVariables false

/-- What is known of a payload that was read: it lies beyond a place, and the type does not matter. -/
structure Gd where
  ok : Nat → World → Pv → Prop
  keep : ∀ {base : Nat} {w w' : World} {x : Pv}, ok base w x → (∀ a v, base ≤ a.block → w.cell? a = some v → w'.cell? a = some v) → ok base w' x
  mono : ∀ {base base' : Nat} {w : World} {x : Pv}, ok base w x → base' ≤ base → ok base' w x
  ty : ∀ {base : Nat} {w : World} {x : Pv} (z : Int), ok base w x → ok base w { x with t := z }
theorem Frs.keep {w w' : World} {base : Nat} {p : Option Addr} {n c : Nat} {xs : List Int} (h : Frs w base p n c xs) (hk : ∀ a v, base ≤ a.block → w.cell? a = some v → w'.cell? a = some v) : Frs w' base p n c xs :=
  ⟨⟨h.byt.len, h.byt.cap, h.byt.big, h.byt.rng, fun hn => by
    obtain ⟨b, o, e, hc⟩ := h.byt.mem hn
    obtain ⟨b', o', e', hb⟩ := h.own (by have := h.byt.len; omega)
    rw [e] at e'
    injection e' with e'
    injection e' with e1 e2
    subst e1
    exact ⟨b, o, e, fun i hi => hk _ _ hb (hc i hi)⟩⟩, h.own⟩
def gdData (xs : List Int) : Gd where
  ok base w x := FrV w base x.da xs
  keep h hk := Frs.keep h hk
  mono h hb := Frs.mono h hb
  ty _ h := h
def gdIdent (xs : List Int) : Gd where
  ok base w x := x.ik = nthB xs 0 ∧ FrV w base x.id (xs.drop 4)
  keep h hk := ⟨h.1, Frs.keep h.2 hk⟩
  mono h hb := ⟨h.1, Frs.mono h.2 hb⟩
  ty _ h := h
/-- What Parse returns. -/
def ParsedV (w : World) (k E : Int) (G : Gd) (e : Ending) (w' : World) : Prop := ∃ x : Pv, e = .returned (.tuple #[(.agg #[.int .i64 x.t, .slice x.pr.p x.pr.n x.pr.c, .int .i64 x.eg, .slice x.ed.p x.ed.n x.ed.c, .int .i64 x.ik, .slice x.id.p x.id.n x.id.c, .int .i64 x.am, .slice x.ad.p x.ad.n x.ad.c, .int .i64 x.np, .slice x.ns.p x.ns.n x.ns.c, .int .i64 x.nt, .slice x.nd.p x.nd.n x.nd.c, .int .i64 x.dp, .slice x.ds.p x.ds.n x.ds.c, .slice x.se.p x.se.n x.se.c, .slice x.da.p x.da.n x.da.c]), .int .i64 E]) ∧ Below w.heap.size w w' ∧ ((E = 0 ∧ x.t = k ∧ G.ok w.heap.size w' x) ∨ (E ≠ 0 ∧ x = zeroP))
end Go.Proofs.YtkniifopfgeopaaGreat

namespace Go.Proofs.YtkniifopfgeopaaGreat
open Go.RowKit
open Go.Maps (Keyed IsMap)
set_option linter.unusedVariables false
set_option maxRecDepth 100000

/-- What a word of 64 bits holds. -/
def WdR (t : Int) : Prop := 0 ≤ t ∧ t ≤ 18446744073709551615
theorem lawU : Keyed Tryz.prog 33 := Maps.int_keyed Tryz.underlying33
theorem key_u (t : Int) (h : WdR t) : keyOf Tryz.prog 33 (.int .u64 t) = some (.int .u64 t) := Maps.keyOf_int_mk Tryz.underlying33 (WalkArith.wf_u64 (by unfold WdR at h; omega))
/-- What the map reads as, and the ints that it holds. -/
structure FndUD (D : DataW Unit) (ts : List Int) : Prop where
  map : IsMap D
  at_ : ∀ (t : Int), WdR t → D.atKey (.int .u64 t) (.lit (.bool false)) = .lit (.bool (decide (t ∈ ts)))
def FndU (w : World) (b : Nat) (ts : List Int) : Prop := ∃ D : DataW Unit, w.ownsMap Tryz.prog 33 (plainElem Tryz.prog 4) b ts.length D ∧ FndUD D ts
theorem FndU.made (w : World) : FndU (w.alloc (.map #[] 0)) w.heap.size [] := ⟨_, World.ownsMap_made _ _ _ _, ⟨[], rfl⟩, fun t h => by simp [DataW.atKey]⟩
theorem FndU.lt {w : World} {b : Nat} {ts : List Int} (h : FndU w b ts) : b < w.heap.size := by
  obtain ⟨D, h1, _⟩ := h
  exact h1.lt
theorem FndU.grown {w w' : World} {b : Nat} {ts : List Int} {row : Option Nat} (h : FndU w b ts) (hg : w.grownBy w' row) (hne : some b ≠ row) : FndU w' b ts := by
  obtain ⟨D, h1, h2⟩ := h
  exact ⟨D, h1.kept hg hne, h2⟩
theorem FndU.below {w w' : World} {b : Nat} {ts : List Int} (h : FndU w b ts) (hb : Below w.heap.size w w') : FndU w' b ts := h.grown (row := none) (grown_of_below hb none) (by simp)
theorem FndU.notCells {w : World} {b : Nat} {ts : List Int} (h : FndU w b ts) (cur : Array Value) (e : TypeId) (fz : Nat × Nat) : w.heap[b]? ≠ some (.cells cur e fz) := by
  obtain ⟨D, ⟨es, clock, h1, _⟩, _⟩ := h
  rw [h1]
  simp
theorem Tryz.zeroBoolU (w : World) : (zeroValue 4).run Tryz.prog w = .ok (.bool false) w := by kernel_rfl
theorem FndU.look {w : World} {b : Nat} {ts : List Int} (h : FndU w b ts) (t : Int) (hi : WdR t) :
    (Instr.lookup 173 (.map (some b)) (.int .u64 t) false).run Tryz.prog w = .ok (.bool (decide (t ∈ ts))) w := by
  obtain ⟨D, h1, h2⟩ := h
  obtain ⟨v, ps, hrun, hv⟩ := h1.lookup lawU Tryz.underlying173 (Tryz.zeroBoolU w) (plainElem_bool Tryz.underlying4 false) (key_u t hi)
  rw [h2.at_ t hi] at hv
  have : v = .bool (decide (t ∈ ts)) := by
    unfold plainElem at hv
    rw [Tryz.underlying4] at hv
    cases v <;> simp at hv
    rw [hv.1]
  rw [← this]
  exact hrun
theorem FndUD.put {D : DataW Unit} {ts : List Int} (h : FndUD D ts) (t : Int) (hi : WdR t) : FndUD (D.put (.int .u64 t) (.lit (.bool true))) (ts ++ [t]) := by
  refine ⟨h.map.put _ _, fun t' hi' => ?_⟩
  by_cases he : t' = t
  · subst he
    rw [Maps.atKey_put_same h.map (lawU.key (key_u t' hi))]
    simp
  · have hne : (Lit.int .u64 t' : Lit) ≠ .int .u64 t := by
      intro e
      injection e with _ e
      exact he e
    rw [Maps.atKey_put_other hne, h.at_ t' hi']
    simp [he]
/-- A store into the map as a law of the walk. -/
theorem wpList_fndU (w : World) {ops : Array Oper} {rest : List Oper} {o : Oper} {a : Act} {Q : Exit → Act → World → Prop} (hg : o.guard = none) (m x v : Operand) (hop : o.op = Op.mapUpdate 173 m x v)
    (b : Nat) (ts : List Int) (h : FndU w b ts) (hn : ts.length < maxLen) (hm : a.eval m = .map (some b)) (t : Int) (hx : a.eval x = .int .u64 t) (hv : a.eval v = .bool true) (hi : WdR t)
    (hK : ∀ w', FndU w' b (ts ++ [t]) → w.grownBy w' (some b) → wpList Tryz.prog ops Q rest (a.put o.dst undef) w') : wpList Tryz.prog ops Q (o :: rest) a w := by
  obtain ⟨D, h1, h2⟩ := h
  refine wpList_mapUpdate_own w hg m x v _ hop _ _ lawU Tryz.underlying173 _ b _ D hm h1 hn _ _ (.int .u64 t) hx hv (key_u t hi) _ [] (plainElem_bool Tryz.underlying4 true) ?_
  intro w' h3 h4
  exact hK w' ⟨_, by simpa using h3, h2.put t hi⟩ h4
end Go.Proofs.YtkniifopfgeopaaGreat

namespace Go.Proofs.YtkniifopfgeopaaGreat
open Go.RowKit
set_option linter.unusedVariables false

/-- What the program reads of all bytes of a row. -/
def wordOf (xs : List Int) : Int := (numR xs 0 xs.length).1
theorem wordOf_rng (xs : List Int) (h : ∀ x ∈ xs, 0 ≤ x ∧ x ≤ 255) : WdR (wordOf xs) := by
  unfold wordOf numR WdR
  split
  · rename_i hc
    obtain ⟨_, h8, _⟩ := hc
    have hb := val_bd xs h
    have e : ((xs.drop (0 : Int).toNat).take ((xs.length : Nat) : Int).toNat) = xs := by
      show (xs.drop 0).take xs.length = xs
      rw [List.drop_zero, List.take_length]
    have hl : xs.length ≤ 8 := by omega
    have hp : (256 : Int) ^ xs.length ≤ 256 ^ 8 := by
      have := Nat.pow_le_pow_right (n := 256) (by decide) hl
      have h2 : ((256 ^ xs.length : Nat) : Int) ≤ ((256 ^ 8 : Nat) : Int) := Int.ofNat_le.2 this
      rw [Int.natCast_pow, Int.natCast_pow] at h2
      exact h2
    have hq : (256 : Int) ^ 8 = 18446744073709551616 := by decide
    rw [hq] at hp
    show 0 ≤ val ((xs.drop (0 : Int).toNat).take ((xs.length : Nat) : Int).toNat) ∧ val ((xs.drop (0 : Int).toNat).take ((xs.length : Nat) : Int).toNat) ≤ 18446744073709551615
    rw [e]
    omega
  · exact ⟨by decide, by decide⟩
/-- Whether one of these rows reads as one of the words or as one before it. -/
def spisT : List Int → List Sb → Bool
  | _, [] => false
  | ts, y :: l => decide (wordOf y.xs ∈ ts) || spisT (ts ++ [wordOf y.xs]) l
/-- The first error of the SPIs of a deletion of protocol k. -/
def spisE (k : Int) (l : List Sb) : Int := if l.length = 0 ∧ k ≠ 1 then 8 else if spisT [] l then 9 else 0
/-- The same, said of the bytes alone. -/
def twiceW : List Int → List (List Int) → Bool
  | _, [] => false
  | ts, y :: l => decide (wordOf y ∈ ts) || twiceW (ts ++ [wordOf y]) l
def spisX (k : Int) (l : List (List Int)) : Int := if l.length = 0 ∧ k ≠ 1 then 8 else if twiceW [] l then 9 else 0
theorem spisT_xs : ∀ (l : List Sb) (ts : List Int), spisT ts l = twiceW ts (l.map Sb.xs)
  | [], _ => rfl
  | y :: l, ts => by simp [spisT, twiceW, spisT_xs l]
theorem spisE_xs (k : Int) (l : List Sb) : spisE k l = spisX k (l.map Sb.xs) := by simp [spisE, spisX, spisT_xs]
theorem FndU.alloc {w : World} {b : Nat} {ts : List Int} (h : FndU w b ts) (o : Obj) : FndU (w.alloc o) b ts := h.below ((Below.refl _ _).alloc (Nat.le_refl _) o)

set_option maxHeartbeats 6400000 in
set_option maxRecDepth 100000 in
theorem checkSpis_any (k : Int) (p : Option Addr) (n c : Nat) (l : List Sb) (w : World) (h : RdG KSb DSb w p n c l) :
    Calls Tryz.prog 89 #[.agg #[.int .i64 k, .slice p n c]] w fun e w' => e = .returned (.int .i64 (spisE k l)) ∧ Below w.heap.size w w' := by
  have hmm := @run_makeMap Tryz.prog
  have hl := h.len
  have hbig : n ≤ maxLen := Nat.le_trans h.cap h.big
  have hn63 := h.le
  have HBX := hidden ((Below.refl w.heap.size w).alloc (Nat.le_refl _) (.cells #[.int .i64 k, .slice p n c] 56))
  obtain ⟨R, hR⟩ : ∃ R, spisE k l = R := ⟨_, rfl⟩
  rw [hR]
  by_cases h0 : n = 0
  · subst h0
    have e0 : (((0 : Nat) : Int) == 0) = true := rfl
    by_cases h1 : k = 1
    · subst h1
      have HR : Is (0 : Int) R := ⟨by
        rw [← hR]
        have : l = [] := List.eq_nil_of_length_eq_zero hl
        subst this
        rfl⟩
      clear hR h hl
      go_enter Tryz.func89, Tryz.ntmps89
      go_wp2_with fail
      go_loopw [21] (fun v wr => v = .int .i64 0 ∧ Below (w.heap.size + 1) (w.alloc (.cells #[.int .i64 1, .slice p 0 c] 56)) wr) (fun v _ => 0)
      case atStart => exact ⟨rfl, (Below.refl _ _).alloc (by simp) _⟩
      case round =>
        obtain ⟨rfl, hb⟩ := hrel
        have hb' : Below (w.alloc (.cells #[.int .i64 1, .slice p 0 c] 56)).heap.size (w.alloc (.cells #[.int .i64 1, .slice p 0 c] 56)) wr := by simpa using hb
        have HB := hidden (HBX.out.trans (hb'.mono HBX.out.size))
        clear hb hb'
        go_wp2
        go_ret
        exact ⟨by rw [← HR.eq]; rfl, HB.out⟩
    · have e1 : (k != 1) = true := by simpa using h1
      have HR : Is (8 : Int) R := ⟨by rw [← hR]; unfold spisE; rw [if_pos ⟨hl, h1⟩]⟩
      clear hR h h1 hl
      go_enter Tryz.func89, Tryz.ntmps89
      go_wp2_with fail
      go_ret
      exact ⟨by rw [← HR.eq]; rfl, HBX.out⟩
  have e0 : ((n : Int) == 0) = false := by simpa using h0
  obtain ⟨R0, hR0⟩ : ∃ R0, spisT [] l = R0 := ⟨_, rfl⟩
  have HR : Is (if R0 = true then (9 : Int) else 0) R := ⟨by rw [← hR, ← hR0]; exact (if_neg (fun e => by have := e.1; omega)).symm⟩
  have HR0 := Is.mk hR0
  clear hR hR0 h0
  have H := hidden h
  have HL := Is.mk hl
  clear h hl
  have HFM := hidden (FndU.made (w.alloc (.cells #[.int .i64 k, .slice p n c] 56)))
  go_enter Tryz.func89, Tryz.ntmps89
  go_wp2_with fail
  go_loopw [21] (fun v wr => ∃ (j : Nat), j ≤ n ∧ v = .int .i64 j ∧ FndU wr (w.heap.size + 1) ((l.take j).map (fun y => wordOf y.xs)) ∧ Is (spisT ((l.take j).map (fun y => wordOf y.xs)) (l.drop j)) R0 ∧ Below (w.heap.size + 1) (w.alloc (.cells #[.int .i64 k, .slice p n c] 56)) wr) (fun v _ => n - (intOf v).toNat)
  case atStart => exact ⟨0, by omega, rfl, by simpa using HFM.out, ⟨by simpa using HR0.eq⟩, (Below.refl _ _).alloc (by simp) _⟩
  case round =>
    obtain ⟨j, hj, rfl, hfn, hrel, hb⟩ := hrel
    have HFN := hidden hfn
    have hb' : Below (w.alloc (.cells #[.int .i64 k, .slice p n c] 56)).heap.size (w.alloc (.cells #[.int .i64 k, .slice p n c] 56)) wr := by simpa using hb
    have HB := hidden (HBX.out.trans (hb'.mono HBX.out.size))
    have HB1 := hidden hb
    have hsz : w.heap.size + 1 ≤ wr.heap.size := by have := hb'.size; simpa using this
    clear hb hb' hfn
    by_cases hlt : j < n
    · have hlt' : (j : Int) < n := by omega
      obtain ⟨g, y, rfl, hgx, hdr, hok, hc⟩ := (H.out.below HB.out).sb_cons hlt
      have hf := hrel.eq
      rw [hdr] at hf
      unfold spisT at hf
      have htk : (l.take (j + 1)).map (fun y => wordOf y.xs) = (l.take j).map (fun y => wordOf y.xs) ++ [wordOf y.xs] := by
        rw [List.take_add_one, hgx]
        simp
      have HTK := Is.mk htk
      have hlen : ((l.take j).map (fun y => wordOf y.xs)).length < maxLen := by simp; omega
      have HIY := hidden (wordOf_rng y.xs hok.rng)
      have hlk := HFN.out.look (wordOf y.xs) (wordOf_rng y.xs hok.rng)
      have hyn := hok.le
      have HN := hidden (number_any y.p y.n y.c y.xs wr hok 0 y.n (by omega) (by omega))
      have hw : (numR y.xs 0 y.n).1 = wordOf y.xs := by unfold wordOf; rw [hok.len]
      rw [hw] at HN
      clear hok hrel hdr hgx hw htk
      generalize (l.take j).map (fun y => wordOf y.xs) = ts at hf HFN hlk hlen HTK
      generalize decide (wordOf y.xs ∈ ts) = z at hf hlk
      generalize wordOf y.xs = t at hf HFN hlk HTK HIY HN
      generalize (numR y.xs 0 y.n).2 = q at HN
      cases z with
      | true =>
        have HT : Is R0 true := ⟨by simpa using hf.symm⟩
        clear hf
        go_wp2_with (first
          | (go_at_call 51; (with_reducible refine (HN.out).mono ?_); rintro _ w1 ⟨rfl, rfl⟩)
          | fail)
        go_ret
        exact ⟨by rw [← HR.eq, HT.eq]; rfl, HB.out⟩
      | false =>
        have HT : Is (spisT (ts ++ [t]) (l.drop (j + 1))) R0 := ⟨by simpa using hf⟩
        clear hf
        go_wp2_with (first
          | (go_at_call 51; (with_reducible refine (HN.out).mono ?_); rintro _ w1 ⟨rfl, rfl⟩)
          | (at_mapUpdate; go_loud (refine wpList_fndU _ rfl _ _ _ rfl (w.heap.size + 1) ts HFN.out hlen rfl t rfl rfl HIY.out ?_); rintro w2 hf2 hg2; have HF2 := hidden hf2; have HB2 := hidden (HB1.out.grown hg2 hsz (fun k hk => by cases hk; exact Nat.le_refl _)); clear hf2 hg2)
          | fail)
        go_roundw
        case rel => exact ⟨j + 1, by omega, by go_num, by rw [HTK.eq]; exact HF2.out, by rw [HTK.eq]; exact HT, HB2.out⟩
        case measure => simp [intOf]; omega
    · have hlt' : ¬ (j : Int) < n := by omega
      have hd : l.drop j = [] := List.drop_eq_nil_of_le (by rw [HL.eq]; omega)
      have hf := hrel.eq
      rw [hd] at hf
      have HT : Is R0 false := ⟨hf.symm⟩
      clear hf hd hrel
      go_wp2
      go_ret
      exact ⟨by rw [← HR.eq, HT.eq]; rfl, HB.out⟩
end Go.Proofs.YtkniifopfgeopaaGreat

namespace Go.Proofs.YtkniifopfgeopaaGreat
open Go.RowKit
set_option linter.unusedVariables false

theorem numR_bd (xs : List Int) (hr : ∀ x ∈ xs, 0 ≤ x ∧ x ≤ 255) (a k : Int) : 0 ≤ (numR xs a k).1 ∧ (numR xs a k).1 ≤ 18446744073709551615 := by
  unfold numR
  split
  · rename_i h
    have hb := val_bd ((xs.drop a.toNat).take k.toNat) (rng_take (rng_drop hr _) _)
    have hl : ((xs.drop a.toNat).take k.toNat).length ≤ 8 := by simp; omega
    have h8 := pow256_le hl
    have e : (256 : Int) ^ 8 = 18446744073709551616 := by decide
    rw [e] at h8
    simp only
    omega
  · simp
theorem numR_two (xs : List Int) (hr : ∀ x ∈ xs, 0 ≤ x ∧ x ≤ 255) (a k : Int) (hk : k ≤ 2) : (numR xs a k).1 ≤ 65535 := by
  unfold numR
  split
  · rename_i h
    have hb := val_bd ((xs.drop a.toNat).take k.toNat) (rng_take (rng_drop hr _) _)
    have hl : ((xs.drop a.toNat).take k.toNat).length ≤ 2 := by simp; omega
    have h8 := pow256_le hl
    have e : (256 : Int) ^ 2 = 65536 := by decide
    rw [e] at h8
    simp only
    omega
  · simp
theorem numR_in (xs : List Int) (a k : Nat) (h1 : 1 ≤ k) (h8 : k ≤ 8) (h : a + k ≤ xs.length) : numR xs a k = (nAt xs a k, true) := by
  unfold numR nAt
  rw [if_pos (by omega)]
  rfl
theorem nAt_one (xs : List Int) (a : Nat) (h : a < xs.length) : nAt xs a 1 = xs.getD a 0 := by
  unfold nAt
  rw [List.drop_eq_getElem_cons h, List.take_succ_cons, List.take_zero, List.getD_eq_getElem?_getD, List.getElem?_eq_getElem h]
  show (0 : Int) * 256 + xs[a] = xs[a]
  omega
/-- The selector at the beginning, by the numbers that are read. -/
theorem oneS_num (xs : List Int) (K Z : Int) (hK : (numR xs 0 1).1 = K) (hZ : (numR xs 2 2).1 = Z) :
    oneS xs = if K = 7 ∧ Z = 16 ∧ 16 ≤ xs.length then some (⟨nAt xs 1 1, nAt xs 4 2, nAt xs 6 2, ⟨4, 0, nAt xs 8 4⟩, ⟨4, 0, nAt xs 12 4⟩⟩, 16)
      else if K = 8 ∧ Z = 40 ∧ 40 ≤ xs.length then some (⟨nAt xs 1 1, nAt xs 4 2, nAt xs 6 2, ⟨6, nAt xs 8 8, nAt xs 16 8⟩, ⟨6, nAt xs 24 8, nAt xs 32 8⟩⟩, 40)
      else none := by
  unfold oneS
  by_cases h : xs.length < 8
  · rw [if_pos h, if_neg (by omega), if_neg (by omega)]
  · rw [if_neg h]
    have h0 := numR_in xs 0 1 (by omega) (by omega) (by omega)
    have h2 := numR_in xs 2 2 (by omega) (by omega) (by omega)
    rw [show ((0 : Nat) : Int) = 0 from rfl, show ((1 : Nat) : Int) = 1 from rfl] at h0
    rw [show ((2 : Nat) : Int) = 2 from rfl] at h2
    rw [h0] at hK
    rw [h2] at hZ
    simp only at hK hZ
    rw [← nAt_one xs 0 (by omega), ← nAt_one xs 1 (by omega), hK, hZ]

theorem snum_any (p : Option Addr) (n c : Nat) (xs : List Int) (w : World) (h : Byt w p n c xs) (a k : Int) (ha : -9223372036854775808 ≤ a ∧ a ≤ 9223372036854775807) (hk : 0 ≤ k ∧ k ≤ 2) (v : Int) (hv : (numR xs a k).1 = v) :
    Calls Tryz.prog 125 #[.slice p n c, .int .i64 a, .int .i64 k] w fun e w' => e = .returned (.int .i64 v) ∧ w = w' := by
  have HN := hidden (number_any p n c xs w h a k ha (by omega))
  have b1 := numR_bd xs h.rng a k
  have b2 := numR_two xs h.rng a k hk.2
  rw [hv] at b1 b2
  obtain ⟨v', ok, hr⟩ : ∃ v' ok, numR xs a k = (v', ok) := ⟨_, _, rfl⟩
  rw [hr] at hv
  obtain rfl : v' = v := hv
  rw [hr] at HN
  have hw : IntKind.i64.wrap v' = v' := by rw [IntKind.wrap_i64]; omega
  clear h hr
  go_enter Tryz.func125, Tryz.ntmps125
  go_wp2_with (first
    | (go_at_call 51; (with_reducible refine (HN.out).mono ?_); rintro e w' ⟨rfl, rfl⟩)
    | fail)
  go_ret
  exact ⟨rfl, rfl⟩

theorem num_b (p : Option Addr) (n c : Nat) (xs : List Int) (w : World) (h : Byt w p n c xs) (a k : Nat) (A K : Int) (hA : A = a) (hK : K = k) (h1 : 1 ≤ k) (h8 : k ≤ 8) (hin : a + k ≤ n) :
    Calls Tryz.prog 51 #[.slice p n c, .int .i64 A, .int .i64 K] w fun e w' => e = .returned (.tuple #[.int .u64 (nAt xs a k), .bool true]) ∧ w = w' := by
  subst hA hK
  exact number_yes p n c xs w h a k h1 h8 hin
theorem read4_any (p : Option Addr) (n c : Nat) (xs : List Int) (w : World) (h : Byt w p n c xs) (a : Nat) (A : Int) (hA : A = a) (hin : a + 4 ≤ n) :
    Calls Tryz.prog 126 #[.slice p n c, .int .i64 A] w fun e w' => e = .returned (.agg #[.int .i64 4, .int .u64 0, .int .u64 (nAt xs a 4)]) ∧ Below w.heap.size w w' := by
  subst hA
  have hn := h.le
  have HN := hidden (num_b p n c xs _ (h.alloc (.cells #[.int .i64 0, .int .u64 0, .int .u64 0] 114)) a 4 a 4 rfl rfl (by omega) (by omega) (by omega))
  have HB := hidden ((Below.refl w.heap.size w).alloc (Nat.le_refl _) (.cells #[.int .i64 0, .int .u64 0, .int .u64 0] 114))
  clear h
  go_enter Tryz.func126, Tryz.ntmps126
  go_wp2_with (first
    | (go_at_call 51; (with_reducible refine (HN.out).mono ?_); rintro e w' ⟨rfl, rfl⟩)
    | fail)
  refine ret_ad (g := w.heap.size) (x := ⟨4, 0, nAt xs a 4⟩) rfl rfl rfl (AdIn.new w ⟨4, 0, nAt xs a 4⟩ _) ?_
  exact ⟨rfl, (Below.refl w.heap.size w).alloc (Nat.le_refl _) _⟩
theorem read6_any (p : Option Addr) (n c : Nat) (xs : List Int) (w : World) (h : Byt w p n c xs) (a : Nat) (A : Int) (hA : A = a) (hin : a + 16 ≤ n) :
    Calls Tryz.prog 127 #[.slice p n c, .int .i64 A] w fun e w' => e = .returned (.agg #[.int .i64 6, .int .u64 (nAt xs a 8), .int .u64 (nAt xs (a + 8) 8)]) ∧ Below w.heap.size w w' := by
  subst hA
  have hn := h.le
  have HN := hidden (num_b p n c xs _ (h.alloc (.cells #[.int .i64 0, .int .u64 0, .int .u64 0] 114)) a 8 a 8 rfl rfl (by omega) (by omega) (by omega))
  have HM := hidden (num_b p n c xs _ (h.alloc (.cells #[.int .i64 0, .int .u64 0, .int .u64 0] 114)) (a + 8) 8 ((a : Int) + 8) 8 (by omega) rfl (by omega) (by omega) (by omega))
  have hw : IntKind.i64.wrap ((a : Int) + 8) = (a : Int) + 8 := by rw [IntKind.wrap_i64]; omega
  clear h
  go_enter Tryz.func127, Tryz.ntmps127
  go_wp2_with (first
    | (go_at_call 51; (first | (with_reducible refine (HN.out).mono ?_) | (with_reducible refine (HM.out).mono ?_)); rintro e w' ⟨rfl, rfl⟩)
    | fail)
  refine ret_ad (g := w.heap.size) (x := ⟨6, nAt xs a 8, nAt xs (a + 8) 8⟩) rfl rfl rfl (AdIn.new w ⟨6, nAt xs a 8, nAt xs (a + 8) 8⟩ _) ?_
  exact ⟨rfl, (Below.refl w.heap.size w).alloc (Nat.le_refl _) _⟩
end Go.Proofs.YtkniifopfgeopaaGreat

namespace Go.Proofs.YtkniifopfgeopaaGreat
open Go.RowKit
set_option linter.unusedVariables false

def IntR (z : Int) : Prop := -9223372036854775808 ≤ z ∧ z ≤ 9223372036854775807
/-- Payloads in a row: sixteen cells. -/
def KPv : KindR Pv where
  e := 59
  k := 16
  cs x := [.int .i64 x.t, .slice x.pr.p x.pr.n x.pr.c, .int .i64 x.eg, .slice x.ed.p x.ed.n x.ed.c, .int .i64 x.ik, .slice x.id.p x.id.n x.id.c, .int .i64 x.am, .slice x.ad.p x.ad.n x.ad.c, .int .i64 x.np, .slice x.ns.p x.ns.n x.ns.c, .int .i64 x.nt, .slice x.nd.p x.nd.n x.nd.c, .int .i64 x.dp, .slice x.ds.p x.ds.n x.ds.c, .slice x.se.p x.se.n x.se.c, .slice x.da.p x.da.n x.da.c]
  len _ := rfl
  one x u hu := by
    simp at hu
    rcases hu with rfl | rfl | rfl | rfl | rfl | rfl | rfl | rfl | rfl | rfl | rfl | rfl | rfl | rfl | rfl | rfl <;> rfl
  pos := by decide
/-- The payload's numbers are ints, its notification can be read. -/
structure NoteOk (w : World) (x : Pv) : Prop where
  t : IntR x.t
  ns : x.t = 41 → ∃ xs, Byt w x.ns.p x.ns.n x.ns.c xs
  nd : x.t = 41 → ∃ xs, Byt w x.nd.p x.nd.n x.nd.c xs
  sn : x.t = 41 → x.ns.n ≤ 140737488355328
  dn : x.t = 41 → x.nd.n ≤ 140737488355328
def DPv : ReadN Pv where
  ok := NoteOk
  keep h k := ⟨h.t, fun e => by obtain ⟨xs, h⟩ := h.ns e; exact ⟨xs, h.keep k⟩, fun e => by obtain ⟨xs, h⟩ := h.nd e; exact ⟨xs, h.keep k⟩, h.sn, h.dn⟩

/-- A message may have several of them. -/
def rep (t : Int) : Bool := t == 41 || t == 43 || t == 37 || t == 42
set_option maxHeartbeats 800000 in
theorem repeats_any (t : Int) (w : World) : Calls Tryz.prog 23 #[.int .i64 t] w fun e w' => e = .returned (.bool (rep t)) ∧ w' = w := by
  by_cases h1 : t = 41
  · subst h1
    go_enter Tryz.func23, Tryz.ntmps23
    go_wp2
    go_ret
    exact ⟨rfl, rfl⟩
  by_cases h2 : t = 43
  · subst h2
    go_enter Tryz.func23, Tryz.ntmps23
    go_wp2
    go_ret
    exact ⟨rfl, rfl⟩
  by_cases h3 : t = 37
  · subst h3
    go_enter Tryz.func23, Tryz.ntmps23
    go_wp2
    go_ret
    exact ⟨rfl, rfl⟩
  by_cases h4 : t = 42
  · subst h4
    go_enter Tryz.func23, Tryz.ntmps23
    go_wp2
    go_ret
    exact ⟨rfl, rfl⟩
  have hr : rep t = false := by simp [rep, h1, h2, h3, h4]
  go_enter Tryz.func23, Tryz.ntmps23
  go_wp2
  go_ret
  exact ⟨by first | rfl | (rw [hr]; rfl), rfl⟩

/-- The payload is a notification of an error. -/
def tells (x : Pv) : Bool := x.t == 41 && decide (x.nt < 16384)
set_option maxHeartbeats 800000 in
theorem tells_any (x : Pv) (w : World) : Calls Tryz.prog 41 #[(.agg #[.int .i64 x.t, .slice x.pr.p x.pr.n x.pr.c, .int .i64 x.eg, .slice x.ed.p x.ed.n x.ed.c, .int .i64 x.ik, .slice x.id.p x.id.n x.id.c, .int .i64 x.am, .slice x.ad.p x.ad.n x.ad.c, .int .i64 x.np, .slice x.ns.p x.ns.n x.ns.c, .int .i64 x.nt, .slice x.nd.p x.nd.n x.nd.c, .int .i64 x.dp, .slice x.ds.p x.ds.n x.ds.c, .slice x.se.p x.se.n x.se.c, .slice x.da.p x.da.n x.da.c])] w fun e w' => e = .returned (.bool (tells x)) ∧ Below w.heap.size w w' := by
  by_cases h1 : x.t = 41
  · by_cases h2 : x.nt < 16384
    · have hr : tells x = true := by simp [tells, h1, h2]
      go_enter Tryz.func41, Tryz.ntmps41
      go_wp2
      go_ret
      exact ⟨by first | rfl | (rw [hr]; rfl), (Below.refl _ _).alloc (Nat.le_refl _) _⟩
    · have hr : tells x = false := by simp [tells, h1, h2]
      go_enter Tryz.func41, Tryz.ntmps41
      go_wp2
      go_ret
      exact ⟨by first | rfl | (rw [hr]; rfl), (Below.refl _ _).alloc (Nat.le_refl _) _⟩
  · have hr : tells x = false := by simp [tells, h1]
    go_enter Tryz.func41, Tryz.ntmps41
    go_wp2
    go_ret
    exact ⟨by first | rfl | (rw [hr]; rfl), (Below.refl _ _).alloc (Nat.le_refl _) _⟩

/-- Where the first of them stands. -/
def firstAt (f : Pv → Bool) : List Pv → Nat → Int
  | [], _ => -1
  | x :: l, j => if f x then j else firstAt f l (j + 1)
theorem firstAt_neg (f : Pv → Bool) (l : List Pv) (j : Nat) : decide (0 ≤ firstAt f l j) = l.any f := by
  induction l generalizing j with
  | nil => rfl
  | cons x l ih =>
    unfold firstAt
    cases hx : f x with
    | true => simp [hx]
    | false => simp [hx, ih]
theorem RdG.drop_cons {w : World} {p : Option Addr} {n c j : Nat} {l : List Pv} (h : RdG KPv DPv w p n c l) (hj : j < n) : ∃ g x, p = some ⟨g, 0, none⟩ ∧ l[j]? = some x ∧ l.drop j = x :: l.drop (j + 1) ∧ NoteOk w x ∧ (∀ i u, (KPv.cs x)[i]? = some u → w.cell? ⟨g, j * 16 + i, none⟩ = some u) := by
  have hl : j < l.length := by rw [h.len]; exact hj
  obtain ⟨g, e, hc, hd⟩ := h.cell j hl
  exact ⟨g, l[j], e, List.getElem?_eq_getElem hl, List.drop_eq_getElem_cons hl, hd, hc⟩
set_option maxHeartbeats 1600000 in
set_option maxRecDepth 100000 in
theorem indexFunc_any (p : Option Addr) (n c : Nat) (l : List Pv) (w : World) (h : RdG KPv DPv w p n c l) :
    Calls Tryz.prog 54 #[.slice p n c, .func (.func 41) #[] #[]] w fun e w' => e = .returned (.int .i64 (firstAt tells l 0)) ∧ Below w.heap.size w w' := by
  have hn := h.le
  have H := hidden h
  clear h
  obtain ⟨R, hR⟩ : ∃ R, firstAt tells l 0 = R := ⟨_, rfl⟩
  have HR : Is (firstAt tells (l.drop 0) 0) R := ⟨by simpa using hR⟩
  rw [hR]
  clear hR
  go_enter Tryz.func54, Tryz.ntmps54
  go_wp2_with fail
  go_loopw [8] (fun i wr => ∃ j : Nat, j ≤ n ∧ i = .int .i64 j ∧ Is (firstAt tells (l.drop j) j) R ∧ Below w.heap.size w wr) (fun i _ => n - (intOf i).toNat)
  case atStart => exact ⟨0, by omega, rfl, HR, Below.refl _ _⟩
  case round =>
    obtain ⟨j, hj, rfl, hrel, hb⟩ := hrel
    have HB := hidden hb
    clear hb
    by_cases hlt : j < n
    · have hlt' : (j : Int) < n := by omega
      obtain ⟨g, x, rfl, hx, hdr, hok, hc⟩ := (H.out.below HB.out).drop_cons hlt
      have c0 := hc 0 _ rfl
      have c1 := hc 1 _ rfl
      have c2 := hc 2 _ rfl
      have c3 := hc 3 _ rfl
      have c4 := hc 4 _ rfl
      have c5 := hc 5 _ rfl
      have c6 := hc 6 _ rfl
      have c7 := hc 7 _ rfl
      have c8 := hc 8 _ rfl
      have c9 := hc 9 _ rfl
      have c10 := hc 10 _ rfl
      have c11 := hc 11 _ rfl
      have c12 := hc 12 _ rfl
      have c13 := hc 13 _ rfl
      have c14 := hc 14 _ rfl
      have c15 := hc 15 _ rfl
      simp only [Nat.add_zero] at c0
      have hf := hrel.eq
      rw [hdr] at hf
      unfold firstAt at hf
      have HT := hidden (tells_any x)
      generalize tells x = b at hf HT
      clear hrel hdr hx hok hc
      cases b with
      | true =>
        have HF : Is (j : Int) R := ⟨by simpa using hf⟩
        clear hf
        go_wp2_with (first
          | (go_at_call 41; (with_reducible refine (HT.out _).mono ?_); rintro _ w1 ⟨rfl, hb1⟩; have HB1 := hidden (HB.out.trans (hb1.mono HB.out.size)); clear hb1)
          | fail)
        go_ret
        exact ⟨by rw [← HF.eq]; rfl, HB1.out⟩
      | false =>
        have HF : Is (firstAt tells (l.drop (j + 1)) (j + 1)) R := ⟨by simpa using hf⟩
        clear hf
        go_wp2_with (first
          | (go_at_call 41; (with_reducible refine (HT.out _).mono ?_); rintro _ w1 ⟨rfl, hb1⟩; have HB1 := hidden (HB.out.trans (hb1.mono HB.out.size)); clear hb1)
          | fail)
        go_roundw
        case rel => exact ⟨j + 1, by omega, by go_num, HF, HB1.out⟩
        case measure => simp [intOf]; omega
    · have hlt' : ¬ (j : Int) < n := by omega
      have hd : l.drop j = [] := List.drop_eq_nil_of_le (by rw [H.out.len]; omega)
      have hf := hrel.eq
      rw [hd] at hf
      have HF : Is (-1 : Int) R := ⟨hf⟩
      clear hf hd hrel
      go_wp2
      go_ret
      exact ⟨by rw [← HF.eq]; rfl, HB.out⟩
end Go.Proofs.YtkniifopfgeopaaGreat

namespace Go.Proofs.YtkniifopfgeopaaGreat
open Go.RowKit
set_option linter.unusedVariables false

/-- A payload with the place of its body. -/
structure RawP where
  k : Int
  c : Bool
  p : Option Addr
  n : Nat
  m : Nat
  b : List Int
def RawP.raw (x : RawP) : Raw := ⟨x.k, x.c, x.b⟩
def RawP.cells (x : RawP) : List Value := [.int .i64 x.k, .bool x.c, .slice x.p x.n x.m]
def rowC : List RawP → List Value
  | [] => []
  | x :: l => x.cells ++ rowC l
theorem rowC_append (l r : List RawP) : rowC (l ++ r) = rowC l ++ rowC r := by
  induction l with
  | nil => rfl
  | cons x l ih => simp [rowC, ih]
theorem rowC_len (l : List RawP) : (rowC l).length = l.length * 3 := by
  induction l with
  | nil => rfl
  | cons x l ih => simp [rowC, RawP.cells, ih]; omega
theorem rowC_one (l : List RawP) : ∀ u ∈ rowC l, u.oneCell' = true := by
  induction l with
  | nil => intro u hu; cases hu
  | cons x l ih =>
    intro u hu
    rw [rowC] at hu
    rcases List.mem_append.1 hu with h | h
    · simp [RawP.cells] at h
      rcases h with rfl | rfl | rfl <;> rfl
    · exact ih u h
theorem rowC_get (l : List RawP) (j : Nat) (hj : j < l.length) : (rowC l)[j * 3]? = some (.int .i64 l[j].k) ∧ (rowC l)[j * 3 + 1]? = some (.bool l[j].c) ∧ (rowC l)[j * 3 + 2]? = some (.slice l[j].p l[j].n l[j].m) := by
  induction l generalizing j with
  | nil => simp at hj
  | cons x l ih =>
    cases j with
    | zero => simp [rowC, RawP.cells]
    | succ j =>
      have h := ih j (by simpa using hj)
      have e1 : (j + 1) * 3 = j * 3 + 3 := by omega
      have e2 : (j + 1) * 3 + 1 = j * 3 + 1 + 3 := by omega
      have e3 : (j + 1) * 3 + 2 = j * 3 + 2 + 3 := by omega
      rw [e1, show j * 3 + 3 + 1 = j * 3 + 1 + 3 by omega, show j * 3 + 3 + 2 = j * 3 + 2 + 3 by omega]
      simpa [rowC, RawP.cells] using h

/-- The call's own row v holds the payloads. -/
def OwnRw (w : World) (base : Nat) (e : TypeId) (v : Value) (l : List RawP) : Prop := w.ownsRow base e 3 v l.length (rowC l)
/-- Their bodies read as their bytes. -/
def BodR (w : World) (l : List RawP) : Prop := ∀ x ∈ l, Byt w x.p x.n x.m x.b

theorem OwnRw.nil (w : World) (base : Nat) (e : TypeId) : OwnRw w base e (.slice none 0 0) [] := World.ownsRow_nil w base e 3
theorem OwnRw.alloc {w : World} {base : Nat} {e : TypeId} {v : Value} {l : List RawP} (h : OwnRw w base e v l) (o : Obj) : OwnRw (w.alloc o) base e v l := World.ownsRow.alloc h o
theorem OwnRw.lt {w : World} {base : Nat} {e : TypeId} {v : Value} {l : List RawP} (h : OwnRw w base e v l) : ∀ k, v.ownBlock = some k → base ≤ k ∧ k < w.heap.size := World.ownsRow.lt h
theorem OwnRw.form {w : World} {base : Nat} {e : TypeId} {v : Value} {l : List RawP} (h : OwnRw w base e v l) : ∃ p c, v = .slice p l.length c ∧ l.length ≤ c := by
  rcases h.2 with ⟨rfl, hn⟩ | ⟨g, cap, cur, rfl, _, _, hc, _⟩
  · exact ⟨none, 0, by rw [hn], by omega⟩
  · exact ⟨_, _, rfl, hc⟩
/-- A row that is not empty: where it lies, its cells, and that none is frozen. -/
theorem OwnRw.at_ {w : World} {base : Nat} {e : TypeId} {v : Value} {l : List RawP} (h : OwnRw w base e v l) {n : Nat} (hn : l.length = n) (hp : 0 < n) :
    ∃ g c, v = .slice (some ⟨g, 0, none⟩) n c ∧ n ≤ c ∧ c ≤ maxLen ∧ base ≤ g ∧ g < w.heap.size ∧ (∀ j u, (rowC l)[j]? = some u → w.cell? ⟨g, j, none⟩ = some u) ∧ (∀ j, w.frozen? ⟨g, j, none⟩ = false) := by
  subst hn
  have h0 := h
  rcases h.2 with ⟨rfl, hz⟩ | ⟨g, cap, cur, rfl, hb, hh, hnc, hm, hs, ht⟩
  · omega
  · refine ⟨g, cap, rfl, hnc, hm, hb, (Array.getElem?_eq_some_iff.1 hh).1, fun j u hj => ?_, fun j => World.ownsRow.frozenAt h0 j⟩
    have := World.ownsRow.cells h0 (g := g) rfl j u hj
    rw [WideShapes.add_plain, Nat.zero_add] at this
    exact this
theorem BodR.keep {w w' : World} {l : List RawP} (h : BodR w l) (hk : ∀ a v, w.cell? a = some v → w'.cell? a = some v) : BodR w' l := fun x hx => (h x hx).keep hk
theorem BodR.below {w w' : World} {l : List RawP} (h : BodR w l) (hb : Below w.heap.size w w') : BodR w' l := h.keep (cell_below hb)
theorem BodR.append {w : World} {l r : List RawP} (h : BodR w l) (k : BodR w r) : BodR w (l ++ r) := fun x hx => (List.mem_append.1 hx).elim (h x) (k x)
theorem BodR.one {w : World} {x : RawP} (h : Byt w x.p x.n x.m x.b) : BodR w [x] := fun y hy => by
  rw [List.mem_singleton.1 hy]
  exact h

/-- A payload with another type, or another body. -/
def RawP.withK (x : RawP) (k : Int) : RawP := { x with k := k }
def RawP.withB (x : RawP) (p : Option Addr) (n m : Nat) (b : List Int) : RawP := { x with p := p, n := n, m := m, b := b }
theorem rowC_setB (l : List RawP) (j : Nat) (p : Option Addr) (n m : Nat) (b : List Int) (hj : j < l.length) : rowC (l.set j (l[j].withB p n m b)) = (rowC l).set (j * 3 + 2) (.slice p n m) := by
  induction l generalizing j with
  | nil => simp at hj
  | cons x l ih =>
    cases j with
    | zero => simp [rowC, RawP.cells, RawP.withB]
    | succ j =>
      have h := ih j (by simpa using hj)
      rw [show (j + 1) * 3 + 2 = j * 3 + 2 + 3 by omega]
      simpa [rowC, RawP.cells] using h
theorem OwnRw.setB {w : World} {base : Nat} {e : TypeId} {g n c : Nat} {l : List RawP} (h : OwnRw w base e (.slice (some ⟨g, 0, none⟩) n c) l) (hn : l.length = n) (j : Nat) (hj : j < l.length) (p : Option Addr) (a m : Nat) (b : List Int) :
    OwnRw (w.setCell ⟨g, j * 3 + 2, none⟩ (.slice p a m)) base e (.slice (some ⟨g, 0, none⟩) n c) (l.set j (l[j].withB p a m b)) := by
  subst hn
  have := (World.ownsRow.stored h (j * 3 + 2) (.slice p a m)).1
  unfold OwnRw
  rw [List.length_set, rowC_setB _ _ _ _ _ _ hj]
  exact this
/-- The cells of one payload of the row. -/
theorem OwnRw.elem {w : World} {base : Nat} {e : TypeId} {v : Value} {l : List RawP} (h : OwnRw w base e v l) (j : Nat) (hj : j < l.length) :
    ∃ g c, v = .slice (some ⟨g, 0, none⟩) l.length c ∧ w.cell? ⟨g, j * 3, none⟩ = some (.int .i64 l[j].k) ∧ w.cell? ⟨g, j * 3 + 1, none⟩ = some (.bool l[j].c) ∧ w.cell? ⟨g, j * 3 + 2, none⟩ = some (.slice l[j].p l[j].n l[j].m) := by
  obtain ⟨g, c, hv, _, _, _, _, hc, _⟩ := h.at_ rfl (by omega)
  obtain ⟨h0, h1, h2⟩ := rowC_get l j hj
  exact ⟨g, c, hv, hc _ _ h0, hc _ _ h1, hc _ _ h2⟩

section
variable {P : Program} (w : World)
end
end Go.Proofs.YtkniifopfgeopaaGreat

namespace Go.Proofs.YtkniifopfgeopaaGreat
open Go.RowKit
set_option linter.unusedVariables false

/-- The payload's body lies in a block of bytes of the call's own. -/
def RawP.bod (x : RawP) (w : World) (base : Nat) : Prop := Bod w base x.p x.n x.m x.b
/-- The call's own row v holds the payloads, with their bodies. -/
structure Rws (w : World) (base : Nat) (v : Value) (l : List RawP) : Prop where
  own : OwnRw w base 82 v l
  bods : ∀ x ∈ l, x.bod w base

theorem Rws.nil (w : World) (base : Nat) : Rws w base (.slice none 0 0) [] := ⟨OwnRw.nil _ _ _, fun x hx => by cases hx⟩
theorem Rws.bodR {w : World} {base : Nat} {v : Value} {l : List RawP} (h : Rws w base v l) : BodR w l := fun x hx => (h.bods x hx).byt
theorem Rws.mono {w : World} {base base' : Nat} {v : Value} {l : List RawP} (h : Rws w base v l) (hb : base' ≤ base) : Rws w base' v l := by
  refine ⟨⟨h.own.1, ?_⟩, fun x hx => (h.bods x hx).mono hb⟩
  rcases h.own.2 with h1 | ⟨g, cap, cur, hv, hg, rest⟩
  · exact Or.inl h1
  · exact Or.inr ⟨g, cap, cur, hv, by omega, rest⟩
/-- The row stays while another row is written that is none of bytes, or lies below. -/
theorem Rws.grown {w w' : World} {base : Nat} {v : Value} {l : List RawP} {row : Option Nat} (h : Rws w base v l) (hg : w.grownBy w' row) (hne : ∀ r, row = some r → v.ownBlock ≠ some r) (hr : OffB w base row) : Rws w' base v l :=
  ⟨World.ownsRow.kept h.own hg (by
    rcases hv : v.ownBlock with _ | b
    · exact Or.inl rfl
    · refine Or.inr ?_
      intro e
      rcases hrow : row with _ | r
      · rw [hrow] at e; cases e
      · rw [hrow] at e
        cases e
        exact hne _ hrow hv), fun x hx => (h.bods x hx).grown hg hr⟩
theorem Rws.low {w w' : World} {base k : Nat} {v : Value} {l : List RawP} (h : Rws w base v l) (hg : w.grownBy w' (some k)) (hk : k < base) : Rws w' base v l :=
  h.grown hg (fun r hr e => by cases hr; have := (h.own.lt k e).1; omega) (OffB.low hk)
theorem Rws.below {w w' : World} {base : Nat} {v : Value} {l : List RawP} (h : Rws w base v l) (hb : Below w.heap.size w w') : Rws w' base v l :=
  h.grown (row := none) ⟨hb.os, hb.tape, hb.output, hb.size, fun i hi _ => hb.block i hi⟩ (fun r hr => by cases hr) (OffB.none _ _)
theorem Rws.alloc {w : World} {base : Nat} {v : Value} {l : List RawP} (h : Rws w base v l) (o : Obj) : Rws (w.alloc o) base v l := h.below ((Below.refl _ w).alloc (Nat.le_refl _) o)
theorem Rws.offB {w : World} {base base' : Nat} {v : Value} {l : List RawP} (h : Rws w base v l) : OffB w base' v.ownBlock := fun r hr => by
  rcases h.own.2 with ⟨rfl, _⟩ | ⟨g, cap, cur, rfl, hg, hh, _⟩
  · simp [Value.ownBlock] at hr
  · simp [Value.ownBlock] at hr
    subst hr
    exact Or.inr (fun cur' fz' e => by rw [hh] at e; simp at e)

/-- The source of an append: so many payloads lie there. -/
def SrcR (w : World) (p : Option Addr) (m : Nat) (r : List RawP) : Prop := r.length = m ∧ (0 < m → ∃ ad, p = some ad ∧ ∀ j u, (rowC r)[j]? = some u → w.cell? (ad.add j) = some u)
theorem Rws.src {w : World} {base : Nat} {p : Option Addr} {m c : Nat} {l : List RawP} (h : Rws w base (.slice p m c) l) : SrcR w p m l := by
  obtain ⟨p', c', e, _⟩ := h.own.form
  simp at e
  obtain ⟨rfl, rfl, rfl⟩ := e
  refine ⟨rfl, fun h0 => ?_⟩
  obtain ⟨g, c', hv, _, _, _, _, hc, _⟩ := h.own.at_ rfl h0
  simp at hv
  obtain ⟨rfl, rfl⟩ := hv
  exact ⟨_, rfl, fun j u hj => by rw [WideShapes.add_plain, Nat.zero_add]; exact hc j u hj⟩
theorem SrcR.one {w : World} {b : Nat} {x : RawP} (h0 : w.cell? ⟨b, 0, none⟩ = some (.int .i64 x.k)) (h1 : w.cell? ⟨b, 1, none⟩ = some (.bool x.c)) (h2 : w.cell? ⟨b, 2, none⟩ = some (.slice x.p x.n x.m)) : SrcR w (some ⟨b, 0, none⟩) 1 [x] :=
  ⟨rfl, fun _ => ⟨_, rfl, fun j u hj => by
    rw [WideShapes.add_plain, Nat.zero_add]
    have hl : j < 3 := by have := (List.getElem?_eq_some_iff.1 hj).1; simpa [rowC, RawP.cells] using this
    have : j = 0 ∨ j = 1 ∨ j = 2 := by omega
    rcases this with rfl | rfl | rfl <;> simp [rowC, RawP.cells] at hj <;> subst hj
    · exact h0
    · exact h1
    · exact h2⟩⟩
theorem SrcR.new (w : World) (k : Int) (c : Bool) (p : Option Addr) (n m : Nat) (b : List Int) (T : TypeId) : SrcR (w.alloc (.cells #[.int .i64 k, .bool c, .slice p n m] T)) (some ⟨w.heap.size, 0, none⟩) 1 [⟨k, c, p, n, m, b⟩] :=
  SrcR.one (by go_simp) (by go_simp) (by go_simp)

theorem Tryz.infoRaw : (Tryz.prog.info? 82).map (fun i => (i.zero, i.size, i.bytes)) = some (some (.agg #[.int .i64 0, .bool false, .slice none 0 0]), 3, 40) := by kernel_rfl

theorem run_append_rws (w : World) (base : Nat) (ty : TypeId) (v : Value) (l : List RawP) (h : Rws w base v l) (p : Option Addr) (m c : Nat) (r : List RawP) (hs : SrcR w p m r) (hr : ∀ x ∈ r, x.bod w base) (hb : l.length + m ≤ 1000000) (hbase : base ≤ w.heap.size) :
    ∃ v' w', (Builtin.append_ #[73, 73] ty #[v, .slice p m c]).run Tryz.prog w = .ok v' w' ∧ Rws w' base v' (l ++ r) ∧ w.grownBy w' v.ownBlock := by
  obtain ⟨i0, hi, hz0, hz1, hz2⟩ := info_parts Tryz.infoRaw
  have ht := Tryz.underlying73
  have key : ∀ {w' : World}, w.grownBy w' v.ownBlock → ∀ x ∈ l ++ r, x.bod w' base := fun hg x hx => by
    rcases List.mem_append.1 hx with hx | hx
    · exact (h.bods x hx).grown hg h.offB
    · exact (hr x hx).grown hg h.offB
  cases p with
  | none =>
    have hm : m = 0 := by
      rcases Nat.eq_zero_or_pos m with h0 | h0
      · exact h0
      · obtain ⟨ad, e, _⟩ := hs.2 h0
        cases e
    subst hm
    obtain rfl : r = [] := List.eq_nil_of_length_eq_zero hs.1
    refine ⟨v, w, ?_, by rw [List.append_nil]; exact h, World.grownBy.refl w _⟩
    rcases h.own.2 with ⟨rfl, hx⟩ | ⟨g, cap, cur, rfl, _, _, hnc, _⟩
    · simp [Builtin.append_, run_underlying ht, sizeOf, typeInfo, hi, Builtin.lenOf, Builtin.firstCells]
    · simp [Builtin.append_, run_underlying ht, sizeOf, typeInfo, hi, Builtin.lenOf, Builtin.firstCells, hnc, storeCells]
  | some a =>
    have hcells : ∀ j u, (rowC r)[j]? = some u → w.cell? (a.add j) = some u := by
      intro j u hj
      rcases Nat.eq_zero_or_pos m with h0 | h0
      · have : r = [] := List.eq_nil_of_length_eq_zero (hs.1.trans h0)
        subst this
        simp [rowC] at hj
      · obtain ⟨ad, e, hc⟩ := hs.2 h0
        cases e
        exact hc j u hj
    obtain ⟨v', w', hrun, h2, h3, _⟩ := run_append_own (P := Tryz.prog) w base 73 ty 82 i0 _ 3 40 ht hi hz0 hz1 hz2 rfl (by decide) v l.length (rowC l) h.own a m c (rowC r) (by rw [rowC_len, hs.1])
      hcells (rowC_one r) (by unfold maxLen; omega) (by omega) hbase
    refine ⟨v', w', hrun, ⟨?_, key h3⟩, h3⟩
    unfold OwnRw
    rw [List.length_append, rowC_append, hs.1]
    exact h2

end Go.Proofs.YtkniifopfgeopaaGreat

namespace Go.Proofs.YtkniifopfgeopaaGreat
open Go.RowKit
set_option linter.unusedVariables false

theorem getD_drop (xs : List Int) (a i : Nat) : (xs.drop a).getD i 0 = xs.getD (a + i) 0 := by simp [List.getD_eq_getElem?_getD, List.getElem?_drop]
theorem lenC_bd (xs : List Int) (h : ∀ x ∈ xs, 0 ≤ x ∧ x ≤ 255) : 0 ≤ lenC xs ∧ lenC xs ≤ 65535 := by
  have h2 := rng_getD h 2
  have h3 := rng_getD h 3
  unfold lenC
  omega
/-- The payload at a place. -/
theorem headC_at (kind : Int) (xs : List Int) (a : Nat) : headC kind (xs.drop a) = ⟨kind, decide (128 ≤ xs.getD (a + 1) 0), (xs.drop (a + 4)).take ((lenC (xs.drop a)).toNat - 4)⟩ := by
  rw [headC, getD_drop, List.drop_drop]
section
variable {left : Nat} {kind : Int} {xs : List Int} {a : Nat} {out : List Raw}
/-- The rounds of the reader: nothing left to come, too many, too short, a wrong length, the last one, one more. -/
theorem round_end (h : kind = 0) : preC out (parseC left kind (xs.drop a)) = if xs.length - a ≠ 0 then failC 2 else ⟨out, 0, 0⟩ := by
  subst h
  rw [parseC_end, List.length_drop]
  split
  · exact preC_fail _ _ (by decide)
  · simp [preC]
theorem round_many (h : kind ≠ 0) : preC out (parseC 0 kind (xs.drop a)) = failC 10 := by rw [parseC_many _ _ h, preC_fail _ _ (by decide)]
theorem round_short (h : kind ≠ 0) (h4 : xs.length - a < 4) : preC out (parseC (left + 1) kind (xs.drop a)) = failC 1 := by
  rw [parseC_more _ _ _ h, List.length_drop, if_pos h4, preC_fail _ _ (by decide)]
theorem round_wrong (h : kind ≠ 0) (h4 : 4 ≤ xs.length - a) (hl : lenC (xs.drop a) < 4 ∨ ((xs.length - a : Nat) : Int) < lenC (xs.drop a)) : preC out (parseC (left + 1) kind (xs.drop a)) = failC 2 := by
  rw [parseC_more _ _ _ h, List.length_drop, if_neg (by omega), if_pos hl, preC_fail _ _ (by decide)]
theorem round_last (h : kind ≠ 0) (h4 : 4 ≤ xs.length - a) (hl : ¬ (lenC (xs.drop a) < 4 ∨ ((xs.length - a : Nat) : Int) < lenC (xs.drop a))) (hk : lastK kind = true) :
    preC out (parseC (left + 1) kind (xs.drop a)) = if ((xs.length - a : Nat) : Int) ≠ lenC (xs.drop a) then failC 2 else ⟨out ++ [headC kind (xs.drop a)], xs.getD a 0, 0⟩ := by
  rw [parseC_more _ _ _ h, List.length_drop, if_neg (by omega), if_neg hl, if_pos hk]
  split
  · exact preC_fail _ _ (by decide)
  · rw [getD_drop]
    simp [preC]
theorem round_more (h : kind ≠ 0) (h4 : 4 ≤ xs.length - a) (hl : ¬ (lenC (xs.drop a) < 4 ∨ ((xs.length - a : Nat) : Int) < lenC (xs.drop a))) (hk : ¬ lastK kind = true) :
    preC out (parseC (left + 1) kind (xs.drop a)) = preC (out ++ [headC kind (xs.drop a)]) (parseC left (xs.getD a 0) (xs.drop (a + (lenC (xs.drop a)).toNat))) := by
  rw [parseC_more _ _ _ h, List.length_drop, if_neg (by omega), if_neg hl, if_neg hk, preC_pre, getD_drop, List.drop_drop]
  rfl
end

section
variable {last : Int} {l : List Raw}
/-- The rounds of the writer. -/
theorem enc_step (i : Nat) (hi : i < l.length) : encC last (l.drop i) = oneC (nextC last (l.drop (i + 1))) l[i] ++ encC last (l.drop (i + 1)) := by
  rw [List.drop_eq_getElem_cons hi]
  rfl
theorem enc_end (i : Nat) (hi : l.length ≤ i) : encC last (l.drop i) = [] := by
  rw [List.drop_of_length_le hi]
  rfl
theorem next_more (i : Nat) (hi : i + 1 < l.length) : nextC last (l.drop (i + 1)) = l[i + 1].k := by
  rw [List.drop_eq_getElem_cons hi]
  rfl
theorem next_end (i : Nat) (hi : l.length ≤ i + 1) : nextC last (l.drop (i + 1)) = last := by
  rw [List.drop_of_length_le hi]
  rfl
theorem err_step (i : Nat) (hi : i < l.length) : errC (l.drop i) = if l[i].k < 1 ∨ 255 < l[i].k then 5 else if 65531 < l[i].b.length then 11 else if lastK l[i].k = true ∧ i + 1 < l.length then 7 else errC (l.drop (i + 1)) := by
  rw [List.drop_eq_getElem_cons hi, errC]
  have : (l.drop (i + 1) ≠ []) ↔ i + 1 < l.length := by
    rw [ne_eq, List.drop_eq_nil_iff]
    omega
  simp only [this]
theorem err_end (i : Nat) (hi : l.length ≤ i) : errC (l.drop i) = 0 := by
  rw [List.drop_of_length_le hi]
  rfl
theorem ends_last : ∀ (l : List Raw) (h : 0 < l.length), endsC l = lastK (l[l.length - 1]).k
  | [r], _ => rfl
  | _ :: r :: l, _ => by
    rw [endsC, ends_last (r :: l) (by simp)]
    simp
end
end Go.Proofs.YtkniifopfgeopaaGreat

namespace Go.Proofs.YtkniifopfgeopaaGreat
open Go.RowKit
set_option linter.unusedVariables false

/-- The slice reads as the payloads, with their bodies. -/
structure RdR (w : World) (p : Option Addr) (n c : Nat) (l : List RawP) : Prop where
  len : l.length = n
  cap : n ≤ c
  big : c ≤ maxLen
  mem : 0 < n → ∃ g, p = some ⟨g, 0, none⟩ ∧ ∀ j u, (rowC l)[j]? = some u → w.cell? ⟨g, j, none⟩ = some u
  bods : BodR w l
theorem RdR.keep {w w' : World} {p : Option Addr} {n c : Nat} {l : List RawP} (h : RdR w p n c l) (hk : ∀ a v, w.cell? a = some v → w'.cell? a = some v) : RdR w' p n c l :=
  ⟨h.len, h.cap, h.big, fun h0 => by
    obtain ⟨g, e, hc⟩ := h.mem h0
    exact ⟨g, e, fun j u hj => hk _ _ (hc j u hj)⟩, h.bods.keep hk⟩
theorem RdR.below {w w' : World} {p : Option Addr} {n c : Nat} {l : List RawP} (h : RdR w p n c l) (hb : Below w.heap.size w w') : RdR w' p n c l := h.keep (cell_below hb)
theorem RdR.le {w : World} {p : Option Addr} {n c : Nat} {l : List RawP} (h : RdR w p n c l) : n ≤ 9223372036854775807 := by
  have h1 := h.cap
  have h2 := h.big
  unfold maxLen at h2
  omega
theorem RdR.elem {w : World} {p : Option Addr} {n c : Nat} {l : List RawP} (h : RdR w p n c l) (j : Nat) (hj : j < l.length) :
    ∃ g, p = some ⟨g, 0, none⟩ ∧ w.cell? ⟨g, j * 3, none⟩ = some (.int .i64 l[j].k) ∧ w.cell? ⟨g, j * 3 + 1, none⟩ = some (.bool l[j].c) ∧ w.cell? ⟨g, j * 3 + 2, none⟩ = some (.slice l[j].p l[j].n l[j].m) ∧ Byt w l[j].p l[j].n l[j].m l[j].b := by
  obtain ⟨g, e, hc⟩ := h.mem (by have := h.len; omega)
  obtain ⟨h0, h1, h2⟩ := rowC_get l j hj
  exact ⟨g, e, hc _ _ h0, hc _ _ h1, hc _ _ h2, h.bods _ (List.getElem_mem hj)⟩
theorem Rws.rd {w : World} {base : Nat} {v : Value} {l : List RawP} {n : Nat} (h : Rws w base v l) (hn : l.length = n) : ∃ p c, v = .slice p n c ∧ RdR w p n c l := by
  subst hn
  have hb := h.bodR
  rcases h.own.2 with ⟨rfl, h0⟩ | ⟨g, cap, cur, rfl, hg, hh, hnc, hm, hs, ht⟩
  · exact ⟨none, 0, by rw [h0], rfl, by omega, by unfold maxLen; omega, fun h => by omega, hb⟩
  · refine ⟨_, _, rfl, rfl, hnc, hm, fun h0 => ⟨g, rfl, fun j u hj => ?_⟩, hb⟩
    have := World.ownsRow.cells h.own (g := g) rfl j u hj
    rw [WideShapes.add_plain, Nat.zero_add] at this
    exact this

theorem wraps_any (k : Int) (w : World) : Calls Tryz.prog 66 #[.int .i64 k] w fun e w' => e = .returned (.bool (lastK k)) ∧ w = w' := by
  go_enter Tryz.func66, Tryz.ntmps66
  go_wp2
  all_goals go_ret
  all_goals exact ⟨by simp_all [lastK], rfl⟩
def knownK (k : Int) : Bool := decide ((33 ≤ k ∧ k ≤ 37) ∨ (39 ≤ k ∧ k ≤ 46) ∨ k = 53)
theorem known_any (k : Int) (w : World) : Calls Tryz.prog 38 #[.int .i64 k] w fun e w' => e = .returned (.bool (knownK k)) ∧ w = w' := by
  by_cases h : (33 ≤ k ∧ k ≤ 37) ∨ (39 ≤ k ∧ k ≤ 46) ∨ k = 53
  · have e : knownK k = true := decide_eq_true h
    rw [e]
    have hk : k = 33 ∨ k = 34 ∨ k = 35 ∨ k = 36 ∨ k = 37 ∨ k = 39 ∨ k = 40 ∨ k = 41 ∨ k = 42 ∨ k = 43 ∨ k = 44 ∨ k = 45 ∨ k = 46 ∨ k = 53 := by omega
    clear h e
    rcases hk with rfl | rfl | rfl | rfl | rfl | rfl | rfl | rfl | rfl | rfl | rfl | rfl | rfl | rfl
    all_goals
      go_enter Tryz.func38, Tryz.ntmps38
      go_wp2
      go_ret
      exact ⟨rfl, rfl⟩
  · have e : knownK k = false := decide_eq_false h
    rw [e]
    have e1 : (k == 33) = false := by simp; omega
    have e2 : (k == 34) = false := by simp; omega
    have e3 : (k == 35) = false := by simp; omega
    have e4 : (k == 36) = false := by simp; omega
    have e5 : (k == 37) = false := by simp; omega
    have e6 : (k == 39) = false := by simp; omega
    have e7 : (k == 40) = false := by simp; omega
    have e8 : (k == 41) = false := by simp; omega
    have e9 : (k == 42) = false := by simp; omega
    have e10 : (k == 43) = false := by simp; omega
    have e11 : (k == 44) = false := by simp; omega
    have e12 : (k == 45) = false := by simp; omega
    have e13 : (k == 46) = false := by simp; omega
    have e14 : (k == 53) = false := by simp; omega
    clear h e
    go_enter Tryz.func38, Tryz.ntmps38
    go_wp2
    go_ret
    exact ⟨rfl, rfl⟩

/-- The type at a place, or what stands behind the last one. -/
theorem typeAt_in (p : Option Addr) (n c : Nat) (l : List RawP) (w : World) (h : RdR w p n c l) (i : Nat) (hi : i < l.length) (last z : Int) (hz : l[i].k = z) :
    Calls Tryz.prog 47 #[.slice p n c, .int .i64 i, .int .i64 last] w fun e w' => e = .returned (.int .i64 z) ∧ w = w' := by
  obtain ⟨g, rfl, c0, d1, d2, d3⟩ := h.elem i hi
  have hle := h.le
  have hl : i < n := by rw [← h.len]; exact hi
  rw [hz] at c0
  clear d1 d2 d3 h hz hi
  go_enter Tryz.func47, Tryz.ntmps47
  go_wp2
  go_ret
  exact ⟨rfl, rfl⟩
theorem typeAt_out (p : Option Addr) (n c : Nat) (w : World) (hn : n ≤ 9223372036854775807) (i : Nat) (hi : n ≤ i) (last : Int) :
    Calls Tryz.prog 47 #[.slice p n c, .int .i64 i, .int .i64 last] w fun e w' => e = .returned (.int .i64 last) ∧ w = w' := by
  go_enter Tryz.func47, Tryz.ntmps47
  go_wp2
  go_ret
  exact ⟨rfl, rfl⟩

end Go.Proofs.YtkniifopfgeopaaGreat

namespace Go.Proofs.YtkniifopfgeopaaGreat
open Go.RowKit
set_option linter.unusedVariables false

/-- The result of a function that returns bytes of its own. -/
def BytesNew (w : World) (xs : List Int) (e : Ending) (w' : World) : Prop := ∃ v, e = .returned v ∧ Own w' w.heap.size 5 v xs ∧ Below w.heap.size w w'

end Go.Proofs.YtkniifopfgeopaaGreat

namespace Go.Proofs.YtkniifopfgeopaaGreat
open Go.RowKit
set_option linter.unusedVariables false

/-- The results of Build. -/
def BuiltC (w : World) (k : Int) (L : List Int) (E : Int) (e : Ending) (w' : World) : Prop := ∃ v, e = .returned (.tuple #[.int .i64 k, v, .int .i64 E]) ∧ Own w' w.heap.size 5 v L ∧ Below w.heap.size w w'

theorem built_many (l : List Raw) (last : Int) (h : 40 < l.length) : buildC l last = (0, [], 10) := by rw [buildC, if_pos h]
theorem built_err (l : List Raw) (last E : Int) (h : ¬ 40 < l.length) (he : errC l = E) (h0 : E ≠ 0) : buildC l last = (0, [], E) := by
  subst he
  rw [buildC, if_neg h, if_pos h0]
theorem built_last (l : List Raw) (last : Int) (h : ¬ 40 < l.length) (he : errC l = 0) (hl : last < 0 ∨ 255 < last) : buildC l last = (0, [], 5) := by
  rw [buildC, if_neg h, if_neg (by omega), if_pos hl]
theorem built_order (l : List Raw) (last : Int) (h : ¬ 40 < l.length) (he : errC l = 0) (hl : ¬ (last < 0 ∨ 255 < last)) (h0 : last ≠ 0) (hn : endsC l = false) : buildC l last = (0, [], 7) := by
  rw [buildC, if_neg h, if_neg (by omega), if_neg hl, if_pos ⟨h0, hn⟩]
theorem built_ok (l : List Raw) (last : Int) (h : ¬ 40 < l.length) (he : errC l = 0) (hl : ¬ (last < 0 ∨ 255 < last)) (h0 : last = 0 ∨ endsC l = true) : buildC l last = (nextC 0 l, encC last l, 0) := by
  rw [buildC, if_neg h, if_neg (by omega), if_neg hl, if_neg]
  rintro ⟨h1, h2⟩
  rcases h0 with h0 | h0
  · exact h1 h0
  · rw [h0] at h2
    cases h2

/-- What the walk knows of the payload at a place. -/
structure AtR (w : World) (l : List RawP) (g i : Nat) (k : Int) (c : Bool) (pb : Option Addr) (nb cb : Nat) (b : List Int) : Prop where
  hk : w.cell? ⟨g, i * 3, none⟩ = some (.int .i64 k)
  hc : w.cell? ⟨g, i * 3 + 1, none⟩ = some (.bool c)
  hb : w.cell? ⟨g, i * 3 + 2, none⟩ = some (.slice pb nb cb)
  byt : Byt w pb nb cb b
  raw : (l.map RawP.raw)[i]? = some ⟨k, c, b⟩
theorem RdR.get {w : World} {p : Option Addr} {n c : Nat} {l : List RawP} (h : RdR w p n c l) (i : Nat) (hi : i < n) : ∃ g k cc pb nb cb b, p = some ⟨g, 0, none⟩ ∧ AtR w l g i k cc pb nb cb b := by
  have hl : i < l.length := by rw [h.len]; exact hi
  obtain ⟨g, e, h0, h1, h2, h3⟩ := h.elem i hl
  exact ⟨g, _, _, _, _, _, _, e, h0, h1, h2, h3, by simp [hl, RawP.raw]⟩
theorem AtR.below {w w' : World} {l : List RawP} {g i : Nat} {k : Int} {c : Bool} {pb : Option Addr} {nb cb : Nat} {b : List Int} (h : AtR w l g i k c pb nb cb b) (hb : Below w.heap.size w w') : AtR w' l g i k c pb nb cb b :=
  ⟨cell_below hb _ _ h.hk, cell_below hb _ _ h.hc, cell_below hb _ _ h.hb, h.byt.below hb, h.raw⟩
theorem AtR.err {w : World} {l : List RawP} {g i : Nat} {k : Int} {c : Bool} {pb : Option Addr} {nb cb : Nat} {b : List Int} (h : AtR w l g i k c pb nb cb b) {n : Nat} (hn : l.length = n) :
    errC ((l.map RawP.raw).drop i) = if k < 1 ∨ 255 < k then 5 else if 65531 < nb then 11 else if lastK k = true ∧ i + 1 < n then 7 else errC ((l.map RawP.raw).drop (i + 1)) := by
  obtain ⟨hi, he⟩ := List.getElem?_eq_some_iff.1 h.raw
  rw [err_step i hi, he]
  have : b.length = nb := h.byt.len
  simp only [this, List.length_map, hn]
theorem AtR.enc {w : World} {l : List RawP} {g i : Nat} {k : Int} {c : Bool} {pb : Option Addr} {nb cb : Nat} {b : List Int} (h : AtR w l g i k c pb nb cb b) (last : Int) :
    encC last ((l.map RawP.raw).drop i) = oneC (nextC last ((l.map RawP.raw).drop (i + 1))) ⟨k, c, b⟩ ++ encC last ((l.map RawP.raw).drop (i + 1)) := by
  obtain ⟨hi, he⟩ := List.getElem?_eq_some_iff.1 h.raw
  rw [enc_step i hi, he]
theorem AtR.next {w : World} {l : List RawP} {g i : Nat} {k : Int} {c : Bool} {pb : Option Addr} {nb cb : Nat} {b : List Int} (h : AtR w l g (i + 1) k c pb nb cb b) (last : Int) : nextC last ((l.map RawP.raw).drop (i + 1)) = k := by
  obtain ⟨hi, he⟩ := List.getElem?_eq_some_iff.1 h.raw
  rw [next_more i hi, he]
/-- A payload that was checked. -/
theorem err_at {l : List Raw} (h : errC l = 0) (i : Nat) (r : Raw) (hr : l[i]? = some r) : 1 ≤ r.k ∧ r.k ≤ 255 ∧ r.b.length ≤ 65531 := by
  induction l generalizing i with
  | nil => simp at hr
  | cons a l ih =>
    obtain ⟨h1, h2, h3, _, h5⟩ := errC_cons h
    cases i with
    | zero =>
      simp at hr
      subst hr
      exact ⟨h1, h2, h3⟩
    | succ i => exact ih h5 i (by simpa using hr)
theorem AtR.good {w : World} {l : List RawP} {g i : Nat} {k : Int} {c : Bool} {pb : Option Addr} {nb cb : Nat} {b : List Int} (h : AtR w l g i k c pb nb cb b) (he : errC (l.map RawP.raw) = 0) : 1 ≤ k ∧ k ≤ 255 ∧ nb ≤ 65531 := by
  have := err_at he i _ h.raw
  have hl : b.length = nb := h.byt.len
  simp only [hl] at this
  exact this
theorem beOne (v : Int) : be 1 v = [v % 256] := by simp [be]
theorem oneC_form (next : Int) (k : Int) (c : Bool) (b : List Int) (xs : List Int) (nb : Nat) (h : b.length = nb) : xs ++ oneC next ⟨k, c, b⟩ = (xs ++ [next % 256, if c then 128 else 0] ++ be 2 ((nb : Int) + 4)) ++ b := by
  subst h
  simp [oneC]
theorem oneC_rng (next : Int) (k : Int) (c : Bool) (b : List Int) (h : ∀ x ∈ b, 0 ≤ x ∧ x ≤ 255) : ∀ x ∈ oneC next ⟨k, c, b⟩, 0 ≤ x ∧ x ≤ 255 := by
  refine rng_append ?_ (rng_append (be_rng _ _) h)
  intro x hx
  simp at hx
  rcases hx with rfl | rfl
  · omega
  · split <;> omega

end Go.Proofs.YtkniifopfgeopaaGreat
