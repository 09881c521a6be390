/-
  A map of the call's own from uint64s to bools that holds just those of a list.
  The first error of the SPIs of a deletion, as package payload tells it.
-/
import Derived.Test.YtpocehpejbnemaaDoorRZ1
import Derived.Test.YtpocehpejbnemaaDoorRPayChk
import Derived.Test.YtpocehpejbnemaaDoorRZ11
import Derived.Test.YtpocehpejbnemaaDoorRZ3
import Derived.Maps.OwnOps
import Derived.Maps.Views
namespace Go.Proofs.YtpocehpejbnemaaDoor
open Go.RowKit
open Go.Maps (Keyed IsMap)
set_option linter.unusedVariables false
set_option maxRecDepth 100000

/-- What a word of 64 bits holds. -/
def WdR (t : Int) : Prop := 0 ≤ t ∧ t ≤ 18446744073709551615
theorem lawU : Keyed Tryd.prog 82 := Maps.int_keyed Tryd.underlying82
theorem key_u (t : Int) (h : WdR t) : keyOf Tryd.prog 82 (.int .u64 t) = some (.int .u64 t) := Maps.keyOf_int_mk Tryd.underlying82 (WalkArith.wf_u64 (by unfold WdR at h; omega))
/-- What the map reads as, and the ints that it holds. -/
structure FndUD (D : DataW Unit) (ts : List Int) : Prop where
  map : IsMap D
  at_ : ∀ (t : Int), WdR t → D.atKey (.int .u64 t) (.lit (.bool false)) = .lit (.bool (decide (t ∈ ts)))
def FndU (w : World) (b : Nat) (ts : List Int) : Prop := ∃ D : DataW Unit, w.ownsMap Tryd.prog 82 (plainElem Tryd.prog 4) b ts.length D ∧ FndUD D ts
theorem FndU.made (w : World) : FndU (w.alloc (.map #[] 0)) w.heap.size [] := ⟨_, World.ownsMap_made _ _ _ _, ⟨[], rfl⟩, fun t h => by simp [DataW.atKey]⟩
theorem FndU.lt {w : World} {b : Nat} {ts : List Int} (h : FndU w b ts) : b < w.heap.size := by
  obtain ⟨D, h1, _⟩ := h
  exact h1.lt
theorem FndU.grown {w w' : World} {b : Nat} {ts : List Int} {row : Option Nat} (h : FndU w b ts) (hg : w.grownBy w' row) (hne : some b ≠ row) : FndU w' b ts := by
  obtain ⟨D, h1, h2⟩ := h
  exact ⟨D, h1.kept hg hne, h2⟩
theorem FndU.below {w w' : World} {b : Nat} {ts : List Int} (h : FndU w b ts) (hb : Below w.heap.size w w') : FndU w' b ts := h.grown (row := none) (grown_of_below hb none) (by simp)
theorem FndU.notCells {w : World} {b : Nat} {ts : List Int} (h : FndU w b ts) (cur : Array Value) (e : TypeId) (fz : Nat × Nat) : w.heap[b]? ≠ some (.cells cur e fz) := by
  obtain ⟨D, ⟨es, clock, h1, _⟩, _⟩ := h
  rw [h1]
  simp
theorem Tryd.zeroBoolU (w : World) : (zeroValue 4).run Tryd.prog w = .ok (.bool false) w := by kernel_rfl
theorem FndU.look {w : World} {b : Nat} {ts : List Int} (h : FndU w b ts) (t : Int) (hi : WdR t) :
    (Instr.lookup 163 (.map (some b)) (.int .u64 t) false).run Tryd.prog w = .ok (.bool (decide (t ∈ ts))) w := by
  obtain ⟨D, h1, h2⟩ := h
  obtain ⟨v, ps, hrun, hv⟩ := h1.lookup lawU Tryd.underlying163 (Tryd.zeroBoolU w) (plainElem_bool Tryd.underlying4 false) (key_u t hi)
  rw [h2.at_ t hi] at hv
  have : v = .bool (decide (t ∈ ts)) := by
    unfold plainElem at hv
    rw [Tryd.underlying4] at hv
    cases v <;> simp at hv
    rw [hv.1]
  rw [← this]
  exact hrun
theorem FndUD.put {D : DataW Unit} {ts : List Int} (h : FndUD D ts) (t : Int) (hi : WdR t) : FndUD (D.put (.int .u64 t) (.lit (.bool true))) (ts ++ [t]) := by
  refine ⟨h.map.put _ _, fun t' hi' => ?_⟩
  by_cases he : t' = t
  · subst he
    rw [Maps.atKey_put_same h.map (lawU.key (key_u t' hi))]
    simp
  · have hne : (Lit.int .u64 t' : Lit) ≠ .int .u64 t := by
      intro e
      injection e with _ e
      exact he e
    rw [Maps.atKey_put_other hne, h.at_ t' hi']
    simp [he]
/-- A store into the map as a law of the walk. -/
theorem wpList_fndU (w : World) {ops : Array Oper} {rest : List Oper} {o : Oper} {a : Act} {Q : Exit → Act → World → Prop} (hg : o.guard = none) (m x v : Operand) (hop : o.op = Op.mapUpdate 163 m x v)
    (b : Nat) (ts : List Int) (h : FndU w b ts) (hn : ts.length < maxLen) (hm : a.eval m = .map (some b)) (t : Int) (hx : a.eval x = .int .u64 t) (hv : a.eval v = .bool true) (hi : WdR t)
    (hK : ∀ w', FndU w' b (ts ++ [t]) → w.grownBy w' (some b) → wpList Tryd.prog ops Q rest (a.put o.dst undef) w') : wpList Tryd.prog ops Q (o :: rest) a w := by
  obtain ⟨D, h1, h2⟩ := h
  refine wpList_mapUpdate_own w hg m x v _ hop _ _ lawU Tryd.underlying163 _ b _ D hm h1 hn _ _ (.int .u64 t) hx hv (key_u t hi) _ [] (plainElem_bool Tryd.underlying4 true) ?_
  intro w' h3 h4
  exact hK w' ⟨_, by simpa using h3, h2.put t hi⟩ h4
end Go.Proofs.YtpocehpejbnemaaDoor

namespace Go.Proofs.YtpocehpejbnemaaDoor
open Go.RowKit
set_option linter.unusedVariables false

/-- What the program reads of all bytes of a row. -/
def wordOf (xs : List Int) : Int := (numR xs 0 xs.length).1
theorem wordOf_rng (xs : List Int) (h : ∀ x ∈ xs, 0 ≤ x ∧ x ≤ 255) : WdR (wordOf xs) := by
  unfold wordOf numR WdR
  split
  · rename_i hc
    obtain ⟨_, h8, _⟩ := hc
    have hb := val_bd xs h
    have e : ((xs.drop (0 : Int).toNat).take ((xs.length : Nat) : Int).toNat) = xs := by
      show (xs.drop 0).take xs.length = xs
      rw [List.drop_zero, List.take_length]
    have hl : xs.length ≤ 8 := by omega
    have hp : (256 : Int) ^ xs.length ≤ 256 ^ 8 := by
      have := Nat.pow_le_pow_right (n := 256) (by decide) hl
      have h2 : ((256 ^ xs.length : Nat) : Int) ≤ ((256 ^ 8 : Nat) : Int) := Int.ofNat_le.2 this
      rw [Int.natCast_pow, Int.natCast_pow] at h2
      exact h2
    have hq : (256 : Int) ^ 8 = 18446744073709551616 := by decide
    rw [hq] at hp
    show 0 ≤ val ((xs.drop (0 : Int).toNat).take ((xs.length : Nat) : Int).toNat) ∧ val ((xs.drop (0 : Int).toNat).take ((xs.length : Nat) : Int).toNat) ≤ 18446744073709551615
    rw [e]
    omega
  · exact ⟨by decide, by decide⟩
/-- Whether one of these rows reads as one of the words or as one before it. -/
def spisT : List Int → List Sb → Bool
  | _, [] => false
  | ts, y :: l => decide (wordOf y.xs ∈ ts) || spisT (ts ++ [wordOf y.xs]) l
/-- The first error of the SPIs of a deletion of protocol k. -/
def spisE (k : Int) (l : List Sb) : Int := if l.length = 0 ∧ k ≠ 1 then 8 else if spisT [] l then 9 else 0
/-- The same, said of the bytes alone. -/
def twiceW : List Int → List (List Int) → Bool
  | _, [] => false
  | ts, y :: l => decide (wordOf y ∈ ts) || twiceW (ts ++ [wordOf y]) l
def spisX (k : Int) (l : List (List Int)) : Int := if l.length = 0 ∧ k ≠ 1 then 8 else if twiceW [] l then 9 else 0
theorem spisT_xs : ∀ (l : List Sb) (ts : List Int), spisT ts l = twiceW ts (l.map Sb.xs)
  | [], _ => rfl
  | y :: l, ts => by simp [spisT, twiceW, spisT_xs l]
theorem spisE_xs (k : Int) (l : List Sb) : spisE k l = spisX k (l.map Sb.xs) := by simp [spisE, spisX, spisT_xs]
theorem FndU.alloc {w : World} {b : Nat} {ts : List Int} (h : FndU w b ts) (o : Obj) : FndU (w.alloc o) b ts := h.below ((Below.refl _ _).alloc (Nat.le_refl _) o)

set_option maxHeartbeats 6400000 in
set_option maxRecDepth 100000 in
theorem checkSpis_any (k : Int) (p : Option Addr) (n c : Nat) (l : List Sb) (w : World) (h : RdG KSb DSb w p n c l) :
    Calls Tryd.prog 97 #[.agg #[.int .i64 k, .slice p n c]] w fun e w' => e = .returned (.int .i64 (spisE k l)) ∧ Below w.heap.size w w' := by
  have hmm := @run_makeMap Tryd.prog
  have hl := h.len
  have hbig : n ≤ maxLen := Nat.le_trans h.cap h.big
  have hn63 := h.le
  have HBX := hidden ((Below.refl w.heap.size w).alloc (Nat.le_refl _) (.cells #[.int .i64 k, .slice p n c] 37))
  obtain ⟨R, hR⟩ : ∃ R, spisE k l = R := ⟨_, rfl⟩
  rw [hR]
  by_cases h0 : n = 0
  · subst h0
    have e0 : (((0 : Nat) : Int) == 0) = true := rfl
    by_cases h1 : k = 1
    · subst h1
      have HR : Is (0 : Int) R := ⟨by
        rw [← hR]
        have : l = [] := List.eq_nil_of_length_eq_zero hl
        subst this
        rfl⟩
      clear hR h hl
      go_enter Tryd.func97, Tryd.ntmps97
      go_wp2_with fail
      go_loopw [21] (fun v wr => v = .int .i64 0 ∧ Below (w.heap.size + 1) (w.alloc (.cells #[.int .i64 1, .slice p 0 c] 37)) wr) (fun v _ => 0)
      case atStart => exact ⟨rfl, (Below.refl _ _).alloc (by simp) _⟩
      case round =>
        obtain ⟨rfl, hb⟩ := hrel
        have hb' : Below (w.alloc (.cells #[.int .i64 1, .slice p 0 c] 37)).heap.size (w.alloc (.cells #[.int .i64 1, .slice p 0 c] 37)) wr := by simpa using hb
        have HB := hidden (HBX.out.trans (hb'.mono HBX.out.size))
        clear hb hb'
        go_wp2
        go_ret
        exact ⟨by rw [← HR.eq]; rfl, HB.out⟩
    · have e1 : (k != 1) = true := by simpa using h1
      have HR : Is (8 : Int) R := ⟨by rw [← hR]; unfold spisE; rw [if_pos ⟨hl, h1⟩]⟩
      clear hR h h1 hl
      go_enter Tryd.func97, Tryd.ntmps97
      go_wp2_with fail
      go_ret
      exact ⟨by rw [← HR.eq]; rfl, HBX.out⟩
  have e0 : ((n : Int) == 0) = false := by simpa using h0
  obtain ⟨R0, hR0⟩ : ∃ R0, spisT [] l = R0 := ⟨_, rfl⟩
  have HR : Is (if R0 = true then (9 : Int) else 0) R := ⟨by rw [← hR, ← hR0]; exact (if_neg (fun e => by have := e.1; omega)).symm⟩
  have HR0 := Is.mk hR0
  clear hR hR0 h0
  have H := hidden h
  have HL := Is.mk hl
  clear h hl
  have HFM := hidden (FndU.made (w.alloc (.cells #[.int .i64 k, .slice p n c] 37)))
  go_enter Tryd.func97, Tryd.ntmps97
  go_wp2_with fail
  go_loopw [21] (fun v wr => ∃ (j : Nat), j ≤ n ∧ v = .int .i64 j ∧ FndU wr (w.heap.size + 1) ((l.take j).map (fun y => wordOf y.xs)) ∧ Is (spisT ((l.take j).map (fun y => wordOf y.xs)) (l.drop j)) R0 ∧ Below (w.heap.size + 1) (w.alloc (.cells #[.int .i64 k, .slice p n c] 37)) wr) (fun v _ => n - (intOf v).toNat)
  case atStart => exact ⟨0, by omega, rfl, by simpa using HFM.out, ⟨by simpa using HR0.eq⟩, (Below.refl _ _).alloc (by simp) _⟩
  case round =>
    obtain ⟨j, hj, rfl, hfn, hrel, hb⟩ := hrel
    have HFN := hidden hfn
    have hb' : Below (w.alloc (.cells #[.int .i64 k, .slice p n c] 37)).heap.size (w.alloc (.cells #[.int .i64 k, .slice p n c] 37)) wr := by simpa using hb
    have HB := hidden (HBX.out.trans (hb'.mono HBX.out.size))
    have HB1 := hidden hb
    have hsz : w.heap.size + 1 ≤ wr.heap.size := by have := hb'.size; simpa using this
    clear hb hb' hfn
    by_cases hlt : j < n
    · have hlt' : (j : Int) < n := by omega
      obtain ⟨g, y, rfl, hgx, hdr, hok, hc⟩ := (H.out.below HB.out).sb_cons hlt
      have hf := hrel.eq
      rw [hdr] at hf
      unfold spisT at hf
      have htk : (l.take (j + 1)).map (fun y => wordOf y.xs) = (l.take j).map (fun y => wordOf y.xs) ++ [wordOf y.xs] := by
        rw [List.take_add_one, hgx]
        simp
      have HTK := Is.mk htk
      have hlen : ((l.take j).map (fun y => wordOf y.xs)).length < maxLen := by simp; omega
      have HIY := hidden (wordOf_rng y.xs hok.rng)
      have hlk := HFN.out.look (wordOf y.xs) (wordOf_rng y.xs hok.rng)
      have hyn := hok.le
      have HN := hidden (number_any y.p y.n y.c y.xs wr hok 0 y.n (by omega) (by omega))
      have hw : (numR y.xs 0 y.n).1 = wordOf y.xs := by unfold wordOf; rw [hok.len]
      rw [hw] at HN
      clear hok hrel hdr hgx hw htk
      generalize (l.take j).map (fun y => wordOf y.xs) = ts at hf HFN hlk hlen HTK
      generalize decide (wordOf y.xs ∈ ts) = z at hf hlk
      generalize wordOf y.xs = t at hf HFN hlk HTK HIY HN
      generalize (numR y.xs 0 y.n).2 = q at HN
      cases z with
      | true =>
        have HT : Is R0 true := ⟨by simpa using hf.symm⟩
        clear hf
        go_wp2_with (first
          | (go_at_call 114; (with_reducible refine (HN.out).mono ?_); rintro _ w1 ⟨rfl, rfl⟩)
          | fail)
        go_ret
        exact ⟨by rw [← HR.eq, HT.eq]; rfl, HB.out⟩
      | false =>
        have HT : Is (spisT (ts ++ [t]) (l.drop (j + 1))) R0 := ⟨by simpa using hf⟩
        clear hf
        go_wp2_with (first
          | (go_at_call 114; (with_reducible refine (HN.out).mono ?_); rintro _ w1 ⟨rfl, rfl⟩)
          | (at_mapUpdate; go_loud (refine wpList_fndU _ rfl _ _ _ rfl (w.heap.size + 1) ts HFN.out hlen rfl t rfl rfl HIY.out ?_); rintro w2 hf2 hg2; have HF2 := hidden hf2; have HB2 := hidden (HB1.out.grown hg2 hsz (fun k hk => by cases hk; exact Nat.le_refl _)); clear hf2 hg2)
          | fail)
        go_roundw
        case rel => exact ⟨j + 1, by omega, by go_num, by rw [HTK.eq]; exact HF2.out, by rw [HTK.eq]; exact HT, HB2.out⟩
        case measure => simp [intOf]; omega
    · have hlt' : ¬ (j : Int) < n := by omega
      have hd : l.drop j = [] := List.drop_eq_nil_of_le (by rw [HL.eq]; omega)
      have hf := hrel.eq
      rw [hd] at hf
      have HT : Is R0 false := ⟨hf.symm⟩
      clear hf hd hrel
      go_wp2
      go_ret
      exact ⟨by rw [← HR.eq, HT.eq]; rfl, HB.out⟩
end Go.Proofs.YtpocehpejbnemaaDoor
