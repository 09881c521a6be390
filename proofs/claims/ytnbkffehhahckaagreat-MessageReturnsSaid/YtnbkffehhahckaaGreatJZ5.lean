/-
  Package payload's readers of nonces and of identities, and the first errors that they tell.
  A map of the call's own from uint64s to bools that holds just those of a list.
  The first error of the SPIs of a deletion, as package payload tells it.
  Plain mathematics, no program: chains of payloads as bytes, written and read.
  The header of a message as six numbers, and what Check and Request answer of it.
  A header that lies in a block of the call's own.
  A list of choices: a number of 64 bits.
  The cursor that header.Parse reads with: a field behind the other, and an error that stays.
  Lists of payloads in memory, whatever the program: a row of the call's own whose elements have three cells: a number, a Boolean, a slice of bytes.
  What the document's own Number returns, for every slice of bytes, place and width.
  What the document's own Slice returns, for every slice of bytes, place and length.
  A range over a function whose function keeps a state of its own in one block, whatever the program: the statement's law, where the body always goes on.
-/
import Derived.Test.YtnbkffehhahckaaGreatJZ2
import Derived.Test.YtnbkffehhahckaaGreatJZ4
import Derived.Test.YtnbkffehhahckaaGreatJZ3
import Derived.Test.YtnbkffehhahckaaGreatJZ0
import Derived.Test.YtnbkffehhahckaaGreatJZ1
import Derived.Test.YtnbkffehhahckaaGreatJNum
import Derived.Test.YtnbkffehhahckaaGreatRows
import Derived.Maps.OwnOps
import Derived.Maps.Views
import Derived.Deep.QuietTactic
import Derived.BigQuiet
import Derived.RangeFuncNested
import Derived.RangeFuncBound
import Derived.RangeFuncCalls
import Derived.RangeFuncLeaves
import Derived.Shelf.Abstract
import Derived.WalkKit
namespace Go.Proofs.YtnbkffehhahckaaGreat
open Go.RowKit
set_option linter.unusedVariables false
def ReadPv (w : World) (E : Int) (good : World → Pv → Prop) (e : Ending) (w' : World) : Prop := ∃ x : Pv, e = .returned (.tuple #[(.agg #[.int .i64 x.t, .slice x.pr.p x.pr.n x.pr.c, .int .i64 x.eg, .slice x.ed.p x.ed.n x.ed.c, .int .i64 x.ik, .slice x.id.p x.id.n x.id.c, .int .i64 x.am, .slice x.ad.p x.ad.n x.ad.c, .int .i64 x.np, .slice x.ns.p x.ns.n x.ns.c, .int .i64 x.nt, .slice x.nd.p x.nd.n x.nd.c, .int .i64 x.dp, .slice x.ds.p x.ds.n x.ds.c, .slice x.se.p x.se.n x.se.c, .slice x.da.p x.da.n x.da.c]), .int .i64 E]) ∧ Below w.heap.size w w' ∧ (E = 0 → good w' x)
def FrV (w : World) (base : Nat) (s : Sv) (xs : List Int) : Prop := Frs w base s.p s.n s.c xs
def nonceE (n : Nat) : Int := if n < 16 ∨ 256 < n then 13 else 0
theorem checkNonce_any (p : Option Addr) (n c : Nat) (w : World) (hn : n ≤ 9223372036854775807) :
    Calls Tryz.prog 66 #[.slice p n c] w fun e w' => e = .returned (.int .i64 (nonceE n)) ∧ w = w' := by
  unfold nonceE
  by_cases h1 : n < 16
  · rw [if_pos (Or.inl h1)]
    go_enter Tryz.func66, Tryz.ntmps66
    go_wp2
    go_ret
    exact ⟨rfl, rfl⟩
  by_cases h2 : 256 < n
  · rw [if_pos (Or.inr h2)]
    go_enter Tryz.func66, Tryz.ntmps66
    go_wp2
    go_ret
    exact ⟨rfl, rfl⟩
  · rw [if_neg (by omega)]
    go_enter Tryz.func66, Tryz.ntmps66
    go_wp2
    go_ret
    exact ⟨rfl, rfl⟩
set_option maxHeartbeats 800000 in
set_option maxRecDepth 100000 in
theorem nonce_read (p : Option Addr) (n c : Nat) (xs : List Int) (w : World) (h : Byt w p n c xs) (hb : n ≤ 140737488355328) :
    Calls Tryz.prog 78 #[.slice p n c] w (ReadPv w (nonceE n) fun w' x => FrV w' w.heap.size x.da xs) := by
  have hn := h.le
  have H1 := hidden (h.alloc (.cells #[.int .i64 0, .slice none 0 0, .int .i64 0, .slice none 0 0, .int .i64 0, .slice none 0 0, .int .i64 0, .slice none 0 0, .int .i64 0, .slice none 0 0, .int .i64 0, .slice none 0 0, .int .i64 0, .slice none 0 0, .slice none 0 0, .slice none 0 0] 56))
  have HB := hidden ((Below.refl w.heap.size w).alloc (Nat.le_refl _) (.cells #[.int .i64 0, .slice none 0 0, .int .i64 0, .slice none 0 0, .int .i64 0, .slice none 0 0, .int .i64 0, .slice none 0 0, .int .i64 0, .slice none 0 0, .int .i64 0, .slice none 0 0, .int .i64 0, .slice none 0 0, .slice none 0 0, .slice none 0 0] 56))
  have HZ : Hid (PvIn (w.alloc (.cells #[.int .i64 0, .slice none 0 0, .int .i64 0, .slice none 0 0, .int .i64 0, .slice none 0 0, .int .i64 0, .slice none 0 0, .int .i64 0, .slice none 0 0, .int .i64 0, .slice none 0 0, .int .i64 0, .slice none 0 0, .slice none 0 0, .slice none 0 0] 56)) w.heap.size zeroP) := hidden (PvIn.new w zeroP 56)
  have HL := hidden h.len
  have HR := hidden h.rng
  clear h
  go_enter Tryz.func78, Tryz.ntmps78
  go_wp2_with (first
    | (go_at_call 103; (with_reducible refine (cloneB_any _ _ _ _ _ H1.out hb).mono ?_); rintro e w2 ⟨v2, rfl, ho, hbc⟩; obtain ⟨q2, d2, rfl, hf0⟩ := ho.frs HL.out HR.out; have HF0 := hidden hf0; have HB2 := hidden (HB.out.trans (hbc.mono HB.out.size)); have HZ2 := hidden (HZ.out.below hbc); obtain ⟨z0, z1, z2, z3, z4, z5, z6, z7, z8, z9, z10, z11, z12, z13, z14, z15, zf⟩ := HZ2.out; clear ho hbc hf0)
    | (go_at_call 66; (with_reducible refine (checkNonce_any _ _ _ _ (by omega)).mono ?_); rintro e w3 ⟨rfl, rfl⟩)
    | fail)
  have hlo := setPv_grown w2 w.heap.size ⟨0, nilV, 0, nilV, 0, nilV, 0, nilV, 0, nilV, 0, nilV, 0, nilV, nilV, ⟨q2, n, d2⟩⟩
  have hz := setPv_in HZ2.out ⟨0, nilV, 0, nilV, 0, nilV, 0, nilV, 0, nilV, 0, nilV, 0, nilV, nilV, ⟨q2, n, d2⟩⟩
  have hfl := (HF0.out.low hlo (by simp)).mono (show w.heap.size ≤ _ from HB.out.size)
  have HBS := hidden (HB2.out.grown hlo HB2.out.size (fun j hj => by cases hj; exact Nat.le_refl _))
  simp only [setPv, nilV] at hz hfl HBS
  have HZZ := hidden hz
  have HFF := hidden hfl
  clear hz hfl hlo
  refine ret_pv (g := w.heap.size) rfl rfl rfl rfl HZZ.out ?_
  exact ⟨_, rfl, HBS.out, fun _ => HFF.out⟩
def idE (k : Int) (n : Nat) : Int := if k = 1 then (if n = 4 then 0 else 2) else if k = 5 then (if n = 16 then 0 else 2) else if k = 2 ∨ k = 3 ∨ k = 11 then (if n = 0 then 2 else 0) else 5
theorem idE_cases (k : Int) (n : Nat) (E : Int) (h : idE k n = E) :
    (k = 1 ∧ ((n = 4 ∧ E = 0) ∨ (¬ n = 4 ∧ E = 2))) ∨ ((k == 1) = false ∧ k = 5 ∧ ((n = 16 ∧ E = 0) ∨ (¬ n = 16 ∧ E = 2))) ∨
    ((k == 1) = false ∧ (k == 5) = false ∧ (k = 2 ∨ k = 3 ∨ k = 11) ∧ ((n = 0 ∧ E = 2) ∨ (¬ n = 0 ∧ E = 0))) ∨
    ((k == 1) = false ∧ (k == 5) = false ∧ (k == 2) = false ∧ (k == 3) = false ∧ (k == 11) = false ∧ E = 5) := by
  unfold idE at h
  subst h
  by_cases h1 : k = 1
  · subst h1
    by_cases h : n = 4 <;> simp [h]
  by_cases h2 : k = 5
  · subst h2
    by_cases h : n = 16 <;> simp [h]
  by_cases h3 : k = 2 ∨ k = 3 ∨ k = 11
  · by_cases h : n = 0 <;> simp [h1, h2, h3, h]
  · simp [h1, h2]
    simp only [not_or] at h3
    simp [h3]
set_option maxHeartbeats 800000 in
theorem checkIdentity_any (k : Int) (p : Option Addr) (n c : Nat) (w : World) (hn : n ≤ 9223372036854775807) (E : Int) (hE : idE k n = E) :
    Calls Tryz.prog 64 #[.agg #[.int .i64 k, .slice p n c]] w fun e w' => e = .returned (.int .i64 E) ∧ Below w.heap.size w w' := by
  have HB := hidden ((Below.refl w.heap.size w).alloc (Nat.le_refl _) (.cells #[.int .i64 k, .slice p n c] 46))
  rcases idE_cases k n E hE with ⟨rfl, ⟨h, rfl⟩ | ⟨h, rfl⟩⟩ | ⟨k1, rfl, ⟨h, rfl⟩ | ⟨h, rfl⟩⟩ | ⟨k1, k2, k3, ⟨h, rfl⟩ | ⟨h, rfl⟩⟩ | ⟨k1, k2, k3, k4, k5, rfl⟩
  all_goals clear hE
  all_goals (try rcases k3 with rfl | rfl | rfl)
  all_goals (try subst h)
  all_goals (try have hge : (1 : Int) ≤ n := (by omega))
  all_goals (try have hz : ((n : Int) == 4) = false := (by simp; omega))
  all_goals (try have hz2 : ((n : Int) == 16) = false := (by simp; omega))
  all_goals (try clear h)
  all_goals
    go_enter Tryz.func64, Tryz.ntmps64
    go_wp2
    go_ret
    exact ⟨rfl, HB.out⟩
end Go.Proofs.YtnbkffehhahckaaGreat

namespace Go.Proofs.YtnbkffehhahckaaGreat
open Go.RowKit
open Go.Maps (Keyed IsMap)
set_option linter.unusedVariables false
set_option maxRecDepth 100000
def WdR (t : Int) : Prop := 0 ≤ t ∧ t ≤ 18446744073709551615
theorem lawU : Keyed Tryz.prog 24 := Maps.int_keyed Tryz.underlying24
theorem key_u (t : Int) (h : WdR t) : keyOf Tryz.prog 24 (.int .u64 t) = some (.int .u64 t) := Maps.keyOf_int_mk Tryz.underlying24 (WalkArith.wf_u64 (by unfold WdR at h; omega))
structure FndUD (D : DataW Unit) (ts : List Int) : Prop where
  map : IsMap D
  at_ : ∀ (t : Int), WdR t → D.atKey (.int .u64 t) (.lit (.bool false)) = .lit (.bool (decide (t ∈ ts)))
def FndU (w : World) (b : Nat) (ts : List Int) : Prop := ∃ D : DataW Unit, w.ownsMap Tryz.prog 24 (plainElem Tryz.prog 4) b ts.length D ∧ FndUD D ts
theorem FndU.made (w : World) : FndU (w.alloc (.map #[] 0)) w.heap.size [] := ⟨_, World.ownsMap_made _ _ _ _, ⟨[], rfl⟩, fun t h => by simp [DataW.atKey]⟩
theorem FndU.lt {w : World} {b : Nat} {ts : List Int} (h : FndU w b ts) : b < w.heap.size := by
  obtain ⟨D, h1, _⟩ := h
  exact h1.lt
theorem FndU.grown {w w' : World} {b : Nat} {ts : List Int} {row : Option Nat} (h : FndU w b ts) (hg : w.grownBy w' row) (hne : some b ≠ row) : FndU w' b ts := by
  obtain ⟨D, h1, h2⟩ := h
  exact ⟨D, h1.kept hg hne, h2⟩
theorem FndU.below {w w' : World} {b : Nat} {ts : List Int} (h : FndU w b ts) (hb : Below w.heap.size w w') : FndU w' b ts := h.grown (row := none) (grown_of_below hb none) (by simp)
theorem FndU.notCells {w : World} {b : Nat} {ts : List Int} (h : FndU w b ts) (cur : Array Value) (e : TypeId) (fz : Nat × Nat) : w.heap[b]? ≠ some (.cells cur e fz) := by
  obtain ⟨D, ⟨es, clock, h1, _⟩, _⟩ := h
  rw [h1]
  simp
theorem Tryz.zeroBoolU (w : World) : (zeroValue 4).run Tryz.prog w = .ok (.bool false) w := by kernel_rfl
theorem FndU.look {w : World} {b : Nat} {ts : List Int} (h : FndU w b ts) (t : Int) (hi : WdR t) :
    (Instr.lookup 182 (.map (some b)) (.int .u64 t) false).run Tryz.prog w = .ok (.bool (decide (t ∈ ts))) w := by
  obtain ⟨D, h1, h2⟩ := h
  obtain ⟨v, ps, hrun, hv⟩ := h1.lookup lawU Tryz.underlying182 (Tryz.zeroBoolU w) (plainElem_bool Tryz.underlying4 false) (key_u t hi)
  rw [h2.at_ t hi] at hv
  have : v = .bool (decide (t ∈ ts)) := by
    unfold plainElem at hv
    rw [Tryz.underlying4] at hv
    cases v <;> simp at hv
    rw [hv.1]
  rw [← this]
  exact hrun
theorem FndUD.put {D : DataW Unit} {ts : List Int} (h : FndUD D ts) (t : Int) (hi : WdR t) : FndUD (D.put (.int .u64 t) (.lit (.bool true))) (ts ++ [t]) := by
  refine ⟨h.map.put _ _, fun t' hi' => ?_⟩
  by_cases he : t' = t
  · subst he
    rw [Maps.atKey_put_same h.map (lawU.key (key_u t' hi))]
    simp
  · have hne : (Lit.int .u64 t' : Lit) ≠ .int .u64 t := by
      intro e
      injection e with _ e
      exact he e
    rw [Maps.atKey_put_other hne, h.at_ t' hi']
    simp [he]
theorem wpList_fndU (w : World) {ops : Array Oper} {rest : List Oper} {o : Oper} {a : Act} {Q : Exit → Act → World → Prop} (hg : o.guard = none) (m x v : Operand) (hop : o.op = Op.mapUpdate 182 m x v)
    (b : Nat) (ts : List Int) (h : FndU w b ts) (hn : ts.length < maxLen) (hm : a.eval m = .map (some b)) (t : Int) (hx : a.eval x = .int .u64 t) (hv : a.eval v = .bool true) (hi : WdR t)
    (hK : ∀ w', FndU w' b (ts ++ [t]) → w.grownBy w' (some b) → wpList Tryz.prog ops Q rest (a.put o.dst undef) w') : wpList Tryz.prog ops Q (o :: rest) a w := by
  obtain ⟨D, h1, h2⟩ := h
  refine wpList_mapUpdate_own w hg m x v _ hop _ _ lawU Tryz.underlying182 _ b _ D hm h1 hn _ _ (.int .u64 t) hx hv (key_u t hi) _ [] (plainElem_bool Tryz.underlying4 true) ?_
  intro w' h3 h4
  exact hK w' ⟨_, by simpa using h3, h2.put t hi⟩ h4
end Go.Proofs.YtnbkffehhahckaaGreat

namespace Go.Proofs.YtnbkffehhahckaaGreat
open Go.RowKit
set_option linter.unusedVariables false
def wordOf (xs : List Int) : Int := (numR xs 0 xs.length).1
theorem wordOf_rng (xs : List Int) (h : ∀ x ∈ xs, 0 ≤ x ∧ x ≤ 255) : WdR (wordOf xs) := by
  unfold wordOf numR WdR
  split
  · rename_i hc
    obtain ⟨_, h8, _⟩ := hc
    have hb := val_bd xs h
    have e : ((xs.drop (0 : Int).toNat).take ((xs.length : Nat) : Int).toNat) = xs := by
      show (xs.drop 0).take xs.length = xs
      rw [List.drop_zero, List.take_length]
    have hl : xs.length ≤ 8 := by omega
    have hp : (256 : Int) ^ xs.length ≤ 256 ^ 8 := by
      have := Nat.pow_le_pow_right (n := 256) (by decide) hl
      have h2 : ((256 ^ xs.length : Nat) : Int) ≤ ((256 ^ 8 : Nat) : Int) := Int.ofNat_le.2 this
      rw [Int.natCast_pow, Int.natCast_pow] at h2
      exact h2
    have hq : (256 : Int) ^ 8 = 18446744073709551616 := by decide
    rw [hq] at hp
    show 0 ≤ val ((xs.drop (0 : Int).toNat).take ((xs.length : Nat) : Int).toNat) ∧ val ((xs.drop (0 : Int).toNat).take ((xs.length : Nat) : Int).toNat) ≤ 18446744073709551615
    rw [e]
    omega
  · exact ⟨by decide, by decide⟩
def spisT : List Int → List Sb → Bool
  | _, [] => false
  | ts, y :: l => decide (wordOf y.xs ∈ ts) || spisT (ts ++ [wordOf y.xs]) l
def spisE (k : Int) (l : List Sb) : Int := if l.length = 0 ∧ k ≠ 1 then 8 else if spisT [] l then 9 else 0
def twiceW : List Int → List (List Int) → Bool
  | _, [] => false
  | ts, y :: l => decide (wordOf y ∈ ts) || twiceW (ts ++ [wordOf y]) l
def spisX (k : Int) (l : List (List Int)) : Int := if l.length = 0 ∧ k ≠ 1 then 8 else if twiceW [] l then 9 else 0
theorem spisT_xs : ∀ (l : List Sb) (ts : List Int), spisT ts l = twiceW ts (l.map Sb.xs)
  | [], _ => rfl
  | y :: l, ts => by simp [spisT, twiceW, spisT_xs l]
theorem spisE_xs (k : Int) (l : List Sb) : spisE k l = spisX k (l.map Sb.xs) := by simp [spisE, spisX, spisT_xs]
theorem FndU.alloc {w : World} {b : Nat} {ts : List Int} (h : FndU w b ts) (o : Obj) : FndU (w.alloc o) b ts := h.below ((Below.refl _ _).alloc (Nat.le_refl _) o)
set_option maxHeartbeats 6400000 in
set_option maxRecDepth 100000 in
theorem checkSpis_any (k : Int) (p : Option Addr) (n c : Nat) (l : List Sb) (w : World) (h : RdG KSb DSb w p n c l) :
    Calls Tryz.prog 96 #[.agg #[.int .i64 k, .slice p n c]] w fun e w' => e = .returned (.int .i64 (spisE k l)) ∧ Below w.heap.size w w' := by
  have hmm := @run_makeMap Tryz.prog
  have hl := h.len
  have hbig : n ≤ maxLen := Nat.le_trans h.cap h.big
  have hn63 := h.le
  have HBX := hidden ((Below.refl w.heap.size w).alloc (Nat.le_refl _) (.cells #[.int .i64 k, .slice p n c] 53))
  obtain ⟨R, hR⟩ : ∃ R, spisE k l = R := ⟨_, rfl⟩
  rw [hR]
  by_cases h0 : n = 0
  · subst h0
    have e0 : (((0 : Nat) : Int) == 0) = true := rfl
    by_cases h1 : k = 1
    · subst h1
      have HR : Is (0 : Int) R := ⟨by
        rw [← hR]
        have : l = [] := List.eq_nil_of_length_eq_zero hl
        subst this
        rfl⟩
      clear hR h hl
      go_enter Tryz.func96, Tryz.ntmps96
      go_wp2_with fail
      go_loopw [21] (fun v wr => v = .int .i64 0 ∧ Below (w.heap.size + 1) (w.alloc (.cells #[.int .i64 1, .slice p 0 c] 53)) wr) (fun v _ => 0)
      case atStart => exact ⟨rfl, (Below.refl _ _).alloc (by simp) _⟩
      case round =>
        obtain ⟨rfl, hb⟩ := hrel
        have hb' : Below (w.alloc (.cells #[.int .i64 1, .slice p 0 c] 53)).heap.size (w.alloc (.cells #[.int .i64 1, .slice p 0 c] 53)) wr := by simpa using hb
        have HB := hidden (HBX.out.trans (hb'.mono HBX.out.size))
        clear hb hb'
        go_wp2
        go_ret
        exact ⟨by rw [← HR.eq]; rfl, HB.out⟩
    · have e1 : (k != 1) = true := by simpa using h1
      have HR : Is (8 : Int) R := ⟨by rw [← hR]; unfold spisE; rw [if_pos ⟨hl, h1⟩]⟩
      clear hR h h1 hl
      go_enter Tryz.func96, Tryz.ntmps96
      go_wp2_with fail
      go_ret
      exact ⟨by rw [← HR.eq]; rfl, HBX.out⟩
  have e0 : ((n : Int) == 0) = false := by simpa using h0
  obtain ⟨R0, hR0⟩ : ∃ R0, spisT [] l = R0 := ⟨_, rfl⟩
  have HR : Is (if R0 = true then (9 : Int) else 0) R := ⟨by rw [← hR, ← hR0]; exact (if_neg (fun e => by have := e.1; omega)).symm⟩
  have HR0 := Is.mk hR0
  clear hR hR0 h0
  have H := hidden h
  have HL := Is.mk hl
  clear h hl
  have HFM := hidden (FndU.made (w.alloc (.cells #[.int .i64 k, .slice p n c] 53)))
  go_enter Tryz.func96, Tryz.ntmps96
  go_wp2_with fail
  go_loopw [21] (fun v wr => ∃ (j : Nat), j ≤ n ∧ v = .int .i64 j ∧ FndU wr (w.heap.size + 1) ((l.take j).map (fun y => wordOf y.xs)) ∧ Is (spisT ((l.take j).map (fun y => wordOf y.xs)) (l.drop j)) R0 ∧ Below (w.heap.size + 1) (w.alloc (.cells #[.int .i64 k, .slice p n c] 53)) wr) (fun v _ => n - (intOf v).toNat)
  case atStart => exact ⟨0, by omega, rfl, by simpa using HFM.out, ⟨by simpa using HR0.eq⟩, (Below.refl _ _).alloc (by simp) _⟩
  case round =>
    obtain ⟨j, hj, rfl, hfn, hrel, hb⟩ := hrel
    have HFN := hidden hfn
    have hb' : Below (w.alloc (.cells #[.int .i64 k, .slice p n c] 53)).heap.size (w.alloc (.cells #[.int .i64 k, .slice p n c] 53)) wr := by simpa using hb
    have HB := hidden (HBX.out.trans (hb'.mono HBX.out.size))
    have HB1 := hidden hb
    have hsz : w.heap.size + 1 ≤ wr.heap.size := by have := hb'.size; simpa using this
    clear hb hb' hfn
    by_cases hlt : j < n
    · have hlt' : (j : Int) < n := by omega
      obtain ⟨g, y, rfl, hgx, hdr, hok, hc⟩ := (H.out.below HB.out).sb_cons hlt
      have hf := hrel.eq
      rw [hdr] at hf
      unfold spisT at hf
      have htk : (l.take (j + 1)).map (fun y => wordOf y.xs) = (l.take j).map (fun y => wordOf y.xs) ++ [wordOf y.xs] := by
        rw [List.take_add_one, hgx]
        simp
      have HTK := Is.mk htk
      have hlen : ((l.take j).map (fun y => wordOf y.xs)).length < maxLen := by simp; omega
      have HIY := hidden (wordOf_rng y.xs hok.rng)
      have hlk := HFN.out.look (wordOf y.xs) (wordOf_rng y.xs hok.rng)
      have hyn := hok.le
      have HN := hidden (number_any y.p y.n y.c y.xs wr hok 0 y.n (by omega) (by omega))
      have hw : (numR y.xs 0 y.n).1 = wordOf y.xs := by unfold wordOf; rw [hok.len]
      rw [hw] at HN
      clear hok hrel hdr hgx hw htk
      generalize (l.take j).map (fun y => wordOf y.xs) = ts at hf HFN hlk hlen HTK
      generalize decide (wordOf y.xs ∈ ts) = z at hf hlk
      generalize wordOf y.xs = t at hf HFN hlk HTK HIY HN
      generalize (numR y.xs 0 y.n).2 = q at HN
      cases z with
      | true =>
        have HT : Is R0 true := ⟨by simpa using hf.symm⟩
        clear hf
        go_wp2_with (first
          | (go_at_call 54; (with_reducible refine (HN.out).mono ?_); rintro _ w1 ⟨rfl, rfl⟩)
          | fail)
        go_ret
        exact ⟨by rw [← HR.eq, HT.eq]; rfl, HB.out⟩
      | false =>
        have HT : Is (spisT (ts ++ [t]) (l.drop (j + 1))) R0 := ⟨by simpa using hf⟩
        clear hf
        go_wp2_with (first
          | (go_at_call 54; (with_reducible refine (HN.out).mono ?_); rintro _ w1 ⟨rfl, rfl⟩)
          | (at_mapUpdate; go_loud (refine wpList_fndU _ rfl _ _ _ rfl (w.heap.size + 1) ts HFN.out hlen rfl t rfl rfl HIY.out ?_); rintro w2 hf2 hg2; have HF2 := hidden hf2; have HB2 := hidden (HB1.out.grown hg2 hsz (fun k hk => by cases hk; exact Nat.le_refl _)); clear hf2 hg2)
          | fail)
        go_roundw
        case rel => exact ⟨j + 1, by omega, by go_num, by rw [HTK.eq]; exact HF2.out, by rw [HTK.eq]; exact HT, HB2.out⟩
        case measure => simp [intOf]; omega
    · have hlt' : ¬ (j : Int) < n := by omega
      have hd : l.drop j = [] := List.drop_eq_nil_of_le (by rw [HL.eq]; omega)
      have hf := hrel.eq
      rw [hd] at hf
      have HT : Is R0 false := ⟨hf.symm⟩
      clear hf hd hrel
      go_wp2
      go_ret
      exact ⟨by rw [← HR.eq, HT.eq]; rfl, HB.out⟩
end Go.Proofs.YtnbkffehhahckaaGreat

namespace Go.Proofs.YtnbkffehhahckaaGreat
set_option linter.unusedVariables false
structure Raw where
  k : Int
  c : Bool
  b : List Int
  deriving DecidableEq
def lastK (k : Int) : Bool := k == 46 || k == 53
def lenC (xs : List Int) : Int := xs.getD 2 0 * 256 + xs.getD 3 0
structure ResC where
  l : List Raw
  n : Int
  e : Int
  deriving DecidableEq
def failC (e : Int) : ResC := ⟨[], 0, e⟩
def preC (out : List Raw) (r : ResC) : ResC := if r.e ≠ 0 then failC r.e else ⟨out ++ r.l, r.n, 0⟩
theorem preC_nil (r : ResC) (h : r.e ≠ 0 → r = failC r.e) : preC [] r = r := by
  unfold preC
  split
  · rename_i he; exact (h he).symm
  · rename_i he
    have : r.e = 0 := by omega
    cases r
    simp_all
theorem preC_fail (out : List Raw) (e : Int) (h : e ≠ 0) : preC out (failC e) = failC e := by simp [preC, failC, h]
theorem preC_pre (a b : List Raw) (r : ResC) : preC a (preC b r) = preC (a ++ b) r := by
  unfold preC
  by_cases h : r.e = 0
  · simp [h]
  · simp [h, failC]
def headC (kind : Int) (xs : List Int) : Raw := ⟨kind, decide (128 ≤ xs.getD 1 0), (xs.drop 4).take ((lenC xs).toNat - 4)⟩
def parseC : Nat → Int → List Int → ResC
  | left, kind, xs =>
    if kind = 0 then (if xs.length ≠ 0 then failC 2 else ⟨[], 0, 0⟩)
    else match left with
      | 0 => failC 10
      | left + 1 =>
        if xs.length < 4 then failC 1
        else if lenC xs < 4 ∨ (xs.length : Int) < lenC xs then failC 2
        else if lastK kind then (if (xs.length : Int) ≠ lenC xs then failC 2 else ⟨[headC kind xs], xs.getD 0 0, 0⟩)
        else preC [headC kind xs] (parseC left (xs.getD 0 0) (xs.drop (lenC xs).toNat))
theorem parseC_end (left : Nat) (xs : List Int) : parseC left 0 xs = if xs.length ≠ 0 then failC 2 else ⟨[], 0, 0⟩ := by
  cases left <;> simp [parseC]
theorem parseC_many (kind : Int) (xs : List Int) (h : kind ≠ 0) : parseC 0 kind xs = failC 10 := by
  rw [parseC, if_neg h]
theorem parseC_more (left : Nat) (kind : Int) (xs : List Int) (h : kind ≠ 0) : parseC (left + 1) kind xs =
    if xs.length < 4 then failC 1
    else if lenC xs < 4 ∨ (xs.length : Int) < lenC xs then failC 2
    else if lastK kind then (if (xs.length : Int) ≠ lenC xs then failC 2 else ⟨[headC kind xs], xs.getD 0 0, 0⟩)
    else preC [headC kind xs] (parseC left (xs.getD 0 0) (xs.drop (lenC xs).toNat)) := by
  rw [parseC, if_neg h]
def parseTop (first : Int) (xs : List Int) : ResC := if first < 0 ∨ 255 < first then failC 5 else parseC 40 first xs
def oneC (next : Int) (r : Raw) : List Int := [next % 256, if r.c then 128 else 0] ++ (be 2 ((r.b.length : Int) + 4) ++ r.b)
def nextC (last : Int) : List Raw → Int
  | [] => last
  | r :: _ => r.k
def encC (last : Int) : List Raw → List Int
  | [] => []
  | r :: l => oneC (nextC last l) r ++ encC last l
def errC : List Raw → Int
  | [] => 0
  | r :: l => if r.k < 1 ∨ 255 < r.k then 5 else if 65531 < r.b.length then 11 else if lastK r.k = true ∧ l ≠ [] then 7 else errC l
def endsC : List Raw → Bool
  | [] => false
  | [r] => lastK r.k
  | _ :: r :: l => endsC (r :: l)
def buildC (l : List Raw) (last : Int) : Int × List Int × Int :=
  if 40 < l.length then (0, [], 10) else if errC l ≠ 0 then (0, [], errC l) else if last < 0 ∨ 255 < last then (0, [], 5)
  else if last ≠ 0 ∧ endsC l = false then (0, [], 7) else (nextC 0 l, encC last l, 0)
theorem be2 (v : Int) (h : 0 ≤ v ∧ v ≤ 65535) : be 2 v = [v / 256, v % 256] := by
  simp [be]
  omega
theorem oneC_len (next : Int) (r : Raw) : (oneC next r).length = r.b.length + 4 := by
  simp [oneC, be_len]
  omega
theorem oneC_eq (next : Int) (r : Raw) (h : r.b.length ≤ 65531) : oneC next r = [next % 256, if r.c then 128 else 0, ((r.b.length : Int) + 4) / 256, ((r.b.length : Int) + 4) % 256] ++ r.b := by
  rw [oneC, be2 _ (by omega)]
  simp
theorem oneC_le (next : Int) (r : Raw) (ys : List Int) (h : r.b.length ≤ 65531) : lenC (oneC next r ++ ys) = (r.b.length : Int) + 4 := by
  rw [oneC_eq next r h]
  simp [lenC]
  omega
theorem one_next (next : Int) (r : Raw) (ys : List Int) (h : r.b.length ≤ 65531) : (oneC next r ++ ys).getD 0 0 = next % 256 := by
  rw [oneC_eq next r h]
  simp
theorem one_head (next : Int) (r : Raw) (ys : List Int) (h : r.b.length ≤ 65531) : headC r.k (oneC next r ++ ys) = r := by
  have hl := oneC_le next r ys h
  rw [headC, hl, oneC_eq next r h]
  have e1 : ((r.b.length : Int) + 4).toNat - 4 = r.b.length := by omega
  rw [e1]
  cases r with
  | mk k c b => cases c <;> simp
theorem one_drop (next : Int) (r : Raw) (ys : List Int) (h : r.b.length ≤ 65531) : (oneC next r ++ ys).drop (r.b.length + 4) = ys := by
  rw [← oneC_len next r, List.drop_left]
structure OkC (l : List Raw) (last : Int) : Prop where
  few : l.length ≤ 40
  err : errC l = 0
  rng : 0 ≤ last ∧ last ≤ 255
  ends : last = 0 ∨ endsC l = true
theorem errC_cons {r : Raw} {l : List Raw} (h : errC (r :: l) = 0) : 1 ≤ r.k ∧ r.k ≤ 255 ∧ r.b.length ≤ 65531 ∧ (lastK r.k = true → l = []) ∧ errC l = 0 := by
  unfold errC at h
  split at h
  · omega
  split at h
  · omega
  split at h
  · omega
  · rename_i h1 h2 h3
    refine ⟨by omega, by omega, by omega, fun hk => ?_, h⟩
    by_cases hl : l = []
    · exact hl
    · exact absurd ⟨hk, hl⟩ h3
theorem parse_enc (last : Int) (hr : 0 ≤ last ∧ last ≤ 255) : ∀ (l : List Raw) (left : Nat), errC l = 0 → l.length ≤ left → (last = 0 ∨ endsC l = true) → parseC left (nextC 0 l) (encC last l) = ⟨l, last, 0⟩ := by
  intro l
  induction l with
  | nil =>
    intro left _ _ he
    have : last = 0 := by simpa [endsC] using he
    subst this
    rw [show nextC 0 ([] : List Raw) = 0 from rfl, parseC_end]
    simp [encC]
  | cons r l ih =>
    intro left herr hlen hend
    obtain ⟨k1, k2, hb, hlast, herr'⟩ := errC_cons herr
    obtain ⟨left, rfl⟩ : ∃ m, left = m + 1 := ⟨left - 1, by simp at hlen; omega⟩
    have hll := oneC_le (nextC last l) r (encC last l) hb
    have hln : (oneC (nextC last l) r ++ encC last l).length = r.b.length + 4 + (encC last l).length := by rw [List.length_append, oneC_len]
    rw [show nextC 0 (r :: l) = r.k from rfl, show encC last (r :: l) = oneC (nextC last l) r ++ encC last l from rfl, parseC_more _ _ _ (by omega)]
    rw [if_neg (by omega), if_neg (by rw [hll, hln]; omega), hll, hln, one_head _ _ _ hb, one_next _ _ _ hb]
    by_cases hk : lastK r.k = true
    · have hl := hlast hk
      subst hl
      rw [if_pos hk, if_neg (by simp [encC])]
      simp [nextC]
      omega
    · rw [if_neg hk, show ((r.b.length : Int) + 4).toNat = r.b.length + 4 by omega, one_drop _ _ _ hb]
      have hend' : last = 0 ∨ endsC l = true := by
        rcases hend with h | h
        · exact Or.inl h
        · right
          cases l with
          | nil => simp [endsC] at h; exact absurd h hk
          | cons a l => exact h
      have hn : nextC last l % 256 = nextC 0 l := by
        cases l with
        | nil =>
          have : last = 0 := by simpa [endsC] using hend'
          simp [nextC, this]
        | cons a l =>
          have := errC_cons herr'
          simp [nextC]
          omega
      rw [hn, ih left herr' (by simp at hlen; omega) hend']
      simp [preC]
end Go.Proofs.YtnbkffehhahckaaGreat

namespace Go.Proofs.YtnbkffehhahckaaGreat
open Go.RowKit
set_option linter.unusedVariables false
structure Hdr where
  i : Int
  r : Int
  n : Int
  x : Int
  f : Int
  m : Int
structure Hdr.Ok (h : Hdr) : Prop where
  i : 0 ≤ h.i ∧ h.i ≤ 18446744073709551615
  r : 0 ≤ h.r ∧ h.r ≤ 18446744073709551615
  n : -9223372036854775808 ≤ h.n ∧ h.n ≤ 9223372036854775807
  x : -9223372036854775808 ≤ h.x ∧ h.x ≤ 9223372036854775807
  f : -9223372036854775808 ≤ h.f ∧ h.f ≤ 9223372036854775807
  m : 0 ≤ h.m ∧ h.m ≤ 4294967295
def rangeR (n x f : Int) : Bool := decide (34 ≤ x ∧ x ≤ 37 ∧ 0 ≤ n ∧ n ≤ 255) && (bits BinOp.andNot IntKind.i64 f 56 == 0)
def checkR (i r n x f m : Int) : Int :=
  if i = 0 then 20 else if rangeR n x f = false then 5 else if x ≠ 34 ∧ r = 0 then 20 else if x = 34 ∧ m ≠ 0 then 7 else 0
theorem inRange_any (i r n x f m : Int) (w : World) :
    Calls Tryz.prog 33 #[.agg #[.int .u64 i, .int .u64 r, .int .i64 n, .int .i64 x, .int .i64 f, .int .u32 m]] w fun e w' => e = .returned (.bool (rangeR n x f)) ∧ Below w.heap.size w w' := by
  go_enter Tryz.func33, Tryz.ntmps33
  go_wp2
  all_goals go_ret
  all_goals exact ⟨by simp [rangeR]; try omega, (Below.refl _ _).alloc (Nat.le_refl _) _⟩
theorem check_at (i r n x f m z : Int) (w : World) (hz : checkR i r n x f m = z) :
    Calls Tryz.prog 16 #[.agg #[.int .u64 i, .int .u64 r, .int .i64 n, .int .i64 x, .int .i64 f, .int .u32 m]] w fun e w' => e = .returned (.int .i64 z) ∧ Below w.heap.size w w' := by
  have HZ := hidden hz
  clear hz
  rcases hg : rangeR n x f with _ | _
  · go_enter Tryz.func16, Tryz.ntmps16
    go_wp2_with (first | (go_at_call 33; refine (inRange_any _ _ _ _ _ _ _).mono ?_; rintro e w' ⟨rfl, hb⟩; have hb' := ((Below.refl w.heap.size w).alloc (Nat.le_refl _) _).trans (hb.mono (by simp)); clear hb))
    all_goals go_ret
    all_goals have HY := HZ.out
    all_goals first | exact ⟨by simp_all [checkR], hb'⟩ | exact ⟨by simp_all [checkR], (Below.refl _ _).alloc (Nat.le_refl _) _⟩
  · go_enter Tryz.func16, Tryz.ntmps16
    go_wp2_with (first | (go_at_call 33; refine (inRange_any _ _ _ _ _ _ _).mono ?_; rintro e w' ⟨rfl, hb⟩; have c1 : w'.cell? ⟨w.heap.size, 1, none⟩ = some (.int .u64 r) := (hb.cell (by simp)).trans (by go_simp); have c5 : w'.cell? ⟨w.heap.size, 5, none⟩ = some (.int .u32 m) := (hb.cell (by simp)).trans (by go_simp); have hb' := ((Below.refl w.heap.size w).alloc (Nat.le_refl _) _).trans (hb.mono (by simp)); clear hb))
    all_goals go_ret
    all_goals have HY := HZ.out
    all_goals first | exact ⟨by simp_all [checkR], hb'⟩ | exact ⟨by simp_all [checkR], (Below.refl _ _).alloc (Nat.le_refl _) _⟩
theorem hcheck_any (i r n x f m : Int) (w : World) :
    Calls Tryz.prog 16 #[.agg #[.int .u64 i, .int .u64 r, .int .i64 n, .int .i64 x, .int .i64 f, .int .u32 m]] w fun e w' => e = .returned (.int .i64 (checkR i r n x f m)) ∧ Below w.heap.size w w' := check_at _ _ _ _ _ _ _ w rfl
theorem request_any (i r n x f m : Int) (w : World) :
    Calls Tryz.prog 52 #[.agg #[.int .u64 i, .int .u64 r, .int .i64 n, .int .i64 x, .int .i64 f, .int .u32 m]] w fun e w' => e = .returned (.bool (bits BinOp.and IntKind.i64 f 32 == 0)) ∧ Below w.heap.size w w' := by
  go_enter Tryz.func52, Tryz.ntmps52
  go_wp2
  all_goals go_ret
  all_goals exact ⟨rfl, (Below.refl _ _).alloc (Nat.le_refl _) _⟩
end Go.Proofs.YtnbkffehhahckaaGreat

namespace Go.Proofs.YtnbkffehhahckaaGreat
open Go.RowKit
set_option linter.unusedVariables false
structure HdrIn (w : World) (g o : Nat) (i r n x f m : Int) : Prop where
  c0 : w.cell? ⟨g, o, none⟩ = some (.int .u64 i)
  c1 : w.cell? ⟨g, o + 1, none⟩ = some (.int .u64 r)
  c2 : w.cell? ⟨g, o + 2, none⟩ = some (.int .i64 n)
  c3 : w.cell? ⟨g, o + 3, none⟩ = some (.int .i64 x)
  c4 : w.cell? ⟨g, o + 4, none⟩ = some (.int .i64 f)
  c5 : w.cell? ⟨g, o + 5, none⟩ = some (.int .u32 m)
  fr : ∀ j, w.frozen? ⟨g, j, none⟩ = false
theorem HdrIn.lt {w : World} {g o : Nat} {i r n x f m : Int} (h : HdrIn w g o i r n x f m) : g < w.heap.size := World.block_lt_of_cell? w _ h.c0
theorem HdrIn.grown {w w' : World} {g o : Nat} {i r n x f m : Int} {row : Option Nat} (h : HdrIn w g o i r n x f m) (hg : w.grownBy w' row) (hne : some g ≠ row) : HdrIn w' g o i r n x f m :=
  ⟨hg.cell h.c0 hne, hg.cell h.c1 hne, hg.cell h.c2 hne, hg.cell h.c3 hne, hg.cell h.c4 hne, hg.cell h.c5 hne, fun j => (World.frozen?_of_block (a := ⟨g, j, none⟩) (hg.block g h.lt hne)).trans (h.fr j)⟩
theorem HdrIn.below {w w' : World} {g o : Nat} {i r n x f m : Int} (h : HdrIn w g o i r n x f m) (hb : Below w.heap.size w w') : HdrIn w' g o i r n x f m := h.grown (row := none) (grown_of_below hb none) (by simp)
theorem HdrIn.alloc {w : World} {g o : Nat} {i r n x f m : Int} (h : HdrIn w g o i r n x f m) (b : Obj) : HdrIn (w.alloc b) g o i r n x f m := h.below ((Below.refl _ _).alloc (Nat.le_refl _) b)
theorem HdrIn.new (w : World) (i r n x f m : Int) (T : TypeId) : HdrIn (w.alloc (.cells #[.int .u64 i, .int .u64 r, .int .i64 n, .int .i64 x, .int .i64 f, .int .u32 m] T)) w.heap.size 0 i r n x f m :=
  ⟨by go_simp, by go_simp, by go_simp, by go_simp, by go_simp, by go_simp, fun j => by go_simp⟩
section
variable {w : World} {g : Nat} {i r n x f m : Int}
theorem HdrIn.set0 (h : HdrIn w g 0 i r n x f m) (z : Int) : HdrIn (w.setCell ⟨g, 0, none⟩ (.int .u64 z)) g 0 z r n x f m := by
  obtain ⟨c0, c1, c2, c3, c4, c5, fr⟩ := h
  exact ⟨by go_simp, by go_simp, by go_simp, by go_simp, by go_simp, by go_simp, fun j => by rw [World.frozen?_setCell]; exact fr j⟩
theorem HdrIn.set1 (h : HdrIn w g 0 i r n x f m) (z : Int) : HdrIn (w.setCell ⟨g, 1, none⟩ (.int .u64 z)) g 0 i z n x f m := by
  obtain ⟨c0, c1, c2, c3, c4, c5, fr⟩ := h
  exact ⟨by go_simp, by go_simp, by go_simp, by go_simp, by go_simp, by go_simp, fun j => by rw [World.frozen?_setCell]; exact fr j⟩
theorem HdrIn.set2 (h : HdrIn w g 0 i r n x f m) (z : Int) : HdrIn (w.setCell ⟨g, 2, none⟩ (.int .i64 z)) g 0 i r z x f m := by
  obtain ⟨c0, c1, c2, c3, c4, c5, fr⟩ := h
  exact ⟨by go_simp, by go_simp, by go_simp, by go_simp, by go_simp, by go_simp, fun j => by rw [World.frozen?_setCell]; exact fr j⟩
theorem HdrIn.set3 (h : HdrIn w g 0 i r n x f m) (z : Int) : HdrIn (w.setCell ⟨g, 3, none⟩ (.int .i64 z)) g 0 i r n z f m := by
  obtain ⟨c0, c1, c2, c3, c4, c5, fr⟩ := h
  exact ⟨by go_simp, by go_simp, by go_simp, by go_simp, by go_simp, by go_simp, fun j => by rw [World.frozen?_setCell]; exact fr j⟩
theorem HdrIn.set4 (h : HdrIn w g 0 i r n x f m) (z : Int) : HdrIn (w.setCell ⟨g, 4, none⟩ (.int .i64 z)) g 0 i r n x z m := by
  obtain ⟨c0, c1, c2, c3, c4, c5, fr⟩ := h
  exact ⟨by go_simp, by go_simp, by go_simp, by go_simp, by go_simp, by go_simp, fun j => by rw [World.frozen?_setCell]; exact fr j⟩
theorem HdrIn.set5 (h : HdrIn w g 0 i r n x f m) (z : Int) : HdrIn (w.setCell ⟨g, 5, none⟩ (.int .u32 z)) g 0 i r n x f z := by
  obtain ⟨c0, c1, c2, c3, c4, c5, fr⟩ := h
  exact ⟨by go_simp, by go_simp, by go_simp, by go_simp, by go_simp, by go_simp, fun j => by rw [World.frozen?_setCell]; exact fr j⟩
end
end Go.Proofs.YtnbkffehhahckaaGreat

namespace Go.Proofs.YtnbkffehhahckaaGreat
open Go.RowKit
set_option linter.unusedVariables false
set_option maxHeartbeats 400000 in
theorem word_any (W w : World) (k : Nat) (h : Cod W w k) :
    Calls Tryz.prog 25 #[.pointer (some ⟨k, 0, none⟩)] w fun e w' => ∃ r : Int, e = .returned (.int .u64 r) ∧ 0 ≤ r ∧ r ≤ 18446744073709551615 ∧ Cod W w' k ∧ w.grownBy w' (some k) := by
  have H := hidden h
  clear h
  go_enter Tryz.func25, Tryz.ntmps25
  go_wp2_with (go_at_call 13; refine (next_any W _ k H.out _ ?_).mono ?_; omega)
  rintro e w1 ⟨r, rfl, r0, r1, hc, hg⟩
  have HC := hidden hc
  have HG := hidden hg
  clear hc hg H
  by_cases h0 : r = 0
  · subst h0
    go_wp2_with (go_at_call 13; refine (next_any W _ k HC.out _ ?_).mono ?_; omega; rintro e w2 ⟨r2, rfl, r3, r4, hc2, hg2⟩; have HC2 := hidden hc2; have HG2 := hidden (grown_trans HG.out hg2); clear hc2 hg2)
    go_ret
    exact ⟨r2, rfl, r3, by omega, HC2.out, HG2.out⟩
  by_cases h1 : r = 1
  · subst h1
    go_wp2_with (go_at_call 13; refine (next_any W _ k HC.out _ ?_).mono ?_; omega; rintro e w2 ⟨r2, rfl, r3, r4, hc2, hg2⟩; have HC2 := hidden hc2; have HG2 := hidden (grown_trans HG.out hg2); clear hc2 hg2)
    go_ret
    exact ⟨18446744073709551615 - r2, rfl, by omega, by omega, HC2.out, HG2.out⟩
  have e0 : (r == 0) = false := by simpa using h0
  have e1 : (r == 1) = false := by simpa using h1
  go_wp2
  go_loopw [3, 4] (fun v i wr => ∃ j : Nat, j ≤ 8 ∧ i = .int .i64 j ∧ ∃ z : Int, v = .int .u64 z ∧ 0 ≤ z ∧ z ≤ 18446744073709551615 ∧ Cod W wr k ∧ w.grownBy wr (some k)) (fun _ i _ => 8 - (intOf i).toNat)
  case atStart => exact ⟨0, by omega, rfl, 0, rfl, by omega, by omega, HC.out, HG.out⟩
  case round =>
    obtain ⟨j, hj, rfl, z, rfl, z0, z1, hc, hg⟩ := hrel
    have HC1 := hidden hc
    have HG1 := hidden hg
    clear hc hg HC HG
    by_cases hlt : j < 8
    · go_wp2_with (go_at_call 13; refine (next_any W _ k HC1.out _ ?_).mono ?_; omega; rintro e w2 ⟨r2, rfl, r3, r4, hc2, hg2⟩; have HC2 := hidden hc2; have HG2 := hidden (grown_trans HG1.out hg2); clear hc2 hg2)
      go_roundw
      case rel => exact ⟨j + 1, by omega, by go_num, _, rfl, bits_lo_u64 _ _ _, bits_hi_u64 _ _ _, HC2.out, HG2.out⟩
      case measure => simp [intOf]; omega
    · obtain rfl : j = 8 := by omega
      go_wp2
      go_ret
      exact ⟨z, rfl, z0, z1, HC1.out, HG1.out⟩
end Go.Proofs.YtnbkffehhahckaaGreat

namespace Go.Proofs.YtnbkffehhahckaaGreat
open Go.RowKit
set_option linter.unusedVariables false
structure Cur (w : World) (k : Nat) (p : Option Addr) (n c : Nat) (a e : Int) : Prop where
  c0 : w.cell? ⟨k, 0, none⟩ = some (.slice p n c)
  c1 : w.cell? ⟨k, 1, none⟩ = some (.int .i64 a)
  c2 : w.cell? ⟨k, 2, none⟩ = some (.int .i64 e)
  fr : ∀ j, w.frozen? ⟨k, j, none⟩ = false
theorem Cur.lt {w : World} {k : Nat} {p : Option Addr} {n c : Nat} {a e : Int} (h : Cur w k p n c a e) : k < w.heap.size := World.block_lt_of_cell? w _ h.c0
theorem Cur.grown {w w' : World} {k : Nat} {p : Option Addr} {n c : Nat} {a e : Int} {row : Option Nat} (h : Cur w k p n c a e) (hg : w.grownBy w' row) (hne : some k ≠ row) : Cur w' k p n c a e :=
  ⟨hg.cell h.c0 hne, hg.cell h.c1 hne, hg.cell h.c2 hne, fun j => (World.frozen?_of_block (a := ⟨k, j, none⟩) (hg.block k h.lt hne)).trans (h.fr j)⟩
theorem Cur.below {w w' : World} {k : Nat} {p : Option Addr} {n c : Nat} {a e : Int} (h : Cur w k p n c a e) (hb : Below w.heap.size w w') : Cur w' k p n c a e := h.grown (row := none) (grown_of_below hb none) (by simp)
theorem Cur.alloc {w : World} {k : Nat} {p : Option Addr} {n c : Nat} {a e : Int} (h : Cur w k p n c a e) (o : Obj) : Cur (w.alloc o) k p n c a e := h.below ((Below.refl _ _).alloc (Nat.le_refl _) o)
theorem Cur.set_ne {w : World} {k : Nat} {p : Option Addr} {n c : Nat} {a e : Int} (h : Cur w k p n c a e) (g j : Nat) (v : Value) (hne : k ≠ g) : Cur (w.setCell ⟨g, j, none⟩ v) k p n c a e := h.grown (grown_set w g j v) (by simp; exact hne)
theorem Cur.step {w : World} {k : Nat} {p : Option Addr} {n c : Nat} {a e : Int} (h : Cur w k p n c a e) (z : Int) : Cur (w.setCell ⟨k, 1, none⟩ (.int .i64 z)) k p n c z e := by
  obtain ⟨c0, c1, c2, fr⟩ := h
  exact ⟨by go_simp, by go_simp, by go_simp, fun j => by rw [World.frozen?_setCell]; exact fr j⟩
theorem Cur.fail {w : World} {k : Nat} {p : Option Addr} {n c : Nat} {a e : Int} (h : Cur w k p n c a e) (z : Int) : Cur (w.setCell ⟨k, 2, none⟩ (.int .i64 z)) k p n c a z := by
  obtain ⟨c0, c1, c2, fr⟩ := h
  exact ⟨by go_simp, by go_simp, by go_simp, fun j => by rw [World.frozen?_setCell]; exact fr j⟩
set_option maxHeartbeats 400000 in
theorem field_yes (p : Option Addr) (n c : Nat) (xs : List Int) (w : World) (k a d : Nat) (hc : Cur w k p n c a 0) (h : Byt w p n c xs) (h1 : 1 ≤ d) (h8 : d ≤ 8) (hin : a + d ≤ n) :
    Calls Tryz.prog 39 #[.pointer (some ⟨k, 0, none⟩), .int .i64 d] w fun e w' => e = .returned (.int .u64 (val ((xs.drop a).take d))) ∧ Cur w' k p n c ((a + d : Nat) : Int) 0 ∧ w.grownBy w' (some k) := by
  have hle := h.le
  have E1 := hidden (fun m => (number_yes p n c xs (w.drewN m) (h.below (drew_below ⟨m, rfl⟩)) a d h1 h8 hin).mono (R' := fun e w' => e = .returned (.tuple #[.int .u64 (val ((xs.drop a).take d)), .bool true]) ∧ w' = w.drewN m) (fun e w' ⟨x, y⟩ => ⟨x, y.symm⟩))
  have HC := hidden hc
  obtain ⟨c0, c1, c2, fr⟩ := hc
  clear h
  generalize val ((xs.drop a).take d) = v at E1
  go_enter Tryz.func39, Tryz.ntmps39
  go_wp2
  go_quiet ((go_at_call 54; (with_reducible exact Calls.quiet_of_same (E1.out _))))
  go_wp2
  go_ret
  refine ⟨rfl, ?_, grown_trans (grown_drewN _ _ _) (grown_set _ k 1 _)⟩
  have := (HC.out.below (drew_below (B := w.heap.size) ⟨nq, rfl⟩)).step ((a : Int) + d)
  exact this
def CurPart (w : World) (k : Nat) (p : Option Addr) (n c S : Nat) : Prop := ∃ a e, Cur w k p n c a e ∧ ((e = 0 ∧ a = S ∧ S ≤ n) ∨ e = 1)
theorem CurPart.grown {w w' : World} {k : Nat} {p : Option Addr} {n c S : Nat} {row : Option Nat} (h : CurPart w k p n c S) (hg : w.grownBy w' row) (hne : some k ≠ row) : CurPart w' k p n c S := by
  obtain ⟨a, e, hc, h⟩ := h
  exact ⟨a, e, hc.grown hg hne, h⟩
theorem CurPart.set_ne {w : World} {k : Nat} {p : Option Addr} {n c S : Nat} (h : CurPart w k p n c S) (g j : Nat) (v : Value) (hne : k ≠ g) : CurPart (w.setCell ⟨g, j, none⟩ v) k p n c S := h.grown (grown_set w g j v) (by simp; exact hne)
set_option maxHeartbeats 400000 in
theorem field_some (p : Option Addr) (n c : Nat) (xs : List Int) (w : World) (k S d N : Nat) (hp : CurPart w k p n c S) (h : Byt w p n c xs) (h1 : 1 ≤ d) (h8 : d ≤ 8) (hN : S + d = N) (M : Int) (hM : (256 : Int) ^ d ≤ M + 1) (hM0 : 0 ≤ M) :
    Calls Tryz.prog 39 #[.pointer (some ⟨k, 0, none⟩), .int .i64 d] w fun e w' => ∃ z : Int, e = .returned (.int .u64 z) ∧ 0 ≤ z ∧ z ≤ M ∧ CurPart w' k p n c N ∧ w.grownBy w' (some k) := by
  subst hN
  obtain ⟨a, e, hc, he⟩ := hp
  rcases he with ⟨rfl, rfl, hS⟩ | rfl
  · by_cases hin : S + d ≤ n
    · refine (field_yes p n c xs w k S d hc h h1 h8 hin).mono ?_
      rintro e w' ⟨rfl, hc', hg⟩
      have hb := val_bd ((xs.drop S).take d) (rng_take (rng_drop h.rng _) _)
      have hlen : ((xs.drop S).take d).length = d := by have := h.len; simp; omega
      rw [hlen] at hb
      exact ⟨_, rfl, hb.1, by omega, ⟨_, _, hc', Or.inl ⟨rfl, rfl, hin⟩⟩, hg⟩
    · have hle := h.le
      have hlen := h.len
      have hnum : numR xs S d = (0, false) := by rw [numR, if_neg (by omega)]
      have E1 := hidden (fun m => (number_any p n c xs (w.drewN m) (h.below (drew_below ⟨m, rfl⟩)) S d (by omega) (by omega)).mono (R' := fun e w' => e = .returned (.tuple #[.int .u64 0, .bool false]) ∧ w' = w.drewN m) (fun e w' ⟨x, y⟩ => ⟨by rw [x, hnum], y.symm⟩))
      have HC := hidden hc
      obtain ⟨c0, c1, c2, fr⟩ := hc
      clear h hnum
      go_enter Tryz.func39, Tryz.ntmps39
      go_wp2
      go_quiet ((go_at_call 54; (with_reducible exact Calls.quiet_of_same (E1.out _))))
      go_wp2
      go_ret
      refine ⟨0, rfl, by omega, by omega, ⟨(S : Int), 1, ?_, Or.inr rfl⟩, grown_trans (grown_drewN _ _ _) (grown_set _ k 2 _)⟩
      have := (HC.out.below (drew_below (B := w.heap.size) ⟨nq, rfl⟩)).fail 1
      exact this
  · have HC := hidden hc
    obtain ⟨c0, c1, c2, fr⟩ := hc
    clear h
    go_enter Tryz.func39, Tryz.ntmps39
    go_wp2
    go_ret
    exact ⟨0, rfl, by omega, by omega, ⟨_, 1, HC.out, Or.inr rfl⟩, grown_refl _ _⟩
end Go.Proofs.YtnbkffehhahckaaGreat

namespace Go.Proofs.YtnbkffehhahckaaGreat
open Go.RowKit
set_option linter.unusedVariables false
structure RawP where
  k : Int
  c : Bool
  p : Option Addr
  n : Nat
  m : Nat
  b : List Int
def RawP.raw (x : RawP) : Raw := ⟨x.k, x.c, x.b⟩
def RawP.cells (x : RawP) : List Value := [.int .i64 x.k, .bool x.c, .slice x.p x.n x.m]
def rowC : List RawP → List Value
  | [] => []
  | x :: l => x.cells ++ rowC l
theorem rowC_append (l r : List RawP) : rowC (l ++ r) = rowC l ++ rowC r := by
  induction l with
  | nil => rfl
  | cons x l ih => simp [rowC, ih]
theorem rowC_len (l : List RawP) : (rowC l).length = l.length * 3 := by
  induction l with
  | nil => rfl
  | cons x l ih => simp [rowC, RawP.cells, ih]; omega
theorem rowC_one (l : List RawP) : ∀ u ∈ rowC l, u.oneCell' = true := by
  induction l with
  | nil => intro u hu; cases hu
  | cons x l ih =>
    intro u hu
    rw [rowC] at hu
    rcases List.mem_append.1 hu with h | h
    · simp [RawP.cells] at h
      rcases h with rfl | rfl | rfl <;> rfl
    · exact ih u h
theorem rowC_get (l : List RawP) (j : Nat) (hj : j < l.length) : (rowC l)[j * 3]? = some (.int .i64 l[j].k) ∧ (rowC l)[j * 3 + 1]? = some (.bool l[j].c) ∧ (rowC l)[j * 3 + 2]? = some (.slice l[j].p l[j].n l[j].m) := by
  induction l generalizing j with
  | nil => simp at hj
  | cons x l ih =>
    cases j with
    | zero => simp [rowC, RawP.cells]
    | succ j =>
      have h := ih j (by simpa using hj)
      have e1 : (j + 1) * 3 = j * 3 + 3 := by omega
      have e2 : (j + 1) * 3 + 1 = j * 3 + 1 + 3 := by omega
      have e3 : (j + 1) * 3 + 2 = j * 3 + 2 + 3 := by omega
      rw [e1, show j * 3 + 3 + 1 = j * 3 + 1 + 3 by omega, show j * 3 + 3 + 2 = j * 3 + 2 + 3 by omega]
      simpa [rowC, RawP.cells] using h
def OwnRw (w : World) (base : Nat) (e : TypeId) (v : Value) (l : List RawP) : Prop := w.ownsRow base e 3 v l.length (rowC l)
def BodR (w : World) (l : List RawP) : Prop := ∀ x ∈ l, Byt w x.p x.n x.m x.b
theorem OwnRw.nil (w : World) (base : Nat) (e : TypeId) : OwnRw w base e (.slice none 0 0) [] := World.ownsRow_nil w base e 3
theorem OwnRw.alloc {w : World} {base : Nat} {e : TypeId} {v : Value} {l : List RawP} (h : OwnRw w base e v l) (o : Obj) : OwnRw (w.alloc o) base e v l := World.ownsRow.alloc h o
theorem OwnRw.lt {w : World} {base : Nat} {e : TypeId} {v : Value} {l : List RawP} (h : OwnRw w base e v l) : ∀ k, v.ownBlock = some k → base ≤ k ∧ k < w.heap.size := World.ownsRow.lt h
theorem OwnRw.form {w : World} {base : Nat} {e : TypeId} {v : Value} {l : List RawP} (h : OwnRw w base e v l) : ∃ p c, v = .slice p l.length c ∧ l.length ≤ c := by
  rcases h.2 with ⟨rfl, hn⟩ | ⟨g, cap, cur, rfl, _, _, hc, _⟩
  · exact ⟨none, 0, by rw [hn], by omega⟩
  · exact ⟨_, _, rfl, hc⟩
theorem OwnRw.at_ {w : World} {base : Nat} {e : TypeId} {v : Value} {l : List RawP} (h : OwnRw w base e v l) {n : Nat} (hn : l.length = n) (hp : 0 < n) :
    ∃ g c, v = .slice (some ⟨g, 0, none⟩) n c ∧ n ≤ c ∧ c ≤ maxLen ∧ base ≤ g ∧ g < w.heap.size ∧ (∀ j u, (rowC l)[j]? = some u → w.cell? ⟨g, j, none⟩ = some u) ∧ (∀ j, w.frozen? ⟨g, j, none⟩ = false) := by
  subst hn
  have h0 := h
  rcases h.2 with ⟨rfl, hz⟩ | ⟨g, cap, cur, rfl, hb, hh, hnc, hm, hs, ht⟩
  · omega
  · refine ⟨g, cap, rfl, hnc, hm, hb, (Array.getElem?_eq_some_iff.1 hh).1, fun j u hj => ?_, fun j => World.ownsRow.frozenAt h0 j⟩
    have := World.ownsRow.cells h0 (g := g) rfl j u hj
    rw [WideShapes.add_plain, Nat.zero_add] at this
    exact this
theorem BodR.keep {w w' : World} {l : List RawP} (h : BodR w l) (hk : ∀ a v, w.cell? a = some v → w'.cell? a = some v) : BodR w' l := fun x hx => (h x hx).keep hk
theorem BodR.below {w w' : World} {l : List RawP} (h : BodR w l) (hb : Below w.heap.size w w') : BodR w' l := h.keep (cell_below hb)
theorem BodR.append {w : World} {l r : List RawP} (h : BodR w l) (k : BodR w r) : BodR w (l ++ r) := fun x hx => (List.mem_append.1 hx).elim (h x) (k x)
theorem BodR.one {w : World} {x : RawP} (h : Byt w x.p x.n x.m x.b) : BodR w [x] := fun y hy => by
  rw [List.mem_singleton.1 hy]
  exact h
def RawP.withK (x : RawP) (k : Int) : RawP := { x with k := k }
def RawP.withB (x : RawP) (p : Option Addr) (n m : Nat) (b : List Int) : RawP := { x with p := p, n := n, m := m, b := b }
theorem rowC_setB (l : List RawP) (j : Nat) (p : Option Addr) (n m : Nat) (b : List Int) (hj : j < l.length) : rowC (l.set j (l[j].withB p n m b)) = (rowC l).set (j * 3 + 2) (.slice p n m) := by
  induction l generalizing j with
  | nil => simp at hj
  | cons x l ih =>
    cases j with
    | zero => simp [rowC, RawP.cells, RawP.withB]
    | succ j =>
      have h := ih j (by simpa using hj)
      rw [show (j + 1) * 3 + 2 = j * 3 + 2 + 3 by omega]
      simpa [rowC, RawP.cells] using h
theorem OwnRw.setB {w : World} {base : Nat} {e : TypeId} {g n c : Nat} {l : List RawP} (h : OwnRw w base e (.slice (some ⟨g, 0, none⟩) n c) l) (hn : l.length = n) (j : Nat) (hj : j < l.length) (p : Option Addr) (a m : Nat) (b : List Int) :
    OwnRw (w.setCell ⟨g, j * 3 + 2, none⟩ (.slice p a m)) base e (.slice (some ⟨g, 0, none⟩) n c) (l.set j (l[j].withB p a m b)) := by
  subst hn
  have := (World.ownsRow.stored h (j * 3 + 2) (.slice p a m)).1
  unfold OwnRw
  rw [List.length_set, rowC_setB _ _ _ _ _ _ hj]
  exact this
theorem OwnRw.elem {w : World} {base : Nat} {e : TypeId} {v : Value} {l : List RawP} (h : OwnRw w base e v l) (j : Nat) (hj : j < l.length) :
    ∃ g c, v = .slice (some ⟨g, 0, none⟩) l.length c ∧ w.cell? ⟨g, j * 3, none⟩ = some (.int .i64 l[j].k) ∧ w.cell? ⟨g, j * 3 + 1, none⟩ = some (.bool l[j].c) ∧ w.cell? ⟨g, j * 3 + 2, none⟩ = some (.slice l[j].p l[j].n l[j].m) := by
  obtain ⟨g, c, hv, _, _, _, _, hc, _⟩ := h.at_ rfl (by omega)
  obtain ⟨h0, h1, h2⟩ := rowC_get l j hj
  exact ⟨g, c, hv, hc _ _ h0, hc _ _ h1, hc _ _ h2⟩
section
variable {P : Program} (w : World)
end
end Go.Proofs.YtnbkffehhahckaaGreat

namespace Go.Proofs.YtnbkffehhahckaaGreat
open Go.RowKit
set_option linter.unusedVariables false
end Go.Proofs.YtnbkffehhahckaaGreat

namespace Go.Proofs.YtnbkffehhahckaaGreat
open Go.RowKit
set_option linter.unusedVariables false
def BytesOkR (w : World) (r : List Int × Bool) (e : Ending) (w' : World) : Prop := ∃ p n c, e = .returned (.tuple #[.slice p n c, .bool r.2]) ∧ Byt w' p n c r.1 ∧ Below w.heap.size w w'
def BodOkR (w : World) (r : List Int × Bool) (e : Ending) (w' : World) : Prop := ∃ p n c, e = .returned (.tuple #[.slice p n c, .bool r.2]) ∧ Bod w' w.heap.size p n c r.1 ∧ Below w.heap.size w w'
end Go.Proofs.YtnbkffehhahckaaGreat

namespace Go.Proofs.YtnbkffehhahckaaGreat
open Go.RowKit Go.Shelf
set_option linter.unusedVariables false
def SeqSt {α : Type} (F : Fence) (n : Nat) (P : Program) (gf : Nat) (bnd : Array Value) (encs : α → Array Value) (R B N : Nat) (S : α → World → Prop) (T : List α → World → Prop) (w : World) : Prop :=
  ∀ (l : Nat) (J : List α → World → Prop) (W : World), Below w.heap.size w W → (∀ pre U U', J pre U → U.grownBy U' (some R) → J pre U') →
    (∀ pre x U, J pre U → S x U → pre.length < N → YieldAt F (n - 1) P l (encs x) U fun e U' => e = .returned (.bool true) ∧ J (pre ++ [x]) U' ∧ Below B U U') → J [] W →
    CallsIn F n P gf (bnd ++ #[.func (.yield l) #[] #[]]) W fun e W' => (∃ v, e = .returned v) ∧ ∃ xs, T xs W' ∧ J xs W'
def AbidesR {α : Type} (R Bd : Nat) (I : α → World → Prop) : Prop :=
  ∀ s U U' row, I s U → U.grownBy U' row → (∀ r, row = some r → r = R ∨ Bd ≤ r ∧ ∃ o : Obj, U.heap[r]? = some o ∧ o.isCells = false) → I s U'
def AbidesN {α : Type} (Bd : Nat) (I : α → World → Prop) : Prop :=
  ∀ s U U' row, I s U → U.grownBy U' row → (∀ r, row = some r → Bd ≤ r ∧ ∃ o : Obj, U.heap[r]? = some o ∧ o.isCells = false) → I s U'
theorem AbidesR.n {α : Type} {R Bd : Nat} {I : α → World → Prop} (h : AbidesR R Bd I) : AbidesN Bd I := fun s U U' row hs hg hr => h s U U' row hs hg (fun r e => Or.inr (hr r e))
theorem AbidesN.alloc {α : Type} {Bd : Nat} {I : α → World → Prop} (h : AbidesN Bd I) {s : α} {U : World} (o : Obj) (hs : I s U) : I s (U.alloc o) := h s U _ none hs (World.grownBy_alloc U o none) (fun r e => by cases e)
theorem AbidesN.put {α : Type} {Bd : Nat} {I : α → World → Prop} (h : AbidesN Bd I) {s : α} {U : World} {l : Nat} {o : Obj} (o' : Obj) (hs : I s U) (hB : Bd ≤ l) (hl : U.heap[l]? = some o) (ho : o.isCells = false) : I s (U.putObj l o') :=
  h s U _ (some l) hs (grownBy_putObj' U l o') (fun r e => by cases e; exact ⟨hB, o, hl, ho⟩)
def roundSt {α : Type} (I : List α → World → Prop) (B : Nat) (xs : List α) (W : World) : Exit → Act → World → Prop
  | .normal, _, W' => KeepsOthers W W' ∧ Below B W W' ∧ I xs W'
  | _, _, _ => False
variable {F : Fence} {n : Nat} {P : Program}
theorem below_put {B : Nat} (W : World) (l : Nat) (o : Obj) (h : B ≤ l) (hB : B ≤ W.heap.size) : Below B W (W.putObj l o) :=
  (Below.refl B W).grown (grownBy_putObj' W l o) hB (fun k e => by cases e; exact h)
set_option maxHeartbeats 800000 in
theorem wpIn_rangeFunc_state {α : Type} {g : Operand} {ps : Array Tmp} {assign body : Code} {Q : Exit → Act → World → Prop} {a : Act} {w : World}
    (hro : F.round = none) (h1 : 1 ≤ n) {gf : Nat} {bnd : Array Value} (hg : a.eval g = .func (.func gf) bnd #[]) (hF : F.fn gf) (eg : ∀ args w, (callFunc gf args).run P w = .ok (.enter gf args) w)
    {encs : α → Array Value} (hps : ∀ x, (encs x).size = ps.size) {R B N : Nat} {S : α → World → Prop} {T : List α → World → Prop} (hseq : SeqSt F (n - 1) P gf bnd encs R B N S T w)
    (hR : R < w.heap.size) (hB : B ≤ w.heap.size) (hS : AbidesN w.heap.size S) (hT : AbidesN w.heap.size T) (I : List α → World → Prop) (hI : AbidesR R w.heap.size I) (h0 : I [] w) (aa : α → World → Act) (obj : α → Obj)
    (hassign : ∀ (l : Nat) (x : α) (U : World) (K : Act → World → Prop), K (aa x U) (U.alloc (obj x)) →
      assign.wpIn (F.inRound l) (n - 1 - 1) P (Exit.then K (fun _ _ _ => False)) { tmps := (ps.zip (encs x)).foldl (fun t (p, v) => t.setIfInBounds p v) a.tmps, defers := [] } U)
    (hbody : ∀ (l : Nat) (pre : List α) (x : α) (U U2 : World), I pre U2 → S x U2 → pre.length < N → U2.heap[U.heap.size]? = some (obj x) → w.heap.size ≤ U.heap.size → body.wpIn (F.inRound l) (n - 1 - 1) P (roundSt I B (pre ++ [x]) U2) (aa x U) U2)
    (hdone : ∀ (D : Nat) (xs : List α) (W : World), w.heap.size ≤ D → T xs W → I xs W → W.heap[D]? = some (.deferred (some [])) → Q .normal { a with defers := { target := .collected D, args := #[] } :: a.defers } W) :
    (Code.rangeFunc g ps assign body).wpIn F n P Q a w := by
  refine wpIn_rangeFunc ?_
  intro fn hfn
  rw [hro]
  obtain ⟨rec, hrec⟩ : ∃ rec : LoopState → Loop, rec = fun st => { state := st, pending := none, fn, tmps := a.tmps, params := ps, assign, body, defers := w.heap.size } := ⟨_, rfl⟩
  obtain ⟨W1, hW1⟩ : ∃ W1, (w.alloc (.deferred (some []))).alloc (.loop (rec .ready)) = W1 := ⟨_, rfl⟩
  have e1 : (w.alloc (.deferred (some []))).heap.size = w.heap.size + 1 := World.size_alloc _ _
  have hL1 : W1.heap[w.heap.size + 1]? = some (.loop (rec .ready)) := by
    rw [← hW1, ← e1]
    exact World.alloc_heap_new _ _
  have hK1 : W1.heap[w.heap.size]? = some (.deferred (some [])) := by
    rw [← hW1]
    exact (Below.heap_alloc _ _ _ (by simp)).trans (World.alloc_heap_new w _)
  have hI1 : I [] W1 := by
    rw [← hW1]
    exact hI.n.alloc _ (hI.n.alloc _ h0)
  have hb1 : Below w.heap.size w W1 := by
    rw [← hW1]
    exact ((Below.refl _ w).alloc (Nat.le_refl _) _).alloc (by simp) _
  refine ⟨w.heap.size + 1, [{ target := .collected w.heap.size, args := #[] }], W1, { target := .fn (.func gf) #[], args := bnd ++ #[.func (.yield (w.heap.size + 1)) #[] #[]] }, W1, gf,
    bnd ++ #[.func (.yield (w.heap.size + 1)) #[] #[]], W1, ?_, ?_, ?_, ?_, fun _ => h1, ?_⟩
  · rw [← hW1, hrec]
    exact run_enterLoop_outer _ _ _ _ _
  · simp only [resolve, hg]
    simp [go_sem]
  · intro f' hf'
    simp [Target.leads] at hf'
    subst hf'
    exact hF
  · simp [invoke, go_sem, eg]
  · refine (hseq (w.heap.size + 1) (fun pre U => I pre U ∧ U.heap[w.heap.size + 1]? = some (.loop (rec .ready)) ∧ U.heap[w.heap.size]? = some (.deferred (some []))) W1 hb1 ?_ ?_ ⟨hI1, hL1, hK1⟩).mono ?_
    · rintro pre U U' ⟨hi, hl, hk⟩ hgr
      have hlt := (Array.getElem?_eq_some_iff.1 hl).1
      exact ⟨hI pre U U' _ hi hgr (fun r e => by cases e; exact Or.inl rfl), (hgr.block _ hlt (by simp; omega)).trans hl, (hgr.block _ (by omega) (by simp; omega)).trans hk⟩
    · rintro pre x U ⟨hi, hl, hk⟩ hs hN
      have hlt := (Array.getElem?_eq_some_iff.1 hl).1
      have hy := run_yield (P := P) (args := encs x) hl (by rw [hrec]; exact hps x)
      rw [hrec] at hy
      have hl' : (U.alloc (obj x)).heap[w.heap.size + 1]? = some (.loop (rec .ready)) := (Below.heap_alloc _ _ _ hlt).trans hl
      have hk' : (U.alloc (obj x)).heap[w.heap.size]? = some (.deferred (some [])) := (Below.heap_alloc _ _ _ (by omega)).trans hk
      refine ⟨fn, _, assign, body, hy, roundIn_of_wpIn hfn (hassign _ x U _ ⟨_, run_beginRound hl' (by rw [hrec]), ?_⟩)⟩
      obtain ⟨U2, hU2⟩ : ∃ U2, (U.alloc (obj x)).putObj (w.heap.size + 1) (.loop { rec .ready with state := .busy }) = U2 := ⟨_, rfl⟩
      have hsz : (U.alloc (obj x)).heap.size = U.heap.size + 1 := World.size_alloc _ _
      have hl2 : U2.heap[w.heap.size + 1]? = some (.loop (rec .busy)) := by
        rw [← hU2, World.putObj_heap_same (by omega), hrec]
      have hk2 : U2.heap[w.heap.size]? = some (.deferred (some [])) := by
        rw [← hU2]
        exact (World.putObj_heap_other (by omega)).trans hk'
      have ho2 : U2.heap[U.heap.size]? = some (obj x) := by
        rw [← hU2]
        exact (World.putObj_heap_other (by omega)).trans (World.alloc_heap_new U (obj x))
      have hi2 : I pre U2 := by
        rw [← hU2]
        exact hI.n.put _ (hI.n.alloc _ hi) (by omega) hl' rfl
      have hs2 : S x U2 := by
        rw [← hU2]
        exact hS.put _ (hS.alloc _ hs) (by omega) hl' rfl
      have hb2 : Below B U U2 := by
        rw [← hU2]
        exact ((Below.refl B U).alloc (by omega) _).trans (below_put _ _ _ (by omega) (by omega))
      rw [hU2]
      refine wpIn_mono (hbody _ pre x U U2 hi2 hs2 hN ho2 (by omega)) ?_
      rintro e a3 W3 hp
      cases e with
      | normal =>
        obtain ⟨hk3, hb3, hi3⟩ := hp
        have hl3 := hk3.same _ _ hl2 rfl
        have hr := run_endRound (P := P) none hl3
        have hlt3 := (Array.getElem?_eq_some_iff.1 hl3).1
        refine ⟨_, _, hr, rfl, ⟨hI.n.put _ hi3 (by omega) hl3 rfl, ?_, ?_⟩, hb2.trans (hb3.trans (below_put _ _ _ (by omega) (by omega)))⟩
        · rw [World.putObj_heap_same hlt3, hrec]
          rfl
        · exact (World.putObj_heap_other (by omega)).trans (hk3.same _ _ hk2 rfl)
      | ret => exact hp.elim
      | exit id => exact hp.elim
      | goto t => exact hp.elim
      | panic ch => exact hp.elim
      | outgrown => exact hp.elim
    · rintro e W2 ⟨⟨v, rfl⟩, xs, ht, hi, hl, hk⟩
      have := run_endLoop (P := P) hl (by rw [hrec]; simp)
      rw [hrec] at this hl
      exact ⟨none, _, this, hdone _ xs _ (Nat.le_refl _) (hT.put _ ht (by omega) hl rfl) (hI.n.put _ hi (by omega) hl rfl) ((World.putObj_heap_other (by omega)).trans hk)⟩
end Go.Proofs.YtnbkffehhahckaaGreat
