/-
  Package payload's readers of nonces and of identities, and the first errors that they tell.
  The first error of the SPIs of a deletion, as package payload tells it.
  What package selector reads of the beginning of some bytes.
  Package payload's Parse, given what the reader of the type returns.
  Whether a list of SPIs has one twice: the document's way, and the program's words.
-/
import Derived.Test.YtbpmanbpmlkmnaaGreatDoorMZ8
import Derived.Test.YtbpmanbpmlkmnaaGreatDoorMZ5
import Derived.Test.YtbpmanbpmlkmnaaGreatDoorMZ1
import Derived.Test.YtbpmanbpmlkmnaaGreatDoorMZ2
import Derived.Deep.Cut
import Derived.Deep.CutRange
import Derived.Deep.RegionHeld3
namespace Go.Proofs.YtbpmanbpmlkmnaaGreatDoor
open Go.RowKit
set_option linter.unusedVariables false

/-- What a reader of bodies returns: a payload and an error. -/
def ReadPv (w : World) (E : Int) (good : World → Pv → Prop) (e : Ending) (w' : World) : Prop := ∃ x : Pv, e = .returned (.tuple #[(.agg #[.int .i64 x.t, .slice x.pr.p x.pr.n x.pr.c, .int .i64 x.eg, .slice x.ed.p x.ed.n x.ed.c, .int .i64 x.ik, .slice x.id.p x.id.n x.id.c, .int .i64 x.am, .slice x.ad.p x.ad.n x.ad.c, .int .i64 x.np, .slice x.ns.p x.ns.n x.ns.c, .int .i64 x.nt, .slice x.nd.p x.nd.n x.nd.c, .int .i64 x.dp, .slice x.ds.p x.ds.n x.ds.c, .slice x.se.p x.se.n x.se.c, .slice x.da.p x.da.n x.da.c]), .int .i64 E]) ∧ Below w.heap.size w w' ∧ (E = 0 → good w' x)
/-- Bytes in a slice of a payload, fresh from base on. -/
def FrV (w : World) (base : Nat) (s : Sv) (xs : List Int) : Prop := Frs w base s.p s.n s.c xs

def nonceE (n : Nat) : Int := if n < 16 ∨ 256 < n then 13 else 0
theorem checkNonce_any (p : Option Addr) (n c : Nat) (w : World) (hn : n ≤ 9223372036854775807) :
    Calls Tryz.prog 63 #[.slice p n c] w fun e w' => e = .returned (.int .i64 (nonceE n)) ∧ w = w' := by
  unfold nonceE
  by_cases h1 : n < 16
  · rw [if_pos (Or.inl h1)]
    go_enter Tryz.func63, Tryz.ntmps63
    go_wp2
    go_ret
    exact ⟨rfl, rfl⟩
  by_cases h2 : 256 < n
  · rw [if_pos (Or.inr h2)]
    go_enter Tryz.func63, Tryz.ntmps63
    go_wp2
    go_ret
    exact ⟨rfl, rfl⟩
  · rw [if_neg (by omega)]
    go_enter Tryz.func63, Tryz.ntmps63
    go_wp2
    go_ret
    exact ⟨rfl, rfl⟩

set_option maxHeartbeats 800000 in
set_option maxRecDepth 100000 in
theorem nonce_read (p : Option Addr) (n c : Nat) (xs : List Int) (w : World) (h : Byt w p n c xs) (hb : n ≤ 140737488355328) :
    Calls Tryz.prog 45 #[.slice p n c] w (ReadPv w (nonceE n) fun w' x => FrV w' w.heap.size x.da xs) := by
  have hn := h.le
  have H1 := hidden (h.alloc (.cells #[.int .i64 0, .slice none 0 0, .int .i64 0, .slice none 0 0, .int .i64 0, .slice none 0 0, .int .i64 0, .slice none 0 0, .int .i64 0, .slice none 0 0, .int .i64 0, .slice none 0 0, .int .i64 0, .slice none 0 0, .slice none 0 0, .slice none 0 0] 45))
  have HB := hidden ((Below.refl w.heap.size w).alloc (Nat.le_refl _) (.cells #[.int .i64 0, .slice none 0 0, .int .i64 0, .slice none 0 0, .int .i64 0, .slice none 0 0, .int .i64 0, .slice none 0 0, .int .i64 0, .slice none 0 0, .int .i64 0, .slice none 0 0, .int .i64 0, .slice none 0 0, .slice none 0 0, .slice none 0 0] 45))
  have HZ : Hid (PvIn (w.alloc (.cells #[.int .i64 0, .slice none 0 0, .int .i64 0, .slice none 0 0, .int .i64 0, .slice none 0 0, .int .i64 0, .slice none 0 0, .int .i64 0, .slice none 0 0, .int .i64 0, .slice none 0 0, .int .i64 0, .slice none 0 0, .slice none 0 0, .slice none 0 0] 45)) w.heap.size zeroP) := hidden (PvIn.new w zeroP 45)
  have HL := hidden h.len
  have HR := hidden h.rng
  clear h
  go_enter Tryz.func45, Tryz.ntmps45
  go_wp2_with (first
    | (go_at_call 73; (with_reducible refine (cloneB_any _ _ _ _ _ H1.out hb).mono ?_); rintro e w2 ⟨v2, rfl, ho, hbc⟩; obtain ⟨q2, d2, rfl, hf0⟩ := ho.frs HL.out HR.out; have HF0 := hidden hf0; have HB2 := hidden (HB.out.trans (hbc.mono HB.out.size)); have HZ2 := hidden (HZ.out.below hbc); obtain ⟨z0, z1, z2, z3, z4, z5, z6, z7, z8, z9, z10, z11, z12, z13, z14, z15, zf⟩ := HZ2.out; clear ho hbc hf0)
    | (go_at_call 63; (with_reducible refine (checkNonce_any _ _ _ _ (by omega)).mono ?_); rintro e w3 ⟨rfl, rfl⟩)
    | fail)
  have hlo := setPv_grown w2 w.heap.size ⟨0, nilV, 0, nilV, 0, nilV, 0, nilV, 0, nilV, 0, nilV, 0, nilV, nilV, ⟨q2, n, d2⟩⟩
  have hz := setPv_in HZ2.out ⟨0, nilV, 0, nilV, 0, nilV, 0, nilV, 0, nilV, 0, nilV, 0, nilV, nilV, ⟨q2, n, d2⟩⟩
  have hfl := (HF0.out.low hlo (by simp)).mono (show w.heap.size ≤ _ from HB.out.size)
  have HBS := hidden (HB2.out.grown hlo HB2.out.size (fun j hj => by cases hj; exact Nat.le_refl _))
  simp only [setPv, nilV] at hz hfl HBS
  have HZZ := hidden hz
  have HFF := hidden hfl
  clear hz hfl hlo
  refine ret_pv (g := w.heap.size) rfl rfl rfl rfl HZZ.out ?_
  exact ⟨_, rfl, HBS.out, fun _ => HFF.out⟩

def idE (k : Int) (n : Nat) : Int := if k = 1 then (if n = 4 then 0 else 2) else if k = 5 then (if n = 16 then 0 else 2) else if k = 2 ∨ k = 3 ∨ k = 11 then (if n = 0 then 2 else 0) else 5
theorem idE_cases (k : Int) (n : Nat) (E : Int) (h : idE k n = E) :
    (k = 1 ∧ ((n = 4 ∧ E = 0) ∨ (¬ n = 4 ∧ E = 2))) ∨ ((k == 1) = false ∧ k = 5 ∧ ((n = 16 ∧ E = 0) ∨ (¬ n = 16 ∧ E = 2))) ∨
    ((k == 1) = false ∧ (k == 5) = false ∧ (k = 2 ∨ k = 3 ∨ k = 11) ∧ ((n = 0 ∧ E = 2) ∨ (¬ n = 0 ∧ E = 0))) ∨
    ((k == 1) = false ∧ (k == 5) = false ∧ (k == 2) = false ∧ (k == 3) = false ∧ (k == 11) = false ∧ E = 5) := by
  unfold idE at h
  subst h
  by_cases h1 : k = 1
  · subst h1
    by_cases h : n = 4 <;> simp [h]
  by_cases h2 : k = 5
  · subst h2
    by_cases h : n = 16 <;> simp [h]
  by_cases h3 : k = 2 ∨ k = 3 ∨ k = 11
  · by_cases h : n = 0 <;> simp [h1, h2, h3, h]
  · simp [h1, h2]
    simp only [not_or] at h3
    simp [h3]
set_option maxHeartbeats 800000 in
theorem checkIdentity_any (k : Int) (p : Option Addr) (n c : Nat) (w : World) (hn : n ≤ 9223372036854775807) (E : Int) (hE : idE k n = E) :
    Calls Tryz.prog 60 #[.agg #[.int .i64 k, .slice p n c]] w fun e w' => e = .returned (.int .i64 E) ∧ Below w.heap.size w w' := by
  have HB := hidden ((Below.refl w.heap.size w).alloc (Nat.le_refl _) (.cells #[.int .i64 k, .slice p n c] 35))
  rcases idE_cases k n E hE with ⟨rfl, ⟨h, rfl⟩ | ⟨h, rfl⟩⟩ | ⟨k1, rfl, ⟨h, rfl⟩ | ⟨h, rfl⟩⟩ | ⟨k1, k2, k3, ⟨h, rfl⟩ | ⟨h, rfl⟩⟩ | ⟨k1, k2, k3, k4, k5, rfl⟩
  all_goals clear hE
  all_goals (try rcases k3 with rfl | rfl | rfl)
  all_goals (try subst h)
  all_goals (try have hge : (1 : Int) ≤ n := (by omega))
  all_goals (try have hz : ((n : Int) == 4) = false := (by simp; omega))
  all_goals (try have hz2 : ((n : Int) == 16) = false := (by simp; omega))
  all_goals (try clear h)
  all_goals
    go_enter Tryz.func60, Tryz.ntmps60
    go_wp2
    go_ret
    exact ⟨rfl, HB.out⟩
end Go.Proofs.YtbpmanbpmlkmnaaGreatDoor

namespace Go.Proofs.YtbpmanbpmlkmnaaGreatDoor
open Go.RowKit
set_option linter.unusedVariables false

/-- What the program reads of all bytes of a row. -/
def wordOf (xs : List Int) : Int := (numR xs 0 xs.length).1
theorem wordOf_rng (xs : List Int) (h : ∀ x ∈ xs, 0 ≤ x ∧ x ≤ 255) : WdR (wordOf xs) := by
  unfold wordOf numR WdR
  split
  · rename_i hc
    obtain ⟨_, h8, _⟩ := hc
    have hb := val_bd xs h
    have e : ((xs.drop (0 : Int).toNat).take ((xs.length : Nat) : Int).toNat) = xs := by
      show (xs.drop 0).take xs.length = xs
      rw [List.drop_zero, List.take_length]
    have hl : xs.length ≤ 8 := by omega
    have hp : (256 : Int) ^ xs.length ≤ 256 ^ 8 := by
      have := Nat.pow_le_pow_right (n := 256) (by decide) hl
      have h2 : ((256 ^ xs.length : Nat) : Int) ≤ ((256 ^ 8 : Nat) : Int) := Int.ofNat_le.2 this
      rw [Int.natCast_pow, Int.natCast_pow] at h2
      exact h2
    have hq : (256 : Int) ^ 8 = 18446744073709551616 := by decide
    rw [hq] at hp
    show 0 ≤ val ((xs.drop (0 : Int).toNat).take ((xs.length : Nat) : Int).toNat) ∧ val ((xs.drop (0 : Int).toNat).take ((xs.length : Nat) : Int).toNat) ≤ 18446744073709551615
    rw [e]
    omega
  · exact ⟨by decide, by decide⟩
/-- Whether one of these rows reads as one of the words or as one before it. -/
def spisT : List Int → List Sb → Bool
  | _, [] => false
  | ts, y :: l => decide (wordOf y.xs ∈ ts) || spisT (ts ++ [wordOf y.xs]) l
/-- The first error of the SPIs of a deletion of protocol k. -/
def spisE (k : Int) (l : List Sb) : Int := if l.length = 0 ∧ k ≠ 1 then 8 else if spisT [] l then 9 else 0
/-- The same, said of the bytes alone. -/
def twiceW : List Int → List (List Int) → Bool
  | _, [] => false
  | ts, y :: l => decide (wordOf y ∈ ts) || twiceW (ts ++ [wordOf y]) l
def spisX (k : Int) (l : List (List Int)) : Int := if l.length = 0 ∧ k ≠ 1 then 8 else if twiceW [] l then 9 else 0
theorem spisT_xs : ∀ (l : List Sb) (ts : List Int), spisT ts l = twiceW ts (l.map Sb.xs)
  | [], _ => rfl
  | y :: l, ts => by simp [spisT, twiceW, spisT_xs l]
theorem spisE_xs (k : Int) (l : List Sb) : spisE k l = spisX k (l.map Sb.xs) := by simp [spisE, spisX, spisT_xs]
theorem FndU.alloc {w : World} {b : Nat} {ts : List Int} (h : FndU w b ts) (o : Obj) : FndU (w.alloc o) b ts := h.below ((Below.refl _ _).alloc (Nat.le_refl _) o)

set_option maxHeartbeats 6400000 in
set_option maxRecDepth 100000 in
theorem checkSpis_any (k : Int) (p : Option Addr) (n c : Nat) (l : List Sb) (w : World) (h : RdG KSb DSb w p n c l) :
    Calls Tryz.prog 77 #[.agg #[.int .i64 k, .slice p n c]] w fun e w' => e = .returned (.int .i64 (spisE k l)) ∧ Below w.heap.size w w' := by
  have hmm := @run_makeMap Tryz.prog
  have hl := h.len
  have hbig : n ≤ maxLen := Nat.le_trans h.cap h.big
  have hn63 := h.le
  have HBX := hidden ((Below.refl w.heap.size w).alloc (Nat.le_refl _) (.cells #[.int .i64 k, .slice p n c] 42))
  obtain ⟨R, hR⟩ : ∃ R, spisE k l = R := ⟨_, rfl⟩
  rw [hR]
  by_cases h0 : n = 0
  · subst h0
    have e0 : (((0 : Nat) : Int) == 0) = true := rfl
    by_cases h1 : k = 1
    · subst h1
      have HR : Is (0 : Int) R := ⟨by
        rw [← hR]
        have : l = [] := List.eq_nil_of_length_eq_zero hl
        subst this
        rfl⟩
      clear hR h hl
      go_enter Tryz.func77, Tryz.ntmps77
      go_wp2_with fail
      go_loopw [21] (fun v wr => v = .int .i64 0 ∧ Below (w.heap.size + 1) (w.alloc (.cells #[.int .i64 1, .slice p 0 c] 42)) wr) (fun v _ => 0)
      case atStart => exact ⟨rfl, (Below.refl _ _).alloc (by simp) _⟩
      case round =>
        obtain ⟨rfl, hb⟩ := hrel
        have hb' : Below (w.alloc (.cells #[.int .i64 1, .slice p 0 c] 42)).heap.size (w.alloc (.cells #[.int .i64 1, .slice p 0 c] 42)) wr := by simpa using hb
        have HB := hidden (HBX.out.trans (hb'.mono HBX.out.size))
        clear hb hb'
        go_wp2
        go_ret
        exact ⟨by rw [← HR.eq]; rfl, HB.out⟩
    · have e1 : (k != 1) = true := by simpa using h1
      have HR : Is (8 : Int) R := ⟨by rw [← hR]; unfold spisE; rw [if_pos ⟨hl, h1⟩]⟩
      clear hR h h1 hl
      go_enter Tryz.func77, Tryz.ntmps77
      go_wp2_with fail
      go_ret
      exact ⟨by rw [← HR.eq]; rfl, HBX.out⟩
  have e0 : ((n : Int) == 0) = false := by simpa using h0
  obtain ⟨R0, hR0⟩ : ∃ R0, spisT [] l = R0 := ⟨_, rfl⟩
  have HR : Is (if R0 = true then (9 : Int) else 0) R := ⟨by rw [← hR, ← hR0]; exact (if_neg (fun e => by have := e.1; omega)).symm⟩
  have HR0 := Is.mk hR0
  clear hR hR0 h0
  have H := hidden h
  have HL := Is.mk hl
  clear h hl
  have HFM := hidden (FndU.made (w.alloc (.cells #[.int .i64 k, .slice p n c] 42)))
  go_enter Tryz.func77, Tryz.ntmps77
  go_wp2_with fail
  go_loopw [21] (fun v wr => ∃ (j : Nat), j ≤ n ∧ v = .int .i64 j ∧ FndU wr (w.heap.size + 1) ((l.take j).map (fun y => wordOf y.xs)) ∧ Is (spisT ((l.take j).map (fun y => wordOf y.xs)) (l.drop j)) R0 ∧ Below (w.heap.size + 1) (w.alloc (.cells #[.int .i64 k, .slice p n c] 42)) wr) (fun v _ => n - (intOf v).toNat)
  case atStart => exact ⟨0, by omega, rfl, by simpa using HFM.out, ⟨by simpa using HR0.eq⟩, (Below.refl _ _).alloc (by simp) _⟩
  case round =>
    obtain ⟨j, hj, rfl, hfn, hrel, hb⟩ := hrel
    have HFN := hidden hfn
    have hb' : Below (w.alloc (.cells #[.int .i64 k, .slice p n c] 42)).heap.size (w.alloc (.cells #[.int .i64 k, .slice p n c] 42)) wr := by simpa using hb
    have HB := hidden (HBX.out.trans (hb'.mono HBX.out.size))
    have HB1 := hidden hb
    have hsz : w.heap.size + 1 ≤ wr.heap.size := by have := hb'.size; simpa using this
    clear hb hb' hfn
    by_cases hlt : j < n
    · have hlt' : (j : Int) < n := by omega
      obtain ⟨g, y, rfl, hgx, hdr, hok, hc⟩ := (H.out.below HB.out).sb_cons hlt
      have hf := hrel.eq
      rw [hdr] at hf
      unfold spisT at hf
      have htk : (l.take (j + 1)).map (fun y => wordOf y.xs) = (l.take j).map (fun y => wordOf y.xs) ++ [wordOf y.xs] := by
        rw [List.take_add_one, hgx]
        simp
      have HTK := Is.mk htk
      have hlen : ((l.take j).map (fun y => wordOf y.xs)).length < maxLen := by simp; omega
      have HIY := hidden (wordOf_rng y.xs hok.rng)
      have hlk := HFN.out.look (wordOf y.xs) (wordOf_rng y.xs hok.rng)
      have hyn := hok.le
      have HN := hidden (number_any y.p y.n y.c y.xs wr hok 0 y.n (by omega) (by omega))
      have hw : (numR y.xs 0 y.n).1 = wordOf y.xs := by unfold wordOf; rw [hok.len]
      rw [hw] at HN
      clear hok hrel hdr hgx hw htk
      generalize (l.take j).map (fun y => wordOf y.xs) = ts at hf HFN hlk hlen HTK
      generalize decide (wordOf y.xs ∈ ts) = z at hf hlk
      generalize wordOf y.xs = t at hf HFN hlk HTK HIY HN
      generalize (numR y.xs 0 y.n).2 = q at HN
      cases z with
      | true =>
        have HT : Is R0 true := ⟨by simpa using hf.symm⟩
        clear hf
        go_wp2_with (first
          | (go_at_call 95; (with_reducible refine (HN.out).mono ?_); rintro _ w1 ⟨rfl, rfl⟩)
          | fail)
        go_ret
        exact ⟨by rw [← HR.eq, HT.eq]; rfl, HB.out⟩
      | false =>
        have HT : Is (spisT (ts ++ [t]) (l.drop (j + 1))) R0 := ⟨by simpa using hf⟩
        clear hf
        go_wp2_with (first
          | (go_at_call 95; (with_reducible refine (HN.out).mono ?_); rintro _ w1 ⟨rfl, rfl⟩)
          | (at_mapUpdate; go_loud (refine wpList_fndU _ rfl _ _ _ rfl (w.heap.size + 1) ts HFN.out hlen rfl t rfl rfl HIY.out ?_); rintro w2 hf2 hg2; have HF2 := hidden hf2; have HB2 := hidden (HB1.out.grown hg2 hsz (fun k hk => by cases hk; exact Nat.le_refl _)); clear hf2 hg2)
          | fail)
        go_roundw
        case rel => exact ⟨j + 1, by omega, by go_num, by rw [HTK.eq]; exact HF2.out, by rw [HTK.eq]; exact HT, HB2.out⟩
        case measure => simp [intOf]; omega
    · have hlt' : ¬ (j : Int) < n := by omega
      have hd : l.drop j = [] := List.drop_eq_nil_of_le (by rw [HL.eq]; omega)
      have hf := hrel.eq
      rw [hd] at hf
      have HT : Is R0 false := ⟨hf.symm⟩
      clear hf hd hrel
      go_wp2
      go_ret
      exact ⟨by rw [← HR.eq, HT.eq]; rfl, HB.out⟩
end Go.Proofs.YtbpmanbpmlkmnaaGreatDoor

namespace Go.Proofs.YtbpmanbpmlkmnaaGreatDoor
open Go.RowKit
set_option linter.unusedVariables false

theorem numR_bd (xs : List Int) (hr : ∀ x ∈ xs, 0 ≤ x ∧ x ≤ 255) (a k : Int) : 0 ≤ (numR xs a k).1 ∧ (numR xs a k).1 ≤ 18446744073709551615 := by
  unfold numR
  split
  · rename_i h
    have hb := val_bd ((xs.drop a.toNat).take k.toNat) (rng_take (rng_drop hr _) _)
    have hl : ((xs.drop a.toNat).take k.toNat).length ≤ 8 := by simp; omega
    have h8 := pow256_le hl
    have e : (256 : Int) ^ 8 = 18446744073709551616 := by decide
    rw [e] at h8
    simp only
    omega
  · simp
theorem numR_two (xs : List Int) (hr : ∀ x ∈ xs, 0 ≤ x ∧ x ≤ 255) (a k : Int) (hk : k ≤ 2) : (numR xs a k).1 ≤ 65535 := by
  unfold numR
  split
  · rename_i h
    have hb := val_bd ((xs.drop a.toNat).take k.toNat) (rng_take (rng_drop hr _) _)
    have hl : ((xs.drop a.toNat).take k.toNat).length ≤ 2 := by simp; omega
    have h8 := pow256_le hl
    have e : (256 : Int) ^ 2 = 65536 := by decide
    rw [e] at h8
    simp only
    omega
  · simp
theorem numR_in (xs : List Int) (a k : Nat) (h1 : 1 ≤ k) (h8 : k ≤ 8) (h : a + k ≤ xs.length) : numR xs a k = (nAt xs a k, true) := by
  unfold numR nAt
  rw [if_pos (by omega)]
  rfl
theorem nAt_one (xs : List Int) (a : Nat) (h : a < xs.length) : nAt xs a 1 = xs.getD a 0 := by
  unfold nAt
  rw [List.drop_eq_getElem_cons h, List.take_succ_cons, List.take_zero, List.getD_eq_getElem?_getD, List.getElem?_eq_getElem h]
  show (0 : Int) * 256 + xs[a] = xs[a]
  omega
/-- The selector at the beginning, by the numbers that are read. -/
theorem oneS_num (xs : List Int) (K Z : Int) (hK : (numR xs 0 1).1 = K) (hZ : (numR xs 2 2).1 = Z) :
    oneS xs = if K = 7 ∧ Z = 16 ∧ 16 ≤ xs.length then some (⟨nAt xs 1 1, nAt xs 4 2, nAt xs 6 2, ⟨4, 0, nAt xs 8 4⟩, ⟨4, 0, nAt xs 12 4⟩⟩, 16)
      else if K = 8 ∧ Z = 40 ∧ 40 ≤ xs.length then some (⟨nAt xs 1 1, nAt xs 4 2, nAt xs 6 2, ⟨6, nAt xs 8 8, nAt xs 16 8⟩, ⟨6, nAt xs 24 8, nAt xs 32 8⟩⟩, 40)
      else none := by
  unfold oneS
  by_cases h : xs.length < 8
  · rw [if_pos h, if_neg (by omega), if_neg (by omega)]
  · rw [if_neg h]
    have h0 := numR_in xs 0 1 (by omega) (by omega) (by omega)
    have h2 := numR_in xs 2 2 (by omega) (by omega) (by omega)
    rw [show ((0 : Nat) : Int) = 0 from rfl, show ((1 : Nat) : Int) = 1 from rfl] at h0
    rw [show ((2 : Nat) : Int) = 2 from rfl] at h2
    rw [h0] at hK
    rw [h2] at hZ
    simp only at hK hZ
    rw [← nAt_one xs 0 (by omega), ← nAt_one xs 1 (by omega), hK, hZ]

theorem snum_any (p : Option Addr) (n c : Nat) (xs : List Int) (w : World) (h : Byt w p n c xs) (a k : Int) (ha : -9223372036854775808 ≤ a ∧ a ≤ 9223372036854775807) (hk : 0 ≤ k ∧ k ≤ 2) (v : Int) (hv : (numR xs a k).1 = v) :
    Calls Tryz.prog 123 #[.slice p n c, .int .i64 a, .int .i64 k] w fun e w' => e = .returned (.int .i64 v) ∧ w = w' := by
  have HN := hidden (number_any p n c xs w h a k ha (by omega))
  have b1 := numR_bd xs h.rng a k
  have b2 := numR_two xs h.rng a k hk.2
  rw [hv] at b1 b2
  obtain ⟨v', ok, hr⟩ : ∃ v' ok, numR xs a k = (v', ok) := ⟨_, _, rfl⟩
  rw [hr] at hv
  obtain rfl : v' = v := hv
  rw [hr] at HN
  have hw : IntKind.i64.wrap v' = v' := by rw [IntKind.wrap_i64]; omega
  clear h hr
  go_enter Tryz.func123, Tryz.ntmps123
  go_wp2_with (first
    | (go_at_call 95; (with_reducible refine (HN.out).mono ?_); rintro e w' ⟨rfl, rfl⟩)
    | fail)
  go_ret
  exact ⟨rfl, rfl⟩

theorem num_b (p : Option Addr) (n c : Nat) (xs : List Int) (w : World) (h : Byt w p n c xs) (a k : Nat) (A K : Int) (hA : A = a) (hK : K = k) (h1 : 1 ≤ k) (h8 : k ≤ 8) (hin : a + k ≤ n) :
    Calls Tryz.prog 95 #[.slice p n c, .int .i64 A, .int .i64 K] w fun e w' => e = .returned (.tuple #[.int .u64 (nAt xs a k), .bool true]) ∧ w = w' := by
  subst hA hK
  exact number_yes p n c xs w h a k h1 h8 hin
theorem read4_any (p : Option Addr) (n c : Nat) (xs : List Int) (w : World) (h : Byt w p n c xs) (a : Nat) (A : Int) (hA : A = a) (hin : a + 4 ≤ n) :
    Calls Tryz.prog 124 #[.slice p n c, .int .i64 A] w fun e w' => e = .returned (.agg #[.int .i64 4, .int .u64 0, .int .u64 (nAt xs a 4)]) ∧ Below w.heap.size w w' := by
  subst hA
  have hn := h.le
  have HN := hidden (num_b p n c xs _ (h.alloc (.cells #[.int .i64 0, .int .u64 0, .int .u64 0] 96)) a 4 a 4 rfl rfl (by omega) (by omega) (by omega))
  have HB := hidden ((Below.refl w.heap.size w).alloc (Nat.le_refl _) (.cells #[.int .i64 0, .int .u64 0, .int .u64 0] 96))
  clear h
  go_enter Tryz.func124, Tryz.ntmps124
  go_wp2_with (first
    | (go_at_call 95; (with_reducible refine (HN.out).mono ?_); rintro e w' ⟨rfl, rfl⟩)
    | fail)
  refine ret_ad (g := w.heap.size) (x := ⟨4, 0, nAt xs a 4⟩) rfl rfl rfl (AdIn.new w ⟨4, 0, nAt xs a 4⟩ _) ?_
  exact ⟨rfl, (Below.refl w.heap.size w).alloc (Nat.le_refl _) _⟩
theorem read6_any (p : Option Addr) (n c : Nat) (xs : List Int) (w : World) (h : Byt w p n c xs) (a : Nat) (A : Int) (hA : A = a) (hin : a + 16 ≤ n) :
    Calls Tryz.prog 125 #[.slice p n c, .int .i64 A] w fun e w' => e = .returned (.agg #[.int .i64 6, .int .u64 (nAt xs a 8), .int .u64 (nAt xs (a + 8) 8)]) ∧ Below w.heap.size w w' := by
  subst hA
  have hn := h.le
  have HN := hidden (num_b p n c xs _ (h.alloc (.cells #[.int .i64 0, .int .u64 0, .int .u64 0] 96)) a 8 a 8 rfl rfl (by omega) (by omega) (by omega))
  have HM := hidden (num_b p n c xs _ (h.alloc (.cells #[.int .i64 0, .int .u64 0, .int .u64 0] 96)) (a + 8) 8 ((a : Int) + 8) 8 (by omega) rfl (by omega) (by omega) (by omega))
  have hw : IntKind.i64.wrap ((a : Int) + 8) = (a : Int) + 8 := by rw [IntKind.wrap_i64]; omega
  clear h
  go_enter Tryz.func125, Tryz.ntmps125
  go_wp2_with (first
    | (go_at_call 95; (first | (with_reducible refine (HN.out).mono ?_) | (with_reducible refine (HM.out).mono ?_)); rintro e w' ⟨rfl, rfl⟩)
    | fail)
  refine ret_ad (g := w.heap.size) (x := ⟨6, nAt xs a 8, nAt xs (a + 8) 8⟩) rfl rfl rfl (AdIn.new w ⟨6, nAt xs a 8, nAt xs (a + 8) 8⟩ _) ?_
  exact ⟨rfl, (Below.refl w.heap.size w).alloc (Nat.le_refl _) _⟩
end Go.Proofs.YtbpmanbpmlkmnaaGreatDoor

namespace Go.Proofs.YtbpmanbpmlkmnaaGreatDoor
open Go.RowKit
set_option linter.unusedVariables false

/-- What is known of a payload that was read: it lies beyond a place, and the type does not matter. -/
structure Gd where
  ok : Nat → World → Pv → Prop
  keep : ∀ {base : Nat} {w w' : World} {x : Pv}, ok base w x → (∀ a v, base ≤ a.block → w.cell? a = some v → w'.cell? a = some v) → ok base w' x
  mono : ∀ {base base' : Nat} {w : World} {x : Pv}, ok base w x → base' ≤ base → ok base' w x
  ty : ∀ {base : Nat} {w : World} {x : Pv} (z : Int), ok base w x → ok base w { x with t := z }
theorem Frs.keep {w w' : World} {base : Nat} {p : Option Addr} {n c : Nat} {xs : List Int} (h : Frs w base p n c xs) (hk : ∀ a v, base ≤ a.block → w.cell? a = some v → w'.cell? a = some v) : Frs w' base p n c xs :=
  ⟨⟨h.byt.len, h.byt.cap, h.byt.big, h.byt.rng, fun hn => by
    obtain ⟨b, o, e, hc⟩ := h.byt.mem hn
    obtain ⟨b', o', e', hb⟩ := h.own (by have := h.byt.len; omega)
    rw [e] at e'
    injection e' with e'
    injection e' with e1 e2
    subst e1
    exact ⟨b, o, e, fun i hi => hk _ _ hb (hc i hi)⟩⟩, h.own⟩
def gdData (xs : List Int) : Gd where
  ok base w x := FrV w base x.da xs
  keep h hk := Frs.keep h hk
  mono h hb := Frs.mono h hb
  ty _ h := h
def gdIdent (xs : List Int) : Gd where
  ok base w x := x.ik = nthB xs 0 ∧ FrV w base x.id (xs.drop 4)
  keep h hk := ⟨h.1, Frs.keep h.2 hk⟩
  mono h hb := ⟨h.1, Frs.mono h.2 hb⟩
  ty _ h := h
/-- What Parse returns. -/
def ParsedV (w : World) (k E : Int) (G : Gd) (e : Ending) (w' : World) : Prop := ∃ x : Pv, e = .returned (.tuple #[(.agg #[.int .i64 x.t, .slice x.pr.p x.pr.n x.pr.c, .int .i64 x.eg, .slice x.ed.p x.ed.n x.ed.c, .int .i64 x.ik, .slice x.id.p x.id.n x.id.c, .int .i64 x.am, .slice x.ad.p x.ad.n x.ad.c, .int .i64 x.np, .slice x.ns.p x.ns.n x.ns.c, .int .i64 x.nt, .slice x.nd.p x.nd.n x.nd.c, .int .i64 x.dp, .slice x.ds.p x.ds.n x.ds.c, .slice x.se.p x.se.n x.se.c, .slice x.da.p x.da.n x.da.c]), .int .i64 E]) ∧ Below w.heap.size w w' ∧ ((E = 0 ∧ x.t = k ∧ G.ok w.heap.size w' x) ∨ (E ≠ 0 ∧ x = zeroP))
end Go.Proofs.YtbpmanbpmlkmnaaGreatDoor

namespace Go.Proofs.YtbpmanbpmlkmnaaGreatDoor
open Go.RowKit
set_option linter.unusedVariables false

/-- Some element occurs again behind itself. -/
def Dup {α : Type} : List α → Prop
  | [] => False
  | y :: l => y ∈ l ∨ Dup l
theorem dup_map {α β : Type} (f : α → β) : ∀ (l : List α), (∀ x ∈ l, ∀ y ∈ l, f x = f y → x = y) → (Dup (l.map f) ↔ Dup l) := by
  intro l
  induction l with
  | nil => intro _; exact Iff.rfl
  | cons y l ih =>
    intro h
    show f y ∈ l.map f ∨ Dup (l.map f) ↔ y ∈ l ∨ Dup l
    rw [ih (fun x hx z hz => h x (List.mem_cons_of_mem _ hx) z (List.mem_cons_of_mem _ hz)), List.mem_map]
    constructor
    · rintro (⟨z, hz, e⟩ | h2)
      · have := h z (List.mem_cons_of_mem _ hz) y (List.mem_cons_self) e
        subst this
        exact Or.inl hz
      · exact Or.inr h2
    · rintro (hz | h2)
      · exact Or.inl ⟨y, hz, rfl⟩
      · exact Or.inr h2
theorem dup_iff {α : Type} : ∀ (l : List α), Dup l ↔ ∃ a b : Nat, a < b ∧ b < l.length ∧ l[a]? = l[b]? := by
  intro l
  induction l with
  | nil => exact ⟨fun h => h.elim, fun ⟨a, b, _, h, _⟩ => by simp at h⟩
  | cons y l ih =>
    show y ∈ l ∨ Dup l ↔ _
    rw [ih]
    constructor
    · rintro (h | ⟨a, b, h1, h2, h3⟩)
      · obtain ⟨j, hj, e⟩ := List.mem_iff_getElem.1 h
        exact ⟨0, j + 1, by omega, by simp; omega, by rw [List.getElem?_cons_zero, List.getElem?_cons_succ, List.getElem?_eq_getElem hj, e]⟩
      · exact ⟨a + 1, b + 1, by omega, by simp; omega, by rw [List.getElem?_cons_succ, List.getElem?_cons_succ, h3]⟩
    · rintro ⟨a, b, h1, h2, h3⟩
      obtain ⟨b, rfl⟩ : ∃ b', b = b' + 1 := ⟨b - 1, by omega⟩
      rw [List.getElem?_cons_succ] at h3
      have hb : b < l.length := by simpa using h2
      cases a with
      | zero =>
        rw [List.getElem?_cons_zero, List.getElem?_eq_getElem hb] at h3
        exact Or.inl (by injection h3 with e; rw [e]; exact List.getElem_mem hb)
      | succ a =>
        rw [List.getElem?_cons_succ] at h3
        exact Or.inr ⟨a, b, by omega, hb, h3⟩
theorem twiceW_iff : ∀ (l : List (List Int)) (ts : List Int), twiceW ts l = true ↔ (∃ y ∈ l, wordOf y ∈ ts) ∨ Dup (l.map wordOf) := by
  intro l
  induction l with
  | nil => intro ts; simp [twiceW, Dup]
  | cons y l ih =>
    intro ts
    show (decide (wordOf y ∈ ts) || twiceW (ts ++ [wordOf y]) l) = true ↔ (∃ z ∈ y :: l, wordOf z ∈ ts) ∨ (wordOf y ∈ l.map wordOf ∨ Dup (l.map wordOf))
    rw [Bool.or_eq_true, decide_eq_true_eq, ih]
    constructor
    · rintro (h | ⟨z, hz, h⟩ | h)
      · exact Or.inl ⟨y, List.mem_cons_self, h⟩
      · rcases List.mem_append.1 h with h | h
        · exact Or.inl ⟨z, List.mem_cons_of_mem _ hz, h⟩
        · rw [List.mem_singleton] at h
          exact Or.inr (Or.inl (List.mem_map.2 ⟨z, hz, h⟩))
      · exact Or.inr (Or.inr h)
    · rintro (⟨z, hz, h⟩ | h | h)
      · rcases List.mem_cons.1 hz with rfl | hz
        · exact Or.inl h
        · exact Or.inr (Or.inl ⟨z, hz, List.mem_append_left _ h⟩)
      · obtain ⟨z, hz, e⟩ := List.mem_map.1 h
        exact Or.inr (Or.inl ⟨z, hz, List.mem_append_right _ (by rw [List.mem_singleton]; exact e)⟩)
      · exact Or.inr (Or.inr h)
/-- Bytes of the same length with the same number are the same. -/
theorem val_inj : ∀ (l m : List Int), l.length = m.length → (∀ x ∈ l, 0 ≤ x ∧ x ≤ 255) → (∀ x ∈ m, 0 ≤ x ∧ x ≤ 255) → val l = val m → l = m := by
  intro l
  induction l with
  | nil => intro m hl _ _ _; exact (List.eq_nil_of_length_eq_zero hl.symm).symm
  | cons x l ih =>
    intro m hl h1 h2 hv
    cases m with
    | nil => simp at hl
    | cons y m =>
      have hl' : l.length = m.length := by simpa using hl
      rw [val_cons, val_cons, hl'] at hv
      have b1 := val_bd l (fun z hz => h1 z (List.mem_cons_of_mem _ hz))
      have b2 := val_bd m (fun z hz => h2 z (List.mem_cons_of_mem _ hz))
      rw [hl'] at b1
      generalize (256 : Int) ^ m.length = P at *
      have hP : 0 < P := by omega
      have hxy : x = y := by
        rcases Int.lt_trichotomy x y with h | h | h
        · have : (x + 1) * P ≤ y * P := Int.mul_le_mul_of_nonneg_right (by omega) (by omega)
          rw [Int.add_mul] at this
          omega
        · exact h
        · have : (y + 1) * P ≤ x * P := Int.mul_le_mul_of_nonneg_right (by omega) (by omega)
          rw [Int.add_mul] at this
          omega
      subst hxy
      rw [ih m hl' (fun z hz => h1 z (List.mem_cons_of_mem _ hz)) (fun z hz => h2 z (List.mem_cons_of_mem _ hz)) (by omega)]
/-- SPIs of four bytes: the program's words say whether one occurs twice. -/
theorem twiceW_dup (l : List (List Int)) (h4 : ∀ y ∈ l, y.length = 4) (hr : ∀ y ∈ l, ∀ x ∈ y, 0 ≤ x ∧ x ≤ 255) : twiceW [] l = true ↔ Dup l := by
  rw [twiceW_iff]
  have e : (∃ y ∈ l, wordOf y ∈ ([] : List Int)) ↔ False := ⟨fun ⟨y, _, h⟩ => by simp at h, fun h => h.elim⟩
  rw [e, false_or]
  refine dup_map wordOf l (fun x hx y hy he => ?_)
  have w : ∀ z, z.length = 4 → wordOf z = val z := fun z hz => by
    unfold wordOf numR
    rw [hz, if_pos (by omega)]
    simp
    rw [List.take_of_length_le (by omega)]
  rw [w x (h4 x hx), w y (h4 y hy)] at he
  exact val_inj x y (by rw [h4 x hx, h4 y hy]) (hr x hx) (hr y hy) he

/-- What twice returns. -/
def TwiceR (w : World) (D : Prop) (e : Ending) (w' : World) : Prop := ∃ r : Bool, e = .returned (.bool r) ∧ (r = true ↔ D) ∧ Below w.heap.size w w'
theorem twiceR_yes {w w' : World} {D : Prop} (h : D) (hb : Below w.heap.size w w') : TwiceR w D (.returned (.bool true)) w' := ⟨true, rfl, ⟨fun _ => h, fun _ => rfl⟩, hb⟩
theorem twiceR_no {w w' : World} {D : Prop} (h : ¬ D) (hb : Below w.heap.size w w') : TwiceR w D (.returned (.bool false)) w' := ⟨false, rfl, ⟨fun e => (by cases e), fun d => absurd d h⟩, hb⟩
set_option maxHeartbeats 3200000 in
set_option maxRecDepth 100000 in
theorem rtwice_any (p : Option Addr) (n c : Nat) (l : List Sb) (w : World) (h : RdG KSb DSb w p n c l) :
    Calls Tryz.prog 56 #[.slice p n c] w (TwiceR w (Dup (l.map Sb.xs))) := by
  have H := hidden h
  have hlen := h.len
  have hle := h.le
  have hdi := dup_iff (l.map Sb.xs)
  rw [List.length_map, hlen] at hdi
  have HYES := hidden (fun a b h1 h2 h3 => hdi.2 ⟨a, b, h1, h2, h3⟩)
  have HNOT : Hid ((∀ a b : Nat, a < b → b < n → (l.map Sb.xs)[a]? ≠ (l.map Sb.xs)[b]?) → ¬ Dup (l.map Sb.xs)) := fun hh hd => by
    obtain ⟨a, b, h1, h2, h3⟩ := hdi.1 hd
    exact hh a b h1 h2 h3
  clear hdi
  generalize Dup (l.map Sb.xs) = D at *
  have HEQ := hidden (fun (a b : Sb) (W : World) (ha : Byt W a.p a.n a.c a.xs) (hb : Byt W b.p b.n b.c b.xs) => requal_any a.p b.p a.n a.c b.n b.c a.xs b.xs W ha hb)
  have HCELL : Hid (∀ i, i < n → ∃ (g : Nat) (x : Sb), p = some ⟨g, 0, none⟩ ∧ (l.map Sb.xs)[i]? = some x.xs ∧ ∀ W, Below w.heap.size w W → W.cell? ⟨g, i, none⟩ = some (.slice x.p x.n x.c) ∧ Byt W x.p x.n x.c x.xs) := fun i hi => by
    obtain ⟨g, x, e, hx, -, hxb, hxc⟩ := RdG.sb_cons h hi
    exact ⟨g, x, e, by rw [List.getElem?_map, hx]; rfl, fun W hW => ⟨cell_below hW _ _ hxc, hxb.below hW⟩⟩
  obtain ⟨L, hL⟩ : ∃ L, l.map Sb.xs = L := ⟨_, rfl⟩
  rw [hL] at HYES HNOT HCELL
  clear h hlen H hL
  go_enter Tryz.func56, Tryz.ntmps56
  have HB0 := hidden (Below.refl w.heap.size w)
  go_wp2
  go_loopw [3] (fun v wr => ∃ i : Nat, i ≤ n ∧ v = .int .i64 i ∧ Hid (∀ a b : Nat, a < b → b < i → L[a]? ≠ L[b]?) ∧ Below w.heap.size w wr) (fun v _ => n - (intOf v).toNat)
  case atStart => exact ⟨0, by omega, rfl, fun a b h1 h2 => by omega, HB0.out⟩
  case round =>
    obtain ⟨i, hi, rfl, HNO, hb⟩ := hrel
    have HB := hidden hb
    clear hb HB0
    by_cases hlt : i < n
    · have hlt' : (i : Int) < n := by omega
      have hi0 : (0 : Int) ≤ (i : Int) := by omega
      obtain ⟨g, x, hpg, HXI, HX⟩ := HCELL.out i hlt
      subst hpg
      have HXI := hidden HXI
      have HX := hidden HX
      have HI0 : Hid (∀ a : Nat, a < 0 → L[a]? ≠ L[i]?) := fun a h => by omega
      go_wp2
      go_loopw [4] (fun v wr => ∃ k : Nat, k ≤ i ∧ v = .int .i64 k ∧ Hid (∀ a : Nat, a < k → L[a]? ≠ L[i]?) ∧ Below w.heap.size w wr) (fun v _ => i - (intOf v).toNat)
      case atStart => exact ⟨0, by omega, rfl, HI0, HB.out⟩
      case round =>
        obtain ⟨k, hk, rfl, HNK, hb⟩ := hrel
        have HBK := hidden hb
        clear hb HI0
        by_cases hkl : k < i
        · have hkl' : (k : Int) < i := by omega
          have hk0 : (0 : Int) ≤ (k : Int) := by omega
          have hkn : (k : Int) < n := by omega
          obtain ⟨g', y, hpg, HYI, HY⟩ := HCELL.out k (by omega)
          have hgg : g' = g := by cases hpg; rfl
          subst hgg
          clear hpg
          have HYI := hidden HYI
          have HY := hidden HY
          have HBD := hidden (HBK.out.drew)
          have HEE := hidden (HEQ.out x y _ (HX.out _ HBD.out).2 (HY.out _ HBD.out).2)
          by_cases hxy : x.xs = y.xs
          · rw [decide_eq_true hxy] at HEE
            have HD : Hid D := HYES.out k i hkl (by omega) (by rw [HYI.out, HXI.out, hxy])
            clear hxy
            go_upto_region 7 with fail
            go_region_held3 (fun w' => w'.cell? ⟨g', i, none⟩ = some (.slice x.p x.n x.c) ∧ w'.cell? ⟨g', k, none⟩ = some (.slice y.p y.n y.c)) (first | exact ⟨(HX.out _ HBD.out).1, (HY.out _ HBD.out).1⟩ | exact ⟨(HX.out _ HBE.out).1, (HY.out _ HBE.out).1⟩ | go_keep) (first
              | (go_at_call 14; (with_reducible refine (HEE.out).mono ?_); rintro e w2 ⟨rfl, hd⟩; have HBE := hidden (HBD.out.trans ((drew_below (B := w.heap.size) hd).mono (Nat.le_refl _))))
              | fail)
            all_goals
              go_wp2
              go_ret
              exact twiceR_yes HD.out HBE.out
          · rw [decide_eq_false hxy] at HEE
            have HN2 : Hid (∀ a : Nat, a < k + 1 → L[a]? ≠ L[i]?) := fun a ha => by
              by_cases hak : a = k
              · subst hak
                rw [HYI.out, HXI.out]
                intro e
                injection e with e
                exact hxy e.symm
              · exact HNK.out a (by omega)
            clear hxy
            go_upto_region 7 with fail
            go_region_held3 (fun w' => w'.cell? ⟨g', i, none⟩ = some (.slice x.p x.n x.c) ∧ w'.cell? ⟨g', k, none⟩ = some (.slice y.p y.n y.c)) (first | exact ⟨(HX.out _ HBD.out).1, (HY.out _ HBD.out).1⟩ | exact ⟨(HX.out _ HBE.out).1, (HY.out _ HBE.out).1⟩ | go_keep) (first
              | (go_at_call 14; (with_reducible refine (HEE.out).mono ?_); rintro e w2 ⟨rfl, hd⟩; have HBE := hidden (HBD.out.trans ((drew_below (B := w.heap.size) hd).mono (Nat.le_refl _))))
              | fail)
            all_goals
              go_wp2
              go_roundw
              case rel => exact ⟨k + 1, by omega, by go_num, HN2, HBE.out⟩
              case measure => simp [intOf]; omega
        · have hge : ¬ (k : Int) < i := by omega
          have HNI : Hid (∀ a b : Nat, a < b → b < i + 1 → L[a]? ≠ L[b]?) := fun a b h1 h2 => by
            by_cases hbi : b = i
            · subst hbi
              exact HNK.out a (by omega)
            · exact HNO.out a b h1 (by omega)
          go_wp2
          go_roundw
          case rel => exact ⟨i + 1, by omega, by go_num, HNI, HBK.out⟩
          case measure => simp [intOf]; omega
    · have hge : ¬ (i : Int) < n := by omega
      have HND := hidden (HNOT.out (fun a b h1 h2 => HNO.out a b h1 (by omega)))
      go_wp2
      go_ret
      exact twiceR_no HND.out HB.out
end Go.Proofs.YtbpmanbpmlkmnaaGreatDoor
