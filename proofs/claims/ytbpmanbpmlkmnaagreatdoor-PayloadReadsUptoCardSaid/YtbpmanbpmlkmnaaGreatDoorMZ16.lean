/-
  Package payload's Parse and Build at all types: by pure functions of what is read and written.
  What is known of a payload that was read, kind by kind, from its parts.
  What the walk of the document's own Parse of a payload needs.
-/
import Derived.Test.YtbpmanbpmlkmnaaGreatDoorMZ6
import Derived.Test.YtbpmanbpmlkmnaaGreatDoorMZ14
import Derived.Test.YtbpmanbpmlkmnaaGreatDoorMZ10
import Derived.Test.YtbpmanbpmlkmnaaGreatDoorMPayNote
import Derived.Test.YtbpmanbpmlkmnaaGreatDoorMZ11
import Derived.Test.YtbpmanbpmlkmnaaGreatDoorMZ15
import Derived.Test.YtbpmanbpmlkmnaaGreatDoorMZ20
import Derived.Test.YtbpmanbpmlkmnaaGreatDoorMZ19
import Derived.Test.YtbpmanbpmlkmnaaGreatDoorMRPayDel
import Derived.Test.YtbpmanbpmlkmnaaGreatDoorMRParse5
import Derived.Deep.Cut
import Derived.Deep.CutRange
import Derived.Deep.CutBlock
namespace Go.Proofs.YtbpmanbpmlkmnaaGreatDoor
open Go.RowKit
set_option linter.unusedVariables false

/-- The lengths of what is written are small. -/
structure PvSz (x : Pv) : Prop where
  ed : x.t = 34 → x.ed.n ≤ 1000000
  id : x.t = 35 ∨ x.t = 36 → x.id.n ≤ 1000000
  ad : x.t = 39 → x.ad.n ≤ 1000000
  ns : x.t = 41 → x.ns.n ≤ 1000000
  nd : x.t = 41 → x.nd.n ≤ 1000000
  ds : x.t = 42 → x.ds.n ≤ 1000000
  da : x.t ≠ 33 → x.t ≠ 34 → x.t ≠ 35 → x.t ≠ 36 → x.t ≠ 39 → x.t ≠ 41 → x.t ≠ 42 → x.t ≠ 44 → x.t ≠ 45 → x.da.n ≤ 1000000
/-- The body of a payload, and the first error. -/
def buildB (x : Pv) (C : Pc) : List Int × Int :=
  if x.t = 33 then buildP (C.pr.map PrP.pr)
  else if x.t = 34 then (exchL x.eg C.ed, exchE x.eg x.ed.n)
  else if x.t = 35 then (headL x.ik C.id, idE x.ik x.id.n)
  else if x.t = 36 then (headL x.ik C.id, idE x.ik x.id.n)
  else if x.t = 39 then (headL x.am C.ad, authE x.am x.ad.n)
  else if x.t = 40 then (C.da, nonceE x.da.n)
  else if x.t = 41 then (noteL x.np x.nt C.ns C.nd, notifyE x.np x.nt x.ns.n)
  else if x.t = 42 then (delBL x.dp (C.ds.map Sb.xs), delBE x.dp (C.ds.map Sb.xs))
  else if x.t = 44 then buildS C.se
  else if x.t = 45 then buildS C.se
  else (C.da, 0)
/-- The first error of a body. -/
def parseE (t : Int) (xs : List Int) : Int :=
  if t = 33 then (parseP xs).2 else if t = 34 then exchangeE xs xs.length else if t = 35 then identE xs xs.length else if t = 36 then identE xs xs.length else if t = 39 then authenE xs xs.length
  else if t = 40 then nonceE xs.length else if t = 41 then noteE xs xs.length else if t = 42 then delE xs xs.length else if t = 44 then (parseS xs).2 else if t = 45 then (parseS xs).2 else 0
/-- What is read of a body. -/
structure RdAs (t : Int) (xs : List Int) (x : Pv) (C : Pc) : Prop where
  a33 : t = 33 → C.pr.map PrP.pr = (parseP xs).1
  a34 : t = 34 → x.eg = nthB xs 0 * 256 + nthB xs 1 ∧ C.ed = xs.drop 4
  a35 : t = 35 ∨ t = 36 → x.ik = nthB xs 0 ∧ C.id = xs.drop 4
  a39 : t = 39 → x.am = nthB xs 0 ∧ C.ad = xs.drop 4
  a41 : t = 41 → x.np = nthB xs 0 ∧ x.nt = nthB xs 2 * 256 + nthB xs 3 ∧ C.ns = (xs.drop 4).take (nthB xs 1).toNat ∧ C.nd = xs.drop (4 + (nthB xs 1).toNat)
  a42 : t = 42 → x.dp = nthB xs 0 ∧ C.ds.map Sb.xs = spisL (xs.drop 4) (nthB xs 1).toNat (nthB xs 2 * 256 + nthB xs 3).toNat
  a44 : t = 44 ∨ t = 45 → C.se = (parseS xs).1
  aX : t ≠ 33 → t ≠ 34 → t ≠ 35 → t ≠ 36 → t ≠ 39 → t ≠ 41 → t ≠ 42 → t ≠ 44 → t ≠ 45 → C.da = xs
/-- What is known of a payload that was read out of a body. -/
def gdK (t : Int) (xs : List Int) : Gd where
  ok base w x := ∃ C, (∀ W, Kpt w W base → PvRk W { x with t := t } C) ∧ RdAs t xs x C
  keep h hk := by
    obtain ⟨C, h1, h2⟩ := h
    exact ⟨C, fun W hW => h1 W (Kpt.trans hk hW), h2⟩
  mono h hb := by
    obtain ⟨C, h1, h2⟩ := h
    exact ⟨C, fun W hW => h1 W (hW.mono hb), h2⟩
  ty z h := by
    obtain ⟨C, h1, h2⟩ := h
    exact ⟨C, h1, ⟨h2.a33, h2.a34, h2.a35, h2.a39, h2.a41, h2.a42, h2.a44, h2.aX⟩⟩
theorem Frs.kp {w w' : World} {base : Nat} {p : Option Addr} {n c : Nat} {xs : List Int} (h : Frs w base p n c xs) (hk : Kpt w w' base) : Byt w' p n c xs := (h.keep hk).byt
def Cn : Pc := ⟨[], [], [], [], [], [], [], [], []⟩

theorem pk_33 (p : Option Addr) (n c : Nat) (xs : List Int) (cr : Bool) (w : World) (h : Byt w p n c xs) (hn : n ≤ 1048576) :
    Calls Tryz.prog 10 #[.agg #[.int .i64 33, .bool cr, .slice p n c]] w (ParsedV w 33 (parseE 33 xs) (gdK 33 xs)) := by
  have hE : parseE 33 xs = (parseP xs).2 := by
    have hl := h.len
    subst hl
    rfl
  rw [hE]
  refine pparse_33 p n c xs cr _ (gdK 33 xs) w h (fun W hW => (proposals_read p n c xs W hW (by omega) _ rfl).mono ?_)
  rintro e w' ⟨x, he, hb, hg⟩
  refine ⟨x, he, hb, fun h0 => ?_⟩
  obtain ⟨ls, hl, hr, hn⟩ := hg h0
  exact ⟨{ Cn with pr := ls }, fun W hW => ⟨fun _ => ⟨RowG.kp (D := DPr) hr hn hW (fun _ hx => OkN.kp hx hW)⟩, fun e => absurd e (show ¬ ((33 : Int) = 34) by decide), fun e => absurd e (show ¬ ((33 : Int) = 35) by decide), fun e => absurd e (show ¬ ((33 : Int) = 36) by decide), fun e => absurd e (show ¬ ((33 : Int) = 39) by decide), fun e => absurd e (show ¬ ((33 : Int) = 41) by decide), fun e => absurd e (show ¬ ((33 : Int) = 42) by decide), fun e => absurd e (show ¬ ((33 : Int) = 44) by decide), fun e => absurd e (show ¬ ((33 : Int) = 45) by decide), fun e0 e1 e2 e3 e4 e5 e6 e7 e8 => absurd rfl e0⟩, ⟨fun _ => hl, fun e => absurd e (by decide), fun e => absurd e (by decide), fun e => absurd e (by decide), fun e => absurd e (by decide), fun e => absurd e (by decide), fun e => absurd e (by decide), fun e0 e1 e2 e3 e4 e5 e6 e7 e8 => absurd rfl e0⟩⟩
theorem pk_34 (p : Option Addr) (n c : Nat) (xs : List Int) (cr : Bool) (w : World) (h : Byt w p n c xs) (hn : n ≤ 1048576) :
    Calls Tryz.prog 10 #[.agg #[.int .i64 34, .bool cr, .slice p n c]] w (ParsedV w 34 (parseE 34 xs) (gdK 34 xs)) := by
  have hE : parseE 34 xs = exchangeE xs n := by
    have hl := h.len
    subst hl
    rfl
  rw [hE]
  refine pparse_34 p n c xs cr _ (gdK 34 xs) w h (fun W hW => (exchange_read p n c xs W hW (by omega)).mono ?_)
  rintro e w' ⟨x, he, hb, hg⟩
  refine ⟨x, he, hb, fun h0 => ?_⟩
  obtain ⟨h1, h2⟩ := hg h0
  exact ⟨{ Cn with ed := xs.drop 4 }, fun W hW => ⟨fun e => absurd e (show ¬ ((34 : Int) = 33) by decide), fun _ => ⟨Frs.kp h2 hW⟩, fun e => absurd e (show ¬ ((34 : Int) = 35) by decide), fun e => absurd e (show ¬ ((34 : Int) = 36) by decide), fun e => absurd e (show ¬ ((34 : Int) = 39) by decide), fun e => absurd e (show ¬ ((34 : Int) = 41) by decide), fun e => absurd e (show ¬ ((34 : Int) = 42) by decide), fun e => absurd e (show ¬ ((34 : Int) = 44) by decide), fun e => absurd e (show ¬ ((34 : Int) = 45) by decide), fun e0 e1 e2 e3 e4 e5 e6 e7 e8 => absurd rfl e1⟩, ⟨fun e => absurd e (by decide), fun _ => ⟨h1, rfl⟩, fun e => absurd e (by decide), fun e => absurd e (by decide), fun e => absurd e (by decide), fun e => absurd e (by decide), fun e => absurd e (by decide), fun e0 e1 e2 e3 e4 e5 e6 e7 e8 => absurd rfl e1⟩⟩
theorem pk_35 (p : Option Addr) (n c : Nat) (xs : List Int) (cr : Bool) (w : World) (h : Byt w p n c xs) (hn : n ≤ 1048576) :
    Calls Tryz.prog 10 #[.agg #[.int .i64 35, .bool cr, .slice p n c]] w (ParsedV w 35 (parseE 35 xs) (gdK 35 xs)) := by
  have hE : parseE 35 xs = identE xs n := by
    have hl := h.len
    subst hl
    rfl
  rw [hE]
  refine pparse_35 p n c xs cr _ (gdK 35 xs) w h (fun W hW => (identity_read p n c xs W hW (by omega)).mono ?_)
  rintro e w' ⟨x, he, hb, hg⟩
  refine ⟨x, he, hb, fun h0 => ?_⟩
  obtain ⟨h1, h2⟩ := hg h0
  exact ⟨{ Cn with id := xs.drop 4 }, fun W hW => ⟨fun e => absurd e (show ¬ ((35 : Int) = 33) by decide), fun e => absurd e (show ¬ ((35 : Int) = 34) by decide), fun _ => ⟨Frs.kp h2 hW⟩, fun e => absurd e (show ¬ ((35 : Int) = 36) by decide), fun e => absurd e (show ¬ ((35 : Int) = 39) by decide), fun e => absurd e (show ¬ ((35 : Int) = 41) by decide), fun e => absurd e (show ¬ ((35 : Int) = 42) by decide), fun e => absurd e (show ¬ ((35 : Int) = 44) by decide), fun e => absurd e (show ¬ ((35 : Int) = 45) by decide), fun e0 e1 e2 e3 e4 e5 e6 e7 e8 => absurd rfl e2⟩, ⟨fun e => absurd e (by decide), fun e => absurd e (by decide), fun _ => ⟨h1, rfl⟩, fun e => absurd e (by decide), fun e => absurd e (by decide), fun e => absurd e (by decide), fun e => absurd e (by decide), fun e0 e1 e2 e3 e4 e5 e6 e7 e8 => absurd rfl e2⟩⟩
theorem pk_36 (p : Option Addr) (n c : Nat) (xs : List Int) (cr : Bool) (w : World) (h : Byt w p n c xs) (hn : n ≤ 1048576) :
    Calls Tryz.prog 10 #[.agg #[.int .i64 36, .bool cr, .slice p n c]] w (ParsedV w 36 (parseE 36 xs) (gdK 36 xs)) := by
  have hE : parseE 36 xs = identE xs n := by
    have hl := h.len
    subst hl
    rfl
  rw [hE]
  refine pparse_36 p n c xs cr _ (gdK 36 xs) w h (fun W hW => (identity_read p n c xs W hW (by omega)).mono ?_)
  rintro e w' ⟨x, he, hb, hg⟩
  refine ⟨x, he, hb, fun h0 => ?_⟩
  obtain ⟨h1, h2⟩ := hg h0
  exact ⟨{ Cn with id := xs.drop 4 }, fun W hW => ⟨fun e => absurd e (show ¬ ((36 : Int) = 33) by decide), fun e => absurd e (show ¬ ((36 : Int) = 34) by decide), fun e => absurd e (show ¬ ((36 : Int) = 35) by decide), fun _ => ⟨Frs.kp h2 hW⟩, fun e => absurd e (show ¬ ((36 : Int) = 39) by decide), fun e => absurd e (show ¬ ((36 : Int) = 41) by decide), fun e => absurd e (show ¬ ((36 : Int) = 42) by decide), fun e => absurd e (show ¬ ((36 : Int) = 44) by decide), fun e => absurd e (show ¬ ((36 : Int) = 45) by decide), fun e0 e1 e2 e3 e4 e5 e6 e7 e8 => absurd rfl e3⟩, ⟨fun e => absurd e (by decide), fun e => absurd e (by decide), fun _ => ⟨h1, rfl⟩, fun e => absurd e (by decide), fun e => absurd e (by decide), fun e => absurd e (by decide), fun e => absurd e (by decide), fun e0 e1 e2 e3 e4 e5 e6 e7 e8 => absurd rfl e3⟩⟩
theorem pk_39 (p : Option Addr) (n c : Nat) (xs : List Int) (cr : Bool) (w : World) (h : Byt w p n c xs) (hn : n ≤ 1048576) :
    Calls Tryz.prog 10 #[.agg #[.int .i64 39, .bool cr, .slice p n c]] w (ParsedV w 39 (parseE 39 xs) (gdK 39 xs)) := by
  have hE : parseE 39 xs = authenE xs n := by
    have hl := h.len
    subst hl
    rfl
  rw [hE]
  refine pparse_39 p n c xs cr _ (gdK 39 xs) w h (fun W hW => (auth_read p n c xs W hW (by omega)).mono ?_)
  rintro e w' ⟨x, he, hb, hg⟩
  refine ⟨x, he, hb, fun h0 => ?_⟩
  obtain ⟨h1, h2⟩ := hg h0
  exact ⟨{ Cn with ad := xs.drop 4 }, fun W hW => ⟨fun e => absurd e (show ¬ ((39 : Int) = 33) by decide), fun e => absurd e (show ¬ ((39 : Int) = 34) by decide), fun e => absurd e (show ¬ ((39 : Int) = 35) by decide), fun e => absurd e (show ¬ ((39 : Int) = 36) by decide), fun _ => ⟨Frs.kp h2 hW⟩, fun e => absurd e (show ¬ ((39 : Int) = 41) by decide), fun e => absurd e (show ¬ ((39 : Int) = 42) by decide), fun e => absurd e (show ¬ ((39 : Int) = 44) by decide), fun e => absurd e (show ¬ ((39 : Int) = 45) by decide), fun e0 e1 e2 e3 e4 e5 e6 e7 e8 => absurd rfl e4⟩, ⟨fun e => absurd e (by decide), fun e => absurd e (by decide), fun e => absurd e (by decide), fun _ => ⟨h1, rfl⟩, fun e => absurd e (by decide), fun e => absurd e (by decide), fun e => absurd e (by decide), fun e0 e1 e2 e3 e4 e5 e6 e7 e8 => absurd rfl e4⟩⟩
theorem pk_40 (p : Option Addr) (n c : Nat) (xs : List Int) (cr : Bool) (w : World) (h : Byt w p n c xs) (hn : n ≤ 1048576) :
    Calls Tryz.prog 10 #[.agg #[.int .i64 40, .bool cr, .slice p n c]] w (ParsedV w 40 (parseE 40 xs) (gdK 40 xs)) := by
  have hE : parseE 40 xs = nonceE n := by
    have hl := h.len
    subst hl
    rfl
  rw [hE]
  refine pparse_40 p n c xs cr _ (gdK 40 xs) w h (fun W hW => (nonce_read p n c xs W hW (by omega)).mono ?_)
  rintro e w' ⟨x, he, hb, hg⟩
  refine ⟨x, he, hb, fun h0 => ?_⟩
  obtain h2 := hg h0
  exact ⟨{ Cn with da := xs }, fun W hW => ⟨fun e => absurd e (show ¬ ((40 : Int) = 33) by decide), fun e => absurd e (show ¬ ((40 : Int) = 34) by decide), fun e => absurd e (show ¬ ((40 : Int) = 35) by decide), fun e => absurd e (show ¬ ((40 : Int) = 36) by decide), fun e => absurd e (show ¬ ((40 : Int) = 39) by decide), fun e => absurd e (show ¬ ((40 : Int) = 41) by decide), fun e => absurd e (show ¬ ((40 : Int) = 42) by decide), fun e => absurd e (show ¬ ((40 : Int) = 44) by decide), fun e => absurd e (show ¬ ((40 : Int) = 45) by decide), fun _ _ _ _ _ _ _ _ _ => ⟨Frs.kp h2 hW⟩⟩, ⟨fun e => absurd e (by decide), fun e => absurd e (by decide), fun e => absurd e (by decide), fun e => absurd e (by decide), fun e => absurd e (by decide), fun e => absurd e (by decide), fun e => absurd e (by decide), fun _ _ _ _ _ _ _ _ _ => rfl⟩⟩
theorem pk_41 (p : Option Addr) (n c : Nat) (xs : List Int) (cr : Bool) (w : World) (h : Byt w p n c xs) (hn : n ≤ 1048576) :
    Calls Tryz.prog 10 #[.agg #[.int .i64 41, .bool cr, .slice p n c]] w (ParsedV w 41 (parseE 41 xs) (gdK 41 xs)) := by
  have hE : parseE 41 xs = noteE xs n := by
    have hl := h.len
    subst hl
    rfl
  rw [hE]
  refine pparse_41 p n c xs cr _ (gdK 41 xs) w h (fun W hW => (notify_read p n c xs W hW (by omega)).mono ?_)
  rintro e w' ⟨x, he, hb, hg⟩
  refine ⟨x, he, hb, fun h0 => ?_⟩
  obtain ⟨h1, h2, h3, h4⟩ := hg h0
  exact ⟨{ Cn with ns := (xs.drop 4).take (nthB xs 1).toNat, nd := xs.drop (4 + (nthB xs 1).toNat) }, fun W hW => ⟨fun e => absurd e (show ¬ ((41 : Int) = 33) by decide), fun e => absurd e (show ¬ ((41 : Int) = 34) by decide), fun e => absurd e (show ¬ ((41 : Int) = 35) by decide), fun e => absurd e (show ¬ ((41 : Int) = 36) by decide), fun e => absurd e (show ¬ ((41 : Int) = 39) by decide), fun _ => ⟨Frs.kp h3 hW, Frs.kp h4 hW⟩, fun e => absurd e (show ¬ ((41 : Int) = 42) by decide), fun e => absurd e (show ¬ ((41 : Int) = 44) by decide), fun e => absurd e (show ¬ ((41 : Int) = 45) by decide), fun e0 e1 e2 e3 e4 e5 e6 e7 e8 => absurd rfl e5⟩, ⟨fun e => absurd e (by decide), fun e => absurd e (by decide), fun e => absurd e (by decide), fun e => absurd e (by decide), fun _ => ⟨h1, h2, rfl, rfl⟩, fun e => absurd e (by decide), fun e => absurd e (by decide), fun e0 e1 e2 e3 e4 e5 e6 e7 e8 => absurd rfl e5⟩⟩
theorem pk_42 (p : Option Addr) (n c : Nat) (xs : List Int) (cr : Bool) (w : World) (h : Byt w p n c xs) (hn : n ≤ 1048576) :
    Calls Tryz.prog 10 #[.agg #[.int .i64 42, .bool cr, .slice p n c]] w (ParsedV w 42 (parseE 42 xs) (gdK 42 xs)) := by
  have hE : parseE 42 xs = delE xs n := by
    have hl := h.len
    subst hl
    rfl
  rw [hE]
  refine pparse_42 p n c xs cr _ (gdK 42 xs) w h (fun W hW => (deletion_read p n c xs W hW (by omega)).mono ?_)
  rintro e w' ⟨x, he, hb, hg⟩
  refine ⟨x, he, hb, fun h0 => ?_⟩
  obtain ⟨h1, l, h2, h3⟩ := hg h0
  exact ⟨{ Cn with ds := l }, fun W hW => ⟨fun e => absurd e (show ¬ ((42 : Int) = 33) by decide), fun e => absurd e (show ¬ ((42 : Int) = 34) by decide), fun e => absurd e (show ¬ ((42 : Int) = 35) by decide), fun e => absurd e (show ¬ ((42 : Int) = 36) by decide), fun e => absurd e (show ¬ ((42 : Int) = 39) by decide), fun e => absurd e (show ¬ ((42 : Int) = 41) by decide), fun _ => ⟨RowG.kp (D := DSb) h2 (by obtain ⟨p', c', e, hrd⟩ := h2.sbs rfl; simp at e; rw [e.2.1]) hW (fun _ hx => Bod.kp hx hW)⟩, fun e => absurd e (show ¬ ((42 : Int) = 44) by decide), fun e => absurd e (show ¬ ((42 : Int) = 45) by decide), fun e0 e1 e2 e3 e4 e5 e6 e7 e8 => absurd rfl e6⟩, ⟨fun e => absurd e (by decide), fun e => absurd e (by decide), fun e => absurd e (by decide), fun e => absurd e (by decide), fun e => absurd e (by decide), fun _ => ⟨h1, h3⟩, fun e => absurd e (by decide), fun e0 e1 e2 e3 e4 e5 e6 e7 e8 => absurd rfl e6⟩⟩
theorem pk_44 (p : Option Addr) (n c : Nat) (xs : List Int) (cr : Bool) (w : World) (h : Byt w p n c xs) (hn : n ≤ 1048576) :
    Calls Tryz.prog 10 #[.agg #[.int .i64 44, .bool cr, .slice p n c]] w (ParsedV w 44 (parseE 44 xs) (gdK 44 xs)) := by
  have hE : parseE 44 xs = (parseS xs).2 := by
    have hl := h.len
    subst hl
    rfl
  rw [hE]
  refine pparse_44 p n c xs cr _ (gdK 44 xs) w h (fun W hW => (selectors_read p n c xs W hW _ rfl).mono ?_)
  rintro e w' ⟨x, he, hb, hg⟩
  refine ⟨x, he, hb, fun h0 => ?_⟩
  obtain ⟨h2, h3⟩ := hg h0
  exact ⟨{ Cn with se := (parseS xs).1 }, fun W hW => ⟨fun e => absurd e (show ¬ ((44 : Int) = 33) by decide), fun e => absurd e (show ¬ ((44 : Int) = 34) by decide), fun e => absurd e (show ¬ ((44 : Int) = 35) by decide), fun e => absurd e (show ¬ ((44 : Int) = 36) by decide), fun e => absurd e (show ¬ ((44 : Int) = 39) by decide), fun e => absurd e (show ¬ ((44 : Int) = 41) by decide), fun e => absurd e (show ¬ ((44 : Int) = 42) by decide), fun _ => ⟨RowG.kp (D := DSlr) h2 h3 hW (fun _ hx => hx)⟩, fun e => absurd e (show ¬ ((44 : Int) = 45) by decide), fun e0 e1 e2 e3 e4 e5 e6 e7 e8 => absurd rfl e7⟩, ⟨fun e => absurd e (by decide), fun e => absurd e (by decide), fun e => absurd e (by decide), fun e => absurd e (by decide), fun e => absurd e (by decide), fun e => absurd e (by decide), fun _ => rfl, fun e0 e1 e2 e3 e4 e5 e6 e7 e8 => absurd rfl e7⟩⟩
theorem pk_45 (p : Option Addr) (n c : Nat) (xs : List Int) (cr : Bool) (w : World) (h : Byt w p n c xs) (hn : n ≤ 1048576) :
    Calls Tryz.prog 10 #[.agg #[.int .i64 45, .bool cr, .slice p n c]] w (ParsedV w 45 (parseE 45 xs) (gdK 45 xs)) := by
  have hE : parseE 45 xs = (parseS xs).2 := by
    have hl := h.len
    subst hl
    rfl
  rw [hE]
  refine pparse_45 p n c xs cr _ (gdK 45 xs) w h (fun W hW => (selectors_read p n c xs W hW _ rfl).mono ?_)
  rintro e w' ⟨x, he, hb, hg⟩
  refine ⟨x, he, hb, fun h0 => ?_⟩
  obtain ⟨h2, h3⟩ := hg h0
  exact ⟨{ Cn with se := (parseS xs).1 }, fun W hW => ⟨fun e => absurd e (show ¬ ((45 : Int) = 33) by decide), fun e => absurd e (show ¬ ((45 : Int) = 34) by decide), fun e => absurd e (show ¬ ((45 : Int) = 35) by decide), fun e => absurd e (show ¬ ((45 : Int) = 36) by decide), fun e => absurd e (show ¬ ((45 : Int) = 39) by decide), fun e => absurd e (show ¬ ((45 : Int) = 41) by decide), fun e => absurd e (show ¬ ((45 : Int) = 42) by decide), fun e => absurd e (show ¬ ((45 : Int) = 44) by decide), fun _ => ⟨RowG.kp (D := DSlr) h2 h3 hW (fun _ hx => hx)⟩, fun e0 e1 e2 e3 e4 e5 e6 e7 e8 => absurd rfl e8⟩, ⟨fun e => absurd e (by decide), fun e => absurd e (by decide), fun e => absurd e (by decide), fun e => absurd e (by decide), fun e => absurd e (by decide), fun e => absurd e (by decide), fun _ => rfl, fun e0 e1 e2 e3 e4 e5 e6 e7 e8 => absurd rfl e8⟩⟩
theorem pk_37 (p : Option Addr) (n c : Nat) (xs : List Int) (cr : Bool) (w : World) (h : Byt w p n c xs) (hn : n ≤ 1048576) :
    Calls Tryz.prog 10 #[.agg #[.int .i64 37, .bool cr, .slice p n c]] w (ParsedV w 37 (parseE 37 xs) (gdK 37 xs)) := by
  have hE : parseE 37 xs = 0 := by
    have hl := h.len
    subst hl
    rfl
  rw [hE]
  refine pparse_37 p n c xs cr _ (gdK 37 xs) w h (fun W hW => (data_read p n c xs W hW (by omega)).mono ?_)
  rintro e w' ⟨x, he, hb, hg⟩
  refine ⟨x, he, hb, fun h0 => ?_⟩
  obtain h2 := hg h0
  exact ⟨{ Cn with da := xs }, fun W hW => ⟨fun e => absurd e (show ¬ ((37 : Int) = 33) by decide), fun e => absurd e (show ¬ ((37 : Int) = 34) by decide), fun e => absurd e (show ¬ ((37 : Int) = 35) by decide), fun e => absurd e (show ¬ ((37 : Int) = 36) by decide), fun e => absurd e (show ¬ ((37 : Int) = 39) by decide), fun e => absurd e (show ¬ ((37 : Int) = 41) by decide), fun e => absurd e (show ¬ ((37 : Int) = 42) by decide), fun e => absurd e (show ¬ ((37 : Int) = 44) by decide), fun e => absurd e (show ¬ ((37 : Int) = 45) by decide), fun _ _ _ _ _ _ _ _ _ => ⟨Frs.kp h2 hW⟩⟩, ⟨fun e => absurd e (by decide), fun e => absurd e (by decide), fun e => absurd e (by decide), fun e => absurd e (by decide), fun e => absurd e (by decide), fun e => absurd e (by decide), fun e => absurd e (by decide), fun _ _ _ _ _ _ _ _ _ => rfl⟩⟩
theorem pk_43 (p : Option Addr) (n c : Nat) (xs : List Int) (cr : Bool) (w : World) (h : Byt w p n c xs) (hn : n ≤ 1048576) :
    Calls Tryz.prog 10 #[.agg #[.int .i64 43, .bool cr, .slice p n c]] w (ParsedV w 43 (parseE 43 xs) (gdK 43 xs)) := by
  have hE : parseE 43 xs = 0 := by
    have hl := h.len
    subst hl
    rfl
  rw [hE]
  refine pparse_43 p n c xs cr _ (gdK 43 xs) w h (fun W hW => (data_read p n c xs W hW (by omega)).mono ?_)
  rintro e w' ⟨x, he, hb, hg⟩
  refine ⟨x, he, hb, fun h0 => ?_⟩
  obtain h2 := hg h0
  exact ⟨{ Cn with da := xs }, fun W hW => ⟨fun e => absurd e (show ¬ ((43 : Int) = 33) by decide), fun e => absurd e (show ¬ ((43 : Int) = 34) by decide), fun e => absurd e (show ¬ ((43 : Int) = 35) by decide), fun e => absurd e (show ¬ ((43 : Int) = 36) by decide), fun e => absurd e (show ¬ ((43 : Int) = 39) by decide), fun e => absurd e (show ¬ ((43 : Int) = 41) by decide), fun e => absurd e (show ¬ ((43 : Int) = 42) by decide), fun e => absurd e (show ¬ ((43 : Int) = 44) by decide), fun e => absurd e (show ¬ ((43 : Int) = 45) by decide), fun _ _ _ _ _ _ _ _ _ => ⟨Frs.kp h2 hW⟩⟩, ⟨fun e => absurd e (by decide), fun e => absurd e (by decide), fun e => absurd e (by decide), fun e => absurd e (by decide), fun e => absurd e (by decide), fun e => absurd e (by decide), fun e => absurd e (by decide), fun _ _ _ _ _ _ _ _ _ => rfl⟩⟩
end Go.Proofs.YtbpmanbpmlkmnaaGreatDoor

namespace Go.Proofs.YtbpmanbpmlkmnaaGreatDoor
open Go.RowKit
set_option linter.unusedVariables false

theorem gdok_33 (base : Nat) (w : World) (x : Pv) (xs : List Int) (ls : List PrP) (hl : ls.map PrP.pr = (parseP xs).1) (hr : RowG KPr NPr w base (.slice x.pr.p x.pr.n x.pr.c) ls) (hn : ls.length = x.pr.n) : (gdK 33 xs).ok base w x :=
  ⟨{ Cn with pr := ls }, fun W hW => ⟨fun _ => ⟨RowG.kp (D := DPr) hr hn hW (fun _ hx => OkN.kp hx hW)⟩, fun e => absurd e (show ¬ ((33 : Int) = 34) by decide), fun e => absurd e (show ¬ ((33 : Int) = 35) by decide), fun e => absurd e (show ¬ ((33 : Int) = 36) by decide), fun e => absurd e (show ¬ ((33 : Int) = 39) by decide), fun e => absurd e (show ¬ ((33 : Int) = 41) by decide), fun e => absurd e (show ¬ ((33 : Int) = 42) by decide), fun e => absurd e (show ¬ ((33 : Int) = 44) by decide), fun e => absurd e (show ¬ ((33 : Int) = 45) by decide), fun e0 e1 e2 e3 e4 e5 e6 e7 e8 => absurd rfl e0⟩, ⟨fun _ => hl, fun e => absurd e (by decide), fun e => absurd e (by decide), fun e => absurd e (by decide), fun e => absurd e (by decide), fun e => absurd e (by decide), fun e => absurd e (by decide), fun e0 e1 e2 e3 e4 e5 e6 e7 e8 => absurd rfl e0⟩⟩
theorem gdok_34 (base : Nat) (w : World) (x : Pv) (xs : List Int) (h1 : x.eg = nthB xs 0 * 256 + nthB xs 1) (h2 : FrV w base x.ed (xs.drop 4)) : (gdK 34 xs).ok base w x :=
  ⟨{ Cn with ed := xs.drop 4 }, fun W hW => ⟨fun e => absurd e (show ¬ ((34 : Int) = 33) by decide), fun _ => ⟨Frs.kp h2 hW⟩, fun e => absurd e (show ¬ ((34 : Int) = 35) by decide), fun e => absurd e (show ¬ ((34 : Int) = 36) by decide), fun e => absurd e (show ¬ ((34 : Int) = 39) by decide), fun e => absurd e (show ¬ ((34 : Int) = 41) by decide), fun e => absurd e (show ¬ ((34 : Int) = 42) by decide), fun e => absurd e (show ¬ ((34 : Int) = 44) by decide), fun e => absurd e (show ¬ ((34 : Int) = 45) by decide), fun e0 e1 e2 e3 e4 e5 e6 e7 e8 => absurd rfl e1⟩, ⟨fun e => absurd e (by decide), fun _ => ⟨h1, rfl⟩, fun e => absurd e (by decide), fun e => absurd e (by decide), fun e => absurd e (by decide), fun e => absurd e (by decide), fun e => absurd e (by decide), fun e0 e1 e2 e3 e4 e5 e6 e7 e8 => absurd rfl e1⟩⟩
theorem gdok_35 (base : Nat) (w : World) (x : Pv) (xs : List Int) (h1 : x.ik = nthB xs 0) (h2 : FrV w base x.id (xs.drop 4)) : (gdK 35 xs).ok base w x :=
  ⟨{ Cn with id := xs.drop 4 }, fun W hW => ⟨fun e => absurd e (show ¬ ((35 : Int) = 33) by decide), fun e => absurd e (show ¬ ((35 : Int) = 34) by decide), fun _ => ⟨Frs.kp h2 hW⟩, fun e => absurd e (show ¬ ((35 : Int) = 36) by decide), fun e => absurd e (show ¬ ((35 : Int) = 39) by decide), fun e => absurd e (show ¬ ((35 : Int) = 41) by decide), fun e => absurd e (show ¬ ((35 : Int) = 42) by decide), fun e => absurd e (show ¬ ((35 : Int) = 44) by decide), fun e => absurd e (show ¬ ((35 : Int) = 45) by decide), fun e0 e1 e2 e3 e4 e5 e6 e7 e8 => absurd rfl e2⟩, ⟨fun e => absurd e (by decide), fun e => absurd e (by decide), fun _ => ⟨h1, rfl⟩, fun e => absurd e (by decide), fun e => absurd e (by decide), fun e => absurd e (by decide), fun e => absurd e (by decide), fun e0 e1 e2 e3 e4 e5 e6 e7 e8 => absurd rfl e2⟩⟩
theorem gdok_36 (base : Nat) (w : World) (x : Pv) (xs : List Int) (h1 : x.ik = nthB xs 0) (h2 : FrV w base x.id (xs.drop 4)) : (gdK 36 xs).ok base w x :=
  ⟨{ Cn with id := xs.drop 4 }, fun W hW => ⟨fun e => absurd e (show ¬ ((36 : Int) = 33) by decide), fun e => absurd e (show ¬ ((36 : Int) = 34) by decide), fun e => absurd e (show ¬ ((36 : Int) = 35) by decide), fun _ => ⟨Frs.kp h2 hW⟩, fun e => absurd e (show ¬ ((36 : Int) = 39) by decide), fun e => absurd e (show ¬ ((36 : Int) = 41) by decide), fun e => absurd e (show ¬ ((36 : Int) = 42) by decide), fun e => absurd e (show ¬ ((36 : Int) = 44) by decide), fun e => absurd e (show ¬ ((36 : Int) = 45) by decide), fun e0 e1 e2 e3 e4 e5 e6 e7 e8 => absurd rfl e3⟩, ⟨fun e => absurd e (by decide), fun e => absurd e (by decide), fun _ => ⟨h1, rfl⟩, fun e => absurd e (by decide), fun e => absurd e (by decide), fun e => absurd e (by decide), fun e => absurd e (by decide), fun e0 e1 e2 e3 e4 e5 e6 e7 e8 => absurd rfl e3⟩⟩
theorem gdok_39 (base : Nat) (w : World) (x : Pv) (xs : List Int) (h1 : x.am = nthB xs 0) (h2 : FrV w base x.ad (xs.drop 4)) : (gdK 39 xs).ok base w x :=
  ⟨{ Cn with ad := xs.drop 4 }, fun W hW => ⟨fun e => absurd e (show ¬ ((39 : Int) = 33) by decide), fun e => absurd e (show ¬ ((39 : Int) = 34) by decide), fun e => absurd e (show ¬ ((39 : Int) = 35) by decide), fun e => absurd e (show ¬ ((39 : Int) = 36) by decide), fun _ => ⟨Frs.kp h2 hW⟩, fun e => absurd e (show ¬ ((39 : Int) = 41) by decide), fun e => absurd e (show ¬ ((39 : Int) = 42) by decide), fun e => absurd e (show ¬ ((39 : Int) = 44) by decide), fun e => absurd e (show ¬ ((39 : Int) = 45) by decide), fun e0 e1 e2 e3 e4 e5 e6 e7 e8 => absurd rfl e4⟩, ⟨fun e => absurd e (by decide), fun e => absurd e (by decide), fun e => absurd e (by decide), fun _ => ⟨h1, rfl⟩, fun e => absurd e (by decide), fun e => absurd e (by decide), fun e => absurd e (by decide), fun e0 e1 e2 e3 e4 e5 e6 e7 e8 => absurd rfl e4⟩⟩
theorem gdok_41 (base : Nat) (w : World) (x : Pv) (xs : List Int) (h1 : x.np = nthB xs 0) (h2 : x.nt = nthB xs 2 * 256 + nthB xs 3) (h3 : FrV w base x.ns ((xs.drop 4).take (nthB xs 1).toNat)) (h4 : FrV w base x.nd (xs.drop (4 + (nthB xs 1).toNat))) : (gdK 41 xs).ok base w x :=
  ⟨{ Cn with ns := (xs.drop 4).take (nthB xs 1).toNat, nd := xs.drop (4 + (nthB xs 1).toNat) }, fun W hW => ⟨fun e => absurd e (show ¬ ((41 : Int) = 33) by decide), fun e => absurd e (show ¬ ((41 : Int) = 34) by decide), fun e => absurd e (show ¬ ((41 : Int) = 35) by decide), fun e => absurd e (show ¬ ((41 : Int) = 36) by decide), fun e => absurd e (show ¬ ((41 : Int) = 39) by decide), fun _ => ⟨Frs.kp h3 hW, Frs.kp h4 hW⟩, fun e => absurd e (show ¬ ((41 : Int) = 42) by decide), fun e => absurd e (show ¬ ((41 : Int) = 44) by decide), fun e => absurd e (show ¬ ((41 : Int) = 45) by decide), fun e0 e1 e2 e3 e4 e5 e6 e7 e8 => absurd rfl e5⟩, ⟨fun e => absurd e (by decide), fun e => absurd e (by decide), fun e => absurd e (by decide), fun e => absurd e (by decide), fun _ => ⟨h1, h2, rfl, rfl⟩, fun e => absurd e (by decide), fun e => absurd e (by decide), fun e0 e1 e2 e3 e4 e5 e6 e7 e8 => absurd rfl e5⟩⟩
theorem gdok_42 (base : Nat) (w : World) (x : Pv) (xs : List Int) (h1 : x.dp = nthB xs 0) (l : List Sb) (hr : RowG KSb NSb w base (.slice x.ds.p x.ds.n x.ds.c) l) (hl : l.map Sb.xs = spisL (xs.drop 4) (nthB xs 1).toNat (nthB xs 2 * 256 + nthB xs 3).toNat) (hn : l.length = x.ds.n) : (gdK 42 xs).ok base w x :=
  ⟨{ Cn with ds := l }, fun W hW => ⟨fun e => absurd e (show ¬ ((42 : Int) = 33) by decide), fun e => absurd e (show ¬ ((42 : Int) = 34) by decide), fun e => absurd e (show ¬ ((42 : Int) = 35) by decide), fun e => absurd e (show ¬ ((42 : Int) = 36) by decide), fun e => absurd e (show ¬ ((42 : Int) = 39) by decide), fun e => absurd e (show ¬ ((42 : Int) = 41) by decide), fun _ => ⟨RowG.kp (D := DSb) hr hn hW (fun _ hx => Bod.kp hx hW)⟩, fun e => absurd e (show ¬ ((42 : Int) = 44) by decide), fun e => absurd e (show ¬ ((42 : Int) = 45) by decide), fun e0 e1 e2 e3 e4 e5 e6 e7 e8 => absurd rfl e6⟩, ⟨fun e => absurd e (by decide), fun e => absurd e (by decide), fun e => absurd e (by decide), fun e => absurd e (by decide), fun e => absurd e (by decide), fun _ => ⟨h1, hl⟩, fun e => absurd e (by decide), fun e0 e1 e2 e3 e4 e5 e6 e7 e8 => absurd rfl e6⟩⟩
theorem gdok_44 (base : Nat) (w : World) (x : Pv) (xs : List Int) (hr : RowG KSl NSl w base (.slice x.se.p x.se.n x.se.c) (parseS xs).1) (hn : (parseS xs).1.length = x.se.n) : (gdK 44 xs).ok base w x :=
  ⟨{ Cn with se := (parseS xs).1 }, fun W hW => ⟨fun e => absurd e (show ¬ ((44 : Int) = 33) by decide), fun e => absurd e (show ¬ ((44 : Int) = 34) by decide), fun e => absurd e (show ¬ ((44 : Int) = 35) by decide), fun e => absurd e (show ¬ ((44 : Int) = 36) by decide), fun e => absurd e (show ¬ ((44 : Int) = 39) by decide), fun e => absurd e (show ¬ ((44 : Int) = 41) by decide), fun e => absurd e (show ¬ ((44 : Int) = 42) by decide), fun _ => ⟨RowG.kp (D := DSlr) hr hn hW (fun _ hx => hx)⟩, fun e => absurd e (show ¬ ((44 : Int) = 45) by decide), fun e0 e1 e2 e3 e4 e5 e6 e7 e8 => absurd rfl e7⟩, ⟨fun e => absurd e (by decide), fun e => absurd e (by decide), fun e => absurd e (by decide), fun e => absurd e (by decide), fun e => absurd e (by decide), fun e => absurd e (by decide), fun _ => rfl, fun e0 e1 e2 e3 e4 e5 e6 e7 e8 => absurd rfl e7⟩⟩
theorem gdok_45 (base : Nat) (w : World) (x : Pv) (xs : List Int) (hr : RowG KSl NSl w base (.slice x.se.p x.se.n x.se.c) (parseS xs).1) (hn : (parseS xs).1.length = x.se.n) : (gdK 45 xs).ok base w x :=
  ⟨{ Cn with se := (parseS xs).1 }, fun W hW => ⟨fun e => absurd e (show ¬ ((45 : Int) = 33) by decide), fun e => absurd e (show ¬ ((45 : Int) = 34) by decide), fun e => absurd e (show ¬ ((45 : Int) = 35) by decide), fun e => absurd e (show ¬ ((45 : Int) = 36) by decide), fun e => absurd e (show ¬ ((45 : Int) = 39) by decide), fun e => absurd e (show ¬ ((45 : Int) = 41) by decide), fun e => absurd e (show ¬ ((45 : Int) = 42) by decide), fun e => absurd e (show ¬ ((45 : Int) = 44) by decide), fun _ => ⟨RowG.kp (D := DSlr) hr hn hW (fun _ hx => hx)⟩, fun e0 e1 e2 e3 e4 e5 e6 e7 e8 => absurd rfl e8⟩, ⟨fun e => absurd e (by decide), fun e => absurd e (by decide), fun e => absurd e (by decide), fun e => absurd e (by decide), fun e => absurd e (by decide), fun e => absurd e (by decide), fun _ => rfl, fun e0 e1 e2 e3 e4 e5 e6 e7 e8 => absurd rfl e8⟩⟩
theorem gdok_40 (base : Nat) (w : World) (x : Pv) (xs : List Int) (h2 : FrV w base x.da xs) : (gdK 40 xs).ok base w x :=
  ⟨{ Cn with da := xs }, fun W hW => ⟨fun e => absurd e (show ¬ ((40 : Int) = 33) by decide), fun e => absurd e (show ¬ ((40 : Int) = 34) by decide), fun e => absurd e (show ¬ ((40 : Int) = 35) by decide), fun e => absurd e (show ¬ ((40 : Int) = 36) by decide), fun e => absurd e (show ¬ ((40 : Int) = 39) by decide), fun e => absurd e (show ¬ ((40 : Int) = 41) by decide), fun e => absurd e (show ¬ ((40 : Int) = 42) by decide), fun e => absurd e (show ¬ ((40 : Int) = 44) by decide), fun e => absurd e (show ¬ ((40 : Int) = 45) by decide), fun _ _ _ _ _ _ _ _ _ => ⟨Frs.kp h2 hW⟩⟩, ⟨fun e => absurd e (by decide), fun e => absurd e (by decide), fun e => absurd e (by decide), fun e => absurd e (by decide), fun e => absurd e (by decide), fun e => absurd e (by decide), fun e => absurd e (by decide), fun _ _ _ _ _ _ _ _ _ => rfl⟩⟩
theorem gdok_X (t : Int) (ht : Other t) (base : Nat) (w : World) (x : Pv) (xs : List Int) (h2 : FrV w base x.da xs) : (gdK t xs).ok base w x := by
  obtain ⟨h33, h34, h35, h36, h39, h40, h41, h42, h44, h45⟩ := ht
  exact ⟨{ Cn with da := xs }, fun W hW => ⟨fun e => absurd e h33, fun e => absurd e h34, fun e => absurd e h35, fun e => absurd e h36, fun e => absurd e h39, fun e => absurd e h41, fun e => absurd e h42, fun e => absurd e h44, fun e => absurd e h45, fun _ _ _ _ _ _ _ _ _ => ⟨Frs.kp h2 hW⟩⟩,
    ⟨fun e => absurd e h33, fun e => absurd e h34, fun e => absurd e (by omega), fun e => absurd e h39, fun e => absurd e h41, fun e => absurd e h42, fun e => absurd e (by omega), fun _ _ _ _ _ _ _ _ _ => rfl⟩⟩
end Go.Proofs.YtbpmanbpmlkmnaaGreatDoor

namespace Go.Proofs.YtbpmanbpmlkmnaaGreatDoor
open Go.RowKit
set_option linter.unusedVariables false

theorem PvIn.put33 {w : World} {g : Nat} {x : Pv} (h : PvIn w g x) (pr : Sv) : PvIn (w.setCell ⟨g, 1, none⟩ (.slice pr.p pr.n pr.c)) g { x with pr := pr } := by
  obtain ⟨c0, c1, c2, c3, c4, c5, c6, c7, c8, c9, c10, c11, c12, c13, c14, c15, fr⟩ := h
  exact ⟨by go_simp, by go_simp, by go_simp, by go_simp, by go_simp, by go_simp, by go_simp, by go_simp, by go_simp, by go_simp, by go_simp, by go_simp, by go_simp, by go_simp, by go_simp, by go_simp, fun j => by simp only [World.frozen?_setCell]; exact fr j⟩
theorem put33_grown (w : World) (g : Nat) (pr : Sv) : w.grownBy (w.setCell ⟨g, 1, none⟩ (.slice pr.p pr.n pr.c)) (some g) := grown_set _ _ _ _
theorem PvIn.put34 {w : World} {g : Nat} {x : Pv} (h : PvIn w g x) (eg : Int) (ed : Sv) : PvIn ((w.setCell ⟨g, 2, none⟩ (.int .i64 eg)).setCell ⟨g, 3, none⟩ (.slice ed.p ed.n ed.c)) g { x with eg := eg, ed := ed } := by
  obtain ⟨c0, c1, c2, c3, c4, c5, c6, c7, c8, c9, c10, c11, c12, c13, c14, c15, fr⟩ := h
  exact ⟨by go_simp, by go_simp, by go_simp, by go_simp, by go_simp, by go_simp, by go_simp, by go_simp, by go_simp, by go_simp, by go_simp, by go_simp, by go_simp, by go_simp, by go_simp, by go_simp, fun j => by simp only [World.frozen?_setCell]; exact fr j⟩
theorem put34_grown (w : World) (g : Nat) (eg : Int) (ed : Sv) : w.grownBy ((w.setCell ⟨g, 2, none⟩ (.int .i64 eg)).setCell ⟨g, 3, none⟩ (.slice ed.p ed.n ed.c)) (some g) := grown_trans (grown_set _ _ _ _) (grown_set _ _ _ _)
theorem PvIn.put35 {w : World} {g : Nat} {x : Pv} (h : PvIn w g x) (ik : Int) (id : Sv) : PvIn ((w.setCell ⟨g, 4, none⟩ (.int .i64 ik)).setCell ⟨g, 5, none⟩ (.slice id.p id.n id.c)) g { x with ik := ik, id := id } := by
  obtain ⟨c0, c1, c2, c3, c4, c5, c6, c7, c8, c9, c10, c11, c12, c13, c14, c15, fr⟩ := h
  exact ⟨by go_simp, by go_simp, by go_simp, by go_simp, by go_simp, by go_simp, by go_simp, by go_simp, by go_simp, by go_simp, by go_simp, by go_simp, by go_simp, by go_simp, by go_simp, by go_simp, fun j => by simp only [World.frozen?_setCell]; exact fr j⟩
theorem put35_grown (w : World) (g : Nat) (ik : Int) (id : Sv) : w.grownBy ((w.setCell ⟨g, 4, none⟩ (.int .i64 ik)).setCell ⟨g, 5, none⟩ (.slice id.p id.n id.c)) (some g) := grown_trans (grown_set _ _ _ _) (grown_set _ _ _ _)
theorem PvIn.put39 {w : World} {g : Nat} {x : Pv} (h : PvIn w g x) (am : Int) (ad : Sv) : PvIn ((w.setCell ⟨g, 6, none⟩ (.int .i64 am)).setCell ⟨g, 7, none⟩ (.slice ad.p ad.n ad.c)) g { x with am := am, ad := ad } := by
  obtain ⟨c0, c1, c2, c3, c4, c5, c6, c7, c8, c9, c10, c11, c12, c13, c14, c15, fr⟩ := h
  exact ⟨by go_simp, by go_simp, by go_simp, by go_simp, by go_simp, by go_simp, by go_simp, by go_simp, by go_simp, by go_simp, by go_simp, by go_simp, by go_simp, by go_simp, by go_simp, by go_simp, fun j => by simp only [World.frozen?_setCell]; exact fr j⟩
theorem put39_grown (w : World) (g : Nat) (am : Int) (ad : Sv) : w.grownBy ((w.setCell ⟨g, 6, none⟩ (.int .i64 am)).setCell ⟨g, 7, none⟩ (.slice ad.p ad.n ad.c)) (some g) := grown_trans (grown_set _ _ _ _) (grown_set _ _ _ _)
theorem PvIn.put41 {w : World} {g : Nat} {x : Pv} (h : PvIn w g x) (np : Int) (ns : Sv) (nt : Int) (nd : Sv) : PvIn ((((w.setCell ⟨g, 8, none⟩ (.int .i64 np)).setCell ⟨g, 9, none⟩ (.slice ns.p ns.n ns.c)).setCell ⟨g, 10, none⟩ (.int .i64 nt)).setCell ⟨g, 11, none⟩ (.slice nd.p nd.n nd.c)) g { x with np := np, ns := ns, nt := nt, nd := nd } := by
  obtain ⟨c0, c1, c2, c3, c4, c5, c6, c7, c8, c9, c10, c11, c12, c13, c14, c15, fr⟩ := h
  exact ⟨by go_simp, by go_simp, by go_simp, by go_simp, by go_simp, by go_simp, by go_simp, by go_simp, by go_simp, by go_simp, by go_simp, by go_simp, by go_simp, by go_simp, by go_simp, by go_simp, fun j => by simp only [World.frozen?_setCell]; exact fr j⟩
theorem put41_grown (w : World) (g : Nat) (np : Int) (ns : Sv) (nt : Int) (nd : Sv) : w.grownBy ((((w.setCell ⟨g, 8, none⟩ (.int .i64 np)).setCell ⟨g, 9, none⟩ (.slice ns.p ns.n ns.c)).setCell ⟨g, 10, none⟩ (.int .i64 nt)).setCell ⟨g, 11, none⟩ (.slice nd.p nd.n nd.c)) (some g) := grown_trans (grown_trans (grown_trans (grown_set _ _ _ _) (grown_set _ _ _ _)) (grown_set _ _ _ _)) (grown_set _ _ _ _)
theorem PvIn.put42 {w : World} {g : Nat} {x : Pv} (h : PvIn w g x) (dp : Int) (ds : Sv) : PvIn ((w.setCell ⟨g, 12, none⟩ (.int .i64 dp)).setCell ⟨g, 13, none⟩ (.slice ds.p ds.n ds.c)) g { x with dp := dp, ds := ds } := by
  obtain ⟨c0, c1, c2, c3, c4, c5, c6, c7, c8, c9, c10, c11, c12, c13, c14, c15, fr⟩ := h
  exact ⟨by go_simp, by go_simp, by go_simp, by go_simp, by go_simp, by go_simp, by go_simp, by go_simp, by go_simp, by go_simp, by go_simp, by go_simp, by go_simp, by go_simp, by go_simp, by go_simp, fun j => by simp only [World.frozen?_setCell]; exact fr j⟩
theorem put42_grown (w : World) (g : Nat) (dp : Int) (ds : Sv) : w.grownBy ((w.setCell ⟨g, 12, none⟩ (.int .i64 dp)).setCell ⟨g, 13, none⟩ (.slice ds.p ds.n ds.c)) (some g) := grown_trans (grown_set _ _ _ _) (grown_set _ _ _ _)
theorem PvIn.put44 {w : World} {g : Nat} {x : Pv} (h : PvIn w g x) (se : Sv) : PvIn (w.setCell ⟨g, 14, none⟩ (.slice se.p se.n se.c)) g { x with se := se } := by
  obtain ⟨c0, c1, c2, c3, c4, c5, c6, c7, c8, c9, c10, c11, c12, c13, c14, c15, fr⟩ := h
  exact ⟨by go_simp, by go_simp, by go_simp, by go_simp, by go_simp, by go_simp, by go_simp, by go_simp, by go_simp, by go_simp, by go_simp, by go_simp, by go_simp, by go_simp, by go_simp, by go_simp, fun j => by simp only [World.frozen?_setCell]; exact fr j⟩
theorem put44_grown (w : World) (g : Nat) (se : Sv) : w.grownBy (w.setCell ⟨g, 14, none⟩ (.slice se.p se.n se.c)) (some g) := grown_set _ _ _ _
theorem PvIn.put40 {w : World} {g : Nat} {x : Pv} (h : PvIn w g x) (da : Sv) : PvIn (w.setCell ⟨g, 15, none⟩ (.slice da.p da.n da.c)) g { x with da := da } := by
  obtain ⟨c0, c1, c2, c3, c4, c5, c6, c7, c8, c9, c10, c11, c12, c13, c14, c15, fr⟩ := h
  exact ⟨by go_simp, by go_simp, by go_simp, by go_simp, by go_simp, by go_simp, by go_simp, by go_simp, by go_simp, by go_simp, by go_simp, by go_simp, by go_simp, by go_simp, by go_simp, by go_simp, fun j => by simp only [World.frozen?_setCell]; exact fr j⟩
theorem put40_grown (w : World) (g : Nat) (da : Sv) : w.grownBy (w.setCell ⟨g, 15, none⟩ (.slice da.p da.n da.c)) (some g) := grown_set _ _ _ _
/-- While it is read: the raw payload, the result, the payload. -/
structure RPq (w wx : World) (t : Int) (p : Option Addr) (n c : Nat) (x : Pv) : Prop where
  r0 : wx.cell? ⟨w.heap.size, 0, none⟩ = some (.int .i64 t)
  r2 : wx.cell? ⟨w.heap.size, 2, none⟩ = some (.slice p n c)
  R : PvIn wx (w.heap.size + 1) zeroP
  S : PvIn wx (w.heap.size + 1 + 1) x
  bel : Below w.heap.size w wx
section
variable {w wx wy : World} {t : Int} {p : Option Addr} {n c : Nat} {x : Pv}
theorem RPq.below (h : RPq w wx t p n c x) (hb : Below wx.heap.size wx wy) : RPq w wy t p n c x :=
  ⟨cell_below hb _ _ h.r0, cell_below hb _ _ h.r2, h.R.below hb, h.S.below hb, h.bel.trans (hb.mono h.bel.size)⟩
theorem RPq.drew (h : RPq w wx t p n c x) : RPq w wx.drew t p n c x := h.below (drew_below ⟨1, rfl⟩)
theorem RPq.put (h : RPq w wx t p n c x) (hg : wx.grownBy wy (some (w.heap.size + 1 + 1))) {y : Pv} (hy : PvIn wy (w.heap.size + 1 + 1) y) : RPq w wy t p n c y :=
  ⟨hg.cell h.r0 (by simp; omega), hg.cell h.r2 (by simp; omega), h.R.grown hg (by simp), hy, h.bel.grown hg h.bel.size (fun j e => by cases e; omega)⟩
theorem RPq.ge (h : RPq w wx t p n c x) : w.heap.size + 1 + 1 + 1 ≤ wx.heap.size := h.S.lt
theorem RPq.new (w : World) (t : Int) (cr : Bool) (p : Option Addr) (n c : Nat) : RPq w (((w.alloc (.cells #[.int .i64 t, .bool cr, .slice p n c] 27)).alloc (.cells #[.int .i64 0, .slice none 0 0, .int .i64 0, .slice none 0 0, .int .i64 0, .slice none 0 0, .int .i64 0, .slice none 0 0, .int .i64 0, .slice none 0 0, .int .i64 0, .slice none 0 0, .int .i64 0, .slice none 0 0, .slice none 0 0, .slice none 0 0] 45)).alloc (.cells #[.int .i64 t, .slice none 0 0, .int .i64 0, .slice none 0 0, .int .i64 0, .slice none 0 0, .int .i64 0, .slice none 0 0, .int .i64 0, .slice none 0 0, .int .i64 0, .slice none 0 0, .int .i64 0, .slice none 0 0, .slice none 0 0, .slice none 0 0] 45)) t p n c { zeroP with t := t } := by
  refine ⟨by go_simp, by go_simp, ?_, ?_, (((Below.refl w.heap.size w).alloc (Nat.le_refl _) _).alloc (by simp) _).alloc (by simp; omega) _⟩
  · have := (PvIn.new (w.alloc (.cells #[.int .i64 t, .bool cr, .slice p n c] 27)) zeroP 45)
    have h2 := this.alloc (.cells #[.int .i64 t, .slice none 0 0, .int .i64 0, .slice none 0 0, .int .i64 0, .slice none 0 0, .int .i64 0, .slice none 0 0, .int .i64 0, .slice none 0 0, .int .i64 0, .slice none 0 0, .int .i64 0, .slice none 0 0, .slice none 0 0, .slice none 0 0] 45)
    simpa [zeroP, nilV] using h2
  · have := PvIn.new ((w.alloc (.cells #[.int .i64 t, .bool cr, .slice p n c] 27)).alloc (.cells #[.int .i64 0, .slice none 0 0, .int .i64 0, .slice none 0 0, .int .i64 0, .slice none 0 0, .int .i64 0, .slice none 0 0, .int .i64 0, .slice none 0 0, .int .i64 0, .slice none 0 0, .int .i64 0, .slice none 0 0, .slice none 0 0, .slice none 0 0] 45)) { zeroP with t := t } 45
    simpa [zeroP, nilV] using this
end
/-- Behind the switch. -/
def RDone (w wx : World) (t : Int) (p : Option Addr) (n c : Nat) (xs : List Int) (E : Int) : Prop := ∃ x, RPq w wx t p n c x ∧ (E = 0 → x.t = t ∧ (gdK t xs).ok (w.heap.size + 1 + 1 + 1) wx x)

end Go.Proofs.YtbpmanbpmlkmnaaGreatDoor
