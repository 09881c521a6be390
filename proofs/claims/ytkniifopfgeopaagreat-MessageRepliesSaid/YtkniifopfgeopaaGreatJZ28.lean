/-
  Package payload's Parse and Build at all types: by pure functions of what is read and written.
  The bodies of payloads, as functions: what is written is read again, and what is read is written with as many bytes.
  What the law PayloadReturns uses: drawn payloads are written; the twelve kinds at once.
  Package payload's Parse at any type.
  Every error of a message's parts has a notification; the sizes and types of the raw payloads of a chain.
-/
import Derived.Test.YtkniifopfgeopaaGreatJZ14
import Derived.Test.YtkniifopfgeopaaGreatJPayB3
import Derived.Test.YtkniifopfgeopaaGreatJZ17
import Derived.Test.YtkniifopfgeopaaGreatJPayDel
import Derived.Test.YtkniifopfgeopaaGreatJPayNote
import Derived.Test.YtkniifopfgeopaaGreatJZ15
import Derived.Test.YtkniifopfgeopaaGreatJZ18
import Derived.Test.YtkniifopfgeopaaGreatJZ16
import Derived.Test.YtkniifopfgeopaaGreatJZ22
import Derived.Test.YtkniifopfgeopaaGreatJZ23
import Derived.Test.YtkniifopfgeopaaGreatJZ24
import Derived.Test.YtkniifopfgeopaaGreatJZ25
import Derived.Test.YtkniifopfgeopaaGreatJZ8
import Derived.Test.YtkniifopfgeopaaGreatJZ26
import Derived.Test.YtkniifopfgeopaaGreatJZ27
import Derived.Test.YtkniifopfgeopaaGreatJPayMk
import Derived.Test.YtkniifopfgeopaaGreatJZ5
import Derived.Test.YtkniifopfgeopaaGreatJZ21
import Derived.Test.YtkniifopfgeopaaGreatJZ29
namespace Go.Proofs.YtkniifopfgeopaaGreat
open Go.RowKit
set_option linter.unusedVariables false

/-- The lengths of what is written are small. -/
structure PvSz (x : Pv) : Prop where
  ed : x.t = 34 → x.ed.n ≤ 1000000
  id : x.t = 35 ∨ x.t = 36 → x.id.n ≤ 1000000
  ad : x.t = 39 → x.ad.n ≤ 1000000
  ns : x.t = 41 → x.ns.n ≤ 1000000
  nd : x.t = 41 → x.nd.n ≤ 1000000
  ds : x.t = 42 → x.ds.n ≤ 1000000
  da : x.t ≠ 33 → x.t ≠ 34 → x.t ≠ 35 → x.t ≠ 36 → x.t ≠ 39 → x.t ≠ 41 → x.t ≠ 42 → x.t ≠ 44 → x.t ≠ 45 → x.da.n ≤ 1000000
/-- The body of a payload, and the first error. -/
def buildB (x : Pv) (C : Pc) : List Int × Int :=
  if x.t = 33 then buildP (C.pr.map PrP.pr)
  else if x.t = 34 then (exchL x.eg C.ed, exchE x.eg x.ed.n)
  else if x.t = 35 then (headL x.ik C.id, idE x.ik x.id.n)
  else if x.t = 36 then (headL x.ik C.id, idE x.ik x.id.n)
  else if x.t = 39 then (headL x.am C.ad, authE x.am x.ad.n)
  else if x.t = 40 then (C.da, nonceE x.da.n)
  else if x.t = 41 then (noteL x.np x.nt C.ns C.nd, notifyE x.np x.nt x.ns.n)
  else if x.t = 42 then (delBL x.dp (C.ds.map Sb.xs), delBE x.dp (C.ds.map Sb.xs))
  else if x.t = 44 then buildS C.se
  else if x.t = 45 then buildS C.se
  else (C.da, 0)
theorem pb_any (x : Pv) (C : Pc) (w : World) (h : PvRk w x C) (s : PvSz x) : Calls Tryz.prog 44 #[(.agg #[.int .i64 x.t, .slice x.pr.p x.pr.n x.pr.c, .int .i64 x.eg, .slice x.ed.p x.ed.n x.ed.c, .int .i64 x.ik, .slice x.id.p x.id.n x.id.c, .int .i64 x.am, .slice x.ad.p x.ad.n x.ad.c, .int .i64 x.np, .slice x.ns.p x.ns.n x.ns.c, .int .i64 x.nt, .slice x.nd.p x.nd.n x.nd.c, .int .i64 x.dp, .slice x.ds.p x.ds.n x.ds.c, .slice x.se.p x.se.n x.se.c, .slice x.da.p x.da.n x.da.c])] w (GotBE w (buildB x C).1 (buildB x C).2) := by
  unfold buildB
  by_cases k33 : x.t = 33
  · rw [if_pos k33]
    have := pb_33 x C w (h.a33 k33)
    rw [k33]
    exact this
  rw [if_neg k33]
  by_cases k34 : x.t = 34
  · rw [if_pos k34]
    have := pb_34 x C w (h.a34 k34) (s.ed k34)
    rw [k34]
    exact this
  rw [if_neg k34]
  by_cases k35 : x.t = 35
  · rw [if_pos k35]
    have := pb_35 x C w (h.a35 k35) (s.id (Or.inl k35))
    rw [k35]
    exact this
  rw [if_neg k35]
  by_cases k36 : x.t = 36
  · rw [if_pos k36]
    have := pb_36 x C w (h.a36 k36) (s.id (Or.inr k36))
    rw [k36]
    exact this
  rw [if_neg k36]
  by_cases k39 : x.t = 39
  · rw [if_pos k39]
    have := pb_39 x C w (h.a39 k39) (s.ad k39)
    rw [k39]
    exact this
  rw [if_neg k39]
  by_cases k40 : x.t = 40
  · rw [if_pos k40]
    have := pb_40 x C w (h.aX k33 k34 k35 k36 k39 (by omega) (by omega) (by omega) (by omega)) (s.da k33 k34 k35 k36 k39 (by omega) (by omega) (by omega) (by omega))
    rw [k40]
    exact this
  rw [if_neg k40]
  by_cases k41 : x.t = 41
  · rw [if_pos k41]
    have := pb_41 x C w (h.a41 k41) (s.ns k41) (s.nd k41)
    rw [k41]
    exact this
  rw [if_neg k41]
  by_cases k42 : x.t = 42
  · rw [if_pos k42]
    have := pb_42 x C w (h.a42 k42) (s.ds k42)
    rw [k42]
    exact this
  rw [if_neg k42]
  by_cases k44 : x.t = 44
  · rw [if_pos k44]
    have := pb_44 x C w (h.a44 k44)
    rw [k44]
    exact this
  rw [if_neg k44]
  by_cases k45 : x.t = 45
  · rw [if_pos k45]
    have := pb_45 x C w (h.a45 k45)
    rw [k45]
    exact this
  rw [if_neg k45]
  exact pb_X x C w x.t (h.aX k33 k34 k35 k36 k39 k41 k42 k44 k45) (s.da k33 k34 k35 k36 k39 k41 k42 k44 k45) k33 k34 k35 k36 k39 k40 k41 k42 k44 k45
theorem pBuild_any (x : Pv) (C : Pc) (w : World) (h : PvRk w x C) (s : PvSz x) : Calls Tryz.prog 26 #[(.agg #[.int .i64 x.t, .slice x.pr.p x.pr.n x.pr.c, .int .i64 x.eg, .slice x.ed.p x.ed.n x.ed.c, .int .i64 x.ik, .slice x.id.p x.id.n x.id.c, .int .i64 x.am, .slice x.ad.p x.ad.n x.ad.c, .int .i64 x.np, .slice x.ns.p x.ns.n x.ns.c, .int .i64 x.nt, .slice x.nd.p x.nd.n x.nd.c, .int .i64 x.dp, .slice x.ds.p x.ds.n x.ds.c, .slice x.se.p x.se.n x.se.c, .slice x.da.p x.da.n x.da.c])] w (GotRaw w x.t (buildB x C).1 (rawE x.t (buildB x C).1 (buildB x C).2)) :=
  pBuild_of x _ _ w (fun W hW => pb_any x C W (h.below hW) s) _ rfl

/-- The first error of a body. -/
def parseE (t : Int) (xs : List Int) : Int :=
  if t = 33 then (parseP xs).2 else if t = 34 then exchangeE xs xs.length else if t = 35 then identE xs xs.length else if t = 36 then identE xs xs.length else if t = 39 then authenE xs xs.length
  else if t = 40 then nonceE xs.length else if t = 41 then noteE xs xs.length else if t = 42 then delE xs xs.length else if t = 44 then (parseS xs).2 else if t = 45 then (parseS xs).2 else 0
/-- What is read of a body. -/
structure RdAs (t : Int) (xs : List Int) (x : Pv) (C : Pc) : Prop where
  a33 : t = 33 → C.pr.map PrP.pr = (parseP xs).1
  a34 : t = 34 → x.eg = nthB xs 0 * 256 + nthB xs 1 ∧ C.ed = xs.drop 4
  a35 : t = 35 ∨ t = 36 → x.ik = nthB xs 0 ∧ C.id = xs.drop 4
  a39 : t = 39 → x.am = nthB xs 0 ∧ C.ad = xs.drop 4
  a41 : t = 41 → x.np = nthB xs 0 ∧ x.nt = nthB xs 2 * 256 + nthB xs 3 ∧ C.ns = (xs.drop 4).take (nthB xs 1).toNat ∧ C.nd = xs.drop (4 + (nthB xs 1).toNat)
  a42 : t = 42 → x.dp = nthB xs 0 ∧ C.ds.map Sb.xs = spisL (xs.drop 4) (nthB xs 1).toNat (nthB xs 2 * 256 + nthB xs 3).toNat
  a44 : t = 44 ∨ t = 45 → C.se = (parseS xs).1
  aX : t ≠ 33 → t ≠ 34 → t ≠ 35 → t ≠ 36 → t ≠ 39 → t ≠ 41 → t ≠ 42 → t ≠ 44 → t ≠ 45 → C.da = xs
/-- What is known of a payload that was read out of a body. -/
def gdK (t : Int) (xs : List Int) : Gd where
  ok base w x := ∃ C, (∀ W, Kpt w W base → PvRk W { x with t := t } C) ∧ RdAs t xs x C
  keep h hk := by
    obtain ⟨C, h1, h2⟩ := h
    exact ⟨C, fun W hW => h1 W (Kpt.trans hk hW), h2⟩
  mono h hb := by
    obtain ⟨C, h1, h2⟩ := h
    exact ⟨C, fun W hW => h1 W (hW.mono hb), h2⟩
  ty z h := by
    obtain ⟨C, h1, h2⟩ := h
    exact ⟨C, h1, ⟨h2.a33, h2.a34, h2.a35, h2.a39, h2.a41, h2.a42, h2.a44, h2.aX⟩⟩
theorem Frs.kp {w w' : World} {base : Nat} {p : Option Addr} {n c : Nat} {xs : List Int} (h : Frs w base p n c xs) (hk : Kpt w w' base) : Byt w' p n c xs := (h.keep hk).byt
def Cn : Pc := ⟨[], [], [], [], [], [], [], [], []⟩

theorem pk_33 (p : Option Addr) (n c : Nat) (xs : List Int) (cr : Bool) (w : World) (h : Byt w p n c xs) (hn : n ≤ 1048576) :
    Calls Tryz.prog 39 #[.agg #[.int .i64 33, .bool cr, .slice p n c]] w (ParsedV w 33 (parseE 33 xs) (gdK 33 xs)) := by
  have hE : parseE 33 xs = (parseP xs).2 := by
    have hl := h.len
    subst hl
    rfl
  rw [hE]
  refine pparse_33 p n c xs cr _ (gdK 33 xs) w h (fun W hW => (proposals_read p n c xs W hW (by omega) _ rfl).mono ?_)
  rintro e w' ⟨x, he, hb, hg⟩
  refine ⟨x, he, hb, fun h0 => ?_⟩
  obtain ⟨ls, hl, hr, hn⟩ := hg h0
  exact ⟨{ Cn with pr := ls }, fun W hW => ⟨fun _ => ⟨RowG.kp (D := DPr) hr hn hW (fun _ hx => OkN.kp hx hW)⟩, fun e => absurd e (show ¬ ((33 : Int) = 34) by decide), fun e => absurd e (show ¬ ((33 : Int) = 35) by decide), fun e => absurd e (show ¬ ((33 : Int) = 36) by decide), fun e => absurd e (show ¬ ((33 : Int) = 39) by decide), fun e => absurd e (show ¬ ((33 : Int) = 41) by decide), fun e => absurd e (show ¬ ((33 : Int) = 42) by decide), fun e => absurd e (show ¬ ((33 : Int) = 44) by decide), fun e => absurd e (show ¬ ((33 : Int) = 45) by decide), fun e0 e1 e2 e3 e4 e5 e6 e7 e8 => absurd rfl e0⟩, ⟨fun _ => hl, fun e => absurd e (by decide), fun e => absurd e (by decide), fun e => absurd e (by decide), fun e => absurd e (by decide), fun e => absurd e (by decide), fun e => absurd e (by decide), fun e0 e1 e2 e3 e4 e5 e6 e7 e8 => absurd rfl e0⟩⟩
theorem pk_34 (p : Option Addr) (n c : Nat) (xs : List Int) (cr : Bool) (w : World) (h : Byt w p n c xs) (hn : n ≤ 1048576) :
    Calls Tryz.prog 39 #[.agg #[.int .i64 34, .bool cr, .slice p n c]] w (ParsedV w 34 (parseE 34 xs) (gdK 34 xs)) := by
  have hE : parseE 34 xs = exchangeE xs n := by
    have hl := h.len
    subst hl
    rfl
  rw [hE]
  refine pparse_34 p n c xs cr _ (gdK 34 xs) w h (fun W hW => (exchange_read p n c xs W hW (by omega)).mono ?_)
  rintro e w' ⟨x, he, hb, hg⟩
  refine ⟨x, he, hb, fun h0 => ?_⟩
  obtain ⟨h1, h2⟩ := hg h0
  exact ⟨{ Cn with ed := xs.drop 4 }, fun W hW => ⟨fun e => absurd e (show ¬ ((34 : Int) = 33) by decide), fun _ => ⟨Frs.kp h2 hW⟩, fun e => absurd e (show ¬ ((34 : Int) = 35) by decide), fun e => absurd e (show ¬ ((34 : Int) = 36) by decide), fun e => absurd e (show ¬ ((34 : Int) = 39) by decide), fun e => absurd e (show ¬ ((34 : Int) = 41) by decide), fun e => absurd e (show ¬ ((34 : Int) = 42) by decide), fun e => absurd e (show ¬ ((34 : Int) = 44) by decide), fun e => absurd e (show ¬ ((34 : Int) = 45) by decide), fun e0 e1 e2 e3 e4 e5 e6 e7 e8 => absurd rfl e1⟩, ⟨fun e => absurd e (by decide), fun _ => ⟨h1, rfl⟩, fun e => absurd e (by decide), fun e => absurd e (by decide), fun e => absurd e (by decide), fun e => absurd e (by decide), fun e => absurd e (by decide), fun e0 e1 e2 e3 e4 e5 e6 e7 e8 => absurd rfl e1⟩⟩
theorem pk_35 (p : Option Addr) (n c : Nat) (xs : List Int) (cr : Bool) (w : World) (h : Byt w p n c xs) (hn : n ≤ 1048576) :
    Calls Tryz.prog 39 #[.agg #[.int .i64 35, .bool cr, .slice p n c]] w (ParsedV w 35 (parseE 35 xs) (gdK 35 xs)) := by
  have hE : parseE 35 xs = identE xs n := by
    have hl := h.len
    subst hl
    rfl
  rw [hE]
  refine pparse_35 p n c xs cr _ (gdK 35 xs) w h (fun W hW => (identity_read p n c xs W hW (by omega)).mono ?_)
  rintro e w' ⟨x, he, hb, hg⟩
  refine ⟨x, he, hb, fun h0 => ?_⟩
  obtain ⟨h1, h2⟩ := hg h0
  exact ⟨{ Cn with id := xs.drop 4 }, fun W hW => ⟨fun e => absurd e (show ¬ ((35 : Int) = 33) by decide), fun e => absurd e (show ¬ ((35 : Int) = 34) by decide), fun _ => ⟨Frs.kp h2 hW⟩, fun e => absurd e (show ¬ ((35 : Int) = 36) by decide), fun e => absurd e (show ¬ ((35 : Int) = 39) by decide), fun e => absurd e (show ¬ ((35 : Int) = 41) by decide), fun e => absurd e (show ¬ ((35 : Int) = 42) by decide), fun e => absurd e (show ¬ ((35 : Int) = 44) by decide), fun e => absurd e (show ¬ ((35 : Int) = 45) by decide), fun e0 e1 e2 e3 e4 e5 e6 e7 e8 => absurd rfl e2⟩, ⟨fun e => absurd e (by decide), fun e => absurd e (by decide), fun _ => ⟨h1, rfl⟩, fun e => absurd e (by decide), fun e => absurd e (by decide), fun e => absurd e (by decide), fun e => absurd e (by decide), fun e0 e1 e2 e3 e4 e5 e6 e7 e8 => absurd rfl e2⟩⟩
theorem pk_36 (p : Option Addr) (n c : Nat) (xs : List Int) (cr : Bool) (w : World) (h : Byt w p n c xs) (hn : n ≤ 1048576) :
    Calls Tryz.prog 39 #[.agg #[.int .i64 36, .bool cr, .slice p n c]] w (ParsedV w 36 (parseE 36 xs) (gdK 36 xs)) := by
  have hE : parseE 36 xs = identE xs n := by
    have hl := h.len
    subst hl
    rfl
  rw [hE]
  refine pparse_36 p n c xs cr _ (gdK 36 xs) w h (fun W hW => (identity_read p n c xs W hW (by omega)).mono ?_)
  rintro e w' ⟨x, he, hb, hg⟩
  refine ⟨x, he, hb, fun h0 => ?_⟩
  obtain ⟨h1, h2⟩ := hg h0
  exact ⟨{ Cn with id := xs.drop 4 }, fun W hW => ⟨fun e => absurd e (show ¬ ((36 : Int) = 33) by decide), fun e => absurd e (show ¬ ((36 : Int) = 34) by decide), fun e => absurd e (show ¬ ((36 : Int) = 35) by decide), fun _ => ⟨Frs.kp h2 hW⟩, fun e => absurd e (show ¬ ((36 : Int) = 39) by decide), fun e => absurd e (show ¬ ((36 : Int) = 41) by decide), fun e => absurd e (show ¬ ((36 : Int) = 42) by decide), fun e => absurd e (show ¬ ((36 : Int) = 44) by decide), fun e => absurd e (show ¬ ((36 : Int) = 45) by decide), fun e0 e1 e2 e3 e4 e5 e6 e7 e8 => absurd rfl e3⟩, ⟨fun e => absurd e (by decide), fun e => absurd e (by decide), fun _ => ⟨h1, rfl⟩, fun e => absurd e (by decide), fun e => absurd e (by decide), fun e => absurd e (by decide), fun e => absurd e (by decide), fun e0 e1 e2 e3 e4 e5 e6 e7 e8 => absurd rfl e3⟩⟩
theorem pk_39 (p : Option Addr) (n c : Nat) (xs : List Int) (cr : Bool) (w : World) (h : Byt w p n c xs) (hn : n ≤ 1048576) :
    Calls Tryz.prog 39 #[.agg #[.int .i64 39, .bool cr, .slice p n c]] w (ParsedV w 39 (parseE 39 xs) (gdK 39 xs)) := by
  have hE : parseE 39 xs = authenE xs n := by
    have hl := h.len
    subst hl
    rfl
  rw [hE]
  refine pparse_39 p n c xs cr _ (gdK 39 xs) w h (fun W hW => (auth_read p n c xs W hW (by omega)).mono ?_)
  rintro e w' ⟨x, he, hb, hg⟩
  refine ⟨x, he, hb, fun h0 => ?_⟩
  obtain ⟨h1, h2⟩ := hg h0
  exact ⟨{ Cn with ad := xs.drop 4 }, fun W hW => ⟨fun e => absurd e (show ¬ ((39 : Int) = 33) by decide), fun e => absurd e (show ¬ ((39 : Int) = 34) by decide), fun e => absurd e (show ¬ ((39 : Int) = 35) by decide), fun e => absurd e (show ¬ ((39 : Int) = 36) by decide), fun _ => ⟨Frs.kp h2 hW⟩, fun e => absurd e (show ¬ ((39 : Int) = 41) by decide), fun e => absurd e (show ¬ ((39 : Int) = 42) by decide), fun e => absurd e (show ¬ ((39 : Int) = 44) by decide), fun e => absurd e (show ¬ ((39 : Int) = 45) by decide), fun e0 e1 e2 e3 e4 e5 e6 e7 e8 => absurd rfl e4⟩, ⟨fun e => absurd e (by decide), fun e => absurd e (by decide), fun e => absurd e (by decide), fun _ => ⟨h1, rfl⟩, fun e => absurd e (by decide), fun e => absurd e (by decide), fun e => absurd e (by decide), fun e0 e1 e2 e3 e4 e5 e6 e7 e8 => absurd rfl e4⟩⟩
theorem pk_40 (p : Option Addr) (n c : Nat) (xs : List Int) (cr : Bool) (w : World) (h : Byt w p n c xs) (hn : n ≤ 1048576) :
    Calls Tryz.prog 39 #[.agg #[.int .i64 40, .bool cr, .slice p n c]] w (ParsedV w 40 (parseE 40 xs) (gdK 40 xs)) := by
  have hE : parseE 40 xs = nonceE n := by
    have hl := h.len
    subst hl
    rfl
  rw [hE]
  refine pparse_40 p n c xs cr _ (gdK 40 xs) w h (fun W hW => (nonce_read p n c xs W hW (by omega)).mono ?_)
  rintro e w' ⟨x, he, hb, hg⟩
  refine ⟨x, he, hb, fun h0 => ?_⟩
  obtain h2 := hg h0
  exact ⟨{ Cn with da := xs }, fun W hW => ⟨fun e => absurd e (show ¬ ((40 : Int) = 33) by decide), fun e => absurd e (show ¬ ((40 : Int) = 34) by decide), fun e => absurd e (show ¬ ((40 : Int) = 35) by decide), fun e => absurd e (show ¬ ((40 : Int) = 36) by decide), fun e => absurd e (show ¬ ((40 : Int) = 39) by decide), fun e => absurd e (show ¬ ((40 : Int) = 41) by decide), fun e => absurd e (show ¬ ((40 : Int) = 42) by decide), fun e => absurd e (show ¬ ((40 : Int) = 44) by decide), fun e => absurd e (show ¬ ((40 : Int) = 45) by decide), fun _ _ _ _ _ _ _ _ _ => ⟨Frs.kp h2 hW⟩⟩, ⟨fun e => absurd e (by decide), fun e => absurd e (by decide), fun e => absurd e (by decide), fun e => absurd e (by decide), fun e => absurd e (by decide), fun e => absurd e (by decide), fun e => absurd e (by decide), fun _ _ _ _ _ _ _ _ _ => rfl⟩⟩
theorem pk_41 (p : Option Addr) (n c : Nat) (xs : List Int) (cr : Bool) (w : World) (h : Byt w p n c xs) (hn : n ≤ 1048576) :
    Calls Tryz.prog 39 #[.agg #[.int .i64 41, .bool cr, .slice p n c]] w (ParsedV w 41 (parseE 41 xs) (gdK 41 xs)) := by
  have hE : parseE 41 xs = noteE xs n := by
    have hl := h.len
    subst hl
    rfl
  rw [hE]
  refine pparse_41 p n c xs cr _ (gdK 41 xs) w h (fun W hW => (notify_read p n c xs W hW (by omega)).mono ?_)
  rintro e w' ⟨x, he, hb, hg⟩
  refine ⟨x, he, hb, fun h0 => ?_⟩
  obtain ⟨h1, h2, h3, h4⟩ := hg h0
  exact ⟨{ Cn with ns := (xs.drop 4).take (nthB xs 1).toNat, nd := xs.drop (4 + (nthB xs 1).toNat) }, fun W hW => ⟨fun e => absurd e (show ¬ ((41 : Int) = 33) by decide), fun e => absurd e (show ¬ ((41 : Int) = 34) by decide), fun e => absurd e (show ¬ ((41 : Int) = 35) by decide), fun e => absurd e (show ¬ ((41 : Int) = 36) by decide), fun e => absurd e (show ¬ ((41 : Int) = 39) by decide), fun _ => ⟨Frs.kp h3 hW, Frs.kp h4 hW⟩, fun e => absurd e (show ¬ ((41 : Int) = 42) by decide), fun e => absurd e (show ¬ ((41 : Int) = 44) by decide), fun e => absurd e (show ¬ ((41 : Int) = 45) by decide), fun e0 e1 e2 e3 e4 e5 e6 e7 e8 => absurd rfl e5⟩, ⟨fun e => absurd e (by decide), fun e => absurd e (by decide), fun e => absurd e (by decide), fun e => absurd e (by decide), fun _ => ⟨h1, h2, rfl, rfl⟩, fun e => absurd e (by decide), fun e => absurd e (by decide), fun e0 e1 e2 e3 e4 e5 e6 e7 e8 => absurd rfl e5⟩⟩
theorem pk_42 (p : Option Addr) (n c : Nat) (xs : List Int) (cr : Bool) (w : World) (h : Byt w p n c xs) (hn : n ≤ 1048576) :
    Calls Tryz.prog 39 #[.agg #[.int .i64 42, .bool cr, .slice p n c]] w (ParsedV w 42 (parseE 42 xs) (gdK 42 xs)) := by
  have hE : parseE 42 xs = delE xs n := by
    have hl := h.len
    subst hl
    rfl
  rw [hE]
  refine pparse_42 p n c xs cr _ (gdK 42 xs) w h (fun W hW => (deletion_read p n c xs W hW (by omega)).mono ?_)
  rintro e w' ⟨x, he, hb, hg⟩
  refine ⟨x, he, hb, fun h0 => ?_⟩
  obtain ⟨h1, l, h2, h3⟩ := hg h0
  exact ⟨{ Cn with ds := l }, fun W hW => ⟨fun e => absurd e (show ¬ ((42 : Int) = 33) by decide), fun e => absurd e (show ¬ ((42 : Int) = 34) by decide), fun e => absurd e (show ¬ ((42 : Int) = 35) by decide), fun e => absurd e (show ¬ ((42 : Int) = 36) by decide), fun e => absurd e (show ¬ ((42 : Int) = 39) by decide), fun e => absurd e (show ¬ ((42 : Int) = 41) by decide), fun _ => ⟨RowG.kp (D := DSb) h2 (by obtain ⟨p', c', e, hrd⟩ := h2.sbs rfl; simp at e; rw [e.2.1]) hW (fun _ hx => Bod.kp hx hW)⟩, fun e => absurd e (show ¬ ((42 : Int) = 44) by decide), fun e => absurd e (show ¬ ((42 : Int) = 45) by decide), fun e0 e1 e2 e3 e4 e5 e6 e7 e8 => absurd rfl e6⟩, ⟨fun e => absurd e (by decide), fun e => absurd e (by decide), fun e => absurd e (by decide), fun e => absurd e (by decide), fun e => absurd e (by decide), fun _ => ⟨h1, h3⟩, fun e => absurd e (by decide), fun e0 e1 e2 e3 e4 e5 e6 e7 e8 => absurd rfl e6⟩⟩
theorem pk_44 (p : Option Addr) (n c : Nat) (xs : List Int) (cr : Bool) (w : World) (h : Byt w p n c xs) (hn : n ≤ 1048576) :
    Calls Tryz.prog 39 #[.agg #[.int .i64 44, .bool cr, .slice p n c]] w (ParsedV w 44 (parseE 44 xs) (gdK 44 xs)) := by
  have hE : parseE 44 xs = (parseS xs).2 := by
    have hl := h.len
    subst hl
    rfl
  rw [hE]
  refine pparse_44 p n c xs cr _ (gdK 44 xs) w h (fun W hW => (selectors_read p n c xs W hW _ rfl).mono ?_)
  rintro e w' ⟨x, he, hb, hg⟩
  refine ⟨x, he, hb, fun h0 => ?_⟩
  obtain ⟨h2, h3⟩ := hg h0
  exact ⟨{ Cn with se := (parseS xs).1 }, fun W hW => ⟨fun e => absurd e (show ¬ ((44 : Int) = 33) by decide), fun e => absurd e (show ¬ ((44 : Int) = 34) by decide), fun e => absurd e (show ¬ ((44 : Int) = 35) by decide), fun e => absurd e (show ¬ ((44 : Int) = 36) by decide), fun e => absurd e (show ¬ ((44 : Int) = 39) by decide), fun e => absurd e (show ¬ ((44 : Int) = 41) by decide), fun e => absurd e (show ¬ ((44 : Int) = 42) by decide), fun _ => ⟨RowG.kp (D := DSlr) h2 h3 hW (fun _ hx => hx)⟩, fun e => absurd e (show ¬ ((44 : Int) = 45) by decide), fun e0 e1 e2 e3 e4 e5 e6 e7 e8 => absurd rfl e7⟩, ⟨fun e => absurd e (by decide), fun e => absurd e (by decide), fun e => absurd e (by decide), fun e => absurd e (by decide), fun e => absurd e (by decide), fun e => absurd e (by decide), fun _ => rfl, fun e0 e1 e2 e3 e4 e5 e6 e7 e8 => absurd rfl e7⟩⟩
theorem pk_45 (p : Option Addr) (n c : Nat) (xs : List Int) (cr : Bool) (w : World) (h : Byt w p n c xs) (hn : n ≤ 1048576) :
    Calls Tryz.prog 39 #[.agg #[.int .i64 45, .bool cr, .slice p n c]] w (ParsedV w 45 (parseE 45 xs) (gdK 45 xs)) := by
  have hE : parseE 45 xs = (parseS xs).2 := by
    have hl := h.len
    subst hl
    rfl
  rw [hE]
  refine pparse_45 p n c xs cr _ (gdK 45 xs) w h (fun W hW => (selectors_read p n c xs W hW _ rfl).mono ?_)
  rintro e w' ⟨x, he, hb, hg⟩
  refine ⟨x, he, hb, fun h0 => ?_⟩
  obtain ⟨h2, h3⟩ := hg h0
  exact ⟨{ Cn with se := (parseS xs).1 }, fun W hW => ⟨fun e => absurd e (show ¬ ((45 : Int) = 33) by decide), fun e => absurd e (show ¬ ((45 : Int) = 34) by decide), fun e => absurd e (show ¬ ((45 : Int) = 35) by decide), fun e => absurd e (show ¬ ((45 : Int) = 36) by decide), fun e => absurd e (show ¬ ((45 : Int) = 39) by decide), fun e => absurd e (show ¬ ((45 : Int) = 41) by decide), fun e => absurd e (show ¬ ((45 : Int) = 42) by decide), fun e => absurd e (show ¬ ((45 : Int) = 44) by decide), fun _ => ⟨RowG.kp (D := DSlr) h2 h3 hW (fun _ hx => hx)⟩, fun e0 e1 e2 e3 e4 e5 e6 e7 e8 => absurd rfl e8⟩, ⟨fun e => absurd e (by decide), fun e => absurd e (by decide), fun e => absurd e (by decide), fun e => absurd e (by decide), fun e => absurd e (by decide), fun e => absurd e (by decide), fun _ => rfl, fun e0 e1 e2 e3 e4 e5 e6 e7 e8 => absurd rfl e8⟩⟩
theorem pk_37 (p : Option Addr) (n c : Nat) (xs : List Int) (cr : Bool) (w : World) (h : Byt w p n c xs) (hn : n ≤ 1048576) :
    Calls Tryz.prog 39 #[.agg #[.int .i64 37, .bool cr, .slice p n c]] w (ParsedV w 37 (parseE 37 xs) (gdK 37 xs)) := by
  have hE : parseE 37 xs = 0 := by
    have hl := h.len
    subst hl
    rfl
  rw [hE]
  refine pparse_37 p n c xs cr _ (gdK 37 xs) w h (fun W hW => (data_read p n c xs W hW (by omega)).mono ?_)
  rintro e w' ⟨x, he, hb, hg⟩
  refine ⟨x, he, hb, fun h0 => ?_⟩
  obtain h2 := hg h0
  exact ⟨{ Cn with da := xs }, fun W hW => ⟨fun e => absurd e (show ¬ ((37 : Int) = 33) by decide), fun e => absurd e (show ¬ ((37 : Int) = 34) by decide), fun e => absurd e (show ¬ ((37 : Int) = 35) by decide), fun e => absurd e (show ¬ ((37 : Int) = 36) by decide), fun e => absurd e (show ¬ ((37 : Int) = 39) by decide), fun e => absurd e (show ¬ ((37 : Int) = 41) by decide), fun e => absurd e (show ¬ ((37 : Int) = 42) by decide), fun e => absurd e (show ¬ ((37 : Int) = 44) by decide), fun e => absurd e (show ¬ ((37 : Int) = 45) by decide), fun _ _ _ _ _ _ _ _ _ => ⟨Frs.kp h2 hW⟩⟩, ⟨fun e => absurd e (by decide), fun e => absurd e (by decide), fun e => absurd e (by decide), fun e => absurd e (by decide), fun e => absurd e (by decide), fun e => absurd e (by decide), fun e => absurd e (by decide), fun _ _ _ _ _ _ _ _ _ => rfl⟩⟩
theorem pk_43 (p : Option Addr) (n c : Nat) (xs : List Int) (cr : Bool) (w : World) (h : Byt w p n c xs) (hn : n ≤ 1048576) :
    Calls Tryz.prog 39 #[.agg #[.int .i64 43, .bool cr, .slice p n c]] w (ParsedV w 43 (parseE 43 xs) (gdK 43 xs)) := by
  have hE : parseE 43 xs = 0 := by
    have hl := h.len
    subst hl
    rfl
  rw [hE]
  refine pparse_43 p n c xs cr _ (gdK 43 xs) w h (fun W hW => (data_read p n c xs W hW (by omega)).mono ?_)
  rintro e w' ⟨x, he, hb, hg⟩
  refine ⟨x, he, hb, fun h0 => ?_⟩
  obtain h2 := hg h0
  exact ⟨{ Cn with da := xs }, fun W hW => ⟨fun e => absurd e (show ¬ ((43 : Int) = 33) by decide), fun e => absurd e (show ¬ ((43 : Int) = 34) by decide), fun e => absurd e (show ¬ ((43 : Int) = 35) by decide), fun e => absurd e (show ¬ ((43 : Int) = 36) by decide), fun e => absurd e (show ¬ ((43 : Int) = 39) by decide), fun e => absurd e (show ¬ ((43 : Int) = 41) by decide), fun e => absurd e (show ¬ ((43 : Int) = 42) by decide), fun e => absurd e (show ¬ ((43 : Int) = 44) by decide), fun e => absurd e (show ¬ ((43 : Int) = 45) by decide), fun _ _ _ _ _ _ _ _ _ => ⟨Frs.kp h2 hW⟩⟩, ⟨fun e => absurd e (by decide), fun e => absurd e (by decide), fun e => absurd e (by decide), fun e => absurd e (by decide), fun e => absurd e (by decide), fun e => absurd e (by decide), fun e => absurd e (by decide), fun _ _ _ _ _ _ _ _ _ => rfl⟩⟩
end Go.Proofs.YtkniifopfgeopaaGreat

namespace Go.Proofs.YtkniifopfgeopaaGreat
open Go.RowKit
set_option linter.unusedVariables false

end Go.Proofs.YtkniifopfgeopaaGreat

namespace Go.Proofs.YtkniifopfgeopaaGreat
open Go.RowKit
set_option linter.unusedVariables false

def Kind12 (t : Int) : Prop := t = 33 ∨ t = 34 ∨ t = 35 ∨ t = 36 ∨ t = 39 ∨ t = 40 ∨ t = 41 ∨ t = 42 ∨ t = 44 ∨ t = 45 ∨ t = 37 ∨ t = 43
theorem pk_any (t : Int) (ht : Kind12 t) (p : Option Addr) (n c : Nat) (xs : List Int) (cr : Bool) (w : World) (h : Byt w p n c xs) (hn : n ≤ 1048576) :
    Calls Tryz.prog 39 #[.agg #[.int .i64 t, .bool cr, .slice p n c]] w (ParsedV w t (parseE t xs) (gdK t xs)) := by
  rcases ht with rfl | rfl | rfl | rfl | rfl | rfl | rfl | rfl | rfl | rfl | rfl | rfl
  · exact pk_33 p n c xs cr w h hn
  · exact pk_34 p n c xs cr w h hn
  · exact pk_35 p n c xs cr w h hn
  · exact pk_36 p n c xs cr w h hn
  · exact pk_39 p n c xs cr w h hn
  · exact pk_40 p n c xs cr w h hn
  · exact pk_41 p n c xs cr w h hn
  · exact pk_42 p n c xs cr w h hn
  · exact pk_44 p n c xs cr w h hn
  · exact pk_45 p n c xs cr w h hn
  · exact pk_37 p n c xs cr w h hn
  · exact pk_43 p n c xs cr w h hn
/-- What was drawn is written, in few bytes. -/
theorem vld_build (x : Pv) (C : Pc) (w : World) (h : PvRd w x C) (hn : NumOk x) (hv : Vld x C) (hk : Kind12 x.t) : (buildB x C).2 = 0 ∧ (buildB x C).1.length ≤ 8000 ∧ PvSz x := by
  obtain ⟨n1, n2, n3, n4⟩ := hn
  have hdl := h.ds.len
  unfold buildB
  rcases hk with e | e | e | e | e | e | e | e | e | e | e | e
  · have v := (vld33 e).1 hv
    rw [if_pos e]
    have h1 := encPs_le (C.pr.map PrP.pr) (checkP_ok v).2.2
    have h2 := (checkP_ok v).2.1
    refine ⟨by unfold buildP; rw [v, if_neg (by simp)], ?_, ⟨fun h0 => by rw [e] at h0; exact absurd h0 (by decide), fun h0 => by rw [e] at h0; exact absurd h0 (by decide), fun h0 => by rw [e] at h0; exact absurd h0 (by decide), fun h0 => by rw [e] at h0; exact absurd h0 (by decide), fun h0 => by rw [e] at h0; exact absurd h0 (by decide), fun h0 => by rw [e] at h0; exact absurd h0 (by decide), fun a1 a2 a3 a4 a5 a6 a7 a8 a9 => absurd e a1⟩⟩
    unfold buildP
    rw [v, if_neg (by simp)]
    show (encPs _).length ≤ _
    omega
  · have v := (vld34 e).1 hv
    rw [if_neg (by rw [e]; decide), if_pos e]
    have hl := h.ed.len
    refine ⟨by show exchE _ _ = 0; unfold exchE; rw [if_neg (by omega), if_neg (by omega)], ?_, ⟨fun _ => by omega, fun h0 => by rw [e] at h0; exact absurd h0 (by decide), fun h0 => by rw [e] at h0; exact absurd h0 (by decide), fun h0 => by rw [e] at h0; exact absurd h0 (by decide), fun h0 => by rw [e] at h0; exact absurd h0 (by decide), fun h0 => by rw [e] at h0; exact absurd h0 (by decide), fun a1 a2 a3 a4 a5 a6 a7 a8 a9 => absurd e a2⟩⟩
    show (exchL _ _).length ≤ _
    simp [exchL]
    omega
  · have v := (vld35 e).1 hv
    rw [if_neg (by rw [e]; decide), if_neg (by rw [e]; decide), if_pos e]
    have hl := h.id.len
    refine ⟨?_, ?_, ⟨fun h0 => by rw [e] at h0; exact absurd h0 (by decide), fun _ => by omega, fun h0 => by rw [e] at h0; exact absurd h0 (by decide), fun h0 => by rw [e] at h0; exact absurd h0 (by decide), fun h0 => by rw [e] at h0; exact absurd h0 (by decide), fun h0 => by rw [e] at h0; exact absurd h0 (by decide), fun a1 a2 a3 a4 a5 a6 a7 a8 a9 => absurd e a3⟩⟩
    · show idE _ _ = 0
      obtain ⟨v1, v2, v3⟩ := v
      unfold idE
      rw [if_neg (by omega), if_neg (by omega), if_pos v1, if_neg (by omega)]
    · show (headL _ _).length ≤ _
      simp [headL]
      omega
  · have v := (vld36 e).1 hv
    rw [if_neg (by rw [e]; decide), if_neg (by rw [e]; decide), if_neg (by rw [e]; decide), if_pos e]
    have hl := h.id.len
    refine ⟨?_, ?_, ⟨fun h0 => by rw [e] at h0; exact absurd h0 (by decide), fun _ => by omega, fun h0 => by rw [e] at h0; exact absurd h0 (by decide), fun h0 => by rw [e] at h0; exact absurd h0 (by decide), fun h0 => by rw [e] at h0; exact absurd h0 (by decide), fun h0 => by rw [e] at h0; exact absurd h0 (by decide), fun a1 a2 a3 a4 a5 a6 a7 a8 a9 => absurd e a4⟩⟩
    · show idE _ _ = 0
      obtain ⟨v1, v2, v3⟩ := v
      unfold idE
      rw [if_neg (by omega), if_neg (by omega), if_pos v1, if_neg (by omega)]
    · show (headL _ _).length ≤ _
      simp [headL]
      omega
  · have v := (vld39 e).1 hv
    rw [if_neg (by rw [e]; decide), if_neg (by rw [e]; decide), if_neg (by rw [e]; decide), if_neg (by rw [e]; decide), if_pos e]
    have hl := h.ad.len
    refine ⟨?_, ?_, ⟨fun h0 => by rw [e] at h0; exact absurd h0 (by decide), fun h0 => by rw [e] at h0; exact absurd h0 (by decide), fun _ => by omega, fun h0 => by rw [e] at h0; exact absurd h0 (by decide), fun h0 => by rw [e] at h0; exact absurd h0 (by decide), fun h0 => by rw [e] at h0; exact absurd h0 (by decide), fun a1 a2 a3 a4 a5 a6 a7 a8 a9 => absurd e a5⟩⟩
    · show authE _ _ = 0
      unfold authE
      rw [if_neg (by omega), if_neg (by omega)]
    · show (headL _ _).length ≤ _
      simp [headL]
      omega
  · have v := (vld40 e).1 hv
    rw [if_neg (by rw [e]; decide), if_neg (by rw [e]; decide), if_neg (by rw [e]; decide), if_neg (by rw [e]; decide), if_neg (by rw [e]; decide), if_pos e]
    have hl := h.da.len
    refine ⟨?_, ?_, ⟨fun h0 => by rw [e] at h0; exact absurd h0 (by decide), fun h0 => by rw [e] at h0; exact absurd h0 (by decide), fun h0 => by rw [e] at h0; exact absurd h0 (by decide), fun h0 => by rw [e] at h0; exact absurd h0 (by decide), fun h0 => by rw [e] at h0; exact absurd h0 (by decide), fun h0 => by rw [e] at h0; exact absurd h0 (by decide), fun _ _ _ _ _ _ _ _ _ => by omega⟩⟩
    · show nonceE _ = 0
      unfold nonceE
      rw [if_neg (by omega)]
    · show C.da.length ≤ _
      omega
  · have v := (vld41 e).1 hv
    rw [if_neg (by rw [e]; decide), if_neg (by rw [e]; decide), if_neg (by rw [e]; decide), if_neg (by rw [e]; decide), if_neg (by rw [e]; decide), if_neg (by rw [e]; decide), if_pos e]
    have hl := h.ns.len
    have hl2 := h.nd.len
    refine ⟨?_, ?_, ⟨fun h0 => by rw [e] at h0; exact absurd h0 (by decide), fun h0 => by rw [e] at h0; exact absurd h0 (by decide), fun h0 => by rw [e] at h0; exact absurd h0 (by decide), fun _ => by omega, fun _ => by omega, fun h0 => by rw [e] at h0; exact absurd h0 (by decide), fun a1 a2 a3 a4 a5 a6 a7 a8 a9 => absurd e a6⟩⟩
    · show notifyE _ _ _ = 0
      unfold notifyE
      rw [if_neg (by omega), if_pos]
      rcases v with ⟨v1, v2⟩ | ⟨v1, v2⟩
      · rw [v1, v2]; rfl
      · rw [v1, v2]; rfl
    · show (noteL _ _ _ _).length ≤ _
      simp [noteL]
      omega
  · have v := (vld42 e).1 hv
    rw [if_neg (by rw [e]; decide), if_neg (by rw [e]; decide), if_neg (by rw [e]; decide), if_neg (by rw [e]; decide), if_neg (by rw [e]; decide), if_neg (by rw [e]; decide), if_neg (by rw [e]; decide), if_pos e]
    rcases v with ⟨v1, v2⟩ | ⟨v1, v2 | v2⟩
    · have hd0 : x.ds.n = 0 := by rw [← hdl, v2]; rfl
      rw [v1, v2]
      exact ⟨by decide, by decide, ⟨fun h0 => by rw [e] at h0; exact absurd h0 (by decide), fun h0 => by rw [e] at h0; exact absurd h0 (by decide), fun h0 => by rw [e] at h0; exact absurd h0 (by decide), fun h0 => by rw [e] at h0; exact absurd h0 (by decide), fun h0 => by rw [e] at h0; exact absurd h0 (by decide), fun _ => by omega, fun a1 a2 a3 a4 a5 a6 a7 a8 a9 => absurd e a7⟩⟩
    · have hd0 : x.ds.n = 1 := by rw [← hdl]; have := congrArg List.length v2; simpa using this
      rw [v1, v2]
      exact ⟨by decide, by decide, ⟨fun h0 => by rw [e] at h0; exact absurd h0 (by decide), fun h0 => by rw [e] at h0; exact absurd h0 (by decide), fun h0 => by rw [e] at h0; exact absurd h0 (by decide), fun h0 => by rw [e] at h0; exact absurd h0 (by decide), fun h0 => by rw [e] at h0; exact absurd h0 (by decide), fun _ => by omega, fun a1 a2 a3 a4 a5 a6 a7 a8 a9 => absurd e a7⟩⟩
    · have hd0 : x.ds.n = 2 := by rw [← hdl]; have := congrArg List.length v2; simpa using this
      rw [v1, v2]
      exact ⟨by decide, by decide, ⟨fun h0 => by rw [e] at h0; exact absurd h0 (by decide), fun h0 => by rw [e] at h0; exact absurd h0 (by decide), fun h0 => by rw [e] at h0; exact absurd h0 (by decide), fun h0 => by rw [e] at h0; exact absurd h0 (by decide), fun h0 => by rw [e] at h0; exact absurd h0 (by decide), fun _ => by omega, fun a1 a2 a3 a4 a5 a6 a7 a8 a9 => absurd e a7⟩⟩
  · have v := (vld44 e).1 hv
    rw [if_neg (by rw [e]; decide), if_neg (by rw [e]; decide), if_neg (by rw [e]; decide), if_neg (by rw [e]; decide), if_neg (by rw [e]; decide), if_neg (by rw [e]; decide), if_neg (by rw [e]; decide), if_neg (by rw [e]; decide), if_pos e]
    obtain ⟨v1, v2, v3⟩ := v
    have h1 := encL_le C.se v1
    have h2 := errL_good (fun s hs => (v1 s hs).check)
    have h3 : buildS C.se = ([(C.se.length : Int), 0, 0, 0] ++ encL C.se, 0) := by
      unfold buildS
      rw [if_neg (by omega), if_neg (by omega), h2, if_neg (by simp)]
    rw [h3]
    refine ⟨rfl, ?_, ⟨fun h0 => by rw [e] at h0; exact absurd h0 (by decide), fun h0 => by rw [e] at h0; exact absurd h0 (by decide), fun h0 => by rw [e] at h0; exact absurd h0 (by decide), fun h0 => by rw [e] at h0; exact absurd h0 (by decide), fun h0 => by rw [e] at h0; exact absurd h0 (by decide), fun h0 => by rw [e] at h0; exact absurd h0 (by decide), fun a1 a2 a3 a4 a5 a6 a7 a8 a9 => absurd e a8⟩⟩
    show (_ ++ _ : List Int).length ≤ _
    simp only [List.length_append, List.length_cons, List.length_nil]
    omega
  · have v := (vld45 e).1 hv
    rw [if_neg (by rw [e]; decide), if_neg (by rw [e]; decide), if_neg (by rw [e]; decide), if_neg (by rw [e]; decide), if_neg (by rw [e]; decide), if_neg (by rw [e]; decide), if_neg (by rw [e]; decide), if_neg (by rw [e]; decide), if_neg (by rw [e]; decide), if_pos e]
    obtain ⟨v1, v2, v3⟩ := v
    have h1 := encL_le C.se v1
    have h2 := errL_good (fun s hs => (v1 s hs).check)
    have h3 : buildS C.se = ([(C.se.length : Int), 0, 0, 0] ++ encL C.se, 0) := by
      unfold buildS
      rw [if_neg (by omega), if_neg (by omega), h2, if_neg (by simp)]
    rw [h3]
    refine ⟨rfl, ?_, ⟨fun h0 => by rw [e] at h0; exact absurd h0 (by decide), fun h0 => by rw [e] at h0; exact absurd h0 (by decide), fun h0 => by rw [e] at h0; exact absurd h0 (by decide), fun h0 => by rw [e] at h0; exact absurd h0 (by decide), fun h0 => by rw [e] at h0; exact absurd h0 (by decide), fun h0 => by rw [e] at h0; exact absurd h0 (by decide), fun a1 a2 a3 a4 a5 a6 a7 a8 a9 => absurd e a9⟩⟩
    show (_ ++ _ : List Int).length ≤ _
    simp only [List.length_append, List.length_cons, List.length_nil]
    omega
  · have v := (vld37 e).1 hv
    rw [if_neg (by rw [e]; decide), if_neg (by rw [e]; decide), if_neg (by rw [e]; decide), if_neg (by rw [e]; decide), if_neg (by rw [e]; decide), if_neg (by rw [e]; decide), if_neg (by rw [e]; decide), if_neg (by rw [e]; decide), if_neg (by rw [e]; decide), if_neg (by rw [e]; decide)]
    have hl := h.da.len
    exact ⟨rfl, by show C.da.length ≤ _; omega, ⟨fun h0 => by rw [e] at h0; exact absurd h0 (by decide), fun h0 => by rw [e] at h0; exact absurd h0 (by decide), fun h0 => by rw [e] at h0; exact absurd h0 (by decide), fun h0 => by rw [e] at h0; exact absurd h0 (by decide), fun h0 => by rw [e] at h0; exact absurd h0 (by decide), fun h0 => by rw [e] at h0; exact absurd h0 (by decide), fun _ _ _ _ _ _ _ _ _ => by omega⟩⟩
  · have v := (vld43 e).1 hv
    rw [if_neg (by rw [e]; decide), if_neg (by rw [e]; decide), if_neg (by rw [e]; decide), if_neg (by rw [e]; decide), if_neg (by rw [e]; decide), if_neg (by rw [e]; decide), if_neg (by rw [e]; decide), if_neg (by rw [e]; decide), if_neg (by rw [e]; decide), if_neg (by rw [e]; decide)]
    have hl := h.da.len
    exact ⟨rfl, by show C.da.length ≤ _; omega, ⟨fun h0 => by rw [e] at h0; exact absurd h0 (by decide), fun h0 => by rw [e] at h0; exact absurd h0 (by decide), fun h0 => by rw [e] at h0; exact absurd h0 (by decide), fun h0 => by rw [e] at h0; exact absurd h0 (by decide), fun h0 => by rw [e] at h0; exact absurd h0 (by decide), fun h0 => by rw [e] at h0; exact absurd h0 (by decide), fun _ _ _ _ _ _ _ _ _ => by omega⟩⟩
/-- What was read out of few bytes is small. -/
theorem rd_sz (t : Int) (xs : List Int) (hr : ∀ z ∈ xs, 0 ≤ z ∧ z ≤ 255) (hl : xs.length ≤ 1000000) (x : Pv) (C : Pc) (w : World) (h : PvRk w x C) (hd : RdAs x.t xs x C) : PvSz x := by
  have b2 : 0 ≤ nthB xs 2 ∧ nthB xs 2 ≤ 255 := rng_getD hr 2
  have b3 : 0 ≤ nthB xs 3 ∧ nthB xs 3 ≤ 255 := rng_getD hr 3
  refine ⟨fun e => ?_, fun e => ?_, fun e => ?_, fun e => ?_, fun e => ?_, fun e => ?_, fun a1 a2 a3 a4 a5 a6 a7 a8 a9 => ?_⟩
  · have := (h.a34 e).ed.len
    rw [(hd.a34 e).2, List.length_drop] at this
    omega
  · have h1 := (hd.a35 e).2
    rcases e with e | e
    · have := (h.a35 e).id.len
      rw [h1, List.length_drop] at this
      omega
    · have := (h.a36 e).id.len
      rw [h1, List.length_drop] at this
      omega
  · have := (h.a39 e).ad.len
    rw [(hd.a39 e).2, List.length_drop] at this
    omega
  · have := (h.a41 e).ns.len
    rw [(hd.a41 e).2.2.1, List.length_take, List.length_drop] at this
    omega
  · have := (h.a41 e).nd.len
    rw [(hd.a41 e).2.2.2, List.length_drop] at this
    omega
  · have h1 := (h.a42 e).ds.len
    have h2 := congrArg List.length (hd.a42 e).2
    simp only [spisL, List.length_map, List.length_range] at h2
    omega
  · have := (h.aX a1 a2 a3 a4 a5 a6 a7 a8 a9).da.len
    rw [hd.aX a1 a2 a3 a4 a5 a6 a7 a8 a9] at this
    omega
end Go.Proofs.YtkniifopfgeopaaGreat

namespace Go.Proofs.YtkniifopfgeopaaGreat
open Go.RowKit
set_option linter.unusedVariables false

theorem parseE_X (t : Int) (ht : Other t) (xs : List Int) : parseE t xs = 0 := by
  obtain ⟨h33, h34, h35, h36, h39, h40, h41, h42, h44, h45⟩ := ht
  unfold parseE
  rw [if_neg h33, if_neg h34, if_neg h35, if_neg h36, if_neg h39, if_neg h40, if_neg h41, if_neg h42, if_neg h44, if_neg h45]
theorem pk_X (t : Int) (ht : Other t) (p : Option Addr) (n c : Nat) (xs : List Int) (cr : Bool) (w : World) (h : Byt w p n c xs) (hn : n ≤ 1048576) :
    Calls Tryz.prog 39 #[.agg #[.int .i64 t, .bool cr, .slice p n c]] w (ParsedV w t (parseE t xs) (gdK t xs)) := by
  rw [parseE_X t ht]
  refine pparse_X t ht p n c xs cr _ (gdK t xs) w h (fun W hW => (data_read p n c xs W hW (by omega)).mono ?_)
  obtain ⟨h33, h34, h35, h36, h39, h40, h41, h42, h44, h45⟩ := ht
  rintro e w' ⟨x, he, hb, hg⟩
  refine ⟨x, he, hb, fun h0 => ?_⟩
  obtain h2 := hg h0
  exact ⟨{ Cn with da := xs }, fun W hW => ⟨fun e => absurd e h33, fun e => absurd e h34, fun e => absurd e h35, fun e => absurd e h36, fun e => absurd e h39, fun e => absurd e h41, fun e => absurd e h42, fun e => absurd e h44, fun e => absurd e h45, fun _ _ _ _ _ _ _ _ _ => ⟨Frs.kp h2 hW⟩⟩,
    ⟨fun e => absurd e h33, fun e => absurd e h34, fun e => absurd e (by omega), fun e => absurd e h39, fun e => absurd e h41, fun e => absurd e h42, fun e => absurd e (by omega), fun _ _ _ _ _ _ _ _ _ => rfl⟩⟩
theorem pk_all (t : Int) (p : Option Addr) (n c : Nat) (xs : List Int) (cr : Bool) (w : World) (h : Byt w p n c xs) (hn : n ≤ 1048576) :
    Calls Tryz.prog 39 #[.agg #[.int .i64 t, .bool cr, .slice p n c]] w (ParsedV w t (parseE t xs) (gdK t xs)) := by
  by_cases ht : Kind12 t
  · exact pk_any t ht p n c xs cr w h hn
  · exact pk_X t (by unfold Kind12 at ht; unfold Other; omega) p n c xs cr w h hn
end Go.Proofs.YtkniifopfgeopaaGreat

namespace Go.Proofs.YtkniifopfgeopaaGreat
open Go.RowKit
set_option linter.unusedVariables false

/-- No error, or one with a notification. -/
def Rp0 (e : Int) : Prop := e = 0 ∨ Rpl e
instance (e : Int) : Decidable (Rp0 e) := by unfold Rp0; infer_instance
theorem rp_trs (l : List Tr) : ∀ s, Rp0 (errTrs s l) := by
  induction l with
  | nil => exact fun s => Or.inl rfl
  | cons x l ih =>
    intro s
    unfold errTrs
    repeat' split
    all_goals first | decide | exact ih _
theorem rp_pr (p : Pr) (n : Int) : Rp0 (errPr p n) := by
  unfold errPr
  repeat' split
  all_goals first | decide | exact rp_trs _ _
theorem rp_prs (l : List Pr) : ∀ n, Rp0 (errPrs n l) := by
  induction l with
  | nil => exact fun n => Or.inl rfl
  | cons x l ih =>
    intro n
    unfold errPrs
    split
    · exact rp_pr _ _
    · exact ih _
theorem rp_checkP (l : List Pr) : Rp0 (checkP l) := by
  unfold checkP
  repeat' split
  all_goals first | decide | exact rp_prs _ _
theorem rp_parseP (xs : List Int) : Rp0 (parseP xs).2 := by
  unfold parseP
  split
  · exact (by decide : Rp0 1)
  · split
    · exact (by decide : Rp0 4)
    · split
      · exact rp_checkP _
      · exact Or.inl rfl
theorem rp_checkS (s : Sl) : Rp0 (checkS s) := by
  unfold checkS
  repeat' split
  all_goals decide
theorem rp_errL (l : List Sl) : Rp0 (errL l) := by
  induction l with
  | nil => exact Or.inl rfl
  | cons x l ih =>
    unfold errL
    split
    · exact rp_checkS _
    · exact ih
theorem rp_parseS (xs : List Int) : Rp0 (parseS xs).2 := by
  unfold parseS
  split
  · exact (by decide : Rp0 1)
  · split
    · exact (by decide : Rp0 8)
    · split
      · exact (by decide : Rp0 10)
      · split
        · exact (by decide : Rp0 4)
        · split
          · exact rp_errL _
          · exact Or.inl rfl
theorem rp_notify (a b c : Int) : Rp0 (notifyE a b c) := by
  unfold notifyE
  repeat' split
  all_goals decide
theorem rp_delete (a b c : Int) : Rp0 (deleteE a b c) := by
  unfold deleteE
  repeat' split
  all_goals decide
/-- payload.Parse's. -/
theorem rp_parseE (t : Int) (xs : List Int) : Rp0 (parseE t xs) := by
  unfold parseE
  repeat' split
  · exact rp_parseP _
  · unfold exchangeE exchE; repeat' split
    all_goals decide
  · unfold identE idE; repeat' split
    all_goals decide
  · unfold identE idE; repeat' split
    all_goals decide
  · unfold authenE authE; repeat' split
    all_goals decide
  · unfold nonceE; repeat' split
    all_goals decide
  · unfold noteE; repeat' split
    all_goals first | decide | exact rp_notify _ _ _
  · unfold delE spisX; repeat' split
    all_goals first | decide | exact rp_delete _ _ _
  · exact rp_parseS _
  · exact rp_parseS _
  · decide
/-- The header's. -/
theorem rp_checkR (i r n x f m : Int) : Rp0 (checkR i r n x f m) := by
  unfold checkR
  repeat' split
  all_goals decide
theorem rp_parseR (xs : List Int) : Rp0 (parseR xs).2 := by
  unfold parseR parseV
  split
  · exact (by decide : Rp0 1)
  · split
    · exact (by decide : Rp0 3)
    · split
      · exact (by decide : Rp0 2)
      · split
        · exact rp_checkR _ _ _ _ _ _
        · exact Or.inl rfl
/-- The message's. -/
theorem rp_checkM (x f : Int) (l : List Pv) : Rp0 (checkM x f l) := by
  unfold checkM
  simp only
  repeat' split
  all_goals decide
/-- The chain's. -/
theorem preC_e (out : List Raw) (r : ResC) : (preC out r).e = r.e := by
  unfold preC
  split
  · rfl
  · rename_i h
    have : r.e = 0 := by omega
    exact this.symm
theorem rp_parseC : ∀ (left : Nat) (k : Int) (xs : List Int), Rp0 (parseC left k xs).e
  | 0, k, xs => by
    by_cases h : k = 0
    · subst h
      rw [parseC_end]
      split
      · exact (by decide : Rp0 2)
      · exact Or.inl rfl
    · rw [parseC_many k xs h]
      exact (by decide : Rp0 10)
  | left + 1, k, xs => by
    by_cases h : k = 0
    · subst h
      rw [parseC_end]
      split
      · exact (by decide : Rp0 2)
      · exact Or.inl rfl
    · rw [parseC_more left k xs h]
      split
      · exact (by decide : Rp0 1)
      · split
        · exact (by decide : Rp0 2)
        · split
          · split
            · exact (by decide : Rp0 2)
            · exact Or.inl rfl
          · rw [preC_e]
            exact rp_parseC left _ _
theorem rp_parseTop (k : Int) (xs : List Int) : Rp0 (parseTop k xs).e := by
  unfold parseTop
  split
  · exact (by decide : Rp0 5)
  · exact rp_parseC _ _ _
/-- What the raw payloads of a chain of bytes are like. -/
def RawOk (N : Nat) (r : Raw) : Prop := 0 ≤ r.k ∧ r.k ≤ 255 ∧ r.b.length ≤ N ∧ ∀ z ∈ r.b, 0 ≤ z ∧ z ≤ 255
theorem getD_rng (xs : List Int) (h : ∀ z ∈ xs, 0 ≤ z ∧ z ≤ 255) (j : Nat) : 0 ≤ xs.getD j 0 ∧ xs.getD j 0 ≤ 255 := by
  rw [List.getD_eq_getElem?_getD]
  by_cases hj : j < xs.length
  · rw [List.getElem?_eq_getElem hj]
    exact h _ (List.getElem_mem _)
  · rw [List.getElem?_eq_none (by omega)]
    exact ⟨by decide, by decide⟩
theorem headC_ok (N : Nat) (k : Int) (xs : List Int) (hk : 0 ≤ k ∧ k ≤ 255) (h : ∀ z ∈ xs, 0 ≤ z ∧ z ≤ 255) (hN : xs.length ≤ N) : RawOk N (headC k xs) :=
  ⟨hk.1, hk.2, by simp only [headC, List.length_take, List.length_drop]; omega, fun z hz => h z (List.mem_of_mem_drop (List.mem_of_mem_take hz))⟩
theorem parseC_ok (N : Nat) : ∀ (left : Nat) (k : Int) (xs : List Int), 0 ≤ k ∧ k ≤ 255 → (∀ z ∈ xs, 0 ≤ z ∧ z ≤ 255) → xs.length ≤ N → ∀ r ∈ (parseC left k xs).l, RawOk N r
  | 0, k, xs, hk, h, hN => by
    by_cases h0 : k = 0
    · subst h0
      rw [parseC_end]
      split <;> (intro r hr; cases hr)
    · rw [parseC_many k xs h0]
      intro r hr; cases hr
  | left + 1, k, xs, hk, h, hN => by
    by_cases h0 : k = 0
    · subst h0
      rw [parseC_end]
      split <;> (intro r hr; cases hr)
    · rw [parseC_more left k xs h0]
      split
      · intro r hr; cases hr
      · split
        · intro r hr; cases hr
        · split
          · split
            · intro r hr; cases hr
            · intro r hr
              rw [List.mem_singleton.1 hr]
              exact headC_ok N k xs hk h hN
          · intro r hr
            unfold preC at hr
            split at hr
            · cases hr
            · rcases List.mem_append.1 hr with hr | hr
              · rw [List.mem_singleton.1 hr]
                exact headC_ok N k xs hk h hN
              · exact parseC_ok N left _ _ (getD_rng xs h 0) (fun z hz => h z (List.mem_of_mem_drop hz)) (by rw [List.length_drop]; omega) r hr
theorem parseTop_ok (N : Nat) (k : Int) (xs : List Int) (h : ∀ z ∈ xs, 0 ≤ z ∧ z ≤ 255) (hN : xs.length ≤ N) : ∀ r ∈ (parseTop k xs).l, RawOk N r := by
  unfold parseTop
  split
  · intro r hr; cases hr
  · exact parseC_ok N _ _ _ (by omega) h hN
end Go.Proofs.YtkniifopfgeopaaGreat
