/-
  Package payload's Parse and Build at all types: by pure functions of what is read and written.
-/
import Derived.Test.YtpocehpejbnemaaDoorRPayKp
import Derived.Test.YtpocehpejbnemaaDoorRPayB3
import Derived.Test.YtpocehpejbnemaaDoorRPayB4
import Derived.Test.YtpocehpejbnemaaDoorRPayDel
import Derived.Test.YtpocehpejbnemaaDoorRZ20
import Derived.Test.YtpocehpejbnemaaDoorRZ14
import Derived.Test.YtpocehpejbnemaaDoorRZ21
import Derived.Test.YtpocehpejbnemaaDoorRZ6
import Derived.Test.YtpocehpejbnemaaDoorRZ7
import Derived.Test.YtpocehpejbnemaaDoorRZ8
namespace Go.Proofs.YtpocehpejbnemaaDoor
open Go.RowKit
set_option linter.unusedVariables false

/-- The lengths of what is written are small. -/
structure PvSz (x : Pv) : Prop where
  ed : x.t = 34 → x.ed.n ≤ 1000000
  id : x.t = 35 ∨ x.t = 36 → x.id.n ≤ 1000000
  ad : x.t = 39 → x.ad.n ≤ 1000000
  ns : x.t = 41 → x.ns.n ≤ 1000000
  nd : x.t = 41 → x.nd.n ≤ 1000000
  ds : x.t = 42 → x.ds.n ≤ 1000000
  da : x.t ≠ 33 → x.t ≠ 34 → x.t ≠ 35 → x.t ≠ 36 → x.t ≠ 39 → x.t ≠ 41 → x.t ≠ 42 → x.t ≠ 44 → x.t ≠ 45 → x.da.n ≤ 1000000
/-- The body of a payload, and the first error. -/
def buildB (x : Pv) (C : Pc) : List Int × Int :=
  if x.t = 33 then buildP (C.pr.map PrP.pr)
  else if x.t = 34 then (exchL x.eg C.ed, exchE x.eg x.ed.n)
  else if x.t = 35 then (headL x.ik C.id, idE x.ik x.id.n)
  else if x.t = 36 then (headL x.ik C.id, idE x.ik x.id.n)
  else if x.t = 39 then (headL x.am C.ad, authE x.am x.ad.n)
  else if x.t = 40 then (C.da, nonceE x.da.n)
  else if x.t = 41 then (noteL x.np x.nt C.ns C.nd, notifyE x.np x.nt x.ns.n)
  else if x.t = 42 then (delBL x.dp (C.ds.map Sb.xs), delBE x.dp (C.ds.map Sb.xs))
  else if x.t = 44 then buildS C.se
  else if x.t = 45 then buildS C.se
  else (C.da, 0)
theorem pb_any (x : Pv) (C : Pc) (w : World) (h : PvRk w x C) (s : PvSz x) : Calls Tryd.prog 29 #[(.agg #[.int .i64 x.t, .slice x.pr.p x.pr.n x.pr.c, .int .i64 x.eg, .slice x.ed.p x.ed.n x.ed.c, .int .i64 x.ik, .slice x.id.p x.id.n x.id.c, .int .i64 x.am, .slice x.ad.p x.ad.n x.ad.c, .int .i64 x.np, .slice x.ns.p x.ns.n x.ns.c, .int .i64 x.nt, .slice x.nd.p x.nd.n x.nd.c, .int .i64 x.dp, .slice x.ds.p x.ds.n x.ds.c, .slice x.se.p x.se.n x.se.c, .slice x.da.p x.da.n x.da.c])] w (GotBE w (buildB x C).1 (buildB x C).2) := by
  unfold buildB
  by_cases k33 : x.t = 33
  · rw [if_pos k33]
    have := pb_33 x C w (h.a33 k33)
    rw [k33]
    exact this
  rw [if_neg k33]
  by_cases k34 : x.t = 34
  · rw [if_pos k34]
    have := pb_34 x C w (h.a34 k34) (s.ed k34)
    rw [k34]
    exact this
  rw [if_neg k34]
  by_cases k35 : x.t = 35
  · rw [if_pos k35]
    have := pb_35 x C w (h.a35 k35) (s.id (Or.inl k35))
    rw [k35]
    exact this
  rw [if_neg k35]
  by_cases k36 : x.t = 36
  · rw [if_pos k36]
    have := pb_36 x C w (h.a36 k36) (s.id (Or.inr k36))
    rw [k36]
    exact this
  rw [if_neg k36]
  by_cases k39 : x.t = 39
  · rw [if_pos k39]
    have := pb_39 x C w (h.a39 k39) (s.ad k39)
    rw [k39]
    exact this
  rw [if_neg k39]
  by_cases k40 : x.t = 40
  · rw [if_pos k40]
    have := pb_40 x C w (h.aX k33 k34 k35 k36 k39 (by omega) (by omega) (by omega) (by omega)) (s.da k33 k34 k35 k36 k39 (by omega) (by omega) (by omega) (by omega))
    rw [k40]
    exact this
  rw [if_neg k40]
  by_cases k41 : x.t = 41
  · rw [if_pos k41]
    have := pb_41 x C w (h.a41 k41) (s.ns k41) (s.nd k41)
    rw [k41]
    exact this
  rw [if_neg k41]
  by_cases k42 : x.t = 42
  · rw [if_pos k42]
    have := pb_42 x C w (h.a42 k42) (s.ds k42)
    rw [k42]
    exact this
  rw [if_neg k42]
  by_cases k44 : x.t = 44
  · rw [if_pos k44]
    have := pb_44 x C w (h.a44 k44)
    rw [k44]
    exact this
  rw [if_neg k44]
  by_cases k45 : x.t = 45
  · rw [if_pos k45]
    have := pb_45 x C w (h.a45 k45)
    rw [k45]
    exact this
  rw [if_neg k45]
  exact pb_X x C w x.t (h.aX k33 k34 k35 k36 k39 k41 k42 k44 k45) (s.da k33 k34 k35 k36 k39 k41 k42 k44 k45) k33 k34 k35 k36 k39 k40 k41 k42 k44 k45
theorem pBuild_any (x : Pv) (C : Pc) (w : World) (h : PvRk w x C) (s : PvSz x) : Calls Tryd.prog 11 #[(.agg #[.int .i64 x.t, .slice x.pr.p x.pr.n x.pr.c, .int .i64 x.eg, .slice x.ed.p x.ed.n x.ed.c, .int .i64 x.ik, .slice x.id.p x.id.n x.id.c, .int .i64 x.am, .slice x.ad.p x.ad.n x.ad.c, .int .i64 x.np, .slice x.ns.p x.ns.n x.ns.c, .int .i64 x.nt, .slice x.nd.p x.nd.n x.nd.c, .int .i64 x.dp, .slice x.ds.p x.ds.n x.ds.c, .slice x.se.p x.se.n x.se.c, .slice x.da.p x.da.n x.da.c])] w (GotRaw w x.t (buildB x C).1 (rawE x.t (buildB x C).1 (buildB x C).2)) :=
  pBuild_of x _ _ w (fun W hW => pb_any x C W (h.below hW) s) _ rfl

/-- The first error of a body. -/
def parseE (t : Int) (xs : List Int) : Int :=
  if t = 33 then (parseP xs).2 else if t = 34 then exchangeE xs xs.length else if t = 35 then identE xs xs.length else if t = 36 then identE xs xs.length else if t = 39 then authenE xs xs.length
  else if t = 40 then nonceE xs.length else if t = 41 then noteE xs xs.length else if t = 42 then delE xs xs.length else if t = 44 then (parseS xs).2 else if t = 45 then (parseS xs).2 else 0
/-- What is read of a body. -/
structure RdAs (t : Int) (xs : List Int) (x : Pv) (C : Pc) : Prop where
  a33 : t = 33 → C.pr.map PrP.pr = (parseP xs).1
  a34 : t = 34 → x.eg = nthB xs 0 * 256 + nthB xs 1 ∧ C.ed = xs.drop 4
  a35 : t = 35 ∨ t = 36 → x.ik = nthB xs 0 ∧ C.id = xs.drop 4
  a39 : t = 39 → x.am = nthB xs 0 ∧ C.ad = xs.drop 4
  a41 : t = 41 → x.np = nthB xs 0 ∧ x.nt = nthB xs 2 * 256 + nthB xs 3 ∧ C.ns = (xs.drop 4).take (nthB xs 1).toNat ∧ C.nd = xs.drop (4 + (nthB xs 1).toNat)
  a42 : t = 42 → x.dp = nthB xs 0 ∧ C.ds.map Sb.xs = spisL (xs.drop 4) (nthB xs 1).toNat (nthB xs 2 * 256 + nthB xs 3).toNat
  a44 : t = 44 ∨ t = 45 → C.se = (parseS xs).1
  aX : t ≠ 33 → t ≠ 34 → t ≠ 35 → t ≠ 36 → t ≠ 39 → t ≠ 41 → t ≠ 42 → t ≠ 44 → t ≠ 45 → C.da = xs
/-- What is known of a payload that was read out of a body. -/
def gdK (t : Int) (xs : List Int) : Gd where
  ok base w x := ∃ C, (∀ W, Kpt w W base → PvRk W { x with t := t } C) ∧ RdAs t xs x C
  keep h hk := by
    obtain ⟨C, h1, h2⟩ := h
    exact ⟨C, fun W hW => h1 W (Kpt.trans hk hW), h2⟩
  mono h hb := by
    obtain ⟨C, h1, h2⟩ := h
    exact ⟨C, fun W hW => h1 W (hW.mono hb), h2⟩
  ty z h := by
    obtain ⟨C, h1, h2⟩ := h
    exact ⟨C, h1, ⟨h2.a33, h2.a34, h2.a35, h2.a39, h2.a41, h2.a42, h2.a44, h2.aX⟩⟩
theorem Frs.kp {w w' : World} {base : Nat} {p : Option Addr} {n c : Nat} {xs : List Int} (h : Frs w base p n c xs) (hk : Kpt w w' base) : Byt w' p n c xs := (h.keep hk).byt
def Cn : Pc := ⟨[], [], [], [], [], [], [], [], []⟩

theorem pk_33 (p : Option Addr) (n c : Nat) (xs : List Int) (cr : Bool) (w : World) (h : Byt w p n c xs) (hn : n ≤ 1000000) :
    Calls Tryd.prog 12 #[.agg #[.int .i64 33, .bool cr, .slice p n c]] w (ParsedV w 33 (parseE 33 xs) (gdK 33 xs)) := by
  have hE : parseE 33 xs = (parseP xs).2 := by
    have hl := h.len
    subst hl
    rfl
  rw [hE]
  refine pparse_33 p n c xs cr _ (gdK 33 xs) w h (fun W hW => (proposals_read p n c xs W hW (by omega) _ rfl).mono ?_)
  rintro e w' ⟨x, he, hb, hg⟩
  refine ⟨x, he, hb, fun h0 => ?_⟩
  obtain ⟨ls, hl, hr, hn⟩ := hg h0
  exact ⟨{ Cn with pr := ls }, fun W hW => ⟨fun _ => ⟨RowG.kp (D := DPr) hr hn hW (fun _ hx => OkN.kp hx hW)⟩, fun e => absurd e (show ¬ ((33 : Int) = 34) by decide), fun e => absurd e (show ¬ ((33 : Int) = 35) by decide), fun e => absurd e (show ¬ ((33 : Int) = 36) by decide), fun e => absurd e (show ¬ ((33 : Int) = 39) by decide), fun e => absurd e (show ¬ ((33 : Int) = 41) by decide), fun e => absurd e (show ¬ ((33 : Int) = 42) by decide), fun e => absurd e (show ¬ ((33 : Int) = 44) by decide), fun e => absurd e (show ¬ ((33 : Int) = 45) by decide), fun e0 e1 e2 e3 e4 e5 e6 e7 e8 => absurd rfl e0⟩, ⟨fun _ => hl, fun e => absurd e (by decide), fun e => absurd e (by decide), fun e => absurd e (by decide), fun e => absurd e (by decide), fun e => absurd e (by decide), fun e => absurd e (by decide), fun e0 e1 e2 e3 e4 e5 e6 e7 e8 => absurd rfl e0⟩⟩
theorem pk_34 (p : Option Addr) (n c : Nat) (xs : List Int) (cr : Bool) (w : World) (h : Byt w p n c xs) (hn : n ≤ 1000000) :
    Calls Tryd.prog 12 #[.agg #[.int .i64 34, .bool cr, .slice p n c]] w (ParsedV w 34 (parseE 34 xs) (gdK 34 xs)) := by
  have hE : parseE 34 xs = exchangeE xs n := by
    have hl := h.len
    subst hl
    rfl
  rw [hE]
  refine pparse_34 p n c xs cr _ (gdK 34 xs) w h (fun W hW => (exchange_read p n c xs W hW (by omega)).mono ?_)
  rintro e w' ⟨x, he, hb, hg⟩
  refine ⟨x, he, hb, fun h0 => ?_⟩
  obtain ⟨h1, h2⟩ := hg h0
  exact ⟨{ Cn with ed := xs.drop 4 }, fun W hW => ⟨fun e => absurd e (show ¬ ((34 : Int) = 33) by decide), fun _ => ⟨Frs.kp h2 hW⟩, fun e => absurd e (show ¬ ((34 : Int) = 35) by decide), fun e => absurd e (show ¬ ((34 : Int) = 36) by decide), fun e => absurd e (show ¬ ((34 : Int) = 39) by decide), fun e => absurd e (show ¬ ((34 : Int) = 41) by decide), fun e => absurd e (show ¬ ((34 : Int) = 42) by decide), fun e => absurd e (show ¬ ((34 : Int) = 44) by decide), fun e => absurd e (show ¬ ((34 : Int) = 45) by decide), fun e0 e1 e2 e3 e4 e5 e6 e7 e8 => absurd rfl e1⟩, ⟨fun e => absurd e (by decide), fun _ => ⟨h1, rfl⟩, fun e => absurd e (by decide), fun e => absurd e (by decide), fun e => absurd e (by decide), fun e => absurd e (by decide), fun e => absurd e (by decide), fun e0 e1 e2 e3 e4 e5 e6 e7 e8 => absurd rfl e1⟩⟩
theorem pk_35 (p : Option Addr) (n c : Nat) (xs : List Int) (cr : Bool) (w : World) (h : Byt w p n c xs) (hn : n ≤ 1000000) :
    Calls Tryd.prog 12 #[.agg #[.int .i64 35, .bool cr, .slice p n c]] w (ParsedV w 35 (parseE 35 xs) (gdK 35 xs)) := by
  have hE : parseE 35 xs = identE xs n := by
    have hl := h.len
    subst hl
    rfl
  rw [hE]
  refine pparse_35 p n c xs cr _ (gdK 35 xs) w h (fun W hW => (identity_read p n c xs W hW (by omega)).mono ?_)
  rintro e w' ⟨x, he, hb, hg⟩
  refine ⟨x, he, hb, fun h0 => ?_⟩
  obtain ⟨h1, h2⟩ := hg h0
  exact ⟨{ Cn with id := xs.drop 4 }, fun W hW => ⟨fun e => absurd e (show ¬ ((35 : Int) = 33) by decide), fun e => absurd e (show ¬ ((35 : Int) = 34) by decide), fun _ => ⟨Frs.kp h2 hW⟩, fun e => absurd e (show ¬ ((35 : Int) = 36) by decide), fun e => absurd e (show ¬ ((35 : Int) = 39) by decide), fun e => absurd e (show ¬ ((35 : Int) = 41) by decide), fun e => absurd e (show ¬ ((35 : Int) = 42) by decide), fun e => absurd e (show ¬ ((35 : Int) = 44) by decide), fun e => absurd e (show ¬ ((35 : Int) = 45) by decide), fun e0 e1 e2 e3 e4 e5 e6 e7 e8 => absurd rfl e2⟩, ⟨fun e => absurd e (by decide), fun e => absurd e (by decide), fun _ => ⟨h1, rfl⟩, fun e => absurd e (by decide), fun e => absurd e (by decide), fun e => absurd e (by decide), fun e => absurd e (by decide), fun e0 e1 e2 e3 e4 e5 e6 e7 e8 => absurd rfl e2⟩⟩
theorem pk_36 (p : Option Addr) (n c : Nat) (xs : List Int) (cr : Bool) (w : World) (h : Byt w p n c xs) (hn : n ≤ 1000000) :
    Calls Tryd.prog 12 #[.agg #[.int .i64 36, .bool cr, .slice p n c]] w (ParsedV w 36 (parseE 36 xs) (gdK 36 xs)) := by
  have hE : parseE 36 xs = identE xs n := by
    have hl := h.len
    subst hl
    rfl
  rw [hE]
  refine pparse_36 p n c xs cr _ (gdK 36 xs) w h (fun W hW => (identity_read p n c xs W hW (by omega)).mono ?_)
  rintro e w' ⟨x, he, hb, hg⟩
  refine ⟨x, he, hb, fun h0 => ?_⟩
  obtain ⟨h1, h2⟩ := hg h0
  exact ⟨{ Cn with id := xs.drop 4 }, fun W hW => ⟨fun e => absurd e (show ¬ ((36 : Int) = 33) by decide), fun e => absurd e (show ¬ ((36 : Int) = 34) by decide), fun e => absurd e (show ¬ ((36 : Int) = 35) by decide), fun _ => ⟨Frs.kp h2 hW⟩, fun e => absurd e (show ¬ ((36 : Int) = 39) by decide), fun e => absurd e (show ¬ ((36 : Int) = 41) by decide), fun e => absurd e (show ¬ ((36 : Int) = 42) by decide), fun e => absurd e (show ¬ ((36 : Int) = 44) by decide), fun e => absurd e (show ¬ ((36 : Int) = 45) by decide), fun e0 e1 e2 e3 e4 e5 e6 e7 e8 => absurd rfl e3⟩, ⟨fun e => absurd e (by decide), fun e => absurd e (by decide), fun _ => ⟨h1, rfl⟩, fun e => absurd e (by decide), fun e => absurd e (by decide), fun e => absurd e (by decide), fun e => absurd e (by decide), fun e0 e1 e2 e3 e4 e5 e6 e7 e8 => absurd rfl e3⟩⟩
theorem pk_39 (p : Option Addr) (n c : Nat) (xs : List Int) (cr : Bool) (w : World) (h : Byt w p n c xs) (hn : n ≤ 1000000) :
    Calls Tryd.prog 12 #[.agg #[.int .i64 39, .bool cr, .slice p n c]] w (ParsedV w 39 (parseE 39 xs) (gdK 39 xs)) := by
  have hE : parseE 39 xs = authenE xs n := by
    have hl := h.len
    subst hl
    rfl
  rw [hE]
  refine pparse_39 p n c xs cr _ (gdK 39 xs) w h (fun W hW => (auth_read p n c xs W hW (by omega)).mono ?_)
  rintro e w' ⟨x, he, hb, hg⟩
  refine ⟨x, he, hb, fun h0 => ?_⟩
  obtain ⟨h1, h2⟩ := hg h0
  exact ⟨{ Cn with ad := xs.drop 4 }, fun W hW => ⟨fun e => absurd e (show ¬ ((39 : Int) = 33) by decide), fun e => absurd e (show ¬ ((39 : Int) = 34) by decide), fun e => absurd e (show ¬ ((39 : Int) = 35) by decide), fun e => absurd e (show ¬ ((39 : Int) = 36) by decide), fun _ => ⟨Frs.kp h2 hW⟩, fun e => absurd e (show ¬ ((39 : Int) = 41) by decide), fun e => absurd e (show ¬ ((39 : Int) = 42) by decide), fun e => absurd e (show ¬ ((39 : Int) = 44) by decide), fun e => absurd e (show ¬ ((39 : Int) = 45) by decide), fun e0 e1 e2 e3 e4 e5 e6 e7 e8 => absurd rfl e4⟩, ⟨fun e => absurd e (by decide), fun e => absurd e (by decide), fun e => absurd e (by decide), fun _ => ⟨h1, rfl⟩, fun e => absurd e (by decide), fun e => absurd e (by decide), fun e => absurd e (by decide), fun e0 e1 e2 e3 e4 e5 e6 e7 e8 => absurd rfl e4⟩⟩
theorem pk_40 (p : Option Addr) (n c : Nat) (xs : List Int) (cr : Bool) (w : World) (h : Byt w p n c xs) (hn : n ≤ 1000000) :
    Calls Tryd.prog 12 #[.agg #[.int .i64 40, .bool cr, .slice p n c]] w (ParsedV w 40 (parseE 40 xs) (gdK 40 xs)) := by
  have hE : parseE 40 xs = nonceE n := by
    have hl := h.len
    subst hl
    rfl
  rw [hE]
  refine pparse_40 p n c xs cr _ (gdK 40 xs) w h (fun W hW => (nonce_read p n c xs W hW (by omega)).mono ?_)
  rintro e w' ⟨x, he, hb, hg⟩
  refine ⟨x, he, hb, fun h0 => ?_⟩
  obtain h2 := hg h0
  exact ⟨{ Cn with da := xs }, fun W hW => ⟨fun e => absurd e (show ¬ ((40 : Int) = 33) by decide), fun e => absurd e (show ¬ ((40 : Int) = 34) by decide), fun e => absurd e (show ¬ ((40 : Int) = 35) by decide), fun e => absurd e (show ¬ ((40 : Int) = 36) by decide), fun e => absurd e (show ¬ ((40 : Int) = 39) by decide), fun e => absurd e (show ¬ ((40 : Int) = 41) by decide), fun e => absurd e (show ¬ ((40 : Int) = 42) by decide), fun e => absurd e (show ¬ ((40 : Int) = 44) by decide), fun e => absurd e (show ¬ ((40 : Int) = 45) by decide), fun _ _ _ _ _ _ _ _ _ => ⟨Frs.kp h2 hW⟩⟩, ⟨fun e => absurd e (by decide), fun e => absurd e (by decide), fun e => absurd e (by decide), fun e => absurd e (by decide), fun e => absurd e (by decide), fun e => absurd e (by decide), fun e => absurd e (by decide), fun _ _ _ _ _ _ _ _ _ => rfl⟩⟩
theorem pk_41 (p : Option Addr) (n c : Nat) (xs : List Int) (cr : Bool) (w : World) (h : Byt w p n c xs) (hn : n ≤ 1000000) :
    Calls Tryd.prog 12 #[.agg #[.int .i64 41, .bool cr, .slice p n c]] w (ParsedV w 41 (parseE 41 xs) (gdK 41 xs)) := by
  have hE : parseE 41 xs = noteE xs n := by
    have hl := h.len
    subst hl
    rfl
  rw [hE]
  refine pparse_41 p n c xs cr _ (gdK 41 xs) w h (fun W hW => (notify_read p n c xs W hW (by omega)).mono ?_)
  rintro e w' ⟨x, he, hb, hg⟩
  refine ⟨x, he, hb, fun h0 => ?_⟩
  obtain ⟨h1, h2, h3, h4⟩ := hg h0
  exact ⟨{ Cn with ns := (xs.drop 4).take (nthB xs 1).toNat, nd := xs.drop (4 + (nthB xs 1).toNat) }, fun W hW => ⟨fun e => absurd e (show ¬ ((41 : Int) = 33) by decide), fun e => absurd e (show ¬ ((41 : Int) = 34) by decide), fun e => absurd e (show ¬ ((41 : Int) = 35) by decide), fun e => absurd e (show ¬ ((41 : Int) = 36) by decide), fun e => absurd e (show ¬ ((41 : Int) = 39) by decide), fun _ => ⟨Frs.kp h3 hW, Frs.kp h4 hW⟩, fun e => absurd e (show ¬ ((41 : Int) = 42) by decide), fun e => absurd e (show ¬ ((41 : Int) = 44) by decide), fun e => absurd e (show ¬ ((41 : Int) = 45) by decide), fun e0 e1 e2 e3 e4 e5 e6 e7 e8 => absurd rfl e5⟩, ⟨fun e => absurd e (by decide), fun e => absurd e (by decide), fun e => absurd e (by decide), fun e => absurd e (by decide), fun _ => ⟨h1, h2, rfl, rfl⟩, fun e => absurd e (by decide), fun e => absurd e (by decide), fun e0 e1 e2 e3 e4 e5 e6 e7 e8 => absurd rfl e5⟩⟩
theorem pk_42 (p : Option Addr) (n c : Nat) (xs : List Int) (cr : Bool) (w : World) (h : Byt w p n c xs) (hn : n ≤ 1000000) :
    Calls Tryd.prog 12 #[.agg #[.int .i64 42, .bool cr, .slice p n c]] w (ParsedV w 42 (parseE 42 xs) (gdK 42 xs)) := by
  have hE : parseE 42 xs = delE xs n := by
    have hl := h.len
    subst hl
    rfl
  rw [hE]
  refine pparse_42 p n c xs cr _ (gdK 42 xs) w h (fun W hW => (deletion_read p n c xs W hW (by omega)).mono ?_)
  rintro e w' ⟨x, he, hb, hg⟩
  refine ⟨x, he, hb, fun h0 => ?_⟩
  obtain ⟨h1, l, h2, h3⟩ := hg h0
  exact ⟨{ Cn with ds := l }, fun W hW => ⟨fun e => absurd e (show ¬ ((42 : Int) = 33) by decide), fun e => absurd e (show ¬ ((42 : Int) = 34) by decide), fun e => absurd e (show ¬ ((42 : Int) = 35) by decide), fun e => absurd e (show ¬ ((42 : Int) = 36) by decide), fun e => absurd e (show ¬ ((42 : Int) = 39) by decide), fun e => absurd e (show ¬ ((42 : Int) = 41) by decide), fun _ => ⟨RowG.kp (D := DSb) h2 (by obtain ⟨p', c', e, hrd⟩ := h2.sbs rfl; simp at e; rw [e.2.1]) hW (fun _ hx => Bod.kp hx hW)⟩, fun e => absurd e (show ¬ ((42 : Int) = 44) by decide), fun e => absurd e (show ¬ ((42 : Int) = 45) by decide), fun e0 e1 e2 e3 e4 e5 e6 e7 e8 => absurd rfl e6⟩, ⟨fun e => absurd e (by decide), fun e => absurd e (by decide), fun e => absurd e (by decide), fun e => absurd e (by decide), fun e => absurd e (by decide), fun _ => ⟨h1, h3⟩, fun e => absurd e (by decide), fun e0 e1 e2 e3 e4 e5 e6 e7 e8 => absurd rfl e6⟩⟩
theorem pk_44 (p : Option Addr) (n c : Nat) (xs : List Int) (cr : Bool) (w : World) (h : Byt w p n c xs) (hn : n ≤ 1000000) :
    Calls Tryd.prog 12 #[.agg #[.int .i64 44, .bool cr, .slice p n c]] w (ParsedV w 44 (parseE 44 xs) (gdK 44 xs)) := by
  have hE : parseE 44 xs = (parseS xs).2 := by
    have hl := h.len
    subst hl
    rfl
  rw [hE]
  refine pparse_44 p n c xs cr _ (gdK 44 xs) w h (fun W hW => (selectors_read p n c xs W hW _ rfl).mono ?_)
  rintro e w' ⟨x, he, hb, hg⟩
  refine ⟨x, he, hb, fun h0 => ?_⟩
  obtain ⟨h2, h3⟩ := hg h0
  exact ⟨{ Cn with se := (parseS xs).1 }, fun W hW => ⟨fun e => absurd e (show ¬ ((44 : Int) = 33) by decide), fun e => absurd e (show ¬ ((44 : Int) = 34) by decide), fun e => absurd e (show ¬ ((44 : Int) = 35) by decide), fun e => absurd e (show ¬ ((44 : Int) = 36) by decide), fun e => absurd e (show ¬ ((44 : Int) = 39) by decide), fun e => absurd e (show ¬ ((44 : Int) = 41) by decide), fun e => absurd e (show ¬ ((44 : Int) = 42) by decide), fun _ => ⟨RowG.kp (D := DSlr) h2 h3 hW (fun _ hx => hx)⟩, fun e => absurd e (show ¬ ((44 : Int) = 45) by decide), fun e0 e1 e2 e3 e4 e5 e6 e7 e8 => absurd rfl e7⟩, ⟨fun e => absurd e (by decide), fun e => absurd e (by decide), fun e => absurd e (by decide), fun e => absurd e (by decide), fun e => absurd e (by decide), fun e => absurd e (by decide), fun _ => rfl, fun e0 e1 e2 e3 e4 e5 e6 e7 e8 => absurd rfl e7⟩⟩
theorem pk_45 (p : Option Addr) (n c : Nat) (xs : List Int) (cr : Bool) (w : World) (h : Byt w p n c xs) (hn : n ≤ 1000000) :
    Calls Tryd.prog 12 #[.agg #[.int .i64 45, .bool cr, .slice p n c]] w (ParsedV w 45 (parseE 45 xs) (gdK 45 xs)) := by
  have hE : parseE 45 xs = (parseS xs).2 := by
    have hl := h.len
    subst hl
    rfl
  rw [hE]
  refine pparse_45 p n c xs cr _ (gdK 45 xs) w h (fun W hW => (selectors_read p n c xs W hW _ rfl).mono ?_)
  rintro e w' ⟨x, he, hb, hg⟩
  refine ⟨x, he, hb, fun h0 => ?_⟩
  obtain ⟨h2, h3⟩ := hg h0
  exact ⟨{ Cn with se := (parseS xs).1 }, fun W hW => ⟨fun e => absurd e (show ¬ ((45 : Int) = 33) by decide), fun e => absurd e (show ¬ ((45 : Int) = 34) by decide), fun e => absurd e (show ¬ ((45 : Int) = 35) by decide), fun e => absurd e (show ¬ ((45 : Int) = 36) by decide), fun e => absurd e (show ¬ ((45 : Int) = 39) by decide), fun e => absurd e (show ¬ ((45 : Int) = 41) by decide), fun e => absurd e (show ¬ ((45 : Int) = 42) by decide), fun e => absurd e (show ¬ ((45 : Int) = 44) by decide), fun _ => ⟨RowG.kp (D := DSlr) h2 h3 hW (fun _ hx => hx)⟩, fun e0 e1 e2 e3 e4 e5 e6 e7 e8 => absurd rfl e8⟩, ⟨fun e => absurd e (by decide), fun e => absurd e (by decide), fun e => absurd e (by decide), fun e => absurd e (by decide), fun e => absurd e (by decide), fun e => absurd e (by decide), fun _ => rfl, fun e0 e1 e2 e3 e4 e5 e6 e7 e8 => absurd rfl e8⟩⟩
theorem pk_37 (p : Option Addr) (n c : Nat) (xs : List Int) (cr : Bool) (w : World) (h : Byt w p n c xs) (hn : n ≤ 1000000) :
    Calls Tryd.prog 12 #[.agg #[.int .i64 37, .bool cr, .slice p n c]] w (ParsedV w 37 (parseE 37 xs) (gdK 37 xs)) := by
  have hE : parseE 37 xs = 0 := by
    have hl := h.len
    subst hl
    rfl
  rw [hE]
  refine pparse_37 p n c xs cr _ (gdK 37 xs) w h (fun W hW => (data_read p n c xs W hW (by omega)).mono ?_)
  rintro e w' ⟨x, he, hb, hg⟩
  refine ⟨x, he, hb, fun h0 => ?_⟩
  obtain h2 := hg h0
  exact ⟨{ Cn with da := xs }, fun W hW => ⟨fun e => absurd e (show ¬ ((37 : Int) = 33) by decide), fun e => absurd e (show ¬ ((37 : Int) = 34) by decide), fun e => absurd e (show ¬ ((37 : Int) = 35) by decide), fun e => absurd e (show ¬ ((37 : Int) = 36) by decide), fun e => absurd e (show ¬ ((37 : Int) = 39) by decide), fun e => absurd e (show ¬ ((37 : Int) = 41) by decide), fun e => absurd e (show ¬ ((37 : Int) = 42) by decide), fun e => absurd e (show ¬ ((37 : Int) = 44) by decide), fun e => absurd e (show ¬ ((37 : Int) = 45) by decide), fun _ _ _ _ _ _ _ _ _ => ⟨Frs.kp h2 hW⟩⟩, ⟨fun e => absurd e (by decide), fun e => absurd e (by decide), fun e => absurd e (by decide), fun e => absurd e (by decide), fun e => absurd e (by decide), fun e => absurd e (by decide), fun e => absurd e (by decide), fun _ _ _ _ _ _ _ _ _ => rfl⟩⟩
theorem pk_43 (p : Option Addr) (n c : Nat) (xs : List Int) (cr : Bool) (w : World) (h : Byt w p n c xs) (hn : n ≤ 1000000) :
    Calls Tryd.prog 12 #[.agg #[.int .i64 43, .bool cr, .slice p n c]] w (ParsedV w 43 (parseE 43 xs) (gdK 43 xs)) := by
  have hE : parseE 43 xs = 0 := by
    have hl := h.len
    subst hl
    rfl
  rw [hE]
  refine pparse_43 p n c xs cr _ (gdK 43 xs) w h (fun W hW => (data_read p n c xs W hW (by omega)).mono ?_)
  rintro e w' ⟨x, he, hb, hg⟩
  refine ⟨x, he, hb, fun h0 => ?_⟩
  obtain h2 := hg h0
  exact ⟨{ Cn with da := xs }, fun W hW => ⟨fun e => absurd e (show ¬ ((43 : Int) = 33) by decide), fun e => absurd e (show ¬ ((43 : Int) = 34) by decide), fun e => absurd e (show ¬ ((43 : Int) = 35) by decide), fun e => absurd e (show ¬ ((43 : Int) = 36) by decide), fun e => absurd e (show ¬ ((43 : Int) = 39) by decide), fun e => absurd e (show ¬ ((43 : Int) = 41) by decide), fun e => absurd e (show ¬ ((43 : Int) = 42) by decide), fun e => absurd e (show ¬ ((43 : Int) = 44) by decide), fun e => absurd e (show ¬ ((43 : Int) = 45) by decide), fun _ _ _ _ _ _ _ _ _ => ⟨Frs.kp h2 hW⟩⟩, ⟨fun e => absurd e (by decide), fun e => absurd e (by decide), fun e => absurd e (by decide), fun e => absurd e (by decide), fun e => absurd e (by decide), fun e => absurd e (by decide), fun e => absurd e (by decide), fun _ _ _ _ _ _ _ _ _ => rfl⟩⟩
end Go.Proofs.YtpocehpejbnemaaDoor
