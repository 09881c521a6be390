/-
  Package payload's Parse and Build at all types: by pure functions of what is read and written.
  The bodies of payloads, as functions: what is written is read again, and what is read is written with as many bytes.
  What the law PayloadReturns uses: drawn payloads are written; the twelve kinds at once.
  Package payload's Parse at any type.
  Every error of a message's parts has a notification; the sizes and types of the raw payloads of a chain.
  Pure facts of messages: what a message that was made is written as, and what is read of it again.
  The example of the chapter on messages holds: awake returns true and only adds memory of its own.
-/
import Derived.Test.YtnbkffehhahckaaGreatJPayKp
import Derived.Test.YtnbkffehhahckaaGreatJZ17
import Derived.Test.YtnbkffehhahckaaGreatJZ12
import Derived.Test.YtnbkffehhahckaaGreatJPayDel
import Derived.Test.YtnbkffehhahckaaGreatJPayNote
import Derived.Test.YtnbkffehhahckaaGreatJPayExch
import Derived.Test.YtnbkffehhahckaaGreatJZ14
import Derived.Test.YtnbkffehhahckaaGreatJZ18
import Derived.Test.YtnbkffehhahckaaGreatJZ20
import Derived.Test.YtnbkffehhahckaaGreatJZ21
import Derived.Test.YtnbkffehhahckaaGreatJZ22
import Derived.Test.YtnbkffehhahckaaGreatJZ23
import Derived.Test.YtnbkffehhahckaaGreatJZ24
import Derived.Test.YtnbkffehhahckaaGreatJZ7
import Derived.Test.YtnbkffehhahckaaGreatJZ25
import Derived.Test.YtnbkffehhahckaaGreatJPayMk
import Derived.Test.YtnbkffehhahckaaGreatJZ5
import Derived.Test.YtnbkffehhahckaaGreatJZ6
import Derived.Test.YtnbkffehhahckaaGreatJMkMsg
namespace Go.Proofs.YtnbkffehhahckaaGreat
open Go.RowKit
set_option linter.unusedVariables false
structure PvSz (x : Pv) : Prop where
  ed : x.t = 34 → x.ed.n ≤ 1000000
  id : x.t = 35 ∨ x.t = 36 → x.id.n ≤ 1000000
  ad : x.t = 39 → x.ad.n ≤ 1000000
  ns : x.t = 41 → x.ns.n ≤ 1000000
  nd : x.t = 41 → x.nd.n ≤ 1000000
  ds : x.t = 42 → x.ds.n ≤ 1000000
  da : x.t ≠ 33 → x.t ≠ 34 → x.t ≠ 35 → x.t ≠ 36 → x.t ≠ 39 → x.t ≠ 41 → x.t ≠ 42 → x.t ≠ 44 → x.t ≠ 45 → x.da.n ≤ 1000000
def buildB (x : Pv) (C : Pc) : List Int × Int :=
  if x.t = 33 then buildP (C.pr.map PrP.pr)
  else if x.t = 34 then (exchL x.eg C.ed, exchE x.eg x.ed.n)
  else if x.t = 35 then (headL x.ik C.id, idE x.ik x.id.n)
  else if x.t = 36 then (headL x.ik C.id, idE x.ik x.id.n)
  else if x.t = 39 then (headL x.am C.ad, authE x.am x.ad.n)
  else if x.t = 40 then (C.da, nonceE x.da.n)
  else if x.t = 41 then (noteL x.np x.nt C.ns C.nd, notifyE x.np x.nt x.ns.n)
  else if x.t = 42 then (delBL x.dp (C.ds.map Sb.xs), delBE x.dp (C.ds.map Sb.xs))
  else if x.t = 44 then buildS C.se
  else if x.t = 45 then buildS C.se
  else (C.da, 0)
theorem pb_any (x : Pv) (C : Pc) (w : World) (h : PvRk w x C) (s : PvSz x) : Calls Tryz.prog 45 #[(.agg #[.int .i64 x.t, .slice x.pr.p x.pr.n x.pr.c, .int .i64 x.eg, .slice x.ed.p x.ed.n x.ed.c, .int .i64 x.ik, .slice x.id.p x.id.n x.id.c, .int .i64 x.am, .slice x.ad.p x.ad.n x.ad.c, .int .i64 x.np, .slice x.ns.p x.ns.n x.ns.c, .int .i64 x.nt, .slice x.nd.p x.nd.n x.nd.c, .int .i64 x.dp, .slice x.ds.p x.ds.n x.ds.c, .slice x.se.p x.se.n x.se.c, .slice x.da.p x.da.n x.da.c])] w (GotBE w (buildB x C).1 (buildB x C).2) := by
  unfold buildB
  by_cases k33 : x.t = 33
  · rw [if_pos k33]
    have := pb_33 x C w (h.a33 k33)
    rw [k33]
    exact this
  rw [if_neg k33]
  by_cases k34 : x.t = 34
  · rw [if_pos k34]
    have := pb_34 x C w (h.a34 k34) (s.ed k34)
    rw [k34]
    exact this
  rw [if_neg k34]
  by_cases k35 : x.t = 35
  · rw [if_pos k35]
    have := pb_35 x C w (h.a35 k35) (s.id (Or.inl k35))
    rw [k35]
    exact this
  rw [if_neg k35]
  by_cases k36 : x.t = 36
  · rw [if_pos k36]
    have := pb_36 x C w (h.a36 k36) (s.id (Or.inr k36))
    rw [k36]
    exact this
  rw [if_neg k36]
  by_cases k39 : x.t = 39
  · rw [if_pos k39]
    have := pb_39 x C w (h.a39 k39) (s.ad k39)
    rw [k39]
    exact this
  rw [if_neg k39]
  by_cases k40 : x.t = 40
  · rw [if_pos k40]
    have := pb_40 x C w (h.aX k33 k34 k35 k36 k39 (by omega) (by omega) (by omega) (by omega)) (s.da k33 k34 k35 k36 k39 (by omega) (by omega) (by omega) (by omega))
    rw [k40]
    exact this
  rw [if_neg k40]
  by_cases k41 : x.t = 41
  · rw [if_pos k41]
    have := pb_41 x C w (h.a41 k41) (s.ns k41) (s.nd k41)
    rw [k41]
    exact this
  rw [if_neg k41]
  by_cases k42 : x.t = 42
  · rw [if_pos k42]
    have := pb_42 x C w (h.a42 k42) (s.ds k42)
    rw [k42]
    exact this
  rw [if_neg k42]
  by_cases k44 : x.t = 44
  · rw [if_pos k44]
    have := pb_44 x C w (h.a44 k44)
    rw [k44]
    exact this
  rw [if_neg k44]
  by_cases k45 : x.t = 45
  · rw [if_pos k45]
    have := pb_45 x C w (h.a45 k45)
    rw [k45]
    exact this
  rw [if_neg k45]
  exact pb_X x C w x.t (h.aX k33 k34 k35 k36 k39 k41 k42 k44 k45) (s.da k33 k34 k35 k36 k39 k41 k42 k44 k45) k33 k34 k35 k36 k39 k40 k41 k42 k44 k45
theorem pBuild_any (x : Pv) (C : Pc) (w : World) (h : PvRk w x C) (s : PvSz x) : Calls Tryz.prog 30 #[(.agg #[.int .i64 x.t, .slice x.pr.p x.pr.n x.pr.c, .int .i64 x.eg, .slice x.ed.p x.ed.n x.ed.c, .int .i64 x.ik, .slice x.id.p x.id.n x.id.c, .int .i64 x.am, .slice x.ad.p x.ad.n x.ad.c, .int .i64 x.np, .slice x.ns.p x.ns.n x.ns.c, .int .i64 x.nt, .slice x.nd.p x.nd.n x.nd.c, .int .i64 x.dp, .slice x.ds.p x.ds.n x.ds.c, .slice x.se.p x.se.n x.se.c, .slice x.da.p x.da.n x.da.c])] w (GotRaw w x.t (buildB x C).1 (rawE x.t (buildB x C).1 (buildB x C).2)) :=
  pBuild_of x _ _ w (fun W hW => pb_any x C W (h.below hW) s) _ rfl
def parseE (t : Int) (xs : List Int) : Int :=
  if t = 33 then (parseP xs).2 else if t = 34 then exchangeE xs xs.length else if t = 35 then identE xs xs.length else if t = 36 then identE xs xs.length else if t = 39 then authenE xs xs.length
  else if t = 40 then nonceE xs.length else if t = 41 then noteE xs xs.length else if t = 42 then delE xs xs.length else if t = 44 then (parseS xs).2 else if t = 45 then (parseS xs).2 else 0
structure RdAs (t : Int) (xs : List Int) (x : Pv) (C : Pc) : Prop where
  a33 : t = 33 → C.pr.map PrP.pr = (parseP xs).1
  a34 : t = 34 → x.eg = nthB xs 0 * 256 + nthB xs 1 ∧ C.ed = xs.drop 4
  a35 : t = 35 ∨ t = 36 → x.ik = nthB xs 0 ∧ C.id = xs.drop 4
  a39 : t = 39 → x.am = nthB xs 0 ∧ C.ad = xs.drop 4
  a41 : t = 41 → x.np = nthB xs 0 ∧ x.nt = nthB xs 2 * 256 + nthB xs 3 ∧ C.ns = (xs.drop 4).take (nthB xs 1).toNat ∧ C.nd = xs.drop (4 + (nthB xs 1).toNat)
  a42 : t = 42 → x.dp = nthB xs 0 ∧ C.ds.map Sb.xs = spisL (xs.drop 4) (nthB xs 1).toNat (nthB xs 2 * 256 + nthB xs 3).toNat
  a44 : t = 44 ∨ t = 45 → C.se = (parseS xs).1
  aX : t ≠ 33 → t ≠ 34 → t ≠ 35 → t ≠ 36 → t ≠ 39 → t ≠ 41 → t ≠ 42 → t ≠ 44 → t ≠ 45 → C.da = xs
def gdK (t : Int) (xs : List Int) : Gd where
  ok base w x := ∃ C, (∀ W, Kpt w W base → PvRk W { x with t := t } C) ∧ RdAs t xs x C
  keep h hk := by
    obtain ⟨C, h1, h2⟩ := h
    exact ⟨C, fun W hW => h1 W (Kpt.trans hk hW), h2⟩
  mono h hb := by
    obtain ⟨C, h1, h2⟩ := h
    exact ⟨C, fun W hW => h1 W (hW.mono hb), h2⟩
  ty z h := by
    obtain ⟨C, h1, h2⟩ := h
    exact ⟨C, h1, ⟨h2.a33, h2.a34, h2.a35, h2.a39, h2.a41, h2.a42, h2.a44, h2.aX⟩⟩
theorem Frs.kp {w w' : World} {base : Nat} {p : Option Addr} {n c : Nat} {xs : List Int} (h : Frs w base p n c xs) (hk : Kpt w w' base) : Byt w' p n c xs := (h.keep hk).byt
def Cn : Pc := ⟨[], [], [], [], [], [], [], [], []⟩
theorem pk_33 (p : Option Addr) (n c : Nat) (xs : List Int) (cr : Bool) (w : World) (h : Byt w p n c xs) (hn : n ≤ 1048576) :
    Calls Tryz.prog 42 #[.agg #[.int .i64 33, .bool cr, .slice p n c]] w (ParsedV w 33 (parseE 33 xs) (gdK 33 xs)) := by
  have hE : parseE 33 xs = (parseP xs).2 := by
    have hl := h.len
    subst hl
    rfl
  rw [hE]
  refine pparse_33 p n c xs cr _ (gdK 33 xs) w h (fun W hW => (proposals_read p n c xs W hW (by omega) _ rfl).mono ?_)
  rintro e w' ⟨x, he, hb, hg⟩
  refine ⟨x, he, hb, fun h0 => ?_⟩
  obtain ⟨ls, hl, hr, hn⟩ := hg h0
  exact ⟨{ Cn with pr := ls }, fun W hW => ⟨fun _ => ⟨RowG.kp (D := DPr) hr hn hW (fun _ hx => OkN.kp hx hW)⟩, fun e => absurd e (show ¬ ((33 : Int) = 34) by decide), fun e => absurd e (show ¬ ((33 : Int) = 35) by decide), fun e => absurd e (show ¬ ((33 : Int) = 36) by decide), fun e => absurd e (show ¬ ((33 : Int) = 39) by decide), fun e => absurd e (show ¬ ((33 : Int) = 41) by decide), fun e => absurd e (show ¬ ((33 : Int) = 42) by decide), fun e => absurd e (show ¬ ((33 : Int) = 44) by decide), fun e => absurd e (show ¬ ((33 : Int) = 45) by decide), fun e0 e1 e2 e3 e4 e5 e6 e7 e8 => absurd rfl e0⟩, ⟨fun _ => hl, fun e => absurd e (by decide), fun e => absurd e (by decide), fun e => absurd e (by decide), fun e => absurd e (by decide), fun e => absurd e (by decide), fun e => absurd e (by decide), fun e0 e1 e2 e3 e4 e5 e6 e7 e8 => absurd rfl e0⟩⟩
theorem pk_34 (p : Option Addr) (n c : Nat) (xs : List Int) (cr : Bool) (w : World) (h : Byt w p n c xs) (hn : n ≤ 1048576) :
    Calls Tryz.prog 42 #[.agg #[.int .i64 34, .bool cr, .slice p n c]] w (ParsedV w 34 (parseE 34 xs) (gdK 34 xs)) := by
  have hE : parseE 34 xs = exchangeE xs n := by
    have hl := h.len
    subst hl
    rfl
  rw [hE]
  refine pparse_34 p n c xs cr _ (gdK 34 xs) w h (fun W hW => (exchange_read p n c xs W hW (by omega)).mono ?_)
  rintro e w' ⟨x, he, hb, hg⟩
  refine ⟨x, he, hb, fun h0 => ?_⟩
  obtain ⟨h1, h2⟩ := hg h0
  exact ⟨{ Cn with ed := xs.drop 4 }, fun W hW => ⟨fun e => absurd e (show ¬ ((34 : Int) = 33) by decide), fun _ => ⟨Frs.kp h2 hW⟩, fun e => absurd e (show ¬ ((34 : Int) = 35) by decide), fun e => absurd e (show ¬ ((34 : Int) = 36) by decide), fun e => absurd e (show ¬ ((34 : Int) = 39) by decide), fun e => absurd e (show ¬ ((34 : Int) = 41) by decide), fun e => absurd e (show ¬ ((34 : Int) = 42) by decide), fun e => absurd e (show ¬ ((34 : Int) = 44) by decide), fun e => absurd e (show ¬ ((34 : Int) = 45) by decide), fun e0 e1 e2 e3 e4 e5 e6 e7 e8 => absurd rfl e1⟩, ⟨fun e => absurd e (by decide), fun _ => ⟨h1, rfl⟩, fun e => absurd e (by decide), fun e => absurd e (by decide), fun e => absurd e (by decide), fun e => absurd e (by decide), fun e => absurd e (by decide), fun e0 e1 e2 e3 e4 e5 e6 e7 e8 => absurd rfl e1⟩⟩
theorem pk_35 (p : Option Addr) (n c : Nat) (xs : List Int) (cr : Bool) (w : World) (h : Byt w p n c xs) (hn : n ≤ 1048576) :
    Calls Tryz.prog 42 #[.agg #[.int .i64 35, .bool cr, .slice p n c]] w (ParsedV w 35 (parseE 35 xs) (gdK 35 xs)) := by
  have hE : parseE 35 xs = identE xs n := by
    have hl := h.len
    subst hl
    rfl
  rw [hE]
  refine pparse_35 p n c xs cr _ (gdK 35 xs) w h (fun W hW => (identity_read p n c xs W hW (by omega)).mono ?_)
  rintro e w' ⟨x, he, hb, hg⟩
  refine ⟨x, he, hb, fun h0 => ?_⟩
  obtain ⟨h1, h2⟩ := hg h0
  exact ⟨{ Cn with id := xs.drop 4 }, fun W hW => ⟨fun e => absurd e (show ¬ ((35 : Int) = 33) by decide), fun e => absurd e (show ¬ ((35 : Int) = 34) by decide), fun _ => ⟨Frs.kp h2 hW⟩, fun e => absurd e (show ¬ ((35 : Int) = 36) by decide), fun e => absurd e (show ¬ ((35 : Int) = 39) by decide), fun e => absurd e (show ¬ ((35 : Int) = 41) by decide), fun e => absurd e (show ¬ ((35 : Int) = 42) by decide), fun e => absurd e (show ¬ ((35 : Int) = 44) by decide), fun e => absurd e (show ¬ ((35 : Int) = 45) by decide), fun e0 e1 e2 e3 e4 e5 e6 e7 e8 => absurd rfl e2⟩, ⟨fun e => absurd e (by decide), fun e => absurd e (by decide), fun _ => ⟨h1, rfl⟩, fun e => absurd e (by decide), fun e => absurd e (by decide), fun e => absurd e (by decide), fun e => absurd e (by decide), fun e0 e1 e2 e3 e4 e5 e6 e7 e8 => absurd rfl e2⟩⟩
theorem pk_36 (p : Option Addr) (n c : Nat) (xs : List Int) (cr : Bool) (w : World) (h : Byt w p n c xs) (hn : n ≤ 1048576) :
    Calls Tryz.prog 42 #[.agg #[.int .i64 36, .bool cr, .slice p n c]] w (ParsedV w 36 (parseE 36 xs) (gdK 36 xs)) := by
  have hE : parseE 36 xs = identE xs n := by
    have hl := h.len
    subst hl
    rfl
  rw [hE]
  refine pparse_36 p n c xs cr _ (gdK 36 xs) w h (fun W hW => (identity_read p n c xs W hW (by omega)).mono ?_)
  rintro e w' ⟨x, he, hb, hg⟩
  refine ⟨x, he, hb, fun h0 => ?_⟩
  obtain ⟨h1, h2⟩ := hg h0
  exact ⟨{ Cn with id := xs.drop 4 }, fun W hW => ⟨fun e => absurd e (show ¬ ((36 : Int) = 33) by decide), fun e => absurd e (show ¬ ((36 : Int) = 34) by decide), fun e => absurd e (show ¬ ((36 : Int) = 35) by decide), fun _ => ⟨Frs.kp h2 hW⟩, fun e => absurd e (show ¬ ((36 : Int) = 39) by decide), fun e => absurd e (show ¬ ((36 : Int) = 41) by decide), fun e => absurd e (show ¬ ((36 : Int) = 42) by decide), fun e => absurd e (show ¬ ((36 : Int) = 44) by decide), fun e => absurd e (show ¬ ((36 : Int) = 45) by decide), fun e0 e1 e2 e3 e4 e5 e6 e7 e8 => absurd rfl e3⟩, ⟨fun e => absurd e (by decide), fun e => absurd e (by decide), fun _ => ⟨h1, rfl⟩, fun e => absurd e (by decide), fun e => absurd e (by decide), fun e => absurd e (by decide), fun e => absurd e (by decide), fun e0 e1 e2 e3 e4 e5 e6 e7 e8 => absurd rfl e3⟩⟩
theorem pk_39 (p : Option Addr) (n c : Nat) (xs : List Int) (cr : Bool) (w : World) (h : Byt w p n c xs) (hn : n ≤ 1048576) :
    Calls Tryz.prog 42 #[.agg #[.int .i64 39, .bool cr, .slice p n c]] w (ParsedV w 39 (parseE 39 xs) (gdK 39 xs)) := by
  have hE : parseE 39 xs = authenE xs n := by
    have hl := h.len
    subst hl
    rfl
  rw [hE]
  refine pparse_39 p n c xs cr _ (gdK 39 xs) w h (fun W hW => (auth_read p n c xs W hW (by omega)).mono ?_)
  rintro e w' ⟨x, he, hb, hg⟩
  refine ⟨x, he, hb, fun h0 => ?_⟩
  obtain ⟨h1, h2⟩ := hg h0
  exact ⟨{ Cn with ad := xs.drop 4 }, fun W hW => ⟨fun e => absurd e (show ¬ ((39 : Int) = 33) by decide), fun e => absurd e (show ¬ ((39 : Int) = 34) by decide), fun e => absurd e (show ¬ ((39 : Int) = 35) by decide), fun e => absurd e (show ¬ ((39 : Int) = 36) by decide), fun _ => ⟨Frs.kp h2 hW⟩, fun e => absurd e (show ¬ ((39 : Int) = 41) by decide), fun e => absurd e (show ¬ ((39 : Int) = 42) by decide), fun e => absurd e (show ¬ ((39 : Int) = 44) by decide), fun e => absurd e (show ¬ ((39 : Int) = 45) by decide), fun e0 e1 e2 e3 e4 e5 e6 e7 e8 => absurd rfl e4⟩, ⟨fun e => absurd e (by decide), fun e => absurd e (by decide), fun e => absurd e (by decide), fun _ => ⟨h1, rfl⟩, fun e => absurd e (by decide), fun e => absurd e (by decide), fun e => absurd e (by decide), fun e0 e1 e2 e3 e4 e5 e6 e7 e8 => absurd rfl e4⟩⟩
theorem pk_40 (p : Option Addr) (n c : Nat) (xs : List Int) (cr : Bool) (w : World) (h : Byt w p n c xs) (hn : n ≤ 1048576) :
    Calls Tryz.prog 42 #[.agg #[.int .i64 40, .bool cr, .slice p n c]] w (ParsedV w 40 (parseE 40 xs) (gdK 40 xs)) := by
  have hE : parseE 40 xs = nonceE n := by
    have hl := h.len
    subst hl
    rfl
  rw [hE]
  refine pparse_40 p n c xs cr _ (gdK 40 xs) w h (fun W hW => (nonce_read p n c xs W hW (by omega)).mono ?_)
  rintro e w' ⟨x, he, hb, hg⟩
  refine ⟨x, he, hb, fun h0 => ?_⟩
  obtain h2 := hg h0
  exact ⟨{ Cn with da := xs }, fun W hW => ⟨fun e => absurd e (show ¬ ((40 : Int) = 33) by decide), fun e => absurd e (show ¬ ((40 : Int) = 34) by decide), fun e => absurd e (show ¬ ((40 : Int) = 35) by decide), fun e => absurd e (show ¬ ((40 : Int) = 36) by decide), fun e => absurd e (show ¬ ((40 : Int) = 39) by decide), fun e => absurd e (show ¬ ((40 : Int) = 41) by decide), fun e => absurd e (show ¬ ((40 : Int) = 42) by decide), fun e => absurd e (show ¬ ((40 : Int) = 44) by decide), fun e => absurd e (show ¬ ((40 : Int) = 45) by decide), fun _ _ _ _ _ _ _ _ _ => ⟨Frs.kp h2 hW⟩⟩, ⟨fun e => absurd e (by decide), fun e => absurd e (by decide), fun e => absurd e (by decide), fun e => absurd e (by decide), fun e => absurd e (by decide), fun e => absurd e (by decide), fun e => absurd e (by decide), fun _ _ _ _ _ _ _ _ _ => rfl⟩⟩
theorem pk_41 (p : Option Addr) (n c : Nat) (xs : List Int) (cr : Bool) (w : World) (h : Byt w p n c xs) (hn : n ≤ 1048576) :
    Calls Tryz.prog 42 #[.agg #[.int .i64 41, .bool cr, .slice p n c]] w (ParsedV w 41 (parseE 41 xs) (gdK 41 xs)) := by
  have hE : parseE 41 xs = noteE xs n := by
    have hl := h.len
    subst hl
    rfl
  rw [hE]
  refine pparse_41 p n c xs cr _ (gdK 41 xs) w h (fun W hW => (notify_read p n c xs W hW (by omega)).mono ?_)
  rintro e w' ⟨x, he, hb, hg⟩
  refine ⟨x, he, hb, fun h0 => ?_⟩
  obtain ⟨h1, h2, h3, h4⟩ := hg h0
  exact ⟨{ Cn with ns := (xs.drop 4).take (nthB xs 1).toNat, nd := xs.drop (4 + (nthB xs 1).toNat) }, fun W hW => ⟨fun e => absurd e (show ¬ ((41 : Int) = 33) by decide), fun e => absurd e (show ¬ ((41 : Int) = 34) by decide), fun e => absurd e (show ¬ ((41 : Int) = 35) by decide), fun e => absurd e (show ¬ ((41 : Int) = 36) by decide), fun e => absurd e (show ¬ ((41 : Int) = 39) by decide), fun _ => ⟨Frs.kp h3 hW, Frs.kp h4 hW⟩, fun e => absurd e (show ¬ ((41 : Int) = 42) by decide), fun e => absurd e (show ¬ ((41 : Int) = 44) by decide), fun e => absurd e (show ¬ ((41 : Int) = 45) by decide), fun e0 e1 e2 e3 e4 e5 e6 e7 e8 => absurd rfl e5⟩, ⟨fun e => absurd e (by decide), fun e => absurd e (by decide), fun e => absurd e (by decide), fun e => absurd e (by decide), fun _ => ⟨h1, h2, rfl, rfl⟩, fun e => absurd e (by decide), fun e => absurd e (by decide), fun e0 e1 e2 e3 e4 e5 e6 e7 e8 => absurd rfl e5⟩⟩
theorem pk_42 (p : Option Addr) (n c : Nat) (xs : List Int) (cr : Bool) (w : World) (h : Byt w p n c xs) (hn : n ≤ 1048576) :
    Calls Tryz.prog 42 #[.agg #[.int .i64 42, .bool cr, .slice p n c]] w (ParsedV w 42 (parseE 42 xs) (gdK 42 xs)) := by
  have hE : parseE 42 xs = delE xs n := by
    have hl := h.len
    subst hl
    rfl
  rw [hE]
  refine pparse_42 p n c xs cr _ (gdK 42 xs) w h (fun W hW => (deletion_read p n c xs W hW (by omega)).mono ?_)
  rintro e w' ⟨x, he, hb, hg⟩
  refine ⟨x, he, hb, fun h0 => ?_⟩
  obtain ⟨h1, l, h2, h3⟩ := hg h0
  exact ⟨{ Cn with ds := l }, fun W hW => ⟨fun e => absurd e (show ¬ ((42 : Int) = 33) by decide), fun e => absurd e (show ¬ ((42 : Int) = 34) by decide), fun e => absurd e (show ¬ ((42 : Int) = 35) by decide), fun e => absurd e (show ¬ ((42 : Int) = 36) by decide), fun e => absurd e (show ¬ ((42 : Int) = 39) by decide), fun e => absurd e (show ¬ ((42 : Int) = 41) by decide), fun _ => ⟨RowG.kp (D := DSb) h2 (by obtain ⟨p', c', e, hrd⟩ := h2.sbs rfl; simp at e; rw [e.2.1]) hW (fun _ hx => Bod.kp hx hW)⟩, fun e => absurd e (show ¬ ((42 : Int) = 44) by decide), fun e => absurd e (show ¬ ((42 : Int) = 45) by decide), fun e0 e1 e2 e3 e4 e5 e6 e7 e8 => absurd rfl e6⟩, ⟨fun e => absurd e (by decide), fun e => absurd e (by decide), fun e => absurd e (by decide), fun e => absurd e (by decide), fun e => absurd e (by decide), fun _ => ⟨h1, h3⟩, fun e => absurd e (by decide), fun e0 e1 e2 e3 e4 e5 e6 e7 e8 => absurd rfl e6⟩⟩
theorem pk_44 (p : Option Addr) (n c : Nat) (xs : List Int) (cr : Bool) (w : World) (h : Byt w p n c xs) (hn : n ≤ 1048576) :
    Calls Tryz.prog 42 #[.agg #[.int .i64 44, .bool cr, .slice p n c]] w (ParsedV w 44 (parseE 44 xs) (gdK 44 xs)) := by
  have hE : parseE 44 xs = (parseS xs).2 := by
    have hl := h.len
    subst hl
    rfl
  rw [hE]
  refine pparse_44 p n c xs cr _ (gdK 44 xs) w h (fun W hW => (selectors_read p n c xs W hW _ rfl).mono ?_)
  rintro e w' ⟨x, he, hb, hg⟩
  refine ⟨x, he, hb, fun h0 => ?_⟩
  obtain ⟨h2, h3⟩ := hg h0
  exact ⟨{ Cn with se := (parseS xs).1 }, fun W hW => ⟨fun e => absurd e (show ¬ ((44 : Int) = 33) by decide), fun e => absurd e (show ¬ ((44 : Int) = 34) by decide), fun e => absurd e (show ¬ ((44 : Int) = 35) by decide), fun e => absurd e (show ¬ ((44 : Int) = 36) by decide), fun e => absurd e (show ¬ ((44 : Int) = 39) by decide), fun e => absurd e (show ¬ ((44 : Int) = 41) by decide), fun e => absurd e (show ¬ ((44 : Int) = 42) by decide), fun _ => ⟨RowG.kp (D := DSlr) h2 h3 hW (fun _ hx => hx)⟩, fun e => absurd e (show ¬ ((44 : Int) = 45) by decide), fun e0 e1 e2 e3 e4 e5 e6 e7 e8 => absurd rfl e7⟩, ⟨fun e => absurd e (by decide), fun e => absurd e (by decide), fun e => absurd e (by decide), fun e => absurd e (by decide), fun e => absurd e (by decide), fun e => absurd e (by decide), fun _ => rfl, fun e0 e1 e2 e3 e4 e5 e6 e7 e8 => absurd rfl e7⟩⟩
theorem pk_45 (p : Option Addr) (n c : Nat) (xs : List Int) (cr : Bool) (w : World) (h : Byt w p n c xs) (hn : n ≤ 1048576) :
    Calls Tryz.prog 42 #[.agg #[.int .i64 45, .bool cr, .slice p n c]] w (ParsedV w 45 (parseE 45 xs) (gdK 45 xs)) := by
  have hE : parseE 45 xs = (parseS xs).2 := by
    have hl := h.len
    subst hl
    rfl
  rw [hE]
  refine pparse_45 p n c xs cr _ (gdK 45 xs) w h (fun W hW => (selectors_read p n c xs W hW _ rfl).mono ?_)
  rintro e w' ⟨x, he, hb, hg⟩
  refine ⟨x, he, hb, fun h0 => ?_⟩
  obtain ⟨h2, h3⟩ := hg h0
  exact ⟨{ Cn with se := (parseS xs).1 }, fun W hW => ⟨fun e => absurd e (show ¬ ((45 : Int) = 33) by decide), fun e => absurd e (show ¬ ((45 : Int) = 34) by decide), fun e => absurd e (show ¬ ((45 : Int) = 35) by decide), fun e => absurd e (show ¬ ((45 : Int) = 36) by decide), fun e => absurd e (show ¬ ((45 : Int) = 39) by decide), fun e => absurd e (show ¬ ((45 : Int) = 41) by decide), fun e => absurd e (show ¬ ((45 : Int) = 42) by decide), fun e => absurd e (show ¬ ((45 : Int) = 44) by decide), fun _ => ⟨RowG.kp (D := DSlr) h2 h3 hW (fun _ hx => hx)⟩, fun e0 e1 e2 e3 e4 e5 e6 e7 e8 => absurd rfl e8⟩, ⟨fun e => absurd e (by decide), fun e => absurd e (by decide), fun e => absurd e (by decide), fun e => absurd e (by decide), fun e => absurd e (by decide), fun e => absurd e (by decide), fun _ => rfl, fun e0 e1 e2 e3 e4 e5 e6 e7 e8 => absurd rfl e8⟩⟩
theorem pk_37 (p : Option Addr) (n c : Nat) (xs : List Int) (cr : Bool) (w : World) (h : Byt w p n c xs) (hn : n ≤ 1048576) :
    Calls Tryz.prog 42 #[.agg #[.int .i64 37, .bool cr, .slice p n c]] w (ParsedV w 37 (parseE 37 xs) (gdK 37 xs)) := by
  have hE : parseE 37 xs = 0 := by
    have hl := h.len
    subst hl
    rfl
  rw [hE]
  refine pparse_37 p n c xs cr _ (gdK 37 xs) w h (fun W hW => (data_read p n c xs W hW (by omega)).mono ?_)
  rintro e w' ⟨x, he, hb, hg⟩
  refine ⟨x, he, hb, fun h0 => ?_⟩
  obtain h2 := hg h0
  exact ⟨{ Cn with da := xs }, fun W hW => ⟨fun e => absurd e (show ¬ ((37 : Int) = 33) by decide), fun e => absurd e (show ¬ ((37 : Int) = 34) by decide), fun e => absurd e (show ¬ ((37 : Int) = 35) by decide), fun e => absurd e (show ¬ ((37 : Int) = 36) by decide), fun e => absurd e (show ¬ ((37 : Int) = 39) by decide), fun e => absurd e (show ¬ ((37 : Int) = 41) by decide), fun e => absurd e (show ¬ ((37 : Int) = 42) by decide), fun e => absurd e (show ¬ ((37 : Int) = 44) by decide), fun e => absurd e (show ¬ ((37 : Int) = 45) by decide), fun _ _ _ _ _ _ _ _ _ => ⟨Frs.kp h2 hW⟩⟩, ⟨fun e => absurd e (by decide), fun e => absurd e (by decide), fun e => absurd e (by decide), fun e => absurd e (by decide), fun e => absurd e (by decide), fun e => absurd e (by decide), fun e => absurd e (by decide), fun _ _ _ _ _ _ _ _ _ => rfl⟩⟩
theorem pk_43 (p : Option Addr) (n c : Nat) (xs : List Int) (cr : Bool) (w : World) (h : Byt w p n c xs) (hn : n ≤ 1048576) :
    Calls Tryz.prog 42 #[.agg #[.int .i64 43, .bool cr, .slice p n c]] w (ParsedV w 43 (parseE 43 xs) (gdK 43 xs)) := by
  have hE : parseE 43 xs = 0 := by
    have hl := h.len
    subst hl
    rfl
  rw [hE]
  refine pparse_43 p n c xs cr _ (gdK 43 xs) w h (fun W hW => (data_read p n c xs W hW (by omega)).mono ?_)
  rintro e w' ⟨x, he, hb, hg⟩
  refine ⟨x, he, hb, fun h0 => ?_⟩
  obtain h2 := hg h0
  exact ⟨{ Cn with da := xs }, fun W hW => ⟨fun e => absurd e (show ¬ ((43 : Int) = 33) by decide), fun e => absurd e (show ¬ ((43 : Int) = 34) by decide), fun e => absurd e (show ¬ ((43 : Int) = 35) by decide), fun e => absurd e (show ¬ ((43 : Int) = 36) by decide), fun e => absurd e (show ¬ ((43 : Int) = 39) by decide), fun e => absurd e (show ¬ ((43 : Int) = 41) by decide), fun e => absurd e (show ¬ ((43 : Int) = 42) by decide), fun e => absurd e (show ¬ ((43 : Int) = 44) by decide), fun e => absurd e (show ¬ ((43 : Int) = 45) by decide), fun _ _ _ _ _ _ _ _ _ => ⟨Frs.kp h2 hW⟩⟩, ⟨fun e => absurd e (by decide), fun e => absurd e (by decide), fun e => absurd e (by decide), fun e => absurd e (by decide), fun e => absurd e (by decide), fun e => absurd e (by decide), fun e => absurd e (by decide), fun _ _ _ _ _ _ _ _ _ => rfl⟩⟩
end Go.Proofs.YtnbkffehhahckaaGreat

namespace Go.Proofs.YtnbkffehhahckaaGreat
open Go.RowKit
set_option linter.unusedVariables false
theorem errL_all : ∀ (l : List Sl), (∀ s ∈ l, FitS s) → errL l = 0 → ∀ s ∈ l, GoodS s
  | [], _, _ => fun s hs => by cases hs
  | s :: l, hf, h => by
    unfold errL at h
    split at h
    · rename_i hc
      exact absurd h hc
    · rename_i hc
      intro z hz
      rcases List.mem_cons.1 hz with rfl | hz
      · exact good_of_check (hf z (by simp)) (by omega)
      · exact errL_all l (fun s hs => hf s (by simp [hs])) h z hz
theorem flat_get (z : Nat) : ∀ (X : List (List Int)), (∀ x ∈ X, x.length = z) → ∀ (i : Nat) (hi : i < X.length), (X.flatten.drop (i * z)).take z = X[i]
  | [], _, i, hi => by simp at hi
  | x :: X, h, 0, _ => by
    have h1 := h x (by simp)
    rw [Nat.zero_mul, List.drop_zero, List.flatten_cons, List.getElem_cons_zero]
    rw [List.take_left' h1]
  | x :: X, h, i + 1, hi => by
    have h1 := h x (by simp)
    rw [List.flatten_cons, show (i + 1) * z = x.length + i * z by rw [Nat.add_mul, h1]; omega, ← List.drop_drop, List.drop_left, List.getElem_cons_succ]
    exact flat_get z X (fun y hy => h y (by simp [hy])) i (by simpa using hi)
theorem spisL_flat (z : Nat) (X : List (List Int)) (h : ∀ x ∈ X, x.length = z) : spisL X.flatten z X.length = X := by
  apply List.ext_getElem (by simp [spisL])
  intro i h1 h2
  simp only [spisL, List.getElem_map, List.getElem_range]
  exact flat_get z X h i h2
theorem deleteE_z (k s t : Int) (h : deleteE k s t = 0) : s = (spiZ k : Int) ∧ (k = 1 ∨ k = 2 ∨ k = 3) ∧ (k = 1 → t = 0) := by
  unfold deleteE at h
  split at h
  · exact absurd h (by decide)
  · split at h
    · rename_i h1 h2
      refine ⟨h2.1, by omega, fun e => ?_⟩
      by_cases ht : t = 0
      · exact ht
      · exact absurd ⟨e, ht⟩ h2.2
    · exact absurd h (by decide)
theorem build_parse (x : Pv) (C : Pc) (w : World) (h : PvRk w x C) (L : List Int) (hb : buildB x C = (L, 0)) (hL : L.length ≤ 65531) (hk : x.t = 33 ∨ x.t = 34 ∨ x.t = 35 ∨ x.t = 36 ∨ x.t = 39 ∨ x.t = 40 ∨ x.t = 41 ∨ x.t = 42 ∨ x.t = 44 ∨ x.t = 45 ∨ x.t = 37 ∨ x.t = 43) :
    parseE x.t L = 0 ∧ ∀ y D, y.t = x.t → RdAs x.t L y D → sameV y D x C = true := by
  unfold buildB at hb
  rcases hk with e | e | e | e | e | e | e | e | e | e | e | e
  · -- proposals
    rw [if_pos e] at hb
    have hc : checkP (C.pr.map PrP.pr) = 0 := by
      unfold buildP at hb
      split at hb
      · rename_i hc
        simp only [Prod.mk.injEq] at hb
        exact absurd hb.2 hc
      · omega
    have hb2 : L = encPs (C.pr.map PrP.pr) := by
      unfold buildP at hb
      rw [hc, if_neg (by simp)] at hb
      simp only [Prod.mk.injEq, and_true] at hb
      exact hb.symm
    have hp := parse_build hc
    rw [← hb2] at hp
    refine ⟨by rw [e]; show (parseP L).2 = 0; rw [hp], fun y D hy hd => ?_⟩
    have h1 := hd.a33 e
    rw [hp] at h1
    unfold sameV
    rw [hy, e]
    simp [h1]
  · -- key exchanges
    rw [if_neg (by rw [e]; decide), if_pos e] at hb
    simp only [Prod.mk.injEq] at hb
    obtain ⟨rfl, hE⟩ := hb
    have hl := (h.a34 e).ed.len
    have hg : 0 ≤ x.eg ∧ x.eg ≤ 65535 := by
      unfold exchE at hE
      split at hE
      · exact absurd hE (by decide)
      · omega
    have hw : x.eg / 256 % 256 * 256 + x.eg % 256 = x.eg := by omega
    have hlen : (exchL x.eg C.ed).length = 4 + C.ed.length := by simp [exchL]; omega
    have n0 : nthB (exchL x.eg C.ed) 0 = x.eg / 256 % 256 := rfl
    have n1 : nthB (exchL x.eg C.ed) 1 = x.eg % 256 := rfl
    have dr : (exchL x.eg C.ed).drop 4 = C.ed := rfl
    refine ⟨?_, fun y D hy hd => ?_⟩
    · rw [e]
      show exchangeE (exchL x.eg C.ed) (exchL x.eg C.ed).length = 0
      unfold exchangeE
      rw [n0, n1, hw, hlen, if_neg (by omega), show 4 + C.ed.length - 4 = x.ed.n by omega]
      exact hE
    · obtain ⟨h1, h2⟩ := hd.a34 e
      rw [n0, n1, hw] at h1
      rw [dr] at h2
      unfold sameV
      rw [hy, e]
      simp [h1, h2]
  · -- identities
    rw [if_neg (by rw [e]; decide), if_neg (by rw [e]; decide), if_pos e] at hb
    simp only [Prod.mk.injEq] at hb
    obtain ⟨rfl, hE⟩ := hb
    have hl := (h.a35 e).id.len
    have hg : x.ik % 256 = x.ik := by
      have := idE_cases _ _ _ hE
      omega
    have hlen : (headL x.ik C.id).length = 4 + C.id.length := by simp [headL]; omega
    have n0 : nthB (headL x.ik C.id) 0 = x.ik % 256 := rfl
    have dr : (headL x.ik C.id).drop 4 = C.id := rfl
    refine ⟨?_, fun y D hy hd => ?_⟩
    · rw [e]
      show identE (headL x.ik C.id) (headL x.ik C.id).length = 0
      unfold identE
      rw [n0, hg, hlen, if_neg (by omega), show 4 + C.id.length - 4 = x.id.n by omega]
      exact hE
    · obtain ⟨h1, h2⟩ := hd.a35 (Or.inl e)
      rw [n0, hg] at h1
      rw [dr] at h2
      unfold sameV
      rw [hy, e]
      simp [h1, h2]
  · -- identities
    rw [if_neg (by rw [e]; decide), if_neg (by rw [e]; decide), if_neg (by rw [e]; decide), if_pos e] at hb
    simp only [Prod.mk.injEq] at hb
    obtain ⟨rfl, hE⟩ := hb
    have hl := (h.a36 e).id.len
    have hg : x.ik % 256 = x.ik := by
      have := idE_cases _ _ _ hE
      omega
    have hlen : (headL x.ik C.id).length = 4 + C.id.length := by simp [headL]; omega
    have n0 : nthB (headL x.ik C.id) 0 = x.ik % 256 := rfl
    have dr : (headL x.ik C.id).drop 4 = C.id := rfl
    refine ⟨?_, fun y D hy hd => ?_⟩
    · rw [e]
      show identE (headL x.ik C.id) (headL x.ik C.id).length = 0
      unfold identE
      rw [n0, hg, hlen, if_neg (by omega), show 4 + C.id.length - 4 = x.id.n by omega]
      exact hE
    · obtain ⟨h1, h2⟩ := hd.a35 (Or.inr e)
      rw [n0, hg] at h1
      rw [dr] at h2
      unfold sameV
      rw [hy, e]
      simp [h1, h2]
  · -- authentications
    rw [if_neg (by rw [e]; decide), if_neg (by rw [e]; decide), if_neg (by rw [e]; decide), if_neg (by rw [e]; decide), if_pos e] at hb
    simp only [Prod.mk.injEq] at hb
    obtain ⟨rfl, hE⟩ := hb
    have hl := (h.a39 e).ad.len
    have hg : x.am % 256 = x.am := by
      unfold authE at hE
      split at hE
      · exact absurd hE (by decide)
      · omega
    have hlen : (headL x.am C.ad).length = 4 + C.ad.length := by simp [headL]; omega
    have n0 : nthB (headL x.am C.ad) 0 = x.am % 256 := rfl
    have dr : (headL x.am C.ad).drop 4 = C.ad := rfl
    refine ⟨?_, fun y D hy hd => ?_⟩
    · rw [e]
      show authenE (headL x.am C.ad) (headL x.am C.ad).length = 0
      unfold authenE
      rw [n0, hg, hlen, if_neg (by omega), show 4 + C.ad.length - 4 = x.ad.n by omega]
      exact hE
    · obtain ⟨h1, h2⟩ := hd.a39 e
      rw [n0, hg] at h1
      rw [dr] at h2
      unfold sameV
      rw [hy, e]
      simp [h1, h2]
  · -- nonces
    rw [if_neg (by rw [e]; decide), if_neg (by rw [e]; decide), if_neg (by rw [e]; decide), if_neg (by rw [e]; decide), if_neg (by rw [e]; decide), if_pos e] at hb
    simp only [Prod.mk.injEq] at hb
    obtain ⟨rfl, hE⟩ := hb
    have hl := (h.aX (by rw [e]; decide) (by rw [e]; decide) (by rw [e]; decide) (by rw [e]; decide) (by rw [e]; decide) (by rw [e]; decide) (by rw [e]; decide) (by rw [e]; decide) (by rw [e]; decide)).da.len
    refine ⟨?_, fun y D hy hd => ?_⟩
    · rw [e]
      show nonceE C.da.length = 0
      rw [hl]
      exact hE
    · have h1 := hd.aX (by rw [e]; decide) (by rw [e]; decide) (by rw [e]; decide) (by rw [e]; decide) (by rw [e]; decide) (by rw [e]; decide) (by rw [e]; decide) (by rw [e]; decide) (by rw [e]; decide)
      unfold sameV
      rw [hy, e]
      simp [h1]
  · -- notifications
    rw [if_neg (by rw [e]; decide), if_neg (by rw [e]; decide), if_neg (by rw [e]; decide), if_neg (by rw [e]; decide), if_neg (by rw [e]; decide), if_neg (by rw [e]; decide), if_pos e] at hb
    simp only [Prod.mk.injEq] at hb
    obtain ⟨rfl, hE⟩ := hb
    have hl := (h.a41 e).ns.len
    have hg : (0 ≤ x.nt ∧ x.nt ≤ 65535) ∧ (0 ≤ x.np ∧ x.np ≤ 3) ∧ (x.ns.n : Int) = spiZ x.np := by
      unfold notifyE at hE
      split at hE
      · exact absurd hE (by decide)
      · split at hE
        · omega
        · exact absurd hE (by decide)
    have hz := spiZ_le x.np
    have hw : x.nt / 256 % 256 * 256 + x.nt % 256 = x.nt := by omega
    have hp : x.np % 256 = x.np := by omega
    have hs : (C.ns.length : Int) % 256 = C.ns.length := by omega
    have hlen : (noteL x.np x.nt C.ns C.nd).length = 4 + (C.ns.length + C.nd.length) := by simp [noteL]; omega
    have n0 : nthB (noteL x.np x.nt C.ns C.nd) 0 = x.np % 256 := rfl
    have n1 : nthB (noteL x.np x.nt C.ns C.nd) 1 = (C.ns.length : Int) % 256 := rfl
    have n2 : nthB (noteL x.np x.nt C.ns C.nd) 2 = x.nt / 256 % 256 := rfl
    have n3 : nthB (noteL x.np x.nt C.ns C.nd) 3 = x.nt % 256 := rfl
    have dr : (noteL x.np x.nt C.ns C.nd).drop 4 = C.ns ++ C.nd := rfl
    have dr2 : (noteL x.np x.nt C.ns C.nd).drop (4 + C.ns.length) = C.nd := by
      rw [← List.drop_drop, dr, List.drop_left]
    refine ⟨?_, fun y D hy hd => ?_⟩
    · rw [e]
      show noteE (noteL x.np x.nt C.ns C.nd) (noteL x.np x.nt C.ns C.nd).length = 0
      unfold noteE
      rw [n0, n1, n2, n3, hw, hp, hs, hlen, if_neg (by omega), hl, hE, if_neg (by simp), if_neg (by omega)]
    · obtain ⟨h1, h2, h3, h4⟩ := hd.a41 e
      rw [n0, hp] at h1
      rw [n2, n3, hw] at h2
      rw [n1, hs, Int.toNat_natCast, dr, List.take_left] at h3
      rw [n1, hs, Int.toNat_natCast, dr2] at h4
      unfold sameV
      rw [hy, e]
      simp [h1, h2, h3, h4]
  · -- deletions
    rw [if_neg (by rw [e]; decide), if_neg (by rw [e]; decide), if_neg (by rw [e]; decide), if_neg (by rw [e]; decide), if_neg (by rw [e]; decide), if_neg (by rw [e]; decide), if_neg (by rw [e]; decide), if_pos e] at hb
    simp only [Prod.mk.injEq] at hb
    obtain ⟨hLL, hE⟩ := hb
    obtain ⟨X, hX⟩ : ∃ X, C.ds.map Sb.xs = X := ⟨_, rfl⟩
    rw [hX] at hLL hE
    have hd0 : deleteE x.dp (sizeBad (spiZ x.dp) X) X.length = 0 := by
      unfold delBE at hE
      split at hE
      · rename_i h1
        exact absurd hE h1
      · omega
    have hsx : spisX x.dp X = 0 := by
      unfold delBE at hE
      rw [hd0, if_neg (by simp)] at hE
      exact hE
    obtain ⟨hz, hk, h1⟩ := deleteE_z _ _ _ hd0
    have hall := sizeBad_all (spiZ x.dp) X (by exact_mod_cast hz)
    have hfl := flatten_len _ X hall
    have hLe : L = [x.dp % 256, ((spiZ x.dp : Nat) : Int) % 256, (X.length : Int) / 256 % 256, (X.length : Int) % 256] ++ X.flatten := by
      rw [← hLL]
      unfold delBL
      rw [hd0, if_neg (by simp)]
      unfold delL
      rw [hz]
    have hlen : L.length = 4 + X.length * spiZ x.dp := by rw [hLe, List.length_append, hfl]; simp
    have hz4 : spiZ x.dp = 0 ∨ spiZ x.dp = 4 := by unfold spiZ; split <;> simp
    have hn : X.length ≤ 65535 := by
      rcases hz4 with h0 | h4
      · have : x.dp = 1 := by
          unfold spiZ at h0
          split at h0
          · omega
          · omega
        have := h1 this
        omega
      · rw [h4] at hlen; omega
    have n0 : nthB L 0 = x.dp % 256 := by rw [hLe]; rfl
    have n1 : nthB L 1 = ((spiZ x.dp : Nat) : Int) % 256 := by rw [hLe]; rfl
    have n2 : nthB L 2 = (X.length : Int) / 256 % 256 := by rw [hLe]; rfl
    have n3 : nthB L 3 = (X.length : Int) % 256 := by rw [hLe]; rfl
    have dr : L.drop 4 = X.flatten := by rw [hLe]; rfl
    have e0 : x.dp % 256 = x.dp := by omega
    have e1 : ((spiZ x.dp : Nat) : Int) % 256 = (spiZ x.dp : Nat) := by have := spiZ_le x.dp; omega
    have e2 : (X.length : Int) / 256 % 256 * 256 + (X.length : Int) % 256 = X.length := by omega
    rw [hz] at hd0
    refine ⟨?_, fun y D hy hd => ?_⟩
    · rw [e]
      show delE L L.length = 0
      unfold delE
      rw [n0, n1, n2, n3, e0, e1, e2, hd0, if_neg (by omega), if_neg (by simp), dr, Int.toNat_natCast, Int.toNat_natCast, spisL_flat _ X hall, hsx, if_neg]
      rw [hlen]
      push_cast
      rw [Int.mul_comm]
      omega
    · obtain ⟨h2, h3⟩ := hd.a42 e
      rw [n0, e0] at h2
      rw [n1, n2, n3, e1, e2, dr, Int.toNat_natCast, Int.toNat_natCast, spisL_flat _ X hall] at h3
      unfold sameV
      rw [hy, e]
      simp [h2, h3, hX]
  · -- selectors
    rw [if_neg (by rw [e]; decide), if_neg (by rw [e]; decide), if_neg (by rw [e]; decide), if_neg (by rw [e]; decide), if_neg (by rw [e]; decide), if_neg (by rw [e]; decide), if_neg (by rw [e]; decide), if_neg (by rw [e]; decide), if_pos e] at hb
    have hfit := (h.a44 e).se.ok
    have hz : C.se.length ≠ 0 ∧ C.se.length ≤ 16 ∧ errL C.se = 0 ∧ L = [(C.se.length : Int), 0, 0, 0] ++ encL C.se := by
      unfold buildS at hb
      split at hb
      · simp at hb
      split at hb
      · simp at hb
      split at hb
      · rename_i hc
        simp only [Prod.mk.injEq] at hb
        exact absurd hb.2 hc
      · rename_i h1 h2 h3
        simp only [Prod.mk.injEq, and_true] at hb
        exact ⟨h1, by omega, by omega, hb.symm⟩
    have hgood := errL_all C.se hfit hz.2.2.1
    have hp := parse_encS C.se hgood (by omega) hz.2.1 0 0 0
    rw [← hz.2.2.2] at hp
    refine ⟨by rw [e]; show (parseS L).2 = 0; rw [hp], fun y D hy hd => ?_⟩
    have h1 := hd.a44 (Or.inl e)
    rw [hp] at h1
    unfold sameV
    rw [hy, e]
    simp [h1]
  · -- selectors
    rw [if_neg (by rw [e]; decide), if_neg (by rw [e]; decide), if_neg (by rw [e]; decide), if_neg (by rw [e]; decide), if_neg (by rw [e]; decide), if_neg (by rw [e]; decide), if_neg (by rw [e]; decide), if_neg (by rw [e]; decide), if_neg (by rw [e]; decide), if_pos e] at hb
    have hfit := (h.a45 e).se.ok
    have hz : C.se.length ≠ 0 ∧ C.se.length ≤ 16 ∧ errL C.se = 0 ∧ L = [(C.se.length : Int), 0, 0, 0] ++ encL C.se := by
      unfold buildS at hb
      split at hb
      · simp at hb
      split at hb
      · simp at hb
      split at hb
      · rename_i hc
        simp only [Prod.mk.injEq] at hb
        exact absurd hb.2 hc
      · rename_i h1 h2 h3
        simp only [Prod.mk.injEq, and_true] at hb
        exact ⟨h1, by omega, by omega, hb.symm⟩
    have hgood := errL_all C.se hfit hz.2.2.1
    have hp := parse_encS C.se hgood (by omega) hz.2.1 0 0 0
    rw [← hz.2.2.2] at hp
    refine ⟨by rw [e]; show (parseS L).2 = 0; rw [hp], fun y D hy hd => ?_⟩
    have h1 := hd.a44 (Or.inr e)
    rw [hp] at h1
    unfold sameV
    rw [hy, e]
    simp [h1]
  · -- others
    rw [if_neg (by rw [e]; decide), if_neg (by rw [e]; decide), if_neg (by rw [e]; decide), if_neg (by rw [e]; decide), if_neg (by rw [e]; decide), if_neg (by rw [e]; decide), if_neg (by rw [e]; decide), if_neg (by rw [e]; decide), if_neg (by rw [e]; decide), if_neg (by rw [e]; decide)] at hb
    simp only [Prod.mk.injEq, and_true] at hb
    subst hb
    refine ⟨by rw [e]; rfl, fun y D hy hd => ?_⟩
    have h1 := hd.aX (by rw [e]; decide) (by rw [e]; decide) (by rw [e]; decide) (by rw [e]; decide) (by rw [e]; decide) (by rw [e]; decide) (by rw [e]; decide) (by rw [e]; decide) (by rw [e]; decide)
    unfold sameV
    rw [hy, e]
    simp [h1]
  · -- others
    rw [if_neg (by rw [e]; decide), if_neg (by rw [e]; decide), if_neg (by rw [e]; decide), if_neg (by rw [e]; decide), if_neg (by rw [e]; decide), if_neg (by rw [e]; decide), if_neg (by rw [e]; decide), if_neg (by rw [e]; decide), if_neg (by rw [e]; decide), if_neg (by rw [e]; decide)] at hb
    simp only [Prod.mk.injEq, and_true] at hb
    subst hb
    refine ⟨by rw [e]; rfl, fun y D hy hd => ?_⟩
    have h1 := hd.aX (by rw [e]; decide) (by rw [e]; decide) (by rw [e]; decide) (by rw [e]; decide) (by rw [e]; decide) (by rw [e]; decide) (by rw [e]; decide) (by rw [e]; decide) (by rw [e]; decide)
    unfold sameV
    rw [hy, e]
    simp [h1]
end Go.Proofs.YtnbkffehhahckaaGreat

namespace Go.Proofs.YtnbkffehhahckaaGreat
open Go.RowKit
set_option linter.unusedVariables false
def Kind12 (t : Int) : Prop := t = 33 ∨ t = 34 ∨ t = 35 ∨ t = 36 ∨ t = 39 ∨ t = 40 ∨ t = 41 ∨ t = 42 ∨ t = 44 ∨ t = 45 ∨ t = 37 ∨ t = 43
theorem pk_any (t : Int) (ht : Kind12 t) (p : Option Addr) (n c : Nat) (xs : List Int) (cr : Bool) (w : World) (h : Byt w p n c xs) (hn : n ≤ 1048576) :
    Calls Tryz.prog 42 #[.agg #[.int .i64 t, .bool cr, .slice p n c]] w (ParsedV w t (parseE t xs) (gdK t xs)) := by
  rcases ht with rfl | rfl | rfl | rfl | rfl | rfl | rfl | rfl | rfl | rfl | rfl | rfl
  · exact pk_33 p n c xs cr w h hn
  · exact pk_34 p n c xs cr w h hn
  · exact pk_35 p n c xs cr w h hn
  · exact pk_36 p n c xs cr w h hn
  · exact pk_39 p n c xs cr w h hn
  · exact pk_40 p n c xs cr w h hn
  · exact pk_41 p n c xs cr w h hn
  · exact pk_42 p n c xs cr w h hn
  · exact pk_44 p n c xs cr w h hn
  · exact pk_45 p n c xs cr w h hn
  · exact pk_37 p n c xs cr w h hn
  · exact pk_43 p n c xs cr w h hn
theorem rd_sz (t : Int) (xs : List Int) (hr : ∀ z ∈ xs, 0 ≤ z ∧ z ≤ 255) (hl : xs.length ≤ 1000000) (x : Pv) (C : Pc) (w : World) (h : PvRk w x C) (hd : RdAs x.t xs x C) : PvSz x := by
  have b2 : 0 ≤ nthB xs 2 ∧ nthB xs 2 ≤ 255 := rng_getD hr 2
  have b3 : 0 ≤ nthB xs 3 ∧ nthB xs 3 ≤ 255 := rng_getD hr 3
  refine ⟨fun e => ?_, fun e => ?_, fun e => ?_, fun e => ?_, fun e => ?_, fun e => ?_, fun a1 a2 a3 a4 a5 a6 a7 a8 a9 => ?_⟩
  · have := (h.a34 e).ed.len
    rw [(hd.a34 e).2, List.length_drop] at this
    omega
  · have h1 := (hd.a35 e).2
    rcases e with e | e
    · have := (h.a35 e).id.len
      rw [h1, List.length_drop] at this
      omega
    · have := (h.a36 e).id.len
      rw [h1, List.length_drop] at this
      omega
  · have := (h.a39 e).ad.len
    rw [(hd.a39 e).2, List.length_drop] at this
    omega
  · have := (h.a41 e).ns.len
    rw [(hd.a41 e).2.2.1, List.length_take, List.length_drop] at this
    omega
  · have := (h.a41 e).nd.len
    rw [(hd.a41 e).2.2.2, List.length_drop] at this
    omega
  · have h1 := (h.a42 e).ds.len
    have h2 := congrArg List.length (hd.a42 e).2
    simp only [spisL, List.length_map, List.length_range] at h2
    omega
  · have := (h.aX a1 a2 a3 a4 a5 a6 a7 a8 a9).da.len
    rw [hd.aX a1 a2 a3 a4 a5 a6 a7 a8 a9] at this
    omega
end Go.Proofs.YtnbkffehhahckaaGreat

namespace Go.Proofs.YtnbkffehhahckaaGreat
open Go.RowKit
set_option linter.unusedVariables false
theorem parseE_X (t : Int) (ht : Other t) (xs : List Int) : parseE t xs = 0 := by
  obtain ⟨h33, h34, h35, h36, h39, h40, h41, h42, h44, h45⟩ := ht
  unfold parseE
  rw [if_neg h33, if_neg h34, if_neg h35, if_neg h36, if_neg h39, if_neg h40, if_neg h41, if_neg h42, if_neg h44, if_neg h45]
theorem pk_X (t : Int) (ht : Other t) (p : Option Addr) (n c : Nat) (xs : List Int) (cr : Bool) (w : World) (h : Byt w p n c xs) (hn : n ≤ 1048576) :
    Calls Tryz.prog 42 #[.agg #[.int .i64 t, .bool cr, .slice p n c]] w (ParsedV w t (parseE t xs) (gdK t xs)) := by
  rw [parseE_X t ht]
  refine pparse_X t ht p n c xs cr _ (gdK t xs) w h (fun W hW => (data_read p n c xs W hW (by omega)).mono ?_)
  obtain ⟨h33, h34, h35, h36, h39, h40, h41, h42, h44, h45⟩ := ht
  rintro e w' ⟨x, he, hb, hg⟩
  refine ⟨x, he, hb, fun h0 => ?_⟩
  obtain h2 := hg h0
  exact ⟨{ Cn with da := xs }, fun W hW => ⟨fun e => absurd e h33, fun e => absurd e h34, fun e => absurd e h35, fun e => absurd e h36, fun e => absurd e h39, fun e => absurd e h41, fun e => absurd e h42, fun e => absurd e h44, fun e => absurd e h45, fun _ _ _ _ _ _ _ _ _ => ⟨Frs.kp h2 hW⟩⟩,
    ⟨fun e => absurd e h33, fun e => absurd e h34, fun e => absurd e (by omega), fun e => absurd e h39, fun e => absurd e h41, fun e => absurd e h42, fun e => absurd e (by omega), fun _ _ _ _ _ _ _ _ _ => rfl⟩⟩
theorem pk_all (t : Int) (p : Option Addr) (n c : Nat) (xs : List Int) (cr : Bool) (w : World) (h : Byt w p n c xs) (hn : n ≤ 1048576) :
    Calls Tryz.prog 42 #[.agg #[.int .i64 t, .bool cr, .slice p n c]] w (ParsedV w t (parseE t xs) (gdK t xs)) := by
  by_cases ht : Kind12 t
  · exact pk_any t ht p n c xs cr w h hn
  · exact pk_X t (by unfold Kind12 at ht; unfold Other; omega) p n c xs cr w h hn
end Go.Proofs.YtnbkffehhahckaaGreat

namespace Go.Proofs.YtnbkffehhahckaaGreat
open Go.RowKit
set_option linter.unusedVariables false
def Rp0 (e : Int) : Prop := e = 0 ∨ Rpl e
instance (e : Int) : Decidable (Rp0 e) := by unfold Rp0; infer_instance
theorem rp_trs (l : List Tr) : ∀ s, Rp0 (errTrs s l) := by
  induction l with
  | nil => exact fun s => Or.inl rfl
  | cons x l ih =>
    intro s
    unfold errTrs
    repeat' split
    all_goals first | decide | exact ih _
theorem rp_pr (p : Pr) (n : Int) : Rp0 (errPr p n) := by
  unfold errPr
  repeat' split
  all_goals first | decide | exact rp_trs _ _
theorem rp_prs (l : List Pr) : ∀ n, Rp0 (errPrs n l) := by
  induction l with
  | nil => exact fun n => Or.inl rfl
  | cons x l ih =>
    intro n
    unfold errPrs
    split
    · exact rp_pr _ _
    · exact ih _
theorem rp_checkP (l : List Pr) : Rp0 (checkP l) := by
  unfold checkP
  repeat' split
  all_goals first | decide | exact rp_prs _ _
theorem rp_parseP (xs : List Int) : Rp0 (parseP xs).2 := by
  unfold parseP
  split
  · exact (by decide : Rp0 1)
  · split
    · exact (by decide : Rp0 4)
    · split
      · exact rp_checkP _
      · exact Or.inl rfl
theorem rp_checkS (s : Sl) : Rp0 (checkS s) := by
  unfold checkS
  repeat' split
  all_goals decide
theorem rp_errL (l : List Sl) : Rp0 (errL l) := by
  induction l with
  | nil => exact Or.inl rfl
  | cons x l ih =>
    unfold errL
    split
    · exact rp_checkS _
    · exact ih
theorem rp_parseS (xs : List Int) : Rp0 (parseS xs).2 := by
  unfold parseS
  split
  · exact (by decide : Rp0 1)
  · split
    · exact (by decide : Rp0 8)
    · split
      · exact (by decide : Rp0 10)
      · split
        · exact (by decide : Rp0 4)
        · split
          · exact rp_errL _
          · exact Or.inl rfl
theorem rp_notify (a b c : Int) : Rp0 (notifyE a b c) := by
  unfold notifyE
  repeat' split
  all_goals decide
theorem rp_delete (a b c : Int) : Rp0 (deleteE a b c) := by
  unfold deleteE
  repeat' split
  all_goals decide
theorem rp_parseE (t : Int) (xs : List Int) : Rp0 (parseE t xs) := by
  unfold parseE
  repeat' split
  · exact rp_parseP _
  · unfold exchangeE exchE; repeat' split
    all_goals decide
  · unfold identE idE; repeat' split
    all_goals decide
  · unfold identE idE; repeat' split
    all_goals decide
  · unfold authenE authE; repeat' split
    all_goals decide
  · unfold nonceE; repeat' split
    all_goals decide
  · unfold noteE; repeat' split
    all_goals first | decide | exact rp_notify _ _ _
  · unfold delE spisX; repeat' split
    all_goals first | decide | exact rp_delete _ _ _
  · exact rp_parseS _
  · exact rp_parseS _
  · decide
theorem rp_checkM (x f : Int) (l : List Pv) : Rp0 (checkM x f l) := by
  unfold checkM
  simp only
  repeat' split
  all_goals decide
def RawOk (N : Nat) (r : Raw) : Prop := 0 ≤ r.k ∧ r.k ≤ 255 ∧ r.b.length ≤ N ∧ ∀ z ∈ r.b, 0 ≤ z ∧ z ≤ 255
theorem getD_rng (xs : List Int) (h : ∀ z ∈ xs, 0 ≤ z ∧ z ≤ 255) (j : Nat) : 0 ≤ xs.getD j 0 ∧ xs.getD j 0 ≤ 255 := by
  rw [List.getD_eq_getElem?_getD]
  by_cases hj : j < xs.length
  · rw [List.getElem?_eq_getElem hj]
    exact h _ (List.getElem_mem _)
  · rw [List.getElem?_eq_none (by omega)]
    exact ⟨by decide, by decide⟩
theorem headC_ok (N : Nat) (k : Int) (xs : List Int) (hk : 0 ≤ k ∧ k ≤ 255) (h : ∀ z ∈ xs, 0 ≤ z ∧ z ≤ 255) (hN : xs.length ≤ N) : RawOk N (headC k xs) :=
  ⟨hk.1, hk.2, by simp only [headC, List.length_take, List.length_drop]; omega, fun z hz => h z (List.mem_of_mem_drop (List.mem_of_mem_take hz))⟩
theorem parseC_ok (N : Nat) : ∀ (left : Nat) (k : Int) (xs : List Int), 0 ≤ k ∧ k ≤ 255 → (∀ z ∈ xs, 0 ≤ z ∧ z ≤ 255) → xs.length ≤ N → ∀ r ∈ (parseC left k xs).l, RawOk N r
  | 0, k, xs, hk, h, hN => by
    by_cases h0 : k = 0
    · subst h0
      rw [parseC_end]
      split <;> (intro r hr; cases hr)
    · rw [parseC_many k xs h0]
      intro r hr; cases hr
  | left + 1, k, xs, hk, h, hN => by
    by_cases h0 : k = 0
    · subst h0
      rw [parseC_end]
      split <;> (intro r hr; cases hr)
    · rw [parseC_more left k xs h0]
      split
      · intro r hr; cases hr
      · split
        · intro r hr; cases hr
        · split
          · split
            · intro r hr; cases hr
            · intro r hr
              rw [List.mem_singleton.1 hr]
              exact headC_ok N k xs hk h hN
          · intro r hr
            unfold preC at hr
            split at hr
            · cases hr
            · rcases List.mem_append.1 hr with hr | hr
              · rw [List.mem_singleton.1 hr]
                exact headC_ok N k xs hk h hN
              · exact parseC_ok N left _ _ (getD_rng xs h 0) (fun z hz => h z (List.mem_of_mem_drop hz)) (by rw [List.length_drop]; omega) r hr
theorem parseTop_ok (N : Nat) (k : Int) (xs : List Int) (h : ∀ z ∈ xs, 0 ≤ z ∧ z ≤ 255) (hN : xs.length ≤ N) : ∀ r ∈ (parseTop k xs).l, RawOk N r := by
  unfold parseTop
  split
  · intro r hr; cases hr
  · exact parseC_ok N _ _ _ (by omega) h hN
end Go.Proofs.YtnbkffehhahckaaGreat

namespace Go.Proofs.YtnbkffehhahckaaGreat
open Go.RowKit
set_option linter.unusedVariables false
set_option linter.unusedSimpArgs false
set_option maxHeartbeats 1600000 in
set_option maxRecDepth 100000 in
theorem vld_small (x : Pv) (C : Pc) (w : World) (h : PvRd w x C) (hn : NumOk x) (hv : Vld x C) (h2p : C.pr.length ≤ 2) (hk : Kind12 x.t) : (buildB x C).2 = 0 ∧ (buildB x C).1.length ≤ 1000 ∧ PvSz x := by
  obtain ⟨n1, n2, n3, n4⟩ := hn
  have hdl := h.ds.len
  unfold buildB
  rcases hk with e | e | e | e | e | e | e | e | e | e | e | e
  · have v := (vld33 e).1 hv
    rw [if_pos e]
    have h1 := encPs_le (C.pr.map PrP.pr) (checkP_ok v).2.2
    have h2 : (C.pr.map PrP.pr).length ≤ 2 := by rw [List.length_map]; exact h2p
    refine ⟨by unfold buildP; rw [v, if_neg (by simp)], ?_, ⟨fun h0 => by rw [e] at h0; exact absurd h0 (by decide), fun h0 => by rw [e] at h0; exact absurd h0 (by decide), fun h0 => by rw [e] at h0; exact absurd h0 (by decide), fun h0 => by rw [e] at h0; exact absurd h0 (by decide), fun h0 => by rw [e] at h0; exact absurd h0 (by decide), fun h0 => by rw [e] at h0; exact absurd h0 (by decide), fun a1 a2 a3 a4 a5 a6 a7 a8 a9 => absurd e a1⟩⟩
    unfold buildP
    rw [v, if_neg (by simp)]
    show (encPs _).length ≤ _
    omega
  · have v := (vld34 e).1 hv
    rw [if_neg (by rw [e]; decide), if_pos e]
    have hl := h.ed.len
    refine ⟨by show exchE _ _ = 0; unfold exchE; rw [if_neg (by omega), if_neg (by omega)], ?_, ⟨fun _ => by omega, fun h0 => by rw [e] at h0; exact absurd h0 (by decide), fun h0 => by rw [e] at h0; exact absurd h0 (by decide), fun h0 => by rw [e] at h0; exact absurd h0 (by decide), fun h0 => by rw [e] at h0; exact absurd h0 (by decide), fun h0 => by rw [e] at h0; exact absurd h0 (by decide), fun a1 a2 a3 a4 a5 a6 a7 a8 a9 => absurd e a2⟩⟩
    show (exchL _ _).length ≤ _
    simp [exchL]
    omega
  · have v := (vld35 e).1 hv
    rw [if_neg (by rw [e]; decide), if_neg (by rw [e]; decide), if_pos e]
    have hl := h.id.len
    refine ⟨?_, ?_, ⟨fun h0 => by rw [e] at h0; exact absurd h0 (by decide), fun _ => by omega, fun h0 => by rw [e] at h0; exact absurd h0 (by decide), fun h0 => by rw [e] at h0; exact absurd h0 (by decide), fun h0 => by rw [e] at h0; exact absurd h0 (by decide), fun h0 => by rw [e] at h0; exact absurd h0 (by decide), fun a1 a2 a3 a4 a5 a6 a7 a8 a9 => absurd e a3⟩⟩
    · show idE _ _ = 0
      obtain ⟨v1, v2, v3⟩ := v
      unfold idE
      rw [if_neg (by omega), if_neg (by omega), if_pos v1, if_neg (by omega)]
    · show (headL _ _).length ≤ _
      simp [headL]
      omega
  · have v := (vld36 e).1 hv
    rw [if_neg (by rw [e]; decide), if_neg (by rw [e]; decide), if_neg (by rw [e]; decide), if_pos e]
    have hl := h.id.len
    refine ⟨?_, ?_, ⟨fun h0 => by rw [e] at h0; exact absurd h0 (by decide), fun _ => by omega, fun h0 => by rw [e] at h0; exact absurd h0 (by decide), fun h0 => by rw [e] at h0; exact absurd h0 (by decide), fun h0 => by rw [e] at h0; exact absurd h0 (by decide), fun h0 => by rw [e] at h0; exact absurd h0 (by decide), fun a1 a2 a3 a4 a5 a6 a7 a8 a9 => absurd e a4⟩⟩
    · show idE _ _ = 0
      obtain ⟨v1, v2, v3⟩ := v
      unfold idE
      rw [if_neg (by omega), if_neg (by omega), if_pos v1, if_neg (by omega)]
    · show (headL _ _).length ≤ _
      simp [headL]
      omega
  · have v := (vld39 e).1 hv
    rw [if_neg (by rw [e]; decide), if_neg (by rw [e]; decide), if_neg (by rw [e]; decide), if_neg (by rw [e]; decide), if_pos e]
    have hl := h.ad.len
    refine ⟨?_, ?_, ⟨fun h0 => by rw [e] at h0; exact absurd h0 (by decide), fun h0 => by rw [e] at h0; exact absurd h0 (by decide), fun _ => by omega, fun h0 => by rw [e] at h0; exact absurd h0 (by decide), fun h0 => by rw [e] at h0; exact absurd h0 (by decide), fun h0 => by rw [e] at h0; exact absurd h0 (by decide), fun a1 a2 a3 a4 a5 a6 a7 a8 a9 => absurd e a5⟩⟩
    · show authE _ _ = 0
      unfold authE
      rw [if_neg (by omega), if_neg (by omega)]
    · show (headL _ _).length ≤ _
      simp [headL]
      omega
  · have v := (vld40 e).1 hv
    rw [if_neg (by rw [e]; decide), if_neg (by rw [e]; decide), if_neg (by rw [e]; decide), if_neg (by rw [e]; decide), if_neg (by rw [e]; decide), if_pos e]
    have hl := h.da.len
    refine ⟨?_, ?_, ⟨fun h0 => by rw [e] at h0; exact absurd h0 (by decide), fun h0 => by rw [e] at h0; exact absurd h0 (by decide), fun h0 => by rw [e] at h0; exact absurd h0 (by decide), fun h0 => by rw [e] at h0; exact absurd h0 (by decide), fun h0 => by rw [e] at h0; exact absurd h0 (by decide), fun h0 => by rw [e] at h0; exact absurd h0 (by decide), fun _ _ _ _ _ _ _ _ _ => by omega⟩⟩
    · show nonceE _ = 0
      unfold nonceE
      rw [if_neg (by omega)]
    · show C.da.length ≤ _
      omega
  · have v := (vld41 e).1 hv
    rw [if_neg (by rw [e]; decide), if_neg (by rw [e]; decide), if_neg (by rw [e]; decide), if_neg (by rw [e]; decide), if_neg (by rw [e]; decide), if_neg (by rw [e]; decide), if_pos e]
    have hl := h.ns.len
    have hl2 := h.nd.len
    refine ⟨?_, ?_, ⟨fun h0 => by rw [e] at h0; exact absurd h0 (by decide), fun h0 => by rw [e] at h0; exact absurd h0 (by decide), fun h0 => by rw [e] at h0; exact absurd h0 (by decide), fun _ => by omega, fun _ => by omega, fun h0 => by rw [e] at h0; exact absurd h0 (by decide), fun a1 a2 a3 a4 a5 a6 a7 a8 a9 => absurd e a6⟩⟩
    · show notifyE _ _ _ = 0
      unfold notifyE
      rw [if_neg (by omega), if_pos]
      rcases v with ⟨v1, v2⟩ | ⟨v1, v2⟩
      · rw [v1, v2]; rfl
      · rw [v1, v2]; rfl
    · show (noteL _ _ _ _).length ≤ _
      simp [noteL]
      omega
  · have v := (vld42 e).1 hv
    rw [if_neg (by rw [e]; decide), if_neg (by rw [e]; decide), if_neg (by rw [e]; decide), if_neg (by rw [e]; decide), if_neg (by rw [e]; decide), if_neg (by rw [e]; decide), if_neg (by rw [e]; decide), if_pos e]
    rcases v with ⟨v1, v2⟩ | ⟨v1, v2 | v2⟩
    · have hd0 : x.ds.n = 0 := by rw [← hdl, v2]; rfl
      rw [v1, v2]
      exact ⟨by decide, by decide, ⟨fun h0 => by rw [e] at h0; exact absurd h0 (by decide), fun h0 => by rw [e] at h0; exact absurd h0 (by decide), fun h0 => by rw [e] at h0; exact absurd h0 (by decide), fun h0 => by rw [e] at h0; exact absurd h0 (by decide), fun h0 => by rw [e] at h0; exact absurd h0 (by decide), fun _ => by omega, fun a1 a2 a3 a4 a5 a6 a7 a8 a9 => absurd e a7⟩⟩
    · have hd0 : x.ds.n = 1 := by rw [← hdl]; have := congrArg List.length v2; simpa using this
      rw [v1, v2]
      exact ⟨by decide, by decide, ⟨fun h0 => by rw [e] at h0; exact absurd h0 (by decide), fun h0 => by rw [e] at h0; exact absurd h0 (by decide), fun h0 => by rw [e] at h0; exact absurd h0 (by decide), fun h0 => by rw [e] at h0; exact absurd h0 (by decide), fun h0 => by rw [e] at h0; exact absurd h0 (by decide), fun _ => by omega, fun a1 a2 a3 a4 a5 a6 a7 a8 a9 => absurd e a7⟩⟩
    · have hd0 : x.ds.n = 2 := by rw [← hdl]; have := congrArg List.length v2; simpa using this
      rw [v1, v2]
      exact ⟨by decide, by decide, ⟨fun h0 => by rw [e] at h0; exact absurd h0 (by decide), fun h0 => by rw [e] at h0; exact absurd h0 (by decide), fun h0 => by rw [e] at h0; exact absurd h0 (by decide), fun h0 => by rw [e] at h0; exact absurd h0 (by decide), fun h0 => by rw [e] at h0; exact absurd h0 (by decide), fun _ => by omega, fun a1 a2 a3 a4 a5 a6 a7 a8 a9 => absurd e a7⟩⟩
  · have v := (vld44 e).1 hv
    rw [if_neg (by rw [e]; decide), if_neg (by rw [e]; decide), if_neg (by rw [e]; decide), if_neg (by rw [e]; decide), if_neg (by rw [e]; decide), if_neg (by rw [e]; decide), if_neg (by rw [e]; decide), if_neg (by rw [e]; decide), if_pos e]
    obtain ⟨v1, v2, v3⟩ := v
    have h1 := encL_le C.se v1
    have h2 := errL_good (fun s hs => (v1 s hs).check)
    have h3 : buildS C.se = ([(C.se.length : Int), 0, 0, 0] ++ encL C.se, 0) := by
      unfold buildS
      rw [if_neg (by omega), if_neg (by omega), h2, if_neg (by simp)]
    rw [h3]
    refine ⟨rfl, ?_, ⟨fun h0 => by rw [e] at h0; exact absurd h0 (by decide), fun h0 => by rw [e] at h0; exact absurd h0 (by decide), fun h0 => by rw [e] at h0; exact absurd h0 (by decide), fun h0 => by rw [e] at h0; exact absurd h0 (by decide), fun h0 => by rw [e] at h0; exact absurd h0 (by decide), fun h0 => by rw [e] at h0; exact absurd h0 (by decide), fun a1 a2 a3 a4 a5 a6 a7 a8 a9 => absurd e a8⟩⟩
    show (_ ++ _ : List Int).length ≤ _
    simp only [List.length_append, List.length_cons, List.length_nil]
    omega
  · have v := (vld45 e).1 hv
    rw [if_neg (by rw [e]; decide), if_neg (by rw [e]; decide), if_neg (by rw [e]; decide), if_neg (by rw [e]; decide), if_neg (by rw [e]; decide), if_neg (by rw [e]; decide), if_neg (by rw [e]; decide), if_neg (by rw [e]; decide), if_neg (by rw [e]; decide), if_pos e]
    obtain ⟨v1, v2, v3⟩ := v
    have h1 := encL_le C.se v1
    have h2 := errL_good (fun s hs => (v1 s hs).check)
    have h3 : buildS C.se = ([(C.se.length : Int), 0, 0, 0] ++ encL C.se, 0) := by
      unfold buildS
      rw [if_neg (by omega), if_neg (by omega), h2, if_neg (by simp)]
    rw [h3]
    refine ⟨rfl, ?_, ⟨fun h0 => by rw [e] at h0; exact absurd h0 (by decide), fun h0 => by rw [e] at h0; exact absurd h0 (by decide), fun h0 => by rw [e] at h0; exact absurd h0 (by decide), fun h0 => by rw [e] at h0; exact absurd h0 (by decide), fun h0 => by rw [e] at h0; exact absurd h0 (by decide), fun h0 => by rw [e] at h0; exact absurd h0 (by decide), fun a1 a2 a3 a4 a5 a6 a7 a8 a9 => absurd e a9⟩⟩
    show (_ ++ _ : List Int).length ≤ _
    simp only [List.length_append, List.length_cons, List.length_nil]
    omega
  · have v := (vld37 e).1 hv
    rw [if_neg (by rw [e]; decide), if_neg (by rw [e]; decide), if_neg (by rw [e]; decide), if_neg (by rw [e]; decide), if_neg (by rw [e]; decide), if_neg (by rw [e]; decide), if_neg (by rw [e]; decide), if_neg (by rw [e]; decide), if_neg (by rw [e]; decide), if_neg (by rw [e]; decide)]
    have hl := h.da.len
    exact ⟨rfl, by show C.da.length ≤ _; omega, ⟨fun h0 => by rw [e] at h0; exact absurd h0 (by decide), fun h0 => by rw [e] at h0; exact absurd h0 (by decide), fun h0 => by rw [e] at h0; exact absurd h0 (by decide), fun h0 => by rw [e] at h0; exact absurd h0 (by decide), fun h0 => by rw [e] at h0; exact absurd h0 (by decide), fun h0 => by rw [e] at h0; exact absurd h0 (by decide), fun _ _ _ _ _ _ _ _ _ => by omega⟩⟩
  · have v := (vld43 e).1 hv
    rw [if_neg (by rw [e]; decide), if_neg (by rw [e]; decide), if_neg (by rw [e]; decide), if_neg (by rw [e]; decide), if_neg (by rw [e]; decide), if_neg (by rw [e]; decide), if_neg (by rw [e]; decide), if_neg (by rw [e]; decide), if_neg (by rw [e]; decide), if_neg (by rw [e]; decide)]
    have hl := h.da.len
    exact ⟨rfl, by show C.da.length ≤ _; omega, ⟨fun h0 => by rw [e] at h0; exact absurd h0 (by decide), fun h0 => by rw [e] at h0; exact absurd h0 (by decide), fun h0 => by rw [e] at h0; exact absurd h0 (by decide), fun h0 => by rw [e] at h0; exact absurd h0 (by decide), fun h0 => by rw [e] at h0; exact absurd h0 (by decide), fun h0 => by rw [e] at h0; exact absurd h0 (by decide), fun _ _ _ _ _ _ _ _ _ => by omega⟩⟩
abbrev PZ := Pv × Pc
def rawZ (z : PZ) : Raw := ⟨z.1.t, false, (buildB z.1 z.2).1⟩
structure MadeZ (z : PZ) : Prop where
  t : 33 ≤ z.1.t ∧ z.1.t ≤ 45 ∧ z.1.t ≠ 38
  ok : (buildB z.1 z.2).2 = 0
  len : (buildB z.1 z.2).1.length ≤ 1000
  sz : PvSz z.1
theorem MadeZ.k12 {z : PZ} (h : MadeZ z) : Kind12 z.1.t := by have := h.t; unfold Kind12; omega
theorem MadeZ.rawE {z : PZ} (h : MadeZ z) : rawE z.1.t (buildB z.1 z.2).1 (buildB z.1 z.2).2 = 0 := by
  have := h.t
  have := h.len
  have := h.ok
  unfold Go.Proofs.YtnbkffehhahckaaGreat.rawE
  rw [if_neg (by omega), if_neg (by omega), if_neg (by omega)]
theorem errZ (Z : List PZ) (h : ∀ z ∈ Z, MadeZ z) : errC (Z.map rawZ) = 0 := by
  induction Z with
  | nil => rfl
  | cons z Z ih =>
    have h1 := h z (List.mem_cons_self ..)
    have ht := h1.t
    have hl := h1.len
    have h46 : lastK z.1.t = false := by unfold lastK; simp; omega
    show errC (rawZ z :: Z.map rawZ) = 0
    unfold errC
    rw [if_neg (show ¬ ((rawZ z).k < 1 ∨ 255 < (rawZ z).k) by show ¬ (z.1.t < 1 ∨ 255 < z.1.t); omega), if_neg (show ¬ 65531 < (rawZ z).b.length by show ¬ 65531 < (buildB z.1 z.2).1.length; omega), if_neg (show ¬ (lastK (rawZ z).k = true ∧ Z.map rawZ ≠ []) by show ¬ (lastK z.1.t = true ∧ _); rw [h46]; simp)]
    exact ih (fun y hy => h y (List.mem_cons_of_mem _ hy))
theorem encZ_len (Z : List PZ) (h : ∀ z ∈ Z, MadeZ z) : (encC 0 (Z.map rawZ)).length ≤ 1004 * Z.length := by
  induction Z with
  | nil => simp [encC]
  | cons z Z ih =>
    have h1 := (h z (List.mem_cons_self ..)).len
    have h2 := ih (fun y hy => h y (List.mem_cons_of_mem _ hy))
    show (oneC (nextC 0 (Z.map rawZ)) (rawZ z) ++ encC 0 (Z.map rawZ)).length ≤ _
    rw [List.length_append, oneC_len, List.length_cons]
    simp only [rawZ]
    omega
theorem buildZ (Z : List PZ) (h : ∀ z ∈ Z, MadeZ z) (hn : Z.length ≤ 7) : buildC (Z.map rawZ) 0 = (nextC 0 (Z.map rawZ), encC 0 (Z.map rawZ), 0) := by
  unfold buildC
  rw [if_neg (by rw [List.length_map]; omega), if_neg (by rw [errZ Z h]; simp), if_neg (by omega), if_neg (by simp)]
theorem nextZ (Z : List PZ) (h : ∀ z ∈ Z, MadeZ z) : 0 ≤ nextC 0 (Z.map rawZ) ∧ nextC 0 (Z.map rawZ) ≤ 255 := by
  cases Z with
  | nil => exact ⟨by decide, by decide⟩
  | cons z Z =>
    have := (h z (List.mem_cons_self ..)).t
    show 0 ≤ z.1.t ∧ z.1.t ≤ 255
    omega
theorem readZ (Z : List PZ) (h : ∀ z ∈ Z, MadeZ z) (hn : Z.length ≤ 7) : parseTop (nextC 0 (Z.map rawZ)) (encC 0 (Z.map rawZ)) = ⟨Z.map rawZ, 0, 0⟩ := by
  have := nextZ Z h
  unfold parseTop
  rw [if_neg (by omega)]
  exact parse_enc 0 (by omega) _ 40 (errZ Z h) (by rw [List.length_map]; omega) (Or.inl rfl)
theorem Good.checkN {i r n x f m : Int} (h : Good i r n x f m) (k : Int) (hk : 0 ≤ k ∧ k ≤ 255) : checkR i r k x f m = 0 := by
  have hf : (bits BinOp.andNot IntKind.i64 f 56 == 0) = true := by rcases h.gf with rfl | rfl | rfl | rfl <;> decide
  have hx := h.gx
  have hr : rangeR k x f = true := by
    rw [rangeR, hf]
    simp
    omega
  have h1 := h.gi
  have h2 := h.later
  have h3 := h.first
  rw [checkR, if_neg (by omega), if_neg (by rw [hr]; simp), if_neg (by omega), if_neg (by omega)]
theorem Good.readN {i r n x f m : Int} (h : Good i r n x f m) (k : Int) (hk : 0 ≤ k ∧ k ≤ 255) (zs : List Int) (hl : 28 + zs.length ≤ 8192) : parseR (hdrL i r k x f m (28 + (zs.length : Int)) ++ zs) = (⟨i, r, k, x, f, m⟩, 0) := by
  have h1 := h.gi
  have h2 := h.gr
  have h3 := h.gm
  have h4 := h.gx
  have h5 := h.gf
  rw [hdr_msg, show k % 256 = k by omega, show x % 256 = x by omega, show f % 256 = f by omega]
  exact msg_read i r k 32 x f f m _ zs (by omega) (by omega) (by omega) (by omega) (by decide) (flags_same f h5) (h.checkN k hk) rfl
theorem Good.bytesN {i r n x f m : Int} (h : Good i r n x f m) (k : Int) (hk : 0 ≤ k ∧ k ≤ 255) (len : Int) (zs : List Int) : (hdrL i r k x f m len ++ zs).drop 28 = zs := by
  have hl : (hdrL i r k x f m len).length = 28 := by simp [hdrL, be_len]
  rw [← hl, List.drop_left]
def keyM (y : Pv) : Int × Int := (y.t, if y.t = 41 then y.nt else 0)
theorem keyM_t {a b : Pv} (h : keyM a = keyM b) : a.t = b.t := congrArg Prod.fst h
theorem keyM_nt {a b : Pv} (h : keyM a = keyM b) (h1 : a.t = 41) : a.nt = b.nt := by
  have h2 := congrArg Prod.snd h
  have h3 := keyM_t h
  simp only [keyM] at h2
  rwa [if_pos h1, if_pos (by omega)] at h2
theorem tells_key {a b : Pv} (h : keyM a = keyM b) : tells a = tells b := by
  unfold tells
  have h1 := keyM_t h
  by_cases e : a.t = 41
  · rw [keyM_nt h e, h1]
  · have e2 : ¬ b.t = 41 := by omega
    rw [show (a.t == 41) = false from beq_false_of_ne e, show (b.t == 41) = false from beq_false_of_ne e2]
    rfl
theorem note_key {a b : Pv} (h : keyM a = keyM b) (k : Int) : isNote k a = isNote k b := by
  unfold isNote
  have h1 := keyM_t h
  by_cases e : a.t = 41
  · rw [keyM_nt h e, h1]
  · have e2 : ¬ b.t = 41 := by omega
    rw [show (a.t == 41) = false from beq_false_of_ne e, show (b.t == 41) = false from beq_false_of_ne e2]
    rfl
theorem plain_key {a b : Pv} (h : keyM a = keyM b) : plainP a = plainP b := by
  unfold plainP
  rw [keyM_t h]
theorem any_key {f : Pv → Bool} (hf : ∀ a b, keyM a = keyM b → f a = f b) : ∀ {l r : List Pv}, l.map keyM = r.map keyM → l.any f = r.any f
  | [], [], _ => rfl
  | [], b :: r, h => by simp at h
  | a :: l, [], h => by simp at h
  | a :: l, b :: r, h => by
    simp only [List.map_cons, List.cons.injEq] at h
    rw [List.any_cons, List.any_cons, hf a b h.1, any_key hf h.2]
theorem all_key {f : Pv → Bool} (hf : ∀ a b, keyM a = keyM b → f a = f b) : ∀ {l r : List Pv}, l.map keyM = r.map keyM → l.all f = r.all f
  | [], [], _ => rfl
  | [], b :: r, h => by simp at h
  | a :: l, [], h => by simp at h
  | a :: l, b :: r, h => by
    simp only [List.map_cons, List.cons.injEq] at h
    rw [List.all_cons, List.all_cons, hf a b h.1, all_key hf h.2]
theorem t_key : ∀ {l r : List Pv}, l.map keyM = r.map keyM → l.map Pv.t = r.map Pv.t
  | [], [], _ => rfl
  | [], b :: r, h => by simp at h
  | a :: l, [], h => by simp at h
  | a :: l, b :: r, h => by
    simp only [List.map_cons, List.cons.injEq] at h ⊢
    exact ⟨keyM_t h.1, t_key h.2⟩
theorem twice_key : ∀ {l r : List Pv} (ts : List Int), l.map keyM = r.map keyM → twiceM ts l = twiceM ts r
  | [], [], _, _ => rfl
  | [], b :: r, _, h => by simp at h
  | a :: l, [], _, h => by simp at h
  | a :: l, b :: r, ts, h => by
    simp only [List.map_cons, List.cons.injEq] at h
    unfold twiceM
    rw [keyM_t h.1, twice_key _ h.2]
theorem check_key {l r : List Pv} (h : l.map keyM = r.map keyM) (x f : Int) : checkM x f l = checkM x f r := by
  have hl : l.length = r.length := by have := congrArg List.length h; simpa using this
  unfold checkM
  simp only
  rw [twice_key [] h, t_key h, hl, any_key (fun a b e => tells_key e) h, all_key (fun a b e => plain_key e) h, any_key (fun a b e => note_key e 16390) h]
theorem same_key {x y : Pv} {C D : Pc} (h : sameV x C y D = true) : keyM x = keyM y := by
  unfold sameV at h
  by_cases ht : x.t = y.t
  · unfold keyM
    rw [← ht]
    by_cases e : x.t = 41
    · rw [if_neg (by simp [ht]), if_neg (by omega), if_neg (by omega), if_neg (by omega), if_neg (by omega), if_pos e] at h
      simp only [Bool.and_eq_true, decide_eq_true_eq] at h
      rw [h.1.1.2]
    · rw [if_neg e, if_neg e]
  · rw [if_pos ht] at h
    cases h
def errR : List Raw → Int
  | [] => 0
  | r :: l => if knownK r.k = true then (if parseE r.k r.b ≠ 0 then parseE r.k r.b else errR l) else if r.c = true then 6 else errR l
def knownR (l : List Raw) : List Raw := l.filter (fun r => knownK r.k)
theorem knownZ (Z : List PZ) (h : ∀ z ∈ Z, MadeZ z) : knownR (Z.map rawZ) = Z.map rawZ := by
  unfold knownR
  rw [List.filter_eq_self]
  intro r hr
  obtain ⟨z, hz, rfl⟩ := List.mem_map.1 hr
  have := (h z hz).t
  show knownK z.1.t = true
  unfold knownK
  rw [decide_eq_true_eq]
  omega
theorem errR_Z (Z : List PZ) (h : ∀ z ∈ Z, MadeZ z) (hp : ∀ z ∈ Z, parseE z.1.t (buildB z.1 z.2).1 = 0) : errR (Z.map rawZ) = 0 := by
  induction Z with
  | nil => rfl
  | cons z Z ih =>
    have h1 := (h z (List.mem_cons_self ..)).t
    have hk : knownK z.1.t = true := by unfold knownK; rw [decide_eq_true_eq]; omega
    have h2 := hp z (List.mem_cons_self ..)
    show errR (rawZ z :: Z.map rawZ) = 0
    unfold errR
    rw [if_pos (show knownK (rawZ z).k = true from hk), if_neg (show ¬ parseE (rawZ z).k (rawZ z).b ≠ 0 by rw [show parseE (rawZ z).k (rawZ z).b = 0 from h2]; simp)]
    exact ih (fun y hy => h y (List.mem_cons_of_mem _ hy)) (fun y hy => hp y (List.mem_cons_of_mem _ hy))
end Go.Proofs.YtnbkffehhahckaaGreat

namespace Go.Proofs.YtnbkffehhahckaaGreat
open Go.RowKit
set_option linter.unusedVariables false
theorem rd_one {w : World} {g : Nat} {x : Pv} (h : PvIn w g x) (ho : NoteOk w x) : RdG KPv DPv w (some ⟨g, 0, none⟩) 1 1 [x] := by
  refine ⟨rfl, Nat.le_refl _, by decide, fun _ => ⟨g, rfl, fun j u hj => ?_⟩, fun y hy => by rw [List.mem_singleton.1 hy]; exact ho⟩
  obtain ⟨c0, c1, c2, c3, c4, c5, c6, c7, c8, c9, c10, c11, c12, c13, c14, c15, fr⟩ := h
  have hj' : ([.int .i64 x.t, .slice x.pr.p x.pr.n x.pr.c, .int .i64 x.eg, .slice x.ed.p x.ed.n x.ed.c, .int .i64 x.ik, .slice x.id.p x.id.n x.id.c, .int .i64 x.am, .slice x.ad.p x.ad.n x.ad.c, .int .i64 x.np, .slice x.ns.p x.ns.n x.ns.c, .int .i64 x.nt, .slice x.nd.p x.nd.n x.nd.c, .int .i64 x.dp, .slice x.ds.p x.ds.n x.ds.c, .slice x.se.p x.se.n x.se.c, .slice x.da.p x.da.n x.da.c] : List Value)[j]? = some u := hj
  have hl : j < 16 := by have := (List.getElem?_eq_some_iff.1 hj').1; simpa using this
  have : j = 0 ∨ j = 1 ∨ j = 2 ∨ j = 3 ∨ j = 4 ∨ j = 5 ∨ j = 6 ∨ j = 7 ∨ j = 8 ∨ j = 9 ∨ j = 10 ∨ j = 11 ∨ j = 12 ∨ j = 13 ∨ j = 14 ∨ j = 15 := by omega
  rcases this with rfl | rfl | rfl | rfl | rfl | rfl | rfl | rfl | rfl | rfl | rfl | rfl | rfl | rfl | rfl | rfl <;> (simp at hj'; subst hj'; assumption)
theorem note_plain (w : World) (t nt : Int) (ht : IntR t) (hn : IntR nt) : NoteOk w ⟨t, nilV, 0, nilV, 0, nilV, 0, nilV, 0, nilV, nt, nilV, 0, nilV, nilV, nilV⟩ :=
  ⟨ht, fun _ => ⟨[], Byt.nil _ _ _ (Nat.zero_le _)⟩, fun _ => ⟨[], Byt.nil _ _ _ (Nat.zero_le _)⟩, fun _ => Nat.zero_le _, fun _ => Nat.zero_le _⟩
theorem MIn.new (w : World) (i r nx x f m : Int) (v : Value) (T : TypeId) : MIn (w.alloc (.cells #[.int .u64 i, .int .u64 r, .int .i64 nx, .int .i64 x, .int .i64 f, .int .u32 m, v] T)) w.heap.size i r nx x f m v :=
  ⟨by rw [World.cell?_alloc_at _ _ _ _ rfl]; rfl, by rw [World.cell?_alloc_at _ _ _ _ rfl]; rfl, by rw [World.cell?_alloc_at _ _ _ _ rfl]; rfl, by rw [World.cell?_alloc_at _ _ _ _ rfl]; rfl, by rw [World.cell?_alloc_at _ _ _ _ rfl]; rfl, by rw [World.cell?_alloc_at _ _ _ _ rfl]; rfl, by rw [World.cell?_alloc_at _ _ _ _ rfl]; rfl, fun j => frozen_of_row _ _ _ _ _ (heap_alloc_new _ _)⟩
set_option maxHeartbeats 800000 in
theorem reply_missing (w : World) : Calls Tryz.prog 11 #[.int .i64 8] w fun e w' => e = .returned (.tuple #[.int .i64 7, .bool true]) ∧ w' = w := by
  go_enter Tryz.func11, Tryz.ntmps11
  go_wp2
  go_ret2
  exact ⟨rfl, rfl⟩
def venP : Pv := ⟨43, nilV, 0, nilV, 0, nilV, 0, nilV, 0, nilV, 0, nilV, 0, nilV, nilV, nilV⟩
def cooP : Pv := ⟨41, nilV, 0, nilV, 0, nilV, 0, nilV, 0, nilV, 16390, nilV, 0, nilV, nilV, nilV⟩
theorem check_ven : checkM 34 8 [venP] = 8 := by kernel_rfl
theorem check_coo : checkM 34 8 [cooP] = 0 := by kernel_rfl
set_option maxHeartbeats 1600000 in
set_option maxRecDepth 100000 in
theorem awake07_any (w : World) : Calls Tryz.prog 4 #[] w fun e w' => e = .returned (.bool true) ∧ Below w.heap.size w w' := by
  have HRP := hidden (fun W => reply_missing W)
  go_enter Tryz.func4, Tryz.ntmps4
  go_upto_region 2 with fail
  generalize hw1 : (w.alloc (.cells _ 56)).alloc (.cells _ 30) = w1
  have hv1 : PvIn w1 w.heap.size venP := by
    rw [← hw1]
    exact (PvIn.new w venP 56).alloc _
  have hm1 : MIn w1 (w.heap.size + 1) 1 0 0 34 8 0 (.slice (some ⟨w.heap.size, 0, none⟩) 1 1) := by
    have := MIn.new (w.alloc (.cells #[.int .i64 venP.t, .slice venP.pr.p venP.pr.n venP.pr.c, .int .i64 venP.eg, .slice venP.ed.p venP.ed.n venP.ed.c, .int .i64 venP.ik, .slice venP.id.p venP.id.n venP.id.c, .int .i64 venP.am, .slice venP.ad.p venP.ad.n venP.ad.c, .int .i64 venP.np, .slice venP.ns.p venP.ns.n venP.ns.c, .int .i64 venP.nt, .slice venP.nd.p venP.nd.n venP.nd.c, .int .i64 venP.dp, .slice venP.ds.p venP.ds.n venP.ds.c, .slice venP.se.p venP.se.n venP.se.c, .slice venP.da.p venP.da.n venP.da.c] 56)) 1 0 0 34 8 0 (.slice (some ⟨w.heap.size, 0, none⟩) 1 1) 30
    rw [World.size_alloc] at this
    rw [← hw1]
    exact this
  have hb1 : Below w.heap.size w w1 := by
    rw [← hw1]
    exact ((Below.refl _ w).alloc (Nat.le_refl _) _).alloc (by simp) _
  have hne : ¬ w.heap.size + 1 = w.heap.size := by omega
  have hck := check_any 1 0 0 34 8 0 _ 1 1 [venP] w1 (rd_one hv1 (note_plain w1 43 0 (by unfold IntR; omega) (by unfold IntR; omega))) (by omega) (by unfold IntR; omega)
  rw [check_ven] at hck
  have HCK := hidden hck
  have HV1 := hidden hv1
  have HM1 := hidden hm1
  have HB1 := hidden hb1
  clear hw1 hck
  obtain ⟨m0, m1, m2, m3, m4, m5, m6, mf⟩ := hm1
  clear hv1 hb1
  go_upto_region 3 with (first
    | (go_at_call 8; (with_reducible refine (HCK.out).mono ?_); rintro e w2 ⟨rfl, hb2⟩; have HB2 := hidden hb2; clear hb2)
    | (go_at_call 11; (with_reducible refine (HRP.out w2).mono ?_); rintro e w3 ⟨rfl, rfl⟩)
    | fail)
  have hv2 := HV1.out.below HB2.out
  have hm2 := HM1.out.below HB2.out
  have hb2 := HB1.out.trans (HB2.out.mono HB1.out.size)
  have hset := setPv_in hv2 cooP
  have hgs := setPv_grown w3 w.heap.size cooP
  have hms := hm2.grown hgs (by simp)
  have hbs := hb2.grown hgs hb2.size (fun q e => by cases e; exact Nat.le_refl _)
  have hck2 := check_any 1 0 0 34 8 0 _ 1 1 [cooP] _ (rd_one hset (note_plain _ 41 16390 (by unfold IntR; omega) (by unfold IntR; omega))) (by omega) (by unfold IntR; omega)
  rw [check_coo] at hck2
  obtain ⟨y0, y1, y2, y3, y4, y5, y6, y7, y8, y9, y10, y11, y12, y13, y14, y15, z0, z1, z2, z3, z4, z5, z6, z7, z8, z9, z10, z11, z12, z13, z14, z15, zf⟩ := hv2.any
  have n6 := hm2.c6
  have HMS := hidden hms
  have HBS := hidden hbs
  have HCK2 := hidden hck2
  clear m0 m1 m2 m3 m4 m5 m6 mf hms hbs hck2 hset hgs hm2 hb2 HCK HV1 HM1 HB1 HB2 hv2
  go_upto_region 4 with fail
  generalize hwx : (World.setCell _ ⟨w.heap.size, 15, none⟩ _) = wx
  have hwx' : setPv w3 w.heap.size cooP = wx := hwx
  rw [hwx'] at HMS HBS HCK2
  obtain ⟨m0, m1, m2, m3, m4, m5, m6, mf⟩ := HMS.out
  clear y0 y1 y2 y3 y4 y5 y6 y7 y8 y9 y10 y11 y12 y13 y14 y15 z0 z1 z2 z3 z4 z5 z6 z7 z8 z9 z10 z11 z12 z13 z14 z15 zf n6 hwx hwx' mf
  go_wp2_with (first
    | (go_at_call 8; (with_reducible refine (HCK2.out).mono ?_); rintro e w4 ⟨rfl, hb4⟩; have HB4 := hidden hb4; clear hb4)
    | fail)
  go_ret
  exact ⟨rfl, HBS.out.trans (HB4.out.mono HBS.out.size)⟩
end Go.Proofs.YtnbkffehhahckaaGreat
