/-
  Rows of payloads in memory, and the small functions of package message that look at one payload or search a row.
-/
import Derived.Test.YtnnbfhjbaagnkaaQPayVal
import Derived.Test.YtnnbfhjbaagnkaaQZ0
import Derived.Test.YtnnbfhjbaagnkaaQIs
import Derived.Deep.Cut
namespace Go.Proofs.Ytnnbfhjbaagnkaa
open Go.RowKit
set_option linter.unusedVariables false

def IntR (z : Int) : Prop := -9223372036854775808 ≤ z ∧ z ≤ 9223372036854775807
/-- Payloads in a row: sixteen cells. -/
def KPv : KindR Pv where
  e := 50
  k := 16
  cs x := [.int .i64 x.t, .slice x.pr.p x.pr.n x.pr.c, .int .i64 x.eg, .slice x.ed.p x.ed.n x.ed.c, .int .i64 x.ik, .slice x.id.p x.id.n x.id.c, .int .i64 x.am, .slice x.ad.p x.ad.n x.ad.c, .int .i64 x.np, .slice x.ns.p x.ns.n x.ns.c, .int .i64 x.nt, .slice x.nd.p x.nd.n x.nd.c, .int .i64 x.dp, .slice x.ds.p x.ds.n x.ds.c, .slice x.se.p x.se.n x.se.c, .slice x.da.p x.da.n x.da.c]
  len _ := rfl
  one x u hu := by
    simp at hu
    rcases hu with rfl | rfl | rfl | rfl | rfl | rfl | rfl | rfl | rfl | rfl | rfl | rfl | rfl | rfl | rfl | rfl <;> rfl
  pos := by decide
/-- The payload's numbers are ints, its notification can be read. -/
structure NoteOk (w : World) (x : Pv) : Prop where
  t : IntR x.t
  nt : IntR x.nt
  ns : ∃ xs, Byt w x.ns.p x.ns.n x.ns.c xs
  nd : ∃ xs, Byt w x.nd.p x.nd.n x.nd.c xs
  sn : x.ns.n ≤ 140737488355328
  dn : x.nd.n ≤ 140737488355328
def DPv : ReadN Pv where
  ok := NoteOk
  keep h k := ⟨h.t, h.nt, by obtain ⟨xs, h⟩ := h.ns; exact ⟨xs, h.keep k⟩, by obtain ⟨xs, h⟩ := h.nd; exact ⟨xs, h.keep k⟩, h.sn, h.dn⟩

/-- A message may have several of them. -/
def rep (t : Int) : Bool := t == 41 || t == 43 || t == 37 || t == 42
set_option maxHeartbeats 800000 in
theorem repeats_any (t : Int) (w : World) : Calls Try.prog 12 #[.int .i64 t] w fun e w' => e = .returned (.bool (rep t)) ∧ w' = w := by
  by_cases h1 : t = 41
  · subst h1
    go_enter Try.func12, Try.ntmps12
    go_wp2
    go_ret
    exact ⟨rfl, rfl⟩
  by_cases h2 : t = 43
  · subst h2
    go_enter Try.func12, Try.ntmps12
    go_wp2
    go_ret
    exact ⟨rfl, rfl⟩
  by_cases h3 : t = 37
  · subst h3
    go_enter Try.func12, Try.ntmps12
    go_wp2
    go_ret
    exact ⟨rfl, rfl⟩
  by_cases h4 : t = 42
  · subst h4
    go_enter Try.func12, Try.ntmps12
    go_wp2
    go_ret
    exact ⟨rfl, rfl⟩
  have hr : rep t = false := by simp [rep, h1, h2, h3, h4]
  go_enter Try.func12, Try.ntmps12
  go_wp2
  go_ret
  exact ⟨by first | rfl | (rw [hr]; rfl), rfl⟩

/-- The payload is a notification of an error. -/
def tells (x : Pv) : Bool := x.t == 41 && decide (x.nt < 16384)
set_option maxHeartbeats 800000 in
theorem tells_any (x : Pv) (w : World) : Calls Try.prog 21 #[(.agg #[.int .i64 x.t, .slice x.pr.p x.pr.n x.pr.c, .int .i64 x.eg, .slice x.ed.p x.ed.n x.ed.c, .int .i64 x.ik, .slice x.id.p x.id.n x.id.c, .int .i64 x.am, .slice x.ad.p x.ad.n x.ad.c, .int .i64 x.np, .slice x.ns.p x.ns.n x.ns.c, .int .i64 x.nt, .slice x.nd.p x.nd.n x.nd.c, .int .i64 x.dp, .slice x.ds.p x.ds.n x.ds.c, .slice x.se.p x.se.n x.se.c, .slice x.da.p x.da.n x.da.c])] w fun e w' => e = .returned (.bool (tells x)) ∧ Below w.heap.size w w' := by
  by_cases h1 : x.t = 41
  · by_cases h2 : x.nt < 16384
    · have hr : tells x = true := by simp [tells, h1, h2]
      go_enter Try.func21, Try.ntmps21
      go_wp2
      go_ret
      exact ⟨by first | rfl | (rw [hr]; rfl), (Below.refl _ _).alloc (Nat.le_refl _) _⟩
    · have hr : tells x = false := by simp [tells, h1, h2]
      go_enter Try.func21, Try.ntmps21
      go_wp2
      go_ret
      exact ⟨by first | rfl | (rw [hr]; rfl), (Below.refl _ _).alloc (Nat.le_refl _) _⟩
  · have hr : tells x = false := by simp [tells, h1]
    go_enter Try.func21, Try.ntmps21
    go_wp2
    go_ret
    exact ⟨by first | rfl | (rw [hr]; rfl), (Below.refl _ _).alloc (Nat.le_refl _) _⟩

/-- Where the first of them stands. -/
def firstAt (f : Pv → Bool) : List Pv → Nat → Int
  | [], _ => -1
  | x :: l, j => if f x then j else firstAt f l (j + 1)
theorem firstAt_neg (f : Pv → Bool) (l : List Pv) (j : Nat) : decide (0 ≤ firstAt f l j) = l.any f := by
  induction l generalizing j with
  | nil => rfl
  | cons x l ih =>
    unfold firstAt
    cases hx : f x with
    | true => simp [hx]
    | false => simp [hx, ih]
theorem RdG.drop_cons {w : World} {p : Option Addr} {n c j : Nat} {l : List Pv} (h : RdG KPv DPv w p n c l) (hj : j < n) : ∃ g x, p = some ⟨g, 0, none⟩ ∧ l[j]? = some x ∧ l.drop j = x :: l.drop (j + 1) ∧ NoteOk w x ∧ (∀ i u, (KPv.cs x)[i]? = some u → w.cell? ⟨g, j * 16 + i, none⟩ = some u) := by
  have hl : j < l.length := by rw [h.len]; exact hj
  obtain ⟨g, e, hc, hd⟩ := h.cell j hl
  exact ⟨g, l[j], e, List.getElem?_eq_getElem hl, List.drop_eq_getElem_cons hl, hd, hc⟩
set_option maxHeartbeats 1600000 in
set_option maxRecDepth 100000 in
theorem indexFunc_any (p : Option Addr) (n c : Nat) (l : List Pv) (w : World) (h : RdG KPv DPv w p n c l) :
    Calls Try.prog 25 #[.slice p n c, .func (.func 21) #[] #[]] w fun e w' => e = .returned (.int .i64 (firstAt tells l 0)) ∧ Below w.heap.size w w' := by
  have hn := h.le
  have H := hidden h
  clear h
  obtain ⟨R, hR⟩ : ∃ R, firstAt tells l 0 = R := ⟨_, rfl⟩
  have HR : Is (firstAt tells (l.drop 0) 0) R := ⟨by simpa using hR⟩
  rw [hR]
  clear hR
  go_enter Try.func25, Try.ntmps25
  go_wp2_with fail
  go_loopw [8] (fun i wr => ∃ j : Nat, j ≤ n ∧ i = .int .i64 j ∧ Is (firstAt tells (l.drop j) j) R ∧ Below w.heap.size w wr) (fun i _ => n - (intOf i).toNat)
  case atStart => exact ⟨0, by omega, rfl, HR, Below.refl _ _⟩
  case round =>
    obtain ⟨j, hj, rfl, hrel, hb⟩ := hrel
    have HB := hidden hb
    clear hb
    by_cases hlt : j < n
    · have hlt' : (j : Int) < n := by omega
      obtain ⟨g, x, rfl, hx, hdr, hok, hc⟩ := (H.out.below HB.out).drop_cons hlt
      have c0 := hc 0 _ rfl
      have c1 := hc 1 _ rfl
      have c2 := hc 2 _ rfl
      have c3 := hc 3 _ rfl
      have c4 := hc 4 _ rfl
      have c5 := hc 5 _ rfl
      have c6 := hc 6 _ rfl
      have c7 := hc 7 _ rfl
      have c8 := hc 8 _ rfl
      have c9 := hc 9 _ rfl
      have c10 := hc 10 _ rfl
      have c11 := hc 11 _ rfl
      have c12 := hc 12 _ rfl
      have c13 := hc 13 _ rfl
      have c14 := hc 14 _ rfl
      have c15 := hc 15 _ rfl
      simp only [Nat.add_zero] at c0
      have hf := hrel.eq
      rw [hdr] at hf
      unfold firstAt at hf
      have HT := hidden (tells_any x)
      generalize tells x = b at hf HT
      clear hrel hdr hx hok hc
      cases b with
      | true =>
        have HF : Is (j : Int) R := ⟨by simpa using hf⟩
        clear hf
        go_wp2_with (first
          | (go_at_call 21; (with_reducible refine (HT.out _).mono ?_); rintro _ w1 ⟨rfl, hb1⟩; have HB1 := hidden (HB.out.trans (hb1.mono HB.out.size)); clear hb1)
          | fail)
        go_ret
        exact ⟨by rw [← HF.eq]; rfl, HB1.out⟩
      | false =>
        have HF : Is (firstAt tells (l.drop (j + 1)) (j + 1)) R := ⟨by simpa using hf⟩
        clear hf
        go_wp2_with (first
          | (go_at_call 21; (with_reducible refine (HT.out _).mono ?_); rintro _ w1 ⟨rfl, hb1⟩; have HB1 := hidden (HB.out.trans (hb1.mono HB.out.size)); clear hb1)
          | fail)
        go_roundw
        case rel => exact ⟨j + 1, by omega, by go_num, HF, HB1.out⟩
        case measure => simp [intOf]; omega
    · have hlt' : ¬ (j : Int) < n := by omega
      have hd : l.drop j = [] := List.drop_eq_nil_of_le (by rw [H.out.len]; omega)
      have hf := hrel.eq
      rw [hd] at hf
      have HF : Is (-1 : Int) R := ⟨hf⟩
      clear hf hd hrel
      go_wp2
      go_ret
      exact ⟨by rw [← HF.eq]; rfl, HB.out⟩
end Go.Proofs.Ytnnbfhjbaagnkaa
