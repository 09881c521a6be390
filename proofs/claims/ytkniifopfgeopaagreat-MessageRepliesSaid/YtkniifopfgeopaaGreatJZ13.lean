/-
  What package selector's checkCount, checkEach and Build return.
  What package proposal's Build returns.
-/
import Derived.Test.YtkniifopfgeopaaGreatJZ12
import Derived.Test.YtkniifopfgeopaaGreatJZ4
import Derived.Test.YtkniifopfgeopaaGreatJZ20
namespace Go.Proofs.YtkniifopfgeopaaGreat
open Go.RowKit
set_option linter.unusedVariables false

def cntE (n : Int) : Int := if n = 0 then 8 else if n > 16 then 10 else 0
theorem count_any (n : Int) (w : World) : Calls Tryz.prog 90 #[.int .i64 n] w fun e w' => e = .returned (.int .i64 (cntE n)) ∧ w = w' := by
  unfold cntE
  by_cases h0 : n = 0
  · subst h0
    go_enter Tryz.func90, Tryz.ntmps90
    go_wp2
    go_ret
    exact ⟨rfl, rfl⟩
  have h0' : (n == 0) = false := by simpa using h0
  rw [if_neg h0]
  by_cases h1 : n > 16
  · rw [if_pos h1]
    go_enter Tryz.func90, Tryz.ntmps90
    go_wp2
    go_ret
    exact ⟨rfl, rfl⟩
  · rw [if_neg h1]
    go_enter Tryz.func90, Tryz.ntmps90
    go_wp2
    go_ret
    exact ⟨rfl, rfl⟩

theorem errL_drop (l : List Sl) (j : Nat) (hj : j < l.length) : errL (l.drop j) = if checkS l[j] ≠ 0 then checkS l[j] else errL (l.drop (j + 1)) := by
  rw [List.drop_eq_getElem_cons hj]
  rfl
/-- The selector at a place of a list that is read. -/
theorem rd_sl {w : World} {p : Option Addr} {n c : Nat} {l : List Sl} (h : RdG KSl DSlr w p n c l) (j : Nat) (hj : j < l.length) : ∃ g, p = some ⟨g, 0, none⟩ ∧ w.cell? ⟨g, j * 9, none⟩ = some (.int .i64 l[j].p) ∧ w.cell? ⟨g, j * 9 + 1, none⟩ = some (.int .i64 l[j].a) ∧ w.cell? ⟨g, j * 9 + 2, none⟩ = some (.int .i64 l[j].b) ∧ w.cell? ⟨g, j * 9 + 3, none⟩ = some (.int .i64 l[j].lo.f) ∧ w.cell? ⟨g, j * 9 + 4, none⟩ = some (.int .u64 l[j].lo.h) ∧ w.cell? ⟨g, j * 9 + 5, none⟩ = some (.int .u64 l[j].lo.l) ∧ w.cell? ⟨g, j * 9 + 6, none⟩ = some (.int .i64 l[j].hi.f) ∧ w.cell? ⟨g, j * 9 + 7, none⟩ = some (.int .u64 l[j].hi.h) ∧ w.cell? ⟨g, j * 9 + 8, none⟩ = some (.int .u64 l[j].hi.l) ∧ FitS l[j] := by
  obtain ⟨g, e, hc, hok⟩ := h.cell j hj
  exact ⟨g, e, hc 0 _ rfl, hc 1 _ rfl, hc 2 _ rfl, hc 3 _ rfl, hc 4 _ rfl, hc 5 _ rfl, hc 6 _ rfl, hc 7 _ rfl, hc 8 _ rfl, hok⟩

set_option maxHeartbeats 800000 in
set_option maxRecDepth 100000 in
theorem each_any (p : Option Addr) (n c : Nat) (l : List Sl) (w : World) (h : RdG KSl DSlr w p n c l) (E : Int) (hE : errL l = E) :
    Calls Tryz.prog 91 #[.slice p n c] w fun e w' => e = .returned (.int .i64 E) ∧ Below w.heap.size w w' := by
  have HL := hidden h
  have hn := h.le
  have HE := hidden hE
  have HLen := hidden h.len
  clear h hE
  go_enter Tryz.func91, Tryz.ntmps91
  go_wp2
  go_loopw [8] (fun i wr => ∃ j : Nat, j ≤ n ∧ i = .int .i64 j ∧ errL (l.drop j) = E ∧ Below w.heap.size w wr) (fun i _ => n - (intOf i).toNat)
  case atStart => exact ⟨0, by omega, rfl, by rw [List.drop_zero]; exact HE.out, Below.refl _ _⟩
  case round =>
    obtain ⟨j, hj, rfl, he, hb⟩ := hrel
    have HB := hidden hb
    by_cases hlt : j < n
    · have hlt' : (j : Int) < n := by omega
      have hjl : j < l.length := by rw [HLen.out]; exact hlt
      rw [errL_drop l j hjl] at he
      obtain ⟨g, rfl, c0, c1, c2, c3, c4, c5, c6, c7, c8, -⟩ := rd_sl (HL.out.below hb) j hjl
      obtain ⟨s, hs⟩ : ∃ s, l[j] = s := ⟨_, rfl⟩
      rw [hs] at he c0 c1 c2 c3 c4 c5 c6 c7 c8
      obtain ⟨z, hz⟩ : ∃ z, checkS s = z := ⟨_, rfl⟩
      rw [hz] at he
      have HC := hidden (scheck_at s z hz)
      have HHE := hidden he
      have hb9 : j * 9 + 8 ≤ 9223372036854775807 * 9 := by omega
      clear hs hz hjl hb he
      by_cases hz0 : z = 0
      · subst hz0
        go_wp2_with (first
          | (go_at_call 105; (with_reducible refine (HC.out _).mono ?_); rintro e w1 ⟨rfl, hb1⟩; have HB1 := hidden ((HB.out.alloc HB.out.size (.cells #[.int .i64 s.p, .int .i64 s.a, .int .i64 s.b, .int .i64 s.lo.f, .int .u64 s.lo.h, .int .u64 s.lo.l, .int .i64 s.hi.f, .int .u64 s.hi.h, .int .u64 s.hi.l] 116)).trans (hb1.mono (HB.out.alloc HB.out.size (.cells #[.int .i64 s.p, .int .i64 s.a, .int .i64 s.b, .int .i64 s.lo.f, .int .u64 s.lo.h, .int .u64 s.lo.l, .int .i64 s.hi.f, .int .u64 s.hi.h, .int .u64 s.hi.l] 116)).size)); clear hb1)
          | fail)
        go_roundw
        case rel => exact ⟨j + 1, by omega, by go_num, by have := HHE.out; simpa using this, HB1.out⟩
        case measure => simp [intOf]; omega
      · have hz' : (z != 0) = true := by simpa using hz0
        have hEz : z = E := by have := HHE.out; rw [if_pos hz0] at this; exact this
        subst hEz
        clear hz0 HHE HE
        go_wp2_with (first
          | (go_at_call 105; (with_reducible refine (HC.out _).mono ?_); rintro e w1 ⟨rfl, hb1⟩; have HB1 := hidden ((HB.out.alloc HB.out.size (.cells #[.int .i64 s.p, .int .i64 s.a, .int .i64 s.b, .int .i64 s.lo.f, .int .u64 s.lo.h, .int .u64 s.lo.l, .int .i64 s.hi.f, .int .u64 s.hi.h, .int .u64 s.hi.l] 116)).trans (hb1.mono (HB.out.alloc HB.out.size (.cells #[.int .i64 s.p, .int .i64 s.a, .int .i64 s.b, .int .i64 s.lo.f, .int .u64 s.lo.h, .int .u64 s.lo.l, .int .i64 s.hi.f, .int .u64 s.hi.h, .int .u64 s.hi.l] 116)).size)); clear hb1)
          | fail)
        go_ret
        exact ⟨rfl, HB1.out⟩
    · obtain rfl : j = n := by omega
      rw [List.drop_eq_nil_of_le (by rw [HLen.out]; omega)] at he
      have he' : (0 : Int) = E := he
      subst he'
      clear hb he HE
      go_wp2
      go_ret
      exact ⟨rfl, HB.out⟩

/-- What Build returns. -/
def BuiltS (w : World) (L : List Int) (E : Int) (e : Ending) (w' : World) : Prop := ∃ v, e = .returned (.tuple #[v, .int .i64 E]) ∧ Own w' w.heap.size 5 v L ∧ Below w.heap.size w w'
theorem built_none (w w' : World) (L : List Int) (E E' : Int) (h : ([], E) = (L, E')) (hb : Below w.heap.size w w') : BuiltS w L E' (.returned (.tuple #[.slice none 0 0, .int .i64 E])) w' := by
  obtain ⟨rfl, rfl⟩ := Prod.mk.inj h
  exact ⟨_, rfl, Own.nil _ _ _, hb⟩
theorem encL_le : ∀ (l : List Sl), (∀ s ∈ l, GoodS s) → (encL l).length ≤ l.length * 40
  | [], _ => by simp [encL]
  | s :: l, h => by
    have h1 := encL_le l (fun t ht => h t (by simp [ht]))
    have h2 := (one_enc (h s (by simp)) []).2
    simp only [encL, List.length_append, List.length_cons]
    omega
theorem encL_take (l : List Sl) (j : Nat) (hj : j < l.length) : encL (l.take (j + 1)) = encL (l.take j) ++ encO l[j] := by
  rw [List.take_succ_eq_append_getElem hj, encL_append]
  simp [encL]

theorem own_four (w : World) (base : Nat) (hb : base ≤ w.heap.size) (x0 x1 x2 x3 : Int) : Own (w.alloc (.cells #[.int .u8 x0, .int .u8 x1, .int .u8 x2, .int .u8 x3] 5)) base 5 (.slice (some ⟨w.heap.size, 0, none⟩) 4 4) [x0, x1, x2, x3] := by
  have := World.ownsRow_lit (base := base) (e := 5) (size := 1) w #[.int .u8 x0, .int .u8 x1, .int .u8 x2, .int .u8 x3] 4 hb (by unfold maxLen; omega) rfl
  exact this

set_option maxHeartbeats 1600000 in
set_option maxRecDepth 100000 in
theorem sbuild_any (p : Option Addr) (n c : Nat) (l : List Sl) (w : World) (h : RdG KSl DSlr w p n c l) (L : List Int) (E : Int) (hE : buildS l = (L, E)) :
    Calls Tryz.prog 65 #[.slice p n c] w (BuiltS w L E) := by
  obtain ⟨i0, hi0, hz0, hz1, hz2⟩ := info_parts Tryz.infoByte
  have hn := h.le
  unfold buildS at hE
  rw [h.len] at hE
  by_cases h0 : n = 0
  · rw [if_pos h0] at hE
    subst h0
    have HE := hidden hE
    clear h hE
    go_enter Tryz.func65, Tryz.ntmps65
    go_wp2_with (first
      | (go_at_call 90; (with_reducible refine (count_any _ _).mono ?_); rintro e w' ⟨rfl, rfl⟩; rw [show cntE ((0 : Nat) : Int) = 8 from rfl])
      | (go_at_call 90; (with_reducible refine (count_any _ _).mono ?_); rintro e w' ⟨rfl, rfl⟩; rw [show cntE 0 = 8 from rfl])
      | fail)
    go_ret2
    exact built_none _ _ _ _ _ HE.out (Below.refl _ _)
  rw [if_neg h0] at hE
  by_cases h16 : n > 16
  · rw [if_pos h16] at hE
    have HE := hidden hE
    have hc10 : cntE n = 10 := by unfold cntE; rw [if_neg (by omega), if_pos (by omega)]
    clear h hE
    go_enter Tryz.func65, Tryz.ntmps65
    go_wp2_with (first
      | (go_at_call 90; (with_reducible refine (count_any _ _).mono ?_); rintro e w' ⟨rfl, rfl⟩; rw [hc10])
      | fail)
    go_ret2
    exact built_none _ _ _ _ _ HE.out (Below.refl _ _)
  rw [if_neg h16] at hE
  have hc0 : cntE n = 0 := by unfold cntE; rw [if_neg (by omega), if_neg (by omega)]
  obtain ⟨z, hz⟩ : ∃ z, errL l = z := ⟨_, rfl⟩
  have HC := hidden (each_any p n c l w h z hz)
  rw [hz] at hE
  by_cases hz0 : z ≠ 0
  · rw [if_pos hz0] at hE
    have hz' : (z != 0) = true := by simpa using hz0
    have HE := hidden hE
    clear h hE hz hz0
    go_enter Tryz.func65, Tryz.ntmps65
    go_wp2_with (first
      | (go_at_call 90; (with_reducible refine (count_any _ _).mono ?_); rintro e w' ⟨rfl, rfl⟩; rw [hc0])
      | (go_at_call 91; (with_reducible refine (HC.out).mono ?_); rintro e w1 ⟨rfl, hb⟩; have HB1 := hidden hb; clear hb)
      | fail)
    go_ret2
    exact built_none _ _ _ _ _ HE.out HB1.out
  obtain rfl : z = 0 := by omega
  rw [if_neg hz0] at hE
  obtain ⟨rfl, rfl⟩ := Prod.mk.inj hE
  have HL := hidden h
  have HLen := hidden h.len
  have HG := hidden (fun s hs => good_of_check (h.ok s hs) (errL_zero hz s hs))
  clear h hE hz hz0
  have hw8 : IntKind.u8.wrap (n : Int) = n := by rw [IntKind.wrap_u8]; omega
  go_enter Tryz.func65, Tryz.ntmps65
  go_upto_region 9 with (first
    | (go_at_call 90; (with_reducible refine (count_any _ _).mono ?_); rintro e w' ⟨rfl, rfl⟩; rw [hc0])
    | (go_at_call 91; (with_reducible refine (HC.out).mono ?_); rintro e w1 ⟨rfl, hb⟩; have HB1 := hidden hb; clear hb)
    | fail)
  have HB2 := hidden (HB1.out.alloc HB1.out.size (.cells #[.int .u8 n, .int .u8 0, .int .u8 0, .int .u8 0] 5))
  have HO2 := hidden (own_four w1 w.heap.size HB1.out.size n 0 0 0)
  clear HB1 HC
  go_wp2_with fail
  go_loopw [6, 26] (fun v i wr => ∃ j : Nat, j ≤ n ∧ i = .int .i64 j ∧ Own wr w.heap.size 5 v ([(n : Int), 0, 0, 0] ++ encL (l.take j)) ∧ Below w.heap.size w wr) (fun _ i _ => n - (intOf i).toNat)
  case atStart => exact ⟨0, by omega, rfl, by simpa [encL] using HO2.out, HB2.out⟩
  case round =>
    obtain ⟨j, hj, rfl, ho, hb⟩ := hrel
    obtain ⟨po, co, rfl⟩ := ho.form
    have HO := hidden ho
    have HB := hidden hb
    clear HO2 HB2
    by_cases hlt : j < n
    · have hlt' : (j : Int) < n := by omega
      have hjl : j < l.length := by rw [HLen.out]; exact hlt
      obtain ⟨g, rfl, c0, c1, c2, c3, c4, c5, c6, c7, c8, -⟩ := rd_sl (HL.out.below hb) j hjl
      have hnx := encL_take l j hjl
      have hgs := HG.out l[j] (List.getElem_mem hjl)
      have hle := encL_le (l.take j) (fun s hs => HG.out s (List.mem_of_mem_take hs))
      have h40 := (one_enc hgs []).2
      generalize l[j] = s at *
      have HON := hidden (oneSl_any s hgs)
      have HNX := hidden hnx
      obtain ⟨X, hX⟩ : ∃ X, [(n : Int), 0, 0, 0] ++ encL (l.take j) = X := ⟨_, rfl⟩
      have hXl : X.length ≤ 4 + n * 40 := by
        rw [← hX, List.length_append]
        simp only [List.length_take] at hle
        have : min j l.length * 40 ≤ n * 40 := by omega
        simp
        omega
      have HXE := hidden (show X ++ encO s = [(n : Int), 0, 0, 0] ++ encL (l.take (j + 1)) by rw [hnx, ← hX, List.append_assoc])
      rw [hX] at HO ⊢
      clear ho hb hnx hgs hle hX hjl
      go_wp2_with (first
        | (go_at_call 92; (with_reducible refine (HON.out _).mono ?_); rintro e w2 ⟨q, m, d, rfl, hm, -, hy, hbb⟩; have hm40 : m ≤ 40 := (by omega); have HY := hidden hy; have HO3 := hidden ((HO.out.alloc (.cells #[.int .i64 s.p, .int .i64 s.a, .int .i64 s.b, .int .i64 s.lo.f, .int .u64 s.lo.h, .int .u64 s.lo.l, .int .i64 s.hi.f, .int .u64 s.hi.h, .int .u64 s.hi.l] 116)).below hbb); have HB3 := hidden ((HB.out.alloc HB.out.size (.cells #[.int .i64 s.p, .int .i64 s.a, .int .i64 s.b, .int .i64 s.lo.f, .int .u64 s.lo.h, .int .u64 s.lo.l, .int .i64 s.hi.f, .int .u64 s.hi.h, .int .u64 s.hi.l] 116)).trans (hbb.mono (HB.out.alloc HB.out.size (.cells #[.int .i64 s.p, .int .i64 s.a, .int .i64 s.b, .int .i64 s.lo.f, .int .u64 s.lo.h, .int .u64 s.lo.l, .int .i64 s.hi.f, .int .u64 s.hi.h, .int .u64 s.hi.l] 116)).size)); clear hm hy hbb)
        | (at_builtin; go_loud (refine wpList_append_byt _ rfl _ _ 22 rfl w.heap.size 5 i0 (.int .u8 0) Tryz.underlying22 hi0 hz0 hz1 hz2 rfl _ _ rfl HO3.out _ _ _ _ _ rfl HY.out rfl ?c1 ?c2 ?_))
        | fail)
      case c1 => omega
      case c2 => exact HB3.out.size
      intro v4 w4 ho4 hg4
      rw [HXE.out] at ho4
      have HO4 := hidden ho4
      have HB4 := hidden (HB3.out.grown hg4 HB3.out.size (fun g hg => (HO3.out.lt g hg).1))
      clear ho4 hg4
      go_wp2
      go_roundw
      case rel => exact ⟨j + 1, by omega, by go_num, HO4.out, HB4.out⟩
      case measure => simp [intOf]; omega
    · obtain rfl : j = n := by omega
      have HX := hidden (show [(j : Int), 0, 0, 0] ++ encL (l.take j) = (j : Int) :: 0 :: 0 :: 0 :: encL l by rw [List.take_of_length_le (by rw [HLen.out]; omega)]; rfl)
      generalize [(j : Int), 0, 0, 0] ++ encL (l.take j) = X at *
      clear ho hb
      go_wp2
      go_ret2
      refine ⟨_, rfl, ?_, HB.out⟩
      rw [← HX.out]
      exact HO.out
end Go.Proofs.YtkniifopfgeopaaGreat

namespace Go.Proofs.YtkniifopfgeopaaGreat
open Go.RowKit
set_option linter.unusedVariables false

theorem encPs_step (l : List Pr) (j : Nat) (hj : j < l.length) (x : Pr) (hx : l[j] = x) : encPs (l.drop j) = secE (if j + 1 < l.length then 2 else 0) (inP x) ++ encPs (l.drop (j + 1)) := by
  subst hx
  rw [List.drop_eq_getElem_cons hj, encPs, encP_sec, List.length_drop]
  by_cases h : j + 1 < l.length
  · rw [if_neg (by omega), if_pos h]
  · rw [if_pos (by omega), if_neg h]
theorem inP_le {p : Pr} (h : OkP p) : (inP p).length ≤ 300 := by
  have h1 := lenP_le h
  have h2 := encP_len 0 p
  rw [encP_sec, secE_len] at h2
  omega
theorem inP_rng (p : Pr) (h : ∀ z ∈ p.s, 0 ≤ z ∧ z ≤ 255) : ∀ z ∈ inP p, 0 ≤ z ∧ z ≤ 255 := by
  refine rng_append ?_ (rng_append h ?_)
  · intro z hz; simp at hz; omega
  · have : ∀ l : List Tr, ∀ z ∈ encTs l, 0 ≤ z ∧ z ≤ 255 := by
      intro l
      induction l with
      | nil => intro z hz; simp [encTs] at hz
      | cons a l ih =>
        rw [encTs, encT_sec]
        exact rng_append (secE_rng _ _ (by split <;> omega) (inT_rng a)) ih
    exact this p.ts

/-- The results of Build. -/
def BuiltP (w : World) (L : List Int) (E : Int) (e : Ending) (w' : World) : Prop := ∃ v, e = .returned (.tuple #[v, .int .i64 E]) ∧ Own w' w.heap.size 5 v L ∧ Below w.heap.size w w'

set_option maxHeartbeats 3200000 in
set_option maxRecDepth 100000 in
theorem pbuild_any (p : Option Addr) (n c : Nat) (ls : List PrP) (w : World) (h : RdG KPr DPr w p n c ls) (L : List Int) (E : Int) (hE : buildP (ls.map PrP.pr) = (L, E)) :
    Calls Tryz.prog 57 #[.slice p n c] w (BuiltP w L E) := by
  obtain ⟨i0, hi0, hz0, hz1, hz2⟩ := info_parts Tryz.infoByte
  have hn := h.le
  have HT := hidden h
  have HTL := hidden h.len
  obtain ⟨E1, hE1⟩ : ∃ E1, checkP (ls.map PrP.pr) = E1 := ⟨_, rfl⟩
  have HC := hidden (checkAll_any p n c ls w h E1 hE1)
  unfold buildP at hE
  rw [hE1] at hE
  clear h
  by_cases hz : E1 ≠ 0
  · rw [if_pos hz] at hE
    simp at hE
    obtain ⟨rfl, rfl⟩ := hE
    have hz' : (E1 != 0) = true := by simpa using hz
    go_enter Tryz.func57, Tryz.ntmps57
    go_wp2_with fail
    go_at_call 80
    (with_reducible refine (HC.out).mono ?_)
    rintro e w1 ⟨rfl, hb1⟩
    go_wp2
    go_ret2
    exact ⟨_, rfl, Own.nil _ _ _, hb1⟩
  obtain rfl : E1 = 0 := by omega
  rw [if_neg (by simp)] at hE
  simp at hE
  obtain ⟨rfl, rfl⟩ := hE
  obtain ⟨q0, q1, q2⟩ := checkP_ok hE1
  rw [List.length_map, HTL.out] at q0 q1
  have HOK := hidden q2
  clear hz q2 hE1
  go_enter Tryz.func57, Tryz.ntmps57
  go_wp2_with fail
  go_at_call 80
  (with_reducible refine (HC.out).mono ?_)
  rintro e w1 ⟨rfl, hb1⟩
  have HB1 := hidden hb1
  clear hb1
  go_wp2_with fail
  go_loopw [5, 15] (fun u i wr => ∃ t : Nat, t ≤ n ∧ i = .int .i64 t ∧ ∃ xs : List Int, xs ++ encPs ((ls.map PrP.pr).drop t) = encPs (ls.map PrP.pr) ∧ xs.length ≤ t * 304 ∧ Own wr w.heap.size 5 u xs ∧ Below w.heap.size w wr) (fun _ i _ => n - (intOf i).toNat)
  case atStart => exact ⟨0, by omega, rfl, [], by simp, by simp, Own.nil _ _ _, HB1.out⟩
  case round =>
    obtain ⟨t, ht, rfl, xs, hxs, hxl, ho, hbl⟩ := hrel
    have HO := hidden ho
    have HBL := hidden hbl
    by_cases hlt : ¬ t < n
    · obtain rfl : t = n := by omega
      rw [List.drop_of_length_le (by rw [List.length_map, HTL.out]; exact Nat.le_refl _), encPs, List.append_nil] at hxs
      have HXS2 := hidden hxs
      clear hxs hbl ho
      go_wp2
      go_ret2
      rw [← HXS2.out]
      exact ⟨_, rfl, HO.out, HBL.out⟩
    replace hlt : t < n := by omega
    have hlt' : (t : Int) < n := by omega
    have htj := HT.out.below hbl
    obtain ⟨g, rfl, hc, hokd⟩ := htj.cell t (by rw [HTL.out]; exact hlt)
    obtain ⟨y, hy⟩ : ∃ y, ls[t]'(by rw [HTL.out]; exact hlt) = y := ⟨_, rfl⟩
    have hyo : OkP y.pr := HOK.out _ (by rw [← hy]; exact List.mem_map.2 ⟨_, List.getElem_mem _, rfl⟩)
    have hst := encPs_step (ls.map PrP.pr) t (by rw [List.length_map, HTL.out]; exact hlt) y.pr (by simp [hy])
    rw [hy] at hc hokd
    rw [List.length_map, HTL.out] at hst
    obtain ⟨b, hb⟩ : ∃ b, b = decide (t + 1 < n) := ⟨_, rfl⟩
    obtain ⟨mk, hmk⟩ : ∃ mk : Int, (if b = true then 2 else 0) = mk := ⟨_, rfl⟩
    have hmk' : (if t + 1 < n then (2 : Int) else 0) = mk := by rw [← hmk, hb]; simp
    rw [hmk'] at hst
    have hmb : 0 ≤ mk ∧ mk ≤ 255 := by rw [← hmk]; split <;> omega
    have hbd : decide ((t : Int) + 1 < n) = b := by rw [hb]; simp; omega
    have c0 := hc 0 _ rfl
    have c1 := hc 1 _ rfl
    have c2 := hc 2 _ rfl
    have c3 := hc 3 _ rfl
    simp only [KPr, Nat.add_zero] at c0 c1 c2 c3
    obtain ⟨M, hML⟩ : ∃ M : Nat, (inP y.pr).length = M := ⟨_, rfl⟩
    have hM8 : M ≤ 300 := by rw [← hML]; exact inP_le hyo
    have hnx : (xs ++ secE mk (inP y.pr)) ++ encPs ((ls.map PrP.pr).drop (t + 1)) = encPs (ls.map PrP.pr) := by rw [List.append_assoc, ← hst]; exact hxs
    have hnl : (xs ++ secE mk (inP y.pr)).length ≤ (t + 1) * 304 := by rw [List.length_append, secE_len, hML]; omega
    have HNX := hidden hnx
    have HNL := hidden hnl
    have HMK := hidden hmk
    have HT1 := hidden (fun w (h : OkD w y) => proposal_w y w h hyo M hML)
    have hal : Below wr.heap.size wr (wr.alloc (.cells #[.int .i64 y.n, .int .i64 y.p, .slice y.sp y.sn y.sc, .slice y.tp y.tn y.tc] 109)) := (Below.refl _ _).alloc (Nat.le_refl _) _
    have HOKA := hidden (DPr.keep hokd (cell_below hal))
    obtain ⟨W1, hW1⟩ : ∃ W1, wr.alloc (.cells #[.int .i64 y.n, .int .i64 y.p, .slice y.sp y.sn y.sc, .slice y.tp y.tn y.tc] 109) = W1 := ⟨_, rfl⟩
    rw [hW1] at HOKA
    have HOKD : Hid (OkD W1.drew y) := hidden (DPr.keep HOKA.out (cell_below (drew_below (B := W1.heap.size) ⟨1, rfl⟩)))
    generalize inP y.pr = ys at *
    clear hy hst hmk hmk' hyo hnx hnl hb hxs htj hokd
    obtain ⟨yn, yp, sp, sn, sc, s, tp, tn, tc, ts⟩ := y
    simp only at HT1 hW1 hal c0 c1 c2 c3 HOKD
    clear hc
    have e0 : W1.drew.cell? ⟨wr.heap.size, 0, none⟩ = some (.int .i64 yn) := by subst hW1; exact World.cell?_alloc_at _ _ _ _ rfl
    have e1 : W1.drew.cell? ⟨wr.heap.size, 1, none⟩ = some (.int .i64 yp) := by subst hW1; exact World.cell?_alloc_at _ _ _ _ rfl
    have e2 : W1.drew.cell? ⟨wr.heap.size, 2, none⟩ = some (.slice sp sn sc) := by subst hW1; exact World.cell?_alloc_at _ _ _ _ rfl
    have e3 : W1.drew.cell? ⟨wr.heap.size, 3, none⟩ = some (.slice tp tn tc) := by subst hW1; exact World.cell?_alloc_at _ _ _ _ rfl
    rw [hW1] at hal
    have HOD : Hid (Own W1.drew w.heap.size 5 u5 xs) := hidden ((ho.below hal).below (drew_below ⟨1, rfl⟩))
    have HBD : Hid (Below w.heap.size w W1.drew) := hidden (hbl.trans ((hal.mono hbl.size).trans (drew_below ⟨1, rfl⟩)))
    have hwt : IntKind.i64.wrap ((t : Int) + 1) = (t : Int) + 1 := by rw [IntKind.wrap_i64]; omega
    clear hal ho hbl HOKA
    go_wp2_with fail
    go_region_law (first
      | (go_simp; go_at_call 82; (with_reducible refine (mark_any 2 b _).mono ?_); rintro e wM ⟨rfl, rfl⟩; rw [HMK.out])
      | (go_simp; go_at_call 83; (with_reducible refine (HT1.out _ HOKD.out).mono ?_); rintro e wA ⟨qa, da, rfl, hoA, hyA, hbA⟩)
      | (go_simp; go_at_call 81; (with_reducible refine (section_w mk hmb qa M da ys _ hyA (by omega)).mono ?_); rintro e wB ⟨qb, db, rfl, hoB, hyB, hbB⟩)
      | (refine step_append_byt _ (by rfl) _ _ 22 (by rfl) w.heap.size 5 i0 (.int .u8 0) Tryz.underlying22 hi0 hz0 hz1 hz2 rfl _ _ (by rfl) ((HOD.out.below hbA).below hbB) _ _ _ _ _ (by rfl) hyB (by rfl) (by omega) (by have := HBD.out.size; have := hbA.size; have := hbB.size; omega) ?_; intro v6 w6 ho6 hg6))
    all_goals
      have hbB1 := HBD.out.trans (hbA.mono HBD.out.size)
      have hbB2 := hbB1.trans (hbB.mono hbB1.size)
      have HB6 := hidden (hbB2.grown hg6 hbB2.size (fun k hk => (((HOD.out.below hbA).below hbB).lt k hk).1))
      have HO6 := hidden ho6
      clear hbB1 hbB2 hg6 ho6 hoA hoB hyA hyB hbA hbB HOD HBD HO HBL
      go_wp2
      go_roundw
      case rel => exact ⟨t + 1, by omega, by go_num, _, HNX.out, HNL.out, HO6.out, HB6.out⟩
      case measure => simp [intOf]; omega
end Go.Proofs.YtkniifopfgeopaaGreat
