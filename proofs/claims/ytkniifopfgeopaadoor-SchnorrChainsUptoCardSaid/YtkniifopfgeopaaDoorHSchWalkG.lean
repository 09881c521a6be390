/-
  schnorr.checkOne, walk and Chain over any certificates.
-/
import Derived.Test.YtkniifopfgeopaaDoorHRSchBodyG
namespace Go.Proofs.YtkniifopfgeopaaDoor
open Go.RowKit
set_option linter.unusedVariables false

theorem DCt.byt {w : World} {x : Ct} (h : DCt.ok w x) : Byt w x.p x.n x.c x.g := h
theorem rd_at {w : World} {g n c : Nat} {L : List Ct} (h : RdG KCt DCt w (some ⟨g, 0, none⟩) n c L) (j : Nat) (hj : j < L.length) : CtAt w g (j * 6) (L.getD j zc) := by
  obtain ⟨g', e, hc, hk⟩ := h.ctAt j hj
  cases e
  rw [List.getD_eq_getElem?_getD, List.getElem?_eq_getElem hj]
  exact hc
/-- The first error of one certificate, whatever it is. -/
def ckG (x : Ct) (iss : Bool) (key : Nat) (now : Int) : Int := if bodyE x = 0 then ckE x iss key now else bodyE x
/-- The first error of the first certificates of a chain whose last one the owner of the key signed. -/
def wkG (L : List Ct) (now : Int) : Nat → Nat → Int
  | 0, _ => 0
  | n + 1, key => if wkG L now n (L.getD n zc).k = 0 then ckG (L.getD n zc) (decide (0 < n)) key now else wkG L now n (L.getD n zc).k

set_option maxHeartbeats 1600000 in
set_option maxRecDepth 100000 in
theorem check_any (x : Ct) (h : CtV x) (iss : Bool) (key : Nat) (hkey : key < 18446744073709551616) (now : Int) (w : World) (hs : Byt w x.p x.n x.c x.g) (hK : KAt w) :
    Calls Tryd.prog 59 #[.agg #[.string x.s, .int .u64 (x.k : Int), .int .i64 x.f, .int .i64 x.t, .bool x.a, .slice x.p x.n x.c], .bool iss, .int .u64 (key : Int), .int .i64 now] w fun e w' => e = .returned (.int .i64 (ckG x iss key now)) ∧ Below w.heap.size w w' := by
  by_cases h0 : bodyE x = 0
  · have h9 := check_ok x (bodyE_ok h h0) iss key hkey now w hs hK
    unfold ckG
    rw [if_pos h0]
    exact h9
  unfold ckG
  rw [if_neg h0]
  have HBO := hidden (fun W => bodyS_any x h W)
  unfold BdG at HBO
  rw [if_neg h0] at HBO
  have hr0 : (w.alloc (.cells #[.string x.s, .int .u64 (x.k : Int), .int .i64 x.f, .int .i64 x.t, .bool x.a, .slice x.p x.n x.c] 37)).heap[w.heap.size]? = some (.cells #[.string x.s, .int .u64 (x.k : Int), .int .i64 x.f, .int .i64 x.t, .bool x.a, .slice x.p x.n x.c] 37 (0, 0)) := heap_alloc_new w _
  have HR0 := hidden hr0
  have HB0 := hidden ((Below.refl w.heap.size w).alloc (Nat.le_refl _) (.cells #[.string x.s, .int .u64 (x.k : Int), .int .i64 x.f, .int .i64 x.t, .bool x.a, .slice x.p x.n x.c] 37))
  generalize bodyE x = E at *
  obtain ⟨s, k, f, t, a, p, n, c, gg⟩ := x
  simp only at *
  clear h hs hK hr0 hkey
  go_enter Tryd.func59, Tryd.ntmps59
  go_upto_region 1 with fail
  generalize hw1 : w.alloc (.cells _ 37) = w1 at *
  have hr1 := HR0.out
  clear hw1 HR0
  go_wp2_with (first
    | (refine wpList_load_row rfl 37 _ rfl w.heap.size rfl 37 _ (0, 0) _ hr1 Tryd.underlying37 rfl infoC6 ?_)
    | (go_at_call 22; (with_reducible refine (HBO.out _).mono ?_); rintro e w2 ⟨p2, n2, c2, rfl, hy2, hb2⟩; have HB2 := hidden (HB0.out.trans (hb2.mono HB0.out.size)); clear hy2 hb2)
    | fail)
  go_ret
  exact ⟨rfl, HB2.out⟩

set_option maxHeartbeats 3200000 in
set_option maxRecDepth 100000 in
theorem walk_gen (L : List Ct) (g N c : Nat) (hL : ∀ x ∈ L, CtV x) (now : Int) (hc : c ≤ maxLen) : ∀ (n key : Nat), n ≤ L.length → n ≤ c → key < 18446744073709551616 → ∀ (w : World), RdG KCt DCt w (some ⟨g, 0, none⟩) N c L → KAt w →
    Calls Tryd.prog 33 #[.slice (some ⟨g, 0, none⟩) n c, .int .u64 (key : Int), .int .i64 now] w fun e w' => e = .returned (.int .i64 (wkG L now n key)) ∧ Below w.heap.size w w' := by
  have hcm : c ≤ 9223372036854775807 := by unfold maxLen at hc; omega
  intro n
  induction n with
  | zero =>
    intro key _ _ _ w _ _
    have e0 : wkG L now 0 key = 0 := rfl
    rw [e0]
    go_enter Tryd.func33, Tryd.ntmps33
    go_wp2
    go_ret
    exact ⟨rfl, Below.refl _ _⟩
  | succ n ih =>
    intro key hn hnc hkey w hr hK
    have hat := rd_at hr n (by omega)
    have hmem : L.getD n zc ∈ L := by
      rw [List.getD_eq_getElem?_getD, List.getElem?_eq_getElem (show n < L.length by omega)]
      exact List.getElem_mem _
    have hok := hL _ hmem
    have hby := hr.ok _ hmem
    have HIH := hidden (fun (W : World) (hW : Below w.heap.size w W) => ih (L.getD n zc).k (by omega) (by omega) hok.kl W (hr.below hW) (hK.below hW hK.lt))
    have HCK := hidden (fun (W : World) (hW : Below w.heap.size w W) => check_any (L.getD n zc) hok (decide (0 < n)) key hkey now W (hby.below hW) (hK.below hW hK.lt))
    obtain ⟨E, hE⟩ : ∃ E, wkG L now (n + 1) key = E := ⟨_, rfl⟩
    rw [hE]
    have HE : Is (if wkG L now n (L.getD n zc).k = 0 then ckG (L.getD n zc) (decide (0 < n)) key now else wkG L now n (L.getD n zc).k) E := ⟨hE⟩
    generalize wkG L now n (L.getD n zc).k = E1 at *
    generalize ckG (L.getD n zc) (decide (0 < n)) key now = E2 at *
    generalize L.getD n zc = x at *
    have hgl := World.block_lt_of_cell? w _ hat.c0
    obtain ⟨s, k, f, t, a, p, m, d, gg⟩ := x
    obtain ⟨c0, c1, c2, c3, c4, c5⟩ := hat
    simp only at *
    have e1 : (((n + 1 : Nat) : Int)) - 1 = (n : Int) := by omega
    have e2 : (n : Int) ≤ (c : Int) := by omega
    have e3 : (n : Int) < ((n + 1 : Nat) : Int) := by omega
    have e4 : (0 : Int) ≤ (n : Int) := by omega
    clear ih hr hK hok hby hmem hE hL hn hkey
    go_enter Tryd.func33, Tryd.ntmps33
    go_upto_region 3 with fail
    go_region
    have hr1 : ((w.alloc (.cells #[.string s, .int .u64 (k : Int), .int .i64 f, .int .i64 t, .bool a, .slice p m d] 37)).drew).heap[w.heap.size]? = some (.cells #[.string s, .int .u64 (k : Int), .int .i64 f, .int .i64 t, .bool a, .slice p m d] 37 (0, 0)) := heap_alloc_new w _
    have HB1 : Hid (Below w.heap.size w ((w.alloc (.cells #[.string s, .int .u64 (k : Int), .int .i64 f, .int .i64 t, .bool a, .slice p m d] 37)).drew)) := hidden (((Below.refl w.heap.size w).alloc (Nat.le_refl _) _).drew)
    generalize (World.alloc w _).drew = w1 at *
    have hd1 : w1.cell? ⟨w.heap.size, 1, none⟩ = some (.int .u64 (k : Int)) := by rw [cell_of_row w1 w.heap.size _ _ _ _ hr1]; rfl
    have HR1 := hidden hr1
    clear c0 c1 c2 c3 c4 c5 hr1
    go_upto_region 5 with (first
      | (go_at_call 33; (with_reducible refine (HIH.out _ HB1.out).mono ?_); rintro e w2 ⟨rfl, hb2⟩; have HB2 := hidden hb2; clear hb2 HIH)
      | fail)
    have HB3 := hidden (HB1.out.trans (HB2.out.mono HB1.out.size))
    have hr2 : w2.heap[w.heap.size]? = some (.cells #[.string s, .int .u64 (k : Int), .int .i64 f, .int .i64 t, .bool a, .slice p m d] 37 (0, 0)) := by rw [HB2.out.block _ (Array.getElem?_eq_some_iff.1 HR1.out).1]; exact HR1.out
    have HCW := hidden (HCK.out w2 HB3.out)
    clear HB1 HB2 HR1 hd1 HCK
    by_cases hE1 : E1 = 0
    · obtain rfl : E2 = E := by rw [← HE.eq, if_pos hE1]
      clear HE
      subst hE1
      go_upto_region 7 with fail
      go_wp2_with (first
        | (refine wpList_load_row rfl 37 _ rfl w.heap.size rfl 37 _ (0, 0) _ hr2 Tryd.underlying37 rfl infoC6 ?_)
        | (go_at_call 59; (with_reducible refine (HCW.out).mono ?_); rintro e w4 ⟨rfl, hb4⟩; have HB4 := hidden (HB3.out.trans (hb4.mono HB3.out.size)); clear hb4)
        | fail)
      go_ret
      exact ⟨rfl, HB4.out⟩
    · obtain rfl : E1 = E := by rw [← HE.eq, if_neg hE1]
      clear HE HCW
      go_wp2
      go_ret
      exact ⟨rfl, HB3.out⟩

set_option maxHeartbeats 3200000 in
set_option maxRecDepth 100000 in
theorem chain_gen (L : List Ct) (g n c : Nat) (hn1 : 1 ≤ n) (hn6 : n ≤ 6) (hL : ∀ x ∈ L, CtV x) (now : Int) (key : Nat) (hk : key < 18446744073709551616) (w : World) (hr : RdG KCt DCt w (some ⟨g, 0, none⟩) n c L) (hK : KAt w) :
    Calls Tryd.prog 11 #[.slice (some ⟨g, 0, none⟩) n c, .int .u64 (key : Int), .int .i64 now] w fun e w' => ((wkG L now n key = 0 ∧ e = .returned (.tuple #[.string (L.getD 0 zc).s, .int .u64 ((L.getD 0 zc).k : Int), .int .i64 0])) ∨ (wkG L now n key ≠ 0 ∧ e = .returned (.tuple #[.string ⟨#[]⟩, .int .u64 0, .int .i64 (wkG L now n key)]))) ∧ Below w.heap.size w w' := by
  have hl := hr.len
  have hcp := hr.cap
  have HW := hidden (walk_gen L g n c hL now hr.big n key (by omega) (by omega) hk w hr hK)
  generalize wkG L now n key = E at *
  have HAT := hidden (fun (W : World) (hW : Below w.heap.size w W) => rd_at (hr.below hW) 0 (by omega))
  generalize L.getD 0 zc = x at *
  obtain ⟨s, k, f, t, a, p, m, d, gg⟩ := x
  clear hr hK hL
  have h0 : (0 : Int) < (n : Int) := by omega
  have h1 : ¬ (n : Int) = 0 := by omega
  have h6 : ¬ (6 : Int) < (n : Int) := by omega
  go_enter Tryd.func11, Tryd.ntmps11
  go_upto_region 6 with (first
    | (go_at_call 33; (with_reducible refine (HW.out).mono ?_); rintro e w2 ⟨rfl, hb2⟩; have HB2 := hidden hb2; clear hb2 HW)
    | fail)
  by_cases hE1 : E = 0
  · subst hE1
    obtain ⟨c0, c1, c2, c3, c4, c5⟩ := HAT.out w2 HB2.out
    simp only [Nat.zero_mul, Nat.zero_add] at c0 c1
    clear HAT c2 c3 c4 c5
    go_wp2
    go_region
    go_wp2
    go_ret3
    refine ⟨rfl, ?_⟩
    first
      | exact HB2.out
      | exact HB2.out.drew
  · clear HAT
    go_wp2
    go_ret3
    exact ⟨Or.inr ⟨hE1, rfl⟩, HB2.out⟩
end Go.Proofs.YtkniifopfgeopaaDoor
