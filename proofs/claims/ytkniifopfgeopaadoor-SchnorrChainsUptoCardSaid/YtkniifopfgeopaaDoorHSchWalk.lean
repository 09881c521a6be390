/-
  schnorr.checkOne, walk and Chain over certificates that are valid.
-/
import Derived.Test.YtkniifopfgeopaaDoorHSchDraw
namespace Go.Proofs.YtkniifopfgeopaaDoor
open Go.RowKit
set_option linter.unusedVariables false

/-- The first error of one certificate. -/
def ckE (x : Ct) (iss : Bool) (key : Nat) (now : Int) : Int := if (iss && !x.a) = true then 24 else if now < x.f ∨ x.t < now then 19 else verE key (bdL x) x.g

set_option maxHeartbeats 3200000 in
set_option maxRecDepth 100000 in
theorem check_ok (x : Ct) (h : CtOk x) (iss : Bool) (key : Nat) (hkey : key < 18446744073709551616) (now : Int) (w : World) (hs : Byt w x.p x.n x.c x.g) (hK : KAt w) :
    Calls Tryd.prog 59 #[.agg #[.string x.s, .int .u64 (x.k : Int), .int .i64 x.f, .int .i64 x.t, .bool x.a, .slice x.p x.n x.c], .bool iss, .int .u64 (key : Int), .int .i64 now] w fun e w' => e = .returned (.int .i64 (ckE x iss key now)) ∧ Below w.heap.size w w' := by
  have HBO := hidden (fun W => bodyS_ok x h W)
  have HBL := Is.mk (bdL_len x)
  have hle := h.nm.le
  have HVE := hidden (fun W (hW : Below w.heap.size w W) (q : Option Addr) (d : Nat) (hq : Byt W q (x.s.size + 18) d (bdL x)) => verS_any key hkey q (x.s.size + 18) d (bdL x) x.p x.n x.c x.g W hq (by omega) (hs.below hW) (hK.below hW hK.lt))
  have hr0 : (w.alloc (.cells #[.string x.s, .int .u64 (x.k : Int), .int .i64 x.f, .int .i64 x.t, .bool x.a, .slice x.p x.n x.c] 37)).heap[w.heap.size]? = some (.cells #[.string x.s, .int .u64 (x.k : Int), .int .i64 x.f, .int .i64 x.t, .bool x.a, .slice x.p x.n x.c] 37 (0, 0)) := heap_alloc_new w _
  have HR0 := hidden hr0
  have HAT := hidden (CtAt.new w x 37)
  have HB0 := hidden ((Below.refl w.heap.size w).alloc (Nat.le_refl _) (.cells #[.string x.s, .int .u64 (x.k : Int), .int .i64 x.f, .int .i64 x.t, .bool x.a, .slice x.p x.n x.c] 37))
  unfold ckE
  generalize verE key (bdL x) x.g = V at *
  generalize bdL x = BL at *
  obtain ⟨s, k, f, t, a, p, n, c, gg⟩ := x
  simp only at *
  obtain ⟨E, hE⟩ : ∃ E : Int, (if (iss && !a) = true then 24 else if now < f ∨ t < now then 19 else V) = E := ⟨_, rfl⟩
  rw [hE]
  have HE := Is.mk hE
  clear h hs hK hr0 hle hkey hE
  go_enter Tryd.func59, Tryd.ntmps59
  go_upto_region 1 with fail
  generalize hw1 : w.alloc (.cells _ 37) = w1 at *
  have hr1 := HR0.out
  have HBw := hidden (fun W (hW : Below w1.heap.size w1 W) => HB0.out.trans (hW.mono HB0.out.size))
  have HCA := hidden (fun W (hW : Below w1.heap.size w1 W) => HAT.out.below hW)
  clear hw1 HR0 HAT HB0
  go_upto_region 2 with (first
    | (refine wpList_load_row rfl 37 _ rfl w.heap.size rfl 37 _ (0, 0) _ hr1 Tryd.underlying37 rfl infoC6 ?_)
    | (go_at_call 22; (with_reducible refine (HBO.out _).mono ?_); rintro e w2 ⟨p2, n2, c2, rfl, hy2, hb2⟩; have hn2 := hy2.len; rw [HBL.eq] at hn2; subst hn2; have HB2 := hidden hb2; have HVX := hidden (HVE.out w2 (HBw.out w2 hb2) p2 c2 hy2); clear hy2 hb2)
    | fail)
  obtain ⟨c0, c1, c2', c3, c4, c5⟩ := HCA.out w2 HB2.out
  simp only [Nat.zero_add] at c1 c2' c3 c4 c5
  have HBF := hidden (HBw.out w2 HB2.out)
  clear hr1 HVE HBO
  by_cases hA : (iss && !a) = true
  · obtain rfl : (24 : Int) = E := by rw [← HE.eq, if_pos hA]
    obtain ⟨rfl, rfl⟩ : iss = true ∧ a = false := by cases iss <;> cases a <;> simp_all
    clear hA HVX
    go_wp2
    go_ret
    exact ⟨rfl, HBF.out⟩
  · have HE2 := Is.mk HE.eq
    rw [if_neg hA] at HE2
    by_cases hX : now < f ∨ t < now
    · obtain rfl : (19 : Int) = E := by rw [← HE2.eq, if_pos hX]
      have hx1 : decide (now < f) || decide (t < now) = true := by simpa using hX
      clear HVX
      cases iss with
      | true =>
        obtain rfl : a = true := by cases a <;> simp_all
        clear hA
        by_cases h1 : now < f
        · clear hX hx1
          go_wp2
          go_ret
          exact ⟨rfl, HBF.out⟩
        · have h2 : t < now := by omega
          clear hX hx1
          go_wp2
          go_ret
          exact ⟨rfl, HBF.out⟩
      | false =>
        clear hA
        by_cases h1 : now < f
        · clear hX hx1
          go_wp2
          go_ret
          exact ⟨rfl, HBF.out⟩
        · have h2 : t < now := by omega
          clear hX hx1
          go_wp2
          go_ret
          exact ⟨rfl, HBF.out⟩
    · obtain rfl : V = E := by rw [← HE2.eq, if_neg hX]
      have h1 : ¬ now < f := by omega
      have h2 : ¬ t < now := by omega
      clear hX
      cases iss with
      | true =>
        obtain rfl : a = true := by cases a <;> simp_all
        clear hA
        go_wp2_with (first
          | (go_at_call 26; (with_reducible refine (HVX.out).mono ?_); rintro e w3 ⟨rfl, hb3⟩; have HB3 := hidden (HBF.out.trans (hb3.mono HBF.out.size)); clear hb3)
          | fail)
        go_ret
        exact ⟨rfl, HB3.out⟩
      | false =>
        clear hA
        go_wp2_with (first
          | (go_at_call 26; (with_reducible refine (HVX.out).mono ?_); rintro e w3 ⟨rfl, hb3⟩; have HB3 := hidden (HBF.out.trans (hb3.mono HBF.out.size)); clear hb3)
          | fail)
        go_ret
        exact ⟨rfl, HB3.out⟩
/-- The first error of the first certificates of a chain whose last one the owner of the key signed. -/
def wkE (L : List Ct) (now : Int) : Nat → Nat → Int
  | 0, _ => 0
  | n + 1, key => if wkE L now n (L.getD n zc).k = 0 then ckE (L.getD n zc) (decide (0 < n)) key now else wkE L now n (L.getD n zc).k
theorem RwE.at_ {W : World} {g : Nat} {L : List Ct} (h : RwE W g L) (j : Nat) (hj : j < L.length) : CtAt W g (j * 6) (L.getD j zc) := by
  have hc : ∀ i u, (KCt.cs (L.getD j zc))[i]? = some u → W.cell? ⟨g, j * 6 + i, none⟩ = some u := fun i u hu => by
    have e : L.getD j zc = L[j] := by simp [List.getD_eq_getElem?_getD, hj]
    rw [e] at hu
    rw [cell_of_row W g _ _ _ _ h.heap]
    have h9 : (KCt.row L)[j * 6 + i]? = some u := KCt.row_get L j hj i u hu
    simpa using h9
  exact ⟨hc 0 _ rfl, hc 1 _ rfl, hc 2 _ rfl, hc 3 _ rfl, hc 4 _ rfl, hc 5 _ rfl⟩

end Go.Proofs.YtkniifopfgeopaaDoor
