/-
  Whether a message asks for a cookie and has nothing to agree on (message.asksCookie).
-/
import Derived.Test.YtnnbfhjbaagnkaaQMsgNotes
namespace Go.Proofs.Ytnnbfhjbaagnkaa
open Go.RowKit
set_option linter.unusedVariables false

/-- A notification or a vendor's payload. -/
def plainP (x : Pv) : Bool := x.t == 41 || x.t == 43
set_option maxHeartbeats 6400000 in
set_option maxRecDepth 100000 in
theorem asksCookie_any (i r nx x f m : Int) (p : Option Addr) (n c : Nat) (l : List Pv) (w : World) (h : RdG KPv DPv w p n c l) (hn : n ≤ 100000) :
    Calls Try.prog 23 #[.agg #[.int .u64 i, .int .u64 r, .int .i64 nx, .int .i64 x, .int .i64 f, .int .u32 m, .slice p n c]] w fun e w' => e = .returned (.bool (l.all plainP && l.any (isNote 16390))) ∧ Below w.heap.size w w' := by
  have HBX := hidden ((Below.refl w.heap.size w).alloc (Nat.le_refl _) (.cells #[.int .u64 i, .int .u64 r, .int .i64 nx, .int .i64 x, .int .i64 f, .int .u32 m, .slice p n c] 32))
  have H := hidden h
  have HCX : Hid (∀ j u, (#[Value.int .u64 i, .int .u64 r, .int .i64 nx, .int .i64 x, .int .i64 f, .int .u32 m, .slice p n c] : Array Value)[j]? = some u → (w.alloc (.cells #[.int .u64 i, .int .u64 r, .int .i64 nx, .int .i64 x, .int .i64 f, .int .u32 m, .slice p n c] 32)).cell? ⟨w.heap.size, j, none⟩ = some u) := fun j u hj => by
    rw [World.cell?_alloc_at _ _ _ _ rfl]
    simpa using hj
  have HN := hidden (fun W (hW : Below w.heap.size w W) => notes_any i r nx x f m p n c l 16390 W (h.below hW) hn)
  obtain ⟨A, hA⟩ : ∃ A, l.any (isNote 16390) = A := ⟨_, rfl⟩
  rw [hA] at HN ⊢
  obtain ⟨R, hR⟩ : ∃ R, (l.all plainP && A) = R := ⟨_, rfl⟩
  have HR : Is ((l.drop 0).all plainP && A) R := ⟨by simpa using hR⟩
  rw [hR]
  clear hR h hA
  go_enter Try.func23, Try.ntmps23
  go_wp2_with fail
  go_loopw [8] (fun v wr => ∃ (j : Nat), j ≤ n ∧ v = .int .i64 j ∧ Is ((l.drop j).all plainP && A) R ∧ Below (w.heap.size + 1) (w.alloc (.cells #[.int .u64 i, .int .u64 r, .int .i64 nx, .int .i64 x, .int .i64 f, .int .u32 m, .slice p n c] 32)) wr) (fun v _ => n - (intOf v).toNat)
  case atStart => exact ⟨0, by omega, rfl, HR, Below.refl _ _⟩
  case round =>
    obtain ⟨j, hj, rfl, hrel, hb⟩ := hrel
    have hb' : Below (w.alloc (.cells #[.int .u64 i, .int .u64 r, .int .i64 nx, .int .i64 x, .int .i64 f, .int .u32 m, .slice p n c] 32)).heap.size (w.alloc (.cells #[.int .u64 i, .int .u64 r, .int .i64 nx, .int .i64 x, .int .i64 f, .int .u32 m, .slice p n c] 32)) wr := by simpa using hb
    have HB := hidden (HBX.out.trans (hb'.mono HBX.out.size))
    have HB1 := hidden hb
    have m0 := cell_below hb' _ _ (HCX.out 0 _ rfl)
    have m1 := cell_below hb' _ _ (HCX.out 1 _ rfl)
    have m2 := cell_below hb' _ _ (HCX.out 2 _ rfl)
    have m3 := cell_below hb' _ _ (HCX.out 3 _ rfl)
    have m4 := cell_below hb' _ _ (HCX.out 4 _ rfl)
    have m5 := cell_below hb' _ _ (HCX.out 5 _ rfl)
    have m6 := cell_below hb' _ _ (HCX.out 6 _ rfl)
    have hsz : w.heap.size + 1 ≤ wr.heap.size := by have := hb'.size; simpa using this
    clear hb hb'
    by_cases hlt : j < n
    · have hlt' : (j : Int) < n := by omega
      obtain ⟨g, y, rfl, hx, hdr, hok, hc⟩ := (H.out.below HB.out).drop_cons hlt
      have c0 := hc 0 _ rfl
      have c1 := hc 1 _ rfl
      have c2 := hc 2 _ rfl
      have c3 := hc 3 _ rfl
      have c4 := hc 4 _ rfl
      have c5 := hc 5 _ rfl
      have c6 := hc 6 _ rfl
      have c7 := hc 7 _ rfl
      have c8 := hc 8 _ rfl
      have c9 := hc 9 _ rfl
      have c10 := hc 10 _ rfl
      have c11 := hc 11 _ rfl
      have c12 := hc 12 _ rfl
      have c13 := hc 13 _ rfl
      have c14 := hc 14 _ rfl
      have c15 := hc 15 _ rfl
      simp only [Nat.add_zero] at c0
      have hf := hrel.eq
      rw [hdr, List.all_cons] at hf
      have HBP := hidden (HB1.out.alloc hsz (.cells #[.int .i64 y.t, .slice y.pr.p y.pr.n y.pr.c, .int .i64 y.eg, .slice y.ed.p y.ed.n y.ed.c, .int .i64 y.ik, .slice y.id.p y.id.n y.id.c, .int .i64 y.am, .slice y.ad.p y.ad.n y.ad.c, .int .i64 y.np, .slice y.ns.p y.ns.n y.ns.c, .int .i64 y.nt, .slice y.nd.p y.nd.n y.nd.c, .int .i64 y.dp, .slice y.ds.p y.ds.n y.ds.c, .slice y.se.p y.se.n y.se.c, .slice y.da.p y.da.n y.da.c] 50))
      have HBQ := hidden (HB.out.alloc HB.out.size (.cells #[.int .i64 y.t, .slice y.pr.p y.pr.n y.pr.c, .int .i64 y.eg, .slice y.ed.p y.ed.n y.ed.c, .int .i64 y.ik, .slice y.id.p y.id.n y.id.c, .int .i64 y.am, .slice y.ad.p y.ad.n y.ad.c, .int .i64 y.np, .slice y.ns.p y.ns.n y.ns.c, .int .i64 y.nt, .slice y.nd.p y.nd.n y.nd.c, .int .i64 y.dp, .slice y.ds.p y.ds.n y.ds.c, .slice y.se.p y.se.n y.se.c, .slice y.da.p y.da.n y.da.c] 50))
      clear hok hrel hdr hx hc
      have HGO := hidden (fun (e : plainP y = true) => (⟨by rw [e, Bool.true_and] at hf; exact hf⟩ : Is ((l.drop (j + 1)).all plainP && A) R))
      have HNO := hidden (fun (e : plainP y = false) => (⟨by rw [e] at hf; simpa using hf⟩ : Is false R))
      clear hf
      by_cases h1 : y.t = 41
      · have HT := HGO.out (by simp [plainP, h1])
        have q1 : (y.t != 41) = false := by simp [h1]
        clear HGO HNO h1
        go_wp2
        go_roundw
        case rel => exact ⟨j + 1, by omega, by go_num, HT, HBP.out⟩
        case measure => simp [intOf]; omega
      by_cases h2 : y.t = 43
      · have HT := HGO.out (by simp [plainP, h2])
        have q1 : (y.t != 41) = true := by simp [h1]
        have q2 : (y.t != 43) = false := by simp [h2]
        clear HGO HNO h1 h2
        go_wp2
        go_roundw
        case rel => exact ⟨j + 1, by omega, by go_num, HT, HBP.out⟩
        case measure => simp [intOf]; omega
      have HT := HNO.out (by simp [plainP, h1, h2])
      have q1 : (y.t != 41) = true := by simp [h1]
      have q2 : (y.t != 43) = true := by simp [h2]
      clear HGO HNO h1 h2
      go_wp2
      go_ret
      exact ⟨by rw [← HT.eq]; rfl, HBQ.out⟩
    · have hlt' : ¬ (j : Int) < n := by omega
      have hd : l.drop j = [] := List.drop_eq_nil_of_le (by rw [H.out.len]; omega)
      have hf := hrel.eq
      rw [hd, List.all_nil, Bool.true_and] at hf
      have HF := Is.mk hf
      clear hf hd hrel
      go_wp2_with (first
        | (go_at_call 27; (with_reducible refine (HN.out _ HB.out).mono ?_); rintro _ w1 ⟨⟨q, k, d, rfl, hk, hkn⟩, hb1⟩; have HK := Is.mk hk; have HB2 := hidden (HB.out.trans (hb1.mono HB.out.size)); clear hb1 hk)
        | fail)
      go_ret
      exact ⟨by rw [← HF.eq, ← HK.eq]; simp, HB2.out⟩
end Go.Proofs.Ytnnbfhjbaagnkaa
