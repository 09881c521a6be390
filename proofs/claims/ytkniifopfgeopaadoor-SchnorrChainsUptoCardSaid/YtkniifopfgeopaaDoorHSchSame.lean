/-
  The document's Same and SameAll, of certificates that say the same.
-/
import Derived.Test.YtkniifopfgeopaaDoorHSchDec
import Derived.Test.YtkniifopfgeopaaDoorHZ8
namespace Go.Proofs.YtkniifopfgeopaaDoor
open Go.RowKit
set_option linter.unusedVariables false

set_option maxHeartbeats 1600000 in
set_option maxRecDepth 100000 in
theorem rsame_yes (s : ByteArray) (k : Nat) (f t : Int) (a : Bool) (p q : Option Addr) (n c m d : Nat) (g : List Int) (w : World) (hp : Byt w p n c g) (hq : Byt w q m d g) :
    Calls Tryd.prog 24 #[.agg #[.string s, .int .u64 (k : Int), .int .i64 f, .int .i64 t, .bool a, .slice p n c], .agg #[.string s, .int .u64 (k : Int), .int .i64 f, .int .i64 t, .bool a, .slice q m d]] w fun e w' => e = .returned (.bool true) ∧ Below w.heap.size w w' := by
  have hA : Below w.heap.size w (w.alloc (.cells #[.string s, .int .u64 (k : Int), .int .i64 f, .int .i64 t, .bool a, .slice p n c] 37)) := (Below.refl _ _).alloc (Nat.le_refl _) _
  have HAT1 := hidden (((CtAt.new w ⟨s, k, f, t, a, p, n, c, g⟩ 37).below ((Below.refl _ _).alloc (Nat.le_refl _) (.cells #[.string s, .int .u64 (k : Int), .int .i64 f, .int .i64 t, .bool a, .slice q m d] 37))))
  have HAT2 := hidden (CtAt.new (w.alloc (.cells #[.string s, .int .u64 (k : Int), .int .i64 f, .int .i64 t, .bool a, .slice p n c] 37)) ⟨s, k, f, t, a, q, m, d, g⟩ 37)
  have HB1 := hidden (hA.alloc (by simp) (.cells #[.string s, .int .u64 (k : Int), .int .i64 f, .int .i64 t, .bool a, .slice q m d] 37))
  have HEQ := hidden (fun W (hW : Below w.heap.size w W) => (by
    have h8 := requal_any p q n c m d g g W (hp.below hW) (hq.below hW)
    rw [decide_eq_true (rfl : g = g)] at h8
    exact h8 : Calls Tryd.prog 15 #[.slice p n c, .slice q m d] W fun e w' => e = .returned (.bool true) ∧ ∃ r, w' = W.drewN r))
  rw [show (w.alloc (.cells #[.string s, .int .u64 (k : Int), .int .i64 f, .int .i64 t, .bool a, .slice p n c] 37)).heap.size = w.heap.size + 1 by simp] at HAT2
  clear hA hp hq
  go_enter Tryd.func24, Tryd.ntmps24
  go_upto_region 1 with fail
  obtain ⟨c0, c1, c2, c3, c4, c5⟩ := HAT1.out
  obtain ⟨d0, d1, d2, d3, d4, d5⟩ := HAT2.out
  generalize World.alloc (World.alloc w _) _ = w1 at *
  simp only [Nat.zero_add] at c1 c2 c3 c4 c5 d1 d2 d3 d4 d5
  clear HAT1 HAT2
  go_wp2_with (first
    | (go_at_call 15; (with_reducible refine (HEQ.out _ HB1.out).mono ?_); rintro e w2 ⟨rfl, r, rfl⟩)
    | fail)
  go_ret
  exact ⟨rfl, HB1.out.trans (drew_below ⟨r, rfl⟩)⟩
/-- What can be read behind a certificate: its signature. -/
def DCt : ReadN Ct where
  ok w x := Byt w x.p x.n x.c x.g
  keep h hk := h.keep hk
theorem RdG.ctAt {w : World} {p : Option Addr} {n c : Nat} {l : List Ct} (h : RdG KCt DCt w p n c l) (j : Nat) (hj : j < l.length) : ∃ g, p = some ⟨g, 0, none⟩ ∧ CtAt w g (j * 6) l[j] ∧ Byt w l[j].p l[j].n l[j].c l[j].g := by
  obtain ⟨g, e, hc, hk⟩ := h.cell j hj
  exact ⟨g, e, ⟨hc 0 _ rfl, hc 1 _ rfl, hc 2 _ rfl, hc 3 _ rfl, hc 4 _ rfl, hc 5 _ rfl⟩, hk⟩
theorem RwE.rd {w : World} {g n : Nat} {l : List Ct} (h : RwE w g l) (hn : l.length = n) (hb : n ≤ 1000) (ho : ∀ x ∈ l, Byt w x.p x.n x.c x.g) : RdG KCt DCt w (some ⟨g, 0, none⟩) n n l :=
  ⟨hn, Nat.le_refl _, by unfold maxLen; omega, fun _ => ⟨g, rfl, fun j u hj => by rw [cell_of_row w g _ _ _ _ h.heap]; simpa using hj⟩, ho⟩

set_option maxHeartbeats 3200000 in
set_option maxRecDepth 100000 in
theorem rsameall_yes (p q : Option Addr) (n c d : Nat) (l r : List Ct) (w : World) (hp : RdG KCt DCt w p n c l) (hq : RdG KCt DCt w q n d r) (hz : l.map Ct.z = r.map Ct.z) (hn : n ≤ 1000) :
    Calls Tryd.prog 19 #[.slice p n c, .slice q n d] w fun e w' => e = .returned (.bool true) ∧ Below w.heap.size w w' := by
  have HP := hidden hp
  have HQ := hidden hq
  have HZ := hidden hz
  have h1 := hp.len
  have h2 := hq.len
  have h3 := hp.cap
  have h4 := hq.cap
  clear hp hq hz
  go_enter Tryd.func19, Tryd.ntmps19
  go_wp2
  go_loopw [5] (fun i wr => ∃ j : Nat, j ≤ n ∧ i = .int .i64 (j : Int) ∧ Below w.heap.size w wr) (fun i _ => n - (intOf i).toNat)
  case atStart => exact ⟨0, by omega, rfl, Below.refl _ _⟩
  case round =>
    obtain ⟨j, hj, rfl, hb⟩ := hrel
    have HB := hidden hb
    clear hb
    by_cases hjn : j < n
    · obtain ⟨g, rfl, hca, hya⟩ := (HP.out.below HB.out).ctAt j (by omega)
      obtain ⟨g', rfl, hcb, hyb⟩ := (HQ.out.below HB.out).ctAt j (by omega)
      have hzz : (l[j]'(by omega)).z = (r[j]'(by omega)).z := by
        have h9 := congrArg (fun L => L[j]?) HZ.out
        simp only [List.getElem?_map, List.getElem?_eq_getElem (show j < l.length by omega), List.getElem?_eq_getElem (show j < r.length by omega), Option.map_some, Option.some.injEq] at h9
        exact h9
      generalize l[j]'(by omega) = x at *
      generalize r[j]'(by omega) = y at *
      obtain ⟨s, k, f, t, a, p, m, cc, gg⟩ := x
      obtain ⟨s', k', f', t', a', p', m', cc', gg'⟩ := y
      simp only [Ct.z, Ct.mk.injEq] at hzz
      obtain ⟨rfl, rfl, rfl, rfl, rfl, -, -, -, rfl⟩ := hzz
      have HSM := hidden (fun W (hW : Below wr.heap.size wr W) => rsame_yes s k f t a p p' m cc m' cc' gg W (hya.below hW) (hyb.below hW))
      have HCA := hidden hca
      have HCB := hidden hcb
      clear hya hyb hca hcb
      have hj1 : (j : Int) < (n : Int) := by omega
      have hj0 : (0 : Int) ≤ (j : Int) := by omega
      go_upto_region 6 with fail
      have HBD : Hid (Below wr.heap.size wr wr.drew) := hidden (drew_below ⟨1, rfl⟩)
      refine region_C 8 (fun w' => CtAt w' g (j * 6) ⟨s, k, f, t, a, p, m, cc, gg⟩ ∧ CtAt w' g' (j * 6) ⟨s, k, f, t, a, p', m', cc', gg⟩) (fun _ => True) (by kernel_rfl) ⟨HCA.out.below HBD.out, HCB.out.below HBD.out⟩ trivial (fun hS0 _ => ?_)
      refine anyC_take (i := 0) (v := .slice (some ⟨g, 0, none⟩) n c) rfl rfl (by decide) (by kernel_rfl) (by kernel_rfl) (by kernel_rfl) (fun _ _ _ h => h) (Or.inl ⟨by rfl, fun w0 _ => by kernel_rfl⟩) hS0 (fun _ => trivial) ?_
      refine anyC_take (i := 1) (v := .int .i64 (j : Int)) rfl rfl (by decide) (by kernel_rfl) (by kernel_rfl) (by kernel_rfl) (fun _ _ _ h => h) (Or.inl ⟨by rfl, fun w0 _ => by kernel_rfl⟩) hS0 (fun _ => trivial) ?_
      refine anyC_take (i := 4) (v := .slice (some ⟨g', 0, none⟩) n d) rfl rfl (by decide) (by kernel_rfl) (by kernel_rfl) (by kernel_rfl) (fun _ _ _ h => h) (Or.inl ⟨by rfl, fun w0 _ => by kernel_rfl⟩) hS0 (fun _ => trivial) ?_
      refine anyC_take (i := 5) (v := .int .i64 (j : Int)) rfl rfl (by decide) (by kernel_rfl) (by kernel_rfl) (by kernel_rfl) (fun _ _ _ h => h) (Or.inl ⟨by rfl, fun w0 _ => by kernel_rfl⟩) hS0 (fun _ => trivial) ?_
      (try simp only [Act.put, List.getElem_toArray, List.getElem_cons_zero, List.getElem_cons_succ, List.setIfInBounds_toArray, List.set_cons_zero, List.set_cons_succ])
      refine anyC_take (i := 2) (v := .pointer (some ⟨g, j * 6, none⟩)) rfl rfl (by decide) (by kernel_rfl) (by kernel_rfl) (by kernel_rfl) (fun _ _ _ h => h) (Or.inl ⟨by rfl, ?_⟩) hS0 (fun _ => trivial) ?_
      · rintro w0 -; go_simp; (try with_reducible rfl)
      refine anyC_take (i := 6) (v := .pointer (some ⟨g', j * 6, none⟩)) rfl rfl (by decide) (by kernel_rfl) (by kernel_rfl) (by kernel_rfl) (fun _ _ _ h => h) (Or.inl ⟨by rfl, ?_⟩) hS0 (fun _ => trivial) ?_
      · rintro w0 -; go_simp; (try with_reducible rfl)
      (try simp only [Act.put, List.getElem_toArray, List.getElem_cons_zero, List.getElem_cons_succ, List.setIfInBounds_toArray, List.set_cons_zero, List.set_cons_succ])
      refine anyC_take (i := 3) (v := .agg #[.string s, .int .u64 (k : Int), .int .i64 f, .int .i64 t, .bool a, .slice p m cc]) rfl rfl (by decide) (by kernel_rfl) (by kernel_rfl) (by kernel_rfl) (fun _ _ _ h => h) (Or.inl ⟨by rfl, ?_⟩) hS0 (fun _ => trivial) ?_
      · rintro w0 ⟨⟨s0, s1, s2, s3, s4, s5⟩, -⟩; go_simp; (try with_reducible rfl)
      refine anyC_take (i := 7) (v := .agg #[.string s, .int .u64 (k : Int), .int .i64 f, .int .i64 t, .bool a, .slice p' m' cc']) rfl rfl (by decide) (by kernel_rfl) (by kernel_rfl) (by kernel_rfl) (fun _ _ _ h => h) (Or.inl ⟨by rfl, ?_⟩) hS0 (fun _ => trivial) ?_
      · rintro w0 ⟨-, ⟨t0, t1, t2, t3, t4, t5⟩⟩; go_simp; (try with_reducible rfl)
      (try simp only [Act.put, List.getElem_toArray, List.getElem_cons_zero, List.getElem_cons_succ, List.setIfInBounds_toArray, List.set_cons_zero, List.set_cons_succ])
      clear hS0
      obtain ⟨V0, hV0⟩ : ∃ V, V = wr.drew := ⟨_, rfl⟩
      rw [← hV0] at HBD ⊢
      clear hV0
      refine anyC_one (i := 8) (by kernel_rfl) rfl (fun K' hK => ?_)
      refine fl_call rfl (f := 24) (args := #[.agg #[.string s, .int .u64 (k : Int), .int .i64 f, .int .i64 t, .bool a, .slice p m cc], .agg #[.string s, .int .u64 (k : Int), .int .i64 f, .int .i64 t, .bool a, .slice p' m' cc']]) (R := fun v w' => v = .bool true ∧ Below wr.heap.size wr w') (by kernel_rfl) ((HSM.out V0 HBD.out).mono (by rintro e w' ⟨rfl, hb⟩; exact ⟨_, rfl, rfl, HBD.out.trans (hb.mono HBD.out.size)⟩)) ?_
      rintro v w' ⟨rfl, hb'⟩
      have HB' := hidden (HB.out.trans (hb'.mono HB.out.size))
      have hS := And.intro (HCA.out.below hb') (HCB.out.below hb')
      refine hK.out _ _ hS (fun _ => trivial) ?_
      clear hK K' hb' HCA HCB HSM HBD
      (try simp only [Act.put, List.getElem_toArray, List.getElem_cons_zero, List.getElem_cons_succ, List.setIfInBounds_toArray, List.set_cons_zero, List.set_cons_succ])
      refine anyC_take (i := 9) (v := .bool false) rfl rfl (by decide) (by kernel_rfl) (by kernel_rfl) (by kernel_rfl) (fun _ _ _ h => h) (Or.inl ⟨by rfl, fun w0 _ => by kernel_rfl⟩) hS (fun _ => trivial) ?_
      clear hS
      (try simp only [Act.put, List.getElem_toArray, List.getElem_cons_zero, List.getElem_cons_succ, List.setIfInBounds_toArray, List.set_cons_zero, List.set_cons_succ])
      refine anyC_done (by kernel_rfl) ?_ _
      go_wp2
      go_roundw
      case rel => exact ⟨j + 1, by omega, by go_num, HB'.out⟩
      case measure => simp [intOf] <;> omega
    · obtain rfl : j = n := by omega
      have hj1 : ¬ (j : Int) < (j : Int) := by omega
      clear HP HQ HZ
      go_wp2
      go_ret
      exact ⟨rfl, HB.out⟩
end Go.Proofs.YtkniifopfgeopaaDoor
