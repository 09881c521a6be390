/-
  The law's spoil: one thing of certificates is changed.
-/
import Derived.Test.YtkniifopfgeopaaDoorHSchSpoil
namespace Go.Proofs.YtkniifopfgeopaaDoor
open Go.RowKit
set_option linter.unusedVariables false
set_option linter.unusedSimpArgs false

/-- What spoil returns. -/
def SpTo (W w : World) (k B0 M : Nat) (e : Ending) (w' : World) : Prop :=
  ∃ g n c L, e = .returned (.slice (some ⟨g, 0, none⟩) n c) ∧ 1 ≤ n ∧ n ≤ 7 ∧ SpI W w w' k g n c B0 M L
/-- The texts that may become names lie in this block. -/
def LitT (U : World) (B : Nat) : Prop := ∀ j, j < 4 → ∃ s : ByteArray, s.size ≤ 1000000 ∧ U.cell? ⟨B, j, none⟩ = some (.string s)

set_option maxHeartbeats 12800000 in
set_option maxRecDepth 100000 in
theorem spoil_any (W w : World) (k B0 M : Nat) (h : Cod W w k) (hk : k < B0) (hw : B0 ≤ w.heap.size) (hW : W.heap.size ≤ B0) (p : Option Addr) (n c : Nat) (L : List Ct) (hs : SrcG KCt w p n L) (hn1 : 1 ≤ n) (hn7 : n ≤ 7)
    (hb : ∀ x ∈ L, Bod w B0 x.p x.n x.c x.g) (hv : ∀ x ∈ L, CtV x) (hl : ∀ x ∈ L, x.n ≤ M) (hM : M ≤ 8000) :
    Calls Tryd.prog 9 #[.pointer (some ⟨k, 0, none⟩), .slice p n c] w (SpTo W w k B0 (M + 1)) := by
  have HS := hidden hs
  have HC := hidden h
  have HB := hidden hb
  have HV := hidden hv
  have HLM := hidden hl
  have hln := hs.1
  clear hs h hb hv hl
  go_enter Tryd.func9, Tryd.ntmps9
  go_upto_region 2 with (first
    | (at_builtin; go_loud (refine wpList_append_g knownCt (by simp [NTc, KCt]) _ rfl _ _ rfl w.heap.size _ [] rfl (RowG.nil KCt NTc _ _) _ n c L rfl HS.out (fun x hx => trivial) ?b1 ?b2 ?b3 ?_))
    | fail)
  case b1 => simp; unfold maxLen; omega
  case b2 => simp; omega
  case b3 => exact Nat.le_refl _
  intro v1 w1 hrow1 hg1
  have hb1 := below_nil hg1
  obtain ⟨g, c', rfl, -⟩ := hrow1.at_ hln (by omega)
  have HS1 : Hid (SpI W w w1 k g n c' B0 M L) := hidden ⟨HC.out.below hb1, grown_of_below hb1 _, hrow1, hln, fun x hx => (HB.out x hx).below hb1, HV.out, HLM.out⟩
  clear HS HC HB HV HLM hrow1 hg1 hb1 hln
  have h0 : ¬ (n : Int) = 0 := by omega
  have HN1 := hidden (next_any W w1 k HS1.out.cod (n : Int) (by omega))
  go_upto_region 5 with (first
    | (go_at_call 28; (with_reducible refine (HN1.out).mono ?_); rintro e w2 ⟨j, rfl, hj0, hj1, hc2, hg2⟩; have HS2 := hidden (HS1.out.grown hk hw hc2 hg2); clear hc2 hg2 HN1 HS1)
    | fail)
  have HN2 := hidden (next_any W w2 k HS2.out.cod 8 (by omega))
  obtain ⟨j, rfl⟩ := Int.eq_ofNat_of_zero_le hj0
  have hjn : j < n := by omega
  go_upto_region 8 with (first
    | (go_at_call 28; (with_reducible refine (HN2.out).mono ?_); rintro e w3 ⟨r, rfl, hr0, hr1, hc3, hg3⟩; have HS3 := hidden (HS2.out.grown hk hw hc3 hg3); clear hc3 hg3 HN2 HS2)
    | fail)
  have hx := HS3.out.mem j hjn
  have HXV := hidden (HS3.out.val _ hx)
  have HXL := hidden (HS3.out.ln _ hx)
  have HXB := hidden (HS3.out.bod _ hx)
  obtain ⟨x, hxx⟩ : ∃ x, L.getD j zc = x := ⟨_, rfl⟩
  have HXX := Is.mk hxx
  rw [hxx] at HXV HXL HXB
  obtain ⟨s, k0, f, t, a, q, m, d, gg⟩ := x
  clear hx hxx
  have hcs : r = 0 ∨ r = 1 ∨ r = 2 ∨ r = 3 ∨ r = 4 ∨ r = 5 ∨ r = 6 ∨ r = 7 := by omega
  rcases hcs with rfl | rfl | rfl | rfl | rfl | rfl | rfl | rfl
  · have HLT : Hid (LitT (w3.alloc (.cells #[.string ⟨#[]⟩, .string ⟨#[109, 97, 108, 108, 111, 114, 121]⟩, .string ⟨#[97, 32, 98]⟩, .string ⟨#[97, 98, 99, 100, 101, 102, 103, 104, 105, 106, 107, 108, 109, 110, 111, 112, 113]⟩] 9)) w3.heap.size) := hidden (fun j hj => by
      have : j = 0 ∨ j = 1 ∨ j = 2 ∨ j = 3 := by omega
      rcases this with rfl | rfl | rfl | rfl
      · exact ⟨⟨#[]⟩, by decide, by go_simp⟩
      · exact ⟨⟨#[109, 97, 108, 108, 111, 114, 121]⟩, by decide, by go_simp⟩
      · exact ⟨⟨#[97, 32, 98]⟩, by decide, by go_simp⟩
      · exact ⟨⟨#[97, 98, 99, 100, 101, 102, 103, 104, 105, 106, 107, 108, 109, 110, 111, 112, 113]⟩, by decide, by go_simp⟩)
    have hkl : k < w3.heap.size := HS3.out.cod.lt
    go_wp2_with (first
      | (go_at_call 28; (with_reducible refine (next_any W _ k (HS3.out.cod.alloc _) 4 (by omega)).mono ?_); rintro e w4 ⟨z, rfl, hz0, hz1, hc4, hg4⟩; obtain ⟨z, rfl⟩ := Int.eq_ofNat_of_zero_le hz0; have hal := (Below.refl w3.heap.size w3).alloc (Nat.le_refl _) (.cells #[.string ⟨#[]⟩, .string ⟨#[109, 97, 108, 108, 111, 114, 121]⟩, .string ⟨#[97, 32, 98]⟩, .string ⟨#[97, 98, 99, 100, 101, 102, 103, 104, 105, 106, 107, 108, 109, 110, 111, 112, 113]⟩] 9); have HS4 := hidden ((HS3.out.below hal).grown hk hw hc4 hg4); obtain ⟨s9, hs9, hl9⟩ := HLT.out z (by omega); have hlit := hg4.cell hl9 (by simp; omega); have HS9 := hidden hs9; have hat := HS4.out.cells j hjn; rw [HXX.eq] at hat; have hcell := hat.1.c0; have hfro := hat.2 (j * 6); have HXB4 := hidden ((HXB.out.below hal).grown hg4 (OffB.low hk)); clear hc4 hg4 HS3 HXB hat hal hs9 hl9 HLT)
      | fail)
    go_ret
    exact ⟨g, n, c', _, rfl, hn1, hn7, (HS4.out.up (Nat.le_succ M)).put hk hw hW j hjn 0 (by omega) _ ⟨s9, k0, f, t, a, q, m, d, gg⟩ (by rw [HXX.eq]; rfl) ⟨HS9.out, HXV.out.kl, HXV.out.f0, HXV.out.t0⟩ (Nat.le_succ_of_le HXL.out) HXB4.out⟩
  · have HN3 := hidden (word_any W w3 k HS3.out.cod)
    go_wp2_with (first
      | (go_at_call 10; (with_reducible refine (HN3.out).mono ?_); rintro e w4 ⟨z, rfl, hz0, hz1, hc4, hg4⟩; have HS4 := hidden (HS3.out.grown hk hw hc4 hg4); have hat := HS4.out.cells j hjn; rw [HXX.eq] at hat; have hcell := hat.1.c1; have hfro := hat.2 (j * 6 + 1); have HXB4 := hidden (HXB.out.grown hg4 (OffB.low hk)); clear hc4 hg4 HN3 HS3 HXB hat)
      | fail)
    go_ret
    obtain ⟨z, rfl⟩ := Int.eq_ofNat_of_zero_le hz0
    exact ⟨g, n, c', _, rfl, hn1, hn7, (HS4.out.up (Nat.le_succ M)).put hk hw hW j hjn 1 (by omega) _ ⟨s, z, f, t, a, q, m, d, gg⟩ (by rw [HXX.eq]; rfl) ⟨HXV.out.sz, by show z < 18446744073709551616; omega, HXV.out.f0, HXV.out.t0⟩ (Nat.le_succ_of_le HXL.out) HXB4.out⟩
  · have HN3 := hidden (int_any W w3 k HS3.out.cod)
    go_wp2_with (first
      | (go_at_call 32; (with_reducible refine (HN3.out).mono ?_); rintro e w4 ⟨z, rfl, hz0, hz1, hc4, hg4⟩; have HS4 := hidden (HS3.out.grown hk hw hc4 hg4); have hat := HS4.out.cells j hjn; rw [HXX.eq] at hat; have hcell := hat.1.c2; have hfro := hat.2 (j * 6 + 2); have HXB4 := hidden (HXB.out.grown hg4 (OffB.low hk)); clear hc4 hg4 HN3 HS3 HXB hat)
      | fail)
    go_ret
    
    exact ⟨g, n, c', _, rfl, hn1, hn7, (HS4.out.up (Nat.le_succ M)).put hk hw hW j hjn 2 (by omega) _ ⟨s, k0, z, t, a, q, m, d, gg⟩ (by rw [HXX.eq]; rfl) ⟨HXV.out.sz, HXV.out.kl, ⟨hz0, hz1⟩, HXV.out.t0⟩ (Nat.le_succ_of_le HXL.out) HXB4.out⟩
  · have HN3 := hidden (int_any W w3 k HS3.out.cod)
    go_wp2_with (first
      | (go_at_call 32; (with_reducible refine (HN3.out).mono ?_); rintro e w4 ⟨z, rfl, hz0, hz1, hc4, hg4⟩; have HS4 := hidden (HS3.out.grown hk hw hc4 hg4); have hat := HS4.out.cells j hjn; rw [HXX.eq] at hat; have hcell := hat.1.c3; have hfro := hat.2 (j * 6 + 3); have HXB4 := hidden (HXB.out.grown hg4 (OffB.low hk)); clear hc4 hg4 HN3 HS3 HXB hat)
      | fail)
    go_ret
    
    exact ⟨g, n, c', _, rfl, hn1, hn7, (HS4.out.up (Nat.le_succ M)).put hk hw hW j hjn 3 (by omega) _ ⟨s, k0, f, z, a, q, m, d, gg⟩ (by rw [HXX.eq]; rfl) ⟨HXV.out.sz, HXV.out.kl, HXV.out.f0, ⟨hz0, hz1⟩⟩ (Nat.le_succ_of_le HXL.out) HXB4.out⟩
  · have hat := HS3.out.cells j hjn
    rw [HXX.eq] at hat
    have hcell := hat.1.c4
    have hfro := hat.2 (j * 6 + 4)
    clear hat
    go_wp2
    go_ret
    exact ⟨g, n, c', _, rfl, hn1, hn7, (HS3.out.up (Nat.le_succ M)).put hk hw hW j hjn 4 (by omega) _ ⟨s, k0, f, t, !a, q, m, d, gg⟩ (by rw [HXX.eq]; rfl) ⟨HXV.out.sz, HXV.out.kl, HXV.out.f0, HXV.out.t0⟩ (Nat.le_succ_of_le HXL.out) HXB.out⟩
  · have hat := HS3.out.cells j hjn
    rw [HXX.eq] at hat
    have hcell := hat.1.c5
    have HCH := hidden (change_bod W w3 k HS3.out.cod q m d gg HXB.out.byt (by have := HXL.out; show m ≤ 9000; have h9 : m ≤ M := HXL.out; omega))
    clear hat
    go_wp2_with (first
      | (go_at_call 16; (with_reducible refine (HCH.out).mono ?_); rintro e w4 ⟨q4, m4, d4, ys, rfl, hb4, hm4, hc4, hg4⟩; have HS4 := hidden (HS3.out.grown hk hw hc4 hg4); have hat := HS4.out.cells j hjn; rw [HXX.eq] at hat; clear hcell; have hcell := hat.1.c5; have hfro := hat.2 (j * 6 + 5); have HXB4 := hidden (hb4.mono (Nat.le_trans hw HS3.out.gr.size)); have HM4 := hidden hm4; clear hc4 hg4 HCH HS3 HXB hat hb4 hm4)
      | fail)
    go_ret
    exact ⟨g, n, c', _, rfl, hn1, hn7, (HS4.out.up (Nat.le_succ M)).put hk hw hW j hjn 5 (by omega) _ ⟨s, k0, f, t, a, q4, m4, d4, ys⟩ (by rw [HXX.eq]; rfl) ⟨HXV.out.sz, HXV.out.kl, HXV.out.f0, HXV.out.t0⟩ (by have h8 := HM4.out; have h9 : m ≤ M := HXL.out; show m4 ≤ M + 1; omega) HXB4.out⟩
  · obtain ⟨x0, hx0⟩ : ∃ x, L.getD 0 zc = x := ⟨_, rfl⟩
    have hm0 := HS3.out.mem 0 (by omega)
    rw [hx0] at hm0
    have HV0 := hidden (HS3.out.val _ hm0)
    have HL0 := hidden (HS3.out.ln _ hm0)
    have HD0 := hidden (HS3.out.bod _ hm0)
    have hatj := (HS3.out.cells j hjn).1
    have hat0 := (HS3.out.cells 0 (by omega)).1
    rw [HXX.eq] at hatj
    rw [hx0] at hat0
    obtain ⟨s0, k00, f0, t0, a0, q0, m0, d0, gg0⟩ := x0
    clear hm0 hx0
    have hjI : (j : Int) < (n : Int) := by omega
    have hjI0 : (0 : Int) ≤ (j : Int) := by omega
    have hnI : (0 : Int) < (n : Int) := by omega
    go_upto_region 21 with fail
    have HBD : Hid (Below w3.heap.size w3 w3.drew) := hidden (drew_below ⟨1, rfl⟩)
    refine region_C 11 (fun _ => True) (fun w' => CtAt w' g (j * 6) ⟨s, k0, f, t, a, q, m, d, gg⟩ ∧ CtAt w' g 0 ⟨s0, k00, f0, t0, a0, q0, m0, d0, gg0⟩) (by kernel_rfl) trivial ⟨hatj.below HBD.out, by simpa using hat0.below HBD.out⟩ (fun _ hS1 => ?_)
    refine anyC_take (i := 0) (v := .slice (some ⟨g, 0, none⟩) n c') rfl rfl (by decide) (by kernel_rfl) (by kernel_rfl) (by kernel_rfl) (fun _ _ _ h => h) (Or.inl ⟨by rfl, fun w0 _ => by kernel_rfl⟩) trivial (fun _ => hS1) ?_
    refine anyC_take (i := 1) (v := .slice (some ⟨g, 0, none⟩) n c') rfl rfl (by decide) (by kernel_rfl) (by kernel_rfl) (by kernel_rfl) (fun _ _ _ h => h) (Or.inl ⟨by rfl, fun w0 _ => by kernel_rfl⟩) trivial (fun _ => hS1) ?_
    refine anyC_take (i := 2) (v := .int .i64 (j : Int)) rfl rfl (by decide) (by kernel_rfl) (by kernel_rfl) (by kernel_rfl) (fun _ _ _ h => h) (Or.inl ⟨by rfl, fun w0 _ => by kernel_rfl⟩) trivial (fun _ => hS1) ?_
    refine anyC_take (i := 3) (v := .slice (some ⟨g, 0, none⟩) n c') rfl rfl (by decide) (by kernel_rfl) (by kernel_rfl) (by kernel_rfl) (fun _ _ _ h => h) (Or.inl ⟨by rfl, fun w0 _ => by kernel_rfl⟩) trivial (fun _ => hS1) ?_
    refine anyC_take (i := 4) (v := .int .i64 (j : Int)) rfl rfl (by decide) (by kernel_rfl) (by kernel_rfl) (by kernel_rfl) (fun _ _ _ h => h) (Or.inl ⟨by rfl, fun w0 _ => by kernel_rfl⟩) trivial (fun _ => hS1) ?_
    refine anyC_take (i := 7) (v := .slice (some ⟨g, 0, none⟩) n c') rfl rfl (by decide) (by kernel_rfl) (by kernel_rfl) (by kernel_rfl) (fun _ _ _ h => h) (Or.inl ⟨by rfl, fun w0 _ => by kernel_rfl⟩) trivial (fun _ => hS1) ?_
    (try simp only [Act.put, List.getElem_toArray, List.getElem_cons_zero, List.getElem_cons_succ, List.setIfInBounds_toArray, List.set_cons_zero, List.set_cons_succ])
    refine anyC_take (i := 5) (v := .pointer (some ⟨g, j * 6, none⟩)) rfl rfl (by decide) (by kernel_rfl) (by kernel_rfl) (by kernel_rfl) (fun _ _ _ h => h) (Or.inl ⟨by rfl, fun w0 _ => by go_simp; (try with_reducible rfl); (try (intro h9; exact absurd h9 (by omega)))⟩) trivial (fun _ => hS1) ?_
    refine anyC_take (i := 8) (v := .pointer (some ⟨g, 0, none⟩)) rfl rfl (by decide) (by kernel_rfl) (by kernel_rfl) (by kernel_rfl) (fun _ _ _ h => h) (Or.inl ⟨by rfl, fun w0 _ => by go_simp; (try with_reducible rfl); (try (intro h9; exact absurd h9 (by omega)))⟩) trivial (fun _ => hS1) ?_
    (try simp only [Act.put, List.getElem_toArray, List.getElem_cons_zero, List.getElem_cons_succ, List.setIfInBounds_toArray, List.set_cons_zero, List.set_cons_succ])
    refine anyC_take1 (i := 6) (v := .agg #[.string s, .int .u64 (k0 : Int), .int .i64 f, .int .i64 t, .bool a, .slice q m d]) rfl rfl (by decide) (by kernel_rfl) (by kernel_rfl) (by kernel_rfl) (by kernel_rfl) (by kernel_rfl) (fun _ _ _ h => h) (Or.inl ⟨by rfl, fun w0 h9 => by obtain ⟨-, ⟨s0, s1, s2, s3, s4, s5⟩, -⟩ := h9; go_simp; (try with_reducible rfl)⟩) trivial hS1 ?_
    refine anyC_take1 (i := 9) (v := .agg #[.string s0, .int .u64 (k00 : Int), .int .i64 f0, .int .i64 t0, .bool a0, .slice q0 m0 d0]) rfl rfl (by decide) (by kernel_rfl) (by kernel_rfl) (by kernel_rfl) (by kernel_rfl) (by kernel_rfl) (fun _ _ _ h => h) (Or.inl ⟨by rfl, fun w0 h9 => by obtain ⟨-, -, ⟨s0, s1, s2, s3, s4, s5⟩⟩ := h9; go_simp; (try with_reducible rfl)⟩) trivial hS1 ?_
    (try simp only [Act.put, List.getElem_toArray, List.getElem_cons_zero, List.getElem_cons_succ, List.setIfInBounds_toArray, List.set_cons_zero, List.set_cons_succ])
    refine anyC_take (i := 10) (v := .pointer (some ⟨g, 0, none⟩)) rfl rfl (by decide) (by kernel_rfl) (by kernel_rfl) (by kernel_rfl) (fun _ _ _ h => h) (Or.inl ⟨by rfl, fun w0 _ => by go_simp; (try with_reducible rfl); (try (intro h9; exact absurd h9 (by omega)))⟩) trivial (fun _ => hS1) ?_
    (try simp only [Act.put, List.getElem_toArray, List.getElem_cons_zero, List.getElem_cons_succ, List.setIfInBounds_toArray, List.set_cons_zero, List.set_cons_succ])
    clear hS1
    obtain ⟨V0, hV0⟩ : ∃ V, V = w3.drew := ⟨_, rfl⟩
    rw [← hV0] at HBD ⊢
    clear hV0
    have HSA := hidden ((HS3.out.up (Nat.le_succ M)).below HBD.out)
    obtain ⟨cur, new, hc1, hc2, hc3, hc4⟩ := HSA.out.pat hk hw hW 0 (by omega) ⟨s, k0, f, t, a, q, m, d, gg⟩ HXV.out (Nat.le_succ_of_le HXL.out) (HXB.out.below HBD.out)
    have HSB := hidden hc4
    have HD5 := hidden ((HD0.out.below HBD.out).grown (row_grown1 V0 g new) HSA.out.offB)
    refine anyC_one (i := 11) (by kernel_rfl) rfl (fun K' hK => ?_)
    refine fl_skip rfl (fl_store 37 _ _ rfl g 0 #[.string s, .int .u64 (k0 : Int), .int .i64 f, .int .i64 t, .bool a, .slice q m d] new (by kernel_rfl) (by kernel_rfl) 37 cur hc1 infoC6 (by simpa using hc2) (by kernel_rfl) (by simpa [KCt, Ct.cs] using hc3)) (hK.out _ _ trivial (fun h => nomatch (h.symm.trans (by kernel_rfl) : false = true)) ?_)
    clear hK K' hc1 hc2 hc3 hc4 HSA
    (try simp only [Act.put, List.getElem_toArray, List.getElem_cons_zero, List.getElem_cons_succ, List.setIfInBounds_toArray, List.set_cons_zero, List.set_cons_succ])
    generalize V0.setRow g new = V1 at *
    refine anyC_take (i := 12) (v := .pointer (some ⟨g, j * 6, none⟩)) rfl rfl (by decide) (by kernel_rfl) (by kernel_rfl) (by kernel_rfl) (fun _ _ _ h => h) (Or.inl ⟨by rfl, fun w0 _ => by go_simp; (try with_reducible rfl); (try (intro h9; exact absurd h9 (by omega)))⟩) trivial (fun h => nomatch (h.symm.trans (by kernel_rfl) : false = true)) ?_
    (try simp only [Act.put, List.getElem_toArray, List.getElem_cons_zero, List.getElem_cons_succ, List.setIfInBounds_toArray, List.set_cons_zero, List.set_cons_succ])
    obtain ⟨cur2, new2, hc1, hc2, hc3, hc4⟩ := HSB.out.pat hk hw hW j hjn ⟨s0, k00, f0, t0, a0, q0, m0, d0, gg0⟩ HV0.out (Nat.le_succ_of_le HL0.out) HD5.out
    have HSE := hidden hc4
    refine anyC_one (i := 13) (by kernel_rfl) rfl (fun K' hK => ?_)
    refine fl_skip rfl (fl_store 37 _ _ rfl g (j * 6) #[.string s0, .int .u64 (k00 : Int), .int .i64 f0, .int .i64 t0, .bool a0, .slice q0 m0 d0] new2 (by kernel_rfl) (by kernel_rfl) 37 cur2 hc1 infoC6 hc2 (by kernel_rfl) hc3) (hK.out _ _ trivial (fun h => nomatch (h.symm.trans (by kernel_rfl) : false = true)) ?_)
    clear hK K' hc1 hc2 hc3 hc4 HSB HD5
    (try simp only [Act.put, List.getElem_toArray, List.getElem_cons_zero, List.getElem_cons_succ, List.setIfInBounds_toArray, List.set_cons_zero, List.set_cons_succ])
    refine anyC_done (by kernel_rfl) ?_ _
    generalize V1.setRow g new2 = V2 at *
    go_wp2
    go_ret
    exact ⟨g, n, c', _, rfl, hn1, hn7, HSE.out⟩
  · have HSI := hidden (HS3.out.up (Nat.le_succ M))
    clear HS3 HXV HXL HXB HXX
    go_wp2
    go_loopw [1] (fun v wr => ∃ (g n' c' : Nat) (L : List Ct), v = .slice (some ⟨g, 0, none⟩) n' c' ∧ n ≤ n' ∧ n' ≤ 7 ∧ SpI W w wr k g n' c' B0 (M + 1) L) (fun v _ => 7 - (match v with | .slice _ N _ => N | _ => 0))
    case atStart => exact ⟨g, n, c', L, rfl, Nat.le_refl _, hn7, HSI.out⟩
    case round =>
      clear HSI
      obtain ⟨g, n', c', L, rfl, hnn, hn77, hI⟩ := hrel
      have HI := hidden hI
      clear hI
      by_cases h6 : n' ≤ 6
      rotate_left
      · have h6i : ¬ (n' : Int) ≤ 6 := by omega
        go_wp2
        go_ret
        exact ⟨g, n', c', L, rfl, by omega, hn77, HI.out⟩
      have h6i : (n' : Int) ≤ 6 := by omega
      have hjI : (j : Int) < (n' : Int) := by omega
      have hjI0 : (0 : Int) ≤ (j : Int) := by omega
      obtain ⟨c0, c1, c2, c3, c4, c5⟩ := (HI.out.cells j (by omega)).1
      have hx := HI.out.mem j (by omega)
      have HXV := hidden (HI.out.val _ hx)
      have HXL := hidden (HI.out.ln _ hx)
      have HXB := hidden (HI.out.bod _ hx)
      generalize L.getD j zc = x at *
      obtain ⟨s, k0, f, t, a, q, m, d, gg⟩ := x
      simp only at c0 c1 c2 c3 c4 c5
      have hal : Below wr.heap.size wr (wr.alloc (.cells #[.string s, .int .u64 (k0 : Int), .int .i64 f, .int .i64 t, .bool a, .slice q m d] 37)) := (Below.refl _ _).alloc (Nat.le_refl _) _
      have HIA := hidden (HI.out.below hal)
      have HXA := hidden (HXB.out.below hal)
      have hwl := HI.out.gr.size
      have hln := HI.out.len
      clear hal hx
      go_wp2_with (first
        | (at_builtin; go_loud (refine wpList_append_g knownCt (by simp [NTc, KCt]) _ rfl _ _ rfl w.heap.size _ L rfl (HI.out.row.alloc _) _ 1 1 [⟨s, k0, f, t, a, q, m, d, gg⟩] rfl (srcCt wr ⟨s, k0, f, t, a, q, m, d, gg⟩ _) (fun x hx => trivial) ?b1 ?b2 ?b3 ?_))
        | fail)
      case b1 => unfold maxLen; omega
      case b2 => omega
      case b3 => (first | omega | (simp; omega))
      intro v6 w6 hrow6 hg6
      obtain ⟨g6, c6, rfl, -⟩ := hrow6.at_ (n := n' + 1) (by rw [List.length_append, hln]; rfl) (by omega)
      have hk6 : ∀ r, (Value.slice (some ⟨g, 0, none⟩) n' c').ownBlock = some r → w.heap.size ≤ r := fun r hr => (HIA.out.row.lt r hr).1
      have HI6 : Hid (SpI W w w6 k g6 (n' + 1) c6 B0 (M + 1) (L ++ [⟨s, k0, f, t, a, q, m, d, gg⟩])) := hidden ⟨HIA.out.cod.grown hg6 (fun e => by have := hk6 k e.symm; omega) (fun r hr => by have := hk6 r hr; omega), grown_own HIA.out.gr hg6 hk6, hrow6, by rw [List.length_append, hln]; rfl,
        fun x hx => (by
          rcases List.mem_append.1 hx with h1 | h1
          · exact (HIA.out.bod x h1).grown hg6 HIA.out.offB
          · rw [List.mem_singleton.1 h1]; exact HXA.out.grown hg6 HIA.out.offB),
        fun x hx => (by
          rcases List.mem_append.1 hx with h1 | h1
          · exact HIA.out.val x h1
          · rw [List.mem_singleton.1 h1]; exact HXV.out),
        fun x hx => (by
          rcases List.mem_append.1 hx with h1 | h1
          · exact HIA.out.ln x h1
          · rw [List.mem_singleton.1 h1]; exact HXL.out)⟩
      clear hrow6 hg6 hk6 HI HIA HXA HXV HXL HXB c0 c1 c2 c3 c4 c5
      go_wp2
      go_roundw
      case rel => exact ⟨g6, n' + 1, c6, _, rfl, by omega, by omega, HI6.out⟩
      case measure => simp <;> omega
end Go.Proofs.YtkniifopfgeopaaDoor
