/-
  The document's Encode: where its bytes lie.
-/
import Derived.Test.YtkniifopfgeopaaDoorHSchAll
namespace Go.Proofs.YtkniifopfgeopaaDoor
open Go.RowKit
set_option linter.unusedVariables false

def EncB (F : Int) (L : List Ct) (w : World) (e : Ending) (w' : World) : Prop :=
  ∃ p n c, e = .returned (.tuple #[.slice p n c, .int .i64 F]) ∧ Bod w' w.heap.size p n c (if F = 0 then encL L else []) ∧ Below w.heap.size w w'
theorem encB_no {F E : Int} {L : List Ct} {w w' : World} (h : F = E) (h0 : E ≠ 0) (hb : Below w.heap.size w w') : EncB F L w (.returned (.tuple #[.slice none 0 0, .int .i64 E])) w' := by
  subst h
  exact ⟨none, 0, 0, rfl, by rw [if_neg h0]; exact Bod.nil _ _ _ _ (Nat.zero_le _), hb⟩
theorem encB_yes {F : Int} {L : List Ct} {w w' : World} {p : Option Addr} {n c : Nat} (h : F = 0) (hy : Bod w' w.heap.size p n c (encL L)) (hb : Below w.heap.size w w') : EncB F L w (.returned (.tuple #[.slice p n c, .int .i64 0])) w' := by
  subst h
  exact ⟨p, n, c, rfl, by rw [if_pos rfl]; exact hy, hb⟩

set_option maxHeartbeats 3200000 in
set_option maxRecDepth 100000 in
theorem renc_bod (L : List Ct) (g n cg : Nat) (hn6 : n ≤ 6) (hL : ∀ x ∈ L, CtV x) (w : World) (hr : RdG KCt DCt w (some ⟨g, 0, none⟩) n cg L) :
    Calls Tryd.prog 14 #[.slice (some ⟨g, 0, none⟩) n cg] w (EncB (encF L) L w) := by
  have hl := hr.len
  have hcp := hr.cap
  have HLL := hidden hL
  have HRR := hidden hr
  obtain ⟨F, hF⟩ : ∃ F, encF L = F := ⟨_, rfl⟩
  rw [hF]
  have HF : Is F (encF (L.drop 0)) := ⟨by rw [List.drop_zero]; exact hF.symm⟩
  clear hr hL hF
  have h6 : ¬ (6 : Int) < (n : Int) := by omega
  go_enter Tryd.func14, Tryd.ntmps14
  go_wp2
  go_loopw [4, 5] (fun s i wr => ∃ (j : Nat) (p : Option Addr) (m c : Nat), j ≤ n ∧ m ≤ 50 * j ∧ Is F (encF (L.drop j)) ∧ i = .int .i64 (j : Int) ∧ s = .slice p m c ∧ Own wr w.heap.size 5 (.slice p m c) (encL (L.take j)) ∧ (encL (L.take j)).length = m ∧ Hid (∀ y ∈ encL (L.take j), 0 ≤ y ∧ y ≤ 255) ∧ Below w.heap.size w wr) (fun _ i _ => n - (intOf i).toNat)
  case atStart => exact ⟨0, none, 0, 0, by omega, by omega, HF, rfl, rfl, Own.nil _ _ _, rfl, hidden (fun y hy => by cases hy), Below.refl _ _⟩
  case round =>
    clear HF
    obtain ⟨j, p, m, c, hj, hm, HJ, rfl, rfl, hy, hlm, HRR0, hbw⟩ := hrel
    by_cases hjn : j < n
    · have HY := hidden hy
      have HBW := hidden hbw
      have hat := rd_at (HRR.out.below hbw) j (by omega)
      have hmem : L.getD j zc ∈ L := by
        rw [List.getD_eq_getElem?_getD, List.getElem?_eq_getElem (show j < L.length by omega)]
        exact List.getElem_mem _
      have hG := HLL.out _ hmem
      have hb0 : Byt w _ _ _ _ := HRR.out.ok _ hmem
      have hby := hb0.below hbw
      have HBE := hidden (fun W (hW : Below w.heap.size w W) => hb0.below hW)
      have HE := hidden (enE_of L F j (by omega) HJ.eq)
      have HTK := Is.mk (encL_take L j (by omega))
      have hgl2 := World.block_lt_of_cell? wr _ hat.c0
      have hgw := World.block_lt_of_cell? w _ (rd_at HRR.out j (by omega)).c0
      have HCA := hidden (fun W (hW : Below wr.heap.size wr W) => hat.below hW)
      have HCW := hidden (fun W (hW : Below w.heap.size w W) => (rd_at (HRR.out.below hW) j (by omega)).c5)
      have HBO := hidden (fun W => rbodyS_any _ hG W)
      unfold BdG at HBO
      have HNL : Hid (bodyE (L.getD j zc) = 0 → (L.getD j zc).s.size ≤ 16 ∧ NameOk (L.getD j zc).s) := hidden (fun h9 => ⟨(bodyE_ok hG h9).nm.le, (bodyE_ok hG h9).nm⟩)
      have HBL := Is.mk (bdL_len (L.getD j zc))
      have HBY := hidden hby
      have HRG := hidden (fun h9 => bdL_rng (L.getD j zc) h9)
      generalize bodyE (L.getD j zc) = E1 at *
      generalize hE2 : encF (L.drop (j + 1)) = E2 at *
      have HE2 := Is.mk hE2
      clear hE2
      generalize bdL (L.getD j zc) = BL at *
      generalize L.getD j zc = x at *
      obtain ⟨s, k, f, t, a, q, md, d, gg⟩ := x
      obtain ⟨c0, c1, c2, c3, c4, c5⟩ := hat
      simp only at *
      rw [hby.len] at HE
      generalize hR1 : encL (L.take (j + 1)) = R1 at *
      have HR9 := Is.mk hR1
      clear hR1
      generalize encL (L.take j) = R0 at *
      have hj1 : (j : Int) < (n : Int) := by omega
      clear hy hbw hmem hG hby HJ
      go_upto_region 8 with (first
        | (go_at_call 23; (with_reducible refine (HBO.out _).mono ?_); rintro e w2 ⟨p2, n2, c2, rfl, hy2, hb2⟩; have HB2 := hidden hb2; have HY2 := hidden hy2; clear hy2 hb2)
        | fail)
      have HB4 := hidden (HBW.out.trans (HB2.out.mono HBW.out.size))
      obtain ⟨c0, c1, c2', c3, c4, c5⟩ := HCA.out w2 HB2.out
      clear HBO HCA
      by_cases he1 : E1 = 0
      rotate_left
      · have HFv := hidden (HE.out.e1 he1)
        clear HE
        go_wp2
        go_ret2
        exact encB_no HFv.out he1 HB4.out
      subst he1
      by_cases hmd : md = 16
      rotate_left
      · have HFv := hidden (HE.out.e2 rfl hmd)
        have hmi : ¬ (md : Int) = 16 := by omega
        clear HE
        go_wp2
        go_ret2
        exact encB_no HFv.out (by decide) HB4.out
      subst hmd
      have HN := Is.mk (HE.out.en rfl rfl)
      have hy2 := HY2.out
      rw [if_pos rfl] at hy2
      have hn2 := hy2.len
      rw [HBL.eq] at hn2
      subst hn2
      have hsl := (HNL.out rfl).1
      have HRG2 := hidden (HRG.out (HNL.out rfl).2)
      clear HE HY2
      have HY2 := hidden hy2
      clear hy2
      have HLM := Is.mk hlm
      have HO2 := hidden ((own_below HY.out HB2.out).drew)
      have HG3 := hidden (HBE.out w2 HB4.out)
      have HS5 := hidden (HCW.out w2 HB4.out)
      go_upto_region 12 with fail
      clear c0 c1 c2' c3 c4 c5
      have HBD : Hid (Below w2.heap.size w2 w2.drew) := hidden (drew_below ⟨1, rfl⟩)
      obtain ⟨i0, hi0, hz0, hz1, hz2⟩ := info_parts Tryd.infoByte
      refine region_C 8 (fun w' => w'.cell? ⟨g, j * 6 + 5, none⟩ = some (.slice q 16 d)) (fun _ => True) (by kernel_rfl) (cell_below HBD.out _ _ HS5.out) trivial (fun hS0 _ => ?_)
      refine anyC_take (i := 0) (v := .slice p m c) rfl rfl (by decide) (by kernel_rfl) (by kernel_rfl) (by kernel_rfl) (fun _ _ _ h => h) (Or.inl ⟨by rfl, fun w0 _ => by kernel_rfl⟩) hS0 (fun _ => trivial) ?_
      refine anyC_take (i := 1) (v := .slice p2 (s.size + 18) c2) rfl rfl (by decide) (by kernel_rfl) (by kernel_rfl) (by kernel_rfl) (fun _ _ _ h => h) (Or.inl ⟨by rfl, fun w0 _ => by kernel_rfl⟩) hS0 (fun _ => trivial) ?_
      refine anyC_take (i := 3) (v := .slice (some ⟨g, 0, none⟩) n cg) rfl rfl (by decide) (by kernel_rfl) (by kernel_rfl) (by kernel_rfl) (fun _ _ _ h => h) (Or.inl ⟨by rfl, fun w0 _ => by kernel_rfl⟩) hS0 (fun _ => trivial) ?_
      refine anyC_take (i := 4) (v := .int .i64 (j : Int)) rfl rfl (by decide) (by kernel_rfl) (by kernel_rfl) (by kernel_rfl) (fun _ _ _ h => h) (Or.inl ⟨by rfl, fun w0 _ => by kernel_rfl⟩) hS0 (fun _ => trivial) ?_
      (try simp only [Act.put, List.getElem_toArray, List.getElem_cons_zero, List.getElem_cons_succ, List.setIfInBounds_toArray, List.set_cons_zero, List.set_cons_succ])
      refine anyC_take (i := 5) (v := .pointer (some ⟨g, j * 6, none⟩)) rfl rfl (by decide) (by kernel_rfl) (by kernel_rfl) (by kernel_rfl) (fun _ _ _ h => h) (Or.inl ⟨by rfl, fun w0 hc5 => by go_simp; (try with_reducible rfl)⟩) hS0 (fun _ => trivial) ?_
      (try simp only [Act.put, List.getElem_toArray, List.getElem_cons_zero, List.getElem_cons_succ, List.setIfInBounds_toArray, List.set_cons_zero, List.set_cons_succ])
      refine anyC_take (i := 6) (v := .pointer (some ⟨g, j * 6 + 5, none⟩)) rfl rfl (by decide) (by kernel_rfl) (by kernel_rfl) (by kernel_rfl) (fun _ _ _ h => h) (Or.inl ⟨by rfl, fun w0 hc5 => by go_simp; (try with_reducible rfl)⟩) hS0 (fun _ => trivial) ?_
      (try simp only [Act.put, List.getElem_toArray, List.getElem_cons_zero, List.getElem_cons_succ, List.setIfInBounds_toArray, List.set_cons_zero, List.set_cons_succ])
      refine anyC_take (i := 7) (v := .slice q 16 d) rfl rfl (by decide) (by kernel_rfl) (by kernel_rfl) (by kernel_rfl) (fun _ _ _ h => h) (Or.inl ⟨by rfl, fun w0 hc5 => by go_simp; (try with_reducible rfl)⟩) hS0 (fun _ => trivial) ?_
      (try simp only [Act.put, List.getElem_toArray, List.getElem_cons_zero, List.getElem_cons_succ, List.setIfInBounds_toArray, List.set_cons_zero, List.set_cons_succ])
      clear hS0
      obtain ⟨V0, hV0⟩ : ∃ V, V = w2.drew := ⟨_, rfl⟩
      rw [← hV0] at HBD HO2 ⊢
      clear hV0
      have HY0 := hidden (HY2.out.below HBD.out)
      have HB5 := hidden (HB4.out.trans (HBD.out.mono HB4.out.size))
      refine anyC_one (i := 2) (by kernel_rfl) rfl (fun K' hK => ?_)
      refine step_append_byt V0 (by kernel_rfl) _ _ 22 (by rfl) w.heap.size 5 i0 (.int .u8 0) Tryd.underlying22 hi0 hz0 hz1 hz2 rfl _ _ (by rfl) HO2.out _ _ _ _ _ (by rfl) HY0.out (by rfl) (by rw [HLM.eq]; omega) HB5.out.size ?_
      intro v6 w6 ho6 hg6
      have HB6 := hidden (HB5.out.grown hg6 HB5.out.size (fun r hr => (HO2.out.lt r hr).1))
      have HO6 := hidden ho6
      refine hK.out _ _ (HCW.out w6 HB6.out) (fun _ => trivial) ?_
      clear hK K' ho6 hg6
      (try simp only [Act.put, List.getElem_toArray, List.getElem_cons_zero, List.getElem_cons_succ, List.setIfInBounds_toArray, List.set_cons_zero, List.set_cons_succ])
      have HG6 := hidden (HBE.out w6 HB6.out)
      have HL6 : Is (R0 ++ BL).length (m + (s.size + 18)) := ⟨by rw [List.length_append, HLM.eq, HBL.eq]⟩
      refine anyC_one (i := 8) (by kernel_rfl) rfl (fun K' hK => ?_)
      refine step_append_byt w6 (by kernel_rfl) _ _ 22 (by rfl) w.heap.size 5 i0 (.int .u8 0) Tryd.underlying22 hi0 hz0 hz1 hz2 rfl _ _ (by rfl) HO6.out _ _ _ _ _ (by rfl) HG6.out (by rfl) (by rw [HL6.eq]; omega) HB6.out.size ?_
      intro v7 w7 ho7 hg7
      have HB7 := hidden (HB6.out.grown hg7 HB6.out.size (fun r hr => (HO6.out.lt r hr).1))
      refine hK.out _ _ (HCW.out w7 HB7.out) (fun _ => trivial) ?_
      clear hK K' hg7
      rw [List.append_assoc, ← HTK.eq] at ho7
      have HL7 : Is R1.length (m + (s.size + 18) + 16) := ⟨by rw [HTK.eq, ← List.append_assoc, List.length_append, HL6.eq, HG6.out.len]⟩
      have HR7 : Hid (∀ y ∈ R1, 0 ≤ y ∧ y ≤ 255) := by
        rw [HTK.eq]
        exact hidden (rng_append HRR0.out (rng_append HRG2.out HG6.out.rng))
      obtain ⟨p7, c7, rfl⟩ := ho7.form
      rw [HL7.eq] at ho7 ⊢
      have HO7 := hidden ho7
      clear ho7
      (try simp only [Act.put, List.getElem_toArray, List.getElem_cons_zero, List.getElem_cons_succ, List.setIfInBounds_toArray, List.set_cons_zero, List.set_cons_succ])
      have hS7 := HCW.out w7 HB7.out
      refine anyC_take (i := 9) (v := .slice p7 (m + (s.size + 18) + 16) c7) rfl rfl (by decide) (by kernel_rfl) (by kernel_rfl) (by kernel_rfl) (fun _ _ _ h => h) (Or.inl ⟨by rfl, fun w0 _ => by kernel_rfl⟩) hS7 (fun _ => trivial) ?_
      clear hS7
      (try simp only [Act.put, List.getElem_toArray, List.getElem_cons_zero, List.getElem_cons_succ, List.setIfInBounds_toArray, List.set_cons_zero, List.set_cons_succ])
      refine anyC_done (by kernel_rfl) ?_ _
      go_wp2
      go_roundw
      case rel => exact ⟨j + 1, p7, _, c7, by omega, by omega, ⟨by rw [HE2.eq]; exact HN.eq⟩, by go_num, rfl, by rw [HR9.eq]; exact HO7.out, by rw [HR9.eq]; exact HL7.eq, by rw [HR9.eq]; exact HR7, HB7.out⟩
      case measure => simp [intOf] <;> omega
    · obtain rfl : j = n := by omega
      have hfv := HJ.eq
      have hrr := HRR0.out
      rw [← hl, List.take_length] at hy hlm hrr
      obtain ⟨q9, d9, hq9, hy9⟩ := hy.bod hlm hrr
      injection hq9 with e1 e2 e3
      subst e1 e3
      rw [List.drop_of_length_le (by omega)] at hfv
      have HFv := hidden hfv
      have hj1 : ¬ (j : Int) < (j : Int) := by omega
      clear HLL HRR HJ hfv
      go_wp2
      go_ret2
      exact encB_yes HFv.out hy9 hbw
theorem renc_allB (L : List Ct) (g n c : Nat) (hL : ∀ x ∈ L, CtV x) (w : World) (hr : RdG KCt DCt w (some ⟨g, 0, none⟩) n c L) :
    Calls Tryd.prog 14 #[.slice (some ⟨g, 0, none⟩) n c] w (EncB (eF L) L w) := by
  have hl := hr.len
  have hc := hr.le
  unfold eF
  by_cases h6 : n ≤ 6
  · rw [if_neg (by omega)]
    exact renc_bod L g n c h6 hL w hr
  · rw [if_pos (by omega)]
    refine Calls.mono (P := Tryd.prog) (R := fun e w' => e = .returned (.tuple #[.slice none 0 0, .int .i64 10]) ∧ w = w') ?_ (fun e w' h => by obtain ⟨rfl, rfl⟩ := h; exact encB_no rfl (by decide) (Below.refl _ _))
    have h7 : (6 : Int) < (n : Int) := by omega
    clear hr hL hl
    go_enter Tryd.func14, Tryd.ntmps14
    go_wp2
    go_ret2
    exact ⟨rfl, rfl⟩
end Go.Proofs.YtkniifopfgeopaaDoor
