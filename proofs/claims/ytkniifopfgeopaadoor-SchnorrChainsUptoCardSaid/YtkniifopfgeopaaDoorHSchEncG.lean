/-
  schnorr.Encode of any certificates.
-/
import Derived.Test.YtkniifopfgeopaaDoorHSchWalkG
namespace Go.Proofs.YtkniifopfgeopaaDoor
open Go.RowKit
set_option linter.unusedVariables false

/-- The first error of Encode. -/
def encF : List Ct → Int
  | [] => 0
  | x :: t => if bodyE x = 0 then (if x.g.length = 16 then encF t else 2) else bodyE x
/-- What Encode returns: F is the first error. -/
def EncG (F : Int) (L : List Ct) (w : World) (e : Ending) (w' : World) : Prop :=
  ∃ p n c, e = .returned (.tuple #[.slice p n c, .int .i64 F]) ∧ Byt w' p n c (if F = 0 then encL L else []) ∧ Below w.heap.size w w'
theorem encG_no {F E : Int} {L : List Ct} {w w' : World} (h : F = E) (h0 : E ≠ 0) (hb : Below w.heap.size w w') : EncG F L w (.returned (.tuple #[.slice none 0 0, .int .i64 E])) w' := by
  subst h
  exact ⟨none, 0, 0, rfl, by rw [if_neg h0]; exact Byt.nil _ _ _ (Nat.zero_le _), hb⟩
theorem encG_yes {F : Int} {L : List Ct} {w w' : World} {p : Option Addr} {n c : Nat} (h : F = 0) (hy : Byt w' p n c (encL L)) (hb : Below w.heap.size w w') : EncG F L w (.returned (.tuple #[.slice p n c, .int .i64 0])) w' := by
  subst h
  exact ⟨p, n, c, rfl, by rw [if_pos rfl]; exact hy, hb⟩
/-- What one round of Encode tells of the whole. -/
structure EnE (F E1 : Int) (gl : Nat) (nxt : Int) : Prop where
  e1 : E1 ≠ 0 → F = E1
  e2 : E1 = 0 → gl ≠ 16 → F = 2
  en : E1 = 0 → gl = 16 → F = nxt
theorem enE_of (L : List Ct) (F : Int) (j : Nat) (hj : j < L.length) (h : F = encF (L.drop j)) : EnE F (bodyE (L.getD j zc)) (L.getD j zc).g.length (encF (L.drop (j + 1))) := by
  have hdr : L.drop j = L.getD j zc :: L.drop (j + 1) := by
    rw [← List.getElem_cons_drop hj]
    congr 1
    rw [List.getD_eq_getElem?_getD, List.getElem?_eq_getElem hj]
    rfl
  rw [hdr] at h
  unfold encF at h
  refine ⟨fun h1 => ?_, fun h1 h2 => ?_, fun h1 h2 => ?_⟩
  · rw [if_neg h1] at h; exact h
  · rw [if_pos h1, if_neg h2] at h; exact h
  · rw [if_pos h1, if_pos h2] at h; exact h

set_option maxHeartbeats 3200000 in
set_option maxRecDepth 100000 in
theorem enc_gen (L : List Ct) (g n c : Nat) (hn6 : n ≤ 6) (hL : ∀ x ∈ L, CtV x) (w : World) (hr : RdG KCt DCt w (some ⟨g, 0, none⟩) n c L) :
    Calls Tryd.prog 13 #[.slice (some ⟨g, 0, none⟩) n c] w (EncG (encF L) L w) := by
  have hl := hr.len
  have hcp := hr.cap
  have HLL := hidden hL
  have HRR := hidden hr
  obtain ⟨F, hF⟩ : ∃ F, encF L = F := ⟨_, rfl⟩
  rw [hF]
  have HF : Is F (encF (L.drop 0)) := ⟨by rw [List.drop_zero]; exact hF.symm⟩
  clear hr hL hF
  have h6 : ¬ (6 : Int) < (n : Int) := by omega
  go_enter Tryd.func13, Tryd.ntmps13
  go_wp2
  go_loopw [4, 14] (fun s i wr => ∃ (j : Nat) (p : Option Addr) (m c : Nat), j ≤ n ∧ m ≤ 50 * j ∧ Is F (encF (L.drop j)) ∧ i = .int .i64 (j : Int) ∧ s = .slice p m c ∧ Byt wr p m c (encL (L.take j)) ∧ Below w.heap.size w wr) (fun _ i _ => n - (intOf i).toNat)
  case atStart => exact ⟨0, none, 0, 0, by omega, by omega, HF, rfl, rfl, Byt.nil _ _ _ (Nat.zero_le _), Below.refl _ _⟩
  case round =>
    clear HF
    obtain ⟨j, p, m, c, hj, hm, HJ, rfl, rfl, hy, hbw⟩ := hrel
    by_cases hjn : j < n
    · have HY := hidden hy
      have HBW := hidden hbw
      have hat := rd_at (HRR.out.below hbw) j (by omega)
      have hmem : L.getD j zc ∈ L := by
        rw [List.getD_eq_getElem?_getD, List.getElem?_eq_getElem (show j < L.length by omega)]
        exact List.getElem_mem _
      have hG := HLL.out _ hmem
      have hby := (show Byt w _ _ _ _ from HRR.out.ok _ hmem).below hbw
      have HE := hidden (enE_of L F j (by omega) HJ.eq)
      have HTK := Is.mk (encL_take L j (by omega))
      have hgl2 := World.block_lt_of_cell? wr _ hat.c0
      have HBO := hidden (fun W => bodyS_any _ hG W)
      unfold BdG at HBO
      have HNL : Hid (bodyE (L.getD j zc) = 0 → (L.getD j zc).s.size ≤ 16 ∧ NameOk (L.getD j zc).s) := hidden (fun h9 => ⟨(bodyE_ok hG h9).nm.le, (bodyE_ok hG h9).nm⟩)
      have HBL := Is.mk (bdL_len (L.getD j zc))
      have HBY := hidden hby
      have HRG := hidden (fun h9 => bdL_rng (L.getD j zc) h9)
      generalize bodyE (L.getD j zc) = E1 at *
      generalize hE2 : encF (L.drop (j + 1)) = E2 at *
      have HE2 := Is.mk hE2
      clear hE2
      generalize bdL (L.getD j zc) = BL at *
      generalize L.getD j zc = x at *
      obtain ⟨s, k, f, t, a, q, md, d, gg⟩ := x
      obtain ⟨c0, c1, c2, c3, c4, c5⟩ := hat
      simp only at *
      rw [hby.len] at HE
      generalize hR1 : encL (L.take (j + 1)) = R1 at *
      have HR9 := Is.mk hR1
      clear hR1
      generalize encL (L.take j) = R0 at *
      have hj1 : (j : Int) < (n : Int) := by omega
      clear hy hbw hmem hG hby HJ
      go_upto_region 7 with fail
      have hr1 : ((wr.alloc (.cells #[.string s, .int .u64 (k : Int), .int .i64 f, .int .i64 t, .bool a, .slice q md d] 37))).heap[wr.heap.size]? = some (.cells #[.string s, .int .u64 (k : Int), .int .i64 f, .int .i64 t, .bool a, .slice q md d] 37 (0, 0)) := heap_alloc_new wr _
      have HB1 : Hid (Below wr.heap.size wr ((wr.alloc (.cells #[.string s, .int .u64 (k : Int), .int .i64 f, .int .i64 t, .bool a, .slice q md d] 37)))) := hidden (((Below.refl wr.heap.size wr).alloc (Nat.le_refl _) _))
      generalize (World.alloc wr _) = w1 at *
      have HR1 := hidden hr1
      clear c0 c1 c2 c3 c4 c5
      go_upto_region 8 with (first
        | (refine wpList_load_row rfl 37 _ rfl wr.heap.size rfl 37 _ (0, 0) _ hr1 Tryd.underlying37 rfl infoC6 ?_)
        | (go_at_call 22; (with_reducible refine (HBO.out _).mono ?_); rintro e w2 ⟨p2, n2, c2, rfl, hy2, hb2⟩; have HB2 := hidden hb2; have HY2 := hidden hy2; clear hy2 hb2)
        | fail)
      have HB3 := hidden (HB1.out.trans (HB2.out.mono HB1.out.size))
      have hr2 : w2.heap[wr.heap.size]? = some (.cells #[.string s, .int .u64 (k : Int), .int .i64 f, .int .i64 t, .bool a, .slice q md d] 37 (0, 0)) := by rw [HB2.out.block _ (Array.getElem?_eq_some_iff.1 HR1.out).1]; exact HR1.out
      have hd5 : w2.cell? ⟨wr.heap.size, 5, none⟩ = some (.slice q md d) := by rw [cell_of_row w2 wr.heap.size _ _ _ _ hr2]; rfl
      have HB4 := hidden (HBW.out.trans (HB3.out.mono HBW.out.size))
      clear hr1 hr2 HR1 HBO HB1 HB2
      by_cases he1 : E1 = 0
      rotate_left
      · have HFv := hidden (HE.out.e1 he1)
        clear HE hd5
        go_wp2
        go_ret2
        exact encG_no HFv.out he1 HB4.out
      subst he1
      by_cases hmd : md = 16
      rotate_left
      · have HFv := hidden (HE.out.e2 rfl hmd)
        have hmi : ¬ (md : Int) = 16 := by omega
        clear HE
        go_wp2
        go_ret2
        exact encG_no HFv.out (by decide) HB4.out
      subst hmd
      have HN := Is.mk (HE.out.en rfl rfl)
      have hy2 := HY2.out
      rw [if_pos rfl] at hy2
      have hn2 := hy2.len
      rw [HBL.eq] at hn2
      subst hn2
      have hsl := (HNL.out rfl).1
      have HRG2 := hidden (HRG.out (HNL.out rfl).2)
      clear HE HY2
      have HY2 := hidden hy2
      clear hy2
      have HY3 := hidden (HY.out.below HB3.out)
      have HG3 := hidden (HBY.out.below HB3.out)
      have HCT := hidden (cat3_any w2 p p2 q m (s.size + 18) 16 c c2 d R0 BL gg HY3.out HY2.out HG3.out (by omega))
      have HXR := hidden (rng_append HY3.out.rng (rng_append HRG2.out HG3.out.rng))
      have HXL : Is (R0 ++ (BL ++ gg)).length (m + (s.size + 18 + 16)) := ⟨by rw [List.length_append, List.length_append, HBL.eq, HY3.out.len, HG3.out.len]⟩
      go_wp2_with (first
        | (go_at_call 35; (with_reducible refine (HCT.out).mono ?_); rintro e w4 ⟨v4, rfl, ho4, hb4⟩; obtain ⟨p4, c4, rfl, hy4⟩ := ho4.bytN rfl HXL.eq HXR.out; rw [← HTK.eq] at hy4; have HB5 := hidden (HB4.out.trans (hb4.mono HB4.out.size)); have HY4 := hidden hy4; clear ho4 hb4 hy4 HCT)
        | fail)
      go_roundw
      case rel => exact ⟨j + 1, p4, _, c4, by omega, by omega, ⟨by rw [HE2.eq]; exact HN.eq⟩, by go_num, rfl, by rw [HR9.eq]; exact HY4.out, HB5.out⟩
      case measure => simp [intOf] <;> omega
    · obtain rfl : j = n := by omega
      have hfv := HJ.eq
      rw [← hl, List.take_length] at hy
      rw [List.drop_of_length_le (by omega)] at hfv
      have HFv := hidden hfv
      have hj1 : ¬ (j : Int) < (j : Int) := by omega
      clear HLL HRR HJ hfv
      go_wp2
      go_ret2
      exact encG_yes HFv.out hy hbw
end Go.Proofs.YtkniifopfgeopaaDoor
