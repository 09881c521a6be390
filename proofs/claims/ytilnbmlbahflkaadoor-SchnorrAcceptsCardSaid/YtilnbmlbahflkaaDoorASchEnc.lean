/-
  schnorr.Encode of certificates that are valid.
-/
import Derived.Test.YtilnbmlbahflkaaDoorASchChain
namespace Go.Proofs.YtilnbmlbahflkaaDoor
open Go.RowKit
set_option linter.unusedVariables false

def encL (L : List Ct) : List Int := L.flatMap fun x => bdL x ++ x.g
theorem encL_take (L : List Ct) (j : Nat) (hj : j < L.length) : encL (L.take (j + 1)) = encL (L.take j) ++ (bdL (L.getD j zc) ++ (L.getD j zc).g) := by
  unfold encL
  rw [List.take_add_one, List.flatMap_append, List.getElem?_eq_getElem hj, List.getD_eq_getElem?_getD, List.getElem?_eq_getElem hj]
  simp
theorem encL_len (L : List Ct) (hL : ∀ x ∈ L, CtG x) : (encL L).length ≤ 50 * L.length := by
  induction L with
  | nil => simp [encL]
  | cons x t ih =>
    have h1 := ih (fun y hy => hL y (List.mem_cons_of_mem _ hy))
    have h2 := hL x (by simp)
    have h3 := h2.ok.nm.le
    have h4 := h2.gl
    unfold encL at h1 ⊢
    rw [List.flatMap_cons, List.length_append, List.length_append, bdL_len, List.length_cons]
    omega
set_option maxHeartbeats 3200000 in
set_option maxRecDepth 100000 in
theorem enc_ok (L : List Ct) (g n : Nat) (hl : L.length = n) (hn6 : n ≤ 6) (hL : ∀ x ∈ L, CtG x) (w : World) (hr : RwE w g L) (hb : ∀ x ∈ L, Byt w x.p x.n x.c x.g) :
    Calls Tryd.prog 22 #[.slice (some ⟨g, 0, none⟩) n n] w (BdTo (encL L) w) := by
  have HLL := hidden hL
  have HRR := hidden hr
  have HBB := hidden hb
  have hgl := hr.lt
  clear hr hb hL
  have h6 : ¬ (6 : Int) < (n : Int) := by omega
  go_enter Tryd.func22, Tryd.ntmps22
  go_wp2
  go_loopw [4, 14] (fun s i wr => ∃ (j : Nat) (p : Option Addr) (m c : Nat), j ≤ n ∧ i = .int .i64 (j : Int) ∧ s = .slice p m c ∧ Byt wr p m c (encL (L.take j)) ∧ Below w.heap.size w wr) (fun _ i _ => n - (intOf i).toNat)
  case atStart => exact ⟨0, none, 0, 0, by omega, rfl, rfl, Byt.nil _ _ _ (Nat.zero_le _), Below.refl _ _⟩
  case round =>
    obtain ⟨j, p, m, c, hj, rfl, rfl, hy, hbw⟩ := hrel
    by_cases hjn : j < n
    · have HY := hidden hy
      have HBW := hidden hbw
      have hm : m ≤ 300 := by
        have h1 := hy.len
        have h2 := encL_len (L.take j) (fun x hx => HLL.out x (List.mem_of_mem_take hx))
        rw [List.length_take, h1] at h2
        omega
      have hat := (HRR.out.below hbw).at_ j (by omega)
      have hmem : L.getD j zc ∈ L := by
        rw [List.getD_eq_getElem?_getD, List.getElem?_eq_getElem (show j < L.length by omega)]
        exact List.getElem_mem _
      have hG := HLL.out _ hmem
      have hby := (HBB.out _ hmem).below hbw
      have HTK := Is.mk (encL_take L j (by omega))
      have hgl2 : g < wr.heap.size := Nat.lt_of_lt_of_le hgl hbw.size
      have hgg := hG.gl
      have hok := hG.ok
      have hnl := hok.nm.le
      have HBO := hidden (fun W => bodyS_ok _ hok W)
      have HBL := Is.mk (bdL_len (L.getD j zc))
      have HBY := hidden hby
      have HRG := hidden (bdL_rng _ hok.nm)
      generalize bdL (L.getD j zc) = BL at *
      generalize L.getD j zc = x at *
      obtain ⟨s, k, f, t, a, q, md, d, gg⟩ := x
      obtain ⟨c0, c1, c2, c3, c4, c5⟩ := hat
      simp only at *
      obtain rfl : md = 16 := by rw [← hby.len]; exact hgg
      generalize hR1 : encL (L.take (j + 1)) = R1 at *
      have HR9 := Is.mk hR1
      clear hR1
      generalize encL (L.take j) = R0 at *
      have hj1 : (j : Int) < (n : Int) := by omega
      clear hy hbw hmem hG hby hok
      go_upto_region 7 with fail
      have hr1 : ((wr.alloc (.cells #[.string s, .int .u64 (k : Int), .int .i64 f, .int .i64 t, .bool a, .slice q 16 d] 47))).heap[wr.heap.size]? = some (.cells #[.string s, .int .u64 (k : Int), .int .i64 f, .int .i64 t, .bool a, .slice q 16 d] 47 (0, 0)) := heap_alloc_new wr _
      have HB1 : Hid (Below wr.heap.size wr ((wr.alloc (.cells #[.string s, .int .u64 (k : Int), .int .i64 f, .int .i64 t, .bool a, .slice q 16 d] 47)))) := hidden (((Below.refl wr.heap.size wr).alloc (Nat.le_refl _) _))
      generalize (World.alloc wr _) = w1 at *
      have HR1 := hidden hr1
      clear c0 c1 c2 c3 c4 c5
      go_upto_region 8 with (first
        | (refine wpList_load_row rfl 47 _ rfl wr.heap.size rfl 47 _ (0, 0) _ hr1 Tryd.underlying47 rfl infoC6 ?_)
        | (go_at_call 29; (with_reducible refine (HBO.out _).mono ?_); rintro e w2 ⟨p2, n2, c2, rfl, hy2, hb2⟩; have hn2 := hy2.len; rw [HBL.eq] at hn2; subst hn2; have HB2 := hidden hb2; have HY2 := hidden hy2; clear hy2 hb2)
        | fail)
      have HB3 := hidden (HB1.out.trans (HB2.out.mono HB1.out.size))
      have hr2 : w2.heap[wr.heap.size]? = some (.cells #[.string s, .int .u64 (k : Int), .int .i64 f, .int .i64 t, .bool a, .slice q 16 d] 47 (0, 0)) := by rw [HB2.out.block _ (Array.getElem?_eq_some_iff.1 HR1.out).1]; exact HR1.out
      have hd5 : w2.cell? ⟨wr.heap.size, 5, none⟩ = some (.slice q 16 d) := by rw [cell_of_row w2 wr.heap.size _ _ _ _ hr2]; rfl
      have HY3 := hidden (HY.out.below HB3.out)
      have HG3 := hidden (HBY.out.below HB3.out)
      have HCT := hidden (cat3_any w2 p p2 q m (s.size + 18) 16 c c2 d R0 BL gg HY3.out HY2.out HG3.out (by omega))
      have HXR := hidden (rng_append HY3.out.rng (rng_append HRG.out HG3.out.rng))
      have HXL : Is (R0 ++ (BL ++ gg)).length (m + (s.size + 18 + 16)) := ⟨by rw [List.length_append, List.length_append, HBL.eq, HY3.out.len, HG3.out.len]⟩
      clear hr1 hr2 HR1 HBO HB1 HB2
      go_wp2_with (first
        | (go_at_call 57; (with_reducible refine (HCT.out).mono ?_); rintro e w4 ⟨v4, rfl, ho4, hb4⟩; obtain ⟨p4, c4, rfl, hy4⟩ := ho4.bytN rfl HXL.eq HXR.out; rw [← HTK.eq] at hy4; have HB4 := hidden ((HBW.out.trans (HB3.out.mono HBW.out.size)).trans (hb4.mono (HBW.out.trans (HB3.out.mono HBW.out.size)).size)); have HY4 := hidden hy4; clear ho4 hb4 hy4 HCT)
        | fail)
      go_roundw
      case rel => exact ⟨j + 1, p4, _, c4, by omega, by go_num, rfl, by rw [HR9.eq]; exact HY4.out, HB4.out⟩
      case measure => simp [intOf] <;> omega
    · obtain rfl : j = n := by omega
      rw [← hl, List.take_length] at hy
      have hj1 : ¬ (j : Int) < (j : Int) := by omega
      clear HLL HRR HBB
      go_wp2
      go_ret2
      exact ⟨p, m, c, rfl, hy, hbw⟩
end Go.Proofs.YtilnbmlbahflkaaDoor
