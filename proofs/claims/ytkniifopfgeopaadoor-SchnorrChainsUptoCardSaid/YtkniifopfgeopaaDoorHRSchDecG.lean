/-
  The document's Decode of any bytes.
-/
import Derived.Test.YtkniifopfgeopaaDoorHSchDecG
namespace Go.Proofs.YtkniifopfgeopaaDoor
open Go.RowKit
set_option linter.unusedVariables false
set_option linter.unusedSimpArgs false

section
variable {P : Program} {ops : Array Oper} {Q : Exit → Act → World → Prop} {md : Region.Mode} {c : Nat} {S0 S1 : World → Prop}
/-- Two operations may come up. -/
theorem anyC_both {i j : Nat} {oi oj : Oper} {n : Nat} {l : Array Bool} {a : Act} {w : World} (hr : Region.ready md ops l = [i, j]) (hi : ops[i]? = some oi) (hj : ops[j]? = some oj)
    (h1 : ∀ K' : Act → World → Prop, Hid (∀ a w, S0 w → ((l.setIfInBounds i true).getD c true = false → S1 w) → anyC P md ops Q c S0 S1 n (l.setIfInBounds i true) a w → K' a w) →
      if Region.wanted oi (yielded ops a.tmps) = true then Oper.wp P oi a w K' Q else K' (a.put oi.dst undef) w)
    (h2 : ∀ K' : Act → World → Prop, Hid (∀ a w, S0 w → ((l.setIfInBounds j true).getD c true = false → S1 w) → anyC P md ops Q c S0 S1 n (l.setIfInBounds j true) a w → K' a w) →
      if Region.wanted oj (yielded ops a.tmps) = true then Oper.wp P oj a w K' Q else K' (a.put oj.dst undef) w) : anyC P md ops Q c S0 S1 (n + 1) l a w :=
  ⟨fun h0 => (by rw [hr] at h0; cases h0), fun k hk => (by
    rw [hr] at hk
    have e : k = i ∨ k = j := by simpa using hk
    rcases e with rfl | rfl
    · exact wpOp_step hi fun K' hK => h1 K' (hidden fun a w h0 h1 k => hK a w ⟨⟨h0, h1⟩, k⟩)
    · exact wpOp_step hj fun K' hK => h2 K' (hidden fun a w h0 h1 k => hK a w ⟨⟨h0, h1⟩, k⟩))⟩
end
theorem below_nil {w w' : World} (h : w.grownBy w' (Value.slice none 0 0).ownBlock) : Below w.heap.size w w' := ⟨h.os, h.tape, h.output, h.size, fun i hi => h.block i hi (by simp [Value.ownBlock])⟩
theorem getD_drop (X : List Int) (m a : Nat) : (X.drop m).getD a 0 = X.getD (m + a) 0 := by
  rw [List.getD_eq_getElem?_getD, List.getD_eq_getElem?_getD, List.getElem?_drop]
theorem part_drop (X : List Int) (m a b : Nat) : (X.take (m + a)).drop (m + b) = ((X.drop m).take a).drop b := by
  rw [List.take_drop, List.drop_drop]

set_option maxHeartbeats 6400000 in
set_option maxRecDepth 100000 in
theorem rdec_any (X : List Int) (p : Option Addr) (N c : Nat) (w : World) (hN : N ≤ 4000000) (hy : Byt w p N c X) :
    Calls Tryd.prog 18 #[.slice p N c] w (DecX (decL X.length X) w) := by
  have HY := hidden hy
  have hcap := hy.cap
  have HXL := Is.mk hy.len
  obtain ⟨T, hT⟩ : ∃ T, decL X.length X = T := ⟨_, rfl⟩
  rw [hT]
  have HT0 : Is T ((decL X.length (X.drop 0)).map ((([] : List Ct).map Ct.z) ++ ·)) := ⟨by rw [List.drop_zero, hT]; cases T <;> rfl⟩
  have HF0 : Hid ((X.drop 0).length ≤ X.length) := hidden (by simp)
  clear hT hy
  go_enter Tryd.func18, Tryd.ntmps18
  go_wp2
  go_loopw [4, 5] (fun u i wr => ∃ (m f : Nat) (ls : List Ct), m ≤ N ∧ i = .int .i64 (m : Int) ∧ Hid ((X.drop m).length ≤ f) ∧ Is T ((decL f (X.drop m)).map (ls.map Ct.z ++ ·)) ∧ RowG KCt NCt wr w.heap.size u ls ∧ ls.length ≤ m ∧ Below w.heap.size w wr) (fun _ i _ => N - (intOf i).toNat)
  case atStart => exact ⟨0, X.length, [], by omega, rfl, HF0, HT0, RowG.nil _ _ _ _, by simp, Below.refl _ _⟩
  case round =>
    clear HT0 HF0
    obtain ⟨m, f, ls, hm, rfl, HFL, HT, hrow, hlm, hb⟩ := hrel
    obtain ⟨j, hj⟩ : ∃ j, ls.length = j := ⟨_, rfl⟩
    obtain ⟨po, co, rfl⟩ := hrow.form hj
    have HRW := hidden hrow
    have HBB := hidden hb
    by_cases hmN : m < N
    rotate_left
    · obtain rfl : m = N := by omega
      have hTe := HT.eq
      rw [List.drop_of_length_le (by rw [HXL.eq]; exact Nat.le_refl _), decL_end] at hTe
      have HTE := Is.mk hTe
      have hln : (ls.map Ct.z).length = j := by rw [List.length_map]; exact hj
      have HLN := Is.mk hln
      have hm1 : ¬ (m : Int) < (m : Int) := by omega
      clear HT HFL hrow hb hTe hln hj HY HXL
      by_cases h6 : 6 < j
      · have h6i : (6 : Int) < (j : Int) := by omega
        go_wp2
        go_ret2
        exact ⟨Or.inr (Or.inl ⟨_, HTE.eq, by rw [HLN.eq]; exact h6, rfl⟩), HBB.out⟩
      · have h6i : ¬ (6 : Int) < (j : Int) := by omega
        go_wp2
        go_ret2
        exact ⟨Or.inr (Or.inr ⟨_, _, ls, HTE.eq, by rw [HLN.eq]; omega, rfl, HRW.out, rfl⟩), HBB.out⟩
    have hy := HY.out
    have hyw := hy.below hb
    obtain ⟨b, o, hp, hcell⟩ := hy.at_ (by omega)
    subst hp
    have hYl : (X.drop m).length = N - m := by rw [List.length_drop, HXL.eq]
    have hYe : X.drop m ≠ [] := fun h9 => by rw [h9] at hYl; simp at hYl; omega
    have hYr := rng_drop hy.rng m
    obtain ⟨S, hS⟩ : ∃ S, nmL (X.drop m) = S := ⟨_, rfl⟩
    have hc0r := rng_getD hYr 0
    have hSv : (X.drop m).getD 0 0 = (S : Int) := by rw [← hS]; unfold nmL; omega
    have hS255 : S ≤ 255 := by omega
    have hcX0 := cell_below hb _ _ (hcell m hmN)
    rw [show X.getD m 0 = (S : Int) by rw [← hSv, getD_drop, Nat.add_zero]] at hcX0
    have HNO := hidden (decL_no f (X.drop m) hYe HFL.out · (ls.map Ct.z))
    have HYE := hidden (decL_step f (X.drop m) hYe HFL.out · (ls.map Ct.z))
    have hm1 : (m : Int) < (N : Int) := by omega
    have hm0 : (0 : Int) ≤ (m : Int) := by omega
    by_cases hlen : N - m < 34 + S
    · have HTN := hidden (HT.eq.trans (HNO.out (okL_len (by rw [hYl]; unfold szL; rw [hS]; omega))))
      have hl1 : (N : Int) - (m : Int) < 1 + (S : Int) + 17 + 16 := by omega
      clear HNO HYE HT HRW hj hyw hcell hYl hYe hYr hSv hc0r hrow hb hy HFL hS HY HXL
      go_wp2
      go_ret2
      exact ⟨Or.inl ⟨HTN.out, rfl⟩, HBB.out⟩
    have hl1 : ¬ (N : Int) - (m : Int) < 1 + (S : Int) + 17 + 16 := by omega
    have hszY : szL (X.drop m) = 34 + S := by unfold szL; rw [hS]; omega
    have hsz : szL (X.drop m) ≤ (X.drop m).length := by rw [hszY, hYl]; omega
    have hv := ctL_v (X.drop m) hYr
    have HOB := hidden (okL_bod (X := X.drop m))
    have HOM := hidden (okL_mark (X := X.drop m))
    have HOY := hidden (okL_yes (X := X.drop m) hsz)
    rw [hS] at HOM HOY
    have hcX5 := cell_below hb _ _ (hcell (m + 17 + S) (by omega))
    have HC5 := hidden (fun W (hW : Below wr.heap.size wr W) => cell_below hW _ _ hcX5)
    have HN1 := hidden (fun W (hW : Below w.heap.size w W) => rnumber_yes (some ⟨b, o, none⟩) N c X W (hy.below hW) (m + 1 + S) 8 (by omega) (by omega) (by omega))
    have HN2 := hidden (fun W (hW : Below w.heap.size w W) => rnumber_yes (some ⟨b, o, none⟩) N c X W (hy.below hW) (m + 9 + S) 4 (by omega) (by omega) (by omega))
    have HN3 := hidden (fun W (hW : Below w.heap.size w W) => rnumber_yes (some ⟨b, o, none⟩) N c X W (hy.below hW) (m + 13 + S) 4 (by omega) (by omega) (by omega))
    have d1 : X.drop (m + 1 + S) = (X.drop m).drop (1 + S) := by rw [List.drop_drop]; congr 1; omega
    have d2 : X.drop (m + 9 + S) = (X.drop m).drop (1 + S + 8) := by rw [List.drop_drop]; congr 1; omega
    have d3 : X.drop (m + 13 + S) = (X.drop m).drop (1 + S + 8 + 4) := by rw [List.drop_drop]; congr 1; omega
    rw [d1, show ((m + 1 + S : Nat) : Int) = (m : Int) + 1 + (S : Int) by omega, show ((8 : Nat) : Int) = 8 from rfl] at HN1
    rw [d2, show ((m + 9 + S : Nat) : Int) = (m : Int) + 9 + (S : Int) by omega, show ((4 : Nat) : Int) = 4 from rfl] at HN2
    rw [d3, show ((m + 13 + S : Nat) : Int) = (m : Int) + 13 + (S : Int) by omega, show ((4 : Nat) : Int) = 4 from rfl] at HN3
    have e5 : X.getD (m + 17 + S) 0 = (X.drop m).getD (1 + S + 8 + 4 + 4) 0 := by rw [getD_drop]; congr 1; omega
    rw [e5] at HC5
    have hc1 : ¬ c = m + 1 := by omega
    have hc2 : ¬ c = m + 18 + S := by omega
    have HCV := hidden (fun W (hW : Below w.heap.size w W) => (by
      have h9 := (hy.below hW).part (m + 1) (m + 1 + S) (by omega) (by omega)
      rw [if_neg hc1, show m + 1 + S - (m + 1) = S by omega, show m + 1 + S = m + (1 + S) by omega, part_drop] at h9
      have h8 := conv_byt (P := Tryd.prog) h9 22 5 9 Tryd.underlying22 Tryd.underlying5 Tryd.underlying9
      simpa [Addr.add] using h8 : (convert 22 9 (.slice (some ⟨b, o + (m + 1), none⟩) S (c - (m + 1)))).run Tryd.prog W = .ok (.string (strOfNums (((X.drop m).take (1 + S)).drop 1))) W))
    have HSG := hidden (fun W (hW : Below w.heap.size w W) => (by
      have h9 := (hy.below hW).part (m + 18 + S) (m + 34 + S) (by omega) (by omega)
      rw [if_neg hc2, show m + 34 + S - (m + 18 + S) = 16 by omega, show m + 34 + S = m + (34 + S) by omega, show m + 18 + S = m + (18 + S) by omega, part_drop] at h9
      have e9 : ((X.drop m).take (34 + S)).drop (18 + S) = ((X.drop m).drop (1 + S + 8 + 4 + 4 + 1)).take 16 := by
        rw [List.drop_take, show 34 + S - (18 + S) = 16 by omega, show 18 + S = 1 + S + 8 + 4 + 4 + 1 by omega]
      rw [e9] at h9
      simpa [Addr.add] using h9 : Byt W (some ⟨b, o + (m + (18 + S)), none⟩) 16 (c - (m + (18 + S))) (((X.drop m).drop (1 + S + 8 + 4 + 4 + 1)).take 16)))
    have hgl : (((X.drop m).drop (1 + S + 8 + 4 + 4 + 1)).take 16).length = 16 := by simp; rw [HXL.eq]; omega
    have hv2 := val_bd (((X.drop m).drop (1 + S)).take 8) (rng_take (rng_drop hYr _) _)
    have hnext : X.drop (m + (34 + S)) = (X.drop m).drop (szL (X.drop m)) := by rw [List.drop_drop, hszY]
    rw [← hnext] at HYE
    generalize hYY : X.drop m = Y at *
    have hkk : val ((Y.drop (1 + S)).take 8) = ((ctL Y).k : Int) := by
      have : (ctL Y).k = (val ((Y.drop (1 + S)).take 8)).toNat := by unfold ctL; rw [hS]
      omega
    have hff : val ((Y.drop (1 + S + 8)).take 4) = (ctL Y).f := by unfold ctL; rw [hS]
    have htt : val ((Y.drop (1 + S + 8 + 4)).take 4) = (ctL Y).t := by unfold ctL; rw [hS]
    have hss : strOfNums ((Y.take (1 + S)).drop 1) = (ctL Y).s := by unfold ctL; rw [hS]
    have haa : (Y.getD (1 + S + 8 + 4 + 4) 0 == 1) = (ctL Y).a := by unfold ctL; rw [hS]
    have hgg : (Y.drop (1 + S + 8 + 4 + 4 + 1)).take 16 = (ctL Y).g := by unfold ctL; rw [hS]
    have hf0 : 0 ≤ (ctL Y).f ∧ (ctL Y).f ≤ 4294967295 := by
      rw [← hff]
      have h := val_bd ((Y.drop (1 + S + 8)).take 4) (rng_take (rng_drop hYr _) _)
      rw [show ((Y.drop (1 + S + 8)).take 4).length = 4 by simp; omega] at h
      have e4 : (256 : Int) ^ 4 = 4294967296 := by decide
      omega
    have ht0 : 0 ≤ (ctL Y).t ∧ (ctL Y).t ≤ 4294967295 := by
      rw [← htt]
      have h := val_bd ((Y.drop (1 + S + 8 + 4)).take 4) (rng_take (rng_drop hYr _) _)
      rw [show ((Y.drop (1 + S + 8 + 4)).take 4).length = 4 by simp; omega] at h
      have e4 : (256 : Int) ^ 4 = 4294967296 := by decide
      omega
    have HBO := hidden (fun (q : Option Addr) (d : Nat) (W : World) => rbodyS_any ⟨(ctL Y).s, (ctL Y).k, (ctL Y).f, (ctL Y).t, (ctL Y).a, q, 16, d, (ctL Y).g⟩ ⟨hv.sz, hv.kl, hv.f0, hv.t0⟩ W)
    have hbe : ∀ (q : Option Addr) (d : Nat), bodyE ⟨(ctL Y).s, (ctL Y).k, (ctL Y).f, (ctL Y).t, (ctL Y).a, q, 16, d, (ctL Y).g⟩ = bodyE (ctL Y) := fun q d => rfl
    have hzx : ∀ (q : Option Addr) (d : Nat), Ct.z ⟨(ctL Y).s, (ctL Y).k, (ctL Y).f, (ctL Y).t, (ctL Y).a, q, 16, d, (ctL Y).g⟩ = ctL Y := fun q d => rfl
    have HZX := hidden hzx
    unfold BdG at HBO
    simp only [hbe] at HBO
    have hmk := rng_getD hYr (1 + S + 8 + 4 + 4)
    rw [hkk] at HN1
    rw [hff] at HN2
    rw [htt] at HN3
    rw [hss] at HCV
    rw [hgg] at HSG hgl
    obtain ⟨OK, hOK⟩ : ∃ O, okL Y = O := ⟨_, rfl⟩
    rw [hOK] at HNO HYE HOB HOM HOY
    generalize bodyE (ctL Y) = E at *
    generalize ctL Y = x at *
    obtain ⟨s, k, fr, t, a, qz, nz, dz, gg⟩ := x
    simp only at *
    have HAU := hidden haa
    generalize Y.getD (1 + S + 8 + 4 + 4) 0 = V at *
    have HGL := Is.mk hgl
    have hsr := (HSG.out w (Below.refl _ _)).rng
    have HSR := hidden hsr
    have hx0 : (0 : Int) ≤ (m : Int) + 17 + (S : Int) := by omega
    have hx1 : (m : Int) + 17 + (S : Int) < (N : Int) := by omega
    have hoff : o + (m + 17 + S) = o + (m + 17 + S) := rfl
    have HLM := hidden hlm
    clear hyw hcell hYl hYe hYr hSv hc0r hrow hb hy hS HY HXL hszY hsz hv hcX5 d1 d2 d3 e5 hv2 hnext hYY hkk hff htt hss haa hgg hbe hzx hgl hOK HFL hsr hoff hlm
    go_upto_region 10 with (first
      | (go_at_call 38; (with_reducible refine (HN1.out _ HBB.out).mono ?_); rintro e w2 ⟨rfl, rfl⟩)
      | (go_at_call 38; (with_reducible refine (HN2.out _ HBB.out).mono ?_); rintro e w2 ⟨rfl, rfl⟩)
      | (go_at_call 38; (with_reducible refine (HN3.out _ HBB.out).mono ?_); rintro e w2 ⟨rfl, rfl⟩)
      | fail)
    have hc5 := HC5.out _ (Below.refl _ _)
    clear HN1 HN2 HN3
    go_upto_region 11 with fail
    clear hc5 hcX0
    have HBD : Hid (Below wr.heap.size wr wr.drew) := hidden (drew_below ⟨1, rfl⟩)
    have hau := HAU.out
    have hn1 : ((m : Int) + 1).toNat = m + 1 := by omega
    have hn2 : ((m : Int) + 1 + (S : Int)).toNat = m + 1 + S := by omega
    have hn3 : ((m : Int) + 18 + (S : Int)).toNat = m + (18 + S) := by omega
    have hn4 : ((m : Int) + 34 + (S : Int)).toNat = m + (34 + S) := by omega
    have hn5 : m + 1 + S - (m + 1) = S := by omega
    have hn6 : m + (34 + S) - (m + (18 + S)) = 16 := by omega
    have hn7 : ¬ c = m + (18 + S) := by omega
    have hk1 : (m : Int) + 1 + (S : Int) ≤ (c : Int) := by omega
    have hk2 : (m : Int) + 34 + (S : Int) ≤ (c : Int) := by omega
    have hk3 : (m : Int) + 18 + (S : Int) ≤ (m : Int) + 34 + (S : Int) := by omega
    have hk4 : (m : Int) + 1 ≤ (m : Int) + 1 + (S : Int) := by omega
    have hp1 : (0 : Int) ≤ (m : Int) + 1 := by omega
    have hp2 : (0 : Int) ≤ (m : Int) + 1 + (S : Int) := by omega
    have hp3 : (0 : Int) ≤ (m : Int) + 18 + (S : Int) := by omega
    have hp4 : (0 : Int) ≤ (m : Int) + 34 + (S : Int) := by omega
    refine region_C 29 (fun w' => Below wr.heap.size wr w') (fun _ => True) (by kernel_rfl) HBD.out trivial (fun hS0 _ => ?_)
    refine anyC_take (i := 0) (v := .slice (some ⟨b, o, none⟩) N c) rfl rfl (by decide) (by kernel_rfl) (by kernel_rfl) (by kernel_rfl) (fun _ _ _ h => h) (Or.inl ⟨by rfl, fun w0 _ => by kernel_rfl⟩) hS0 (fun _ => trivial) ?_
    refine anyC_take (i := 1) (v := .int .i64 (m : Int)) rfl rfl (by decide) (by kernel_rfl) (by kernel_rfl) (by kernel_rfl) (fun _ _ _ h => h) (Or.inl ⟨by rfl, fun w0 _ => by kernel_rfl⟩) hS0 (fun _ => trivial) ?_
    refine anyC_take (i := 3) (v := .int .i64 (m : Int)) rfl rfl (by decide) (by kernel_rfl) (by kernel_rfl) (by kernel_rfl) (fun _ _ _ h => h) (Or.inl ⟨by rfl, fun w0 _ => by kernel_rfl⟩) hS0 (fun _ => trivial) ?_
    refine anyC_take (i := 5) (v := .int .i64 (S : Int)) rfl rfl (by decide) (by kernel_rfl) (by kernel_rfl) (by kernel_rfl) (fun _ _ _ h => h) (Or.inl ⟨by rfl, fun w0 _ => by kernel_rfl⟩) hS0 (fun _ => trivial) ?_
    refine anyC_take (i := 9) (v := .int .u64 (k : Int)) rfl rfl (by decide) (by kernel_rfl) (by kernel_rfl) (by kernel_rfl) (fun _ _ _ h => h) (Or.inl ⟨by rfl, fun w0 _ => by kernel_rfl⟩) hS0 (fun _ => trivial) ?_
    refine anyC_take (i := 10) (v := .int .u64 fr) rfl rfl (by decide) (by kernel_rfl) (by kernel_rfl) (by kernel_rfl) (fun _ _ _ h => h) (Or.inl ⟨by rfl, fun w0 _ => by kernel_rfl⟩) hS0 (fun _ => trivial) ?_
    refine anyC_take (i := 12) (v := .int .u64 t) rfl rfl (by decide) (by kernel_rfl) (by kernel_rfl) (by kernel_rfl) (fun _ _ _ h => h) (Or.inl ⟨by rfl, fun w0 _ => by kernel_rfl⟩) hS0 (fun _ => trivial) ?_
    refine anyC_take (i := 14) (v := .int .u8 V) rfl rfl (by decide) (by kernel_rfl) (by kernel_rfl) (by kernel_rfl) (fun _ _ _ h => h) (Or.inl ⟨by rfl, fun w0 _ => by kernel_rfl⟩) hS0 (fun _ => trivial) ?_
    refine anyC_take (i := 16) (v := .slice (some ⟨b, o, none⟩) N c) rfl rfl (by decide) (by kernel_rfl) (by kernel_rfl) (by kernel_rfl) (fun _ _ _ h => h) (Or.inl ⟨by rfl, fun w0 _ => by kernel_rfl⟩) hS0 (fun _ => trivial) ?_
    refine anyC_take (i := 17) (v := .int .i64 (m : Int)) rfl rfl (by decide) (by kernel_rfl) (by kernel_rfl) (by kernel_rfl) (fun _ _ _ h => h) (Or.inl ⟨by rfl, fun w0 _ => by kernel_rfl⟩) hS0 (fun _ => trivial) ?_
    refine anyC_take (i := 19) (v := .int .i64 (S : Int)) rfl rfl (by decide) (by kernel_rfl) (by kernel_rfl) (by kernel_rfl) (fun _ _ _ h => h) (Or.inl ⟨by rfl, fun w0 _ => by kernel_rfl⟩) hS0 (fun _ => trivial) ?_
    refine anyC_take (i := 21) (v := .int .i64 (m : Int)) rfl rfl (by decide) (by kernel_rfl) (by kernel_rfl) (by kernel_rfl) (fun _ _ _ h => h) (Or.inl ⟨by rfl, fun w0 _ => by kernel_rfl⟩) hS0 (fun _ => trivial) ?_
    refine anyC_take (i := 23) (v := .int .i64 (S : Int)) rfl rfl (by decide) (by kernel_rfl) (by kernel_rfl) (by kernel_rfl) (fun _ _ _ h => h) (Or.inl ⟨by rfl, fun w0 _ => by kernel_rfl⟩) hS0 (fun _ => trivial) ?_
    (try simp only [Act.put, List.getElem_toArray, List.getElem_cons_zero, List.getElem_cons_succ, List.setIfInBounds_toArray, List.set_cons_zero, List.set_cons_succ])
    refine anyC_take (i := 2) (v := .int .i64 ((m : Int) + 1)) rfl rfl (by decide) (by kernel_rfl) (by kernel_rfl) (by kernel_rfl) (fun _ _ _ h => h) (Or.inl ⟨by rfl, fun w0 _ => by go_simp; (try with_reducible rfl); (try (simp only [IntKind.wrap_i64]; omega))⟩) hS0 (fun _ => trivial) ?_
    refine anyC_take (i := 4) (v := .int .i64 ((m : Int) + 1)) rfl rfl (by decide) (by kernel_rfl) (by kernel_rfl) (by kernel_rfl) (fun _ _ _ h => h) (Or.inl ⟨by rfl, fun w0 _ => by go_simp; (try with_reducible rfl); (try (simp only [IntKind.wrap_i64]; omega))⟩) hS0 (fun _ => trivial) ?_
    refine anyC_take (i := 18) (v := .int .i64 ((m : Int) + 18)) rfl rfl (by decide) (by kernel_rfl) (by kernel_rfl) (by kernel_rfl) (fun _ _ _ h => h) (Or.inl ⟨by rfl, fun w0 _ => by go_simp; (try with_reducible rfl); (try (simp only [IntKind.wrap_i64]; omega))⟩) hS0 (fun _ => trivial) ?_
    refine anyC_take (i := 22) (v := .int .i64 ((m : Int) + 34)) rfl rfl (by decide) (by kernel_rfl) (by kernel_rfl) (by kernel_rfl) (fun _ _ _ h => h) (Or.inl ⟨by rfl, fun w0 _ => by go_simp; (try with_reducible rfl); (try (simp only [IntKind.wrap_i64]; omega))⟩) hS0 (fun _ => trivial) ?_
    refine anyC_take (i := 11) (v := .int .i64 fr) rfl rfl (by decide) (by kernel_rfl) (by kernel_rfl) (by kernel_rfl) (fun _ _ _ h => h) (Or.inl ⟨by rfl, fun w0 _ => by go_simp; (try with_reducible rfl); (try (simp only [IntKind.wrap_i64]; omega))⟩) hS0 (fun _ => trivial) ?_
    refine anyC_take (i := 13) (v := .int .i64 t) rfl rfl (by decide) (by kernel_rfl) (by kernel_rfl) (by kernel_rfl) (fun _ _ _ h => h) (Or.inl ⟨by rfl, fun w0 _ => by go_simp; (try with_reducible rfl); (try (simp only [IntKind.wrap_i64]; omega))⟩) hS0 (fun _ => trivial) ?_
    refine anyC_take (i := 15) (v := .bool a) rfl rfl (by decide) (by kernel_rfl) (by kernel_rfl) (by kernel_rfl) (fun _ _ _ h => h) (Or.inl ⟨by rfl, fun w0 _ => by go_simp; (try with_reducible rfl); (try (simp only [IntKind.wrap_i64]; omega))⟩) hS0 (fun _ => trivial) ?_
    (try simp only [Act.put, List.getElem_toArray, List.getElem_cons_zero, List.getElem_cons_succ, List.setIfInBounds_toArray, List.set_cons_zero, List.set_cons_succ])
    refine anyC_take (i := 6) (v := .int .i64 ((m : Int) + 1 + (S : Int))) rfl rfl (by decide) (by kernel_rfl) (by kernel_rfl) (by kernel_rfl) (fun _ _ _ h => h) (Or.inl ⟨by rfl, fun w0 _ => by go_simp; (try with_reducible rfl); (try (simp only [IntKind.wrap_i64]; omega))⟩) hS0 (fun _ => trivial) ?_
    refine anyC_take (i := 20) (v := .int .i64 ((m : Int) + 18 + (S : Int))) rfl rfl (by decide) (by kernel_rfl) (by kernel_rfl) (by kernel_rfl) (fun _ _ _ h => h) (Or.inl ⟨by rfl, fun w0 _ => by go_simp; (try with_reducible rfl); (try (simp only [IntKind.wrap_i64]; omega))⟩) hS0 (fun _ => trivial) ?_
    refine anyC_take (i := 24) (v := .int .i64 ((m : Int) + 34 + (S : Int))) rfl rfl (by decide) (by kernel_rfl) (by kernel_rfl) (by kernel_rfl) (fun _ _ _ h => h) (Or.inl ⟨by rfl, fun w0 _ => by go_simp; (try with_reducible rfl); (try (simp only [IntKind.wrap_i64]; omega))⟩) hS0 (fun _ => trivial) ?_
    (try simp only [Act.put, List.getElem_toArray, List.getElem_cons_zero, List.getElem_cons_succ, List.setIfInBounds_toArray, List.set_cons_zero, List.set_cons_succ])
    refine anyC_take (i := 7) (v := .slice (some ⟨b, o + (m + 1), none⟩) S (c - (m + 1))) rfl rfl (by decide) (by kernel_rfl) (by kernel_rfl) (by kernel_rfl) (fun _ _ _ h => h) (Or.inl ⟨by rfl, fun w0 _ => by go_simp; (try with_reducible rfl); (try (simp only [IntKind.wrap_i64]; omega))⟩) hS0 (fun _ => trivial) ?_
    refine anyC_take (i := 25) (v := .slice (some ⟨b, o + (m + (18 + S)), none⟩) 16 (c - (m + (18 + S)))) rfl rfl (by decide) (by kernel_rfl) (by kernel_rfl) (by kernel_rfl) (fun _ _ _ h => h) (Or.inl ⟨by rfl, fun w0 _ => by go_simp; (try with_reducible rfl); (try (simp only [IntKind.wrap_i64]; omega))⟩) hS0 (fun _ => trivial) ?_
    (try simp only [Act.put, List.getElem_toArray, List.getElem_cons_zero, List.getElem_cons_succ, List.setIfInBounds_toArray, List.set_cons_zero, List.set_cons_succ])
    refine anyC_take (i := 8) (v := .string s) rfl rfl (by decide) (by kernel_rfl) (by kernel_rfl) (by kernel_rfl) (fun _ _ _ h => h) (Or.inl ⟨by rfl, fun w0 h9 => by have hcv := HCV.out w0 (HBB.out.trans (h9.mono HBB.out.size)); go_simp; (try with_reducible rfl)⟩) hS0 (fun _ => trivial) ?_
    (try simp only [Act.put, List.getElem_toArray, List.getElem_cons_zero, List.getElem_cons_succ, List.setIfInBounds_toArray, List.set_cons_zero, List.set_cons_succ])
    clear hS0 hau hn1 hn2 hn3 hn4 hn5 hn6 hn7 hk1 hk2 hk3 hk4 hp1 hp2 hp3 hp4 HCV HAU
    obtain ⟨i0, hi0, hz0, hz1, hz2⟩ := info_parts Tryd.infoByte
    obtain ⟨V0, hV0⟩ : ∃ V, V = wr.drew := ⟨_, rfl⟩
    rw [← hV0] at HBD ⊢
    clear hV0
    refine anyC_both (i := 26) (j := 28) (by kernel_rfl) rfl rfl (fun K' hK => ?_) (fun K' hK => ?_)
    · have HB5 := hidden (HBB.out.trans (HBD.out.mono HBB.out.size))
      refine step_append_byt V0 (by kernel_rfl) _ _ 22 (by rfl) wr.heap.size 5 i0 (.int .u8 0) Tryd.underlying22 hi0 hz0 hz1 hz2 rfl _ _ (by rfl) (Own.nil _ _ _) _ _ _ _ _ (by rfl) (HSG.out V0 HB5.out) (by rfl) (by simp) HBD.out.size ?_
      intro v6 w6 ho6 hg6
      obtain ⟨p6, c6, rfl, hbod⟩ := Own.bod ho6 (n := 16) (by simpa using HGL.eq) (by simpa using HSR.out)
      rw [List.nil_append] at hbod
      have HO6 := hidden hbod
      have HB6 := hidden (HBD.out.trans ((below_nil hg6).mono HBD.out.size))
      refine hK.out _ _ HB6.out (fun _ => trivial) ?_
      clear hK K' ho6 hg6 hbod
      (try simp only [Act.put, List.getElem_toArray, List.getElem_cons_zero, List.getElem_cons_succ, List.setIfInBounds_toArray, List.set_cons_zero, List.set_cons_succ])
      refine anyC_take (i := 27) (v := .agg #[.string s, .int .u64 (k : Int), .int .i64 fr, .int .i64 t, .bool a, .slice p6 16 c6]) rfl rfl (by decide) (by kernel_rfl) (by kernel_rfl) (by kernel_rfl) (fun _ _ _ h => h) (Or.inl ⟨by rfl, fun w0 _ => by kernel_rfl⟩) HB6.out (fun _ => trivial) ?_
      (try simp only [Act.put, List.getElem_toArray, List.getElem_cons_zero, List.getElem_cons_succ, List.setIfInBounds_toArray, List.set_cons_zero, List.set_cons_succ])
      refine anyC_one (i := 28) (by kernel_rfl) rfl (fun K' hK => ?_)
      refine fl_exec rfl (v := .pointer (some ⟨w6.heap.size, 0, none⟩)) (w' := w6.alloc (.cells zeroC 37)) (by kernel_rfl) (hK.out _ _ (HB6.out.alloc HB6.out.size _) (fun _ => trivial) ?_)
      clear hK K'
      (try simp only [Act.put, List.getElem_toArray, List.getElem_cons_zero, List.getElem_cons_succ, List.setIfInBounds_toArray, List.set_cons_zero, List.set_cons_succ])
      have HRZ := hidden (heap_alloc_new w6 (.cells zeroC 37))
      have HO7 := hidden (HO6.out.alloc (.cells zeroC 37))
      have HB7 := hidden (HB6.out.alloc HB6.out.size (.cells zeroC 37))
      have hGw : wr.heap.size ≤ w6.heap.size := HB6.out.size
      generalize w6.alloc _ = w7 at *
      generalize w6.heap.size = G at *
      refine anyC_one (i := 29) (by kernel_rfl) rfl (fun K' hK => ?_)
      refine fl_skip rfl (fl_store 37 _ _ rfl G 0 #[.string s, .int .u64 (k : Int), .int .i64 fr, .int .i64 t, .bool a, .slice p6 16 c6] #[.string s, .int .u64 (k : Int), .int .i64 fr, .int .i64 t, .bool a, .slice p6 16 c6] (by kernel_rfl) (by kernel_rfl) 37 zeroC HRZ.out infoC6 (Nat.le_refl 6) (by kernel_rfl) (by rfl)) (hK.out _ _ (below_setRow HB7.out hGw _) (fun _ => trivial) ?_)
      clear hK K'
      (try simp only [Act.put, List.getElem_toArray, List.getElem_cons_zero, List.getElem_cons_succ, List.setIfInBounds_toArray, List.set_cons_zero, List.set_cons_succ])
      refine anyC_done (by kernel_rfl) ?_ _
      have HRU := hidden (setRow_heap w7 G _ #[.string s, .int .u64 (k : Int), .int .i64 fr, .int .i64 t, .bool a, .slice p6 16 c6] _ _ HRZ.out)
      have HBU := hidden (below_setRow HB7.out hGw #[.string s, .int .u64 (k : Int), .int .i64 fr, .int .i64 t, .bool a, .slice p6 16 c6])
      have HOU := hidden (HO7.out.grown (row_grown1 w7 G #[.string s, .int .u64 (k : Int), .int .i64 fr, .int .i64 t, .bool a, .slice p6 16 c6]) (fun r hr => Or.inr (fun cur fz e => by cases hr; rw [HRZ.out] at e; simp [zeroC] at e)))
      generalize World.setRow w7 G _ = U at *
      clear HRZ HO7 HB7 HO6 HB6 HB5 HBD hGw
      have hru := HRU.out
      go_upto_region 13 with (first
        | (refine wpList_load_row rfl 37 _ rfl G rfl 37 _ (0, 0) _ hru Tryd.underlying37 rfl infoC6 ?_)
        | (go_at_call 23; (with_reducible refine (HBO.out _ _ _).mono ?_); rintro e w8 ⟨p8, n8, c8, rfl, hy8, hb8⟩; have HB8 := hidden (HBU.out.trans (hb8.mono HBU.out.size)); have HX8 := hidden hb8; clear hy8 hb8)
        | fail)
      have HBW8 := hidden (HBB.out.trans (HB8.out.mono HBB.out.size))
      have hr8 : w8.heap[G]? = some (.cells #[.string s, .int .u64 (k : Int), .int .i64 fr, .int .i64 t, .bool a, .slice p6 16 c6] 37 (0, 0)) := by rw [HX8.out.block _ (Array.getElem?_eq_some_iff.1 HRU.out).1]; exact HRU.out
      have HO8 := hidden (HOU.out.below HX8.out)
      clear hru HRU HOU HX8 HBO HBU
      by_cases he0 : E = 0
      rotate_left
      · have HTN := hidden (HT.eq.trans (HNO.out (HOB.out he0)))
        clear HNO HYE HT HOB HOM HOY HRW hj hr8
        go_wp2
        go_ret2
        exact ⟨Or.inl ⟨HTN.out, rfl⟩, HBW8.out⟩
      subst he0
      by_cases hv1 : V ≤ 1
      rotate_left
      · have HTN := hidden (HT.eq.trans (HNO.out (HOM.out (by omega))))
        have hv2 : (1 : Int) < V := by omega
        clear HNO HYE HT HOB HOM HOY HRW hj hr8
        go_wp2
        go_ret2
        exact ⟨Or.inl ⟨HTN.out, rfl⟩, HBW8.out⟩
      have hv2 : ¬ (1 : Int) < V := by omega
      obtain ⟨f', hf', hTT⟩ := HYE.out (HOY.out rfl hv1)
      have HT2 := Is.mk (HT.eq.trans hTT)
      have HF2 := hidden hf'
      clear HNO HYE HT HOB HOM HOY hTT hf'
      have HRO := hidden (HRW.out.below HB8.out)
      have HSZ := hidden HBW8.out.size
      have HX : Hid (NCt.ok (w8.alloc (.cells #[.string s, .int .u64 (k : Int), .int .i64 fr, .int .i64 t, .bool a, .slice p6 16 c6] 37)) w.heap.size ⟨s, k, fr, t, a, p6, 16, c6, gg⟩) := hidden ((HO8.out.mono HBB.out.size).alloc _)
      go_upto_region 16 with (first
        | (refine wpList_load_row rfl 37 _ rfl G rfl 37 _ (0, 0) _ hr8 Tryd.underlying37 rfl infoC6 ?_)
        | (at_builtin; go_loud (refine wpList_append_g knownCt (by simp [NCt, KCt]) _ rfl _ _ rfl w.heap.size _ ls rfl (HRO.out.alloc _) _ 1 1 [⟨s, k, fr, t, a, p6, 16, c6, gg⟩] rfl (srcCt w8 ⟨s, k, fr, t, a, p6, 16, c6, gg⟩ _) (fun x hx => by rw [List.mem_singleton.1 hx]; exact HX.out) ?b1 ?b2 ?b3 ?_))
        | fail)
      case b1 => have := HLM.out; unfold maxLen; omega
      case b2 => have := HLM.out; omega
      case b3 => (have := HSZ.out; first | exact this | omega | (simp; omega))
      intro v9 w9 hrow9 hg9
      have HB9 := hidden ((HBW8.out.alloc HBW8.out.size (.cells #[.string s, .int .u64 (k : Int), .int .i64 fr, .int .i64 t, .bool a, .slice p6 16 c6] 37)).grown hg9 (Nat.le_trans HBW8.out.size (by simp)) (fun r hr => (HRO.out.lt r hr).1))
      have HR9 := hidden hrow9
      have HT9 : Is T ((decL f' (X.drop (m + (34 + S)))).map ((ls ++ [(⟨s, k, fr, t, a, p6, 16, c6, gg⟩ : Ct)]).map Ct.z ++ ·)) := ⟨by rw [List.map_append, List.map_singleton, HZX.out p6 c6]; exact HT2.eq⟩
      have HL9 : Hid ((ls ++ [(⟨s, k, fr, t, a, p6, 16, c6, gg⟩ : Ct)]).length ≤ m + (34 + S)) := hidden (by have := HLM.out; rw [List.length_append, List.length_singleton]; omega)
      clear hrow9 hg9 HRO HX HT2 HZX HBW8 HB8 HO8 hr8 HSZ hj
      go_wp2
      go_roundw
      case rel => exact ⟨m + (34 + S), f', _, by omega, by go_num, HF2.out, HT9, HR9.out, HL9.out, HB9.out⟩
      case measure => simp [intOf] <;> omega
    · have HBA := hidden (HBD.out.alloc HBD.out.size (.cells zeroC 37))
      have hGw : wr.heap.size ≤ V0.heap.size := HBD.out.size
      refine fl_exec rfl (v := .pointer (some ⟨V0.heap.size, 0, none⟩)) (w' := V0.alloc (.cells zeroC 37)) (by kernel_rfl) (hK.out _ _ HBA.out (fun _ => trivial) ?_)
      clear hK K'
      (try simp only [Act.put, List.getElem_toArray, List.getElem_cons_zero, List.getElem_cons_succ, List.setIfInBounds_toArray, List.set_cons_zero, List.set_cons_succ])
      have HRZ := hidden (heap_alloc_new V0 (.cells zeroC 37))
      generalize V0.alloc _ = w5 at *
      generalize V0.heap.size = G at *
      have HB5 := hidden (HBB.out.trans (HBA.out.mono HBB.out.size))
      refine anyC_one (i := 26) (by kernel_rfl) rfl (fun K' hK => ?_)
      refine step_append_byt w5 (by kernel_rfl) _ _ 22 (by rfl) wr.heap.size 5 i0 (.int .u8 0) Tryd.underlying22 hi0 hz0 hz1 hz2 rfl _ _ (by rfl) (Own.nil _ _ _) _ _ _ _ _ (by rfl) (HSG.out w5 HB5.out) (by rfl) (by simp) HBA.out.size ?_
      intro v6 w6 ho6 hg6
      obtain ⟨p6, c6, rfl, hbod⟩ := Own.bod ho6 (n := 16) (by simpa using HGL.eq) (by simpa using HSR.out)
      rw [List.nil_append] at hbod
      have HO7 := hidden hbod
      have hb56 := below_nil hg6
      have HB7 := hidden (HBA.out.trans (hb56.mono HBA.out.size))
      have hr6 : w6.heap[G]? = some (.cells zeroC 37 (0, 0)) := by rw [hb56.block _ (Array.getElem?_eq_some_iff.1 HRZ.out).1]; exact HRZ.out
      have HR6 := hidden hr6
      refine hK.out _ _ HB7.out (fun _ => trivial) ?_
      clear hK K' ho6 hg6 hbod hb56 hr6 HRZ
      (try simp only [Act.put, List.getElem_toArray, List.getElem_cons_zero, List.getElem_cons_succ, List.setIfInBounds_toArray, List.set_cons_zero, List.set_cons_succ])
      refine anyC_take (i := 27) (v := .agg #[.string s, .int .u64 (k : Int), .int .i64 fr, .int .i64 t, .bool a, .slice p6 16 c6]) rfl rfl (by decide) (by kernel_rfl) (by kernel_rfl) (by kernel_rfl) (fun _ _ _ h => h) (Or.inl ⟨by rfl, fun w0 _ => by kernel_rfl⟩) HB7.out (fun _ => trivial) ?_
      (try simp only [Act.put, List.getElem_toArray, List.getElem_cons_zero, List.getElem_cons_succ, List.setIfInBounds_toArray, List.set_cons_zero, List.set_cons_succ])
      refine anyC_one (i := 29) (by kernel_rfl) rfl (fun K' hK => ?_)
      refine fl_skip rfl (fl_store 37 _ _ rfl G 0 #[.string s, .int .u64 (k : Int), .int .i64 fr, .int .i64 t, .bool a, .slice p6 16 c6] #[.string s, .int .u64 (k : Int), .int .i64 fr, .int .i64 t, .bool a, .slice p6 16 c6] (by kernel_rfl) (by kernel_rfl) 37 zeroC HR6.out infoC6 (Nat.le_refl 6) (by kernel_rfl) (by rfl)) (hK.out _ _ (below_setRow HB7.out hGw _) (fun _ => trivial) ?_)
      clear hK K'
      (try simp only [Act.put, List.getElem_toArray, List.getElem_cons_zero, List.getElem_cons_succ, List.setIfInBounds_toArray, List.set_cons_zero, List.set_cons_succ])
      refine anyC_done (by kernel_rfl) ?_ _
      have HRU := hidden (setRow_heap w6 G _ #[.string s, .int .u64 (k : Int), .int .i64 fr, .int .i64 t, .bool a, .slice p6 16 c6] _ _ HR6.out)
      have HBU := hidden (below_setRow HB7.out hGw #[.string s, .int .u64 (k : Int), .int .i64 fr, .int .i64 t, .bool a, .slice p6 16 c6])
      have HOU := hidden (HO7.out.grown (row_grown1 w6 G #[.string s, .int .u64 (k : Int), .int .i64 fr, .int .i64 t, .bool a, .slice p6 16 c6]) (fun r hr => Or.inr (fun cur fz e => by cases hr; rw [HR6.out] at e; simp [zeroC] at e)))
      generalize World.setRow w6 G _ = U at *
      clear HR6 HO7 HB7 HB5 HBA HBD hGw
      have hru := HRU.out
      go_upto_region 13 with (first
        | (refine wpList_load_row rfl 37 _ rfl G rfl 37 _ (0, 0) _ hru Tryd.underlying37 rfl infoC6 ?_)
        | (go_at_call 23; (with_reducible refine (HBO.out _ _ _).mono ?_); rintro e w8 ⟨p8, n8, c8, rfl, hy8, hb8⟩; have HB8 := hidden (HBU.out.trans (hb8.mono HBU.out.size)); have HX8 := hidden hb8; clear hy8 hb8)
        | fail)
      have HBW8 := hidden (HBB.out.trans (HB8.out.mono HBB.out.size))
      have hr8 : w8.heap[G]? = some (.cells #[.string s, .int .u64 (k : Int), .int .i64 fr, .int .i64 t, .bool a, .slice p6 16 c6] 37 (0, 0)) := by rw [HX8.out.block _ (Array.getElem?_eq_some_iff.1 HRU.out).1]; exact HRU.out
      have HO8 := hidden (HOU.out.below HX8.out)
      clear hru HRU HOU HX8 HBO HBU
      by_cases he0 : E = 0
      rotate_left
      · have HTN := hidden (HT.eq.trans (HNO.out (HOB.out he0)))
        clear HNO HYE HT HOB HOM HOY HRW hj hr8
        go_wp2
        go_ret2
        exact ⟨Or.inl ⟨HTN.out, rfl⟩, HBW8.out⟩
      subst he0
      by_cases hv1 : V ≤ 1
      rotate_left
      · have HTN := hidden (HT.eq.trans (HNO.out (HOM.out (by omega))))
        have hv2 : (1 : Int) < V := by omega
        clear HNO HYE HT HOB HOM HOY HRW hj hr8
        go_wp2
        go_ret2
        exact ⟨Or.inl ⟨HTN.out, rfl⟩, HBW8.out⟩
      have hv2 : ¬ (1 : Int) < V := by omega
      obtain ⟨f', hf', hTT⟩ := HYE.out (HOY.out rfl hv1)
      have HT2 := Is.mk (HT.eq.trans hTT)
      have HF2 := hidden hf'
      clear HNO HYE HT HOB HOM HOY hTT hf'
      have HRO := hidden (HRW.out.below HB8.out)
      have HSZ := hidden HBW8.out.size
      have HX : Hid (NCt.ok (w8.alloc (.cells #[.string s, .int .u64 (k : Int), .int .i64 fr, .int .i64 t, .bool a, .slice p6 16 c6] 37)) w.heap.size ⟨s, k, fr, t, a, p6, 16, c6, gg⟩) := hidden ((HO8.out.mono HBB.out.size).alloc _)
      go_upto_region 16 with (first
        | (refine wpList_load_row rfl 37 _ rfl G rfl 37 _ (0, 0) _ hr8 Tryd.underlying37 rfl infoC6 ?_)
        | (at_builtin; go_loud (refine wpList_append_g knownCt (by simp [NCt, KCt]) _ rfl _ _ rfl w.heap.size _ ls rfl (HRO.out.alloc _) _ 1 1 [⟨s, k, fr, t, a, p6, 16, c6, gg⟩] rfl (srcCt w8 ⟨s, k, fr, t, a, p6, 16, c6, gg⟩ _) (fun x hx => by rw [List.mem_singleton.1 hx]; exact HX.out) ?b1 ?b2 ?b3 ?_))
        | fail)
      case b1 => have := HLM.out; unfold maxLen; omega
      case b2 => have := HLM.out; omega
      case b3 => (have := HSZ.out; first | exact this | omega | (simp; omega))
      intro v9 w9 hrow9 hg9
      have HB9 := hidden ((HBW8.out.alloc HBW8.out.size (.cells #[.string s, .int .u64 (k : Int), .int .i64 fr, .int .i64 t, .bool a, .slice p6 16 c6] 37)).grown hg9 (Nat.le_trans HBW8.out.size (by simp)) (fun r hr => (HRO.out.lt r hr).1))
      have HR9 := hidden hrow9
      have HT9 : Is T ((decL f' (X.drop (m + (34 + S)))).map ((ls ++ [(⟨s, k, fr, t, a, p6, 16, c6, gg⟩ : Ct)]).map Ct.z ++ ·)) := ⟨by rw [List.map_append, List.map_singleton, HZX.out p6 c6]; exact HT2.eq⟩
      have HL9 : Hid ((ls ++ [(⟨s, k, fr, t, a, p6, 16, c6, gg⟩ : Ct)]).length ≤ m + (34 + S)) := hidden (by have := HLM.out; rw [List.length_append, List.length_singleton]; omega)
      clear hrow9 hg9 HRO HX HT2 HZX HBW8 HB8 HO8 hr8 HSZ hj
      go_wp2
      go_roundw
      case rel => exact ⟨m + (34 + S), f', _, by omega, by go_num, HF2.out, HT9, HR9.out, HL9.out, HB9.out⟩
      case measure => simp [intOf] <;> omega
end Go.Proofs.YtkniifopfgeopaaDoor
