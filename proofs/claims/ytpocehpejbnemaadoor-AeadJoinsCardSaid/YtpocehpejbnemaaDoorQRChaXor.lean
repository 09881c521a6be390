/-
  The document's Xor.
-/
import Derived.Test.YtpocehpejbnemaaDoorQRChaBlock
import Derived.Test.YtpocehpejbnemaaDoorQHeldC
namespace Go.Proofs.YtpocehpejbnemaaDoor
open Go.RowKit
set_option linter.unusedVariables false
set_option linter.unusedSimpArgs false

theorem ksC_atB (key : List Int) (c : Int) (nonce : List Int) (k i : Nat) (h : i < 64) : ksC key c nonce (64 * k + i) = (blockC key ((c + (k : Int)) % 4294967296) nonce).getD i 0 := by
  unfold ksC
  rw [show (64 * k + i) / 64 = k by omega, show (64 * k + i) % 64 = i by omega]
/-- The first i bytes are encrypted. -/
def partX (f : Nat → Int) (b : List Int) (i : Nat) : List Int := xorL f 0 (b.take i) ++ b.drop i
theorem partX_len (f : Nat → Int) (b : List Int) (i : Nat) : (partX f b i).length = b.length := by simp [partX, xorL_len]; omega
theorem partX_zero (f : Nat → Int) (b : List Int) : partX f b 0 = b := by simp [partX, xorL]
theorem partX_all (f : Nat → Int) (b : List Int) (i : Nat) (h : b.length ≤ i) : partX f b i = xorL f 0 b := by
  unfold partX
  rw [List.take_of_length_le h, List.drop_eq_nil_of_le h, List.append_nil]
theorem partX_at (f : Nat → Int) (b : List Int) (i : Nat) (h : i < b.length) : (partX f b i).getD i 0 = b.getD i 0 := by
  unfold partX
  rw [List.getD_eq_getElem?_getD, List.getElem?_append_right (by rw [xorL_len, List.length_take]; omega), xorL_len, List.length_take, Nat.min_eq_left (by omega), Nat.sub_self, List.getElem?_drop, Nat.add_zero, ← List.getD_eq_getElem?_getD]
theorem partX_next (f : Nat → Int) (b : List Int) (i : Nat) (h : i < b.length) : (partX f b i).set i (bits .xor .u8 (b.getD i 0) (f i)) = partX f b (i + 1) := by
  unfold partX
  rw [List.set_append_right _ _ (by rw [xorL_len, List.length_take]; omega), xorL_len, List.length_take, Nat.min_eq_left (by omega), Nat.sub_self, List.drop_eq_getElem_cons h, List.set_cons_zero, xorL_next _ _ _ h, List.append_assoc]
  rfl

theorem Byt.set_other {w : World} {bs os n c : Nat} {xs : List Int} {g : Nat} (h : Byt w (some ⟨bs, os, none⟩) n c xs) (hne : ¬ bs = g) (j : Nat) (v : Value) : Byt (w.setCell ⟨g, j, none⟩ v) (some ⟨bs, os, none⟩) n c xs :=
  ⟨h.len, h.cap, h.big, h.rng, fun hn => by
    obtain ⟨b', o', e', hc⟩ := h.mem hn
    cases e'
    refine ⟨bs, os, rfl, fun i hi => ?_⟩
    rw [World.cell?_setCell_far _ _ _ _ (fun e => hne e.symm)]
    exact hc i hi⟩

set_option maxHeartbeats 3200000 in
set_option maxRecDepth 100000 in
theorem rxor_yes (p q r : Option Addr) (c d n e : Nat) (key nonce b : List Int) (ctr : Int) (w : World) (h : Byt w p 32 c key) (h' : Byt w q 12 d nonce) (hb : Byt w r n e b) (hn : n ≤ 1000000) (hc0 : 0 ≤ ctr) (hc1 : ctr < 4294967296) :
    Calls Tryd.prog 34 #[.slice p 32 c, .int .u32 ctr, .slice q 12 d, .slice r n e] w fun en w' => ∃ v, en = .returned (.tuple #[v, .bool true]) ∧ Own w' w.heap.size 5 v (xorC key ctr nonce b) ∧ Below w.heap.size w w' := by
  obtain ⟨i0, hi0, hz0, hz1, hz2⟩ := info_parts Tryd.infoByte
  obtain ⟨K, hK0, hK1⟩ : ∃ K, n ≤ 64 * K ∧ 64 * K < n + 64 := ⟨(n + 63) / 64, by omega, by omega⟩
  have HBK := hidden (fun (k : Nat) W (hW : Below w.heap.size w W) => rblock_yes p q c d key nonce ((ctr + (k : Int)) % 4294967296) W (h.below hW) (h'.below hW))
  obtain ⟨f, hf⟩ : ∃ f, ksC key ctr nonce = f := ⟨_, rfl⟩
  have HKF : Hid (∀ k i, i < 64 → f (64 * k + i) = (blockC key ((ctr + (k : Int)) % 4294967296) nonce).getD i 0) := fun k i hi => by rw [← hf]; exact ksC_atB _ _ _ _ _ hi
  have HR : Is (xorC key ctr nonce b) (xorL f 0 b) := ⟨by rw [← hf]; rfl⟩
  rw [HR.eq]
  have HB := hidden hb
  have HBL := Is.mk hb.len
  have hbb := hb.le
  have HO0 := hidden (Own.nil w w.heap.size 5)
  clear h h' hb hf HR
  go_enter Tryd.func34, Tryd.ntmps34
  go_wp2_with (first
    | (at_builtin; go_loud (refine wpList_append_byt _ rfl _ _ 22 rfl w.heap.size 5 i0 (.int .u8 0) Tryd.underlying22 hi0 hz0 hz1 hz2 rfl _ _ rfl HO0.out _ _ _ _ _ rfl HB.out rfl ?c2 (Nat.le_refl _) ?_))
    | fail)
  case c2 => simp; omega
  intro u w1 hown hg
  have hbw : Below w.heap.size w w1 := (Below.refl w.heap.size w).grown hg (Nat.le_refl _) (by intro k hk; simp [Value.ownBlock] at hk)
  rcases Nat.eq_zero_or_pos n with hn0 | hn0
  · obtain rfl : b = [] := List.eq_nil_of_length_eq_zero (by rw [HBL.eq, hn0])
    have HO := hidden hown
    have HBW := hidden hbw
    have hlt : ¬ (0 : Int) < (n : Int) := by omega
    clear hown hg hbw HBK
    go_wp2
    go_loopw [11] (fun i wr => i = .int .i64 0 ∧ wr = w1) (fun _ _ => 0)
    case atStart => exact ⟨rfl, rfl⟩
    case round =>
      obtain ⟨rfl, rfl⟩ := hrel
      go_wp2
      go_ret2
      exact ⟨_, rfl, HO.out, HBW.out⟩
  · obtain ⟨g, cu, rfl, hgb, hgl, -, -⟩ := hown.at_ HBL.eq hn0
    have HO := hidden hown
    have HBW := hidden hbw
    clear hown hg hbw
    go_wp2
    go_loopw [11] (fun i wr => ∃ k A : Nat, Is A (64 * k) ∧ k ≤ K ∧ i = .int .i64 A ∧ Own wr w.heap.size 5 (.slice (some ⟨g, 0, none⟩) n cu) (partX f b A) ∧ Below w.heap.size w wr) (fun i _ => (n + 64) - (intOf i).toNat)
    case atStart => exact ⟨0, 0, ⟨rfl⟩, by omega, rfl, by rw [partX_zero]; exact HO.out, HBW.out⟩
    case round =>
      obtain ⟨k, A, HA, hk, rfl, ho, hb⟩ := hrel
      have HO := hidden ho
      have HBW := hidden hb
      have hAe := HA.eq
      clear ho hb
      by_cases hlt : A < n
      · have a1 : (A : Int) < (n : Int) := by omega
        have HC := hidden (HBK.out k wr HBW.out)
        have q1 : (A : Int) / 64 = (k : Int) := by omega
        have q2 : (A : Int).tdiv 64 = (k : Int) := by rw [Int.tdiv_eq_ediv_of_nonneg (by omega)]; omega
        have q3 : IntKind.u32.wrap (k : Int) = (k : Int) := by rw [IntKind.wrap_u32']; omega
        have hkd : decide ((A : Int) < (n : Int)) = true := by simp; omega
        have hSl := blockC_len key ((ctr + (k : Int)) % 4294967296) nonce
        have hSr := blockC_rng key ((ctr + (k : Int)) % 4294967296) nonce
        have HKS := hidden (HKF.out k)
        generalize blockC key ((ctr + (k : Int)) % 4294967296) nonce = S at *
        have HSL := Is.mk hSl
        have HSR := hidden hSr
        clear hSl hSr hAe
        go_wp2_with (first
          | (go_at_call 37; go_loud (with_reducible refine (HC.out).mono ?_); rintro en w3 ⟨v3, rfl, hown3, hb3⟩; obtain ⟨ps, cs3, rfl, hbod3⟩ := hown3.bod HSL.eq HSR.out; have H3 := hidden hbod3; have HB3 := hidden hb3; clear hown3 hb3 hbod3)
          | fail)
        have hgw : g < wr.heap.size := by
          have := HO.out.lt g (by simp [Value.ownBlock])
          exact this.2
        obtain ⟨bs, os, cur3, fz3, hps, hbs, -⟩ := H3.out.own (by omega)
        subst hps
        have HO3 := hidden (HO.out.below HB3.out)
        have HW3 := hidden (HBW.out.trans (HB3.out.mono HBW.out.size))
        have HS3 := hidden (H3.out.byt)
        have dgs : ¬ bs = g := by omega
        have dgs' : ¬ g = bs := by omega
        clear HO HBW H3 HB3 hgw
        go_loopw [14] (fun i wr => ∃ I j : Nat, Is I (64 * k + j) ∧ j ≤ 64 ∧ I ≤ n ∧ i = .int .i64 I ∧ Own wr w.heap.size 5 (.slice (some ⟨g, 0, none⟩) n cu) (partX f b I) ∧ Byt wr (some ⟨bs, os, none⟩) 64 cs3 S ∧ Below w.heap.size w wr) (fun i _ => (n + 1) - (intOf i).toNat)
        case atStart => exact ⟨A, 0, ⟨by rw [HA.eq]; rfl⟩, by omega, by omega, rfl, HO3.out, HS3.out, HW3.out⟩
        case round =>
          obtain ⟨I, j, HI, hj, hIn, rfl, ho, hs, hb⟩ := hrel
          have HO := hidden ho
          have HS := hidden hs
          have HBW := hidden hb
          have hIe := HI.eq
          have hAe := HA.eq
          by_cases hc : I < n ∧ j < 64
          · obtain ⟨hc1, hc2⟩ := hc
            have a2 : (I : Int) < (n : Int) := by omega
            have a3 : (I : Int) < (A : Int) + 64 := by omega
            have a4 : (0 : Int) ≤ (I : Int) := by omega
            have a5 : (I : Int) - (A : Int) = (j : Int) := by omega
            have a6 : (j : Int) < 64 := by omega
            have a7 : (0 : Int) ≤ (j : Int) := by omega
            have a8 : IntKind.i64.wrap (j : Int) = (j : Int) := wraps_i64 _ (by omega) (by omega)
            have a9 : IntKind.i64.wrap ((I : Int) - (A : Int)) = (j : Int) := by rw [a5]; exact a8
            have cy := (ho.at_ (by rw [partX_len]; exact HBL.eq) hn0)
            obtain ⟨g', c', e', -, -, cy, cf⟩ := cy
            cases e'
            have cy := cy I hc1
            have cf := cf I
            rw [partX_at f b I (by rw [HBL.eq]; exact hc1)] at cy
            obtain ⟨b'', o'', e'', cs⟩ := hs.at_ (by omega)
            cases e''
            have cs := cs j hc2
            have HNX := Is.mk (partX_next f b I (by rw [HBL.eq]; exact hc1))
            rw [hIe, HKS.out j hc2, ← hIe] at HNX
            generalize b.getD I 0 = y at *
            generalize S.getD j 0 = s at *
            have HL := Is.mk (partX_len f b I)
            clear ho hs hb hIe hAe
            go_wp2_with fail
            refine region_C 12 (fun _ => True) (fun w' => w'.cell? ⟨g, I, none⟩ = some (.int .u8 y) ∧ w'.cell? ⟨bs, os + j, none⟩ = some (.int .u8 s)) (by kernel_rfl) trivial ⟨cy, cs⟩ ?_
            intro _ hS1
            refine anyC_take (i := 0) (v := ?_) rfl rfl (by decide) (by kernel_rfl) (by kernel_rfl) (by kernel_rfl) (fun _ _ _ h => h) (Or.inl ⟨by rfl, ?_⟩) trivial (fun _ => hS1) ?_
            rotate_left
            · intro w0 _; go_simp; (try with_reducible rfl)
            (try simp only [Act.put, List.setIfInBounds_toArray, List.set_cons_zero, List.set_cons_succ])
            refine anyC_take (i := 1) (v := ?_) rfl rfl (by decide) (by kernel_rfl) (by kernel_rfl) (by kernel_rfl) (fun _ _ _ h => h) (Or.inl ⟨by rfl, ?_⟩) trivial (fun _ => hS1) ?_
            rotate_left
            · intro w0 _; go_simp; (try with_reducible rfl)
            (try simp only [Act.put, List.setIfInBounds_toArray, List.set_cons_zero, List.set_cons_succ])
            refine anyC_take (i := 2) (v := ?_) rfl rfl (by decide) (by kernel_rfl) (by kernel_rfl) (by kernel_rfl) (fun _ _ _ h => h) (Or.inl ⟨by rfl, ?_⟩) trivial (fun _ => hS1) ?_
            rotate_left
            · intro w0 _; go_simp; (try with_reducible rfl)
            (try simp only [Act.put, List.setIfInBounds_toArray, List.set_cons_zero, List.set_cons_succ])
            refine anyC_take1 (i := 3) (v := ?_) rfl rfl (by decide) (by kernel_rfl) (by kernel_rfl) (by kernel_rfl) (by kernel_rfl) (by kernel_rfl) (fun _ _ _ h => h) (Or.inl ⟨by rfl, ?_⟩) trivial hS1 ?_
            rotate_left
            · rintro w0 ⟨-, t0, t1⟩; go_simp; (try with_reducible rfl)
            (try simp only [Act.put, List.setIfInBounds_toArray, List.set_cons_zero, List.set_cons_succ])
            refine anyC_take (i := 4) (v := ?_) rfl rfl (by decide) (by kernel_rfl) (by kernel_rfl) (by kernel_rfl) (fun _ _ _ h => h) (Or.inl ⟨by rfl, ?_⟩) trivial (fun _ => hS1) ?_
            rotate_left
            · intro w0 _; go_simp; (try with_reducible rfl)
            (try simp only [Act.put, List.setIfInBounds_toArray, List.set_cons_zero, List.set_cons_succ])
            refine anyC_take (i := 5) (v := ?_) rfl rfl (by decide) (by kernel_rfl) (by kernel_rfl) (by kernel_rfl) (fun _ _ _ h => h) (Or.inl ⟨by rfl, ?_⟩) trivial (fun _ => hS1) ?_
            rotate_left
            · intro w0 _; go_simp; (try with_reducible rfl)
            (try simp only [Act.put, List.setIfInBounds_toArray, List.set_cons_zero, List.set_cons_succ])
            refine anyC_take (i := 6) (v := ?_) rfl rfl (by decide) (by kernel_rfl) (by kernel_rfl) (by kernel_rfl) (fun _ _ _ h => h) (Or.inl ⟨by rfl, ?_⟩) trivial (fun _ => hS1) ?_
            rotate_left
            · intro w0 _; go_simp; (try with_reducible rfl)
            (try simp only [Act.put, List.setIfInBounds_toArray, List.set_cons_zero, List.set_cons_succ])
            refine anyC_take (i := 7) (v := ?_) rfl rfl (by decide) (by kernel_rfl) (by kernel_rfl) (by kernel_rfl) (fun _ _ _ h => h) (Or.inl ⟨by rfl, ?_⟩) trivial (fun _ => hS1) ?_
            rotate_left
            · intro w0 _; go_simp; (try with_reducible rfl)
            (try simp only [Act.put, List.setIfInBounds_toArray, List.set_cons_zero, List.set_cons_succ])
            refine anyC_take (i := 8) (v := ?_) rfl rfl (by decide) (by kernel_rfl) (by kernel_rfl) (by kernel_rfl) (fun _ _ _ h => h) (Or.inl ⟨by rfl, ?_⟩) trivial (fun _ => hS1) ?_
            rotate_left
            · intro w0 _; go_simp; (try with_reducible rfl)
            (try simp only [Act.put, List.setIfInBounds_toArray, List.set_cons_zero, List.set_cons_succ])
            refine anyC_take1 (i := 9) (v := ?_) rfl rfl (by decide) (by kernel_rfl) (by kernel_rfl) (by kernel_rfl) (by kernel_rfl) (by kernel_rfl) (fun _ _ _ h => h) (Or.inl ⟨by rfl, ?_⟩) trivial hS1 ?_
            rotate_left
            · rintro w0 ⟨-, t0, t1⟩; go_simp; (try with_reducible rfl)
            (try simp only [Act.put, List.setIfInBounds_toArray, List.set_cons_zero, List.set_cons_succ])
            refine anyC_take (i := 10) (v := ?_) rfl rfl (by decide) (by kernel_rfl) (by kernel_rfl) (by kernel_rfl) (fun _ _ _ h => h) (Or.inl ⟨by rfl, ?_⟩) trivial (fun _ => hS1) ?_
            rotate_left
            · intro w0 _; go_simp; (try with_reducible rfl)
            (try simp only [Act.put, List.setIfInBounds_toArray, List.set_cons_zero, List.set_cons_succ])
            refine anyC_take (i := 11) (v := ?_) rfl rfl (by decide) (by kernel_rfl) (by kernel_rfl) (by kernel_rfl) (fun _ _ _ h => h) (Or.inl ⟨by rfl, ?_⟩) trivial (fun _ => hS1) ?_
            rotate_left
            · intro w0 _; go_simp; (try with_reducible rfl)
            (try simp only [Act.put, List.setIfInBounds_toArray, List.set_cons_zero, List.set_cons_succ])
            refine anyC_one (i := 12) (by kernel_rfl) rfl (fun K hK => ?_)
            go_simp
            refine hK.out _ _ trivial (fun h => nomatch (h.symm.trans (by kernel_rfl) : false = true)) ?_
            clear hK K
            (try simp only [Act.put, List.setIfInBounds_toArray, List.set_cons_zero, List.set_cons_succ])
            refine anyC_done (by kernel_rfl) ?_ _
            go_wp2
            go_roundw
            case rel =>
              refine ⟨I + 1, j + 1, ⟨by rw [HI.eq]; rfl⟩, by omega, by omega, by go_num, ?_, (HS.out.set_other dgs _ _).below (drew_below ⟨1, rfl⟩), (HBW.out.setCell hgb _).drew⟩
              rw [← HNX.eq]
              exact (HO.out.set (by rw [HL.eq]; exact HBL.eq) I _)
            case measure => simp [intOf]; omega
          · have HX : Hid (Own wr w.heap.size 5 (.slice (some ⟨g, 0, none⟩) n cu) (partX f b (A + 64))) := by
              have he : partX f b (A + 64) = partX f b I := by
                by_cases h64 : j < 64
                · rw [partX_all f b I (by rw [HBL.eq]; omega), partX_all f b (A + 64) (by rw [HBL.eq]; omega)]
                · rw [show A + 64 = I by omega]
              rw [he]
              exact ho
            have HAN : Is (A + 64) (64 * (k + 1)) := ⟨by omega⟩
            have hkK : k + 1 ≤ K := by omega
            by_cases h1 : I < n
            · have a2 : (I : Int) < (n : Int) := by omega
              have a3 : ¬ (I : Int) < (A : Int) + 64 := by omega
              have a3' : decide ((I : Int) < (A : Int) + 64) = false := by simp; omega
              clear ho hs hb hIe hAe HO HI
              go_wp2
              go_roundw
              case rel => exact ⟨k + 1, A + 64, HAN, hkK, by go_num, HX.out, HBW.out⟩
              case measure => simp [intOf]; omega
            · have a2 : ¬ (I : Int) < (n : Int) := by omega
              have a2' : decide ((I : Int) < (n : Int)) = false := by simp; omega
              clear ho hs hb hIe hAe HO HI
              go_wp2
              go_roundw
              case rel => exact ⟨k + 1, A + 64, HAN, hkK, by go_num, HX.out, HBW.out⟩
              case measure => simp [intOf]; omega
      · have a1 : ¬ (A : Int) < (n : Int) := by omega
        have hoe := HO.out
        rw [partX_all f b A (by rw [HBL.eq]; omega)] at hoe
        have HOE := hidden hoe
        clear hoe HO hAe HA
        go_wp2
        go_ret2
        exact ⟨_, rfl, HOE.out, HBW.out⟩
end Go.Proofs.YtpocehpejbnemaaDoor
