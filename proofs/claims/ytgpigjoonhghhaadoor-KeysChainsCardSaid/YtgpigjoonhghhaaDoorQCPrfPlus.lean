/-
  prf.Plus: any number of bytes from a key.
-/
import Derived.Test.YtgpigjoonhghhaaDoorQCPrfHmac
import Derived.Test.YtgpigjoonhghhaaDoorQCZ1
import Derived.Test.YtgpigjoonhghhaaDoorQCZ2
namespace Go.Proofs.YtgpigjoonhghhaaDoor
open Go.RowKit
set_option linter.unusedVariables false
theorem cat3_any (w : World) (p0 p1 : Option Addr) (n0 n1 c0 c1 : Nat) (x0 x1 : List Int) (z : Int) (hz : 0 ≤ z ∧ z ≤ 255) (h0 : Byt w p0 n0 c0 x0) (h1 : Byt w p1 n1 c1 x1) (hs : n0 + n1 ≤ 140737488355000) :
    Calls Tryd.prog 34 #[.slice (some ⟨w.heap.size + 1, 0, none⟩) 3 3] ((w.alloc (.cells #[.int .u8 z] 5)).alloc (.cells #[.slice p0 n0 c0, .slice p1 n1 c1, .slice (some ⟨w.heap.size, 0, none⟩) 1 1] 22)) fun e w' =>
      ∃ v, e = .returned v ∧ Own w' w.heap.size 5 v (x0 ++ (x1 ++ [z])) ∧ Below w.heap.size w w' := by
  have := concat_any (some ⟨w.heap.size + 1, 0, none⟩) 3 3 _ _ (three_parts w p0 p1 n0 n1 c0 c1 x0 x1 z 5 22 hz h0 h1) (by simp [sizeOf']; omega)
  simp only [bytesOf, List.flatMap_cons, List.flatMap_nil, List.append_nil, World.size_alloc] at this
  refine this.mono ?_
  rintro e w' ⟨v, he, ho, hb⟩
  exact ⟨v, he, ho.mono (by omega), (((Below.refl w.heap.size w).alloc (Nat.le_refl _) _).alloc (by simp) _).trans (hb.mono (by omega))⟩
set_option maxHeartbeats 1600000 in
set_option maxRecDepth 100000 in
theorem plus_yes (p q : Option Addr) (n c m d : Nat) (key seed : List Int) (k : Nat) (hk : k ≤ 8160) (w : World) (h : Byt w p n c key) (hn : n ≤ 140737488351232) (hs : Byt w q m d seed) (hm : m ≤ 140737488350000) (hK : KAt w) :
    Calls Tryd.prog 31 #[.slice p n c, .slice q m d, .int .i64 k] w fun e w' => ∃ p' c', e = .returned (.tuple #[.slice p' k c', .int .i64 0]) ∧ Byt w' p' k c' (plusS key seed k) ∧ Below w.heap.size w w' := by
  obtain ⟨i0, hi, hz0, hz1, hz2⟩ := info_parts Tryd.infoByte
  have HX : Hid (∀ W, Below w.heap.size w W → Byt W p n c key) := fun W hW => h.below hW
  have HSD : Hid (∀ W, Below w.heap.size w W → Byt W q m d seed) := fun W hW => hs.below hW
  have HSR := hidden hs.rng
  have HSL := Is.mk hs.len
  have HT : Hid (∀ j : Nat, j ≤ 254 → plusT key seed (j + 1) = hmacS key (plusT key seed j ++ (seed ++ [(j : Int) + 1]))) := fun j hj => by
    rw [plusT, show ((j + 1 : Nat) : Int) % 256 = (j : Int) + 1 by omega]
  have HH : Hid (∀ W q1 M d1 b, Below w.heap.size w W → Byt W q1 M d1 b → M ≤ 140737488350000 + 100 → Calls Tryd.prog 30 #[.slice p n c, .slice q1 M d1] W fun e w' => ∃ v, e = .returned v ∧ Own w' W.heap.size 5 v (hmacS key b) ∧ Below W.heap.size W w') := fun W q1 M d1 b hW hB hM => hmac_any p q1 n c M d1 key _ W (HX.out W hW) hn hB (by omega) (hK.below hW hK.lt)
  have HOT := hidden (plusT_len key seed)
  have HTL := hidden (plusT_le key seed)
  have HTR := hidden (plusT_rng key seed)
  have HOL := hidden (plusO_len key seed)
  have HOR := hidden (plusO_rng key seed)
  have HON : Hid (∀ j, plusO key seed (j + 1) = plusO key seed j ++ plusT key seed (j + 1)) := fun j => rfl
  have HOF := hidden (plusS_of key seed)
  have HO0 : Hid (Own w w.heap.size 5 (.slice none 0 0) (plusO key seed 0)) := Own.nil _ _ _
  have HT0 : Hid (Bod w w.heap.size none 0 0 (plusT key seed 0)) := Bod.nil _ _ _ _ (Nat.zero_le _)
  have HTZ : Hid ((plusT key seed 0).length = 0) := rfl
  clear h hs hK
  generalize plusT key seed = T at HT HOT HTL HTR HT0 HTZ HON
  generalize plusO key seed = O at HOL HOR HON HOF HO0
  generalize plusS key seed = P at HOF ⊢
  have hk0 : ¬ (k : Int) < 0 := by omega
  have hk1 : ¬ (8160 : Int) < k := by omega
  go_enter Tryd.func31, Tryd.ntmps31
  go_wp2_with fail
  go_loopw [8, 9, 10] (fun o l i wr => ∃ (j B ln : Nat) (lp : Option Addr) (lc : Nat), j ≤ 255 ∧ i = .int .i64 ((j : Int) + 1) ∧ Own wr w.heap.size 5 o (O j) ∧ ln ≤ 32 ∧ l = .slice lp ln lc ∧ Bod wr B lp ln lc (T j) ∧ Below w.heap.size w wr) (fun _ _ i _ => 257 - (intOf i).toNat)
  case atStart => exact ⟨0, w.heap.size, 0, none, 0, by omega, rfl, HO0.out, by omega, rfl, HT0.out, Below.refl _ _⟩
  case round =>
    obtain ⟨j, B, ln, lp, lc, hj, rfl, ho, hln, rfl, hl, hb⟩ := hrel
    obtain ⟨N, hN⟩ : ∃ N, 32 * j = N := ⟨_, rfl⟩
    have hol := HOL.out j
    rw [hN] at hol
    obtain ⟨oq, oc, rfl, hob⟩ := ho.bytN rfl hol (HOR.out j)
    have HO := hidden ho
    have HOB := hidden hob
    have HL := hidden hl
    have HB := hidden hb
    have hocap := hob.cap
    have HOLE := hidden hol
    clear ho hob hl hb HO0 HT0 HTZ hol
    by_cases hlt : N < k
    · have hlt' : (N : Int) < (k : Int) := by omega
      have HLY := hidden HL.out.byt
      have HC := hidden (cat3_any wr lp q ln m lc d (T j) seed ((j : Int) + 1) (by omega) HL.out.byt (HSD.out wr HB.out) (by omega))
      have hXl : (T j ++ (seed ++ [(j : Int) + 1])).length = ln + (m + 1) := by rw [List.length_append, List.length_append, HSL.eq, HL.out.byt.len]; rfl
      have hXr : ∀ x ∈ T j ++ (seed ++ [(j : Int) + 1]), 0 ≤ x ∧ x ≤ 255 := rng_append (HTR.out j) (rng_append HSR.out (fun x hx => by
        have : x = (j : Int) + 1 := by simpa using hx
        omega))
      have HTN := Is.mk (HT.out j (by omega))
      generalize T j ++ (seed ++ [(j : Int) + 1]) = X at HC hXl hXr HTN
      have HXL := hidden hXl
      have HXR := hidden hXr
      obtain ⟨M, hM⟩ : ∃ M, ln + (m + 1) = M := ⟨_, rfl⟩
      rw [hM] at HXL
      have hMb : M ≤ 140737488350000 + 100 := by omega
      have HM := hidden (fun W q1 d1 hW hB => HH.out W q1 M d1 X hW hB hMb)
      rw [← HTN.eq] at HM
      have HTJL := hidden (HOT.out j)
      have HTJR := hidden (HTR.out (j + 1))
      have HONJ := Is.mk (HON.out j)
      obtain ⟨U, hU⟩ : ∃ U, T (j + 1) = U := ⟨_, rfl⟩
      rw [hU] at HM HTJL HTJR HONJ
      have HU := Is.mk hU
      clear hU
      have hroom : (O j).length + 32 ≤ 140737488355328 := by rw [HOLE.out]; omega
      clear hXl hXr HTN HT HH hM HLY
      go_wp2_with (first
        | (go_at_call 34; (with_reducible refine (HC.out).mono ?_); rintro e w4 ⟨v4, rfl, hown4, hbel4⟩; obtain ⟨q4, d4, rfl, hbyt4⟩ := hown4.bytN rfl HXL.out HXR.out; have HB4 := hidden (HB.out.trans (hbel4.mono HB.out.size)); have H4 := hidden hbyt4; have HO4 := hidden (HO.out.below hbel4); have hs4 := hbel4.size; clear hown4 hbel4 hbyt4)
        | (go_at_call 30; (with_reducible refine (HM.out w4 _ _ HB4.out H4.out).mono ?_); rintro e w5 ⟨v5, rfl, hown5, hbel5⟩; obtain ⟨q5, d5, rfl, hbod5⟩ := hown5.bod HTJL.out HTJR.out; have HB5 := hidden (HB4.out.trans (hbel5.mono HB4.out.size)); have H5 := hidden hbod5; have H5Y := hidden hbod5.byt; have HO5 := hidden (HO4.out.below hbel5); clear hown5 hbel5 hbod5)
        | (at_builtin; go_loud (refine wpList_append_byt _ rfl _ _ 22 rfl w.heap.size 5 i0 (.int .u8 0) Tryd.underlying22 hi hz0 hz1 hz2 rfl _ _ rfl HO5.out _ _ _ _ _ rfl H5Y.out rfl hroom HB5.out.size ?_))
        | fail)
      intro u w6 hown6 hg6
      rw [← HONJ.eq] at hown6
      have HO6 := hidden hown6
      have HB6 := hidden (HB5.out.grown hg6 HB5.out.size (fun i hi => (HO5.out.lt i hi).1))
      have HL6 := hidden (H5.out.grown hg6 (fun r hr => Or.inl ((HO4.out.lt r hr).2)))
      clear hown6 hg6 HO HOB HL HO4 HO5 H4 H5 H5Y HB4 HB5 HC HM
      go_wp2
      go_roundw
      case rel => exact ⟨j + 1, w4.heap.size, 32, q5, d5, by omega, by go_num, HO6.out, by omega, rfl, by rw [HU.eq]; exact HL6.out, HB6.out⟩
      case measure => simp [intOf]; omega
    · have hlt' : ¬ (N : Int) < (k : Int) := by omega
      have hkc : (k : Int) ≤ (oc : Int) := by omega
      have hF := HOB.out.front k (by omega)
      rw [HOF.out j k (by omega)] at hF
      have HF := hidden hF
      clear hF
      go_wp2
      go_ret2
      exact ⟨_, _, rfl, HF.out, HB.out⟩
end Go.Proofs.YtgpigjoonhghhaaDoor
