/-
  schnorr.Decode of any bytes.
-/
import Derived.Test.YtkniifopfgeopaaDoorHSchReadG
namespace Go.Proofs.YtkniifopfgeopaaDoor
open Go.RowKit
set_option linter.unusedVariables false

/-- What Decode returns: T is what the bytes say. -/
def DecX (T : Option (List Ct)) (w : World) (e : Ending) (w' : World) : Prop :=
  ((T = none ∧ e = .returned (.tuple #[.slice none 0 0, .int .i64 4])) ∨ (∃ L, T = some L ∧ 6 < L.length ∧ e = .returned (.tuple #[.slice none 0 0, .int .i64 10])) ∨
    (∃ L v ls, T = some L ∧ L.length ≤ 6 ∧ e = .returned (.tuple #[v, .int .i64 0]) ∧ RowG KCt NCt w' w.heap.size v ls ∧ ls.map Ct.z = L)) ∧ Below w.heap.size w w'
theorem decL_step (f : Nat) (Y : List Int) (h : Y ≠ []) (hf : Y.length ≤ f) (hs : okL Y = true) (ls : List Ct) :
    ∃ f', (Y.drop (szL Y)).length ≤ f' ∧ (decL f Y).map (ls ++ ·) = (decL f' (Y.drop (szL Y))).map ((ls ++ [ctL Y]) ++ ·) := by
  cases f with
  | zero => exact absurd (List.eq_nil_of_length_eq_zero (by omega)) h
  | succ f =>
    refine ⟨f, by simp [szL]; omega, ?_⟩
    unfold decL
    rw [if_neg h, if_pos hs]
    cases f with
    | zero => simp [decL]
    | succ f => simp [decL, Option.map_map, Function.comp_def]
theorem decL_no (f : Nat) (Y : List Int) (h : Y ≠ []) (hf : Y.length ≤ f) (hs : okL Y = false) (ls : List Ct) : (decL f Y).map (ls ++ ·) = none := by
  cases f with
  | zero => exact absurd (List.eq_nil_of_length_eq_zero (by omega)) h
  | succ f =>
    unfold decL
    rw [if_neg h, if_neg (by rw [hs]; decide)]
    rfl
theorem decL_end (f : Nat) (ls : List Ct) : (decL f []).map (ls ++ ·) = some ls := by
  cases f <;> simp [decL]
theorem okL_sz {Y : List Int} (h : okL Y = true) : szL Y ≤ Y.length := by
  unfold okL at h
  simp only [Bool.and_eq_true, decide_eq_true_eq] at h
  exact h.1.1

set_option maxHeartbeats 6400000 in
set_option maxRecDepth 100000 in
theorem dec_any (X : List Int) (p : Option Addr) (N c : Nat) (w : World) (hN : N ≤ 4000000) (hy : Byt w p N c X) :
    Calls Tryd.prog 17 #[.slice p N c] w (DecX (decL X.length X) w) := by
  have HY0 := hidden hy
  obtain ⟨T, hT⟩ : ∃ T, decL X.length X = T := ⟨_, rfl⟩
  rw [hT]
  have HT : Is T ((decL X.length X).map ((([] : List Ct).map Ct.z) ++ ·)) := ⟨by rw [hT]; cases T <;> rfl⟩
  clear hT hy
  go_enter Tryd.func17, Tryd.ntmps17
  go_wp2
  go_loopw [0, 4] (fun u v wr => ∃ (f : Nat) (Y : List Int) (p : Option Addr) (N c : Nat) (ls : List Ct), u = .slice p N c ∧ Byt w p N c Y ∧ Y.length ≤ f ∧ Is T ((decL f Y).map (ls.map Ct.z ++ ·)) ∧ RowG KCt NCt wr w.heap.size v ls ∧ ls.length + N ≤ 4000000 ∧ Below w.heap.size w wr) (fun u _ _ => match u with | .slice _ N _ => N | _ => 0)
  case atStart => exact ⟨X.length, X, p, N, c, [], rfl, HY0.out, Nat.le_refl _, HT, RowG.nil _ _ _ _, by simpa using hN, Below.refl _ _⟩
  case round =>
    clear HY0 HT
    obtain ⟨f, Y, p, N, c, ls, rfl, hy, hfl, HT, hrow, hbd, hb⟩ := hrel
    obtain ⟨j, hj⟩ : ∃ j, ls.length = j := ⟨_, rfl⟩
    obtain ⟨po, co, rfl⟩ := hrow.form hj
    have HRW := hidden hrow
    have HBB := hidden hb
    have hcap := hy.cap
    by_cases hN0 : N = 0
    · subst hN0
      obtain rfl : Y = [] := List.eq_nil_of_length_eq_zero hy.len
      have hTe := HT.eq
      rw [decL_end] at hTe
      have HTE := Is.mk hTe
      have hln : (ls.map Ct.z).length = j := by rw [List.length_map]; exact hj
      have HLN := Is.mk hln
      clear HT hy hfl hrow hb hTe hln hj
      by_cases h6 : 6 < j
      · have h6i : (6 : Int) < (j : Int) := by omega
        go_wp2
        go_ret2
        exact ⟨Or.inr (Or.inl ⟨_, HTE.eq, by rw [HLN.eq]; exact h6, rfl⟩), HBB.out⟩
      · have h6i : ¬ (6 : Int) < (j : Int) := by omega
        go_wp2
        go_ret2
        exact ⟨Or.inr (Or.inr ⟨_, _, ls, HTE.eq, by rw [HLN.eq]; omega, rfl, HRW.out, rfl⟩), HBB.out⟩
    · have hYe : Y ≠ [] := fun h9 => hN0 (by rw [← hy.len, h9]; rfl)
      have HRD := hidden (read_any Y p N c wr (by omega) (by omega) (hy.below hb))
      have HNO := hidden (decL_no f Y hYe hfl · (ls.map Ct.z))
      have HYE := hidden (decL_step f Y hYe hfl · (ls.map Ct.z))
      have HPT := hidden (fun (h9 : okL Y = true) => (by
        have h8 := okL_sz h9
        rw [hy.len] at h8
        have h7 := hy.part (szL Y) N h8 (Nat.le_refl _)
        rw [List.take_of_length_le (by rw [hy.len]; exact Nat.le_refl _)] at h7
        exact ⟨h8, h7⟩ : szL Y ≤ N ∧ Byt w (if c = szL Y then p else p.map (·.add (szL Y))) (N - szL Y) (c - szL Y) (Y.drop (szL Y))))
      have hsz : (1 + (nmL Y : Int) + 8 + 4 + 4 + 1 + 16) = (szL Y : Int) := by unfold szL; omega
      have hM1 : 1 ≤ szL Y := by unfold szL; omega
      obtain ⟨b, o, rfl, -⟩ := hy.at_ (by omega)
      unfold RdX at HRD
      rw [hsz] at HRD
      unfold zeroC at HRD
      generalize szL Y = M at *
      obtain ⟨OK, hOK⟩ : ∃ O, okL Y = O := ⟨_, rfl⟩
      rw [hOK] at HRD HNO HYE HPT
      have hzx : ∀ (q : Option Addr) (d : Nat), Ct.z ⟨(ctL Y).s, (ctL Y).k, (ctL Y).f, (ctL Y).t, (ctL Y).a, q, 16, d, (ctL Y).g⟩ = ctL Y := fun q d => rfl
      have HZX := hidden hzx
      generalize hctl : ctL Y = x at *
      obtain ⟨s, k, fr, t, a, qz, nz, dz, gg⟩ := x
      simp only at HRD HZX
      clear hctl hzx hsz hfl hy hrow hb hYe
      have hN1 : (0 : Int) < (N : Int) := by omega
      have hi3 : (N : Int) ≤ (c : Int) := by omega
      cases OK with
      | false =>
        have HTN := hidden (HT.eq.trans (HNO.out rfl))
        clear HNO HYE HPT HT HZX HRW hj
        go_wp2_with (first
          | (go_at_call 37; (with_reducible refine (HRD.out).mono ?_); rintro e w2 ⟨⟨h9, -⟩ | ⟨-, rfl⟩, hb2⟩; (exact absurd h9 (by decide)); have HB2 := hidden (HBB.out.trans (hb2.mono HBB.out.size)); clear hb2)
          | fail)
        go_ret2
        exact ⟨Or.inl ⟨HTN.out, rfl⟩, HB2.out.alloc HB2.out.size _⟩
      | true =>
        obtain ⟨f', hf', hTT⟩ := HYE.out rfl
        have HT2 := Is.mk (HT.eq.trans hTT)
        obtain ⟨hMN, hpt⟩ := HPT.out rfl
        have HPT2 := hidden hpt
        have HF2 := hidden hf'
        clear HNO HYE HPT HT hTT hpt hf'
        have hi1 : (0 : Int) ≤ (M : Int) := by omega
        have hi2 : (M : Int) ≤ (N : Int) := by omega
        go_upto_region 4 with (first
          | (go_at_call 37; (with_reducible refine (HRD.out).mono ?_); rintro e w2 ⟨⟨-, q, d, rfl, hy2⟩ | ⟨h9, -⟩, hb2⟩; rotate_left; (exact absurd h9 (by decide)); have HY2 := hidden hy2; have HB2 := hidden hb2; clear hy2 hb2)
          | fail)
        have hal : Below w2.heap.size w2 (w2.alloc (.cells #[.string s, .int .u64 (k : Int), .int .i64 fr, .int .i64 t, .bool a, .slice q 16 d] 37)) := (Below.refl _ _).alloc (Nat.le_refl _) _
        have hr3 : (w2.alloc (.cells #[.string s, .int .u64 (k : Int), .int .i64 fr, .int .i64 t, .bool a, .slice q 16 d] 37)).heap[w2.heap.size]? = some (.cells #[.string s, .int .u64 (k : Int), .int .i64 fr, .int .i64 t, .bool a, .slice q 16 d] 37 (0, 0)) := heap_alloc_new w2 _
        have HB3 := hidden (HB2.out.trans (hal.mono HB2.out.size))
        have HY3 := hidden ((HY2.out.mono HBB.out.size).below hal)
        generalize World.alloc w2 _ = w3 at *
        have HRO := hidden (HRW.out.below HB3.out)
        have HB4 := hidden (HBB.out.trans (HB3.out.mono HBB.out.size))
        have HSZ := hidden HB4.out.size
        have HX : Hid (NCt.ok (w3.alloc (.cells #[.string s, .int .u64 (k : Int), .int .i64 fr, .int .i64 t, .bool a, .slice q 16 d] 37)) w.heap.size ⟨s, k, fr, t, a, q, 16, d, gg⟩) := hidden (HY3.out.alloc _)
        clear hal HY2
        go_upto_region 7 with (first
          | (refine wpList_load_row rfl 37 _ rfl w2.heap.size rfl 37 _ (0, 0) _ hr3 Tryd.underlying37 rfl infoC6 ?_)
          | (at_builtin; go_loud (refine wpList_append_g knownCt (by simp [NCt, KCt]) _ rfl _ _ rfl w.heap.size _ ls rfl (HRO.out.alloc _) _ 1 1 [⟨s, k, fr, t, a, q, 16, d, gg⟩] rfl (srcCt w3 ⟨s, k, fr, t, a, q, 16, d, gg⟩ _) (fun x hx => by rw [List.mem_singleton.1 hx]; exact HX.out) ?b1 ?b2 ?b3 ?_))
          | fail)
        case b1 => unfold maxLen; omega
        case b2 => omega
        case b3 => simp; have := HSZ.out; omega
        intro v6 w6 hrow6 hg6
        have HB6 := hidden ((HB4.out.alloc HB4.out.size (.cells #[.string s, .int .u64 (k : Int), .int .i64 fr, .int .i64 t, .bool a, .slice q 16 d] 37)).grown hg6 (Nat.le_trans HB4.out.size (by simp)) (fun r hr => (HRO.out.lt r hr).1))
        have HR6 := hidden hrow6
        clear hrow6 hg6 HRO HB4 HX HB3 HB2 HY3 HRD hr3 HSZ
        have HT6 : Is T ((decL f' (Y.drop M)).map ((ls ++ [(⟨s, k, fr, t, a, q, 16, d, gg⟩ : Ct)]).map Ct.z ++ ·)) := ⟨by rw [List.map_append, List.map_singleton, HZX.out q d]; exact HT2.eq⟩
        have HLB : Hid ((ls ++ [(⟨s, k, fr, t, a, q, 16, d, gg⟩ : Ct)]).length + (N - M) ≤ 4000000) := hidden (by rw [List.length_append, List.length_singleton]; omega)
        clear HT2 HZX hj hbd
        by_cases hce : c = M
        · subst hce
          obtain rfl : N = c := by omega
          have hpt := HPT2.out
          rw [if_pos rfl, Nat.sub_self] at hpt
          have hlb := HLB.out
          rw [Nat.sub_self] at hlb
          have HP6 := hidden hpt
          have HLB2 := hidden hlb
          clear hpt hlb HPT2 HLB
          go_wp2
          go_roundw
          case rel => exact ⟨f', _, some ⟨b, o, none⟩, 0, 0, _, rfl, HP6.out, HF2.out, HT6, HR6.out, HLB2.out, HB6.out⟩
          case measure => simp <;> omega
        · have hpt := HPT2.out
          rw [if_neg hce] at hpt
          have hpt2 : Byt w (some ⟨b, o + M, none⟩) (N - M) (c - M) (Y.drop M) := by simpa [Addr.add, show M ≠ 0 by omega] using hpt
          have HP6 := hidden hpt2
          clear hpt hpt2 HPT2
          go_wp2
          go_roundw
          case rel => exact ⟨f', _, _, _, _, _, rfl, HP6.out, HF2.out, HT6, HR6.out, HLB.out, HB6.out⟩
          case measure => simp <;> omega
end Go.Proofs.YtkniifopfgeopaaDoor
