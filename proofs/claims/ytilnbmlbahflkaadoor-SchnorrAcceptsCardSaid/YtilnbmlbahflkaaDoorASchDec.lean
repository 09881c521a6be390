/-
  schnorr.Decode of certificates that were written.
-/
import Derived.Test.YtilnbmlbahflkaaDoorASchRead
namespace Go.Proofs.YtilnbmlbahflkaaDoor
open Go.RowKit
set_option linter.unusedVariables false

/-- What a certificate says, wherever its signature lies. -/
def Ct.z (x : Ct) : Ct := ⟨x.s, x.k, x.f, x.t, x.a, none, 0, 0, x.g⟩
/-- What Decode returns. -/
def DecTo (L : List Ct) (w : World) (e : Ending) (w' : World) : Prop :=
  ∃ v ls, e = .returned (.tuple #[v, .int .i64 0]) ∧ RowG KCt NCt w' w.heap.size v ls ∧ ls.map Ct.z = L.map Ct.z ∧ Below w.heap.size w w'
theorem encL_cons (x : Ct) (L : List Ct) : encL (x :: L) = bdL x ++ (x.g ++ encL L) := by
  unfold encL
  rw [List.flatMap_cons, List.append_assoc]
theorem encL_sub (L : List Ct) (hL : ∀ x ∈ L, CtG x) (j : Nat) : (encL (L.drop j)).length ≤ 50 * (L.length - j) := by
  have := encL_len (L.drop j) (fun x hx => hL x (List.mem_of_mem_drop hx))
  rw [List.length_drop] at this
  exact this

set_option maxHeartbeats 3200000 in
set_option maxRecDepth 100000 in
theorem dec_ok (L : List Ct) (n : Nat) (hl : L.length = n) (hn6 : n ≤ 6) (hL : ∀ x ∈ L, CtG x) (p : Option Addr) (N c : Nat) (w : World) (hy : Byt w p N c (encL L)) :
    Calls Tryd.prog 24 #[.slice p N c] w (DecTo L w) := by
  have HLL := hidden hL
  have HY0 := hidden hy
  clear hy hL
  unfold DecTo
  have h6 : ¬ (6 : Int) < (n : Int) := by omega
  go_enter Tryd.func24, Tryd.ntmps24
  go_wp2
  go_loopw [0, 4] (fun u v wr => ∃ (j : Nat) (p : Option Addr) (N c : Nat) (ls : List Ct), j ≤ n ∧ u = .slice p N c ∧ Byt w p N c (encL (L.drop j)) ∧ RowG KCt NCt wr w.heap.size v ls ∧ ls.map Ct.z = (L.take j).map Ct.z ∧ Below w.heap.size w wr) (fun u _ _ => match u with | .slice _ N _ => N | _ => 0)
  case atStart => exact ⟨0, p, N, c, [], by omega, rfl, by rw [List.drop_zero]; exact HY0.out, RowG.nil _ _ _ _, rfl, Below.refl _ _⟩
  case round =>
    clear HY0
    obtain ⟨j, p, N, c, ls, hj, rfl, hy, hrow, hz, hb⟩ := hrel
    have hlz : ls.length = j := by
      have h9 := congrArg List.length hz
      rw [List.length_map, List.length_map, List.length_take] at h9
      omega
    obtain ⟨po, co, rfl⟩ := hrow.form hlz
    have HRW := hidden hrow
    have HBB := hidden hb
    have hcap := hy.cap
    by_cases hjn : j < n
    · have hx : L[j]? = some (L.getD j zc) := by rw [List.getD_eq_getElem?_getD, List.getElem?_eq_getElem (by omega)]; rfl
      have hmem : L.getD j zc ∈ L := List.mem_of_getElem? hx
      have hG := HLL.out _ hmem
      have hdr : L.drop j = L.getD j zc :: L.drop (j + 1) := by
        rw [← List.getElem_cons_drop (show j < L.length by omega)]
        congr 1
        rw [List.getD_eq_getElem?_getD, List.getElem?_eq_getElem (by omega)]
        rfl
      have htk : (L.take (j + 1)).map Ct.z = (L.take j).map Ct.z ++ [Ct.z (L.getD j zc)] := by
        rw [List.take_add_one, hx, List.map_append]
        rfl
      rw [← hz] at htk
      have hN1 : N ≤ 300 := by
        have h1 := hy.len
        have h2 := encL_sub L HLL.out j
        omega
      rw [hdr, encL_cons] at hy
      have hcut := ctCut (L.getD j zc) (encL (L.drop (j + 1))) hG.gl
      have HRD := hidden (read_ok _ hG (encL (L.drop (j + 1))) p N c wr (by omega) (hy.below hb))
      have HTK := Is.mk htk
      have hln := hcut.ln
      rw [hy.len] at hln
      have hd8 := hcut.c8
      have hpt := hy.part (1 + (L.getD j zc).s.size + 8 + 4 + 4 + 1 + 16) N (by omega) (Nat.le_refl _)
      rw [List.take_of_length_le (by rw [hy.len]; exact Nat.le_refl _), hd8] at hpt
      have HPT := hidden hpt
      clear hpt
      obtain ⟨b, o, rfl, -⟩ := hy.at_ (by omega)
      unfold RdTo at HRD
      generalize hxx : L.getD j zc = x at *
      obtain ⟨s, k, f, t, a, qz, nz, dz, gg⟩ := x
      simp only at *
      generalize hSS : s.size = S at *
      clear hx hmem hG hdr htk hy hcut hd8 hxx hrow hb
      have hN0 : (0 : Int) < (N : Int) := by omega
      have hi1 : (0 : Int) ≤ 1 + (S : Int) + 8 + 4 + 4 + 1 + 16 := by omega
      have hi2 : 1 + (S : Int) + 8 + 4 + 4 + 1 + 16 ≤ (N : Int) := by omega
      have hi3 : (N : Int) ≤ (c : Int) := by omega
      have HLN := hidden hln
      clear hln hSS
      go_upto_region 4 with (first
        | (go_at_call 58; (with_reducible refine (HRD.out).mono ?_); rintro e w2 ⟨q, d, rfl, hy2, hb2⟩; have HY2 := hidden hy2; have HB2 := hidden hb2; clear hy2 hb2)
        | fail)
      have hlt6 : j ≤ 6 := by omega
      have hal : Below w2.heap.size w2 (w2.alloc (.cells #[.string s, .int .u64 (k : Int), .int .i64 f, .int .i64 t, .bool a, .slice q 16 d] 47)) := (Below.refl _ _).alloc (Nat.le_refl _) _
      have hr3 : (w2.alloc (.cells #[.string s, .int .u64 (k : Int), .int .i64 f, .int .i64 t, .bool a, .slice q 16 d] 47)).heap[w2.heap.size]? = some (.cells #[.string s, .int .u64 (k : Int), .int .i64 f, .int .i64 t, .bool a, .slice q 16 d] 47 (0, 0)) := heap_alloc_new w2 _
      have HB3 := hidden (HB2.out.trans (hal.mono HB2.out.size))
      have HY3 := hidden ((HY2.out.mono HBB.out.size).below hal)
      generalize World.alloc w2 _ = w3 at *
      have HRO := hidden (HRW.out.below HB3.out)
      have HB4 := hidden (HBB.out.trans (HB3.out.mono HBB.out.size))
      have HSZ := hidden HB4.out.size
      have HX : Hid (NCt.ok (w3.alloc (.cells #[.string s, .int .u64 (k : Int), .int .i64 f, .int .i64 t, .bool a, .slice q 16 d] 47)) w.heap.size ⟨s, k, f, t, a, q, 16, d, gg⟩) := hidden (HY3.out.alloc _)
      clear hal HY2
      go_upto_region 7 with (first
        | (refine wpList_load_row rfl 47 _ rfl w2.heap.size rfl 47 _ (0, 0) _ hr3 Tryd.underlying47 rfl infoC6 ?_)
        | (at_builtin; go_loud (refine wpList_append_g knownCt (by simp [NCt, KCt]) _ rfl _ _ rfl w.heap.size _ ls rfl (HRO.out.alloc _) _ 1 1 [⟨s, k, f, t, a, q, 16, d, gg⟩] rfl (srcCt w3 ⟨s, k, f, t, a, q, 16, d, gg⟩ _) (fun x hx => by rw [List.mem_singleton.1 hx]; exact HX.out) ?b1 ?b2 ?b3 ?_))
        | fail)
      case b1 => unfold maxLen; omega
      case b2 => omega
      case b3 => simp; have := HSZ.out; omega
      intro v6 w6 hrow6 hg6
      have HB6 := hidden ((HB4.out.alloc HB4.out.size (.cells #[.string s, .int .u64 (k : Int), .int .i64 f, .int .i64 t, .bool a, .slice q 16 d] 47)).grown hg6 (Nat.le_trans HB4.out.size (by simp)) (fun r hr => (HRO.out.lt r hr).1))
      have HR6 := hidden hrow6
      clear hrow6 hg6 HRO HB4 HX HB3 HB2 HY3 HRD hr3 HSZ
      obtain ⟨M, hM⟩ : ∃ M : Nat, 1 + S + 8 + 4 + 4 + 1 + 16 = M := ⟨_, rfl⟩
      have hMI : 1 + (S : Int) + 8 + 4 + 4 + 1 + 16 = (M : Int) := by omega
      have hM1 : 1 ≤ M := by omega
      rw [hMI] at hi1 hi2
      have hMN : M ≤ N := by omega
      have HPM := HPT.out
      rw [hM] at HPM
      have HPT2 := hidden HPM
      have HLM := HLN.out
      rw [hM] at HLM
      have HLN2 := hidden HLM
      simp only [hMI]
      clear HPT HPM HLN HLM hM hMI
      have hz6 : (ls ++ [(⟨s, k, f, t, a, q, 16, d, gg⟩ : Ct)]).map Ct.z = (L.take (j + 1)).map Ct.z := by rw [HTK.eq, List.map_append]; rfl
      have HZ6 := hidden hz6
      clear hz6
      by_cases hce : c = M
      · subst hce
        obtain rfl : N = c := by omega
        have hpt := HPT2.out
        rw [if_pos rfl, Nat.sub_self] at hpt
        have HP6 := hidden hpt
        clear hpt HPT2
        go_wp2
        go_roundw
        case rel => exact ⟨j + 1, some ⟨b, o, none⟩, 0, 0, _, by omega, rfl, HP6.out, HR6.out, HZ6.out, HB6.out⟩
        case measure => simp <;> omega
      · have hpt := HPT2.out
        rw [if_neg hce] at hpt
        have hpt2 : Byt w (some ⟨b, o + M, none⟩) (N - M) (c - M) (encL (L.drop (j + 1))) := by simpa [Addr.add, show M ≠ 0 by omega] using hpt
        have HP6 := hidden hpt2
        clear hpt2
        clear hpt HPT2
        go_wp2
        go_roundw
        case rel => exact ⟨j + 1, _, _, _, _, by omega, rfl, HP6.out, HR6.out, HZ6.out, HB6.out⟩
        case measure => simp <;> omega
    · obtain rfl : j = n := by omega
      have hN0 : N = 0 := by
        have h1 := hy.len
        rw [List.drop_of_length_le (by omega)] at h1
        simpa [encL] using h1.symm
      subst hN0
      rw [← hl, List.take_length] at hz
      clear HLL
      go_wp2
      go_ret2
      exact ⟨_, ls, rfl, HRW.out, hz, HBB.out⟩
end Go.Proofs.YtilnbmlbahflkaaDoor
