/-
  message.Parse: whatever bytes, a message and no error, or an error that has a notification.
  message.Build of a message that was made: at most 8220 bytes, and an error.
-/
import Derived.Test.YtkniifopfgeopaaGreatJZ31
import Derived.Test.YtkniifopfgeopaaGreatJZ21
import Derived.Test.YtkniifopfgeopaaGreatJZ29
namespace Go.Proofs.YtkniifopfgeopaaGreat
open Go.RowKit
set_option linter.unusedVariables false
set_option linter.unusedSimpArgs false

section
variable {P : Program} {o : Oper} {a : Act} {w : World}
theorem fl_call1 {ops : Array Oper} {K : Act → World → Prop} {Q : Exit → Act → World → Prop} {f : FuncId} {args : Array Value} {R : Value → World → Prop} (hg : o.guard = none) (he : (execOp a.eval o).run P w = .ok (.enter f args) w)
    (hc : Calls P f args w fun e w' => ∃ v, e = .returned v ∧ R v w') (h : ∀ v w', R v w' → K (a.put o.dst v) w') :
    if Region.wanted o (yielded ops a.tmps) = true then Oper.wp P o a w K Q else K (a.put o.dst undef) w := by
  rw [if_pos (by simp [Region.wanted, hg])]
  unfold Oper.wp
  rw [he, Oper.upon_enter]
  refine hc.mono ?_
  rintro e w' ⟨v, rfl, hv⟩
  exact h v w' hv
end
theorem parseR_x (xs : List Int) (h : ∀ z ∈ xs, 0 ≤ z ∧ z ≤ 255) : IntR (parseR xs).1.x := by
  unfold parseR
  split
  · exact ⟨by decide, by decide⟩
  · have hb := numAt_bd xs 18 1 h (by omega) 255 (by decide)
    unfold parseV
    repeat' split
    all_goals first | exact (show IntR 0 from ⟨by decide, by decide⟩) | (show IntR (numAt xs 18 1); unfold IntR; omega)
theorem parseR_len (xs : List Int) (h : (parseR xs).2 = 0) : 28 ≤ xs.length := by
  unfold parseR at h
  split at h
  · exact absurd h (by decide)
  · omega

set_option maxHeartbeats 6400000 in
set_option maxRecDepth 100000 in
theorem mparse_any (p : Option Addr) (n c : Nat) (xs : List Int) (w : World) (h : Byt w p n c xs) :
    Calls Tryz.prog 12 #[.slice p n c] w (ReadM w) := by
  have hle := h.le
  have hcap := h.cap
  have hlen := h.len
  have HY := hidden h
  have HM0 := hidden (MIn.new w 0 0 0 0 0 0 (.slice none 0 0) 39)
  have HB0 := hidden ((Below.refl w.heap.size w).alloc (Nat.le_refl _) (.cells #[.int .u64 0, .int .u64 0, .int .i64 0, .int .i64 0, .int .i64 0, .int .u32 0, .slice none 0 0] 39))
  have HRG := hidden h.rng
  by_cases hbig : 8192 < n
  · have hbI : (8192 : Int) < (n : Int) := by omega
    clear h HY HRG
    go_enter Tryz.func12, Tryz.ntmps12
    go_upto_region 1 with fail
    generalize World.alloc w _ = w0 at *
    obtain ⟨c0, c1, c2, c3, c4, c5, c6, fr⟩ := HM0.out
    have f0 := fr 0
    have f1 := fr 1
    have f2 := fr 2
    have f3 := fr 3
    have f4 := fr 4
    have f5 := fr 5
    have f6 := fr 6
    clear fr
    go_wp2_with fail
    exact ret_msg2 (g := w.heap.size) rfl rfl rfl rfl (HM0.out.setAll 0 0 0 0 0 0 (.slice none 0 0)) ⟨0, 0, 0, 0, 0, 0, none, 0, 0, 11, rfl, by decide, below_setAll HB0.out (Nat.le_refl _) _ _ _ _ _ _ _⟩
  · have hbI : ¬ (8192 : Int) < (n : Int) := by omega
    have HPH := hidden (fun W (hW : Below w.heap.size w W) => parse_any p n c xs W (h.below hW))
    have HE := hidden (rp_parseR xs)
    have HXX := hidden (parseR_x xs h.rng)
    have HLL := hidden (parseR_len xs)
    unfold Parsed at HPH
    generalize parseR xs = hdE at *
    obtain ⟨⟨i, r, nx, x, f, m⟩, E⟩ := hdE
    simp only at HPH HE HXX HLL
    clear h
    go_enter Tryz.func12, Tryz.ntmps12
    go_upto_region 1 with fail
    generalize World.alloc w _ = w0 at *
    go_upto_region 4 with (first
      | (go_at_call 20; (with_reducible refine (HPH.out _ HB0.out).mono ?_); rintro e w1 ⟨rfl, hb⟩; have HM1 := hidden (HM0.out.below hb); have HB1 := hidden (HB0.out.trans (hb.mono HB0.out.size)); clear hb HPH HM0 HB0)
      | fail)
    have HH := hidden (HdrIn.new w1 i r nx x f m 36)
    have hal := (Below.refl w1.heap.size w1).alloc (Nat.le_refl _) (.cells #[.int .u64 i, .int .u64 r, .int .i64 nx, .int .i64 x, .int .i64 f, .int .u32 m] 36)
    have HM2 := hidden (HM1.out.below hal)
    have HB2 := hidden (HB1.out.trans (hal.mono HB1.out.size))
    generalize World.alloc w1 _ = w2 at *
    generalize w1.heap.size = G at *
    clear HM1 HB1 hal
    by_cases hE : E = 0
    · subst hE
      have h28 := HLL.out rfl
      have h28I : (28 : Int) ≤ (n : Int) := by omega
      have HYD := hidden (fun W (hW : Below w.heap.size w W) => (by have h9 := (HY.out.below hW).part 28 n (by omega) (Nat.le_refl _); rw [List.take_of_length_le (by omega)] at h9; exact h9 : Byt W (if c = 28 then p else p.map (·.add 28)) (n - 28) (c - 28) (xs.drop 28)))
      have HRK := hidden (parseTop_ok 100000 nx (xs.drop 28) (fun z hz => HRG.out z (List.mem_of_mem_drop hz)) (by rw [List.length_drop]; omega))
      have HRE := hidden (rp_parseTop nx (xs.drop 28))
      obtain ⟨bb, oo, rfl, -⟩ := HY.out.at_ (by omega)
      have hnc : (n : Int) ≤ (c : Int) := by omega
      have hc28 : (28 : Int) ≤ (c : Int) := by omega
      have HPC := hidden (fun W (hW : Below w.heap.size w W) => parseC_any _ (n - 28) (c - 28) (xs.drop 28) W (HYD.out W hW) (by omega) nx _ rfl)
      unfold ParsedC at HPC
      generalize parseTop nx (xs.drop 28) = rc at *
      obtain ⟨rl, rn, E2⟩ := rc
      simp only at HRK HRE HPC
      obtain ⟨c0, c1, c2, c3, c4, c5, -⟩ := HH.out
      simp only [Nat.zero_add] at c1 c2 c3 c4 c5
      go_upto_region 6 with fail
      have HBD : Hid (Below w2.heap.size w2 w2.drew) := hidden (drew_below ⟨1, rfl⟩)
      refine region_C 4 (fun w' => w'.cell? ⟨G, 2, none⟩ = some (.int .i64 nx)) (fun _ => True) (by kernel_rfl) (cell_below HBD.out _ _ c2) trivial (fun hS0 _ => ?_)
      refine anyC_take (i := 0) (v := .pointer (some ⟨G, 2, none⟩)) rfl rfl (by decide) (by kernel_rfl) (by kernel_rfl) (by kernel_rfl) (fun _ _ _ h => h) (Or.inl ⟨by rfl, fun w0 _ => by kernel_rfl⟩) hS0 (fun _ => trivial) ?_
      refine anyC_take (i := 2) (v := .slice (some ⟨bb, oo, none⟩) n c) rfl rfl (by decide) (by kernel_rfl) (by kernel_rfl) (by kernel_rfl) (fun _ _ _ h => h) (Or.inl ⟨by rfl, fun w0 _ => by kernel_rfl⟩) hS0 (fun _ => trivial) ?_
      (try simp only [Act.put, List.getElem_toArray, List.getElem_cons_zero, List.getElem_cons_succ, List.setIfInBounds_toArray, List.set_cons_zero, List.set_cons_succ])
      refine anyC_take (i := 1) (v := .int .i64 nx) rfl rfl (by decide) (by kernel_rfl) (by kernel_rfl) (by kernel_rfl) (fun _ _ _ h => h) (Or.inl ⟨by rfl, fun w0 h9 => by go_simp; (try with_reducible rfl); (try (intro h8; exact absurd h8 (by omega)))⟩) hS0 (fun _ => trivial) ?_
      (try simp only [Act.put, List.getElem_toArray, List.getElem_cons_zero, List.getElem_cons_succ, List.setIfInBounds_toArray, List.set_cons_zero, List.set_cons_succ])
      obtain ⟨ps, hps⟩ : ∃ q, (if c = 28 then some (⟨bb, oo, none⟩ : Addr) else (some (⟨bb, oo, none⟩ : Addr)).map (·.add 28)) = q := ⟨_, rfl⟩
      have HPS := hidden hps
      rw [hps] at HPC
      clear hps
      refine anyC_take (i := 3) (v := .slice ps (n - 28) (c - 28)) rfl rfl (by decide) (by kernel_rfl) (by kernel_rfl) (by kernel_rfl) (fun _ _ _ h => h) (Or.inl ⟨by rfl, fun w0 h9 => by have hps := HPS.out; go_simp; simpa [Addr.add] using hps⟩) hS0 (fun _ => trivial) ?_
      (try simp only [Act.put, List.getElem_toArray, List.getElem_cons_zero, List.getElem_cons_succ, List.setIfInBounds_toArray, List.set_cons_zero, List.set_cons_succ])
      clear hS0
      have HM3 := hidden (HM2.out.below HBD.out)
      have HHD := hidden (HH.out.below HBD.out)
      have HB3 := hidden (HB2.out.trans (HBD.out.mono HB2.out.size))
      obtain ⟨V0, hV0⟩ : ∃ V, V = w2.drew := ⟨_, rfl⟩
      rw [← hV0] at HM3 HHD HB3 ⊢
      clear hV0 HM2 HH HB2 HBD c0 c1 c2 c3 c4 c5
      refine anyC_one (i := 4) (by kernel_rfl) rfl (fun K' hK => ?_)
      refine fl_call1 rfl (f := 21) (args := #[.int .i64 nx, .slice ps (n - 28) (c - 28)]) (R := fun v w' => ∃ v0 l, v = .tuple #[v0, .int .i64 rn, .int .i64 E2] ∧ Rws w' V0.heap.size v0 l ∧ l.map RawP.raw = rl ∧ l.length ≤ 40 ∧ Below V0.heap.size V0 w') (by kernel_rfl) ((HPC.out _ HB3.out).mono (by rintro e w' ⟨v0, l, rfl, h1, h2, h3, h4⟩; exact ⟨_, rfl, v0, l, rfl, h1, h2, h3, h4⟩)) ?_
      rintro v w3 ⟨v0, l, rfl, hrw, hraw, hl40, hb3⟩
      obtain ⟨pv, cv, rfl, hrd⟩ := hrw.rd (rfl : l.length = l.length)
      have HRD := hidden hrd
      have HL4 := hidden hl40
      have HRA := hidden hraw
      have HH4 := hidden (HHD.out.below hb3)
      have HM4 := hidden (HM3.out.below hb3)
      have HB4 := hidden (HB3.out.trans (hb3.mono HB3.out.size))
      obtain ⟨c0, c1, c2, c3, c4, c5, -⟩ := HH4.out
      simp only [Nat.zero_add] at c1 c2 c3 c4 c5
      refine hK.out _ _ c2 (fun _ => trivial) ?_
      clear hK K' hrw hrd hraw hl40 hb3 HPC HM3 HHD HB3 HPS
      (try simp only [Act.put, List.getElem_toArray, List.getElem_cons_zero, List.getElem_cons_succ, List.setIfInBounds_toArray, List.set_cons_zero, List.set_cons_succ])
      refine anyC_take (i := 5) (v := .tuple #[.slice pv l.length cv, .int .i64 rn, .int .i64 E2]) rfl rfl (by decide) (by kernel_rfl) (by kernel_rfl) (by kernel_rfl) (fun _ _ _ h => h) (Or.inl ⟨by rfl, fun w0 _ => by kernel_rfl⟩) c2 (fun _ => trivial) ?_
      (try simp only [Act.put, List.getElem_toArray, List.getElem_cons_zero, List.getElem_cons_succ, List.setIfInBounds_toArray, List.set_cons_zero, List.set_cons_succ])
      refine anyC_take (i := 6) (v := .slice pv l.length cv) rfl rfl (by decide) (by kernel_rfl) (by kernel_rfl) (by kernel_rfl) (fun _ _ _ h => h) (Or.inl ⟨by rfl, fun w0 _ => by kernel_rfl⟩) c2 (fun _ => trivial) ?_
      refine anyC_take (i := 7) (v := .int .i64 rn) rfl rfl (by decide) (by kernel_rfl) (by kernel_rfl) (by kernel_rfl) (fun _ _ _ h => h) (Or.inl ⟨by rfl, fun w0 _ => by kernel_rfl⟩) c2 (fun _ => trivial) ?_
      refine anyC_take (i := 8) (v := .int .i64 E2) rfl rfl (by decide) (by kernel_rfl) (by kernel_rfl) (by kernel_rfl) (fun _ _ _ h => h) (Or.inl ⟨by rfl, fun w0 _ => by kernel_rfl⟩) c2 (fun _ => trivial) ?_
      (try simp only [Act.put, List.getElem_toArray, List.getElem_cons_zero, List.getElem_cons_succ, List.setIfInBounds_toArray, List.set_cons_zero, List.set_cons_succ])
      refine anyC_take (i := 9) (v := .slice pv l.length cv) rfl rfl (by decide) (by kernel_rfl) (by kernel_rfl) (by kernel_rfl) (fun _ _ _ h => h) (Or.inl ⟨by rfl, fun w0 _ => by kernel_rfl⟩) c2 (fun _ => trivial) ?_
      refine anyC_take (i := 10) (v := .int .i64 rn) rfl rfl (by decide) (by kernel_rfl) (by kernel_rfl) (by kernel_rfl) (fun _ _ _ h => h) (Or.inl ⟨by rfl, fun w0 _ => by kernel_rfl⟩) c2 (fun _ => trivial) ?_
      refine anyC_take (i := 11) (v := .int .i64 E2) rfl rfl (by decide) (by kernel_rfl) (by kernel_rfl) (by kernel_rfl) (fun _ _ _ h => h) (Or.inl ⟨by rfl, fun w0 _ => by kernel_rfl⟩) c2 (fun _ => trivial) ?_
      (try simp only [Act.put, List.getElem_toArray, List.getElem_cons_zero, List.getElem_cons_succ, List.setIfInBounds_toArray, List.set_cons_zero, List.set_cons_succ])
      refine anyC_done (by kernel_rfl) ?_ _
      clear c0 c1 c2 c3 c4 c5 HYD
      by_cases hE2 : E2 = 0
      · subst hE2
        have HRR := hidden (mread_any i r nx x f m HXX.out pv l.length cv l w3 HRD.out HL4.out (fun y hy => HRK.out y.raw (by rw [← HRA.out]; exact List.mem_map_of_mem hy)))
        unfold ReadM at HRR
        obtain ⟨c0, c1, c2, c3, c4, c5, -⟩ := HH4.out
        simp only [Nat.zero_add] at c1 c2 c3 c4 c5
        obtain ⟨a0, a1, a2, a3, a4, a5, a6, af⟩ := HM4.out
        have f0 := af 0
        have f1 := af 1
        have f2 := af 2
        have f3 := af 3
        have f4 := af 4
        have f5 := af 5
        have f6 := af 6
        clear af
        go_wp2_with (first
          | (go_at_call 22; (with_reducible refine (HRR.out).mono ?_); rintro e w4 ⟨i', r', nx', x', f', m', q', n', d', E', rfl, hE', hb4⟩; have HE9 := hidden hE'; have HM5 := hidden (HM4.out.below hb4); have HB5 := hidden (HB4.out.trans (hb4.mono HB4.out.size)); clear hE' hb4 HRR a0 a1 a2 a3 a4 a5 a6 f0 f1 f2 f3 f4 f5 f6 c0 c1 c2 c3 c4 c5; obtain ⟨a0, a1, a2, a3, a4, a5, a6, af⟩ := HM5.out; have f0 := af 0; have f1 := af 1; have f2 := af 2; have f3 := af 3; have f4 := af 4; have f5 := af 5; have f6 := af 6; clear af)
          | fail)
        exact ret_msg2 (g := w.heap.size) rfl rfl rfl rfl (HM5.out.setAll i' r' nx' x' f' m' (.slice q' n' d')) ⟨i', r', nx', x', f', m', q', n', d', E', rfl, HE9.out, below_setAll HB5.out (Nat.le_refl _) _ _ _ _ _ _ _⟩
      · have hE3 : (E2 != 0) = true := by simpa using hE2
        obtain ⟨a0, a1, a2, a3, a4, a5, a6, af⟩ := HM4.out
        have f0 := af 0
        have f1 := af 1
        have f2 := af 2
        have f3 := af 3
        have f4 := af 4
        have f5 := af 5
        have f6 := af 6
        clear af
        go_wp2_with fail
        exact ret_msg2 (g := w.heap.size) rfl rfl rfl rfl (HM4.out.setAll 0 0 0 0 0 0 (.slice none 0 0)) ⟨0, 0, 0, 0, 0, 0, none, 0, 0, E2, rfl, HRE.out, below_setAll HB4.out (Nat.le_refl _) _ _ _ _ _ _ _⟩
    · have hE3 : (E != 0) = true := by simpa using hE
      obtain ⟨a0, a1, a2, a3, a4, a5, a6, af⟩ := HM2.out
      have f0 := af 0
      have f1 := af 1
      have f2 := af 2
      have f3 := af 3
      have f4 := af 4
      have f5 := af 5
      have f6 := af 6
      clear af
      go_wp2_with fail
      exact ret_msg2 (g := w.heap.size) rfl rfl rfl rfl (HM2.out.setAll 0 0 0 0 0 0 (.slice none 0 0)) ⟨0, 0, 0, 0, 0, 0, none, 0, 0, E, rfl, HE.out, below_setAll HB2.out (Nat.le_refl _) _ _ _ _ _ _ _⟩
end Go.Proofs.YtkniifopfgeopaaGreat

namespace Go.Proofs.YtkniifopfgeopaaGreat
open Go.RowKit
set_option linter.unusedVariables false
set_option linter.unusedSimpArgs false

/-- Bytes and an error. -/
def BuiltM (w : World) (e : Ending) (w' : World) : Prop := ∃ (p : Option Addr) (n c : Nat) (L : List Int) (E : Int), e = .returned (.tuple #[.slice p n c, .int .i64 E]) ∧ Bod w' w.heap.size p n c L ∧ n ≤ 8220 ∧ Below w.heap.size w w'
theorem BuiltM.no {w w' : World} {E : Int} (hb : Below w.heap.size w w') : BuiltM w (.returned (.tuple #[.slice none 0 0, .int .i64 E])) w' := ⟨none, 0, 0, [], E, rfl, ⟨Byt.nil _ _ _ (Nat.zero_le _), fun h => by omega⟩, by omega, hb⟩
theorem buildR_len (i r n x f m len : Int) : (buildR i r n x f m len).1.length ≤ 28 := by
  unfold buildR
  repeat' split
  all_goals simp [hdrL, be_len]
theorem hdr_put {w : World} {g : Nat} {i r n x f m : Int} (h : HdrIn w g 0 i r n x f m) (v : Int) : HdrIn (w.setCell ⟨g, 2, none⟩ (.int .i64 v)) g 0 i r v x f m := by
  obtain ⟨c0, c1, c2, c3, c4, c5, fr⟩ := h
  simp only [Nat.zero_add] at c0 c1 c2 c3 c4 c5
  exact ⟨by go_simp, by go_simp, by go_simp, by go_simp, by go_simp, by go_simp, fun j => by rw [World.frozen?_setCell]; exact fr j⟩

set_option maxHeartbeats 6400000 in
set_option maxRecDepth 100000 in
theorem mbuild_any (i r nx x f m : Int) (gd : Good i r nx x f m) (p : Option Addr) (n c : Nat) (l : List Pv) (w : World) (h : RdG KPv DPv w p n c l) (hn : n ≤ 7) (hk : ∀ y ∈ l, KindOk y.t) (hp : ∀ y ∈ l, ∃ C, Vld y C ∧ NumOk y ∧ PvRd w y C) :
    Calls Tryz.prog 9 #[.agg #[.int .u64 i, .int .u64 r, .int .i64 nx, .int .i64 x, .int .i64 f, .int .u32 m, .slice p n c]] w (BuiltM w) := by
  obtain ⟨i0, hi0, hz0, hz1, hz2⟩ := info_parts Tryz.infoByte
  have hx : IntR x := by have := gd.gx; unfold IntR; omega
  have hi : 0 ≤ i ∧ i ≤ 18446744073709551615 := by have := gd.gi; omega
  have hr : 0 ≤ r ∧ r ≤ 18446744073709551615 := gd.gr
  have hm : 0 ≤ m ∧ m ≤ 4294967295 := by have := gd.gm; omega
  have HB0 := hidden ((Below.refl w.heap.size w).alloc (Nat.le_refl _) (.cells #[.int .u64 i, .int .u64 r, .int .i64 nx, .int .i64 x, .int .i64 f, .int .u32 m, .slice p n c] 39))
  have HM0 := hidden (MIn.new w i r nx x f m (.slice p n c) 39)
  have HCK := hidden (fun W (hW : Below w.heap.size w W) => check_any i r nx x f m p n c l W (h.below hW) (by omega) hx)
  have HRW := hidden (fun W (hW : Below w.heap.size w W) => mraws_any p n c l W (h.below hW) hn hk (fun y hy => by
    obtain ⟨C, h1, h2, h3⟩ := hp y hy
    exact ⟨C, h1, h2, h3.below hW⟩))
  have HHC := hidden (fun k W => hcheck_any i r k x f m W)
  have HHB := hidden (fun k len (hl : -9223372036854775808 ≤ len ∧ len ≤ 9223372036854775807) W => build_any i r k x f m len W hi hr hm hl)
  obtain ⟨E1, hE1⟩ : ∃ E, checkM x f l = E := ⟨_, rfl⟩
  rw [hE1] at HCK
  clear hE1 h hp hx gd hi hr hm hk
  go_enter Tryz.func9, Tryz.ntmps9
  go_upto_region 1 with fail
  generalize World.alloc w _ = w0 at *
  have HMW := hidden (fun W (hW : Below w0.heap.size w0 W) => HM0.out.below hW)
  obtain ⟨c0, c1, c2, c3, c4, c5, c6, -⟩ := HM0.out
  clear HM0
  go_upto_region 2 with (first
    | (go_at_call 13; (with_reducible refine (HCK.out _ HB0.out).mono ?_); rintro e w1 ⟨rfl, hb1⟩; have HBX := hidden hb1; have HB1 := hidden (HB0.out.trans (hb1.mono HB0.out.size)); clear hb1 HCK)
    | fail)
  clear c0 c1 c2 c3 c4 c5 c6
  by_cases h1 : E1 = 0
  · subst h1
    have HM1 := hidden (HMW.out w1 HBX.out)
    clear HMW HBX HB0
    obtain ⟨c0, c1, c2, c3, c4, c5, c6, -⟩ := HM1.out
    go_upto_region 5 with (first
      | (go_at_call 14; (with_reducible refine (HRW.out _ HB1.out).mono ?_); rintro e w2 ⟨k, v, L, E2, rfl, ho, hrg, hl6, hb2⟩; obtain ⟨pb, cb, rfl, hyb⟩ := ho.byt hrg; have HYB := hidden hyb; have HM2 := hidden (HM1.out.below hb2); have HB2 := hidden (HB1.out.trans (hb2.mono HB1.out.size)); clear ho hrg hyb hb2 HRW)
      | fail)
    clear c0 c1 c2 c3 c4 c5 c6 HM1 HB1
    by_cases h2 : E2 = 0
    · subst h2
      obtain ⟨c0, c1, c2, c3, c4, c5, c6, -⟩ := HM2.out
      go_upto_region 8 with fail
      have HH3 := hidden (HdrIn.new w2 i r nx x f m 36)
      have hal := (Below.refl w2.heap.size w2).alloc (Nat.le_refl _) (.cells #[.int .u64 i, .int .u64 r, .int .i64 nx, .int .i64 x, .int .i64 f, .int .u32 m] 36)
      have HB3 := hidden (HB2.out.trans (hal.mono HB2.out.size))
      have HYW := hidden (fun W (hW : Below w2.heap.size w2 W) => HYB.out.below hW)
      have HAL := hidden hal
      have HGG := hidden HB2.out.size
      generalize World.alloc w2 _ = w3 at *
      obtain ⟨G, hG⟩ : ∃ G, w2.heap.size = G := ⟨_, rfl⟩
      rw [hG] at HH3 HGG HYW HAL ⊢
      clear c0 c1 c2 c3 c4 c5 c6 HM2 HYB hal HB2 hG
      obtain ⟨d0, d1, d2, d3, d4, d5, df⟩ := HH3.out
      simp only [Nat.zero_add] at d1 d2 d3 d4 d5
      have f2 := df 2
      clear df
      go_upto_region 9 with fail
      have HH4 := hidden (hdr_put HH3.out k)
      have HB4 := hidden (HB3.out.setCell (p := ⟨G, 2, none⟩) HGG.out (.int .i64 k))
      have HYB4 := hidden (HYW.out _ (HAL.out.setCell (p := ⟨G, 2, none⟩) (Nat.le_refl G) (.int .i64 k)))
      generalize World.setCell w3 _ _ = w4 at *
      clear d0 d1 d2 d3 d4 d5 f2 HH3 HB3 HYW HAL
      obtain ⟨d0, d1, d2, d3, d4, d5, -⟩ := HH4.out
      simp only [Nat.zero_add] at d1 d2 d3 d4 d5
      have HHK := hidden (HHC.out k)
      have HHL := hidden (HHB.out k (28 + (L.length : Int)))
      obtain ⟨E3, hE3⟩ : ∃ E, checkR i r k x f m = E := ⟨_, rfl⟩
      rw [hE3] at HHK
      clear hE3 HHC HHB
      go_upto_region 10 with (first
        | (go_at_call 15; (with_reducible refine (HHK.out _).mono ?_); rintro e w5 ⟨rfl, hb5⟩; have HH5 := hidden (HH4.out.below hb5); have HYB5 := hidden (HYB4.out.below hb5); have HB5 := hidden (HB4.out.trans (hb5.mono HB4.out.size)); clear hb5 HHK)
        | fail)
      clear d0 d1 d2 d3 d4 d5 HH4 HYB4 HB4
      by_cases h3 : E3 = 0
      · subst h3
        by_cases h4 : 8192 < 28 + L.length
        · have h4I : (8192 : Int) < 28 + (L.length : Int) := by omega
          have hw : IntKind.i64.wrap (28 + (L.length : Int)) = 28 + (L.length : Int) := by rw [IntKind.wrap_i64]; omega
          go_wp2_with fail
          go_ret2
          exact BuiltM.no HB5.out
        · have h4I : ¬ (8192 : Int) < 28 + (L.length : Int) := by omega
          have hw : IntKind.i64.wrap (28 + (L.length : Int)) = 28 + (L.length : Int) := by rw [IntKind.wrap_i64]; omega
          have HBU := hidden (HHL.out (by omega))
          unfold Built at HBU
          have hxl := buildR_len i r k x f m (28 + (L.length : Int))
          generalize buildR i r k x f m (28 + (L.length : Int)) = bR at *
          obtain ⟨xs, E4⟩ := bR
          simp only at HBU hxl
          obtain ⟨d0, d1, d2, d3, d4, d5, -⟩ := HH5.out
          simp only [Nat.zero_add] at d1 d2 d3 d4 d5
          clear HHL
          go_wp2_with (first
            | (go_at_call 16; (with_reducible refine (HBU.out _).mono ?_); rintro e w6 ⟨q6, n6, c6, rfl, hy6, ho6, hb6⟩; have HO6 := hidden ho6; have HRX := hidden hy6.rng; have HYB6 := hidden (HYB5.out.below hb6); have HB6 := hidden (HB5.out.trans (hb6.mono HB5.out.size)); have hbs := HB5.out.size; have HB56 := hidden hb6.size; clear hy6 ho6 hb6 HBU)
            | (at_builtin; go_loud (refine wpList_append_byt _ rfl _ _ 22 rfl w5.heap.size 5 i0 (.int .u8 0) Tryz.underlying22 hi0 hz0 hz1 hz2 rfl _ _ rfl HO6.out _ _ _ _ _ rfl HYB6.out rfl ?c1 ?c2 ?_))
            | fail)
          case c1 => omega
          case c2 => exact HB56.out
          intro v7 w7 ho7 hg7
          obtain ⟨p7, c7, rfl, hy7⟩ := ho7.bod rfl (rng_append HRX.out HYB6.out.rng)
          have HY7 := hidden (hy7.mono hbs)
          have HB7 := hidden (HB6.out.grown hg7 HB6.out.size (fun q e => Nat.le_trans hbs (HO6.out.lt q e).1))
          have hl7 : (xs ++ L).length ≤ 8220 := by rw [List.length_append]; omega
          clear ho7 hg7 hy7
          go_wp2_with fail
          go_ret2
          exact ⟨p7, _, c7, _, E4, rfl, HY7.out, hl7, HB7.out⟩
      · have hE : (E3 != 0) = true := by simpa using h3
        go_wp2_with fail
        go_ret2
        exact BuiltM.no HB5.out
    · have hE : (E2 != 0) = true := by simpa using h2
      go_wp2_with fail
      go_ret2
      exact BuiltM.no HB2.out
  · have hE : (E1 != 0) = true := by simpa using h1
    go_wp2_with fail
    go_ret2
    exact BuiltM.no HB1.out
end Go.Proofs.YtkniifopfgeopaaGreat
