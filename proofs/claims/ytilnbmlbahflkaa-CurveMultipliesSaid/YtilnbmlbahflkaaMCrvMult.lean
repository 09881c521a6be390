/-
  curve.Multiply.
-/
import Derived.Test.YtilnbmlbahflkaaMCrvStep
import Derived.Test.YtilnbmlbahflkaaMCrvSca
import Derived.Test.YtilnbmlbahflkaaMCrvOut
import Derived.Test.YtilnbmlbahflkaaMCrvInv
namespace Go.Proofs.Ytilnbmlbahflkaa
open Go.RowKit
set_option linter.unusedVariables false

theorem selL_lw {m : Int} (t : Int) {A B : List Int} (hA : Lw m A) (hB : Lw m B) : Lw m (selL t A B) := by unfold selL; split <;> assumption
theorem selL_fe (t : Int) (A B : List Int) : fe (selL t A B) = if t = 1 then fe B else fe A := by unfold selL; split <;> rfl
/-- What lies where during the ladder. -/
structure MI (w W : World) (n gk gu g8 g9 : Nat) (k LU V8 V9 : List Int) : Prop where
  hk : Wb W gk 38 k
  hu : Wn .u64 W gu 42 LU
  h8 : Wn .u64 W g8 45 V8
  h9 : Wn .u64 W g9 45 V9
  bel : Below n w W
structure MD (n gk gu g8 g9 : Nat) : Prop where
  n8 : n ≤ g8
  n9 : n ≤ g9
  k8 : gk ≠ g8
  k9 : gk ≠ g9
  u8 : gu ≠ g8
  u9 : gu ≠ g9
  ne : g8 ≠ g9
theorem MI.below {w W W' : World} {n gk gu g8 g9 : Nat} {k LU V8 V9 : List Int} (h : MI w W n gk gu g8 g9 k LU V8 V9) (hd : MD n gk gu g8 g9) (hb : Below W.heap.size W W') : MI w W' n gk gu g8 g9 k LU V8 V9 :=
  ⟨h.hk.below hb, h.hu.below hb, h.h8.below hb, h.h9.below hb, h.bel.trans (hb.mono (by have := h.h8.lt; have := hd.n8; omega))⟩
theorem MI.set8 {w W : World} {n gk gu g8 g9 : Nat} {k LU V8 V9 : List Int} (h : MI w W n gk gu g8 g9 k LU V8 V9) (hd : MD n gk gu g8 g9) (V : List Int) : MI w (W.setRow g8 (ints .u64 V)) n gk gu g8 g9 k LU V V9 :=
  ⟨h.hk.rowOther _ _ hd.k8, h.hu.rowOther _ _ hd.u8, h.h8.row V, h.h9.rowOther _ _ (Ne.symm hd.ne), below_setRow h.bel hd.n8 _⟩
theorem MI.set9 {w W : World} {n gk gu g8 g9 : Nat} {k LU V8 V9 : List Int} (h : MI w W n gk gu g8 g9 k LU V8 V9) (hd : MD n gk gu g8 g9) (V : List Int) : MI w (W.setRow g9 (ints .u64 V)) n gk gu g8 g9 k LU V8 V :=
  ⟨h.hk.rowOther _ _ hd.k9, h.hu.rowOther _ _ hd.u9, h.h8.rowOther _ _ hd.ne, h.h9.row V, below_setRow h.bel hd.n9 _⟩
theorem heap_two (w : World) (A B : Obj) (cs : Array Value) : ((((w.alloc A).alloc B).setRow w.heap.size cs)).heap[w.heap.size + 1]? = some B := by
  rw [setRow_other _ _ _ _ (by omega)]
  exact heap_alloc2_new w A B
/-- Four elements that stand for a state of the ladder. -/
structure LD (s : Lad) (A B C D : List Int) : Prop where
  la : Lw m1 A
  lb : Lw m1 B
  lc : Lw m1 C
  ld : Lw m1 D
  fa : fe A = s.a
  fb : fe B = s.b
  fc : fe C = s.c
  fd : fe D = s.d
theorem LD.lens {s : Lad} {A B C D : List Int} (h : LD s A B C D) : (A ++ B).length = 10 ∧ (C ++ D).length = 10 := by
  rw [List.length_append, List.length_append, h.la.len, h.lb.len, h.lc.len, h.ld.len]
  exact ⟨rfl, rfl⟩
theorem LD.swp {s : Lad} {A B C D : List Int} (h : LD s A B C D) (t : Int) : LD (lswp t s) (selL t A C) (selL t B D) (selL t C A) (selL t D B) :=
  ⟨selL_lw t h.la h.lc, selL_lw t h.lb h.ld, selL_lw t h.lc h.la, selL_lw t h.ld h.lb,
   by rw [selL_fe, h.fa, h.fc]; rfl, by rw [selL_fe, h.fb, h.fd]; rfl, by rw [selL_fe, h.fc, h.fa]; rfl, by rw [selL_fe, h.fd, h.fb]; rfl⟩
theorem LD.stp {s : Lad} {A B C D LU R1 R2 R3 R4 : List Int} {u : K} (h : LD s A B C D) (hu : fe LU = u) (l1 : Lw m1 R1) (l2 : Lw m1 R2) (l3 : Lw m1 R3) (l4 : Lw m1 R4)
    (f1 : fe R1 = stX2 (fe A) (fe B)) (f2 : fe R2 = stZ2 (fe A) (fe B)) (f3 : fe R3 = stX3 (fe A) (fe B) (fe C) (fe D)) (f4 : fe R4 = stZ3 (fe LU) (fe A) (fe B) (fe C) (fe D)) : LD (lstp u s) R1 R2 R3 R4 :=
  ⟨l1, l2, l3, l4, by rw [f1, h.fa, h.fb]; rfl, by rw [f2, h.fa, h.fb]; rfl, by rw [f3, h.fa, h.fb, h.fc, h.fd]; rfl, by rw [f4, hu, h.fa, h.fb, h.fc, h.fd]; rfl⟩
theorem fe_zero : fe [0, 0, 0, 0, 0] = 0 := by
  unfold fe
  rw [num51]
  exact toK_lit0
theorem ld_start (u : K) (k LU : List Int) (hl : Lw m1 LU) (hf : fe LU = u) : LD (lad u k 0) [1, 0, 0, 0, 0] [0, 0, 0, 0, 0] LU [1, 0, 0, 0, 0] := by
  have h1 : Lw m1 [1, 0, 0, 0, 0] := by
    unfold m1
    exact Lw.of (by omega) (by omega) (by omega) (by omega) (by omega)
  have h0 : Lw m1 [0, 0, 0, 0, 0] := by
    unfold m1
    exact Lw.of (by omega) (by omega) (by omega) (by omega) (by omega)
  exact ⟨h1, h0, hl, h1, fe_one, fe_zero, hf, fe_one⟩
def stM (k : Nat) (b : List Bool) : Array Bool := #[true, true, true, true, true, b.getD 0 false, b.getD 1 false, false, false]

set_option maxHeartbeats 3200000 in
set_option maxRecDepth 100000 in
theorem mult_any (p q : Option Addr) (c d : Nat) (s t : List Int) (w : World) (hs : Byt w p 32 c s) (ht : Byt w q 32 d t) :
    Calls Try.prog 7 #[.slice p 32 c, .slice q 32 d] w fun e w' => ∃ g, e = .returned (.tuple #[.slice (some ⟨g, 0, none⟩) 32 32, .int .i64 0]) ∧ w.heap.size ≤ g ∧ Wb w' g 5 (mulB s t) ∧ Below w.heap.size w w' := by
  have HNO := hidden (fun W (hW : Below w.heap.size w W) => numberOf_any p c s W (hs.below hW))
  have HEL := hidden (fun W (hW : Below w.heap.size w W) => elementOf_any q d t W (ht.below hW))
  have HKL : Is (clampK s).length 32 := ⟨by rw [clampK_len, hs.len]⟩
  have HKR := hidden (clampK_rng s hs.rng hs.len)
  have hu : toK (num 256 t % 2 ^ 255) = uK t := rfl
  rw [hu] at HEL
  have HMB : Is (outK (endK (uK t) (clampK s))) (mulB s t) := ⟨rfl⟩
  rw [← HMB.eq]
  generalize uK t = u at *
  generalize clampK s = k at *
  clear hs ht hu HMB
  have HIK : Hid ((Try.prog.info? 38).map (·.size) = some ((k.map (Value.int .u8)).toArray).size) := by show _ = _; rw [info32]; simp [HKL.eq]
  have HZK : Hid ((((List.replicate 32 (0 : Int)).map (Value.int .u8)).toArray).size = ((k.map (Value.int .u8)).toArray).size) := by show _ = _; simp [HKL.eq]
  go_enter Try.func7, Try.ntmps7
  go_upto_region 3 with fail
  go_upto_region 4 with (first
    | (go_at_call 14; (with_reducible refine (HNO.out _ (Below.refl _ _)).mono ?_); rintro e1 w1 ⟨rfl, hb1⟩; have HB1 := hidden hb1; clear hb1)
    | (go_at_call 15; (with_reducible refine (HEL.out w1 HB1.out).mono ?_); rintro e2 w2 ⟨LU, rfl, hlu, hfu, hb2⟩; have HB2 := hidden (HB1.out.trans (hb2.mono HB1.out.size)); have HLU := hidden hlu; have HFU := Is.mk hfu; have HIU := hidden (infoE LU hlu.len); have HZU := hidden (zero5 LU hlu.len); clear hb2 hlu hfu)
    | (refine wpList_store_row rfl 38 _ _ rfl w2.heap.size ((k.map (Value.int .u8)).toArray) rfl rfl 38 _ (heap_1st w2 (((List.replicate 32 (0 : Int)).map (Value.int .u8)).toArray) 38 _) HIK.out HZK.out (one8 k) ?_)
    | (refine wpList_store_row rfl 42 _ _ rfl (w2.heap.size + 1) (ints .u64 LU) rfl rfl 42 _ (heap_two w2 _ (.cells (ints .u64 (List.replicate 5 0)) 42) _) HIU.out HZU.out (onek .u64 LU) ?_)
    | fail)
  generalize hw3 : World.setRow _ (w2.heap.size + 1) _ = w3
  have hwn : w.heap.size ≤ w2.heap.size := HB2.out.size
  obtain ⟨n, hn⟩ : ∃ n, w.heap.size = n := ⟨_, rfl⟩
  obtain ⟨m, hm⟩ : ∃ m, w2.heap.size = m := ⟨_, rfl⟩
  have hk3 : Wb w3 m 38 k := by
    rw [← hw3, ← hm]
    refine Wb.rowOther ?_ _ _ (by omega)
    exact ⟨setRow_heap _ _ _ _ _ _ (heap_1st w2 (((List.replicate 32 (0 : Int)).map (Value.int .u8)).toArray) 38 _)⟩
  have hu3 : Wn .u64 w3 (m + 1) 42 LU := by
    rw [← hw3, ← hm]
    exact ⟨setRow_heap _ _ _ _ _ _ (heap_two w2 _ (.cells (ints .u64 (List.replicate 5 0)) 42) _)⟩
  have hb3 : Below n w w3 := by
    rw [← hw3, ← hn]
    exact below_setRow (below_setRow ((HB2.out.alloc hwn _).alloc (by simp; omega) _) hwn _) (by omega) _
  clear hw3
  simp only [hm] at hwn ⊢
  rw [hn] at hwn
  have HK3 := hidden hk3
  have HU3 := hidden hu3
  have HB3 := hidden hb3
  have HWN := hidden hwn
  clear hk3 hu3 hb3 hm HNO HEL HB1 HB2 hwn HIK HZK
  have HFU2 := HFU
  obtain ⟨u0, u1, u2, u3, u4, hfive⟩ := five LU HLU.out.len
  have HBD := hidden ((Below.refl w3.heap.size w3).drew)
  refine region_C 7 (fun U => Below w3.heap.size w3 U) (fun _ => True) (by kernel_rfl) HBD.out trivial (fun hS0 _ => ?_)
  refine anyC_take (i := 0) (v := .agg (ints .u64 [1, 0, 0, 0, 0])) rfl rfl (by decide) (by kernel_rfl) (by kernel_rfl) (by kernel_rfl) (fun _ _ _ h => h) (Or.inl ⟨by rfl, ?_⟩) hS0 (fun _ => trivial) ?_
  · intro w0 _; kernel_rfl
  refine anyC_take (i := 1) (v := .agg (ints .u64 ([1, 0, 0, 0, 0] ++ [0, 0, 0, 0, 0]))) rfl rfl (by decide) (by kernel_rfl) (by kernel_rfl) (by kernel_rfl) (fun _ _ _ h => h) (Or.inl ⟨by rfl, ?_⟩) hS0 (fun _ => trivial) ?_
  · intro w0 _; kernel_rfl
  refine anyC_take (i := 2) (v := .agg (ints .u64 LU)) rfl rfl (by decide) (by kernel_rfl) (by kernel_rfl) (by kernel_rfl) (fun _ _ _ h => h) (Or.inl ⟨by rfl, ?_⟩) hS0 (fun _ => trivial) ?_
  · rintro w0 hb0
    exact fl_load 42 _ rfl (m + 1) 0 (by kernel_rfl) 42 _ _ (0, 0) _ (HU3.out.below hb0).heap Try.underlying42 rfl HIU.out (fun j v h => part_all _ _ j v h)
  refine anyC_take (i := 3) (v := .agg (ints .u64 [1, 0, 0, 0, 0])) rfl rfl (by decide) (by kernel_rfl) (by kernel_rfl) (by kernel_rfl) (fun _ _ _ h => h) (Or.inl ⟨by rfl, ?_⟩) hS0 (fun _ => trivial) ?_
  · intro w0 _; kernel_rfl
  refine anyC_take (i := 4) (v := .agg (ints .u64 (LU ++ [1, 0, 0, 0, 0]))) rfl rfl (by decide) (by kernel_rfl) (by kernel_rfl) (by kernel_rfl) (fun _ _ _ h => h) (Or.inl ⟨by rfl, ?_⟩) hS0 (fun _ => trivial) ?_
  · intro w0 _; subst hfive; kernel_rfl
  clear hS0
  generalize hl0 : Array.setIfInBounds (α := Bool) _ _ _ = l0
  generalize hA0 : Act.put _ _ _ = A0
  refine anyC_run w3 .u64 45 (List.replicate 10 0) 0 2 stM (fun v p => ((A0.put (some 8) (p 0)).put (some 9) (p 1))) (fun k x => True) [] [5, 6] (by kernel_rfl) (fun U hb => ⟨hb, trivial⟩) ?_ ?_ ?_ l0 A0 (fun _ => undef) (fun _ => undef) (by rw [← hl0]; kernel_rfl) (by subst hA0; kernel_rfl) w3.drew HBD.out _ (by subst hl0; decide +kernel)
  · intro k v p U hk; exact absurd hk (Nat.not_lt_zero _)
  · intro j v p U hj Φ h
    have h3 : j = 0 ∨ j = 1 := by omega
    rcases h3 with rfl | rfl
    · refine wpOp_step rfl (fun K' hK => ?_)
      refine fl_exec rfl (v := .pointer (some ⟨U.heap.size, 0, none⟩)) (w' := U.alloc (.cells (ints .u64 (List.replicate 10 0)) 45)) (by kernel_rfl) (hK _ _ ?_)
      have e2 : ((A0.put (some 8) (p 0)).put (some 9) (p 1)).put (some 8) (.pointer (some ⟨U.heap.size, 0, none⟩)) = ((A0.put (some 8) (.pointer (some ⟨U.heap.size, 0, none⟩))).put (some 9) (p 1)) := by subst hA0; kernel_rfl
      exact (congrArg (fun a => Φ a _) e2).mpr h
    · refine wpOp_step rfl (fun K' hK => ?_)
      refine fl_exec rfl (v := .pointer (some ⟨U.heap.size, 0, none⟩)) (w' := U.alloc (.cells (ints .u64 (List.replicate 10 0)) 45)) (by kernel_rfl) (hK _ _ ?_)
      have e2 : ((A0.put (some 8) (p 0)).put (some 9) (p 1)).put (some 9) (.pointer (some ⟨U.heap.size, 0, none⟩)) = ((A0.put (some 8) (p 0)).put (some 9) (.pointer (some ⟨U.heap.size, 0, none⟩))) := by subst hA0; kernel_rfl
      exact (congrArg (fun a => Φ a _) e2).mpr h
  intro v pp U hr hb hp hne n0 hn0
  obtain ⟨g8, d0, hg0, hz0⟩ := hp 0 (by decide)
  obtain ⟨g9, d1, hg1, hz1⟩ := hp 1 (by decide)
  have hne01 : g8 ≠ g9 := fun e => hne 0 1 (by decide) (by decide) (by decide) (by rw [d0, d1, e])
  obtain ⟨n0, rfl⟩ : ∃ m, n0 = m + 2 := ⟨n0 - 2, by have : cnt (stM 0 (bitsOf 2 fun _ => true)) = 2 := (by decide +kernel); omega⟩
  simp only [d0, d1]
  have HZ0 := hidden hz0
  have HZ1 := hidden hz1
  have HB0 := hidden hb
  have HG0 := hidden hg0
  have HG1 := hidden hg1
  clear hr hp hne hn0 d0 d1 hz0 hz1 hb hg0 hg1
  have HV8 : Hid (([1, 0, 0, 0, 0] ++ [0, 0, 0, 0, 0] : List Int).length = 10) := rfl
  have HV9 : Hid ((LU ++ [1, 0, 0, 0, 0]).length = 10) := by show _ = _; rw [List.length_append, HLU.out.len]; rfl
  have HI8 := hidden (infoF _ HV8.out)
  have HI9 := hidden (infoF _ HV9.out)
  refine anyC_one (i := 7) (by kernel_rfl) rfl (fun K' hK => ?_)
  with_reducible refine fl_skip (w' := U.setRow g8 (ints .u64 ([1, 0, 0, 0, 0] ++ [0, 0, 0, 0, 0]))) ?_ ?_ ?_
  · rfl
  · exact fl_store 45 _ _ rfl g8 0 (ints .u64 ([1, 0, 0, 0, 0] ++ [0, 0, 0, 0, 0])) _ (by subst hA0; kernel_rfl) (by subst hA0; kernel_rfl) 45 _ HZ0.out.heap HI8.out (by rw [ints_size, ints_size]; decide) (onek .u64 _) (patch_all _ _ _ (by simp))
  refine hK.out _ _ (below_setRow HB0.out HG0.out _) (fun _ => trivial) ?_
  clear hK K'
  replace HB0 := hidden (below_setRow HB0.out HG0.out (ints .u64 ([1, 0, 0, 0, 0] ++ [0, 0, 0, 0, 0])))
  have HN0 := hidden (HZ0.out.row ([1, 0, 0, 0, 0] ++ [0, 0, 0, 0, 0]))
  replace HZ1 := hidden (HZ1.out.rowOther g8 (ints .u64 ([1, 0, 0, 0, 0] ++ [0, 0, 0, 0, 0])) (Ne.symm hne01))
  generalize World.setRow U _ _ = U1 at *
  refine anyC_one (i := 8) (by kernel_rfl) rfl (fun K' hK => ?_)
  with_reducible refine fl_skip (w' := U1.setRow g9 (ints .u64 (LU ++ [1, 0, 0, 0, 0]))) ?_ ?_ ?_
  · rfl
  · exact fl_store 45 _ _ rfl g9 0 (ints .u64 (LU ++ [1, 0, 0, 0, 0])) _ (by subst hA0; kernel_rfl) (by subst hA0; kernel_rfl) 45 _ HZ1.out.heap HI9.out (by rw [ints_size, ints_size, HV9.out]; decide) (onek .u64 _) (patch_all _ _ _ (by rw [HV9.out]; rfl))
  refine hK.out _ _ (below_setRow HB0.out HG1.out _) (fun _ => trivial) ?_
  clear hK K'
  replace HB0 := hidden (below_setRow HB0.out HG1.out (ints .u64 (LU ++ [1, 0, 0, 0, 0])))
  replace HN0 := hidden (HN0.out.rowOther g9 (ints .u64 (LU ++ [1, 0, 0, 0, 0])) hne01)
  have HN1 := hidden (HZ1.out.row (LU ++ [1, 0, 0, 0, 0]))
  generalize World.setRow U1 _ _ = U2 at *
  refine anyC_done (by kernel_rfl) ?_ _
  subst hA0
  have HD : Hid (MD n m (m + 1) g8 g9) := by
    have h1 := HG0.out
    have h2 := HG1.out
    have h3 := HU3.out.lt
    have h4 := HWN.out
    exact ⟨by omega, by omega, by omega, by omega, by omega, by omega, hne01⟩
  have HI0 : Hid (MI w U2 n m (m + 1) g8 g9 k LU ([1, 0, 0, 0, 0] ++ [0, 0, 0, 0, 0]) (LU ++ [1, 0, 0, 0, 0])) := ⟨HK3.out.below HB0.out, HU3.out.below HB0.out, HN0.out, HN1.out, HB3.out.trans (HB0.out.mono (by have := HB3.out.size; omega))⟩
  have HWS := Is.mk hn
  clear hn HK3 HU3 HB3 HB0 HN0 HN1 HZ0 HZ1 HG0 HG1 HBD hne01 hfive hl0 HV8 HV9 HI8 HI9
  go_wp2
  go_loopw [10] (fun i wr => ∃ (r : Nat) (A B C D : List Int), r ≤ 255 ∧ i = .int .i64 (254 - (r : Int)) ∧ LD (lad u k r) A B C D ∧ MI w wr n m (m + 1) g8 g9 k LU (A ++ B) (C ++ D)) (fun i _ => (intOf i + 1).toNat)
  case atStart => exact ⟨0, [1, 0, 0, 0, 0], [0, 0, 0, 0, 0], LU, [1, 0, 0, 0, 0], by omega, rfl, ld_start u k LU HLU.out HFU.eq, HI0.out⟩
  case round =>
    clear HI0
    obtain ⟨r, A, B, C, D, hr, rfl, hld, hi⟩ := hrel
    have HI1 := hidden hi
    have HLD := hidden hld
    have HLV1 := hidden hld.lens
    clear hi hld
    by_cases hlt : r < 255
    · have b0 : (0 : Int) ≤ 254 - (r : Int) := by omega
      have hbt := bitOf_any (some ⟨m, 0, none⟩) 32 32 k wr (HI1.out.hk.byt 32 HKL.eq (by unfold maxLen; omega) HKR.out) (254 - r) (by omega)
      have ecast : ((254 - r : Nat) : Int) = 254 - (r : Int) := by omega
      rw [ecast] at hbt
      have HT := hidden (bitK_rng k (254 - r))
      have HLS := Is.mk (lad_succ u k r)
      have hbk : k.getD ((254 - r) / 8) 0 / 2 ^ ((254 - r) % 8) % 2 = bitK k (254 - r) := rfl
      rw [hbk] at hbt
      have HBT := hidden hbt
      generalize bitK k (254 - r) = T at *
      clear hbt ecast hbk
      go_upto_region 9 with (first
        | (go_at_call 16; (with_reducible refine (HBT.out).mono ?_); rintro e0 v0 ⟨rfl, rfl⟩)
        | fail)
      · -- the exchange
        have HLD2 := hidden (HLD.out.swp T)
        have HLV2 := hidden HLD2.out.lens
        have HX1 := hidden (fun W => cexch_any T A B C D m1 HT.out HLD.out.la HLD.out.lb HLD.out.lc HLD.out.ld (by decide) W)
        have HA1 := hidden (infoF _ (show (A ++ B).length = 10 from HLV1.out.1))
        have HC1 := hidden (infoF _ (show (C ++ D).length = 10 from HLV1.out.2))
        go_upto_region 10 with (first
          | (refine wpList_load_row rfl 45 _ rfl g8 rfl 45 _ (0, 0) _ HI1.out.h8.heap Try.underlying45 rfl HA1.out ?_)
          | (refine wpList_load_row rfl 45 _ rfl g9 rfl 45 _ (0, 0) _ HI1.out.h9.heap Try.underlying45 rfl HC1.out ?_)
          | (go_at_call 17; (with_reducible refine (HX1.out _).mono ?_); rintro e1 v1 ⟨rfl, hbb⟩; have HJ1 := hidden (HI1.out.below HD.out hbb);  clear hbb)
          | (refine wpList_store_row rfl 45 _ _ rfl g8 (ints .u64 (selL T A C ++ selL T B D)) rfl rfl 45 _ HJ1.out.h8.heap (infoF _ HLV2.out.1) (by rw [ints_size, ints_size, HLV1.out.1, HLV2.out.1]) (onek .u64 _) ?_)
          | (refine wpList_store_row rfl 45 _ _ rfl g9 (ints .u64 (selL T C A ++ selL T D B)) rfl rfl 45 _ (HJ1.out.set8 HD.out (selL T A C ++ selL T B D)).h9.heap (infoF _ HLV2.out.2) (by rw [ints_size, ints_size, HLV1.out.2, HLV2.out.2]) (onek .u64 _) ?_)
          | fail)
        have HI2 := hidden ((HJ1.out.set8 HD.out (selL T A C ++ selL T B D)).set9 HD.out (selL T C A ++ selL T D B))
        clear HI1 HJ1 HA1 HC1 HLV1
        generalize World.setRow (World.setRow v1 _ _) _ _ = x2 at *
        generalize selL T A C = A1 at *
        generalize selL T B D = B1 at *
        generalize selL T C A = C1 at *
        generalize selL T D B = D1 at *
        clear HLD HX1
        -- the step
        have HX2 := hidden (fun W => cstep_any LU A1 B1 C1 D1 HLU.out HLD2.out.la HLD2.out.lb HLD2.out.lc HLD2.out.ld W)
        have HLV3A := hidden HLD2.out
        have HA2 := hidden (infoF _ (show (A1 ++ B1).length = 10 from HLV2.out.1))
        have HC2 := hidden (infoF _ (show (C1 ++ D1).length = 10 from HLV2.out.2))
        go_upto_region 11 with (first
          | (refine wpList_load_row rfl 45 _ rfl g8 rfl 45 _ (0, 0) _ HI2.out.h8.heap Try.underlying45 rfl HA2.out ?_)
          | (refine wpList_load_row rfl 45 _ rfl g9 rfl 45 _ (0, 0) _ HI2.out.h9.heap Try.underlying45 rfl HC2.out ?_)
          | (refine wpList_load_row rfl 42 _ rfl (m + 1) rfl 42 _ (0, 0) _ HI2.out.hu.heap Try.underlying42 rfl HIU.out ?_)
          | (go_at_call 18; (with_reducible refine (HX2.out _).mono ?_); rintro e2 v2 ⟨R1, R2, R3, R4, rfl, l1, l2, l3, l4, f1, f2, f3, f4, hbb⟩; have HJ2 := hidden (HI2.out.below HD.out hbb); have HLD3 := hidden (HLD2.out.stp HFU.eq l1 l2 l3 l4 f1 f2 f3 f4); have HLV3 := hidden HLD3.out.lens; clear l1 l2 l3 l4 f1 f2 f3 f4; clear hbb)
          | (refine wpList_store_row rfl 45 _ _ rfl g8 (ints .u64 (R1 ++ R2)) rfl rfl 45 _ HJ2.out.h8.heap (infoF _ HLV3.out.1) (by rw [ints_size, ints_size, HLV2.out.1, HLV3.out.1]) (onek .u64 _) ?_)
          | (refine wpList_store_row rfl 45 _ _ rfl g9 (ints .u64 (R3 ++ R4)) rfl rfl 45 _ (HJ2.out.set8 HD.out (R1 ++ R2)).h9.heap (infoF _ HLV3.out.2) (by rw [ints_size, ints_size, HLV2.out.2, HLV3.out.2]) (onek .u64 _) ?_)
          | fail)
        have HI3 := hidden ((HJ2.out.set8 HD.out (R1 ++ R2)).set9 HD.out (R3 ++ R4))
        clear HI2 HJ2 HA2 HC2 HLV2
        generalize World.setRow (World.setRow v2 _ _) _ _ = x3 at *
        clear HLD2 HX2 HLV3A
        -- the exchange
        have HLD4 := hidden (HLD3.out.swp T)
        have HLV4 := hidden HLD4.out.lens
        have HX3 := hidden (fun W => cexch_any T R1 R2 R3 R4 m1 HT.out HLD3.out.la HLD3.out.lb HLD3.out.lc HLD3.out.ld (by decide) W)
        have HA3 := hidden (infoF _ (show (R1 ++ R2).length = 10 from HLV3.out.1))
        have HC3 := hidden (infoF _ (show (R3 ++ R4).length = 10 from HLV3.out.2))
        go_upto_region 7 with (first
          | (refine wpList_load_row rfl 45 _ rfl g8 rfl 45 _ (0, 0) _ HI3.out.h8.heap Try.underlying45 rfl HA3.out ?_)
          | (refine wpList_load_row rfl 45 _ rfl g9 rfl 45 _ (0, 0) _ HI3.out.h9.heap Try.underlying45 rfl HC3.out ?_)
          | (go_at_call 17; (with_reducible refine (HX3.out _).mono ?_); rintro e3 v3 ⟨rfl, hbb⟩; have HJ3 := hidden (HI3.out.below HD.out hbb);  clear hbb)
          | (refine wpList_store_row rfl 45 _ _ rfl g8 (ints .u64 (selL T R1 R3 ++ selL T R2 R4)) rfl rfl 45 _ HJ3.out.h8.heap (infoF _ HLV4.out.1) (by rw [ints_size, ints_size, HLV3.out.1, HLV4.out.1]) (onek .u64 _) ?_)
          | (refine wpList_store_row rfl 45 _ _ rfl g9 (ints .u64 (selL T R3 R1 ++ selL T R4 R2)) rfl rfl 45 _ (HJ3.out.set8 HD.out (selL T R1 R3 ++ selL T R2 R4)).h9.heap (infoF _ HLV4.out.2) (by rw [ints_size, ints_size, HLV3.out.2, HLV4.out.2]) (onek .u64 _) ?_)
          | fail)
        have HI4 := hidden ((HJ3.out.set8 HD.out (selL T R1 R3 ++ selL T R2 R4)).set9 HD.out (selL T R3 R1 ++ selL T R4 R2))
        clear HI3 HJ3 HA3 HC3 HLV3
        generalize World.setRow (World.setRow v3 _ _) _ _ = x4 at *
        rw [← HLS.eq] at HLD4
        go_wp2
        go_roundw
        case rel => exact ⟨r + 1, _, _, _, _, by omega, by go_num, HLD4.out, HI4.out⟩
        case measure => simp [intOf]; omega
    · have hre : r = 255 := by omega
      have b0 : ¬ (0 : Int) ≤ 254 - (r : Int) := by omega
      rw [hre] at HLD
      clear hre
      have HIE := hidden (infoE A HLD.out.la.len)
      have HIF := hidden (infoE B HLD.out.lb.len)
      have HLA := Is.mk HLD.out.la.len
      go_upto_region 12 with fail
      have HBD := hidden ((Below.refl wr.heap.size wr).drew)
      refine region_C 7 (fun U => Below wr.heap.size wr U) (fun _ => True) (by kernel_rfl) HBD.out trivial (fun hS0 _ => ?_)
      refine anyC_take (i := 0) (v := .pointer (some ⟨g8, 0, none⟩)) rfl rfl (by decide) (by kernel_rfl) (by kernel_rfl) (by kernel_rfl) (fun _ _ _ h => h) (Or.inl ⟨by rfl, ?_⟩) hS0 (fun _ => trivial) ?_
      · intro w0 _; kernel_rfl
      refine anyC_take (i := 1) (v := .agg (ints .u64 A)) rfl rfl (by decide) (by kernel_rfl) (by kernel_rfl) (by kernel_rfl) (fun _ _ _ h => h) (Or.inl ⟨by rfl, ?_⟩) hS0 (fun _ => trivial) ?_
      · rintro w0 hb0
        exact fl_load 42 _ rfl g8 0 (by kernel_rfl) 45 _ _ (0, 0) _ (HI1.out.h8.below hb0).heap Try.underlying42 rfl HIE.out (fun j v h => part_l _ _ _ j v h)
      refine anyC_take (i := 2) (v := .pointer (some ⟨g8, 5, none⟩)) rfl rfl (by decide) (by kernel_rfl) (by kernel_rfl) (by kernel_rfl) (fun _ _ _ h => h) (Or.inl ⟨by rfl, ?_⟩) hS0 (fun _ => trivial) ?_
      · intro w0 _; kernel_rfl
      refine anyC_take (i := 3) (v := .agg (ints .u64 B)) rfl rfl (by decide) (by kernel_rfl) (by kernel_rfl) (by kernel_rfl) (fun _ _ _ h => h) (Or.inl ⟨by rfl, ?_⟩) hS0 (fun _ => trivial) ?_
      · rintro w0 hb0
        exact fl_load 42 _ rfl g8 5 (by kernel_rfl) 45 _ _ (0, 0) _ (HI1.out.h8.below hb0).heap Try.underlying42 rfl HIF.out (fun j v h => part_r _ _ _ 5 j v HLA.eq h)
      clear hS0
      obtain ⟨V0, hV0⟩ : ∃ V, V = wr.drew := ⟨_, rfl⟩
      rw [← hV0] at HBD ⊢
      clear hV0
      refine anyC_one (i := 4) (by kernel_rfl) rfl (fun K' hK => ?_)
      refine fl_call rfl (f := 21) (args := #[.agg (ints .u64 B)]) (R := fun v w' => ∃ R, v = .agg (ints .u64 R) ∧ Lw m1 R ∧ fe R = kinv (fe B) ∧ Below V0.heap.size V0 w') (by kernel_rfl) ((cinv_any B HLD.out.lb V0).mono (by rintro e w' ⟨R, rfl, h1, h2, h3⟩; exact ⟨_, rfl, R, rfl, h1, h2, h3⟩)) ?_
      rintro x4 V1 ⟨RI, rfl, hl4, hf4, hb4⟩
      have HB1 := hidden (HBD.out.trans (hb4.mono HBD.out.size))
      have HL4 := hidden hl4
      have HF4 := Is.mk hf4
      refine hK.out _ _ HB1.out (fun _ => trivial) ?_
      clear hK K' hl4 hf4 hb4 HBD
      refine anyC_one (i := 5) (by kernel_rfl) rfl (fun K' hK => ?_)
      refine fl_call rfl (f := 20) (args := #[.agg (ints .u64 A), .agg (ints .u64 RI)]) (by kernel_rfl) (prod_c A RI HLD.out.la.up HL4.out.up V1) ?_
      rintro x5 V2 ⟨⟨RP, rfl, hl5, hf5⟩, hb5⟩
      have HB2 := hidden (HB1.out.trans (hb5.mono HB1.out.size))
      have HL5 := hidden hl5
      rw [HF4.eq, HLD.out.fa, HLD.out.fb] at hf5
      have HF5 : Is (fe RP) (endK u k) := ⟨hf5⟩
      refine hK.out _ _ HB2.out (fun _ => trivial) ?_
      clear hK K' hl5 hf5 hb5 HB1
      refine anyC_one (i := 6) (by kernel_rfl) rfl (fun K' hK => ?_)
      refine fl_call rfl (f := 19) (args := #[.agg (ints .u64 RP)]) (R := fun v w' => ∃ g, v = .slice (some ⟨g, 0, none⟩) 32 32 ∧ V2.heap.size ≤ g ∧ Wb w' g 5 (outK (fe RP)) ∧ Below V2.heap.size V2 w') (by kernel_rfl) ((bytesOf_any RP HL5.out V2).mono (by rintro e w' ⟨g, rfl, h1, h2, h3⟩; exact ⟨_, rfl, g, rfl, h1, h2, h3⟩)) ?_
      rintro x6 V3 ⟨go, rfl, hg6, hw6, hb6⟩
      have HB3 := hidden (HB2.out.trans (hb6.mono HB2.out.size))
      rw [HF5.eq] at hw6
      have HW6 := hidden hw6
      have HG6 : Hid (n ≤ go) := by
        have h1 := HB2.out.size
        have h2 := HI1.out.bel.size
        have h3 := HD.out.n8
        have h4 := HI1.out.h8.lt
        show n ≤ go
        omega
      have HBE : Hid (Below n w V3) := hidden (HI1.out.bel.trans (HB3.out.mono (by have h3 := HD.out.n8; have h4 := HI1.out.h8.lt; omega)))
      refine hK.out _ _ HB3.out (fun _ => trivial) ?_
      clear hK K' hg6 hw6 hb6 HB2
      refine anyC_one (i := 7) (by kernel_rfl) rfl (fun K' hK => ?_)
      refine fl_exec rfl (v := .slice (some ⟨go, 0, none⟩) 32 32) (w' := V3) (by kernel_rfl) (hK.out _ _ HB3.out (fun _ => trivial) ?_)
      clear hK K'
      refine anyC_one (i := 8) (by kernel_rfl) rfl (fun K' hK => ?_)
      refine fl_exec rfl (v := .int .i64 0) (w' := V3) (by kernel_rfl) (hK.out _ _ HB3.out (fun _ => trivial) ?_)
      clear hK K'
      refine anyC_done (by kernel_rfl) ?_ _
      clear HI1 HB3
      go_wp2
      go_ret2
      exact ⟨go, rfl, by rw [HWS.eq]; exact HG6.out, HW6.out, by rw [HWS.eq]; exact HBE.out⟩
set_option maxHeartbeats 800000 in
/-- Where one of the lengths is not 32. -/
theorem mult_no (p q : Option Addr) (n1 n2 c d : Nat) (w : World) (h : n1 ≠ 32 ∨ n2 ≠ 32) :
    Calls Try.prog 7 #[.slice p n1 c, .slice q n2 d] w fun e w' => e = .returned (.tuple #[.slice none 0 0, .int .i64 2]) ∧ w' = w := by
  by_cases h1 : n1 = 32
  · subst h1
    have h2 : ((n2 : Int) != 32) = true := by simp; omega
    have h0 : (((32 : Nat) : Int) != 32) = false := rfl
    clear h
    go_enter Try.func7, Try.ntmps7
    go_wp2
    go_ret2
    exact ⟨rfl, rfl⟩
  · have h2 : ((n1 : Int) != 32) = true := by simp; omega
    clear h
    go_enter Try.func7, Try.ntmps7
    go_wp2
    go_ret2
    exact ⟨rfl, rfl⟩
end Go.Proofs.Ytilnbmlbahflkaa
