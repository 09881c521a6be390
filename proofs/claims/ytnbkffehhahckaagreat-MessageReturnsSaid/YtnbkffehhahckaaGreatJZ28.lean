/-
  message.Parse told whole where the header and the chain are read.
  The payloads that are read out of a message that was written, beside those that it was made of.
  The document's Same of messages: of two whose headers are one and whose payloads are the same.
  The law MessageReturns, walked: it returns true for every input, and only adds memory of its own.
-/
import Derived.Test.YtnbkffehhahckaaGreatJZ27
import Derived.Test.YtnbkffehhahckaaGreatJMsgBuildX
import Derived.Test.YtnbkffehhahckaaGreatJZ12
import Derived.Test.YtnbkffehhahckaaGreatJZ13
import Derived.Test.YtnbkffehhahckaaGreatJZ0
namespace Go.Proofs.YtnbkffehhahckaaGreat
open Go.RowKit
set_option linter.unusedVariables false
set_option linter.unusedSimpArgs false
theorem ReadX.form {w : World} {i r nx x f m : Int} {rs : List Raw} {e : Ending} {w' : World} (h : ReadX w i r nx x f m rs e w') :
    ∃ (i' r' nx' x' f' m' : Int) (q : Option Addr) (n d : Nat) (E : Int), e = .returned (.tuple #[.agg #[.int .u64 i', .int .u64 r', .int .i64 nx', .int .i64 x', .int .i64 f', .int .u32 m', .slice q n d], .int .i64 E]) := by
  obtain ⟨-, ⟨E, -, -, rfl, -⟩ | ⟨-, Y, q, d, rfl, -⟩⟩ := h
  · exact ⟨_, _, _, _, _, _, _, _, _, _, rfl⟩
  · exact ⟨_, _, _, _, _, _, _, _, _, _, rfl⟩
theorem ReadX.after {w w3 : World} {i r nx x f m : Int} {rs : List Raw} {e : Ending} {w' w'' : World} (h : ReadX w3 i r nx x f m rs e w') (hb : Below w.heap.size w w'') (hs : w.heap.size ≤ w3.heap.size) (hk : Kpt w' w'' w3.heap.size) : ReadX w i r nx x f m rs e w'' := by
  refine ⟨hb, ?_⟩
  rcases h.2 with ⟨E, h1, h2, h3, h4⟩ | ⟨h1, Y, q, d, h2, h3, h4, h5, h6⟩
  · refine Or.inl ⟨E, h1, h2, h3, ?_⟩
    rcases h4 with h4 | ⟨h4, Y, h5, h6, h7⟩
    · exact Or.inl h4
    · exact Or.inr ⟨h4, Y, h5, fun y hy => ⟨(h6 y hy).1, fun W hW => (h6 y hy).2 W (hk.trans (hW.mono hs))⟩, h7⟩
  · exact Or.inr ⟨h1, Y, q, d, h2, fun W hW => h3 W (hk.trans (hW.mono hs)), h4, fun y hy => ⟨(h5 y hy).1, fun W hW => (h5 y hy).2 W (hk.trans (hW.mono hs))⟩, h6⟩
set_option maxHeartbeats 6400000 in
set_option maxRecDepth 100000 in
theorem mparseX (p : Option Addr) (n c : Nat) (xs : List Int) (w : World) (h : Byt w p n c xs) (hn : n ≤ 8192) (i r nx x f m : Int) (hP : parseR xs = (⟨i, r, nx, x, f, m⟩, 0)) (rs : List Raw) (hC : parseTop nx (xs.drop 28) = ⟨rs, 0, 0⟩) :
    Calls Tryz.prog 9 #[.slice p n c] w (ReadX w i r nx x f m rs) := by
  have hle := h.le
  have hcap := h.cap
  have hlen := h.len
  have HY := hidden h
  have HM0 := hidden (MIn.new w 0 0 0 0 0 0 (.slice none 0 0) 30)
  have HB0 := hidden ((Below.refl w.heap.size w).alloc (Nat.le_refl _) (.cells #[.int .u64 0, .int .u64 0, .int .i64 0, .int .i64 0, .int .i64 0, .int .u32 0, .slice none 0 0] 30))
  have HRG := hidden h.rng
  have hbig : ¬ 8192 < n := by omega
  · have hbI : ¬ (8192 : Int) < (n : Int) := by omega
    have h28 := parseR_len xs (by rw [hP])
    have HPH := hidden (fun W (hW : Below w.heap.size w W) => parse_any p n c xs W (h.below hW))
    have HXX := hidden (parseR_x xs h.rng)
    unfold Parsed at HPH
    rw [hP] at HPH HXX
    simp only at HPH HXX
    clear h hP
    have HCC := hidden hC
    clear hC
    go_enter Tryz.func9, Tryz.ntmps9
    go_upto_region 1 with fail
    generalize World.alloc w _ = w0 at *
    go_upto_region 4 with (first
      | (go_at_call 21; (with_reducible refine (HPH.out _ HB0.out).mono ?_); rintro e w1 ⟨rfl, hb⟩; have HM1 := hidden (HM0.out.below hb); have HB1 := hidden (HB0.out.trans (hb.mono HB0.out.size)); clear hb HPH HM0 HB0)
      | fail)
    have HH := hidden (HdrIn.new w1 i r nx x f m 27)
    have hal := (Below.refl w1.heap.size w1).alloc (Nat.le_refl _) (.cells #[.int .u64 i, .int .u64 r, .int .i64 nx, .int .i64 x, .int .i64 f, .int .u32 m] 27)
    have HM2 := hidden (HM1.out.below hal)
    have HB2 := hidden (HB1.out.trans (hal.mono HB1.out.size))
    generalize World.alloc w1 _ = w2 at *
    generalize w1.heap.size = G at *
    clear HM1 HB1 hal
    · skip
      have h28I : (28 : Int) ≤ (n : Int) := by omega
      have HYD := hidden (fun W (hW : Below w.heap.size w W) => (by have h9 := (HY.out.below hW).part 28 n (by omega) (Nat.le_refl _); rw [List.take_of_length_le (by omega)] at h9; exact h9 : Byt W (if c = 28 then p else p.map (·.add 28)) (n - 28) (c - 28) (xs.drop 28)))
      have HRK := hidden (parseTop_ok 100000 nx (xs.drop 28) (fun z hz => HRG.out z (List.mem_of_mem_drop hz)) (by rw [List.length_drop]; omega))
      obtain ⟨bb, oo, rfl, -⟩ := HY.out.at_ (by omega)
      have hnc : (n : Int) ≤ (c : Int) := by omega
      have hc28 : (28 : Int) ≤ (c : Int) := by omega
      have HPC := hidden (fun W (hW : Below w.heap.size w W) => parseC_any _ (n - 28) (c - 28) (xs.drop 28) W (HYD.out W hW) (by omega) nx _ rfl)
      unfold ParsedC at HPC
      rw [HCC.out] at HPC HRK
      simp only at HRK HPC
      obtain ⟨c0, c1, c2, c3, c4, c5, -⟩ := HH.out
      simp only [Nat.zero_add] at c1 c2 c3 c4 c5
      go_upto_region 6 with fail
      have HBD : Hid (Below w2.heap.size w2 w2.drew) := hidden (drew_below ⟨1, rfl⟩)
      refine region_C 4 (fun w' => w'.cell? ⟨G, 2, none⟩ = some (.int .i64 nx)) (fun _ => True) (by kernel_rfl) (cell_below HBD.out _ _ c2) trivial (fun hS0 _ => ?_)
      refine anyC_take (i := 0) (v := .pointer (some ⟨G, 2, none⟩)) rfl rfl (by decide) (by kernel_rfl) (by kernel_rfl) (by kernel_rfl) (fun _ _ _ h => h) (Or.inl ⟨by rfl, fun w0 _ => by kernel_rfl⟩) hS0 (fun _ => trivial) ?_
      refine anyC_take (i := 2) (v := .slice (some ⟨bb, oo, none⟩) n c) rfl rfl (by decide) (by kernel_rfl) (by kernel_rfl) (by kernel_rfl) (fun _ _ _ h => h) (Or.inl ⟨by rfl, fun w0 _ => by kernel_rfl⟩) hS0 (fun _ => trivial) ?_
      (try simp only [Act.put, List.getElem_toArray, List.getElem_cons_zero, List.getElem_cons_succ, List.setIfInBounds_toArray, List.set_cons_zero, List.set_cons_succ])
      refine anyC_take (i := 1) (v := .int .i64 nx) rfl rfl (by decide) (by kernel_rfl) (by kernel_rfl) (by kernel_rfl) (fun _ _ _ h => h) (Or.inl ⟨by rfl, fun w0 h9 => by go_simp; (try with_reducible rfl); (try (intro h8; exact absurd h8 (by omega)))⟩) hS0 (fun _ => trivial) ?_
      (try simp only [Act.put, List.getElem_toArray, List.getElem_cons_zero, List.getElem_cons_succ, List.setIfInBounds_toArray, List.set_cons_zero, List.set_cons_succ])
      obtain ⟨ps, hps⟩ : ∃ q, (if c = 28 then some (⟨bb, oo, none⟩ : Addr) else (some (⟨bb, oo, none⟩ : Addr)).map (·.add 28)) = q := ⟨_, rfl⟩
      have HPS := hidden hps
      rw [hps] at HPC
      clear hps
      refine anyC_take (i := 3) (v := .slice ps (n - 28) (c - 28)) rfl rfl (by decide) (by kernel_rfl) (by kernel_rfl) (by kernel_rfl) (fun _ _ _ h => h) (Or.inl ⟨by rfl, fun w0 h9 => by have hps := HPS.out; go_simp; simpa [Addr.add] using hps⟩) hS0 (fun _ => trivial) ?_
      (try simp only [Act.put, List.getElem_toArray, List.getElem_cons_zero, List.getElem_cons_succ, List.setIfInBounds_toArray, List.set_cons_zero, List.set_cons_succ])
      clear hS0
      have HM3 := hidden (HM2.out.below HBD.out)
      have HHD := hidden (HH.out.below HBD.out)
      have HB3 := hidden (HB2.out.trans (HBD.out.mono HB2.out.size))
      obtain ⟨V0, hV0⟩ : ∃ V, V = w2.drew := ⟨_, rfl⟩
      rw [← hV0] at HM3 HHD HB3 ⊢
      clear hV0 HM2 HH HB2 HBD c0 c1 c2 c3 c4 c5
      refine anyC_one (i := 4) (by kernel_rfl) rfl (fun K' hK => ?_)
      refine fl_call1 rfl (f := 22) (args := #[.int .i64 nx, .slice ps (n - 28) (c - 28)]) (R := fun v w' => ∃ v0 l, v = .tuple #[v0, .int .i64 0, .int .i64 0] ∧ Rws w' V0.heap.size v0 l ∧ l.map RawP.raw = rs ∧ l.length ≤ 40 ∧ Below V0.heap.size V0 w') (by kernel_rfl) ((HPC.out _ HB3.out).mono (by rintro e w' ⟨v0, l, rfl, h1, h2, h3, h4⟩; exact ⟨_, rfl, v0, l, rfl, h1, h2, h3, h4⟩)) ?_
      rintro v w3 ⟨v0, l, rfl, hrw, hraw, hl40, hb3⟩
      obtain ⟨pv, cv, rfl, hrd⟩ := hrw.rd (rfl : l.length = l.length)
      have HRD := hidden hrd
      have HL4 := hidden hl40
      have HRA := hidden hraw
      have HH4 := hidden (HHD.out.below hb3)
      have HM4 := hidden (HM3.out.below hb3)
      have HB4 := hidden (HB3.out.trans (hb3.mono HB3.out.size))
      obtain ⟨c0, c1, c2, c3, c4, c5, -⟩ := HH4.out
      simp only [Nat.zero_add] at c1 c2 c3 c4 c5
      refine hK.out _ _ c2 (fun _ => trivial) ?_
      clear hK K' hrw hrd hraw hl40 hb3 HPC HM3 HHD HB3 HPS
      (try simp only [Act.put, List.getElem_toArray, List.getElem_cons_zero, List.getElem_cons_succ, List.setIfInBounds_toArray, List.set_cons_zero, List.set_cons_succ])
      refine anyC_take (i := 5) (v := .tuple #[.slice pv l.length cv, .int .i64 0, .int .i64 0]) rfl rfl (by decide) (by kernel_rfl) (by kernel_rfl) (by kernel_rfl) (fun _ _ _ h => h) (Or.inl ⟨by rfl, fun w0 _ => by kernel_rfl⟩) c2 (fun _ => trivial) ?_
      (try simp only [Act.put, List.getElem_toArray, List.getElem_cons_zero, List.getElem_cons_succ, List.setIfInBounds_toArray, List.set_cons_zero, List.set_cons_succ])
      refine anyC_take (i := 6) (v := .slice pv l.length cv) rfl rfl (by decide) (by kernel_rfl) (by kernel_rfl) (by kernel_rfl) (fun _ _ _ h => h) (Or.inl ⟨by rfl, fun w0 _ => by kernel_rfl⟩) c2 (fun _ => trivial) ?_
      refine anyC_take (i := 7) (v := .int .i64 0) rfl rfl (by decide) (by kernel_rfl) (by kernel_rfl) (by kernel_rfl) (fun _ _ _ h => h) (Or.inl ⟨by rfl, fun w0 _ => by kernel_rfl⟩) c2 (fun _ => trivial) ?_
      refine anyC_take (i := 8) (v := .int .i64 0) rfl rfl (by decide) (by kernel_rfl) (by kernel_rfl) (by kernel_rfl) (fun _ _ _ h => h) (Or.inl ⟨by rfl, fun w0 _ => by kernel_rfl⟩) c2 (fun _ => trivial) ?_
      (try simp only [Act.put, List.getElem_toArray, List.getElem_cons_zero, List.getElem_cons_succ, List.setIfInBounds_toArray, List.set_cons_zero, List.set_cons_succ])
      refine anyC_take (i := 9) (v := .slice pv l.length cv) rfl rfl (by decide) (by kernel_rfl) (by kernel_rfl) (by kernel_rfl) (fun _ _ _ h => h) (Or.inl ⟨by rfl, fun w0 _ => by kernel_rfl⟩) c2 (fun _ => trivial) ?_
      refine anyC_take (i := 10) (v := .int .i64 0) rfl rfl (by decide) (by kernel_rfl) (by kernel_rfl) (by kernel_rfl) (fun _ _ _ h => h) (Or.inl ⟨by rfl, fun w0 _ => by kernel_rfl⟩) c2 (fun _ => trivial) ?_
      refine anyC_take (i := 11) (v := .int .i64 0) rfl rfl (by decide) (by kernel_rfl) (by kernel_rfl) (by kernel_rfl) (fun _ _ _ h => h) (Or.inl ⟨by rfl, fun w0 _ => by kernel_rfl⟩) c2 (fun _ => trivial) ?_
      (try simp only [Act.put, List.getElem_toArray, List.getElem_cons_zero, List.getElem_cons_succ, List.setIfInBounds_toArray, List.set_cons_zero, List.set_cons_succ])
      refine anyC_done (by kernel_rfl) ?_ _
      clear c0 c1 c2 c3 c4 c5 HYD
      · skip
        have HRR := hidden (mreadX i r nx x f m HXX.out pv l.length cv l w3 HRD.out HL4.out (fun y hy => HRK.out y.raw (by rw [← HRA.out]; exact List.mem_map_of_mem hy)))
        rw [HRA.out] at HRR
        obtain ⟨c0, c1, c2, c3, c4, c5, -⟩ := HH4.out
        simp only [Nat.zero_add] at c1 c2 c3 c4 c5
        obtain ⟨a0, a1, a2, a3, a4, a5, a6, af⟩ := HM4.out
        have f0 := af 0
        have f1 := af 1
        have f2 := af 2
        have f3 := af 3
        have f4 := af 4
        have f5 := af 5
        have f6 := af 6
        clear af
        have hsz : w.heap.size < w3.heap.size := HM4.out.lt
        go_wp2_with (first
          | (go_at_call 23; (with_reducible refine (HRR.out).mono ?_); rintro e w4 hX; obtain ⟨i', r', nx', x', f', m', q', n', d', E', rfl⟩ := hX.form; have HX := hidden hX; have hb4 := hX.1; have HM5 := hidden (HM4.out.below hb4); have HB5 := hidden (HB4.out.trans (hb4.mono HB4.out.size)); clear hX hb4 HRR a0 a1 a2 a3 a4 a5 a6 f0 f1 f2 f3 f4 f5 f6 c0 c1 c2 c3 c4 c5; obtain ⟨a0, a1, a2, a3, a4, a5, a6, af⟩ := HM5.out; have f0 := af 0; have f1 := af 1; have f2 := af 2; have f3 := af 3; have f4 := af 4; have f5 := af 5; have f6 := af 6; clear af)
          | fail)
        exact ret_msg2 (g := w.heap.size) rfl rfl rfl rfl (HM5.out.setAll i' r' nx' x' f' m' (.slice q' n' d')) (HX.out.after (below_setAll HB5.out (Nat.le_refl _) _ _ _ _ _ _ _) HB4.out.size (kptAll _ _ hsz _ _ _ _ _ _ _))
end Go.Proofs.YtnbkffehhahckaaGreat

namespace Go.Proofs.YtnbkffehhahckaaGreat
open Go.RowKit
set_option linter.unusedVariables false
set_option linter.unusedSimpArgs false
def Twin (w : World) (t : PZ × PZ) : Prop := PvRk w t.1.1 t.1.2 ∧ PvRk w t.2.1 t.2.2 ∧ sameV t.1.1 t.1.2 t.2.1 t.2.2 = true
theorem Twin.below {w w' : World} {t : PZ × PZ} (h : Twin w t) (hb : Below w.heap.size w w') : Twin w' t := ⟨h.1.below hb, h.2.1.below hb, h.2.2⟩
theorem twin_one (w : World) (y : Pv × Raw) (z : PZ) (he : y.2 = rawZ z) (hy : y.1.t = y.2.k) (hr : RdP y.2 y.1 w) (hz : MadeZ z) (hp : PvRk w z.1 z.2) : ∃ D, Twin w ((y.1, D), z) := by
  obtain ⟨y, r⟩ := y
  simp only at he hy hr
  subst he
  obtain ⟨-, D, h1, h2⟩ := hr
  have hb := build_parse z.1 z.2 w hp (buildB z.1 z.2).1 (by rw [← hz.ok]) (by have := hz.len; omega) hz.k12
  exact ⟨D, h1, hp, hb.2 y D hy h2⟩
theorem pairUp (w : World) : ∀ (Y : List (Pv × Raw)) (Z : List PZ), Y.map Prod.snd = Z.map rawZ → (∀ y ∈ Y, y.1.t = y.2.k ∧ RdP y.2 y.1 w) → (∀ z ∈ Z, MadeZ z ∧ PvRk w z.1 z.2) →
    ∃ X : List (PZ × PZ), X.map (fun t => t.1.1) = Y.map Prod.fst ∧ X.map (fun t => t.2.1) = Z.map Prod.fst ∧ ∀ t ∈ X, Twin w t
  | [], [], _, _, _ => ⟨[], rfl, rfl, fun t ht => by cases ht⟩
  | [], z :: Z, h, _, _ => by simp at h
  | y :: Y, [], h, _, _ => by simp at h
  | y :: Y, z :: Z, h, hy, hz => by
    rw [List.map_cons, List.map_cons, List.cons.injEq] at h
    obtain ⟨X, h1, h2, h3⟩ := pairUp w Y Z h.2 (fun a ha => hy a (List.mem_cons_of_mem _ ha)) (fun a ha => hz a (List.mem_cons_of_mem _ ha))
    obtain ⟨D, hD⟩ := twin_one w y z h.1 (hy y (List.mem_cons_self ..)).1 (hy y (List.mem_cons_self ..)).2 (hz z (List.mem_cons_self ..)).1 (hz z (List.mem_cons_self ..)).2
    refine ⟨((y.1, D), z) :: X, by rw [List.map_cons, List.map_cons, h1], by rw [List.map_cons, List.map_cons, h2], fun t ht => ?_⟩
    rcases List.mem_cons.1 ht with rfl | ht
    · exact hD
    · exact h3 t ht
theorem twin_check (w : World) : ∀ (X : List (PZ × PZ)), (∀ t ∈ X, Twin w t) → (X.map (fun t => t.1.1)).map keyM = (X.map (fun t => t.2.1)).map keyM
  | [], _ => rfl
  | t :: X, h => by
    rw [List.map_cons, List.map_cons, List.map_cons, List.map_cons, twin_check w X (fun a ha => h a (List.mem_cons_of_mem _ ha)), same_key (h t (List.mem_cons_self ..)).2.2]
theorem zip_made : ∀ (l : List Pv) (R : Pv → Pc → Prop), (∀ y ∈ l, ∃ C, R y C) → ∃ Z : List PZ, Z.map Prod.fst = l ∧ ∀ z ∈ Z, R z.1 z.2
  | [], R, _ => ⟨[], rfl, fun z hz => by cases hz⟩
  | y :: l, R, h => by
    obtain ⟨C, hC⟩ := h y (List.mem_cons_self ..)
    obtain ⟨Z, h1, h2⟩ := zip_made l R (fun a ha => h a (List.mem_cons_of_mem _ ha))
    refine ⟨(y, C) :: Z, by rw [List.map_cons, h1], fun z hz => ?_⟩
    rcases List.mem_cons.1 hz with rfl | hz
    · exact hC
    · exact h2 z hz
theorem ReadX.made {w : World} {i r nx x f m : Int} {Z : List PZ} {e : Ending} {w' : World} (h : ReadX w i r nx x f m (Z.map rawZ) e w') (hz : ∀ z ∈ Z, MadeZ z ∧ PvRk w' z.1 z.2) (hc : checkM x f (Z.map Prod.fst) = 0) :
    Below w.heap.size w w' ∧ ∃ (X : List (PZ × PZ)) (q : Option Addr) (d : Nat), e = .returned (.tuple #[.agg #[.int .u64 i, .int .u64 r, .int .i64 nx, .int .i64 x, .int .i64 f, .int .u32 m, .slice q Z.length d], .int .i64 0]) ∧
      RdG KPv DPv w' q Z.length d (X.map (fun t => t.1.1)) ∧ X.map (fun t => t.2.1) = Z.map Prod.fst ∧ (∀ t ∈ X, Twin w' t) := by
  have hm : ∀ z ∈ Z, MadeZ z := fun z h => (hz z h).1
  have hE : errR (Z.map rawZ) = 0 := errR_Z Z hm (fun z h => by
    have hb := build_parse z.1 z.2 w' (hz z h).2 (buildB z.1 z.2).1 (by rw [← (hm z h).ok]) (by have := (hm z h).len; omega) (hm z h).k12
    exact hb.1)
  have hK := knownZ Z hm
  obtain ⟨hb, ⟨E, h1, h2, h3, h4⟩ | ⟨h1, Y, q, d, h2, h3, h4, h5, h6⟩⟩ := h
  · rcases h4 with ⟨h4, -⟩ | ⟨-, Y, h5, h6, h7⟩
    · exact absurd hE h4
    · rw [hK] at h5
      obtain ⟨X, x1, x2, x3⟩ := pairUp w' Y Z h5 (fun y hy => ⟨(h6 y hy).1, (h6 y hy).2 w' (Kpt.refl _ _)⟩) hz
      have h8 := check_key (twin_check w' X x3) x f
      rw [x1, x2, hc] at h8
      exact absurd (h7.trans h8) h1
  · rw [hK] at h4
    obtain ⟨X, x1, x2, x3⟩ := pairUp w' Y Z h4 (fun y hy => ⟨(h5 y hy).1, (h5 y hy).2 w' (Kpt.refl _ _)⟩) hz
    have hl : Y.length = Z.length := by have := congrArg List.length h4; simpa using this
    refine ⟨hb, X, q, d, by rw [h2, hl], ?_, x2, x3⟩
    have h9 := h3 w' (Kpt.refl _ _)
    rw [hl, ← x1] at h9
    exact h9
end Go.Proofs.YtnbkffehhahckaaGreat

namespace Go.Proofs.YtnbkffehhahckaaGreat
open Go.RowKit
set_option linter.unusedVariables false
set_option linter.unusedSimpArgs false
theorem RdG.pvAt {w : World} {p : Option Addr} {n c : Nat} {l : List Pv} (h : RdG KPv DPv w p n c l) (j : Nat) (hj : j < l.length) : ∃ g, p = some ⟨g, 0, none⟩ ∧ ∀ i u, (KPv.cs (l[j]'hj))[i]? = some u → w.cell? ⟨g, j * 16 + i, none⟩ = some u := by
  obtain ⟨g, e, hc, hk⟩ := h.cell j hj
  exact ⟨g, e, hc⟩
set_option maxHeartbeats 3200000 in
set_option maxRecDepth 100000 in
theorem rpsameall (X : List (PZ × PZ)) (p q : Option Addr) (n c d : Nat) (w : World) (hp : RdG KPv DPv w p n c (X.map (fun t => t.1.1))) (hq : RdG KPv DPv w q n d (X.map (fun t => t.2.1))) (ht : ∀ t ∈ X, Twin w t) (hn : n ≤ 1000) :
    Calls Tryz.prog 24 #[.slice p n c, .slice q n d] w fun e w' => e = .returned (.bool true) ∧ Below w.heap.size w w' := by
  have HP := hidden hp
  have HQ := hidden hq
  have HT := hidden ht
  have h1 := hp.len
  rw [List.length_map] at h1
  have h3 := hp.cap
  have h4 := hq.cap
  clear hp hq ht
  go_enter Tryz.func24, Tryz.ntmps24
  go_wp2
  go_loopw [5] (fun i wr => ∃ j : Nat, j ≤ n ∧ i = .int .i64 (j : Int) ∧ Below w.heap.size w wr) (fun i _ => n - (intOf i).toNat)
  case atStart => exact ⟨0, by omega, rfl, Below.refl _ _⟩
  case round =>
    obtain ⟨j, hj, rfl, hb⟩ := hrel
    have HB := hidden hb
    clear hb
    by_cases hjn : j < n
    · obtain ⟨g, rfl, hca⟩ := (HP.out.below HB.out).pvAt j (by rw [List.length_map]; omega)
      obtain ⟨g', rfl, hcb⟩ := (HQ.out.below HB.out).pvAt j (by rw [List.length_map]; omega)
      have htw := (HT.out _ (List.getElem_mem (show j < X.length by omega))).below HB.out
      simp only [List.getElem_map] at hca hcb
      generalize X[j]'(by omega) = t at *
      obtain ⟨⟨x, C⟩, ⟨y, D⟩⟩ := t
      simp only at hca hcb
      obtain ⟨hx, hy, hs⟩ := htw
      simp only at hx hy hs
      have HSM := hidden (fun W (hW : Below wr.heap.size wr W) => (by
        have h9 := krsame_any x y C D W (hx.below hW) (hy.below hW)
        rw [hs] at h9
        exact h9 : Calls Tryz.prog 43 #[(.agg #[.int .i64 x.t, .slice x.pr.p x.pr.n x.pr.c, .int .i64 x.eg, .slice x.ed.p x.ed.n x.ed.c, .int .i64 x.ik, .slice x.id.p x.id.n x.id.c, .int .i64 x.am, .slice x.ad.p x.ad.n x.ad.c, .int .i64 x.np, .slice x.ns.p x.ns.n x.ns.c, .int .i64 x.nt, .slice x.nd.p x.nd.n x.nd.c, .int .i64 x.dp, .slice x.ds.p x.ds.n x.ds.c, .slice x.se.p x.se.n x.se.c, .slice x.da.p x.da.n x.da.c]), (.agg #[.int .i64 y.t, .slice y.pr.p y.pr.n y.pr.c, .int .i64 y.eg, .slice y.ed.p y.ed.n y.ed.c, .int .i64 y.ik, .slice y.id.p y.id.n y.id.c, .int .i64 y.am, .slice y.ad.p y.ad.n y.ad.c, .int .i64 y.np, .slice y.ns.p y.ns.n y.ns.c, .int .i64 y.nt, .slice y.nd.p y.nd.n y.nd.c, .int .i64 y.dp, .slice y.ds.p y.ds.n y.ds.c, .slice y.se.p y.se.n y.se.c, .slice y.da.p y.da.n y.da.c])] W fun e w' => e = .returned (.bool true) ∧ Below W.heap.size W w'))
      have HCA := hidden hca
      have HCB := hidden hcb
      clear hx hy hs hca hcb
      have hj1 : (j : Int) < (n : Int) := by omega
      have hj0 : (0 : Int) ≤ (j : Int) := by omega
      go_upto_region 6 with fail
      have HBD : Hid (Below wr.heap.size wr wr.drew) := hidden (drew_below ⟨1, rfl⟩)
      refine region_C 8 (fun w' => (∀ i u, (KPv.cs x)[i]? = some u → w'.cell? ⟨g, j * 16 + i, none⟩ = some u) ∧ (∀ i u, (KPv.cs y)[i]? = some u → w'.cell? ⟨g', j * 16 + i, none⟩ = some u)) (fun _ => True) (by kernel_rfl) ⟨fun i u hu => cell_below HBD.out _ _ (HCA.out i u hu), fun i u hu => cell_below HBD.out _ _ (HCB.out i u hu)⟩ trivial (fun hS0 _ => ?_)
      refine anyC_take (i := 0) (v := .slice (some ⟨g, 0, none⟩) n c) rfl rfl (by decide) (by kernel_rfl) (by kernel_rfl) (by kernel_rfl) (fun _ _ _ h => h) (Or.inl ⟨by rfl, fun w0 _ => by kernel_rfl⟩) hS0 (fun _ => trivial) ?_
      refine anyC_take (i := 1) (v := .int .i64 (j : Int)) rfl rfl (by decide) (by kernel_rfl) (by kernel_rfl) (by kernel_rfl) (fun _ _ _ h => h) (Or.inl ⟨by rfl, fun w0 _ => by kernel_rfl⟩) hS0 (fun _ => trivial) ?_
      refine anyC_take (i := 4) (v := .slice (some ⟨g', 0, none⟩) n d) rfl rfl (by decide) (by kernel_rfl) (by kernel_rfl) (by kernel_rfl) (fun _ _ _ h => h) (Or.inl ⟨by rfl, fun w0 _ => by kernel_rfl⟩) hS0 (fun _ => trivial) ?_
      refine anyC_take (i := 5) (v := .int .i64 (j : Int)) rfl rfl (by decide) (by kernel_rfl) (by kernel_rfl) (by kernel_rfl) (fun _ _ _ h => h) (Or.inl ⟨by rfl, fun w0 _ => by kernel_rfl⟩) hS0 (fun _ => trivial) ?_
      (try simp only [Act.put, List.getElem_toArray, List.getElem_cons_zero, List.getElem_cons_succ, List.setIfInBounds_toArray, List.set_cons_zero, List.set_cons_succ])
      refine anyC_take (i := 2) (v := .pointer (some ⟨g, j * 16, none⟩)) rfl rfl (by decide) (by kernel_rfl) (by kernel_rfl) (by kernel_rfl) (fun _ _ _ h => h) (Or.inl ⟨by rfl, fun w0 _ => by go_simp; (try with_reducible rfl)⟩) hS0 (fun _ => trivial) ?_
      refine anyC_take (i := 6) (v := .pointer (some ⟨g', j * 16, none⟩)) rfl rfl (by decide) (by kernel_rfl) (by kernel_rfl) (by kernel_rfl) (fun _ _ _ h => h) (Or.inl ⟨by rfl, fun w0 _ => by go_simp; (try with_reducible rfl)⟩) hS0 (fun _ => trivial) ?_
      (try simp only [Act.put, List.getElem_toArray, List.getElem_cons_zero, List.getElem_cons_succ, List.setIfInBounds_toArray, List.set_cons_zero, List.set_cons_succ])
      refine anyC_take (i := 3) (v := (.agg #[.int .i64 x.t, .slice x.pr.p x.pr.n x.pr.c, .int .i64 x.eg, .slice x.ed.p x.ed.n x.ed.c, .int .i64 x.ik, .slice x.id.p x.id.n x.id.c, .int .i64 x.am, .slice x.ad.p x.ad.n x.ad.c, .int .i64 x.np, .slice x.ns.p x.ns.n x.ns.c, .int .i64 x.nt, .slice x.nd.p x.nd.n x.nd.c, .int .i64 x.dp, .slice x.ds.p x.ds.n x.ds.c, .slice x.se.p x.se.n x.se.c, .slice x.da.p x.da.n x.da.c])) rfl rfl (by decide) (by kernel_rfl) (by kernel_rfl) (by kernel_rfl) (fun _ _ _ h => h) (Or.inl ⟨by rfl, ?_⟩) hS0 (fun _ => trivial) ?_
      · rintro w0 ⟨hs, -⟩
        have c0 := hs 0 _ rfl
        have c1 := hs 1 _ rfl
        have c2 := hs 2 _ rfl
        have c3 := hs 3 _ rfl
        have c4 := hs 4 _ rfl
        have c5 := hs 5 _ rfl
        have c6 := hs 6 _ rfl
        have c7 := hs 7 _ rfl
        have c8 := hs 8 _ rfl
        have c9 := hs 9 _ rfl
        have c10 := hs 10 _ rfl
        have c11 := hs 11 _ rfl
        have c12 := hs 12 _ rfl
        have c13 := hs 13 _ rfl
        have c14 := hs 14 _ rfl
        have c15 := hs 15 _ rfl
        simp only [Nat.add_zero] at c0
        clear hs hS0 HCA HCB
        go_simp
        (try with_reducible rfl)
      refine anyC_take (i := 7) (v := (.agg #[.int .i64 y.t, .slice y.pr.p y.pr.n y.pr.c, .int .i64 y.eg, .slice y.ed.p y.ed.n y.ed.c, .int .i64 y.ik, .slice y.id.p y.id.n y.id.c, .int .i64 y.am, .slice y.ad.p y.ad.n y.ad.c, .int .i64 y.np, .slice y.ns.p y.ns.n y.ns.c, .int .i64 y.nt, .slice y.nd.p y.nd.n y.nd.c, .int .i64 y.dp, .slice y.ds.p y.ds.n y.ds.c, .slice y.se.p y.se.n y.se.c, .slice y.da.p y.da.n y.da.c])) rfl rfl (by decide) (by kernel_rfl) (by kernel_rfl) (by kernel_rfl) (fun _ _ _ h => h) (Or.inl ⟨by rfl, ?_⟩) hS0 (fun _ => trivial) ?_
      · rintro w0 ⟨-, hs⟩
        have c0 := hs 0 _ rfl
        have c1 := hs 1 _ rfl
        have c2 := hs 2 _ rfl
        have c3 := hs 3 _ rfl
        have c4 := hs 4 _ rfl
        have c5 := hs 5 _ rfl
        have c6 := hs 6 _ rfl
        have c7 := hs 7 _ rfl
        have c8 := hs 8 _ rfl
        have c9 := hs 9 _ rfl
        have c10 := hs 10 _ rfl
        have c11 := hs 11 _ rfl
        have c12 := hs 12 _ rfl
        have c13 := hs 13 _ rfl
        have c14 := hs 14 _ rfl
        have c15 := hs 15 _ rfl
        simp only [Nat.add_zero] at c0
        clear hs hS0 HCA HCB
        go_simp
        (try with_reducible rfl)
      (try simp only [Act.put, List.getElem_toArray, List.getElem_cons_zero, List.getElem_cons_succ, List.setIfInBounds_toArray, List.set_cons_zero, List.set_cons_succ])
      clear hS0
      obtain ⟨V0, hV0⟩ : ∃ V, V = wr.drew := ⟨_, rfl⟩
      rw [← hV0] at HBD ⊢
      clear hV0
      refine anyC_one (i := 8) (by kernel_rfl) rfl (fun K' hK => ?_)
      refine fl_call1 rfl (f := 43) (args := #[(.agg #[.int .i64 x.t, .slice x.pr.p x.pr.n x.pr.c, .int .i64 x.eg, .slice x.ed.p x.ed.n x.ed.c, .int .i64 x.ik, .slice x.id.p x.id.n x.id.c, .int .i64 x.am, .slice x.ad.p x.ad.n x.ad.c, .int .i64 x.np, .slice x.ns.p x.ns.n x.ns.c, .int .i64 x.nt, .slice x.nd.p x.nd.n x.nd.c, .int .i64 x.dp, .slice x.ds.p x.ds.n x.ds.c, .slice x.se.p x.se.n x.se.c, .slice x.da.p x.da.n x.da.c]), (.agg #[.int .i64 y.t, .slice y.pr.p y.pr.n y.pr.c, .int .i64 y.eg, .slice y.ed.p y.ed.n y.ed.c, .int .i64 y.ik, .slice y.id.p y.id.n y.id.c, .int .i64 y.am, .slice y.ad.p y.ad.n y.ad.c, .int .i64 y.np, .slice y.ns.p y.ns.n y.ns.c, .int .i64 y.nt, .slice y.nd.p y.nd.n y.nd.c, .int .i64 y.dp, .slice y.ds.p y.ds.n y.ds.c, .slice y.se.p y.se.n y.se.c, .slice y.da.p y.da.n y.da.c])]) (R := fun v w' => v = .bool true ∧ Below wr.heap.size wr w') (by kernel_rfl) ((HSM.out V0 HBD.out).mono (by rintro e w' ⟨rfl, hb⟩; exact ⟨_, rfl, rfl, HBD.out.trans (hb.mono HBD.out.size)⟩)) ?_
      rintro v w' ⟨rfl, hb'⟩
      have HB' := hidden (HB.out.trans (hb'.mono HB.out.size))
      have hS : (∀ i u, (KPv.cs x)[i]? = some u → w'.cell? ⟨g, j * 16 + i, none⟩ = some u) ∧ (∀ i u, (KPv.cs y)[i]? = some u → w'.cell? ⟨g', j * 16 + i, none⟩ = some u) := ⟨fun i u hu => cell_below hb' _ _ (HCA.out i u hu), fun i u hu => cell_below hb' _ _ (HCB.out i u hu)⟩
      refine hK.out _ _ hS (fun _ => trivial) ?_
      clear hK K' hb' HCA HCB HSM HBD
      (try simp only [Act.put, List.getElem_toArray, List.getElem_cons_zero, List.getElem_cons_succ, List.setIfInBounds_toArray, List.set_cons_zero, List.set_cons_succ])
      refine anyC_take (i := 9) (v := .bool false) rfl rfl (by decide) (by kernel_rfl) (by kernel_rfl) (by kernel_rfl) (fun _ _ _ h => h) (Or.inl ⟨by rfl, fun w0 _ => by kernel_rfl⟩) hS (fun _ => trivial) ?_
      clear hS
      (try simp only [Act.put, List.getElem_toArray, List.getElem_cons_zero, List.getElem_cons_succ, List.setIfInBounds_toArray, List.set_cons_zero, List.set_cons_succ])
      refine anyC_done (by kernel_rfl) ?_ _
      go_wp2
      go_roundw
      case rel => exact ⟨j + 1, by omega, by go_num, HB'.out⟩
      case measure => simp [intOf] <;> omega
    · obtain rfl : j = n := by omega
      have hj1 : ¬ (j : Int) < (j : Int) := by omega
      clear HP HQ HT
      go_wp2
      go_ret
      exact ⟨rfl, HB.out⟩
set_option maxHeartbeats 3200000 in
set_option maxRecDepth 100000 in
theorem rmsame_yes (i r nx x f m : Int) (X : List (PZ × PZ)) (p q : Option Addr) (n c d : Nat) (w : World) (hp : RdG KPv DPv w p n c (X.map (fun t => t.1.1))) (hq : RdG KPv DPv w q n d (X.map (fun t => t.2.1))) (ht : ∀ t ∈ X, Twin w t) (hn : n ≤ 1000) :
    Calls Tryz.prog 10 #[.agg #[.int .u64 i, .int .u64 r, .int .i64 nx, .int .i64 x, .int .i64 f, .int .u32 m, .slice p n c], .agg #[.int .u64 i, .int .u64 r, .int .i64 nx, .int .i64 x, .int .i64 f, .int .u32 m, .slice q n d]] w fun e w' => e = .returned (.bool true) ∧ Below w.heap.size w w' := by
  have hA : Below w.heap.size w (w.alloc (.cells #[.int .u64 i, .int .u64 r, .int .i64 nx, .int .i64 x, .int .i64 f, .int .u32 m, .slice p n c] 30)) := (Below.refl _ _).alloc (Nat.le_refl _) _
  have HB2 := hidden (hA.alloc (by simp) (.cells #[.int .u64 i, .int .u64 r, .int .i64 nx, .int .i64 x, .int .i64 f, .int .u32 m, .slice q n d] 30))
  have HMA := hidden ((MIn.new w i r nx x f m (.slice p n c) 30).below ((Below.refl _ _).alloc (Nat.le_refl _) (.cells #[.int .u64 i, .int .u64 r, .int .i64 nx, .int .i64 x, .int .i64 f, .int .u32 m, .slice q n d] 30)))
  have HMB := hidden (MIn.new (w.alloc (.cells #[.int .u64 i, .int .u64 r, .int .i64 nx, .int .i64 x, .int .i64 f, .int .u32 m, .slice p n c] 30)) i r nx x f m (.slice q n d) 30)
  rw [World.size_alloc] at HMB
  have HSA := hidden (fun W (hW : Below w.heap.size w W) => rpsameall X p q n c d W (hp.below hW) (hq.below hW) (fun t h => (ht t h).below hW) hn)
  clear hA hp hq ht
  go_enter Tryz.func10, Tryz.ntmps10
  go_upto_region 1 with fail
  generalize World.alloc (World.alloc w _) _ = w1 at *
  obtain ⟨a0, a1, a2, a3, a4, a5, a6, -⟩ := HMA.out
  obtain ⟨b0, b1, b2, b3, b4, b5, b6, -⟩ := HMB.out
  clear HMA HMB
  go_wp2_with (first
    | (go_at_call 24; (with_reducible refine (HSA.out _ HB2.out).mono ?_); rintro e w2 ⟨rfl, hb⟩; have HB3 := hidden (HB2.out.trans (hb.mono HB2.out.size)); clear hb)
    | fail)
  go_ret
  exact ⟨rfl, HB3.out⟩
end Go.Proofs.YtnbkffehhahckaaGreat

namespace Go.Proofs.YtnbkffehhahckaaGreat
open Go.RowKit
set_option linter.unusedVariables false
set_option linter.unusedSimpArgs false
theorem kpt_below {w w' : World} (hb : Below w.heap.size w w') (base : Nat) : Kpt w w' base := fun a v _ hc => cell_below hb a v hc
theorem MIn.put2 {w : World} {g : Nat} {i r nx x f m : Int} {v : Value} (h : MIn w g i r nx x f m v) (k : Int) : MIn (w.setCell ⟨g, 2, none⟩ (.int .i64 k)) g i r k x f m v := by
  obtain ⟨c0, c1, c2, c3, c4, c5, c6, fr⟩ := h
  exact ⟨by go_simp, by go_simp, by go_simp, by go_simp, by go_simp, by go_simp, by go_simp, fun j => by rw [World.frozen?_setCell]; exact fr j⟩
theorem made_zip (w3 : World) (B : Nat) (l : List Pv) (hk : ∀ y ∈ l, KindOk y.t) (hpv : ∀ y ∈ l, ∃ C, Vld y C ∧ NumOk y ∧ C.pr.length ≤ 2 ∧ ∀ w'', Kpt w3 w'' B → PvRd w'' y C) :
    ∃ Z : List PZ, Z.map Prod.fst = l ∧ (∀ z ∈ Z, MadeZ z) ∧ ∀ W, Below w3.heap.size w3 W → ∀ z ∈ Z, PvRk W z.1 z.2 := by
  obtain ⟨Z, h1, h2⟩ := zip_made l (fun y C => Vld y C ∧ NumOk y ∧ C.pr.length ≤ 2 ∧ ∀ w'', Kpt w3 w'' B → PvRd w'' y C) hpv
  refine ⟨Z, h1, fun z hz => ?_, fun W hW z hz => ((h2 z hz).2.2.2 W (kpt_below hW B)).rk⟩
  obtain ⟨a1, a2, a3, a4⟩ := h2 z hz
  have hkz := hk z.1 (by rw [← h1]; exact List.mem_map_of_mem hz)
  obtain ⟨b1, b2, b3⟩ := vld_small z.1 z.2 w3 (a4 w3 (Kpt.refl _ _)) a2 a1 a3 (by unfold Kind12; unfold KindOk at hkz; omega)
  exact ⟨hkz, b1, b2, b3⟩
set_option maxHeartbeats 6400000 in
set_option maxRecDepth 100000 in
theorem messageReturns_walk (p0 : Option Addr) (n0 c0 : Nat) (xs0 : List Int) (w : World) (h0 : Byt w p0 n0 c0 xs0) (r0 : c0 ≤ 140737488351232) :
    Calls Tryz.prog 3 #[.slice p0 n0 c0] w fun e w' => e = .returned (.bool true) ∧ Below w.heap.size w w' := by
  have HA := hidden (awake07_any w)
  have H0 := hidden h0
  clear h0
  go_enter Tryz.func3, Tryz.ntmps3
  go_upto_region 4 with (first
    | (go_at_call 4; (with_reducible refine (HA.out).mono ?_); rintro e w1 ⟨rfl, hb⟩; have HB1 := hidden hb; clear hb HA)
    | (go_at_call 5; (refine (new_any w p0 n0 c0 xs0 _ H0.out HB1.out 240 (by omega)).mono ?_); rintro e w2 ⟨rfl, hcod, hbel⟩; have HC2 := hidden hcod; have HB2 := hidden (HB1.out.trans (hbel.mono HB1.out.size)); have HMM := hidden (message_any w w2 _ HC2.out); unfold MadeMsg at HMM; clear hcod hbel H0)
    | (go_at_call 6; (with_reducible refine (HMM.out).mono ?_); rintro e w3 ⟨i, r, nx, x, f, m, q, n, d, l, rfl, hn7, hko, hx4, hrd, -, hg3, hgd, hpv⟩; have HB3 := hidden (HB2.out.grown hg3 HB2.out.size (fun j e => by cases e; exact HC2.out.base)); have HRD0 := hidden (fun W (hW : Below w3.heap.size w3 W) => hrd W (kpt_below hW _)); have HZZ := hidden (made_zip w3 _ l hko hpv); have HGD := hidden hgd; clear hrd hg3 hgd hpv hko hx4 HMM HC2 HB2)
    | fail)
  obtain ⟨Z, rfl, hmz, hpr⟩ := HZZ.out
  have HMZ := hidden hmz
  have HPR := hidden hpr
  have hzn : Z.length = n := by have := (HRD0.out w3 (Below.refl _ _)).len; rwa [List.length_map] at this
  clear hmz hpr HZZ
  have HM4 := hidden (MIn.new w3 i r nx x f m (.slice q n d) 30)
  have hal := (Below.refl w3.heap.size w3).alloc (Nat.le_refl _) (.cells #[.int .u64 i, .int .u64 r, .int .i64 nx, .int .i64 x, .int .i64 f, .int .u32 m, .slice q n d] 30)
  have HBX := hidden hal
  have HB4 := hidden (HB3.out.trans (hal.mono HB3.out.size))
  generalize World.alloc w3 _ = w4 at *
  obtain ⟨G3, hG3⟩ : ∃ g, w3.heap.size = g := ⟨_, rfl⟩
  have hg4 : w3.heap.size ≤ w4.heap.size := HBX.out.size
  rw [hG3] at HM4 HBX HRD0 HPR hg4 ⊢
  clear hal hG3 HB1
  have HBU := hidden (mbuildX i r nx x f m HGD.out Z q n d w4 (HRD0.out w4 HBX.out) hn7 HMZ.out (HPR.out w4 HBX.out))
  have HKN := hidden (nextZ Z HMZ.out)
  have HLE := hidden (encZ_len Z HMZ.out)
  have HRZ := hidden (readZ Z HMZ.out (by omega))
  unfold BuiltX at HBU
  have HCK := hidden (fun W (hW : Below w4.heap.size w4 W) => check_any i r nx x f m q n d (Z.map Prod.fst) W (HRD0.out W (HBX.out.trans (hW.mono hg4))) (by omega) (by have := HGD.out.gx; unfold IntR; omega))
  obtain ⟨b0, b1, b2, b3, b4, b5, b6, -⟩ := HM4.out
  by_cases hck : checkM x f (Z.map Prod.fst) = 0
  · have HCK0 := hidden hck
    rw [hck] at HBU
    go_upto_region 5 with (first
      | (go_at_call 7; go_loud ((with_reducible refine (HBU.out).mono ?_); rintro e w5 (⟨h9, -⟩ | ⟨-, pb, nb, cb, rfl, hbb, hb5⟩); exact absurd rfl h9; have HBY := hidden hbb.byt; have HB5 := hidden (HB4.out.trans (hb5.mono HB4.out.size)); have HBX5 := hidden (HBX.out.trans (hb5.mono hg4)); have hg5 := Nat.le_trans hg4 hb5.size; have HM5 := hidden (HM4.out.below hb5); clear hbb hb5))
      | fail)
    clear b0 b1 b2 b3 b4 b5 b6 HM4 HBU HCK
    obtain ⟨K, hK⟩ : ∃ k, nextC 0 (Z.map rawZ) = k := ⟨_, rfl⟩
    obtain ⟨L, hL⟩ : ∃ k, encC 0 (Z.map rawZ) = k := ⟨_, rfl⟩
    rw [hK] at HKN HRZ HBY
    rw [hL] at HLE HRZ HBY
    have hll := HLE.out
    have hnb := HBY.out.len
    rw [List.length_append, show (hdrL i r K x f m (28 + (L.length : Int))).length = 28 by simp [hdrL, be_len]] at hnb
    have HPX := hidden ((mparseX pb nb cb _ w5 HBY.out (by omega) i r K x f m (HGD.out.readN K HKN.out L (by omega)) (Z.map rawZ) (by rw [HGD.out.bytesN K HKN.out]; exact HRZ.out)).mono (fun e w' h => h.made (fun z hz => ⟨HMZ.out z hz, HPR.out w' (HBX5.out.trans (h.1.mono hg5)) z hz⟩) HCK0.out))
    rw [hzn] at HPX
    clear hK hL hll hnb HBY HLE HRZ
    go_upto_region 8 with (first
      | (go_at_call 9; (with_reducible refine (HPX.out).mono ?_); rintro e w6 ⟨hb6, X, qx, dx, rfl, hrx, hxz, htw⟩; have HRX := hidden hrx; have HXZ := hidden hxz; have HTW := hidden htw; have HB6 := hidden (HB5.out.trans (hb6.mono HB5.out.size)); have HBX6 := hidden (HBX5.out.trans (hb6.mono hg5)); have hg6 := Nat.le_trans hg5 hb6.size; have HM6 := hidden (HM5.out.below hb6); clear hb6 hrx hxz htw HPX)
      | fail)
    have HN6 := hidden (MIn.new w6 i r K x f m (.slice qx n dx) 30)
    have hal := (Below.refl w6.heap.size w6).alloc (Nat.le_refl _) (.cells #[.int .u64 i, .int .u64 r, .int .i64 K, .int .i64 x, .int .i64 f, .int .u32 m, .slice qx n dx] 30)
    have HB7 := hidden (HB6.out.trans (hal.mono HB6.out.size))
    have HM7 := hidden (HM6.out.below hal)
    have hsz := HB6.out.size
    have HW7 := hidden hal
    have HLT := hidden HM6.out.lt
    have HXW := hidden (fun W (hW : Below w6.heap.size w6 W) => And.intro (HRX.out.below hW) (And.intro (HRD0.out W (HBX6.out.trans (hW.mono hg6))) (fun t (h : t ∈ X) => (HTW.out t h).below hW)))
    generalize World.alloc w6 _ = w7 at *
    obtain ⟨G6, hG6⟩ : ∃ g, w6.heap.size = g := ⟨_, rfl⟩
    rw [hG6] at HN6 hsz HW7 HLT HXW ⊢
    clear hal hG6 HB5 HBX5 HM5 HM6 HBX HB4 HB3
    obtain ⟨b0, b1, b2, b3, b4, b5, b6, -⟩ := HM7.out
    obtain ⟨a0, a1, a2, a3, a4, a5, a6, af⟩ := HN6.out
    have f2 := af 2
    clear af
    go_upto_region 11 with fail
    have HN8 := hidden (HN6.out.put2 nx)
    have HM8 := hidden (HM7.out.grown (grown_set w7 G6 2 (.int .i64 nx)) (by have := HLT.out; simp; omega))
    have HB8 := hidden (HB7.out.setCell (p := ⟨G6, 2, none⟩) hsz (.int .i64 nx))
    have HW8 := hidden (HW7.out.setCell (p := ⟨G6, 2, none⟩) (Nat.le_refl G6) (.int .i64 nx))
    generalize World.setCell w7 _ _ = w8 at *
    clear b0 b1 b2 b3 b4 b5 b6 a0 a1 a2 a3 a4 a5 a6 f2 HN6 HM7 HB7 HW7
    obtain ⟨b0, b1, b2, b3, b4, b5, b6, -⟩ := HM8.out
    obtain ⟨a0, a1, a2, a3, a4, a5, a6, -⟩ := HN8.out
    obtain ⟨x1, x2, x3⟩ := HXW.out w8 HW8.out
    rw [← HXZ.out] at x2
    have HSM := hidden (rmsame_yes i r nx x f m X qx q n dx d w8 x1 x2 x3 (by omega))
    clear x1 x2 x3
    go_wp2_with (first
      | (go_at_call 10; (with_reducible refine (HSM.out).mono ?_); rintro e w9 ⟨rfl, hb⟩; have HB9 := hidden (HB8.out.trans (hb.mono HB8.out.size)); clear hb)
      | fail)
    go_ret
    exact ⟨rfl, HB9.out⟩
  · obtain ⟨E, hE⟩ : ∃ E, checkM x f (Z.map Prod.fst) = E := ⟨_, rfl⟩
    rw [hE] at HBU HCK hck
    have hE2 : (E != 0) = true := by simpa using hck
    clear hE
    go_upto_region 6 with (first
      | (go_at_call 7; (with_reducible refine (HBU.out).mono ?_); rintro e w5 (⟨-, rfl, hb5⟩ | ⟨h9, -⟩); have HBW := hidden hb5; have HB5 := hidden (HB4.out.trans (hb5.mono HB4.out.size)); have HM5 := hidden (HM4.out.below hb5); clear hb5 HBU; rotate_left; exact absurd h9 hck)
      | fail)
    clear b0 b1 b2 b3 b4 b5 b6 HM4
    obtain ⟨b0, b1, b2, b3, b4, b5, b6, -⟩ := HM5.out
    go_wp2_with (first
      | (go_at_call 8; (with_reducible refine (HCK.out _ HBW.out).mono ?_); rintro e w6 ⟨rfl, hb6⟩; have HB6 := hidden (HB5.out.trans (hb6.mono HB5.out.size)); clear hb6)
      | fail)
    go_ret
    exact ⟨rfl, HB6.out⟩
end Go.Proofs.YtnbkffehhahckaaGreat
