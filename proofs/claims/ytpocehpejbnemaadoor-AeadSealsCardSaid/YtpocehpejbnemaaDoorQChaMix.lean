/-
  chacha.mixed: the bytes of the block that begins as a state.
-/
import Derived.Test.YtpocehpejbnemaaDoorQChaArr
import Derived.Test.YtpocehpejbnemaaDoorQChaQ
import Derived.Test.YtpocehpejbnemaaDoorQHeldC
import Derived.Deep.Cut
import Derived.Deep.CutRange
import Derived.Deep.RegionHeld3
import Derived.Laws.CopyOwn
namespace Go.Proofs.YtpocehpejbnemaaDoor
open Go.RowKit
set_option linter.unusedVariables false
set_option linter.unusedSimpArgs false

theorem heap_first (w : World) (S : Array Value) (t : TypeId) (o : Obj) : ((w.alloc (.cells S t)).alloc o).heap[w.heap.size]? = some (.cells S t (0, 0)) := by
  rw [Below.heap_alloc _ _ _ (by simp), heap_alloc_new]
theorem heap_third (w : World) (o p : Obj) (S : Array Value) (t : TypeId) : (((w.alloc o).alloc p).alloc (.cells S t)).heap[w.heap.size + 2]? = some (.cells S t (0, 0)) := by
  have := heap_alloc_new ((w.alloc o).alloc p) (.cells S t)
  simpa using this
theorem le4_take0 (v : Int) : (le4 v).take 0 = [] := rfl
theorem le4_take1 (v : Int) : (le4 v).take 1 = [] ++ [v % 256] := rfl
theorem le4_take2 (v : Int) : (le4 v).take 2 = (le4 v).take 1 ++ [v / 256 % 256] := rfl
theorem le4_take3 (v : Int) : (le4 v).take 3 = (le4 v).take 2 ++ [v / 65536 % 256] := rfl
theorem le4_take4 (v : Int) : (le4 v).take 4 = (le4 v).take 3 ++ [v / 16777216 % 256] := rfl

theorem Wb.fillJ {wr : World} {M : Nat} {t : TypeId} {B : List Int} {v z : Int} {k j : Nat} (h : Wb wr M t ((B ++ (le4 v).take j) ++ List.replicate (64 - (4 * k + j)) 0)) (hB : B.length = 4 * k) (hj : j < 4) (hk : k < 16)
    (hz : (le4 v).take (j + 1) = (le4 v).take j ++ [z]) (p q : Nat) (hp : p = 4 * k + j) (hq : q = j + 1) : Wb (wr.setCell ⟨M, p, none⟩ (.int .u8 z)) M t ((B ++ (le4 v).take q) ++ List.replicate (64 - (4 * k + q)) 0) := by
  subst hp hq
  have hl : (B ++ (le4 v).take j).length = 4 * k + j := by rw [List.length_append, hB, List.length_take]; simp [le4]; omega
  have := h.fill hl (by omega) z
  rw [hz, ← List.append_assoc]
  exact this
/-- What the rounds keep: the state at the beginning, the block of the result, the state mixed so far. -/
structure MixI (w wr : World) (n r m : Nat) (s L : List Int) : Prop where
  box : Wd wr n 84 s
  out : Wb wr r 89 (List.replicate 64 0)
  work : Wd wr m 84 L
  q : QAt wr
  bel : Below n w wr
theorem MixI.alloc {w wr : World} {n r m : Nat} {s L : List Int} (h : MixI w wr n r m s L) (o : Obj) : MixI w (wr.alloc o) n r m s L := by
  obtain ⟨t, fr, hq⟩ := h.q
  exact ⟨h.box.alloc o, h.out.alloc o, h.work.alloc o, ⟨t, fr, by rw [Below.heap_alloc _ _ _ h.q.lt]; exact hq⟩, h.bel.alloc (Nat.le_of_lt h.box.lt) o⟩
theorem MixI.drew {w wr : World} {n r m : Nat} {s L : List Int} (h : MixI w wr n r m s L) : MixI w wr.drew n r m s L :=
  ⟨h.box.drew, h.out.drew, h.work.drew, ⟨h.q.heap⟩, h.bel.drew⟩
theorem MixI.set {w wr : World} {n r m : Nat} {s L : List Int} (h : MixI w wr n r m s L) (hn : n ≤ m) (h1 : n ≠ m) (h2 : r ≠ m) (h3 : 1 ≠ m) (j : Nat) (v : Int) : MixI w (wr.setCell ⟨m, j, none⟩ (.int .u32 v)) n r m s (L.set j v) := by
  obtain ⟨t, fr, hq⟩ := h.q
  exact ⟨h.box.other _ _ h1, h.out.other _ _ h2, h.work.set j v, ⟨t, fr, by rw [Below.heap_setCell _ _ _ _ h3]; exact hq⟩, h.bel.setCell hn _⟩

theorem keepQ {w : World} {g m j : Nat} {v x0 x1 x2 x3 : Value} (h : ¬ m = g)
    (hS : w.cell? ⟨g, 0, none⟩ = some x0 ∧ w.cell? ⟨g, 1, none⟩ = some x1 ∧ w.cell? ⟨g, 2, none⟩ = some x2 ∧ w.cell? ⟨g, 3, none⟩ = some x3) :
    (w.setCell ⟨m, j, none⟩ v).cell? ⟨g, 0, none⟩ = some x0 ∧ (w.setCell ⟨m, j, none⟩ v).cell? ⟨g, 1, none⟩ = some x1 ∧ (w.setCell ⟨m, j, none⟩ v).cell? ⟨g, 2, none⟩ = some x2 ∧ (w.setCell ⟨m, j, none⟩ v).cell? ⟨g, 3, none⟩ = some x3 := by
  have e : ∀ i, (w.setCell ⟨m, j, none⟩ v).cell? ⟨g, i, none⟩ = w.cell? ⟨g, i, none⟩ := fun i => World.cell?_setCell_far w _ _ v h
  simp only [e]
  exact hS

set_option maxHeartbeats 1600000 in
set_option maxRecDepth 100000 in
theorem mixed_any (s : List Int) (hs : s.length = 16) (w : World) (hQ : QAt w) :
    Calls Tryd.prog 46 #[.agg (s.map (Value.int .u32)).toArray] w fun e w' => e = .returned (.agg ((mixedC s).map (Value.int .u8)).toArray) ∧ Below w.heap.size w w' := by
  obtain ⟨i0, hi0, hz0, hz1, hz2⟩ := info_parts Tryd.infoWord
  obtain ⟨R, hR⟩ : ∃ R, mixedC s = R := ⟨_, rfl⟩
  have hRl : R.length = 64 := by rw [← hR, mixedC_len]
  obtain ⟨E, hE⟩ : ∃ E, rndsC 10 s = E := ⟨_, rfl⟩
  have hEl : E.length = 16 := by rw [← hE, rndsC_len, hs]
  have hRE : bytesLE (sums E s 16) = R := by rw [← hR, ← hE]; rfl
  rw [hR]
  have HRE := Is.mk hRE
  have HE := Is.mk hE
  have HSL := Is.mk hs
  have HEL := Is.mk hEl
  have HRL := Is.mk hRl
  have HQL := hidden hQ.lt
  have HIX := hidden (fun (j : Nat) (hj : j < 16) (w' : World) => run_index32 (P := Tryd.prog) Tryd.underlying84 Tryd.underlying64 hi0 hz1 E hEl j hj w')
  have hiS : (Tryd.prog.info? 84).map (·.size) = some ((s.map (Value.int .u32)).toArray).size := by rw [infoS16]; simp [hs]
  have hiE : (Tryd.prog.info? 84).map (·.size) = some ((E.map (Value.int .u32)).toArray).size := by rw [infoS16]; simp [hEl]
  have hiR : (Tryd.prog.info? 89).map (·.size) = some ((R.map (Value.int .u8)).toArray).size := by rw [infoB64]; simp [hRl]
  have hiQ : (Tryd.prog.info? 130).map (·.size) = some qCells.size := by rw [infoQ8]; rfl
  have HIS := hidden hiS
  have HIE := hidden hiE
  have HIR := hidden hiR
  have HIQ := hidden hiQ
  have HONES := hidden (one32 s)
  have HONER := hidden (one8 R)
  have hzs : ((List.replicate 16 (0 : Int)).map (Value.int .u32)).toArray.size = ((s.map (Value.int .u32)).toArray).size := by simp [hs]
  have HZS := hidden hzs
  have hzr : ((List.replicate 64 (0 : Int)).map (Value.int .u8)).toArray.size = ((R.map (Value.int .u8)).toArray).size := by simp [hRl]
  have HZR := hidden hzr
  have HQ := hidden hQ
  obtain ⟨S, hS⟩ : ∃ S, (s.map (Value.int .u32)).toArray = S := ⟨_, rfl⟩
  have HSS := Is.mk hS
  simp only [hS] at HIS HONES HZS ⊢
  clear hR hRl hE hEl hRE hs hQ hi0 hz0 hz1 hz2 hiS hiE hiR hiQ hzs hzr hS
  go_enter Tryd.func46, Tryd.ntmps46
  go_wp2_with (first
    | (refine wpList_load_row rfl 84 _ rfl w.heap.size rfl 84 S (0, 0) _ (heap_first _ _ _ _) Tryd.underlying84 rfl HIS.out ?_)
    | (refine wpList_store_row rfl 84 _ _ rfl (w.heap.size + 2) S rfl rfl 84 _ (heap_third _ _ _ _ _) HIS.out HZS.out HONES.out ?_)
    | fail)
  generalize hw1 : World.setRow _ (w.heap.size + 2) S = w1
  have hI : MixI w w1 w.heap.size (w.heap.size + 1) (w.heap.size + 1 + 1) s s := by
    rw [← hw1, ← HSS.eq]
    have hb := Wd.new w 84 s _ rfl
    have ho := Wb.new (w.alloc (.cells ((s.map (Value.int .u32)).toArray) 84)) 89 (List.replicate 64 0) _ rfl
    rw [World.size_alloc] at ho
    obtain ⟨t, fr, hq⟩ := HQ.out
    have hl := HQL.out
    refine ⟨?_, ?_, ?_, ?_, ?_⟩
    · exact ((hb.alloc _).alloc _).rowOther _ _ (by omega)
    · exact (ho.alloc _).rowOther _ _ (by omega)
    · have := Wd.new ((w.alloc (.cells ((s.map (Value.int .u32)).toArray) 84)).alloc (.cells ((List.replicate 64 (0 : Int)).map (Value.int .u8)).toArray 89)) 84 (List.replicate 16 0) _ rfl
      rw [World.size_alloc, World.size_alloc] at this
      exact this.row s
    · refine ⟨t, fr, ?_⟩
      rw [setRow_other _ _ _ _ (by omega), Below.heap_alloc _ _ _ (by simp <;> omega), Below.heap_alloc _ _ _ (by simp <;> omega), Below.heap_alloc _ _ _ hl]
      exact hq
    · exact below_setRow ((((Below.refl _ w).alloc (Nat.le_refl _) _).alloc (by simp) _).alloc (by simp; omega) _) (by omega) _
  clear hw1
  obtain ⟨n, hn⟩ : ∃ n, w.heap.size = n := ⟨_, rfl⟩
  simp only [hn] at hI ⊢
  rw [hn] at HQL
  have HN := hidden hn
  clear hn HQ
  obtain ⟨r, hr⟩ : ∃ r, n + 1 = r := ⟨_, rfl⟩
  simp only [hr] at hI ⊢
  obtain ⟨m, hm⟩ : ∃ m, r + 1 = m := ⟨_, rfl⟩
  simp only [hm] at hI ⊢
  have HI := hidden hI
  have HR0 := hidden hr
  have HM0 := hidden hm
  have d1 : ¬ n = m := by omega
  have d2 : ¬ r = m := by omega
  have d0 : n ≤ m := by omega
  have d3 : ¬ n = r := by omega
  have d4 : r < m := by omega
  have d5 : n ≤ r := by omega
  have HGM := hidden (show 1 ≠ m by have := HQL.out; omega)
  clear hI hr hm
  go_loopw [11] (fun i wr => ∃ k : Nat, k ≤ 10 ∧ i = .int .i64 k ∧ MixI w wr n r m s (rndsC k s)) (fun i _ => 10 - (intOf i).toNat)
  case atStart => exact ⟨0, by omega, rfl, HI.out⟩
  case round =>
    obtain ⟨k, hk, rfl, hi⟩ := hrel
    obtain ⟨tq, frq, hq⟩ := hi.q
    have HI := hidden hi
    have HHQ := hidden hq
    clear hi hq
    by_cases hlt : k < 10
    · obtain ⟨L0, hL0⟩ : ∃ L, rndsC k s = L := ⟨_, rfl⟩
      have hL0l : L0.length = 16 := by rw [← hL0, rndsC_len, HSL.eq]
      have HK1 : Is (rndsC (k + 1) s) (eight 8 L0) := ⟨by rw [rndsC, hL0]⟩
      rw [hL0] at HI
      have HL0 := Is.mk hL0l
      clear hL0 hL0l
      go_wp2_with (first
        | (refine wpList_load_row rfl 130 _ rfl 1 rfl tq qCells frq _ HHQ.out Tryd.underlying130 rfl HIQ.out ?_)
        | fail)
      go_loopw [14] (fun i wr => ∃ j : Nat, j ≤ 8 ∧ i = .int .i64 j ∧ MixI w wr n r m s (eight j L0)) (fun i _ => 8 - (intOf i).toNat)
      case atStart => exact ⟨0, by omega, rfl, HI.out⟩
      case round =>
        obtain ⟨j, hj, rfl, hi⟩ := hrel
        have HI := hidden hi
        clear hi
        by_cases hj8 : j < 8
        · have hix := fun w' => idxQ j hj8 w'
          have i0 := qT_lt' (4 * j) (by omega)
          have i1 := qT_lt' (4 * j + 1) (by omega)
          have i2 := qT_lt' (4 * j + 2) (by omega)
          have i3 := qT_lt' (4 * j + 3) (by omega)
          have HNX : Is (eight (j + 1) L0) (mixL (eight j L0) (qT.getD (4 * j) 0) (qT.getD (4 * j + 1) 0) (qT.getD (4 * j + 2) 0) (qT.getD (4 * j + 3) 0)) := ⟨rfl⟩
          have hLl : (eight j L0).length = 16 := by rw [eight_len, HL0.eq]
          generalize qT.getD (4 * j) 0 = a0 at *
          generalize qT.getD (4 * j + 1) 0 = a1 at *
          generalize qT.getD (4 * j + 2) 0 = a2 at *
          generalize qT.getD (4 * j + 3) 0 = a3 at *
          generalize eight j L0 = L at *
          have HLl := Is.mk hLl
          clear hLl
          go_upto_region 7 with fail
          generalize hwq : wr.alloc (.cells _ 129) = wq
          have hIq : MixI w wq n r m s L := by rw [← hwq]; exact HI.out.alloc _
          have gq : m < wr.heap.size := HI.out.work.lt
          obtain ⟨g, hg⟩ : ∃ g, wr.heap.size = g := ⟨_, rfl⟩
          have z0 : wq.cell? ⟨g, 0, none⟩ = some (.int .i64 (a0 : Int)) := by rw [← hwq, ← hg, World.cell?_alloc_at _ _ _ _ rfl]; rfl
          have z1 : wq.cell? ⟨g, 1, none⟩ = some (.int .i64 (a1 : Int)) := by rw [← hwq, ← hg, World.cell?_alloc_at _ _ _ _ rfl]; rfl
          have z2 : wq.cell? ⟨g, 2, none⟩ = some (.int .i64 (a2 : Int)) := by rw [← hwq, ← hg, World.cell?_alloc_at _ _ _ _ rfl]; rfl
          have z3 : wq.cell? ⟨g, 3, none⟩ = some (.int .i64 (a3 : Int)) := by rw [← hwq, ← hg, World.cell?_alloc_at _ _ _ _ rfl]; rfl
          have y0 : wq.cell? ⟨m, a0, none⟩ = some (.int .u32 (L.getD a0 0)) := hIq.work.cell _ (by rw [HLl.eq]; exact i0)
          have y1 : wq.cell? ⟨m, a1, none⟩ = some (.int .u32 (L.getD a1 0)) := hIq.work.cell _ (by rw [HLl.eq]; exact i1)
          have y2 : wq.cell? ⟨m, a2, none⟩ = some (.int .u32 (L.getD a2 0)) := hIq.work.cell _ (by rw [HLl.eq]; exact i2)
          have y3 : wq.cell? ⟨m, a3, none⟩ = some (.int .u32 (L.getD a3 0)) := hIq.work.cell _ (by rw [HLl.eq]; exact i3)
          have f0 := hIq.work.fr a0
          have f1 := hIq.work.fr a1
          have f2 := hIq.work.fr a2
          have f3 := hIq.work.fr a3
          simp only [hg] at gq ⊢
          have dg : ¬ m = g := by omega
          have dg' : ¬ g = m := by omega
          have HIq := hidden hIq
          have HQQ := hidden (fun W => quarter_any (L.getD a0 0) (L.getD a1 0) (L.getD a2 0) (L.getD a3 0) W)
          have HMX : Is (eight (j + 1) L0) ((((L.set a0 (quarter ⟨L.getD a0 0, L.getD a1 0, L.getD a2 0, L.getD a3 0⟩).a).set a1 (quarter ⟨L.getD a0 0, L.getD a1 0, L.getD a2 0, L.getD a3 0⟩).b).set a2 (quarter ⟨L.getD a0 0, L.getD a1 0, L.getD a2 0, L.getD a3 0⟩).c).set a3 (quarter ⟨L.getD a0 0, L.getD a1 0, L.getD a2 0, L.getD a3 0⟩).d) := HNX
          generalize L.getD a0 0 = b0 at *
          generalize L.getD a1 0 = b1 at *
          generalize L.getD a2 0 = b2 at *
          generalize L.getD a3 0 = b3 at *
          generalize quarter ⟨b0, b1, b2, b3⟩ = qq at *
          have b00 : (0 : Int) ≤ (a0 : Int) := by omega
          have b01 : (0 : Int) ≤ (a1 : Int) := by omega
          have b02 : (0 : Int) ≤ (a2 : Int) := by omega
          have b03 : (0 : Int) ≤ (a3 : Int) := by omega
          have b10 : (a0 : Int) < 16 := by omega
          have b11 : (a1 : Int) < 16 := by omega
          have b12 : (a2 : Int) < 16 := by omega
          have b13 : (a3 : Int) < 16 := by omega
          clear hwq hIq hg HNX i0 i1 i2 i3
          refine region_C 24 (fun w' => w'.cell? ⟨g, 0, none⟩ = some (.int .i64 (a0 : Int)) ∧ w'.cell? ⟨g, 1, none⟩ = some (.int .i64 (a1 : Int)) ∧ w'.cell? ⟨g, 2, none⟩ = some (.int .i64 (a2 : Int)) ∧ w'.cell? ⟨g, 3, none⟩ = some (.int .i64 (a3 : Int))) (fun w' => w'.cell? ⟨m, a0, none⟩ = some (.int .u32 b0) ∧ w'.cell? ⟨m, a1, none⟩ = some (.int .u32 b1) ∧ w'.cell? ⟨m, a2, none⟩ = some (.int .u32 b2) ∧ w'.cell? ⟨m, a3, none⟩ = some (.int .u32 b3)) (by kernel_rfl) ⟨z0, z1, z2, z3⟩ ⟨y0, y1, y2, y3⟩ ?_
          intro hS0 hS1
          refine anyC_take (i := 0) (v := ?_) rfl rfl (by decide) (by kernel_rfl) (by kernel_rfl) (by kernel_rfl) (fun _ _ _ h => h) (Or.inl ⟨by rfl, ?_⟩) hS0 (fun _ => hS1) ?_
          rotate_left
          · rintro w0 ⟨s0, s1, s2, s3⟩; go_simp; (try with_reducible rfl)
          (try simp only [Act.put, List.setIfInBounds_toArray, List.set_cons_zero, List.set_cons_succ])
          refine anyC_take (i := 1) (v := ?_) rfl rfl (by decide) (by kernel_rfl) (by kernel_rfl) (by kernel_rfl) (fun _ _ _ h => h) (Or.inl ⟨by rfl, ?_⟩) hS0 (fun _ => hS1) ?_
          rotate_left
          · rintro w0 ⟨s0, s1, s2, s3⟩; go_simp; (try with_reducible rfl)
          (try simp only [Act.put, List.setIfInBounds_toArray, List.set_cons_zero, List.set_cons_succ])
          refine anyC_take (i := 2) (v := ?_) rfl rfl (by decide) (by kernel_rfl) (by kernel_rfl) (by kernel_rfl) (fun _ _ _ h => h) (Or.inl ⟨by rfl, ?_⟩) hS0 (fun _ => hS1) ?_
          rotate_left
          · rintro w0 ⟨s0, s1, s2, s3⟩; go_simp; (try with_reducible rfl)
          (try simp only [Act.put, List.setIfInBounds_toArray, List.set_cons_zero, List.set_cons_succ])
          refine anyC_take (i := 3) (v := ?_) rfl rfl (by decide) (by kernel_rfl) (by kernel_rfl) (by kernel_rfl) (fun _ _ _ h => h) (Or.inl ⟨by rfl, ?_⟩) hS0 (fun _ => hS1) ?_
          rotate_left
          · rintro w0 ⟨s0, s1, s2, s3⟩; go_simp; (try with_reducible rfl)
          (try simp only [Act.put, List.setIfInBounds_toArray, List.set_cons_zero, List.set_cons_succ])
          refine anyC_take (i := 4) (v := ?_) rfl rfl (by decide) (by kernel_rfl) (by kernel_rfl) (by kernel_rfl) (fun _ _ _ h => h) (Or.inl ⟨by rfl, ?_⟩) hS0 (fun _ => hS1) ?_
          rotate_left
          · rintro w0 ⟨s0, s1, s2, s3⟩; go_simp; (try with_reducible rfl)
          (try simp only [Act.put, List.setIfInBounds_toArray, List.set_cons_zero, List.set_cons_succ])
          refine anyC_take (i := 5) (v := ?_) rfl rfl (by decide) (by kernel_rfl) (by kernel_rfl) (by kernel_rfl) (fun _ _ _ h => h) (Or.inl ⟨by rfl, ?_⟩) hS0 (fun _ => hS1) ?_
          rotate_left
          · rintro w0 ⟨s0, s1, s2, s3⟩; go_simp; (try with_reducible rfl)
          (try simp only [Act.put, List.setIfInBounds_toArray, List.set_cons_zero, List.set_cons_succ])
          refine anyC_take (i := 6) (v := ?_) rfl rfl (by decide) (by kernel_rfl) (by kernel_rfl) (by kernel_rfl) (fun _ _ _ h => h) (Or.inl ⟨by rfl, ?_⟩) hS0 (fun _ => hS1) ?_
          rotate_left
          · rintro w0 ⟨s0, s1, s2, s3⟩; go_simp; (try with_reducible rfl)
          (try simp only [Act.put, List.setIfInBounds_toArray, List.set_cons_zero, List.set_cons_succ])
          refine anyC_take (i := 7) (v := ?_) rfl rfl (by decide) (by kernel_rfl) (by kernel_rfl) (by kernel_rfl) (fun _ _ _ h => h) (Or.inl ⟨by rfl, ?_⟩) hS0 (fun _ => hS1) ?_
          rotate_left
          · rintro w0 ⟨s0, s1, s2, s3⟩; go_simp; (try with_reducible rfl)
          (try simp only [Act.put, List.setIfInBounds_toArray, List.set_cons_zero, List.set_cons_succ])
          refine anyC_take (i := 8) (v := ?_) rfl rfl (by decide) (by kernel_rfl) (by kernel_rfl) (by kernel_rfl) (fun _ _ _ h => h) (Or.inl ⟨by rfl, ?_⟩) hS0 (fun _ => hS1) ?_
          rotate_left
          · rintro w0 ⟨s0, s1, s2, s3⟩; go_simp; (try with_reducible rfl)
          (try simp only [Act.put, List.setIfInBounds_toArray, List.set_cons_zero, List.set_cons_succ])
          refine anyC_take (i := 9) (v := ?_) rfl rfl (by decide) (by kernel_rfl) (by kernel_rfl) (by kernel_rfl) (fun _ _ _ h => h) (Or.inl ⟨by rfl, ?_⟩) hS0 (fun _ => hS1) ?_
          rotate_left
          · rintro w0 ⟨s0, s1, s2, s3⟩; go_simp; (try with_reducible rfl)
          (try simp only [Act.put, List.setIfInBounds_toArray, List.set_cons_zero, List.set_cons_succ])
          refine anyC_take (i := 10) (v := ?_) rfl rfl (by decide) (by kernel_rfl) (by kernel_rfl) (by kernel_rfl) (fun _ _ _ h => h) (Or.inl ⟨by rfl, ?_⟩) hS0 (fun _ => hS1) ?_
          rotate_left
          · rintro w0 ⟨s0, s1, s2, s3⟩; go_simp; (try with_reducible rfl)
          (try simp only [Act.put, List.setIfInBounds_toArray, List.set_cons_zero, List.set_cons_succ])
          refine anyC_take1 (i := 11) (v := ?_) rfl rfl (by decide) (by kernel_rfl) (by kernel_rfl) (by kernel_rfl) (by kernel_rfl) (by kernel_rfl) (fun _ _ _ h => h) (Or.inl ⟨by rfl, ?_⟩) hS0 hS1 ?_
          rotate_left
          · rintro w0 ⟨⟨s0, s1, s2, s3⟩, ⟨t0, t1, t2, t3⟩⟩; go_simp; (try with_reducible rfl)
          (try simp only [Act.put, List.setIfInBounds_toArray, List.set_cons_zero, List.set_cons_succ])
          refine anyC_take (i := 12) (v := ?_) rfl rfl (by decide) (by kernel_rfl) (by kernel_rfl) (by kernel_rfl) (fun _ _ _ h => h) (Or.inl ⟨by rfl, ?_⟩) hS0 (fun _ => hS1) ?_
          rotate_left
          · rintro w0 ⟨s0, s1, s2, s3⟩; go_simp; (try with_reducible rfl)
          (try simp only [Act.put, List.setIfInBounds_toArray, List.set_cons_zero, List.set_cons_succ])
          refine anyC_take (i := 13) (v := ?_) rfl rfl (by decide) (by kernel_rfl) (by kernel_rfl) (by kernel_rfl) (fun _ _ _ h => h) (Or.inl ⟨by rfl, ?_⟩) hS0 (fun _ => hS1) ?_
          rotate_left
          · rintro w0 ⟨s0, s1, s2, s3⟩; go_simp; (try with_reducible rfl)
          (try simp only [Act.put, List.setIfInBounds_toArray, List.set_cons_zero, List.set_cons_succ])
          refine anyC_take (i := 14) (v := ?_) rfl rfl (by decide) (by kernel_rfl) (by kernel_rfl) (by kernel_rfl) (fun _ _ _ h => h) (Or.inl ⟨by rfl, ?_⟩) hS0 (fun _ => hS1) ?_
          rotate_left
          · rintro w0 ⟨s0, s1, s2, s3⟩; go_simp; (try with_reducible rfl)
          (try simp only [Act.put, List.setIfInBounds_toArray, List.set_cons_zero, List.set_cons_succ])
          refine anyC_take1 (i := 15) (v := ?_) rfl rfl (by decide) (by kernel_rfl) (by kernel_rfl) (by kernel_rfl) (by kernel_rfl) (by kernel_rfl) (fun _ _ _ h => h) (Or.inl ⟨by rfl, ?_⟩) hS0 hS1 ?_
          rotate_left
          · rintro w0 ⟨⟨s0, s1, s2, s3⟩, ⟨t0, t1, t2, t3⟩⟩; go_simp; (try with_reducible rfl)
          (try simp only [Act.put, List.setIfInBounds_toArray, List.set_cons_zero, List.set_cons_succ])
          refine anyC_take (i := 16) (v := ?_) rfl rfl (by decide) (by kernel_rfl) (by kernel_rfl) (by kernel_rfl) (fun _ _ _ h => h) (Or.inl ⟨by rfl, ?_⟩) hS0 (fun _ => hS1) ?_
          rotate_left
          · rintro w0 ⟨s0, s1, s2, s3⟩; go_simp; (try with_reducible rfl)
          (try simp only [Act.put, List.setIfInBounds_toArray, List.set_cons_zero, List.set_cons_succ])
          refine anyC_take (i := 17) (v := ?_) rfl rfl (by decide) (by kernel_rfl) (by kernel_rfl) (by kernel_rfl) (fun _ _ _ h => h) (Or.inl ⟨by rfl, ?_⟩) hS0 (fun _ => hS1) ?_
          rotate_left
          · rintro w0 ⟨s0, s1, s2, s3⟩; go_simp; (try with_reducible rfl)
          (try simp only [Act.put, List.setIfInBounds_toArray, List.set_cons_zero, List.set_cons_succ])
          refine anyC_take (i := 18) (v := ?_) rfl rfl (by decide) (by kernel_rfl) (by kernel_rfl) (by kernel_rfl) (fun _ _ _ h => h) (Or.inl ⟨by rfl, ?_⟩) hS0 (fun _ => hS1) ?_
          rotate_left
          · rintro w0 ⟨s0, s1, s2, s3⟩; go_simp; (try with_reducible rfl)
          (try simp only [Act.put, List.setIfInBounds_toArray, List.set_cons_zero, List.set_cons_succ])
          refine anyC_take1 (i := 19) (v := ?_) rfl rfl (by decide) (by kernel_rfl) (by kernel_rfl) (by kernel_rfl) (by kernel_rfl) (by kernel_rfl) (fun _ _ _ h => h) (Or.inl ⟨by rfl, ?_⟩) hS0 hS1 ?_
          rotate_left
          · rintro w0 ⟨⟨s0, s1, s2, s3⟩, ⟨t0, t1, t2, t3⟩⟩; go_simp; (try with_reducible rfl)
          (try simp only [Act.put, List.setIfInBounds_toArray, List.set_cons_zero, List.set_cons_succ])
          refine anyC_take (i := 20) (v := ?_) rfl rfl (by decide) (by kernel_rfl) (by kernel_rfl) (by kernel_rfl) (fun _ _ _ h => h) (Or.inl ⟨by rfl, ?_⟩) hS0 (fun _ => hS1) ?_
          rotate_left
          · rintro w0 ⟨s0, s1, s2, s3⟩; go_simp; (try with_reducible rfl)
          (try simp only [Act.put, List.setIfInBounds_toArray, List.set_cons_zero, List.set_cons_succ])
          refine anyC_take (i := 21) (v := ?_) rfl rfl (by decide) (by kernel_rfl) (by kernel_rfl) (by kernel_rfl) (fun _ _ _ h => h) (Or.inl ⟨by rfl, ?_⟩) hS0 (fun _ => hS1) ?_
          rotate_left
          · rintro w0 ⟨s0, s1, s2, s3⟩; go_simp; (try with_reducible rfl)
          (try simp only [Act.put, List.setIfInBounds_toArray, List.set_cons_zero, List.set_cons_succ])
          refine anyC_take (i := 22) (v := ?_) rfl rfl (by decide) (by kernel_rfl) (by kernel_rfl) (by kernel_rfl) (fun _ _ _ h => h) (Or.inl ⟨by rfl, ?_⟩) hS0 (fun _ => hS1) ?_
          rotate_left
          · rintro w0 ⟨s0, s1, s2, s3⟩; go_simp; (try with_reducible rfl)
          (try simp only [Act.put, List.setIfInBounds_toArray, List.set_cons_zero, List.set_cons_succ])
          refine anyC_take1 (i := 23) (v := ?_) rfl rfl (by decide) (by kernel_rfl) (by kernel_rfl) (by kernel_rfl) (by kernel_rfl) (by kernel_rfl) (fun _ _ _ h => h) (Or.inl ⟨by rfl, ?_⟩) hS0 hS1 ?_
          rotate_left
          · rintro w0 ⟨⟨s0, s1, s2, s3⟩, ⟨t0, t1, t2, t3⟩⟩; go_simp; (try with_reducible rfl)
          (try simp only [Act.put, List.setIfInBounds_toArray, List.set_cons_zero, List.set_cons_succ])
          refine anyC_one (i := 24) (by kernel_rfl) rfl (fun K hK => ?_)
          go_simp
          (go_at_call 86; (with_reducible refine (HQQ.out _).mono ?_); rintro e w' ⟨rfl, rfl⟩; simp only [encW])
          refine hK.out _ _ hS0 (fun _ => hS1) ?_
          clear hK K
          (try simp only [Act.put, List.setIfInBounds_toArray, List.set_cons_zero, List.set_cons_succ])
          refine anyC_take (i := 25) (v := ?_) rfl rfl (by decide) (by kernel_rfl) (by kernel_rfl) (by kernel_rfl) (fun _ _ _ h => h) (Or.inl ⟨by rfl, ?_⟩) hS0 (fun h => nomatch (h.symm.trans (by kernel_rfl) : false = true)) ?_
          rotate_left
          · rintro w0 ⟨s0, s1, s2, s3⟩; go_simp; (try with_reducible rfl)
          (try simp only [Act.put, List.setIfInBounds_toArray, List.set_cons_zero, List.set_cons_succ])
          refine anyC_take (i := 26) (v := ?_) rfl rfl (by decide) (by kernel_rfl) (by kernel_rfl) (by kernel_rfl) (fun _ _ _ h => h) (Or.inl ⟨by rfl, ?_⟩) hS0 (fun h => nomatch (h.symm.trans (by kernel_rfl) : false = true)) ?_
          rotate_left
          · rintro w0 ⟨s0, s1, s2, s3⟩; go_simp; (try with_reducible rfl)
          (try simp only [Act.put, List.setIfInBounds_toArray, List.set_cons_zero, List.set_cons_succ])
          refine anyC_take (i := 27) (v := ?_) rfl rfl (by decide) (by kernel_rfl) (by kernel_rfl) (by kernel_rfl) (fun _ _ _ h => h) (Or.inl ⟨by rfl, ?_⟩) hS0 (fun h => nomatch (h.symm.trans (by kernel_rfl) : false = true)) ?_
          rotate_left
          · rintro w0 ⟨s0, s1, s2, s3⟩; go_simp; (try with_reducible rfl)
          (try simp only [Act.put, List.setIfInBounds_toArray, List.set_cons_zero, List.set_cons_succ])
          refine anyC_take (i := 28) (v := ?_) rfl rfl (by decide) (by kernel_rfl) (by kernel_rfl) (by kernel_rfl) (fun _ _ _ h => h) (Or.inl ⟨by rfl, ?_⟩) hS0 (fun h => nomatch (h.symm.trans (by kernel_rfl) : false = true)) ?_
          rotate_left
          · rintro w0 ⟨s0, s1, s2, s3⟩; go_simp; (try with_reducible rfl)
          (try simp only [Act.put, List.setIfInBounds_toArray, List.set_cons_zero, List.set_cons_succ])
          refine anyC_take (i := 29) (v := ?_) rfl rfl (by decide) (by kernel_rfl) (by kernel_rfl) (by kernel_rfl) (fun _ _ _ h => h) (Or.inl ⟨by rfl, ?_⟩) hS0 (fun h => nomatch (h.symm.trans (by kernel_rfl) : false = true)) ?_
          rotate_left
          · rintro w0 ⟨s0, s1, s2, s3⟩; go_simp; (try with_reducible rfl)
          (try simp only [Act.put, List.setIfInBounds_toArray, List.set_cons_zero, List.set_cons_succ])
          refine anyC_take (i := 30) (v := ?_) rfl rfl (by decide) (by kernel_rfl) (by kernel_rfl) (by kernel_rfl) (fun _ _ _ h => h) (Or.inl ⟨by rfl, ?_⟩) hS0 (fun h => nomatch (h.symm.trans (by kernel_rfl) : false = true)) ?_
          rotate_left
          · rintro w0 ⟨s0, s1, s2, s3⟩; go_simp; (try with_reducible rfl)
          (try simp only [Act.put, List.setIfInBounds_toArray, List.set_cons_zero, List.set_cons_succ])
          refine anyC_one (i := 31) (by kernel_rfl) rfl (fun K hK => ?_)
          go_simp
          refine hK.out _ _ ?_ (fun h => nomatch (h.symm.trans (by kernel_rfl) : false = true)) ?_
          · exact keepQ dg hS0
          have hS0 := keepQ (v := .int .u32 qq.a) (j := a0) dg hS0
          clear hK K
          (try simp only [Act.put, List.setIfInBounds_toArray, List.set_cons_zero, List.set_cons_succ])
          refine anyC_take (i := 32) (v := ?_) rfl rfl (by decide) (by kernel_rfl) (by kernel_rfl) (by kernel_rfl) (fun _ _ _ h => h) (Or.inl ⟨by rfl, ?_⟩) hS0 (fun h => nomatch (h.symm.trans (by kernel_rfl) : false = true)) ?_
          rotate_left
          · rintro w0 ⟨s0, s1, s2, s3⟩; go_simp; (try with_reducible rfl)
          (try simp only [Act.put, List.setIfInBounds_toArray, List.set_cons_zero, List.set_cons_succ])
          have W1 : Wd (wq.setCell ⟨m, a0, none⟩ (.int .u32 qq.a)) m 84 (L.set a0 qq.a) := (HIq.out.work.set a0 qq.a)
          have yy1 := W1.cell a1 (by simp only [List.length_set]; rw [HLl.eq]; omega)
          have ff1 := W1.fr a1
          clear W1
          refine anyC_one (i := 33) (by kernel_rfl) rfl (fun K hK => ?_)
          go_simp
          refine hK.out _ _ ?_ (fun h => nomatch (h.symm.trans (by kernel_rfl) : false = true)) ?_
          · exact keepQ dg hS0
          have hS0 := keepQ (v := .int .u32 qq.b) (j := a1) dg hS0
          clear hK K
          (try simp only [Act.put, List.setIfInBounds_toArray, List.set_cons_zero, List.set_cons_succ])
          refine anyC_take (i := 34) (v := ?_) rfl rfl (by decide) (by kernel_rfl) (by kernel_rfl) (by kernel_rfl) (fun _ _ _ h => h) (Or.inl ⟨by rfl, ?_⟩) hS0 (fun h => nomatch (h.symm.trans (by kernel_rfl) : false = true)) ?_
          rotate_left
          · rintro w0 ⟨s0, s1, s2, s3⟩; go_simp; (try with_reducible rfl)
          (try simp only [Act.put, List.setIfInBounds_toArray, List.set_cons_zero, List.set_cons_succ])
          clear yy1 ff1
          have W2 : Wd ((wq.setCell ⟨m, a0, none⟩ (.int .u32 qq.a)).setCell ⟨m, a1, none⟩ (.int .u32 qq.b)) m 84 ((L.set a0 qq.a).set a1 qq.b) := ((HIq.out.work.set a0 qq.a).set a1 qq.b)
          have yy2 := W2.cell a2 (by simp only [List.length_set]; rw [HLl.eq]; omega)
          have ff2 := W2.fr a2
          clear W2
          refine anyC_one (i := 35) (by kernel_rfl) rfl (fun K hK => ?_)
          go_simp
          refine hK.out _ _ ?_ (fun h => nomatch (h.symm.trans (by kernel_rfl) : false = true)) ?_
          · exact keepQ dg hS0
          have hS0 := keepQ (v := .int .u32 qq.c) (j := a2) dg hS0
          clear hK K
          (try simp only [Act.put, List.setIfInBounds_toArray, List.set_cons_zero, List.set_cons_succ])
          refine anyC_take (i := 36) (v := ?_) rfl rfl (by decide) (by kernel_rfl) (by kernel_rfl) (by kernel_rfl) (fun _ _ _ h => h) (Or.inl ⟨by rfl, ?_⟩) hS0 (fun h => nomatch (h.symm.trans (by kernel_rfl) : false = true)) ?_
          rotate_left
          · rintro w0 ⟨s0, s1, s2, s3⟩; go_simp; (try with_reducible rfl)
          (try simp only [Act.put, List.setIfInBounds_toArray, List.set_cons_zero, List.set_cons_succ])
          clear yy2 ff2
          have W3 : Wd (((wq.setCell ⟨m, a0, none⟩ (.int .u32 qq.a)).setCell ⟨m, a1, none⟩ (.int .u32 qq.b)).setCell ⟨m, a2, none⟩ (.int .u32 qq.c)) m 84 (((L.set a0 qq.a).set a1 qq.b).set a2 qq.c) := (((HIq.out.work.set a0 qq.a).set a1 qq.b).set a2 qq.c)
          have yy3 := W3.cell a3 (by simp only [List.length_set]; rw [HLl.eq]; omega)
          have ff3 := W3.fr a3
          clear W3
          refine anyC_one (i := 37) (by kernel_rfl) rfl (fun K hK => ?_)
          go_simp
          refine hK.out _ _ ?_ (fun h => nomatch (h.symm.trans (by kernel_rfl) : false = true)) ?_
          · exact keepQ dg hS0
          have hS0 := keepQ (v := .int .u32 qq.d) (j := a3) dg hS0
          clear hK K
          (try simp only [Act.put, List.setIfInBounds_toArray, List.set_cons_zero, List.set_cons_succ])
          refine anyC_done (by kernel_rfl) ?_ _
          go_wp2
          go_roundw
          case rel =>
            refine ⟨j + 1, by omega, by go_num, ?_⟩
            rw [HMX.eq]
            have hnm := HIq.out.box.lt
            have h1 := (((HIq.out.set d0 d1 d2 HGM.out a0 qq.a).set d0 d1 d2 HGM.out a1 qq.b).set d0 d1 d2 HGM.out a2 qq.c).set d0 d1 d2 HGM.out a3 qq.d
            exact h1.drew
          case measure => simp [intOf]; omega
        · obtain rfl : j = 8 := by omega
          rw [← HK1.eq] at HI
          go_wp2
          go_roundw
          case rel => exact ⟨k + 1, by omega, by go_num, HI.out⟩
          case measure => simp [intOf]; omega
    · obtain rfl : k = 10 := by omega
      rw [HE.eq] at HI
      have gM : m < wr.heap.size := HI.out.work.lt
      clear HHQ
      go_wp2_with (first
        | (refine wpList_load_row rfl 84 _ rfl m rfl 84 (E.map (Value.int .u32)).toArray (0, 0) _ (HI.out.work.alloc _).heap Tryd.underlying84 rfl HIE.out ?_)
        | fail)
      have HO0 := hidden (Wb.new wr 89 (List.replicate 64 0) _ rfl)
      have HI0 := hidden (HI.out.alloc (.cells ((List.replicate 64 (0 : Int)).map (Value.int .u8)).toArray 89))
      obtain ⟨M, hM⟩ : ∃ M, wr.heap.size = M := ⟨_, rfl⟩
      rw [hM] at HO0 gM
      simp only [hM]
      have e1 : ¬ n = M := by omega
      have e2 : ¬ r = M := by omega
      have e3 : n ≤ M := by omega
      clear hM
      go_loopw [54] (fun i wr => ∃ k : Nat, k ≤ 16 ∧ i = .int .i64 k ∧ Wd wr n 84 s ∧ Wb wr r 89 (List.replicate 64 0) ∧ Wb wr M 89 (bytesLE (sums E s k) ++ List.replicate (64 - 4 * k) 0) ∧ Below n w wr) (fun i _ => 16 - (intOf i).toNat)
      case atStart => exact ⟨0, by omega, rfl, HI0.out.box, HI0.out.out, HO0.out, HI0.out.bel⟩
      case round =>
        obtain ⟨k, hk, rfl, hbx, hrs, hou, hbl⟩ := hrel
        have HBX := hidden hbx
        have HRS := hidden hrs
        have HOU := hidden hou
        have HBL := hidden hbl
        clear hbx hrs hou hbl HO0 HI0 HI
        by_cases hlt : k < 16
        · have hix := HIX.out k hlt
          have cs := HBX.out.cell k (by rw [HSL.eq]; exact hlt)
          have HSM : Is (sums E s (k + 1)) (sums E s k ++ [(E.getD k 0 + s.getD k 0) % 4294967296]) := ⟨rfl⟩
          have hl0 : (bytesLE (sums E s k)).length = 4 * k := by rw [bytesLE_len, sums_len]
          have b0 : (0 : Int) ≤ (k : Int) := by omega
          have b1 : (k : Int) < 16 := by omega
          generalize E.getD k 0 = x at *
          generalize s.getD k 0 = y at *
          go_wp2_with fail
          obtain ⟨v, hv⟩ : ∃ v, (x + y) % 4294967296 = v := ⟨_, rfl⟩
          rw [hv] at HSM
          simp only [hv]
          have HBE : Is (bytesLE (sums E s (k + 1))) (bytesLE (sums E s k) ++ (le4 v).take 4) := ⟨by rw [HSM.eq, bytesLE_append]; rfl⟩
          generalize bytesLE (sums E s k) = B at *
          obtain ⟨B', hB'⟩ : ∃ B', bytesLE (sums E s (k + 1)) = B' := ⟨_, rfl⟩
          rw [hB'] at HBE
          have HB' := Is.mk hB'
          clear hB'
          have HL0 := Is.mk hl0
          have hv0 : 0 ≤ v ∧ v < 4294967296 := by omega
          clear hl0 hv HSM hix cs
          go_loopw [63] (fun i wr => ∃ j : Nat, j ≤ 4 ∧ i = .int .i64 j ∧ Wd wr n 84 s ∧ Wb wr r 89 (List.replicate 64 0) ∧ Wb wr M 89 ((B ++ (le4 v).take j) ++ List.replicate (64 - (4 * k + j)) 0) ∧ Below n w wr) (fun i _ => 4 - (intOf i).toNat)
          case atStart => exact ⟨0, by omega, rfl, HBX.out, HRS.out, by rw [le4_take0, List.append_nil]; exact HOU.out, HBL.out⟩
          case round =>
            obtain ⟨j, hj, rfl, hbx, hrs, hou, hbl⟩ := hrel
            have HBX := hidden hbx
            have HRS := hidden hrs
            have HOU := hidden hou
            have HBL := hidden hbl
            clear hbx hrs hou hbl
            by_cases hj4 : j < 4
            · have hc : j = 0 ∨ j = 1 ∨ j = 2 ∨ j = 3 := by omega
              have hll : (B ++ (le4 v).take j).length = 4 * k + j := by rw [List.length_append, HL0.eq, List.length_take]; simp [le4]; omega
              have cj := HOU.out.cell (4 * k + j) (by rw [List.length_append, hll, List.length_replicate]; omega)
              have fj := HOU.out.fr (4 * k + j)
              clear hll
              rcases hc with rfl | rfl | rfl | rfl
              · simp only [Nat.add_zero] at cj fj
                go_wp2
                go_roundw
                case rel => exact ⟨1, by omega, by go_num, HBX.out.other _ _ e1, HRS.out.other _ _ e2, HOU.out.fillJ HL0.eq (by omega) hlt (le4_take1 v) (4 * k) 1 (by omega) rfl, HBL.out.setCell e3 _⟩
                case measure => simp [intOf]
              · go_wp2
                go_roundw
                case rel => exact ⟨2, by omega, by go_num, HBX.out.other _ _ e1, HRS.out.other _ _ e2, HOU.out.fillJ HL0.eq (by omega) hlt (le4_take2 v) (4 * k + 1) 2 (by omega) rfl, HBL.out.setCell e3 _⟩
                case measure => simp [intOf]
              · go_wp2
                go_roundw
                case rel => exact ⟨3, by omega, by go_num, HBX.out.other _ _ e1, HRS.out.other _ _ e2, HOU.out.fillJ HL0.eq (by omega) hlt (le4_take3 v) (4 * k + 2) 3 (by omega) rfl, HBL.out.setCell e3 _⟩
                case measure => simp [intOf]
              · go_wp2
                go_roundw
                case rel => exact ⟨4, by omega, by go_num, HBX.out.other _ _ e1, HRS.out.other _ _ e2, HOU.out.fillJ HL0.eq (by omega) hlt (by rw [le4_take4 v, show v / 16777216 % 256 = v / 16777216 by omega]) (4 * k + 3) 4 (by omega) rfl, HBL.out.setCell e3 _⟩
                case measure => simp [intOf]
            · obtain rfl : j = 4 := by omega
              have HO4 : Hid (Wb wr M 89 (B' ++ List.replicate (64 - 4 * (k + 1)) 0)) := by
                rw [HBE.eq]
                exact HOU.out
              clear HOU
              go_wp2
              go_roundw
              case rel => exact ⟨k + 1, by omega, by go_num, HBX.out, HRS.out, by rw [HB'.eq]; exact HO4.out, HBL.out⟩
              case measure => simp [intOf]; omega
        · obtain rfl : k = 16 := by omega
          have HO4 : Hid (Wb wr M 89 R) := by
            have := HOU.out
            rw [HRE.eq] at this
            exact hidden (by simpa using this)
          have HR4 := hidden (HRS.out.row R)
          have HB4 := hidden (below_setRow HBL.out d5 (R.map (Value.int .u8)).toArray)
          clear HOU
          go_wp2_with (first
            | (refine wpList_load_row rfl 89 _ rfl M rfl 89 _ (0, 0) _ HO4.out.heap Tryd.underlying89 rfl HIR.out ?_)
            | (refine wpList_store_row rfl 89 _ _ rfl r (R.map (Value.int .u8)).toArray rfl rfl 89 _ HRS.out.heap HIR.out HZR.out HONER.out ?_)
            | fail)
          refine bodyPost_ret (results_cell_row rfl _ _ r 89 _ _ _ rfl HR4.out.heap Tryd.underlying89 rfl HIR.out) rfl ?_
          exact ⟨rfl, by rw [HN.out]; exact HB4.out⟩
end Go.Proofs.YtpocehpejbnemaaDoor
