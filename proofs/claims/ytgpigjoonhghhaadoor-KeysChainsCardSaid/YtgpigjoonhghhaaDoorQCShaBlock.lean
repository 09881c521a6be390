/-
  sha256.Block: a block hashed.
-/
import Derived.Test.YtgpigjoonhghhaaDoorQCShaSched
import Derived.Deep.Cut
import Derived.Deep.CutRange
import Derived.Deep.RegionHeld3
namespace Go.Proofs.YtgpigjoonhghhaaDoor
open Go.RowKit
set_option linter.unusedVariables false
theorem Tryd.infoU32 : (Tryd.prog.info? 80).map (fun i => (i.zero, i.size, i.bytes)) = some (some (.int .u32 0), 1, 4) := by kernel_rfl
theorem info8 : (Tryd.prog.info? 81).map (·.size) = some 8 := by kernel_rfl
structure KAt (w : World) : Prop where
  cell : ∀ j, j < 64 → w.cell? ⟨0, j, none⟩ = some (.int .u32 (kTab.getD j 0))
  lt : 0 < w.heap.size
theorem KAt.below {w w' : World} {B : Nat} (h : KAt w) (hb : Below B w w') (hB : 0 < B) : KAt w' :=
  ⟨fun j hj => by rw [hb.cell (p := ⟨_, j, none⟩) hB]; exact h.cell j hj, Nat.lt_of_lt_of_le h.lt hb.size⟩
theorem run_index {P : Program} {t e : TypeId} {n : Nat} (ht : P.underlying t = some (.array n e)) (he : P.underlying e = some (.int .u32)) {i : TypeInfo} (hi : P.info? e = some i) (hs : i.size = 1) (l : List Int) (hl : l.length = n) (j : Nat) (hj : j < n) (w : World) :
    (Instr.index t (.agg (l.map (Value.int .u32)).toArray) (.int .i64 j)).run P w = .ok (.int .u32 (l.getD j 0)) w := by
  subst hl
  have h1 : (0 : Int) ≤ (j : Int) ∧ (j : Int) < (l.length : Int) := by omega
  have h2 : (Option.map (Value.int IntKind.u32) l[j]?) = some (.int .u32 (l.getD j 0)) := by
    simp [List.getD_eq_getElem?_getD, hj]
  unfold Instr.index
  simp [asIntOf, run_underlying ht, run_underlying he, part, isAgg, sizeOf, typeInfo, hi, hs, h2, Result.andThen]
  intro h
  omega
structure AddTo (A B M : List Int) (j : Nat) : Prop where
  len : M.length = A.length
  lo : ∀ i, i < j → M.getD i 0 = (A.getD i 0 + B.getD i 0) % 4294967296
  hi : ∀ i, j ≤ i → M.getD i 0 = A.getD i 0
theorem AddTo.next {A B M : List Int} {j : Nat} (h : AddTo A B M j) (hj : j < A.length) : AddTo A B (M.set j ((A.getD j 0 + B.getD j 0) % 4294967296)) (j + 1) := by
  refine ⟨by simp [h.len], fun i hi => ?_, fun i hi => ?_⟩
  · rw [getD_set _ _ _ _ (by rw [h.len]; exact hj)]
    by_cases e : j = i
    · subst e; simp
    · rw [if_neg e]; exact h.lo i (by omega)
  · rw [getD_set _ _ _ _ (by rw [h.len]; exact hj), if_neg (by omega)]
    exact h.hi i (by omega)
theorem AddTo.all {s t : H8} {M : List Int} (h : AddTo s.list t.list M 8) : M = (add8 s t).list := by
  have hl : M.length = 8 := h.len
  have := h.lo
  match M, hl with
  | [m0, m1, m2, m3, m4, m5, m6, m7], _ =>
    have e0 := this 0 (by omega)
    have e1 := this 1 (by omega)
    have e2 := this 2 (by omega)
    have e3 := this 3 (by omega)
    have e4 := this 4 (by omega)
    have e5 := this 5 (by omega)
    have e6 := this 6 (by omega)
    have e7 := this 7 (by omega)
    simp [H8.list] at e0 e1 e2 e3 e4 e5 e6 e7
    subst e0 e1 e2 e3 e4 e5 e6 e7
    rfl
theorem results_row_tmp {P : Program} {fn : Func} {p u : Tmp} {ty : TypeId} (h : fn.results = #[.cell p ty, .tmp u]) (tmps : Array Value) (w : World) (g : Nat) (t : TypeId) (cs : Array Value) (fr : Nat × Nat) (d : TypeDesc) (v : Value)
    (hp : tmps.getD p undef = .pointer (some ⟨g, 0, none⟩)) (hv : tmps.getD u undef = v) (hg : w.heap[g]? = some (.cells cs t fr))
    (hu : P.underlying ty = some d) (hd : (match d with | .struct _ | .array _ _ => true | _ => false) = true) (hi : (P.info? ty).map (·.size) = some cs.size) :
    (results fn tmps).run P w = .ok (.tuple #[.agg cs, v]) w := by
  rw [results_cell_tmp h]
  simp only [hp]
  simp [Result.andThen, hv, asAddr, run_loadVar_row w g t ty cs fr d hg hu hd hi]
set_option maxHeartbeats 1600000 in
set_option maxRecDepth 100000 in
theorem block_any (s : H8) (p : Option Addr) (c : Nat) (xs : List Int) (w : World) (h : Byt w p 64 c xs) (hK : KAt w) :
    Calls Tryd.prog 68 #[(.agg #[.int .u32 s.a, .int .u32 s.b, .int .u32 s.c, .int .u32 s.d, .int .u32 s.e, .int .u32 s.f, .int .u32 s.g, .int .u32 s.h]), .slice p 64 c] w fun e w' => e = .returned (.tuple #[(.agg #[.int .u32 (blockS s xs).a, .int .u32 (blockS s xs).b, .int .u32 (blockS s xs).c, .int .u32 (blockS s xs).d, .int .u32 (blockS s xs).e, .int .u32 (blockS s xs).f, .int .u32 (blockS s xs).g, .int .u32 (blockS s xs).h]), .bool true]) ∧ Below w.heap.size w w' := by
  obtain ⟨R, hR⟩ : ∃ R, blockS s xs = R := ⟨_, rfl⟩
  obtain ⟨S, hS⟩ : ∃ S, sched 48 (words xs 16) = S := ⟨_, rfl⟩
  have hSl : S.length = 64 := by rw [← hS, sched_len, words_len]
  obtain ⟨E, hE⟩ : ∃ E, rounds kTab S s = E := ⟨_, rfl⟩
  have hRS : add8 s E = R := by rw [← hR, ← hE, ← hS]; rfl
  rw [hR]
  obtain ⟨i0, hi0, hz0, hz1, hz2⟩ := info_parts Tryd.infoU32
  have HE := Is.mk hE
  have HRS := Is.mk hRS
  have HSL := Is.mk hSl
  have HX := hidden h
  have HK := hidden hK
  have HSC := hidden (fun w' (hb : Below w.heap.size w w') => sched_any p c xs w' (h.below hb))
  rw [hS] at HSC
  have HIX := hidden (fun (j : Nat) (hj : j < 64) (w' : World) => run_index (P := Tryd.prog) Tryd.underlying93 Tryd.underlying80 hi0 hz1 S hSl j hj w')
  have HIT : Hid (∀ (T : H8) (j : Nat), j < 8 → ∀ w' : World, (Instr.index 81 (.agg #[.int .u32 T.a, .int .u32 T.b, .int .u32 T.c, .int .u32 T.d, .int .u32 T.e, .int .u32 T.f, .int .u32 T.g, .int .u32 T.h]) (.int .i64 j)).run Tryd.prog w' = .ok (.int .u32 (T.list.getD j 0)) w') := fun T j hj w' => run_index (P := Tryd.prog) Tryd.underlying81 Tryd.underlying80 hi0 hz1 T.list rfl j hj w'
  clear hR hS hSl hRS h hK hE hi0 hz0 hz1 hz2
  go_enter Tryd.func68, Tryd.ntmps68
  go_upto_region 3 with fail
  generalize hw1 : (w.alloc (.cells _ 81)).alloc (.cells _ 81) = w1
  have hs : Wd w1 w.heap.size 81 s.list := by
    rw [← hw1]
    exact (Wd.new w _ s.list _ rfl).alloc _
  have hd : Wd w1 (w.heap.size + 1) 81 (List.replicate 8 0) := by
    rw [← hw1]
    have := Wd.new (w.alloc (.cells (s.list.map (Value.int .u32)).toArray 81)) 81 (List.replicate 8 0) _ rfl
    rw [World.size_alloc] at this
    exact this
  have hb : Below w.heap.size w w1 := by
    rw [← hw1]
    exact ((Below.refl _ w).alloc (Nat.le_refl _) _).alloc (by simp) _
  clear hw1
  have hk1 := HK.out.below hb HK.out.lt
  obtain ⟨n, hn⟩ : ∃ n, w.heap.size = n := ⟨_, rfl⟩
  have HKL := hidden HK.out.lt
  simp only [hn] at hs hd hb ⊢
  rw [hn] at HSC HKL
  have HN := hidden hn
  have HS := hidden hs
  have HD := hidden hd
  have HB := hidden hb
  have HK1 := hidden hk1
  have c0 : w1.cell? ⟨n, 0, none⟩ = some (.int .u32 s.a) := hs.cell 0 (by simp [H8.list])
  have c1 : w1.cell? ⟨n, 1, none⟩ = some (.int .u32 s.b) := hs.cell 1 (by simp [H8.list])
  have c2 : w1.cell? ⟨n, 2, none⟩ = some (.int .u32 s.c) := hs.cell 2 (by simp [H8.list])
  have c3 : w1.cell? ⟨n, 3, none⟩ = some (.int .u32 s.d) := hs.cell 3 (by simp [H8.list])
  have c4 : w1.cell? ⟨n, 4, none⟩ = some (.int .u32 s.e) := hs.cell 4 (by simp [H8.list])
  have c5 : w1.cell? ⟨n, 5, none⟩ = some (.int .u32 s.f) := hs.cell 5 (by simp [H8.list])
  have c6 : w1.cell? ⟨n, 6, none⟩ = some (.int .u32 s.g) := hs.cell 6 (by simp [H8.list])
  have c7 : w1.cell? ⟨n, 7, none⟩ = some (.int .u32 s.h) := hs.cell 7 (by simp [H8.list])
  clear hs hd hb hn hk1 HK
  go_region_held3 (fun w' => w'.cell? ⟨n, 0, none⟩ = some (.int .u32 s.a) ∧ w'.cell? ⟨n, 1, none⟩ = some (.int .u32 s.b) ∧ w'.cell? ⟨n, 2, none⟩ = some (.int .u32 s.c) ∧ w'.cell? ⟨n, 3, none⟩ = some (.int .u32 s.d) ∧ w'.cell? ⟨n, 4, none⟩ = some (.int .u32 s.e) ∧ w'.cell? ⟨n, 5, none⟩ = some (.int .u32 s.f) ∧ w'.cell? ⟨n, 6, none⟩ = some (.int .u32 s.g) ∧ w'.cell? ⟨n, 7, none⟩ = some (.int .u32 s.h)) (go_keep) (first | fail)
  have HSC1 := hidden (HSC.out w1.drew HB.out.drew)
  have HS1 := hidden HS.out.drew
  have HD1 := hidden HD.out.drew
  have HB1 := hidden HB.out.drew
  have HKD : KAt w1.drew := ⟨HK1.out.cell, HK1.out.lt⟩
  have HKD := hidden HKD
  have hn1 : n < w1.drew.heap.size := HS1.out.lt
  clear c0 c1 c2 c3 c4 c5 c6 c7 HSC HS HD HB HK1
  generalize w1.drew = w2 at *
  go_wp2_with (first
    | (go_at_call 75; (with_reducible refine (HSC1.out).mono ?_); rintro e w3 ⟨rfl, hb3⟩; have HS3 := hidden (HS1.out.below hb3); have HD3 := hidden (HD1.out.below hb3); have HB3 := hidden (HB1.out.trans (hb3.mono (Nat.le_of_lt hn1))); have HK3 := hidden (HKD.out.below hb3 HKD.out.lt); clear hb3 HS1 HD1 HB1 HKD HSC1)
    | fail)
  go_loopw [6, 7, 8, 9, 10, 11, 12, 13, 42] (fun a b c d e f g h i wr => ∃ (j : Nat) (T : H8), j ≤ 64 ∧ i = .int .i64 j ∧ a = .int .u32 T.a ∧ b = .int .u32 T.b ∧ c = .int .u32 T.c ∧ d = .int .u32 T.d ∧ e = .int .u32 T.e ∧ f = .int .u32 T.f ∧ g = .int .u32 T.g ∧ h = .int .u32 T.h ∧
      Is (rounds (kTab.drop j) (S.drop j) T) E ∧ Wd wr n 81 s.list ∧ Wd wr (n + 1) 81 (List.replicate 8 0) ∧ Below n w wr ∧ KAt wr) (fun _ _ _ _ _ _ _ _ i _ => 64 - (intOf i).toNat)
  case atStart => exact ⟨0, s, by omega, rfl, rfl, rfl, rfl, rfl, rfl, rfl, rfl, rfl, HE, HS3.out, HD3.out, HB3.out, HK3.out⟩
  case round =>
    obtain ⟨j, T, hj, rfl, rfl, rfl, rfl, rfl, rfl, rfl, rfl, rfl, HR, hs, hd, hb, hk⟩ := hrel
    have HS := hidden hs
    have HD := hidden hd
    have HB := hidden hb
    have HK := hidden hk
    clear hs hd hb hk HS3 HD3 HB3 HK3
    by_cases hlt : j < 64
    · have ck : wr.cell? ⟨0, j, none⟩ = some (.int .u32 (kTab.getD j 0)) := HK.out.cell j hlt
      have hix := HIX.out j hlt
      have hst := rounds_step kTab S j T (by rw [kTab_len]; exact hlt) (by rw [HSL.eq]; exact hlt)
      have HST := Is.mk hst
      generalize kTab.getD j 0 = k at ck HST
      generalize S.getD j 0 = x at hix HST
      have b0 : (0 : Int) ≤ (j : Int) := by omega
      have b1 : (j : Int) < 64 := by omega
      clear hst
      go_upto_region 7 with fail
      go_region_held3 (fun w' => w'.cell? ⟨0, j, none⟩ = some (.int .u32 k)) (go_keep)
        (first
        | (go_at_call 76; (with_reducible refine (turned_any T.e 6 11 25 (by omega) (by omega) (by omega) _).mono ?_); rintro e wA ⟨rfl, rfl⟩)
        | fail)
      all_goals
        go_wp2_with (first
          | (go_at_call 76; (with_reducible refine (turned_any T.a 2 13 22 (by omega) (by omega) (by omega) _).mono ?_); rintro e wA ⟨rfl, rfl⟩)
          | fail)
        go_roundw
        case rel =>
          exact ⟨j + 1, step T k x, by omega, by go_num, rfl, rfl, rfl, rfl, rfl, rfl, rfl, rfl, ⟨HST.eq.symm.trans HR.eq⟩, HS.out.drew, HD.out.drew, HB.out.drew, ⟨HK.out.cell, HK.out.lt⟩⟩
        case measure => simp [intOf]; omega
    · have hT : T = E := by
        have h1 := HR.eq
        have e : j = 64 := by omega
        rw [e, List.drop_eq_nil_of_le (by rw [kTab_len]; omega)] at h1
        simpa [rounds] using h1
      have HRT : Is (add8 s T) R := ⟨by rw [hT]; exact HRS.eq⟩
      have HAT := hidden (show AddTo s.list T.list s.list 0 from ⟨rfl, fun i hi => by omega, fun i _ => rfl⟩)
      have HIX8 := hidden (HIT.out T)
      clear hT HIT HRS HR HIX HE
      go_wp2
      go_loopw [101] (fun i wr => ∃ (j : Nat) (M : List Int), j ≤ 8 ∧ i = .int .i64 j ∧ AddTo s.list T.list M j ∧ Wd wr n 81 M ∧ Wd wr (n + 1) 81 (List.replicate 8 0) ∧ Below n w wr) (fun i _ => 8 - (intOf i).toNat)
      case atStart => exact ⟨0, _, by omega, rfl, HAT.out, HS.out, HD.out, HB.out⟩
      case round =>
        obtain ⟨j, M, hj, rfl, ha, hs, hd, hb⟩ := hrel
        have HA := hidden ha
        have HS := hidden hs
        have HD := hidden hd
        have HB := hidden hb
        clear ha hs hd hb
        by_cases hlt : j < 8
        · have cm : wr.cell? ⟨n, j, none⟩ = some (.int .u32 (s.list.getD j 0)) := by rw [HS.out.cell j (by rw [HA.out.len]; exact hlt), HA.out.hi j (Nat.le_refl _)]
          have hix := HIX8.out j hlt
          have hfr := HS.out.fr j
          have HNX := hidden (HA.out.next (show j < s.list.length from hlt))
          generalize s.list.getD j 0 = u at cm HNX
          generalize T.list.getD j 0 = v at hix HNX
          go_wp2
          go_roundw
          case rel => exact ⟨j + 1, _, by omega, by go_num, HNX.out, HS.out.set j _, HD.out.other _ _ (by simp), HB.out.setCell (by simp) _⟩
          case measure => simp [intOf]; omega
        · have hM : M = R.list := by
            have e : j = 8 := by omega
            have := HA.out
            rw [e] at this
            rw [this.all, HRT.eq]
          have hS8 := HS.out
          rw [hM] at hS8
          have HS8 := hidden hS8
          have HR4 := hidden (HD.out.row R.list)
          have HB4 := hidden (below_setRow HB.out (by omega : n ≤ n + 1) (R.list.map (Value.int .u32)).toArray)
          have HONE := hidden (one32 R.list)
          clear hS8 hM HS HA HIX8 HAT
          go_wp2_with (first
            | (refine wpList_load_row rfl 81 _ rfl n rfl 81 _ (0, 0) _ HS8.out.heap Tryd.underlying81 rfl info8 ?_)
            | (refine wpList_store_row rfl 81 _ _ rfl (n + 1) (R.list.map (Value.int .u32)).toArray rfl rfl 81 _ HD.out.heap info8 rfl HONE.out ?_)
            | fail)
          refine bodyPost_ret (results_row_tmp rfl _ _ (n + 1) 81 _ _ _ _ rfl rfl HR4.out.heap Tryd.underlying81 rfl info8) rfl ?_
          exact ⟨rfl, by rw [HN.out]; exact HB4.out⟩
end Go.Proofs.YtgpigjoonhghhaaDoor
