/-
  message.build and message.Build of a message that was made, told whole.
-/
import Derived.Test.YtnbkffehhahckaaGreatJZ26
import Derived.Test.YtnbkffehhahckaaGreatJMsgBuilt
namespace Go.Proofs.YtnbkffehhahckaaGreat
open Go.RowKit
set_option linter.unusedVariables false
set_option linter.unusedSimpArgs false
theorem pbuildZ (z : PZ) (w : World) (h : PvRk w z.1 z.2) (m : MadeZ z) :
    Calls Tryz.prog 30 #[(.agg #[.int .i64 (z.1).t, .slice (z.1).pr.p (z.1).pr.n (z.1).pr.c, .int .i64 (z.1).eg, .slice (z.1).ed.p (z.1).ed.n (z.1).ed.c, .int .i64 (z.1).ik, .slice (z.1).id.p (z.1).id.n (z.1).id.c, .int .i64 (z.1).am, .slice (z.1).ad.p (z.1).ad.n (z.1).ad.c, .int .i64 (z.1).np, .slice (z.1).ns.p (z.1).ns.n (z.1).ns.c, .int .i64 (z.1).nt, .slice (z.1).nd.p (z.1).nd.n (z.1).nd.c, .int .i64 (z.1).dp, .slice (z.1).ds.p (z.1).ds.n (z.1).ds.c, .slice (z.1).se.p (z.1).se.n (z.1).se.c, .slice (z.1).da.p (z.1).da.n (z.1).da.c])] w fun e w' => ∃ (q : Option Addr) (N d : Nat), e = .returned (.tuple #[.agg #[.int .i64 z.1.t, .bool false, .slice q N d], .int .i64 0]) ∧ Below w.heap.size w w' ∧ (∀ W, Kpt w' W w.heap.size → Byt W q N d (buildB z.1 z.2).1) := by
  refine (pBuild_any z.1 z.2 w h m.sz).mono ?_
  rintro e w' ⟨hb, h | h⟩
  · obtain ⟨-, q, d, he, hf⟩ := h
    exact ⟨q, _, d, he, hb, fun W hW => hf.kp hW⟩
  · exact absurd m.rawE h.1
set_option maxHeartbeats 6400000 in
set_option maxRecDepth 100000 in
theorem mrawsX (Z : List PZ) (p : Option Addr) (n c : Nat) (w : World) (h : RdG KPv DPv w p n c (Z.map Prod.fst)) (hn : n ≤ 7) (hm : ∀ z ∈ Z, MadeZ z) (hp : ∀ z ∈ Z, PvRk w z.1 z.2) :
    Calls Tryz.prog 15 #[.slice p n c] w fun e w' => ∃ (v : Value), e = .returned (.tuple #[.int .i64 (nextC 0 (Z.map rawZ)), v, .int .i64 0]) ∧ Own w' w.heap.size 5 v (encC 0 (Z.map rawZ)) ∧ (∀ y ∈ encC 0 (Z.map rawZ), 0 ≤ y ∧ y ≤ 255) ∧ Below w.heap.size w w' := by
  have HR := hidden h
  have HM := hidden hm
  have HP := hidden hp
  have hzn : Z.length = n := by have := h.len; rwa [List.length_map] at this
  have hcap := h.cap
  clear h hm hp
  go_enter Tryz.func15, Tryz.ntmps15
  go_wp2_with fail
  go_loopw [5, 6, 13] (fun v la c wr => ∃ (j : Nat) (L : List RawP), j ≤ n ∧ c = .int .i64 (j : Int) ∧ la = .int .i64 0 ∧ L.length = j ∧ BSt w v L wr ∧ L.map RawP.raw = (Z.take j).map rawZ) (fun _ _ c _ => n - (intOf c).toNat)
  case atStart => exact ⟨0, [], by omega, rfl, rfl, rfl, BSt.start w, by simp⟩
  case round =>
    obtain ⟨j, L, hj, rfl, rfl, hL, hst, hLZ⟩ := hrel
    have HLZ := hidden hLZ
    clear hLZ
    have HS := hidden hst
    obtain ⟨pv, cv, rfl⟩ := hst.row.form hL
    clear hst
    by_cases hjn : j < n
    · have hjI : (j : Int) < (n : Int) := by omega
      have hjI0 : (0 : Int) ≤ (j : Int) := by omega
      obtain ⟨g, y0, rfl, hy, -, -, hc⟩ := (HR.out.below HS.out.bel).drop_cons hjn
      have hzj : j < Z.length := by omega
      have hzy : (Z[j]'hzj).1 = y0 := by
        rw [List.getElem?_map, List.getElem?_eq_getElem hzj] at hy
        simpa using hy
      have HTK := hidden (List.take_succ_eq_append_getElem hzj)
      have hmem : Z[j]'hzj ∈ Z := List.getElem_mem hzj
      generalize Z[j]'hzj = z at *
      obtain ⟨y, C⟩ := z
      simp only at hzy
      subst hzy
      have HMZ := hidden (HM.out _ hmem)
      have hkz := HMZ.out.t
      have HPB := hidden (fun W (hW : Below w.heap.size w W) => pbuildZ ⟨y, C⟩ W ((HP.out _ hmem).below hW) HMZ.out)
      have HWR := hidden (fun W => mwraps_no y.t hkz W)
      have c0 := hc 0 _ rfl
      have c1 := hc 1 _ rfl
      have c2 := hc 2 _ rfl
      have c3 := hc 3 _ rfl
      have c4 := hc 4 _ rfl
      have c5 := hc 5 _ rfl
      have c6 := hc 6 _ rfl
      have c7 := hc 7 _ rfl
      have c8 := hc 8 _ rfl
      have c9 := hc 9 _ rfl
      have c10 := hc 10 _ rfl
      have c11 := hc 11 _ rfl
      have c12 := hc 12 _ rfl
      have c13 := hc 13 _ rfl
      have c14 := hc 14 _ rfl
      have c15 := hc 15 _ rfl
      simp only [Nat.add_zero] at c0
      clear hc hy hmem hkz
      simp only at HPB
      obtain ⟨bs, hbs⟩ : ∃ b, (buildB y C).1 = b := ⟨_, rfl⟩
      rw [hbs] at HPB
      have HBS := hidden hbs
      clear hbs
      go_upto_region 6 with fail
      have HPI := hidden (PvIn.new wr y 56)
      have hal := (Below.refl wr.heap.size wr).alloc (Nat.le_refl _) (.cells #[.int .i64 y.t, .slice y.pr.p y.pr.n y.pr.c, .int .i64 y.eg, .slice y.ed.p y.ed.n y.ed.c, .int .i64 y.ik, .slice y.id.p y.id.n y.id.c, .int .i64 y.am, .slice y.ad.p y.ad.n y.ad.c, .int .i64 y.np, .slice y.ns.p y.ns.n y.ns.c, .int .i64 y.nt, .slice y.nd.p y.nd.n y.nd.c, .int .i64 y.dp, .slice y.ds.p y.ds.n y.ds.c, .slice y.se.p y.se.n y.se.c, .slice y.da.p y.da.n y.da.c] 56)
      have HS5 := hidden (HS.out.below hal)
      generalize World.alloc wr _ = w5 at *
      generalize wr.heap.size = G5 at *
      clear hal HS c0 c1 c2 c3 c4 c5 c6 c7 c8 c9 c10 c11 c12 c13 c14 c15
      obtain ⟨c0, c1, c2, c3, c4, c5, c6, c7, c8, c9, c10, c11, c12, c13, c14, c15, -⟩ := HPI.out
      clear HPI
      go_upto_region 7 with (first
        | (go_at_call 30; (with_reducible refine (HPB.out _ HS5.out.bel).mono ?_); rintro e w7 ⟨q, N, d, rfl, hb7, hel⟩; have HS7 := hidden (HS5.out.below hb7); have HEL := hidden hel; have HLT := hidden (HS5.out.row.lt); clear hb7 hel HPB)
        | fail)
      have hal := (Below.refl w7.heap.size w7).alloc (Nat.le_refl _) (.cells #[.int .i64 y.t, .bool false, .slice q N d] 85)
      have HS8 := hidden (HS7.out.below hal)
      have HEP := hidden (show ElemP (fun W => Byt W q N d bs) (w7.alloc (.cells #[.int .i64 y.t, .bool false, .slice q N d] 85)) w.heap.size (.slice pv j cv) from (ElemP.new HEL.out HS5.out.bel.size (fun q e => (HLT.out q e).2)).below hal)
      have r0 : (w7.alloc (.cells #[.int .i64 y.t, .bool false, .slice q N d] 85)).cell? ⟨w7.heap.size, 0, none⟩ = some (.int .i64 y.t) := by go_simp
      have r1 : (w7.alloc (.cells #[.int .i64 y.t, .bool false, .slice q N d] 85)).cell? ⟨w7.heap.size, 1, none⟩ = some (.bool false) := by go_simp
      have r2 : (w7.alloc (.cells #[.int .i64 y.t, .bool false, .slice q N d] 85)).cell? ⟨w7.heap.size, 2, none⟩ = some (.slice q N d) := by go_simp
      generalize World.alloc w7 _ = w8 at *
      generalize w7.heap.size = G7 at *
      clear hal HS7 HEL HLT HS5 c0 c1 c2 c3 c4 c5 c6 c7 c8 c9 c10 c11 c12 c13 c14 c15
      go_upto_region 14 with (first
        | (go_at_call 31; (with_reducible refine (HWR.out _).mono ?_); rintro e w9 ⟨rfl, rfl⟩)
        | (at_builtin; go_loud (refine wpList_append_w knownRw (by simp [NRw]) _ rfl _ _ rfl w.heap.size _ L rfl (HS8.out.row.alloc _) _ 1 1 [⟨y.t, false, q, N, d, bs⟩] rfl (by omega) (SrcG.new KRw _ [⟨y.t, false, q, N, d, bs⟩] _) (fun x hx => trivial) (by unfold maxLen; omega) (by omega) (by have := HS8.out.bel.size; simp; omega) ?_))
        | fail)
      intro v10 w10 HR10 HG10 HQ10
      have hal := (Below.refl w9.heap.size w9).alloc (Nat.le_refl _) (.cells #[.int .i64 y.t, .bool false, .slice q N d] 85)
      have HS10 := hidden ((HS8.out.below hal).app (HEP.out.below hal) HR10.out HG10.out (by rw [World.size_alloc]; exact HQ10.out))
      clear hal HS8 HEP HR10 HG10 HQ10 r0 r1 r2
      go_wp2_with fail
      go_roundw
      case rel => exact ⟨j + 1, _, by omega, by go_num, rfl, by simp [hL], HS10.out, by
        rw [List.map_append, HLZ.out, HTK.out, List.map_append]
        congr 1
        show [(⟨y.t, false, bs⟩ : Raw)] = [⟨y.t, false, (buildB y C).1⟩]
        rw [HBS.out]⟩
      case measure => simp [intOf] <;> omega
    · have hjn2 : ¬ (j : Int) < (n : Int) := by omega
      have hbo := HS.out.bods
      obtain ⟨p2, c2, e2, hrd⟩ := rdr_of HS.out.row hL hbo
      simp only [Value.slice.injEq] at e2
      obtain ⟨rfl, -, rfl⟩ := e2
      have hE : buildC (L.map RawP.raw) 0 = (nextC 0 (Z.map rawZ), encC 0 (Z.map rawZ), 0) := by
        rw [HLZ.out, List.take_of_length_le (by omega), buildZ Z HM.out (by omega)]
      have HBC := hidden (buildC_any pv j cv L 0 wr hrd _ _ _ hE)
      have HRG := hidden (show ∀ y ∈ encC 0 (Z.map rawZ), 0 ≤ y ∧ y ≤ 255 by
        have h9 := buildC_rng (L.map RawP.raw) 0 (fun r hr => by
          obtain ⟨x, hx, rfl⟩ := List.mem_map.1 hr
          exact (hbo x hx).rng)
        rw [hE] at h9
        exact h9)
      have HBW := hidden HS.out.bel
      unfold BuiltC at HBC
      clear hbo hrd hE HS
      go_wp2_with (first
        | (go_at_call 32; (with_reducible refine (HBC.out).mono ?_); rintro e w7 ⟨v7, rfl, ho, hb⟩; have HO := hidden ho; have HB7 := hidden (HBW.out.trans (hb.mono HBW.out.size)); clear ho hb)
        | fail)
      go_ret3
      exact ⟨v7, rfl, HO.out.mono1 HBW.out.size, HRG.out, HB7.out⟩
def BuiltX (w : World) (i r x f m : Int) (Z : List PZ) (e : Ending) (w' : World) : Prop :=
  (checkM x f (Z.map Prod.fst) ≠ 0 ∧ e = .returned (.tuple #[.slice none 0 0, .int .i64 (checkM x f (Z.map Prod.fst))]) ∧ Below w.heap.size w w') ∨
  (checkM x f (Z.map Prod.fst) = 0 ∧ ∃ (p : Option Addr) (n c : Nat), e = .returned (.tuple #[.slice p n c, .int .i64 0]) ∧ Bod w' w.heap.size p n c (hdrL i r (nextC 0 (Z.map rawZ)) x f m (28 + ((encC 0 (Z.map rawZ)).length : Int)) ++ encC 0 (Z.map rawZ)) ∧ Below w.heap.size w w')
set_option maxHeartbeats 6400000 in
set_option maxRecDepth 100000 in
theorem mbuildX (i r nx x f m : Int) (gd : Good i r nx x f m) (Z : List PZ) (p : Option Addr) (n c : Nat) (w : World) (h : RdG KPv DPv w p n c (Z.map Prod.fst)) (hn : n ≤ 7) (hmz : ∀ z ∈ Z, MadeZ z) (hp : ∀ z ∈ Z, PvRk w z.1 z.2) :
    Calls Tryz.prog 7 #[.agg #[.int .u64 i, .int .u64 r, .int .i64 nx, .int .i64 x, .int .i64 f, .int .u32 m, .slice p n c]] w (BuiltX w i r x f m Z) := by
  obtain ⟨i0, hi0, hz0, hz1, hz2⟩ := info_parts Tryz.infoByte
  have hx : IntR x := by have := gd.gx; unfold IntR; omega
  have hi : 0 ≤ i ∧ i ≤ 18446744073709551615 := by have := gd.gi; omega
  have hr : 0 ≤ r ∧ r ≤ 18446744073709551615 := gd.gr
  have hm : 0 ≤ m ∧ m ≤ 4294967295 := by have := gd.gm; omega
  have HB0 := hidden ((Below.refl w.heap.size w).alloc (Nat.le_refl _) (.cells #[.int .u64 i, .int .u64 r, .int .i64 nx, .int .i64 x, .int .i64 f, .int .u32 m, .slice p n c] 30))
  have HM0 := hidden (MIn.new w i r nx x f m (.slice p n c) 30)
  have HCK := hidden (fun W (hW : Below w.heap.size w W) => check_any i r nx x f m p n c (Z.map Prod.fst) W (h.below hW) (by omega) hx)
  have hzn : Z.length = n := by have := h.len; rwa [List.length_map] at this
  have HRW := hidden (fun W (hW : Below w.heap.size w W) => mrawsX Z p n c W (h.below hW) hn hmz (fun z hz => (hp z hz).below hW))
  have HKN := hidden (nextZ Z hmz)
  have HLE := hidden (encZ_len Z hmz)
  have HCN := hidden (fun k hk => gd.checkN k hk)
  have HGD := hidden gd
  have HHC := hidden (fun k W => hcheck_any i r k x f m W)
  have HHB := hidden (fun k len (hl : -9223372036854775808 ≤ len ∧ len ≤ 9223372036854775807) W => build_any i r k x f m len W hi hr hm hl)
  obtain ⟨E1, hE1⟩ : ∃ E, checkM x f (Z.map Prod.fst) = E := ⟨_, rfl⟩
  have HE1 := hidden hE1
  rw [hE1] at HCK
  obtain ⟨k, hk⟩ : ∃ q, nextC 0 (Z.map rawZ) = q := ⟨_, rfl⟩
  obtain ⟨L, hL⟩ : ∃ q, encC 0 (Z.map rawZ) = q := ⟨_, rfl⟩
  have HKE := hidden hk
  have HLE2 := hidden hL
  rw [hk, hL] at HRW
  rw [hk] at HKN
  rw [hL] at HLE
  have hLn : L.length ≤ 7028 := by have := HLE.out; omega
  have hck : checkR i r k x f m = 0 := HCN.out k HKN.out
  have HCK0 := hidden hck
  clear hE1 h hp hx gd hi hr hm hk hL hck hmz HCN
  go_enter Tryz.func7, Tryz.ntmps7
  go_upto_region 1 with fail
  generalize World.alloc w _ = w0 at *
  have HMW := hidden (fun W (hW : Below w0.heap.size w0 W) => HM0.out.below hW)
  obtain ⟨c0, c1, c2, c3, c4, c5, c6, -⟩ := HM0.out
  clear HM0
  go_upto_region 2 with (first
    | (go_at_call 8; (with_reducible refine (HCK.out _ HB0.out).mono ?_); rintro e w1 ⟨rfl, hb1⟩; have HBX := hidden hb1; have HB1 := hidden (HB0.out.trans (hb1.mono HB0.out.size)); clear hb1 HCK)
    | fail)
  clear c0 c1 c2 c3 c4 c5 c6
  by_cases h1 : E1 = 0
  · subst h1
    have HM1 := hidden (HMW.out w1 HBX.out)
    clear HMW HBX HB0
    obtain ⟨c0, c1, c2, c3, c4, c5, c6, -⟩ := HM1.out
    go_upto_region 5 with (first
      | (go_at_call 15; (with_reducible refine (HRW.out _ HB1.out).mono ?_); rintro e w2 ⟨v, rfl, ho, hrg, hb2⟩; obtain ⟨pb, cb, rfl, hyb⟩ := ho.byt hrg; have HYB := hidden hyb; have HM2 := hidden (HM1.out.below hb2); have HB2 := hidden (HB1.out.trans (hb2.mono HB1.out.size)); clear ho hyb hrg hb2 HRW)
      | fail)
    clear c0 c1 c2 c3 c4 c5 c6 HM1 HB1
    · skip
      obtain ⟨c0, c1, c2, c3, c4, c5, c6, -⟩ := HM2.out
      go_upto_region 8 with fail
      have HH3 := hidden (HdrIn.new w2 i r nx x f m 27)
      have hal := (Below.refl w2.heap.size w2).alloc (Nat.le_refl _) (.cells #[.int .u64 i, .int .u64 r, .int .i64 nx, .int .i64 x, .int .i64 f, .int .u32 m] 27)
      have HB3 := hidden (HB2.out.trans (hal.mono HB2.out.size))
      have HYW := hidden (fun W (hW : Below w2.heap.size w2 W) => HYB.out.below hW)
      have HAL := hidden hal
      have HGG := hidden HB2.out.size
      generalize World.alloc w2 _ = w3 at *
      obtain ⟨G, hG⟩ : ∃ G, w2.heap.size = G := ⟨_, rfl⟩
      rw [hG] at HH3 HGG HYW HAL ⊢
      clear c0 c1 c2 c3 c4 c5 c6 HM2 HYB hal HB2 hG
      obtain ⟨d0, d1, d2, d3, d4, d5, df⟩ := HH3.out
      simp only [Nat.zero_add] at d1 d2 d3 d4 d5
      have f2 := df 2
      clear df
      go_upto_region 9 with fail
      have HH4 := hidden (hdr_put HH3.out k)
      have HB4 := hidden (HB3.out.setCell (p := ⟨G, 2, none⟩) HGG.out (.int .i64 k))
      have HYB4 := hidden (HYW.out _ (HAL.out.setCell (p := ⟨G, 2, none⟩) (Nat.le_refl G) (.int .i64 k)))
      generalize World.setCell w3 _ _ = w4 at *
      clear d0 d1 d2 d3 d4 d5 f2 HH3 HB3 HYW HAL
      obtain ⟨d0, d1, d2, d3, d4, d5, -⟩ := HH4.out
      simp only [Nat.zero_add] at d1 d2 d3 d4 d5
      have HHK := hidden (HHC.out k)
      have HHL := hidden (HHB.out k (28 + (L.length : Int)))
      rw [HCK0.out] at HHK
      clear HHC HHB
      go_upto_region 10 with (first
        | (go_at_call 16; (with_reducible refine (HHK.out _).mono ?_); rintro e w5 ⟨rfl, hb5⟩; have HH5 := hidden (HH4.out.below hb5); have HYB5 := hidden (HYB4.out.below hb5); have HB5 := hidden (HB4.out.trans (hb5.mono HB4.out.size)); clear hb5 HHK)
        | fail)
      clear d0 d1 d2 d3 d4 d5 HH4 HYB4 HB4
      · skip
        · have h4 : ¬ 8192 < 28 + L.length := by omega
          have h4I : ¬ (8192 : Int) < 28 + (L.length : Int) := by omega
          have hw : IntKind.i64.wrap (28 + (L.length : Int)) = 28 + (L.length : Int) := by rw [IntKind.wrap_i64]; omega
          have HBU := hidden (HHL.out (by omega))
          unfold Built at HBU
          have hxl := buildR_len i r k x f m (28 + (L.length : Int))
          have hbR : buildR i r k x f m (28 + (L.length : Int)) = (hdrL i r k x f m (28 + (L.length : Int)), 0) := by rw [buildR, if_neg (by rw [HCK0.out]; simp), if_neg (by omega)]
          rw [hbR] at HBU hxl
          simp only at HBU hxl
          obtain ⟨xs, hxs⟩ : ∃ q, hdrL i r k x f m (28 + (L.length : Int)) = q := ⟨_, rfl⟩
          have HXS := hidden hxs
          rw [hxs] at HBU hxl
          clear hbR hxs
          obtain ⟨d0, d1, d2, d3, d4, d5, -⟩ := HH5.out
          simp only [Nat.zero_add] at d1 d2 d3 d4 d5
          clear HHL
          go_wp2_with (first
            | (go_at_call 17; (with_reducible refine (HBU.out _).mono ?_); rintro e w6 ⟨q6, n6, c6, rfl, hy6, ho6, hb6⟩; have HO6 := hidden ho6; have HRX := hidden hy6.rng; have HYB6 := hidden (HYB5.out.below hb6); have HB6 := hidden (HB5.out.trans (hb6.mono HB5.out.size)); have hbs := HB5.out.size; have HB56 := hidden hb6.size; clear hy6 ho6 hb6 HBU)
            | (at_builtin; go_loud (refine wpList_append_byt _ rfl _ _ 22 rfl w5.heap.size 5 i0 (.int .u8 0) Tryz.underlying22 hi0 hz0 hz1 hz2 rfl _ _ rfl HO6.out _ _ _ _ _ rfl HYB6.out rfl ?c1 ?c2 ?_))
            | fail)
          case c1 => omega
          case c2 => exact HB56.out
          intro v7 w7 ho7 hg7
          obtain ⟨p7, c7, rfl, hy7⟩ := ho7.bod rfl (rng_append HRX.out HYB6.out.rng)
          have HY7 := hidden (hy7.mono hbs)
          have HB7 := hidden (HB6.out.grown hg7 HB6.out.size (fun q e => Nat.le_trans hbs (HO6.out.lt q e).1))
          clear ho7 hg7 hy7
          go_wp2_with fail
          go_ret2
          exact Or.inr ⟨HE1.out, p7, _, c7, rfl, by rw [HKE.out, HLE2.out, HXS.out]; exact HY7.out, HB7.out⟩
  · have hE : (E1 != 0) = true := by simpa using h1
    go_wp2_with fail
    go_ret2
    exact Or.inl ⟨by rw [HE1.out]; exact h1, by have h9 := HE1.out; subst h9; rfl, HB1.out⟩
end Go.Proofs.YtnbkffehhahckaaGreat
