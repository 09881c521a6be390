/-
  The first error of a message (message.Check).
-/
import Derived.Test.YtnnbfhjbaagnkaaQMsgComp
import Derived.Test.YtnnbfhjbaagnkaaQMsgFails
import Derived.Test.YtnnbfhjbaagnkaaQMsgMap
namespace Go.Proofs.Ytnnbfhjbaagnkaa
open Go.RowKit
set_option linter.unusedVariables false

/-- Some type comes twice that may not: 'ts' are the types that came before. -/
def twiceM : List Int → List Pv → Bool
  | _, [] => false
  | ts, y :: l => (decide (y.t ∈ ts) && !rep y.t) || twiceM (ts ++ [y.t]) l
/-- The first error of a message with exchange x, flags f and these payloads. -/
def checkM (x f : Int) (l : List Pv) : Int :=
  let ts := l.map Pv.t
  if twiceM [] l then 9
  else if decide ((46 : Int) ∈ ts) || decide ((53 : Int) ∈ ts) then (if 1 < l.length then 7 else 0)
  else if l.any tells then 0
  else if !((needL x (bits BinOp.and IntKind.i64 f 32 == 0)).all (fun k => decide (k ∈ ts)) || (x == 34 && (l.all plainP && l.any (isNote 16390)))) || (decide ((44 : Int) ∈ ts) != decide ((45 : Int) ∈ ts)) then 8
  else 0
theorem Fnd.alloc {w : World} {b : Nat} {ts : List Int} (h : Fnd w b ts) (o : Obj) : Fnd (w.alloc o) b ts := h.below ((Below.refl _ _).alloc (Nat.le_refl _) o)

set_option maxHeartbeats 6400000 in
set_option maxRecDepth 100000 in
theorem check_any (i r nx x f m : Int) (p : Option Addr) (n c : Nat) (l : List Pv) (w : World) (h : RdG KPv DPv w p n c l) (hn : n ≤ 100000) (hx : IntR x) :
    Calls Try.prog 7 #[.agg #[.int .u64 i, .int .u64 r, .int .i64 nx, .int .i64 x, .int .i64 f, .int .u32 m, .slice p n c]] w fun e w' => e = .returned (.int .i64 (checkM x f l)) ∧ Below w.heap.size w w' := by
  have hmm := @run_makeMap Try.prog
  have HBX := hidden ((Below.refl w.heap.size w).alloc (Nat.le_refl _) (.cells #[.int .u64 i, .int .u64 r, .int .i64 nx, .int .i64 x, .int .i64 f, .int .u32 m, .slice p n c] 32))
  have H := hidden h
  have HFM := hidden (Fnd.made (w.alloc (.cells #[.int .u64 i, .int .u64 r, .int .i64 nx, .int .i64 x, .int .i64 f, .int .u32 m, .slice p n c] 32)))
  have HCX : Hid (∀ j u, (#[Value.int .u64 i, .int .u64 r, .int .i64 nx, .int .i64 x, .int .i64 f, .int .u32 m, .slice p n c] : Array Value)[j]? = some u → (w.alloc (.cells #[.int .u64 i, .int .u64 r, .int .i64 nx, .int .i64 x, .int .i64 f, .int .u32 m, .slice p n c] 32)).cell? ⟨w.heap.size, j, none⟩ = some u) := fun j u hj => by
    rw [World.cell?_alloc_at _ _ _ _ rfl]
    simpa using hj
  have HXI := hidden hx
  obtain ⟨R0, hR0⟩ : ∃ R0, twiceM [] l = R0 := ⟨_, rfl⟩
  have HR0 := Is.mk hR0
  clear hR0
  go_enter Try.func7, Try.ntmps7
  go_wp2_with fail
  go_loopw [11] (fun v wr => ∃ (j : Nat), j ≤ n ∧ v = .int .i64 j ∧ Fnd wr (w.heap.size + 1) ((l.take j).map Pv.t) ∧ Is (twiceM ((l.take j).map Pv.t) (l.drop j)) R0 ∧ Below (w.heap.size + 1) (w.alloc (.cells #[.int .u64 i, .int .u64 r, .int .i64 nx, .int .i64 x, .int .i64 f, .int .u32 m, .slice p n c] 32)) wr) (fun v _ => n - (intOf v).toNat)
  case atStart => exact ⟨0, by omega, rfl, by simpa using HFM.out, ⟨by simpa using HR0.eq⟩, (Below.refl _ _).alloc (by simp) _⟩
  case round =>
    obtain ⟨j, hj, rfl, hfn, hrel, hb⟩ := hrel
    have HFN := hidden hfn
    have hb' : Below (w.alloc (.cells #[.int .u64 i, .int .u64 r, .int .i64 nx, .int .i64 x, .int .i64 f, .int .u32 m, .slice p n c] 32)).heap.size (w.alloc (.cells #[.int .u64 i, .int .u64 r, .int .i64 nx, .int .i64 x, .int .i64 f, .int .u32 m, .slice p n c] 32)) wr := by simpa using hb
    have HB := hidden (HBX.out.trans (hb'.mono HBX.out.size))
    have HB1 := hidden hb
    have m0 := cell_below hb' _ _ (HCX.out 0 _ rfl)
    have m1 := cell_below hb' _ _ (HCX.out 1 _ rfl)
    have m2 := cell_below hb' _ _ (HCX.out 2 _ rfl)
    have m3 := cell_below hb' _ _ (HCX.out 3 _ rfl)
    have m4 := cell_below hb' _ _ (HCX.out 4 _ rfl)
    have m5 := cell_below hb' _ _ (HCX.out 5 _ rfl)
    have m6 := cell_below hb' _ _ (HCX.out 6 _ rfl)
    have hsz : w.heap.size + 1 ≤ wr.heap.size := by have := hb'.size; simpa using this
    clear hb hb' hfn
    by_cases hlt : j < n
    · have hlt' : (j : Int) < n := by omega
      obtain ⟨g, y, rfl, hgx, hdr, hok, hc⟩ := (H.out.below HB.out).drop_cons hlt
      have c0 := hc 0 _ rfl
      have c1 := hc 1 _ rfl
      have c2 := hc 2 _ rfl
      have c3 := hc 3 _ rfl
      have c4 := hc 4 _ rfl
      have c5 := hc 5 _ rfl
      have c6 := hc 6 _ rfl
      have c7 := hc 7 _ rfl
      have c8 := hc 8 _ rfl
      have c9 := hc 9 _ rfl
      have c10 := hc 10 _ rfl
      have c11 := hc 11 _ rfl
      have c12 := hc 12 _ rfl
      have c13 := hc 13 _ rfl
      have c14 := hc 14 _ rfl
      have c15 := hc 15 _ rfl
      simp only [Nat.add_zero] at c0
      have hf := hrel.eq
      rw [hdr] at hf
      unfold twiceM at hf
      have htk : (l.take (j + 1)).map Pv.t = (l.take j).map Pv.t ++ [y.t] := by
        rw [List.take_add_one, hgx]
        simp
      have HTK := Is.mk htk
      have hlen : ((l.take j).map Pv.t).length ≤ 100000 := by simp; omega
      have HIY := hidden hok.t
      have hlk := (HFN.out.alloc (.cells #[.int .i64 y.t, .slice y.pr.p y.pr.n y.pr.c, .int .i64 y.eg, .slice y.ed.p y.ed.n y.ed.c, .int .i64 y.ik, .slice y.id.p y.id.n y.id.c, .int .i64 y.am, .slice y.ad.p y.ad.n y.ad.c, .int .i64 y.np, .slice y.ns.p y.ns.n y.ns.c, .int .i64 y.nt, .slice y.nd.p y.nd.n y.nd.c, .int .i64 y.dp, .slice y.ds.p y.ds.n y.ds.c, .slice y.se.p y.se.n y.se.c, .slice y.da.p y.da.n y.da.c] 50)).look y.t hok.t
      have HFA := hidden (HFN.out.alloc (.cells #[.int .i64 y.t, .slice y.pr.p y.pr.n y.pr.c, .int .i64 y.eg, .slice y.ed.p y.ed.n y.ed.c, .int .i64 y.ik, .slice y.id.p y.id.n y.id.c, .int .i64 y.am, .slice y.ad.p y.ad.n y.ad.c, .int .i64 y.np, .slice y.ns.p y.ns.n y.ns.c, .int .i64 y.nt, .slice y.nd.p y.nd.n y.nd.c, .int .i64 y.dp, .slice y.ds.p y.ds.n y.ds.c, .slice y.se.p y.se.n y.se.c, .slice y.da.p y.da.n y.da.c] 50))
      have HBP := hidden (HB1.out.alloc hsz (.cells #[.int .i64 y.t, .slice y.pr.p y.pr.n y.pr.c, .int .i64 y.eg, .slice y.ed.p y.ed.n y.ed.c, .int .i64 y.ik, .slice y.id.p y.id.n y.id.c, .int .i64 y.am, .slice y.ad.p y.ad.n y.ad.c, .int .i64 y.np, .slice y.ns.p y.ns.n y.ns.c, .int .i64 y.nt, .slice y.nd.p y.nd.n y.nd.c, .int .i64 y.dp, .slice y.ds.p y.ds.n y.ds.c, .slice y.se.p y.se.n y.se.c, .slice y.da.p y.da.n y.da.c] 50))
      have HRP := hidden (repeats_any y.t)
      clear hok hrel hdr hgx hc htk
      generalize (l.take j).map Pv.t = ts at hf HFN HFA hlk hlen HTK
      generalize decide (y.t ∈ ts) = z at hf hlk
      generalize rep y.t = q at hf HRP
      cases z with
      | true =>
        cases q with
        | true =>
          have HT : Is (twiceM (ts ++ [y.t]) (l.drop (j + 1))) R0 := ⟨by simpa using hf⟩
          clear hf
          go_wp2_with (first
            | (go_at_call 12; (with_reducible refine (HRP.out _).mono ?_); rintro _ w1 ⟨rfl, rfl⟩)
            | (at_mapUpdate; go_loud (refine wpList_fnd _ rfl _ _ _ rfl (w.heap.size + 1) ts HFA.out (by unfold maxLen; omega) rfl y.t rfl rfl HIY.out ?_); rintro w2 hf2 hg2; have HF2 := hidden hf2; have HB2 := hidden (HBP.out.grown hg2 (by simp; omega) (fun k hk => by cases hk; exact Nat.le_refl _)); clear hf2 hg2)
            | fail)
          go_roundw
          case rel => exact ⟨j + 1, by omega, by go_num, by rw [HTK.eq]; exact HF2.out, by rw [HTK.eq]; exact HT, HB2.out⟩
          case measure => simp [intOf]; omega
        | false =>
          have HT : Is R0 true := ⟨by simpa using hf.symm⟩
          clear hf
          go_wp2_with (first
            | (go_at_call 12; (with_reducible refine (HRP.out _).mono ?_); rintro _ w1 ⟨rfl, rfl⟩)
            | fail)
          go_ret
          exact ⟨by unfold checkM; rw [HR0.eq, HT.eq]; rfl, HB.out.alloc HB.out.size _⟩
      | false =>
        have HT : Is (twiceM (ts ++ [y.t]) (l.drop (j + 1))) R0 := ⟨by simpa using hf⟩
        clear hf
        go_wp2_with (first
          | (at_mapUpdate; go_loud (refine wpList_fnd _ rfl _ _ _ rfl (w.heap.size + 1) ts HFA.out (by unfold maxLen; omega) rfl y.t rfl rfl HIY.out ?_); rintro w2 hf2 hg2; have HF2 := hidden hf2; have HB2 := hidden (HBP.out.grown hg2 (by simp; omega) (fun k hk => by cases hk; exact Nat.le_refl _)); clear hf2 hg2)
          | fail)
        go_roundw
        case rel => exact ⟨j + 1, by omega, by go_num, by rw [HTK.eq]; exact HF2.out, by rw [HTK.eq]; exact HT, HB2.out⟩
        case measure => simp [intOf]; omega
    · have hlt' : ¬ (j : Int) < n := by omega
      have hll := H.out.len
      have hd : l.drop j = [] := List.drop_eq_nil_of_le (by omega)
      have hf := hrel.eq
      rw [hd] at hf
      have HT : Is R0 false := ⟨hf.symm⟩
      have hFe := HFN.out
      rw [List.take_of_length_le (show l.length ≤ j by omega)] at hFe
      have k46 := hFe.look 46 (by unfold IntR; omega)
      have k53 := hFe.look 53 (by unfold IntR; omega)
      have HFE := hidden hFe
      have HFW := hidden (fails_any i r nx x f m p n c l wr (H.out.below HB.out))
      have HCW := hidden (fun W (hW : Below wr.heap.size wr W) => complete_any i r nx x f m p n c l (w.heap.size + 1) (l.map Pv.t) W ((H.out.below HB.out).below hW) hn HXI.out (HFE.out.below hW))
      have HLL := Is.mk hll
      have HCM : Is (checkM x f l) (if decide ((46 : Int) ∈ l.map Pv.t) || decide ((53 : Int) ∈ l.map Pv.t) then (if 1 < l.length then 7 else 0) else if l.any tells then 0
          else if !((needL x (bits BinOp.and IntKind.i64 f 32 == 0)).all (fun k => decide (k ∈ l.map Pv.t)) || (x == 34 && (l.all plainP && l.any (isNote 16390)))) || (decide ((44 : Int) ∈ l.map Pv.t) != decide ((45 : Int) ∈ l.map Pv.t)) then 8 else 0) := ⟨by unfold checkM; rw [HR0.eq, HT.eq]; rfl⟩
      generalize ((needL x (bits BinOp.and IntKind.i64 f 32 == 0)).all (fun k => decide (k ∈ l.map Pv.t)) || (x == 34 && (l.all plainP && l.any (isNote 16390)))) = cm at HCM HCW
      generalize l.any tells = fl at HCM HFW
      generalize hd46 : decide ((46 : Int) ∈ l.map Pv.t) = d46 at HCM k46
      generalize hd53 : decide ((53 : Int) ∈ l.map Pv.t) = d53 at HCM k53
      clear hf hd hrel hFe hd46 hd53
      by_cases h1 : 1 < n
      · have h1' : (1 : Int) < (n : Int) := by omega
        rw [if_pos (show 1 < l.length by omega)] at HCM
        cases d46 with
        | true =>
          go_wp2
          go_ret
          exact ⟨by rw [HCM.eq]; rfl, HB.out⟩
        | false =>
          cases d53 with
          | true =>
            go_wp2
            go_ret
            exact ⟨by rw [HCM.eq]; rfl, HB.out⟩
          | false =>
            cases fl with
            | true =>
              go_wp2_with (first
                | (go_at_call 13; (with_reducible refine (HFW.out).mono ?_); rintro _ wf ⟨rfl, hbf⟩; have HBF := hidden hbf; have HBG := hidden (HB.out.trans (hbf.mono HB.out.size)); have HFF := hidden (HFE.out.below hbf); have e0 := cell_below hbf _ _ m0; have e1 := cell_below hbf _ _ m1; have e2 := cell_below hbf _ _ m2; have e3 := cell_below hbf _ _ m3; have e4 := cell_below hbf _ _ m4; have e5 := cell_below hbf _ _ m5; have e6 := cell_below hbf _ _ m6; clear hbf)
                | fail)
              go_ret
              exact ⟨by rw [HCM.eq]; rfl, HBG.out⟩
            | false =>
              generalize hd44 : decide ((44 : Int) ∈ l.map Pv.t) = d44 at HCM
              generalize hd45 : decide ((45 : Int) ∈ l.map Pv.t) = d45 at HCM
              cases cm with
              | false =>
                go_wp2_with (first
                  | (go_at_call 13; (with_reducible refine (HFW.out).mono ?_); rintro _ wf ⟨rfl, hbf⟩; have HBF := hidden hbf; have HBG := hidden (HB.out.trans (hbf.mono HB.out.size)); have HFF := hidden (HFE.out.below hbf); have e0 := cell_below hbf _ _ m0; have e1 := cell_below hbf _ _ m1; have e2 := cell_below hbf _ _ m2; have e3 := cell_below hbf _ _ m3; have e4 := cell_below hbf _ _ m4; have e5 := cell_below hbf _ _ m5; have e6 := cell_below hbf _ _ m6; clear hbf)
                  | (go_at_call 14; (with_reducible refine (HCW.out _ HBF.out).mono ?_); rintro _ wk ⟨rfl, hbk⟩; have HBK := hidden (HBG.out.trans (hbk.mono HBG.out.size)); have k44 := (HFF.out.below hbk).look 44 (by unfold IntR; omega); have k45 := (HFF.out.below hbk).look 45 (by unfold IntR; omega); rw [hd44] at k44; rw [hd45] at k45; clear hbk)
                  | fail)
                go_ret
                exact ⟨by rw [HCM.eq]; rfl, HBK.out⟩
              | true =>
                cases d44 <;> cases d45
                all_goals
                  go_wp2_with (first
                    | (go_at_call 13; (with_reducible refine (HFW.out).mono ?_); rintro _ wf ⟨rfl, hbf⟩; have HBF := hidden hbf; have HBG := hidden (HB.out.trans (hbf.mono HB.out.size)); have HFF := hidden (HFE.out.below hbf); have e0 := cell_below hbf _ _ m0; have e1 := cell_below hbf _ _ m1; have e2 := cell_below hbf _ _ m2; have e3 := cell_below hbf _ _ m3; have e4 := cell_below hbf _ _ m4; have e5 := cell_below hbf _ _ m5; have e6 := cell_below hbf _ _ m6; clear hbf)
                    | (go_at_call 14; (with_reducible refine (HCW.out _ HBF.out).mono ?_); rintro _ wk ⟨rfl, hbk⟩; have HBK := hidden (HBG.out.trans (hbk.mono HBG.out.size)); have k44 := (HFF.out.below hbk).look 44 (by unfold IntR; omega); have k45 := (HFF.out.below hbk).look 45 (by unfold IntR; omega); rw [hd44] at k44; rw [hd45] at k45; clear hbk)
                    | fail)
                  go_ret
                  exact ⟨by rw [HCM.eq]; rfl, HBK.out⟩
      · have h1' : ¬ (1 : Int) < (n : Int) := by omega
        rw [if_neg (show ¬ 1 < l.length by omega)] at HCM
        cases d46 with
        | true =>
          go_wp2
          go_ret
          exact ⟨by rw [HCM.eq]; rfl, HB.out⟩
        | false =>
          cases d53 with
          | true =>
            go_wp2
            go_ret
            exact ⟨by rw [HCM.eq]; rfl, HB.out⟩
          | false =>
            cases fl with
            | true =>
              go_wp2_with (first
                | (go_at_call 13; (with_reducible refine (HFW.out).mono ?_); rintro _ wf ⟨rfl, hbf⟩; have HBF := hidden hbf; have HBG := hidden (HB.out.trans (hbf.mono HB.out.size)); have HFF := hidden (HFE.out.below hbf); have e0 := cell_below hbf _ _ m0; have e1 := cell_below hbf _ _ m1; have e2 := cell_below hbf _ _ m2; have e3 := cell_below hbf _ _ m3; have e4 := cell_below hbf _ _ m4; have e5 := cell_below hbf _ _ m5; have e6 := cell_below hbf _ _ m6; clear hbf)
                | fail)
              go_ret
              exact ⟨by rw [HCM.eq]; rfl, HBG.out⟩
            | false =>
              generalize hd44 : decide ((44 : Int) ∈ l.map Pv.t) = d44 at HCM
              generalize hd45 : decide ((45 : Int) ∈ l.map Pv.t) = d45 at HCM
              cases cm with
              | false =>
                go_wp2_with (first
                  | (go_at_call 13; (with_reducible refine (HFW.out).mono ?_); rintro _ wf ⟨rfl, hbf⟩; have HBF := hidden hbf; have HBG := hidden (HB.out.trans (hbf.mono HB.out.size)); have HFF := hidden (HFE.out.below hbf); have e0 := cell_below hbf _ _ m0; have e1 := cell_below hbf _ _ m1; have e2 := cell_below hbf _ _ m2; have e3 := cell_below hbf _ _ m3; have e4 := cell_below hbf _ _ m4; have e5 := cell_below hbf _ _ m5; have e6 := cell_below hbf _ _ m6; clear hbf)
                  | (go_at_call 14; (with_reducible refine (HCW.out _ HBF.out).mono ?_); rintro _ wk ⟨rfl, hbk⟩; have HBK := hidden (HBG.out.trans (hbk.mono HBG.out.size)); have k44 := (HFF.out.below hbk).look 44 (by unfold IntR; omega); have k45 := (HFF.out.below hbk).look 45 (by unfold IntR; omega); rw [hd44] at k44; rw [hd45] at k45; clear hbk)
                  | fail)
                go_ret
                exact ⟨by rw [HCM.eq]; rfl, HBK.out⟩
              | true =>
                cases d44 <;> cases d45
                all_goals
                  go_wp2_with (first
                    | (go_at_call 13; (with_reducible refine (HFW.out).mono ?_); rintro _ wf ⟨rfl, hbf⟩; have HBF := hidden hbf; have HBG := hidden (HB.out.trans (hbf.mono HB.out.size)); have HFF := hidden (HFE.out.below hbf); have e0 := cell_below hbf _ _ m0; have e1 := cell_below hbf _ _ m1; have e2 := cell_below hbf _ _ m2; have e3 := cell_below hbf _ _ m3; have e4 := cell_below hbf _ _ m4; have e5 := cell_below hbf _ _ m5; have e6 := cell_below hbf _ _ m6; clear hbf)
                    | (go_at_call 14; (with_reducible refine (HCW.out _ HBF.out).mono ?_); rintro _ wk ⟨rfl, hbk⟩; have HBK := hidden (HBG.out.trans (hbk.mono HBG.out.size)); have k44 := (HFF.out.below hbk).look 44 (by unfold IntR; omega); have k45 := (HFF.out.below hbk).look 45 (by unfold IntR; omega); rw [hd44] at k44; rw [hd45] at k45; clear hbk)
                    | fail)
                  go_ret
                  exact ⟨by rw [HCM.eq]; rfl, HBK.out⟩
end Go.Proofs.Ytnnbfhjbaagnkaa
