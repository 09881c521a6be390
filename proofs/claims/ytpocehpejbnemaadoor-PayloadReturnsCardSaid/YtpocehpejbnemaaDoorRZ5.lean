/-
  What package proposal reads of proposals one behind the other, or throws; and its read, which catches that.
  What package proposal's Parse returns, for any bytes.
-/
import Derived.Test.YtpocehpejbnemaaDoorRZ2
import Derived.Test.YtpocehpejbnemaaDoorRZ12
import Derived.Defers
import Derived.Recover
import Derived.Laws.Pointers
namespace Go.Proofs.YtpocehpejbnemaaDoor
open Go.RowKit
set_option linter.unusedVariables false

/-- What proposals returns. -/
def GotPs (w : World) (k : Nat) (r : Option (List Pr)) (e : Ending) (w' : World) : Prop :=
  w.grownBy w' (some k) ∧ match r with
  | none => Thrown e
  | some l => ∃ (v : Value) (ls : List PrP), e = .returned v ∧ ls.map PrP.pr = l ∧ RowG KPr NPr w' w.heap.size v ls
theorem gotps_none {w : World} {k : Nat} {r : Option (List Pr)} {e : Ending} {w' : World} (hg : w.grownBy w' (some k)) (hr : r = none) (ht : Thrown e) : GotPs w k r e w' := by
  subst hr
  exact ⟨hg, ht⟩

set_option maxHeartbeats 1600000 in
set_option maxRecDepth 100000 in
theorem pproposals_any (p : Option Addr) (n c : Nat) (xs : List Int) (w : World) (k a : Nat) (h : PS w k p n c xs a) (hn : n ≤ 1048576) (r : Option (List Pr)) (hr : prsV (xs.drop a) = r) :
    Calls Tryd.prog 131 #[.pointer (some ⟨k, 0, none⟩)] w (GotPs w k r) := by
  have HR := hidden hr
  have HL := hidden h.here.len
  have HRG := hidden h.here.rng
  have HP := hidden h
  have HK := hidden h.lt
  clear hr h
  go_enter Tryd.func131, Tryd.ntmps131
  go_wp2_with fail
  go_loopw [3] (fun o wr => ∃ (at_ : Nat) (l : List PrP), at_ ≤ n ∧ l.length ≤ at_ ∧ (prsV (xs.drop at_)).map (l.map PrP.pr ++ ·) = r ∧ RowG KPr NPr wr w.heap.size o l ∧ PS wr k p n c xs at_ ∧ w.grownBy wr (some k)) (fun _ wr => n - (intOf ((wr.cell? ⟨k, 1, none⟩).getD (.int .i64 0))).toNat)
  case atStart => exact ⟨a, [], HP.out.le, by simp, by rw [HR.out]; simp, RowG.nil _ _ _ _, HP.out, grown_refl _ _⟩
  case round =>
    obtain ⟨at_, l, hat, hl8, hres, hrow, hps, hgr⟩ := hrel
    obtain ⟨po, co, rfl⟩ := hrow.form rfl
    have HRW := hidden hrow
    have HPS := hidden hps
    have HGR := hidden hgr
    have hmeas : (intOf ((wr.cell? ⟨k, 1, none⟩).getD (.int .i64 0))).toNat = at_ := by rw [hps.cu.c1]; simp [intOf]
    have HMS := hidden hmeas
    clear hrow hps hgr hmeas
    obtain ⟨b, hb⟩ : ∃ b, b = decide (at_ < n) := ⟨_, rfl⟩
    have HB := hidden hb
    clear hb
    go_wp2_with fail
    go_at_call 137
    (with_reducible refine (pl p n c xs _ k at_ HPS.out b HB.out).mono ?_)
    rintro e w1 ⟨rfl, hb1, hps1⟩
    by_cases hlt : ¬ at_ < n
    · obtain rfl : b = false := by rw [HB.out]; simpa using hlt
      have hz : (xs.drop at_).length = 0 := by simp [HL.out]; omega
      rw [prsV_nil _ hz] at hres
      simp at hres
      subst hres
      have HB1 := hidden hb1
      clear HR hb1
      go_wp2_with fail
      go_ret
      exact ⟨grown_trans HGR.out (grown_of_below HB1.out _), _, _, rfl, rfl, HRW.out.below HB1.out⟩
    · obtain rfl : b = true := by rw [HB.out]; simpa using hlt
      have hnz : (xs.drop at_).length ≠ 0 := by simp [HL.out]; omega
      have hst := prs_sec (xs.drop at_) (rng_drop HRG.out _) hnz
      have HST := hidden hst
      have HRES := hidden hres
      have HP1 := hidden hps1
      have HB1 := hidden hb1
      clear hst hres hps1 hb1 hnz
      obtain ⟨sv, hsv⟩ : ∃ sv, secV 2 (xs.drop at_) = sv := ⟨_, rfl⟩
      have HSV := hidden hsv
      clear hsv
      go_wp2_with fail
      go_at_call 138
      (with_reducible refine (section_any 2 p n c xs _ k at_ HP1.out hn sv HSV.out).mono ?_)
      rintro e w2 ⟨hg2, hh⟩
      cases sv with
      | none =>
        subst hh
        refine ⟨rfl, gotps_none (grown_trans (grown_trans HGR.out (grown_of_below HB1.out _)) hg2) (map_none_app _ _ _ HRES.out ?_) rfl⟩
        rw [HST.out, HSV.out]
      | some x =>
        obtain ⟨zs, L⟩ := x
        obtain ⟨R, q, m, d, rfl, hR, hpi, hpo⟩ := hh
        simp only at hpi hpo
        have HG2 := hidden (grown_trans (grown_of_below HB1.out (some k)) hg2)
        have HPO := hidden hpo
        have HPI := hidden hpi
        have hR' : wr.heap.size ≤ R := Nat.le_trans HB1.out.size hR
        have hlen := secV_len HSV.out
        rw [List.length_drop, HL.out] at hlen
        have hm : m ≤ 1048576 := by have := hpi.here.len; omega
        clear hg2 hpo hpi hR
        obtain ⟨tv, htv⟩ : ∃ tv, prV zs = tv := ⟨_, rfl⟩
        have HTV := hidden htv
        clear htv
        go_wp2_with fail
        go_at_call 139
        (with_reducible refine (proposal_any q m d zs _ R HPI.out hm tv HTV.out).mono ?_)
        rintro e w3 ⟨hg3, hh⟩
        cases tv with
        | none =>
          subst hh
          refine ⟨rfl, gotps_none (grown_trans HGR.out (grown_new HG2.out hg3 hR')) (map_none_app _ _ _ HRES.out ?_) rfl⟩
          rw [HST.out, HSV.out]
          simp only
          rw [HTV.out]
        | some t =>
          obtain ⟨y, hy, rfl, hint⟩ := hh
          have hg4 := grown_new HG2.out hg3 hR'
          have HRW4 := hidden (HRW.out.low hg4 HK.out)
          have HPO4 := hidden (HPO.out.off hg3 (fun r hr => by cases hr; have := HPO.out.lt; have := HPS.out.lt; omega))
          have HG4 := hidden (grown_trans HGR.out hg4)
          have hsz : w.heap.size ≤ w2.heap.size := (grown_trans HGR.out HG2.out).size
          have HI := hidden (NPr.keep (NPr.mono hint hsz) (grown_of_below ((Below.refl _ w3).alloc (Nat.le_refl _) (.cells #[.int .i64 y.n, .int .i64 y.p, .slice y.sp y.sn y.sc, .slice y.tp y.tn y.tc] 111)) none) (OffT.none _ _ _))
          have hnext : (prsV (xs.drop (at_ + L))).map ((l ++ [y]).map PrP.pr ++ ·) = r := by
            rw [← HRES.out, HST.out, HSV.out]
            simp only
            rw [HTV.out]
            simp only [Option.map_map, List.drop_drop]
            congr 1
            funext z
            simp [hy]
          have HNX := hidden hnext
          clear hg3 hg4 hint hnext HRES HST HRW HPS HGR HPO HG2 HP1 HB1 HPI hy
          go_wp2_with (at_builtin; go_loud (refine wpList_append_g knownPr (by simp [NPr, KPr]) _ rfl _ _ rfl w.heap.size _ l rfl (HRW4.out.alloc _) _ 1 1 [y] rfl (srcPr w3 y _) (fun x hx => by rw [List.mem_singleton.1 hx]; exact HI.out) ?b1 ?b2 ?b3 ?_))
          case b1 => unfold maxLen; omega
          case b2 => omega
          case b3 => have := HG4.out.size; simp; omega
          intro v4 w4 hrow4 hg4
          have hk4 : ∀ r, (Value.slice po l.length co).ownBlock = some r → w.heap.size ≤ r := fun r hr => (HRW4.out.lt r hr).1
          have HRW5 := hidden hrow4
          have HPS5 := hidden ((HPO4.out.below ((Below.refl _ _).alloc (Nat.le_refl _) _)).off hg4 (fun r hr => by have := hk4 r hr; have := HK.out; omega))
          have HG5 := hidden (grown_own (grown_alloc_new HG4.out _) hg4 hk4)
          clear hrow4 hg4 HRW4 HPO4 HG4 hk4
          go_wp2_with fail
          go_roundw
          case rel => exact ⟨at_ + L, l ++ [y], by omega, by simp; omega, HNX.out, HRW5.out, HPS5.out, HG5.out⟩
          case measure =>
            rw [HMS.out, HPS5.out.cu.c1]
            simp [intOf]
            omega

/-- The closure that catches: its two ways. -/
theorem catch_thrown (g h : Nat) (u : TypeId) (pv : Value) (older : List PanicEntry) (w : World) (q : Option Addr) (m d : Nat) (b : Bool) (hne : g ≠ h) (hc : w.cell? ⟨g, 0, none⟩ = some (.slice q m d)) (hz : w.frozen? ⟨g, 0, none⟩ = false) (hc' : w.cell? ⟨h, 0, none⟩ = some (.bool b)) (hz' : w.frozen? ⟨h, 0, none⟩ = false) :
    CallsD Tryd.prog 130 #[.pointer (some ⟨g, 0, none⟩), .pointer (some ⟨h, 0, none⟩)] (.panicking ({ v := .iface u pv, recovered := false } :: older)) w fun e u' w' =>
      e = .returned (.tuple #[]) ∧ u' = .panicking ({ v := .iface u pv, recovered := true } :: older) ∧ w' = (w.setCell ⟨g, 0, none⟩ (.slice none 0 0)).setCell ⟨h, 0, none⟩ (.bool false) := by
  refine callsD_of_wpS Tryd.func130 rfl fun c₀ cs hu => ?_
  apply wpS_seq
  apply wpS_region
  simp [wpOpsS, go_sem, recoverD, hu, Tryd.ntmps130, Exit.thenS]
  refine wpS_cond (t := true) (by simp [Act.eval, Array.replicate]) ?_
  simp only [if_true]
  apply wpS_region
  simp [wpOpsS, go_sem, hc, hz, hc', hz', bodyPostS, results, Tryd.results130]
theorem catch_idle (g h : Nat) (w : World) :
    CallsD Tryd.prog 130 #[.pointer (some ⟨g, 0, none⟩), .pointer (some ⟨h, 0, none⟩)] .returning w fun e u' w' => e = .returned (.tuple #[]) ∧ u' = .returning ∧ w' = w := by
  refine callsD_of_wpS Tryd.func130 rfl fun c₀ cs hu => ?_
  apply wpS_seq
  apply wpS_region
  simp [wpOpsS, go_sem, recoverD, hu, Tryd.ntmps130, Exit.thenS]
  refine wpS_cond (t := false) (by simp [Act.eval, Array.replicate]) ?_
  simp only [Bool.false_eq_true, if_false]
  refine wpS_of_wp (wp_skip ?_)
  cases c₀
  simp_all [bodyPostS, results, Tryd.results130]

/-- What read returns. -/
def ReadP (w : World) (r : Option (List Pr)) (e : Ending) (w' : World) : Prop :=
  Below w.heap.size w w' ∧ match r with
  | none => e = .returned (.tuple #[.slice none 0 0, .bool false])
  | some l => ∃ (v : Value) (ls : List PrP), e = .returned (.tuple #[v, .bool true]) ∧ ls.map PrP.pr = l ∧ RowG KPr NPr w' w.heap.size v ls

set_option maxHeartbeats 1600000 in
set_option maxRecDepth 100000 in
theorem read_any (p : Option Addr) (n c : Nat) (xs : List Int) (w : World) (h : Byt w p n c xs) (hn : n ≤ 1048576) (r : Option (List Pr)) (hr : prsV xs = r) :
    Calls Tryd.prog 117 #[.slice p n c] w (ReadP w r) := by
  have hmf : ∀ (fn : Fn) (first cap : Array Value) (w : World), (Instr.makeFunc fn first cap).run Tryd.prog w = .ok (.func fn first cap) w := fun _ _ _ _ => rfl
  have HX := hidden h
  have HR := hidden hr
  clear h hr
  go_enter_defers Tryd.func117, Tryd.ntmps117
  go_wp2_with fail
  have h2 : Below w.heap.size w ((w.alloc (.cells #[.slice none 0 0] 26)).alloc (.cells #[.bool false] 4)) := ((Below.refl _ w).alloc (Nat.le_refl _) _).alloc (by simp) _
  have h3 : Below w.heap.size w (((w.alloc (.cells #[.slice none 0 0] 26)).alloc (.cells #[.bool false] 4)).alloc (.cells #[.slice p n c, .int .i64 0] 185)) := h2.alloc h2.size _
  have hps : PS (((w.alloc (.cells #[.slice none 0 0] 26)).alloc (.cells #[.bool false] 4)).alloc (.cells #[.slice p n c, .int .i64 0] 185)) (w.heap.size + 1 + 1) p n c xs 0 :=
    ⟨by have := Cu.new ((w.alloc (.cells #[.slice none 0 0] 26)).alloc (.cells #[.bool false] 4)) p n c 0 185; simpa using this, ⟨w, HX.out, h3, by omega⟩, by omega⟩
  obtain ⟨W0, hW0⟩ : ∃ W0, (((w.alloc (.cells #[.slice none 0 0] 26)).alloc (.cells #[.bool false] 4)).alloc (.cells #[.slice p n c, .int .i64 0] 185)) = W0 := ⟨_, rfl⟩
  have c0 : W0.cell? ⟨w.heap.size, 0, none⟩ = some (.slice none 0 0) := by subst hW0; go_simp
  have c1 : W0.cell? ⟨w.heap.size + 1, 0, none⟩ = some (.bool false) := by subst hW0; go_simp
  have f0 : W0.frozen? ⟨w.heap.size, 0, none⟩ = false := by subst hW0; go_simp
  have f1 : W0.frozen? ⟨w.heap.size + 1, 0, none⟩ = false := by subst hW0; go_simp
  have hs : W0.heap.size = w.heap.size + 3 := by subst hW0; simp
  rw [hW0] at hps h3 ⊢
  clear hW0 h2
  (with_reducible refine (pproposals_any p n c xs W0 (w.heap.size + 1 + 1) 0 hps hn r (by rw [List.drop_zero]; exact HR.out)).mono ?_)
  rintro e w1 ⟨hg, hh⟩
  have d0 : w1.cell? ⟨w.heap.size, 0, none⟩ = some (.slice none 0 0) := hg.cell c0 (by simp; omega)
  have d1 : w1.cell? ⟨w.heap.size + 1, 0, none⟩ = some (.bool false) := hg.cell c1 (by simp)
  have g0 : w1.frozen? ⟨w.heap.size, 0, none⟩ = false := (World.frozen?_of_block (a := ⟨w.heap.size, 0, none⟩) (hg.block w.heap.size (by omega) (by simp; omega))).trans f0
  have g1 : w1.frozen? ⟨w.heap.size + 1, 0, none⟩ = false := (World.frozen?_of_block (a := ⟨w.heap.size + 1, 0, none⟩) (hg.block (w.heap.size + 1) (by omega) (by simp))).trans f1
  have hb1 : Below w.heap.size w w1 := h3.grown hg h3.size (fun r hr => by cases hr; omega)
  have hbs : ∀ (a b : Value), Below w.heap.size w ((w1.setCell ⟨w.heap.size, 0, none⟩ a).setCell ⟨w.heap.size + 1, 0, none⟩ b) := fun a b =>
    (hb1.grown (grown_set w1 w.heap.size 0 a) hb1.size (fun r hr => by cases hr; exact Nat.le_refl _)).grown (grown_set _ (w.heap.size + 1) 0 b) (by simpa using hb1.size) (fun r hr => by cases hr; omega)
  cases r with
  | none =>
    subst hh
    refine leaves_cons (f := 130) (args := #[.pointer (some ⟨w.heap.size, 0, none⟩), .pointer (some ⟨w.heap.size + 1, 0, none⟩)]) (by simp) (by simp [go_sem]) ?_
    refine (catch_thrown w.heap.size (w.heap.size + 1) 44 _ [] w1 none 0 0 false (by omega) d0 g0 d1 g1).mono ?_
    rintro e u' w'' ⟨rfl, rfl, rfl⟩
    simp [Leaves, settle, results, Tryd.results117, go_sem, d0, d1]
    exact ⟨hbs _ _, rfl⟩
  | some l =>
    obtain ⟨v, ls, rfl, hl, hrow⟩ := hh
    obtain ⟨vp, vc, rfl⟩ := hrow.form rfl
    go_wp2
    refine leaves_cons (f := 130) (args := #[.pointer (some ⟨w.heap.size, 0, none⟩), .pointer (some ⟨w.heap.size + 1, 0, none⟩)]) (by simp) (by simp [go_sem]) ?_
    refine (catch_idle w.heap.size (w.heap.size + 1) _).mono ?_
    rintro e u' w'' ⟨rfl, rfl, rfl⟩
    simp [Leaves, settle, results, Tryd.results117, go_sem, d0, d1]
    refine ⟨hbs _ _, _, ls, rfl, hl, ?_⟩
    exact ((hrow.low (grown_set w1 w.heap.size 0 _) (by omega)).low (grown_set _ (w.heap.size + 1) 0 _) (by omega)).mono (by omega)
end Go.Proofs.YtpocehpejbnemaaDoor

namespace Go.Proofs.YtpocehpejbnemaaDoor
open Go.RowKit
set_option linter.unusedVariables false

/-- What Parse returns. -/
def ParsedP (w : World) (r : List Pr × Int) (e : Ending) (w' : World) : Prop := ∃ (v : Value) (ls : List PrP), e = .returned (.tuple #[v, .int .i64 r.2]) ∧ ls.map PrP.pr = r.1 ∧ RowG KPr NPr w' w.heap.size v ls ∧ Below w.heap.size w w'
theorem parsed_fail (w w' : World) (E : Int) (r : List Pr × Int) (hr : r = ([], E)) (hb : Below w.heap.size w w') : ParsedP w r (.returned (.tuple #[.slice none 0 0, .int .i64 E])) w' := by
  subst hr
  exact ⟨_, [], rfl, rfl, RowG.nil _ _ _ _, hb⟩
theorem prs_few : ∀ (ys : List Int) (l : List Pr), (∀ x ∈ ys, 0 ≤ x ∧ x ≤ 255) → prsV ys = some l → l.length ≤ ys.length := by
  suffices ∀ m (ys : List Int) (l : List Pr), (∀ x ∈ ys, 0 ≤ x ∧ x ≤ 255) → ys.length ≤ m → prsV ys = some l → l.length ≤ ys.length from fun ys l hr h => this _ ys l hr (Nat.le_refl _) h
  intro m
  induction m with
  | zero =>
    intro ys l _ h0 h
    rw [prsV_nil _ (by omega)] at h
    simp at h
    subst h
    simp
  | succ m ih =>
    intro ys l hr h0 h
    by_cases hz : ys.length = 0
    · rw [prsV_nil _ hz] at h
      simp at h
      subst h
      simp
    rw [prs_sec _ hr hz] at h
    rcases hs : secV 2 ys with _ | ⟨zs, L⟩
    · rw [hs] at h; cases h
    rw [hs] at h
    simp only at h
    rcases ht : prV zs with _ | t
    · rw [ht] at h; cases h
    rw [ht] at h
    simp only at h
    have hl := secV_len hs
    rcases hn : prsV (ys.drop L) with _ | l'
    · rw [hn] at h; cases h
    rw [hn] at h
    simp at h
    subst h
    have := ih _ _ (rng_drop hr _) (by rw [List.length_drop]; omega) hn
    rw [List.length_drop] at this
    simp
    omega

set_option maxHeartbeats 800000 in
theorem pparse_any (p : Option Addr) (n c : Nat) (xs : List Int) (w : World) (h : Byt w p n c xs) (hn : n ≤ 1048576) (r : List Pr × Int) (hr : parseP xs = r) :
    Calls Tryd.prog 101 #[.slice p n c] w (ParsedP w r) := by
  unfold parseP at hr
  rw [h.len] at hr
  by_cases h0 : n = 0
  · rw [if_pos h0] at hr
    subst h0
    have HR := hidden hr
    clear h hr
    go_enter Tryd.func101, Tryd.ntmps101
    go_wp2
    go_ret2
    exact parsed_fail _ _ _ _ HR.out.symm (Below.refl _ _)
  rw [if_neg h0] at hr
  have h0' : ((n : Int) == 0) = false := by simp; omega
  obtain ⟨o, ho⟩ : ∃ o, prsV xs = o := ⟨_, rfl⟩
  have HC := hidden (read_any p n c xs w h hn o ho)
  rw [ho] at hr
  have HO := hidden ho
  have HRG := hidden h.rng
  have HL := hidden h.len
  have HR := hidden hr
  clear h ho hr
  go_enter Tryd.func101, Tryd.ntmps101
  go_wp2_with fail
  go_at_call 117
  (with_reducible refine (HC.out).mono ?_)
  rintro e w1 ⟨hb1, hh⟩
  have HB1 := hidden hb1
  cases o with
  | none =>
    subst hh
    clear hb1
    go_wp2
    go_ret2
    exact parsed_fail _ _ _ _ HR.out.symm HB1.out
  | some l =>
    obtain ⟨v, ls, rfl, hl, hrow⟩ := hh
    obtain ⟨q, d, rfl⟩ := hrow.form rfl
    have hr := HR.out
    simp only at hr
    obtain ⟨E, hE⟩ : ∃ E, checkP l = E := ⟨_, rfl⟩
    rw [hE] at hr
    have hrd : RdG KPr DPr w1 q ls.length d ls := by
      obtain ⟨q', d', e, h⟩ := hrow.rd (D := DPr) rfl (fun _ h => h.rd)
      simp at e
      obtain ⟨rfl, rfl⟩ := e
      exact h
    have HC2 := hidden (checkAll_any _ _ _ ls w1 hrd E (by rw [hl]; exact hE))
    have HRW := hidden hrow
    have HR2 := hidden hr
    have HLS := hidden hl
    clear hrow hrd hb1 HC hr HR hE hl
    go_wp2_with fail
    go_at_call 89
    (with_reducible refine (HC2.out).mono ?_)
    rintro e w2 ⟨rfl, hb2⟩
    have HB2 := hidden hb2
    have HB3 := hidden (HB1.out.trans (hb2.mono HB1.out.size))
    clear hb2
    by_cases hz : E = 0
    · subst hz
      have hr := HR2.out
      rw [if_neg (by simp)] at hr
      have HR3 := hidden hr
      clear hr HR2
      go_wp2
      go_ret2
      rw [← HR3.out]
      exact ⟨_, ls, rfl, HLS.out, HRW.out.below HB2.out, HB3.out⟩
    · have hz' : (E != 0) = true := by simpa using hz
      have hr := HR2.out
      rw [if_pos hz] at hr
      have HR3 := hidden hr
      clear hr HR2
      go_wp2
      go_ret2
      exact parsed_fail _ _ _ _ HR3.out.symm HB3.out
end Go.Proofs.YtpocehpejbnemaaDoor
