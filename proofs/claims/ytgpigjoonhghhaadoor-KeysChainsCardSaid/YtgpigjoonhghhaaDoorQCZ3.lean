/-
  make([]byte, n) as one step of a region that draws its order; a block of bytes as a row of the call's own.
  Slices of ints, and rows of slices of bytes of the call's own.
  prf.Split: bytes cut into pieces.
  The document's Split, and the comparison of two lists of bytes.
-/
import Derived.Test.YtgpigjoonhghhaaDoorQCZ0
import Derived.Test.YtgpigjoonhghhaaDoorQCZ2
import Derived.Test.YtgpigjoonhghhaaDoorQCOwnB
import Derived.Test.YtgpigjoonhghhaaDoorQCIs
import Derived.Test.YtgpigjoonhghhaaDoorQCZ1
import Derived.Deep.RegionLaw
import Derived.Deep.Cut
import Derived.Deep.CutRange
import Derived.Deep.CutBlock
import Derived.Deep.RegionWith
namespace Go.Proofs.YtgpigjoonhghhaaDoor
open Go.RowKit
set_option linter.unusedVariables false
theorem Wb.own {w : World} {g : Nat} {e : TypeId} {l : List Int} (h : Wb w g e l) (base n : Nat) (hl : l.length = n) (hb : base ≤ g) (hn : n ≤ maxLen) : Own w base e (.slice (some ⟨g, 0, none⟩) n n) l := by
  subst hl
  exact ⟨by simp, .inr ⟨g, l.length, _, rfl, hb, h.heap, Nat.le_refl _, hn, by simp, by simp [← List.map_take]⟩⟩
theorem make_eq {P : Program} (t e : TypeId) (i : TypeInfo) (ht : P.underlying t = some (.slice e)) (hi : P.info? e = some i) (hz : i.zero = some (.int .u8 0)) (hsize : i.size = 1) (hby : i.bytes = 1) (n : Nat) (hn : n ≤ 1000) :
    ∃ Z : Array Value, Hid (Z = ((List.replicate n (0 : Int)).map (Value.int .u8)).toArray) ∧ ∀ w : World, (Instr.makeSlice t (.int .i64 n) (.int .i64 n)).run P w = .ok (.slice (some ⟨w.heap.size, 0, none⟩) n n) (w.alloc (.cells Z e)) := by
  refine ⟨_, rfl, fun w => ?_⟩
  have hr := run_make (P := P) w t e i (.int .u8 0) ht hi hz .i64 .i64 n n (by omega) (by omega) (by rw [hby]; omega) (by omega)
  simp only [Int.toNat_natCast, hsize, Nat.mul_one] at hr
  rw [hr]
  congr 3
  apply Array.ext'
  rw [show (Value.int IntKind.u8 0).cells = #[.int .u8 0] from rfl, toList_madeCells_one]
  simp
end Go.Proofs.YtgpigjoonhghhaaDoor

namespace Go.Proofs.YtgpigjoonhghhaaDoor
open Go.RowKit Go.ChangeShapes Go.WideShapes
set_option linter.unusedVariables false
structure Its (w : World) (p : Option Addr) (n c : Nat) (xs : List Int) : Prop where
  len : xs.length = n
  cap : n ≤ c
  big : c ≤ maxLen
  rng : ∀ x ∈ xs, -9223372036854775808 ≤ x ∧ x ≤ 9223372036854775807
  mem : 0 < n → ∃ b o, p = some ⟨b, o, none⟩ ∧ ∀ i, i < n → w.cell? ⟨b, o + i, none⟩ = some (.int .i64 (xs.getD i 0))
theorem Its.keep {w w' : World} {p : Option Addr} {n c : Nat} {xs : List Int} (h : Its w p n c xs) (hk : ∀ a v, w.cell? a = some v → w'.cell? a = some v) : Its w' p n c xs :=
  ⟨h.len, h.cap, h.big, h.rng, fun h0 => by
    obtain ⟨b, o, e, hc⟩ := h.mem h0
    exact ⟨b, o, e, fun i hi => hk _ _ (hc i hi)⟩⟩
theorem Its.below {w w' : World} {p : Option Addr} {n c : Nat} {xs : List Int} (h : Its w p n c xs) (hb : Below w.heap.size w w') : Its w' p n c xs := h.keep (cell_below hb)
theorem Its.le' {w : World} {p : Option Addr} {n c : Nat} {xs : List Int} (h : Its w p n c xs) : n ≤ 9223372036854775807 := by
  have h1 := h.cap
  have h2 := h.big
  unfold maxLen at h2
  omega
theorem Its.at_ {w : World} {p : Option Addr} {n c : Nat} {xs : List Int} (h : Its w p n c xs) (j : Nat) (hj : j < n) : ∃ b o, p = some ⟨b, o, none⟩ ∧ w.cell? ⟨b, o + j, none⟩ = some (.int .i64 (xs.getD j 0)) := by
  obtain ⟨b, o, e, hc⟩ := h.mem (by omega)
  exact ⟨b, o, e, hc j hj⟩
theorem Its.at_rng {w : World} {p : Option Addr} {n c : Nat} {xs : List Int} (h : Its w p n c xs) (j : Nat) : -9223372036854775808 ≤ xs.getD j 0 ∧ xs.getD j 0 ≤ 9223372036854775807 := by
  rw [List.getD_eq_getElem?_getD]
  rcases Nat.lt_or_ge j xs.length with hi | hi
  · rw [List.getElem?_eq_getElem hi]
    exact h.rng _ (List.getElem_mem hi)
  · rw [List.getElem?_eq_none hi]
    simp
theorem Its.nil (w : World) : Its w none 0 0 [] := ⟨rfl, Nat.le_refl _, Nat.zero_le _, (fun x hx => by simp at hx), (fun h => by omega)⟩
def KIn : KindR Int where
  e := 3
  k := 1
  cs x := [.int .i64 x]
  len _ := rfl
  one x u hu := by
    simp at hu
    subst hu
    rfl
  pos := by decide
def NIn : NestR Int where
  ts := []
  ok _ _ x := -9223372036854775808 ≤ x ∧ x ≤ 9223372036854775807
  keep h _ _ := h
  mono h _ := h
theorem row_in (l : List Int) (j : Nat) (hj : j < l.length) : (KIn.row l)[j]? = some (.int .i64 (l.getD j 0)) := by
  have := KIn.row_get l j hj 0 (.int .i64 l[j]) rfl
  simp only [KIn, Nat.mul_one, Nat.add_zero] at this
  rw [List.getD_eq_getElem?_getD, List.getElem?_eq_getElem hj]
  exact this
theorem RowG.its {w : World} {base : Nat} {v : Value} {l : List Int} (h : RowG KIn NIn w base v l) {n : Nat} (hn : l.length = n) : ∃ p c, v = .slice p n c ∧ Its w p n c l := by
  subst hn
  rcases Nat.eq_zero_or_pos l.length with h0 | h0
  · rcases h.own.2 with ⟨rfl, hz⟩ | ⟨g, cap, cur, rfl, hg, hh, hnc, hm, hs, ht⟩
    · exact ⟨none, 0, by rw [h0], rfl, by omega, by unfold maxLen; omega, h.ok, fun h => by omega⟩
    · exact ⟨_, _, rfl, rfl, hnc, hm, h.ok, fun h => by omega⟩
  · obtain ⟨g, c, e, hnc, hm, _, _, hc, _⟩ := h.at_ rfl h0
    exact ⟨_, _, e, rfl, hnc, hm, h.ok, fun _ => ⟨g, 0, rfl, fun i hi => by rw [Nat.zero_add]; exact hc i _ (row_in l i hi)⟩⟩
structure Bl where
  p : Option Addr
  n : Nat
  c : Nat
  xs : List Int
def KBl : KindR Bl where
  e := 22
  k := 1
  cs x := [.slice x.p x.n x.c]
  len _ := rfl
  one x u hu := by
    simp at hu
    subst hu
    rfl
  pos := by decide
def NBl : NestR Bl where
  ts := [5]
  ok w base x := Bod w base x.p x.n x.c x.xs
  keep h hg ho := h.grown hg (fun r hr => (ho r hr).imp id (fun h2 cur fz e => h2 cur _ fz e (by simp)))
  mono h hb := h.mono hb
def DBl : ReadN Bl where
  ok w x := Byt w x.p x.n x.c x.xs
  keep h hk := h.keep hk
theorem Tryd.infoBl : (Tryd.prog.info? 22).map (fun i => (i.zero, i.size, i.bytes)) = some (some (.slice none 0 0), 1, 24) := by kernel_rfl
theorem knownBl : KnownR Tryd.prog KBl 58 24 := by
  refine ⟨Tryd.underlying58, ?_⟩
  obtain ⟨i0, hi, hz0, hz1, hz2⟩ := info_parts Tryd.infoBl
  exact ⟨i0, _, hi, hz0, hz1, hz2, rfl⟩
theorem srcBl (w : World) (x : Bl) (T : TypeId) : SrcG KBl (w.alloc (.cells #[.slice x.p x.n x.c] T)) (some ⟨w.heap.size, 0, none⟩) 1 [x] := SrcG.new KBl w [x] T
theorem RowG.bls {w : World} {base : Nat} {v : Value} {l : List Bl} (h : RowG KBl NBl w base v l) {n : Nat} (hn : l.length = n) : ∃ p c, v = .slice p n c ∧ RdG KBl DBl w p n c l := h.rd hn (fun x hx => hx.byt)
theorem RdG.bl {w : World} {p : Option Addr} {n c : Nat} {l : List Bl} (h : RdG KBl DBl w p n c l) (j : Nat) (hj : j < l.length) : ∃ g, p = some ⟨g, 0, none⟩ ∧ w.cell? ⟨g, j, none⟩ = some (.slice l[j].p l[j].n l[j].c) ∧ Byt w l[j].p l[j].n l[j].c l[j].xs := by
  obtain ⟨g, e, hc, ho⟩ := h.cell j hj
  have := hc 0 _ rfl
  simp only [KBl, Nat.mul_one, Nat.add_zero] at this
  exact ⟨g, e, this, ho⟩
end Go.Proofs.YtgpigjoonhghhaaDoor

namespace Go.Proofs.YtgpigjoonhghhaaDoor
open Go.RowKit
set_option linter.unusedVariables false
def SplitTo (R : Option (List (List Int))) (w : World) (e : Ending) (w' : World) : Prop :=
  ∃ (v : Value) (l : List Bl), e = .returned (.tuple #[v, .bool R.isSome]) ∧ RowG KBl NBl w' w.heap.size v l ∧ l.map Bl.xs = R.getD [] ∧ l.length ≤ 1000 ∧ Below w.heap.size w w'
set_option maxHeartbeats 1600000 in
set_option maxRecDepth 100000 in
theorem psplit_any (p q : Option Addr) (n c m d : Nat) (xs zs : List Int) (w : World) (h : Byt w p n c xs) (hn : n ≤ 100000) (k : Its w q m d zs) (hm : m ≤ 1000) :
    Calls Tryd.prog 58 #[.slice p n c, .slice q m d] w (SplitTo (splitS xs zs) w) := by
  have H := hidden (fun W (hW : Below w.heap.size w W) => h.below hW)
  have K := hidden (fun W (hW : Below w.heap.size w W) => k.below hW)
  have HXL := Is.mk h.len
  have HZL := Is.mk k.len
  have HZR := hidden k.at_rng
  have hk := k.le'
  obtain ⟨R, hR⟩ : ∃ R, splitS xs zs = R := ⟨_, rfl⟩
  rw [hR]
  have HR0 : Hid (R = (splitS (xs.drop 0) (zs.drop 0)).map ((([] : List Bl).map Bl.xs) ++ ·)) := by
    show R = _
    rw [List.drop_zero, List.drop_zero, hR]
    cases R <;> simp
  have HST := hidden (fun j at_ L => splitS_step xs zs j at_ L R)
  have HFA := hidden (fun j at_ L => splitS_fail xs zs j at_ L R)
  have HEN := hidden (fun j at_ L => splitS_end xs zs j at_ L R)
  have HW0 := hidden (RowG.nil KBl NBl w w.heap.size)
  clear h k hR
  go_enter Tryd.func58, Tryd.ntmps58
  go_wp2_with fail
  go_loopw [6, 7, 14] (fun v at_ i wr => ∃ (j a : Nat) (l : List Bl), j ≤ m ∧ i = .int .i64 j ∧ at_ = .int .i64 a ∧ a ≤ n ∧ l.length = j ∧ RowG KBl NBl wr w.heap.size v l ∧ Hid (R = (splitS (xs.drop a) (zs.drop j)).map (l.map Bl.xs ++ ·)) ∧ Below w.heap.size w wr) (fun _ _ i _ => m - (intOf i).toNat)
  case atStart => exact ⟨0, 0, [], by omega, rfl, rfl, by omega, rfl, HW0.out, HR0, Below.refl _ _⟩
  case round =>
    obtain ⟨j, a, l, hj, rfl, rfl, ha, hl, hrow, HR, hb⟩ := hrel
    have HRW := hidden hrow
    have HB := hidden hb
    have HLJ := Is.mk hl
    clear HW0 HR0 hrow hb hl
    by_cases hlt : j < m
    · have hlt' : (j : Int) < m := by omega
      obtain ⟨b, o, rfl, c0⟩ := (K.out wr HB.out).at_ j hlt
      have hzr := HZR.out j
      have HS1 := hidden (HST.out j a (l.map Bl.xs) (by rw [HZL.eq]; exact hlt) (by rw [HXL.eq]; exact ha) HR.out)
      have HF1 := hidden (HFA.out j a (l.map Bl.xs) (by rw [HZL.eq]; exact hlt) (by rw [HXL.eq]; exact ha) HR.out)
      generalize zs.getD j 0 = z at c0 hzr HS1 HF1
      have HSL := hidden (slice_bod p n c xs wr (H.out wr HB.out) (by omega) a z (by omega) hzr)
      by_cases hz : 0 ≤ z ∧ (a : Int) + z ≤ n
      · obtain ⟨z, rfl⟩ := Int.eq_ofNat_of_zero_le hz.1
        have hpe : pieceR xs (a : Int) (z : Int) = ((xs.drop a).take z, true) := by
          unfold pieceR
          rw [if_pos (by rw [HXL.eq]; omega)]
          simp
        rw [hpe] at HSL
        have hS1 := HS1.out (by omega) (by rw [HXL.eq]; omega)
        simp only [Int.toNat_natCast] at hS1
        have HS := hidden hS1
        obtain ⟨Z, hZ⟩ : ∃ Z, (xs.drop a).take z = Z := ⟨_, rfl⟩
        rw [hZ] at HSL HS
        have haz : a + z ≤ n := by omega
        have hw : IntKind.i64.wrap ((a : Int) + (z : Int)) = (a : Int) + (z : Int) := by rw [IntKind.wrap_i64]; omega
        clear hpe hS1 HS1 HF1 hZ hzr hz
        go_wp2_with (first
          | (go_at_call 64; (with_reducible refine (HSL.out).mono ?_); rintro e w2 ⟨p2, n2, c2, rfl, hbod, hbel⟩; have HB2 := hidden (HB.out.trans (hbel.mono HB.out.size)); have HO2 := hidden (hbod.mono HB.out.size); have HR2 := hidden (HRW.out.below hbel); clear hbod hbel)
          | (at_builtin; go_loud (refine wpList_append_g knownBl (by simp [NBl, KBl]) _ rfl _ _ rfl w.heap.size _ l rfl (HR2.out.alloc _) _ 1 1 [⟨p2, n2, c2, Z⟩] rfl (srcBl w2 ⟨p2, n2, c2, Z⟩ _) (fun x hx => by rw [List.mem_singleton.1 hx]; exact HO2.out.alloc _) ?b1 ?b2 ?b3 ?_))
          | fail)
        case b1 => rw [HLJ.eq]; unfold maxLen; omega
        case b2 => rw [HLJ.eq]; omega
        case b3 => have := HB2.out.size; simp; omega
        intro v3 w3 hr3 hg3
        have HB3 := hidden ((HB2.out.alloc HB2.out.size _).grown hg3 (by have := HB2.out.size; simp; omega) (fun k hk => (HR2.out.lt k hk).1))
        have HR3 := hidden hr3
        clear hr3 hg3 HR2 HO2 HB2 HSL HRW HB
        go_wp2
        go_roundw
        case rel =>
          refine ⟨j + 1, a + z, l ++ [⟨p2, n2, c2, Z⟩], by omega, by go_num, by go_num, haz, by simp [HLJ.eq], HR3.out, ?_, HB3.out⟩
          show R = _
          rw [List.map_append]
          exact HS.out
        case measure => simp [intOf]; omega
      · have hpe : pieceR xs (a : Int) z = ([], false) := by
          unfold pieceR
          rw [if_neg (by rw [HXL.eq]; omega)]
        rw [hpe] at HSL
        have hnone := HF1.out (by rw [HXL.eq]; exact hz)
        have HN := Is.mk hnone
        clear hpe HS1 HF1 hnone
        go_wp2_with (first
          | (go_at_call 64; (with_reducible refine (HSL.out).mono ?_); rintro e w2 ⟨p2, n2, c2, rfl, hbod, hbel⟩; have HB2 := hidden (HB.out.trans (hbel.mono HB.out.size)); clear hbod hbel)
          | fail)
        go_ret2
        exact ⟨_, [], by rw [HN.eq]; rfl, RowG.nil _ _ _ _, by rw [HN.eq]; rfl, by simp, HB2.out⟩
    · have hje : m ≤ j := by omega
      have hlt' : ¬ (j : Int) < m := by omega
      have hsome := HEN.out j a (l.map Bl.xs) (by rw [HZL.eq]; exact hje) HR.out
      have HS := Is.mk hsome
      clear hsome
      go_wp2
      go_ret2
      exact ⟨_, l, by rw [HS.eq]; rfl, HRW.out, by rw [HS.eq]; rfl, by rw [HLJ.eq]; omega, HB.out⟩
end Go.Proofs.YtgpigjoonhghhaaDoor

namespace Go.Proofs.YtgpigjoonhghhaaDoor
open Go.RowKit
set_option linter.unusedVariables false
end Go.Proofs.YtgpigjoonhghhaaDoor
