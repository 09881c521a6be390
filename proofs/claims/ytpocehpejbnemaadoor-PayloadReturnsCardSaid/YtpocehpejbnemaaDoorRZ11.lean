/-
  Which slices are the same: slices.Equal and slices.EqualFunc at the types that package payload compares, and the document's own Same of proposals and of selectors: each says yes just where the lists read alike.
  The document's own Same of proposals, and package payload's comparison of proposals, of notifications and of lists of bytes: each says yes just where both read alike.
  Lists of rows of bytes: an element says where its bytes lie.
  Package payload's comparison of proposals, of notifications and of lists of bytes: each says yes just where both read alike.
-/
import Derived.Test.YtpocehpejbnemaaDoorRZ0
import Derived.Test.YtpocehpejbnemaaDoorRZ4
import Derived.Test.YtpocehpejbnemaaDoorRZ16
import Derived.Test.YtpocehpejbnemaaDoorRZ17
import Derived.Deep.QuietTactic
import Derived.BigQuiet
namespace Go.Proofs.YtpocehpejbnemaaDoor
open Go.RowKit
set_option linter.unusedVariables false

theorem take_next {α : Type} {la lb : List α} {j : Nat} (ha : j < la.length) (hb : j < lb.length) (h : la.take j = lb.take j) (e : la[j] = lb[j]) : la.take (j + 1) = lb.take (j + 1) := by
  rw [← List.take_append_getElem ha, ← List.take_append_getElem hb, h, e]
theorem take_whole {α : Type} {la lb : List α} {n : Nat} (ha : la.length = n) (hb : lb.length = n) (h : la.take n = lb.take n) : la = lb := by
  rw [List.take_of_length_le (by omega), List.take_of_length_le (by omega)] at h
  exact h
theorem differ_at {α : Type} {la lb : List α} {j : Nat} (ha : j < la.length) (hb : j < lb.length) (e : la[j] ≠ lb[j]) : la ≠ lb := fun h => e (by subst h; rfl)
theorem differ_len {α : Type} {la lb : List α} {n m : Nat} (ha : la.length = n) (hb : lb.length = m) (h : n ≠ m) : la ≠ lb := fun e => h (by rw [← ha, ← hb, e])
theorem ne_trN (w : World) (x y : Tr) (h : x ≠ y) : (binOp .neq 113 (.agg #[.int .i64 x.t, .int .i64 x.i, .int .i64 x.k]) (.agg #[.int .i64 y.t, .int .i64 y.i, .int .i64 y.k])).run Tryd.prog w = .ok (.bool true) w := by
  obtain ⟨a0, a1, a2⟩ := x; obtain ⟨b0, b1, b2⟩ := y
  by_cases e0 : a0 = b0
  rotate_left
  · have f0 : (a0 == b0) = false := by simpa using e0
    go_simp
  subst e0
  by_cases e1 : a1 = b1
  rotate_left
  · have f1 : (a1 == b1) = false := by simpa using e1
    go_simp
  subst e1
  have e2 : ¬ a2 = b2 := fun e => h (by rw [e])
  have f2 : (a2 == b2) = false := by simpa using e2
  go_simp
theorem ne_slN (w : World) (x y : Sl) (h : x ≠ y) : (binOp .neq 117 (.agg #[.int .i64 x.p, .int .i64 x.a, .int .i64 x.b, .int .i64 x.lo.f, .int .u64 x.lo.h, .int .u64 x.lo.l, .int .i64 x.hi.f, .int .u64 x.hi.h, .int .u64 x.hi.l]) (.agg #[.int .i64 y.p, .int .i64 y.a, .int .i64 y.b, .int .i64 y.lo.f, .int .u64 y.lo.h, .int .u64 y.lo.l, .int .i64 y.hi.f, .int .u64 y.hi.h, .int .u64 y.hi.l])).run Tryd.prog w = .ok (.bool true) w := by
  obtain ⟨a0, a1, a2, ⟨a3, a4, a5⟩, ⟨a6, a7, a8⟩⟩ := x; obtain ⟨b0, b1, b2, ⟨b3, b4, b5⟩, ⟨b6, b7, b8⟩⟩ := y
  by_cases e0 : a0 = b0
  rotate_left
  · have f0 : (a0 == b0) = false := by simpa using e0
    go_simp
  subst e0
  by_cases e1 : a1 = b1
  rotate_left
  · have f1 : (a1 == b1) = false := by simpa using e1
    go_simp
  subst e1
  by_cases e2 : a2 = b2
  rotate_left
  · have f2 : (a2 == b2) = false := by simpa using e2
    go_simp
  subst e2
  by_cases e3 : a3 = b3
  rotate_left
  · have f3 : (a3 == b3) = false := by simpa using e3
    go_simp
  subst e3
  by_cases e4 : a4 = b4
  rotate_left
  · have f4 : (a4 == b4) = false := by simpa using e4
    go_simp
  subst e4
  by_cases e5 : a5 = b5
  rotate_left
  · have f5 : (a5 == b5) = false := by simpa using e5
    go_simp
  subst e5
  by_cases e6 : a6 = b6
  rotate_left
  · have f6 : (a6 == b6) = false := by simpa using e6
    go_simp
  subst e6
  by_cases e7 : a7 = b7
  rotate_left
  · have f7 : (a7 == b7) = false := by simpa using e7
    go_simp
  subst e7
  have e8 : ¬ a8 = b8 := fun e => h (by rw [e])
  have f8 : (a8 == b8) = false := by simpa using e8
  go_simp

theorem eq_trN (w : World) (a b c : Int) : (binOp .neq 113 (.agg #[.int .i64 a, .int .i64 b, .int .i64 c]) (.agg #[.int .i64 a, .int .i64 b, .int .i64 c])).run Tryd.prog w = .ok (.bool false) w := by
  go_simp

set_option maxHeartbeats 1600000 in
set_option maxRecDepth 100000 in
theorem same5_any (p q : Option Addr) (n c m d : Nat) (la lb : List Sl) (w : World) (h : RdG KSl DSlr w p n c la) (k : RdG KSl DSlr w q m d lb) :
    Calls Tryd.prog 32 #[.slice p n c, .slice q m d] w fun e w' => e = .returned (.bool (decide (la = lb))) ∧ Below w.heap.size w w' := by
  have hn := h.le
  have hm := k.le
  have H := hidden h
  have K := hidden k
  have HL := hidden h.len
  have KL := hidden k.len
  clear h k
  by_cases hnm : n = m
  rotate_left
  · have hne : ((n : Int) != (m : Int)) = true := by simp; omega
    have hd := decide_eq_false (differ_len HL.out KL.out hnm)
    go_enter Tryd.func32, Tryd.ntmps32
    go_wp2
    go_ret
    exact ⟨by rw [hd]; rfl, Below.refl _ _⟩
  subst hnm
  go_enter Tryd.func32, Tryd.ntmps32
  go_wp2
  go_loopw [5] (fun i wr => ∃ j : Nat, j ≤ n ∧ i = .int .i64 j ∧ la.take j = lb.take j ∧ Below w.heap.size w wr) (fun i _ => n - (intOf i).toNat)
  case atStart => exact ⟨0, by omega, rfl, by simp, Below.refl _ _⟩
  case round =>
    obtain ⟨j, hj, rfl, ht, hb⟩ := hrel
    have HB := hidden hb
    have HT := hidden ht
    clear ht
    by_cases hlt : j < n
    · have hlt' : (j : Int) < n := by omega
      have hja : j < la.length := by rw [HL.out]; exact hlt
      have hjb : j < lb.length := by rw [KL.out]; exact hlt
      obtain ⟨g, rfl, a0, a1, a2, a3, a4, a5, a6, a7, a8, -⟩ := rd_sl (H.out.below hb) j hja
      obtain ⟨g', rfl, b0, b1, b2, b3, b4, b5, b6, b7, b8, -⟩ := rd_sl (K.out.below hb) j hjb
      obtain ⟨x, hx⟩ : ∃ x, la[j] = x := ⟨_, rfl⟩
      obtain ⟨y, hy⟩ : ∃ y, lb[j] = y := ⟨_, rfl⟩
      rw [hx] at a0 a1 a2 a3 a4 a5 a6 a7 a8
      rw [hy] at b0 b1 b2 b3 b4 b5 b6 b7 b8
      by_cases hxy : x = y
      · have HN := hidden (take_next hja hjb HT.out (by rw [hx, hy, hxy]))
        subst hxy
        clear hx hy hja hjb hb HT
        obtain ⟨sp, sa, sb, ⟨lf, lh, ll⟩, ⟨hf, hh, hl⟩⟩ := x
        simp only at a0 a1 a2 a3 a4 a5 a6 a7 a8 b0 b1 b2 b3 b4 b5 b6 b7 b8
        go_wp2
        go_quiet (fail)
        go_wp2
        go_roundw
        case rel => exact ⟨j + 1, by omega, by go_num, HN.out, HB.out.trans (drew_below ⟨_, rfl⟩)⟩
        case measure => simp [intOf]; omega
      · have HD := hidden (decide_eq_false (differ_at hja hjb (by rw [hx, hy]; exact hxy)))
        have hqn := fun w => ne_slN w x y hxy
        clear hx hy hja hjb hb HT hxy
        go_wp2
        go_quiet (fail)
        go_wp2
        go_ret
        exact ⟨by rw [HD.out]; rfl, HB.out.trans (drew_below ⟨_, rfl⟩)⟩
    · obtain rfl : j = n := by omega
      have hd := decide_eq_true (take_whole HL.out KL.out HT.out)
      clear hb
      go_wp2
      go_ret
      exact ⟨by rw [hd]; rfl, HB.out⟩
end Go.Proofs.YtpocehpejbnemaaDoor

namespace Go.Proofs.YtpocehpejbnemaaDoor
open Go.RowKit
set_option linter.unusedVariables false

set_option maxHeartbeats 3200000 in
set_option maxRecDepth 100000 in
theorem same4_any (p q : Option Addr) (n c m d : Nat) (la lb : List PrP) (w : World) (h : RdG KPr DPr w p n c la) (k : RdG KPr DPr w q m d lb) :
    Calls Tryd.prog 31 #[.slice p n c, .slice q m d] w fun e w' => e = .returned (.bool (decide (la.map PrP.pr = lb.map PrP.pr))) ∧ Below w.heap.size w w' := by
  have hn := h.le
  have hm := k.le
  have HA := hidden h
  have HB := hidden k
  have HL : Hid ((la.map PrP.pr).length = n) := hidden (by rw [List.length_map, h.len])
  have KL : Hid ((lb.map PrP.pr).length = m) := hidden (by rw [List.length_map, k.len])
  clear h k
  by_cases hnm : n = m
  rotate_left
  · have hne : ((n : Int) != (m : Int)) = true := by simp; omega
    have hd := decide_eq_false (differ_len HL.out KL.out hnm)
    go_enter Tryd.func31, Tryd.ntmps31
    go_wp2
    go_ret
    exact ⟨by rw [hd]; rfl, Below.refl _ _⟩
  subst hnm
  go_enter Tryd.func31, Tryd.ntmps31
  go_wp2_with fail
  go_loopw [5] (fun i wr => ∃ j : Nat, j ≤ n ∧ i = .int .i64 j ∧ (la.map PrP.pr).take j = (lb.map PrP.pr).take j ∧ Below w.heap.size w wr) (fun i _ => n - (intOf i).toNat)
  case atStart => exact ⟨0, by omega, rfl, by simp, Below.refl _ _⟩
  case round =>
    obtain ⟨j, hj, rfl, ht, hbel⟩ := hrel
    have HBL := hidden hbel
    have HT := hidden ht
    clear hbel ht
    by_cases hlt : ¬ j < n
    · obtain rfl : j = n := by omega
      have hd := decide_eq_true (take_whole HL.out KL.out HT.out)
      go_wp2
      go_ret
      exact ⟨by rw [hd]; rfl, HBL.out⟩
    replace hlt : j < n := by omega
    have hlt' : (j : Int) < n := by omega
    have hja : j < la.length := by rw [HA.out.len]; exact hlt
    have hjb : j < lb.length := by rw [HB.out.len]; exact hlt
    obtain ⟨g, rfl, hc, hok⟩ := (HA.out.below HBL.out).cell j hja
    obtain ⟨g2, rfl, hc2, hok2⟩ := (HB.out.below HBL.out).cell j hjb
    obtain ⟨x, hx⟩ : ∃ x, la[j] = x := ⟨_, rfl⟩
    obtain ⟨y, hy⟩ : ∃ y, lb[j] = y := ⟨_, rfl⟩
    have hja' : j < (la.map PrP.pr).length := by rw [List.length_map]; exact hja
    have hjb' : j < (lb.map PrP.pr).length := by rw [List.length_map]; exact hjb
    have HNX := hidden (fun (e : x.pr = y.pr) => take_next hja' hjb' HT.out (by rw [List.getElem_map, List.getElem_map, hx, hy, e]))
    have HDF := hidden (fun (e : x.pr ≠ y.pr) => decide_eq_false (differ_at hja' hjb' (by rw [List.getElem_map, List.getElem_map, hx, hy]; exact e)))
    rw [hx] at hc hok
    rw [hy] at hc2 hok2
    clear hx hy hja hjb hja' hjb' HT
    obtain ⟨xn, xp, xsp, xsn, xsc, xs, xtp, xtn, xtc, xts⟩ := x
    obtain ⟨yn, yp, ysp, ysn, ysc, ys, ytp, ytn, ytc, yts⟩ := y
    simp only [PrP.pr, Pr.mk.injEq, ne_eq] at HNX HDF
    have HXT := hidden hok.ts.len
    have HYT := hidden hok2.ts.len
    simp only at HXT HYT
    have hxtn : xtn ≤ 9223372036854775807 := hok.ts.le
    have hytn : ytn ≤ 9223372036854775807 := hok2.ts.le
    have c0 := hc 0 _ rfl
    have c1 := hc 1 _ rfl
    have c2 := hc 2 _ rfl
    have c3 := hc 3 _ rfl
    have d0 := hc2 0 _ rfl
    have d1 := hc2 1 _ rfl
    have d2 := hc2 2 _ rfl
    have d3 := hc2 3 _ rfl
    simp only [KPr, Nat.add_zero] at c0 c1 c2 c3 d0 d1 d2 d3
    have hby1 : Byt wr xsp xsn xsc xs := hok.s
    have hby2 : Byt wr ysp ysn ysc ys := hok2.s
    obtain ⟨bs, hbs⟩ : ∃ b, decide (xs = ys) = b := ⟨_, rfl⟩
    have HQ := hidden (fun a => (requal_any xsp ysp xsn xsc ysn ysc xs ys (wr.drewN a) (hby1.keep (fun _ _ h => h)) (hby2.keep (fun _ _ h => h))).mono (R' := fun e w' => e = .returned (.bool bs) ∧ ∃ r, w' = (wr.drewN a).drewN r) (fun e w' ⟨h1, h2⟩ => ⟨by rw [h1, hbs], h2⟩))
    have HBS := hidden hbs
    have HCA := hidden (fun W (hb : Below wr.heap.size wr W) => cell_below hb _ _ (hc 3 _ rfl))
    have HCB := hidden (fun W (hb : Below wr.heap.size wr W) => cell_below hb _ _ (hc2 3 _ rfl))
    have HTA : Hid (RdG KTr DTr wr xtp xtn xtc xts) := hidden hok.ts
    have HTB : Hid (RdG KTr DTr wr ytp ytn ytc yts) := hidden hok2.ts
    simp only [KPr] at HCA HCB
    clear hc hc2 hok hok2 hby1 hby2 hbs
    by_cases h1 : xn = yn
    rotate_left
    · have e1 : (xn != yn) = true := by simpa using h1
      have HD := hidden (HDF.out (fun h => h1 h.1))
      clear h1
      go_wp2
      go_quiet ((go_at_call 21; (with_reducible exact Calls.quiet_of (HQ.out _))))
      go_wp2
      go_ret
      exact ⟨by rw [HD.out]; rfl, HBL.out.trans (drew_below ⟨_, rfl⟩)⟩
    subst h1
    have e1 : (xn != xn) = false := by simp
    by_cases h2 : xp = yp
    rotate_left
    · have e2 : (xp != yp) = true := by simpa using h2
      have HD := hidden (HDF.out (fun h => h2 h.2.1))
      clear h2
      go_wp2
      go_quiet ((go_at_call 21; (with_reducible exact Calls.quiet_of (HQ.out _))))
      go_wp2
      go_ret
      exact ⟨by rw [HD.out]; rfl, HBL.out.trans (drew_below ⟨_, rfl⟩)⟩
    subst h2
    have e2 : (xp != xp) = false := by simp
    cases bs with
    | false =>
      have HD := hidden (HDF.out (fun h => of_decide_eq_false HBS.out h.2.2.1))
      go_wp2
      go_quiet ((go_at_call 21; (with_reducible exact Calls.quiet_of (HQ.out _))))
      go_wp2
      go_ret
      exact ⟨by rw [HD.out]; rfl, HBL.out.trans (drew_below ⟨_, rfl⟩)⟩
    | true =>
      by_cases h4 : xtn = ytn
      rotate_left
      · have e4 : ((xtn : Int) != ytn) = true := by simp; omega
        have HD := hidden (HDF.out (fun h => h4 (by rw [← HXT.out, ← HYT.out, h.2.2.2])))
        clear h4
        go_wp2
        go_quiet ((go_at_call 21; (with_reducible exact Calls.quiet_of (HQ.out _))))
        go_wp2
        go_ret
        exact ⟨by rw [HD.out]; rfl, HBL.out.trans (drew_below ⟨_, rfl⟩)⟩
      subst h4
      have e4 : ((xtn : Int) != xtn) = false := by simp
      go_wp2
      go_quiet ((go_at_call 21; (with_reducible exact Calls.quiet_of (HQ.out _))))
      have HBQ := hidden (drew_below (B := wr.heap.size) (w := wr) (w' := wr.drewN nq) ⟨nq, rfl⟩)
      clear c0 c1 c2 c3 d0 d1 d2 d3 e1 e2 e4 HQ
      go_wp2_with fail
      go_loopw [6] (fun i wq => ∃ t : Nat, t ≤ xtn ∧ i = .int .i64 t ∧ xts.take t = yts.take t ∧ Below wr.heap.size wr wq) (fun i _ => xtn - (intOf i).toNat)
      case atStart => exact ⟨0, by omega, rfl, by simp, HBQ.out⟩
      case round =>
        obtain ⟨t, ht, rfl, htk, hbq⟩ := hrel
        have e3 := HCA.out _ hbq
        have f3 := HCB.out _ hbq
        have HB2 := hidden hbq
        have HTK := hidden htk
        clear htk
        by_cases htl : ¬ t < xtn
        · obtain rfl : t = xtn := by omega
          have HN := hidden (HNX.out ⟨trivial, trivial, of_decide_eq_true HBS.out, take_whole HXT.out HYT.out HTK.out⟩)
          clear hbq
          go_wp2
          go_roundw
          case rel => exact ⟨j + 1, by omega, by go_num, HN.out, HBL.out.trans (HB2.out.mono HBL.out.size)⟩
          case measure => simp [intOf]; omega
        replace htl : t < xtn := by omega
        have htl' : (t : Int) < xtn := by omega
        have hta : t < xts.length := by rw [HTA.out.len]; exact htl
        have htb : t < yts.length := by rw [HTB.out.len]; exact htl
        obtain ⟨ga, rfl, ha, -⟩ := (HTA.out.below hbq).cell t hta
        obtain ⟨gb, rfl, hb, -⟩ := (HTB.out.below hbq).cell t htb
        obtain ⟨z, hz⟩ : ∃ z, xts[t] = z := ⟨_, rfl⟩
        obtain ⟨z', hz'⟩ : ∃ z', yts[t] = z' := ⟨_, rfl⟩
        rw [hz] at ha
        rw [hz'] at hb
        have a0 := ha 0 _ rfl
        have a1 := ha 1 _ rfl
        have a2 := ha 2 _ rfl
        have b0 := hb 0 _ rfl
        have b1 := hb 1 _ rfl
        have b2 := hb 2 _ rfl
        simp only [KTr, Nat.add_zero] at a0 a1 a2 b0 b1 b2
        clear ha hb hbq
        by_cases hzz : z = z'
        · have HN := hidden (take_next hta htb HTK.out (by rw [hz, hz', hzz]))
          subst hzz
          clear hz hz' hta htb HTK
          obtain ⟨zt, zi, zk⟩ := z
          have hqe := fun w => eq_trN w zt zi zk
          simp only at a0 a1 a2 b0 b1 b2
          go_wp2
          go_quiet (fail)
          go_wp2
          go_roundw
          case rel => exact ⟨t + 1, by omega, by go_num, HN.out, HB2.out.trans (drew_below ⟨_, rfl⟩)⟩
          case measure => simp [intOf]; omega
        · have HD := hidden (HDF.out (fun h => differ_at hta htb (by rw [hz, hz']; exact hzz) h.2.2.2))
          have hqn := fun w => ne_trN w z z' hzz
          clear hz hz' hta htb HTK hzz
          go_wp2
          go_quiet (fail)
          go_wp2
          go_ret
          exact ⟨by rw [HD.out]; rfl, HBL.out.trans ((HB2.out.trans (drew_below ⟨_, rfl⟩)).mono HBL.out.size)⟩
end Go.Proofs.YtpocehpejbnemaaDoor

namespace Go.Proofs.YtpocehpejbnemaaDoor
open Go.RowKit
set_option linter.unusedVariables false

/-- An element of a list of bytes: where its bytes lie. -/
structure Sb where
  p : Option Addr
  n : Nat
  c : Nat
  xs : List Int
def KSb : KindR Sb where
  e := 22
  k := 1
  cs x := [.slice x.p x.n x.c]
  len _ := rfl
  one x u hu := by
    simp at hu
    subst hu
    rfl
  pos := by decide
def DSb : ReadN Sb where
  ok w x := Byt w x.p x.n x.c x.xs
  keep h hk := h.keep hk
def NSb : NestR Sb where
  ts := [5]
  ok w base x := Bod w base x.p x.n x.c x.xs
  keep h hg ho := h.grown hg (fun r hr => (ho r hr).imp id (fun h2 cur fz e => h2 cur _ fz e (by simp)))
  mono h hb := h.mono hb
theorem Tryd.infoSb : (Tryd.prog.info? 22).map (fun i => (i.zero, i.size, i.bytes)) = some (some (.slice none 0 0), 1, 24) := by kernel_rfl
theorem knownSb : KnownR Tryd.prog KSb 35 24 := by
  refine ⟨Tryd.underlying35, ?_⟩
  obtain ⟨i0, hi, hz0, hz1, hz2⟩ := info_parts Tryd.infoSb
  exact ⟨i0, _, hi, hz0, hz1, hz2, rfl⟩
theorem srcSb (w : World) (x : Sb) (T : TypeId) : SrcG KSb (w.alloc (.cells #[.slice x.p x.n x.c] T)) (some ⟨w.heap.size, 0, none⟩) 1 [x] := SrcG.new KSb w [x] T
theorem RowG.sbs {w : World} {base : Nat} {v : Value} {l : List Sb} (h : RowG KSb NSb w base v l) {n : Nat} (hn : l.length = n) : ∃ p c, v = .slice p n c ∧ RdG KSb DSb w p n c l := h.rd hn (fun x hx => hx.byt)
theorem RdG.sb_cons {w : World} {p : Option Addr} {n c j : Nat} {l : List Sb} (h : RdG KSb DSb w p n c l) (hj : j < n) :
    ∃ g x, p = some ⟨g, 0, none⟩ ∧ l[j]? = some x ∧ l.drop j = x :: l.drop (j + 1) ∧ Byt w x.p x.n x.c x.xs ∧ w.cell? ⟨g, j, none⟩ = some (.slice x.p x.n x.c) := by
  have hl : j < l.length := by rw [h.len]; exact hj
  obtain ⟨g, e, hc, hd⟩ := h.cell j hl
  have := hc 0 _ rfl
  simp only [KSb, Nat.mul_one, Nat.add_zero] at this
  exact ⟨g, l[j], e, List.getElem?_eq_getElem hl, List.drop_eq_getElem_cons hl, hd, this⟩
end Go.Proofs.YtpocehpejbnemaaDoor

namespace Go.Proofs.YtpocehpejbnemaaDoor
open Go.RowKit
set_option linter.unusedVariables false

theorem below2 (w : World) (o o' : Obj) : Below w.heap.size w ((w.alloc o).alloc o') := ((Below.refl w.heap.size w).alloc (Nat.le_refl _) _).alloc (by simp) _

/-- A notification's four cells, its slices. -/
structure Nt where
  p : Int
  sp : Option Addr
  sn : Nat
  sc : Nat
  s : List Int
  t : Int
  dp : Option Addr
  dn : Nat
  dc : Nat
  d : List Int

end Go.Proofs.YtpocehpejbnemaaDoor
