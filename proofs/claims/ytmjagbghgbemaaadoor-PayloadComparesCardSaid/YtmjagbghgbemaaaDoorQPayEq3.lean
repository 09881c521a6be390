/-
  Package payload's comparison of proposals, of notifications and of lists of bytes: each says yes just where both read alike.
-/
import Derived.Test.YtmjagbghgbemaaaDoorQPayEq2
namespace Go.Proofs.YtmjagbghgbemaaaDoor
open Go.RowKit
set_option linter.unusedVariables false

theorem below2 (w : World) (o o' : Obj) : Below w.heap.size w ((w.alloc o).alloc o') := ((Below.refl w.heap.size w).alloc (Nat.le_refl _) _).alloc (by simp) _

set_option maxHeartbeats 1600000 in
set_option maxRecDepth 100000 in
theorem sameprop_any (x y : PrP) (w : World) (hx : OkD w x) (hy : OkD w y) :
    Calls Tryd.prog 31 #[.agg #[.int .i64 x.n, .int .i64 x.p, .slice x.sp x.sn x.sc, .slice x.tp x.tn x.tc], .agg #[.int .i64 y.n, .int .i64 y.p, .slice y.sp y.sn y.sc, .slice y.tp y.tn y.tc]] w fun e w' => e = .returned (.bool (decide (x.pr = y.pr))) ∧ Below w.heap.size w w' := by
  obtain ⟨xn, xp, xsp, xsn, xsc, xs, xtp, xtn, xtc, xts⟩ := x
  obtain ⟨yn, yp, ysp, ysn, ysc, ys, ytp, ytn, ytc, yts⟩ := y
  obtain ⟨b3, hb3⟩ : ∃ b, decide (xs = ys) = b := ⟨_, rfl⟩
  obtain ⟨b4, hb4⟩ : ∃ b, decide (xts = yts) = b := ⟨_, rfl⟩
  have hd : decide (PrP.pr ⟨xn, xp, xsp, xsn, xsc, xs, xtp, xtn, xtc, xts⟩ = PrP.pr ⟨yn, yp, ysp, ysn, ysc, ys, ytp, ytn, ytc, yts⟩) = (decide (xn = yn) && decide (xp = yp) && b3 && b4) := by
    rw [← hb3, ← hb4, Bool.eq_iff_iff]
    simp [PrP.pr, and_assoc]
  have HS := hidden (fun W (hb : Below w.heap.size w W) => equal_any xsp ysp xsn xsc ysn ysc xs ys W (hx.s.below hb) (hy.s.below hb))
  have HT := hidden (fun W (hb : Below w.heap.size w W) => eqtr_any xtp ytp xtn xtc ytn ytc xts yts W (hx.ts.below hb) (hy.ts.below hb))
  rw [hb3] at HS
  rw [hb4] at HT
  have HD := hidden hd
  clear hx hy hb3 hb4 hd
  have HB := hidden (below2 w (.cells #[.int .i64 xn, .int .i64 xp, .slice xsp xsn xsc, .slice xtp xtn xtc] 79) (.cells #[.int .i64 yn, .int .i64 yp, .slice ysp ysn ysc, .slice ytp ytn ytc] 79))
  go_enter Tryd.func31, Tryd.ntmps31
  by_cases h1 : xn = yn
  rotate_left
  · have e1 : (xn == yn) = false := by simpa using h1
    have HD2 := hidden (HD.out.trans (by rw [decide_eq_false h1]))
    clear h1 HD
    go_wp2_with fail
    go_ret
    exact ⟨by rw [HD2.out]; rfl, HB.out⟩
  subst h1
  have e1 : (xn == xn) = true := by simp
  by_cases h2 : xp = yp
  rotate_left
  · have e2 : (xp == yp) = false := by simpa using h2
    have HD2 := hidden (HD.out.trans (by rw [decide_eq_false h2]))
    clear h2 HD
    go_wp2_with fail
    go_ret
    exact ⟨by rw [HD2.out]; rfl, HB.out⟩
  subst h2
  have e2 : (xp == xp) = true := by simp
  cases b3 with
  | false =>
    have HD2 := hidden (HD.out.trans (by simp; rfl))
    clear HD
    go_wp2_with (go_at_call 20; (with_reducible refine (HS.out _ HB.out).mono ?_); rintro e w1 ⟨rfl, rfl⟩)
    go_ret
    exact ⟨by rw [HD2.out]; rfl, HB.out⟩
  | true =>
    have HD2 := hidden (HD.out.trans (show _ = b4 by simp))
    clear HD
    go_wp2_with (first
      | (go_at_call 20; (with_reducible refine (HS.out _ HB.out).mono ?_); rintro e w1 ⟨rfl, rfl⟩)
      | (go_at_call 56; (with_reducible refine (HT.out _ HB.out).mono ?_); rintro e w1 ⟨rfl, hb⟩; have HB2 := hidden (HB.out.trans (hb.mono HB.out.size)); clear hb)
      | fail)
    go_ret
    exact ⟨by rw [HD2.out]; rfl, HB2.out⟩

set_option maxHeartbeats 1600000 in
set_option maxRecDepth 100000 in
theorem eqpr_any (p q : Option Addr) (n c m d : Nat) (la lb : List PrP) (w : World) (h : RdG KPr DPr w p n c la) (k : RdG KPr DPr w q m d lb) :
    Calls Tryd.prog 30 #[.slice p n c, .slice q m d, .func (.func 31) #[] #[]] w fun e w' => e = .returned (.bool (decide (la.map PrP.pr = lb.map PrP.pr))) ∧ Below w.heap.size w w' := by
  have hn := h.le
  have hm := k.le
  have H := hidden h
  have K := hidden k
  have HL : Hid ((la.map PrP.pr).length = n) := hidden (by rw [List.length_map, h.len])
  have KL : Hid ((lb.map PrP.pr).length = m) := hidden (by rw [List.length_map, k.len])
  clear h k
  by_cases hnm : n = m
  rotate_left
  · have hne : ((n : Int) != (m : Int)) = true := by simp; omega
    have hd := decide_eq_false (differ_len HL.out KL.out hnm)
    go_enter Tryd.func30, Tryd.ntmps30
    go_wp2
    go_ret
    exact ⟨by rw [hd]; rfl, Below.refl _ _⟩
  subst hnm
  go_enter Tryd.func30, Tryd.ntmps30
  go_wp2_with fail
  go_loopw [17] (fun i wr => ∃ j : Nat, j ≤ n ∧ i = .int .i64 j ∧ (la.map PrP.pr).take j = (lb.map PrP.pr).take j ∧ Below w.heap.size w wr) (fun i _ => n - (intOf i).toNat)
  case atStart => exact ⟨0, by omega, rfl, by simp, Below.refl _ _⟩
  case round =>
    obtain ⟨j, hj, rfl, ht, hbel⟩ := hrel
    have HBL := hidden hbel
    have HT := hidden ht
    clear hbel ht
    by_cases hlt : ¬ j < n
    · obtain rfl : j = n := by omega
      have hd := decide_eq_true (take_whole HL.out KL.out HT.out)
      go_wp2
      go_ret
      exact ⟨by rw [hd]; rfl, HBL.out⟩
    replace hlt : j < n := by omega
    have hlt' : (j : Int) < n := by omega
    have hja : j < la.length := by rw [H.out.len]; exact hlt
    have hjb : j < lb.length := by rw [K.out.len]; exact hlt
    obtain ⟨g, rfl, hc, hok⟩ := (H.out.below HBL.out).cell j hja
    obtain ⟨g2, rfl, hc2, hok2⟩ := (K.out.below HBL.out).cell j hjb
    obtain ⟨x, hx⟩ : ∃ x, la[j] = x := ⟨_, rfl⟩
    obtain ⟨y, hy⟩ : ∃ y, lb[j] = y := ⟨_, rfl⟩
    have hja' : j < (la.map PrP.pr).length := by rw [List.length_map]; exact hja
    have hjb' : j < (lb.map PrP.pr).length := by rw [List.length_map]; exact hjb
    have HNX := hidden (fun (e : x.pr = y.pr) => take_next hja' hjb' HT.out (by rw [List.getElem_map, List.getElem_map, hx, hy, e]))
    have HDF := hidden (fun (e : x.pr ≠ y.pr) => decide_eq_false (differ_at hja' hjb' (by rw [List.getElem_map, List.getElem_map, hx, hy]; exact e)))
    rw [hx] at hc hok
    rw [hy] at hc2 hok2
    clear hx hy hja hjb hja' hjb' HT
    have c0 := hc 0 _ rfl
    have c1 := hc 1 _ rfl
    have c2 := hc 2 _ rfl
    have c3 := hc 3 _ rfl
    have d0 := hc2 0 _ rfl
    have d1 := hc2 1 _ rfl
    have d2 := hc2 2 _ rfl
    have d3 := hc2 3 _ rfl
    have f0 := cell_below ((Below.refl wr.heap.size wr).alloc (Nat.le_refl _) (.cells #[.int .i64 x.n, .int .i64 x.p, .slice x.sp x.sn x.sc, .slice x.tp x.tn x.tc] 79)) _ _ d0
    have f1 := cell_below ((Below.refl wr.heap.size wr).alloc (Nat.le_refl _) (.cells #[.int .i64 x.n, .int .i64 x.p, .slice x.sp x.sn x.sc, .slice x.tp x.tn x.tc] 79)) _ _ d1
    have f2 := cell_below ((Below.refl wr.heap.size wr).alloc (Nat.le_refl _) (.cells #[.int .i64 x.n, .int .i64 x.p, .slice x.sp x.sn x.sc, .slice x.tp x.tn x.tc] 79)) _ _ d2
    have f3 := cell_below ((Below.refl wr.heap.size wr).alloc (Nat.le_refl _) (.cells #[.int .i64 x.n, .int .i64 x.p, .slice x.sp x.sn x.sc, .slice x.tp x.tn x.tc] 79)) _ _ d3
    simp only [KPr, Nat.add_zero] at c0 c1 c2 c3 d0 d1 d2 d3 f0 f1 f2 f3
    have HB := hidden (below2 wr (.cells #[.int .i64 x.n, .int .i64 x.p, .slice x.sp x.sn x.sc, .slice x.tp x.tn x.tc] 79) (.cells #[.int .i64 y.n, .int .i64 y.p, .slice y.sp y.sn y.sc, .slice y.tp y.tn y.tc] 79))
    obtain ⟨b, hbd⟩ : ∃ b, decide (x.pr = y.pr) = b := ⟨_, rfl⟩
    have HS := hidden (sameprop_any x y _ (DPr.keep hok (cell_below HB.out)) (DPr.keep hok2 (cell_below HB.out)))
    rw [hbd] at HS
    have HBD := hidden hbd
    clear hc hc2 hok hok2 hbd
    cases b with
    | true =>
      have HN := hidden (HNX.out (of_decide_eq_true HBD.out))
      clear HNX HDF
      go_wp2_with (go_at_call 31; (with_reducible refine (HS.out).mono ?_); rintro e w1 ⟨rfl, hb⟩; have HB2 := hidden (HB.out.trans (hb.mono HB.out.size)); clear hb)
      go_roundw
      case rel => exact ⟨j + 1, by omega, by go_num, HN.out, HBL.out.trans (HB2.out.mono HBL.out.size)⟩
      case measure => simp [intOf]; omega
    | false =>
      have HD := hidden (HDF.out (of_decide_eq_false HBD.out))
      clear HNX HDF
      go_wp2_with (go_at_call 31; (with_reducible refine (HS.out).mono ?_); rintro e w1 ⟨rfl, hb⟩; have HB2 := hidden (HB.out.trans (hb.mono HB.out.size)); clear hb)
      go_ret
      exact ⟨by rw [HD.out]; rfl, HBL.out.trans (HB2.out.mono HBL.out.size)⟩

/-- A notification's four cells, its slices. -/
structure Nt where
  p : Int
  sp : Option Addr
  sn : Nat
  sc : Nat
  s : List Int
  t : Int
  dp : Option Addr
  dn : Nat
  dc : Nat
  d : List Int

set_option maxHeartbeats 1600000 in
set_option maxRecDepth 100000 in
theorem samenote_any (x y : Nt) (w : World) (hs : Byt w x.sp x.sn x.sc x.s) (hd : Byt w x.dp x.dn x.dc x.d) (ks : Byt w y.sp y.sn y.sc y.s) (kd : Byt w y.dp y.dn y.dc y.d) :
    Calls Tryd.prog 32 #[.agg #[.int .i64 x.p, .slice x.sp x.sn x.sc, .int .i64 x.t, .slice x.dp x.dn x.dc], .agg #[.int .i64 y.p, .slice y.sp y.sn y.sc, .int .i64 y.t, .slice y.dp y.dn y.dc]] w fun e w' => e = .returned (.bool (decide (x.p = y.p) && decide (x.t = y.t) && decide (x.s = y.s) && decide (x.d = y.d))) ∧ Below w.heap.size w w' := by
  obtain ⟨xp, xsp, xsn, xsc, xs, xt, xdp, xdn, xdc, xd⟩ := x
  obtain ⟨yp, ysp, ysn, ysc, ys, yt, ydp, ydn, ydc, yd⟩ := y
  simp only at hs hd ks kd ⊢
  obtain ⟨b3, hb3⟩ : ∃ b, decide (xs = ys) = b := ⟨_, rfl⟩
  obtain ⟨b4, hb4⟩ : ∃ b, decide (xd = yd) = b := ⟨_, rfl⟩
  have HS := hidden (fun W (hb : Below w.heap.size w W) => equal_any xsp ysp xsn xsc ysn ysc xs ys W (hs.below hb) (ks.below hb))
  have HT := hidden (fun W (hb : Below w.heap.size w W) => equal_any xdp ydp xdn xdc ydn ydc xd yd W (hd.below hb) (kd.below hb))
  rw [hb3] at HS
  rw [hb4] at HT
  rw [hb3, hb4]
  clear hs hd ks kd hb3 hb4
  have HB := hidden (below2 w (.cells #[.int .i64 xp, .slice xsp xsn xsc, .int .i64 xt, .slice xdp xdn xdc] 34) (.cells #[.int .i64 yp, .slice ysp ysn ysc, .int .i64 yt, .slice ydp ydn ydc] 34))
  by_cases h1 : xp = yp
  rotate_left
  · have e1 : (xp == yp) = false := by simpa using h1
    have hq : (decide (xp = yp) && decide (xt = yt) && b3 && b4) = false := by simp [h1]
    rw [hq]
    clear h1 hq
    go_enter Tryd.func32, Tryd.ntmps32
    go_wp2_with fail
    go_ret
    exact ⟨rfl, HB.out⟩
  subst h1
  have e1 : (xp == xp) = true := by simp
  by_cases h2 : xt = yt
  rotate_left
  · have e2 : (xt == yt) = false := by simpa using h2
    have hq : (decide (xp = xp) && decide (xt = yt) && b3 && b4) = false := by simp [h2]
    rw [hq]
    clear h2 hq
    go_enter Tryd.func32, Tryd.ntmps32
    go_wp2_with fail
    go_ret
    exact ⟨rfl, HB.out⟩
  subst h2
  have e2 : (xt == xt) = true := by simp
  cases b3 with
  | false =>
    rw [show (decide (xp = xp) && decide (xt = xt) && false && b4) = false by simp]
    go_enter Tryd.func32, Tryd.ntmps32
    go_wp2_with (go_at_call 20; (with_reducible refine (HS.out _ HB.out).mono ?_); rintro e w1 ⟨rfl, rfl⟩)
    go_ret
    exact ⟨rfl, HB.out⟩
  | true =>
    rw [show (decide (xp = xp) && decide (xt = xt) && true && b4) = b4 by simp]
    go_enter Tryd.func32, Tryd.ntmps32
    go_wp2_with (first
      | (go_at_call 20; (with_reducible refine (HS.out _ HB.out).mono ?_); rintro e w1 ⟨rfl, rfl⟩; clear HS)
      | (go_at_call 20; (with_reducible refine (HT.out _ HB.out).mono ?_); rintro e w1 ⟨rfl, rfl⟩; clear HT)
      | fail)
    go_ret
    exact ⟨rfl, HB.out⟩

/-- An element of a list of bytes: where its bytes lie. -/
structure Sb where
  p : Option Addr
  n : Nat
  c : Nat
  xs : List Int
def KSb : KindR Sb where
  e := 22
  k := 1
  cs x := [.slice x.p x.n x.c]
  len _ := rfl
  one x u hu := by
    simp at hu
    subst hu
    rfl
  pos := by decide
def DSb : ReadN Sb where
  ok w x := Byt w x.p x.n x.c x.xs
  keep h hk := h.keep hk

set_option maxHeartbeats 1600000 in
set_option maxRecDepth 100000 in
theorem eqsb_any (p q : Option Addr) (n c m d : Nat) (la lb : List Sb) (w : World) (h : RdG KSb DSb w p n c la) (k : RdG KSb DSb w q m d lb) :
    Calls Tryd.prog 33 #[.slice p n c, .slice q m d, .func (.func 20) #[] #[]] w fun e w' => e = .returned (.bool (decide (la.map Sb.xs = lb.map Sb.xs))) ∧ Below w.heap.size w w' := by
  have hn := h.le
  have hm := k.le
  have H := hidden h
  have K := hidden k
  have HL : Hid ((la.map Sb.xs).length = n) := hidden (by rw [List.length_map, h.len])
  have KL : Hid ((lb.map Sb.xs).length = m) := hidden (by rw [List.length_map, k.len])
  clear h k
  by_cases hnm : n = m
  rotate_left
  · have hne : ((n : Int) != (m : Int)) = true := by simp; omega
    have hd := decide_eq_false (differ_len HL.out KL.out hnm)
    go_enter Tryd.func33, Tryd.ntmps33
    go_wp2
    go_ret
    exact ⟨by rw [hd]; rfl, Below.refl _ _⟩
  subst hnm
  go_enter Tryd.func33, Tryd.ntmps33
  go_wp2_with fail
  go_loopw [17] (fun i wr => ∃ j : Nat, j ≤ n ∧ i = .int .i64 j ∧ (la.map Sb.xs).take j = (lb.map Sb.xs).take j ∧ Below w.heap.size w wr) (fun i _ => n - (intOf i).toNat)
  case atStart => exact ⟨0, by omega, rfl, by simp, Below.refl _ _⟩
  case round =>
    obtain ⟨j, hj, rfl, ht, hbel⟩ := hrel
    have HBL := hidden hbel
    have HT := hidden ht
    clear hbel ht
    by_cases hlt : ¬ j < n
    · obtain rfl : j = n := by omega
      have hd := decide_eq_true (take_whole HL.out KL.out HT.out)
      go_wp2
      go_ret
      exact ⟨by rw [hd]; rfl, HBL.out⟩
    replace hlt : j < n := by omega
    have hlt' : (j : Int) < n := by omega
    have hja : j < la.length := by rw [H.out.len]; exact hlt
    have hjb : j < lb.length := by rw [K.out.len]; exact hlt
    obtain ⟨g, rfl, hc, hok⟩ := (H.out.below HBL.out).cell j hja
    obtain ⟨g2, rfl, hc2, hok2⟩ := (K.out.below HBL.out).cell j hjb
    obtain ⟨x, hx⟩ : ∃ x, la[j] = x := ⟨_, rfl⟩
    obtain ⟨y, hy⟩ : ∃ y, lb[j] = y := ⟨_, rfl⟩
    have hja' : j < (la.map Sb.xs).length := by rw [List.length_map]; exact hja
    have hjb' : j < (lb.map Sb.xs).length := by rw [List.length_map]; exact hjb
    have HNX := hidden (fun (e : x.xs = y.xs) => take_next hja' hjb' HT.out (by rw [List.getElem_map, List.getElem_map, hx, hy, e]))
    have HDF := hidden (fun (e : x.xs ≠ y.xs) => decide_eq_false (differ_at hja' hjb' (by rw [List.getElem_map, List.getElem_map, hx, hy]; exact e)))
    rw [hx] at hc hok
    rw [hy] at hc2 hok2
    clear hx hy hja hjb hja' hjb' HT
    have c0 := hc 0 _ rfl
    have d0 := hc2 0 _ rfl
    simp only [KSb, Nat.add_zero, Nat.mul_one] at c0 d0
    obtain ⟨b, hbd⟩ : ∃ b, decide (x.xs = y.xs) = b := ⟨_, rfl⟩
    have HS := hidden (equal_any x.p y.p x.n x.c y.n y.c x.xs y.xs wr hok hok2)
    rw [hbd] at HS
    have HBD := hidden hbd
    clear hc hc2 hok hok2 hbd
    cases b with
    | true =>
      have HN := hidden (HNX.out (of_decide_eq_true HBD.out))
      clear HNX HDF
      go_wp2_with (go_at_call 20; (with_reducible refine (HS.out).mono ?_); rintro e w1 ⟨rfl, rfl⟩)
      go_roundw
      case rel => exact ⟨j + 1, by omega, by go_num, HN.out, HBL.out⟩
      case measure => simp [intOf]; omega
    | false =>
      have HD := hidden (HDF.out (of_decide_eq_false HBD.out))
      clear HNX HDF
      go_wp2_with (go_at_call 20; (with_reducible refine (HS.out).mono ?_); rintro e w1 ⟨rfl, rfl⟩)
      go_ret
      exact ⟨by rw [HD.out]; rfl, HBL.out⟩
end Go.Proofs.YtmjagbghgbemaaaDoor
