/-
  The law's own draw of a chain of certificates.
-/
import Derived.Test.YtkniifopfgeopaaDoorHZ9
namespace Go.Proofs.YtkniifopfgeopaaDoor
open Go.RowKit
set_option linter.unusedVariables false

theorem wpList_store_part {P : Program} {ops : Array Oper} {rest : List Oper} {o : Oper} {a : Act} {w : World} {Q : Exit → Act → World → Prop} (hgd : o.guard = none) (ty : TypeId) (x y : Operand) (ho : o.op = .store ty x y)
    (g k : Nat) (cells new : Array Value) (hx : a.eval x = .pointer (some ⟨g, k, none⟩)) (hy : a.eval y = .agg cells)
    (t : TypeId) (old : Array Value) (hg : w.heap[g]? = some (.cells old t (0, 0))) (hi : (P.info? ty).map (·.size) = some cells.size)
    (hold : k + cells.size ≤ old.size) (h1 : cells.all (·.oneCell') = true) (hn : (patch old.toList cells.toList k).toArray = new) (h : wpList P ops Q rest (a.put o.dst undef) (w.setRow g new)) : wpList P ops Q (o :: rest) a w :=
  wpList_plain hgd fun K hK => by
    unfold Oper.wp
    rw [fl_store ty x y ho g k cells new hx hy t old hg hi hold h1 hn]
    exact hK _ _ h
theorem ctok_new (s : ByteArray) (o : Nat) (f t : Int) (a : Bool) (p : Option Addr) (n c : Nat) (g : List Int) (hn : NameOk s) (h1 : 1 ≤ o) (h2 : o < gq) (hf : 0 ≤ f ∧ f < 10) (ht : 20 ≤ t ∧ t < 80) : CtOk ⟨s, pubV o, f, t, a, p, n, c, g⟩ :=
  ⟨hn, Nat.lt_trans (pubV_lt o) gp_big, by show gel (pubV o) = true; unfold pubV; rw [if_pos (gsec_yes o ⟨h1, h2⟩)]; exact gel_secret o h1 h2, hf.1, by show f ≤ t; omega, by show t ≤ _; omega⟩
/-- What the loop keeps. -/
structure DrI (W w U : World) (k g n m : Nat) (A sk : Nat) (L : List Ct) : Prop where
  cod : Cod W U k
  gr : w.grownBy U (some k)
  row : RwE U g L
  len : L.length = n
  bod : ∀ x ∈ L, Bod U w.heap.size x.p x.n x.c x.g
  sig : ∀ j, m ≤ j → SigAt A L j
  s1 : 1 ≤ sk
  s2 : sk < gq
  key : pubV sk = keyAt A L m
theorem DrI.grown {W w U U' : World} {k g n m A sk : Nat} {L : List Ct} (h : DrI W w U k g n m A sk L) (hk : k < w.heap.size) (hgw : w.heap.size ≤ g) (hc : Cod W U' k) (hg : U.grownBy U' (some k)) : DrI W w U' k g n m A sk L :=
  ⟨hc, grown_trans h.gr hg, h.row.grown hg (by simp; omega), h.len, fun x hx => (h.bod x hx).grown hg (OffB.low hk), h.sig, h.s1, h.s2, h.key⟩
theorem DrI.below {W w U U' : World} {k g n m A sk : Nat} {L : List Ct} (h : DrI W w U k g n m A sk L) (hb : Below U.heap.size U U') : DrI W w U' k g n m A sk L :=
  ⟨h.cod.below hb, grown_trans h.gr (grown_of_below hb _), h.row.below hb, h.len, fun x hx => (h.bod x hx).below hb, h.sig, h.s1, h.s2, h.key⟩
theorem DrI.put {W w U : World} {k g n j A sk : Nat} {L : List Ct} (h : DrI W w U k g n (j + 1) A sk L) (hj : j < n) (hk : k < w.heap.size) (hbs : W.heap.size ≤ w.heap.size) (hgw : w.heap.size ≤ g) (y : Ct) (hy : CtG y) (ha : 0 < j → y.a = true)
    (hv : verE (keyAt A L (j + 1)) (bdL y) y.g = 0) (hb : Bod U w.heap.size y.p y.n y.c y.g) (o : Nat) (ho1 : 1 ≤ o) (ho2 : o < gq) (hok : pubV o = y.k) : DrI W w (U.setRow g (KCt.row (L.set j y)).toArray) k g n j A o (L.set j y) := by
  have hl := h.len
  have hg1 := row_grown1 U g (KCt.row (L.set j y)).toArray
  refine ⟨h.cod.grown hg1 (by simp; omega) (fun r e => by cases e; omega), row_grown h.gr g _ hgw, ⟨setRow_heap U g _ _ _ _ h.row.heap⟩, by rw [List.length_set]; exact hl, fun x hx => ?_, sigAt_set A L j (by omega) y h.sig ⟨hy, ha, hv⟩, ho1, ho2, by rw [keyAt_set A L j (by omega) y]; exact hok⟩
  rcases List.mem_or_eq_of_mem_set hx with h1 | rfl
  · exact (h.bod x h1).grown hg1 h.row.off
  · exact hb.grown hg1 h.row.off
/-- What draw returns. -/
def Drawn (W w : World) (k : Nat) (e : Ending) (w' : World) : Prop :=
  ∃ (a n g : Nat) (L : List Ct), e = .returned (.tuple #[.int .u64 (a : Int), .slice (some ⟨g, 0, none⟩) n n]) ∧ 1 ≤ a ∧ a < gq ∧ 1 ≤ n ∧ n ≤ 3 ∧ L.length = n ∧ w.heap.size ≤ g ∧ RwE w' g L ∧ (∀ x ∈ L, Bod w' w.heap.size x.p x.n x.c x.g) ∧ (∀ j, SigAt (pubV a) L j) ∧ Cod W w' k ∧ w.grownBy w' (some k)

set_option maxHeartbeats 3200000 in
set_option maxRecDepth 100000 in
theorem draw_any (W w : World) (k : Nat) (h : Cod W w k) : Calls Tryd.prog 6 #[.pointer (some ⟨k, 0, none⟩)] w (Drawn W w k) := by
  have HS := hidden (secret_any W w k h)
  have hk := h.lt
  have hbs := h.bel.size
  clear h
  go_enter Tryd.func6, Tryd.ntmps6
  go_upto_region 2 with (first
    | (go_at_call 27; (with_reducible refine (HS.out).mono ?_); rintro e w1 ⟨⟨a, rfl, ha1, ha2⟩, hc1, hg1⟩)
    | fail)
  have HN := hidden (next_any W w1 k hc1 3 (by omega))
  have HG1 := hidden hg1
  have HA1 := hidden ha1
  have HA2 := hidden ha2
  clear hc1 hg1 ha1 ha2 HS
  go_upto_region 3 with (first
    | (go_at_call 28; (with_reducible refine (HN.out).mono ?_); rintro e w2 ⟨r, rfl, hr0, hr1, hc2, hg2⟩)
    | fail)
  obtain ⟨r, rfl⟩ := Int.eq_ofNat_of_zero_le hr0
  have HG2 := hidden (grown_trans HG1.out hg2)
  have HC2 := hidden hc2
  have hmk := mk_row (r + 1) (by omega)
  have ecast : (1 : Int) + (r : Int) = ((r + 1 : Nat) : Int) := by omega
  obtain ⟨n, hn⟩ : ∃ n, n = r + 1 := ⟨_, rfl⟩
  rw [← hn] at hmk ecast
  have hn1 : 1 ≤ n ∧ n ≤ 3 := by omega
  rw [ecast]
  clear hc2 hg2 hr0 hr1 hn ecast HN HG1
  go_upto_region 5 with fail
  generalize hw3 : w2.alloc (.cells _ 37) = w3
  have hro : RwE w3 w2.heap.size (List.replicate n zc) := by rw [← hw3]; exact ⟨heap_alloc_new w2 _⟩
  have hco : Cod W w3 k := by rw [← hw3]; exact HC2.out.alloc _
  have hgo : w.grownBy w3 (some k) := by rw [← hw3]; exact grown_alloc_new HG2.out _
  have hgw : w.heap.size ≤ w2.heap.size := HG2.out.size
  obtain ⟨g, hg⟩ : ∃ g, w2.heap.size = g := ⟨_, rfl⟩
  rw [hg] at hro hgw
  have hz0 : ∀ x ∈ List.replicate n zc, Bod w3 w.heap.size x.p x.n x.c x.g := fun x hx => (by rw [List.eq_of_mem_replicate hx]; exact Bod.nil _ _ _ _ (Nat.zero_le _))
  have hz1 : ∀ j, n ≤ j → SigAt (pubV a) (List.replicate n zc) j := fun j hj x hx => (by rw [List.getElem?_eq_none (by simp; omega)] at hx; cases hx)
  have HI0 : Hid (DrI W w w3 k g n n (pubV a) a (List.replicate n zc)) := hidden ⟨hco, hgo, hro, by simp, hz0, hz1, HA1.out, HA2.out, (keyAt_end _ _ _ (by simp)).symm⟩
  have HGW := hidden hgw
  simp only [hg]
  clear hw3 hro hco hgo hgw hmk hg HG2 HC2 hz0 hz1
  obtain ⟨N, hN⟩ : ∃ N : Int, (n : Int) - 1 = N := ⟨_, rfl⟩
  go_wp2
  go_loopw [7, 8] (fun s i wr => ∃ (m sk : Nat) (L : List Ct), m ≤ n ∧ i = .int .i64 ((m : Int) - 1) ∧ s = .int .u64 (sk : Int) ∧ DrI W w wr k g n m (pubV a) sk L) (fun _ i _ => (intOf i + 1).toNat)
  case atStart => exact ⟨n, a, _, by omega, by rw [hN], rfl, HI0.out⟩
  case round =>
    clear HI0 hN
    obtain ⟨m, sk, L, hm, rfl, rfl, hI⟩ := hrel
    have HI := hidden hI
    clear hI
    by_cases hm0 : 0 < m
    · obtain ⟨j, rfl⟩ : ∃ j, m = j + 1 := ⟨m - 1, by omega⟩
      have ec : (((j + 1 : Nat) : Int)) - 1 = (j : Int) := by omega
      rw [ec]
      have hjn : (j : Int) < (n : Int) := by omega
      have hj0 : (0 : Int) ≤ (j : Int) := by omega
      have HSC := hidden (secret_any W wr k HI.out.cod)
      go_upto_region 10 with (first
        | (go_at_call 27; (with_reducible refine (HSC.out).mono ?_); rintro e w4 ⟨⟨o, rfl, ho1, ho2⟩, hc4, hg4⟩; have HP4 := hidden (rpub_any o (Nat.lt_trans ho2 gq_big) w4); have hE4 : pubE o = 0 := (by unfold pubE; rw [if_pos (gsec_yes o ⟨ho1, ho2⟩)]); rw [hE4] at HP4; have HC4 := hidden hc4; have HG4 := hidden hg4; have HO1 := hidden ho1; have HO2 := hidden ho2; clear hc4 hg4 hE4 ho1 ho2 HSC)
        | (go_at_call 7; (with_reducible refine (HP4.out).mono ?_); rintro e w5 ⟨rfl, hb5⟩; have HB5 := hidden hb5; clear hb5)
        | fail)
      by_cases hpos : 0 < j
      · have hp1 : (0 : Int) < (j : Int) := by omega
        have HD5 := hidden ((HI.out.grown hk HGW.out HC4.out HG4.out).below HB5.out)
        have HCE := hidden (cert_any W w5 k HD5.out.cod ((pubV o : Nat) : Int) true)
        have HSZ : Hid (j * 6 + 6 ≤ (KCt.row L).toArray.size) := by
          have h8 := HD5.out.len
          rw [List.size_toArray, KCt.row_len, h8]
          exact hidden (show j * 6 + 6 ≤ n * 6 by omega)
        clear HC4 HG4 HB5 HI
        go_upto_region 11 with (first
          | (go_at_call 29; (with_reducible refine (HCE.out).mono ?_); rintro e w6 ⟨s, f, t, rfl, hnm, hf, ht, hc6, hg6⟩; have HD6 := hidden (HD5.out.grown hk HGW.out hc6 hg6); have HCX : Hid (CtOk ⟨s, pubV o, f, t, true, none, 0, 0, []⟩) := hidden (ctok_new s o f t true none 0 0 [] hnm HO1.out HO2.out hf ht); have HNM := hidden hnm; have HF := hidden hf; have HT := hidden ht; have HIS := hidden (rissue_ok ⟨s, pubV o, f, t, true, none, 0, 0, []⟩ HCX.out sk HD6.out.s1 HD6.out.s2 w6); clear hnm hf ht hc6 hg6 HCE HD5)
          | (go_at_call 21; (with_reducible refine (HIS.out).mono ?_); rintro e w7 ⟨p7, n7, c7, rfl, hb7, hw7⟩; have HD7 := hidden (HD6.out.below hw7); have HY7 := hidden (hb7.mono HD6.out.gr.size); clear hb7 hw7 HIS HD6)
          | (refine wpList_store_part rfl 37 _ _ rfl g (j * 6) #[.string s, .int .u64 ((pubV o : Nat) : Int), .int .i64 f, .int .i64 t, .bool true, .slice p7 n7 c7] (KCt.row (L.set j ⟨s, pubV o, f, t, true, p7, n7, c7, sigL sk (bdL ⟨s, pubV o, f, t, true, none, 0, 0, []⟩)⟩)).toArray rfl rfl 37 _ HD7.out.row.heap infoC6 HSZ.out (by kernel_rfl) (congrArg List.toArray (row_patch L j (by rw [HD7.out.len]; omega) ⟨s, pubV o, f, t, true, p7, n7, c7, sigL sk (bdL ⟨s, pubV o, f, t, true, none, 0, 0, []⟩)⟩)) ?_)
          | fail)
        have HPUT := hidden (HD7.out.put (by omega) hk hbs HGW.out ⟨s, pubV o, f, t, true, p7, n7, c7, sigL sk (bdL ⟨s, pubV o, f, t, true, none, 0, 0, []⟩)⟩ ⟨ctok_new s o f t true p7 n7 c7 _ HNM.out HO1.out HO2.out HF.out HT.out, HF.out, HT.out, sigL_len sk (gsec_yes sk ⟨HD7.out.s1, HD7.out.s2⟩) _⟩ (by intro h9; first | rfl | exact absurd h9 hpos) (by rw [← HD7.out.key]; exact ver_sign sk HD7.out.s1 HD7.out.s2 _) HY7.out o HO1.out HO2.out rfl)
        generalize World.setRow w7 g _ = w8 at *
        generalize L.set j _ = L8 at *
        clear HY7 HD7
        go_wp2
        go_roundw
        case rel => exact ⟨j, o, L8, by omega, by go_num, rfl, HPUT.out⟩
        case measure => simp [intOf] <;> omega
      · have hp1 : ¬ (0 : Int) < (j : Int) := by omega
        have HDP := hidden ((HI.out.grown hk HGW.out HC4.out HG4.out).below HB5.out)
        have HNX := hidden (next_any W w5 k HDP.out.cod 4 (by omega))
        have HSZ : Hid (j * 6 + 6 ≤ (KCt.row L).toArray.size) := by
          have h8 := HDP.out.len
          rw [List.size_toArray, KCt.row_len, h8]
          exact hidden (show j * 6 + 6 ≤ n * 6 by omega)
        clear HC4 HG4 HB5 HI
        go_upto_region 11 with (first
          | (go_at_call 28; (with_reducible refine (HNX.out).mono ?_); rintro e w5b ⟨r4, rfl, h40, h41, hc5, hg5⟩; have HD5 := hidden (HDP.out.grown hk HGW.out hc5 hg5); have HCE := hidden (cert_any W w5b k HD5.out.cod ((pubV o : Nat) : Int) (r4 == 3)); clear h40 h41 hc5 hg5 HNX HDP)
          | (go_at_call 29; (with_reducible refine (HCE.out).mono ?_); rintro e w6 ⟨s, f, t, rfl, hnm, hf, ht, hc6, hg6⟩; have HD6 := hidden (HD5.out.grown hk HGW.out hc6 hg6); have HCX : Hid (CtOk ⟨s, pubV o, f, t, (r4 == 3), none, 0, 0, []⟩) := hidden (ctok_new s o f t (r4 == 3) none 0 0 [] hnm HO1.out HO2.out hf ht); have HNM := hidden hnm; have HF := hidden hf; have HT := hidden ht; have HIS := hidden (rissue_ok ⟨s, pubV o, f, t, (r4 == 3), none, 0, 0, []⟩ HCX.out sk HD6.out.s1 HD6.out.s2 w6); clear hnm hf ht hc6 hg6 HCE HD5)
          | (go_at_call 21; (with_reducible refine (HIS.out).mono ?_); rintro e w7 ⟨p7, n7, c7, rfl, hb7, hw7⟩; have HD7 := hidden (HD6.out.below hw7); have HY7 := hidden (hb7.mono HD6.out.gr.size); clear hb7 hw7 HIS HD6)
          | (refine wpList_store_part rfl 37 _ _ rfl g (j * 6) #[.string s, .int .u64 ((pubV o : Nat) : Int), .int .i64 f, .int .i64 t, .bool (r4 == 3), .slice p7 n7 c7] (KCt.row (L.set j ⟨s, pubV o, f, t, (r4 == 3), p7, n7, c7, sigL sk (bdL ⟨s, pubV o, f, t, (r4 == 3), none, 0, 0, []⟩)⟩)).toArray rfl rfl 37 _ HD7.out.row.heap infoC6 HSZ.out (by kernel_rfl) (congrArg List.toArray (row_patch L j (by rw [HD7.out.len]; omega) ⟨s, pubV o, f, t, (r4 == 3), p7, n7, c7, sigL sk (bdL ⟨s, pubV o, f, t, (r4 == 3), none, 0, 0, []⟩)⟩)) ?_)
          | fail)
        have HPUT := hidden (HD7.out.put (by omega) hk hbs HGW.out ⟨s, pubV o, f, t, (r4 == 3), p7, n7, c7, sigL sk (bdL ⟨s, pubV o, f, t, (r4 == 3), none, 0, 0, []⟩)⟩ ⟨ctok_new s o f t (r4 == 3) p7 n7 c7 _ HNM.out HO1.out HO2.out HF.out HT.out, HF.out, HT.out, sigL_len sk (gsec_yes sk ⟨HD7.out.s1, HD7.out.s2⟩) _⟩ (by intro h9; first | rfl | exact absurd h9 hpos) (by rw [← HD7.out.key]; exact ver_sign sk HD7.out.s1 HD7.out.s2 _) HY7.out o HO1.out HO2.out rfl)
        generalize World.setRow w7 g _ = w8 at *
        generalize L.set j _ = L8 at *
        clear HY7 HD7
        go_wp2
        go_roundw
        case rel => exact ⟨j, o, L8, by omega, by go_num, rfl, HPUT.out⟩
        case measure => simp [intOf] <;> omega
    · have hm00 : m = 0 := by omega
      subst hm00
      have hng : ¬ (0 : Int) ≤ ((0 : Nat) : Int) - 1 := by omega
      have hng2 : ¬ (0 : Int) ≤ (-1 : Int) := by omega
      clear hm hm0
      go_wp2
      go_ret2
      exact ⟨a, n, g, L, rfl, HA1.out, HA2.out, hn1.1, hn1.2, HI.out.len, HGW.out, HI.out.row, HI.out.bod, fun j => HI.out.sig j (Nat.zero_le _), HI.out.cod, HI.out.gr⟩
end Go.Proofs.YtkniifopfgeopaaDoor
