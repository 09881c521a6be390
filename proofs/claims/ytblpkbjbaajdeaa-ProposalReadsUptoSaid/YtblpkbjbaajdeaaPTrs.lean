/-
  What package proposal reads of transforms one behind the other, or throws.
-/
import Derived.Test.YtblpkbjbaajdeaaPTr
namespace Go.Proofs.Ytblpkbjbaajdeaa
open Go.RowKit
set_option linter.unusedVariables false

theorem secV_cases (more : Int) (ys : List Int) :
    (ys.length < 4 ∧ secV more ys = none) ∨ (4 ≤ ys.length ∧ (w2 ys 2 < 4 ∨ (ys.length : Int) < w2 ys 2) ∧ secV more ys = none)
    ∨ (4 ≤ ys.length ∧ ¬ (w2 ys 2 < 4 ∨ (ys.length : Int) < w2 ys 2) ∧ ys.getD 0 0 ≠ (if (ys.length : Int) = w2 ys 2 then 0 else more) ∧ secV more ys = none)
    ∨ (4 ≤ ys.length ∧ ¬ (w2 ys 2 < 4 ∨ (ys.length : Int) < w2 ys 2) ∧ ys.getD 0 0 = (if (ys.length : Int) = w2 ys 2 then 0 else more) ∧ secV more ys = some ((ys.take (w2 ys 2).toNat).drop 4, (w2 ys 2).toNat)) := by
  unfold secV
  by_cases h1 : ys.length < 4
  · exact Or.inl ⟨h1, if_pos h1⟩
  by_cases h2 : w2 ys 2 < 4 ∨ (ys.length : Int) < w2 ys 2
  · exact Or.inr (Or.inl ⟨by omega, h2, by rw [if_neg h1, if_pos h2]⟩)
  by_cases h3 : ys.getD 0 0 ≠ (if (ys.length : Int) = w2 ys 2 then 0 else more)
  · exact Or.inr (Or.inr (Or.inl ⟨by omega, h2, h3, by rw [if_neg h1, if_neg h2, if_pos h3]⟩))
  · exact Or.inr (Or.inr (Or.inr ⟨by omega, h2, Decidable.not_not.1 h3, by rw [if_neg h1, if_neg h2, if_neg h3]⟩))
/-- What a section's inside is. -/
structure InS (more : Int) (ys zs : List Int) (L : Nat) : Prop where
  l : w2 ys 2 = L
  len : zs.length + 4 = L
  le : L ≤ ys.length
  x0 : ys.getD 0 0 = (if (ys.length : Int) = L then 0 else more)
  zs : zs = (ys.take L).drop 4
theorem secV_in {more : Int} {ys zs : List Int} {L : Nat} (h : secV more ys = some (zs, L)) : InS more ys zs L := by
  rcases secV_cases more ys with ⟨_, h1⟩ | ⟨_, _, h1⟩ | ⟨_, _, _, h1⟩ | ⟨h2, h3, h4, h1⟩
  · rw [h1] at h; cases h
  · rw [h1] at h; cases h
  · rw [h1] at h; cases h
  rw [h1] at h
  simp only [Option.some.injEq, Prod.mk.injEq] at h
  obtain ⟨h5, h6⟩ := h
  have h7 : w2 ys 2 = L := by omega
  have h8 : zs.length + 4 = L := by rw [← h5, List.length_drop, List.length_take]; omega
  rw [h7] at h4
  exact ⟨h7, h8, by omega, h4, by rw [← h5, h6]⟩
theorem secV_len {more : Int} {ys zs : List Int} {L : Nat} (h : secV more ys = some (zs, L)) : zs.length + 4 = L ∧ L ≤ ys.length := ⟨(secV_in h).len, (secV_in h).le⟩
theorem getD_inside (ys : List Int) (L a : Nat) (h : 4 + a < L) : ((ys.take L).drop 4).getD a 0 = ys.getD (4 + a) 0 := by
  rw [getD_dropP, List.getD_eq_getElem?_getD, List.getD_eq_getElem?_getD, List.getElem?_take_of_lt h]
theorem w2_inside (ys : List Int) (L a : Nat) (h : 4 + a + 1 < L) : w2 ((ys.take L).drop 4) a = w2 ys (4 + a) := by
  rw [w2, getD_inside _ _ _ (by omega), getD_inside _ _ _ (by omega), w2, Nat.add_assoc]
theorem trV_attr (zs : List Int) (h : 4 ≤ zs.length) : trV zs = if (attrV (zs.drop 4)).2 = false then none else some ⟨zs.getD 0 0, w2 zs 2, (attrV (zs.drop 4)).1⟩ := by
  have h3 : ¬ zs.length < 4 := by omega
  have hl : (zs.drop 4).length = zs.length - 4 := by simp
  by_cases h4 : zs.length = 4
  · have ha : attrV (zs.drop 4) = (0, true) := by rw [attrV, if_pos (by omega)]
    rw [ha, trV, if_neg h3, if_pos h4]
    rfl
  have h5 : ¬ (zs.drop 4).length = 0 := by omega
  by_cases h8 : zs.length ≠ 8 ∨ w2 zs 4 ≠ 32782 ∨ w2 zs 6 = 0
  · have ha : attrV (zs.drop 4) = (0, false) := by rw [attrV, if_neg h5, if_pos]; rw [w2_dropP, w2_dropP, hl]; simp only [Nat.add_zero, Nat.reduceAdd]; omega
    rw [ha, trV, if_neg h3, if_neg h4, if_pos h8]
    rfl
  · have ha : attrV (zs.drop 4) = (w2 zs 6, true) := by rw [attrV, if_neg h5, if_neg, w2_dropP]; rw [w2_dropP, w2_dropP, hl]; simp only [Nat.add_zero, Nat.reduceAdd]; omega
    rw [ha, trV, if_neg h3, if_neg h4, if_neg h8]
    rfl
/-- One step of the reader of transforms, by sections. -/
theorem trs_sec (ys : List Int) (h : ys.length ≠ 0) : trsV ys = match secV 3 ys with
  | none => none
  | some x => match trV x.1 with
    | none => none
    | some t => (trsV (ys.drop x.2)).map (t :: ·) := by
  rw [trsV_step ys h]
  rcases hs : secV 3 ys with _ | ⟨zs, L⟩
  · simp only
    by_cases h8 : ys.length < 8
    · rw [if_pos h8]
    rw [if_neg h8]
    by_cases h9 : w2 ys 2 < 8 ∨ (ys.length : Int) < w2 ys 2
    · rw [if_pos h9]
    rw [if_neg h9]
    rcases secV_cases 3 ys with ⟨h2, h1⟩ | ⟨_, h2, h1⟩ | ⟨_, _, h2, h1⟩ | ⟨h2, h3, h4, h1⟩
    · omega
    · omega
    · rw [if_pos (Or.inl h2)]
    · rw [h1] at hs; cases hs
  · have hi := secV_in hs
    have h1 := hi.len
    have h2 := hi.le
    simp only
    by_cases hz : zs.length < 4
    · have ht : trV zs = none := by unfold trV; rw [if_pos hz]
      rw [ht]
      simp only
      by_cases h8 : ys.length < 8
      · rw [if_pos h8]
      · rw [if_neg h8, hi.l, if_pos (by omega)]
    · have e0 : ¬ (ys.getD 0 0 ≠ if (ys.length : Int) = L then 0 else 3) := Decidable.not_not.2 hi.x0
      have e1 : (ys.drop 8).take (L - 8) = zs.drop 4 := by
        rw [hi.zs, List.drop_drop, List.drop_take]
      have e2 : zs.getD 0 0 = ys.getD 4 0 := by rw [hi.zs, getD_inside _ _ _ (by omega)]
      have e3 : w2 zs 2 = w2 ys 6 := by rw [hi.zs, w2_inside _ _ _ (by omega)]
      rw [if_neg (by omega), hi.l, if_neg (by omega), Int.toNat_natCast, trV_attr zs (by omega), e1, e2, e3]
      by_cases ha : (attrV (zs.drop 4)).2 = false
      · rw [if_pos (Or.inr ha), if_pos ha]
      · rw [if_neg (fun h => h.elim e0 ha), if_neg ha]

/-- What transforms returns. -/
def GotTs (w : World) (k : Nat) (r : Option (List Tr)) (e : Ending) (w' : World) : Prop :=
  w.grownBy w' (some k) ∧ match r with
  | none => Thrown e
  | some l => ∃ v, e = .returned v ∧ RowG KTr NTr w' w.heap.size v l
theorem gotts_none {w : World} {k : Nat} {r : Option (List Tr)} {e : Ending} {w' : World} (hg : w.grownBy w' (some k)) (hr : r = none) (ht : Thrown e) : GotTs w k r e w' := by
  subst hr
  exact ⟨hg, ht⟩
theorem grown_own4 {a b c : World} {row row' : Option Nat} (h : a.grownBy b row) (k : b.grownBy c row') (hR : ∀ r, row' = some r → a.heap.size ≤ r) : a.grownBy c row :=
  ⟨k.os.trans h.os, k.tape.trans h.tape, k.output.trans h.output, Nat.le_trans h.size k.size, fun i hi hne => (k.block i (Nat.lt_of_lt_of_le hi h.size) (fun e => by have := hR i e.symm; omega)).trans (h.block i hi hne)⟩
theorem map_none_app {α : Type} (l : List α) (o : Option (List α)) (r : Option (List α)) (h : o.map (l ++ ·) = r) (ho : o = none) : r = none := by
  subst ho
  exact h.symm

set_option maxHeartbeats 1600000 in
set_option maxRecDepth 100000 in
theorem ptransforms_any (p : Option Addr) (n c : Nat) (xs : List Int) (w : World) (k a : Nat) (h : PS w k p n c xs a) (hn : n ≤ 1048576) (r : Option (List Tr)) (hr : trsV (xs.drop a) = r) :
    Calls Try.prog 67 #[.pointer (some ⟨k, 0, none⟩)] w (GotTs w k r) := by
  have HR := hidden hr
  have HL := hidden h.here.len
  have HRG := hidden h.here.rng
  have HP := hidden h
  have HK := hidden h.lt
  clear hr h
  go_enter Try.func67, Try.ntmps67
  go_wp2_with fail
  go_loopw [3] (fun o wr => ∃ (at_ : Nat) (l : List Tr), at_ ≤ n ∧ l.length ≤ at_ ∧ (trsV (xs.drop at_)).map (l ++ ·) = r ∧ RowG KTr NTr wr w.heap.size o l ∧ PS wr k p n c xs at_ ∧ w.grownBy wr (some k)) (fun _ wr => n - (intOf ((wr.cell? ⟨k, 1, none⟩).getD (.int .i64 0))).toNat)
  case atStart => exact ⟨a, [], HP.out.le, by simp, by rw [HR.out]; simp, RowG.nil _ _ _ _, HP.out, grown_refl _ _⟩
  case round =>
    obtain ⟨at_, l, hat, hl8, hres, hrow, hps, hgr⟩ := hrel
    obtain ⟨po, co, rfl⟩ := hrow.form rfl
    have HRW := hidden hrow
    have HPS := hidden hps
    have HGR := hidden hgr
    have hmeas : (intOf ((wr.cell? ⟨k, 1, none⟩).getD (.int .i64 0))).toNat = at_ := by rw [hps.cu.c1]; simp [intOf]
    have HMS := hidden hmeas
    clear hrow hps hgr hmeas
    obtain ⟨b, hb⟩ : ∃ b, b = decide (at_ < n) := ⟨_, rfl⟩
    have HB := hidden hb
    clear hb
    go_wp2_with fail
    go_at_call 50
    (with_reducible refine (pl p n c xs _ k at_ HPS.out b HB.out).mono ?_)
    rintro e w1 ⟨rfl, hb1, hps1⟩
    by_cases hlt : ¬ at_ < n
    · obtain rfl : b = false := by rw [HB.out]; simpa using hlt
      have hz : (xs.drop at_).length = 0 := by simp [HL.out]; omega
      rw [trsV_nil _ hz] at hres
      simp at hres
      subst hres
      have HB1 := hidden hb1
      clear HR hb1
      go_wp2_with fail
      go_ret
      exact ⟨grown_trans HGR.out (grown_of_below HB1.out _), _, rfl, HRW.out.below HB1.out⟩
    · obtain rfl : b = true := by rw [HB.out]; simpa using hlt
      have hnz : (xs.drop at_).length ≠ 0 := by simp [HL.out]; omega
      have hst := trs_sec (xs.drop at_) hnz
      have HST := hidden hst
      have HRES := hidden hres
      have HP1 := hidden hps1
      have HB1 := hidden hb1
      clear hst hres hps1 hb1 hnz
      obtain ⟨sv, hsv⟩ : ∃ sv, secV 3 (xs.drop at_) = sv := ⟨_, rfl⟩
      have HSV := hidden hsv
      clear hsv
      go_wp2_with fail
      go_at_call 51
      (with_reducible refine (section_any 3 p n c xs _ k at_ HP1.out hn sv HSV.out).mono ?_)
      rintro e w2 ⟨hg2, hh⟩
      cases sv with
      | none =>
        subst hh
        refine ⟨rfl, gotts_none (grown_trans (grown_trans HGR.out (grown_of_below HB1.out _)) hg2) (map_none_app _ _ _ HRES.out ?_) rfl⟩
        rw [HST.out, HSV.out]
      | some x =>
        obtain ⟨zs, L⟩ := x
        obtain ⟨R, q, m, d, rfl, hR, hpi, hpo⟩ := hh
        simp only at hpi hpo
        have HG2 := hidden (grown_trans (grown_of_below HB1.out (some k)) hg2)
        have HPO := hidden hpo
        have HPI := hidden hpi
        have hR' : wr.heap.size ≤ R := Nat.le_trans HB1.out.size hR
        clear hg2 hpo hpi hR
        obtain ⟨tv, htv⟩ : ∃ tv, trV zs = tv := ⟨_, rfl⟩
        have HTV := hidden htv
        clear htv
        go_wp2_with fail
        go_at_call 73
        (with_reducible refine (transform_any q m d zs _ R HPI.out tv HTV.out).mono ?_)
        rintro e w3 ⟨hg3, hh⟩
        cases tv with
        | none =>
          subst hh
          refine ⟨rfl, gotts_none (grown_trans HGR.out (grown_new HG2.out hg3 hR')) (map_none_app _ _ _ HRES.out ?_) rfl⟩
          rw [HST.out, HSV.out]
          simp only
          rw [HTV.out]
        | some t =>
          obtain ⟨rfl, hint⟩ := hh
          have hg4 := grown_new HG2.out hg3 hR'
          have HRW4 := hidden (HRW.out.low hg4 HK.out)
          have HPO4 := hidden (HPO.out.off hg3 (fun r hr => by cases hr; have := HPO.out.lt; have := HPS.out.lt; omega))
          have HG4 := hidden (grown_trans HGR.out hg4)
          have HI := hidden hint
          have hlen := secV_len HSV.out
          rw [List.length_drop, HL.out] at hlen
          have hnext : (trsV (xs.drop (at_ + L))).map ((l ++ [t]) ++ ·) = r := by
            rw [← HRES.out, HST.out, HSV.out]
            simp only
            rw [HTV.out]
            simp only [Option.map_map, List.drop_drop]
            congr 1
            funext z
            simp
          have HNX := hidden hnext
          clear hg3 hg4 hint hnext HRES HST HRW HPS HGR HPO HG2 HP1 HB1 HPI
          go_wp2_with (at_builtin; go_loud (refine wpList_append_g knownTr (by simp [NTr]) _ rfl _ _ rfl w.heap.size _ l rfl (HRW4.out.alloc _) _ 1 1 [t] rfl (srcTr w3 t.t t.i t.k _) (fun x hx => by rw [List.mem_singleton.1 hx]; exact HI.out) ?b1 ?b2 ?b3 ?_))
          case b1 => unfold maxLen; omega
          case b2 => omega
          case b3 => have := HG4.out.size; simp; omega
          intro v4 w4 hrow4 hg4
          have hk4 : ∀ r, (Value.slice po l.length co).ownBlock = some r → w.heap.size ≤ r := fun r hr => (HRW4.out.lt r hr).1
          have HRW5 := hidden hrow4
          have HPS5 := hidden ((HPO4.out.below ((Below.refl _ _).alloc (Nat.le_refl _) _)).off hg4 (fun r hr => by have := hk4 r hr; have := HK.out; omega))
          have HG5 := hidden (grown_own4 (grown_alloc_new HG4.out _) hg4 hk4)
          clear hrow4 hg4 HRW4 HPO4 HG4 hk4
          go_wp2_with fail
          go_roundw
          case rel => exact ⟨at_ + L, l ++ [t], by omega, by simp; omega, HNX.out, HRW5.out, HPS5.out, HG5.out⟩
          case measure =>
            rw [HMS.out, HPS5.out.cu.c1]
            simp [intOf]
            omega
end Go.Proofs.Ytblpkbjbaajdeaa
