/-
  The notifications of a type (message.Notes): a list that is empty just if there is none.
-/
import Derived.Test.YtnnbfhjbaagnkaaQMsgNote
namespace Go.Proofs.Ytnnbfhjbaagnkaa
open Go.RowKit
set_option linter.unusedVariables false

/-- A notification in a row. -/
structure Ntf where
  np : Int
  s : Sv
  nt : Int
  d : Sv
def KNt : KindR Ntf where
  e := 44
  k := 4
  cs x := [.int .i64 x.np, .slice x.s.p x.s.n x.s.c, .int .i64 x.nt, .slice x.d.p x.d.n x.d.c]
  len _ := rfl
  one x u hu := by
    simp at hu
    rcases hu with rfl | rfl | rfl | rfl <;> rfl
  pos := by decide
def NNt : NestR Ntf where
  ts := []
  ok _ _ _ := True
  keep _ _ _ := trivial
  mono _ _ := trivial
theorem Try.infoNt : (Try.prog.info? 44).map (fun i => (i.zero, i.size, i.bytes)) = some (some (.agg #[.int .i64 0, .slice none 0 0, .int .i64 0, .slice none 0 0]), 4, 64) := by kernel_rfl
theorem knownNt : KnownR Try.prog KNt 86 64 := by
  refine ⟨Try.underlying86, ?_⟩
  obtain ⟨i0, hi, hz0, hz1, hz2⟩ := info_parts Try.infoNt
  exact ⟨i0, _, hi, hz0, hz1, hz2, rfl⟩
theorem srcNt (w : World) (x : Ntf) (T : TypeId) : SrcG KNt (w.alloc (.cells #[.int .i64 x.np, .slice x.s.p x.s.n x.s.c, .int .i64 x.nt, .slice x.d.p x.d.n x.d.c] T)) (some ⟨w.heap.size, 0, none⟩) 1 [x] := SrcG.new KNt w [x] T
/-- The payload is a notification of this type. -/
def isNote (kind : Int) (x : Pv) : Bool := x.t == 41 && x.nt == kind

set_option maxHeartbeats 6400000 in
set_option maxRecDepth 100000 in
theorem notes_any (i r nx x f m : Int) (p : Option Addr) (n c : Nat) (l : List Pv) (kind : Int) (w : World) (h : RdG KPv DPv w p n c l) (hn : n ≤ 100000) :
    Calls Try.prog 27 #[.agg #[.int .u64 i, .int .u64 r, .int .i64 nx, .int .i64 x, .int .i64 f, .int .u32 m, .slice p n c], .int .i64 kind] w fun e w' => (∃ (p' : Option Addr) (n' c' : Nat), e = .returned (.slice p' n' c') ∧ decide (0 < n') = l.any (isNote kind) ∧ n' ≤ n) ∧ Below w.heap.size w w' := by
  have HBX := hidden ((Below.refl w.heap.size w).alloc (Nat.le_refl _) (.cells #[.int .u64 i, .int .u64 r, .int .i64 nx, .int .i64 x, .int .i64 f, .int .u32 m, .slice p n c] 32))
  have H := hidden h
  obtain ⟨R, hR⟩ : ∃ R, l.any (isNote kind) = R := ⟨_, rfl⟩
  have HR : Is (decide (0 < ([] : List Ntf).length) || (l.drop 0).any (isNote kind)) R := ⟨by simpa using hR⟩
  rw [hR]
  clear hR h
  go_enter Try.func27, Try.ntmps27
  go_wp2_with fail
  go_loopw [5, 11] (fun v i wr => ∃ (j : Nat) (L : List Ntf), j ≤ n ∧ i = .int .i64 j ∧ RowG KNt NNt wr w.heap.size v L ∧ L.length ≤ j ∧ Is (decide (0 < L.length) || (l.drop j).any (isNote kind)) R ∧ Below w.heap.size w wr) (fun _ i _ => n - (intOf i).toNat)
  case atStart => exact ⟨0, [], by omega, rfl, RowG.nil _ _ _ _, by simp, HR, HBX.out⟩
  case round =>
    obtain ⟨j, L, hj, rfl, hrow, hlj, hrel, hb⟩ := hrel
    have HB := hidden hb
    have HRW := hidden hrow
    clear hb hrow
    by_cases hlt : j < n
    · have hlt' : (j : Int) < n := by omega
      obtain ⟨g, y, rfl, hx, hdr, hok, hc⟩ := (H.out.below HB.out).drop_cons hlt
      have c0 := hc 0 _ rfl
      have c1 := hc 1 _ rfl
      have c2 := hc 2 _ rfl
      have c3 := hc 3 _ rfl
      have c4 := hc 4 _ rfl
      have c5 := hc 5 _ rfl
      have c6 := hc 6 _ rfl
      have c7 := hc 7 _ rfl
      have c8 := hc 8 _ rfl
      have c9 := hc 9 _ rfl
      have c10 := hc 10 _ rfl
      have c11 := hc 11 _ rfl
      have c12 := hc 12 _ rfl
      have c13 := hc 13 _ rfl
      have c14 := hc 14 _ rfl
      have c15 := hc 15 _ rfl
      simp only [Nat.add_zero] at c0
      have hf := hrel.eq
      rw [hdr, List.any_cons] at hf
      obtain ⟨xs, hns⟩ := hok.ns
      obtain ⟨ys, hnd⟩ := hok.nd
      have hsn := hok.sn
      have hdn := hok.dn
      have HBP := hidden ((Below.refl wr.heap.size wr).alloc (Nat.le_refl _) (.cells #[.int .i64 y.t, .slice y.pr.p y.pr.n y.pr.c, .int .i64 y.eg, .slice y.ed.p y.ed.n y.ed.c, .int .i64 y.ik, .slice y.id.p y.id.n y.id.c, .int .i64 y.am, .slice y.ad.p y.ad.n y.ad.c, .int .i64 y.np, .slice y.ns.p y.ns.n y.ns.c, .int .i64 y.nt, .slice y.nd.p y.nd.n y.nd.c, .int .i64 y.dp, .slice y.ds.p y.ds.n y.ds.c, .slice y.se.p y.se.n y.se.c, .slice y.da.p y.da.n y.da.c] 50))
      have HRP := hidden (HRW.out.below HBP.out)
      have HCN := hidden (fun W (hW : Below wr.heap.size wr W) => copiedNote_any y.np y.nt y.ns.p y.nd.p y.ns.n y.ns.c y.nd.n y.nd.c xs ys W (hns.below hW) (hnd.below hW) hsn hdn)
      clear hns hnd hsn hdn hok hrel hdr hx hc
      have hskip : isNote kind y = false → Is (decide (0 < L.length) || (l.drop (j + 1)).any (isNote kind)) R := fun e => ⟨by rw [e, Bool.false_or] at hf; exact hf⟩
      have hHIT : isNote kind y = true → Is (true) R := fun e => ⟨by rw [e] at hf; simpa using hf⟩
      have HSK := hidden hskip
      have HHT := hidden hHIT
      clear hf hskip hHIT
      by_cases h1 : y.t = 41
      · by_cases h2 : y.nt = kind
        · have HT := HHT.out (by simp [isNote, h1, h2])
          have q1 : (y.t == 41) = true := by simp [h1]
          have q2 : (y.nt == kind) = true := by simp [h2]
          clear HSK HHT h1 h2
          go_wp2_with (first
            | (go_at_call 29; (with_reducible refine (HCN.out _ HBP.out).mono ?_); rintro _ w1 ⟨⟨p1, p2, e1, e2, rfl⟩, hb1⟩; have HB1 := hidden (HB.out.trans ((HBP.out.trans (hb1.mono HBP.out.size)).mono HB.out.size)); have HR1 := hidden (HRP.out.below hb1); clear hb1)
            | (at_builtin; go_loud (refine wpList_append_g knownNt (by simp [NNt]) _ rfl _ _ rfl w.heap.size _ L rfl (HR1.out.alloc _) _ 1 1 [⟨y.np, ⟨p1, y.ns.n, e1⟩, y.nt, ⟨p2, y.nd.n, e2⟩⟩] rfl (srcNt w1 ⟨y.np, ⟨p1, y.ns.n, e1⟩, y.nt, ⟨p2, y.nd.n, e2⟩⟩ _) (fun x hx => trivial) ?b1 ?b2 ?b3 ?_))
            | fail)
          case b1 => unfold maxLen; omega
          case b2 => omega
          case b3 => simp; have := HB1.out.size; omega
          intro v6 w6 hrow6 hg6
          have HR6 := hidden hrow6
          have HB6 := hidden ((HB1.out.alloc HB1.out.size (.cells #[.int .i64 y.np, .slice p1 y.ns.n e1, .int .i64 y.nt, .slice p2 y.nd.n e2] 44)).grown hg6 (Nat.le_trans HB1.out.size (by simp)) (fun k hk => (HR1.out.lt k hk).1))
          clear hrow6 hg6
          go_wp2
          go_roundw
          case rel => exact ⟨j + 1, _, by omega, by go_num, HR6.out, by simp; omega, ⟨by rw [← HT.eq]; simp⟩, HB6.out⟩
          case measure => simp [intOf]; omega
        · have HT := HSK.out (by simp [isNote, h2])
          have q1 : (y.t == 41) = true := by simp [h1]
          have q2 : (y.nt == kind) = false := by simp [h2]
          clear HSK HHT h1 h2
          go_wp2
          go_roundw
          case rel => exact ⟨j + 1, L, by omega, by go_num, HRP.out, by omega, HT, HB.out.trans (HBP.out.mono HB.out.size)⟩
          case measure => simp [intOf]; omega
      · have HT := HSK.out (by simp [isNote, h1])
        have q1 : (y.t == 41) = false := by simp [h1]
        clear HSK HHT h1
        go_wp2
        go_roundw
        case rel => exact ⟨j + 1, L, by omega, by go_num, HRP.out, by omega, HT, HB.out.trans (HBP.out.mono HB.out.size)⟩
        case measure => simp [intOf]; omega
    · have hlt' : ¬ (j : Int) < n := by omega
      have hd : l.drop j = [] := List.drop_eq_nil_of_le (by rw [H.out.len]; omega)
      have hf := hrel.eq
      rw [hd, List.any_nil, Bool.or_false] at hf
      obtain ⟨q, d, rfl⟩ := HRW.out.form rfl
      have HF := hidden hf
      clear hf hd hrel
      go_wp2
      go_ret
      exact ⟨⟨q, L.length, ⟨d, rfl⟩, HF.out, Nat.le_trans hlj hj⟩, HB.out⟩
end Go.Proofs.Ytnnbfhjbaagnkaa
