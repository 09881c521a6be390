/-
  message.read: whatever raw payloads, a message and no error, or an error that has a notification.
  message.build and message.Build of a message that was made: an error, and at most 8192 bytes.
-/
import Derived.Test.YtkniifopfgeopaaGreatJZ28
import Derived.Test.YtkniifopfgeopaaGreatJMkMsg
import Derived.Test.YtkniifopfgeopaaGreatJMsgAwake
import Derived.Test.YtkniifopfgeopaaGreatJZ17
import Derived.Test.YtkniifopfgeopaaGreatJZ30
import Derived.Test.YtkniifopfgeopaaGreatJZ29
namespace Go.Proofs.YtkniifopfgeopaaGreat
open Go.RowKit
set_option linter.unusedVariables false
set_option linter.unusedSimpArgs false

theorem note_gd {t : Int} {xs : List Int} {base : Nat} {w' : World} {x : Pv} (h : (gdK t xs).ok base w' x) (hx : x.t = t) (ht : 0 ≤ t ∧ t ≤ 255) (hr : ∀ z ∈ xs, 0 ≤ z ∧ z ≤ 255) (hl : xs.length ≤ 1000000) : ∀ W, Kpt w' W base → NoteOk W x := by
  obtain ⟨C, h1, h2⟩ := h
  intro W hW
  subst hx
  have hp : PvRk W x C := h1 W hW
  have sz := rd_sz x.t xs hr hl x C W hp h2
  exact ⟨⟨by omega, by omega⟩, fun e => ⟨_, (hp.a41 e).ns⟩, fun e => ⟨_, (hp.a41 e).nd⟩, fun e => Nat.le_trans (sz.ns e) (by omega), fun e => Nat.le_trans (sz.nd e) (by omega)⟩

theorem MIn.putS {w : World} {g : Nat} {i r nx x f m : Int} {v : Value} (h : MIn w g i r nx x f m v) (v' : Value) : MIn (w.setCell ⟨g, 6, none⟩ v') g i r nx x f m v' := by
  obtain ⟨c0, c1, c2, c3, c4, c5, c6, fr⟩ := h
  exact ⟨by go_simp, by go_simp, by go_simp, by go_simp, by go_simp, by go_simp, by go_simp, fun j => by rw [World.frozen?_setCell]; exact fr j⟩
/-- While payloads are read: the result, the message, its payloads so far. -/
structure RSt (w : World) (g M : Nat) (i r nx x f m : Int) (v : Value) (l : List Pv) (wr : World) : Prop where
  bel : Below w.heap.size w wr
  res : MIn wr g 0 0 0 0 0 0 (.slice none 0 0)
  msg : MIn wr M i r nx x f m v
  row : RowG KPv NTv wr (M + 1) v l
  el : ∀ y ∈ l, ElemP (fun W => NoteOk W y) wr (M + 1) v
  ge : M + 1 ≤ wr.heap.size
theorem RSt.below {w : World} {g M : Nat} {i r nx x f m : Int} {v : Value} {l : List Pv} {wr wy : World} (h : RSt w g M i r nx x f m v l wr) (hb : Below wr.heap.size wr wy) : RSt w g M i r nx x f m v l wy :=
  ⟨h.bel.trans (hb.mono h.bel.size), h.res.below hb, h.msg.below hb, h.row.below hb, fun y hy => (h.el y hy).step (grown_of_below hb none) (fun q e => by cases e), Nat.le_trans h.ge hb.size⟩
theorem RSt.app {w : World} {g M : Nat} {i r nx x f m : Int} {v v' : Value} {l : List Pv} {y : Pv} {wr wy : World} (h : RSt w g M i r nx x f m v l wr) (he : ElemP (fun W => NoteOk W y) wr (M + 1) v) (hrow : RowG KPv NTv wy (M + 1) v' (l ++ [y])) (hg : wr.grownBy wy v.ownBlock) (hq : ∀ q, v'.ownBlock = some q → v.ownBlock = some q ∨ wr.heap.size ≤ q) (hw : w.heap.size ≤ g) (hgM : g < M) :
    RSt w g M i r nx x f m v' (l ++ [y]) (wy.setCell ⟨M, 6, none⟩ v') := by
  have hlt := h.row.lt
  have hs := grown_set wy M 6 v'
  refine ⟨(h.bel.grown hg h.bel.size (fun q e => by have := hlt q e; omega)).setCell (show w.heap.size ≤ M by omega) _, ?_, ?_, hrow.low hs (by omega), fun z hz => ?_, Nat.le_trans h.ge (Nat.le_trans hg.size hs.size)⟩
  · exact (h.res.grown hg (fun e => by have := hlt _ e.symm; omega)).grown hs (by simp; omega)
  · exact (h.msg.grown hg (fun e => by have := hlt _ e.symm; omega)).putS _
  · rcases List.mem_append.1 hz with hz | hz
    · exact ((h.el z hz).app hg hq).step hs (fun q e => by cases e; exact .inl (by omega))
    · rw [List.mem_singleton.1 hz]
      exact (he.app hg hq).step hs (fun q e => by cases e; exact .inl (by omega))
/-- A message and an error with a notification, or none. -/
def ReadM (w : World) (e : Ending) (w' : World) : Prop :=
  ∃ (i r nx x f m : Int) (q : Option Addr) (n d : Nat) (E : Int), e = .returned (.tuple #[.agg #[.int .u64 i, .int .u64 r, .int .i64 nx, .int .i64 x, .int .i64 f, .int .u32 m, .slice q n d], .int .i64 E]) ∧ Rp0 E ∧ Below w.heap.size w w'
theorem ret_msg2 {fn : Func} {R : Ending → World → Prop} {a : Act} {w : World} {p s : Nat} {g : Nat} {i r nx x f m : Int} {q : Option Addr} {n d : Nat} {u : Value} (h : fn.results = #[.cell p 39, .tmp s]) (hp : a.tmps.getD p undef = .pointer (some ⟨g, 0, none⟩)) (hs : a.tmps.getD s undef = u) (hd : a.defers = [])
    (hh : MIn w g i r nx x f m (.slice q n d)) (hR : R (.returned (.tuple #[.agg #[.int .u64 i, .int .u64 r, .int .i64 nx, .int .i64 x, .int .i64 f, .int .u32 m, .slice q n d], u])) w) : bodyPost Tryz.prog fn R .ret a w := by
  refine bodyPost_ret (v := .tuple #[.agg #[.int .u64 i, .int .u64 r, .int .i64 nx, .int .i64 x, .int .i64 f, .int .u32 m, .slice q n d], u]) ?_ hd hR
  rw [Array.getD_eq_getD_getElem?] at hp hs
  simp [results, h, hp, hs, asAddr, load_msg hh, Result.andThen]
/-- A whole message stored. -/
theorem MIn.setAll {w : World} {g : Nat} {i r nx x f m : Int} {v : Value} (h : MIn w g i r nx x f m v) (i' r' nx' x' f' m' : Int) (v' : Value) :
    MIn (((((((w.setCell ⟨g, 0, none⟩ (.int .u64 i')).setCell ⟨g, 1, none⟩ (.int .u64 r')).setCell ⟨g, 2, none⟩ (.int .i64 nx')).setCell ⟨g, 3, none⟩ (.int .i64 x')).setCell ⟨g, 4, none⟩ (.int .i64 f')).setCell ⟨g, 5, none⟩ (.int .u32 m')).setCell ⟨g, 6, none⟩ v') g i' r' nx' x' f' m' v' := by
  obtain ⟨c0, c1, c2, c3, c4, c5, c6, fr⟩ := h
  exact ⟨by go_simp, by go_simp, by go_simp, by go_simp, by go_simp, by go_simp, by go_simp, fun j => by rw [World.frozen?_setCell, World.frozen?_setCell, World.frozen?_setCell, World.frozen?_setCell, World.frozen?_setCell, World.frozen?_setCell, World.frozen?_setCell]; exact fr j⟩
theorem below_setAll {B : Nat} {w0 w : World} (h : Below B w0 w) {g : Nat} (hg : B ≤ g) (i' r' nx' x' f' m' : Int) (v' : Value) :
    Below B w0 (((((((w.setCell ⟨g, 0, none⟩ (.int .u64 i')).setCell ⟨g, 1, none⟩ (.int .u64 r')).setCell ⟨g, 2, none⟩ (.int .i64 nx')).setCell ⟨g, 3, none⟩ (.int .i64 x')).setCell ⟨g, 4, none⟩ (.int .i64 f')).setCell ⟨g, 5, none⟩ (.int .u32 m')).setCell ⟨g, 6, none⟩ v') :=
  ((((((h.setCell hg _).setCell hg _).setCell hg _).setCell hg _).setCell hg _).setCell hg _).setCell hg _

theorem RSt.start (w : World) (i r nx x f m : Int) : RSt w (w.heap.size + 1) (w.heap.size + 1 + 1) i r nx x f m (.slice none 0 0) [] (((w.alloc (.cells #[.int .u64 i, .int .u64 r, .int .i64 nx, .int .i64 x, .int .i64 f, .int .u32 m] 36)).alloc (.cells #[.int .u64 0, .int .u64 0, .int .i64 0, .int .i64 0, .int .i64 0, .int .u32 0, .slice none 0 0] 39)).alloc (.cells #[.int .u64 i, .int .u64 r, .int .i64 nx, .int .i64 x, .int .i64 f, .int .u32 m, .slice none 0 0] 39)) := by
  have s1 : (w.alloc (.cells #[.int .u64 i, .int .u64 r, .int .i64 nx, .int .i64 x, .int .i64 f, .int .u32 m] 36)).heap.size = w.heap.size + 1 := World.size_alloc _ _
  have hb1 := (Below.refl w.heap.size w).alloc (Nat.le_refl _) (.cells #[.int .u64 i, .int .u64 r, .int .i64 nx, .int .i64 x, .int .i64 f, .int .u32 m] 36)
  generalize w.alloc _ = wa at *
  have hm := MIn.new wa 0 0 0 0 0 0 (.slice none 0 0) 39
  have s2 : (wa.alloc (.cells #[.int .u64 0, .int .u64 0, .int .i64 0, .int .i64 0, .int .i64 0, .int .u32 0, .slice none 0 0] 39)).heap.size = w.heap.size + 1 + 1 := by rw [World.size_alloc, s1]
  have hb2 := hb1.alloc hb1.size (.cells #[.int .u64 0, .int .u64 0, .int .i64 0, .int .i64 0, .int .i64 0, .int .u32 0, .slice none 0 0] 39)
  rw [s1] at hm
  generalize wa.alloc _ = wb at *
  have hn := MIn.new wb i r nx x f m (.slice none 0 0) 39
  have s3 : (wb.alloc (.cells #[.int .u64 i, .int .u64 r, .int .i64 nx, .int .i64 x, .int .i64 f, .int .u32 m, .slice none 0 0] 39)).heap.size = w.heap.size + 1 + 1 + 1 := by rw [World.size_alloc, s2]
  rw [s2] at hn
  exact ⟨hb2.alloc hb2.size _, hm.below ((Below.refl _ _).alloc (Nat.le_refl _) _), hn, RowG.nil _ _ _ _, fun y hy => (by cases hy), by rw [s3]; exact Nat.le_refl _⟩

/-- What payload.Parse returns, told for a message. -/
theorem parse_note (k : Int) (cr : Bool) (p : Option Addr) (n c : Nat) (xs : List Int) (w : World) (h : Byt w p n c xs) (hk : 0 ≤ k ∧ k ≤ 255) (hn : n ≤ 100000) :
    Calls Tryz.prog 39 #[.agg #[.int .i64 k, .bool cr, .slice p n c]] w fun e w' => ∃ x : Pv, e = .returned (.tuple #[(.agg #[.int .i64 x.t, .slice x.pr.p x.pr.n x.pr.c, .int .i64 x.eg, .slice x.ed.p x.ed.n x.ed.c, .int .i64 x.ik, .slice x.id.p x.id.n x.id.c, .int .i64 x.am, .slice x.ad.p x.ad.n x.ad.c, .int .i64 x.np, .slice x.ns.p x.ns.n x.ns.c, .int .i64 x.nt, .slice x.nd.p x.nd.n x.nd.c, .int .i64 x.dp, .slice x.ds.p x.ds.n x.ds.c, .slice x.se.p x.se.n x.se.c, .slice x.da.p x.da.n x.da.c]), .int .i64 (parseE k xs)]) ∧ Below w.heap.size w w' ∧ (parseE k xs = 0 → ∀ W, Kpt w' W w.heap.size → NoteOk W x) := by
  refine (pk_all k p n c xs cr w h (by omega)).mono ?_
  rintro e w' ⟨x, he, hb, hg⟩
  refine ⟨x, he, hb, fun h0 => ?_⟩
  rcases hg with ⟨-, ht, hok⟩ | ⟨h9, -⟩
  · exact note_gd hok ht hk h.rng (by rw [h.len]; omega)
  · exact absurd h0 h9

set_option maxHeartbeats 6400000 in
set_option maxRecDepth 100000 in
theorem mread_any (i r nx x f m : Int) (hx : IntR x) (p : Option Addr) (n c : Nat) (l : List RawP) (w : World) (h : RdR w p n c l) (h40 : n ≤ 40) (hok : ∀ y ∈ l, RawOk 100000 y.raw) :
    Calls Tryz.prog 22 #[.agg #[.int .u64 i, .int .u64 r, .int .i64 nx, .int .i64 x, .int .i64 f, .int .u32 m], .slice p n c] w (ReadM w) := by
  have hlen := h.len
  have HX := hidden hx
  have HOK := hidden hok
  have HS0 := hidden (RSt.start w i r nx x f m)
  have HR := hidden h
  clear h hok hx
  go_enter Tryz.func22, Tryz.ntmps22
  go_wp2_with fail
  generalize World.alloc (World.alloc (World.alloc w _) _) _ = w0 at *
  go_loopw [16] (fun c wr => ∃ (j : Nat) (v : Value) (L : List Pv), j ≤ n ∧ c = .int .i64 (j : Int) ∧ L.length ≤ j ∧ RSt w (w.heap.size + 1) (w.heap.size + 1 + 1) i r nx x f m v L wr) (fun c _ => n - (intOf c).toNat)
  case atStart => exact ⟨0, _, [], by omega, rfl, Nat.le_refl _, HS0.out⟩
  case round =>
    clear HS0
    obtain ⟨j, v, L, hj, rfl, hL, hst⟩ := hrel
    have HS := hidden hst
    obtain ⟨pv, cv, rfl⟩ := hst.row.form (rfl : L.length = L.length)
    clear hst
    by_cases hjn : j < n
    · have hjI : (j : Int) < (n : Int) := by omega
      have hjI0 : (0 : Int) ≤ (j : Int) := by omega
      obtain ⟨g, rfl, e0, e1, e2, hby⟩ := (HR.out.below HS.out.bel).elem j (by omega)
      have hro := HOK.out _ (List.getElem_mem (show j < l.length by omega))
      generalize l[j]'(by omega) = y at *
      obtain ⟨k, cr, bp, bn, bc, bs⟩ := y
      simp only at e0 e1 e2 hby
      obtain ⟨hk0, hk1, hbn, hbr⟩ := hro
      simp only [RawP.raw] at hk0 hk1 hbn hbr
      have hnb : bn ≤ 100000 := by rw [← hby.len]; exact hbn
      have HPA := hidden (fun W (hW : Below wr.heap.size wr W) => parse_note k cr bp bn bc bs W (hby.below hW) ⟨hk0, hk1⟩ hnb)
      have HPE := hidden (rp_parseE k bs)
      have HKN := hidden (fun W => known_any k W)
      generalize parseE k bs = E at *
      clear hby hbn hbr hnb
      go_upto_region 5 with fail
      have r0 : (wr.alloc (.cells #[.int .i64 k, .bool cr, .slice bp bn bc] 82)).cell? ⟨wr.heap.size, 0, none⟩ = some (.int .i64 k) := by go_simp
      have r1 : (wr.alloc (.cells #[.int .i64 k, .bool cr, .slice bp bn bc] 82)).cell? ⟨wr.heap.size, 1, none⟩ = some (.bool cr) := by go_simp
      have r2 : (wr.alloc (.cells #[.int .i64 k, .bool cr, .slice bp bn bc] 82)).cell? ⟨wr.heap.size, 2, none⟩ = some (.slice bp bn bc) := by go_simp
      have hal := (Below.refl wr.heap.size wr).alloc (Nat.le_refl _) (.cells #[.int .i64 k, .bool cr, .slice bp bn bc] 82)
      have HS5 := hidden (HS.out.below hal)
      have HBX := hidden hal
      generalize World.alloc wr _ = w5 at *
      generalize wr.heap.size = G5 at *
      obtain ⟨kn, hkn⟩ : ∃ b, knownK k = b := ⟨_, rfl⟩
      rw [hkn] at HKN
      clear hal HS e0 e1 e2 hkn
      cases kn with
      | true =>
        by_cases hE : E = 0
        · subst hE
          go_upto_region 9 with (first
            | (go_at_call 38; (with_reducible refine (HKN.out _).mono ?_); rintro e w6 ⟨rfl, rfl⟩)
            | (go_at_call 39; go_loud ((with_reducible refine (HPA.out _ HBX.out).mono ?_); rintro e w7 ⟨x', rfl, hb7, hnt⟩; have HS7 := hidden (HS5.out.below hb7); have HEL := hidden (show ElemP (fun W => NoteOk W x') w7 (w.heap.size + 1 + 1 + 1) (.slice pv L.length cv) from ElemP.new (by first | exact hnt trivial | exact hnt rfl) HS5.out.ge (fun q e => (HS5.out.row.lt q e).2)); clear hb7 hnt HPA))
            | fail)
          have HPI := hidden (PvIn.new w7 x' 59)
          have hal := (Below.refl w7.heap.size w7).alloc (Nat.le_refl _) (.cells #[.int .i64 x'.t, .slice x'.pr.p x'.pr.n x'.pr.c, .int .i64 x'.eg, .slice x'.ed.p x'.ed.n x'.ed.c, .int .i64 x'.ik, .slice x'.id.p x'.id.n x'.id.c, .int .i64 x'.am, .slice x'.ad.p x'.ad.n x'.ad.c, .int .i64 x'.np, .slice x'.ns.p x'.ns.n x'.ns.c, .int .i64 x'.nt, .slice x'.nd.p x'.nd.n x'.nd.c, .int .i64 x'.dp, .slice x'.ds.p x'.ds.n x'.ds.c, .slice x'.se.p x'.se.n x'.se.c, .slice x'.da.p x'.da.n x'.da.c] 59)
          have HS8 := hidden (HS7.out.below hal)
          have HEL8 := hidden (HEL.out.below hal)
          generalize World.alloc w7 _ = w8 at *
          generalize w7.heap.size = G7 at *
          clear hal HS7 HEL HS5 HBX r0 r1 r2
          obtain ⟨c0, c1, c2, c3, c4, c5, c6, c7, c8, c9, c10, c11, c12, c13, c14, c15, -⟩ := HPI.out
          have b6 := HS8.out.msg.c6
          clear HPI
          go_upto_region 12 with (first
            | (at_builtin; go_loud (refine wpList_append_w knownPv (by simp [NTv]) _ rfl _ _ rfl (w.heap.size + 1 + 1 + 1) _ L rfl (HS8.out.row.alloc _) _ 1 1 [x'] rfl (by omega) (srcPv w8 x' _) (fun x hx => trivial) (by unfold maxLen; omega) (by omega) (by have := HS8.out.ge; simp; omega) ?_; intro v10 w10 HR10 HG10 HQ10; obtain ⟨pz, cz, rfl⟩ := HR10.out.form (n := L.length + 1) (by simp); have hal := (Below.refl w8.heap.size w8).alloc (Nat.le_refl _) (.cells #[.int .i64 x'.t, .slice x'.pr.p x'.pr.n x'.pr.c, .int .i64 x'.eg, .slice x'.ed.p x'.ed.n x'.ed.c, .int .i64 x'.ik, .slice x'.id.p x'.id.n x'.id.c, .int .i64 x'.am, .slice x'.ad.p x'.ad.n x'.ad.c, .int .i64 x'.np, .slice x'.ns.p x'.ns.n x'.ns.c, .int .i64 x'.nt, .slice x'.nd.p x'.nd.n x'.nd.c, .int .i64 x'.dp, .slice x'.ds.p x'.ds.n x'.ds.c, .slice x'.se.p x'.se.n x'.se.c, .slice x'.da.p x'.da.n x'.da.c] 59); have HS9 := hidden (HS8.out.below hal); have HM10 := hidden (HS9.out.msg.grown HG10.out (fun e => by have := (HS9.out.row.lt _ e.symm).1; omega)); have HS10 := hidden (HS9.out.app (HEL8.out.below hal) HR10.out HG10.out (by first | exact HQ10.out | (rw [World.size_alloc]; exact HQ10.out)) (by omega) (by omega)); have b60 := HM10.out.c6; have bf0 := HM10.out.fr 6; clear hal HS8 HS9 HEL8 HR10 HG10 HQ10 HM10 b6 c0 c1 c2 c3 c4 c5 c6 c7 c8 c9 c10 c11 c12 c13 c14 c15))
            | fail)
          clear b60 bf0
          go_wp2_with fail
          go_roundw
          case rel => exact ⟨j + 1, _, L ++ [x'], by omega, by go_num, by simp; omega, HS10.out⟩
          case measure => simp [intOf] <;> omega
        · have hE2 : (E != 0) = true := by simpa using hE
          go_upto_region 9 with (first
            | (go_at_call 38; (with_reducible refine (HKN.out _).mono ?_); rintro e w6 ⟨rfl, rfl⟩)
            | (go_at_call 39; (with_reducible refine (HPA.out _ HBX.out).mono ?_); rintro e w7 ⟨x', rfl, hb7, hnt⟩; have HS7 := hidden (HS5.out.below hb7); clear hb7 hnt HPA)
            | fail)
          have hal := (Below.refl w7.heap.size w7).alloc (Nat.le_refl _) (.cells #[.int .i64 x'.t, .slice x'.pr.p x'.pr.n x'.pr.c, .int .i64 x'.eg, .slice x'.ed.p x'.ed.n x'.ed.c, .int .i64 x'.ik, .slice x'.id.p x'.id.n x'.id.c, .int .i64 x'.am, .slice x'.ad.p x'.ad.n x'.ad.c, .int .i64 x'.np, .slice x'.ns.p x'.ns.n x'.ns.c, .int .i64 x'.nt, .slice x'.nd.p x'.nd.n x'.nd.c, .int .i64 x'.dp, .slice x'.ds.p x'.ds.n x'.ds.c, .slice x'.se.p x'.se.n x'.se.c, .slice x'.da.p x'.da.n x'.da.c] 59)
          have HS8 := hidden (HS7.out.below hal)
          generalize World.alloc w7 _ = w8 at *
          generalize w7.heap.size = G7 at *
          clear hal HS7 HS5 HBX r0 r1 r2
          obtain ⟨a0, a1, a2, a3, a4, a5, a6, af⟩ := HS8.out.res
          have f0 := af 0
          have f1 := af 1
          have f2 := af 2
          have f3 := af 3
          have f4 := af 4
          have f5 := af 5
          have f6 := af 6
          clear af
          go_wp2_with fail
          exact ret_msg2 (g := w.heap.size + 1) rfl rfl rfl rfl (HS8.out.res.setAll 0 0 0 0 0 0 (.slice none 0 0)) ⟨0, 0, 0, 0, 0, 0, none, 0, 0, E, rfl, HPE.out, below_setAll HS8.out.bel (by omega) _ _ _ _ _ _ _⟩
      | false =>
        cases cr with
        | true =>
          obtain ⟨a0, a1, a2, a3, a4, a5, a6, af⟩ := HS5.out.res
          have f0 := af 0
          have f1 := af 1
          have f2 := af 2
          have f3 := af 3
          have f4 := af 4
          have f5 := af 5
          have f6 := af 6
          clear af
          go_wp2_with (first
            | (go_at_call 38; (with_reducible refine (HKN.out _).mono ?_); rintro e w6 ⟨rfl, rfl⟩)
            | fail)
          exact ret_msg2 (g := w.heap.size + 1) rfl rfl rfl rfl (HS5.out.res.setAll 0 0 0 0 0 0 (.slice none 0 0)) ⟨0, 0, 0, 0, 0, 0, none, 0, 0, 6, rfl, by decide, below_setAll HS5.out.bel (by omega) _ _ _ _ _ _ _⟩
        | false =>
          go_wp2_with (first
            | (go_at_call 38; (with_reducible refine (HKN.out _).mono ?_); rintro e w6 ⟨rfl, rfl⟩)
            | fail)
          go_roundw
          case rel => exact ⟨j + 1, _, L, by omega, by go_num, by omega, HS5.out⟩
          case measure => simp [intOf] <;> omega
    · have hjn2 : ¬ (j : Int) < (n : Int) := by omega
      have hrd := rdMsg HS.out.row rfl (Kpt.refl _ _) (fun y hy => (HS.out.el y hy).out (Kpt.refl _ _))
      have HCK := hidden (check_any i r nx x f m pv L.length cv L wr hrd (by omega) HX.out)
      have HPE := hidden (rp_checkM x f L)
      generalize checkM x f L = E at *
      obtain ⟨b0, b1, b2, b3, b4, b5, b6, -⟩ := HS.out.msg
      clear hrd
      go_upto_region 14 with (first
        | (go_at_call 13; (with_reducible refine (HCK.out).mono ?_); rintro e w7 ⟨rfl, hb7⟩; have HS7 := hidden (HS.out.below hb7); clear hb7 HCK)
        | fail)
      clear b0 b1 b2 b3 b4 b5 b6 HS
      by_cases hE : E = 0
      · subst hE
        obtain ⟨b0, b1, b2, b3, b4, b5, b6, -⟩ := HS7.out.msg
        obtain ⟨a0, a1, a2, a3, a4, a5, a6, af⟩ := HS7.out.res
        have f0 := af 0
        have f1 := af 1
        have f2 := af 2
        have f3 := af 3
        have f4 := af 4
        have f5 := af 5
        have f6 := af 6
        clear af
        go_wp2_with fail
        exact ret_msg2 (g := w.heap.size + 1) rfl rfl rfl rfl (HS7.out.res.setAll i r nx x f m (.slice pv L.length cv)) ⟨i, r, nx, x, f, m, pv, L.length, cv, 0, rfl, HPE.out, below_setAll HS7.out.bel (by omega) _ _ _ _ _ _ _⟩
      · have hE2 : (E != 0) = true := by simpa using hE
        obtain ⟨a0, a1, a2, a3, a4, a5, a6, af⟩ := HS7.out.res
        have f0 := af 0
        have f1 := af 1
        have f2 := af 2
        have f3 := af 3
        have f4 := af 4
        have f5 := af 5
        have f6 := af 6
        clear af
        go_wp2_with fail
        exact ret_msg2 (g := w.heap.size + 1) rfl rfl rfl rfl (HS7.out.res.setAll 0 0 0 0 0 0 (.slice none 0 0)) ⟨0, 0, 0, 0, 0, 0, none, 0, 0, E, rfl, HPE.out, below_setAll HS7.out.bel (by omega) _ _ _ _ _ _ _⟩
end Go.Proofs.YtkniifopfgeopaaGreat

namespace Go.Proofs.YtkniifopfgeopaaGreat
open Go.RowKit
set_option linter.unusedVariables false
set_option linter.unusedSimpArgs false

/-- Raw payloads in a row: three cells; nothing said of what lies behind them. -/
def KRw : KindR RawP where
  e := 82
  k := 3
  cs := RawP.cells
  len _ := rfl
  one x u hu := by
    simp [RawP.cells] at hu
    rcases hu with rfl | rfl | rfl <;> rfl
  pos := by decide
def NRw : NestR RawP where
  ts := []
  ok _ _ _ := True
  keep _ _ _ := trivial
  mono _ _ := trivial
theorem row_raw (l : List RawP) : KRw.row l = rowC l := by
  induction l with
  | nil => rfl
  | cons x l ih => rw [KindR.row_cons, ih]; rfl
theorem knownRw : KnownR Tryz.prog KRw 73 40 := by
  refine ⟨Tryz.underlying73, ?_⟩
  obtain ⟨i0, hi, hz0, hz1, hz2⟩ := info_parts Tryz.infoRaw
  exact ⟨i0, _, hi, hz0, hz1, hz2, rfl⟩
theorem rdr_of {w : World} {base : Nat} {v : Value} {l : List RawP} {n : Nat} (h : RowG KRw NRw w base v l) (hn : l.length = n) (hb : BodR w l) : ∃ p c, v = .slice p n c ∧ RdR w p n c l := by
  have ho : OwnRw w base 82 v l := by
    have := h.own
    rw [row_raw] at this
    exact this
  subst hn
  rcases ho.2 with ⟨rfl, h0⟩ | ⟨g, cap, cur, rfl, hg, hh, hnc, hm, hs, ht⟩
  · exact ⟨none, 0, by rw [h0], rfl, by omega, by unfold maxLen; omega, fun h => by omega, hb⟩
  · refine ⟨_, _, rfl, rfl, hnc, hm, fun h0 => ⟨g, rfl, fun j u hj => ?_⟩, hb⟩
    have := World.ownsRow.cells ho (g := g) rfl j u hj
    rw [WideShapes.add_plain, Nat.zero_add] at this
    exact this
/-- While raw payloads are made. -/
structure BSt (w : World) (v : Value) (l : List RawP) (wr : World) : Prop where
  bel : Below w.heap.size w wr
  row : RowG KRw NRw wr w.heap.size v l
  el : ∀ y ∈ l, ElemP (fun W => Byt W y.p y.n y.m y.b) wr w.heap.size v
theorem BSt.start (w : World) : BSt w (.slice none 0 0) [] w := ⟨Below.refl _ _, RowG.nil _ _ _ _, fun y hy => by cases hy⟩
theorem BSt.below {w : World} {v : Value} {l : List RawP} {wr wy : World} (h : BSt w v l wr) (hb : Below wr.heap.size wr wy) : BSt w v l wy :=
  ⟨h.bel.trans (hb.mono h.bel.size), h.row.below hb, fun y hy => (h.el y hy).below hb⟩
theorem BSt.app {w : World} {v v' : Value} {l : List RawP} {y : RawP} {wr wy : World} (h : BSt w v l wr) (he : ElemP (fun W => Byt W y.p y.n y.m y.b) wr w.heap.size v) (hrow : RowG KRw NRw wy w.heap.size v' (l ++ [y])) (hg : wr.grownBy wy v.ownBlock) (hq : ∀ q, v'.ownBlock = some q → v.ownBlock = some q ∨ wr.heap.size ≤ q) : BSt w v' (l ++ [y]) wy := by
  refine ⟨h.bel.grown hg h.bel.size (fun q e => (h.row.lt q e).1), hrow, fun z hz => ?_⟩
  rcases List.mem_append.1 hz with hz | hz
  · exact (h.el z hz).app hg hq
  · rw [List.mem_singleton.1 hz]
    exact he.app hg hq
theorem BSt.bods {w : World} {v : Value} {l : List RawP} {wr : World} (h : BSt w v l wr) : BodR wr l := fun y hy => (h.el y hy).out (Kpt.refl _ _)
theorem encC_rng (last : Int) : ∀ (l : List Raw), (∀ r ∈ l, ∀ z ∈ r.b, 0 ≤ z ∧ z ≤ 255) → ∀ z ∈ encC last l, 0 ≤ z ∧ z ≤ 255
  | [], _ => fun z hz => by cases hz
  | r :: l, h => by
    refine rng_append (rng_append (fun z hz => ?_) (rng_append (be_rng _ _) (h r (List.mem_cons_self ..)))) (encC_rng last l (fun y hy => h y (List.mem_cons_of_mem _ hy)))
    simp only [List.mem_cons, List.not_mem_nil, or_false] at hz
    rcases hz with rfl | rfl
    · omega
    · split <;> omega
theorem buildC_rng (l : List Raw) (last : Int) (h : ∀ r ∈ l, ∀ z ∈ r.b, 0 ≤ z ∧ z ≤ 255) : ∀ z ∈ (buildC l last).2.1, 0 ≤ z ∧ z ≤ 255 := by
  unfold buildC
  repeat' split
  all_goals first | exact encC_rng _ _ h | (intro z hz; cases hz)
theorem encC_len (last : Int) : ∀ (l : List Raw), (∀ r ∈ l, r.b.length ≤ 8000) → (encC last l).length ≤ 8004 * l.length
  | [], _ => by simp [encC]
  | r :: l, h => by
    have h1 := encC_len last l (fun y hy => h y (List.mem_cons_of_mem _ hy))
    have h2 := h r (List.mem_cons_self ..)
    show (oneC (nextC last l) r ++ encC last l).length ≤ _
    rw [List.length_append, oneC_len, List.length_cons]
    omega
theorem buildC_len (l : List Raw) (last : Int) (h : ∀ r ∈ l, r.b.length ≤ 8000) : (buildC l last).2.1.length ≤ 8004 * l.length := by
  unfold buildC
  repeat' split
  all_goals first | exact encC_len _ _ h | exact Nat.zero_le _
theorem mwraps_no (k : Int) (hk : KindOk k) (w : World) : Calls Tryz.prog 27 #[.int .i64 k] w fun e w' => e = .returned (.bool false) ∧ w' = w := by
  have h1 : (k == 46) = false := by simp; unfold KindOk at hk; omega
  have h2 : (k == 53) = false := by simp; unfold KindOk at hk; omega
  clear hk
  go_enter Tryz.func27, Tryz.ntmps27
  go_wp2
  all_goals go_ret
  all_goals exact ⟨rfl, rfl⟩
/-- payload.Build of a payload that was made. -/
theorem pbuild_told (x : Pv) (C : Pc) (w : World) (h : PvRd w x C) (hn : NumOk x) (hv : Vld x C) (hk : KindOk x.t) :
    Calls Tryz.prog 26 #[(.agg #[.int .i64 x.t, .slice x.pr.p x.pr.n x.pr.c, .int .i64 x.eg, .slice x.ed.p x.ed.n x.ed.c, .int .i64 x.ik, .slice x.id.p x.id.n x.id.c, .int .i64 x.am, .slice x.ad.p x.ad.n x.ad.c, .int .i64 x.np, .slice x.ns.p x.ns.n x.ns.c, .int .i64 x.nt, .slice x.nd.p x.nd.n x.nd.c, .int .i64 x.dp, .slice x.ds.p x.ds.n x.ds.c, .slice x.se.p x.se.n x.se.c, .slice x.da.p x.da.n x.da.c])] w fun e w' => ∃ (q : Option Addr) (N d : Nat) (L : List Int), e = .returned (.tuple #[.agg #[.int .i64 x.t, .bool false, .slice q N d], .int .i64 0]) ∧ Below w.heap.size w w' ∧ (∀ W, Kpt w' W w.heap.size → Byt W q N d L) ∧ N ≤ 8000 := by
  obtain ⟨h2, hl, hs⟩ := vld_build x C w h hn hv (by unfold Kind12; unfold KindOk at hk; omega)
  have hr : rawE x.t (buildB x C).1 (buildB x C).2 = 0 := by
    unfold rawE
    unfold KindOk at hk
    rw [if_neg (by omega), if_neg (by rw [h2]; decide), if_neg (by omega)]
  refine (pBuild_any x C w h.rk hs).mono ?_
  rintro e w' ⟨hb, h | h⟩
  · obtain ⟨-, q, d, he, hf⟩ := h
    exact ⟨q, _, d, _, he, hb, fun W hW => hf.kp hW, hl⟩
  · exact absurd hr h.1

set_option maxHeartbeats 6400000 in
set_option maxRecDepth 100000 in
theorem mraws_any (p : Option Addr) (n c : Nat) (l : List Pv) (w : World) (h : RdG KPv DPv w p n c l) (hn : n ≤ 7) (hk : ∀ y ∈ l, KindOk y.t) (hp : ∀ y ∈ l, ∃ C, Vld y C ∧ NumOk y ∧ PvRd w y C) :
    Calls Tryz.prog 14 #[.slice p n c] w fun e w' => ∃ (k : Int) (v : Value) (L : List Int) (E : Int), e = .returned (.tuple #[.int .i64 k, v, .int .i64 E]) ∧ Own w' w.heap.size 5 v L ∧ (∀ z ∈ L, 0 ≤ z ∧ z ≤ 255) ∧ L.length ≤ 60000 ∧ Below w.heap.size w w' := by
  have HR := hidden h
  have HK := hidden hk
  have HP := hidden hp
  have hcap := h.cap
  clear h hk hp
  go_enter Tryz.func14, Tryz.ntmps14
  go_wp2_with fail
  go_loopw [5, 6, 13] (fun v la c wr => ∃ (j : Nat) (L : List RawP), j ≤ n ∧ c = .int .i64 (j : Int) ∧ la = .int .i64 0 ∧ L.length = j ∧ BSt w v L wr ∧ (∀ y ∈ L, y.n ≤ 8000)) (fun _ _ c _ => n - (intOf c).toNat)
  case atStart => exact ⟨0, [], by omega, rfl, rfl, rfl, BSt.start w, fun y hy => by cases hy⟩
  case round =>
    obtain ⟨j, L, hj, rfl, rfl, hL, hst, hn8⟩ := hrel
    have HN8 := hidden hn8
    clear hn8
    have HS := hidden hst
    obtain ⟨pv, cv, rfl⟩ := hst.row.form hL
    clear hst
    by_cases hjn : j < n
    · have hjI : (j : Int) < (n : Int) := by omega
      have hjI0 : (0 : Int) ≤ (j : Int) := by omega
      obtain ⟨g, y, rfl, hy, -, -, hc⟩ := (HR.out.below HS.out.bel).drop_cons hjn
      have hmem : y ∈ l := List.mem_of_getElem? hy
      have HKY := hidden (HK.out y hmem)
      obtain ⟨C, hv, hnum, hrd⟩ := HP.out y hmem
      have HPB := hidden (fun W (hW : Below w.heap.size w W) => pbuild_told y C W (hrd.below hW) hnum hv HKY.out)
      have HWR := hidden (fun W => mwraps_no y.t HKY.out W)
      have c0 := hc 0 _ rfl
      have c1 := hc 1 _ rfl
      have c2 := hc 2 _ rfl
      have c3 := hc 3 _ rfl
      have c4 := hc 4 _ rfl
      have c5 := hc 5 _ rfl
      have c6 := hc 6 _ rfl
      have c7 := hc 7 _ rfl
      have c8 := hc 8 _ rfl
      have c9 := hc 9 _ rfl
      have c10 := hc 10 _ rfl
      have c11 := hc 11 _ rfl
      have c12 := hc 12 _ rfl
      have c13 := hc 13 _ rfl
      have c14 := hc 14 _ rfl
      have c15 := hc 15 _ rfl
      simp only [Nat.add_zero] at c0
      clear hc hy hmem hv hnum hrd
      go_upto_region 6 with fail
      have HPI := hidden (PvIn.new wr y 59)
      have hal := (Below.refl wr.heap.size wr).alloc (Nat.le_refl _) (.cells #[.int .i64 y.t, .slice y.pr.p y.pr.n y.pr.c, .int .i64 y.eg, .slice y.ed.p y.ed.n y.ed.c, .int .i64 y.ik, .slice y.id.p y.id.n y.id.c, .int .i64 y.am, .slice y.ad.p y.ad.n y.ad.c, .int .i64 y.np, .slice y.ns.p y.ns.n y.ns.c, .int .i64 y.nt, .slice y.nd.p y.nd.n y.nd.c, .int .i64 y.dp, .slice y.ds.p y.ds.n y.ds.c, .slice y.se.p y.se.n y.se.c, .slice y.da.p y.da.n y.da.c] 59)
      have HS5 := hidden (HS.out.below hal)
      generalize World.alloc wr _ = w5 at *
      generalize wr.heap.size = G5 at *
      clear hal HS c0 c1 c2 c3 c4 c5 c6 c7 c8 c9 c10 c11 c12 c13 c14 c15
      obtain ⟨c0, c1, c2, c3, c4, c5, c6, c7, c8, c9, c10, c11, c12, c13, c14, c15, -⟩ := HPI.out
      clear HPI
      go_upto_region 7 with (first
        | (go_at_call 26; (with_reducible refine (HPB.out _ HS5.out.bel).mono ?_); rintro e w7 ⟨q, N, d, bs, rfl, hb7, hel, hN8⟩; have HS7 := hidden (HS5.out.below hb7); have HEL := hidden hel; have HLT := hidden (HS5.out.row.lt); clear hb7 hel HPB)
        | fail)
      have hal := (Below.refl w7.heap.size w7).alloc (Nat.le_refl _) (.cells #[.int .i64 y.t, .bool false, .slice q N d] 82)
      have HS8 := hidden (HS7.out.below hal)
      have HEP := hidden (show ElemP (fun W => Byt W q N d bs) (w7.alloc (.cells #[.int .i64 y.t, .bool false, .slice q N d] 82)) w.heap.size (.slice pv j cv) from (ElemP.new HEL.out HS5.out.bel.size (fun q e => (HLT.out q e).2)).below hal)
      have r0 : (w7.alloc (.cells #[.int .i64 y.t, .bool false, .slice q N d] 82)).cell? ⟨w7.heap.size, 0, none⟩ = some (.int .i64 y.t) := by go_simp
      have r1 : (w7.alloc (.cells #[.int .i64 y.t, .bool false, .slice q N d] 82)).cell? ⟨w7.heap.size, 1, none⟩ = some (.bool false) := by go_simp
      have r2 : (w7.alloc (.cells #[.int .i64 y.t, .bool false, .slice q N d] 82)).cell? ⟨w7.heap.size, 2, none⟩ = some (.slice q N d) := by go_simp
      generalize World.alloc w7 _ = w8 at *
      generalize w7.heap.size = G7 at *
      clear hal HS7 HEL HLT HS5 c0 c1 c2 c3 c4 c5 c6 c7 c8 c9 c10 c11 c12 c13 c14 c15
      go_upto_region 14 with (first
        | (go_at_call 27; (with_reducible refine (HWR.out _).mono ?_); rintro e w9 ⟨rfl, rfl⟩)
        | (at_builtin; go_loud (refine wpList_append_w knownRw (by simp [NRw]) _ rfl _ _ rfl w.heap.size _ L rfl (HS8.out.row.alloc _) _ 1 1 [⟨y.t, false, q, N, d, bs⟩] rfl (by omega) (SrcG.new KRw _ [⟨y.t, false, q, N, d, bs⟩] _) (fun x hx => trivial) (by unfold maxLen; omega) (by omega) (by have := HS8.out.bel.size; simp; omega) ?_))
        | fail)
      intro v10 w10 HR10 HG10 HQ10
      have hal := (Below.refl w9.heap.size w9).alloc (Nat.le_refl _) (.cells #[.int .i64 y.t, .bool false, .slice q N d] 82)
      have HS10 := hidden ((HS8.out.below hal).app (HEP.out.below hal) HR10.out HG10.out (by rw [World.size_alloc]; exact HQ10.out))
      clear hal HS8 HEP HR10 HG10 HQ10 r0 r1 r2
      go_wp2_with fail
      go_roundw
      case rel => exact ⟨j + 1, _, by omega, by go_num, rfl, by simp [hL], HS10.out, fun z hz => by
        rcases List.mem_append.1 hz with hz | hz
        · exact HN8.out z hz
        · rw [List.mem_singleton.1 hz]; exact hN8⟩
      case measure => simp [intOf] <;> omega
    · have hjn2 : ¬ (j : Int) < (n : Int) := by omega
      have hbo := HS.out.bods
      obtain ⟨p2, c2, e2, hrd⟩ := rdr_of HS.out.row hL hbo
      simp only [Value.slice.injEq] at e2
      obtain ⟨rfl, -, rfl⟩ := e2
      obtain ⟨⟨K, LL, E⟩, hE⟩ : ∃ X, buildC (L.map RawP.raw) 0 = X := ⟨_, rfl⟩
      have HBC := hidden (buildC_any pv j cv L 0 wr hrd K LL E hE)
      have HRG := hidden (show ∀ z ∈ LL, 0 ≤ z ∧ z ≤ 255 by
        have h9 := buildC_rng (L.map RawP.raw) 0 (fun r hr => by
          obtain ⟨x, hx, rfl⟩ := List.mem_map.1 hr
          exact (hbo x hx).rng)
        rw [hE] at h9
        exact h9)
      have HLL := hidden (show LL.length ≤ 60000 by
        have h9 := buildC_len (L.map RawP.raw) 0 (fun r hr => by
          obtain ⟨x, hx, rfl⟩ := List.mem_map.1 hr
          have h7 := HN8.out x hx
          have h6 := (hbo x hx).len
          show x.b.length ≤ 8000
          omega)
        rw [hE, List.length_map] at h9
        show LL.length ≤ 60000
        simp only at h9
        omega)
      have HBW := hidden HS.out.bel
      unfold BuiltC at HBC
      clear hbo hrd hE HS
      go_wp2_with (first
        | (go_at_call 28; (with_reducible refine (HBC.out).mono ?_); rintro e w7 ⟨v7, rfl, ho, hb⟩; have HO := hidden ho; have HB7 := hidden (HBW.out.trans (hb.mono HBW.out.size)); clear ho hb)
        | fail)
      go_ret3
      exact ⟨K, v7, LL, E, rfl, HO.out.mono1 HBW.out.size, HRG.out, HLL.out, HB7.out⟩
end Go.Proofs.YtkniifopfgeopaaGreat
