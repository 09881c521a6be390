/-
  message.read: whatever raw payloads, a message and no error, or an error that has a notification.
-/
import Derived.Test.YtnbkffehhahckaaGreatJZ26
import Derived.Test.YtnbkffehhahckaaGreatJMkMsg
import Derived.Test.YtnbkffehhahckaaGreatJZ12
namespace Go.Proofs.YtnbkffehhahckaaGreat
open Go.RowKit
set_option linter.unusedVariables false
set_option linter.unusedSimpArgs false
theorem note_gd {t : Int} {xs : List Int} {base : Nat} {w' : World} {x : Pv} (h : (gdK t xs).ok base w' x) (hx : x.t = t) (ht : 0 ≤ t ∧ t ≤ 255) (hr : ∀ z ∈ xs, 0 ≤ z ∧ z ≤ 255) (hl : xs.length ≤ 1000000) : ∀ W, Kpt w' W base → NoteOk W x := by
  obtain ⟨C, h1, h2⟩ := h
  intro W hW
  subst hx
  have hp : PvRk W x C := h1 W hW
  have sz := rd_sz x.t xs hr hl x C W hp h2
  exact ⟨⟨by omega, by omega⟩, fun e => ⟨_, (hp.a41 e).ns⟩, fun e => ⟨_, (hp.a41 e).nd⟩, fun e => Nat.le_trans (sz.ns e) (by omega), fun e => Nat.le_trans (sz.nd e) (by omega)⟩
theorem MIn.putS {w : World} {g : Nat} {i r nx x f m : Int} {v : Value} (h : MIn w g i r nx x f m v) (v' : Value) : MIn (w.setCell ⟨g, 6, none⟩ v') g i r nx x f m v' := by
  obtain ⟨c0, c1, c2, c3, c4, c5, c6, fr⟩ := h
  exact ⟨by go_simp, by go_simp, by go_simp, by go_simp, by go_simp, by go_simp, by go_simp, fun j => by rw [World.frozen?_setCell]; exact fr j⟩
structure RSt (w : World) (g M : Nat) (i r nx x f m : Int) (v : Value) (l : List Pv) (wr : World) : Prop where
  bel : Below w.heap.size w wr
  res : MIn wr g 0 0 0 0 0 0 (.slice none 0 0)
  msg : MIn wr M i r nx x f m v
  row : RowG KPv NTv wr (M + 1) v l
  el : ∀ y ∈ l, ElemP (fun W => NoteOk W y) wr (M + 1) v
  ge : M + 1 ≤ wr.heap.size
theorem RSt.below {w : World} {g M : Nat} {i r nx x f m : Int} {v : Value} {l : List Pv} {wr wy : World} (h : RSt w g M i r nx x f m v l wr) (hb : Below wr.heap.size wr wy) : RSt w g M i r nx x f m v l wy :=
  ⟨h.bel.trans (hb.mono h.bel.size), h.res.below hb, h.msg.below hb, h.row.below hb, fun y hy => (h.el y hy).step (grown_of_below hb none) (fun q e => by cases e), Nat.le_trans h.ge hb.size⟩
theorem RSt.app {w : World} {g M : Nat} {i r nx x f m : Int} {v v' : Value} {l : List Pv} {y : Pv} {wr wy : World} (h : RSt w g M i r nx x f m v l wr) (he : ElemP (fun W => NoteOk W y) wr (M + 1) v) (hrow : RowG KPv NTv wy (M + 1) v' (l ++ [y])) (hg : wr.grownBy wy v.ownBlock) (hq : ∀ q, v'.ownBlock = some q → v.ownBlock = some q ∨ wr.heap.size ≤ q) (hw : w.heap.size ≤ g) (hgM : g < M) :
    RSt w g M i r nx x f m v' (l ++ [y]) (wy.setCell ⟨M, 6, none⟩ v') := by
  have hlt := h.row.lt
  have hs := grown_set wy M 6 v'
  refine ⟨(h.bel.grown hg h.bel.size (fun q e => by have := hlt q e; omega)).setCell (show w.heap.size ≤ M by omega) _, ?_, ?_, hrow.low hs (by omega), fun z hz => ?_, Nat.le_trans h.ge (Nat.le_trans hg.size hs.size)⟩
  · exact (h.res.grown hg (fun e => by have := hlt _ e.symm; omega)).grown hs (by simp; omega)
  · exact (h.msg.grown hg (fun e => by have := hlt _ e.symm; omega)).putS _
  · rcases List.mem_append.1 hz with hz | hz
    · exact ((h.el z hz).app hg hq).step hs (fun q e => by cases e; exact .inl (by omega))
    · rw [List.mem_singleton.1 hz]
      exact (he.app hg hq).step hs (fun q e => by cases e; exact .inl (by omega))
def ReadM (w : World) (e : Ending) (w' : World) : Prop :=
  ∃ (i r nx x f m : Int) (q : Option Addr) (n d : Nat) (E : Int), e = .returned (.tuple #[.agg #[.int .u64 i, .int .u64 r, .int .i64 nx, .int .i64 x, .int .i64 f, .int .u32 m, .slice q n d], .int .i64 E]) ∧ Rp0 E ∧ Below w.heap.size w w'
theorem ret_msg2 {fn : Func} {R : Ending → World → Prop} {a : Act} {w : World} {p s : Nat} {g : Nat} {i r nx x f m : Int} {q : Option Addr} {n d : Nat} {u : Value} (h : fn.results = #[.cell p 30, .tmp s]) (hp : a.tmps.getD p undef = .pointer (some ⟨g, 0, none⟩)) (hs : a.tmps.getD s undef = u) (hd : a.defers = [])
    (hh : MIn w g i r nx x f m (.slice q n d)) (hR : R (.returned (.tuple #[.agg #[.int .u64 i, .int .u64 r, .int .i64 nx, .int .i64 x, .int .i64 f, .int .u32 m, .slice q n d], u])) w) : bodyPost Tryz.prog fn R .ret a w := by
  refine bodyPost_ret (v := .tuple #[.agg #[.int .u64 i, .int .u64 r, .int .i64 nx, .int .i64 x, .int .i64 f, .int .u32 m, .slice q n d], u]) ?_ hd hR
  rw [Array.getD_eq_getD_getElem?] at hp hs
  simp [results, h, hp, hs, asAddr, load_msg hh, Result.andThen]
theorem MIn.setAll {w : World} {g : Nat} {i r nx x f m : Int} {v : Value} (h : MIn w g i r nx x f m v) (i' r' nx' x' f' m' : Int) (v' : Value) :
    MIn (((((((w.setCell ⟨g, 0, none⟩ (.int .u64 i')).setCell ⟨g, 1, none⟩ (.int .u64 r')).setCell ⟨g, 2, none⟩ (.int .i64 nx')).setCell ⟨g, 3, none⟩ (.int .i64 x')).setCell ⟨g, 4, none⟩ (.int .i64 f')).setCell ⟨g, 5, none⟩ (.int .u32 m')).setCell ⟨g, 6, none⟩ v') g i' r' nx' x' f' m' v' := by
  obtain ⟨c0, c1, c2, c3, c4, c5, c6, fr⟩ := h
  exact ⟨by go_simp, by go_simp, by go_simp, by go_simp, by go_simp, by go_simp, by go_simp, fun j => by rw [World.frozen?_setCell, World.frozen?_setCell, World.frozen?_setCell, World.frozen?_setCell, World.frozen?_setCell, World.frozen?_setCell, World.frozen?_setCell]; exact fr j⟩
theorem below_setAll {B : Nat} {w0 w : World} (h : Below B w0 w) {g : Nat} (hg : B ≤ g) (i' r' nx' x' f' m' : Int) (v' : Value) :
    Below B w0 (((((((w.setCell ⟨g, 0, none⟩ (.int .u64 i')).setCell ⟨g, 1, none⟩ (.int .u64 r')).setCell ⟨g, 2, none⟩ (.int .i64 nx')).setCell ⟨g, 3, none⟩ (.int .i64 x')).setCell ⟨g, 4, none⟩ (.int .i64 f')).setCell ⟨g, 5, none⟩ (.int .u32 m')).setCell ⟨g, 6, none⟩ v') :=
  ((((((h.setCell hg _).setCell hg _).setCell hg _).setCell hg _).setCell hg _).setCell hg _).setCell hg _
theorem RSt.start (w : World) (i r nx x f m : Int) : RSt w (w.heap.size + 1) (w.heap.size + 1 + 1) i r nx x f m (.slice none 0 0) [] (((w.alloc (.cells #[.int .u64 i, .int .u64 r, .int .i64 nx, .int .i64 x, .int .i64 f, .int .u32 m] 27)).alloc (.cells #[.int .u64 0, .int .u64 0, .int .i64 0, .int .i64 0, .int .i64 0, .int .u32 0, .slice none 0 0] 30)).alloc (.cells #[.int .u64 i, .int .u64 r, .int .i64 nx, .int .i64 x, .int .i64 f, .int .u32 m, .slice none 0 0] 30)) := by
  have s1 : (w.alloc (.cells #[.int .u64 i, .int .u64 r, .int .i64 nx, .int .i64 x, .int .i64 f, .int .u32 m] 27)).heap.size = w.heap.size + 1 := World.size_alloc _ _
  have hb1 := (Below.refl w.heap.size w).alloc (Nat.le_refl _) (.cells #[.int .u64 i, .int .u64 r, .int .i64 nx, .int .i64 x, .int .i64 f, .int .u32 m] 27)
  generalize w.alloc _ = wa at *
  have hm := MIn.new wa 0 0 0 0 0 0 (.slice none 0 0) 30
  have s2 : (wa.alloc (.cells #[.int .u64 0, .int .u64 0, .int .i64 0, .int .i64 0, .int .i64 0, .int .u32 0, .slice none 0 0] 30)).heap.size = w.heap.size + 1 + 1 := by rw [World.size_alloc, s1]
  have hb2 := hb1.alloc hb1.size (.cells #[.int .u64 0, .int .u64 0, .int .i64 0, .int .i64 0, .int .i64 0, .int .u32 0, .slice none 0 0] 30)
  rw [s1] at hm
  generalize wa.alloc _ = wb at *
  have hn := MIn.new wb i r nx x f m (.slice none 0 0) 30
  have s3 : (wb.alloc (.cells #[.int .u64 i, .int .u64 r, .int .i64 nx, .int .i64 x, .int .i64 f, .int .u32 m, .slice none 0 0] 30)).heap.size = w.heap.size + 1 + 1 + 1 := by rw [World.size_alloc, s2]
  rw [s2] at hn
  exact ⟨hb2.alloc hb2.size _, hm.below ((Below.refl _ _).alloc (Nat.le_refl _) _), hn, RowG.nil _ _ _ _, fun y hy => (by cases hy), by rw [s3]; exact Nat.le_refl _⟩
end Go.Proofs.YtnbkffehhahckaaGreat
