/-
  The law ChainWrites, walked: it returns true for every input, and only adds memory of its own.
-/
import Derived.Test.YtdlcdegfoadajaaChainReturnsWalk
import Derived.Test.YtdlcdegfoadajaaMod
namespace Go.Proofs.Ytdlcdegfoadajaa
open Go.RowKit
set_option linter.unusedVariables false

theorem Rws.setK {w : World} {base g n c : Nat} {l : List RawP} (h : Rws w base (.slice (some ⟨g, 0, none⟩) n c) l) (hn : l.length = n) (j : Nat) (hj : j < l.length) (k : Int) :
    Rws (w.setCell ⟨g, j * 3, none⟩ (.int .i64 k)) base (.slice (some ⟨g, 0, none⟩) n c) (l.set j (l[j].withK k)) :=
  ⟨h.own.setK hn j hj k, fun x hx => by
    have ho := h.offB (base' := base)
    simp only [Value.ownBlock] at ho
    rcases List.mem_or_eq_of_mem_set hx with hx | rfl
    · exact Bod.grown (h.bods x hx) (grown_set w g _ _) ho
    · exact Bod.grown (h.bods l[j] (List.getElem_mem hj)) (grown_set w g _ _) ho⟩
theorem Rws.setB {w : World} {base g n c : Nat} {l : List RawP} (h : Rws w base (.slice (some ⟨g, 0, none⟩) n c) l) (hn : l.length = n) (j : Nat) (hj : j < l.length) (p : Option Addr) (a m : Nat) (b : List Int) (hb : Bod w base p a m b) :
    Rws (w.setCell ⟨g, j * 3 + 2, none⟩ (.slice p a m)) base (.slice (some ⟨g, 0, none⟩) n c) (l.set j (l[j].withB p a m b)) :=
  ⟨h.own.setB hn j hj p a m b, fun x hx => by
    have ho := h.offB (base' := base)
    simp only [Value.ownBlock] at ho
    rcases List.mem_or_eq_of_mem_set hx with hx | rfl
    · exact Bod.grown (h.bods x hx) (grown_set w g _ _) ho
    · exact Bod.grown hb (grown_set w g _ _) ho⟩

/-- append(nil, r...): a row that lies in a new block. -/
theorem wpList_append_new (w : World) {ops : Array Oper} {rest : List Oper} {o : Oper} {a : Act} {Q : Exit → Act → World → Prop} (hw : Region.wanted o (yielded ops a.tmps) = true) (s x : Operand)
    (ho : o.op = .call { callee := .builtin .append, args := #[s, x], argTypes := #[26, 26] })
    (base : Nat) (hs : a.eval s = .slice none 0 0)
    (p : Option Addr) (m c : Nat) (r : List RawP) (hx : a.eval x = .slice p m c) (hsrc : SrcR w p m r) (hr : ∀ x ∈ r, x.bod w base) (hb : m ≤ 1000000) (hbase : base ≤ w.heap.size)
    (h : ∀ v' w', Rws w' base v' r → (∀ g, v'.ownBlock = some g → w.heap.size ≤ g) → w.grownBy w' none → wpList Try.prog ops Q rest (a.put o.dst v') w') : wpList Try.prog ops Q (o :: rest) a w := by
  refine wpList_step fun K hK => ?_
  rw [if_pos hw]
  obtain ⟨i0, hi, hz0, hz1, hz2⟩ := info_parts Try.infoRaw
  have ht := Try.underlying26
  rcases Nat.eq_zero_or_pos m with h0 | h0
  · subst h0
    have hr0 : r = [] := List.eq_nil_of_length_eq_zero hsrc.1
    subst hr0
    obtain ⟨v', w', hrun, h2, h3⟩ := run_append_rws w w.heap.size o.type (.slice none 0 0) [] (Rws.nil _ _) p 0 c [] hsrc (fun x hx => by cases hx) (by simp) (Nat.le_refl _)
    unfold Oper.wp execOp
    simp only [ho, resolve, invoke, builtin, Sem.run_bind, Sem.run_pure, Result.andThen_ok, List.map_toArray, List.map_cons, List.map_nil, hs, hx, hrun]
    exact hK _ _ (h v' w' (h2.mono hbase) (fun g hg => (h2.own.lt g hg).1) h3)
  · obtain ⟨ad, rfl, hcells⟩ := hsrc.2 h0
    obtain ⟨v', w', hrun, h2, h3, _⟩ := run_append_own (P := Try.prog) w w.heap.size 26 o.type 43 i0 _ 3 40 ht hi hz0 hz1 hz2 rfl (by decide) (.slice none 0 0) 0 [] (World.ownsRow_nil w _ _ 3) ad m c (rowC r) (by rw [rowC_len, hsrc.1])
      hcells (rowC_one r) (by unfold maxLen; omega) (by omega) (Nat.le_refl _)
    have h2' : OwnR w' w.heap.size 43 v' r := by
      unfold OwnR
      rw [hsrc.1]
      simpa using h2
    have h3' : w.grownBy w' none := h3
    have hrw : Rws w' w.heap.size v' r → Rws w' base v' r := fun h => h.mono hbase
    unfold Oper.wp execOp
    simp only [ho, resolve, invoke, builtin, Sem.run_bind, Sem.run_pure, Result.andThen_ok, List.map_toArray, List.map_cons, List.map_nil, hs, hx, hrun]
    refine hK _ _ (h v' w' ⟨?_, fun x hx => (hr x hx).grown h3' (OffB.none _ _)⟩ (fun g hg => (h2'.lt g hg).1) h3')
    refine ⟨h2'.1, ?_⟩
    rcases h2'.2 with h4 | ⟨g, cap, cur, hv, hg, rest⟩
    · exact Or.inl h4
    · exact Or.inr ⟨g, cap, cur, hv, by omega, rest⟩

/-- The choices and the drawn row stay while another row is written. -/
theorem DS.store {W w wr w' : World} {k : Nat} {v : Value} {l : List RawP} {g : Nat} (h : DS W w wr k v l) (hg : wr.grownBy w' (some g)) (hk : g ≠ k) (hv : v.ownBlock ≠ some g) (ho : OffB wr w.heap.size (some g)) (hb : w.heap.size ≤ g) : DS W w w' k v l :=
  ⟨h.cod.grown hg (by simp; omega) (fun j e => by cases e; have := h.klt; have := h.cod.base; omega), grown_own h.gr hg (fun j e => by cases e; exact hb), h.rws.grown hg (fun r e => by cases e; exact hv) ho, h.klt⟩

theorem DS.storeO {W w wr w' : World} {k : Nat} {v : Value} {l : List RawP} {row : Option Nat} (h : DS W w wr k v l) (hg : wr.grownBy w' row) (hne : ∀ g, row = some g → g ≠ k ∧ v.ownBlock ≠ some g ∧ w.heap.size ≤ g) (ho : OffB wr w.heap.size row) : DS W w w' k v l :=
  ⟨h.cod.grown hg (fun e => (hne k e.symm).1 rfl) (fun j e => by have := (hne j e).2.2; have := h.klt; have := h.cod.base; omega), grown_own h.gr hg (fun j e => (hne j e).2.2), h.rws.grown hg (fun r e => (hne r e).2.1) ho, h.klt⟩

/-- Element q of a row of rows of payloads. -/
def RowAt (w : World) (g q : Nat) : Prop := ∃ (p : Option Addr) (n c : Nat) (l : List RawP), w.cell? ⟨g, q, none⟩ = some (.slice p n c) ∧ RdR w p n c l
theorem rows3 (w : World) (p0 p1 p2 : Option Addr) (n0 n1 n2 c0 c1 c2 : Nat) (l0 l1 l2 : List RawP) (T : TypeId) (h0 : RdR w p0 n0 c0 l0) (h1 : RdR w p1 n1 c1 l1) (h2 : RdR w p2 n2 c2 l2) :
    ∀ q, q < 3 → RowAt (w.alloc (.cells #[.slice p0 n0 c0, .slice p1 n1 c1, .slice p2 n2 c2] T)) w.heap.size q := by
  intro q hq
  have hb : ∀ o, Below w.heap.size w (w.alloc o) := fun o => (Below.refl _ w).alloc (Nat.le_refl _) o
  have : q = 0 ∨ q = 1 ∨ q = 2 := by omega
  rcases this with rfl | rfl | rfl
  · exact ⟨p0, n0, c0, l0, by go_simp, h0.below (hb _)⟩
  · exact ⟨p1, n1, c1, l1, by go_simp, h1.below (hb _)⟩
  · exact ⟨p2, n2, c2, l2, by go_simp, h2.below (hb _)⟩

/-- What the law holds behind the change of one payload. -/
def BadR (W w w' : World) (k : Nat) (v : Value) (l : List RawP) (va : Value) : Prop := DS W w w' k v l ∧ ∃ l', l'.length = l.length ∧ Rws w' w.heap.size va l'

set_option maxHeartbeats 3200000 in
set_option maxRecDepth 100000 in
theorem chainWrites_walk (p : Option Addr) (n c : Nat) (xs : List Int) (lst kind : Int) (w : World) (h : Byt w p n c xs) (b0 : c ≤ 140737488351232) (g1 : -9223372036854775808 ≤ lst ∧ lst ≤ 9223372036854775807) (g2 : -9223372036854775808 ≤ kind ∧ kind ≤ 9223372036854775807) :
    Calls Try.prog 4 #[.slice p n c, .int .i64 lst, .int .i64 kind] w fun e w' => e = .returned (.bool true) ∧ Below w.heap.size w w' := by
  obtain ⟨i0, hi0, hz0, hz1, hz2⟩ := info_parts Try.infoByte
  have HX := hidden h
  have HA := hidden (awake03_any w)
  clear h
  go_enter Try.func4, Try.ntmps4
  go_wp2_with (go_at_call 8; (with_reducible refine (HA.out).mono ?_))
  rintro e w1 ⟨rfl, hb⟩
  have HB1 := hidden hb
  clear hb HA
  go_wp2_with (go_at_call 9; (refine (new_any w p n c xs w1 HX.out HB1.out 120 (by omega)).mono ?_))
  rintro e w2 ⟨rfl, hc, hb⟩
  have HC2 := hidden hc
  clear hc hb HB1 HX
  generalize w1.heap.size = k at *
  go_wp2_with (go_at_call 10; (with_reducible refine (draw_any w w2 k HC2.out).mono ?_))
  rintro e w3 ⟨v, l, last, rfl, hgood, hds⟩
  obtain ⟨pv, cv, rfl, hrd⟩ := hds.rws.rd rfl
  have HD3 := hidden hds
  have hfew := hgood.few
  have hklt := hds.klt
  have hs3 := hds.gr.size
  clear hgood hds HC2
  go_wp2_with (at_builtin; go_loud (refine wpList_append_new _ rfl _ _ rfl w2.heap.size rfl _ _ _ _ rfl HD3.out.rws.src HD3.out.rws.bods ?c2 hs3 ?_))
  case c2 => omega
  intro va u4 hra hnew hga
  have hb4 : Below w3.heap.size w3 u4 := ⟨hga.os, hga.tape, hga.output, hga.size, fun i hi => hga.block i (by omega) (by simp)⟩
  have HD4 := hidden (HD3.out.below hb4)
  have HRA := hidden hra
  have HNE := hidden (show ∀ g, va.ownBlock = some g → (Value.slice pv l.length cv).ownBlock ≠ some g ∧ g ≠ k ∧ w2.heap.size ≤ g from fun g hg => by
    have h1 := hnew g hg
    exact ⟨fun e => by have := (HD3.out.rws.own.lt g e).2; omega, by omega, by omega⟩)
  obtain ⟨pa, ca, rfl, _⟩ := hra.rd rfl
  clear hra hnew hga hb4 HD3 hrd
  go_upto_if 38 with fail
  go_cut [11] from 36 to 66 (fun i w' => BadR w w2 w' k (.slice pv l.length cv) l (.slice pa l.length ca))
  case first =>
    rcases Nat.eq_zero_or_pos l.length with h0 | h0
    · have h0' : ¬ (0 : Int) < (l.length : Int) := by omega
      clear h0
      go_wp2
      go_meet
      case rel => exact ⟨HD4.out, l, rfl, HRA.out⟩
    · obtain ⟨g, c', he, _, _, hg0, hg1, _, _⟩ := HRA.out.own.at_ rfl h0
      simp at he
      obtain ⟨rfl, rfl⟩ := he
      obtain ⟨hn1, hn2, hn3⟩ := HNE.out g rfl
      have HN1 := hidden hn1
      have h0' : (0 : Int) < (l.length : Int) := by omega
      go_wp2_with (go_at_call 17; (with_reducible refine (next_ds w w2 _ k _ _ HD4.out _ ?_).mono ?_); omega)
      rintro e u5 ⟨i, rfl, j0, j1, hd, hg⟩
      obtain ⟨i, rfl⟩ := Int.eq_ofNat_of_zero_le j0
      have hil : i < l.length := by omega
      have HD5 := hidden hd
      have HRA5 := hidden (HRA.out.low hg hklt)
      clear hd hg HD4 HRA hn1 hg1
      go_wp2_with (go_at_call 17; (with_reducible refine (next_ds w w2 _ k _ _ HD5.out _ ?_).mono ?_); omega)
      rintro e u6 ⟨t, rfl, t0, t1, hd, hg⟩
      have HD6 := hidden hd
      have HRA6 := hidden (HRA5.out.low hg hklt)
      clear hd hg HD5 HRA5
      by_cases ht0 : t = 0
      · subst ht0
        go_wp2_with (go_at_call 18; (with_reducible refine (int_any w u6 k HD6.out.cod).mono ?_))
        rintro e u7 ⟨y, rfl, y0, y1, hc, hg⟩
        have HD7 := hidden (HD6.out.next hc hg)
        have HRA7 := hidden (HRA6.out.low hg hklt)
        obtain ⟨_, _, he, _, _, _, _, hcell, hfr⟩ := HRA7.out.own.at_ rfl h0
        simp at he
        obtain ⟨rfl, rfl⟩ := he
        have hx := hcell _ _ (rowC_get l i hil).1
        have hf := hfr (i * 3)
        clear hc hg HD6 HRA6 hcell hfr
        go_wp2
        go_meet
        case rel => exact ⟨HD7.out.store (grown_set _ _ _ _) hn2 HN1.out HRA7.out.offB hn3, _, by simp, HRA7.out.setK rfl i hil y⟩
      have e0 : (t == 0) = false := by simpa using ht0
      by_cases ht1 : t = 1
      · subst ht1
        obtain ⟨_, _, he, _, _, _, _, hcell, hfr⟩ := HRA6.out.own.at_ rfl h0
        simp at he
        obtain ⟨rfl, rfl⟩ := he
        have hx := hcell _ _ (rowC_get l i hil).1
        have hf := hfr (i * 3)
        clear hcell hfr
        go_wp2
        go_meet
        case rel => exact ⟨HD6.out.store (grown_set _ _ _ _) hn2 HN1.out HRA6.out.offB hn3, _, by simp, HRA6.out.setK rfl i hil 46⟩
      have e1 : (t == 1) = false := by simpa using ht1
      clear ht0 ht1
      go_wp2_with (go_at_call 17; (with_reducible refine (next_ds w w2 _ k _ _ HD6.out _ ?_).mono ?_); omega)
      rintro e u7 ⟨s, rfl, s0, s1, hd, hg⟩
      obtain ⟨s, rfl⟩ := Int.eq_ofNat_of_zero_le s0
      have HD7 := hidden hd
      have HRA7 := hidden (HRA6.out.low hg hklt)
      have hs7 := hd.gr.size
      clear hd hg HD6 HRA6
      go_wp2_with (at_make; refine wpList_make_byt _ rfl _ _ 22 rfl w2.heap.size 5 i0 Try.underlying22 hi0 hz0 hz1 hz2 _ _ _ _ (65530 + s) (65530 + s) rfl rfl ?m1 ?m2 ?m3 ?m4 hs7 ?_)
      case m1 => simp
      case m2 => simp
      case m3 => omega
      case m4 => omega
      intro u8 hown hg
      have hb8 : Below u7.heap.size u7 u8 := ⟨hg.os, hg.tape, hg.output, hg.size, fun i hi => hg.block i (by omega) (by simp)⟩
      have hbod : Bod u8 w2.heap.size (some ⟨u7.heap.size, 0, none⟩) (65530 + s) (65530 + s) (List.replicate (65530 + s) 0) := by
        obtain ⟨p', c', he, hb⟩ := hown.bod (n := 65530 + s) (by simp) (by intro z hz; have := List.eq_of_mem_replicate hz; omega)
        simp at he
        obtain ⟨rfl, rfl⟩ := he
        exact hb
      have HD8 := hidden (HD7.out.below hb8)
      have HRA8 := hidden (HRA7.out.below hb8)
      have HBO := hidden hbod
      obtain ⟨_, _, he, _, _, _, _, hcell, hfr⟩ := HRA8.out.own.at_ rfl h0
      simp at he
      obtain ⟨rfl, rfl⟩ := he
      have hx := hcell _ _ (rowC_get l i hil).2.2
      have hf := hfr (i * 3 + 2)
      clear hown hg hb8 hbod HD7 HRA7 hcell hfr
      go_wp2
      go_meet
      case rel => exact ⟨HD8.out.store (grown_set _ _ _ _) hn2 HN1.out HRA8.out.offB hn3, _, by simp, HRA8.out.setB rfl i hil _ _ _ _ HBO.out⟩
  case rest =>
    obtain ⟨hds, l', hl', hrb⟩ := hcut
    have HDc := hidden hds
    have HRB := hidden hrb
    have HLL := hidden hl'
    have HV := hidden (fun g e => (hds.rws.own.lt g e).2)
    have HVA := hidden (fun g e => (hrb.own.lt g e).2)
    have hkc := hds.cod.lt
    have hsc := hds.gr.size
    clear hds hl' hrb HD4 HRA HNE
    go_wp2
    go_loopw [12, 13] (fun u i wr => ∃ j : Nat, j ≤ 41 ∧ i = .int .i64 j ∧ DS w w2 wr k (.slice pv l.length cv) l ∧ (∃ l', l'.length = l.length ∧ Rws wr w2.heap.size (.slice pa l.length ca) l') ∧ (∃ r : List RawP, r.length = j ∧ Rws wr wc.heap.size u r) ∧ wc.heap.size ≤ wr.heap.size) (fun _ i _ => 41 - (intOf i).toNat)
    case atStart => exact ⟨0, by omega, rfl, HDc.out, ⟨l', HLL.out, HRB.out⟩, ⟨[], rfl, Rws.nil _ _⟩, Nat.le_refl _⟩
    case round =>
      obtain ⟨j, hj, rfl, hds, ⟨l2, hl2, hrb2⟩, ⟨r, hrl, hrr⟩, hwc⟩ := hrel
      have HD5 := hidden hds
      have HR5 := hidden hrb2
      have HL5 := hidden hl2
      have HU5 := hidden hrr
      have HUL := hidden hrl
      clear hds hrb2 hl2 hrr hrl HDc HRB HLL
      go_wp2_with (go_at_call 17; (with_reducible refine (next_ds w w2 _ k _ _ HD5.out _ ?_).mono ?_); omega)
      rintro e u6 ⟨t, rfl, t0, t1, hd, hg⟩
      have HD6 := hidden hd
      have HR6 := hidden (HR5.out.low hg hklt)
      have HU6 := hidden (HU5.out.low hg hkc)
      have hw6 := Nat.le_trans hwc hg.size
      clear hd hg HD5 HR5 HU5
      by_cases hlt : (j : Int) < 40 + t
      · have hrl := HUL.out
        go_wp2_with (at_builtin; go_loud (refine wpList_append_rws _ rfl _ _ rfl wc.heap.size _ r rfl (HU6.out.alloc _) _ _ _ _ rfl (SrcR.new u6 41 false none 0 0 [] _) ?c1 ?c2 ?c3 ?_))
        case c1 =>
          intro x hx
          rw [List.mem_singleton.1 hx]
          exact Bod.nil _ _ _ _ (Nat.zero_le _)
        case c2 => omega
        case c3 => simp; omega
        intro u' u7 hr7 hg7
        have hlo := fun g e => (HU6.out.own.lt g e).1
        have hoff : ∀ b, OffB (u6.alloc (.cells #[.int .i64 41, .bool false, .slice none 0 0] 43)) b _ := fun b => (HU6.out.alloc (.cells #[.int .i64 41, .bool false, .slice none 0 0] 43)).offB (base' := b)
        have HD7 := hidden ((HD6.out.alloc (.cells #[.int .i64 41, .bool false, .slice none 0 0] 43)).storeO hg7 (fun g e => ⟨by have := hlo g e; omega, fun h => by have := HV.out g h; have := hlo g e; omega, by have := hlo g e; omega⟩) (hoff _))
        have HR7 := hidden ((HR6.out.alloc (.cells #[.int .i64 41, .bool false, .slice none 0 0] 43)).grown hg7 (fun g e h => by have := HVA.out g h; have := hlo g e; omega) (hoff _))
        have HU7 := hidden hr7
        have hw7 : wc.heap.size ≤ u7.heap.size := by have := hg7.size; simp at this; omega
        clear hr7 hg7 hlo hoff HD6 HR6 HU6
        go_wp2
        go_roundw
        case rel => exact ⟨j + 1, by omega, by go_num, HD7.out, ⟨l2, HL5.out, HR7.out⟩, ⟨_, by simp; omega, HU7.out⟩, hw7⟩
        case measure => simp [intOf]; omega
      · obtain ⟨pm, cm, rfl, _⟩ := HU6.out.rd HUL.out
        clear hj
        go_wp2
        obtain ⟨_, _, he, hrl⟩ := HD6.out.rws.rd rfl
        simp at he
        obtain ⟨rfl, rfl⟩ := he
        obtain ⟨_, _, he, hra⟩ := HR6.out.rd HL5.out
        simp at he
        obtain ⟨rfl, rfl⟩ := he
        obtain ⟨_, _, he, hrm⟩ := HU6.out.rd HUL.out
        simp at he
        obtain ⟨rfl, rfl⟩ := he
        have HI := hidden (rows3 u6 _ _ _ _ _ _ _ _ _ _ _ _ 26 hrl hra hrm)
        have HB6 := hidden (HD6.out.cod.bel.alloc HD6.out.cod.bel.size (.cells #[.slice pv l.length cv, .slice pa l.length ca, .slice pm j cm] 26))
        generalize hwi : u6.alloc (.cells #[.slice pv l.length cv, .slice pa l.length ca, .slice pm j cm] 26) = wi at *
        clear hwi hrl hra hrm HD6 HR6 HU6 HV HVA HL5 HUL hkc hsc hwc hw6 hlt
        generalize u6.heap.size = gs at *
        go_loopw [83] (fun i wq => ∃ t : Nat, t ≤ 3 ∧ i = .int .i64 t ∧ Below wi.heap.size wi wq) (fun i _ => 3 - (intOf i).toNat)
        case atStart => exact ⟨0, by omega, rfl, Below.refl _ _⟩
        case round =>
          obtain ⟨t, ht, rfl, hbq⟩ := hrel
          have HBq := hidden hbq
          by_cases h3 : t < 3
          · obtain ⟨px, nx, cx, lx, cell0, hrd⟩ := HI.out t h3
            have d0 := cell_below hbq _ _ cell0
            have HRX := hidden (hrd.below hbq)
            clear hbq cell0 hrd
            have h3b : decide ((t : Int) < 3) = true := by simp; omega
            go_wp2
            have HIZ := hidden (show ∀ q, q < 3 → ∃ z : Int, (wr.alloc (.cells #[.int .i64 last, .int .i64 lst, .int .i64 0] 3)).cell? ⟨wr.heap.size, q, none⟩ = some (.int .i64 z) from fun q hq => by
              have : q = 0 ∨ q = 1 ∨ q = 2 := by omega
              rcases this with rfl | rfl | rfl
              · exact ⟨last, by go_simp⟩
              · exact ⟨lst, by go_simp⟩
              · exact ⟨0, by go_simp⟩)
            have HRZ := hidden (HRX.out.below ((Below.refl _ wr).alloc (Nat.le_refl _) (.cells #[.int .i64 last, .int .i64 lst, .int .i64 0] 3)))
            have HBz := hidden (HBq.out.alloc HBq.out.size (.cells #[.int .i64 last, .int .i64 lst, .int .i64 0] 3))
            generalize hwz : wr.alloc (.cells #[.int .i64 last, .int .i64 lst, .int .i64 0] 3) = wz at *
            clear hwz HRX HBq d0
            generalize wr.heap.size = gz at *
            go_loopw [91] (fun i ws => ∃ s : Nat, s ≤ 3 ∧ i = .int .i64 s ∧ Below wz.heap.size wz ws) (fun i _ => 3 - (intOf i).toNat)
            case atStart => exact ⟨0, by omega, rfl, Below.refl _ _⟩
            case round =>
              obtain ⟨s, hs, rfl, hbs⟩ := hrel
              have HBs := hidden hbs
              by_cases h3s : s < 3
              · obtain ⟨z, cz⟩ := HIZ.out s h3s
                have dz := cell_below hbs _ _ cz
                have HRs := hidden (HRZ.out.below hbs)
                rcases hbv : buildC (lx.map RawP.raw) z with ⟨ka, La, Ea⟩
                have HBA := hidden (fun w (h : RdR w px nx cx lx) => build_val px nx cx lx z w h ka La Ea hbv)
                have HBB := hidden (fun w (h : RdR w px nx cx lx) => rbuild_val px nx cx lx z w h ka La Ea hbv)
                clear hbs cz hbv
                go_wp2_with (go_at_call 19; (with_reducible refine (HBA.out _ HRs.out).mono ?_))
                rintro e wa ⟨qa, ma, da, rfl, hya, _, hba⟩
                have HYa := hidden hya
                have HRa := hidden (HRs.out.below hba)
                have HBa := hidden (HBs.out.trans (hba.mono HBs.out.size))
                clear hya hba HRs HBs HBA dz
                go_wp2_with (go_at_call 11; (with_reducible refine (HBB.out _ HRa.out).mono ?_))
                rintro e wb ⟨qb, mb, db, rfl, hyb, _, hbb⟩
                have HEQ := hidden ((requal_any qa qb ma da mb db La La wb (HYa.out.below hbb) hyb).mono (R' := fun e w' => e = .returned (.bool true) ∧ ∃ r, w' = wb.drewN r) (fun e w' ⟨h1, h2⟩ => ⟨by rw [h1]; simp, h2⟩))
                have HBb := hidden (HBa.out.trans (hbb.mono HBa.out.size))
                have ha1 : (ka != ka) = false := by simp
                have ha2 : (Ea != Ea) = false := by simp
                clear hyb hbb HYa HRa HBa HBB
                go_wp2_with (go_at_call 20; (with_reducible refine (HEQ.out).mono ?_); rintro e w' ⟨rfl, rr, rfl⟩)
                go_roundw
                case rel => exact ⟨s + 1, by omega, by go_num, HBb.out.trans (drew_below ⟨_, rfl⟩)⟩
                case measure => simp [intOf]; omega
              · obtain rfl : s = 3 := by omega
                go_wp2
                go_roundw
                case rel => exact ⟨t + 1, by omega, by go_num, HBz.out.trans (HBs.out.mono HBz.out.size)⟩
                case measure => simp [intOf]; omega
          · obtain rfl : t = 3 := by omega
            have hm0 := Int.emod_nonneg kind (show (258 : Int) ≠ 0 by decide)
            have hm1 := Int.emod_lt_of_pos kind (show (0 : Int) < 258 by decide)
            have HKN := hidden (fun k w => known_any k w)
            have HRK := hidden (fun k w => rknown_any k w)
            obtain ⟨ba, hba⟩ : ∃ b, knownK kind = b := ⟨_, rfl⟩
            obtain ⟨bb, hbb⟩ : ∃ b, knownK (kind % 258 - 1) = b := ⟨_, rfl⟩
            have e1 : (ba == ba) = true := by simp
            have e2 : (bb == bb) = true := by simp
            go_wp2_with (first
              | (go_at_call 12; (with_reducible refine (mod_any kind 258 _ g2 (by omega)).mono ?_); rintro e w' ⟨rfl, rfl⟩)
              | (go_at_call 21; (with_reducible refine (HKN.out _ _).mono ?_); rintro e w' ⟨rfl, rfl⟩)
              | (go_at_call 22; (with_reducible refine (HRK.out _ _).mono ?_); rintro e w' ⟨rfl, rfl⟩))
            go_ret
            exact ⟨by simp, HB6.out.trans (HBq.out.mono HB6.out.size)⟩
end Go.Proofs.Ytdlcdegfoadajaa
