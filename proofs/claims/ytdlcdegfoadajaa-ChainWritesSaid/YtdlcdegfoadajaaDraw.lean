/-
  The chain that a list of choices makes: some payloads that may be written.
-/
import Derived.Test.YtdlcdegfoadajaaRws
import Derived.Test.YtdlcdegfoadajaaMkBytes
import Derived.Test.YtdlcdegfoadajaaChainSteps
import Derived.Deep.RegionLaw
namespace Go.Proofs.Ytdlcdegfoadajaa
open Go.RowKit
set_option linter.unusedVariables false

/-- A drawn payload that is not sealed. -/
structure DrawK (x : RawP) : Prop where
  lo : 1 ≤ x.k
  hi : x.k ≤ 255
  open_ : lastK x.k = false
  small : x.b.length ≤ 8
/-- The payloads may be written, and are few and small. -/
structure GoodL (l : List RawP) (last : Int) : Prop where
  ok : OkC (l.map RawP.raw) last
  few : l.length ≤ 5
  small : ∀ x ∈ l, x.b.length ≤ 8

theorem err_open : ∀ (l : List RawP), (∀ x ∈ l, DrawK x) → errC (l.map RawP.raw) = 0
  | [], _ => rfl
  | x :: l, h => by
    obtain ⟨h1, h2, h3, h4⟩ := h x (by simp)
    have ih := err_open l (fun y hy => h y (by simp [hy]))
    simp only [List.map_cons, errC]
    rw [if_neg (by simp [RawP.raw]; omega), if_neg (by simp [RawP.raw]; omega), if_neg (by simp [RawP.raw, h3])]
    exact ih
theorem err_closed (z : RawP) (hz : 1 ≤ z.k ∧ z.k ≤ 255) (hb : z.b.length ≤ 8) : ∀ (l : List RawP), (∀ x ∈ l, DrawK x) → errC ((l ++ [z]).map RawP.raw) = 0
  | [], _ => by
    simp only [List.nil_append, List.map_cons, List.map_nil, errC]
    rw [if_neg (by simp [RawP.raw]; omega), if_neg (by simp [RawP.raw]; omega), if_neg (by simp)]
  | x :: l, h => by
    obtain ⟨h1, h2, h3, h4⟩ := h x (by simp)
    have ih := err_closed z hz hb l (fun y hy => h y (by simp [hy]))
    simp only [List.cons_append, List.map_cons, errC]
    rw [if_neg (by simp [RawP.raw]; omega), if_neg (by simp [RawP.raw]; omega), if_neg (by simp [RawP.raw, h3])]
    exact ih
theorem ends_closed (z : RawP) (hz : lastK z.k = true) (l : List RawP) : endsC ((l ++ [z]).map RawP.raw) = true := by
  rw [ends_last _ (by simp)]
  simp [RawP.raw, hz]
theorem good_open (l : List RawP) (h : ∀ x ∈ l, DrawK x) (hl : l.length ≤ 4) : GoodL l 0 :=
  ⟨⟨by simp; omega, err_open l h, by omega, Or.inl rfl⟩, by omega, fun x hx => (h x hx).small⟩
theorem good_closed (l : List RawP) (h : ∀ x ∈ l, DrawK x) (hl : l.length ≤ 4) (z : RawP) (hz : z.k = 46 ∨ z.k = 53) (hb : z.b.length ≤ 8) (last : Int) (h0 : 0 ≤ last) (h1 : last < 256) : GoodL (l ++ [z]) last :=
  ⟨⟨by simp; omega, err_closed z (by omega) hb l h, by omega, Or.inr (ends_closed z (by rcases hz with e | e <;> rw [e] <;> rfl) l)⟩, by simp; omega, fun x hx => by
    rcases List.mem_append.1 hx with hx | hx
    · exact (h x hx).small
    · rw [List.mem_singleton.1 hx]
      exact hb⟩

/-- The choices at k and the row v, in a call that began at w. -/
structure DS (W w wr : World) (k : Nat) (v : Value) (l : List RawP) : Prop where
  cod : Cod W wr k
  gr : w.grownBy wr (some k)
  rws : Rws wr w.heap.size v l
  klt : k < w.heap.size
theorem DS.alloc {W w wr : World} {k : Nat} {v : Value} {l : List RawP} (h : DS W w wr k v l) (o : Obj) : DS W w (wr.alloc o) k v l := ⟨h.cod.alloc o, grown_alloc_new h.gr o, h.rws.alloc o, h.klt⟩
theorem DS.drew {W w wr : World} {k : Nat} {v : Value} {l : List RawP} (h : DS W w wr k v l) : DS W w wr.drew k v l :=
  ⟨h.cod.below (drew_below ⟨1, rfl⟩), grown_trans h.gr (grown_drewN wr 1 _), h.rws.below (drew_below ⟨1, rfl⟩), h.klt⟩
theorem DS.next {W w wr w' : World} {k : Nat} {v : Value} {l : List RawP} (h : DS W w wr k v l) (hc : Cod W w' k) (hg : wr.grownBy w' (some k)) : DS W w w' k v l := ⟨hc, grown_trans h.gr hg, h.rws.low hg h.klt, h.klt⟩
/-- The row was written, or another one took its place. -/
theorem DS.row {W w wr w' : World} {k : Nat} {v v' : Value} {l l' : List RawP} (h : DS W w wr k v l) (hr : Rws w' w.heap.size v' l') (hg : wr.grownBy w' v.ownBlock) : DS W w w' k v' l' :=
  ⟨h.cod.grown hg (fun e => by have := (h.rws.own.lt k e.symm).1; have := h.klt; omega) (fun j hj => by have := (h.rws.own.lt j hj).1; have := h.klt; have := h.cod.base; omega), grown_own h.gr hg (fun j hj => (h.rws.own.lt j hj).1), hr, h.klt⟩

theorem next_ds (W w wr : World) (k : Nat) (v : Value) (l : List RawP) (h : DS W w wr k v l) (m : Int) (hm : 1 ≤ m ∧ m ≤ 9223372036854775807) :
    Calls Try.prog 17 #[.pointer (some ⟨k, 0, none⟩), .int .i64 m] wr fun e w' => ∃ r : Int, e = .returned (.int .i64 r) ∧ 0 ≤ r ∧ r < m ∧ DS W w w' k v l ∧ wr.grownBy w' (some k) :=
  (next_any W wr k h.cod m hm).mono fun e w' ⟨r, he, h0, h1, hc, hg⟩ => ⟨r, he, h0, h1, h.next hc hg, hg⟩
theorem bytes_ds (W w wr : World) (k : Nat) (v : Value) (l : List RawP) (h : DS W w wr k v l) (n : Nat) (hn : n ≤ 100000) :
    Calls Try.prog 23 #[.pointer (some ⟨k, 0, none⟩), .int .i64 n] wr fun e w' => ∃ p c ys, e = .returned (.slice p n c) ∧ Bod w' w.heap.size p n c ys ∧ DS W w w' k v l ∧ wr.grownBy w' (some k) :=
  (mbytes_any W wr k h.cod n hn).mono fun e w' ⟨p, c, ys, he, hb, hc, hg⟩ => ⟨p, c, ys, he, hb.mono h.gr.size, h.next hc hg, hg⟩

theorem next_at {W w wr0 : World} {k : Nat} {v : Value} {l : List RawP} (H : Hid (DS W w wr0 k v l)) (wr : World) (h : DS W w wr k v l) (m : Int) (hm : 1 ≤ m ∧ m ≤ 9223372036854775807) :
    Calls Try.prog 17 #[.pointer (some ⟨k, 0, none⟩), .int .i64 m] wr fun e w' => ∃ r : Int, e = .returned (.int .i64 r) ∧ 0 ≤ r ∧ r < m ∧ DS W w w' k v l ∧ wr.grownBy w' (some k) := next_ds W w wr k v l h m hm
theorem bytes_at {W w wr0 : World} {k : Nat} {v : Value} {l : List RawP} (H : Hid (DS W w wr0 k v l)) (wr : World) (h : DS W w wr k v l) (n : Nat) (hn : n ≤ 100000) :
    Calls Try.prog 23 #[.pointer (some ⟨k, 0, none⟩), .int .i64 n] wr fun e w' => ∃ p c ys, e = .returned (.slice p n c) ∧ Bod w' w.heap.size p n c ys ∧ DS W w w' k v l ∧ wr.grownBy w' (some k) := bytes_ds W w wr k v l h n hn

/-- append(l, api.Raw{..}) of a payload that was just laid, as one step of a region that draws its order. -/
theorem step_append_ds {W w wr : World} {k : Nat} {v : Value} {l : List RawP} (h : DS W w wr k v l) (z : Int) (p : Option Addr) (n m : Nat) (ys : List Int) (hb : Bod wr w.heap.size p n m ys) (hl : l.length ≤ 100)
    {ops : Array Oper} {o : Oper} {a : Act} {K : Act → World → Prop} {Q : Exit → Act → World → Prop} {E : Prop} (hw : Region.wanted o (yielded ops a.tmps) = true) (s x : Operand)
    (ho : o.op = .call { callee := .builtin .append, args := #[s, x], argTypes := #[26, 26] }) (hs : a.eval s = v) (b : Nat) (hbs : b = wr.heap.size) (hx : a.eval x = .slice (some ⟨b, 0, none⟩) 1 1)
    (hK : ∀ v' w', DS W w w' k v' (l ++ [⟨z, false, p, n, m, ys⟩]) → K (a.put o.dst v') w') :
    if Region.wanted o (yielded ops a.tmps) = true then Oper.wp Try.prog o a (wr.alloc (.cells #[.int .i64 z, .bool false, .slice p n m] 43)) K Q else E := by
  subst hbs
  rw [if_pos hw]
  refine wp_append_rws _ s x ho w.heap.size v l hs (h.alloc _).rws _ _ _ _ hx (SrcR.new wr z false p n m ys _) ?_ (by omega) (by have := h.gr.size; simp; omega) (fun v' w' hr hg => hK v' w' ((h.alloc _).row hr hg))
  intro y hy
  rw [List.mem_singleton.1 hy]
  exact hb.alloc _

/-- What the drawing returns. -/
def Drawn (W w : World) (k : Nat) (e : Ending) (w' : World) : Prop := ∃ v l last, e = .returned (.tuple #[v, .int .i64 last]) ∧ GoodL l last ∧ DS W w w' k v l

theorem list7 (j : Nat) (hj : j < 7) : ∃ z : Int, List.getD [33, 40, 41, 99, 200, 1, 255] j (0 : Int) = z ∧ 1 ≤ z ∧ z ≤ 255 ∧ lastK z = false := by
  refine ⟨_, rfl, ?_⟩
  have : j = 0 ∨ j = 1 ∨ j = 2 ∨ j = 3 ∨ j = 4 ∨ j = 5 ∨ j = 6 := by omega
  rcases this with rfl | rfl | rfl | rfl | rfl | rfl | rfl <;> simp [lastK]

theorem list2 (j : Nat) (hj : j < 2) : ∃ z : Int, (z = 46 ∨ z = 53) ∧ (#[Value.int .i64 46, .int .i64 53] : Array Value)[j]? = some (.int .i64 z) ∧ ([Value.int .i64 46, .int .i64 53] : List Value)[j]? = some (.int .i64 z) := by
  have : j = 0 ∨ j = 1 := by omega
  rcases this with rfl | rfl
  · exact ⟨46, Or.inl rfl, rfl, rfl⟩
  · exact ⟨53, Or.inr rfl, rfl, rfl⟩

theorem two_cell (w w' : World) (k j : Nat) (z : Value) (ht : ([Value.int .i64 46, .int .i64 53] : List Value)[j]? = some z) (hj : j < 2) (hk : k < w.heap.size)
    (hg : (w.alloc (.cells #[Value.int .i64 46, .int .i64 53] 3)).grownBy w' (some k)) : w'.cell? ⟨w.heap.size, j, none⟩ = some z := by
  refine hg.cell ?_ (by simp; omega)
  rw [World.cell?_alloc_at _ _ _ _ rfl]
  simpa using ht

set_option maxHeartbeats 1600000 in
theorem draw_any (W w : World) (k : Nat) (h : Cod W w k) :
    Calls Try.prog 10 #[.pointer (some ⟨k, 0, none⟩)] w (Drawn W w k) := by
  have HD0 := hidden (show DS W w w k (.slice none 0 0) [] from ⟨h, grown_refl _ _, Rws.nil _ _, h.lt⟩)
  clear h
  go_enter Try.func10, Try.ntmps10
  go_wp2_with (go_at_call 17; (with_reducible refine (next_ds W w _ k _ _ HD0.out _ ?_).mono ?_); omega)
  rintro e w1 ⟨r, rfl, r0, r1, hd, hg⟩
  obtain ⟨r, rfl⟩ := Int.eq_ofNat_of_zero_le r0
  have HD1 := hidden hd
  clear hd hg HD0
  go_wp2
  go_loopw [4, 5] (fun u i wr => ∃ j : Nat, j ≤ 4 ∧ i = .int .i64 j ∧ ∃ l : List RawP, l.length + j ≤ 4 ∧ (∀ x ∈ l, DrawK x) ∧ DS W w wr k u l) (fun _ i _ => (intOf i).toNat)
  case atStart => exact ⟨r, by omega, rfl, [], by simp; omega, by simp, HD1.out⟩
  case round =>
    obtain ⟨j, hj, rfl, l, hl, hk, hd⟩ := hrel
    have HK := hidden hk
    have HD := hidden hd
    clear hk hd HD1
    by_cases hpos : 0 < j
    · have HDA := hidden (HD.out.alloc (.cells ((([33, 40, 41, 99, 200, 1, 255] : List Int).map (Value.int .i64)).toArray) 3))
      go_wp2_with (go_at_call 17; (refine (next_ds W w _ k _ _ HDA.out _ ?_).mono ?_); omega)
      rintro e w2 ⟨s, rfl, s0, s1, hd, hg⟩
      obtain ⟨s, rfl⟩ := Int.eq_ofNat_of_zero_le s0
      have hklt := hd.klt
      have hgr := HD.out.gr.size
      have hcell := hg.cell (ints_at wr [33, 40, 41, 99, 200, 1, 255] 3 s (by simp; omega)) (by simp; omega)
      obtain ⟨z, hz, z0, z1, z2⟩ := list7 s (by omega)
      rw [hz] at hcell
      have HZ := hidden z2
      have HD2 := hidden hd
      clear hz hd hg HDA HD z2
      go_wp2_with (go_at_call 17; (with_reducible refine (next_ds W w _ k _ _ HD2.out _ ?_).mono ?_); omega)
      rintro e w3 ⟨t, rfl, t0, t1, hd, hg⟩
      have HD3 := hidden hd
      clear hd hg HD2 hcell
      go_wp2_with (go_at_call 17; (with_reducible refine (next_ds W w _ k _ _ HD3.out _ ?_).mono ?_); omega)
      rintro e w4 ⟨y, rfl, y0, y1, hd, hg⟩
      obtain ⟨y, rfl⟩ := Int.eq_ofNat_of_zero_le y0
      have HD4 := hidden hd
      clear hd hg HD3
      go_wp2_with (go_at_call 23; (with_reducible refine (bytes_ds W w _ k _ _ HD4.out _ ?_).mono ?_); omega)
      rintro e w5 ⟨p, c, ys, rfl, hb, hd, hg⟩
      have HB5 := hidden hb
      have HD5 := hidden hd
      clear hb hd hg HD4
      go_wp2_with (at_builtin; go_loud (refine wpList_append_rws _ rfl _ _ rfl w.heap.size _ l rfl (HD5.out.alloc _).rws _ _ _ _ rfl (SrcR.new w5 z _ p y c ys _) ?c1 ?c2 ?c3 ?_))
      case c1 =>
        intro x hx
        rw [List.mem_singleton.1 hx]
        exact HB5.out.alloc _
      case c2 => omega
      case c3 => have := HD5.out.gr.size; simp; omega
      intro v' w6 hr hg
      have HD6 := hidden ((HD5.out.alloc _).row hr hg)
      have HYL := hidden HB5.out.byt.len
      clear hr hg HD5 HB5
      go_wp2
      go_roundw
      case rel =>
        refine ⟨j - 1, by omega, by go_num, _, by simp; omega, ?_, HD6.out⟩
        intro x hx
        rcases List.mem_append.1 hx with hx | hx
        · exact HK.out x hx
        · rw [List.mem_singleton.1 hx]
          exact ⟨z0, z1, HZ.out, by have := HYL.out; show ys.length ≤ 8; omega⟩
      case measure => simp [intOf]; omega
    · obtain rfl : j = 0 := by omega
      go_wp2_with (go_at_call 17; (with_reducible refine (next_ds W w _ k _ _ HD.out _ ?_).mono ?_); omega)
      rintro e w2 ⟨s, rfl, s0, s1, hd, hg⟩
      have HD2 := hidden hd
      clear hd hg HD
      by_cases h2 : s = 2
      · subst h2
        have HDD := hidden HD2.out.drew
        have HS := hidden (fun (j : Nat) (hj : j < 2) => list2 j hj)
        have hklt := HD2.out.klt
        have hgr := HD2.out.gr.size
        have hkw2 : k < w2.heap.size := by omega
        go_wp2_with fail
        go_region_law (first
          | (go_simp; go_at_call_of 17 (Value.int IntKind.i64 2); (with_reducible refine (next_at HD2 _ ?_ _ ?_).mono ?_); (repeat' (first | with_reducible exact HD2.out | (with_reducible refine DS.alloc ?_ _) | (with_reducible refine DS.drew ?_))); omega; rintro e wA ⟨j, rfl, j0, j1, hdA, hgA⟩; obtain ⟨j, rfl⟩ := Int.eq_ofNat_of_zero_le j0; obtain ⟨z, hz2, hta, htl⟩ := HS.out j (by omega); (try have hcA : wA.cell? ⟨w2.heap.size, j, none⟩ = some (.int .i64 z) := two_cell w2 wA k j _ htl (by omega) hkw2 (grown_trans (grown_drewN _ 1 _) hgA)))
          | (go_simp; go_at_call_of 17 (Value.int IntKind.i64 9); (with_reducible refine (next_at HD2 _ ?_ _ ?_).mono ?_); (first | exact hdA | exact hdA.alloc _); omega; rintro e wB ⟨y, rfl, y0, y1, hdB, hgB⟩; obtain ⟨y, rfl⟩ := Int.eq_ofNat_of_zero_le y0; have hkA := hdA.cod.lt; (try have hcB : wB.cell? ⟨w2.heap.size, j, none⟩ = some (.int .i64 z) := hgB.cell hcA (by simp; omega)); (try have hcC : wB.cell? ⟨wA.heap.size, j, none⟩ = some (.int .i64 z) := two_cell wA wB k j _ htl (by omega) hkA hgB))
          | (go_simp; go_at_call 23; (with_reducible refine (bytes_at HD2 _ ?_ _ ?_).mono ?_); (first | exact hdB | exact hdB.alloc _); omega; rintro e wY ⟨p, c, ys, rfl, hbY, hdY, hgY⟩; have hkB := hdB.cod.lt; (try have hcY : wY.cell? ⟨w2.heap.size, j, none⟩ = some (.int .i64 z) := hgY.cell hcB (by simp; omega)); (try have hcY2 : wY.cell? ⟨wA.heap.size, j, none⟩ = some (.int .i64 z) := hgY.cell hcC (by simp; omega)); (try have hcY3 : wY.cell? ⟨wB.heap.size, j, none⟩ = some (.int .i64 z) := two_cell wB wY k j _ htl (by omega) hkB hgY))
          | ((first | refine step_append_ds hdY z p y c ys hbY (by omega) rfl (.tmp 33) (.tmp 44) rfl rfl _ rfl rfl ?_ | refine step_append_ds (hdY.alloc _) z p y c ys (hbY.alloc _) (by omega) rfl (.tmp 33) (.tmp 44) rfl rfl (wY.heap.size + 1) (World.size_alloc wY _).symm rfl ?_); intro v' wE hdE)
          | (go_simp; go_at_call_of 17 (Value.int IntKind.i64 256); (with_reducible refine (next_ds W w _ k _ _ hdE _ ?_).mono ?_); omega; rintro e wF ⟨t, rfl, t0, t1, hdF, hgF⟩))
        all_goals
          have HF := hidden hdF
          have HYL := hidden hbY.byt.len
          clear hdF hdE hdY hdB hdA hbY
          go_wp2
          go_ret2
          exact ⟨_, _, t, rfl, good_closed l HK.out (by omega) ⟨z, false, p, y, c, ys⟩ hz2 (by have := HYL.out; show ys.length ≤ 8; omega) t t0 t1, HF.out⟩
      · have e2 : (s == 2) = false := by simpa using h2
        go_wp2
        go_ret2
        exact ⟨_, l, 0, rfl, good_open l HK.out (by omega), HD2.out⟩
end Go.Proofs.Ytdlcdegfoadajaa
