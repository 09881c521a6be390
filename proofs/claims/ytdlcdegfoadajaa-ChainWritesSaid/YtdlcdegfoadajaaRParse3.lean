/-
  What the document's own Parse of chains returns: the payloads in any bytes, or the first error.
-/
import Derived.Test.YtdlcdegfoadajaaKinds
import Derived.Test.YtdlcdegfoadajaaRNumber
import Derived.Test.YtdlcdegfoadajaaRSlice
namespace Go.Proofs.Ytdlcdegfoadajaa
open Go.RowKit
set_option linter.unusedVariables false

/-- The results of Parse. -/
def ParsedC (w : World) (r : ResC) (e : Ending) (w' : World) : Prop := ∃ v l, e = .returned (.tuple #[v, .int .i64 r.n, .int .i64 r.e]) ∧ Rws w' w.heap.size v l ∧ l.map RawP.raw = r.l ∧ l.length ≤ 40 ∧ Below w.heap.size w w'
theorem parsed_fail (w w' : World) (E : Int) (r : ResC) (hr : failC E = r) (hb : Below w.heap.size w w') : ParsedC w r (.returned (.tuple #[.slice none 0 0, .int .i64 0, .int .i64 E])) w' := by
  subst hr
  exact ⟨_, [], rfl, Rws.nil _ _, rfl, by simp, hb⟩

/-- The length in the head at a place. -/
theorem rnum_len (p : Option Addr) (n c : Nat) (xs : List Int) (w : World) (h : Byt w p n c xs) (a : Nat) (hin : a + 4 ≤ n) (A L : Int) (hA : A = (a : Int) + 2) (hL : lenC (xs.drop a) = L) :
    Calls Try.prog 27 #[.slice p n c, .int .i64 A, .int .i64 2] w fun e w' => e = .returned (.tuple #[.int .u64 L, .bool true]) ∧ w = w' := by
  subst hA hL
  have := rnumber_yes p n c xs w h (a + 2) 2 (by omega) (by omega) (by omega)
  rw [lenC_at xs a (by have := h.len; omega)] at this
  exact this
/-- The body at a place. -/
theorem rslice_body (p : Option Addr) (n c : Nat) (xs : List Int) (w : World) (h : Byt w p n c xs) (hb : n ≤ 140737488355328) (a m : Nat) (hin : a + m ≤ n) (A M : Int) (hA : A = (a : Int)) (hM : M = (m : Int)) :
    Calls Try.prog 28 #[.slice p n c, .int .i64 A, .int .i64 M] w fun e w' => ∃ q d, e = .returned (.tuple #[.slice q m d, .bool true]) ∧ Bod w' w.heap.size q m d ((xs.drop a).take m) ∧ Below w.heap.size w w' := by
  subst hA hM
  have hl := h.len
  have := rslice_bod p n c xs w h hb a m (by have := h.le; omega) (by have := h.le; omega)
  refine this.mono fun e w' hh => ?_
  have hp : pieceR xs a m = ((xs.drop a).take m, true) := by
    rw [pieceR, if_pos (by omega)]
    simp
  rw [hp] at hh
  obtain ⟨q, n', d, he, hbod, hb'⟩ := hh
  obtain rfl : m = n' := by
    have := hbod.byt.len
    simp at this
    omega
  exact ⟨q, d, he, hbod, hb'⟩

theorem preC_form (out : List Raw) (r : ResC) (h : (preC out r).e ≠ 0) : preC out r = failC (preC out r).e := by
  unfold preC at h ⊢
  split
  · rfl
  · rename_i h1
    rw [if_neg h1] at h
    exact absurd rfl h
theorem parse_form (left : Nat) (kind : Int) (xs : List Int) (h : (parseC left kind xs).e ≠ 0) : parseC left kind xs = failC (parseC left kind xs).e := by
  by_cases hk : kind = 0
  · subst hk
    rw [parseC_end] at h ⊢
    split
    · rfl
    · rename_i h1
      rw [if_neg h1] at h
      exact absurd rfl h
  cases left with
  | zero => rw [parseC_many _ _ hk]; rfl
  | succ left =>
    rw [parseC_more _ _ _ hk] at h ⊢
    by_cases h1 : xs.length < 4
    · rw [if_pos h1]; rfl
    rw [if_neg h1] at h ⊢
    by_cases h2 : lenC xs < 4 ∨ (xs.length : Int) < lenC xs
    · rw [if_pos h2]; rfl
    rw [if_neg h2] at h ⊢
    by_cases h3 : lastK kind = true
    · rw [if_pos h3] at h ⊢
      split
      · rfl
      · rename_i h4
        rw [if_neg h4] at h
        exact absurd rfl h
    · rw [if_neg h3] at h ⊢
      exact preC_form _ _ h

/-- The state of the reader's loop. -/
structure StP (w wr : World) (xs : List Int) (n : Nat) (r : ResC) (o : Value) (k a : Int) : Prop where
  ex : ∃ (at_ : Nat) (l : List RawP), a = (at_ : Int) ∧ at_ ≤ n ∧ 0 ≤ k ∧ k ≤ 255 ∧ l.length ≤ 40 ∧ preC (l.map RawP.raw) (parseC (40 - l.length) k (xs.drop at_)) = r ∧ Rws wr w.heap.size o l
  bel : Below w.heap.size w wr

set_option maxHeartbeats 1600000 in
set_option maxRecDepth 100000 in
theorem rparseC_any (p : Option Addr) (n c : Nat) (xs : List Int) (w : World) (h : Byt w p n c xs) (hb : n ≤ 140737488351232) (first : Int) (r : ResC) (hr : parseTop first xs = r) :
    Calls Try.prog 15 #[.int .i64 first, .slice p n c] w (ParsedC w r) := by
  have hn := h.le
  have HX := hidden h
  have HLen := hidden h.len
  by_cases hf : first < 0 ∨ 255 < first
  · have hr0 : failC 5 = r := by rw [← hr, parseTop, if_pos hf]
    have HR := hidden hr0
    clear hr hr0 h
    rcases hf with hf | hf
    · go_enter Try.func15, Try.ntmps15
      go_wp2
      go_ret3
      exact parsed_fail w _ 5 r HR.out (Below.refl _ _)
    · go_enter Try.func15, Try.ntmps15
      go_wp2
      go_ret3
      exact parsed_fail w _ 5 r HR.out (Below.refl _ _)
  have hr0 : parseC 40 first xs = r := by rw [← hr, parseTop, if_neg hf]
  have HR := hidden hr0
  have hf1 : ¬ first < 0 := by omega
  have hf2 : ¬ 255 < first := by omega
  clear hr hr0 h hf
  go_enter Try.func15, Try.ntmps15
  go_wp2
  go_loopw [7, 8, 9] (fun o k a wr => ∃ kd ad : Int, k = .int .i64 kd ∧ a = .int .i64 ad ∧ StP w wr xs n r o kd ad) (fun _ _ a _ => n - (intOf a).toNat)
  case atStart =>
    refine ⟨first, 0, rfl, rfl, ⟨0, [], rfl, by omega, by omega, by omega, by simp, ?_, Rws.nil _ _⟩, Below.refl _ _⟩
    simp only [List.map_nil, List.length_nil, Nat.sub_zero, List.drop_zero]
    rw [HR.out]
    exact preC_nil r (by rw [← HR.out]; exact parse_form 40 first xs)
  case round =>
    obtain ⟨kd, ad, rfl, rfl, ⟨at_, l, rfl, hat, hk0, hk1, hl40, hres, hrw⟩, hbel⟩ := hrel
    obtain ⟨po, co, rfl, hrd⟩ := hrw.rd rfl
    have HRW := hidden hrw
    have HBL := hidden hbel
    have HRES := hidden hres
    have hxr := HX.out.rng
    have HXR := hidden hxr
    clear hrw hrd hbel hres hxr
    by_cases hkd : kd = 0
    · subst hkd
      have hre := round_end (left := 40 - l.length) (kind := 0) (xs := xs) (a := at_) (out := l.map RawP.raw) rfl
      rw [HRES.out, HLen.out] at hre
      by_cases he : at_ = n
      · subst he
        rw [if_neg (by omega)] at hre
        subst hre
        go_wp2
        go_ret3
        exact ⟨_, l, rfl, HRW.out, rfl, hl40, HBL.out⟩
      · rw [if_pos (by omega)] at hre
        have HRE := hidden hre.symm
        have hne : ((at_ : Int) != (n : Int)) = true := by simp; omega
        clear hre he
        go_wp2
        go_ret3
        exact parsed_fail w _ 2 r HRE.out HBL.out
    have hkd1 : (kd != 0) = true := by simpa using hkd
    by_cases h40 : 40 ≤ l.length
    · have hre := round_many (kind := kd) (xs := xs) (a := at_) (out := l.map RawP.raw) hkd
      rw [show 0 = 40 - l.length by omega, HRES.out] at hre
      have HRE := hidden hre.symm
      clear hre hkd
      go_wp2
      go_ret3
      exact parsed_fail w _ 10 r HRE.out HBL.out
    obtain ⟨left, hleft⟩ : ∃ m, 40 - l.length = m + 1 := ⟨39 - l.length, by omega⟩
    rw [hleft] at HRES
    by_cases h4 : n - at_ < 4
    · have hre := round_short (left := left) (kind := kd) (xs := xs) (a := at_) (out := l.map RawP.raw) hkd (by rw [HLen.out]; exact h4)
      rw [HRES.out] at hre
      have HRE := hidden hre.symm
      have h4' : (n : Int) - at_ < 4 := by omega
      clear hre hkd h4 hleft
      go_wp2
      go_ret3
      exact parsed_fail w _ 1 r HRE.out HBL.out
    have h4' : ¬ (n : Int) - at_ < 4 := by omega
    have hlb := lenC_bd (xs.drop at_) (rng_drop HXR.out at_)
    obtain ⟨L, hL⟩ : ∃ L, lenC (xs.drop at_) = L := ⟨_, rfl⟩
    rw [hL] at hlb
    have HLL := hidden hL
    have HN := hidden (fun w (h : Byt w p n c xs) => rnum_len p n c xs w h at_ (by omega) ((at_ : Int) + 2) L rfl hL)
    have HXw := hidden (HX.out.below HBL.out)
    by_cases hbad : L < 4 ∨ (n : Int) - at_ < L
    · have hre := round_wrong (left := left) (kind := kd) (xs := xs) (a := at_) (out := l.map RawP.raw) hkd (by rw [HLen.out]; omega) (by rw [HLen.out, hL]; omega)
      rw [HRES.out] at hre
      have HRE := hidden hre.symm
      clear hre hkd h4 hleft hL
      by_cases hb1 : L < 4
      · clear hbad
        go_wp2_with (go_at_call 27; (with_reducible refine (HN.out _ HXw.out).mono ?_); rintro e w' ⟨rfl, rfl⟩)
        go_ret3
        exact parsed_fail w _ 2 r HRE.out HBL.out
      · have hb2 : (n : Int) - at_ < L := by omega
        clear hbad
        go_wp2_with (go_at_call 27; (with_reducible refine (HN.out _ HXw.out).mono ?_); rintro e w' ⟨rfl, rfl⟩)
        go_ret3
        exact parsed_fail w _ 2 r HRE.out HBL.out
    have hL4 : ¬ L < 4 := by omega
    have hLn : ¬ (n : Int) - at_ < L := by omega
    obtain ⟨m, hm⟩ := Int.eq_ofNat_of_zero_le (show 0 ≤ L - 4 by omega)
    have hS := hidden (fun w (h : Byt w p n c xs) => rslice_body p n c xs w h (by omega) (at_ + 4) m (by omega) ((at_ : Int) + 4) (L - 4) (by omega) hm)
    obtain ⟨bb, o, rfl, hcell⟩ := HX.out.at_ (by omega)
    have hx0 := hcell at_ (by omega)
    have hx1 := hcell (at_ + 1) (by omega)
    have r0 := rng_getD HXR.out at_
    have r1 := rng_getD HXR.out (at_ + 1)
    have hhead := headC_at kd xs at_
    have hmt : (lenC (xs.drop at_)).toNat - 4 = m := by rw [hL]; omega
    rw [hmt] at hhead
    have hlt : (lenC (xs.drop at_)).toNat = m + 4 := by rw [hL]; omega
    have hlast := fun hk => round_last (left := left) (kind := kd) (xs := xs) (a := at_) (out := l.map RawP.raw) hkd (by rw [HLen.out]; omega) (by rw [HLen.out, hL]; omega) hk
    have hmore := fun hk => round_more (left := left) (kind := kd) (xs := xs) (a := at_) (out := l.map RawP.raw) hkd (by rw [HLen.out]; omega) (by rw [HLen.out, hL]; omega) hk
    rw [hhead, HRES.out] at hlast hmore
    rw [hlt] at hmore
    rw [HLen.out, hL] at hlast
    generalize xs.getD at_ 0 = x0 at *
    generalize xs.getD (at_ + 1) 0 = x1 at *
    have hcb := crit_bit x1 r1
    have HLAST := hidden hlast
    have HMORE := hidden hmore
    have HLEFT := hidden hleft
    have HM := hidden hm
    clear hcell hhead hmt hlt hlast hmore hL hm hleft hbad
    go_wp2_with (go_at_call 27; (with_reducible refine (HN.out _ HXw.out).mono ?_); rintro e w' ⟨rfl, rfl⟩)
    have HX0 := hidden hx0
    have HX1 := hidden hx1
    clear hx0 hx1
    go_wp2_with (go_at_call 28; (with_reducible refine (hS.out _ HXw.out).mono ?_))
    rintro e w2 ⟨q, d, rfl, hbod, hb2⟩
    have HBO := hidden (hbod.mono HBL.out.size)
    have HRW2 := hidden (HRW.out.below hb2)
    have HB2 := hidden (HBL.out.trans (hb2.mono HBL.out.size))
    have hx1' := cell_below HB2.out _ _ HX1.out
    have hbb := World.block_lt_of_cell? w2 _ hx1'
    clear hbod hb2 HRW HBL HN hS
    go_wp2_with (at_builtin; go_loud (refine wpList_append_rws _ rfl _ _ rfl w.heap.size _ l rfl (HRW2.out.alloc _) _ _ _ _ rfl (SrcR.new w2 kd _ q m d ((xs.drop (at_ + 4)).take m) _) ?c1 ?c2 ?c3 ?_))
    case c1 =>
      intro x hx
      rw [List.mem_singleton.1 hx]
      exact HBO.out.alloc _
    case c2 => omega
    case c3 => have := HB2.out.size; simp; omega
    intro v' w3 hrw3 hg3
    have HB3 := hidden ((HB2.out.alloc HB2.out.size _).grown hg3 (by have := HB2.out.size; simp; omega) (fun g hg => (HRW2.out.own.lt g hg).1))
    have HRW3 := hidden hrw3
    have hx0' := cell_below HB3.out _ _ HX0.out
    clear hx1' hrw3 hg3 HRW2 HB2 HBO hcb
    have HLA := hidden (fun w => last_any kd w)
    by_cases hk : lastK kd = true
    · have hl := HLAST.out hk
      by_cases he : (n : Int) - at_ = L
      · rw [if_neg (by omega)] at hl
        subst hl
        have hne : ((at_ : Int) + L != (n : Int)) = false := by simp; omega
        clear he HMORE HLAST HRES
        go_wp2_with (go_at_call 24; (with_reducible refine (HLA.out _).mono ?_); rintro e w' ⟨rfl, rfl⟩)
        go_ret3
        exact ⟨_, _, rfl, HRW3.out, by simp [RawP.raw], by simp; omega, HB3.out⟩
      · rw [if_pos (by omega)] at hl
        have HRE := hidden hl.symm
        have hne : ((at_ : Int) + L != (n : Int)) = true := by simp; omega
        clear he hl HMORE HLAST HRES
        go_wp2_with (go_at_call 24; (with_reducible refine (HLA.out _).mono ?_); rintro e w' ⟨rfl, rfl⟩)
        go_ret3
        exact parsed_fail w _ 2 r HRE.out HB3.out
    · have hk' : lastK kd = false := by simpa using hk
      have hm := HMORE.out hk
      have HRE := hidden hm.symm
      clear hm hk HMORE HLAST HRES
      go_wp2_with (go_at_call 24; (with_reducible refine (HLA.out _).mono ?_); rintro e w' ⟨rfl, rfl⟩)
      go_roundw
      case rel =>
        refine ⟨x0, (at_ : Int) + L, rfl, rfl, ⟨at_ + (m + 4), _, by have := HM.out; omega, by have := HM.out; omega, r0.1, r0.2, ?_, ?_, HRW3.out⟩, HB3.out⟩
        · simp; omega
        · have := HLEFT.out
          rw [List.length_append, List.length_singleton, show 40 - (l.length + 1) = left by omega, ← HRE.out]
          simp [RawP.raw]
      case measure =>
        have := HM.out
        simp [intOf]
        omega
end Go.Proofs.Ytdlcdegfoadajaa
