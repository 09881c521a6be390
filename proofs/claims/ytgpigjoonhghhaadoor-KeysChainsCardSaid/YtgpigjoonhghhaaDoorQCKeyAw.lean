/-
  The example of the chapter on keys holds: awake returns true and only adds memory of its own.
-/
import Derived.Test.YtgpigjoonhghhaaDoorQCKeySeed
import Derived.Test.YtgpigjoonhghhaaDoorQCZ3
import Derived.Deep.RegionWith
import Derived.Deep.Cut
namespace Go.Proofs.YtgpigjoonhghhaaDoor
open Go.RowKit
set_option linter.unusedVariables false
theorem rng_zerosK (k : Nat) : ∀ x ∈ List.replicate k (0 : Int), 0 ≤ x ∧ x ≤ 255 := fun x hx => by rw [List.eq_of_mem_replicate hx]; omega
theorem made_at (w : World) (n g : Nat) (hn : n ≤ 1000) (Z : Array Value) (hZ : Hid (Z = ((List.replicate n (0 : Int)).map (Value.int .u8)).toArray)) (hg : w.heap.size = g) : Byt (w.alloc (.cells Z 5)) (some ⟨g, 0, none⟩) n n (List.replicate n 0) := by
  subst hg
  exact (Wb.new w 5 _ Z hZ.out).byt n (by simp) (by unfold maxLen; omega) (rng_zerosK n)
theorem one_at (w : World) (g : Nat) (hg : w.heap.size = g) : Byt (w.alloc (.cells #[.int .u8 1] 5)) (some ⟨g, 0, none⟩) 1 1 [1] := by
  subst hg
  exact one_byte _ _ _ (by omega) ((cell_of_row _ _ _ _ _ _ (heap_alloc_new _ _)).trans rfl)
theorem Byt.drewK {w : World} {p : Option Addr} {n c : Nat} {xs : List Int} (h : Byt w p n c xs) : Byt w.drew p n c xs := h.below (drew_below ⟨1, rfl⟩)
theorem Below.drewK {B : Nat} {w0 w : World} (h : Below B w0 w) (hB : B ≤ w.heap.size) : Below B w0 w.drew := h.trans ((show Below w.heap.size w w.drew from drew_below ⟨1, rfl⟩).mono hB)
def OutK (E : Int) (w : World) (e : Ending) (w' : World) : Prop := ∃ p N c, e = .returned (.tuple #[.slice p N c, .int .i64 E]) ∧ (E = 0 → N = 32) ∧ Below w.heap.size w w'
theorem seed_out (p q r : Option Addr) (n m : Nat) (E : Int) (hE : seedE n m 1 = E) (w : World) (h1 : Byt w p n n (List.replicate n 0)) (h2 : Byt w q m m (List.replicate m 0)) (h3 : Byt w r 1 1 [1]) (hK : KAt w) :
    Calls Tryd.prog 10 #[.slice p n n, .slice q m m, .slice r 1 1] w (OutK E w) := by
  refine (kseed_any p q r n n m m 1 1 _ _ [1] w h1 h2 h3 (by omega) hK).mono ?_
  rintro e w' ⟨p', N, c', rfl, hy, hb⟩
  rw [hE]
  refine ⟨p', N, c', rfl, fun h0 => ?_, hb⟩
  rw [← hy.len, seedR_len]
  simpa [hE] using h0
theorem seed_out0 (p q r : Option Addr) (n m : Nat) (hE : seedE n m 1 = 0) (w : World) (h1 : Byt w p n n (List.replicate n 0)) (h2 : Byt w q m m (List.replicate m 0)) (h3 : Byt w r 1 1 [1]) (hK : KAt w) :
    Calls Tryd.prog 10 #[.slice p n n, .slice q m m, .slice r 1 1] w fun e w' => ∃ p c, e = .returned (.tuple #[.slice p 32 c, .int .i64 0]) ∧ Below w.heap.size w w' := by
  refine (seed_out p q r n m 0 hE w h1 h2 h3 hK).mono ?_
  rintro e w' ⟨p', N, c', rfl, h0, hb⟩
  obtain rfl := h0 rfl
  exact ⟨p', c', rfl, hb⟩
theorem seed15 : seedE 15 16 1 = 13 := by decide
theorem seed16 : seedE 16 16 1 = 0 := by decide
set_option maxHeartbeats 3200000 in
set_option maxRecDepth 100000 in
theorem awake16_any (w : World) (hK : KAt w) : Calls Tryd.prog 7 #[] w fun e w' => e = .returned (.bool true) ∧ Below w.heap.size w w' := by
  obtain ⟨i0, hi, hz0, hz1, hz2⟩ := info_parts Tryd.infoByte
  have HK := hidden (fun W (hW : Below w.heap.size w W) => hK.below hW hK.lt)
  obtain ⟨Z1, HZ1, hmk1⟩ := make_eq (P := Tryd.prog) 22 5 i0 Tryd.underlying22 hi hz0 hz1 hz2 15 (by omega)
  obtain ⟨Z2, HZ2, hmk2⟩ := make_eq (P := Tryd.prog) 22 5 i0 Tryd.underlying22 hi hz0 hz1 hz2 16 (by omega)
  have hmk1' : ∀ w : World, (Instr.makeSlice 22 (.int .i64 15) (.int .i64 15)).run Tryd.prog w = .ok (.slice (some ⟨w.heap.size, 0, none⟩) 15 15) (w.alloc (.cells Z1 5)) := hmk1
  have hmk2' : ∀ w : World, (Instr.makeSlice 22 (.int .i64 16) (.int .i64 16)).run Tryd.prog w = .ok (.slice (some ⟨w.heap.size, 0, none⟩) 16 16) (w.alloc (.cells Z2 5)) := hmk2
  clear hmk1 hmk2 hK
  go_enter Tryd.func7, Tryd.ntmps7
  go_upto_region 1 with fail
  go_cut [2] from 5 to 12 (fun e wx => e = .int .i64 13 ∧ Below w.heap.size w wx)
  case first =>
    go_region_with (first
      | (go_at_call 10; (with_reducible refine (seed_out _ _ _ 15 16 13 seed15 _ ?_ ?_ ?_ ?_).mono ?_); (focus (repeat' (first | (refine made_at _ 15 _ ?_ _ HZ1 ?_; (focus decide); (focus (simp; done))) | (refine made_at _ 16 _ ?_ _ HZ2 ?_; (focus decide); (focus (simp; done))) | (refine one_at _ _ ?_; (focus (simp; done))) | (with_reducible refine Byt.alloc ?_ _) | (with_reducible refine Byt.drewK ?_)))); (focus (repeat' (first | (refine made_at _ 15 _ ?_ _ HZ1 ?_; (focus decide); (focus (simp; done))) | (refine made_at _ 16 _ ?_ _ HZ2 ?_; (focus decide); (focus (simp; done))) | (refine one_at _ _ ?_; (focus (simp; done))) | (with_reducible refine Byt.alloc ?_ _) | (with_reducible refine Byt.drewK ?_)))); (focus (repeat' (first | (refine made_at _ 15 _ ?_ _ HZ1 ?_; (focus decide); (focus (simp; done))) | (refine made_at _ 16 _ ?_ _ HZ2 ?_; (focus decide); (focus (simp; done))) | (refine one_at _ _ ?_; (focus (simp; done))) | (with_reducible refine Byt.alloc ?_ _) | (with_reducible refine Byt.drewK ?_)))); (focus (refine HK.out _ ?_; repeat' (first | exact Below.refl _ _ | (with_reducible refine Below.alloc ?_ (by simp <;> omega) _) | (with_reducible refine Below.drewK ?_ (by simp <;> omega))))); (rintro e w2 ⟨p2, N2, c2, rfl, -, hb2⟩))
      | fail)
    all_goals go_wp2
    all_goals go_meet
    all_goals exact ⟨rfl, Below.trans (by (repeat' (first | exact Below.refl _ _ | (with_reducible refine Below.alloc ?_ (by simp <;> omega) _) | (with_reducible refine Below.drewK ?_ (by simp <;> omega))))) (hb2.mono (by simp <;> omega))⟩
  case rest =>
    obtain ⟨rfl, hb⟩ := hcut
    have HB := hidden hb
    have HKC := hidden (fun W (hW : Below wc.heap.size wc W) => HK.out W (hb.trans (hW.mono hb.size)))
    clear hb HK
    go_upto_region 2 with fail
    go_cut [3, 4] from 12 to 19 (fun s e wx => ∃ p c, s = .slice p 32 c ∧ e = .int .i64 0 ∧ Below wc.heap.size wc wx)
    case first =>
      go_region_with (first
        | (go_at_call 10; (with_reducible refine (seed_out0 _ _ _ 16 16 seed16 _ ?_ ?_ ?_ ?_).mono ?_); (focus (repeat' (first | (refine made_at _ 15 _ ?_ _ HZ1 ?_; (focus decide); (focus (simp; done))) | (refine made_at _ 16 _ ?_ _ HZ2 ?_; (focus decide); (focus (simp; done))) | (refine one_at _ _ ?_; (focus (simp; done))) | (with_reducible refine Byt.alloc ?_ _) | (with_reducible refine Byt.drewK ?_)))); (focus (repeat' (first | (refine made_at _ 15 _ ?_ _ HZ1 ?_; (focus decide); (focus (simp; done))) | (refine made_at _ 16 _ ?_ _ HZ2 ?_; (focus decide); (focus (simp; done))) | (refine one_at _ _ ?_; (focus (simp; done))) | (with_reducible refine Byt.alloc ?_ _) | (with_reducible refine Byt.drewK ?_)))); (focus (repeat' (first | (refine made_at _ 15 _ ?_ _ HZ1 ?_; (focus decide); (focus (simp; done))) | (refine made_at _ 16 _ ?_ _ HZ2 ?_; (focus decide); (focus (simp; done))) | (refine one_at _ _ ?_; (focus (simp; done))) | (with_reducible refine Byt.alloc ?_ _) | (with_reducible refine Byt.drewK ?_)))); (focus (refine HKC.out _ ?_; repeat' (first | exact Below.refl _ _ | (with_reducible refine Below.alloc ?_ (by simp <;> omega) _) | (with_reducible refine Below.drewK ?_ (by simp <;> omega))))); (rintro e w2 ⟨p2, c2, rfl, hb2⟩))
        | fail)
      all_goals go_wp2
      all_goals go_meet
      all_goals exact ⟨_, _, rfl, rfl, Below.trans (by (repeat' (first | exact Below.refl _ _ | (with_reducible refine Below.alloc ?_ (by simp <;> omega) _) | (with_reducible refine Below.drewK ?_ (by simp <;> omega))))) (hb2.mono (by simp <;> omega))⟩
    case rest =>
      obtain ⟨p3, c3, rfl, rfl, hb3⟩ := hcut
      have HB3 := hidden (HB.out.trans (hb3.mono HB.out.size))
      clear hb3
      rename World => wd
      go_wp2
      go_ret
      exact ⟨rfl, HB3.out⟩
end Go.Proofs.YtgpigjoonhghhaaDoor
