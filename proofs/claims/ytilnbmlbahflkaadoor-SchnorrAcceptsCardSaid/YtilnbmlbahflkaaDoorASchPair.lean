/-
  schnorr.pairOf: the two numbers of a signature.
-/
import Derived.Test.YtilnbmlbahflkaaDoorASchSign
namespace Go.Proofs.YtilnbmlbahflkaaDoor
open Go.RowKit
set_option linter.unusedVariables false

theorem infoPair : (Tryd.prog.info? 71).map (·.size) = some 2 := by kernel_rfl
theorem infoP (l : List Int) (h : l.length = 2) : (Tryd.prog.info? 71).map (·.size) = some (ints .u64 l).size := by rw [infoPair]; simp [ints, h]
theorem ret_pair {fn : Func} {R : Ending → World → Prop} {a : Act} {w : World} {p u : Nat} {g : Nat} {l : List Int} {v : Value} (h : fn.results = #[.cell p 71, .tmp u]) (hp : a.tmps.getD p undef = .pointer (some ⟨g, 0, none⟩)) (hu : a.tmps.getD u undef = v) (hd : a.defers = [])
    (hw : Wn .u64 w g 71 l) (hl : l.length = 2) (hR : R (.returned (.tuple #[.agg (ints .u64 l), v])) w) : bodyPost Tryd.prog fn R .ret a w := by
  refine bodyPost_ret (v := .tuple #[.agg (ints .u64 l), v]) ?_ hd hR
  rw [results_cell_tmp h]
  simp only [hp]
  simp [Result.andThen, hu, asAddr, run_loadVar_row w g 71 71 (ints .u64 l) (0, 0) _ hw.heap Tryd.underlying71 rfl (infoP l hl)]
/-- Two numbers and an error. -/
def PairIs (a b E : Int) (w : World) (e : Ending) (w' : World) : Prop := e = .returned (.tuple #[.agg (ints .u64 [a, b]), .int .i64 E]) ∧ Below w.heap.size w w'

set_option maxHeartbeats 800000 in
set_option maxRecDepth 100000 in
theorem pairS_len (p : Option Addr) (n c : Nat) (w : World) (h : n ≠ 16) :
    Calls Tryd.prog 50 #[.slice p n c] w (PairIs 0 0 2 w) := by
  have h2 : ((n : Int) != 16) = true := by simp; omega
  have hw : Wn .u64 (w.alloc (.cells (ints .u64 [0, 0]) 71)) w.heap.size 71 [0, 0] := Wn.new .u64 w _ _ _ rfl
  have HW := hidden (hw.row [0, 0])
  have hw0 := hw.heap
  have HB := hidden (below_setRow ((Below.refl w.heap.size w).alloc (Nat.le_refl _) (.cells (ints .u64 [0, 0]) 71)) (Nat.le_refl _) (ints .u64 [0, 0]))
  have HW0 := hidden hw0
  clear h hw hw0
  go_enter Tryd.func50, Tryd.ntmps50
  go_wp2_with (first
    | (refine wpList_store_row rfl 71 _ _ rfl w.heap.size (ints .u64 [0, 0]) rfl rfl 71 _ HW0.out (infoP _ rfl) rfl (onek .u64 _) ?_)
    | fail)
  exact ret_pair rfl rfl rfl rfl HW.out rfl ⟨rfl, HB.out⟩

/-- What pairOf says of sixteen bytes that hold these numbers. -/
def PairRes (a b : Int) (w : World) (e : Ending) (w' : World) : Prop := if 2305843009213688669 ≤ a ∨ 2305843009213688669 ≤ b then PairIs 0 0 5 w e w' else PairIs a b 0 w e w'
theorem pairRes_no {a b : Int} {w : World} {e : Ending} {w' : World} (h : 2305843009213688669 ≤ a ∨ 2305843009213688669 ≤ b) (k : PairIs 0 0 5 w e w') : PairRes a b w e w' := by unfold PairRes; rw [if_pos h]; exact k
theorem pairRes_yes {a b : Int} {w : World} {e : Ending} {w' : World} (h1 : a < 2305843009213688669) (h2 : b < 2305843009213688669) (k : PairIs a b 0 w e w') : PairRes a b w e w' := by unfold PairRes; rw [if_neg (by omega)]; exact k
def plS (a b : Int) (j : Nat) : List Int := if j = 0 then [0, 0] else if j = 1 then [a, 0] else [a, b]
set_option maxHeartbeats 1600000 in
set_option maxRecDepth 100000 in
theorem pairS_any (p : Option Addr) (c : Nat) (xs : List Int) (w : World) (h : Byt w p 16 c xs) :
    Calls Tryd.prog 50 #[.slice p 16 c] w (PairRes ((num8 xs : Nat) : Int) ((num8 (xs.drop 8) : Nat) : Int) w) := by
  have HN0 := hidden (fun W (hW : Below w.heap.size w W) => numS_any p 16 c xs W (h.below hW) 0 (by omega))
  have HN1 := hidden (fun W (hW : Below w.heap.size w W) => numS_any p 16 c xs W (h.below hW) 8 (by omega))
  rw [List.drop_zero, show ((0 : Nat) : Int) = 0 from rfl] at HN0
  rw [show ((8 : Nat) : Int) = 8 from rfl] at HN1
  generalize ((num8 xs : Nat) : Int) = a at *
  generalize ((num8 (xs.drop 8) : Nat) : Int) = b at *
  clear h
  have hw1 : Wn .u64 (w.alloc (.cells (ints .u64 [0, 0]) 71)) w.heap.size 71 [0, 0] := Wn.new .u64 w _ _ _ rfl
  have HZ := hidden (hw1.alloc (.cells (ints .u64 [0, 0]) 71))
  have hw2 : Wn .u64 ((w.alloc (.cells (ints .u64 [0, 0]) 71)).alloc (.cells (ints .u64 [0, 0]) 71)) (w.heap.size + 1) 71 [0, 0] := Wn.new' .u64 _ _ _ _ rfl _ (by simp)
  have HP := hidden hw2
  have HB := hidden (((Below.refl w.heap.size w).alloc (Nat.le_refl _) (.cells (ints .u64 [0, 0]) 71)).alloc (by simp) (.cells (ints .u64 [0, 0]) 71))
  clear hw1 hw2
  obtain ⟨g, hg⟩ : ∃ g, w.heap.size = g := ⟨_, rfl⟩
  have HG := hidden hg
  go_enter Tryd.func50, Tryd.ntmps50
  go_upto_region 4 with fail
  generalize hwa : World.alloc (World.alloc w _) _ = w2
  have HZ2 : Hid (Wn .u64 w2 g 71 [0, 0]) := by rw [← hwa, ← hg]; exact HZ
  have HP2 : Hid (Wn .u64 w2 (g + 1) 71 [0, 0]) := by rw [← hwa, ← hg]; exact HP
  have HB2 : Hid (Below g w w2) := by rw [← hwa, ← hg]; exact HB
  clear hwa HZ HP HB hg
  have H0 : Is (plS a b 0) [0, 0] := ⟨rfl⟩
  have H1 : Is (plS a b 1) [a, 0] := ⟨rfl⟩
  have H2 : Is (plS a b 2) [a, b] := ⟨rfl⟩
  generalize plS a b = L at *
  go_wp2
  go_loopw [10] (fun i wr => ∃ j : Nat, j ≤ 2 ∧ i = .int .i64 j ∧ Wn .u64 wr (g + 1) 71 (L j) ∧ Wn .u64 wr g 71 [0, 0] ∧ Hid (0 < j → a < 2305843009213688669) ∧ Hid (1 < j → b < 2305843009213688669) ∧ Below g w wr) (fun i _ => 2 - (intOf i).toNat)
  case atStart => exact ⟨0, by omega, rfl, by rw [H0.eq]; exact HP2.out, HZ2.out, hidden (fun h => absurd h (by omega)), hidden (fun h => absurd h (by omega)), HB2.out⟩
  case round =>
    obtain ⟨j, hj, rfl, hp, hz, hja, hjb, hb⟩ := hrel
    have HB := hidden hb
    have HZ := hidden hz
    clear HB2 HZ2 HP2
    have h3 : j = 0 ∨ j = 1 ∨ j = 2 := by omega
    rcases h3 with rfl | rfl | rfl
    · rw [H0.eq] at hp
      have HNX := hidden (HN0.out wr (by rw [HG.out]; exact hb))
      have c0 := hp.cell 0 (by decide)
      have f0 := hp.fr 0
      have HPS := hidden (hp.set 0 a)
      have HBS := hidden (hb.setCell (p := ⟨g + 1, 0, none⟩) (by simp) (.int .u64 a))
      have HZS := hidden (hz.other ⟨g + 1, 0, none⟩ (.int .u64 a) (by simp))
      clear hp hz hb hja hjb HB HZ
      by_cases ha : a < 2305843009213688669
      · have ha' : ¬ (2305843009213688669 : Int) ≤ a := by omega
        have HA := hidden ha
        clear ha
        go_wp2_with (first
          | (go_at_call 40; (with_reducible refine (HNX.out).mono ?_); rintro en w5 ⟨rfl, rfl⟩)
          | fail)
        clear ha' c0 f0
        go_roundw
        case rel => exact ⟨1, by omega, by go_num, by rw [H1.eq]; exact HPS.out, HZS.out, hidden (fun _ => HA.out), hidden (fun h => absurd h (by omega)), HBS.out⟩
        case measure => simp [intOf]
      · have ha' : (2305843009213688669 : Int) ≤ a := by omega
        have HCND := hidden (Or.inl (by omega) : 2305843009213688669 ≤ a ∨ 2305843009213688669 ≤ b)
        clear ha
        go_wp2_with (first
          | (go_at_call 40; (with_reducible refine (HNX.out).mono ?_); rintro en w5 ⟨rfl, rfl⟩)
          | (refine wpList_store_row rfl 71 _ _ rfl g (ints .u64 [0, 0]) rfl rfl 71 _ HZS.out.heap (infoP _ rfl) rfl (onek .u64 _) ?_)
          | fail)
        exact ret_pair rfl rfl rfl rfl (HZS.out.row [0, 0]) rfl (pairRes_no HCND.out ⟨rfl, by rw [HG.out]; exact below_setRow HBS.out (Nat.le_refl _) _⟩)
    · rw [H1.eq] at hp
      have HNX := hidden (HN1.out wr (by rw [HG.out]; exact hb))
      have c0 := hp.cell 1 (show 1 < 2 by decide)
      have f0 := hp.fr 1
      have HPS := hidden (hp.set 1 b)
      have HBS := hidden (hb.setCell (p := ⟨g + 1, 1, none⟩) (by simp) (.int .u64 b))
      have HZS := hidden (hz.other ⟨g + 1, 1, none⟩ (.int .u64 b) (by simp))
      have HA := hidden (hja.out (by omega))
      clear hp hz hb hja hjb HB HZ
      by_cases hbq : b < 2305843009213688669
      · have ha' : ¬ (2305843009213688669 : Int) ≤ b := by omega
        have HBQ := hidden hbq
        clear hbq
        go_wp2_with (first
          | (go_at_call 40; (with_reducible refine (HNX.out).mono ?_); rintro en w5 ⟨rfl, rfl⟩)
          | fail)
        clear ha' c0 f0
        go_roundw
        case rel => exact ⟨2, by omega, by go_num, by rw [H2.eq]; exact HPS.out, HZS.out, hidden (fun _ => HA.out), hidden (fun _ => HBQ.out), HBS.out⟩
        case measure => simp [intOf]
      · have ha' : (2305843009213688669 : Int) ≤ b := by omega
        have HCND := hidden (Or.inr (by omega) : 2305843009213688669 ≤ a ∨ 2305843009213688669 ≤ b)
        clear hbq
        go_wp2_with (first
          | (go_at_call 40; (with_reducible refine (HNX.out).mono ?_); rintro en w5 ⟨rfl, rfl⟩)
          | (refine wpList_store_row rfl 71 _ _ rfl g (ints .u64 [0, 0]) rfl rfl 71 _ HZS.out.heap (infoP _ rfl) rfl (onek .u64 _) ?_)
          | fail)
        exact ret_pair rfl rfl rfl rfl (HZS.out.row [0, 0]) rfl (pairRes_no HCND.out ⟨rfl, by rw [HG.out]; exact below_setRow HBS.out (Nat.le_refl _) _⟩)
    · rw [H2.eq] at hp
      have HA := hidden (hja.out (by omega))
      have HB9 := hidden (hjb.out (by omega))
      have HP := hidden hp
      clear hp hz hb hja hjb
      go_wp2_with (first
        | (refine wpList_load_row rfl 71 _ rfl (g + 1) rfl 71 _ (0, 0) _ HP.out.heap Tryd.underlying71 rfl (infoP _ rfl) ?_)
        | (refine wpList_store_row rfl 71 _ _ rfl g (ints .u64 [a, b]) rfl rfl 71 _ HZ.out.heap (infoP _ rfl) rfl (onek .u64 _) ?_)
        | fail)
      exact ret_pair rfl rfl rfl rfl (HZ.out.row [a, b]) rfl (pairRes_yes HA.out HB9.out ⟨rfl, by rw [HG.out]; exact below_setRow HB.out (Nat.le_refl _) _⟩)
end Go.Proofs.YtilnbmlbahflkaaDoor
