/-
  schnorr.readOne of any bytes.
-/
import Derived.Test.YtkniifopfgeopaaDoorHSchDecM
namespace Go.Proofs.YtkniifopfgeopaaDoor
open Go.RowKit
set_option linter.unusedVariables false

/-- What readOne returns. -/
def RdX (X : List Int) (w : World) (e : Ending) (w' : World) : Prop :=
  ((okL X = true ∧ ∃ q d, e = .returned (.tuple #[.agg #[.string (ctL X).s, .int .u64 ((ctL X).k : Int), .int .i64 (ctL X).f, .int .i64 (ctL X).t, .bool (ctL X).a, .slice q 16 d], .int .i64 (1 + (nmL X : Int) + 8 + 4 + 4 + 1 + 16), .bool true]) ∧ Bod w' w.heap.size q 16 d (ctL X).g) ∨
    (okL X = false ∧ e = .returned (.tuple #[.agg zeroC, .int .i64 0, .bool false]))) ∧ Below w.heap.size w w'
theorem okL_len {X : List Int} (h : X.length < szL X) : okL X = false := by
  unfold okL
  rw [decide_eq_false (by omega)]
  rfl
theorem okL_bod {X : List Int} (h : bodyE (ctL X) ≠ 0) : okL X = false := by
  unfold okL
  rw [show (bodyE (ctL X) == 0) = false by simpa using h, Bool.and_false, Bool.false_and]
theorem okL_mark {X : List Int} (h : ¬ X.getD (1 + nmL X + 8 + 4 + 4) 0 ≤ 1) : okL X = false := by
  unfold okL
  rw [decide_eq_false h, Bool.and_false]
theorem okL_yes {X : List Int} (h1 : szL X ≤ X.length) (h2 : bodyE (ctL X) = 0) (h3 : X.getD (1 + nmL X + 8 + 4 + 4) 0 ≤ 1) : okL X = true := by
  unfold okL
  rw [decide_eq_true h1, decide_eq_true h3, h2]
  rfl
theorem ctL_v (X : List Int) (hr : ∀ x ∈ X, 0 ≤ x ∧ x ≤ 255) : CtV (ctL X) := by
  have hb : ∀ (n m : Nat), 0 ≤ val ((X.drop n).take m) ∧ val ((X.drop n).take m) < 256 ^ m := fun n m => by
    have h := val_bd _ (rng_take (rng_drop hr n) m)
    refine ⟨h.1, Int.lt_of_lt_of_le h.2 ?_⟩
    have : ((X.drop n).take m).length ≤ m := by simp; omega
    have h9 : ((256 ^ ((X.drop n).take m).length : Nat) : Int) ≤ ((256 ^ m : Nat) : Int) := Int.ofNat_le.2 (Nat.pow_le_pow_right (by decide) this)
    rw [Int.natCast_pow, Int.natCast_pow] at h9
    exact h9
  have hn := rng_getD hr 0
  have h8 := hb (1 + nmL X) 8
  have h4 := hb (1 + nmL X + 8) 4
  have h5 := hb (1 + nmL X + 8 + 4) 4
  have e8 : (256 : Int) ^ 8 = 18446744073709551616 := by decide
  have e4 : (256 : Int) ^ 4 = 4294967296 := by decide
  rw [e8] at h8
  rw [e4] at h4 h5
  refine ⟨?_, ?_, ?_, ?_⟩
  · show (strOfNums ((X.take (1 + nmL X)).drop 1)).size ≤ 1000000
    rw [strOfNums_size]
    simp
    unfold nmL
    omega
  · show (val ((X.drop (1 + nmL X)).take 8)).toNat < 18446744073709551616
    omega
  · show -9223372036854775808 ≤ val ((X.drop (1 + nmL X + 8)).take 4) ∧ val ((X.drop (1 + nmL X + 8)).take 4) ≤ 9223372036854775807
    omega
  · show -9223372036854775808 ≤ val ((X.drop (1 + nmL X + 8 + 4)).take 4) ∧ val ((X.drop (1 + nmL X + 8 + 4)).take 4) ≤ 9223372036854775807
    omega

set_option maxHeartbeats 6400000 in
set_option maxRecDepth 100000 in
theorem read_any (X : List Int) (p : Option Addr) (N c : Nat) (w : World) (hN1 : 1 ≤ N) (hN : N ≤ 140737488355328) (hy : Byt w p N c X) :
    Calls Tryd.prog 37 #[.slice p N c] w (RdX X w) := by
  have hl := hy.len
  have hXe : X ≠ [] := fun h9 => by rw [h9] at hl; simp at hl; omega
  obtain ⟨S, hS⟩ : ∃ S, nmL X = S := ⟨_, rfl⟩
  have hc0r := rng_getD hy.rng 0
  have hSv : X.getD 0 0 = (S : Int) := by rw [← hS]; unfold nmL; omega
  have hS255 : S ≤ 255 := by omega
  have hcap := hy.cap
  obtain ⟨b, o, rfl, hcell⟩ := hy.at_ (by omega)
  have hcX0 := hcell 0 (by omega)
  rw [hSv, Nat.add_zero] at hcX0
  have hbw := hy.lt (by omega)
  have hb2 : ¬ (w.heap.size + 1 = b) := by omega
  have HC0 := hidden (fun W (hW : Below w.heap.size w W) => cell_below hW _ _ hcX0)
  have HIN := hidden (RdI.new w)
  have HSL := hidden (fun W (hW : Below w.heap.size w W) => slice_bod (some ⟨b, o, none⟩) N c X W (hy.below hW) (by omega) (1 + (S : Int) + 8 + 4 + 4 + 1) 16 (by omega) (by omega))
  have e7 : (1 + (S : Int) + 8 + 4 + 4 + 1).toNat = 1 + S + 8 + 4 + 4 + 1 := by omega
  have hi0 : (0 : Int) < (N : Int) := by omega
  by_cases hlen : N < 1 + S + 8 + 4 + 4 + 1 + 16
  · have hno : okL X = false := okL_len (by rw [hl]; unfold szL; rw [hS]; exact hlen)
    unfold RdX
    have HNO := hidden hno
    rw [show pieceR X (1 + (S : Int) + 8 + 4 + 4 + 1) 16 = ([], false) by unfold pieceR; rw [if_neg (by rw [hl]; omega)]] at HSL
    clear hy hcell hcX0 hl hXe hno hSv hc0r
    go_enter Tryd.func37, Tryd.ntmps37
    go_upto_region 2 with fail
    generalize hw1 : World.alloc (World.alloc w _) _ = w1
    have HI1 : Hid (RdI w w1 zeroC) := by rw [← hw1]; exact HIN
    have hc0 := HC0.out w1 HI1.out.bel
    clear hw1 HIN
    go_upto_region 9 with (first
      | (go_at_call 63; (with_reducible refine (HSL.out _ HI1.out.bel).mono ?_); rintro e w2 ⟨q, n2, d, rfl, hy2, hb2⟩; have HI2 := hidden (HI1.out.below hb2); clear hy2 hb2)
      | fail)
    have HG2 := hidden HI2.out.rr
    have HB2 := hidden HI2.out.bel
    clear HI2
    go_wp2_with (first
      | (refine wpList_store_row rfl 37 _ _ rfl w.heap.size zeroC rfl rfl 37 _ HG2.out infoC6 rfl (by kernel_rfl) ?_)
      | fail)
    refine ret_ct3 rfl rfl rfl rfl rfl (setRow_heap w2 w.heap.size _ _ _ _ HG2.out) rfl ?_
    exact ⟨Or.inr ⟨HNO.out, rfl⟩, below_setRow HB2.out (Nat.le_refl _) _⟩
  have hNl : 1 + S + 8 + 4 + 4 + 1 + 16 ≤ N := by omega
  have hsz : szL X ≤ X.length := by rw [hl]; unfold szL; rw [hS]; exact hNl
  have hv := ctL_v X hy.rng
  have hsame := body_same X hXe hy.rng hsz
  rw [hS] at hsame
  have hcX5 := hcell (1 + S + 8 + 4 + 4) (by omega)
  have hmk := rng_getD hy.rng (1 + S + 8 + 4 + 4)
  have HC5 := hidden (fun W (hW : Below w.heap.size w W) => cell_below hW _ _ hcX5)
  have hc1 : ¬ c = 1 := by omega
  rw [show pieceR X (1 + (S : Int) + 8 + 4 + 4 + 1) 16 = ((X.drop (1 + S + 8 + 4 + 4 + 1)).take 16, true) by unfold pieceR; rw [if_pos (by rw [hl]; omega), e7]; rfl] at HSL
  have hgl : ((X.drop (1 + S + 8 + 4 + 4 + 1)).take 16).length = 16 := by simp; omega
  have HN1 := hidden (fun W (hW : Below w.heap.size w W) => numW_any (some ⟨b, o, none⟩) N c X W (hy.below hW) (1 + S) 8 (by omega) (by omega) (by omega))
  rw [show ((1 + S : Nat) : Int) = 1 + (S : Int) by omega, show ((8 : Nat) : Int) = 8 from rfl] at HN1
  have HN2 := hidden (fun W (hW : Below w.heap.size w W) => numW_any (some ⟨b, o, none⟩) N c X W (hy.below hW) (1 + S + 8) 4 (by omega) (by omega) (by omega))
  rw [show ((1 + S + 8 : Nat) : Int) = 1 + (S : Int) + 8 by omega, show ((4 : Nat) : Int) = 4 from rfl] at HN2
  have HN3 := hidden (fun W (hW : Below w.heap.size w W) => numW_any (some ⟨b, o, none⟩) N c X W (hy.below hW) (1 + S + 8 + 4) 4 (by omega) (by omega) (by omega))
  rw [show ((1 + S + 8 + 4 : Nat) : Int) = 1 + (S : Int) + 8 + 4 by omega, show ((4 : Nat) : Int) = 4 from rfl] at HN3
  have HCV := hidden (fun W (hW : Below w.heap.size w W) => (by
    have h9 := (hy.below hW).part 1 (1 + S) (by omega) (by omega)
    rw [if_neg hc1, show 1 + S - 1 = S by omega] at h9
    exact conv_byt (P := Tryd.prog) h9 22 5 9 Tryd.underlying22 Tryd.underlying5 Tryd.underlying9 : (convert 22 9 (.slice (some ⟨b, o + 1, none⟩) S (c - 1))).run Tryd.prog W = .ok (.string (strOfNums ((X.take (1 + S)).drop 1))) W))
  have HEQ := hidden (fun (q : Option Addr) (M d : Nat) W (hW : Below w.heap.size w W) (hq : Byt W q M d (bdL (ctL X))) => (by
    have h9 := (hy.below hW).front (1 + S + 8 + 4 + 4 + 1) (by omega)
    have h8 := equal_any q (some ⟨b, o, none⟩) M d (1 + S + 8 + 4 + 4 + 1) c _ _ W hq h9
    rw [show decide (bdL (ctL X) = X.take (1 + S + 8 + 4 + 4 + 1)) = decide (X.getD (1 + S + 8 + 4 + 4) 0 ≤ 1) by rw [decide_eq_decide]; exact hsame] at h8
    exact h8 : Calls Tryd.prog 64 #[.slice q M d, .slice (some ⟨b, o, none⟩) (1 + S + 8 + 4 + 4 + 1) c] W fun e w' => e = .returned (.bool (decide (X.getD (1 + S + 8 + 4 + 4) 0 ≤ 1))) ∧ W = w'))
  have hvk := ctL_v X hy.rng
  have hv2 := val_bd ((X.drop (1 + S)).take 8) (rng_take (rng_drop hy.rng _) _)
  have hkk : val ((X.drop (1 + S)).take 8) = ((ctL X).k : Int) := by
    have : (ctL X).k = (val ((X.drop (1 + S)).take 8)).toNat := by unfold ctL; rw [hS]
    omega
  have hff : val ((X.drop (1 + S + 8)).take 4) = (ctL X).f := by unfold ctL; rw [hS]
  have htt : val ((X.drop (1 + S + 8 + 4)).take 4) = (ctL X).t := by unfold ctL; rw [hS]
  have hss : strOfNums ((X.take (1 + S)).drop 1) = (ctL X).s := by unfold ctL; rw [hS]
  have haa : (X.getD (1 + S + 8 + 4 + 4) 0 == 1) = (ctL X).a := by unfold ctL; rw [hS]
  have hgg : (X.drop (1 + S + 8 + 4 + 4 + 1)).take 16 = (ctL X).g := by unfold ctL; rw [hS]
  have hf0 : 0 ≤ (ctL X).f ∧ (ctL X).f ≤ 4294967295 := by
    rw [← hff]
    have h := val_bd ((X.drop (1 + S + 8)).take 4) (rng_take (rng_drop hy.rng _) _)
    rw [show ((X.drop (1 + S + 8)).take 4).length = 4 by simp; omega] at h
    have e4 : (256 : Int) ^ 4 = 4294967296 := by decide
    omega
  have ht0 : 0 ≤ (ctL X).t ∧ (ctL X).t ≤ 4294967295 := by
    rw [← htt]
    have h := val_bd ((X.drop (1 + S + 8 + 4)).take 4) (rng_take (rng_drop hy.rng _) _)
    rw [show ((X.drop (1 + S + 8 + 4)).take 4).length = 4 by simp; omega] at h
    have e4 : (256 : Int) ^ 4 = 4294967296 := by decide
    omega
  have HBO := hidden (fun (q : Option Addr) (d : Nat) (W : World) => bodyS_any ⟨(ctL X).s, (ctL X).k, (ctL X).f, (ctL X).t, (ctL X).a, q, 16, d, (ctL X).g⟩ ⟨hvk.sz, hvk.kl, hvk.f0, hvk.t0⟩ W)
  have hbe : ∀ (q : Option Addr) (d : Nat), bodyE ⟨(ctL X).s, (ctL X).k, (ctL X).f, (ctL X).t, (ctL X).a, q, 16, d, (ctL X).g⟩ = bodyE (ctL X) := fun q d => rfl
  have hbb : ∀ (q : Option Addr) (d : Nat), bdL ⟨(ctL X).s, (ctL X).k, (ctL X).f, (ctL X).t, (ctL X).a, q, 16, d, (ctL X).g⟩ = bdL (ctL X) := fun q d => rfl
  unfold BdG at HBO
  simp only [hbe, hbb] at HBO
  have HOB := hidden (okL_bod (X := X))
  have HOM := hidden (okL_mark (X := X))
  have HOY := hidden (okL_yes (X := X) hsz)
  rw [hS] at HOM HOY
  rw [hkk] at HN1
  rw [hff] at HN2
  rw [htt] at HN3
  rw [hss] at HCV
  rw [hgg] at HSL hgl
  unfold RdX
  rw [hS]
  generalize bodyE (ctL X) = E at *
  generalize bdL (ctL X) = BL at *
  generalize ctL X = x at *
  obtain ⟨s, k, f, t, a, qz, nz, dz, gg⟩ := x
  simp only at *
  have HAU := hidden haa
  generalize X.getD (1 + S + 8 + 4 + 4) 0 = V at *
  have HGL := Is.mk hgl
  clear hy hcell hcX0 hcX5 hl hXe hSv hc0r hsame hv hvk hv2 hkk hff htt hss haa hgg hbe hbb hgl hsz e7 hlen
  go_enter Tryd.func37, Tryd.ntmps37
  go_upto_region 2 with fail
  generalize hw1 : World.alloc (World.alloc w _) _ = w1
  have HI1 : Hid (RdI w w1 zeroC) := by rw [← hw1]; exact HIN
  have hc0 := HC0.out w1 HI1.out.bel
  clear hw1 HIN
  go_upto_region 8 with (first
    | (go_at_call 63; (with_reducible refine (HSL.out _ HI1.out.bel).mono ?_); rintro e w2 ⟨q, n2, d, rfl, hy2, hb2⟩; have hn2 := hy2.byt.len; rw [HGL.eq] at hn2; subst hn2; have HI2 := hidden (HI1.out.below hb2); have HY2 := hidden (hy2.mono HI1.out.bel.size); clear hy2 hb2)
    | fail)
  have hcv := HCV.out w2 HI2.out.bel
  have hk0 : w2.cell? ⟨w.heap.size + 1, 0, none⟩ = some (.string ⟨#[]⟩) := HI2.out.cell 0
  have hz0 := HI2.out.frz 0
  clear HC0 hc0
  go_upto_region 11 with fail
  have HI3 : Hid (RdI w (w2.setCell ⟨w.heap.size + 1, 0, none⟩ (.string s)) #[.string s, .int .u64 0, .int .i64 0, .int .i64 0, .bool false, .slice none 0 0]) := hidden (HI2.out.put 0 (.string s))
  have HY3 := hidden (HI2.out.bod 0 (.string s) HY2.out)
  generalize World.setCell w2 _ _ = w3 at *
  clear hcv hk0 hz0 HI2 HY2
  have hk1 : w3.cell? ⟨w.heap.size + 1, 1, none⟩ = some (.int .u64 0) := HI3.out.cell 1
  have hz1 := HI3.out.frz 1
  go_upto_region 12 with (first
    | (go_at_call 48; (with_reducible refine (HN1.out _ HI3.out.bel).mono ?_); rintro e w2b ⟨rfl, rfl⟩)
    | fail)
  have HI4 : Hid (RdI w (w3.setCell ⟨w.heap.size + 1, 1, none⟩ (.int .u64 (k : Int))) #[.string s, .int .u64 (k : Int), .int .i64 0, .int .i64 0, .bool false, .slice none 0 0]) := hidden (HI3.out.put 1 (.int .u64 (k : Int)))
  have HY4 := hidden (HI3.out.bod 1 (.int .u64 (k : Int)) HY3.out)
  generalize World.setCell w3 _ _ = w4 at *
  clear hk1 hz1 HI3 HY3 HN1
  have hk2 : w4.cell? ⟨w.heap.size + 1, 2, none⟩ = some (.int .i64 0) := HI4.out.cell 2
  have hz2 := HI4.out.frz 2
  have hk3 : w4.cell? ⟨w.heap.size + 1, 3, none⟩ = some (.int .i64 0) := HI4.out.cell 3
  have hz3 := HI4.out.frz 3
  go_upto_region 13 with (first
    | (go_at_call 48; (with_reducible refine (HN2.out _ HI4.out.bel).mono ?_); rintro e w2b ⟨rfl, rfl⟩)
    | (go_at_call 48; (with_reducible refine (HN3.out _ HI4.out.bel).mono ?_); rintro e w2b ⟨rfl, rfl⟩)
    | fail)
  have HI5 : Hid (RdI w ((w4.setCell ⟨w.heap.size + 1, 2, none⟩ (.int .i64 f)).setCell ⟨w.heap.size + 1, 3, none⟩ (.int .i64 t)) #[.string s, .int .u64 (k : Int), .int .i64 f, .int .i64 t, .bool false, .slice none 0 0]) := hidden ((HI4.out.put 2 (.int .i64 f)).put 3 (.int .i64 t))
  have HY5 := hidden ((HI4.out.put 2 (.int .i64 f)).bod 3 (.int .i64 t) (HI4.out.bod 2 (.int .i64 f) HY4.out))
  generalize World.setCell (World.setCell w4 _ _) _ _ = w5 at *
  clear hk2 hz2 hk3 hz3 HI4 HY4 HN2 HN3
  have hk4 : w5.cell? ⟨w.heap.size + 1, 4, none⟩ = some (.bool false) := HI5.out.cell 4
  have hz4 := HI5.out.frz 4
  have hc5 := HC5.out w5 HI5.out.bel
  have hau := HAU.out
  have hix0 : (0 : Int) ≤ 1 + (S : Int) + 8 + 4 + 4 := by omega
  have hix1 : 1 + (S : Int) + 8 + 4 + 4 < (N : Int) := by omega
  go_upto_region 14 with fail
  have HI6 : Hid (RdI w (w5.setCell ⟨w.heap.size + 1, 4, none⟩ (.bool a)) #[.string s, .int .u64 (k : Int), .int .i64 f, .int .i64 t, .bool a, .slice none 0 0]) := hidden (HI5.out.put 4 (.bool a))
  have HY6 := hidden (HI5.out.bod 4 (.bool a) HY5.out)
  generalize World.setCell w5 _ _ = w6 at *
  clear hk4 hz4 hc5 hau hix0 hix1 HI5 HY5 HC5
  have hk5 : w6.cell? ⟨w.heap.size + 1, 5, none⟩ = some (.slice none 0 0) := HI6.out.cell 5
  have hz5 := HI6.out.frz 5
  go_upto_region 15 with fail
  have HI7 : Hid (RdI w (w6.setCell ⟨w.heap.size + 1, 5, none⟩ (.slice q 16 d)) #[.string s, .int .u64 (k : Int), .int .i64 f, .int .i64 t, .bool a, .slice q 16 d]) := hidden (HI6.out.put 5 (.slice q 16 d))
  have HY7 := hidden (HI6.out.bod 5 (.slice q 16 d) HY6.out)
  generalize World.setCell w6 _ _ = w7 at *
  clear hk5 hz5 HI6 HY6
  have hr7 := HI7.out.cc
  go_upto_region 16 with (first
    | (refine wpList_load_row rfl 37 _ rfl (w.heap.size + 1) rfl 37 _ (0, 0) _ hr7 Tryd.underlying37 rfl infoC6 ?_)
    | (go_at_call 22; (with_reducible refine (HBO.out _ _ _).mono ?_); rintro e w8 ⟨p8, n8, c8, rfl, hy8, hb8⟩; have HI8 := hidden (HI7.out.below hb8); have HY8 := hidden (HY7.out.below hb8); have HZ8 := hidden hy8; clear hy8 hb8)
    | fail)
  clear hr7 HI7 HY7 HBO
  by_cases he0 : E = 0
  rotate_left
  · have HNO := hidden (HOB.out he0)
    clear HEQ HZ8 HOB HOM HOY
    have HG8 := hidden HI8.out.rr
    have HB8 := hidden HI8.out.bel
    clear HI8 HY8
    go_wp2_with (first
      | (refine wpList_store_row rfl 37 _ _ rfl w.heap.size zeroC rfl rfl 37 _ HG8.out infoC6 rfl (by kernel_rfl) ?_)
      | fail)
    refine ret_ct3 rfl rfl rfl rfl rfl (setRow_heap w8 w.heap.size _ _ _ _ HG8.out) rfl ?_
    exact ⟨Or.inr ⟨HNO.out, rfl⟩, below_setRow HB8.out (Nat.le_refl _) _⟩
  subst he0
  have hz8 := HZ8.out
  rw [if_pos rfl] at hz8
  have HQ8 := hidden (HEQ.out p8 n8 c8 w8 HI8.out.bel hz8)
  clear HEQ HZ8 hz8 HOB
  have hix2 : (0 : Int) ≤ 1 + (S : Int) + 8 + 4 + 4 + 1 := by omega
  have hix3 : 1 + (S : Int) + 8 + 4 + 4 + 1 ≤ (c : Int) := by omega
  by_cases hm1 : V ≤ 1
  rotate_left
  · have HNO := hidden (HOM.out (by omega))
    rw [decide_eq_false hm1] at HQ8
    clear HOM HOY
    have HG8 := hidden HI8.out.rr
    have HB8 := hidden HI8.out.bel
    clear HI8 HY8
    go_wp2_with (first
      | (go_at_call 64; (with_reducible refine (HQ8.out).mono ?_); rintro e w9 ⟨rfl, rfl⟩)
      | (refine wpList_store_row rfl 37 _ _ rfl w.heap.size zeroC rfl rfl 37 _ HG8.out infoC6 rfl (by kernel_rfl) ?_)
      | fail)
    refine ret_ct3 rfl rfl rfl rfl rfl (setRow_heap w8 w.heap.size _ _ _ _ HG8.out) rfl ?_
    exact ⟨Or.inr ⟨HNO.out, rfl⟩, below_setRow HB8.out (Nat.le_refl _) _⟩
  have HYE := hidden (HOY.out rfl hm1)
  rw [decide_eq_true hm1] at HQ8
  clear HOM HOY
  have hr8 := HI8.out.cc
  go_upto_region 18 with (first
    | (go_at_call 64; (with_reducible refine (HQ8.out).mono ?_); rintro e w9 ⟨rfl, rfl⟩)
    | fail)
  have HR8 := hidden hr8
  have HG8 := hidden HI8.out.rr
  have HB8 := hidden HI8.out.bel
  have HY9 := hidden (HY8.out.grown (row_grown1 w8 w.heap.size #[.string s, .int .u64 (k : Int), .int .i64 f, .int .i64 t, .bool a, .slice q 16 d]) (fun r hr => Or.inr (fun cur fz e => by cases hr; rw [HG8.out] at e; simp at e)))
  clear HI8 HY8 HQ8 hix2 hix3
  go_wp2_with (first
    | (refine wpList_load_row rfl 37 _ rfl (w.heap.size + 1) rfl 37 _ (0, 0) _ HR8.out Tryd.underlying37 rfl infoC6 ?_)
    | (refine wpList_store_row rfl 37 _ _ rfl w.heap.size #[.string s, .int .u64 (k : Int), .int .i64 f, .int .i64 t, .bool a, .slice q 16 d] rfl rfl 37 _ HG8.out infoC6 rfl (by kernel_rfl) ?_)
    | fail)
  refine ret_ct3 rfl rfl rfl rfl rfl (setRow_heap w8 w.heap.size _ _ _ _ HG8.out) rfl ?_
  exact ⟨Or.inl ⟨HYE.out, q, d, rfl, HY9.out⟩, below_setRow HB8.out (Nat.le_refl _) _⟩
end Go.Proofs.YtkniifopfgeopaaDoor
