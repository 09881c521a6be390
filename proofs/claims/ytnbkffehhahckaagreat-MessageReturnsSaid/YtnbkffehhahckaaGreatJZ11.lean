/-
  Package payload's writers of key exchanges and notifications.
  Whether a message asks for a cookie and has nothing to agree on (message.asksCookie).
  What an exchange needs (message.needed): a map literal from ints to slices, looked up once.
  Whether the types that were found are all that the exchange needs (message.complete).
-/
import Derived.Test.YtnbkffehhahckaaGreatJPayExch
import Derived.Test.YtnbkffehhahckaaGreatJZ2
import Derived.Test.YtnbkffehhahckaaGreatJZ13
import Derived.Test.YtnbkffehhahckaaGreatJZ6
import Derived.Test.YtnbkffehhahckaaGreatJZ5
import Derived.Deep.Cut
import Derived.Deep.CutRange
import Derived.Deep.RegionHeld3
namespace Go.Proofs.YtnbkffehhahckaaGreat
open Go.RowKit
set_option linter.unusedVariables false
set_option linter.unusedSimpArgs false
def GotBE (w : World) (L : List Int) (E : Int) (e : Ending) (w' : World) : Prop := ∃ q d, e = .returned (.tuple #[.slice q L.length d, .int .i64 E]) ∧ Frs w' w.heap.size q L.length d L ∧ Below w.heap.size w w'
theorem part1 (w : World) (a : Part) (t : TypeId) (h : Byt w a.p a.n a.c a.xs) : Parts (w.alloc (.cells #[.slice a.p a.n a.c] t)) (some ⟨w.heap.size, 0, none⟩) 1 1 [a] :=
  ⟨rfl, Nat.le_refl _, by decide, fun _ => ⟨_, rfl, fun j hj => by
    have hj' : j < 1 := hj
    obtain rfl : j = 0 := by omega
    go_simp⟩, fun x hx => by rw [List.mem_singleton.1 hx]; exact h.alloc _⟩
theorem part2 (w : World) (a b : Part) (t : TypeId) (h : Byt w a.p a.n a.c a.xs) (k : Byt w b.p b.n b.c b.xs) : Parts (w.alloc (.cells #[.slice a.p a.n a.c, .slice b.p b.n b.c] t)) (some ⟨w.heap.size, 0, none⟩) 2 2 [a, b] :=
  ⟨rfl, Nat.le_refl _, by decide, fun _ => ⟨_, rfl, fun j hj => by
    have hj' : j < 2 := hj
    have : j = 0 ∨ j = 1 := by omega
    rcases this with rfl | rfl <;> go_simp⟩, fun x hx => by
      simp only [List.mem_cons, List.not_mem_nil, or_false] at hx
      rcases hx with rfl | rfl
      · exact h.alloc _
      · exact k.alloc _⟩
theorem mod256_rng (z : Int) : 0 ≤ z % 256 ∧ z % 256 ≤ 255 := by omega
theorem before1 (a b c d : Int) (ha : 0 ≤ a ∧ a ≤ 255) (hb : 0 ≤ b ∧ b ≤ 255) (hc : 0 ≤ c ∧ c ≤ 255) (hd : 0 ≤ d ∧ d ≤ 255) (p : Option Addr) (n k : Nat) (xs : List Int) (w : World) (h : Byt w p n k xs) (hn : n ≤ 140737488355000) (L : List Int) (hL : [a, b, c, d] ++ xs = L) :
    Calls Tryz.prog 63 #[.agg #[.int .u8 a, .int .u8 b, .int .u8 c, .int .u8 d], .slice (some ⟨w.heap.size, 0, none⟩) 1 1] (w.alloc (.cells #[.slice p n k] 22)) (GotF w L) :=
  (before_any a b c d ha hb hc hd _ 1 1 [⟨p, n, k, xs⟩] _ (part1 w ⟨p, n, k, xs⟩ 22 h) (by simp [sizeOf']; omega) L (by simpa [bytesOf] using hL)).mono fun e w' ⟨q, d', he, hf, hb'⟩ =>
    ⟨q, d', he, hf.mono (by simp), ((Below.refl w.heap.size w).alloc (Nat.le_refl _) _).trans (hb'.mono (by simp))⟩
theorem before2 (a b c d : Int) (ha : 0 ≤ a ∧ a ≤ 255) (hb : 0 ≤ b ∧ b ≤ 255) (hc : 0 ≤ c ∧ c ≤ 255) (hd : 0 ≤ d ∧ d ≤ 255) (p q : Option Addr) (n k m l : Nat) (xs ys : List Int) (w : World) (h : Byt w p n k xs) (h' : Byt w q m l ys) (hn : n + m ≤ 140737488355000) (L : List Int) (hL : [a, b, c, d] ++ (xs ++ ys) = L) :
    Calls Tryz.prog 63 #[.agg #[.int .u8 a, .int .u8 b, .int .u8 c, .int .u8 d], .slice (some ⟨w.heap.size, 0, none⟩) 2 2] (w.alloc (.cells #[.slice p n k, .slice q m l] 22)) (GotF w L) :=
  (before_any a b c d ha hb hc hd _ 2 2 [⟨p, n, k, xs⟩, ⟨q, m, l, ys⟩] _ (part2 w ⟨p, n, k, xs⟩ ⟨q, m, l, ys⟩ 22 h h') (by simp [sizeOf']; omega) L (by simpa [bytesOf] using hL)).mono fun e w' ⟨q, d', he, hf, hb'⟩ =>
    ⟨q, d', he, hf.mono (by simp), ((Below.refl w.heap.size w).alloc (Nat.le_refl _) _).trans (hb'.mono (by simp))⟩
theorem before1_at (a b c d : Int) (ha : 0 ≤ a ∧ a ≤ 255) (hb : 0 ≤ b ∧ b ≤ 255) (hc : 0 ≤ c ∧ c ≤ 255) (hd : 0 ≤ d ∧ d ≤ 255) (p : Option Addr) (n k : Nat) (xs : List Int) (w W : World) (h : Byt w p n k xs) (hn : n ≤ 140737488355000) (L : List Int) (hL : [a, b, c, d] ++ xs = L)
    (hW : Below (w.alloc (.cells #[.slice p n k] 22)).drew.heap.size (w.alloc (.cells #[.slice p n k] 22)).drew W) :
    Calls Tryz.prog 63 #[.agg #[.int .u8 a, .int .u8 b, .int .u8 c, .int .u8 d], .slice (some ⟨w.heap.size, 0, none⟩) 1 1] W (GotF W L) :=
  before_any a b c d ha hb hc hd _ 1 1 [⟨p, n, k, xs⟩] _ (((part1 w ⟨p, n, k, xs⟩ 22 h).below (w' := (w.alloc (.cells #[.slice p n k] 22)).drew) (drew_below ⟨1, rfl⟩)).below hW) (by simp [sizeOf']; omega) L (by simpa [bytesOf] using hL)
theorem before2_at (a b c d : Int) (ha : 0 ≤ a ∧ a ≤ 255) (hb : 0 ≤ b ∧ b ≤ 255) (hc : 0 ≤ c ∧ c ≤ 255) (hd : 0 ≤ d ∧ d ≤ 255) (p q : Option Addr) (n k m l : Nat) (xs ys : List Int) (w W : World) (h : Byt w p n k xs) (h' : Byt w q m l ys) (hn : n + m ≤ 140737488355000) (L : List Int) (hL : [a, b, c, d] ++ (xs ++ ys) = L)
    (hW : Below (w.alloc (.cells #[.slice p n k, .slice q m l] 22)).drew.heap.size (w.alloc (.cells #[.slice p n k, .slice q m l] 22)).drew W) :
    Calls Tryz.prog 63 #[.agg #[.int .u8 a, .int .u8 b, .int .u8 c, .int .u8 d], .slice (some ⟨w.heap.size, 0, none⟩) 2 2] W (GotF W L) :=
  before_any a b c d ha hb hc hd _ 2 2 [⟨p, n, k, xs⟩, ⟨q, m, l, ys⟩] _ (((part2 w ⟨p, n, k, xs⟩ ⟨q, m, l, ys⟩ 22 h h').below (w' := (w.alloc (.cells #[.slice p n k, .slice q m l] 22)).drew) (drew_below ⟨1, rfl⟩)).below hW) (by simp [sizeOf']; omega) L (by simpa [bytesOf] using hL)
def exchL (g : Int) (ed : List Int) : List Int := [g / 256 % 256, g % 256, 0, 0] ++ ed
set_option maxHeartbeats 3200000 in
set_option maxRecDepth 100000 in
theorem buildExchange_any (g : Int) (p : Option Addr) (n c : Nat) (ed : List Int) (w : World) (h : Byt w p n c ed) (hn : n ≤ 140737488355000) (E : Int) (hE : exchE g n = E) :
    Calls Tryz.prog 62 #[.agg #[.int .i64 g, .slice p n c]] w (GotBE w (exchL g ed) E) := by
  have hx1 := mod256_rng (g / 256)
  have hx2 := mod256_rng g
  have HL : Hid ([g / 256 % 256, g % 256, 0, 0] ++ ed = exchL g ed) := rfl
  have HB0 := hidden ((Below.refl w.heap.size w).alloc (Nat.le_refl _) (.cells #[.int .i64 g, .slice p n c] 44))
  have HY := hidden (fun W (hW : Below w.heap.size w W) => h.below hW)
  have HCE := hidden (fun W => checkExchange_any g p n c W (by omega) E hE)
  generalize exchL g ed = L at *
  clear h hE
  go_enter Tryz.func62, Tryz.ntmps62
  go_upto_region 2 with fail
  generalize hw2 : (w.alloc (.cells #[.int .i64 g, .slice p n c] 44)).alloc (.cells _ 141) = w2
  have k0 : w2.cell? ⟨w.heap.size, 0, none⟩ = some (.int .i64 g) := by rw [← hw2]; clear hw2; go_simp
  have k1 : w2.cell? ⟨w.heap.size, 1, none⟩ = some (.slice p n c) := by rw [← hw2]; clear hw2; go_simp
  have k2 : w2.cell? ⟨w.heap.size + 1, 0, none⟩ = some (.int .u8 (g / 256 % 256)) := by rw [← hw2]; clear hw2; go_simp
  have k3 : w2.cell? ⟨w.heap.size + 1, 1, none⟩ = some (.int .u8 (g % 256)) := by rw [← hw2]; clear hw2; go_simp
  have k4 : w2.cell? ⟨w.heap.size + 1, 2, none⟩ = some (.int .u8 0) := by rw [← hw2]; clear hw2; go_simp
  have k5 : w2.cell? ⟨w.heap.size + 1, 3, none⟩ = some (.int .u8 0) := by rw [← hw2]; clear hw2; go_simp
  have hb2 : Below w.heap.size w w2 := by rw [← hw2]; exact HB0.out.alloc HB0.out.size _
  have HB2 := hidden hb2
  have HKK := hidden (fun W (hW : Below w2.heap.size w2 W) => (⟨cell_below hW _ _ k0, cell_below hW _ _ k1, cell_below hW _ _ k2, cell_below hW _ _ k3, cell_below hW _ _ k4, cell_below hW _ _ k5⟩ : W.cell? ⟨w.heap.size, 0, none⟩ = some (.int .i64 g) ∧ W.cell? ⟨w.heap.size, 1, none⟩ = some (.slice p n c) ∧ W.cell? ⟨w.heap.size + 1, 0, none⟩ = some (.int .u8 (g / 256 % 256)) ∧ W.cell? ⟨w.heap.size + 1, 1, none⟩ = some (.int .u8 (g % 256)) ∧ W.cell? ⟨w.heap.size + 1, 2, none⟩ = some (.int .u8 0) ∧ W.cell? ⟨w.heap.size + 1, 3, none⟩ = some (.int .u8 0)))
  have HY2 := hidden (HY.out w2 hb2)
  have HBF := hidden (fun W (hW : Below w2.heap.size w2 W) => before1 (g / 256 % 256) (g % 256) 0 0 hx1 hx2 (by omega) (by omega) p n c ed W (HY2.out.below hW) hn L HL.out)
  have HBA := hidden (fun W hW => before1_at (g / 256 % 256) (g % 256) 0 0 hx1 hx2 (by omega) (by omega) p n c ed w2 W HY2.out hn L HL.out hW)
  have HR0 := hidden (show Below w2.heap.size w2 w2.drew from drew_below ⟨1, rfl⟩)
  have HRA := hidden (show Below w2.heap.size w2 (w2.alloc (.cells #[.slice p n c] 22)).drew from ((Below.refl _ w2).alloc (Nat.le_refl _) _).trans (drew_below ⟨1, rfl⟩))
  have HFIN := hidden (fun (q : Option Addr) (d : Nat) W (hf : Frs W w2.heap.size q L.length d L) (hW : Below w2.heap.size w2 W) => show GotBE w L E (.returned (.tuple #[.slice q L.length d, .int .i64 E])) W from ⟨q, d, rfl, hf.mono hb2.size, hb2.trans (hW.mono hb2.size)⟩)
  clear hw2 hb2
  generalize w.heap.size = N at *
  go_region_held3 (fun W => W.cell? ⟨N, 0, none⟩ = some (.int .i64 g) ∧ W.cell? ⟨N, 1, none⟩ = some (.slice p n c) ∧ W.cell? ⟨N + 1, 0, none⟩ = some (.int .u8 (g / 256 % 256)) ∧ W.cell? ⟨N + 1, 1, none⟩ = some (.int .u8 (g % 256)) ∧ W.cell? ⟨N + 1, 2, none⟩ = some (.int .u8 0) ∧ W.cell? ⟨N + 1, 3, none⟩ = some (.int .u8 0))
    (first | exact HKK.out _ HB5.out | exact HKK.out _ HB6.out | exact HKK.out _ HR0.out | exact HKK.out _ HRA.out | go_keep)
    (first
    | (go_at_call 63; (with_reducible refine (HBA.out _ (Below.refl _ _)).mono ?_); rintro e w5 ⟨q5, d5, rfl, hf5, hb5⟩; have HF5 := hidden (hf5.mono HRA.out.size); have HB5 : Hid (Below w2.heap.size w2 w5) := hidden (HRA.out.trans (hb5.mono HRA.out.size)); clear hf5 hb5)
    | (go_at_call 63; (with_reducible refine (HBF.out _ HB6.out).mono ?_); rintro e w5 ⟨q5, d5, rfl, hf5, hb5⟩; have HF5 := hidden (hf5.mono HB6.out.size); have HB5 : Hid (Below w2.heap.size w2 w5) := hidden (HB6.out.trans (hb5.mono HB6.out.size)); clear hf5 hb5)
    | (go_at_call 63; (with_reducible refine (HBA.out _ HX6.out).mono ?_); rintro e w5 ⟨q5, d5, rfl, hf5, hb5⟩; have HF5 := hidden (hf5.mono HB6.out.size); have HB5 : Hid (Below w2.heap.size w2 w5) := hidden (HB6.out.trans (hb5.mono HB6.out.size)); clear hf5 hb5)
    | (go_at_call 91; (with_reducible refine (HCE.out (w2.alloc (.cells #[.slice p n c] 22)).drew).mono ?_); rintro e w6 ⟨rfl, hb6⟩; have HX6 := hidden hb6; have HB6 : Hid (Below w2.heap.size w2 w6) := hidden (HRA.out.trans (hb6.mono HRA.out.size)); clear hb6)
    | (go_at_call 91; (with_reducible refine (HCE.out _).mono ?_); rintro e w6 ⟨rfl, hb6⟩; have HB6 : Hid (Below w2.heap.size w2 w6) := hidden (by first | exact HB5.out.trans (hb6.mono HB5.out.size) | exact HR0.out.trans (hb6.mono HR0.out.size)); have HF6 : Hid (∀ q d, Frs w5 w2.heap.size q L.length d L → Frs w6 w2.heap.size q L.length d L) := hidden (fun q d hf => hf.below hb6); clear hb6)
    | fail)
  all_goals
    go_wp2
    go_ret2
    first
      | exact HFIN.out q5 d5 _ HF5.out HB5.out
      | exact HFIN.out q5 d5 _ (HF6.out _ _ HF5.out) HB6.out
def noteL (np nt : Int) (ns nd : List Int) : List Int := [np % 256, (ns.length : Int) % 256, nt / 256 % 256, nt % 256] ++ (ns ++ nd)
set_option maxHeartbeats 6400000 in
set_option maxRecDepth 100000 in
theorem buildNotify_any (np nt : Int) (p q : Option Addr) (n c m d : Nat) (ns nd : List Int) (w : World) (h : Byt w p n c ns) (h' : Byt w q m d nd) (hn : n + m ≤ 140737488355000) (E : Int) (hE : notifyE np nt n = E) :
    Calls Tryz.prog 67 #[.agg #[.int .i64 np, .slice p n c, .int .i64 nt, .slice q m d]] w (GotBE w (noteL np nt ns nd) E) := by
  have hx1 := mod256_rng np
  have hx2 := mod256_rng (n : Int)
  have hx3 := mod256_rng (nt / 256)
  have hx4 := mod256_rng nt
  have HL : Hid ([np % 256, (n : Int) % 256, nt / 256 % 256, nt % 256] ++ (ns ++ nd) = noteL np nt ns nd) := by show _ = _; rw [noteL, h.len]
  have HB0 := hidden ((Below.refl w.heap.size w).alloc (Nat.le_refl _) (.cells #[.int .i64 np, .slice p n c, .int .i64 nt, .slice q m d] 50))
  have HY := hidden (fun W (hW : Below w.heap.size w W) => h.below hW)
  have HY' := hidden (fun W (hW : Below w.heap.size w W) => h'.below hW)
  have HCE := hidden (fun W => checkNotify_any np nt n p q n c m d W E hE)
  generalize noteL np nt ns nd = L at *
  clear h h' hE
  go_enter Tryz.func67, Tryz.ntmps67
  go_upto_region 3 with fail
  generalize hw2 : (w.alloc (.cells #[.int .i64 np, .slice p n c, .int .i64 nt, .slice q m d] 50)).alloc (.cells _ 141) = w2
  have k0 : w2.cell? ⟨w.heap.size, 0, none⟩ = some (.int .i64 np) := by rw [← hw2]; clear hw2; go_simp
  have k1 : w2.cell? ⟨w.heap.size, 1, none⟩ = some (.slice p n c) := by rw [← hw2]; clear hw2; go_simp
  have k6 : w2.cell? ⟨w.heap.size, 2, none⟩ = some (.int .i64 nt) := by rw [← hw2]; clear hw2; go_simp
  have k7 : w2.cell? ⟨w.heap.size, 3, none⟩ = some (.slice q m d) := by rw [← hw2]; clear hw2; go_simp
  have k2 : w2.cell? ⟨w.heap.size + 1, 0, none⟩ = some (.int .u8 (np % 256)) := by rw [← hw2]; clear hw2; go_simp
  have k3 : w2.cell? ⟨w.heap.size + 1, 1, none⟩ = some (.int .u8 ((n : Int) % 256)) := by rw [← hw2]; clear hw2; go_simp
  have k4 : w2.cell? ⟨w.heap.size + 1, 2, none⟩ = some (.int .u8 (nt / 256 % 256)) := by rw [← hw2]; clear hw2; go_simp
  have k5 : w2.cell? ⟨w.heap.size + 1, 3, none⟩ = some (.int .u8 (nt % 256)) := by rw [← hw2]; clear hw2; go_simp
  have hb2 : Below w.heap.size w w2 := by rw [← hw2]; exact HB0.out.alloc HB0.out.size _
  have HKK := hidden (fun W (hW : Below w2.heap.size w2 W) => (⟨cell_below hW _ _ k0, cell_below hW _ _ k1, cell_below hW _ _ k6, cell_below hW _ _ k7, cell_below hW _ _ k2, cell_below hW _ _ k3, cell_below hW _ _ k4, cell_below hW _ _ k5⟩ : W.cell? ⟨w.heap.size, 0, none⟩ = some (.int .i64 np) ∧ W.cell? ⟨w.heap.size, 1, none⟩ = some (.slice p n c) ∧ W.cell? ⟨w.heap.size, 2, none⟩ = some (.int .i64 nt) ∧ W.cell? ⟨w.heap.size, 3, none⟩ = some (.slice q m d) ∧ W.cell? ⟨w.heap.size + 1, 0, none⟩ = some (.int .u8 (np % 256)) ∧ W.cell? ⟨w.heap.size + 1, 1, none⟩ = some (.int .u8 ((n : Int) % 256)) ∧ W.cell? ⟨w.heap.size + 1, 2, none⟩ = some (.int .u8 (nt / 256 % 256)) ∧ W.cell? ⟨w.heap.size + 1, 3, none⟩ = some (.int .u8 (nt % 256))))
  have HY2 := hidden (HY.out w2 hb2)
  have HY3 := hidden (HY'.out w2 hb2)
  have HBF := hidden (fun W (hW : Below w2.heap.size w2 W) => before2 (np % 256) ((n : Int) % 256) (nt / 256 % 256) (nt % 256) hx1 hx2 hx3 hx4 p q n c m d ns nd W (HY2.out.below hW) (HY3.out.below hW) hn L HL.out)
  have HBA := hidden (fun W hW => before2_at (np % 256) ((n : Int) % 256) (nt / 256 % 256) (nt % 256) hx1 hx2 hx3 hx4 p q n c m d ns nd w2 W HY2.out HY3.out hn L HL.out hW)
  have HR0 := hidden (show Below w2.heap.size w2 w2.drew from drew_below ⟨1, rfl⟩)
  have HRA := hidden (show Below w2.heap.size w2 (w2.alloc (.cells #[.slice p n c, .slice q m d] 22)).drew from ((Below.refl _ w2).alloc (Nat.le_refl _) _).trans (drew_below ⟨1, rfl⟩))
  have HFIN := hidden (fun (q : Option Addr) (d : Nat) W (hf : Frs W w2.heap.size q L.length d L) (hW : Below w2.heap.size w2 W) => show GotBE w L E (.returned (.tuple #[.slice q L.length d, .int .i64 E])) W from ⟨q, d, rfl, hf.mono hb2.size, hb2.trans (hW.mono hb2.size)⟩)
  clear hw2 hb2
  generalize w.heap.size = N at *
  go_region_held3 (fun W => W.cell? ⟨N, 0, none⟩ = some (.int .i64 np) ∧ W.cell? ⟨N, 1, none⟩ = some (.slice p n c) ∧ W.cell? ⟨N, 2, none⟩ = some (.int .i64 nt) ∧ W.cell? ⟨N, 3, none⟩ = some (.slice q m d) ∧ W.cell? ⟨N + 1, 0, none⟩ = some (.int .u8 (np % 256)) ∧ W.cell? ⟨N + 1, 1, none⟩ = some (.int .u8 ((n : Int) % 256)) ∧ W.cell? ⟨N + 1, 2, none⟩ = some (.int .u8 (nt / 256 % 256)) ∧ W.cell? ⟨N + 1, 3, none⟩ = some (.int .u8 (nt % 256)))
    (first | exact HKK.out _ HB5.out | exact HKK.out _ HB6.out | exact HKK.out _ HR0.out | exact HKK.out _ HRA.out | go_keep)
    (first
    | (go_at_call 63; (with_reducible refine (HBA.out _ (Below.refl _ _)).mono ?_); rintro e w5 ⟨q5, d5, rfl, hf5, hb5⟩; have HF5 := hidden (hf5.mono HRA.out.size); have HB5 : Hid (Below w2.heap.size w2 w5) := hidden (HRA.out.trans (hb5.mono HRA.out.size)); clear hf5 hb5)
    | (go_at_call 63; (with_reducible refine (HBF.out _ HB6.out).mono ?_); rintro e w5 ⟨q5, d5, rfl, hf5, hb5⟩; have HF5 := hidden (hf5.mono HB6.out.size); have HB5 : Hid (Below w2.heap.size w2 w5) := hidden (HB6.out.trans (hb5.mono HB6.out.size)); clear hf5 hb5)
    | (go_at_call 63; (with_reducible refine (HBA.out _ HX6.out).mono ?_); rintro e w5 ⟨q5, d5, rfl, hf5, hb5⟩; have HF5 := hidden (hf5.mono HB6.out.size); have HB5 : Hid (Below w2.heap.size w2 w5) := hidden (HB6.out.trans (hb5.mono HB6.out.size)); clear hf5 hb5)
    | (go_at_call 93; (with_reducible refine (HCE.out (w2.alloc (.cells #[.slice p n c, .slice q m d] 22)).drew).mono ?_); rintro e w6 ⟨rfl, hb6⟩; have HX6 := hidden hb6; have HB6 : Hid (Below w2.heap.size w2 w6) := hidden (HRA.out.trans (hb6.mono HRA.out.size)); clear hb6)
    | (go_at_call 93; (with_reducible refine (HCE.out _).mono ?_); rintro e w6 ⟨rfl, hb6⟩; have HB6 : Hid (Below w2.heap.size w2 w6) := hidden (by first | exact HB5.out.trans (hb6.mono HB5.out.size) | exact HR0.out.trans (hb6.mono HR0.out.size)); have HF6 : Hid (∀ q d, Frs w5 w2.heap.size q L.length d L → Frs w6 w2.heap.size q L.length d L) := hidden (fun q d hf => hf.below hb6); clear hb6)
    | fail)
  all_goals
    go_wp2
    go_ret2
    first
      | exact HFIN.out q5 d5 _ HF5.out HB5.out
      | exact HFIN.out q5 d5 _ (HF6.out _ _ HF5.out) HB6.out
end Go.Proofs.YtnbkffehhahckaaGreat

namespace Go.Proofs.YtnbkffehhahckaaGreat
open Go.RowKit
set_option linter.unusedVariables false
def plainP (x : Pv) : Bool := x.t == 41 || x.t == 43
set_option maxHeartbeats 6400000 in
set_option maxRecDepth 100000 in
theorem asksCookie_any (i r nx x f m : Int) (p : Option Addr) (n c : Nat) (l : List Pv) (w : World) (h : RdG KPv DPv w p n c l) (hn : n ≤ 100000) :
    Calls Tryz.prog 38 #[.agg #[.int .u64 i, .int .u64 r, .int .i64 nx, .int .i64 x, .int .i64 f, .int .u32 m, .slice p n c]] w fun e w' => e = .returned (.bool (l.all plainP && l.any (isNote 16390))) ∧ Below w.heap.size w w' := by
  have HBX := hidden ((Below.refl w.heap.size w).alloc (Nat.le_refl _) (.cells #[.int .u64 i, .int .u64 r, .int .i64 nx, .int .i64 x, .int .i64 f, .int .u32 m, .slice p n c] 30))
  have H := hidden h
  have HCX : Hid (∀ j u, (#[Value.int .u64 i, .int .u64 r, .int .i64 nx, .int .i64 x, .int .i64 f, .int .u32 m, .slice p n c] : Array Value)[j]? = some u → (w.alloc (.cells #[.int .u64 i, .int .u64 r, .int .i64 nx, .int .i64 x, .int .i64 f, .int .u32 m, .slice p n c] 30)).cell? ⟨w.heap.size, j, none⟩ = some u) := fun j u hj => by
    rw [World.cell?_alloc_at _ _ _ _ rfl]
    simpa using hj
  have HN := hidden (fun W (hW : Below w.heap.size w W) => notes_any i r nx x f m p n c l 16390 W (h.below hW) hn)
  obtain ⟨A, hA⟩ : ∃ A, l.any (isNote 16390) = A := ⟨_, rfl⟩
  rw [hA] at HN ⊢
  obtain ⟨R, hR⟩ : ∃ R, (l.all plainP && A) = R := ⟨_, rfl⟩
  have HR : Is ((l.drop 0).all plainP && A) R := ⟨by simpa using hR⟩
  rw [hR]
  clear hR h hA
  go_enter Tryz.func38, Tryz.ntmps38
  go_wp2_with fail
  go_loopw [8] (fun v wr => ∃ (j : Nat), j ≤ n ∧ v = .int .i64 j ∧ Is ((l.drop j).all plainP && A) R ∧ Below (w.heap.size + 1) (w.alloc (.cells #[.int .u64 i, .int .u64 r, .int .i64 nx, .int .i64 x, .int .i64 f, .int .u32 m, .slice p n c] 30)) wr) (fun v _ => n - (intOf v).toNat)
  case atStart => exact ⟨0, by omega, rfl, HR, Below.refl _ _⟩
  case round =>
    obtain ⟨j, hj, rfl, hrel, hb⟩ := hrel
    have hb' : Below (w.alloc (.cells #[.int .u64 i, .int .u64 r, .int .i64 nx, .int .i64 x, .int .i64 f, .int .u32 m, .slice p n c] 30)).heap.size (w.alloc (.cells #[.int .u64 i, .int .u64 r, .int .i64 nx, .int .i64 x, .int .i64 f, .int .u32 m, .slice p n c] 30)) wr := by simpa using hb
    have HB := hidden (HBX.out.trans (hb'.mono HBX.out.size))
    have HB1 := hidden hb
    have m0 := cell_below hb' _ _ (HCX.out 0 _ rfl)
    have m1 := cell_below hb' _ _ (HCX.out 1 _ rfl)
    have m2 := cell_below hb' _ _ (HCX.out 2 _ rfl)
    have m3 := cell_below hb' _ _ (HCX.out 3 _ rfl)
    have m4 := cell_below hb' _ _ (HCX.out 4 _ rfl)
    have m5 := cell_below hb' _ _ (HCX.out 5 _ rfl)
    have m6 := cell_below hb' _ _ (HCX.out 6 _ rfl)
    have hsz : w.heap.size + 1 ≤ wr.heap.size := by have := hb'.size; simpa using this
    clear hb hb'
    by_cases hlt : j < n
    · have hlt' : (j : Int) < n := by omega
      obtain ⟨g, y, rfl, hx, hdr, hok, hc⟩ := (H.out.below HB.out).drop_cons hlt
      have c0 := hc 0 _ rfl
      have c1 := hc 1 _ rfl
      have c2 := hc 2 _ rfl
      have c3 := hc 3 _ rfl
      have c4 := hc 4 _ rfl
      have c5 := hc 5 _ rfl
      have c6 := hc 6 _ rfl
      have c7 := hc 7 _ rfl
      have c8 := hc 8 _ rfl
      have c9 := hc 9 _ rfl
      have c10 := hc 10 _ rfl
      have c11 := hc 11 _ rfl
      have c12 := hc 12 _ rfl
      have c13 := hc 13 _ rfl
      have c14 := hc 14 _ rfl
      have c15 := hc 15 _ rfl
      simp only [Nat.add_zero] at c0
      have hf := hrel.eq
      rw [hdr, List.all_cons] at hf
      have HBP := hidden (HB1.out.alloc hsz (.cells #[.int .i64 y.t, .slice y.pr.p y.pr.n y.pr.c, .int .i64 y.eg, .slice y.ed.p y.ed.n y.ed.c, .int .i64 y.ik, .slice y.id.p y.id.n y.id.c, .int .i64 y.am, .slice y.ad.p y.ad.n y.ad.c, .int .i64 y.np, .slice y.ns.p y.ns.n y.ns.c, .int .i64 y.nt, .slice y.nd.p y.nd.n y.nd.c, .int .i64 y.dp, .slice y.ds.p y.ds.n y.ds.c, .slice y.se.p y.se.n y.se.c, .slice y.da.p y.da.n y.da.c] 56))
      have HBQ := hidden (HB.out.alloc HB.out.size (.cells #[.int .i64 y.t, .slice y.pr.p y.pr.n y.pr.c, .int .i64 y.eg, .slice y.ed.p y.ed.n y.ed.c, .int .i64 y.ik, .slice y.id.p y.id.n y.id.c, .int .i64 y.am, .slice y.ad.p y.ad.n y.ad.c, .int .i64 y.np, .slice y.ns.p y.ns.n y.ns.c, .int .i64 y.nt, .slice y.nd.p y.nd.n y.nd.c, .int .i64 y.dp, .slice y.ds.p y.ds.n y.ds.c, .slice y.se.p y.se.n y.se.c, .slice y.da.p y.da.n y.da.c] 56))
      clear hok hrel hdr hx hc
      have HGO := hidden (fun (e : plainP y = true) => (⟨by rw [e, Bool.true_and] at hf; exact hf⟩ : Is ((l.drop (j + 1)).all plainP && A) R))
      have HNO := hidden (fun (e : plainP y = false) => (⟨by rw [e] at hf; simpa using hf⟩ : Is false R))
      clear hf
      by_cases h1 : y.t = 41
      · have HT := HGO.out (by simp [plainP, h1])
        have q1 : (y.t != 41) = false := by simp [h1]
        clear HGO HNO h1
        go_wp2
        go_roundw
        case rel => exact ⟨j + 1, by omega, by go_num, HT, HBP.out⟩
        case measure => simp [intOf]; omega
      by_cases h2 : y.t = 43
      · have HT := HGO.out (by simp [plainP, h2])
        have q1 : (y.t != 41) = true := by simp [h1]
        have q2 : (y.t != 43) = false := by simp [h2]
        clear HGO HNO h1 h2
        go_wp2
        go_roundw
        case rel => exact ⟨j + 1, by omega, by go_num, HT, HBP.out⟩
        case measure => simp [intOf]; omega
      have HT := HNO.out (by simp [plainP, h1, h2])
      have q1 : (y.t != 41) = true := by simp [h1]
      have q2 : (y.t != 43) = true := by simp [h2]
      clear HGO HNO h1 h2
      go_wp2
      go_ret
      exact ⟨by rw [← HT.eq]; rfl, HBQ.out⟩
    · have hlt' : ¬ (j : Int) < n := by omega
      have hd : l.drop j = [] := List.drop_eq_nil_of_le (by rw [H.out.len]; omega)
      have hf := hrel.eq
      rw [hd, List.all_nil, Bool.true_and] at hf
      have HF := Is.mk hf
      clear hf hd hrel
      go_wp2_with (first
        | (go_at_call 53; (with_reducible refine (HN.out _ HB.out).mono ?_); rintro _ w1 ⟨⟨q, k, d, rfl, hk, hkn⟩, hb1⟩; have HK := Is.mk hk; have HB2 := hidden (HB.out.trans (hb1.mono HB.out.size)); clear hb1 hk)
        | fail)
      go_ret
      exact ⟨by rw [← HF.eq, ← HK.eq]; simp, HB2.out⟩
end Go.Proofs.YtnbkffehhahckaaGreat

namespace Go.Proofs.YtnbkffehhahckaaGreat
open Go.RowKit
open Go.Maps (Keyed IsMap)
set_option linter.unusedVariables false
set_option maxRecDepth 100000
def IntsAt (w : World) (v : Value) (l : List Int) : Prop := ∃ (p : Option Addr) (n c : Nat), v = .slice p n c ∧ n = l.length ∧ n ≤ 1000 ∧ (0 < n → ∃ g, p = some ⟨g, 0, none⟩ ∧ ∀ i u, l[i]? = some u → w.cell? ⟨g, i, none⟩ = some (.int .i64 u))
theorem IntsAt.keep {w w' : World} {v : Value} {l : List Int} (h : IntsAt w v l) (hk : ∀ a v, w.cell? a = some v → w'.cell? a = some v) : IntsAt w' v l := by
  obtain ⟨p, n, c, e, hn, hm, hc⟩ := h
  refine ⟨p, n, c, e, hn, hm, fun h0 => ?_⟩
  obtain ⟨g, eg, hc⟩ := hc h0
  exact ⟨g, eg, fun i u hu => hk _ _ (hc i u hu)⟩
theorem IntsAt.below {w w' : World} {v : Value} {l : List Int} (h : IntsAt w v l) (hb : Below w.heap.size w w') : IntsAt w' v l := h.keep (cell_below hb)
theorem IntsAt.nil (w : World) : IntsAt w (.slice none 0 0) [] := ⟨none, 0, 0, rfl, rfl, by omega, fun h => by omega⟩
theorem IntsAt.new (w : World) (l : List Int) (T : TypeId) (c : Nat) (hl : l.length ≤ 1000) : IntsAt (w.alloc (.cells (l.map (Value.int .i64)).toArray T)) (.slice (some ⟨w.heap.size, 0, none⟩) l.length c) l :=
  ⟨_, _, _, rfl, rfl, hl, fun _ => ⟨_, rfl, fun i u hu => by
    rw [World.cell?_alloc_at _ _ _ _ rfl]
    simp [hu]⟩⟩
theorem IntsAt.map {w w' : World} {v : Value} {l : List Int} {b : Nat} {es : Array MapEntry} {k : Nat} (h : IntsAt w v l) (hm : w.heap[b]? = some (.map es k)) (hg : w.grownBy w' (some b)) : IntsAt w' v l :=
  h.keep fun a u hc => hg.cell hc (by
    intro e
    injection e with e
    simp only [World.cell?] at hc
    rw [e, hm] at hc
    simp at hc)
def readS (v : Value) : Option (DataW Value × List MemPlace) := some (.held v, [])
def nilS : Value := .slice none 0 0
def Tab (w : World) (b N : Nat) (f : Int → Value) : Prop := ∃ (D : DataW Value), w.ownsMap Tryz.prog 3 readS b N D ∧ IsMap D ∧ ∀ t, IntR t → D.atKey (.int .i64 t) (.held nilS) = .held (f t)
theorem Tab.made (w : World) : Tab (w.alloc (.map #[] 0)) w.heap.size 0 (fun _ => nilS) := ⟨_, World.ownsMap_made _ _ _ _, ⟨[], rfl⟩, fun t h => by simp [DataW.atKey]⟩
theorem Tab.grown {w w' : World} {b N : Nat} {f : Int → Value} {row : Option Nat} (h : Tab w b N f) (hg : w.grownBy w' row) (hne : some b ≠ row) : Tab w' b N f := by
  obtain ⟨D, h1, h2⟩ := h
  exact ⟨D, h1.kept hg hne, h2⟩
theorem Tab.alloc {w : World} {b N : Nat} {f : Int → Value} (h : Tab w b N f) (o : Obj) : Tab (w.alloc o) b N f := h.grown (row := none) (grown_of_below ((Below.refl w.heap.size w).alloc (Nat.le_refl _) o) none) (by simp)
theorem Tab.isMap {w : World} {b N : Nat} {f : Int → Value} (h : Tab w b N f) : ∃ es k, w.heap[b]? = some (.map es k) := by
  obtain ⟨D, ⟨es, k, h, _⟩, _⟩ := h
  exact ⟨es, k, h⟩
theorem Tryz.zeroInts (w : World) : (zeroValue 62).run Tryz.prog w = .ok nilS w := by kernel_rfl
theorem Tab.look {w : World} {b N : Nat} {f : Int → Value} (h : Tab w b N f) (t : Int) (hi : IntR t) :
    (Instr.lookup 121 (.map (some b)) (.int .i64 t) false).run Tryz.prog w = .ok (f t) w := by
  obtain ⟨D, h1, hm, h2⟩ := h
  obtain ⟨v, ps, hrun, hv⟩ := h1.lookup lawInt Tryz.underlying121 (Tryz.zeroInts w) (zd := .held nilS) (zp := []) rfl (key_int t hi)
  rw [h2 t hi] at hv
  unfold readS at hv
  simp at hv
  rw [← hv.1]
  exact hrun
theorem wpList_tab (w : World) {ops : Array Oper} {rest : List Oper} {o : Oper} {a : Act} {Q : Exit → Act → World → Prop} (hg : o.guard = none) (m x v : Operand) (hop : o.op = Op.insert 121 m x v)
    (b N : Nat) (f : Int → Value) (h : Tab w b N f) (hN : N ≤ 900) (hm : a.eval m = .map (some b)) (t : Int) (hx : a.eval x = .int .i64 t) (u : Value) (hv : a.eval v = u) (hi : IntR t)
    (hK : ∀ w', Tab w' b (N + 1) (fun z => if z = t then u else f z) → w.grownBy w' (some b) → wpList Tryz.prog ops Q rest (a.put o.dst undef) w') : wpList Tryz.prog ops Q (o :: rest) a w := by
  obtain ⟨D, h1, hmp, h2⟩ := h
  refine wpList_plain hg fun K' hK' => ?_
  obtain ⟨w', hrun, r1, r2⟩ := h1.update lawInt Tryz.underlying121 (by unfold maxLen; omega) (key_int t hi) (val := u) (d := .held u) (ps := []) rfl
  unfold Oper.wp
  simp [execOp, hop, hm, hx, hv, hrun, Result.andThen]
  refine hK' _ _ (hK w' ⟨_, r1, hmp.put _ _, fun z hz => ?_⟩ r2)
  · by_cases he : z = t
    · subst he
      rw [Maps.atKey_put_same hmp (lawInt.key (key_int z hz))]
      simp
    · have hne : (Lit.int .i64 z : Lit) ≠ .int .i64 t := by
        intro e
        injection e with _ e
        exact he e
      rw [Maps.atKey_put_other hne, h2 z hz]
      simp [he]
structure Lts (w wx : World) (b N : Nat) (g : Int → Value) (x : Int) (I : List (Value × List Int)) : Prop where
  tab : Tab wx b N g
  bel : Below w.heap.size w wx
  cx : wx.cell? ⟨w.heap.size, 3, none⟩ = some (.int .i64 x)
  lt : w.heap.size < b
  its : ∀ p ∈ I, IntsAt wx p.1 p.2
theorem Lts.step {w wx : World} {b N : Nat} {g : Int → Value} {x : Int} {I : List (Value × List Int)} (h : Lts w wx b N g x I) (l : List Int) (T : TypeId) (hl : l.length ≤ 1000) :
    Lts w (wx.alloc (.cells (l.map (Value.int .i64)).toArray T)) b N g x ((.slice (some ⟨wx.heap.size, 0, none⟩) l.length l.length, l) :: I) := by
  have hb : Below wx.heap.size wx (wx.alloc (.cells (l.map (Value.int .i64)).toArray T)) := (Below.refl _ _).alloc (Nat.le_refl _) _
  refine ⟨h.tab.alloc _, h.bel.alloc h.bel.size _, cell_below hb _ _ h.cx, h.lt, fun p hp => ?_⟩
  rcases List.mem_cons.1 hp with rfl | hp
  · exact IntsAt.new wx l T l.length hl
  · exact (h.its p hp).below hb
theorem Lts.ins {w wx wy : World} {b N M : Nat} {g k : Int → Value} {x : Int} {I : List (Value × List Int)} (h : Lts w wx b N g x I) (ht : Tab wy b M k) (hg : wx.grownBy wy (some b)) : Lts w wy b M k x I := by
  obtain ⟨es, cl, hm⟩ := h.tab.isMap
  exact ⟨ht, h.bel.grown hg h.bel.size (fun k hk => by cases hk; exact Nat.le_of_lt h.lt), hg.cell h.cx (by simp; have := h.lt; omega), h.lt, fun p hp => (h.its p hp).map hm hg⟩
def needL (x : Int) (q : Bool) : List Int := if x = 37 then [] else if x = 36 then [33, 40] else if x = 35 then [if q then 35 else 36, 39, 33, 44, 45] else if x = 34 then [33, 34, 40] else []
set_option maxHeartbeats 1600000 in
theorem needed_true (i r nx x f m : Int) (w : World) (hx : IntR x) (HQ : Hid (∀ W, Calls Tryz.prog 52 #[.agg #[.int .u64 i, .int .u64 r, .int .i64 nx, .int .i64 x, .int .i64 f, .int .u32 m]] W fun e w' => e = .returned (.bool true) ∧ Below W.heap.size W w')) :
    Calls Tryz.prog 37 #[.agg #[.int .u64 i, .int .u64 r, .int .i64 nx, .int .i64 x, .int .i64 f, .int .u32 m]] w fun e w' => ∃ v, e = .returned v ∧ IntsAt w' v (needL x true) ∧ Below w.heap.size w w' := by
  have hmm := @run_makeMap Tryz.prog
  have HX := hidden hx
  clear hx
  have HB0 := hidden ((Below.refl w.heap.size w).alloc (Nat.le_refl _) (.cells #[.int .u64 i, .int .u64 r, .int .i64 nx, .int .i64 x, .int .i64 f, .int .u32 m] 27))
  have HC0 : Hid ((w.alloc (.cells #[.int .u64 i, .int .u64 r, .int .i64 nx, .int .i64 x, .int .i64 f, .int .u32 m] 27)).cell? ⟨w.heap.size, 3, none⟩ = some (.int .i64 x)) := by
    rw [World.cell?_alloc_at _ _ _ _ rfl]
    rfl
  go_enter Tryz.func37, Tryz.ntmps37
  go_upto_region 5 with (first
    | (go_at_call 52; (with_reducible refine (HQ.out _).mono ?_); rintro _ w1 ⟨rfl, hb1⟩; have HB1 := hidden (HB0.out.trans (hb1.mono HB0.out.size)); have HC1 := hidden (cell_below hb1 _ _ HC0.out); have hl1 := World.block_lt_of_cell? _ _ HC1.out; clear hb1; have hsz : (w1.alloc (.map #[] 0)).heap.size = w1.heap.size + 1 := (by simp); have hL1 := (Lts.mk (w := w) (x := x) (I := []) (Tab.made w1) (HB1.out.alloc HB1.out.size _) (cell_below ((Below.refl _ _).alloc (Nat.le_refl _) (.map #[] 0)) _ _ HC1.out) hl1 (fun _ h => nomatch h)).step [33, 34, 40] 3 (by decide); rw [hsz] at hL1; have HL1 := hidden hL1; clear hL1 hsz)
    | (refine wpList_tab _ rfl _ _ _ rfl w1.heap.size 0 _ HL1.out.tab (by omega) rfl 34 rfl _ rfl (by unfold IntR; omega) ?_; rintro w2 hT2 hg2; have HL2 := hidden ((HL1.out.ins hT2 hg2).step [35, 39, 33, 44, 45] 3 (by decide)); clear hT2 hg2)
    | (refine wpList_tab _ rfl _ _ _ rfl w1.heap.size _ _ HL2.out.tab (by omega) rfl 35 rfl _ rfl (by unfold IntR; omega) ?_; rintro w3 hT3 hg3; have HL3 := hidden ((HL2.out.ins hT3 hg3).step [33, 40] 3 (by decide)); clear hT3 hg3)
    | (refine wpList_tab _ rfl _ _ _ rfl w1.heap.size _ _ HL3.out.tab (by omega) rfl 36 rfl _ rfl (by unfold IntR; omega) ?_; rintro w4 hT4 hg4; have HL4 := hidden ((HL3.out.ins hT4 hg4).step [] 3 (by decide)); clear hT4 hg4)
    | (refine wpList_tab _ rfl _ _ _ rfl w1.heap.size _ _ HL4.out.tab (by omega) rfl 37 rfl _ rfl (by unfold IntR; omega) ?_; rintro w5 hT5 hg5; have HL5 := hidden (HL4.out.ins hT5 hg5); clear hT5 hg5)
    | fail)
  have hcx := HL5.out.cx
  obtain ⟨v, hv, hI⟩ : ∃ v, (Instr.lookup 121 (.map (some w1.heap.size)) (.int .i64 x) false).run Tryz.prog w5 = .ok v w5 ∧ IntsAt w5 v (needL x true) := by
    refine ⟨_, HL5.out.tab.look x HX.out, ?_⟩
    have hits := HL5.out.its
    by_cases h37 : x = 37
    · subst h37
      exact hits (_, []) (by simp)
    by_cases h36 : x = 36
    · subst h36
      exact hits (_, [33, 40]) (by simp)
    by_cases h35 : x = 35
    · subst h35
      exact hits (_, [35, 39, 33, 44, 45]) (by simp)
    by_cases h34 : x = 34
    · subst h34
      exact hits (_, [33, 34, 40]) (by simp)
    simp only [h37, h36, h35, h34, if_false, needL]
    exact IntsAt.nil _
  have HI := hidden hI
  have HB5 := hidden HL5.out.bel
  clear hI HL1 HL2 HL3 HL4 HL5 HQ hmm HX HB0 HC0 HB1 HC1
  go_wp2
  go_ret
  exact ⟨_, rfl, HI.out, HB5.out⟩
set_option maxHeartbeats 1600000 in
theorem needed_false (i r nx x f m : Int) (w : World) (hx : IntR x) (HQ : Hid (∀ W, Calls Tryz.prog 52 #[.agg #[.int .u64 i, .int .u64 r, .int .i64 nx, .int .i64 x, .int .i64 f, .int .u32 m]] W fun e w' => e = .returned (.bool false) ∧ Below W.heap.size W w')) :
    Calls Tryz.prog 37 #[.agg #[.int .u64 i, .int .u64 r, .int .i64 nx, .int .i64 x, .int .i64 f, .int .u32 m]] w fun e w' => ∃ v, e = .returned v ∧ IntsAt w' v (needL x false) ∧ Below w.heap.size w w' := by
  have hmm := @run_makeMap Tryz.prog
  have HX := hidden hx
  clear hx
  have HB0 := hidden ((Below.refl w.heap.size w).alloc (Nat.le_refl _) (.cells #[.int .u64 i, .int .u64 r, .int .i64 nx, .int .i64 x, .int .i64 f, .int .u32 m] 27))
  have HC0 : Hid ((w.alloc (.cells #[.int .u64 i, .int .u64 r, .int .i64 nx, .int .i64 x, .int .i64 f, .int .u32 m] 27)).cell? ⟨w.heap.size, 3, none⟩ = some (.int .i64 x)) := by
    rw [World.cell?_alloc_at _ _ _ _ rfl]
    rfl
  go_enter Tryz.func37, Tryz.ntmps37
  go_upto_region 5 with (first
    | (go_at_call 52; (with_reducible refine (HQ.out _).mono ?_); rintro _ w1 ⟨rfl, hb1⟩; have HB1 := hidden (HB0.out.trans (hb1.mono HB0.out.size)); have HC1 := hidden (cell_below hb1 _ _ HC0.out); have hl1 := World.block_lt_of_cell? _ _ HC1.out; clear hb1; have hsz : (w1.alloc (.map #[] 0)).heap.size = w1.heap.size + 1 := (by simp); have hL1 := (Lts.mk (w := w) (x := x) (I := []) (Tab.made w1) (HB1.out.alloc HB1.out.size _) (cell_below ((Below.refl _ _).alloc (Nat.le_refl _) (.map #[] 0)) _ _ HC1.out) hl1 (fun _ h => nomatch h)).step [33, 34, 40] 3 (by decide); rw [hsz] at hL1; have HL1 := hidden hL1; clear hL1 hsz)
    | (refine wpList_tab _ rfl _ _ _ rfl w1.heap.size 0 _ HL1.out.tab (by omega) rfl 34 rfl _ rfl (by unfold IntR; omega) ?_; rintro w2 hT2 hg2; have HL2 := hidden ((HL1.out.ins hT2 hg2).step [36, 39, 33, 44, 45] 3 (by decide)); clear hT2 hg2)
    | (refine wpList_tab _ rfl _ _ _ rfl w1.heap.size _ _ HL2.out.tab (by omega) rfl 35 rfl _ rfl (by unfold IntR; omega) ?_; rintro w3 hT3 hg3; have HL3 := hidden ((HL2.out.ins hT3 hg3).step [33, 40] 3 (by decide)); clear hT3 hg3)
    | (refine wpList_tab _ rfl _ _ _ rfl w1.heap.size _ _ HL3.out.tab (by omega) rfl 36 rfl _ rfl (by unfold IntR; omega) ?_; rintro w4 hT4 hg4; have HL4 := hidden ((HL3.out.ins hT4 hg4).step [] 3 (by decide)); clear hT4 hg4)
    | (refine wpList_tab _ rfl _ _ _ rfl w1.heap.size _ _ HL4.out.tab (by omega) rfl 37 rfl _ rfl (by unfold IntR; omega) ?_; rintro w5 hT5 hg5; have HL5 := hidden (HL4.out.ins hT5 hg5); clear hT5 hg5)
    | fail)
  have hcx := HL5.out.cx
  obtain ⟨v, hv, hI⟩ : ∃ v, (Instr.lookup 121 (.map (some w1.heap.size)) (.int .i64 x) false).run Tryz.prog w5 = .ok v w5 ∧ IntsAt w5 v (needL x false) := by
    refine ⟨_, HL5.out.tab.look x HX.out, ?_⟩
    have hits := HL5.out.its
    by_cases h37 : x = 37
    · subst h37
      exact hits (_, []) (by simp)
    by_cases h36 : x = 36
    · subst h36
      exact hits (_, [33, 40]) (by simp)
    by_cases h35 : x = 35
    · subst h35
      exact hits (_, [36, 39, 33, 44, 45]) (by simp)
    by_cases h34 : x = 34
    · subst h34
      exact hits (_, [33, 34, 40]) (by simp)
    simp only [h37, h36, h35, h34, if_false, needL]
    exact IntsAt.nil _
  have HI := hidden hI
  have HB5 := hidden HL5.out.bel
  clear hI HL1 HL2 HL3 HL4 HL5 HQ hmm HX HB0 HC0 HB1 HC1
  go_wp2
  go_ret
  exact ⟨_, rfl, HI.out, HB5.out⟩
theorem needed_any (i r nx x f m : Int) (w : World) (hx : IntR x) :
    Calls Tryz.prog 37 #[.agg #[.int .u64 i, .int .u64 r, .int .i64 nx, .int .i64 x, .int .i64 f, .int .u32 m]] w fun e w' => ∃ v, e = .returned v ∧ IntsAt w' v (needL x (bits BinOp.and IntKind.i64 f 32 == 0)) ∧ Below w.heap.size w w' := by
  have HQ := hidden (fun W => request_any i r nx x f m W)
  generalize (bits BinOp.and IntKind.i64 f 32 == 0) = q at HQ
  cases q with
  | true => exact needed_true i r nx x f m w hx HQ
  | false => exact needed_false i r nx x f m w hx HQ
end Go.Proofs.YtnbkffehhahckaaGreat

namespace Go.Proofs.YtnbkffehhahckaaGreat
open Go.RowKit
set_option linter.unusedVariables false
theorem needL_int (x : Int) (q : Bool) : ∀ k ∈ needL x q, IntR k := by
  intro k hk
  unfold needL at hk
  unfold IntR
  cases q <;> (repeat' split at hk) <;> simp at hk <;> omega
set_option maxHeartbeats 6400000 in
set_option maxRecDepth 100000 in
theorem complete_any (i r nx x f m : Int) (p : Option Addr) (n c : Nat) (l : List Pv) (b : Nat) (ts : List Int) (w : World) (h : RdG KPv DPv w p n c l) (hn : n ≤ 100000) (hx : IntR x) (hF : Fnd w b ts) :
    Calls Tryz.prog 20 #[.agg #[.int .u64 i, .int .u64 r, .int .i64 nx, .int .i64 x, .int .i64 f, .int .u32 m, .slice p n c], .map (some b)] w fun e w' => e = .returned (.bool ((needL x (bits BinOp.and IntKind.i64 f 32 == 0)).all (fun k => decide (k ∈ ts)) || (x == 34 && (l.all plainP && l.any (isNote 16390))))) ∧ Below w.heap.size w w' := by
  have HBX := hidden ((Below.refl w.heap.size w).alloc (Nat.le_refl _) (.cells #[.int .u64 i, .int .u64 r, .int .i64 nx, .int .i64 x, .int .i64 f, .int .u32 m, .slice p n c] 30))
  have HCX : Hid (∀ j u, (#[Value.int .u64 i, .int .u64 r, .int .i64 nx, .int .i64 x, .int .i64 f, .int .u32 m, .slice p n c] : Array Value)[j]? = some u → (w.alloc (.cells #[.int .u64 i, .int .u64 r, .int .i64 nx, .int .i64 x, .int .i64 f, .int .u32 m, .slice p n c] 30)).cell? ⟨w.heap.size, j, none⟩ = some u) := fun j u hj => by
    rw [World.cell?_alloc_at _ _ _ _ rfl]
    simpa using hj
  have HA := hidden (fun W (hW : Below w.heap.size w W) => asksCookie_any i r nx x f m p n c l W (h.below hW) hn)
  have HND := hidden (needed_any i r nx x f m (w.alloc (.cells #[.int .u64 i, .int .u64 r, .int .i64 nx, .int .i64 x, .int .i64 f, .int .u32 m, .slice p n c] 30)) hx)
  have HLI := hidden (needL_int x (bits BinOp.and IntKind.i64 f 32 == 0))
  have HFN := hidden hF
  obtain ⟨A, hA⟩ : ∃ A, (l.all plainP && l.any (isNote 16390)) = A := ⟨_, rfl⟩
  rw [hA] at HA ⊢
  generalize needL x (bits BinOp.and IntKind.i64 f 32 == 0) = L at HND HLI ⊢
  obtain ⟨R, hR⟩ : ∃ R, (L.all (fun k => decide (k ∈ ts)) || (x == 34 && A)) = R := ⟨_, rfl⟩
  have HR : Is ((L.drop 0).all (fun k => decide (k ∈ ts)) || (x == 34 && A)) R := ⟨by simpa using hR⟩
  rw [hR]
  clear hR h hA hx hF
  go_enter Tryz.func20, Tryz.ntmps20
  go_wp2_with (first
    | (go_at_call 37; (with_reducible refine (HND.out).mono ?_); rintro _ w1 ⟨v, rfl, ⟨p1, n1, c1, rfl, hn1, hm1, hmem⟩, hb1⟩; have HB1 := hidden (HBX.out.trans (hb1.mono HBX.out.size)); have HC1 := hidden (cell_below hb1); have HMM := hidden hmem; have HL1 := Is.mk hn1; clear hb1 hmem hn1)
    | fail)
  go_loopw [11] (fun v wr => ∃ (j : Nat), j ≤ n1 ∧ v = .int .i64 j ∧ Is ((L.drop j).all (fun k => decide (k ∈ ts)) || (x == 34 && A)) R ∧ wr = w1) (fun v _ => n1 - (intOf v).toNat)
  case atStart => exact ⟨0, by omega, rfl, HR, rfl⟩
  case round =>
    obtain ⟨j, hj, rfl, hrel, rfl⟩ := hrel
    have HB := HB1
    have m0 := HC1.out _ _ (HCX.out 0 _ rfl)
    have m1 := HC1.out _ _ (HCX.out 1 _ rfl)
    have m2 := HC1.out _ _ (HCX.out 2 _ rfl)
    have m3 := HC1.out _ _ (HCX.out 3 _ rfl)
    have m4 := HC1.out _ _ (HCX.out 4 _ rfl)
    have m5 := HC1.out _ _ (HCX.out 5 _ rfl)
    have m6 := HC1.out _ _ (HCX.out 6 _ rfl)
    by_cases hlt : j < n1
    · have hlt' : (j : Int) < n1 := by omega
      obtain ⟨g, rfl, hcc⟩ := HMM.out (by omega)
      have hl : j < L.length := by rw [← HL1.eq]; exact hlt
      have hcj := hcc j L[j] (List.getElem?_eq_getElem hl)
      have hlk := (HFN.out.below HB.out).look L[j] (HLI.out _ (List.getElem_mem hl))
      have hf := hrel.eq
      rw [List.drop_eq_getElem_cons hl, List.all_cons] at hf
      generalize L[j] = k at hcj hlk hf
      generalize decide (k ∈ ts) = z at hlk hf
      clear hcc hrel hl
      cases z with
      | true =>
        have HT : Is ((L.drop (j + 1)).all (fun k => decide (k ∈ ts)) || (x == 34 && A)) R := ⟨by simpa using hf⟩
        clear hf
        go_wp2
        go_roundw
        case rel => exact ⟨j + 1, by omega, by go_num, HT, by first | rfl | trivial⟩
        case measure => simp [intOf]; omega
      | false =>
        have HT : Is (x == 34 && A) R := ⟨by simpa using hf⟩
        clear hf
        cases hq : (x == 34) with
        | true =>
          rw [hq] at HT
          go_wp2_with (first
            | (go_at_call 38; (with_reducible refine (HA.out _ HB.out).mono ?_); rintro _ w2 ⟨rfl, hb2⟩; have HB2 := hidden (HB.out.trans (hb2.mono HB.out.size)); clear hb2)
            | fail)
          go_ret
          exact ⟨by rw [← HT.eq]; rfl, HB2.out⟩
        | false =>
          rw [hq] at HT
          go_wp2
          go_ret
          exact ⟨by rw [← HT.eq]; rfl, HB.out⟩
    · have hlt' : ¬ (j : Int) < n1 := by omega
      have hd : L.drop j = [] := List.drop_eq_nil_of_le (by rw [← HL1.eq]; omega)
      have hf := hrel.eq
      rw [hd, List.all_nil, Bool.true_or] at hf
      have HF := Is.mk hf
      clear hf hd hrel
      go_wp2
      go_ret
      exact ⟨by rw [← HF.eq]; rfl, HB.out⟩
end Go.Proofs.YtnbkffehhahckaaGreat
