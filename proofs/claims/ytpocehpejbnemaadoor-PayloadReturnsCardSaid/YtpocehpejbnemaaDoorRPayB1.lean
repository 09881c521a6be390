/-
  Package payload's writers of key exchanges and notifications.
-/
import Derived.Test.YtpocehpejbnemaaDoorRZ14
import Derived.Test.YtpocehpejbnemaaDoorRPayChk
import Derived.Test.YtpocehpejbnemaaDoorRPayPut
import Derived.Deep.Cut
import Derived.Deep.CutRange
import Derived.Deep.RegionHeld3
namespace Go.Proofs.YtpocehpejbnemaaDoor
open Go.RowKit
set_option linter.unusedVariables false
set_option linter.unusedSimpArgs false

/-- Bytes and an error are returned. -/
def GotBE (w : World) (L : List Int) (E : Int) (e : Ending) (w' : World) : Prop := ∃ q d, e = .returned (.tuple #[.slice q L.length d, .int .i64 E]) ∧ Frs w' w.heap.size q L.length d L ∧ Below w.heap.size w w'
theorem part1 (w : World) (a : Part) (t : TypeId) (h : Byt w a.p a.n a.c a.xs) : Parts (w.alloc (.cells #[.slice a.p a.n a.c] t)) (some ⟨w.heap.size, 0, none⟩) 1 1 [a] :=
  ⟨rfl, Nat.le_refl _, by decide, fun _ => ⟨_, rfl, fun j hj => by
    have hj' : j < 1 := hj
    obtain rfl : j = 0 := by omega
    go_simp⟩, fun x hx => by rw [List.mem_singleton.1 hx]; exact h.alloc _⟩
theorem part2 (w : World) (a b : Part) (t : TypeId) (h : Byt w a.p a.n a.c a.xs) (k : Byt w b.p b.n b.c b.xs) : Parts (w.alloc (.cells #[.slice a.p a.n a.c, .slice b.p b.n b.c] t)) (some ⟨w.heap.size, 0, none⟩) 2 2 [a, b] :=
  ⟨rfl, Nat.le_refl _, by decide, fun _ => ⟨_, rfl, fun j hj => by
    have hj' : j < 2 := hj
    have : j = 0 ∨ j = 1 := by omega
    rcases this with rfl | rfl <;> go_simp⟩, fun x hx => by
      simp only [List.mem_cons, List.not_mem_nil, or_false] at hx
      rcases hx with rfl | rfl
      · exact h.alloc _
      · exact k.alloc _⟩
theorem mod256_rng (z : Int) : 0 ≤ z % 256 ∧ z % 256 ≤ 255 := by omega
/-- before with one part, in the world where the row of parts has just been made. -/
theorem before1 (a b c d : Int) (ha : 0 ≤ a ∧ a ≤ 255) (hb : 0 ≤ b ∧ b ≤ 255) (hc : 0 ≤ c ∧ c ≤ 255) (hd : 0 ≤ d ∧ d ≤ 255) (p : Option Addr) (n k : Nat) (xs : List Int) (w : World) (h : Byt w p n k xs) (hn : n ≤ 140737488355000) (L : List Int) (hL : [a, b, c, d] ++ xs = L) :
    Calls Tryd.prog 59 #[.agg #[.int .u8 a, .int .u8 b, .int .u8 c, .int .u8 d], .slice (some ⟨w.heap.size, 0, none⟩) 1 1] (w.alloc (.cells #[.slice p n k] 22)) (GotF w L) :=
  (before_any a b c d ha hb hc hd _ 1 1 [⟨p, n, k, xs⟩] _ (part1 w ⟨p, n, k, xs⟩ 22 h) (by simp [sizeOf']; omega) L (by simpa [bytesOf] using hL)).mono fun e w' ⟨q, d', he, hf, hb'⟩ =>
    ⟨q, d', he, hf.mono (by simp), ((Below.refl w.heap.size w).alloc (Nat.le_refl _) _).trans (hb'.mono (by simp))⟩
theorem before2 (a b c d : Int) (ha : 0 ≤ a ∧ a ≤ 255) (hb : 0 ≤ b ∧ b ≤ 255) (hc : 0 ≤ c ∧ c ≤ 255) (hd : 0 ≤ d ∧ d ≤ 255) (p q : Option Addr) (n k m l : Nat) (xs ys : List Int) (w : World) (h : Byt w p n k xs) (h' : Byt w q m l ys) (hn : n + m ≤ 140737488355000) (L : List Int) (hL : [a, b, c, d] ++ (xs ++ ys) = L) :
    Calls Tryd.prog 59 #[.agg #[.int .u8 a, .int .u8 b, .int .u8 c, .int .u8 d], .slice (some ⟨w.heap.size, 0, none⟩) 2 2] (w.alloc (.cells #[.slice p n k, .slice q m l] 22)) (GotF w L) :=
  (before_any a b c d ha hb hc hd _ 2 2 [⟨p, n, k, xs⟩, ⟨q, m, l, ys⟩] _ (part2 w ⟨p, n, k, xs⟩ ⟨q, m, l, ys⟩ 22 h h') (by simp [sizeOf']; omega) L (by simpa [bytesOf] using hL)).mono fun e w' ⟨q, d', he, hf, hb'⟩ =>
    ⟨q, d', he, hf.mono (by simp), ((Below.refl w.heap.size w).alloc (Nat.le_refl _) _).trans (hb'.mono (by simp))⟩

/-- before with one part, the row of parts made at some time before. -/
theorem before1_at (a b c d : Int) (ha : 0 ≤ a ∧ a ≤ 255) (hb : 0 ≤ b ∧ b ≤ 255) (hc : 0 ≤ c ∧ c ≤ 255) (hd : 0 ≤ d ∧ d ≤ 255) (p : Option Addr) (n k : Nat) (xs : List Int) (w W : World) (h : Byt w p n k xs) (hn : n ≤ 140737488355000) (L : List Int) (hL : [a, b, c, d] ++ xs = L)
    (hW : Below (w.alloc (.cells #[.slice p n k] 22)).drew.heap.size (w.alloc (.cells #[.slice p n k] 22)).drew W) :
    Calls Tryd.prog 59 #[.agg #[.int .u8 a, .int .u8 b, .int .u8 c, .int .u8 d], .slice (some ⟨w.heap.size, 0, none⟩) 1 1] W (GotF W L) :=
  before_any a b c d ha hb hc hd _ 1 1 [⟨p, n, k, xs⟩] _ (((part1 w ⟨p, n, k, xs⟩ 22 h).below (w' := (w.alloc (.cells #[.slice p n k] 22)).drew) (drew_below ⟨1, rfl⟩)).below hW) (by simp [sizeOf']; omega) L (by simpa [bytesOf] using hL)
theorem before2_at (a b c d : Int) (ha : 0 ≤ a ∧ a ≤ 255) (hb : 0 ≤ b ∧ b ≤ 255) (hc : 0 ≤ c ∧ c ≤ 255) (hd : 0 ≤ d ∧ d ≤ 255) (p q : Option Addr) (n k m l : Nat) (xs ys : List Int) (w W : World) (h : Byt w p n k xs) (h' : Byt w q m l ys) (hn : n + m ≤ 140737488355000) (L : List Int) (hL : [a, b, c, d] ++ (xs ++ ys) = L)
    (hW : Below (w.alloc (.cells #[.slice p n k, .slice q m l] 22)).drew.heap.size (w.alloc (.cells #[.slice p n k, .slice q m l] 22)).drew W) :
    Calls Tryd.prog 59 #[.agg #[.int .u8 a, .int .u8 b, .int .u8 c, .int .u8 d], .slice (some ⟨w.heap.size, 0, none⟩) 2 2] W (GotF W L) :=
  before_any a b c d ha hb hc hd _ 2 2 [⟨p, n, k, xs⟩, ⟨q, m, l, ys⟩] _ (((part2 w ⟨p, n, k, xs⟩ ⟨q, m, l, ys⟩ 22 h h').below (w' := (w.alloc (.cells #[.slice p n k, .slice q m l] 22)).drew) (drew_below ⟨1, rfl⟩)).below hW) (by simp [sizeOf']; omega) L (by simpa [bytesOf] using hL)

/-- The bytes of a key exchange. -/
def exchL (g : Int) (ed : List Int) : List Int := [g / 256 % 256, g % 256, 0, 0] ++ ed
set_option maxHeartbeats 3200000 in
set_option maxRecDepth 100000 in
theorem buildExchange_any (g : Int) (p : Option Addr) (n c : Nat) (ed : List Int) (w : World) (h : Byt w p n c ed) (hn : n ≤ 140737488355000) (E : Int) (hE : exchE g n = E) :
    Calls Tryd.prog 58 #[.agg #[.int .i64 g, .slice p n c]] w (GotBE w (exchL g ed) E) := by
  have hx1 := mod256_rng (g / 256)
  have hx2 := mod256_rng g
  have HL : Hid ([g / 256 % 256, g % 256, 0, 0] ++ ed = exchL g ed) := rfl
  have HB0 := hidden ((Below.refl w.heap.size w).alloc (Nat.le_refl _) (.cells #[.int .i64 g, .slice p n c] 28))
  have HY := hidden (fun W (hW : Below w.heap.size w W) => h.below hW)
  have HCE := hidden (fun W => checkExchange_any g p n c W (by omega) E hE)
  generalize exchL g ed = L at *
  clear h hE
  go_enter Tryd.func58, Tryd.ntmps58
  go_upto_region 2 with fail
  generalize hw2 : (w.alloc (.cells #[.int .i64 g, .slice p n c] 28)).alloc (.cells _ 102) = w2
  have k0 : w2.cell? ⟨w.heap.size, 0, none⟩ = some (.int .i64 g) := by rw [← hw2]; clear hw2; go_simp
  have k1 : w2.cell? ⟨w.heap.size, 1, none⟩ = some (.slice p n c) := by rw [← hw2]; clear hw2; go_simp
  have k2 : w2.cell? ⟨w.heap.size + 1, 0, none⟩ = some (.int .u8 (g / 256 % 256)) := by rw [← hw2]; clear hw2; go_simp
  have k3 : w2.cell? ⟨w.heap.size + 1, 1, none⟩ = some (.int .u8 (g % 256)) := by rw [← hw2]; clear hw2; go_simp
  have k4 : w2.cell? ⟨w.heap.size + 1, 2, none⟩ = some (.int .u8 0) := by rw [← hw2]; clear hw2; go_simp
  have k5 : w2.cell? ⟨w.heap.size + 1, 3, none⟩ = some (.int .u8 0) := by rw [← hw2]; clear hw2; go_simp
  have hb2 : Below w.heap.size w w2 := by rw [← hw2]; exact HB0.out.alloc HB0.out.size _
  have HB2 := hidden hb2
  have HKK := hidden (fun W (hW : Below w2.heap.size w2 W) => (⟨cell_below hW _ _ k0, cell_below hW _ _ k1, cell_below hW _ _ k2, cell_below hW _ _ k3, cell_below hW _ _ k4, cell_below hW _ _ k5⟩ : W.cell? ⟨w.heap.size, 0, none⟩ = some (.int .i64 g) ∧ W.cell? ⟨w.heap.size, 1, none⟩ = some (.slice p n c) ∧ W.cell? ⟨w.heap.size + 1, 0, none⟩ = some (.int .u8 (g / 256 % 256)) ∧ W.cell? ⟨w.heap.size + 1, 1, none⟩ = some (.int .u8 (g % 256)) ∧ W.cell? ⟨w.heap.size + 1, 2, none⟩ = some (.int .u8 0) ∧ W.cell? ⟨w.heap.size + 1, 3, none⟩ = some (.int .u8 0)))
  have HY2 := hidden (HY.out w2 hb2)
  have HBF := hidden (fun W (hW : Below w2.heap.size w2 W) => before1 (g / 256 % 256) (g % 256) 0 0 hx1 hx2 (by omega) (by omega) p n c ed W (HY2.out.below hW) hn L HL.out)
  have HBA := hidden (fun W hW => before1_at (g / 256 % 256) (g % 256) 0 0 hx1 hx2 (by omega) (by omega) p n c ed w2 W HY2.out hn L HL.out hW)
  have HR0 := hidden (show Below w2.heap.size w2 w2.drew from drew_below ⟨1, rfl⟩)
  have HRA := hidden (show Below w2.heap.size w2 (w2.alloc (.cells #[.slice p n c] 22)).drew from ((Below.refl _ w2).alloc (Nat.le_refl _) _).trans (drew_below ⟨1, rfl⟩))
  have HFIN := hidden (fun (q : Option Addr) (d : Nat) W (hf : Frs W w2.heap.size q L.length d L) (hW : Below w2.heap.size w2 W) => show GotBE w L E (.returned (.tuple #[.slice q L.length d, .int .i64 E])) W from ⟨q, d, rfl, hf.mono hb2.size, hb2.trans (hW.mono hb2.size)⟩)
  clear hw2 hb2
  generalize w.heap.size = N at *
  go_region_held3 (fun W => W.cell? ⟨N, 0, none⟩ = some (.int .i64 g) ∧ W.cell? ⟨N, 1, none⟩ = some (.slice p n c) ∧ W.cell? ⟨N + 1, 0, none⟩ = some (.int .u8 (g / 256 % 256)) ∧ W.cell? ⟨N + 1, 1, none⟩ = some (.int .u8 (g % 256)) ∧ W.cell? ⟨N + 1, 2, none⟩ = some (.int .u8 0) ∧ W.cell? ⟨N + 1, 3, none⟩ = some (.int .u8 0))
    (first | exact HKK.out _ HB5.out | exact HKK.out _ HB6.out | exact HKK.out _ HR0.out | exact HKK.out _ HRA.out | go_keep)
    (first
    | (go_at_call 59; (with_reducible refine (HBA.out _ (Below.refl _ _)).mono ?_); rintro e w5 ⟨q5, d5, rfl, hf5, hb5⟩; have HF5 := hidden (hf5.mono HRA.out.size); have HB5 : Hid (Below w2.heap.size w2 w5) := hidden (HRA.out.trans (hb5.mono HRA.out.size)); clear hf5 hb5)
    | (go_at_call 59; (with_reducible refine (HBF.out _ HB6.out).mono ?_); rintro e w5 ⟨q5, d5, rfl, hf5, hb5⟩; have HF5 := hidden (hf5.mono HB6.out.size); have HB5 : Hid (Below w2.heap.size w2 w5) := hidden (HB6.out.trans (hb5.mono HB6.out.size)); clear hf5 hb5)
    | (go_at_call 59; (with_reducible refine (HBA.out _ HX6.out).mono ?_); rintro e w5 ⟨q5, d5, rfl, hf5, hb5⟩; have HF5 := hidden (hf5.mono HB6.out.size); have HB5 : Hid (Below w2.heap.size w2 w5) := hidden (HB6.out.trans (hb5.mono HB6.out.size)); clear hf5 hb5)
    | (go_at_call 93; (with_reducible refine (HCE.out (w2.alloc (.cells #[.slice p n c] 22)).drew).mono ?_); rintro e w6 ⟨rfl, hb6⟩; have HX6 := hidden hb6; have HB6 : Hid (Below w2.heap.size w2 w6) := hidden (HRA.out.trans (hb6.mono HRA.out.size)); clear hb6)
    | (go_at_call 93; (with_reducible refine (HCE.out _).mono ?_); rintro e w6 ⟨rfl, hb6⟩; have HB6 : Hid (Below w2.heap.size w2 w6) := hidden (by first | exact HB5.out.trans (hb6.mono HB5.out.size) | exact HR0.out.trans (hb6.mono HR0.out.size)); have HF6 : Hid (∀ q d, Frs w5 w2.heap.size q L.length d L → Frs w6 w2.heap.size q L.length d L) := hidden (fun q d hf => hf.below hb6); clear hb6)
    | fail)
  all_goals
    go_wp2
    go_ret2
    first
      | exact HFIN.out q5 d5 _ HF5.out HB5.out
      | exact HFIN.out q5 d5 _ (HF6.out _ _ HF5.out) HB6.out

/-- The bytes of a notification. -/
def noteL (np nt : Int) (ns nd : List Int) : List Int := [np % 256, (ns.length : Int) % 256, nt / 256 % 256, nt % 256] ++ (ns ++ nd)
set_option maxHeartbeats 6400000 in
set_option maxRecDepth 100000 in
theorem buildNotify_any (np nt : Int) (p q : Option Addr) (n c m d : Nat) (ns nd : List Int) (w : World) (h : Byt w p n c ns) (h' : Byt w q m d nd) (hn : n + m ≤ 140737488355000) (E : Int) (hE : notifyE np nt n = E) :
    Calls Tryd.prog 64 #[.agg #[.int .i64 np, .slice p n c, .int .i64 nt, .slice q m d]] w (GotBE w (noteL np nt ns nd) E) := by
  have hx1 := mod256_rng np
  have hx2 := mod256_rng (n : Int)
  have hx3 := mod256_rng (nt / 256)
  have hx4 := mod256_rng nt
  have HL : Hid ([np % 256, (n : Int) % 256, nt / 256 % 256, nt % 256] ++ (ns ++ nd) = noteL np nt ns nd) := by show _ = _; rw [noteL, h.len]
  have HB0 := hidden ((Below.refl w.heap.size w).alloc (Nat.le_refl _) (.cells #[.int .i64 np, .slice p n c, .int .i64 nt, .slice q m d] 34))
  have HY := hidden (fun W (hW : Below w.heap.size w W) => h.below hW)
  have HY' := hidden (fun W (hW : Below w.heap.size w W) => h'.below hW)
  have HCE := hidden (fun W => checkNotify_any np nt n p q n c m d W E hE)
  generalize noteL np nt ns nd = L at *
  clear h h' hE
  go_enter Tryd.func64, Tryd.ntmps64
  go_upto_region 3 with fail
  generalize hw2 : (w.alloc (.cells #[.int .i64 np, .slice p n c, .int .i64 nt, .slice q m d] 34)).alloc (.cells _ 102) = w2
  have k0 : w2.cell? ⟨w.heap.size, 0, none⟩ = some (.int .i64 np) := by rw [← hw2]; clear hw2; go_simp
  have k1 : w2.cell? ⟨w.heap.size, 1, none⟩ = some (.slice p n c) := by rw [← hw2]; clear hw2; go_simp
  have k6 : w2.cell? ⟨w.heap.size, 2, none⟩ = some (.int .i64 nt) := by rw [← hw2]; clear hw2; go_simp
  have k7 : w2.cell? ⟨w.heap.size, 3, none⟩ = some (.slice q m d) := by rw [← hw2]; clear hw2; go_simp
  have k2 : w2.cell? ⟨w.heap.size + 1, 0, none⟩ = some (.int .u8 (np % 256)) := by rw [← hw2]; clear hw2; go_simp
  have k3 : w2.cell? ⟨w.heap.size + 1, 1, none⟩ = some (.int .u8 ((n : Int) % 256)) := by rw [← hw2]; clear hw2; go_simp
  have k4 : w2.cell? ⟨w.heap.size + 1, 2, none⟩ = some (.int .u8 (nt / 256 % 256)) := by rw [← hw2]; clear hw2; go_simp
  have k5 : w2.cell? ⟨w.heap.size + 1, 3, none⟩ = some (.int .u8 (nt % 256)) := by rw [← hw2]; clear hw2; go_simp
  have hb2 : Below w.heap.size w w2 := by rw [← hw2]; exact HB0.out.alloc HB0.out.size _
  have HKK := hidden (fun W (hW : Below w2.heap.size w2 W) => (⟨cell_below hW _ _ k0, cell_below hW _ _ k1, cell_below hW _ _ k6, cell_below hW _ _ k7, cell_below hW _ _ k2, cell_below hW _ _ k3, cell_below hW _ _ k4, cell_below hW _ _ k5⟩ : W.cell? ⟨w.heap.size, 0, none⟩ = some (.int .i64 np) ∧ W.cell? ⟨w.heap.size, 1, none⟩ = some (.slice p n c) ∧ W.cell? ⟨w.heap.size, 2, none⟩ = some (.int .i64 nt) ∧ W.cell? ⟨w.heap.size, 3, none⟩ = some (.slice q m d) ∧ W.cell? ⟨w.heap.size + 1, 0, none⟩ = some (.int .u8 (np % 256)) ∧ W.cell? ⟨w.heap.size + 1, 1, none⟩ = some (.int .u8 ((n : Int) % 256)) ∧ W.cell? ⟨w.heap.size + 1, 2, none⟩ = some (.int .u8 (nt / 256 % 256)) ∧ W.cell? ⟨w.heap.size + 1, 3, none⟩ = some (.int .u8 (nt % 256))))
  have HY2 := hidden (HY.out w2 hb2)
  have HY3 := hidden (HY'.out w2 hb2)
  have HBF := hidden (fun W (hW : Below w2.heap.size w2 W) => before2 (np % 256) ((n : Int) % 256) (nt / 256 % 256) (nt % 256) hx1 hx2 hx3 hx4 p q n c m d ns nd W (HY2.out.below hW) (HY3.out.below hW) hn L HL.out)
  have HBA := hidden (fun W hW => before2_at (np % 256) ((n : Int) % 256) (nt / 256 % 256) (nt % 256) hx1 hx2 hx3 hx4 p q n c m d ns nd w2 W HY2.out HY3.out hn L HL.out hW)
  have HR0 := hidden (show Below w2.heap.size w2 w2.drew from drew_below ⟨1, rfl⟩)
  have HRA := hidden (show Below w2.heap.size w2 (w2.alloc (.cells #[.slice p n c, .slice q m d] 22)).drew from ((Below.refl _ w2).alloc (Nat.le_refl _) _).trans (drew_below ⟨1, rfl⟩))
  have HFIN := hidden (fun (q : Option Addr) (d : Nat) W (hf : Frs W w2.heap.size q L.length d L) (hW : Below w2.heap.size w2 W) => show GotBE w L E (.returned (.tuple #[.slice q L.length d, .int .i64 E])) W from ⟨q, d, rfl, hf.mono hb2.size, hb2.trans (hW.mono hb2.size)⟩)
  clear hw2 hb2
  generalize w.heap.size = N at *
  go_region_held3 (fun W => W.cell? ⟨N, 0, none⟩ = some (.int .i64 np) ∧ W.cell? ⟨N, 1, none⟩ = some (.slice p n c) ∧ W.cell? ⟨N, 2, none⟩ = some (.int .i64 nt) ∧ W.cell? ⟨N, 3, none⟩ = some (.slice q m d) ∧ W.cell? ⟨N + 1, 0, none⟩ = some (.int .u8 (np % 256)) ∧ W.cell? ⟨N + 1, 1, none⟩ = some (.int .u8 ((n : Int) % 256)) ∧ W.cell? ⟨N + 1, 2, none⟩ = some (.int .u8 (nt / 256 % 256)) ∧ W.cell? ⟨N + 1, 3, none⟩ = some (.int .u8 (nt % 256)))
    (first | exact HKK.out _ HB5.out | exact HKK.out _ HB6.out | exact HKK.out _ HR0.out | exact HKK.out _ HRA.out | go_keep)
    (first
    | (go_at_call 59; (with_reducible refine (HBA.out _ (Below.refl _ _)).mono ?_); rintro e w5 ⟨q5, d5, rfl, hf5, hb5⟩; have HF5 := hidden (hf5.mono HRA.out.size); have HB5 : Hid (Below w2.heap.size w2 w5) := hidden (HRA.out.trans (hb5.mono HRA.out.size)); clear hf5 hb5)
    | (go_at_call 59; (with_reducible refine (HBF.out _ HB6.out).mono ?_); rintro e w5 ⟨q5, d5, rfl, hf5, hb5⟩; have HF5 := hidden (hf5.mono HB6.out.size); have HB5 : Hid (Below w2.heap.size w2 w5) := hidden (HB6.out.trans (hb5.mono HB6.out.size)); clear hf5 hb5)
    | (go_at_call 59; (with_reducible refine (HBA.out _ HX6.out).mono ?_); rintro e w5 ⟨q5, d5, rfl, hf5, hb5⟩; have HF5 := hidden (hf5.mono HB6.out.size); have HB5 : Hid (Below w2.heap.size w2 w5) := hidden (HB6.out.trans (hb5.mono HB6.out.size)); clear hf5 hb5)
    | (go_at_call 94; (with_reducible refine (HCE.out (w2.alloc (.cells #[.slice p n c, .slice q m d] 22)).drew).mono ?_); rintro e w6 ⟨rfl, hb6⟩; have HX6 := hidden hb6; have HB6 : Hid (Below w2.heap.size w2 w6) := hidden (HRA.out.trans (hb6.mono HRA.out.size)); clear hb6)
    | (go_at_call 94; (with_reducible refine (HCE.out _).mono ?_); rintro e w6 ⟨rfl, hb6⟩; have HB6 : Hid (Below w2.heap.size w2 w6) := hidden (by first | exact HB5.out.trans (hb6.mono HB5.out.size) | exact HR0.out.trans (hb6.mono HR0.out.size)); have HF6 : Hid (∀ q d, Frs w5 w2.heap.size q L.length d L → Frs w6 w2.heap.size q L.length d L) := hidden (fun q d hf => hf.below hb6); clear hb6)
    | fail)
  all_goals
    go_wp2
    go_ret2
    first
      | exact HFIN.out q5 d5 _ HF5.out HB5.out
      | exact HFIN.out q5 d5 _ (HF6.out _ _ HF5.out) HB6.out
end Go.Proofs.YtpocehpejbnemaaDoor
