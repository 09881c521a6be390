/-
  Package payload's writers of key exchanges and notifications.
  Package payload's reader of plain data.
  Package payload's reader of proposals.
  Whether the types that were found are all that the exchange needs (message.complete).
  The generator of a chain's payloads: what it hands to the loop over it, and what the reader holds when it ends.
-/
import Derived.Test.YtkniifopfgeopaaGreatJZ15
import Derived.Test.YtkniifopfgeopaaGreatJZ5
import Derived.Test.YtkniifopfgeopaaGreatJZ1
import Derived.Test.YtkniifopfgeopaaGreatJZ12
import Derived.Test.YtkniifopfgeopaaGreatJZ21
import Derived.Test.YtkniifopfgeopaaGreatJZ30
import Derived.Deep.Cut
import Derived.Deep.CutRange
import Derived.Deep.RegionHeld3
import Derived.Shelf.RegionOpen
import Derived.OwnWalkIn
import Derived.TacticsInMore
import Derived.LoopNIn
import Derived.LoopIn
import Derived.Sort.QuietIn
namespace Go.Proofs.YtkniifopfgeopaaGreat
open Go.RowKit
set_option linter.unusedVariables false
set_option linter.unusedSimpArgs false

/-- Bytes and an error are returned. -/
def GotBE (w : World) (L : List Int) (E : Int) (e : Ending) (w' : World) : Prop := ∃ q d, e = .returned (.tuple #[.slice q L.length d, .int .i64 E]) ∧ Frs w' w.heap.size q L.length d L ∧ Below w.heap.size w w'
theorem part1 (w : World) (a : Part) (t : TypeId) (h : Byt w a.p a.n a.c a.xs) : Parts (w.alloc (.cells #[.slice a.p a.n a.c] t)) (some ⟨w.heap.size, 0, none⟩) 1 1 [a] :=
  ⟨rfl, Nat.le_refl _, by decide, fun _ => ⟨_, rfl, fun j hj => by
    have hj' : j < 1 := hj
    obtain rfl : j = 0 := by omega
    go_simp⟩, fun x hx => by rw [List.mem_singleton.1 hx]; exact h.alloc _⟩
theorem part2 (w : World) (a b : Part) (t : TypeId) (h : Byt w a.p a.n a.c a.xs) (k : Byt w b.p b.n b.c b.xs) : Parts (w.alloc (.cells #[.slice a.p a.n a.c, .slice b.p b.n b.c] t)) (some ⟨w.heap.size, 0, none⟩) 2 2 [a, b] :=
  ⟨rfl, Nat.le_refl _, by decide, fun _ => ⟨_, rfl, fun j hj => by
    have hj' : j < 2 := hj
    have : j = 0 ∨ j = 1 := by omega
    rcases this with rfl | rfl <;> go_simp⟩, fun x hx => by
      simp only [List.mem_cons, List.not_mem_nil, or_false] at hx
      rcases hx with rfl | rfl
      · exact h.alloc _
      · exact k.alloc _⟩
theorem mod256_rng (z : Int) : 0 ≤ z % 256 ∧ z % 256 ≤ 255 := by omega
/-- before with one part, in the world where the row of parts has just been made. -/
theorem before1 (a b c d : Int) (ha : 0 ≤ a ∧ a ≤ 255) (hb : 0 ≤ b ∧ b ≤ 255) (hc : 0 ≤ c ∧ c ≤ 255) (hd : 0 ≤ d ∧ d ≤ 255) (p : Option Addr) (n k : Nat) (xs : List Int) (w : World) (h : Byt w p n k xs) (hn : n ≤ 140737488355000) (L : List Int) (hL : [a, b, c, d] ++ xs = L) :
    Calls Tryz.prog 59 #[.agg #[.int .u8 a, .int .u8 b, .int .u8 c, .int .u8 d], .slice (some ⟨w.heap.size, 0, none⟩) 1 1] (w.alloc (.cells #[.slice p n k] 22)) (GotF w L) :=
  (before_any a b c d ha hb hc hd _ 1 1 [⟨p, n, k, xs⟩] _ (part1 w ⟨p, n, k, xs⟩ 22 h) (by simp [sizeOf']; omega) L (by simpa [bytesOf] using hL)).mono fun e w' ⟨q, d', he, hf, hb'⟩ =>
    ⟨q, d', he, hf.mono (by simp), ((Below.refl w.heap.size w).alloc (Nat.le_refl _) _).trans (hb'.mono (by simp))⟩
theorem before2 (a b c d : Int) (ha : 0 ≤ a ∧ a ≤ 255) (hb : 0 ≤ b ∧ b ≤ 255) (hc : 0 ≤ c ∧ c ≤ 255) (hd : 0 ≤ d ∧ d ≤ 255) (p q : Option Addr) (n k m l : Nat) (xs ys : List Int) (w : World) (h : Byt w p n k xs) (h' : Byt w q m l ys) (hn : n + m ≤ 140737488355000) (L : List Int) (hL : [a, b, c, d] ++ (xs ++ ys) = L) :
    Calls Tryz.prog 59 #[.agg #[.int .u8 a, .int .u8 b, .int .u8 c, .int .u8 d], .slice (some ⟨w.heap.size, 0, none⟩) 2 2] (w.alloc (.cells #[.slice p n k, .slice q m l] 22)) (GotF w L) :=
  (before_any a b c d ha hb hc hd _ 2 2 [⟨p, n, k, xs⟩, ⟨q, m, l, ys⟩] _ (part2 w ⟨p, n, k, xs⟩ ⟨q, m, l, ys⟩ 22 h h') (by simp [sizeOf']; omega) L (by simpa [bytesOf] using hL)).mono fun e w' ⟨q, d', he, hf, hb'⟩ =>
    ⟨q, d', he, hf.mono (by simp), ((Below.refl w.heap.size w).alloc (Nat.le_refl _) _).trans (hb'.mono (by simp))⟩

/-- before with one part, the row of parts made at some time before. -/
theorem before1_at (a b c d : Int) (ha : 0 ≤ a ∧ a ≤ 255) (hb : 0 ≤ b ∧ b ≤ 255) (hc : 0 ≤ c ∧ c ≤ 255) (hd : 0 ≤ d ∧ d ≤ 255) (p : Option Addr) (n k : Nat) (xs : List Int) (w W : World) (h : Byt w p n k xs) (hn : n ≤ 140737488355000) (L : List Int) (hL : [a, b, c, d] ++ xs = L)
    (hW : Below (w.alloc (.cells #[.slice p n k] 22)).drew.heap.size (w.alloc (.cells #[.slice p n k] 22)).drew W) :
    Calls Tryz.prog 59 #[.agg #[.int .u8 a, .int .u8 b, .int .u8 c, .int .u8 d], .slice (some ⟨w.heap.size, 0, none⟩) 1 1] W (GotF W L) :=
  before_any a b c d ha hb hc hd _ 1 1 [⟨p, n, k, xs⟩] _ (((part1 w ⟨p, n, k, xs⟩ 22 h).below (w' := (w.alloc (.cells #[.slice p n k] 22)).drew) (drew_below ⟨1, rfl⟩)).below hW) (by simp [sizeOf']; omega) L (by simpa [bytesOf] using hL)
theorem before2_at (a b c d : Int) (ha : 0 ≤ a ∧ a ≤ 255) (hb : 0 ≤ b ∧ b ≤ 255) (hc : 0 ≤ c ∧ c ≤ 255) (hd : 0 ≤ d ∧ d ≤ 255) (p q : Option Addr) (n k m l : Nat) (xs ys : List Int) (w W : World) (h : Byt w p n k xs) (h' : Byt w q m l ys) (hn : n + m ≤ 140737488355000) (L : List Int) (hL : [a, b, c, d] ++ (xs ++ ys) = L)
    (hW : Below (w.alloc (.cells #[.slice p n k, .slice q m l] 22)).drew.heap.size (w.alloc (.cells #[.slice p n k, .slice q m l] 22)).drew W) :
    Calls Tryz.prog 59 #[.agg #[.int .u8 a, .int .u8 b, .int .u8 c, .int .u8 d], .slice (some ⟨w.heap.size, 0, none⟩) 2 2] W (GotF W L) :=
  before_any a b c d ha hb hc hd _ 2 2 [⟨p, n, k, xs⟩, ⟨q, m, l, ys⟩] _ (((part2 w ⟨p, n, k, xs⟩ ⟨q, m, l, ys⟩ 22 h h').below (w' := (w.alloc (.cells #[.slice p n k, .slice q m l] 22)).drew) (drew_below ⟨1, rfl⟩)).below hW) (by simp [sizeOf']; omega) L (by simpa [bytesOf] using hL)

/-- The bytes of a key exchange. -/
def exchL (g : Int) (ed : List Int) : List Int := [g / 256 % 256, g % 256, 0, 0] ++ ed
set_option maxHeartbeats 3200000 in
set_option maxRecDepth 100000 in
theorem buildExchange_any (g : Int) (p : Option Addr) (n c : Nat) (ed : List Int) (w : World) (h : Byt w p n c ed) (hn : n ≤ 140737488355000) (E : Int) (hE : exchE g n = E) :
    Calls Tryz.prog 58 #[.agg #[.int .i64 g, .slice p n c]] w (GotBE w (exchL g ed) E) := by
  have hx1 := mod256_rng (g / 256)
  have hx2 := mod256_rng g
  have HL : Hid ([g / 256 % 256, g % 256, 0, 0] ++ ed = exchL g ed) := rfl
  have HB0 := hidden ((Below.refl w.heap.size w).alloc (Nat.le_refl _) (.cells #[.int .i64 g, .slice p n c] 48))
  have HY := hidden (fun W (hW : Below w.heap.size w W) => h.below hW)
  have HCE := hidden (fun W => checkExchange_any g p n c W (by omega) E hE)
  generalize exchL g ed = L at *
  clear h hE
  go_enter Tryz.func58, Tryz.ntmps58
  go_upto_region 2 with fail
  generalize hw2 : (w.alloc (.cells #[.int .i64 g, .slice p n c] 48)).alloc (.cells _ 134) = w2
  have k0 : w2.cell? ⟨w.heap.size, 0, none⟩ = some (.int .i64 g) := by rw [← hw2]; clear hw2; go_simp
  have k1 : w2.cell? ⟨w.heap.size, 1, none⟩ = some (.slice p n c) := by rw [← hw2]; clear hw2; go_simp
  have k2 : w2.cell? ⟨w.heap.size + 1, 0, none⟩ = some (.int .u8 (g / 256 % 256)) := by rw [← hw2]; clear hw2; go_simp
  have k3 : w2.cell? ⟨w.heap.size + 1, 1, none⟩ = some (.int .u8 (g % 256)) := by rw [← hw2]; clear hw2; go_simp
  have k4 : w2.cell? ⟨w.heap.size + 1, 2, none⟩ = some (.int .u8 0) := by rw [← hw2]; clear hw2; go_simp
  have k5 : w2.cell? ⟨w.heap.size + 1, 3, none⟩ = some (.int .u8 0) := by rw [← hw2]; clear hw2; go_simp
  have hb2 : Below w.heap.size w w2 := by rw [← hw2]; exact HB0.out.alloc HB0.out.size _
  have HB2 := hidden hb2
  have HKK := hidden (fun W (hW : Below w2.heap.size w2 W) => (⟨cell_below hW _ _ k0, cell_below hW _ _ k1, cell_below hW _ _ k2, cell_below hW _ _ k3, cell_below hW _ _ k4, cell_below hW _ _ k5⟩ : W.cell? ⟨w.heap.size, 0, none⟩ = some (.int .i64 g) ∧ W.cell? ⟨w.heap.size, 1, none⟩ = some (.slice p n c) ∧ W.cell? ⟨w.heap.size + 1, 0, none⟩ = some (.int .u8 (g / 256 % 256)) ∧ W.cell? ⟨w.heap.size + 1, 1, none⟩ = some (.int .u8 (g % 256)) ∧ W.cell? ⟨w.heap.size + 1, 2, none⟩ = some (.int .u8 0) ∧ W.cell? ⟨w.heap.size + 1, 3, none⟩ = some (.int .u8 0)))
  have HY2 := hidden (HY.out w2 hb2)
  have HBF := hidden (fun W (hW : Below w2.heap.size w2 W) => before1 (g / 256 % 256) (g % 256) 0 0 hx1 hx2 (by omega) (by omega) p n c ed W (HY2.out.below hW) hn L HL.out)
  have HBA := hidden (fun W hW => before1_at (g / 256 % 256) (g % 256) 0 0 hx1 hx2 (by omega) (by omega) p n c ed w2 W HY2.out hn L HL.out hW)
  have HR0 := hidden (show Below w2.heap.size w2 w2.drew from drew_below ⟨1, rfl⟩)
  have HRA := hidden (show Below w2.heap.size w2 (w2.alloc (.cells #[.slice p n c] 22)).drew from ((Below.refl _ w2).alloc (Nat.le_refl _) _).trans (drew_below ⟨1, rfl⟩))
  have HFIN := hidden (fun (q : Option Addr) (d : Nat) W (hf : Frs W w2.heap.size q L.length d L) (hW : Below w2.heap.size w2 W) => show GotBE w L E (.returned (.tuple #[.slice q L.length d, .int .i64 E])) W from ⟨q, d, rfl, hf.mono hb2.size, hb2.trans (hW.mono hb2.size)⟩)
  clear hw2 hb2
  generalize w.heap.size = N at *
  go_region_held3 (fun W => W.cell? ⟨N, 0, none⟩ = some (.int .i64 g) ∧ W.cell? ⟨N, 1, none⟩ = some (.slice p n c) ∧ W.cell? ⟨N + 1, 0, none⟩ = some (.int .u8 (g / 256 % 256)) ∧ W.cell? ⟨N + 1, 1, none⟩ = some (.int .u8 (g % 256)) ∧ W.cell? ⟨N + 1, 2, none⟩ = some (.int .u8 0) ∧ W.cell? ⟨N + 1, 3, none⟩ = some (.int .u8 0))
    (first | exact HKK.out _ HB5.out | exact HKK.out _ HB6.out | exact HKK.out _ HR0.out | exact HKK.out _ HRA.out | go_keep)
    (first
    | (go_at_call 59; (with_reducible refine (HBA.out _ (Below.refl _ _)).mono ?_); rintro e w5 ⟨q5, d5, rfl, hf5, hb5⟩; have HF5 := hidden (hf5.mono HRA.out.size); have HB5 : Hid (Below w2.heap.size w2 w5) := hidden (HRA.out.trans (hb5.mono HRA.out.size)); clear hf5 hb5)
    | (go_at_call 59; (with_reducible refine (HBF.out _ HB6.out).mono ?_); rintro e w5 ⟨q5, d5, rfl, hf5, hb5⟩; have HF5 := hidden (hf5.mono HB6.out.size); have HB5 : Hid (Below w2.heap.size w2 w5) := hidden (HB6.out.trans (hb5.mono HB6.out.size)); clear hf5 hb5)
    | (go_at_call 59; (with_reducible refine (HBA.out _ HX6.out).mono ?_); rintro e w5 ⟨q5, d5, rfl, hf5, hb5⟩; have HF5 := hidden (hf5.mono HB6.out.size); have HB5 : Hid (Below w2.heap.size w2 w5) := hidden (HB6.out.trans (hb5.mono HB6.out.size)); clear hf5 hb5)
    | (go_at_call 84; (with_reducible refine (HCE.out (w2.alloc (.cells #[.slice p n c] 22)).drew).mono ?_); rintro e w6 ⟨rfl, hb6⟩; have HX6 := hidden hb6; have HB6 : Hid (Below w2.heap.size w2 w6) := hidden (HRA.out.trans (hb6.mono HRA.out.size)); clear hb6)
    | (go_at_call 84; (with_reducible refine (HCE.out _).mono ?_); rintro e w6 ⟨rfl, hb6⟩; have HB6 : Hid (Below w2.heap.size w2 w6) := hidden (by first | exact HB5.out.trans (hb6.mono HB5.out.size) | exact HR0.out.trans (hb6.mono HR0.out.size)); have HF6 : Hid (∀ q d, Frs w5 w2.heap.size q L.length d L → Frs w6 w2.heap.size q L.length d L) := hidden (fun q d hf => hf.below hb6); clear hb6)
    | fail)
  all_goals
    go_wp2
    go_ret2
    first
      | exact HFIN.out q5 d5 _ HF5.out HB5.out
      | exact HFIN.out q5 d5 _ (HF6.out _ _ HF5.out) HB6.out

/-- The bytes of a notification. -/
def noteL (np nt : Int) (ns nd : List Int) : List Int := [np % 256, (ns.length : Int) % 256, nt / 256 % 256, nt % 256] ++ (ns ++ nd)
set_option maxHeartbeats 6400000 in
set_option maxRecDepth 100000 in
theorem buildNotify_any (np nt : Int) (p q : Option Addr) (n c m d : Nat) (ns nd : List Int) (w : World) (h : Byt w p n c ns) (h' : Byt w q m d nd) (hn : n + m ≤ 140737488355000) (E : Int) (hE : notifyE np nt n = E) :
    Calls Tryz.prog 63 #[.agg #[.int .i64 np, .slice p n c, .int .i64 nt, .slice q m d]] w (GotBE w (noteL np nt ns nd) E) := by
  have hx1 := mod256_rng np
  have hx2 := mod256_rng (n : Int)
  have hx3 := mod256_rng (nt / 256)
  have hx4 := mod256_rng nt
  have HL : Hid ([np % 256, (n : Int) % 256, nt / 256 % 256, nt % 256] ++ (ns ++ nd) = noteL np nt ns nd) := by show _ = _; rw [noteL, h.len]
  have HB0 := hidden ((Below.refl w.heap.size w).alloc (Nat.le_refl _) (.cells #[.int .i64 np, .slice p n c, .int .i64 nt, .slice q m d] 54))
  have HY := hidden (fun W (hW : Below w.heap.size w W) => h.below hW)
  have HY' := hidden (fun W (hW : Below w.heap.size w W) => h'.below hW)
  have HCE := hidden (fun W => checkNotify_any np nt n p q n c m d W E hE)
  generalize noteL np nt ns nd = L at *
  clear h h' hE
  go_enter Tryz.func63, Tryz.ntmps63
  go_upto_region 3 with fail
  generalize hw2 : (w.alloc (.cells #[.int .i64 np, .slice p n c, .int .i64 nt, .slice q m d] 54)).alloc (.cells _ 134) = w2
  have k0 : w2.cell? ⟨w.heap.size, 0, none⟩ = some (.int .i64 np) := by rw [← hw2]; clear hw2; go_simp
  have k1 : w2.cell? ⟨w.heap.size, 1, none⟩ = some (.slice p n c) := by rw [← hw2]; clear hw2; go_simp
  have k6 : w2.cell? ⟨w.heap.size, 2, none⟩ = some (.int .i64 nt) := by rw [← hw2]; clear hw2; go_simp
  have k7 : w2.cell? ⟨w.heap.size, 3, none⟩ = some (.slice q m d) := by rw [← hw2]; clear hw2; go_simp
  have k2 : w2.cell? ⟨w.heap.size + 1, 0, none⟩ = some (.int .u8 (np % 256)) := by rw [← hw2]; clear hw2; go_simp
  have k3 : w2.cell? ⟨w.heap.size + 1, 1, none⟩ = some (.int .u8 ((n : Int) % 256)) := by rw [← hw2]; clear hw2; go_simp
  have k4 : w2.cell? ⟨w.heap.size + 1, 2, none⟩ = some (.int .u8 (nt / 256 % 256)) := by rw [← hw2]; clear hw2; go_simp
  have k5 : w2.cell? ⟨w.heap.size + 1, 3, none⟩ = some (.int .u8 (nt % 256)) := by rw [← hw2]; clear hw2; go_simp
  have hb2 : Below w.heap.size w w2 := by rw [← hw2]; exact HB0.out.alloc HB0.out.size _
  have HKK := hidden (fun W (hW : Below w2.heap.size w2 W) => (⟨cell_below hW _ _ k0, cell_below hW _ _ k1, cell_below hW _ _ k6, cell_below hW _ _ k7, cell_below hW _ _ k2, cell_below hW _ _ k3, cell_below hW _ _ k4, cell_below hW _ _ k5⟩ : W.cell? ⟨w.heap.size, 0, none⟩ = some (.int .i64 np) ∧ W.cell? ⟨w.heap.size, 1, none⟩ = some (.slice p n c) ∧ W.cell? ⟨w.heap.size, 2, none⟩ = some (.int .i64 nt) ∧ W.cell? ⟨w.heap.size, 3, none⟩ = some (.slice q m d) ∧ W.cell? ⟨w.heap.size + 1, 0, none⟩ = some (.int .u8 (np % 256)) ∧ W.cell? ⟨w.heap.size + 1, 1, none⟩ = some (.int .u8 ((n : Int) % 256)) ∧ W.cell? ⟨w.heap.size + 1, 2, none⟩ = some (.int .u8 (nt / 256 % 256)) ∧ W.cell? ⟨w.heap.size + 1, 3, none⟩ = some (.int .u8 (nt % 256))))
  have HY2 := hidden (HY.out w2 hb2)
  have HY3 := hidden (HY'.out w2 hb2)
  have HBF := hidden (fun W (hW : Below w2.heap.size w2 W) => before2 (np % 256) ((n : Int) % 256) (nt / 256 % 256) (nt % 256) hx1 hx2 hx3 hx4 p q n c m d ns nd W (HY2.out.below hW) (HY3.out.below hW) hn L HL.out)
  have HBA := hidden (fun W hW => before2_at (np % 256) ((n : Int) % 256) (nt / 256 % 256) (nt % 256) hx1 hx2 hx3 hx4 p q n c m d ns nd w2 W HY2.out HY3.out hn L HL.out hW)
  have HR0 := hidden (show Below w2.heap.size w2 w2.drew from drew_below ⟨1, rfl⟩)
  have HRA := hidden (show Below w2.heap.size w2 (w2.alloc (.cells #[.slice p n c, .slice q m d] 22)).drew from ((Below.refl _ w2).alloc (Nat.le_refl _) _).trans (drew_below ⟨1, rfl⟩))
  have HFIN := hidden (fun (q : Option Addr) (d : Nat) W (hf : Frs W w2.heap.size q L.length d L) (hW : Below w2.heap.size w2 W) => show GotBE w L E (.returned (.tuple #[.slice q L.length d, .int .i64 E])) W from ⟨q, d, rfl, hf.mono hb2.size, hb2.trans (hW.mono hb2.size)⟩)
  clear hw2 hb2
  generalize w.heap.size = N at *
  go_region_held3 (fun W => W.cell? ⟨N, 0, none⟩ = some (.int .i64 np) ∧ W.cell? ⟨N, 1, none⟩ = some (.slice p n c) ∧ W.cell? ⟨N, 2, none⟩ = some (.int .i64 nt) ∧ W.cell? ⟨N, 3, none⟩ = some (.slice q m d) ∧ W.cell? ⟨N + 1, 0, none⟩ = some (.int .u8 (np % 256)) ∧ W.cell? ⟨N + 1, 1, none⟩ = some (.int .u8 ((n : Int) % 256)) ∧ W.cell? ⟨N + 1, 2, none⟩ = some (.int .u8 (nt / 256 % 256)) ∧ W.cell? ⟨N + 1, 3, none⟩ = some (.int .u8 (nt % 256)))
    (first | exact HKK.out _ HB5.out | exact HKK.out _ HB6.out | exact HKK.out _ HR0.out | exact HKK.out _ HRA.out | go_keep)
    (first
    | (go_at_call 59; (with_reducible refine (HBA.out _ (Below.refl _ _)).mono ?_); rintro e w5 ⟨q5, d5, rfl, hf5, hb5⟩; have HF5 := hidden (hf5.mono HRA.out.size); have HB5 : Hid (Below w2.heap.size w2 w5) := hidden (HRA.out.trans (hb5.mono HRA.out.size)); clear hf5 hb5)
    | (go_at_call 59; (with_reducible refine (HBF.out _ HB6.out).mono ?_); rintro e w5 ⟨q5, d5, rfl, hf5, hb5⟩; have HF5 := hidden (hf5.mono HB6.out.size); have HB5 : Hid (Below w2.heap.size w2 w5) := hidden (HB6.out.trans (hb5.mono HB6.out.size)); clear hf5 hb5)
    | (go_at_call 59; (with_reducible refine (HBA.out _ HX6.out).mono ?_); rintro e w5 ⟨q5, d5, rfl, hf5, hb5⟩; have HF5 := hidden (hf5.mono HB6.out.size); have HB5 : Hid (Below w2.heap.size w2 w5) := hidden (HB6.out.trans (hb5.mono HB6.out.size)); clear hf5 hb5)
    | (go_at_call 86; (with_reducible refine (HCE.out (w2.alloc (.cells #[.slice p n c, .slice q m d] 22)).drew).mono ?_); rintro e w6 ⟨rfl, hb6⟩; have HX6 := hidden hb6; have HB6 : Hid (Below w2.heap.size w2 w6) := hidden (HRA.out.trans (hb6.mono HRA.out.size)); clear hb6)
    | (go_at_call 86; (with_reducible refine (HCE.out _).mono ?_); rintro e w6 ⟨rfl, hb6⟩; have HB6 : Hid (Below w2.heap.size w2 w6) := hidden (by first | exact HB5.out.trans (hb6.mono HB5.out.size) | exact HR0.out.trans (hb6.mono HR0.out.size)); have HF6 : Hid (∀ q d, Frs w5 w2.heap.size q L.length d L → Frs w6 w2.heap.size q L.length d L) := hidden (fun q d hf => hf.below hb6); clear hb6)
    | fail)
  all_goals
    go_wp2
    go_ret2
    first
      | exact HFIN.out q5 d5 _ HF5.out HB5.out
      | exact HFIN.out q5 d5 _ (HF6.out _ _ HF5.out) HB6.out
end Go.Proofs.YtkniifopfgeopaaGreat

namespace Go.Proofs.YtkniifopfgeopaaGreat
open Go.RowKit
set_option linter.unusedVariables false

set_option maxHeartbeats 800000 in
set_option maxRecDepth 100000 in
theorem data_read (p : Option Addr) (n c : Nat) (xs : List Int) (w : World) (h : Byt w p n c xs) (hb : n ≤ 140737488355328) :
    Calls Tryz.prog 78 #[.slice p n c] w (ReadPv w 0 fun w' x => FrV w' w.heap.size x.da xs) := by
  have hn := h.le
  have H1 := hidden (h.alloc (.cells #[.int .i64 0, .slice none 0 0, .int .i64 0, .slice none 0 0, .int .i64 0, .slice none 0 0, .int .i64 0, .slice none 0 0, .int .i64 0, .slice none 0 0, .int .i64 0, .slice none 0 0, .int .i64 0, .slice none 0 0, .slice none 0 0, .slice none 0 0] 59))
  have HB := hidden ((Below.refl w.heap.size w).alloc (Nat.le_refl _) (.cells #[.int .i64 0, .slice none 0 0, .int .i64 0, .slice none 0 0, .int .i64 0, .slice none 0 0, .int .i64 0, .slice none 0 0, .int .i64 0, .slice none 0 0, .int .i64 0, .slice none 0 0, .int .i64 0, .slice none 0 0, .slice none 0 0, .slice none 0 0] 59))
  have HZ : Hid (PvIn (w.alloc (.cells #[.int .i64 0, .slice none 0 0, .int .i64 0, .slice none 0 0, .int .i64 0, .slice none 0 0, .int .i64 0, .slice none 0 0, .int .i64 0, .slice none 0 0, .int .i64 0, .slice none 0 0, .int .i64 0, .slice none 0 0, .slice none 0 0, .slice none 0 0] 59)) w.heap.size zeroP) := hidden (PvIn.new w zeroP 59)
  have HL := hidden h.len
  have HR := hidden h.rng
  clear h
  go_enter Tryz.func78, Tryz.ntmps78
  go_wp2_with (first
    | (go_at_call 99; (with_reducible refine (cloneB_any _ _ _ _ _ H1.out hb).mono ?_); rintro e w2 ⟨v2, rfl, ho, hbc⟩; obtain ⟨q2, d2, rfl, hf0⟩ := ho.frs HL.out HR.out; have HF0 := hidden hf0; have HB2 := hidden (HB.out.trans (hbc.mono HB.out.size)); have HZ2 := hidden (HZ.out.below hbc); obtain ⟨z0, z1, z2, z3, z4, z5, z6, z7, z8, z9, z10, z11, z12, z13, z14, z15, zf⟩ := HZ2.out; clear ho hbc hf0)
    | fail)
  have hlo := setPv_grown w2 w.heap.size ⟨0, nilV, 0, nilV, 0, nilV, 0, nilV, 0, nilV, 0, nilV, 0, nilV, nilV, ⟨q2, n, d2⟩⟩
  have hz := setPv_in HZ2.out ⟨0, nilV, 0, nilV, 0, nilV, 0, nilV, 0, nilV, 0, nilV, 0, nilV, nilV, ⟨q2, n, d2⟩⟩
  have hfl := (HF0.out.low hlo (by simp)).mono (show w.heap.size ≤ _ from HB.out.size)
  have HBS := hidden (HB2.out.grown hlo HB2.out.size (fun j hj => by cases hj; exact Nat.le_refl _))
  simp only [setPv, nilV] at hz hfl HBS
  have HZZ := hidden hz
  have HFF := hidden hfl
  clear hz hfl hlo
  refine ret_pv (g := w.heap.size) rfl rfl rfl rfl HZZ.out ?_
  exact ⟨_, rfl, HBS.out, fun _ => HFF.out⟩

end Go.Proofs.YtkniifopfgeopaaGreat

namespace Go.Proofs.YtkniifopfgeopaaGreat
open Go.RowKit
set_option linter.unusedVariables false

set_option maxHeartbeats 800000 in
set_option maxRecDepth 100000 in
theorem proposals_read (p : Option Addr) (n c : Nat) (xs : List Int) (w : World) (h : Byt w p n c xs) (hn : n ≤ 1048576) (r : List Pr × Int) (hr : parseP xs = r) :
    Calls Tryz.prog 70 #[.slice p n c] w (ReadPv w r.2 fun w' x => ∃ ls : List PrP, ls.map PrP.pr = r.1 ∧ RowG KPr NPr w' w.heap.size (.slice x.pr.p x.pr.n x.pr.c) ls ∧ ls.length = x.pr.n) := by
  have HB := hidden ((Below.refl w.heap.size w).alloc (Nat.le_refl _) (.cells #[.int .i64 0, .slice none 0 0, .int .i64 0, .slice none 0 0, .int .i64 0, .slice none 0 0, .int .i64 0, .slice none 0 0, .int .i64 0, .slice none 0 0, .int .i64 0, .slice none 0 0, .int .i64 0, .slice none 0 0, .slice none 0 0, .slice none 0 0] 59))
  have HZ : Hid (PvIn (w.alloc (.cells #[.int .i64 0, .slice none 0 0, .int .i64 0, .slice none 0 0, .int .i64 0, .slice none 0 0, .int .i64 0, .slice none 0 0, .int .i64 0, .slice none 0 0, .int .i64 0, .slice none 0 0, .int .i64 0, .slice none 0 0, .slice none 0 0, .slice none 0 0] 59)) w.heap.size zeroP) := hidden (PvIn.new w zeroP 59)
  have HP := hidden (pparse_any p n c xs _ (h.alloc (.cells #[.int .i64 0, .slice none 0 0, .int .i64 0, .slice none 0 0, .int .i64 0, .slice none 0 0, .int .i64 0, .slice none 0 0, .int .i64 0, .slice none 0 0, .int .i64 0, .slice none 0 0, .int .i64 0, .slice none 0 0, .slice none 0 0, .slice none 0 0] 59)) hn r hr)
  clear h
  go_enter Tryz.func70, Tryz.ntmps70
  go_wp2_with (first
    | (go_at_call 96; (with_reducible refine (HP.out).mono ?_); rintro e w2 ⟨v2, ls, rfl, hls, hrow, hbc⟩; obtain ⟨q2, d2, rfl⟩ := hrow.form rfl; have HR2 := hidden hrow; have HB2 := hidden (HB.out.trans (hbc.mono HB.out.size)); have HLS := hidden hls; have HZ2 := hidden (HZ.out.below hbc); obtain ⟨z0, z1, z2, z3, z4, z5, z6, z7, z8, z9, z10, z11, z12, z13, z14, z15, zf⟩ := HZ2.out; clear hrow hbc hls)
    | fail)
  have hlo := setPv_grown w2 w.heap.size ⟨0, ⟨q2, ls.length, d2⟩, 0, nilV, 0, nilV, 0, nilV, 0, nilV, 0, nilV, 0, nilV, nilV, nilV⟩
  have hz := setPv_in HZ2.out ⟨0, ⟨q2, ls.length, d2⟩, 0, nilV, 0, nilV, 0, nilV, 0, nilV, 0, nilV, 0, nilV, nilV, nilV⟩
  have hfl := (HR2.out.low hlo (by simp)).mono (show w.heap.size ≤ _ from HB.out.size)
  have HBS := hidden (HB2.out.grown hlo HB2.out.size (fun j hj => by cases hj; exact Nat.le_refl _))
  simp only [setPv, nilV] at hz hfl HBS
  have HZZ := hidden hz
  have HFF := hidden hfl
  clear hz hfl hlo
  refine ret_pv (g := w.heap.size) rfl rfl rfl rfl HZZ.out ?_
  exact ⟨_, rfl, HBS.out, fun _ => ⟨ls, HLS.out, HFF.out, rfl⟩⟩
end Go.Proofs.YtkniifopfgeopaaGreat

namespace Go.Proofs.YtkniifopfgeopaaGreat
open Go.RowKit
set_option linter.unusedVariables false

theorem needL_int (x : Int) (q : Bool) : ∀ k ∈ needL x q, IntR k := by
  intro k hk
  unfold needL at hk
  unfold IntR
  cases q <;> (repeat' split at hk) <;> simp at hk <;> omega
set_option maxHeartbeats 6400000 in
set_option maxRecDepth 100000 in
theorem complete_any (i r nx x f m : Int) (p : Option Addr) (n c : Nat) (l : List Pv) (b : Nat) (ts : List Int) (w : World) (h : RdG KPv DPv w p n c l) (hn : n ≤ 100000) (hx : IntR x) (hF : Fnd w b ts) :
    Calls Tryz.prog 25 #[.agg #[.int .u64 i, .int .u64 r, .int .i64 nx, .int .i64 x, .int .i64 f, .int .u32 m, .slice p n c], .map (some b)] w fun e w' => e = .returned (.bool ((needL x (bits BinOp.and IntKind.i64 f 32 == 0)).all (fun k => decide (k ∈ ts)) || (x == 34 && (l.all plainP && l.any (isNote 16390))))) ∧ Below w.heap.size w w' := by
  have HBX := hidden ((Below.refl w.heap.size w).alloc (Nat.le_refl _) (.cells #[.int .u64 i, .int .u64 r, .int .i64 nx, .int .i64 x, .int .i64 f, .int .u32 m, .slice p n c] 39))
  have HCX : Hid (∀ j u, (#[Value.int .u64 i, .int .u64 r, .int .i64 nx, .int .i64 x, .int .i64 f, .int .u32 m, .slice p n c] : Array Value)[j]? = some u → (w.alloc (.cells #[.int .u64 i, .int .u64 r, .int .i64 nx, .int .i64 x, .int .i64 f, .int .u32 m, .slice p n c] 39)).cell? ⟨w.heap.size, j, none⟩ = some u) := fun j u hj => by
    rw [World.cell?_alloc_at _ _ _ _ rfl]
    simpa using hj
  have HA := hidden (fun W (hW : Below w.heap.size w W) => asksCookie_any i r nx x f m p n c l W (h.below hW) hn)
  have HND := hidden (needed_any i r nx x f m (w.alloc (.cells #[.int .u64 i, .int .u64 r, .int .i64 nx, .int .i64 x, .int .i64 f, .int .u32 m, .slice p n c] 39)) hx)
  have HLI := hidden (needL_int x (bits BinOp.and IntKind.i64 f 32 == 0))
  have HFN := hidden hF
  obtain ⟨A, hA⟩ : ∃ A, (l.all plainP && l.any (isNote 16390)) = A := ⟨_, rfl⟩
  rw [hA] at HA ⊢
  generalize needL x (bits BinOp.and IntKind.i64 f 32 == 0) = L at HND HLI ⊢
  obtain ⟨R, hR⟩ : ∃ R, (L.all (fun k => decide (k ∈ ts)) || (x == 34 && A)) = R := ⟨_, rfl⟩
  have HR : Is ((L.drop 0).all (fun k => decide (k ∈ ts)) || (x == 34 && A)) R := ⟨by simpa using hR⟩
  rw [hR]
  clear hR h hA hx hF
  go_enter Tryz.func25, Tryz.ntmps25
  go_wp2_with (first
    | (go_at_call 42; (with_reducible refine (HND.out).mono ?_); rintro _ w1 ⟨v, rfl, ⟨p1, n1, c1, rfl, hn1, hm1, hmem⟩, hb1⟩; have HB1 := hidden (HBX.out.trans (hb1.mono HBX.out.size)); have HC1 := hidden (cell_below hb1); have HMM := hidden hmem; have HL1 := Is.mk hn1; clear hb1 hmem hn1)
    | fail)
  go_loopw [11] (fun v wr => ∃ (j : Nat), j ≤ n1 ∧ v = .int .i64 j ∧ Is ((L.drop j).all (fun k => decide (k ∈ ts)) || (x == 34 && A)) R ∧ wr = w1) (fun v _ => n1 - (intOf v).toNat)
  case atStart => exact ⟨0, by omega, rfl, HR, rfl⟩
  case round =>
    obtain ⟨j, hj, rfl, hrel, rfl⟩ := hrel
    have HB := HB1
    have m0 := HC1.out _ _ (HCX.out 0 _ rfl)
    have m1 := HC1.out _ _ (HCX.out 1 _ rfl)
    have m2 := HC1.out _ _ (HCX.out 2 _ rfl)
    have m3 := HC1.out _ _ (HCX.out 3 _ rfl)
    have m4 := HC1.out _ _ (HCX.out 4 _ rfl)
    have m5 := HC1.out _ _ (HCX.out 5 _ rfl)
    have m6 := HC1.out _ _ (HCX.out 6 _ rfl)
    by_cases hlt : j < n1
    · have hlt' : (j : Int) < n1 := by omega
      obtain ⟨g, rfl, hcc⟩ := HMM.out (by omega)
      have hl : j < L.length := by rw [← HL1.eq]; exact hlt
      have hcj := hcc j L[j] (List.getElem?_eq_getElem hl)
      have hlk := (HFN.out.below HB.out).look L[j] (HLI.out _ (List.getElem_mem hl))
      have hf := hrel.eq
      rw [List.drop_eq_getElem_cons hl, List.all_cons] at hf
      generalize L[j] = k at hcj hlk hf
      generalize decide (k ∈ ts) = z at hlk hf
      clear hcc hrel hl
      cases z with
      | true =>
        have HT : Is ((L.drop (j + 1)).all (fun k => decide (k ∈ ts)) || (x == 34 && A)) R := ⟨by simpa using hf⟩
        clear hf
        go_wp2
        go_roundw
        case rel => exact ⟨j + 1, by omega, by go_num, HT, by first | rfl | trivial⟩
        case measure => simp [intOf]; omega
      | false =>
        have HT : Is (x == 34 && A) R := ⟨by simpa using hf⟩
        clear hf
        cases hq : (x == 34) with
        | true =>
          rw [hq] at HT
          go_wp2_with (first
            | (go_at_call 43; (with_reducible refine (HA.out _ HB.out).mono ?_); rintro _ w2 ⟨rfl, hb2⟩; have HB2 := hidden (HB.out.trans (hb2.mono HB.out.size)); clear hb2)
            | fail)
          go_ret
          exact ⟨by rw [← HT.eq]; rfl, HB2.out⟩
        | false =>
          rw [hq] at HT
          go_wp2
          go_ret
          exact ⟨by rw [← HT.eq]; rfl, HB.out⟩
    · have hlt' : ¬ (j : Int) < n1 := by omega
      have hd : L.drop j = [] := List.drop_eq_nil_of_le (by rw [← HL1.eq]; omega)
      have hf := hrel.eq
      rw [hd, List.all_nil, Bool.true_or] at hf
      have HF := Is.mk hf
      clear hf hd hrel
      go_wp2
      go_ret
      exact ⟨by rw [← HF.eq]; rfl, HB.out⟩
end Go.Proofs.YtkniifopfgeopaaGreat

namespace Go.Proofs.YtkniifopfgeopaaGreat
open Go.RowKit Go.Shelf
set_option linter.unusedVariables false
attribute [local go_sem] Oper.semAt_some

/-- What the reader holds between two payloads. -/
structure MidP (wr : World) (R : Nat) (p : Option Addr) (n c : Nat) (xs : List Int) (r : ResC) (pre : List RawP) : Prop where
  ex : ∃ (at_ : Nat) (kd ins : Int), Rdr wr R p n c at_ kd ins 0 ∧ at_ ≤ n ∧ 0 ≤ kd ∧ kd ≤ 255 ∧
    (kd ≠ 0 ∧ ins = 0 ∧ preC (pre.map RawP.raw) (parseC (40 - pre.length) kd (xs.drop at_)) = r ∨ kd = 0 ∧ (if n - at_ ≠ 0 then failC 2 else ⟨pre.map RawP.raw, ins, 0⟩) = r)
/-- What it holds at the end. -/
def EndP (R : Nat) (p : Option Addr) (n c : Nat) (r : ResC) (pre : List RawP) (W : World) : Prop :=
  ∃ at_ next ins : Int, Rdr W R p n c at_ next ins r.e ∧ (r.e = 0 → ins = r.n ∧ pre.map RawP.raw = r.l) ∧ pre.length ≤ 40

theorem Rdr.set4 {w : World} {R : Nat} {p : Option Addr} {n c : Nat} {a b d e : Int} (h : Rdr w R p n c a b d e) (v : Int) : Rdr (w.setCell ⟨R, 4, none⟩ (.int .i64 v)) R p n c a b d v := by
  obtain ⟨c0, c1, c2, c3, c4, fr⟩ := h
  exact ⟨by go_simp, by go_simp, by go_simp, by go_simp, by go_simp, fun j => by rw [World.frozen?_setCell]; exact fr j⟩
theorem end_fail {R : Nat} {p : Option Addr} {n c : Nat} {E : Int} {pre : List RawP} {W : World} {r : ResC} (a b d : Int) (h : Rdr W R p n c a b d E) (hr : failC E = r) (h0 : E ≠ 0) (hl : pre.length ≤ 40) : EndP R p n c r pre W := by
  subst hr
  exact ⟨a, b, d, h, fun he => absurd he h0, hl⟩

def encR (x : RawP) : Array Value := #[.agg #[.int .i64 x.k, .bool x.c, .slice x.p x.n x.m]]

set_option maxHeartbeats 3200000 in
set_option maxRecDepth 100000 in
theorem payloads_seq (w0 w : World) (R : Nat) (p : Option Addr) (n c : Nat) (xs : List Int) (first : Int) (r : ResC) (hx : Byt w0 p n c xs) (hn : n ≤ 140737488351232) (hb : Below w0.heap.size w0 w) (hR : w0.heap.size ≤ R) (hr : Rdr w R p n c 0 first 0 0) (hf : 0 ≤ first ∧ first ≤ 255) (hres : parseC 40 first xs = r) (m : Nat) (b0 : Nat) (hb0 : b0 ≤ w.heap.size) :
    SeqSt Fence.wide (m + 3) Tryz.prog 37 #[.pointer (some ⟨R, 0, none⟩)] encR R (R + 1) 40 (fun x U => x.bod U b0) (EndP R p n c r) w := by
  intro l J W hW hJ hY h0
  have hlt := hr.lt
  have hrW := hr.below hW hlt
  have hmid : MidP W R p n c xs r [] := by
    refine ⟨0, first, 0, hrW, by omega, hf.1, hf.2, ?_⟩
    by_cases h : first = 0
    · refine Or.inr ⟨h, ?_⟩
      subst h
      rw [← hres, parseC_end, hx.len]
      simp
    · refine Or.inl ⟨h, rfl, ?_⟩
      simp only [List.map_nil, List.length_nil, Nat.sub_zero, List.drop_zero]
      rw [hres]
      exact preC_nil r (by rw [← hres]; exact parse_form 40 first xs)
  have hBW : Below w0.heap.size w0 W := hb.trans (hW.mono (by have := hb.size; omega))
  have HM := hidden hmid
  have HX := hidden hx
  have HBW := hidden hBW
  have HSW := hidden hW.size
  have HJ := hidden hJ
  have HY := hidden hY
  have H0 := hidden h0
  have HL := hidden hx.len
  clear hmid hx hb hr hf hres hW hJ hY h0 hBW hrW
  refine callsIn_of_wp Tryz.func37 rfl trivial ?_ rfl
  simp only [Tryz.ntmps37, List.size_toArray, List.length_cons, List.length_nil, Nat.reduceAdd, Nat.reduceSub, Array.replicate_succ, Array.replicate_zero, List.push_toArray, List.append_toArray, List.nil_append, List.cons_append]
  gi_wp2
  gi_loopw [4] (fun i wr => ∃ pre : List RawP, i = .int .i64 pre.length ∧ pre.length ≤ 40 ∧ J pre wr ∧ MidP wr R p n c xs r pre ∧ Below w0.heap.size w0 wr ∧ w.heap.size ≤ wr.heap.size) (fun i _ => 41 - (intOf i).toNat)
  case atStart => exact ⟨[], rfl, by simp, H0.out, HM.out, HBW.out, HSW.out⟩
  case round =>
    obtain ⟨pre, rfl, hpl, hj, ⟨at_, kd, ins, hrd, hat, hk0, hk1, hcase⟩, hbl, hws⟩ := hrel
    have HRD := hidden hrd
    have HBL := hidden hbl
    have HJJ := hidden hj
    have HXr := hidden (HX.out.below hbl)
    obtain ⟨c0, c1, c2, c3, c4, fr⟩ := hrd
    clear hj hbl HM HBW H0
    rcases hcase with ⟨hkd, rfl, hpre⟩ | ⟨rfl, hpre⟩
    · have hkd1 : (kd != 0) = true := by simpa using hkd
      have HP := hidden hpre
      clear hpre
      by_cases h40 : pre.length = 40
      · have hre := round_many (kind := kd) (xs := xs) (a := at_) (out := pre.map RawP.raw) hkd
        rw [show 0 = 40 - pre.length by omega, HP.out] at hre
        have HRE := hidden hre.symm
        have h40' : (pre.length : Int) = 40 := by omega
        clear hre hkd
        rw [h40']
        gi_wp2
        refine bodyPost_ret (results_none rfl _ _ _) rfl ?_
        exact ⟨⟨_, rfl⟩, pre, end_fail _ _ _ (HRD.out.set4 10) HRE.out (by omega) hpl, HJ.out _ _ _ HJJ.out (grown_set _ _ _ _)⟩
      obtain ⟨left, hleft⟩ : ∃ k, 40 - pre.length = k + 1 := ⟨39 - pre.length, by omega⟩
      have h40' : ¬ (pre.length : Int) = 40 := by omega
      have h40b : ((pre.length : Int) == 40) = false := by simpa using h40'
      rw [hleft] at HP
      by_cases h4 : n - at_ < 4
      · have hre := round_short (left := left) (kind := kd) (xs := xs) (a := at_) (out := pre.map RawP.raw) hkd (by rw [HL.out]; exact h4)
        rw [HP.out] at hre
        have HRE := hidden hre.symm
        have HC := hidden (callsIn_wide (n := m + 2).2 (pay_short wr R p n c xs HXr.out hn at_ kd 0 0 HRD.out hat h4))
        clear hre hkd hleft h4
        gi_wp2_with (refine ⟨trivial, ?_⟩; gi_at_call 52; (with_reducible refine (HC.out).mono ?_); rintro e w2 ⟨rfl, hb2⟩; have hrd2 := HRD.out.below hb2 HRD.out.lt; have hl2 := hrd2.lt; have hne2 : R ≠ w2.heap.size := (by omega); obtain ⟨d0, d1, d2, d3, d4, dr⟩ := hrd2; have dr4 := dr 4)
        refine bodyPost_ret (results_none rfl _ _ _) rfl ?_
        have hb2' := grown_of_below hb2 (some R)
        exact ⟨⟨_, rfl⟩, pre, end_fail _ _ _ (((HRD.out.below hb2 HRD.out.lt).set4 1).grown (World.grownBy_alloc _ _ none) (by simp)) HRE.out (by omega) hpl, HJ.out _ _ _ HJJ.out (grown_alloc_new (grown_trans hb2' (grown_set _ _ _ _)) _)⟩
      obtain ⟨L, hL⟩ : ∃ L, lenC (xs.drop at_) = L := ⟨_, rfl⟩
      have hlb := lenC_bd (xs.drop at_) (rng_drop HX.out.rng at_)
      rw [hL] at hlb
      by_cases hbad : L < 4 ∨ (n : Int) - at_ < L
      · have hre := round_wrong (left := left) (kind := kd) (xs := xs) (a := at_) (out := pre.map RawP.raw) hkd (by rw [HL.out]; omega) (by rw [HL.out, hL]; omega)
        rw [HP.out] at hre
        have HRE := hidden hre.symm
        have HC := hidden (callsIn_wide (n := m + 2).2 (pay_wrong wr R p n c xs HXr.out hn at_ kd 0 0 HRD.out (by omega) L hL hbad))
        clear hre hkd hleft h4 hbad hL
        gi_wp2_with (refine ⟨trivial, ?_⟩; gi_at_call 52; (with_reducible refine (HC.out).mono ?_); rintro e w2 ⟨rfl, hb2⟩; have hrd2 := HRD.out.below hb2 HRD.out.lt; have hl2 := hrd2.lt; have hne2 : R ≠ w2.heap.size := (by omega); obtain ⟨d0, d1, d2, d3, d4, dr⟩ := hrd2; have dr4 := dr 4)
        refine bodyPost_ret (results_none rfl _ _ _) rfl ?_
        have hb2' := grown_of_below hb2 (some R)
        exact ⟨⟨_, rfl⟩, pre, end_fail _ _ _ (((HRD.out.below hb2 HRD.out.lt).set4 2).grown (World.grownBy_alloc _ _ none) (by simp)) HRE.out (by omega) hpl, HJ.out _ _ _ HJJ.out (grown_alloc_new (grown_trans hb2' (grown_set _ _ _ _)) _)⟩
      obtain ⟨k, hk⟩ := Int.eq_ofNat_of_zero_le (show 0 ≤ L - 4 by omega)
      have hhead := headC_at kd xs at_
      have hmt : (lenC (xs.drop at_)).toNat - 4 = k := by rw [hL]; omega
      rw [hmt] at hhead
      have hlt' : (lenC (xs.drop at_)).toNat = k + 4 := by rw [hL]; omega
      have hlast := fun hh => round_last (left := left) (kind := kd) (xs := xs) (a := at_) (out := pre.map RawP.raw) hkd (by rw [HL.out]; omega) (by rw [HL.out, hL]; omega) hh
      have hmore := fun hh => round_more (left := left) (kind := kd) (xs := xs) (a := at_) (out := pre.map RawP.raw) hkd (by rw [HL.out]; omega) (by rw [HL.out, hL]; omega) hh
      rw [hhead, HP.out] at hlast hmore
      rw [hlt'] at hmore
      rw [HL.out, hL] at hlast
      have r0 := rng_getD HX.out.rng at_
      have hc := callsIn_wide (n := m + 2).2 (pay_ok wr R p n c xs HXr.out hn at_ kd 0 0 HRD.out L hL k hk (by omega))
      unfold PayOk at hc
      generalize xs.getD at_ 0 = x0 at *
      generalize xs.getD (at_ + 1) 0 = x1 at *
      generalize hbs : (xs.drop (at_ + 4)).take k = bs at *
      have hfit : at_ + 4 + k ≤ n := by omega
      have HC := hidden hc
      have HLAST := hidden hlast
      have HMORE := hidden hmore
      have HLEFT := hidden hleft
      have HK := hidden hk
      clear hhead hmt hlt' hlast hmore hL hk hleft hbad hc hbs
      gi_wp2_with (refine ⟨trivial, ?_⟩; gi_at_call 52; (with_reducible refine (HC.out).mono ?_); rintro e w2 ⟨q, d, rfl, hbod, hrd2, hg2⟩; obtain ⟨fn, tmps, assign, body, hy, hRnd⟩ := HY.out pre ⟨kd, decide (128 ≤ x1), q, k, d, bs⟩ _ (HJ.out _ _ _ (HJ.out _ _ _ HJJ.out hg2) (World.grownBy_alloc w2 (.cells #[.int .i64 kd, .bool (decide (128 ≤ x1)), .slice q k d] 82) _)) ((hbod.mono (Nat.le_trans hb0 hws)).alloc (.cells #[.int .i64 kd, .bool (decide (128 ≤ x1)), .slice q k d] 82)) (by omega); simp only [encR] at hy)
      have HB2 := hidden (HBL.out.grown hg2 HBL.out.size (by intro k hk; simp at hk; omega))
      have HRD2 := hidden hrd2
      have hl2 := hrd2.lt
      have hs2 := hg2.size
      clear hbod hrd2 hg2 HC c0 c1 c2 c3 c4 fr
      refine hRnd.mono ?_
      rintro e W3 ⟨rfl, hJ3, hk3⟩
      have hs3 := hk3.size
      simp at hs3
      have HS3 := hidden (show w.heap.size ≤ W3.heap.size by omega)
      have HJ3 := hidden hJ3
      have HRD3 := hidden ((HRD2.out.grown (World.grownBy_alloc w2 (.cells #[.int .i64 kd, .bool (decide (128 ≤ x1)), .slice q k d] 82) none) (by simp)).below hk3 (Nat.lt_succ_self _))
      have HB3 := hidden ((HB2.out.alloc HB2.out.size (.cells #[.int .i64 kd, .bool (decide (128 ≤ x1)), .slice q k d] 82)).trans (hk3.mono (by omega)))
      clear hJ3 hk3 hy hRnd HB2 HRD2
      gi_wp2
      go_roundw
      case rel =>
        have hk' := HK.out
        have hat' : (at_ : Int) + L = ((at_ + (k + 4) : Nat) : Int) := by omega
        have hr3 := HRD3.out
        rw [hat'] at hr3
        refine ⟨pre ++ [⟨kd, decide (128 ≤ x1), q, k, d, bs⟩], by simp, by simp; omega, HJ3.out, ?_, HB3.out, HS3.out⟩
        have hmap : (pre ++ [(⟨kd, decide (128 ≤ x1), q, k, d, bs⟩ : RawP)]).map RawP.raw = pre.map RawP.raw ++ [⟨kd, decide (128 ≤ x1), bs⟩] := by simp [RawP.raw]
        by_cases hlk : lastK kd = true
        · rw [if_pos hlk, if_pos hlk] at hr3
          refine ⟨at_ + (k + 4), 0, x0, hr3, by omega, by omega, by omega, Or.inr ⟨rfl, ?_⟩⟩
          rw [hmap, HLAST.out hlk]
          by_cases he : n - (at_ + (k + 4)) = 0
          · rw [if_neg (by omega), if_neg (by omega)]
          · rw [if_pos (by omega), if_pos (by omega)]
        · rw [if_neg hlk, if_neg hlk] at hr3
          refine ⟨at_ + (k + 4), x0, 0, hr3, by omega, r0.1, r0.2, ?_⟩
          have hm := HMORE.out hlk
          by_cases hz : x0 = 0
          · refine Or.inr ⟨hz, ?_⟩
            have hre := round_end (left := left) (kind := x0) (xs := xs) (a := at_ + (k + 4)) (out := pre.map RawP.raw ++ [⟨kd, decide (128 ≤ x1), bs⟩]) hz
            rw [HL.out] at hre
            rw [hm, hre, hmap]
          · refine Or.inl ⟨hz, rfl, ?_⟩
            have := HLEFT.out
            rw [hmap, List.length_append, List.length_singleton, show 40 - (pre.length + 1) = left by omega]
            exact hm.symm
      case measure =>
        simp [intOf]
        omega
    · by_cases he : at_ = n
      · subst he
        rw [if_neg (by omega)] at hpre
        subst hpre
        gi_wp2
        gi_quiet (fail)
        gi_wp2
        go_end0
        exact ⟨⟨_, rfl⟩, pre, ⟨_, _, _, (HRD.out.grown (grown_drewN wr _ none) (by simp)), fun _ => ⟨rfl, rfl⟩, hpl⟩, HJ.out _ _ _ HJJ.out (grown_drewN _ _ _)⟩
      · rw [if_pos (by omega)] at hpre
        have HRE := hidden hpre
        have hne : ((at_ : Int) != (n : Int)) = true := by simp; omega
        clear hpre he
        gi_wp2
        gi_quiet (fail)
        gi_wp2
        go_end0
        exact ⟨⟨_, rfl⟩, pre, end_fail _ _ _ ((HRD.out.grown (grown_drewN wr _ none) (by simp)).set4 2) HRE.out (by omega) hpl, HJ.out _ _ _ HJJ.out (grown_trans (grown_drewN _ _ _) (grown_set _ _ _ _))⟩
end Go.Proofs.YtkniifopfgeopaaGreat
