/-
  Package payload's reader of key exchanges.
  Package payload's writers of key exchanges and notifications.
  Package payload's writer of deletions.
  Package payload's Build, given what build returns.
  Package payload's reader of deletions.
  What package selector's read and Parse return, for any bytes.
  Package payload's reader of selectors.
  Package payload's reader of proposals.
  What the document's own package writes of an address.
  Plain mathematics, no program: the selector at a place of some bytes.
  What the document's own package reads of an address.
-/
import Derived.Test.YtbpmanbpmlkmnaaGreatDoorMPayIdent
import Derived.Test.YtbpmanbpmlkmnaaGreatDoorMZ8
import Derived.Test.YtbpmanbpmlkmnaaGreatDoorMZ5
import Derived.Test.YtbpmanbpmlkmnaaGreatDoorMZ9
import Derived.Test.YtbpmanbpmlkmnaaGreatDoorMZ7
import Derived.Test.YtbpmanbpmlkmnaaGreatDoorMZ6
import Derived.Test.YtbpmanbpmlkmnaaGreatDoorMSelBuild
import Derived.Test.YtbpmanbpmlkmnaaGreatDoorMZ13
import Derived.Test.YtbpmanbpmlkmnaaGreatDoorMZ4
import Derived.Test.YtbpmanbpmlkmnaaGreatDoorMZ1
import Derived.Test.YtbpmanbpmlkmnaaGreatDoorMMkAddr
import Derived.Deep.Cut
import Derived.Deep.CutRange
import Derived.Deep.RegionHeld3
namespace Go.Proofs.YtbpmanbpmlkmnaaGreatDoor
open Go.RowKit
set_option linter.unusedVariables false

def exchE (g : Int) (n : Nat) : Int := if g < 0 ∨ 65535 < g then 5 else if n = 0 then 13 else 0
def exchangeE (xs : List Int) (n : Nat) : Int := if n < 4 then 1 else exchE (nthB xs 0 * 256 + nthB xs 1) (n - 4)
set_option maxHeartbeats 800000 in
theorem checkExchange_any (g : Int) (p : Option Addr) (n c : Nat) (w : World) (hn : n ≤ 9223372036854775807) (E : Int) (hE : exchE g n = E) :
    Calls Tryz.prog 72 #[.agg #[.int .i64 g, .slice p n c]] w fun e w' => e = .returned (.int .i64 E) ∧ Below w.heap.size w w' := by
  have HB := hidden ((Below.refl w.heap.size w).alloc (Nat.le_refl _) (.cells #[.int .i64 g, .slice p n c] 33))
  unfold exchE at hE
  by_cases h1 : g < 0
  · rw [if_pos (Or.inl h1)] at hE
    subst hE
    go_enter Tryz.func72, Tryz.ntmps72
    go_wp2
    go_ret
    exact ⟨rfl, HB.out⟩
  by_cases h2 : 65535 < g
  · rw [if_pos (Or.inr h2)] at hE
    subst hE
    go_enter Tryz.func72, Tryz.ntmps72
    go_wp2
    go_ret
    exact ⟨rfl, HB.out⟩
  rw [if_neg (by omega)] at hE
  by_cases h3 : n = 0
  · rw [if_pos h3] at hE
    subst hE h3
    go_enter Tryz.func72, Tryz.ntmps72
    go_wp2
    go_ret
    exact ⟨rfl, HB.out⟩
  · rw [if_neg h3] at hE
    subst hE
    have hz : ((n : Int) == 0) = false := by simp; omega
    clear h3
    go_enter Tryz.func72, Tryz.ntmps72
    go_wp2
    go_ret
    exact ⟨rfl, HB.out⟩
set_option maxHeartbeats 1600000 in
set_option maxRecDepth 100000 in
theorem exchange_read (p : Option Addr) (n c : Nat) (xs : List Int) (w : World) (h : Byt w p n c xs) (hb : n ≤ 140737488355328) :
    Calls Tryz.prog 42 #[.slice p n c] w (ReadPv w (exchangeE xs n) fun w' x => x.eg = (nthB xs 0 * 256 + nthB xs 1) ∧ FrV w' w.heap.size x.ed (xs.drop 4)) := by
  have hn := h.le
  have H1 := hidden (h.alloc (.cells #[.int .i64 0, .slice none 0 0, .int .i64 0, .slice none 0 0, .int .i64 0, .slice none 0 0, .int .i64 0, .slice none 0 0, .int .i64 0, .slice none 0 0, .int .i64 0, .slice none 0 0, .int .i64 0, .slice none 0 0, .slice none 0 0, .slice none 0 0] 45))
  have HB := hidden ((Below.refl w.heap.size w).alloc (Nat.le_refl _) (.cells #[.int .i64 0, .slice none 0 0, .int .i64 0, .slice none 0 0, .int .i64 0, .slice none 0 0, .int .i64 0, .slice none 0 0, .int .i64 0, .slice none 0 0, .int .i64 0, .slice none 0 0, .int .i64 0, .slice none 0 0, .slice none 0 0, .slice none 0 0] 45))
  have HZ : Hid (PvIn (w.alloc (.cells #[.int .i64 0, .slice none 0 0, .int .i64 0, .slice none 0 0, .int .i64 0, .slice none 0 0, .int .i64 0, .slice none 0 0, .int .i64 0, .slice none 0 0, .int .i64 0, .slice none 0 0, .int .i64 0, .slice none 0 0, .slice none 0 0, .slice none 0 0] 45)) w.heap.size zeroP) := hidden (PvIn.new w zeroP 45)
  have b0 := nthB_rng h.rng 0
  have b1 := nthB_rng h.rng 1
  have b2 := nthB_rng h.rng 2
  have b3 := nthB_rng h.rng 3
  obtain ⟨E, hE⟩ : ∃ E, exchangeE xs n = E := ⟨_, rfl⟩
  rw [hE]
  unfold exchangeE at hE
  by_cases h4 : n < 4
  · rw [if_pos h4] at hE
    subst hE
    clear h
    go_enter Tryz.func42, Tryz.ntmps42
    go_wp2_with (first
      | (go_at_call 70; (with_reducible refine (split_any _ _ _ _ _ H1.out hb).mono ?_); rintro e w2 ⟨hb2, ⟨-, rfl⟩ | ⟨k4, -⟩⟩; rotate_left; (exact absurd k4 (by omega)); have HB2 := hidden ((HB.out.trans (hb2.mono HB.out.size)).alloc (HB.out.trans (hb2.mono HB.out.size)).size (.cells #[.int .u8 0, .int .u8 0, .int .u8 0, .int .u8 0] 110)); have HZ2 := hidden ((HZ.out.below hb2).alloc (.cells #[.int .u8 0, .int .u8 0, .int .u8 0, .int .u8 0] 110)); obtain ⟨z0, z1, z2, z3, z4, z5, z6, z7, z8, z9, z10, z11, z12, z13, z14, z15, zf⟩ := HZ2.out; clear hb2)
      | fail)
    have hz := stored_pv HZ2.out HB2.out (Nat.le_refl _) zeroP
    simp only [setPv, zeroP, nilV] at hz
    exact ret_pv (g := w.heap.size) rfl rfl rfl rfl hz.1 ⟨_, rfl, hz.2, fun h => by cases h⟩
  · rw [if_neg h4] at hE
    have HCI := hidden (fun q d => checkExchange_any (nthB xs 0 * 256 + nthB xs 1) q (n - 4) d · (by omega) E hE)
    have HV := hidden (show val (([nthB xs 0, nthB xs 1, nthB xs 2, nthB xs 3].drop 0).take 2) = (nthB xs 0 * 256 + nthB xs 1) by simp [val])
    clear h hE
    go_enter Tryz.func42, Tryz.ntmps42
    go_upto_region 5 with (first
      | (go_at_call 70; (with_reducible refine (split_any _ _ _ _ _ H1.out hb).mono ?_); rintro e w2 ⟨hb2, ⟨k4, -⟩ | ⟨-, q2, d2, rfl, hf⟩⟩; (exact absurd k4 h4); have HB2 := hidden ((HB.out.trans (hb2.mono HB.out.size)).alloc (HB.out.trans (hb2.mono HB.out.size)).size (.cells #[.int .u8 (nthB xs 0), .int .u8 (nthB xs 1), .int .u8 (nthB xs 2), .int .u8 (nthB xs 3)] 110)); have HZ2 := hidden ((HZ.out.below hb2).alloc (.cells #[.int .u8 (nthB xs 0), .int .u8 (nthB xs 1), .int .u8 (nthB xs 2), .int .u8 (nthB xs 3)] 110)); have HF2 := hidden (hf.alloc (.cells #[.int .u8 (nthB xs 0), .int .u8 (nthB xs 1), .int .u8 (nthB xs 2), .int .u8 (nthB xs 3)] 110)); clear hb2 hf)
      | (go_at_call 71; (with_reducible refine (fnumber_any _ _ _ _ b0 b1 b2 b3 0 2 0 2 rfl rfl (by omega) (by omega) _ HV.out _).mono ?_); rintro e w3 ⟨rfl, hb3⟩; have HB3 := hidden (HB2.out.trans (hb3.mono HB2.out.size)); have HZ3 := hidden (HZ2.out.below hb3); have HF3 := hidden (HF2.out.below hb3); clear hb3 HB2 HZ2 HF2)
      | fail)
    have HB4 := hidden (HB3.out.alloc HB3.out.size (.cells #[.int .i64 ((nthB xs 0 * 256 + nthB xs 1)), .slice q2 (n - 4) d2] 33))
    have HZ4 := hidden (HZ3.out.alloc (.cells #[.int .i64 ((nthB xs 0 * 256 + nthB xs 1)), .slice q2 (n - 4) d2] 33))
    have HF4 := hidden (HF3.out.alloc (.cells #[.int .i64 ((nthB xs 0 * 256 + nthB xs 1)), .slice q2 (n - 4) d2] 33))
    have d0 : (w3.alloc (.cells #[.int .i64 ((nthB xs 0 * 256 + nthB xs 1)), .slice q2 (n - 4) d2] 33)).cell? ⟨w3.heap.size, 0, none⟩ = some (.int .i64 ((nthB xs 0 * 256 + nthB xs 1))) := by go_simp
    have d1 : (w3.alloc (.cells #[.int .i64 ((nthB xs 0 * 256 + nthB xs 1)), .slice q2 (n - 4) d2] 33)).cell? ⟨w3.heap.size, 1, none⟩ = some (.slice q2 (n - 4) d2) := by go_simp
    generalize hw4 : w3.alloc (.cells #[.int .i64 ((nthB xs 0 * 256 + nthB xs 1)), .slice q2 (n - 4) d2] 33) = w4 at *
    have hgl := HZ3.out.lt
    generalize w3.heap.size = g3 at *
    have hn1 : ¬ g3 = w.heap.size := by omega
    have hn2 : ¬ w.heap.size = g3 := by omega
    have hgk : w.heap.size < (w.alloc (.cells #[.int .i64 0, .slice none 0 0, .int .i64 0, .slice none 0 0, .int .i64 0, .slice none 0 0, .int .i64 0, .slice none 0 0, .int .i64 0, .slice none 0 0, .int .i64 0, .slice none 0 0, .int .i64 0, .slice none 0 0, .slice none 0 0, .slice none 0 0] 45)).heap.size := by simp
    have HKG := hidden hgk
    clear hw4 HB3 HZ3 HF3 hgk hgl
    go_upto_region 5 with fail
    have HK := hidden (fun wx (hb : Below w4.heap.size w4 wx) => And.intro (cell_below hb _ _ d0) (cell_below hb _ _ d1))
    have HBD := hidden (show Below w4.heap.size w4 w4.drew from drew_below ⟨1, rfl⟩)
    have HZD := hidden (HZ4.out.below (w' := w4.drew) HBD.out)
    obtain ⟨y0, y1, y2, y3, y4, y5, y6, y7, y8, y9, y10, y11, y12, y13, y14, y15, z0, z1, z2, z3, z4, z5, z6, z7, z8, z9, z10, z11, z12, z13, z14, z15, zf⟩ := HZD.out.any
    go_region_with
      (first
      | (go_at_call 72; (with_reducible refine (HCI.out _ q2 d2).mono ?_); rintro e w5 ⟨rfl, hbc⟩; have hB := HBD.out.trans hbc; have HB5 := hidden (HB4.out.trans (hB.mono HB4.out.size)); have HZ5 := hidden (HZ4.out.below hB); have HF5 := hidden (HF4.out.below hB); obtain ⟨d0', d1'⟩ := HK.out _ hB; clear z0 z1 z2 z3 z4 z5 z6 z7 z8 z9 z10 z11 z12 z13 z14 z15 zf y0 y1 y2 y3 y4 y5 y6 y7 y8 y9 y10 y11 y12 y13 y14 y15; obtain ⟨y0, y1, y2, y3, y4, y5, y6, y7, y8, y9, y10, y11, y12, y13, y14, y15, z0, z1, z2, z3, z4, z5, z6, z7, z8, z9, z10, z11, z12, z13, z14, z15, zf⟩ := HZ5.out.any; clear hB)
      | fail)
    all_goals
      have hz := stored_pv HZ5.out HB5.out (Nat.le_refl _) ⟨0, nilV, nthB xs 0 * 256 + nthB xs 1, ⟨q2, n - 4, d2⟩, 0, nilV, 0, nilV, 0, nilV, 0, nilV, 0, nilV, nilV, nilV⟩
      have hfl := (HF5.out.low (setPv_grown w5 w.heap.size ⟨0, nilV, nthB xs 0 * 256 + nthB xs 1, ⟨q2, n - 4, d2⟩, 0, nilV, 0, nilV, 0, nilV, 0, nilV, 0, nilV, nilV, nilV⟩) HKG.out).mono (Nat.le_of_lt HKG.out)
      simp only [setPv, nilV] at hz hfl
      have HZZ := hidden hz
      have HFF := hidden hfl
      clear hz hfl hbc
      go_wp2
      exact ret_pv (g := w.heap.size) rfl rfl rfl rfl HZZ.out.1 ⟨_, rfl, HZZ.out.2, fun _ => ⟨rfl, HFF.out⟩⟩
end Go.Proofs.YtbpmanbpmlkmnaaGreatDoor

namespace Go.Proofs.YtbpmanbpmlkmnaaGreatDoor
open Go.RowKit
set_option linter.unusedVariables false
set_option linter.unusedSimpArgs false

/-- Bytes and an error are returned. -/
def GotBE (w : World) (L : List Int) (E : Int) (e : Ending) (w' : World) : Prop := ∃ q d, e = .returned (.tuple #[.slice q L.length d, .int .i64 E]) ∧ Frs w' w.heap.size q L.length d L ∧ Below w.heap.size w w'
/-- The bytes of a key exchange. -/
def exchL (g : Int) (ed : List Int) : List Int := [g / 256 % 256, g % 256, 0, 0] ++ ed
/-- The bytes of a notification. -/
def noteL (np nt : Int) (ns nd : List Int) : List Int := [np % 256, (ns.length : Int) % 256, nt / 256 % 256, nt % 256] ++ (ns ++ nd)
end Go.Proofs.YtbpmanbpmlkmnaaGreatDoor

namespace Go.Proofs.YtbpmanbpmlkmnaaGreatDoor
open Go.RowKit
set_option linter.unusedVariables false
set_option linter.unusedSimpArgs false

/-- The length that an SPI has: a wrong one if there is any. -/
def sizeBad (z : Nat) : List (List Int) → Nat
  | [] => z
  | x :: l => if x.length = z then sizeBad z l else x.length
theorem sizeBad_drop (z : Nat) : ∀ (l : List (List Int)) (j : Nat), (∀ x ∈ l.take j, x.length = z) → sizeBad z (l.drop j) = sizeBad z l
  | l, 0, _ => rfl
  | [], j + 1, _ => rfl
  | x :: l, j + 1, h => by
    rw [List.drop_succ_cons, sizeBad_drop z l j (fun y hy => h y (by simp [hy])), sizeBad, if_pos (h x (by simp))]
theorem sizeBad_all (z : Nat) : ∀ (l : List (List Int)), sizeBad z l = z → ∀ x ∈ l, x.length = z
  | [], _ => fun x hx => by cases hx
  | y :: l, h => by
    unfold sizeBad at h
    split at h
    · rename_i hy
      intro x hx
      rcases List.mem_cons.1 hx with rfl | hx
      · exact hy
      · exact sizeBad_all z l h x hx
    · rename_i hy
      exact absurd h hy

/-- The bytes of a deletion, and the first error. -/
def delL (k : Int) (l : List (List Int)) : List Int := [k % 256, (sizeBad (spiZ k) l : Int) % 256, (l.length : Int) / 256 % 256, (l.length : Int) % 256] ++ l.flatten
def delBE (k : Int) (l : List (List Int)) : Int := if deleteE k (sizeBad (spiZ k) l) l.length ≠ 0 then deleteE k (sizeBad (spiZ k) l) l.length else spisX k l
def delBL (k : Int) (l : List (List Int)) : List Int := if deleteE k (sizeBad (spiZ k) l) l.length ≠ 0 then [] else delL k l
theorem flatten_len (z : Nat) : ∀ (l : List (List Int)), (∀ x ∈ l, x.length = z) → l.flatten.length = l.length * z
  | [], _ => by simp
  | x :: l, h => by
    have h1 := h x (by simp)
    have h2 := flatten_len z l (fun y hy => h y (by simp [hy]))
    rw [List.flatten_cons, List.length_append, h1, h2, List.length_cons, Nat.add_mul]
    omega
theorem spiZ_le (k : Int) : spiZ k ≤ 4 := by unfold spiZ; split <;> omega
def sbPart (x : Sb) : Part := ⟨x.p, x.n, x.c, x.xs⟩
end Go.Proofs.YtbpmanbpmlkmnaaGreatDoor

namespace Go.Proofs.YtbpmanbpmlkmnaaGreatDoor
open Go.RowKit
set_option linter.unusedVariables false
set_option linter.unusedSimpArgs false

theorem ret_raw3 {fn : Func} {R : Ending → World → Prop} {act : Act} {w : World} {p s : Nat} {g : Nat} {a b c : Value} {u : Value} (h : fn.results = #[.cell p 27, .tmp s]) (hp : act.tmps.getD p undef = .pointer (some ⟨g, 0, none⟩)) (hs : act.tmps.getD s undef = u) (hd : act.defers = [])
    (c0 : w.cell? ⟨g, 0, none⟩ = some a) (c1 : w.cell? ⟨g, 1, none⟩ = some b) (c2 : w.cell? ⟨g, 2, none⟩ = some c) (hR : R (.returned (.tuple #[.agg #[a, b, c], u])) w) : bodyPost Tryz.prog fn R .ret act w := by
  refine bodyPost_ret (v := .tuple #[.agg #[a, b, c], u]) ?_ hd hR
  rw [Array.getD_eq_getD_getElem?] at hp hs
  have hl : (loadVar 27 ⟨g, 0, none⟩).run Tryz.prog w = .ok (.agg #[a, b, c]) w := by simp [loadVar, go_sem, c0, c1, c2, Result.andThen]
  simp [results, h, hp, hs, asAddr, hl, Result.andThen]
/-- A raw payload and an error are returned. -/
def GotRaw (w : World) (t : Int) (L : List Int) (E : Int) (e : Ending) (w' : World) : Prop :=
  Below w.heap.size w w' ∧ ((E = 0 ∧ ∃ q d, e = .returned (.tuple #[.agg #[.int .i64 t, .bool false, .slice q L.length d], .int .i64 0]) ∧ Frs w' w.heap.size q L.length d L) ∨
    (E ≠ 0 ∧ e = .returned (.tuple #[.agg #[.int .i64 0, .bool false, .slice none 0 0], .int .i64 E])))
/-- The first error of a payload whose body is L, or has the error E. -/
def rawE (t : Int) (L : List Int) (E : Int) : Int := if t < 1 ∨ 255 < t then 5 else if E ≠ 0 then E else if 65531 < L.length then 11 else 0

end Go.Proofs.YtbpmanbpmlkmnaaGreatDoor

namespace Go.Proofs.YtbpmanbpmlkmnaaGreatDoor
open Go.RowKit
set_option linter.unusedVariables false
set_option linter.unusedSimpArgs false

/-- The SPIs in the body of a deletion: m rows of z bytes. -/
def spisL (ys : List Int) (z m : Nat) : List (List Int) := (List.range m).map fun i => (ys.drop (i * z)).take z
/-- What a deletion's body says, and the first error. -/
def delE (xs : List Int) (n : Nat) : Int :=
  if n < 4 then 1 else if deleteE (nthB xs 0) (nthB xs 1) (nthB xs 2 * 256 + nthB xs 3) ≠ 0 then deleteE (nthB xs 0) (nthB xs 1) (nthB xs 2 * 256 + nthB xs 3)
  else if (n : Int) - 4 ≠ nthB xs 1 * (nthB xs 2 * 256 + nthB xs 3) then 2 else spisX (nthB xs 0) (spisL (xs.drop 4) (nthB xs 1).toNat (nthB xs 2 * 256 + nthB xs 3).toNat)

theorem deleteE_ok (k s t : Int) (h : deleteE k s t = 0) : (s = 0 ∧ t = 0 ∧ k = 1) ∨ (s = 4 ∧ (k = 2 ∨ k = 3)) := by
  unfold deleteE at h
  by_cases h1 : k ≠ 1 ∧ k ≠ 2 ∧ k ≠ 3
  · rw [if_pos h1] at h
    exact absurd h (by decide)
  rw [if_neg h1] at h
  by_cases h2 : s = (spiZ k : Int) ∧ ¬ (k = 1 ∧ t ≠ 0)
  · obtain ⟨h2, h3⟩ := h2
    unfold spiZ at h2
    by_cases h4 : k = 2 ∨ k = 3
    · rw [if_pos h4] at h2
      exact Or.inr ⟨h2, h4⟩
    · rw [if_neg h4] at h2
      have h5 : s = 0 := h2
      omega
  · rw [if_neg h2] at h
    exact absurd h (by decide)
/-- The deletion lies at block g from its first cell on. -/
structure DlIn (w : World) (g : Nat) (k : Int) (v : Value) : Prop where
  c0 : w.cell? ⟨g, 0, none⟩ = some (.int .i64 k)
  c1 : w.cell? ⟨g, 1, none⟩ = some v
  fr : ∀ j, w.frozen? ⟨g, j, none⟩ = false
theorem DlIn.lt {w : World} {g : Nat} {k : Int} {v : Value} (h : DlIn w g k v) : g < w.heap.size := World.block_lt_of_cell? w _ h.c0
theorem DlIn.grown {w w' : World} {g : Nat} {k : Int} {v : Value} {row : Option Nat} (h : DlIn w g k v) (hg : w.grownBy w' row) (hne : some g ≠ row) : DlIn w' g k v :=
  ⟨hg.cell h.c0 hne, hg.cell h.c1 hne, fun j => (World.frozen?_of_block (a := ⟨g, j, none⟩) (hg.block g h.lt hne)).trans (h.fr j)⟩
theorem DlIn.below {w w' : World} {g : Nat} {k : Int} {v : Value} (h : DlIn w g k v) (hb : Below w.heap.size w w') : DlIn w' g k v := h.grown (row := none) (grown_of_below hb none) (by simp)
theorem DlIn.new (w : World) (k : Int) (T : TypeId) : DlIn (w.alloc (.cells #[.int .i64 k, .slice none 0 0] T)) w.heap.size k (.slice none 0 0) :=
  ⟨by go_simp, by go_simp, fun j => by go_simp⟩
theorem DlIn.setV {w : World} {g : Nat} {k : Int} {v : Value} (h : DlIn w g k v) (u : Value) : DlIn (w.setCell ⟨g, 1, none⟩ u) g k u := by
  obtain ⟨c0, c1, fr⟩ := h
  exact ⟨by go_simp, by go_simp, fun j => by simp only [World.frozen?_setCell]; exact fr j⟩

set_option maxHeartbeats 6400000 in
set_option maxRecDepth 100000 in
theorem deletion_read (p : Option Addr) (n c : Nat) (xs : List Int) (w : World) (h : Byt w p n c xs) (hb : n ≤ 140737488355328) :
    Calls Tryz.prog 47 #[.slice p n c] w (ReadPv w (delE xs n) fun w' x => x.dp = nthB xs 0 ∧ ∃ l : List Sb, RowG KSb NSb w' w.heap.size (.slice x.ds.p x.ds.n x.ds.c) l ∧ l.map Sb.xs = spisL (xs.drop 4) (nthB xs 1).toNat (nthB xs 2 * 256 + nthB xs 3).toNat) := by
  have hn := h.le
  have H1 := hidden (h.alloc (.cells #[.int .i64 0, .slice none 0 0, .int .i64 0, .slice none 0 0, .int .i64 0, .slice none 0 0, .int .i64 0, .slice none 0 0, .int .i64 0, .slice none 0 0, .int .i64 0, .slice none 0 0, .int .i64 0, .slice none 0 0, .slice none 0 0, .slice none 0 0] 45))
  have HB := hidden ((Below.refl w.heap.size w).alloc (Nat.le_refl _) (.cells #[.int .i64 0, .slice none 0 0, .int .i64 0, .slice none 0 0, .int .i64 0, .slice none 0 0, .int .i64 0, .slice none 0 0, .int .i64 0, .slice none 0 0, .int .i64 0, .slice none 0 0, .int .i64 0, .slice none 0 0, .slice none 0 0, .slice none 0 0] 45))
  have HZ : Hid (PvIn (w.alloc (.cells #[.int .i64 0, .slice none 0 0, .int .i64 0, .slice none 0 0, .int .i64 0, .slice none 0 0, .int .i64 0, .slice none 0 0, .int .i64 0, .slice none 0 0, .int .i64 0, .slice none 0 0, .int .i64 0, .slice none 0 0, .slice none 0 0, .slice none 0 0] 45)) w.heap.size zeroP) := hidden (PvIn.new w zeroP 45)
  have b0 := nthB_rng h.rng 0
  have b1 := nthB_rng h.rng 1
  have b2 := nthB_rng h.rng 2
  have b3 := nthB_rng h.rng 3
  have HXL := Is.mk h.len
  obtain ⟨E, hE⟩ : ∃ E, delE xs n = E := ⟨_, rfl⟩
  rw [hE]
  unfold delE at hE
  by_cases h4 : n < 4
  · rw [if_pos h4] at hE
    subst hE
    clear h
    go_enter Tryz.func47, Tryz.ntmps47
    go_wp2_with (first
      | (go_at_call 70; (with_reducible refine (split_any _ _ _ _ _ H1.out hb).mono ?_); rintro e w2 ⟨hb2, ⟨-, rfl⟩ | ⟨k4, -⟩⟩; rotate_left; (exact absurd k4 (by omega)); have HB2 := hidden ((HB.out.trans (hb2.mono HB.out.size)).alloc (HB.out.trans (hb2.mono HB.out.size)).size (.cells #[.int .u8 0, .int .u8 0, .int .u8 0, .int .u8 0] 110)); have HZ2 := hidden ((HZ.out.below hb2).alloc (.cells #[.int .u8 0, .int .u8 0, .int .u8 0, .int .u8 0] 110)); obtain ⟨y0, y1, y2, y3, y4, y5, y6, y7, y8, y9, y10, y11, y12, y13, y14, y15, z0, z1, z2, z3, z4, z5, z6, z7, z8, z9, z10, z11, z12, z13, z14, z15, zf⟩ := HZ2.out.any; clear hb2)
      | fail)
    have hz := stored_pv HZ2.out HB2.out (Nat.le_refl _) zeroP
    simp only [setPv, zeroP, nilV] at hz
    exact ret_pv (g := w.heap.size) rfl rfl rfl rfl hz.1 ⟨_, rfl, hz.2, fun h => by cases h⟩
  rw [if_neg h4] at hE
  have HV0 := hidden (show val (([nthB xs 0, nthB xs 1, nthB xs 2, nthB xs 3].drop 0).take 1) = nthB xs 0 by simp [val])
  have HV1 := hidden (show val (([nthB xs 0, nthB xs 1, nthB xs 2, nthB xs 3].drop 1).take 1) = nthB xs 1 by simp [val])
  have HV2 := hidden (show val (([nthB xs 0, nthB xs 1, nthB xs 2, nthB xs 3].drop 2).take 2) = nthB xs 2 * 256 + nthB xs 3 by simp [val])
  have hlen := h.len
  clear h
  go_enter Tryz.func47, Tryz.ntmps47
  go_upto_region 4 with (first
    | (go_at_call 70; (with_reducible refine (split_any _ _ _ _ _ H1.out hb).mono ?_); rintro e w2 ⟨hb2, ⟨k4, -⟩ | ⟨-, q2, d2, rfl, hf⟩⟩; (exact absurd k4 h4); have HB2 := hidden ((HB.out.trans (hb2.mono HB.out.size)).alloc (HB.out.trans (hb2.mono HB.out.size)).size (.cells #[.int .u8 (nthB xs 0), .int .u8 (nthB xs 1), .int .u8 (nthB xs 2), .int .u8 (nthB xs 3)] 110)); have HZ2 := hidden ((HZ.out.below hb2).alloc (.cells #[.int .u8 (nthB xs 0), .int .u8 (nthB xs 1), .int .u8 (nthB xs 2), .int .u8 (nthB xs 3)] 110)); have HF2 := hidden (hf.alloc (.cells #[.int .u8 (nthB xs 0), .int .u8 (nthB xs 1), .int .u8 (nthB xs 2), .int .u8 (nthB xs 3)] 110)); clear hb2 hf)
    | fail)
  have d0 : (w2.alloc (.cells #[.int .u8 (nthB xs 0), .int .u8 (nthB xs 1), .int .u8 (nthB xs 2), .int .u8 (nthB xs 3)] 110)).cell? ⟨w2.heap.size, 0, none⟩ = some (.int .u8 (nthB xs 0)) := by go_simp
  have d1 : (w2.alloc (.cells #[.int .u8 (nthB xs 0), .int .u8 (nthB xs 1), .int .u8 (nthB xs 2), .int .u8 (nthB xs 3)] 110)).cell? ⟨w2.heap.size, 1, none⟩ = some (.int .u8 (nthB xs 1)) := by go_simp
  have d2' : (w2.alloc (.cells #[.int .u8 (nthB xs 0), .int .u8 (nthB xs 1), .int .u8 (nthB xs 2), .int .u8 (nthB xs 3)] 110)).cell? ⟨w2.heap.size, 2, none⟩ = some (.int .u8 (nthB xs 2)) := by go_simp
  have d3 : (w2.alloc (.cells #[.int .u8 (nthB xs 0), .int .u8 (nthB xs 1), .int .u8 (nthB xs 2), .int .u8 (nthB xs 3)] 110)).cell? ⟨w2.heap.size, 3, none⟩ = some (.int .u8 (nthB xs 3)) := by go_simp
  generalize hw3 : w2.alloc (.cells #[.int .u8 (nthB xs 0), .int .u8 (nthB xs 1), .int .u8 (nthB xs 2), .int .u8 (nthB xs 3)] 110) = w3 at *
  have hgf : w2.heap.size < w3.heap.size := by rw [← hw3]; simp
  generalize w2.heap.size = gf at *
  have HD := hidden (fun W (hW : Below w3.heap.size w3 W) => (⟨cell_below hW _ _ d0, cell_below hW _ _ d1, cell_below hW _ _ d2', cell_below hW _ _ d3⟩ : W.cell? ⟨gf, 0, none⟩ = some (.int .u8 (nthB xs 0)) ∧ W.cell? ⟨gf, 1, none⟩ = some (.int .u8 (nthB xs 1)) ∧ W.cell? ⟨gf, 2, none⟩ = some (.int .u8 (nthB xs 2)) ∧ W.cell? ⟨gf, 3, none⟩ = some (.int .u8 (nthB xs 3))))
  have HFN1 := hidden (fun W => fnumber_any (nthB xs 0) (nthB xs 1) (nthB xs 2) (nthB xs 3) b0 b1 b2 b3 0 1 0 1 rfl rfl (by omega) (by omega) _ HV0.out W)
  have HFN2 := hidden (fun W => fnumber_any (nthB xs 0) (nthB xs 1) (nthB xs 2) (nthB xs 3) b0 b1 b2 b3 2 2 2 2 rfl rfl (by omega) (by omega) _ HV2.out W)
  have HFN3 := hidden (fun W => fnumber_any (nthB xs 0) (nthB xs 1) (nthB xs 2) (nthB xs 3) b0 b1 b2 b3 1 1 1 1 rfl rfl (by omega) (by omega) _ HV1.out W)
  clear hw3
  go_upto_region 5 with (first
    | (go_at_call 71; (with_reducible refine (HFN1.out w3).mono ?_); rintro e w4 ⟨rfl, hb4⟩; have HB4 := hidden hb4; clear hb4)
    | fail)
  have HNG := hidden (DlIn.new w4 (nthB xs 0) 42)
  have HB5 := hidden (HB4.out.alloc HB4.out.size (.cells #[.int .i64 (nthB xs 0), .slice none 0 0] 42))
  have hg3 : w3.heap.size ≤ w4.heap.size := HB4.out.size
  generalize hw5 : w4.alloc (.cells #[.int .i64 (nthB xs 0), .slice none 0 0] 42) = w5 at *
  generalize w4.heap.size = g at *
  have HR0 := hidden (show Below w5.heap.size w5 w5.drew from (Below.refl _ _).drew)
  have HD5 := hidden (fun W (hW : Below w5.heap.size w5 W) => HD.out W (HB5.out.trans (hW.mono HB5.out.size)))
  clear hw5 HFN1
  go_cut [8, 9] from 27 to 30 (fun a b wx => a = .int .i64 (nthB xs 1) ∧ b = .int .i64 (nthB xs 2 * 256 + nthB xs 3) ∧ Below w5.heap.size w5 wx)
  case first =>
    go_region_held3 (fun w' => w'.cell? ⟨gf, 0, none⟩ = some (.int .u8 (nthB xs 0)) ∧ w'.cell? ⟨gf, 1, none⟩ = some (.int .u8 (nthB xs 1)) ∧ w'.cell? ⟨gf, 2, none⟩ = some (.int .u8 (nthB xs 2)) ∧ w'.cell? ⟨gf, 3, none⟩ = some (.int .u8 (nthB xs 3))) (first | exact hk6 | exact hk7 | exact HD5.out _ HR0.out | go_keep)
      (first
      | (go_at_call 71; (with_reducible refine (HFN3.out _).mono ?_); rintro e w6 ⟨rfl, hb6⟩; have HB6 : Hid (Below w5.heap.size w5 w6) := hidden (by first | exact HB7.out.trans (hb6.mono HB7.out.size) | exact HR0.out.trans (hb6.mono HR0.out.size)); have hk6 := HD5.out w6 HB6.out; clear hb6)
      | (go_at_call 71; (with_reducible refine (HFN2.out _).mono ?_); rintro e w7 ⟨rfl, hb7⟩; have HB7 : Hid (Below w5.heap.size w5 w7) := hidden (by first | exact HB6.out.trans (hb7.mono HB6.out.size) | exact HR0.out.trans (hb7.mono HR0.out.size)); have hk7 := HD5.out w7 HB7.out; clear hb7)
      | fail)
    all_goals
      go_wp2_with fail
      go_meet
    all_goals
      first
        | exact ⟨rfl, rfl, HB7.out⟩
        | exact ⟨rfl, rfl, HB6.out⟩
  case rest =>
    obtain ⟨rfl, rfl, hbc⟩ := hcut
    have HNC := hidden (HNG.out.below hbc)
    have HBC := hidden (HB5.out.trans (hbc.mono HB5.out.size))
    obtain ⟨E1, hE1⟩ : ∃ E1, deleteE (nthB xs 0) (nthB xs 1) (nthB xs 2 * 256 + nthB xs 3) = E1 := ⟨_, rfl⟩
    rw [hE1] at hE
    have HCN := hidden (checkDelete_any (nthB xs 0) (nthB xs 1) (nthB xs 2 * 256 + nthB xs 3) wc E1 hE1)
    have hszb : w.heap.size < w3.heap.size := HZ2.out.lt
    have HL4 := Is.mk (show (xs.drop 4).length = n - 4 by rw [List.length_drop, hlen])
    generalize hP0 : nthB xs 0 = P0 at *
    generalize hS1 : nthB xs 1 = S1 at *
    have hTr : 0 ≤ nthB xs 2 * 256 + nthB xs 3 ∧ nthB xs 2 * 256 + nthB xs 3 ≤ 65535 := by omega
    generalize hT : nthB xs 2 * 256 + nthB xs 3 = T at *
    have HP0 := Is.mk hP0
    have HS1 := Is.mk hS1
    have HT1 := Is.mk hT
    clear hP0 hS1 hT
    clear hbc HFN2 HFN3 HR0 HD5 HV0 HV1 HV2 HNG HB5
    obtain ⟨c0, c1, cf⟩ := HNC.out
    go_upto_region 7 with (first
      | (go_at_call 76; (with_reducible refine (HCN.out).mono ?_); rintro e w6 ⟨rfl, rfl⟩)
      | fail)
    have HZ5 := hidden (HZ2.out.below (HBC.out))
    have HBW5 := hidden (HB2.out.trans (HBC.out.mono HB2.out.size))
    by_cases hE0 : E1 ≠ 0
    · rw [if_pos hE0] at hE
      subst hE
      have hEn : (E1 != 0) = true := by simp [hE0]
      obtain ⟨z0, z1, z2, z3, z4, z5, z6, z7, z8, z9, z10, z11, z12, z13, z14, z15, zf⟩ := HZ5.out
      have hz := stored_pv HZ5.out HBW5.out (Nat.le_refl _) zeroP
      simp only [setPv, zeroP, nilV] at hz
      have HZZ := hidden hz
      clear hz
      go_wp2
      exact ret_pv (g := w.heap.size) rfl rfl rfl rfl HZZ.out.1 ⟨_, rfl, HZZ.out.2, fun h => absurd h hE0⟩
    rw [if_neg hE0] at hE
    have hEe : E1 = 0 := by omega
    subst hEe
    have hcase : (S1 = 0 ∧ T = 0 ∧ P0 = 1) ∨ (S1 = 4 ∧ (P0 = 2 ∨ P0 = 3)) := deleteE_ok P0 S1 T hE1
    obtain ⟨Z, rfl⟩ := Int.eq_ofNat_of_zero_le (show 0 ≤ S1 by omega)
    obtain ⟨M, rfl⟩ := Int.eq_ofNat_of_zero_le (show 0 ≤ T by omega)
    have hcs : (Z = 0 ∧ M = 0) ∨ Z = 4 := by omega
    have hw : IntKind.i64.wrap ((Z : Int) * (M : Int)) = ((Z * M : Nat) : Int) := by
      rw [IntKind.wrap_i64]
      rcases hcs with ⟨rfl, rfl⟩ | rfl <;> simp <;> omega
    clear hE1 hcase hE0
    have hbm : (n : Int) - 4 = ((n - 4 : Nat) : Int) := by omega
    by_cases hlm : n - 4 = Z * M
    rotate_left
    · have hne : (((n - 4 : Nat) : Int) != ((Z * M : Nat) : Int)) = true := by simp; omega
      rw [if_pos (by rw [hbm, ← Int.natCast_mul]; omega)] at hE
      subst hE
      obtain ⟨z0, z1, z2, z3, z4, z5, z6, z7, z8, z9, z10, z11, z12, z13, z14, z15, zf⟩ := HZ5.out
      have hz := stored_pv HZ5.out HBW5.out (Nat.le_refl _) zeroP
      simp only [setPv, zeroP, nilV] at hz
      have HZZ := hidden hz
      clear hz
      go_wp2
      exact ret_pv (g := w.heap.size) rfl rfl rfl rfl HZZ.out.1 ⟨_, rfl, HZZ.out.2, fun h => by cases h⟩
    have hne : (((n - 4 : Nat) : Int) != ((Z * M : Nat) : Int)) = false := by simp; omega
    have hne2 : (((n - 4 : Nat) : Int) != (Z : Int) * (M : Int)) = false := by rw [← Int.natCast_mul]; exact hne
    rw [if_neg (by rw [hbm, ← Int.natCast_mul]; omega)] at hE
    have HLM := Is.mk hlm
    clear HZ5 HBW5 hlm
    go_wp2_with fail
    have hys := HF2.out.byt
    have HY := hidden (fun W (hW : Below w3.heap.size w3 W) => hys.below hW)
    have hgw : w.heap.size + 1 ≤ w3.heap.size := by omega
    have HSP0 : spisL (xs.drop 4) Z 0 = [] := rfl
    go_loopw [48] (fun v wr => ∃ (j : Nat) (l : List Sb) (s : Value), j ≤ M ∧ v = .int .i64 j ∧ l.length = j ∧ DlIn wr g P0 s ∧ RowG KSb NSb wr (g + 1) s l ∧ l.map Sb.xs = spisL (xs.drop 4) Z j ∧ Below w3.heap.size w3 wr) (fun v _ => M - (intOf v).toNat)
    case atStart => exact ⟨0, [], _, by omega, rfl, rfl, HNC.out, RowG.nil _ _ _ _, rfl, HBC.out⟩
    case round =>
      obtain ⟨j, l, s, hj, rfl, hl, hdl, hrow, hxs, hb⟩ := hrel
      have HDL := hidden hdl
      have HRW := hidden hrow
      have HB := hidden hb
      have HLJ := Is.mk hl
      have HXS := Is.mk hxs
      have hgs := hdl.lt
      clear hdl hrow hb hl hxs
      by_cases hlt : j < M
      · have hlt' : (j : Int) < M := by omega
        have hZ4 : Z = 4 := by
          rcases hcs with ⟨_, h0⟩ | h4
          · omega
          · exact h4
        obtain ⟨Y, hY⟩ : ∃ Y, ((xs.drop 4).drop (j * Z)).take Z = Y := ⟨_, rfl⟩
        have HSL := hidden (fun (a k : Int) (ha : a = (j : Int) * (Z : Int)) (hk : k = (Z : Int)) => show Calls Tryz.prog 75 #[.slice q2 (n - 4) d2, .int .i64 a, .int .i64 k] wr (BodOk wr (Y, true)) by
          have hlm := HLM.eq
          rw [hZ4] at ha hk hlm
          have hpe : pieceR (xs.drop 4) a k = (((xs.drop 4).drop (j * Z)).take Z, true) := by
            unfold pieceR
            rw [hZ4, if_pos (by rw [HL4.eq]; omega), hk, show a.toNat = j * 4 by omega]
            rfl
          have := slice_bod q2 (n - 4) d2 (xs.drop 4) wr (HY.out wr HB.out) (by omega) a k (by omega) (by omega)
          rw [hpe, hY] at this
          exact this)
        have hsucc : spisL (xs.drop 4) Z (j + 1) = spisL (xs.drop 4) Z j ++ [((xs.drop 4).drop (j * Z)).take Z] := by simp [spisL, List.range_succ]
        rw [hY] at hsucc
        have HSU := Is.mk hsucc
        have hwj : IntKind.i64.wrap ((j : Int) * (Z : Int)) = (j : Int) * (Z : Int) := by
          rw [IntKind.wrap_i64, hZ4]
          omega
        have HZ44 := Is.mk hZ4
        clear hZ4
        clear hY hsucc
        go_wp2_with (first
          | (go_at_call 75; go_loud ((with_reducible refine (HSL.out _ _ ?_ ?_).mono ?_); (first | rfl | omega | (push_cast; omega)); (first | rfl | omega); rintro e w6 ⟨p6, n6, c6, rfl, hbod, hb6⟩; have HB6 := hidden (HB.out.trans (hb6.mono HB.out.size)); have HO6 := hidden (hbod.mono (show g + 1 ≤ wr.heap.size from hgs)); have HR6 := hidden (HRW.out.below hb6); have HD6 := hidden (HDL.out.below hb6); have hs6 : g + 1 ≤ w6.heap.size := (by have := hb6.size; omega); obtain ⟨e0, e1, ef⟩ := HD6.out; clear hbod hb6))
          | (at_builtin; go_loud (refine wpList_append_g knownSb (by simp [NSb, KSb]) _ rfl _ _ rfl (g + 1) _ l rfl (HR6.out.alloc _) _ 1 1 [⟨p6, n6, c6, Y⟩] rfl (srcSb w6 ⟨p6, n6, c6, Y⟩ _) (fun x hx => by rw [List.mem_singleton.1 hx]; exact HO6.out.alloc _) ?b1 ?b2 ?b3 ?_))
          | fail)
        case b1 => rw [HLJ.eq]; unfold maxLen; omega
        case b2 => rw [HLJ.eq]; omega
        case b3 => simp; omega
        intro v7 w7 hr7 hg7
        obtain ⟨p7, c7, rfl⟩ := hr7.form (n := j + 1) (by simp [HLJ.eq])
        have hown : ∀ k, s.ownBlock = some k → g + 1 ≤ k := fun k hk => (HR6.out.lt k hk).1
        have HB7 := hidden ((HB6.out.alloc HB6.out.size _).grown hg7 (by have := HB6.out.size; simp; omega) (fun k hk => by have := hown k hk; omega))
        have HD7 := hidden ((HD6.out.below ((Below.refl _ _).alloc (Nat.le_refl _) _)).grown hg7 (by intro e; have := hown g e.symm; omega))
        have HR8 := hidden (hr7.low (grown_set w7 g 1 (.slice p7 (j + 1) c7)) (Nat.lt_succ_self g))
        have HD8 := hidden (HD7.out.setV (.slice p7 (j + 1) c7))
        have HB8 := hidden (HB7.out.setCell (p := ⟨g, 1, none⟩) hg3 (.slice p7 (j + 1) c7))
        obtain ⟨f0', f1', ff'⟩ := HD7.out
        clear hr7 hg7 HR6 HO6 HB6 HSL HRW HB e0 e1 ef hown
        go_wp2
        go_roundw
        case rel => exact ⟨j + 1, l ++ [⟨p6, n6, c6, Y⟩], .slice p7 (j + 1) c7, by omega, by go_num, by simp [HLJ.eq], HD8.out, HR8.out, by rw [List.map_append, HSU.eq, HXS.eq]; rfl, HB8.out⟩
        case measure => simp [intOf]; omega
      · have hlt' : ¬ (j : Int) < M := by omega
        obtain rfl : j = M := by omega
        obtain ⟨ps, cs, rfl, hrd⟩ := HRW.out.sbs HLJ.eq
        have hse : spisE P0 l = E := by
          rw [spisE_xs, HXS.eq]
          simpa using hE
        have HCS := hidden (fun W (hW : Below wr.heap.size wr W) => checkSpis_any P0 ps j cs l W (hrd.below hW))
        rw [hse] at HCS
        have hdl := HDL.out
        have HK := hidden (fun wx (hb : Below wr.heap.size wr wx) => (⟨cell_below hb _ _ hdl.c0, cell_below hb _ _ hdl.c1⟩ : wx.cell? ⟨g, 0, none⟩ = some (.int .i64 P0) ∧ wx.cell? ⟨g, 1, none⟩ = some (.slice ps j cs)))
        have HZ4 := hidden (HZ2.out.below HB.out)
        have HB4 := hidden (HB2.out.trans (HB.out.mono HB2.out.size))
        have HBD := hidden (show Below wr.heap.size wr wr.drew from drew_below ⟨1, rfl⟩)
        have HZD := hidden (HZ4.out.below (w' := wr.drew) HBD.out)
        obtain ⟨d0', d1'⟩ := HK.out _ HBD.out
        have HKG := hidden (show w.heap.size < g + 1 from by omega)
        obtain ⟨y0, y1, y2, y3, y4, y5, y6, y7, y8, y9, y10, y11, y12, y13, y14, y15, z0, z1, z2, z3, z4, z5, z6, z7, z8, z9, z10, z11, z12, z13, z14, z15, zf⟩ := HZD.out.any
        have hnw : ¬ g = w.heap.size := by omega
        clear hrd hse hdl hE
        go_upto_region 17 with fail
        go_region_with
          (first
          | (go_at_call 77; (with_reducible refine (HCS.out _ HBD.out).mono ?_); rintro e w5 ⟨rfl, hbc⟩; have hB := HBD.out.trans hbc; have HB5 := hidden (HB4.out.trans (hB.mono HB4.out.size)); have HZ5 := hidden (HZ4.out.below hB); have HF5 := hidden (HRW.out.below hB); obtain ⟨d0', d1'⟩ := HK.out _ hB; clear z0 z1 z2 z3 z4 z5 z6 z7 z8 z9 z10 z11 z12 z13 z14 z15 zf y0 y1 y2 y3 y4 y5 y6 y7 y8 y9 y10 y11 y12 y13 y14 y15; obtain ⟨y0, y1, y2, y3, y4, y5, y6, y7, y8, y9, y10, y11, y12, y13, y14, y15, z0, z1, z2, z3, z4, z5, z6, z7, z8, z9, z10, z11, z12, z13, z14, z15, zf⟩ := HZ5.out.any; clear hB)
          | fail)
        all_goals
          have hz := stored_pv HZ5.out HB5.out (Nat.le_refl _) ⟨0, nilV, 0, nilV, 0, nilV, 0, nilV, 0, nilV, 0, nilV, P0, ⟨ps, j, cs⟩, nilV, nilV⟩
          have hfl := (HF5.out.low (setPv_grown w5 w.heap.size ⟨0, nilV, 0, nilV, 0, nilV, 0, nilV, 0, nilV, 0, nilV, P0, ⟨ps, j, cs⟩, nilV, nilV⟩) HKG.out).mono (Nat.le_of_lt HKG.out)
          simp only [setPv, nilV] at hz hfl
          have HZZ := hidden hz
          have HFF := hidden hfl
          clear hz hfl hbc
          go_wp2
          exact ret_pv (g := w.heap.size) rfl rfl rfl rfl HZZ.out.1 ⟨_, rfl, HZZ.out.2, fun _ => ⟨HP0.eq.symm, l, HFF.out, by rw [HS1.eq, HT1.eq]; simpa using HXS.eq⟩⟩
end Go.Proofs.YtbpmanbpmlkmnaaGreatDoor

namespace Go.Proofs.YtbpmanbpmlkmnaaGreatDoor
open Go.RowKit
set_option linter.unusedVariables false

theorem one_len {xs : List Int} {s : Sl} {k : Nat} (h : oneS xs = some (s, k)) : k ≤ xs.length ∧ (k = 16 ∨ k = 40) := by
  unfold oneS at h
  split at h
  · cases h
  split at h
  · rename_i h1
    obtain ⟨-, rfl⟩ := Prod.mk.inj (Option.some.inj h)
    exact ⟨h1.2.2, Or.inl rfl⟩
  split at h
  · rename_i h1
    obtain ⟨-, rfl⟩ := Prod.mk.inj (Option.some.inj h)
    exact ⟨h1.2.2, Or.inr rfl⟩
  · cases h
theorem nAt_bd (xs : List Int) (hr : ∀ x ∈ xs, 0 ≤ x ∧ x ≤ 255) (a k : Nat) (hk : k ≤ 8) : 0 ≤ nAt xs a k ∧ nAt xs a k ≤ 18446744073709551615 := by
  have hb := val_bd ((xs.drop a).take k) (rng_take (rng_drop hr _) _)
  have hl : ((xs.drop a).take k).length ≤ 8 := by simp; omega
  have h8 := pow256_le hl
  have e : (256 : Int) ^ 8 = 18446744073709551616 := by decide
  rw [e] at h8
  unfold nAt
  omega
theorem nAt_two (xs : List Int) (hr : ∀ x ∈ xs, 0 ≤ x ∧ x ≤ 255) (a k : Nat) (hk : k ≤ 2) : nAt xs a k ≤ 65535 := by
  have hb := val_bd ((xs.drop a).take k) (rng_take (rng_drop hr _) _)
  have hl : ((xs.drop a).take k).length ≤ 2 := by simp; omega
  have h8 := pow256_le hl
  have e : (256 : Int) ^ 2 = 65536 := by decide
  rw [e] at h8
  unfold nAt
  omega
theorem one_fit {xs : List Int} (hr : ∀ x ∈ xs, 0 ≤ x ∧ x ≤ 255) {s : Sl} {k : Nat} (h : oneS xs = some (s, k)) : FitS s := by
  have h0 := rng_getD hr 1
  have b := nAt_bd xs hr
  have t := nAt_two xs hr
  unfold oneS at h
  split at h
  · cases h
  split at h
  · obtain ⟨rfl, -⟩ := Prod.mk.inj (Option.some.inj h)
    have b1 := b 4 2 (by omega)
    have b2 := b 6 2 (by omega)
    have t1 := t 4 2 (by omega)
    have t2 := t 6 2 (by omega)
    exact ⟨by simp only; omega, by simp only; omega, by simp only; omega, ⟨by simp, by simp, b 8 4 (by omega)⟩, ⟨by simp, by simp, b 12 4 (by omega)⟩⟩
  split at h
  · obtain ⟨rfl, -⟩ := Prod.mk.inj (Option.some.inj h)
    have b1 := b 4 2 (by omega)
    have b2 := b 6 2 (by omega)
    have t1 := t 4 2 (by omega)
    have t2 := t 6 2 (by omega)
    exact ⟨by simp only; omega, by simp only; omega, by simp only; omega, ⟨by simp, b 8 8 (by omega), b 16 8 (by omega)⟩, ⟨by simp, b 24 8 (by omega), b 32 8 (by omega)⟩⟩
  · cases h

/-- What read returns. -/
def ReadL (w : World) (r : Option (List Sl)) (e : Ending) (w' : World) : Prop := Below w.heap.size w w' ∧ match r with
  | none => ∃ v, e = .returned (.tuple #[v, .bool false])
  | some l => ∃ v, e = .returned (.tuple #[v, .bool true]) ∧ RowG KSl NSl w' w.heap.size v l

set_option maxHeartbeats 1600000 in
set_option maxRecDepth 100000 in
theorem sread_any (p : Option Addr) (n c : Nat) (xs : List Int) (w : World) (h : Byt w p n c xs) (N : Nat) (hN : N ≤ 255) (r : Option (List Sl)) (hr : manyS N xs = r) :
    Calls Tryz.prog 98 #[.slice p n c, .int .i64 N] w (ReadL w r) := by
  have HX := hidden h
  have HR := hidden hr
  clear h hr
  go_enter Tryz.func98, Tryz.ntmps98
  go_wp2
  go_loopw [0, 6, 11] (fun b v i wr => ∃ (j : Nat) (l : List Sl) (p' : Option Addr) (n' c' : Nat) (ys : List Int), i = .int .i64 j ∧ j ≤ N ∧ l.length = j ∧ b = .slice p' n' c' ∧ Byt w p' n' c' ys ∧ (manyS (N - j) ys).map (l ++ ·) = r ∧ RowG KSl NSl wr w.heap.size v l ∧ Below w.heap.size w wr) (fun _ _ i _ => N - (intOf i).toNat)
  case atStart => exact ⟨0, [], p, n, c, xs, rfl, by omega, rfl, rfl, HX.out, by rw [← HR.out]; simp, RowG.nil _ _ _ _, Below.refl _ _⟩
  case round =>
    obtain ⟨j, l, p', n', c', ys, rfl, hj, hlj, rfl, hby, hm, hrow, hb⟩ := hrel
    obtain ⟨po, co, rfl⟩ := hrow.form rfl
    have HLJ := hidden hlj
    have hl255 : l.length ≤ 255 := by omega
    clear hlj
    have HY := hidden hby
    have HRW := hidden hrow
    have HB := hidden hb
    have hn' := hby.le
    have hlen := hidden hby.len
    clear HX HR hrow
    by_cases hlt : j < N
    · have hlt' : (j : Int) < N := by omega
      rw [show N - j = (N - (j + 1)) + 1 by omega] at hm
      obtain ⟨o, ho⟩ : ∃ o, oneS ys = o := ⟨_, rfl⟩
      have HO := hidden (fun w (h : Byt w p' n' c' ys) => readOne_any p' n' c' ys w h o ho)
      have HYW := hidden (hby.below hb)
      unfold manyS at hm
      rw [ho] at hm
      cases o with
      | none =>
        have HM := hidden hm
        clear hm ho hby hb
        go_wp2_with (first
          | (go_at_call 112; (with_reducible refine (HO.out _ HYW.out).mono ?_); rintro e w1 ⟨hb1, rfl⟩; have HB1 := hidden (HB.out.trans (hb1.mono HB.out.size)); clear hb1)
          | fail)
        go_ret2
        have hM := HM.out
        simp only [Option.map_none] at hM
        subst hM
        exact ⟨HB1.out.alloc HB1.out.size _, _, rfl⟩
      | some sk =>
        obtain ⟨s, k'⟩ := sk
        simp only at hm
        obtain ⟨hk1, hk2⟩ := one_len ho
        rw [hby.len] at hk1
        have hfit := one_fit hby.rng ho
        obtain ⟨bb, oo, rfl, -⟩ := hby.at_ (by omega)
        have hpart := hby.part k' n' hk1 (Nat.le_refl _)
        rw [List.take_of_length_le (by rw [hby.len]; omega)] at hpart
        have hcap := hby.cap
        have HF := hidden hfit
        have HM := hidden hm
        have HPA := hidden hpart
        clear hm ho hby hb hfit hpart hk2
        have hcc : (c' = k' ∧ n' = k') ∨ c' ≠ k' := by omega
        rcases hcc with ⟨rfl, rfl⟩ | hcc
        all_goals
          first | (rw [if_pos rfl, Nat.sub_self] at HPA) | (rw [if_neg hcc, Option.map_some, WideShapes.add_plain] at HPA; replace HPA : Hid (Byt w (some ⟨bb, oo + k', none⟩) (n' - k') (c' - k') (List.drop k' ys)) := HPA)
          go_wp2_with (first
            | (go_at_call 112; (with_reducible refine (HO.out _ HYW.out).mono ?_); rintro e w1 ⟨hb1, rfl⟩; have HB1 := hidden ((HB.out.trans (hb1.mono HB.out.size)).alloc (HB.out.trans (hb1.mono HB.out.size)).size (.cells #[.int .i64 s.p, .int .i64 s.a, .int .i64 s.b, .int .i64 s.lo.f, .int .u64 s.lo.h, .int .u64 s.lo.l, .int .i64 s.hi.f, .int .u64 s.hi.h, .int .u64 s.hi.l] 98)); have HR1 := hidden (((HRW.out.below hb1).alloc (.cells #[.int .i64 s.p, .int .i64 s.a, .int .i64 s.b, .int .i64 s.lo.f, .int .u64 s.lo.h, .int .u64 s.lo.l, .int .i64 s.hi.f, .int .u64 s.hi.h, .int .u64 s.hi.l] 98)).alloc (.cells #[.int .i64 s.p, .int .i64 s.a, .int .i64 s.b, .int .i64 s.lo.f, .int .u64 s.lo.h, .int .u64 s.lo.l, .int .i64 s.hi.f, .int .u64 s.hi.h, .int .u64 s.hi.l] 98)); have HSR : Hid (SrcG KSl ((w1.alloc (.cells #[.int .i64 s.p, .int .i64 s.a, .int .i64 s.b, .int .i64 s.lo.f, .int .u64 s.lo.h, .int .u64 s.lo.l, .int .i64 s.hi.f, .int .u64 s.hi.h, .int .u64 s.hi.l] 98)).alloc (.cells #[.int .i64 s.p, .int .i64 s.a, .int .i64 s.b, .int .i64 s.lo.f, .int .u64 s.lo.h, .int .u64 s.lo.l, .int .i64 s.hi.f, .int .u64 s.hi.h, .int .u64 s.hi.l] 98)) (some ⟨w1.heap.size + 1, 0, none⟩) 1 [s]) := hidden (by have := srcSl (w1.alloc (.cells #[.int .i64 s.p, .int .i64 s.a, .int .i64 s.b, .int .i64 s.lo.f, .int .u64 s.lo.h, .int .u64 s.lo.l, .int .i64 s.hi.f, .int .u64 s.hi.h, .int .u64 s.hi.l] 98)) s 98; simpa using this); clear hb1)
            | (at_builtin; go_loud (refine wpList_append_g knownSl (by simp [NSl]) _ rfl _ _ rfl w.heap.size _ l rfl HR1.out _ 1 1 [s] rfl HSR.out (fun x hx => by rw [List.mem_singleton.1 hx]; exact HF.out) (by unfold maxLen; omega) (by omega) (by have := HB1.out.size; simp at this ⊢; omega) ?_))
            | fail)
          intro v' w4 hr4 hg4
          have HB4 := hidden ((HB1.out.alloc HB1.out.size (.cells #[.int .i64 s.p, .int .i64 s.a, .int .i64 s.b, .int .i64 s.lo.f, .int .u64 s.lo.h, .int .u64 s.lo.l, .int .i64 s.hi.f, .int .u64 s.hi.h, .int .u64 s.hi.l] 98)).grown hg4 (by have := HB1.out.size; simp at this ⊢; omega) (fun j hj => (HR1.out.lt j hj).1))
          have HR4 := hidden hr4
          clear hr4 hg4 HR1 HB1
          go_wp2
          go_roundw
          case rel => exact ⟨j + 1, l ++ [s], _, _, _, _, by go_num, by omega, by have := HLJ.out; simp; omega, rfl, HPA.out, by have hM := HM.out; rw [Option.map_map] at hM; rw [← hM]; congr 1; funext x; simp, HR4.out, HB4.out⟩
          case measure => simp [intOf]; omega
    · obtain rfl : j = N := by omega
      rw [Nat.sub_self] at hm
      unfold manyS at hm
      rw [hby.len] at hm
      by_cases h0 : n' = 0
      · subst h0
        simp at hm
        subst hm
        clear hby hb
        go_wp2
        go_ret2
        exact ⟨HB.out, _, rfl, HRW.out⟩
      · have h0' : ((n' : Int) == 0) = false := by simp; omega
        rw [if_neg h0] at hm
        simp only [Option.map_none] at hm
        subst hm
        clear hby hb
        go_wp2
        go_ret2
        exact ⟨HB.out, _, rfl⟩

/-- What Parse returns. -/
def ParsedS (w : World) (r : List Sl × Int) (e : Ending) (w' : World) : Prop := ∃ v, e = .returned (.tuple #[v, .int .i64 r.2]) ∧ RowG KSl NSl w' w.heap.size v r.1 ∧ Below w.heap.size w w'
theorem parsed_none (w w' : World) (E : Int) (r : List Sl × Int) (h : ([], E) = r) (hb : Below w.heap.size w w') : ParsedS w r (.returned (.tuple #[.slice none 0 0, .int .i64 E])) w' := by
  subst h
  exact ⟨_, rfl, RowG.nil _ _ _ _, hb⟩

set_option maxHeartbeats 1600000 in
set_option maxRecDepth 100000 in
theorem sparse_any (p : Option Addr) (n c : Nat) (xs : List Int) (w : World) (h : Byt w p n c xs) (r : List Sl × Int) (hr : parseS xs = r) :
    Calls Tryz.prog 78 #[.slice p n c] w (ParsedS w r) := by
  have hn := h.le
  unfold parseS at hr
  rw [h.len] at hr
  by_cases h4 : n < 4
  · rw [if_pos h4] at hr
    have HR := hidden hr
    clear h hr
    go_enter Tryz.func78, Tryz.ntmps78
    go_wp2
    go_ret2
    exact parsed_none _ _ _ _ HR.out (Below.refl _ _)
  rw [if_neg h4] at hr
  obtain ⟨bb, oo, rfl, hcell⟩ := h.at_ (by omega)
  have c0 := hcell 0 (by omega)
  have x0 := rng_getD h.rng 0
  obtain ⟨N, hN⟩ := Int.eq_ofNat_of_zero_le x0.1
  rw [hN] at hr c0 x0
  rw [Nat.add_zero] at c0
  have hcap := h.cap
  by_cases h0 : (N : Int) = 0
  · rw [if_pos h0] at hr
    have HR := hidden hr
    have hN0 : N = 0 := by omega
    subst hN0
    clear h hr hcell hN h0
    go_enter Tryz.func78, Tryz.ntmps78
    go_wp2_with (first
      | (go_at_call 90; (refine (count_any _ _).mono ?_); rintro e w' ⟨rfl, rfl⟩; rw [show cntE 0 = 8 from rfl])
      | fail)
    go_ret2
    exact parsed_none _ _ _ _ HR.out (Below.refl _ _)
  rw [if_neg h0] at hr
  by_cases h16 : (N : Int) > 16
  · rw [if_pos h16] at hr
    have hc10 : cntE N = 10 := by unfold cntE; rw [if_neg (by omega), if_pos (by omega)]
    have HR := hidden hr
    clear h hr hcell hN h0
    go_enter Tryz.func78, Tryz.ntmps78
    go_wp2_with (first
      | (go_at_call 90; (with_reducible refine (count_any _ _).mono ?_); rintro e w' ⟨rfl, rfl⟩; rw [hc10])
      | fail)
    go_ret2
    exact parsed_none _ _ _ _ HR.out (Below.refl _ _)
  rw [if_neg h16] at hr
  have hc0 : cntE N = 0 := by unfold cntE; rw [if_neg (by omega), if_neg (by omega)]
  have hpart := h.part 4 n (by omega) (Nat.le_refl _)
  rw [List.take_of_length_le (by rw [h.len]; omega)] at hpart
  obtain ⟨o, ho⟩ : ∃ o, manyS N (xs.drop 4) = o := ⟨_, rfl⟩
  rw [Int.toNat_natCast, ho] at hr
  have HR := hidden hr
  have HRD := hidden (fun q m d (h : Byt w q m d (xs.drop 4)) => sread_any q m d _ w h N (by omega) o ho)
  have HP := hidden hpart
  clear h hr hcell hN ho hpart
  have hcc : (c = 4 ∧ n = 4) ∨ c ≠ 4 := by omega
  rcases hcc with ⟨rfl, rfl⟩ | hcc
  all_goals
    first | (rw [if_pos rfl, Nat.sub_self] at HP) | (rw [if_neg hcc, Option.map_some, WideShapes.add_plain] at HP)
    cases o with
    | none =>
      go_enter Tryz.func78, Tryz.ntmps78
      go_wp2_with (first
        | (go_at_call 90; (with_reducible refine (count_any _ _).mono ?_); rintro e w' ⟨rfl, rfl⟩; rw [hc0])
        | (go_at_call 98; (with_reducible refine (HRD.out _ _ _ HP.out).mono ?_); rintro e w1 ⟨hb, v, rfl⟩; have HB1 := hidden hb; clear hb)
        | fail)
      go_ret2
      exact parsed_none _ _ _ _ HR.out HB1.out
    | some l =>
      obtain ⟨z, hz⟩ : ∃ z, errL l = z := ⟨_, rfl⟩
      have hr := HR.out
      simp only at hr
      rw [hz] at hr
      by_cases hz0 : z = 0
      · subst hz0
        rw [if_neg (by simp)] at hr
        have HR2 := hidden hr
        clear hr HR
        go_enter Tryz.func78, Tryz.ntmps78
        go_wp2_with (first
          | (go_at_call 90; (with_reducible refine (count_any _ _).mono ?_); rintro e w' ⟨rfl, rfl⟩; rw [hc0])
          | (go_at_call 98; (with_reducible refine (HRD.out _ _ _ HP.out).mono ?_); rintro e w1 ⟨hb, v, rfl, hrow⟩; have HB1 := hidden hb; have HRW := hidden hrow; obtain ⟨q, d, rfl, hrd⟩ := hrow.rd (D := DSlr) rfl (fun _ h => h); have HC := hidden (each_any q _ d l w1 hrd 0 hz); clear hb hrow hrd)
          | (go_at_call 91; (with_reducible refine (HC.out).mono ?_); rintro e w2 ⟨rfl, hb2⟩; have HRW2 := hidden (HRW.out.below hb2); have HB2 := hidden (HB1.out.trans (hb2.mono HB1.out.size)); clear hb2)
          | fail)
        go_ret2
        rw [← HR2.out]
        exact ⟨_, rfl, HRW2.out, HB2.out⟩
      · rw [if_pos hz0] at hr
        have hz' : (z != 0) = true := by simpa using hz0
        have HR2 := hidden hr
        clear hr HR hz0
        go_enter Tryz.func78, Tryz.ntmps78
        go_wp2_with (first
          | (go_at_call 90; (with_reducible refine (count_any _ _).mono ?_); rintro e w' ⟨rfl, rfl⟩; rw [hc0])
          | (go_at_call 98; (with_reducible refine (HRD.out _ _ _ HP.out).mono ?_); rintro e w1 ⟨hb, v, rfl, hrow⟩; have HB1 := hidden hb; obtain ⟨q, d, rfl, hrd⟩ := hrow.rd (D := DSlr) rfl (fun _ h => h); have HC := hidden (each_any q _ d l w1 hrd z hz); clear hb hrow hrd)
          | (go_at_call 91; (with_reducible refine (HC.out).mono ?_); rintro e w2 ⟨rfl, hb2⟩; have HB2 := hidden (HB1.out.trans (hb2.mono HB1.out.size)); clear hb2)
          | fail)
        go_ret2
        exact parsed_none _ _ _ _ HR2.out HB2.out
end Go.Proofs.YtbpmanbpmlkmnaaGreatDoor

namespace Go.Proofs.YtbpmanbpmlkmnaaGreatDoor
open Go.RowKit
set_option linter.unusedVariables false

set_option maxHeartbeats 800000 in
set_option maxRecDepth 100000 in
theorem selectors_read (p : Option Addr) (n c : Nat) (xs : List Int) (w : World) (h : Byt w p n c xs) (r : List Sl × Int) (hr : parseS xs = r) :
    Calls Tryz.prog 48 #[.slice p n c] w (ReadPv w r.2 fun w' x => RowG KSl NSl w' w.heap.size (.slice x.se.p x.se.n x.se.c) r.1 ∧ r.1.length = x.se.n) := by
  have HB := hidden ((Below.refl w.heap.size w).alloc (Nat.le_refl _) (.cells #[.int .i64 0, .slice none 0 0, .int .i64 0, .slice none 0 0, .int .i64 0, .slice none 0 0, .int .i64 0, .slice none 0 0, .int .i64 0, .slice none 0 0, .int .i64 0, .slice none 0 0, .int .i64 0, .slice none 0 0, .slice none 0 0, .slice none 0 0] 45))
  have HZ : Hid (PvIn (w.alloc (.cells #[.int .i64 0, .slice none 0 0, .int .i64 0, .slice none 0 0, .int .i64 0, .slice none 0 0, .int .i64 0, .slice none 0 0, .int .i64 0, .slice none 0 0, .int .i64 0, .slice none 0 0, .int .i64 0, .slice none 0 0, .slice none 0 0, .slice none 0 0] 45)) w.heap.size zeroP) := hidden (PvIn.new w zeroP 45)
  have HP := hidden (sparse_any p n c xs _ (h.alloc (.cells #[.int .i64 0, .slice none 0 0, .int .i64 0, .slice none 0 0, .int .i64 0, .slice none 0 0, .int .i64 0, .slice none 0 0, .int .i64 0, .slice none 0 0, .int .i64 0, .slice none 0 0, .int .i64 0, .slice none 0 0, .slice none 0 0, .slice none 0 0] 45)) r hr)
  clear h
  go_enter Tryz.func48, Tryz.ntmps48
  go_wp2_with (first
    | (go_at_call 78; (with_reducible refine (HP.out).mono ?_); rintro e w2 ⟨v2, rfl, hrow, hbc⟩; obtain ⟨q2, d2, rfl⟩ := hrow.form rfl; have HR2 := hidden hrow; have HB2 := hidden (HB.out.trans (hbc.mono HB.out.size)); have HZ2 := hidden (HZ.out.below hbc); obtain ⟨z0, z1, z2, z3, z4, z5, z6, z7, z8, z9, z10, z11, z12, z13, z14, z15, zf⟩ := HZ2.out; clear hrow hbc)
    | fail)
  have hlo := setPv_grown w2 w.heap.size ⟨0, nilV, 0, nilV, 0, nilV, 0, nilV, 0, nilV, 0, nilV, 0, nilV, ⟨q2, r.1.length, d2⟩, nilV⟩
  have hz := setPv_in HZ2.out ⟨0, nilV, 0, nilV, 0, nilV, 0, nilV, 0, nilV, 0, nilV, 0, nilV, ⟨q2, r.1.length, d2⟩, nilV⟩
  have hfl := (HR2.out.low hlo (by simp)).mono (show w.heap.size ≤ _ from HB.out.size)
  have HBS := hidden (HB2.out.grown hlo HB2.out.size (fun j hj => by cases hj; exact Nat.le_refl _))
  simp only [setPv, nilV] at hz hfl HBS
  have HZZ := hidden hz
  have HFF := hidden hfl
  clear hz hfl hlo
  refine ret_pv (g := w.heap.size) rfl rfl rfl rfl HZZ.out ?_
  exact ⟨_, rfl, HBS.out, fun _ => ⟨HFF.out, rfl⟩⟩
end Go.Proofs.YtbpmanbpmlkmnaaGreatDoor

namespace Go.Proofs.YtbpmanbpmlkmnaaGreatDoor
open Go.RowKit
set_option linter.unusedVariables false

set_option maxHeartbeats 800000 in
set_option maxRecDepth 100000 in
theorem proposals_read (p : Option Addr) (n c : Nat) (xs : List Int) (w : World) (h : Byt w p n c xs) (hn : n ≤ 1048576) (r : List Pr × Int) (hr : parseP xs = r) :
    Calls Tryz.prog 41 #[.slice p n c] w (ReadPv w r.2 fun w' x => ∃ ls : List PrP, ls.map PrP.pr = r.1 ∧ RowG KPr NPr w' w.heap.size (.slice x.pr.p x.pr.n x.pr.c) ls ∧ ls.length = x.pr.n) := by
  have HB := hidden ((Below.refl w.heap.size w).alloc (Nat.le_refl _) (.cells #[.int .i64 0, .slice none 0 0, .int .i64 0, .slice none 0 0, .int .i64 0, .slice none 0 0, .int .i64 0, .slice none 0 0, .int .i64 0, .slice none 0 0, .int .i64 0, .slice none 0 0, .int .i64 0, .slice none 0 0, .slice none 0 0, .slice none 0 0] 45))
  have HZ : Hid (PvIn (w.alloc (.cells #[.int .i64 0, .slice none 0 0, .int .i64 0, .slice none 0 0, .int .i64 0, .slice none 0 0, .int .i64 0, .slice none 0 0, .int .i64 0, .slice none 0 0, .int .i64 0, .slice none 0 0, .int .i64 0, .slice none 0 0, .slice none 0 0, .slice none 0 0] 45)) w.heap.size zeroP) := hidden (PvIn.new w zeroP 45)
  have HP := hidden (pparse_any p n c xs _ (h.alloc (.cells #[.int .i64 0, .slice none 0 0, .int .i64 0, .slice none 0 0, .int .i64 0, .slice none 0 0, .int .i64 0, .slice none 0 0, .int .i64 0, .slice none 0 0, .int .i64 0, .slice none 0 0, .int .i64 0, .slice none 0 0, .slice none 0 0, .slice none 0 0] 45)) hn r hr)
  clear h
  go_enter Tryz.func41, Tryz.ntmps41
  go_wp2_with (first
    | (go_at_call 69; (with_reducible refine (HP.out).mono ?_); rintro e w2 ⟨v2, ls, rfl, hls, hrow, hbc⟩; obtain ⟨q2, d2, rfl⟩ := hrow.form rfl; have HR2 := hidden hrow; have HB2 := hidden (HB.out.trans (hbc.mono HB.out.size)); have HLS := hidden hls; have HZ2 := hidden (HZ.out.below hbc); obtain ⟨z0, z1, z2, z3, z4, z5, z6, z7, z8, z9, z10, z11, z12, z13, z14, z15, zf⟩ := HZ2.out; clear hrow hbc hls)
    | fail)
  have hlo := setPv_grown w2 w.heap.size ⟨0, ⟨q2, ls.length, d2⟩, 0, nilV, 0, nilV, 0, nilV, 0, nilV, 0, nilV, 0, nilV, nilV, nilV⟩
  have hz := setPv_in HZ2.out ⟨0, ⟨q2, ls.length, d2⟩, 0, nilV, 0, nilV, 0, nilV, 0, nilV, 0, nilV, 0, nilV, nilV, nilV⟩
  have hfl := (HR2.out.low hlo (by simp)).mono (show w.heap.size ≤ _ from HB.out.size)
  have HBS := hidden (HB2.out.grown hlo HB2.out.size (fun j hj => by cases hj; exact Nat.le_refl _))
  simp only [setPv, nilV] at hz hfl HBS
  have HZZ := hidden hz
  have HFF := hidden hfl
  clear hz hfl hlo
  refine ret_pv (g := w.heap.size) rfl rfl rfl rfl HZZ.out ?_
  exact ⟨_, rfl, HBS.out, fun _ => ⟨ls, HLS.out, HFF.out, rfl⟩⟩
end Go.Proofs.YtbpmanbpmlkmnaaGreatDoor

namespace Go.Proofs.YtbpmanbpmlkmnaaGreatDoor
open Go.RowKit
set_option linter.unusedVariables false

theorem rsize_any (f : Int) (w : World) :
    Calls Tryz.prog 52 #[.int .i64 f] w fun e w' => e = .returned (.int .i64 (sizeA f)) ∧ w = w' := by
  by_cases h4 : f = 4
  · subst h4
    go_enter Tryz.func52, Tryz.ntmps52
    go_wp2
    go_ret
    exact ⟨rfl, rfl⟩
  · have h4' : (f == 4) = false := by simpa using h4
    obtain ⟨z, hz⟩ : ∃ z : Int, ((sizeA f : Nat) : Int) = z := ⟨_, rfl⟩
    have e : z = 16 := by rw [← hz]; unfold sizeA; rw [if_neg h4]; rfl
    rw [hz]
    subst e
    clear hz h4
    go_enter Tryz.func52, Tryz.ntmps52
    go_wp2
    go_ret
    exact ⟨rfl, rfl⟩

theorem rput_b (p : Option Addr) (n c : Nat) (xs : List Int) (w : World) (h : Byt w p n c xs) (hb : n ≤ 1048576) (v : Int) (hv : 0 ≤ v ∧ v ≤ 18446744073709551615) (k : Nat) (h1 : 1 ≤ k) (h8 : k ≤ 8) (K : Int) (hK : K = k) :
    Calls Tryz.prog 34 #[.slice p n c, .int .u64 v, .int .i64 K] w (GotB w (xs ++ be k v)) := by
  subst hK
  have hl : (xs ++ be k v).length = n + k := by rw [List.length_append, be_len, h.len]
  refine (rput_yes p n c xs w h (by omega) v hv k h1 h8).mono ?_
  rintro e w' ⟨u, rfl, hown, hbel⟩
  obtain ⟨q, d, rfl, hby⟩ := hown.bytN rfl hl (rng_append h.rng (be_rng _ _))
  exact ⟨q, _, d, rfl, hl, hown, hby, hbel⟩

set_option maxHeartbeats 800000 in
theorem rpad_any (p : Option Addr) (n c : Nat) (xs : List Int) (w : World) (h : Byt w p n c xs) (hb : n ≤ 1000000) (x : Ad) (fit : FitA x) :
    Calls Tryz.prog 67 #[.slice p n c, (.agg #[.int .i64 x.f, .int .u64 x.h, .int .u64 x.l])] w (GotB w (xs ++ encA x)) := by
  have HX := hidden h
  have hlen := hidden h.len
  have HA := hidden (AdIn.new w x 96)
  have HB := hidden ((Below.refl w.heap.size w).alloc (Nat.le_refl _) (.cells #[.int .i64 x.f, .int .u64 x.h, .int .u64 x.l] 96))
  have hh := fit.h
  have hl := fit.l
  clear h
  by_cases h4 : x.f = 4
  · have h4' : (x.f == 4) = true := by simpa using h4
    have HE := hidden (show encA x = be 4 x.l by unfold encA; rw [if_pos h4])
    clear h4
    go_enter Tryz.func67, Tryz.ntmps67
    go_wp2_with (first
      | (go_at_call 34; (with_reducible refine (rput_b p n c xs _ (HX.out.alloc _) (by omega) x.l hl 4 (by omega) (by omega) 4 rfl).mono ?_); rintro e w1 hgot; have HG := hidden (hgot.base HB.out); rw [← HE.out] at HG; obtain ⟨q, m, d, rfl, -⟩ := hgot)
      | fail)
    go_ret
    obtain ⟨q', m', d', he, k2⟩ := HG.out
    cases he
    exact ⟨_, _, _, rfl, k2⟩
  · have h4' : (x.f == 4) = false := by simpa using h4
    have HE := hidden (show encA x = be 8 x.h ++ be 8 x.l by unfold encA; rw [if_neg h4])
    clear h4
    go_enter Tryz.func67, Tryz.ntmps67
    go_upto_region 3 with fail
    generalize hw0 : w.alloc (.cells #[.int .i64 x.f, .int .u64 x.h, .int .u64 x.l] 96) = w0 at *
    have HX0 := hidden (HX.out.below (w' := w0.drew) (HB.out.trans (drew_below ⟨1, rfl⟩)))
    have HB0 := hidden (HB.out.trans (drew_below (B := w.heap.size) (w := w0) (w' := w0.drew) ⟨1, rfl⟩))
    have HA0 := hidden (HA.out.below (w' := w0.drew) (drew_below ⟨1, rfl⟩))
    obtain ⟨-, a1, a2, -⟩ := HA.out
    go_region_held3 (fun w' => w'.cell? ⟨w.heap.size, 1, none⟩ = some (.int .u64 x.h) ∧ w'.cell? ⟨w.heap.size, 2, none⟩ = some (.int .u64 x.l)) (first | exact ⟨HA0.out.c1, HA0.out.c2⟩ | exact ⟨(HA0.out.below hb1).c1, (HA0.out.below hb1).c2⟩ | exact ⟨((HA0.out.below hb1).below hb2).c1, ((HA0.out.below hb1).below hb2).c2⟩ | go_keep)
      (first
      | (go_at_call 34; (with_reducible refine (rput_b p n c xs _ HX0.out (by omega) x.h hh 8 (by omega) (by omega) 8 rfl).mono ?_); rintro e w1 ⟨q1, m1, d1, rfl, hm1, -, hy1, hb1⟩; obtain rfl : m1 = n + 8 := (by rw [← hm1, List.length_append, be_len, hlen.out]); have HY1 := hidden hy1; have HB1 := hidden (HB0.out.trans (hb1.mono HB0.out.size)))
      | (go_at_call 34; (with_reducible refine (rput_b q1 (n + 8) d1 _ _ HY1.out (by omega) x.l hl 8 (by omega) (by omega) 8 rfl).mono ?_); rintro e w2 hgot; have HG := hidden (hgot.base HB1.out); rw [List.append_assoc, ← HE.out] at HG; obtain ⟨q2, m2, d2, rfl, -, -, -, hb2⟩ := hgot)
      | fail)
    all_goals go_wp2_with fail
    all_goals go_ret
    all_goals
      obtain ⟨q', m', d', he, k2⟩ := HG.out
      cases he
      exact ⟨_, _, _, rfl, k2⟩
end Go.Proofs.YtbpmanbpmlkmnaaGreatDoor

namespace Go.Proofs.YtbpmanbpmlkmnaaGreatDoor
open Go.RowKit
set_option linter.unusedVariables false

theorem nAt_drop (xs : List Int) (a b k : Nat) : nAt (xs.drop a) b k = nAt xs (a + b) k := by
  unfold nAt
  rw [List.drop_drop]
theorem getD_drop5 (xs : List Int) (a b : Nat) : (xs.drop a).getD b 0 = xs.getD (a + b) 0 := by
  simp [List.getD_eq_getElem?_getD, List.getElem?_drop]
/-- The selector of step 16 or 40 at place a. -/
def slAt (xs : List Int) (a : Nat) (six : Bool) : Sl :=
  if six then ⟨xs.getD (a + 1) 0, nAt xs (a + 4) 2, nAt xs (a + 6) 2, ⟨6, nAt xs (a + 8) 8, nAt xs (a + 16) 8⟩, ⟨6, nAt xs (a + 24) 8, nAt xs (a + 32) 8⟩⟩
  else ⟨xs.getD (a + 1) 0, nAt xs (a + 4) 2, nAt xs (a + 6) 2, ⟨4, 0, nAt xs (a + 8) 4⟩, ⟨4, 0, nAt xs (a + 12) 4⟩⟩
theorem oneS_at (xs : List Int) (a : Nat) : oneS (xs.drop a) =
    if xs.length - a < 8 then none
    else if xs.getD a 0 = 7 ∧ nAt xs (a + 2) 2 = 16 ∧ 16 ≤ xs.length - a then some (slAt xs a false, 16)
    else if xs.getD a 0 = 8 ∧ nAt xs (a + 2) 2 = 40 ∧ 40 ≤ xs.length - a then some (slAt xs a true, 40)
    else none := by
  unfold oneS slAt
  simp only [List.length_drop, nAt_drop, getD_drop5, Nat.add_zero, if_true]
  rfl
/-- The cases of one round. -/
theorem oneS_cases (xs : List Int) (a : Nat) (ha : a ≤ xs.length) (o : Option (Sl × Nat)) (ho : oneS (xs.drop a) = o) :
    (xs.length < a + 8 ∧ o = none) ∨
    (a + 8 ≤ xs.length ∧ xs.getD a 0 ≠ 7 ∧ xs.getD a 0 ≠ 8 ∧ o = none) ∨
    (a + 8 ≤ xs.length ∧ xs.getD a 0 = 7 ∧ nAt xs (a + 2) 2 ≠ 16 ∧ o = none) ∨
    (a + 8 ≤ xs.length ∧ xs.getD a 0 = 7 ∧ nAt xs (a + 2) 2 = 16 ∧ xs.length < a + 16 ∧ o = none) ∨
    (xs.getD a 0 = 7 ∧ nAt xs (a + 2) 2 = 16 ∧ a + 16 ≤ xs.length ∧ o = some (slAt xs a false, 16)) ∨
    (a + 8 ≤ xs.length ∧ xs.getD a 0 = 8 ∧ nAt xs (a + 2) 2 ≠ 40 ∧ o = none) ∨
    (a + 8 ≤ xs.length ∧ xs.getD a 0 = 8 ∧ nAt xs (a + 2) 2 = 40 ∧ xs.length < a + 40 ∧ o = none) ∨
    (xs.getD a 0 = 8 ∧ nAt xs (a + 2) 2 = 40 ∧ a + 40 ≤ xs.length ∧ o = some (slAt xs a true, 40)) := by
  rw [oneS_at] at ho
  by_cases h8 : xs.length - a < 8
  · rw [if_pos h8] at ho
    exact Or.inl ⟨by omega, ho.symm⟩
  rw [if_neg h8] at ho
  by_cases h7 : xs.getD a 0 = 7
  · have hn8 : ¬ xs.getD a 0 = 8 := by omega
    by_cases h2 : nAt xs (a + 2) 2 = 16
    · by_cases h3 : 16 ≤ xs.length - a
      · rw [if_pos ⟨h7, h2, h3⟩] at ho
        exact Or.inr (Or.inr (Or.inr (Or.inr (Or.inl ⟨h7, h2, by omega, ho.symm⟩))))
      · rw [if_neg (fun e => h3 e.2.2), if_neg (fun e => hn8 e.1)] at ho
        exact Or.inr (Or.inr (Or.inr (Or.inl ⟨by omega, h7, h2, by omega, ho.symm⟩)))
    · rw [if_neg (fun e => h2 e.2.1), if_neg (fun e => hn8 e.1)] at ho
      exact Or.inr (Or.inr (Or.inl ⟨by omega, h7, h2, ho.symm⟩))
  rw [if_neg (fun e => h7 e.1)] at ho
  by_cases h9 : xs.getD a 0 = 8
  · by_cases h2 : nAt xs (a + 2) 2 = 40
    · by_cases h3 : 40 ≤ xs.length - a
      · rw [if_pos ⟨h9, h2, h3⟩] at ho
        exact Or.inr (Or.inr (Or.inr (Or.inr (Or.inr (Or.inr (Or.inr ⟨h9, h2, by omega, ho.symm⟩))))))
      · rw [if_neg (fun e => h3 e.2.2)] at ho
        exact Or.inr (Or.inr (Or.inr (Or.inr (Or.inr (Or.inr (Or.inl ⟨by omega, h9, h2, by omega, ho.symm⟩))))))
    · rw [if_neg (fun e => h2 e.2.1)] at ho
      exact Or.inr (Or.inr (Or.inr (Or.inr (Or.inr (Or.inl ⟨by omega, h9, h2, ho.symm⟩)))))
  rw [if_neg (fun e => h9 e.1)] at ho
  exact Or.inr (Or.inl ⟨by omega, h7, h9, ho.symm⟩)
end Go.Proofs.YtbpmanbpmlkmnaaGreatDoor

namespace Go.Proofs.YtbpmanbpmlkmnaaGreatDoor
open Go.RowKit
set_option linter.unusedVariables false

theorem ret_adok {fn : Func} {R : Ending → World → Prop} {a : Act} {w : World} {p u : Nat} {g : Nat} {x : Ad} {v : Value} (h : fn.results = #[.cell p 96, .tmp u]) (hp : a.tmps.getD p undef = .pointer (some ⟨g, 0, none⟩)) (hu : a.tmps.getD u undef = v) (hd : a.defers = [])
    (hh : AdIn w g x) (hR : R (.returned (.tuple #[(.agg #[.int .i64 x.f, .int .u64 x.h, .int .u64 x.l]), v])) w) : bodyPost Tryz.prog fn R .ret a w := by
  refine bodyPost_ret (v := .tuple #[(.agg #[.int .i64 x.f, .int .u64 x.h, .int .u64 x.l]), v]) ?_ hd hR
  rw [results_cell_tmp h]
  simp only [hp]
  simp [Result.andThen, hu, asAddr, load_ad hh]

theorem rnum_b (p : Option Addr) (n c : Nat) (xs : List Int) (w : World) (h : Byt w p n c xs) (a k : Nat) (A K : Int) (hA : A = a) (hK : K = k) (h1 : 1 ≤ k) (h8 : k ≤ 8) (hin : a + k ≤ n) :
    Calls Tryz.prog 22 #[.slice p n c, .int .i64 A, .int .i64 K] w fun e w' => e = .returned (.tuple #[.int .u64 (nAt xs a k), .bool true]) ∧ w = w' := by
  subst hA hK
  exact rnumber_yes p n c xs w h a k h1 h8 hin

theorem rget4_any (p : Option Addr) (n c : Nat) (xs : List Int) (w : World) (h : Byt w p n c xs) (a : Nat) (A : Int) (hA : A = a) (hin : a + 4 ≤ n) :
    Calls Tryz.prog 53 #[.slice p n c, .int .i64 A, .int .i64 4] w fun e w' => e = .returned (.tuple #[.agg #[.int .i64 4, .int .u64 0, .int .u64 (nAt xs a 4)], .bool true]) ∧ Below w.heap.size w w' := by
  subst hA
  have hn := h.le
  have HN := hidden (rnum_b p n c xs _ (h.alloc (.cells #[.int .i64 0, .int .u64 0, .int .u64 0] 96)) a 4 a 4 rfl rfl (by omega) (by omega) (by omega))
  have HB := hidden ((Below.refl w.heap.size w).alloc (Nat.le_refl _) (.cells #[.int .i64 0, .int .u64 0, .int .u64 0] 96))
  clear h
  go_enter Tryz.func53, Tryz.ntmps53
  go_wp2_with (first
    | (go_at_call 22; (with_reducible refine (HN.out).mono ?_); rintro e w' ⟨rfl, rfl⟩)
    | fail)
  refine ret_adok (g := w.heap.size) (x := ⟨4, 0, nAt xs a 4⟩) rfl rfl rfl rfl ?_ ?_
  · exact ⟨by go_simp, by go_simp, by go_simp, fun j => by go_simp⟩
  · exact ⟨rfl, (Below.refl _ _).alloc (Nat.le_refl _) _⟩
theorem rget6_any (p : Option Addr) (n c : Nat) (xs : List Int) (w : World) (h : Byt w p n c xs) (a : Nat) (A : Int) (hA : A = a) (hin : a + 16 ≤ n) :
    Calls Tryz.prog 53 #[.slice p n c, .int .i64 A, .int .i64 6] w fun e w' => e = .returned (.tuple #[.agg #[.int .i64 6, .int .u64 (nAt xs a 8), .int .u64 (nAt xs (a + 8) 8)], .bool true]) ∧ Below w.heap.size w w' := by
  subst hA
  have hn := h.le
  have HN := hidden (rnum_b p n c xs _ (h.alloc (.cells #[.int .i64 0, .int .u64 0, .int .u64 0] 96)) a 8 a 8 rfl rfl (by omega) (by omega) (by omega))
  have HM := hidden (rnum_b p n c xs _ (h.alloc (.cells #[.int .i64 0, .int .u64 0, .int .u64 0] 96)) (a + 8) 8 ((a : Int) + 8) 8 (by omega) rfl (by omega) (by omega) (by omega))
  have HB := hidden ((Below.refl w.heap.size w).alloc (Nat.le_refl _) (.cells #[.int .i64 0, .int .u64 0, .int .u64 0] 96))
  have hw : IntKind.i64.wrap ((a : Int) + 8) = (a : Int) + 8 := by rw [IntKind.wrap_i64]; omega
  clear h
  go_enter Tryz.func53, Tryz.ntmps53
  go_wp2_with (first
    | (go_at_call 22; (first | (with_reducible refine (HN.out).mono ?_) | (with_reducible refine (HM.out).mono ?_)); rintro e w' ⟨rfl, rfl⟩)
    | fail)
  refine ret_adok (g := w.heap.size) (x := ⟨6, nAt xs a 8, nAt xs (a + 8) 8⟩) rfl rfl rfl rfl ?_ ?_
  · exact ⟨by go_simp, by go_simp, by go_simp, fun j => by go_simp⟩
  · exact ⟨rfl, (Below.refl _ _).alloc (Nat.le_refl _) _⟩
end Go.Proofs.YtbpmanbpmlkmnaaGreatDoor
