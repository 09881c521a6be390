/-
  A certificate of a list of choices: Codes.Certificate.
-/
import Derived.Test.YtkniifopfgeopaaDoorHRSchBody
import Derived.Test.YtkniifopfgeopaaDoorHZ5
import Derived.Test.YtkniifopfgeopaaDoorHZ8
namespace Go.Proofs.YtkniifopfgeopaaDoor
open Go.RowKit
set_option linter.unusedVariables false

def n0 : ByteArray := ⟨#[97, 108, 105, 99, 101]⟩
def n1 : ByteArray := ⟨#[98, 111, 98]⟩
def n2 : ByteArray := ⟨#[114, 111, 111, 116]⟩
def n3 : ByteArray := ⟨#[103, 119, 46, 101, 120, 97, 109, 112, 108, 101]⟩
theorem n0_ok : NameOk n0 := ⟨by decide, by decide, by decide⟩
theorem n1_ok : NameOk n1 := ⟨by decide, by decide, by decide⟩
theorem n2_ok : NameOk n2 := ⟨by decide, by decide, by decide⟩
theorem n3_ok : NameOk n3 := ⟨by decide, by decide, by decide⟩
/-- The names that may be drawn lie in this block. -/
def LitS (U : World) (B : Nat) : Prop := ∀ j, j < 4 → ∃ s, NameOk s ∧ U.cell? ⟨B, j, none⟩ = some (.string s)
theorem LitS.grown {U U' : World} {B k : Nat} (h : LitS U B) (hg : U.grownBy U' (some k)) (hk : k < B) : LitS U' B := fun j hj => by
  obtain ⟨s, hs, hc⟩ := h j hj
  exact ⟨s, hs, hg.cell hc (by simp; omega)⟩
theorem LitS.new (U : World) (T : TypeId) : LitS (U.alloc (.cells #[.string n0, .string n1, .string n2, .string n3] T)) U.heap.size := fun j hj => by
  have : j = 0 ∨ j = 1 ∨ j = 2 ∨ j = 3 := by omega
  rcases this with rfl | rfl | rfl | rfl
  · exact ⟨n0, n0_ok, by go_simp⟩
  · exact ⟨n1, n1_ok, by go_simp⟩
  · exact ⟨n2, n2_ok, by go_simp⟩
  · exact ⟨n3, n3_ok, by go_simp⟩
def zeroC : Array Value := #[.string ⟨#[]⟩, .int .u64 0, .int .i64 0, .int .i64 0, .bool false, .slice none 0 0]
def frC (k : Nat) (y : Int) (b : Bool) (g : Nat) (v7 v9 v10 v11 v14 v16 v17 : Value) : Act :=
  { tmps := #[.pointer (some ⟨k, 0, none⟩), .int .u64 y, .bool b, undef, undef, undef, .pointer (some ⟨g, 0, none⟩), v7, .pointer (some ⟨k, 0, none⟩), v9, v10, v11, .int .u64 y, .pointer (some ⟨k, 0, none⟩), v14, .pointer (some ⟨k, 0, none⟩), v16, v17, .bool b, undef], defers := [] }
/-- What is known when these operations have come up. -/
structure PhC (W w : World) (k : Nat) (y : Int) (b : Bool) (g : Nat) (b0 b2 b3 b4 b7 b9 b10 : Bool) (v7 v9 v10 v11 v14 v16 v17 : Value) (U : World) : Prop where
  cod : Cod W U k
  gr : w.grownBy U (some k)
  res : U.heap[g]? = some (.cells zeroC 37 (0, 0))
  d3 : b3 = true → b0 = true ∧ b2 = true
  d4 : b4 = true → b3 = true
  d7 : b7 = true → b2 = true
  d9 : b9 = true → b7 = true
  d10 : b10 = true → b9 = true
  q0 : b0 = true → ∃ B, v7 = .slice (some ⟨B, 0, none⟩) 4 4 ∧ k < B ∧ LitS U B
  q2 : b2 = true → ∃ j : Nat, j < 4 ∧ v9 = .int .i64 j
  q3 : b3 = true → ∃ B j, j < 4 ∧ v10 = .pointer (some ⟨B, j, none⟩) ∧ k < B ∧ LitS U B
  q4 : b4 = true → ∃ s, v11 = .string s ∧ NameOk s
  q7 : b7 = true → ∃ r : Int, v14 = .int .i64 r ∧ 0 ≤ r ∧ r < 10
  q9 : b9 = true → ∃ r : Int, v16 = .int .i64 r ∧ 0 ≤ r ∧ r < 60
  q10 : b10 = true → ∃ r : Int, v17 = .int .i64 r ∧ 20 ≤ r ∧ r < 80
def PhL (W w : World) (k : Nat) (y : Int) (b : Bool) (g : Nat) (l : Array Bool) (a : Act) (U : World) : Prop :=
  ∃ b0 b2 b3 b4 b7 b9 b10 v7 v9 v10 v11 v14 v16 v17, l = #[b0, true, b2, b3, b4, true, true, b7, true, b9, b10, true, false, false] ∧ a = frC k y b g v7 v9 v10 v11 v14 v16 v17 ∧ PhC W w k y b g b0 b2 b3 b4 b7 b9 b10 v7 v9 v10 v11 v14 v16 v17 U
theorem PhC.step {W w : World} {k : Nat} {y : Int} {b : Bool} {g : Nat} {b0 b2 b3 b4 b7 b9 b10 : Bool} {v7 v9 v10 v11 v14 v16 v17 : Value} {U U' : World} (h : PhC W w k y b g b0 b2 b3 b4 b7 b9 b10 v7 v9 v10 v11 v14 v16 v17 U) (hkg : k < g) (hc : Cod W U' k) (hg : U.grownBy U' (some k)) :
    PhC W w k y b g b0 b2 b3 b4 b7 b9 b10 v7 v9 v10 v11 v14 v16 v17 U' :=
  ⟨hc, grown_trans h.gr hg, by rw [hg.block g (Array.getElem?_eq_some_iff.1 h.res).1 (by simp; omega)]; exact h.res, h.d3, h.d4, h.d7, h.d9, h.d10,
    fun e => (by obtain ⟨B, e1, e2, e3⟩ := h.q0 e; exact ⟨B, e1, e2, e3.grown hg e2⟩), h.q2, fun e => (by obtain ⟨B, j, e0, e1, e2, e3⟩ := h.q3 e; exact ⟨B, j, e0, e1, e2, e3.grown hg e2⟩), h.q4, h.q7, h.q9, h.q10⟩
theorem next_v (W U : World) (k : Nat) (h : Cod W U k) (m : Int) (hm : 1 ≤ m ∧ m ≤ 9223372036854775807) :
    Calls Tryd.prog 28 #[.pointer (some ⟨k, 0, none⟩), .int .i64 m] U fun e w' => ∃ v, e = .returned v ∧ (∃ r : Int, v = .int .i64 r ∧ 0 ≤ r ∧ r < m ∧ Cod W w' k ∧ U.grownBy w' (some k)) :=
  (next_any W U k h m hm).mono fun e w' ⟨r, he, h0, h1, hc, hg⟩ => ⟨_, he, r, rfl, h0, h1, hc, hg⟩
theorem fl_wp {P : Program} {o : Oper} {ops : Array Oper} {a : Act} {w : World} {K : Act → World → Prop} {Q : Exit → Act → World → Prop} (hg : o.guard = none) (h : Oper.wp P o a w K Q) :
    if Region.wanted o (yielded ops a.tmps) = true then Oper.wp P o a w K Q else K (a.put o.dst undef) w := by
  rw [if_pos (by simp [Region.wanted, hg])]
  exact h
theorem row_grown {a b : World} {row : Option Nat} (h : a.grownBy b row) (g : Nat) (cs : Array Value) (hg : a.heap.size ≤ g) : a.grownBy (b.setRow g cs) row :=
  ⟨h.os, h.tape, h.output, by rw [show (b.setRow g cs).heap.size = b.heap.size by simp [World.setRow]]; exact h.size, fun i hi hne => (setRow_other _ _ _ _ (by omega)).trans (h.block i hi hne)⟩
theorem row_grown1 (b : World) (g : Nat) (cs : Array Value) : b.grownBy (b.setRow g cs) (some g) :=
  ⟨rfl, rfl, rfl, by simp [World.setRow], fun i hi hne => setRow_other _ _ _ _ (by simp at hne; omega)⟩
theorem infoC6 : (Tryd.prog.info? 37).map (·.size) = some 6 := by kernel_rfl
/-- What Certificate returns. -/
def MadeCt (W w : World) (k : Nat) (y : Int) (b : Bool) (e : Ending) (w' : World) : Prop :=
  ∃ s f t, e = .returned (.agg #[.string s, .int .u64 y, .int .i64 f, .int .i64 t, .bool b, .slice none 0 0]) ∧ NameOk s ∧ (0 ≤ f ∧ f < 10) ∧ (20 ≤ t ∧ t < 80) ∧ Cod W w' k ∧ w.grownBy w' (some k)

set_option maxHeartbeats 3200000 in
set_option maxRecDepth 100000 in
theorem cert_any (W w : World) (k : Nat) (h : Cod W w k) (y : Int) (b : Bool) :
    Calls Tryd.prog 29 #[.pointer (some ⟨k, 0, none⟩), .int .u64 y, .bool b] w (MadeCt W w k y b) := by
  have HC1 := hidden (h.alloc (.cells zeroC 37))
  have hk := h.lt
  have hbs := h.bel.size
  clear h
  go_enter Tryd.func29, Tryd.ntmps29
  go_upto_region 1 with fail
  generalize hw1 : w.alloc (.cells _ 37) = w1
  have hc1 : Cod W w1 k := by rw [← hw1]; exact HC1.out
  have hr1 : w1.heap[w.heap.size]? = some (.cells zeroC 37 (0, 0)) := by rw [← hw1]; exact heap_alloc_new w _
  have hg1 : w.grownBy w1 (some k) := by rw [← hw1]; exact World.grownBy_alloc w _ _
  clear hw1 HC1
  obtain ⟨g, hg⟩ : ∃ g, w.heap.size = g := ⟨_, rfl⟩
  have HG := Is.mk hg
  rw [hg] at hr1 hk hbs
  simp only [hg]
  clear hg
  refine region_C 13 (fun _ => True) (fun _ => True) (by kernel_rfl) trivial trivial (fun _ _ => ?_)
  refine anyC_take (i := 1) (v := .pointer (some ⟨k, 0, none⟩)) rfl rfl (by decide) (by kernel_rfl) (by kernel_rfl) (by kernel_rfl) (fun _ _ _ h => h) (Or.inl ⟨by rfl, fun w0 _ => by kernel_rfl⟩) trivial (fun _ => trivial) ?_
  refine anyC_take (i := 5) (v := .int .u64 y) rfl rfl (by decide) (by kernel_rfl) (by kernel_rfl) (by kernel_rfl) (fun _ _ _ h => h) (Or.inl ⟨by rfl, fun w0 _ => by kernel_rfl⟩) trivial (fun _ => trivial) ?_
  refine anyC_take (i := 6) (v := .pointer (some ⟨k, 0, none⟩)) rfl rfl (by decide) (by kernel_rfl) (by kernel_rfl) (by kernel_rfl) (fun _ _ _ h => h) (Or.inl ⟨by rfl, fun w0 _ => by kernel_rfl⟩) trivial (fun _ => trivial) ?_
  refine anyC_take (i := 8) (v := .pointer (some ⟨k, 0, none⟩)) rfl rfl (by decide) (by kernel_rfl) (by kernel_rfl) (by kernel_rfl) (fun _ _ _ h => h) (Or.inl ⟨by rfl, fun w0 _ => by kernel_rfl⟩) trivial (fun _ => trivial) ?_
  refine anyC_take (i := 11) (v := .bool b) rfl rfl (by decide) (by kernel_rfl) (by kernel_rfl) (by kernel_rfl) (fun _ _ _ h => h) (Or.inl ⟨by rfl, fun w0 _ => by kernel_rfl⟩) trivial (fun _ => trivial) ?_
  refine anyC_inv (PhL W w k y b g) (fun _ _ _ _ => ⟨trivial, fun _ => trivial⟩) ?_ _ _ _ _ (by decide +kernel) ⟨false, false, false, false, false, false, false, undef, undef, undef, undef, undef, undef, undef, by kernel_rfl, by kernel_rfl,
    ⟨hc1.below (drew_below ⟨1, rfl⟩), grown_trans hg1 (grown_drewN w1 1 _), hr1, fun h => (by cases h), fun h => (by cases h), fun h => (by cases h), fun h => (by cases h), fun h => (by cases h), fun h => (by cases h), fun h => (by cases h), fun h => (by cases h), fun h => (by cases h), fun h => (by cases h), fun h => (by cases h), fun h => (by cases h)⟩⟩
  clear hc1 hr1 hg1
  rintro l a U ⟨b0, b2, b3, b4, b7, b9, b10, v7, v9, v10, v11, v14, v16, v17, rfl, rfl, hP⟩
  by_cases hall : b4 = true ∧ b7 = true ∧ b10 = true
  · left
    obtain ⟨rfl, rfl, rfl⟩ := hall
    obtain rfl := hP.d4 rfl
    obtain ⟨rfl, rfl⟩ := hP.d3 rfl
    obtain rfl := hP.d10 rfl
    obtain ⟨s, rfl, hs⟩ := hP.q4 rfl
    obtain ⟨f, rfl, hf0, hf1⟩ := hP.q7 rfl
    obtain ⟨t, rfl, ht0, ht1⟩ := hP.q10 rfl
    intro n hn
    obtain ⟨n, rfl⟩ : ∃ m, n = m + 2 := ⟨n - 2, by have : cnt #[true, true, true, true, true, true, true, true, true, true, true, true, false, false] = 2 := (by decide); omega⟩
    refine anyC_one (i := 12) (by kernel_rfl) rfl (fun K' hK => ?_)
    refine fl_exec rfl (v := .agg #[.string s, .int .u64 y, .int .i64 f, .int .i64 t, .bool b, .slice none 0 0]) (w' := U) (by kernel_rfl) (hK.out _ _ trivial (fun _ => trivial) ?_)
    clear hK K'
    refine anyC_one (i := 13) (by kernel_rfl) rfl (fun K' hK => ?_)
    refine fl_skip rfl (fl_store 37 _ _ rfl g 0 #[.string s, .int .u64 y, .int .i64 f, .int .i64 t, .bool b, .slice none 0 0] #[.string s, .int .u64 y, .int .i64 f, .int .i64 t, .bool b, .slice none 0 0] (by kernel_rfl) (by kernel_rfl) 37 zeroC hP.res infoC6 (Nat.le_refl 6) (by kernel_rfl) (by rfl)) (hK.out _ _ trivial (fun _ => trivial) ?_)
    clear hK K'
    refine anyC_done (by kernel_rfl) ?_ _
    have hrow := setRow_heap U g _ #[.string s, .int .u64 y, .int .i64 f, .int .i64 t, .bool b, .slice none 0 0] _ _ hP.res
    have hcod := hP.cod.grown (row_grown1 U g #[.string s, .int .u64 y, .int .i64 f, .int .i64 t, .bool b, .slice none 0 0]) (by simp; omega) (fun j e => by cases e; exact hbs)
    have hgr := row_grown hP.gr g #[.string s, .int .u64 y, .int .i64 f, .int .i64 t, .bool b, .slice none 0 0] (by rw [HG.eq]; exact Nat.le_refl _)
    have HROW := hidden hrow
    have HCOD := hidden hcod
    have HGR := hidden hgr
    have HS := hidden hs
    clear hrow hcod hgr hP hs hn
    generalize World.setRow U g _ = U1 at *
    go_wp2
    refine bodyPost_ret (results_cell_row rfl _ _ g 37 _ (0, 0) _ (by kernel_rfl) HROW.out Tryd.underlying37 rfl infoC6) rfl ?_
    exact ⟨s, f, t, rfl, HS.out, ⟨hf0, hf1⟩, ⟨ht0, ht1⟩, HCOD.out, HGR.out⟩
  · right
    refine ⟨fun he => absurd (all_true (by kernel_rfl) rfl he 13) (by simp), fun i hi => ?_⟩
    have hlt : i < 14 := ready_lt hi
    have hun := (mem_ready.1 hi).1
    have hcs : i = 0 ∨ i = 1 ∨ i = 2 ∨ i = 3 ∨ i = 4 ∨ i = 5 ∨ i = 6 ∨ i = 7 ∨ i = 8 ∨ i = 9 ∨ i = 10 ∨ i = 11 ∨ i = 12 ∨ i = 13 := by omega
    rcases hcs with rfl | rfl | rfl | rfl | rfl | rfl | rfl | rfl | rfl | rfl | rfl | rfl | rfl | rfl
    · obtain rfl : b0 = false := hun
      refine wpOp_step rfl (fun K' hK => ?_)
      refine fl_exec rfl (v := .slice (some ⟨U.heap.size, 0, none⟩) 4 4) (w' := U.alloc (.cells #[.string n0, .string n1, .string n2, .string n3] 9)) (by kernel_rfl) (hK _ _ ?_)
      have hs := hP.step hk (hP.cod.alloc (.cells #[.string n0, .string n1, .string n2, .string n3] 9)) (World.grownBy_alloc U _ _)
      exact ⟨true, b2, b3, b4, b7, b9, b10, _, v9, v10, v11, v14, v16, v17, rfl, rfl, { hs with d3 := fun e => ⟨rfl, (hs.d3 e).2⟩, q0 := fun _ => ⟨_, rfl, hP.cod.lt, LitS.new U _⟩ }⟩
    · exact Bool.noConfusion (show true = false from hun)
    · -- 2
      obtain rfl : b2 = false := hun
      refine wpOp_step rfl (fun K' hK => ?_)
      refine fl_call rfl (f := 28) (args := #[.pointer (some ⟨k, 0, none⟩), .int .i64 4]) (by kernel_rfl) (next_v W U k hP.cod 4 (by omega)) ?_
      rintro x U' ⟨r, rfl, h0, h1, hc, hg⟩
      refine hK _ _ ?_
      obtain ⟨j, rfl⟩ := Int.eq_ofNat_of_zero_le h0
      have hs := hP.step hk hc hg
      exact ⟨b0, true, b3, b4, b7, b9, b10, v7, _, v10, v11, v14, v16, v17, rfl, rfl, { hs with d3 := fun e => ⟨(hs.d3 e).1, rfl⟩, d7 := fun _ => rfl, q2 := fun _ => ⟨j, by omega, rfl⟩ }⟩
    · obtain rfl : b3 = false := hun
      obtain rfl : b0 = true := ready_dep hi rfl 0 (by kernel_rfl)
      obtain rfl : b2 = true := ready_dep hi rfl 2 (by kernel_rfl)
      obtain ⟨B, rfl, hkB, hL⟩ := hP.q0 rfl
      obtain ⟨j, hj, rfl⟩ := hP.q2 rfl
      have hb1 : (j : Int) < 4 := by omega
      have hb0 : (0 : Int) ≤ (j : Int) := by omega
      refine wpOp_step rfl (fun K' hK => ?_)
      refine fl_wp rfl ?_
      have HK := hidden hK
      clear hK hi hall
      have HP := hidden hP
      clear hP
      unfold frC
      go_simp
      refine HK.out _ _ ?_
      have hs := HP.out
      exact ⟨true, true, true, b4, b7, b9, b10, _, _, _, v11, v14, v16, v17, rfl, rfl, { hs with d3 := fun _ => ⟨rfl, rfl⟩, d4 := fun _ => rfl, q3 := fun _ => ⟨B, j, hj, rfl, hkB, hL⟩ }⟩
    · obtain rfl : b4 = false := hun
      obtain rfl : b3 = true := ready_dep hi rfl 3 (by kernel_rfl)
      obtain ⟨B, j, hj, rfl, hkB, hL⟩ := hP.q3 rfl
      obtain ⟨s, hs0, hcell⟩ := hL j hj
      refine wpOp_step rfl (fun K' hK => ?_)
      refine fl_wp rfl ?_
      have HK := hidden hK
      clear hK hi hall
      have HP := hidden hP
      clear hP
      unfold frC
      go_simp
      refine HK.out _ _ ?_
      have hs := HP.out
      exact ⟨b0, b2, true, true, b7, b9, b10, v7, v9, _, _, v14, v16, v17, rfl, rfl, { hs with d4 := fun _ => rfl, q4 := fun _ => ⟨s, rfl, hs0⟩ }⟩
    · exact Bool.noConfusion (show true = false from hun)
    · exact Bool.noConfusion (show true = false from hun)
    · -- 7
      obtain rfl : b7 = false := hun
      obtain rfl : b2 = true := ready_dep hi rfl 2 (by kernel_rfl)
      refine wpOp_step rfl (fun K' hK => ?_)
      refine fl_call rfl (f := 28) (args := #[.pointer (some ⟨k, 0, none⟩), .int .i64 10]) (by kernel_rfl) (next_v W U k hP.cod 10 (by omega)) ?_
      rintro x U' ⟨r, rfl, h0, h1, hc, hg⟩
      refine hK _ _ ?_
      have hs := hP.step hk hc hg
      exact ⟨b0, true, b3, b4, true, b9, b10, v7, v9, v10, v11, _, v16, v17, rfl, rfl, { hs with d7 := fun _ => rfl, d9 := fun _ => rfl, q7 := fun _ => ⟨r, rfl, h0, h1⟩ }⟩
    · exact Bool.noConfusion (show true = false from hun)
    · -- 9
      obtain rfl : b9 = false := hun
      obtain rfl : b7 = true := ready_dep hi rfl 7 (by kernel_rfl)
      refine wpOp_step rfl (fun K' hK => ?_)
      refine fl_call rfl (f := 28) (args := #[.pointer (some ⟨k, 0, none⟩), .int .i64 60]) (by kernel_rfl) (next_v W U k hP.cod 60 (by omega)) ?_
      rintro x U' ⟨r, rfl, h0, h1, hc, hg⟩
      refine hK _ _ ?_
      have hs := hP.step hk hc hg
      exact ⟨b0, b2, b3, b4, true, true, b10, v7, v9, v10, v11, v14, _, v17, rfl, rfl, { hs with d9 := fun _ => rfl, d10 := fun _ => rfl, q9 := fun _ => ⟨r, rfl, h0, h1⟩ }⟩
    · obtain rfl : b10 = false := hun
      obtain rfl : b9 = true := ready_dep hi rfl 9 (by kernel_rfl)
      obtain ⟨r, rfl, h0, h1⟩ := hP.q9 rfl
      have hw : IntKind.i64.wrap (20 + r) = 20 + r := wraps_i64 _ (by omega) (by omega)
      refine wpOp_step rfl (fun K' hK => ?_)
      refine fl_wp rfl ?_
      have HK := hidden hK
      clear hK hi hall
      have HP := hidden hP
      clear hP
      unfold frC
      go_simp
      refine HK.out _ _ ?_
      have hs := HP.out
      exact ⟨b0, b2, b3, b4, b7, true, true, v7, v9, v10, v11, v14, _, _, rfl, rfl, { hs with d10 := fun _ => rfl, q10 := fun _ => ⟨20 + r, rfl, by omega, by omega⟩ }⟩
    · exact Bool.noConfusion (show true = false from hun)
    · exact absurd ⟨ready_dep hi rfl 4 (by kernel_rfl), ready_dep hi rfl 7 (by kernel_rfl), ready_dep hi rfl 10 (by kernel_rfl)⟩ hall
    · exact absurd (ready_dep hi rfl 12 (by kernel_rfl)) (fun e => Bool.noConfusion (show false = true from e))
end Go.Proofs.YtkniifopfgeopaaDoor
