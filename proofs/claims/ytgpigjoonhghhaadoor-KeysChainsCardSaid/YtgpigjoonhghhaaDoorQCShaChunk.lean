/-
  slices.Chunk of bytes at 64: what it hands over.
-/
import Derived.Test.YtgpigjoonhghhaaDoorQCShaBlock
import Derived.Test.YtgpigjoonhghhaaDoorQCRangeCl
import Derived.Shelf.RegionOpen
import Derived.OwnWalkIn
import Derived.TacticsInMore
import Derived.LoopNIn
import Derived.LoopIn
import Derived.Sort.QuietIn
namespace Go.Proofs.YtgpigjoonhghhaaDoor
open Go.RowKit Go.Shelf
set_option linter.unusedVariables false
attribute [local go_sem] Oper.semAt_some
structure ChE where
  p : Option Addr
  b : List Int
def encCh (x : ChE) : Array Value := #[.slice x.p 64 64]
def chunksS : Nat → List Int → List (List Int)
  | 0, _ => []
  | k + 1, b => chunksS k b ++ [(b.drop (64 * k)).take 64]
theorem chunk_fn (p : Option Addr) (n c : Nat) (w : World) : Calls Tryd.prog 67 #[.slice p n c, .int .i64 64] w fun e w' =>
    e = .returned (.func (.func 74) #[] #[.pointer (some ⟨w.heap.size, 0, none⟩), .pointer (some ⟨w.heap.size + 1, 0, none⟩)]) ∧ (w.alloc (.cells #[.slice p n c] 22)).alloc (.cells #[.int .i64 64] 3) = w' := by
  go_enter Tryd.func67, Tryd.ntmps67
  go_wp2
  go_ret
  exact ⟨rfl, rfl⟩
def Same0 (w0 w : World) : Prop := ∀ k, k < w0.heap.size → w.heap[k]? = w0.heap[k]?
theorem Same0.byt {w0 w : World} (h : Same0 w0 w) {p : Option Addr} {n c : Nat} {xs : List Int} (hx : Byt w0 p n c xs) : Byt w p n c xs :=
  hx.keep fun a v ha => by
    rw [World.cell?_of_block (w := w0) (h a.block (World.block_lt_of_cell? w0 _ ha))]
    exact ha
set_option maxHeartbeats 1600000 in
set_option maxRecDepth 100000 in
theorem chunk_seq (w0 w : World) (p : Option Addr) (k c : Nat) (xs : List Int) (hx : Byt w0 p (64 * k) c xs) (hk : 64 * k ≤ 140737488355328) (hs : Same0 w0 w) (g : Nat) (hg : w0.heap.size < g) (hg1 : g + 1 < w.heap.size)
    (h0 : w.cell? ⟨g, 0, none⟩ = some (.slice p (64 * k) c)) (h1 : w.cell? ⟨g + 1, 0, none⟩ = some (.int .i64 64)) (m : Nat) :
    SeqCl Fence.wide (m + 3) Tryd.prog 74 #[.pointer (some ⟨g, 0, none⟩), .pointer (some ⟨g + 1, 0, none⟩)] encCh g w0.heap.size w.heap.size k (fun x U => Byt U x.p 64 64 x.b) (fun pre _ => pre.map (·.b) = chunksS k xs) w := by
  intro l J W hW hJ hY h00
  obtain ⟨n, hn⟩ : ∃ n, 64 * k = n := ⟨_, rfl⟩
  rw [hn] at hx hk h0
  have hsW : Same0 w0 W := fun j hj => (hW.block j (by omega)).trans (hs j hj)
  have hc0 := cell_below hW _ _ h0
  have hc1 := cell_below hW _ _ h1
  have hcn := hx.cap
  have hcm := hx.big
  unfold maxLen at hcm
  have HX := hidden hx
  have HN := hidden hn
  have HSW := hidden hsW
  have HC0 := hidden hc0
  have HC1 := hidden hc1
  have HW := hidden hW.size
  have HJ := hidden hJ
  have HY := hidden hY
  have H00 := hidden h00
  clear hx hn hs hsW hc0 hc1 hW hJ hY h00 h0 h1
  refine callsIn_of_wp Tryd.func74 rfl trivial ?_ rfl
  simp only [Tryd.ntmps74, List.size_toArray, List.length_cons, List.length_nil, Nat.reduceAdd, Nat.reduceSub, Array.replicate_succ, Array.replicate_zero, List.push_toArray, List.append_toArray, List.nil_append, List.cons_append]
  gi_wp2
  gi_loopw [4] (fun i wr => ∃ (pre : List ChE) (a : Nat), Is a (64 * pre.length) ∧ i = .int .i64 a ∧ pre.length ≤ k ∧ J pre wr ∧ Is (pre.map (·.b)) (chunksS pre.length xs) ∧ Same0 w0 wr ∧ wr.cell? ⟨g, 0, none⟩ = some (.slice p n c) ∧ wr.cell? ⟨g + 1, 0, none⟩ = some (.int .i64 64) ∧ w.heap.size ≤ wr.heap.size) (fun i _ => n - (intOf i).toNat)
  case atStart => exact ⟨[], 0, ⟨rfl⟩, rfl, by simp, H00.out, ⟨rfl⟩, HSW.out, HC0.out, HC1.out, HW.out⟩
  case round =>
    obtain ⟨pre, a, ⟨ha⟩, rfl, hpl, hj, HM, hs, hc0, hc1, hsz⟩ := hrel
    have HN1 := HN.out
    by_cases hlt : pre.length < k
    · have han : a + 64 ≤ n := by omega
      have hX := hs.byt HX.out
      obtain ⟨b, o, rfl, _⟩ := hX.at_ (by omega)
      have hP := hX.part a (a + 64) (by omega) han
      have hb64 : a + 64 - a = 64 := by omega
      have ht : (xs.take (a + 64)).drop a = (xs.drop a).take 64 := by rw [List.drop_take, hb64]
      have eP : Option.map (fun x : Addr => x.add a) (some ⟨b, o, none⟩) = some ⟨b, o + a, none⟩ := by simp [Addr.add]
      rw [ht, if_neg (by omega), hb64, eP] at hP
      have hB : Byt wr (some ⟨b, o + a, none⟩) 64 64 ((xs.drop a).take 64) := ⟨hP.len, Nat.le_refl _, by unfold maxLen; omega, hP.rng, hP.mem⟩
      have HJJ := hidden hj
      have HS := hidden hs
      have HSZ := hidden hsz
      have HBY := hidden hB
      have hac : ¬ c = a := by omega
      have hg' : g + 1 < wr.heap.size := by omega
      have HA := Is.mk ha
      have hla : (a : Int) < (n : Int) := by omega
      clear hP hX hB hs hj hsz hb64 ht HN1 ha eP
      gi_wp2
      gi_quiet (fail)
      obtain ⟨fn, tmps, assign, body, hy, hRnd⟩ := HY.out pre ⟨some ⟨b, o + a, none⟩, (xs.drop a).take 64⟩ (wr.drewN nq) (HJ.out _ _ _ HJJ.out (by exact ⟨rfl, rfl, rfl, Nat.le_refl _, fun _ _ _ => rfl⟩)) (HBY.out.below (drew_below ⟨nq, rfl⟩)) hlt
      simp only [encCh] at hy
      have HRND := hidden hRnd
      clear hRnd
      gi_wp2
      refine HRND.out.mono ?_
      rintro e W3 ⟨rfl, hJ3, hK3⟩
      have hd0 : W3.cell? ⟨g, 0, none⟩ = some (.slice (some ⟨b, o, none⟩) n c) := by
        rw [World.cell?_of_block (w := wr) (hK3.block g (by omega) (by omega))]
        exact hc0
      have hd1 : W3.cell? ⟨g + 1, 0, none⟩ = some (.int .i64 64) := by
        rw [World.cell?_of_block (w := wr) (hK3.block (g + 1) hg1 (by omega))]
        exact hc1
      have HS3 := hidden (show Same0 w0 W3 from fun j hj => (hK3.block j (by omega) (by omega)).trans (HS.out j hj))
      have HSZ3 := hidden (show w.heap.size ≤ W3.heap.size from Nat.le_trans HSZ.out hK3.size)
      have HJ3 := hidden hJ3
      clear hJ3 hK3 hc0 hc1
      gi_wp2
      go_roundw
      case rel =>
        refine ⟨pre ++ [⟨some ⟨b, o + a, none⟩, (xs.drop a).take 64⟩], a + 64, ⟨by rw [HA.eq]; simp; omega⟩, by go_num, by simp; omega, HJ3.out, ⟨?_⟩, HS3.out, hd0, hd1, HSZ3.out⟩
        rw [List.map_append, HM.eq, List.length_append, List.length_singleton, chunksS, ← HA.eq]
        rfl
      case measure => simp [intOf]; omega
    · have han : a = n := by omega
      subst han
      clear HX ha HN1
      have hpk : pre.length = k := by omega
      have HM2 := hidden (show pre.map (·.b) = chunksS k xs by rw [HM.eq, hpk])
      have HJ2 := hidden hj
      gi_wp2
      go_end0
      exact ⟨⟨_, rfl⟩, pre, HM2.out, HJ2.out⟩
end Go.Proofs.YtgpigjoonhghhaaDoor
