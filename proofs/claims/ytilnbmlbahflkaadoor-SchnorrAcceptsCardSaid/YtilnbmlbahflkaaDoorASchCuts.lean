/-
  The parts of a certificate's bytes, and rows of certificates that were read.
-/
import Derived.Test.YtilnbmlbahflkaaDoorASchEnc
namespace Go.Proofs.YtilnbmlbahflkaaDoor
open Go.RowKit
set_option linter.unusedVariables false

theorem nums_letters (s : ByteArray) : strOfNums (letters s) = s := by
  obtain ⟨d⟩ := s
  unfold strOfNums letters
  congr 1
  rw [List.map_map]
  have : ∀ x ∈ d.toList, ((fun n : Int => UInt8.ofNat n.toNat) ∘ fun c : UInt8 => (c.toNat : Int)) x = x := fun x _ => by simp
  rw [List.map_congr_left this]
  simp
theorem val_be4 (v : Int) (h0 : 0 ≤ v) (h1 : v ≤ 4294967295) : val (be 4 v) = v := by
  simp only [be, val, List.foldl]
  omega
theorem cut_mid {A B C X : List Int} {n m : Nat} (hx : X = A ++ (B ++ C)) (hn : A.length = n) (hm : B.length = m) : (X.drop n).take m = B := by
  subst hx
  rw [List.drop_left' hn, List.take_left' hm]
/-- What the parts of a certificate's bytes are. -/
structure CtCut (X : List Int) (x : Ct) (rest : List Int) : Prop where
  c0 : X.getD 0 0 = (x.s.size : Int)
  c1 : (X.take (1 + x.s.size)).drop 1 = letters x.s
  c2 : (X.drop (1 + x.s.size)).take 8 = gbytes x.k
  c3 : (X.drop (1 + x.s.size + 8)).take 4 = be 4 x.f
  c4 : (X.drop (1 + x.s.size + 8 + 4)).take 4 = be 4 x.t
  c5 : X.getD (1 + x.s.size + 8 + 4 + 4) 0 = if x.a then 1 else 0
  c6 : pieceR X (1 + (x.s.size : Int) + 8 + 4 + 4 + 1) 16 = (x.g, true)
  c7 : X.take (1 + x.s.size + 8 + 4 + 4 + 1) = bdL x
  c8 : X.drop (1 + x.s.size + 8 + 4 + 4 + 1 + 16) = rest
  ln : X.length = 1 + x.s.size + 8 + 4 + 4 + 1 + 16 + rest.length
theorem ctCut (x : Ct) (rest : List Int) (hg : x.g.length = 16) : CtCut (bdL x ++ (x.g ++ rest)) x rest := by
  have l1 := letters_len x.s
  have l2 := gbytes_len x.k
  have l3 := be_len 4 x.f
  have l4 := be_len 4 x.t
  have lb := bdL_len x
  have hX : bdL x ++ (x.g ++ rest) = [(x.s.size : Int)] ++ (letters x.s ++ (gbytes x.k ++ (be 4 x.f ++ (be 4 x.t ++ ([if x.a then 1 else 0] ++ (x.g ++ rest)))))) := by
    unfold bdL
    simp only [List.append_assoc]
  have hln : (bdL x ++ (x.g ++ rest)).length = 1 + x.s.size + 8 + 4 + 4 + 1 + 16 + rest.length := by
    rw [List.length_append, List.length_append, lb, hg]; omega
  have e6 : ((bdL x ++ (x.g ++ rest)).drop (1 + x.s.size + 8 + 4 + 4 + 1)).take 16 = x.g := cut_mid rfl (by rw [lb]; omega) hg
  refine ⟨by rw [hX]; rfl, ?_, ?_, ?_, ?_, ?_, ?_, ?_, ?_, hln⟩
  · rw [hX, ← List.append_assoc, List.take_left' (by rw [List.length_append, l1]; rfl)]
    rfl
  · refine cut_mid (A := [(x.s.size : Int)] ++ letters x.s) (C := be 4 x.f ++ (be 4 x.t ++ ([if x.a then 1 else 0] ++ (x.g ++ rest)))) ?_ ?_ l2
    · rw [hX]; simp only [List.append_assoc]
    · rw [List.length_append, l1]; rfl
  · refine cut_mid (A := [(x.s.size : Int)] ++ letters x.s ++ gbytes x.k) (C := be 4 x.t ++ ([if x.a then 1 else 0] ++ (x.g ++ rest))) ?_ ?_ l3
    · rw [hX]; simp only [List.append_assoc]
    · rw [List.length_append, List.length_append, l1, l2]; rfl
  · refine cut_mid (A := [(x.s.size : Int)] ++ letters x.s ++ gbytes x.k ++ be 4 x.f) (C := [if x.a then 1 else 0] ++ (x.g ++ rest)) ?_ ?_ l4
    · rw [hX]; simp only [List.append_assoc]
    · rw [List.length_append, List.length_append, List.length_append, l1, l2, l3]; rfl
  · have h9 : ((bdL x ++ (x.g ++ rest)).drop (1 + x.s.size + 8 + 4 + 4)).take 1 = [if x.a then 1 else 0] := by
      refine cut_mid (A := [(x.s.size : Int)] ++ letters x.s ++ gbytes x.k ++ be 4 x.f ++ be 4 x.t) (C := x.g ++ rest) ?_ ?_ rfl
      · rw [hX]; simp only [List.append_assoc]
      · rw [List.length_append, List.length_append, List.length_append, List.length_append, l1, l2, l3, l4]; rfl
    have h8 := congrArg (fun l => l.getD 0 0) h9
    simp only [List.getD_eq_getElem?_getD] at h8 ⊢
    rw [List.getElem?_take_of_lt (by omega), List.getElem?_drop] at h8
    simpa using h8
  · unfold pieceR
    have e7 : (1 + (x.s.size : Int) + 8 + 4 + 4 + 1).toNat = 1 + x.s.size + 8 + 4 + 4 + 1 := by omega
    rw [if_pos (by rw [hln]; omega), e7, show (16 : Int).toNat = 16 from rfl, e6]
  · rw [List.take_left' (by rw [lb]; omega)]
  · rw [← List.append_assoc, List.drop_left' (by rw [List.length_append, lb, hg]; omega)]
/-- The memory behind a certificate that was read: its signature. -/
def NCt : NestR Ct where
  ts := [5]
  ok w base x := Bod w base x.p x.n x.c x.g
  keep h hg ho := h.grown hg (fun r hr => (ho r hr).imp id (fun h2 cur fz e => h2 cur _ fz e (by simp)))
  mono h hb := h.mono hb
theorem infoCt6 : (Tryd.prog.info? 47).map (fun i => (i.zero, i.size, i.bytes)) = some (some (.agg #[.string ⟨#[]⟩, .int .u64 0, .int .i64 0, .int .i64 0, .bool false, .slice none 0 0]), 6, 72) := by kernel_rfl
theorem knownCt : KnownR Tryd.prog KCt 40 72 := by
  refine ⟨Tryd.underlying40, ?_⟩
  obtain ⟨i0, hi, hz0, hz1, hz2⟩ := info_parts infoCt6
  exact ⟨i0, _, hi, hz0, hz1, hz2, rfl⟩
theorem srcCt (w : World) (x : Ct) (T : TypeId) : SrcG KCt (w.alloc (.cells #[.string x.s, .int .u64 (x.k : Int), .int .i64 x.f, .int .i64 x.t, .bool x.a, .slice x.p x.n x.c] T)) (some ⟨w.heap.size, 0, none⟩) 1 [x] := SrcG.new KCt w [x] T
end Go.Proofs.YtilnbmlbahflkaaDoor
