/-
  The walk of the law WireTexts: the bytes of any text, the text of any bytes, and that they come back.
-/
import Derived.Test.YtdlbjbfonihglaaAwake
import Derived.Test.YtdlbjbfonihglaaUnhex
import Derived.Test.YtdlbjbfonihglaaRUnhex
import Derived.Test.YtdlbjbfonihglaaHex
import Derived.Test.YtdlbjbfonihglaaRHex
import Derived.Test.YtdlbjbfonihglaaRCompare
namespace Go.Proofs.Ytdlbjbfonihglaa
open Go.RowKit
set_option linter.unusedVariables false

/-- The number of the error of a text. -/
def codeR (L : List Int) : Int := if L.length % 2 = 1 then 2 else match unh L with | none => 4 | some _ => 0
/-- The bytes of a text. -/
def bytR (L : List Int) : List Int := if L.length % 2 = 1 then [] else (unh L).getD []
theorem bytR_rng (L : List Int) : ∀ y ∈ bytR L, 0 ≤ y ∧ y ≤ 255 := by
  unfold bytR
  split
  · intro y hy; simp at hy
  · cases hu : unh L with
    | none => intro y hy; simp at hy
    | some ys => exact unh_rng L ys hu
/-- How Unhex ends, in one form for all texts. -/
def TextEnd (w : World) (N : Nat) (bs : List Int) (k : Int) (e : Ending) (w' : World) : Prop := ∃ p c, e = .returned (.tuple #[.slice p N c, .int .i64 k]) ∧ Byt w' p N c bs ∧ Below w.heap.size w w'

theorem unhex_text (s : ByteArray) (w : World) (hs : s.size ≤ 140737488355328) (N : Nat) (hN : (bytR (letters s)).length = N) :
    Calls Try.prog 24 #[.string s] w (TextEnd w N (bytR (letters s)) (codeR (letters s))) := by
  subst hN
  refine (unhex_any s w hs).mono ?_
  rintro e w' ⟨hb, ⟨h1, rfl⟩ | ⟨h1, h2, rfl⟩ | ⟨h1, ys, v, h2, rfl, ho⟩⟩
  · rw [codeR, bytR, if_pos h1, if_pos h1]
    exact ⟨none, 0, rfl, Byt.nil _ _ _ (Nat.zero_le _), hb⟩
  · rw [codeR, bytR, if_neg (by omega), if_neg (by omega), h2]
    exact ⟨none, 0, rfl, Byt.nil _ _ _ (Nat.zero_le _), hb⟩
  · rw [codeR, bytR, if_neg (by omega), if_neg (by omega), h2]
    obtain ⟨p, c, rfl, hy⟩ := ho.byt (unh_rng _ _ h2)
    exact ⟨p, c, rfl, hy, hb⟩
theorem runhex_text (s : ByteArray) (w : World) (hs : s.size ≤ 140737488355328) (N : Nat) (hN : (bytR (letters s)).length = N) :
    Calls Try.prog 25 #[.string s] w (TextEnd w N (bytR (letters s)) (codeR (letters s))) := by
  subst hN
  refine (runhex_any s w hs).mono ?_
  rintro e w' ⟨hb, ⟨h1, rfl⟩ | ⟨h1, h2, rfl⟩ | ⟨h1, ys, v, h2, rfl, ho⟩⟩
  · rw [codeR, bytR, if_pos h1, if_pos h1]
    exact ⟨none, 0, rfl, Byt.nil _ _ _ (Nat.zero_le _), hb⟩
  · rw [codeR, bytR, if_neg (by omega), if_neg (by omega), h2]
    exact ⟨none, 0, rfl, Byt.nil _ _ _ (Nat.zero_le _), hb⟩
  · rw [codeR, bytR, if_neg (by omega), if_neg (by omega), h2]
    obtain ⟨p, c, rfl, hy⟩ := ho.byt (unh_rng _ _ h2)
    exact ⟨p, c, rfl, hy, hb⟩

set_option maxHeartbeats 800000 in
theorem wireTexts_walk (s : ByteArray) (p : Option Addr) (n c : Nat) (xs : List Int) (w : World) (b0 : s.size ≤ 1048576) (h : Byt w p n c xs) (b1 : c ≤ 1048576) :
    Calls Try.prog 5 #[.string s, .slice p n c] w fun e w' => e = .returned (.bool true) ∧ Below w.heap.size w w' := by
  have l0 := h.cap
  have hl := h.len
  obtain ⟨N, hN⟩ : ∃ N, (bytR (letters s)).length = N := ⟨_, rfl⟩
  have C1 := fun W => unhex_text s W (by omega) N hN
  have C2 := fun W => runhex_text s W (by omega) N hN
  have C3 := fun W (hb : Below w.heap.size w W) => hex_any p n c xs W (h.below hb) (by omega)
  have C4 := fun W (hb : Below w.heap.size w W) => rhex_any p n c xs W (h.below hb) (by omega)
  have hsz : (strOfNums (hx xs)).size = 2 * n := by rw [strOfNums_size, hx_len, hl]
  have hlet : letters (strOfNums (hx xs)) = hx xs := letters_nums _ (hx_rng h.rng)
  have hev : ¬ (hx xs).length % 2 = 1 := by rw [hx_len]; omega
  have hc0 : codeR (hx xs) = 0 := by rw [codeR, if_neg hev, unh_hx xs h.rng]
  have hb0 : bytR (hx xs) = xs := by rw [bytR, if_neg hev, unh_hx xs h.rng]; rfl
  have C5 := fun W => unhex_text (strOfNums (hx xs)) W (by omega) n (by rw [hlet, hb0, hl])
  rw [hlet, hc0, hb0] at C5
  have C6 := fun W (hb : Below w.heap.size w W) q d (hy : Byt W q n d xs) => requal_any q p n d n c xs xs W hy (h.below hb)
  rw [decide_eq_true rfl] at C6
  have C7 := fun W q d r e (hy : Byt W q N d (bytR (letters s))) (hz : Byt W r N e (bytR (letters s))) => requal_any q r N d N e _ _ W hy hz
  rw [decide_eq_true rfl] at C7
  generalize strOfNums (hx xs) = S at *
  generalize codeR (letters s) = k at *
  generalize bytR (letters s) = bs at *
  have D1 := hidden C1
  have D2 := hidden C2
  have D3 := hidden C3
  have D4 := hidden C4
  have D5 := hidden C5
  have D6 := hidden C6
  have D7 := hidden C7
  clear C1 C2 C3 C4 C5 C6 C7 h hl hN hsz hlet hev hc0 hb0
  go_enter Try.func5, Try.ntmps5
  go_wp2_with (first
    | (go_at_call 10; refine (awake_any _).mono ?_; rintro e w1 ⟨rfl, hb1⟩; have HB := hidden hb1; clear hb1)
    | (go_at_call 24; (with_reducible refine (D1.out _).mono ?_); rintro e w2 ⟨p1, c1, rfl, hy, hb⟩; have HY := hidden hy; have HB2 := hidden (HB.out.trans (hb.mono HB.out.size)); clear hy hb)
    | (go_at_call 25; (with_reducible refine (D2.out _).mono ?_); rintro e w3 ⟨p2, c2, rfl, hy, hb⟩; have HZ := hidden hy; have HY2 := hidden (HY.out.below hb); have HB3 := hidden (HB2.out.trans (hb.mono HB2.out.size)); clear hy hb)
    | (go_at_call 26; (with_reducible refine (D3.out _ HB3.out).mono ?_); rintro e w4 ⟨rfl, hb⟩; have HZ3 := hidden (HZ.out.below hb); have HY3 := hidden (HY2.out.below hb); have HB4 := hidden (HB3.out.trans (hb.mono HB3.out.size)); clear hb)
    | (go_at_call 24; (with_reducible refine (D5.out _).mono ?_); rintro e w5 ⟨p3, c3, rfl, hy, hb⟩; have HX := hidden hy; have HZ4 := hidden (HZ3.out.below hb); have HY4 := hidden (HY3.out.below hb); have HB5 := hidden (HB4.out.trans (hb.mono HB4.out.size)); clear hy hb)
    | (go_at_call 14; (with_reducible refine (D7.out _ _ _ _ _ HY4.out HZ4.out).mono ?_); rintro e w6 ⟨rfl, hd⟩; have HX2 := hidden (HX.out.below (drew_below hd)); have HB6 := hidden (HB5.out.trans (drew_below hd)); clear hd)
    | (go_at_call 27; (with_reducible refine (D4.out _ HB6.out).mono ?_); rintro e w7 ⟨rfl, hb⟩; have HX3 := hidden (HX2.out.below hb); have HB7 := hidden (HB6.out.trans (hb.mono HB6.out.size)); clear hb)
    | (go_at_call 14; (with_reducible refine (D6.out _ HB7.out _ _ HX3.out).mono ?_); rintro e w8 ⟨rfl, hd⟩; have HB8 := hidden (HB7.out.trans (drew_below hd)); clear hd))
  go_ret
  exact ⟨rfl, HB8.out⟩
end Go.Proofs.Ytdlbjbfonihglaa
