import Derived.Test.YtilclpldfoifkaaEat
import Derived.Test.YtilclpldfoifkaaEu
namespace Encl
def okTo (f : Nat → Rc) : Nat → Bool
  | 0 => true
  | k + 1 => okTo f k && okR (f k)
theorem okTo_stop {f : Nat → Rc} {k : Nat} (h : okR (f k) = false) : ∀ m, k < m → okTo f m = false := by
  intro m
  induction m with
  | zero => intro h; omega
  | succ m ih =>
    intro hk
    simp only [okTo]
    by_cases e : k = m
    · subst e; rw [h]; simp
    · rw [ih (by omega)]; rfl
end Encl
namespace Go.Proofs.Ytilclpldfoifkaa
open Go.RowKit Encl
/-- Rectangles lie one behind the other from the head of block g on. -/
def Rcs (w : World) (g n : Nat) (f : Nat → Rc) : Prop := ∀ i, i < n → w.cell? ⟨g, i * 4, none⟩ = some (.int .i64 (f i).re.lo) ∧ w.cell? ⟨g, i * 4 + 1, none⟩ = some (.int .i64 (f i).re.hi) ∧ w.cell? ⟨g, i * 4 + 2, none⟩ = some (.int .i64 (f i).im.lo) ∧ w.cell? ⟨g, i * 4 + 3, none⟩ = some (.int .i64 (f i).im.hi)
set_option maxRecDepth 100000 in
set_option maxHeartbeats 4000000 in
theorem valid_any (g n cap : Nat) (f : Nat → Rc) (w : World) (hn : n ≤ 1000) (hc : Rcs w g n f) :
    Calls Try.prog 58 #[.slice (some ⟨g, 0, none⟩) n cap] w fun e w' => e = .returned (.bool (okTo f n)) ∧ Below w.heap.size w w' := by
  have HC := Lib.hid hc
  clear hc
  go_enter Try.func58, Try.ntmps58
  go_wp2_with fail
  go_loopw [7] (fun iv wr => ∃ k : Nat, iv = .int .i64 k ∧ k ≤ n ∧ Hid (okTo f k = true) ∧ Below w.heap.size w wr) (fun iv _ => n - (intOf iv).toNat)
  case atStart => exact ⟨0, rfl, by omega, Lib.hid rfl, Below.refl _ _⟩
  case round =>
    obtain ⟨k, rfl, hk, HS, hbel⟩ := hrel
    have DB := Lib.hid hbel
    clear hbel
    by_cases hlt : k < n
    · have hlt' : (k : Int) < (n : Int) := by omega
      obtain ⟨p, q, s, t, hf⟩ : ∃ p q s t, f k = ⟨⟨p, q⟩, ⟨s, t⟩⟩ := ⟨_, _, _, _, rfl⟩
      have HF := Lib.hid hf
      obtain ⟨m0, m1, m2, m3⟩ := HC.out k hlt
      have hB : g < w.heap.size := World.block_lt_of_cell? w _ m0
      rw [hf] at m0 m1 m2 m3
      have g0 : wr.cell? ⟨g, k * 4, none⟩ = some (.int .i64 p) := (DB.out.cell (p := ⟨g, k * 4, none⟩) hB).trans m0
      have g1 : wr.cell? ⟨g, k * 4 + 1, none⟩ = some (.int .i64 q) := (DB.out.cell (p := ⟨g, k * 4 + 1, none⟩) hB).trans m1
      have g2 : wr.cell? ⟨g, k * 4 + 2, none⟩ = some (.int .i64 s) := (DB.out.cell (p := ⟨g, k * 4 + 2, none⟩) hB).trans m2
      have g3 : wr.cell? ⟨g, k * 4 + 3, none⟩ = some (.int .i64 t) := (DB.out.cell (p := ⟨g, k * 4 + 3, none⟩) hB).trans m3
      clear hf m0 m1 m2 m3
      obtain ⟨b1, hb1⟩ : ∃ b, okS ⟨p, q⟩ = b := ⟨_, rfl⟩
      obtain ⟨b2, hb2⟩ : ∃ b, okS ⟨s, t⟩ = b := ⟨_, rfl⟩
      have HB1 := Lib.hid hb1
      have HB2 := Lib.hid hb2
      clear hb1 hb2
      go_wp2_with fail
      refine (eValid_any p q _).mono ?_
      rw [HB1.out]
      rintro e w1 ⟨rfl, hb⟩
      have D1 := Lib.hid ((DB.out.alloc DB.out.size (Obj.cells #[.int .i64 p, .int .i64 q, .int .i64 s, .int .i64 t] 25)).trans (hb.mono (by have := DB.out.size; simp; omega)))
      have s1 : wr.heap.size < w1.heap.size := by have hs := hb.size; (try simp at hs); omega
      obtain ⟨k1, k2⟩ := bcl hb
      have c2 := (k1 wr.heap.size 2 (by simp)).trans (by go_cell : _ = some (.int .i64 s))
      have c3 := (k1 wr.heap.size 3 (by simp)).trans (by go_cell : _ = some (.int .i64 t))
      clear hb k1 k2 g0 g1 g2 g3
      cases b1 with
      | false =>
        have HZ : Hid (okTo f n = false) := Lib.hid (okTo_stop (by rw [HF.out]; unfold okR; rw [HB1.out]; rfl) n hlt)
        go_wp2_with fail
        go_returns
        exact ⟨by rw [HZ.out]; rfl, D1.out⟩
      | true =>
        go_wp2_with fail
        refine (eValid_any s t _).mono ?_
        rw [HB2.out]
        rintro e w2 ⟨rfl, hb⟩
        have D2 := Lib.hid (D1.out.trans (hb.mono D1.out.size))
        clear hb c2 c3
        cases b2 with
        | false =>
          have HZ : Hid (okTo f n = false) := Lib.hid (okTo_stop (by rw [HF.out]; unfold okR; rw [HB1.out, HB2.out]; rfl) n hlt)
          go_wp2_with fail
          go_returns
          exact ⟨by rw [HZ.out]; rfl, D2.out⟩
        | true =>
          have HZ : Hid (okTo f (k + 1) = true) := Lib.hid (by simp only [okTo]; rw [HS.out, HF.out]; unfold okR; rw [HB1.out, HB2.out]; rfl)
          go_wp2_with fail
          go_roundw
          case rel => exact ⟨k + 1, by go_num, by omega, HZ, D2.out⟩
          case measure => simp [intOf]; omega
    · obtain rfl : k = n := by omega
      go_wp2_with fail
      go_returns
      exact ⟨by rw [HS.out]; rfl, DB.out⟩
end Go.Proofs.Ytilclpldfoifkaa
