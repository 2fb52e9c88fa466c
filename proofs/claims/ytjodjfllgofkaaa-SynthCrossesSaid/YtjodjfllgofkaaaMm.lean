import Derived.Test.YtjodjfllgofkaaaPr
import Derived.Test.YtjodjfllgofkaaaTs
namespace Go.Proofs.Ytjodjfllgofkaaa
open Go.RowKit Amp
attribute [local go_sem] ix0 ix1 ix2 ix3 jx0 jx1 jx2 jx3
attribute [local go_sem high] run_eqNum run_neNum

set_option maxHeartbeats 2000000 in
theorem readBoth_yes (n : Nat) (ao bo : Option Addr) (cap dap : Nat) (x y : Nat → Nm) (w : World) (hn : n ≤ 6) (hx : Nums w ao (n * n) x) (hy : Nums w bo (n * n) y) (hv : Hid (mvS n (n * n) x = true)) (hu : Hid (mvS n (n * n) y = true)) :
    Calls Try.prog 120 #[.agg #[.int .i64 n, .slice ao (n * n) cap], .agg #[.int .i64 n, .slice bo (n * n) dap]] w fun e w' => e = .returned (.tuple #[.agg #[.int .i64 n, .slice ao (n * n) cap, .int .i64 n, .slice bo (n * n) dap], .int .i64 0]) ∧ Below w.heap.size w w' := by
  have h36 : n * n ≤ 36 := Nat.mul_le_mul hn hn
  have hbig : n * n ≤ 9223372036854775807 := by omega
  have HX := Lib.hid hx
  have HY := Lib.hid hy
  have HBG := Lib.hid hbig
  clear hx hy h36 hbig
  go_enter Try.func120, Try.ntmps120
  go_wp2_with fail
  refine (read_yes n ao (n * n) cap x _ HBG.out (HX.out.keep (by go_grown)) hv).mono ?_
  rintro e w1 ⟨rfl, hb⟩
  obtain ⟨ka1, kb1⟩ := bcell hb
  have c1_0_0 : w1.cell? ⟨w.heap.size + 1, 0, none⟩ = some (.int .i64 n) := (ka1 _ _ (by first | omega | (simp; done) | (simp; omega))).trans (by go_cell)
  have c1_0_1 : w1.cell? ⟨w.heap.size + 1, 1, none⟩ = some (.slice bo (n * n) dap) := (ka1 _ _ (by first | omega | (simp; done) | (simp; omega))).trans (by go_cell)
  have c1_1_0 : w1.cell? ⟨w.heap.size + 1 + 1, 0, none⟩ = some (.int .i64 0) := (ka1 _ _ (by first | omega | (simp; done) | (simp; omega))).trans (by go_cell)
  have f1_1_0 : w1.frozen? ⟨w.heap.size + 1 + 1, 0, none⟩ = false := (kb1 _ _ (by first | omega | (simp; done) | (simp; omega))).trans (by go_cell)
  have c1_1_1 : w1.cell? ⟨w.heap.size + 1 + 1, 1, none⟩ = some (.slice none 0 0) := (ka1 _ _ (by first | omega | (simp; done) | (simp; omega))).trans (by go_cell)
  have f1_1_1 : w1.frozen? ⟨w.heap.size + 1 + 1, 1, none⟩ = false := (kb1 _ _ (by first | omega | (simp; done) | (simp; omega))).trans (by go_cell)
  have c1_1_2 : w1.cell? ⟨w.heap.size + 1 + 1, 2, none⟩ = some (.int .i64 0) := (ka1 _ _ (by first | omega | (simp; done) | (simp; omega))).trans (by go_cell)
  have f1_1_2 : w1.frozen? ⟨w.heap.size + 1 + 1, 2, none⟩ = false := (kb1 _ _ (by first | omega | (simp; done) | (simp; omega))).trans (by go_cell)
  have c1_1_3 : w1.cell? ⟨w.heap.size + 1 + 1, 3, none⟩ = some (.slice none 0 0) := (ka1 _ _ (by first | omega | (simp; done) | (simp; omega))).trans (by go_cell)
  have f1_1_3 : w1.frozen? ⟨w.heap.size + 1 + 1, 3, none⟩ = false := (kb1 _ _ (by first | omega | (simp; done) | (simp; omega))).trans (by go_cell)
  have D1 : Below w.heap.size w w1 := Below.trans (by go_grown) (hb.mono (by first | omega | (simp; done) | (simp; omega)))
  have s1_0 : w.heap.size + 1 < w1.heap.size := by have hs := hb.size; (try simp at hs); omega
  have s1_1 : w.heap.size + 1 + 1 < w1.heap.size := by have hs := hb.size; (try simp at hs); omega
  clear hb ka1 kb1
  go_wp2_with fail
  refine (read_yes n bo (n * n) dap y _ HBG.out (HY.out.keep (by go_grown)) hu).mono ?_
  rintro e w2 ⟨rfl, hb⟩
  obtain ⟨ka2, kb2⟩ := bcell hb
  have c2_0_0 : w2.cell? ⟨w1.heap.size, 0, none⟩ = some (.int .i64 n) := (ka2 _ _ (by first | omega | (simp; done) | (simp; omega))).trans (by go_cell)
  have c2_0_1 : w2.cell? ⟨w1.heap.size, 1, none⟩ = some (.slice ao (n * n) cap) := (ka2 _ _ (by first | omega | (simp; done) | (simp; omega))).trans (by go_cell)
  have c2_1_0 : w2.cell? ⟨w.heap.size + 1 + 1, 0, none⟩ = some (.int .i64 0) := (ka2 _ _ (by first | omega | (simp; done) | (simp; omega))).trans (by go_cell)
  have f2_1_0 : w2.frozen? ⟨w.heap.size + 1 + 1, 0, none⟩ = false := (kb2 _ _ (by first | omega | (simp; done) | (simp; omega))).trans (by go_cell)
  have c2_1_1 : w2.cell? ⟨w.heap.size + 1 + 1, 1, none⟩ = some (.slice none 0 0) := (ka2 _ _ (by first | omega | (simp; done) | (simp; omega))).trans (by go_cell)
  have f2_1_1 : w2.frozen? ⟨w.heap.size + 1 + 1, 1, none⟩ = false := (kb2 _ _ (by first | omega | (simp; done) | (simp; omega))).trans (by go_cell)
  have c2_1_2 : w2.cell? ⟨w.heap.size + 1 + 1, 2, none⟩ = some (.int .i64 0) := (ka2 _ _ (by first | omega | (simp; done) | (simp; omega))).trans (by go_cell)
  have f2_1_2 : w2.frozen? ⟨w.heap.size + 1 + 1, 2, none⟩ = false := (kb2 _ _ (by first | omega | (simp; done) | (simp; omega))).trans (by go_cell)
  have c2_1_3 : w2.cell? ⟨w.heap.size + 1 + 1, 3, none⟩ = some (.slice none 0 0) := (ka2 _ _ (by first | omega | (simp; done) | (simp; omega))).trans (by go_cell)
  have f2_1_3 : w2.frozen? ⟨w.heap.size + 1 + 1, 3, none⟩ = false := (kb2 _ _ (by first | omega | (simp; done) | (simp; omega))).trans (by go_cell)
  have D2 : Below w.heap.size w w2 := Below.trans (by go_grown) (hb.mono (by first | omega | (simp; done) | (simp; omega)))
  have s2_0 : w1.heap.size < w2.heap.size := by have hs := hb.size; (try simp at hs); omega
  have s2_1 : w.heap.size + 1 + 1 < w2.heap.size := by have hs := hb.size; (try simp at hs); omega
  clear hb ka2 kb2
  clear D1 c1_0_0 c1_0_1 c1_1_0 f1_1_0 c1_1_1 f1_1_1 c1_1_2 f1_1_2 c1_1_3 f1_1_3
  go_wp2_with fail
  refine bodyPost_ret (v := .tuple #[.agg #[.int .i64 n, .slice ao (n * n) cap, .int .i64 n, .slice bo (n * n) dap], .int .i64 0]) (by simp [results, Try.results120, go_sem, *]) rfl ⟨rfl, by go_grown⟩

set_option maxHeartbeats 2000000 in
theorem readEqual_yes (n : Nat) (ao bo : Option Addr) (cap dap : Nat) (x y : Nat → Nm) (w : World) (hn : n ≤ 6) (hx : Nums w ao (n * n) x) (hy : Nums w bo (n * n) y) (hv : Hid (mvS n (n * n) x = true)) (hu : Hid (mvS n (n * n) y = true)) :
    Calls Try.prog 108 #[.agg #[.int .i64 n, .slice ao (n * n) cap], .agg #[.int .i64 n, .slice bo (n * n) dap]] w fun e w' => e = .returned (.tuple #[.agg #[.int .i64 n, .slice ao (n * n) cap, .int .i64 n, .slice bo (n * n) dap], .int .i64 0]) ∧ Below w.heap.size w w' := by
  have HX := Lib.hid hx
  have HY := Lib.hid hy
  clear hx hy
  go_enter Try.func108, Try.ntmps108
  go_wp2_with fail
  refine (readBoth_yes n ao bo cap dap x y _ hn (HX.out.keep (by go_grown)) (HY.out.keep (by go_grown)) hv hu).mono ?_
  rintro e w1 ⟨rfl, hb⟩
  obtain ⟨ka3, kb3⟩ := bcell hb
  have c3_0_0 : w1.cell? ⟨w.heap.size + 1 + 1, 0, none⟩ = some (.int .i64 0) := (ka3 _ _ (by first | omega | (simp; done) | (simp; omega))).trans (by go_cell)
  have f3_0_0 : w1.frozen? ⟨w.heap.size + 1 + 1, 0, none⟩ = false := (kb3 _ _ (by first | omega | (simp; done) | (simp; omega))).trans (by go_cell)
  have c3_0_1 : w1.cell? ⟨w.heap.size + 1 + 1, 1, none⟩ = some (.slice none 0 0) := (ka3 _ _ (by first | omega | (simp; done) | (simp; omega))).trans (by go_cell)
  have f3_0_1 : w1.frozen? ⟨w.heap.size + 1 + 1, 1, none⟩ = false := (kb3 _ _ (by first | omega | (simp; done) | (simp; omega))).trans (by go_cell)
  have c3_0_2 : w1.cell? ⟨w.heap.size + 1 + 1, 2, none⟩ = some (.int .i64 0) := (ka3 _ _ (by first | omega | (simp; done) | (simp; omega))).trans (by go_cell)
  have f3_0_2 : w1.frozen? ⟨w.heap.size + 1 + 1, 2, none⟩ = false := (kb3 _ _ (by first | omega | (simp; done) | (simp; omega))).trans (by go_cell)
  have c3_0_3 : w1.cell? ⟨w.heap.size + 1 + 1, 3, none⟩ = some (.slice none 0 0) := (ka3 _ _ (by first | omega | (simp; done) | (simp; omega))).trans (by go_cell)
  have f3_0_3 : w1.frozen? ⟨w.heap.size + 1 + 1, 3, none⟩ = false := (kb3 _ _ (by first | omega | (simp; done) | (simp; omega))).trans (by go_cell)
  have D3 : Below w.heap.size w w1 := Below.trans (by go_grown) (hb.mono (by first | omega | (simp; done) | (simp; omega)))
  have s3_0 : w.heap.size + 1 + 1 < w1.heap.size := by have hs := hb.size; (try simp at hs); omega
  clear hb ka3 kb3
  go_wp2_with fail
  refine bodyPost_ret (v := .tuple #[.agg #[.int .i64 n, .slice ao (n * n) cap, .int .i64 n, .slice bo (n * n) dap], .int .i64 0]) (by simp [results, Try.results108, go_sem, *]) rfl ⟨rfl, by go_grown⟩

/-- The product of two matrices of n rows. -/
def mulZ (n : Nat) (x y : Nat → Nm) (i j : Nat) : Nm × Int := dotS (fun t => x (i * n + t)) (fun t => y (t * n + j)) n
def mulF (n : Nat) (x y : Nat → Nm) : Nat → Nm := fun k => (mulZ n x y (k / n) (k % n)).1
def mulE (n : Nat) (x y : Nat → Nm) : Int := fstE (fun k => (mulZ n x y (k / n) (k % n)).2) (n * n)
set_option maxHeartbeats 4000000 in
theorem mMul_yes (n g h cap dap : Nat) (x y : Nat → Nm) (w : World) (h1 : 0 < n) (hn : n ≤ 6) (hcap : n * n ≤ cap) (hcm : cap ≤ 9223372036854775807) (hx : Numw w g (n * n) x) (hy : Numw w h (n * n) y) (hv : Hid (mvS n (n * n) x = true)) (hu : Hid (mvS n (n * n) y = true)) :
    Calls Try.prog 86 #[.agg #[.int .i64 n, .slice (some ⟨g, 0, none⟩) (n * n) cap], .agg #[.int .i64 n, .slice (some ⟨h, 0, none⟩) (n * n) dap]] w fun e w' => MatWOr w.heap.size w' e n (mulF n x y) (mulE n x y) ∧ Below w.heap.size w w' := by
  have HX := Lib.hid hx
  have HY := Lib.hid hy
  have HC1 := Lib.hid hcap
  clear hx hy hcap
  go_enter Try.func86, Try.ntmps86
  go_wp2_with fail
  refine (readEqual_yes n (some ⟨g, 0, none⟩) (some ⟨h, 0, none⟩) cap dap x y _ hn (HX.out.nums.keep (by go_grown)) (HY.out.nums.keep (by go_grown)) hv hu).mono ?_
  rintro e w1 ⟨rfl, hb⟩
  obtain ⟨ka4, kb4⟩ := bcell hb
  have c4_0_0 : w1.cell? ⟨w.heap.size + 1 + 1, 0, none⟩ = some (.int .i64 0) := (ka4 _ _ (by first | omega | (simp; done) | (simp; omega))).trans (by go_cell)
  have f4_0_0 : w1.frozen? ⟨w.heap.size + 1 + 1, 0, none⟩ = false := (kb4 _ _ (by first | omega | (simp; done) | (simp; omega))).trans (by go_cell)
  have c4_0_1 : w1.cell? ⟨w.heap.size + 1 + 1, 1, none⟩ = some (.slice none 0 0) := (ka4 _ _ (by first | omega | (simp; done) | (simp; omega))).trans (by go_cell)
  have f4_0_1 : w1.frozen? ⟨w.heap.size + 1 + 1, 1, none⟩ = false := (kb4 _ _ (by first | omega | (simp; done) | (simp; omega))).trans (by go_cell)
  have D4 : Below w.heap.size w w1 := Below.trans (by go_grown) (hb.mono (by first | omega | (simp; done) | (simp; omega)))
  have s4_0 : w.heap.size + 1 + 1 < w1.heap.size := by have hs := hb.size; (try simp at hs); omega
  clear hb ka4 kb4
  go_wp2_with fail
  refine (filledW_product n h1 hn (.agg #[.int .i64 n, .slice (some ⟨g, 0, none⟩) (n * n) cap, .int .i64 n, .slice (some ⟨h, 0, none⟩) (n * n) dap]) (mulZ n x y) _ (fun i j w2 hi hj hw2 => pairProduct_any n i j g cap h dap x y w2 hn hi hj HC1.out hcm (HX.out.keep ((show Below w.heap.size w _ by go_grown).trans (hw2.mono (by first | omega | (simp; done) | (simp; omega))))) (HY.out.keep ((show Below w.heap.size w _ by go_grown).trans (hw2.mono (by first | omega | (simp; done) | (simp; omega))))))).mono ?_
  rintro e w2 ⟨hm, hb⟩
  have HM := Lib.hid hm
  clear hm
  obtain ⟨ka5, kb5⟩ := bcell hb
  have c5_0_0 : w2.cell? ⟨w.heap.size + 1 + 1, 0, none⟩ = some (.int .i64 0) := (ka5 _ _ (by first | omega | (simp; done) | (simp; omega))).trans (by go_cell)
  have f5_0_0 : w2.frozen? ⟨w.heap.size + 1 + 1, 0, none⟩ = false := (kb5 _ _ (by first | omega | (simp; done) | (simp; omega))).trans (by go_cell)
  have c5_0_1 : w2.cell? ⟨w.heap.size + 1 + 1, 1, none⟩ = some (.slice none 0 0) := (ka5 _ _ (by first | omega | (simp; done) | (simp; omega))).trans (by go_cell)
  have f5_0_1 : w2.frozen? ⟨w.heap.size + 1 + 1, 1, none⟩ = false := (kb5 _ _ (by first | omega | (simp; done) | (simp; omega))).trans (by go_cell)
  have D5 : Below w.heap.size w w2 := Below.trans (by go_grown) (hb.mono (by first | omega | (simp; done) | (simp; omega)))
  have s5_0 : w.heap.size + 1 + 1 < w2.heap.size := by have hs := hb.size; (try simp at hs); omega
  clear hb ka5 kb5
  clear D4 c4_0_0 f4_0_0 c4_0_1 f4_0_1
  rcases HM.out with ⟨he, gg, gap, rfl, hnu, hg1, hg2, hg3⟩ | ⟨he, rfl⟩
  · have HN := Lib.hid hnu
    have HG := Lib.hid (And.intro hg2 hg3)
    have hg4 : ¬ w.heap.size + 1 + 1 = gg := by first | omega | (simp at hg1; omega)
    have hg5 : w.heap.size ≤ gg := by first | omega | (simp at hg1; omega)
    have HG5 := Lib.hid (And.intro hg4 hg5)
    clear hnu hg1 hg2 hg3 hg4 hg5
    go_wp2_with fail
    refine bodyPost_ret (v := .tuple #[.agg #[.int .i64 n, .slice (some ⟨gg, 0, none⟩) (n * n) gap], .int .i64 0]) (by simp [results, Try.results86, go_sem, *]) rfl ⟨.inl ⟨he, gg, gap, rfl, ?_, HG5.out.2, HG.out.1, HG.out.2⟩, by go_grown⟩
    exact (HN.out.other HG5.out.1).other HG5.out.1
  · have HE := Lib.hid he
    clear he
    go_wp2_with fail
    refine bodyPost_ret (v := .tuple #[.agg #[.int .i64 0, .slice none 0 0], .int .i64 (fstE (fun k => (mulZ n x y (k / n) (k % n)).2) (n * n))]) (by simp [results, Try.results86, go_sem, *]) rfl ⟨.inr ⟨HE.out, rfl⟩, by go_grown⟩
end Go.Proofs.Ytjodjfllgofkaaa
