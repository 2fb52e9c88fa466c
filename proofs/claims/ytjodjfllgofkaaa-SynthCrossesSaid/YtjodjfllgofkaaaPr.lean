import Derived.Test.YtjodjfllgofkaaaCo
namespace Go.Proofs.Ytjodjfllgofkaaa
open Go.RowKit Amp
attribute [local go_sem] ix0 ix1 ix2 ix3 jx0 jx1 jx2 jx3
attribute [local go_sem high] run_eqNum run_neNum
theorem nums_keep' {w w1 : World} {ao : Option Addr} {n : Nat} {f : Nat → Nm} (hb : Below w.heap.size w w1) (h : Nums w ao n f) : Nums w1 ao n f := h.keep hb

set_option maxRecDepth 100000 in
set_option maxHeartbeats 4000000 in
theorem pairProduct_any (n i j g cap h dap : Nat) (x y : Nat → Nm) (w : World) (hn : n ≤ 6) (hi : i < n) (hj : j < n) (hcap : n * n ≤ cap) (hcm : cap ≤ 9223372036854775807) (hx : Numw w g (n * n) x) (hy : Numw w h (n * n) y) :
    Calls Try.prog 109 #[.agg #[.int .i64 n, .slice (some ⟨g, 0, none⟩) (n * n) cap, .int .i64 n, .slice (some ⟨h, 0, none⟩) (n * n) dap], .int .i64 i, .int .i64 j] w fun e w' => e = Ret5 (dotS (fun t => x (i * n + t)) (fun t => y (t * n + j)) n) ∧ Below w.heap.size w w' := by
  have HX := Lib.hid hx
  have HY := Lib.hid hy
  have HC1 := Lib.hid hcap
  clear hx hy hcap
  obtain ⟨x0, x1, x2, x3, x4, xe, HM⟩ := res5 (dotS (fun t => x (i * n + t)) (fun t => y (t * n + j)) n)
  go_enter Try.func109, Try.ntmps109
  go_wp2_with fail
  have hb0 : Below w.heap.size w ((w.alloc (Obj.cells #[.int .i64 n, .slice (some ⟨g, 0, none⟩) (n * n) cap, .int .i64 n, .slice (some ⟨h, 0, none⟩) (n * n) dap] 135)).alloc (Obj.cells #[.int .i64 0, .int .i64 0, .int .i64 0, .int .i64 0, .int .i64 0] 63)) := by go_grown
  have hs0 : ((w.alloc (Obj.cells #[.int .i64 n, .slice (some ⟨g, 0, none⟩) (n * n) cap, .int .i64 n, .slice (some ⟨h, 0, none⟩) (n * n) dap] 135)).alloc (Obj.cells #[.int .i64 0, .int .i64 0, .int .i64 0, .int .i64 0, .int .i64 0] 63)).cell? ⟨w.heap.size, 0, none⟩ = some (.int .i64 n) ∧ ((w.alloc (Obj.cells #[.int .i64 n, .slice (some ⟨g, 0, none⟩) (n * n) cap, .int .i64 n, .slice (some ⟨h, 0, none⟩) (n * n) dap] 135)).alloc (Obj.cells #[.int .i64 0, .int .i64 0, .int .i64 0, .int .i64 0, .int .i64 0] 63)).cell? ⟨w.heap.size, 1, none⟩ = some (.slice (some ⟨g, 0, none⟩) (n * n) cap) ∧ ((w.alloc (Obj.cells #[.int .i64 n, .slice (some ⟨g, 0, none⟩) (n * n) cap, .int .i64 n, .slice (some ⟨h, 0, none⟩) (n * n) dap] 135)).alloc (Obj.cells #[.int .i64 0, .int .i64 0, .int .i64 0, .int .i64 0, .int .i64 0] 63)).cell? ⟨w.heap.size, 2, none⟩ = some (.int .i64 n) ∧ ((w.alloc (Obj.cells #[.int .i64 n, .slice (some ⟨g, 0, none⟩) (n * n) cap, .int .i64 n, .slice (some ⟨h, 0, none⟩) (n * n) dap] 135)).alloc (Obj.cells #[.int .i64 0, .int .i64 0, .int .i64 0, .int .i64 0, .int .i64 0] 63)).cell? ⟨w.heap.size, 3, none⟩ = some (.slice (some ⟨h, 0, none⟩) (n * n) dap) := ⟨by go_cell, by go_cell, by go_cell, by go_cell⟩
  have hR : Has5 ((w.alloc (Obj.cells #[.int .i64 n, .slice (some ⟨g, 0, none⟩) (n * n) cap, .int .i64 n, .slice (some ⟨h, 0, none⟩) (n * n) dap] 135)).alloc (Obj.cells #[.int .i64 0, .int .i64 0, .int .i64 0, .int .i64 0, .int .i64 0] 63)) (w.heap.size + 1) 0 0 0 0 0 := by refine ⟨⟨?_, ?_, ?_, ?_, ?_⟩, ?_, ?_, ?_, ?_, ?_⟩ <;> go_cell
  have hsz : w.heap.size + 1 < ((w.alloc (Obj.cells #[.int .i64 n, .slice (some ⟨g, 0, none⟩) (n * n) cap, .int .i64 n, .slice (some ⟨h, 0, none⟩) (n * n) dap] 135)).alloc (Obj.cells #[.int .i64 0, .int .i64 0, .int .i64 0, .int .i64 0, .int .i64 0] 63)).heap.size := by simp
  generalize ((w.alloc (Obj.cells #[.int .i64 n, .slice (some ⟨g, 0, none⟩) (n * n) cap, .int .i64 n, .slice (some ⟨h, 0, none⟩) (n * n) dap] 135)).alloc (Obj.cells #[.int .i64 0, .int .i64 0, .int .i64 0, .int .i64 0, .int .i64 0] 63)) = W at *
  have hsz0 : w.heap.size < W.heap.size := by omega
  have V0 : ∀ w', Below W.heap.size W w' → w'.cell? ⟨w.heap.size, 0, none⟩ = some (.int .i64 n) ∧ w'.cell? ⟨w.heap.size, 1, none⟩ = some (.slice (some ⟨g, 0, none⟩) (n * n) cap) ∧ w'.cell? ⟨w.heap.size, 2, none⟩ = some (.int .i64 n) ∧ w'.cell? ⟨w.heap.size, 3, none⟩ = some (.slice (some ⟨h, 0, none⟩) (n * n) dap) := fun w' hb => by
    have e1 := fun o' => hb.cell (p := ⟨w.heap.size, o', none⟩) hsz0
    rw [e1, e1, e1, e1]
    exact hs0
  have V1 : ∀ w', Below W.heap.size W w' → Has5 w' (w.heap.size + 1) 0 0 0 0 0 := fun w' hb => hR.keep hb hsz
  have G0 := Lib.hid V0
  have G1 := Lib.hid V1
  have HB0 := Lib.hid hb0
  have hr := hR
  obtain ⟨⟨r0, r1, r2, r3, r4⟩, t0, t1, t2, t3, t4⟩ := hr
  clear V0 V1 hb0 hs0 hR
  go_region_held3 (fun w' => w'.cell? ⟨w.heap.size, 0, none⟩ = some (.int .i64 n) ∧ w'.cell? ⟨w.heap.size, 1, none⟩ = some (.slice (some ⟨g, 0, none⟩) (n * n) cap) ∧ w'.cell? ⟨w.heap.size, 2, none⟩ = some (.int .i64 n) ∧ w'.cell? ⟨w.heap.size, 3, none⟩ = some (.slice (some ⟨h, 0, none⟩) (n * n) dap))
    ((first | (refine G0.out _ ?_; go_grown; done) | go_keep))
    ((first
      | (go_at_call 95; refine (row_any n i g cap x _ hn hi HC1.out hcm ?_).mono ?_; (focus (refine HX.out.keep (Below.trans HB0.out ?_); refine Below.mono ?_ (show w.heap.size ≤ W.heap.size by omega); go_grown)); rintro e wA ⟨⟨ra, rd, rfl, hra⟩, hb⟩; have HD : Below W.heap.size W wA := (Below.trans (by first | exact Below.refl _ _ | go_grown) (hb.mono (by first | omega | (simp; done) | (simp; omega)))); have hzA := HD.size; have DA := HB0.out.trans (HD.mono (show w.heap.size ≤ W.heap.size by omega)); obtain ⟨⟨_, _, _, _, _⟩, _, _, _, _, _⟩ := G1.out _ HD; have HRA := Lib.hid hra; (try have HCB := Lib.hid (nums_keep' hb HCB.out)); clear hb hra)
      | (go_at_call 121; refine (column_any n j h dap y _ hn hj ?_).mono ?_; (focus (refine HY.out.keep (Below.trans HB0.out ?_); refine Below.mono ?_ (show w.heap.size ≤ W.heap.size by omega); go_grown)); rintro e wB ⟨⟨ca, cd, rfl, hca⟩, hb⟩; have HD : Below W.heap.size W wB := (Below.trans (by first | exact Below.refl _ _ | go_grown) (hb.mono (by first | omega | (simp; done) | (simp; omega)))); have hzA := HD.size; have DA := HB0.out.trans (HD.mono (show w.heap.size ≤ W.heap.size by omega)); obtain ⟨⟨_, _, _, _, _⟩, _, _, _, _, _⟩ := G1.out _ HD; have HCB := Lib.hid hca; (try have HRA := Lib.hid (nums_keep' hb HRA.out)); clear hb hca)
      | (go_at_call 94; refine (dot_any n _ _ _ _ (fun t => x (i * n + t)) (fun t => y (t * n + j)) _ hn ?_ ?_).mono ?_; (focus (exact HRA.out)); (focus (exact HCB.out)); rintro e wC ⟨rfl, hb⟩; rw [HM.out]; unfold Ret5; (try simp only); have HD : Below W.heap.size W wC := (Below.trans (by first | exact Below.refl _ _ | go_grown) (hb.mono (by first | omega | (simp; done) | (simp; omega)))); have hzA := HD.size; have DA := HB0.out.trans (HD.mono (show w.heap.size ≤ W.heap.size by omega)); obtain ⟨⟨_, _, _, _, _⟩, _, _, _, _, _⟩ := G1.out _ HD; have lC : w.heap.size + 1 < wC.heap.size := (by omega); clear hb)))
  all_goals go_wp2_with fail
  all_goals (refine bodyPost_ret (v := .tuple #[.agg #[.int .i64 x0, .int .i64 x1, .int .i64 x2, .int .i64 x3, .int .i64 x4], .int .i64 xe]) (by simp [results, Try.results109, go_sem, *]) rfl ⟨by rw [HM.out]; rfl, by go_grown⟩)
end Go.Proofs.Ytjodjfllgofkaaa
