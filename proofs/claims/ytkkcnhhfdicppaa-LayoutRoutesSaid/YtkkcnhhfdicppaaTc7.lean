import Derived.Test.YtkkcnhhfdicppaaRc7
import Derived.Test.YtkkcnhhfdicppaaTb7
namespace Lay
/-- One for true. -/
def oneT (b : Bool) : Nat := if b = true then 1 else 0
theorem idx_dm3 {Wn Hn N x y : Nat} (hN : N = Hn * Wn) (hx : x < Wn) (hy : y < Hn) : y * Wn + x < N ∧ (y * Wn + x) % Wn = x ∧ (y * Wn + x) / Wn = y := by
  refine ⟨?_, by rw [Nat.mul_comm, Nat.mul_add_mod, Nat.mod_eq_of_lt hx], by rw [Nat.mul_comm, Nat.mul_add_div (by omega), Nat.div_eq_of_lt hx]; omega⟩
  have h : (y + 1) * Wn ≤ Hn * Wn := Nat.mul_le_mul_right _ hy
  rw [Nat.succ_mul] at h
  omega
/-- The pass so far: nothing became less, and what was looked at stands; or the sum became less. -/
def Ps (T0 T : Nat → Int) (n : Nat) (ch : Bool) (D : Prop) : Prop := (ch = false ∧ T = T0 ∧ D) ∨ (ch = true ∧ sumT T n < sumT T0 n)
theorem Ps.mono {T0 T : Nat → Int} {n : Nat} {ch : Bool} {D D' : Prop} (h : Ps T0 T n ch D) (hd : D → D') : Ps T0 T n ch D' := by
  rcases h with ⟨a, b, c⟩ | h
  · exact Or.inl ⟨a, b, hd c⟩
  · exact Or.inr h
end Lay
namespace Go.Proofs.Ytkkcnhhfdicppaa
open Go.RowKit Lay
/-- A block of whole numbers, and one of truth values. -/
def TBk (w : World) (b n : Nat) (T : Nat → Int) : Prop := ∃ cur, w.heap[b]? = some (.cells cur 106 (0, 0)) ∧ cur.size = n ∧ ∀ j, j < n → cur[j]? = some (.int .i64 (T j))
def SBk (w : World) (b n : Nat) (f : Nat → Bool) : Prop := ∃ cur, w.heap[b]? = some (.cells cur 4 (0, 0)) ∧ cur.size = n ∧ ∀ j, j < n → cur[j]? = some (.bool (f j))
theorem TBk.lt {w : World} {b n : Nat} {T : Nat → Int} (h : TBk w b n T) : b < w.heap.size := by obtain ⟨cur, h1, _⟩ := h; exact (Array.getElem?_eq_some_iff.1 h1).1
theorem SBk.lt {w : World} {b n : Nat} {f : Nat → Bool} (h : SBk w b n f) : b < w.heap.size := by obtain ⟨cur, h1, _⟩ := h; exact (Array.getElem?_eq_some_iff.1 h1).1
theorem TBk.keep {w w' : World} {b n : Nat} {T : Nat → Int} (h : TBk w b n T) (e : w'.heap[b]? = w.heap[b]?) : TBk w' b n T := by obtain ⟨cur, h1, h2⟩ := h; exact ⟨cur, e.trans h1, h2⟩
theorem SBk.keep {w w' : World} {b n : Nat} {f : Nat → Bool} (h : SBk w b n f) (e : w'.heap[b]? = w.heap[b]?) : SBk w' b n f := by obtain ⟨cur, h1, h2⟩ := h; exact ⟨cur, e.trans h1, h2⟩
theorem TBk.cell {w : World} {b n j : Nat} {T : Nat → Int} (h : TBk w b n T) (hj : j < n) : w.cell? ⟨b, j, none⟩ = some (.int .i64 (T j)) := by obtain ⟨cur, h1, _, h3⟩ := h; exact (cell_of_row w b j cur _ (0, 0) h1).trans (h3 j hj)
theorem SBk.cell {w : World} {b n j : Nat} {f : Nat → Bool} (h : SBk w b n f) (hj : j < n) : w.cell? ⟨b, j, none⟩ = some (.bool (f j)) := by obtain ⟨cur, h1, _, h3⟩ := h; exact (cell_of_row w b j cur _ (0, 0) h1).trans (h3 j hj)
theorem TBk.fz {w : World} {b n : Nat} {T : Nat → Int} (h : TBk w b n T) (j : Nat) : w.frozen? ⟨b, j, none⟩ = false := by obtain ⟨cur, h1, _⟩ := h; simp [World.frozen?, h1]
theorem SBk.fz {w : World} {b n : Nat} {f : Nat → Bool} (h : SBk w b n f) (j : Nat) : w.frozen? ⟨b, j, none⟩ = false := by obtain ⟨cur, h1, _⟩ := h; simp [World.frozen?, h1]
theorem TBk.put {w : World} {b n j : Nat} {T : Nat → Int} (h : TBk w b n T) (hj : j < n) (v : Int) : TBk (w.setCell ⟨b, j, none⟩ (.int .i64 v)) b n (upd T j v) := by
  obtain ⟨cur, h1, h2, h3⟩ := h
  refine ⟨_, heap_setCell_same w b j cur _ _ h1, by rw [Array.size_setIfInBounds]; exact h2, fun k hk => ?_⟩
  by_cases e : k = j
  · subst e; rw [upd_eq, Array.getElem?_setIfInBounds_self_of_lt (by omega)]
  · rw [upd_ne T v e, Array.getElem?_setIfInBounds_ne (by omega)]; exact h3 k hk
theorem SBk.put {w : World} {b n j : Nat} {f : Nat → Bool} (h : SBk w b n f) (hj : j < n) (v : Bool) : SBk (w.setCell ⟨b, j, none⟩ (.bool v)) b n (upd f j v) := by
  obtain ⟨cur, h1, h2, h3⟩ := h
  refine ⟨_, heap_setCell_same w b j cur _ _ h1, by rw [Array.size_setIfInBounds]; exact h2, fun k hk => ?_⟩
  by_cases e : k = j
  · subst e; rw [upd_eq, Array.getElem?_setIfInBounds_self_of_lt (by omega)]
  · rw [upd_ne f v e, Array.getElem?_setIfInBounds_ne (by omega)]; exact h3 k hk
theorem size_made (cs : Array Value) (n : Nat) : (madeCells cs n).size = n := by simp [madeCells]
/-- Four numbers of the table. -/
def upd4 (T : Nat → Int) (i : Nat) (v : Int) : Nat → Int := upd (upd (upd (upd T (i * 4) v) (i * 4 + 1) v) (i * 4 + 2) v) (i * 4 + 3) v
theorem upd4_at {T : Nat → Int} {i : Nat} {v : Int} {c : Nat} (hc : c < 4) : upd4 T i v (i * 4 + c) = v := by
  have : c = 0 ∨ c = 1 ∨ c = 2 ∨ c = 3 := by omega
  unfold upd4 upd
  rcases this with rfl | rfl | rfl | rfl <;> simp
theorem upd4_ne {T : Nat → Int} {i : Nat} {v : Int} {j : Nat} (h : j < i * 4 ∨ i * 4 + 4 ≤ j) : upd4 T i v j = T j := by
  unfold upd4
  rw [upd_ne _ _ (by omega), upd_ne _ _ (by omega), upd_ne _ _ (by omega), upd_ne _ _ (by omega)]
def put4 (w : World) (b i : Nat) (v : Int) : World := (((w.setCell ⟨b, i * 4, none⟩ (.int .i64 v)).setCell ⟨b, i * 4 + 1, none⟩ (.int .i64 v)).setCell ⟨b, i * 4 + 2, none⟩ (.int .i64 v)).setCell ⟨b, i * 4 + 3, none⟩ (.int .i64 v)
theorem TBk.put4 {w : World} {b n i : Nat} {T : Nat → Int} (h : TBk w b n T) (hi : i * 4 + 4 ≤ n) (v : Int) : TBk (put4 w b i v) b n (upd4 T i v) := (((h.put (by omega) v).put (by omega) v).put (by omega) v).put (by omega) v
theorem put4_other {w : World} {b i k : Nat} {v : Int} (h : k ≠ b) : (put4 w b i v).heap[k]? = w.heap[k]? := by
  unfold put4
  rw [Below.heap_setCell _ _ _ _ h, Below.heap_setCell _ _ _ _ h, Below.heap_setCell _ _ _ _ h, Below.heap_setCell _ _ _ _ h]
theorem put4_below {a w : World} {b i s : Nat} {v : Int} (h : Below s a w) (hb : s ≤ b) : Below s a (put4 w b i v) := (((h.setCell (p := ⟨b, i * 4, none⟩) hb _).setCell (p := ⟨b, i * 4 + 1, none⟩) hb _).setCell (p := ⟨b, i * 4 + 2, none⟩) hb _).setCell (p := ⟨b, i * 4 + 3, none⟩) hb _
theorem rNextd (x y : Int) (d : Nat) (w : World) (hd : d < 4) (hx : -1000 ≤ x ∧ x < 1000) (hy : -1000 ≤ y ∧ y < 1000) :
    Calls Try.prog 51 #[.agg #[.int .i64 x, .int .i64 y], .int .i64 (d : Int)] w fun e w' => e = .returned (.agg #[.int .i64 (nx x d), .int .i64 (ny y d)]) ∧ Below w.heap.size w w' := by
  have : d = 0 ∨ d = 1 ∨ d = 2 ∨ d = 3 := by omega
  rcases this with rfl | rfl | rfl | rfl
  · have h := rNextw_0 x y w
    rw [show IntKind.i64.wrap (x + 1) = nx x ((0 : Nat) : Int) by rw [IntKind.wrap_i64]; simp [nx]; omega] at h
    exact h
  · have h := rNextw_1 x y w
    rw [show IntKind.i64.wrap (y + 1) = ny y ((1 : Nat) : Int) by rw [IntKind.wrap_i64]; simp [ny]; omega] at h
    exact h
  · have h := rNextw_2 x y w
    rw [show IntKind.i64.wrap (x - 1) = nx x ((2 : Nat) : Int) by rw [IntKind.wrap_i64]; simp [nx]; omega] at h
    exact h
  · have h := rNextw_3 x y w
    rw [show IntKind.i64.wrap (y - 1) = ny y ((3 : Nat) : Int) by rw [IntKind.wrap_i64]; simp [ny]; omega] at h
    exact h
set_option maxRecDepth 100000 in
set_option maxHeartbeats 64000000 in
theorem table_any (W H M B tx ty : Int) (nb cb Wn Hn N : Nat) (ao : Option Addr) (XB YB : Nat → Int) (w : World) (hc : XYs w ao nb XB YB) (hv : vaG W H M B nb XB YB = true) (hot : opB W H (blkN XB YB nb) tx ty = true) (hW : W = Wn) (hH : H = Hn) (hN : N = Hn * Wn) :
    Calls Try.prog 63 #[.agg #[.int .i64 W, .int .i64 H, .int .i64 M, .int .i64 B, .slice ao nb cb], .agg #[.int .i64 tx, .int .i64 ty]] w fun e w' => ∃ (b : Nat) (T : Nat → Int), e = .returned (.slice (some ⟨b, 0, none⟩) N N) ∧ TBk w' b (N * 4) T ∧ TFin (opB W H (blkN XB YB nb)) M B tx ty Wn N T ∧ w.heap.size ≤ b ∧ Below w.heap.size w w' := by
  have HC := Lib.hid hc
  obtain ⟨hnum, _⟩ := vaG_num hv
  have hn63 : nb ≤ 9223372036854775807 := by omega
  have hon := (opB_iff.1 hot).1
  have HOT := Lib.hid hot
  have hN9 : N ≤ 900 := by rw [hN]; exact Nat.le_trans (Nat.mul_le_mul (show Hn ≤ 30 by omega) (show Wn ≤ 30 by omega)) (by decide)
  have hWH : W * H = N := by rw [hW, hH, hN]; push_cast; exact Int.mul_comm _ _
  have hWn0 : 0 < Wn := by omega
  have HNW := Lib.hid (And.intro hW (And.intro hH hN))
  have HWH := Lib.hid hWH
  have hW0 : ¬ W = 0 := by omega
  have hwN : IntKind.i64.wrap (N : Int) = N := by rw [IntKind.wrap_i64]; omega
  obtain ⟨ib, hib, hbz, hbs, hbb⟩ := info_parts (show (Try.prog.info? 4 ).map (fun i => (i.zero, i.size, i.bytes)) = some (some (.bool false), 1, 1) by kernel_rfl)
  obtain ⟨ia, hia, haz, has, hab⟩ := info_parts (show (Try.prog.info? 106 ).map (fun i => (i.zero, i.size, i.bytes)) = some (some (.agg #[.int .i64 0, .int .i64 0, .int .i64 0, .int .i64 0]), 4, 32) by kernel_rfl)
  have hmk1 : ∀ w : World, (Instr.makeSlice 128 (.int .i64 (N : Int)) (.int .i64 (N : Int))).run Try.prog w = .ok (.slice (some ⟨w.heap.size, 0, none⟩) N N) (w.alloc (.cells (madeCells #[.bool false] N) 4)) := fun w => by
    have h := run_makeSlice (P := Try.prog) (w := w) 128 4 ib (.bool false) Try.underlying128 hib hbz .i64 .i64 N N (by omega) (by omega) (by rw [hbs]; omega) (by rw [hbb]; omega) (by omega)
    rw [hbs, Int.toNat_natCast, Nat.mul_one] at h
    exact h
  have hmk2 : ∀ w : World, (Instr.makeSlice 103 (.int .i64 (N : Int)) (.int .i64 (N : Int))).run Try.prog w = .ok (.slice (some ⟨w.heap.size, 0, none⟩) N N) (w.alloc (.cells (madeCells #[.int .i64 0, .int .i64 0, .int .i64 0, .int .i64 0] (N * 4)) 106)) := fun w => by
    have h := run_makeSlice (P := Try.prog) (w := w) 103 106 ia (.agg #[.int .i64 0, .int .i64 0, .int .i64 0, .int .i64 0]) Try.underlying103 hia haz .i64 .i64 N N (by omega) (by omega) (by rw [has]; omega) (by rw [hab]; omega) (by omega)
    rw [has, Int.toNat_natCast] at h
    exact h
  clear hc hv hot hW hH hN hib hbz hbs hbb hia haz has hab
  obtain ⟨w2, hw2⟩ : ∃ z, z = (w.alloc (.cells #[.int .i64 W, .int .i64 H, .int .i64 M, .int .i64 B, .slice ao nb cb] 24)).alloc (.cells #[.int .i64 tx, .int .i64 ty] 26) := ⟨_, rfl⟩
  obtain ⟨w3, hw3⟩ : ∃ z, z = w2.alloc (.cells (madeCells #[.bool false] N) 4) := ⟨_, rfl⟩
  obtain ⟨w4, hw4⟩ : ∃ z, z = w3.alloc (.cells (madeCells #[.int .i64 0, .int .i64 0, .int .i64 0, .int .i64 0] (N * 4)) 106) := ⟨_, rfl⟩
  have hs2 : w2.heap.size = w.heap.size + 1 + 1 := by rw [hw2]; simp
  have hs3 : w3.heap.size = w.heap.size + 1 + 1 + 1 := by rw [hw3]; simp; omega
  have hs4 : w4.heap.size = w.heap.size + 1 + 1 + 1 + 1 := by rw [hw4]; simp; omega
  obtain ⟨bG, hbG⟩ : ∃ z, z = w.heap.size := ⟨_, rfl⟩
  obtain ⟨bt, hbt⟩ : ∃ z, z = w.heap.size + 1 := ⟨_, rfl⟩
  obtain ⟨bS, hbS⟩ : ∃ z, z = w.heap.size + 1 + 1 := ⟨_, rfl⟩
  obtain ⟨bT, hbT⟩ : ∃ z, z = w.heap.size + 1 + 1 + 1 := ⟨_, rfl⟩
  have h34 : Below w3.heap.size w3 w4 := by rw [hw4]; exact bal (Below.refl _ _) _
  have h23 : Below w2.heap.size w2 w3 := by rw [hw3]; exact bal (Below.refl _ _) _
  have KG4 : Hid (w4.heap[bG]? = some (.cells #[.int .i64 W, .int .i64 H, .int .i64 M, .int .i64 B, .slice ao nb cb] 24 (0, 0))) := Lib.hid ((h34.block _ (by omega)).trans ((h23.block _ (by omega)).trans (by rw [hw2, hbG]; exact (Below.heap_alloc _ _ _ (by simp)).trans (heap_alloc_new w _))))
  have KT4 : Hid (w4.heap[bt]? = some (.cells #[.int .i64 tx, .int .i64 ty] 26 (0, 0))) := Lib.hid ((h34.block _ (by omega)).trans ((h23.block _ (by omega)).trans (by rw [hw2, hbt]; have h := heap_alloc_new (w.alloc (.cells #[.int .i64 W, .int .i64 H, .int .i64 M, .int .i64 B, .slice ao nb cb] 24)) (.cells #[.int .i64 tx, .int .i64 ty] 26); rwa [World.size_alloc] at h)))
  have HS4 : Hid (SBk w4 bS N (fun _ => false)) := Lib.hid ⟨_, (h34.block _ (by omega)).trans (by rw [hw3, hbS, ← hs2]; exact heap_alloc_new w2 _), size_made _ _, fun j hj => by simp [madeCells, hj, Nat.mod_one]⟩
  have HT4 : Hid (∃ T, TBk w4 bT (N * 4) T) := Lib.hid ⟨fun _ => 0, _, by rw [hw4, hbT, ← hs3]; exact heap_alloc_new w3 _, size_made _ _, fun j hj => by
    have h4 : j % 4 = 0 ∨ j % 4 = 1 ∨ j % 4 = 2 ∨ j % 4 = 3 := by omega
    rcases h4 with e | e | e | e <;> simp [madeCells, hj, e]⟩
  have HB4 : Hid (Below w.heap.size w w4) := Lib.hid ((show Below w.heap.size w w2 by rw [hw2]; go_grown).trans ((h23.mono (by omega)).trans (h34.mono (by omega))))
  have hlt : bG < bt ∧ bt < bS ∧ bS < bT ∧ bT < w4.heap.size := by omega
  have hbG0 : w.heap.size ≤ bG := by omega
  have HWS := Lib.hid (And.intro hw2 (And.intro hw3 hw4))
  have HBS := Lib.hid (And.intro hbG (And.intro hbt (And.intro hbS hbT)))
  clear hw2 hw3 hw4 hs2 hs3 hs4 hbG hbt hbS hbT h34 h23
  go_enter Try.func63, Try.ntmps63
  rw [HWH.out] at hWH
  have hWH' : W * H = (N : Int) := HWH.out
  go_upto_region 3 with fail
  rw [← HWS.out.1, ← HWS.out.2.1, ← HWS.out.2.2]
  try rw [← HBS.out.2.2.2]
  try rw [← HBS.out.2.2.1]
  try rw [← HBS.out.2.1]
  try rw [← HBS.out.1]
  clear HWS HBS hmk1 hmk2 hwN
  go_wp2_with fail
  obtain ⟨T9, hT9⟩ := HT4.out
  have HT5 := Lib.hid hT9
  clear HT4 hT9
  go_loopg [29] N (fun gg v29 wr => ∃ (i : Nat) (f : Nat → Bool) (T : Nat → Int), v29 = .int .i64 i ∧ i ≤ N ∧ Hid (N - i ≤ gg) ∧ Hid (SBk wr bS N f) ∧ Hid (TBk wr bT (N * 4) T) ∧ Hid (∀ j, j < i → f j = !opB W H (blkN XB YB nb) (j % Wn : Nat) (j / Wn : Nat)) ∧ Hid (∀ j, j < i * 4 → T j = Nn) ∧ Hid (wr.heap[bG]? = some (.cells #[.int .i64 W, .int .i64 H, .int .i64 M, .int .i64 B, .slice ao nb cb] 24 (0, 0))) ∧ Hid (wr.heap[bt]? = some (.cells #[.int .i64 tx, .int .i64 ty] 26 (0, 0))) ∧ Hid (Below w.heap.size w wr) ∧ bT < wr.heap.size)
  case atStart => exact ⟨0, _, T9, rfl, Nat.zero_le _, Lib.hid (by omega), HS4, HT5, Lib.hid (fun j hj => by omega), Lib.hid (fun j hj => by omega), KG4, KT4, HB4, hlt.2.2.2⟩
  case round =>
    obtain ⟨i, f, T, rfl, hi, HG, HS, HT, HF, HTN, KG, KT, HB, hz⟩ := hrel
    clear HS4 HT5 KG4 KT4 HB4
    by_cases hlti : i < N
    case pos =>
      have HGG : Hid (N - i ≤ gk) := Lib.hid HG.out
      clear HG
      obtain ⟨x, hx⟩ : ∃ z : Int, ((i % Wn : Nat) : Int) = z := ⟨_, rfl⟩
      obtain ⟨y, hy⟩ : ∃ z : Int, ((i / Wn : Nat) : Int) = z := ⟨_, rfl⟩
      have HXY : Hid (((i % Wn : Nat) : Int) = x ∧ ((i / Wn : Nat) : Int) = y) := Lib.hid ⟨hx, hy⟩
      have m1 : ((i : Int)).tmod W = x := by rw [Int.tmod_eq_emod_of_nonneg (Int.natCast_nonneg _), HNW.out.1, ← hx]; push_cast; rfl
      have m2 : IntKind.i64.wrap ((i : Int) / W) = y := by
        have e : (i : Int) / W = y := by rw [HNW.out.1, ← hy]; push_cast; rfl
        have h1 : i / Wn ≤ i := Nat.div_le_self _ _
        generalize i / Wn = q at h1 hy
        rw [e, IntKind.wrap_i64]; omega
      have G0 : Hid (∀ w' : World, Below wr.heap.size wr w' → w'.heap[bG]? = some (.cells #[.int .i64 W, .int .i64 H, .int .i64 M, .int .i64 B, .slice ao nb cb] 24 (0, 0)) ∧ w'.cell? ⟨bG, 0, none⟩ = some (.int .i64 W)) := Lib.hid (fun w' hb => ⟨(hb.block _ (by omega)).trans KG.out, cell_of_blk ((hb.block _ (by omega)).trans KG.out) rfl⟩)
      have D0 : Below wr.heap.size wr wr.drew := (Below.refl _ _).drew
      obtain ⟨op, hop⟩ : ∃ z, opB W H (blkN XB YB nb) x y = z := ⟨_, rfl⟩
      have HOP := Lib.hid hop
      clear hx hy hop
      go_upto_region 6 with fail
      go_cut [] (fun wx => Hid (SBk wx bS N (upd f i (!op))) ∧ Hid (TBk wx bT (N * 4) T) ∧ Hid (wx.heap[bG]? = some (.cells #[.int .i64 W, .int .i64 H, .int .i64 M, .int .i64 B, .slice ao nb cb] 24 (0, 0))) ∧ Hid (wx.heap[bt]? = some (.cells #[.int .i64 tx, .int .i64 ty] 26 (0, 0))) ∧ Hid (Below w.heap.size w wx) ∧ bT < wx.heap.size)
      case first =>
        refine wp_region_held_drew (S := fun w' => w'.heap[bG]? = some (.cells #[.int .i64 W, .int .i64 H, .int .i64 M, .int .i64 B, .slice ao nb cb] 24 (0, 0)) ∧ w'.cell? ⟨bG, 0, none⟩ = some (.int .i64 W)) (by kernel_rfl) (G0.out _ D0) (fun hHeld => ?_)
        refine wpAnyH_take (i := 0) (oi := _) (v := ?_) rfl (by kernel_rfl) (by kernel_rfl) (by kernel_rfl) (fun _ _ _ h => h) (Or.inl ⟨by rfl, ?_⟩) (by assumption) ?_
        rotate_left
        · intro w hSw; obtain ⟨s0, s1⟩ := hSw; go_simp; (try with_reducible rfl)
        try change wpAnyH _ _ _ _ _ _ _ (Act.put _ (some 32) _) _
        try simp only [act_all]
        refine wpAnyH_take (i := 1) (oi := _) (v := ?_) rfl (by kernel_rfl) (by kernel_rfl) (by kernel_rfl) (fun _ _ _ h => h) (Or.inl ⟨by rfl, ?_⟩) (by assumption) ?_
        rotate_left
        · intro w hSw; obtain ⟨s0, s1⟩ := hSw; go_simp; (try with_reducible rfl)
        try change wpAnyH _ _ _ _ _ _ _ (Act.put _ (some 33) _) _
        try simp only [act_all]
        refine wpAnyH_take (i := 2) (oi := _) (v := _) rfl (by kernel_rfl) (by kernel_rfl) (by kernel_rfl) (fun _ _ _ h => h) (yieldsIf_load_mid (by rfl) 24 _ rfl bG 0 rfl ([.int .i64 W, .int .i64 H, .int .i64 M, .int .i64 B, .slice ao nb cb]) _ (fun w' hh => range_row hh.1 0 [.int .i64 W, .int .i64 H, .int .i64 M, .int .i64 B, .slice ao nb cb] (fun j hj => by simp only [Nat.zero_add, List.getElem?_toArray])) Try.underlying24 rfl (by kernel_rfl)) (by assumption) ?_
        try change wpAnyH _ _ _ _ _ _ _ (Act.put _ (some 34) _) _
        try simp only [act_all]
        refine wpAnyH_take (i := 3) (oi := _) (v := ?_) rfl (by kernel_rfl) (by kernel_rfl) (by kernel_rfl) (fun _ _ _ h => h) (Or.inl ⟨by rfl, ?_⟩) (by assumption) ?_
        rotate_left
        · intro w hSw; obtain ⟨s0, s1⟩ := hSw; go_simp; (try with_reducible rfl)
        try change wpAnyH _ _ _ _ _ _ _ (Act.put _ (some 35) _) _
        try simp only [act_all]
        refine wpAnyH_take (i := 4) (oi := _) (v := ?_) rfl (by kernel_rfl) (by kernel_rfl) (by kernel_rfl) (fun _ _ _ h => h) (Or.inl ⟨by rfl, ?_⟩) (by assumption) ?_
        rotate_left
        · intro w hSw; obtain ⟨s0, s1⟩ := hSw; go_simp; (try with_reducible rfl)
        try change wpAnyH _ _ _ _ _ _ _ (Act.put _ (some 36) _) _
        try simp only [act_all]
        refine wpAnyH_take (i := 5) (oi := _) (v := ?_) rfl (by kernel_rfl) (by kernel_rfl) (by kernel_rfl) (fun _ _ _ h => h) (Or.inl ⟨by rfl, ?_⟩) (by assumption) ?_
        rotate_left
        · intro w hSw; obtain ⟨s0, s1⟩ := hSw; go_simp; (try with_reducible rfl)
        try change wpAnyH _ _ _ _ _ _ _ (Act.put _ (some 37) _) _
        try simp only [act_all]
        refine wpAnyH_take (i := 6) (oi := _) (v := ?_) rfl (by kernel_rfl) (by kernel_rfl) (by kernel_rfl) (fun _ _ _ h => h) (Or.inl ⟨by rfl, ?_⟩) (by assumption) ?_
        rotate_left
        · intro w hSw; obtain ⟨s0, s1⟩ := hSw; go_simp; (try with_reducible rfl)
        try change wpAnyH _ _ _ _ _ _ _ (Act.put _ (some 38) _) _
        try simp only [act_all]
        refine wpAnyH_take (i := 7) (oi := _) (v := ?_) rfl (by kernel_rfl) (by kernel_rfl) (by kernel_rfl) (fun _ _ _ h => h) (Or.inl ⟨by rfl, ?_⟩) (by assumption) ?_
        rotate_left
        · intro w hSw; obtain ⟨s0, s1⟩ := hSw; go_simp; (try with_reducible rfl)
        try change wpAnyH _ _ _ _ _ _ _ (Act.put _ (some 39) _) _
        try simp only [act_all]
        refine wpAnyH_take (i := 8) (oi := _) (v := ?_) rfl (by kernel_rfl) (by kernel_rfl) (by kernel_rfl) (fun _ _ _ h => h) (Or.inl ⟨by rfl, ?_⟩) (by assumption) ?_
        rotate_left
        · intro w hSw; obtain ⟨s0, s1⟩ := hSw; go_simp; (try with_reducible rfl)
        try change wpAnyH _ _ _ _ _ _ _ (Act.put _ (some 40) _) _
        try simp only [act_all]
        refine wpAnyH_take (i := 9) (oi := _) (v := ?_) rfl (by kernel_rfl) (by kernel_rfl) (by kernel_rfl) (fun _ _ _ h => h) (Or.inl ⟨by rfl, ?_⟩) (by assumption) ?_
        rotate_left
        · intro w hSw; obtain ⟨s0, s1⟩ := hSw; go_simp; (try with_reducible rfl)
        try change wpAnyH _ _ _ _ _ _ _ (Act.put _ (some 41) _) _
        try simp only [act_all]
        refine wpAnyH_take (i := 10) (oi := _) (v := ?_) rfl (by kernel_rfl) (by kernel_rfl) (by kernel_rfl) (fun _ _ _ h => h) (Or.inl ⟨by rfl, ?_⟩) (by assumption) ?_
        rotate_left
        · intro w hSw; obtain ⟨s0, s1⟩ := hSw; go_simp; (try with_reducible rfl)
        try change wpAnyH _ _ _ _ _ _ _ (Act.put _ (some 42) _) _
        try simp only [act_all]
        refine wpAnyH_take (i := 11) (oi := _) (v := ?_) rfl (by kernel_rfl) (by kernel_rfl) (by kernel_rfl) (fun _ _ _ h => h) (Or.inl ⟨by rfl, ?_⟩) (by assumption) ?_
        rotate_left
        · intro w hSw; obtain ⟨s0, s1⟩ := hSw; go_simp; (try with_reducible rfl)
        try change wpAnyH _ _ _ _ _ _ _ (Act.put _ (some 43) _) _
        try simp only [act_all]
        refine wpAnyH_ready (rs := [12]) (by kernel_rfl) (by simp) ?_
        refine AllReadyH.cons (o := _) rfl (fun K hK => ?_) AllReadyH.nil
        go_simp
        refine (rOpen_any W H M B x y nb cb ao XB YB _ hn63 (HC.out.keep (HB.out.trans (D0.mono HB.out.size)))).mono ?_
        rw [HOP.out]
        rintro e_ t1 ⟨rfl, hb⟩
        have D1 : Below wr.heap.size wr t1 := D0.trans (hb.mono D0.size)
        have HS1 := Lib.hid (HS.out.keep (D1.block _ (by omega)))
        have v0 : t1.cell? ⟨bS, i, none⟩ = some (.bool (f i)) := HS1.out.cell hlti
        have v1 : t1.frozen? ⟨bS, i, none⟩ = false := HS1.out.fz i
        clear hb hHeld
        refine hK.out _ _ (G0.out _ D1) (fun hHeld => ?_)
        clear hK K
        try simp only [act_all]
        refine wpAnyH_take (i := 13) (oi := _) (v := ?_) rfl (by kernel_rfl) (by kernel_rfl) (by kernel_rfl) (fun _ _ _ h => h) (Or.inl ⟨by rfl, ?_⟩) (by assumption) ?_
        rotate_left
        · intro w hSw; obtain ⟨s0, s1⟩ := hSw; go_simp; (try with_reducible rfl)
        try change wpAnyH _ _ _ _ _ _ _ (Act.put _ (some 45) _) _
        try simp only [act_all]
        refine wpAnyH_take (i := 14) (oi := _) (v := ?_) rfl (by kernel_rfl) (by kernel_rfl) (by kernel_rfl) (fun _ _ _ h => h) (Or.inl ⟨by rfl, ?_⟩) (by assumption) ?_
        rotate_left
        · intro w hSw; obtain ⟨s0, s1⟩ := hSw; go_simp; (try with_reducible rfl)
        try change wpAnyH _ _ _ _ _ _ _ (Act.put _ (some 46) _) _
        try simp only [act_all]
        refine wpAnyH_ready (rs := [15]) (by kernel_rfl) (by simp) ?_
        refine AllReadyH.cons (o := _) rfl (fun K hK => ?_) AllReadyH.nil
        go_simp
        have hGS : (t1.setCell ⟨bS, i, none⟩ (.bool (!op))).heap[bG]? = t1.heap[bG]? := Below.heap_setCell _ _ _ _ (show bG ≠ bS by omega)
        have s2 : (t1.setCell ⟨bS, i, none⟩ (.bool (!op))).heap[bG]? = some (.cells #[.int .i64 W, .int .i64 H, .int .i64 M, .int .i64 B, .slice ao nb cb] 24 (0, 0)) ∧ (t1.setCell ⟨bS, i, none⟩ (.bool (!op))).cell? ⟨bG, 0, none⟩ = some (.int .i64 W) := ⟨hGS.trans (G0.out _ D1).1, (World.cell?_of_block hGS).trans (G0.out _ D1).2⟩
        clear hHeld
        refine hK.out _ _ s2 (fun hHeld => ?_)
        clear hK K
        try simp only [act_all]
        refine wpAnyH_done (by kernel_rfl) ?_ _
        clear hHeld s2 v0 v1
        have hzN : bT < (t1.setCell ⟨bS, i, none⟩ (.bool (!op))).heap.size := by have := D1.size; simp; omega
        have o1 : Hid (SBk (t1.setCell ⟨bS, i, none⟩ (.bool (!op))) bS N (upd f i (!op))) := Lib.hid (HS1.out.put hlti _)
        have o2 : Hid (TBk (t1.setCell ⟨bS, i, none⟩ (.bool (!op))) bT (N * 4) T) := Lib.hid (HT.out.keep ((Below.heap_setCell _ _ _ _ (show bT ≠ bS by omega)).trans (D1.block _ (by omega))))
        have o3 : Hid ((t1.setCell ⟨bS, i, none⟩ (.bool (!op))).heap[bG]? = some (.cells #[.int .i64 W, .int .i64 H, .int .i64 M, .int .i64 B, .slice ao nb cb] 24 (0, 0))) := Lib.hid (hGS.trans (G0.out _ D1).1)
        have o4 : Hid ((t1.setCell ⟨bS, i, none⟩ (.bool (!op))).heap[bt]? = some (.cells #[.int .i64 tx, .int .i64 ty] 26 (0, 0))) := Lib.hid ((Below.heap_setCell _ _ _ _ (show bt ≠ bS by omega)).trans ((D1.block _ (by omega)).trans KT.out))
        have o5 : Hid (Below w.heap.size w (t1.setCell ⟨bS, i, none⟩ (.bool (!op)))) := Lib.hid ((HB.out.trans (D1.mono HB.out.size)).setCell (p := ⟨bS, i, none⟩) (by show w.heap.size ≤ bS; omega) _)
        clear G0 D0 D1 HS1 hGS
        go_wp2_with fail
        go_meet
        exact ⟨o1, o2, o3, o4, o5, hzN⟩
      case rest =>
        obtain ⟨HS1, HT1, KG1, KT1, HB1, hz1⟩ := hcut
        clear G0 D0 HS HT KG KT HB hz m1 m2
        have v0 := HT1.out.cell (j := i * 4) (by omega)
        have v1 := HT1.out.cell (j := i * 4 + 1) (by omega)
        have v2 := HT1.out.cell (j := i * 4 + 2) (by omega)
        have v3 := HT1.out.cell (j := i * 4 + 3) (by omega)
        have vf := HT1.out.fz
        obtain ⟨wP, hwP⟩ : ∃ z, z = put4 wc bT i Nn := ⟨_, rfl⟩
        have HT2 : Hid (TBk wP bT (N * 4) (upd4 T i Nn)) := Lib.hid (by rw [hwP]; exact HT1.out.put4 (by omega) _)
        have HS2 : Hid (SBk wP bS N (upd f i (!op))) := Lib.hid (HS1.out.keep (by rw [hwP]; exact put4_other (by omega)))
        have KG2 : Hid (wP.heap[bG]? = some (.cells #[.int .i64 W, .int .i64 H, .int .i64 M, .int .i64 B, .slice ao nb cb] 24 (0, 0))) := Lib.hid ((by rw [hwP]; exact put4_other (by omega) : wP.heap[bG]? = wc.heap[bG]?).trans KG1.out)
        have KT2 : Hid (wP.heap[bt]? = some (.cells #[.int .i64 tx, .int .i64 ty] 26 (0, 0))) := Lib.hid ((by rw [hwP]; exact put4_other (by omega) : wP.heap[bt]? = wc.heap[bt]?).trans KT1.out)
        have HB2 : Hid (Below w.heap.size w wP) := Lib.hid (by rw [hwP]; exact put4_below HB1.out (by omega))
        have hz2 : bT < wP.heap.size := HT2.out.lt
        have HF2 : Hid (∀ j, j < i + 1 → upd f i (!op) j = !opB W H (blkN XB YB nb) (j % Wn : Nat) (j / Wn : Nat)) := Lib.hid (fun j hj => by
          by_cases e : j = i
          · subst e; rw [upd_eq, HXY.out.1, HXY.out.2, HOP.out]
          · rw [upd_ne f _ e]; exact HF.out j (by omega))
        have HTN2 : Hid (∀ j, j < (i + 1) * 4 → upd4 T i Nn j = Nn) := Lib.hid (fun j hj => by
          by_cases e : j < i * 4
          · rw [upd4_ne (Or.inl e)]; exact HTN.out j e
          · have : j = i * 4 + (j - i * 4) := by omega
            rw [this]; exact upd4_at (by omega))
        have HWP : Hid (wP = (((wc.setCell ⟨bT, i * 4, none⟩ (.int .i64 1099511627776)).setCell ⟨bT, i * 4 + 1, none⟩ (.int .i64 1099511627776)).setCell ⟨bT, i * 4 + 2, none⟩ (.int .i64 1099511627776)).setCell ⟨bT, i * 4 + 3, none⟩ (.int .i64 1099511627776)) := Lib.hid hwP
        clear hwP HS1 HT1 KG1 KT1 HB1 hz1 HF HTN
        go_upto_region 8 with fail
        rw [← HWP.out]
        clear v0 v1 v2 v3 vf HWP
        go_wp2_with fail
        go_roundg (N - (i + 1))
        case measure => have := HGG.out; omega
        case rel => exact ⟨i + 1, _, _, by go_num, by omega, Lib.hid (Nat.le_refl _), HS2, HT2, HF2, HTN2, KG2, KT2, HB2, hz2⟩
    obtain rfl : i = N := by omega
    obtain ⟨jt, hjt⟩ : ∃ j : Nat, ty * W + tx = j := ⟨(ty * W + tx).toNat, by have := Int.mul_nonneg hon.2.2.1 (show 0 ≤ W by omega); omega⟩
    have hjd : jt < i ∧ ((jt % Wn : Nat) : Int) = tx ∧ ((jt / Wn : Nat) : Int) = ty := by
      obtain ⟨e2, e3, e4⟩ := HNW.out
      obtain ⟨xa, hxa⟩ : ∃ k : Nat, tx = k := ⟨tx.toNat, by omega⟩
      obtain ⟨ya, hya⟩ : ∃ k : Nat, ty = k := ⟨ty.toNat, by omega⟩
      have hj : jt = ya * Wn + xa := by have h := hjt; rw [e2, hxa, hya, ← Int.natCast_mul, ← Int.natCast_add] at h; exact (Int.ofNat.inj h).symm
      obtain ⟨d1, d2, d3⟩ := idx_dm3 (x := xa) (y := ya) e4 (by omega) (by omega)
      rw [hj, d2, d3]
      exact ⟨d1, hxa.symm, hya.symm⟩
    have hmt : 0 ≤ ty * W := Int.mul_nonneg hon.2.2.1 (by omega)
    have z2 : IntKind.i64.wrap (ty * W) = ty * W := by rw [IntKind.wrap_i64]; omega
    have z4 : IntKind.i64.wrap (jt : Int) = jt := by rw [IntKind.wrap_i64]; omega
    have z6 : (jt : Int) < (i : Int) := by omega
    have v0 := HT.out.cell (j := jt * 4) (by omega)
    have v1 := HT.out.cell (j := jt * 4 + 1) (by omega)
    have v2 := HT.out.cell (j := jt * 4 + 2) (by omega)
    have v3 := HT.out.cell (j := jt * 4 + 3) (by omega)
    have vf := HT.out.fz
    obtain ⟨g0, g1, g2, g3, g4⟩ := G5.c KG.out
    obtain ⟨p0, p1⟩ : wr.cell? ⟨bt, 0, none⟩ = some (.int .i64 tx) ∧ wr.cell? ⟨bt, 1, none⟩ = some (.int .i64 ty) := ⟨cell_of_blk KT.out rfl, cell_of_blk KT.out rfl⟩
    obtain ⟨wP, hwP⟩ : ∃ z, z = put4 wr bT jt 0 := ⟨_, rfl⟩
    have HTP : Hid (TBk wP bT (i * 4) (upd4 T jt 0)) := Lib.hid (by rw [hwP]; exact HT.out.put4 (by omega) _)
    have HSP : Hid (SBk wP bS i f) := Lib.hid (HS.out.keep (by rw [hwP]; exact put4_other (by omega)))
    have KGP : Hid (wP.heap[bG]? = some (.cells #[.int .i64 W, .int .i64 H, .int .i64 M, .int .i64 B, .slice ao nb cb] 24 (0, 0))) := Lib.hid ((by rw [hwP]; exact put4_other (by omega) : wP.heap[bG]? = wr.heap[bG]?).trans KG.out)
    have HBP : Hid (Below w.heap.size w wP) := Lib.hid (by rw [hwP]; exact put4_below HB.out (by omega))
    have hzP : bT < wP.heap.size := HTP.out.lt
    have HIP : Hid (TInv (opB W H (blkN XB YB nb)) M B tx ty Wn i (upd4 T jt 0)) := Lib.hid (TInv.start (t := jt) (fun c hc => upd4_at hc) (fun k hk hn c hc => by rw [upd4_ne (by omega)]; exact HTN.out _ (by omega)) hjd.2.1 hjd.2.2)
    have HWP : Hid (wP = (((wr.setCell ⟨bT, jt * 4, none⟩ (.int .i64 0)).setCell ⟨bT, jt * 4 + 1, none⟩ (.int .i64 0)).setCell ⟨bT, jt * 4 + 2, none⟩ (.int .i64 0)).setCell ⟨bT, jt * 4 + 3, none⟩ (.int .i64 0)) := Lib.hid hwP
    obtain ⟨TP, hTP⟩ : ∃ z, upd4 T jt 0 = z := ⟨_, rfl⟩
    rw [hTP] at HTP HIP
    clear hwP HT HS KG KT HB hz HTN HG hTP hmt
    go_upto_region 10 with fail
    rw [← HWP.out]
    clear v0 v1 v2 v3 vf g0 g1 g2 g3 g4 p0 p1 z2 z4 z6 HWP hjd hjt
    go_wp2_with fail
    go_loopg [8] (sumT TP (i * 4) + 1) (fun gg v8 wr => ∃ (ch : Bool) (T : Nat → Int), v8 = .bool ch ∧ Hid (sumT T (i * 4) + oneT ch ≤ gg) ∧ Hid (ch = false → TFin (opB W H (blkN XB YB nb)) M B tx ty Wn i T) ∧ Hid (TInv (opB W H (blkN XB YB nb)) M B tx ty Wn i T) ∧ Hid (TBk wr bT (i * 4) T) ∧ Hid (SBk wr bS i f) ∧ Hid (wr.heap[bG]? = some (.cells #[.int .i64 W, .int .i64 H, .int .i64 M, .int .i64 B, .slice ao nb cb] 24 (0, 0))) ∧ Hid (Below w.heap.size w wr) ∧ bT < wr.heap.size)
    case atStart => exact ⟨true, TP, rfl, Lib.hid (Nat.le_refl _), Lib.hid (fun h => by cases h), HIP, HTP, HSP, KGP, HBP, hzP⟩
    case round =>
      obtain ⟨ch, T0, rfl, HG, HFN, HI, HT, HS, KG, HB, hz⟩ := hrel
      clear HIP HTP HSP KGP HBP hzP
      cases ch with
      | false =>
        have HR := Lib.hid (HFN.out rfl)
        clear HFN
        go_wp2_with fail
        refine bodyPost_ret (v := .slice (some ⟨bT, 0, none⟩) i i) (by simp [results, Try.results63, go_sem]) rfl ⟨bT, T0, rfl, HT.out, HR.out, by omega, HB.out⟩
      | true =>
        have HGM : Hid (sumT T0 (i * 4) + 1 ≤ gk) := Lib.hid HG.out
        clear HG HFN
        have HPS0 : Hid (Ps T0 T0 (i * 4) false (∀ k, k < 0 → ∀ d, d < 4 → ∀ c, c < 4 → Fix (opB W H (blkN XB YB nb)) M B Wn T0 k d c)) := Lib.hid (Or.inl ⟨rfl, rfl, fun k hk => by omega⟩)
        go_wp2_with fail
        go_loopg [8, 66] i (fun gg v8 v66 wr => ∃ (k : Nat) (ch : Bool) (T : Nat → Int), v66 = .int .i64 k ∧ v8 = .bool ch ∧ k ≤ i ∧ Hid (i - k ≤ gg) ∧ Hid (Ps T0 T (i * 4) ch (∀ k', k' < k → ∀ d, d < 4 → ∀ c, c < 4 → Fix (opB W H (blkN XB YB nb)) M B Wn T0 k' d c)) ∧ Hid (TInv (opB W H (blkN XB YB nb)) M B tx ty Wn i T) ∧ Hid (TBk wr bT (i * 4) T) ∧ Hid (SBk wr bS i f) ∧ Hid (wr.heap[bG]? = some (.cells #[.int .i64 W, .int .i64 H, .int .i64 M, .int .i64 B, .slice ao nb cb] 24 (0, 0))) ∧ Hid (Below w.heap.size w wr) ∧ bT < wr.heap.size)
        case atStart => exact ⟨0, false, T0, rfl, rfl, Nat.zero_le _, Lib.hid (by omega), HPS0, HI, HT, HS, KG, HB, hz⟩
        case round =>
          obtain ⟨k, ch, T, rfl, rfl, hk, HG, HPS, HI, HT, HS, KG, HB, hz⟩ := hrel
          by_cases hlk : k < i
          case neg =>
            obtain rfl : k = i := by omega
            have HS2 : Hid (sumT T (k * 4) + oneT ch ≤ sumT T0 (k * 4)) := Lib.hid (by
              rcases HPS.out with ⟨rfl, rfl, _⟩ | ⟨rfl, h⟩
              · exact Nat.le_refl _
              · show sumT T (k * 4) + 1 ≤ _; omega)
            have HF2 : Hid (ch = false → TFin (opB W H (blkN XB YB nb)) M B tx ty Wn k T) := Lib.hid (fun e => by
              rcases HPS.out with ⟨_, e2, h⟩ | ⟨e2, _⟩
              · subst e2; exact ⟨HI.out, h⟩
              · rw [e] at e2; cases e2)
            go_wp2_with fail
            go_roundg (sumT T0 (k * 4))
            case measure => have := HGM.out; omega
            case rel => exact ⟨ch, T, rfl, HS2, HF2, HI, HT, HS, KG, HB, hz⟩
          have HGK : Hid (i - k ≤ gk) := Lib.hid HG.out
          clear HG
          obtain ⟨x, hx⟩ : ∃ z : Int, ((k % Wn : Nat) : Int) = z := ⟨_, rfl⟩
          obtain ⟨y, hy⟩ : ∃ z : Int, ((k / Wn : Nat) : Int) = z := ⟨_, rfl⟩
          have HXY : Hid (((k % Wn : Nat) : Int) = x ∧ ((k / Wn : Nat) : Int) = y) := Lib.hid ⟨hx, hy⟩
          clear hx hy
          have sv := HS.out.cell hlk
          rw [HF.out k hlk, HXY.out.1, HXY.out.2] at sv
          obtain ⟨op, hop⟩ : ∃ z, opB W H (blkN XB YB nb) x y = z := ⟨_, rfl⟩
          rw [hop] at sv
          have HOP := Lib.hid hop
          clear hop
          cases op with
          | false =>
            have HPS2 : Hid (Ps T0 T (i * 4) ch (∀ k', k' < k + 1 → ∀ d, d < 4 → ∀ c, c < 4 → Fix (opB W H (blkN XB YB nb)) M B Wn T0 k' d c)) := Lib.hid (HPS.out.mono (fun h k' hk' d hd c hc => by
              by_cases e : k' = k
              · subst e; intro ho; rw [HXY.out.1, HXY.out.2, HOP.out] at ho; cases ho
              · exact h k' (by omega) d hd c hc))
            clear HPS
            go_wp2_with fail
            go_roundg (i - (k + 1))
            case measure => have := HGK.out; omega
            case rel => exact ⟨k + 1, ch, T, by go_num, rfl, by omega, Lib.hid (Nat.le_refl _), HPS2, HI, HT, HS, KG, HB, hz⟩
          | true =>
            have hxy := (opB_iff.1 HOP.out).1
            have m1 : ((k : Int)).tmod W = x := by rw [Int.tmod_eq_emod_of_nonneg (Int.natCast_nonneg _), HNW.out.1, ← HXY.out.1]; push_cast; rfl
            have m2 : IntKind.i64.wrap ((k : Int) / W) = y := by
              have e : (k : Int) / W = y := by rw [HNW.out.1, ← HXY.out.2]; push_cast; rfl
              rw [e, IntKind.wrap_i64]; omega
            have HPS4 : Hid (Ps T0 T (i * 4) ch ((∀ k', k' < k → ∀ d, d < 4 → ∀ c, c < 4 → Fix (opB W H (blkN XB YB nb)) M B Wn T0 k' d c) ∧ ∀ d', d' < 0 → ∀ c, c < 4 → Fix (opB W H (blkN XB YB nb)) M B Wn T0 k d' c)) := Lib.hid (HPS.out.mono (fun h => ⟨h, fun d' hd => by omega⟩))
            clear HPS
            go_wp2_with fail
            clear sv
            go_loopg [8, 73] 4 (fun gg v8 v73 wr => ∃ (d : Nat) (ch : Bool) (T : Nat → Int), v73 = .int .i64 d ∧ v8 = .bool ch ∧ d ≤ 4 ∧ Hid (4 - d ≤ gg) ∧ Hid (Ps T0 T (i * 4) ch ((∀ k', k' < k → ∀ d, d < 4 → ∀ c, c < 4 → Fix (opB W H (blkN XB YB nb)) M B Wn T0 k' d c) ∧ ∀ d', d' < d → ∀ c, c < 4 → Fix (opB W H (blkN XB YB nb)) M B Wn T0 k d' c)) ∧ Hid (TInv (opB W H (blkN XB YB nb)) M B tx ty Wn i T) ∧ Hid (TBk wr bT (i * 4) T) ∧ Hid (SBk wr bS i f) ∧ Hid (wr.heap[bG]? = some (.cells #[.int .i64 W, .int .i64 H, .int .i64 M, .int .i64 B, .slice ao nb cb] 24 (0, 0))) ∧ Hid (Below w.heap.size w wr) ∧ bT < wr.heap.size)
            case atStart => exact ⟨0, ch, T, rfl, rfl, by omega, Lib.hid (by omega), HPS4, HI, HT, HS, KG, HB, hz⟩
            case round =>
              clear HPS4 HI HT HS KG HB hz
              obtain ⟨d, ch, T, rfl, rfl, hd, HG, HPS, HI, HT, HS, KG, HB, hz⟩ := hrel
              by_cases hd4 : d < 4
              case neg =>
                obtain rfl : d = 4 := by omega
                have HPS2 : Hid (Ps T0 T (i * 4) ch (∀ k', k' < k + 1 → ∀ d, d < 4 → ∀ c, c < 4 → Fix (opB W H (blkN XB YB nb)) M B Wn T0 k' d c)) := Lib.hid (HPS.out.mono (fun h k' hk' d hd c hc => by
                  by_cases e : k' = k
                  · subst e; exact h.2 d hd c hc
                  · exact h.1 k' (by omega) d hd c hc))
                clear HPS m1 m2
                go_wp2_with fail
                go_roundg (i - (k + 1))
                case measure => have := HGK.out; omega
                case rel => exact ⟨k + 1, ch, T, by go_num, rfl, by omega, Lib.hid (Nat.le_refl _), HPS2, HI, HT, HS, KG, HB, hz⟩
              have HGD : Hid (4 - d ≤ gk) := Lib.hid HG.out
              clear HG
              obtain ⟨px, hpx⟩ : ∃ z, nx x d = z := ⟨_, rfl⟩
              obtain ⟨py, hpy⟩ : ∃ z, ny y d = z := ⟨_, rfl⟩
              have HPX := Lib.hid (And.intro hpx hpy)
              have hpr : (-1 ≤ px ∧ px ≤ 30) ∧ -1 ≤ py ∧ py ≤ 30 := by rw [← hpx, ← hpy]; unfold nx ny; split <;> (try split) <;> (try split) <;> omega
              clear hpx hpy
              obtain ⟨wo, hwo⟩ : ∃ z, z = wr := ⟨wr, rfl⟩
              subst hwo
              have G0 : Hid (∀ w' : World, Below wo.heap.size wo w' → w'.cell? ⟨bG, 0, none⟩ = some (.int .i64 W)) := Lib.hid (fun w' hb => cell_of_blk ((hb.block _ (by omega)).trans KG.out) rfl)
              have D0 : Below wo.heap.size wo wo.drew := (Below.refl _ _).drew
              go_upto_region 20 with fail
              go_cut [11] (fun v11 wx => ∃ b11, v11 = .pointer (some ⟨b11, 0, none⟩) ∧ wx.heap[b11]? = some (.cells #[.int .i64 px, .int .i64 py] 26 (0, 0)) ∧ Below wo.heap.size wo wx ∧ b11 < wx.heap.size)
              case first =>
                clear HPS HI HT HS KG HB HGD HGK HGM
                refine wp_region_held_drew (S := fun w' => w'.cell? ⟨bG, 0, none⟩ = some (.int .i64 W)) (by kernel_rfl) (G0.out _ D0) (fun hHeld => ?_)
                obtain ⟨t0, ht0⟩ : ∃ z, z = wo.drew := ⟨_, rfl⟩
                rw [← ht0] at D0 ⊢
                clear ht0 hHeld
                have hHeld := G0.out _ D0
                refine wpAnyH_take (i := 0) (oi := _) (v := ?_) rfl (by kernel_rfl) (by kernel_rfl) (by kernel_rfl) (fun _ _ _ h => h) (Or.inl ⟨by rfl, ?_⟩) (by assumption) ?_
                rotate_left
                · intro w hSw; obtain s0 := hSw; go_simp; (try with_reducible rfl)
                try change wpAnyH _ _ _ _ _ _ _ (Act.put _ (some 76) _) _
                try simp only [act_all]
                refine wpAnyH_take (i := 1) (oi := _) (v := ?_) rfl (by kernel_rfl) (by kernel_rfl) (by kernel_rfl) (fun _ _ _ h => h) (Or.inl ⟨by rfl, ?_⟩) (by assumption) ?_
                rotate_left
                · intro w hSw; obtain s0 := hSw; go_simp; (try with_reducible rfl)
                try change wpAnyH _ _ _ _ _ _ _ (Act.put _ (some 77) _) _
                try simp only [act_all]
                refine wpAnyH_take (i := 2) (oi := _) (v := ?_) rfl (by kernel_rfl) (by kernel_rfl) (by kernel_rfl) (fun _ _ _ h => h) (Or.inl ⟨by rfl, ?_⟩) (by assumption) ?_
                rotate_left
                · intro w hSw; obtain s0 := hSw; go_simp; (try with_reducible rfl)
                try change wpAnyH _ _ _ _ _ _ _ (Act.put _ (some 78) _) _
                try simp only [act_all]
                refine wpAnyH_take (i := 3) (oi := _) (v := ?_) rfl (by kernel_rfl) (by kernel_rfl) (by kernel_rfl) (fun _ _ _ h => h) (Or.inl ⟨by rfl, ?_⟩) (by assumption) ?_
                rotate_left
                · intro w hSw; obtain s0 := hSw; go_simp; (try with_reducible rfl)
                try change wpAnyH _ _ _ _ _ _ _ (Act.put _ (some 79) _) _
                try simp only [act_all]
                refine wpAnyH_take (i := 4) (oi := _) (v := ?_) rfl (by kernel_rfl) (by kernel_rfl) (by kernel_rfl) (fun _ _ _ h => h) (Or.inl ⟨by rfl, ?_⟩) (by assumption) ?_
                rotate_left
                · intro w hSw; obtain s0 := hSw; go_simp; (try with_reducible rfl)
                try change wpAnyH _ _ _ _ _ _ _ (Act.put _ (some 80) _) _
                try simp only [act_all]
                refine wpAnyH_take (i := 5) (oi := _) (v := ?_) rfl (by kernel_rfl) (by kernel_rfl) (by kernel_rfl) (fun _ _ _ h => h) (Or.inl ⟨by rfl, ?_⟩) (by assumption) ?_
                rotate_left
                · intro w hSw; obtain s0 := hSw; go_simp; (try with_reducible rfl)
                try change wpAnyH _ _ _ _ _ _ _ (Act.put _ (some 81) _) _
                try simp only [act_all]
                refine wpAnyH_take (i := 6) (oi := _) (v := ?_) rfl (by kernel_rfl) (by kernel_rfl) (by kernel_rfl) (fun _ _ _ h => h) (Or.inl ⟨by rfl, ?_⟩) (by assumption) ?_
                rotate_left
                · intro w hSw; obtain s0 := hSw; go_simp; (try with_reducible rfl)
                try change wpAnyH _ _ _ _ _ _ _ (Act.put _ (some 82) _) _
                try simp only [act_all]
                refine wpAnyH_take (i := 7) (oi := _) (v := ?_) rfl (by kernel_rfl) (by kernel_rfl) (by kernel_rfl) (fun _ _ _ h => h) (Or.inl ⟨by rfl, ?_⟩) (by assumption) ?_
                rotate_left
                · intro w hSw; obtain s0 := hSw; go_simp; (try with_reducible rfl)
                try change wpAnyH _ _ _ _ _ _ _ (Act.put _ (some 83) _) _
                try simp only [act_all]
                refine wpAnyH_take (i := 8) (oi := _) (v := ?_) rfl (by kernel_rfl) (by kernel_rfl) (by kernel_rfl) (fun _ _ _ h => h) (Or.inl ⟨by rfl, ?_⟩) (by assumption) ?_
                rotate_left
                · intro w hSw; obtain s0 := hSw; go_simp; (try with_reducible rfl)
                try change wpAnyH _ _ _ _ _ _ _ (Act.put _ (some 84) _) _
                try simp only [act_all]
                refine wpAnyH_take (i := 9) (oi := _) (v := ?_) rfl (by kernel_rfl) (by kernel_rfl) (by kernel_rfl) (fun _ _ _ h => h) (Or.inl ⟨by rfl, ?_⟩) (by assumption) ?_
                rotate_left
                · intro w hSw; obtain s0 := hSw; go_simp; (try with_reducible rfl)
                try change wpAnyH _ _ _ _ _ _ _ (Act.put _ (some 85) _) _
                try simp only [act_all]
                refine wpAnyH_ready (rs := [10, 11]) (by kernel_rfl) (by simp) ?_
                refine AllReadyH.cons (o := _) rfl (fun K hK => ?_) ?_
                ·
                  go_simp
                  refine (rNextd x y d _ hd4 (by omega) (by omega)).mono ?_
                  rw [HPX.out.1, HPX.out.2]
                  rintro e_ t1 ⟨rfl, hb⟩
                  have D1 : Below wo.heap.size wo t1 := D0.trans (hb.mono D0.size)
                  clear hb hHeld D0 
                  refine hK.out _ _ (G0.out _ D1) (fun hHeld => ?_)
                  clear hK K
                  try simp only [act_all]
                  refine wpAnyH_ready (rs := [11]) (by kernel_rfl) (by simp) ?_
                  refine AllReadyH.cons (o := _) rfl (fun K hK => ?_) AllReadyH.nil
                  go_simp
                  have D2 : Below wo.heap.size wo (t1.alloc (.cells #[.int .i64 0, .int .i64 0] 26)) := D1.alloc D1.size _
                  have A2 : (t1.alloc (.cells #[.int .i64 0, .int .i64 0] 26)).heap[t1.heap.size]? = some (.cells #[.int .i64 0, .int .i64 0] 26 (0, 0)) := heap_alloc_new t1 _
                  clear hHeld
                  refine hK.out _ _ (G0.out _ D2) (fun hHeld => ?_)
                  clear hK K
                  try simp only [act_all]
                  obtain ⟨b11, hb11⟩ : ∃ z, z = t1.heap.size := ⟨_, rfl⟩
                  have g11 : wo.heap.size ≤ b11 := by rw [hb11]; exact D1.size
                  rw [← hb11] at A2 ⊢
                  obtain ⟨t2, ht2⟩ : ∃ z, z = (t1.alloc (.cells #[.int .i64 0, .int .i64 0] 26)) := ⟨_, rfl⟩
                  rw [← ht2] at A2 D2 ⊢
                  clear ht2 hb11 hHeld D1
                  have hHeld := G0.out _ D2
                  refine wpAnyH_ready (rs := [12]) (by kernel_rfl) (by simp) ?_
                  refine AllReadyH.cons (o := _) rfl (fun K hK => ?_) AllReadyH.nil
                  have v0 : t2.cell? ⟨b11, 0, none⟩ = some (.int .i64 0) := cell_of_blk A2 rfl
                  have v1 : t2.cell? ⟨b11, 1, none⟩ = some (.int .i64 0) := cell_of_blk A2 rfl
                  have vf : ∀ j, t2.frozen? ⟨b11, j, none⟩ = false := fun j => by simp [World.frozen?, A2]
                  go_simp
                  have A3 : ((t2.setCell ⟨b11, 0, none⟩ (.int .i64 px)).setCell ⟨b11, 1, none⟩ (.int .i64 py)).heap[b11]? = some (.cells #[.int .i64 px, .int .i64 py] 26 (0, 0)) := blk_set (blk_set A2 _) _
                  have D3 : Below wo.heap.size wo ((t2.setCell ⟨b11, 0, none⟩ (.int .i64 px)).setCell ⟨b11, 1, none⟩ (.int .i64 py)) := (D2.setCell (p := ⟨b11, 0, none⟩) g11 _).setCell (p := ⟨b11, 1, none⟩) g11 _
                  clear hHeld
                  refine hK.out _ _ (G0.out _ D3) (fun hHeld => ?_)
                  clear hK K
                  try simp only [act_all]
                  obtain ⟨t3, ht3⟩ : ∃ z, z = ((t2.setCell ⟨b11, 0, none⟩ (.int .i64 px)).setCell ⟨b11, 1, none⟩ (.int .i64 py)) := ⟨_, rfl⟩
                  rw [← ht3] at A3 D3 ⊢
                  clear ht3 v0 v1 vf hHeld D2 A2
                  have hHeld := G0.out _ D3
                  refine wpAnyH_done (by kernel_rfl) ?_ _
                  clear hHeld
                  go_wp2_with fail
                  go_meet
                  exact ⟨_, rfl, A3, D3, (Array.getElem?_eq_some_iff.1 A3).1⟩
                refine AllReadyH.cons (o := _) rfl (fun K hK => ?_) AllReadyH.nil
                go_simp
                have D4 : Below wo.heap.size wo (t0.alloc (.cells #[.int .i64 0, .int .i64 0] 26)) := D0.alloc D0.size _
                have A4 : (t0.alloc (.cells #[.int .i64 0, .int .i64 0] 26)).heap[t0.heap.size]? = some (.cells #[.int .i64 0, .int .i64 0] 26 (0, 0)) := heap_alloc_new t0 _
                clear hHeld
                refine hK.out _ _ (G0.out _ D4) (fun hHeld => ?_)
                clear hK K
                try simp only [act_all]
                obtain ⟨b11, hb11⟩ : ∃ z, z = t0.heap.size := ⟨_, rfl⟩
                have g11 : wo.heap.size ≤ b11 := by rw [hb11]; exact D0.size
                rw [← hb11] at A4 ⊢
                obtain ⟨t4, ht4⟩ : ∃ z, z = (t0.alloc (.cells #[.int .i64 0, .int .i64 0] 26)) := ⟨_, rfl⟩
                rw [← ht4] at A4 D4 ⊢
                clear ht4 hb11 hHeld D0
                have hHeld := G0.out _ D4
                refine wpAnyH_ready (rs := [10]) (by kernel_rfl) (by simp) ?_
                refine AllReadyH.cons (o := _) rfl (fun K hK => ?_) AllReadyH.nil
                go_simp
                refine (rNextd x y d _ hd4 (by omega) (by omega)).mono ?_
                rw [HPX.out.1, HPX.out.2]
                rintro e_ t5 ⟨rfl, hb⟩
                have D5 : Below wo.heap.size wo t5 := D4.trans (hb.mono D4.size)
                have A5 : t5.heap[b11]? = some (.cells #[.int .i64 0, .int .i64 0] 26 (0, 0)) := (hb.block _ (Array.getElem?_eq_some_iff.1 A4).1).trans A4
                clear hb hHeld D4 A4
                refine hK.out _ _ (G0.out _ D5) (fun hHeld => ?_)
                clear hK K
                try simp only [act_all]
                refine wpAnyH_ready (rs := [12]) (by kernel_rfl) (by simp) ?_
                refine AllReadyH.cons (o := _) rfl (fun K hK => ?_) AllReadyH.nil
                have v0 : t5.cell? ⟨b11, 0, none⟩ = some (.int .i64 0) := cell_of_blk A5 rfl
                have v1 : t5.cell? ⟨b11, 1, none⟩ = some (.int .i64 0) := cell_of_blk A5 rfl
                have vf : ∀ j, t5.frozen? ⟨b11, j, none⟩ = false := fun j => by simp [World.frozen?, A5]
                go_simp
                have A6 : ((t5.setCell ⟨b11, 0, none⟩ (.int .i64 px)).setCell ⟨b11, 1, none⟩ (.int .i64 py)).heap[b11]? = some (.cells #[.int .i64 px, .int .i64 py] 26 (0, 0)) := blk_set (blk_set A5 _) _
                have D6 : Below wo.heap.size wo ((t5.setCell ⟨b11, 0, none⟩ (.int .i64 px)).setCell ⟨b11, 1, none⟩ (.int .i64 py)) := (D5.setCell (p := ⟨b11, 0, none⟩) g11 _).setCell (p := ⟨b11, 1, none⟩) g11 _
                clear hHeld
                refine hK.out _ _ (G0.out _ D6) (fun hHeld => ?_)
                clear hK K
                try simp only [act_all]
                obtain ⟨t6, ht6⟩ : ∃ z, z = ((t5.setCell ⟨b11, 0, none⟩ (.int .i64 px)).setCell ⟨b11, 1, none⟩ (.int .i64 py)) := ⟨_, rfl⟩
                rw [← ht6] at A6 D6 ⊢
                clear ht6 v0 v1 vf hHeld D5 A5
                have hHeld := G0.out _ D6
                refine wpAnyH_done (by kernel_rfl) ?_ _
                clear hHeld
                go_wp2_with fail
                go_meet
                exact ⟨_, rfl, A6, D6, (Array.getElem?_eq_some_iff.1 A6).1⟩
              case rest =>
                obtain ⟨b11, rfl, hk11, hbx, h11⟩ := hcut
                obtain ⟨C, hC⟩ : ∃ z, z = wc := ⟨wc, rfl⟩
                subst hC
                have K11 := Lib.hid hk11
                have HTC := Lib.hid (HT.out.keep (hbx.block _ HT.out.lt))
                have HSC := Lib.hid (HS.out.keep (hbx.block _ HS.out.lt))
                have KGC : Hid (C.heap[bG]? = some (.cells #[.int .i64 W, .int .i64 H, .int .i64 M, .int .i64 B, .slice ao nb cb] 24 (0, 0))) := Lib.hid ((hbx.block _ (by omega)).trans KG.out)
                have HBC : Hid (Below w.heap.size w C) := Lib.hid (HB.out.trans (hbx.mono HB.out.size))
                have hzC : bT < C.heap.size := HTC.out.lt
                clear hbx hk11 HT HS KG HB hz G0 D0
                obtain ⟨c0, c1⟩ : C.cell? ⟨b11, 0, none⟩ = some (.int .i64 px) ∧ C.cell? ⟨b11, 1, none⟩ = some (.int .i64 py) := ⟨cell_of_blk K11.out rfl, cell_of_blk K11.out rfl⟩
                obtain ⟨g0, g1, g2, g3, g4⟩ := G5.c KGC.out
                go_wp2_with fail
                refine (rOn_any W H M B px py (.slice ao nb cb) rfl _).mono ?_
                obtain ⟨on, hon2⟩ : ∃ z, onB W H px py = z := ⟨_, rfl⟩
                rw [hon2]
                have HON := Lib.hid hon2
                clear hon2
                rintro e E1 ⟨rfl, hb⟩
                have K11E : Hid (E1.heap[b11]? = some (.cells #[.int .i64 px, .int .i64 py] 26 (0, 0))) := Lib.hid ((hb.block _ h11).trans K11.out)
                have HTE := Lib.hid (HTC.out.keep (hb.block _ HTC.out.lt))
                have HSE := Lib.hid (HSC.out.keep (hb.block _ HSC.out.lt))
                have KGE : Hid (E1.heap[bG]? = some (.cells #[.int .i64 W, .int .i64 H, .int .i64 M, .int .i64 B, .slice ao nb cb] 24 (0, 0))) := Lib.hid ((hb.block _ (by omega)).trans KGC.out)
                have HBE : Hid (Below w.heap.size w E1) := Lib.hid (HBC.out.trans (hb.mono HBC.out.size))
                have hzE : bT < E1.heap.size := HTE.out.lt
                have h11E : b11 < E1.heap.size := by have := hb.size; omega
                clear hb c0 c1 g0 g1 g2 g3 g4 K11 HTC HSC KGC HBC hzC h11
                cases on with
                | false =>
                  have HN2 : Hid (opB W H (blkN XB YB nb) px py = false) := Lib.hid (by unfold opB; rw [HON.out]; rfl)
                  have hfx : ∀ c, c < 4 → Fix (opB W H (blkN XB YB nb)) M B Wn T0 k d c := fun c hc ho hn2 => by
                    rw [HXY.out.1, HXY.out.2, HPX.out.1, HPX.out.2, HN2.out] at hn2
                    cases hn2
                  have HPS2 : Hid (Ps T0 T (i * 4) ch ((∀ k', k' < k → ∀ d, d < 4 → ∀ c, c < 4 → Fix (opB W H (blkN XB YB nb)) M B Wn T0 k' d c) ∧ ∀ d', d' < d + 1 → ∀ c, c < 4 → Fix (opB W H (blkN XB YB nb)) M B Wn T0 k d' c)) := Lib.hid (HPS.out.mono (fun h => ⟨h.1, fun d' hd' c hc => by
                    by_cases e : d' = d
                    · subst e; exact hfx c hc
                    · exact h.2 d' (by omega) c hc⟩))
                  clear hfx HPS K11E h11E
                  go_wp2_with fail
                  go_roundg (4 - (d + 1))
                  case measure => have := HGD.out; omega
                  case rel => exact ⟨d + 1, ch, T, by go_num, rfl, by omega, Lib.hid (Nat.le_refl _), HPS2, HI, HTE, HSE, KGE, HBE, hzE⟩
                | true =>
                  have hpo := onB_iff.1 HON.out
                  obtain ⟨op2, hop2⟩ : ∃ z, opB W H (blkN XB YB nb) px py = z := ⟨_, rfl⟩
                  have HN2 := Lib.hid hop2
                  clear hop2
                  obtain ⟨jn, hjn⟩ : ∃ j : Nat, py * W + px = j := ⟨(py * W + px).toNat, by have := Int.mul_nonneg hpo.2.2.1 (show 0 ≤ W by omega); omega⟩
                  have hjd : jn < i ∧ ((jn % Wn : Nat) : Int) = px ∧ ((jn / Wn : Nat) : Int) = py := by
                    obtain ⟨e2, e3, e4⟩ := HNW.out
                    obtain ⟨xa, hxa⟩ : ∃ k : Nat, px = k := ⟨px.toNat, by omega⟩
                    obtain ⟨ya, hya⟩ : ∃ k : Nat, py = k := ⟨py.toNat, by omega⟩
                    have hj : jn = ya * Wn + xa := by have h := hjn; rw [e2, hxa, hya, ← Int.natCast_mul, ← Int.natCast_add] at h; exact (Int.ofNat.inj h).symm
                    obtain ⟨d1, d2, d3⟩ := idx_dm3 (x := xa) (y := ya) e4 (by omega) (by omega)
                    rw [hj, d2, d3]
                    exact ⟨d1, hxa.symm, hya.symm⟩
                  have HJD := Lib.hid hjd.2
                  have hjN := hjd.1
                  have hmt : 0 ≤ py * W := Int.mul_nonneg hpo.2.2.1 (by omega)
                  have z2 : IntKind.i64.wrap (py * W) = py * W := by rw [IntKind.wrap_i64]; omega
                  have z4 : IntKind.i64.wrap (jn : Int) = jn := by rw [IntKind.wrap_i64]; omega
                  have z6 : (jn : Int) < (i : Int) := by omega
                  have sv2 := HSE.out.cell hjN
                  rw [HF.out jn hjN, HJD.out.1, HJD.out.2, HN2.out] at sv2
                  obtain ⟨c0, c1⟩ : E1.cell? ⟨b11, 0, none⟩ = some (.int .i64 px) ∧ E1.cell? ⟨b11, 1, none⟩ = some (.int .i64 py) := ⟨cell_of_blk K11E.out rfl, cell_of_blk K11E.out rfl⟩
                  obtain ⟨g0, g1, g2, g3, g4⟩ := G5.c KGE.out
                  clear hjd hmt
                  cases op2 with
                  | false =>
                    have hfx : ∀ c, c < 4 → Fix (opB W H (blkN XB YB nb)) M B Wn T0 k d c := fun c hc ho hn2 => by
                      rw [HXY.out.1, HXY.out.2, HPX.out.1, HPX.out.2, HN2.out] at hn2
                      cases hn2
                    have HPS2 : Hid (Ps T0 T (i * 4) ch ((∀ k', k' < k → ∀ d, d < 4 → ∀ c, c < 4 → Fix (opB W H (blkN XB YB nb)) M B Wn T0 k' d c) ∧ ∀ d', d' < d + 1 → ∀ c, c < 4 → Fix (opB W H (blkN XB YB nb)) M B Wn T0 k d' c)) := Lib.hid (HPS.out.mono (fun h => ⟨h.1, fun d' hd' c hc => by
                      by_cases e : d' = d
                      · subst e; exact hfx c hc
                      · exact h.2 d' (by omega) c hc⟩))
                    clear hfx HPS 
                    go_wp2_with fail
                    go_roundg (4 - (d + 1))
                    case measure => have := HGD.out; omega
                    case rel => exact ⟨d + 1, ch, T, by go_num, rfl, by omega, Lib.hid (Nat.le_refl _), HPS2, HI, HTE, HSE, KGE, HBE, hzE⟩
                  | true =>
                    have hjk : jn ≠ k := fun e => by
                      have a1 := HJD.out; have a2 := HXY.out; have a3 := HPX.out
                      rw [e, a2.1, a2.2] at a1
                      rw [← a1.1, ← a1.2] at a3
                      have : d = 0 ∨ d = 1 ∨ d = 2 ∨ d = 3 := by omega
                      rcases this with rfl | rfl | rfl | rfl <;> simp [nx, ny] at a3 <;> omega
                    obtain ⟨tv, htv⟩ : ∃ z, T (jn * 4 + d) = z := ⟨_, rfl⟩
                    have htl := HI.out.le (jn * 4 + d) (by omega)
                    rw [htv] at htl
                    have hNn : Nn = 1099511627776 := rfl
                    rw [hNn] at htl
                    have tc := HTE.out.cell (j := jn * 4 + d) (by omega)
                    rw [htv] at tc
                    have G0 : Hid (∀ w' : World, Below E1.heap.size E1 w' → w'.cell? ⟨bG, 0, none⟩ = some (.int .i64 W) ∧ w'.cell? ⟨bG, 2, none⟩ = some (.int .i64 M) ∧ w'.cell? ⟨b11, 0, none⟩ = some (.int .i64 px) ∧ w'.cell? ⟨b11, 1, none⟩ = some (.int .i64 py) ∧ w'.cell? ⟨bT, jn * 4 + d, none⟩ = some (.int .i64 tv)) := Lib.hid (fun w' hb => ⟨cell_of_blk ((hb.block _ (by omega)).trans KGE.out) rfl, cell_of_blk ((hb.block _ (by omega)).trans KGE.out) rfl, cell_of_blk ((hb.block _ h11E).trans K11E.out) rfl, cell_of_blk ((hb.block _ h11E).trans K11E.out) rfl, (World.cell?_of_block (hb.block _ hzE)).trans tc⟩)
                    have D0 : Below E1.heap.size E1 E1.drew := (Below.refl _ _).drew
                    have z8 : IntKind.i64.wrap (M + tv) = M + tv := by rw [IntKind.wrap_i64]; omega
                    have z9 : (d : Int) < 4 := by omega
                    go_upto_region 22 with fail
                    refine wp_region_held_drew (S := fun w' => w'.cell? ⟨bG, 0, none⟩ = some (.int .i64 W) ∧ w'.cell? ⟨bG, 2, none⟩ = some (.int .i64 M) ∧ w'.cell? ⟨b11, 0, none⟩ = some (.int .i64 px) ∧ w'.cell? ⟨b11, 1, none⟩ = some (.int .i64 py) ∧ w'.cell? ⟨bT, jn * 4 + d, none⟩ = some (.int .i64 tv)) (by kernel_rfl) (G0.out _ D0) (fun hHeld => ?_)
                    refine wpAnyH_take (i := 0) (oi := _) (v := ?_) rfl (by kernel_rfl) (by kernel_rfl) (by kernel_rfl) (fun _ _ _ h => h) (Or.inl ⟨by rfl, ?_⟩) (by assumption) ?_
                    rotate_left
                    · intro w hSw; obtain ⟨s0, s1, s2, s3, s4⟩ := hSw; go_simp; (try with_reducible rfl)
                    try change wpAnyH _ _ _ _ _ _ _ (Act.put _ (some 104) _) _
                    try simp only [act_all]
                    refine wpAnyH_take (i := 1) (oi := _) (v := ?_) rfl (by kernel_rfl) (by kernel_rfl) (by kernel_rfl) (fun _ _ _ h => h) (Or.inl ⟨by rfl, ?_⟩) (by assumption) ?_
                    rotate_left
                    · intro w hSw; obtain ⟨s0, s1, s2, s3, s4⟩ := hSw; go_simp; (try with_reducible rfl)
                    try change wpAnyH _ _ _ _ _ _ _ (Act.put _ (some 105) _) _
                    try simp only [act_all]
                    refine wpAnyH_take (i := 2) (oi := _) (v := ?_) rfl (by kernel_rfl) (by kernel_rfl) (by kernel_rfl) (fun _ _ _ h => h) (Or.inl ⟨by rfl, ?_⟩) (by assumption) ?_
                    rotate_left
                    · intro w hSw; obtain ⟨s0, s1, s2, s3, s4⟩ := hSw; go_simp; (try with_reducible rfl)
                    try change wpAnyH _ _ _ _ _ _ _ (Act.put _ (some 106) _) _
                    try simp only [act_all]
                    refine wpAnyH_take (i := 3) (oi := _) (v := ?_) rfl (by kernel_rfl) (by kernel_rfl) (by kernel_rfl) (fun _ _ _ h => h) (Or.inl ⟨by rfl, ?_⟩) (by assumption) ?_
                    rotate_left
                    · intro w hSw; obtain ⟨s0, s1, s2, s3, s4⟩ := hSw; go_simp; (try with_reducible rfl)
                    try change wpAnyH _ _ _ _ _ _ _ (Act.put _ (some 107) _) _
                    try simp only [act_all]
                    refine wpAnyH_take (i := 4) (oi := _) (v := ?_) rfl (by kernel_rfl) (by kernel_rfl) (by kernel_rfl) (fun _ _ _ h => h) (Or.inl ⟨by rfl, ?_⟩) (by assumption) ?_
                    rotate_left
                    · intro w hSw; obtain ⟨s0, s1, s2, s3, s4⟩ := hSw; go_simp; (try with_reducible rfl)
                    try change wpAnyH _ _ _ _ _ _ _ (Act.put _ (some 108) _) _
                    try simp only [act_all]
                    refine wpAnyH_take (i := 5) (oi := _) (v := ?_) rfl (by kernel_rfl) (by kernel_rfl) (by kernel_rfl) (fun _ _ _ h => h) (Or.inl ⟨by rfl, ?_⟩) (by assumption) ?_
                    rotate_left
                    · intro w hSw; obtain ⟨s0, s1, s2, s3, s4⟩ := hSw; go_simp; (try with_reducible rfl)
                    try change wpAnyH _ _ _ _ _ _ _ (Act.put _ (some 109) _) _
                    try simp only [act_all]
                    refine wpAnyH_take (i := 6) (oi := _) (v := ?_) rfl (by kernel_rfl) (by kernel_rfl) (by kernel_rfl) (fun _ _ _ h => h) (Or.inl ⟨by rfl, ?_⟩) (by assumption) ?_
                    rotate_left
                    · intro w hSw; obtain ⟨s0, s1, s2, s3, s4⟩ := hSw; go_simp; (try with_reducible rfl)
                    try change wpAnyH _ _ _ _ _ _ _ (Act.put _ (some 110) _) _
                    try simp only [act_all]
                    refine wpAnyH_take (i := 7) (oi := _) (v := ?_) rfl (by kernel_rfl) (by kernel_rfl) (by kernel_rfl) (fun _ _ _ h => h) (Or.inl ⟨by rfl, ?_⟩) (by assumption) ?_
                    rotate_left
                    · intro w hSw; obtain ⟨s0, s1, s2, s3, s4⟩ := hSw; go_simp; (try with_reducible rfl)
                    try change wpAnyH _ _ _ _ _ _ _ (Act.put _ (some 111) _) _
                    try simp only [act_all]
                    refine wpAnyH_take (i := 8) (oi := _) (v := ?_) rfl (by kernel_rfl) (by kernel_rfl) (by kernel_rfl) (fun _ _ _ h => h) (Or.inl ⟨by rfl, ?_⟩) (by assumption) ?_
                    rotate_left
                    · intro w hSw; obtain ⟨s0, s1, s2, s3, s4⟩ := hSw; go_simp; (try with_reducible rfl)
                    try change wpAnyH _ _ _ _ _ _ _ (Act.put _ (some 112) _) _
                    try simp only [act_all]
                    refine wpAnyH_take (i := 9) (oi := _) (v := ?_) rfl (by kernel_rfl) (by kernel_rfl) (by kernel_rfl) (fun _ _ _ h => h) (Or.inl ⟨by rfl, ?_⟩) (by assumption) ?_
                    rotate_left
                    · intro w hSw; obtain ⟨s0, s1, s2, s3, s4⟩ := hSw; go_simp; (try with_reducible rfl)
                    try change wpAnyH _ _ _ _ _ _ _ (Act.put _ (some 113) _) _
                    try simp only [act_all]
                    refine wpAnyH_take (i := 10) (oi := _) (v := ?_) rfl (by kernel_rfl) (by kernel_rfl) (by kernel_rfl) (fun _ _ _ h => h) (Or.inl ⟨by rfl, ?_⟩) (by assumption) ?_
                    rotate_left
                    · intro w hSw; obtain ⟨s0, s1, s2, s3, s4⟩ := hSw; go_simp; (try with_reducible rfl)
                    try change wpAnyH _ _ _ _ _ _ _ (Act.put _ (some 114) _) _
                    try simp only [act_all]
                    refine wpAnyH_take (i := 11) (oi := _) (v := ?_) rfl (by kernel_rfl) (by kernel_rfl) (by kernel_rfl) (fun _ _ _ h => h) (Or.inl ⟨by rfl, ?_⟩) (by assumption) ?_
                    rotate_left
                    · intro w hSw; obtain ⟨s0, s1, s2, s3, s4⟩ := hSw; go_simp; (try with_reducible rfl)
                    try change wpAnyH _ _ _ _ _ _ _ (Act.put _ (some 115) _) _
                    try simp only [act_all]
                    refine wpAnyH_take (i := 12) (oi := _) (v := ?_) rfl (by kernel_rfl) (by kernel_rfl) (by kernel_rfl) (fun _ _ _ h => h) (Or.inl ⟨by rfl, ?_⟩) (by assumption) ?_
                    rotate_left
                    · intro w hSw; obtain ⟨s0, s1, s2, s3, s4⟩ := hSw; go_simp; (try with_reducible rfl)
                    try change wpAnyH _ _ _ _ _ _ _ (Act.put _ (some 116) _) _
                    try simp only [act_all]
                    refine wpAnyH_take (i := 13) (oi := _) (v := ?_) rfl (by kernel_rfl) (by kernel_rfl) (by kernel_rfl) (fun _ _ _ h => h) (Or.inl ⟨by rfl, ?_⟩) (by assumption) ?_
                    rotate_left
                    · intro w hSw; obtain ⟨s0, s1, s2, s3, s4⟩ := hSw; go_simp; (try with_reducible rfl)
                    try change wpAnyH _ _ _ _ _ _ _ (Act.put _ (some 117) _) _
                    try simp only [act_all]
                    refine wpAnyH_take (i := 14) (oi := _) (v := ?_) rfl (by kernel_rfl) (by kernel_rfl) (by kernel_rfl) (fun _ _ _ h => h) (Or.inl ⟨by rfl, ?_⟩) (by assumption) ?_
                    rotate_left
                    · intro w hSw; obtain ⟨s0, s1, s2, s3, s4⟩ := hSw; go_simp; (try with_reducible rfl)
                    try change wpAnyH _ _ _ _ _ _ _ (Act.put _ (some 118) _) _
                    try simp only [act_all]
                    refine wpAnyH_take (i := 15) (oi := _) (v := ?_) rfl (by kernel_rfl) (by kernel_rfl) (by kernel_rfl) (fun _ _ _ h => h) (Or.inl ⟨by rfl, ?_⟩) (by assumption) ?_
                    rotate_left
                    · intro w hSw; obtain ⟨s0, s1, s2, s3, s4⟩ := hSw; go_simp; (try with_reducible rfl)
                    try change wpAnyH _ _ _ _ _ _ _ (Act.put _ (some 119) _) _
                    try simp only [act_all]
                    refine wpAnyH_take (i := 16) (oi := _) (v := ?_) rfl (by kernel_rfl) (by kernel_rfl) (by kernel_rfl) (fun _ _ _ h => h) (Or.inl ⟨by rfl, ?_⟩) (by assumption) ?_
                    rotate_left
                    · intro w hSw; obtain ⟨s0, s1, s2, s3, s4⟩ := hSw; go_simp; (try with_reducible rfl)
                    try change wpAnyH _ _ _ _ _ _ _ (Act.put _ (some 12) _) _
                    try simp only [act_all]
                    refine wpAnyH_done (by kernel_rfl) ?_ _
                    clear hHeld G0 sv2 tc c0 c1 g0 g1 g2 g3 g4 z2 z4 z6 z8
                    have HTF : Hid (TBk E1.drew bT (i * 4) T) := Lib.hid (HTE.out.keep rfl)
                    have HSF : Hid (SBk E1.drew bS i f) := Lib.hid (HSE.out.keep rfl)
                    have KGF : Hid (E1.drew.heap[bG]? = some (.cells #[.int .i64 W, .int .i64 H, .int .i64 M, .int .i64 B, .slice ao nb cb] 24 (0, 0))) := Lib.hid KGE.out
                    have HBF : Hid (Below w.heap.size w E1.drew) := Lib.hid HBE.out.drew
                    have hzF : bT < E1.drew.heap.size := hzE
                    clear HTE HSE KGE HBE hzE K11E h11E D0
                    generalize E1.drew = E2 at *
                    have HPS5 : Hid (Ps T0 T (i * 4) ch ((∀ k', k' < k → ∀ d, d < 4 → ∀ c, c < 4 → Fix (opB W H (blkN XB YB nb)) M B Wn T0 k' d c) ∧ (∀ d', d' < d → ∀ c, c < 4 → Fix (opB W H (blkN XB YB nb)) M B Wn T0 k d' c) ∧ ∀ c', c' < 0 → Fix (opB W H (blkN XB YB nb)) M B Wn T0 k d c')) := Lib.hid (HPS.out.mono (fun h => ⟨h.1, h.2, fun c' hc => by omega⟩))
                    have HTV := Lib.hid htv
                    clear HPS htv
                    go_wp2_with fail
                    go_loopg [8, 120] 4 (fun gg v8 v120 wr => ∃ (c : Nat) (ch : Bool) (T : Nat → Int), v120 = .int .i64 c ∧ v8 = .bool ch ∧ c ≤ 4 ∧ Hid (4 - c ≤ gg) ∧ Hid (T (jn * 4 + d) = tv) ∧ Hid (Ps T0 T (i * 4) ch ((∀ k', k' < k → ∀ d, d < 4 → ∀ c, c < 4 → Fix (opB W H (blkN XB YB nb)) M B Wn T0 k' d c) ∧ (∀ d', d' < d → ∀ c, c < 4 → Fix (opB W H (blkN XB YB nb)) M B Wn T0 k d' c) ∧ ∀ c', c' < c → Fix (opB W H (blkN XB YB nb)) M B Wn T0 k d c')) ∧ Hid (TInv (opB W H (blkN XB YB nb)) M B tx ty Wn i T) ∧ Hid (TBk wr bT (i * 4) T) ∧ Hid (SBk wr bS i f) ∧ Hid (wr.heap[bG]? = some (.cells #[.int .i64 W, .int .i64 H, .int .i64 M, .int .i64 B, .slice ao nb cb] 24 (0, 0))) ∧ Hid (Below w.heap.size w wr) ∧ bT < wr.heap.size)
                    case atStart => exact ⟨0, ch, T, rfl, rfl, by omega, Lib.hid (by omega), HTV, HPS5, HI, HTF, HSF, KGF, HBF, hzF⟩
                    case round =>
                      clear HPS5 HTV HI HTF HSF KGF HBF hzF
                      obtain ⟨c, ch, T, rfl, rfl, hc, HG, HTV, HPS, HI, HT, HS, KG, HB, hz⟩ := hrel
                      by_cases hc4 : c < 4
                      case neg =>
                        obtain rfl : c = 4 := by omega
                        have HPS2 : Hid (Ps T0 T (i * 4) ch ((∀ k', k' < k → ∀ d, d < 4 → ∀ c, c < 4 → Fix (opB W H (blkN XB YB nb)) M B Wn T0 k' d c) ∧ ∀ d', d' < d + 1 → ∀ c, c < 4 → Fix (opB W H (blkN XB YB nb)) M B Wn T0 k d' c)) := Lib.hid (HPS.out.mono (fun h => ⟨h.1, fun d' hd' c hc => by
                          by_cases e : d' = d
                          · subst e; exact h.2.2 c hc
                          · exact h.2.1 d' (by omega) c hc⟩))
                        clear HPS
                        go_wp2_with fail
                        go_roundg (4 - (d + 1))
                        case measure => have := HGD.out; omega
                        case rel => exact ⟨d + 1, ch, T, by go_num, rfl, by omega, Lib.hid (Nat.le_refl _), HPS2, HI, HT, HS, KG, HB, hz⟩
                      have HGC : Hid (4 - c ≤ gk) := Lib.hid HG.out
                      clear HG
                      obtain ⟨g0, g1, g2, g3, g4⟩ := G5.c KG.out
                      obtain ⟨tc, htc⟩ : ∃ z, T (k * 4 + c) = z := ⟨_, rfl⟩
                      have t0 := HT.out.cell (j := k * 4 + c) (by omega)
                      have tf := HT.out.fz (k * 4 + c)
                      rw [htc] at t0
                      have HTC := Lib.hid htc
                      clear htc
                      have y1 : (c : Int) < 4 := by omega
                      have y2 : (k : Int) < (i : Int) := by omega
                      obtain ⟨cs, hcs⟩ : ∃ z, M + tv + bd B c d = z := ⟨_, rfl⟩
                      have hbd := bd_le' (B := B) (i := (c : Int)) (o := (d : Int)) (by omega)
                      have hcs0 : 0 ≤ cs ∧ cs ≤ 1099511700000 := by omega
                      have HCS := Lib.hid hcs
                      have hfix : ¬ cs < tc → T = T0 → Fix (opB W H (blkN XB YB nb)) M B Wn T0 k d c := fun hl hT ho hn2 j' e1 e2 => by
                        have hj' : j' = jn := by
                          have a1 := HJD.out; have a2 := HXY.out; have a3 := HPX.out
                          rw [a2.1, a3.1, ← a1.1] at e1
                          rw [a2.2, a3.2, ← a1.2] at e2
                          have q1 : j' % Wn = jn % Wn := by omega
                          have q2 : j' / Wn = jn / Wn := by omega
                          rw [← Nat.div_add_mod j' Wn, ← Nat.div_add_mod jn Wn, q1, q2]
                        subst hT
                        rw [hj', HTV.out, HTC.out]
                        omega
                      have HPSn : Hid (¬ cs < tc → Ps T0 T (i * 4) ch ((∀ k', k' < k → ∀ d, d < 4 → ∀ c, c < 4 → Fix (opB W H (blkN XB YB nb)) M B Wn T0 k' d c) ∧ (∀ d', d' < d → ∀ c, c < 4 → Fix (opB W H (blkN XB YB nb)) M B Wn T0 k d' c) ∧ ∀ c', c' < c + 1 → Fix (opB W H (blkN XB YB nb)) M B Wn T0 k d c')) := Lib.hid (fun hl => by
                        rcases HPS.out with ⟨e1, e2, h⟩ | h
                        · exact Or.inl ⟨e1, e2, h.1, h.2.1, fun c' hc' => by
                            by_cases e : c' = c
                            · subst e; exact hfix hl e2
                            · exact h.2.2 c' (by omega)⟩
                        · exact Or.inr h)
                      have HLess : Hid (cs < tc → TInv (opB W H (blkN XB YB nb)) M B tx ty Wn i (upd T (k * 4 + c) cs) ∧ sumT (upd T (k * 4 + c) cs) (i * 4) < sumT T0 (i * 4) ∧ upd T (k * 4 + c) cs (jn * 4 + d) = tv) := Lib.hid (fun hl => by
                        have h := HI.out.less (i := k) (d := d) (c := c) (j := jn) (by omega) (by omega) hlk hjN hd4 hc4 (by rw [HXY.out.1, HXY.out.2]; exact HOP.out) (by rw [HXY.out.1, HPX.out.1, HJD.out.1]) (by rw [HXY.out.2, HPX.out.2, HJD.out.2]) (by rw [HTV.out, HTC.out]; omega)
                        rw [HTV.out, HCS.out] at h
                        have h2 := sumT_less (T := T) (j := k * 4 + c) hcs0.1 (by rw [HTC.out]; exact hl) (i * 4) (by omega)
                        refine ⟨h, ?_, by rw [upd_ne _ _ (by omega)]; exact HTV.out⟩
                        rcases HPS.out with ⟨_, e2, _⟩ | ⟨_, h3⟩
                        · rw [← e2]; exact h2
                        · omega)
                      clear hfix HPS hcs
                      by_cases hcd : c = d
                      case pos =>
                        by_cases hl : cs < tc
                        case pos =>
                          have hcse : cs = M + tv := by have h := HCS.out; rw [show bd B c d = 0 from by unfold bd; rw [if_neg (by omega)]] at h; omega
                          have hq : ((c : Int) != (d : Int)) = false := by rw [hcd]; simp
                          have HCD := Lib.hid hcd
                          clear hcd
                          have hlc : M + tv < tc := by omega
                          obtain ⟨hI2, hS2, hV2⟩ := HLess.out hl
                          rw [hcse] at hI2 hS2 hV2
                          have HI2 := Lib.hid hI2
                          have HV2 := Lib.hid hV2
                          have HPS2 : Hid (Ps T0 (upd T (k * 4 + c) (M + tv)) (i * 4) true ((∀ k', k' < k → ∀ d, d < 4 → ∀ c, c < 4 → Fix (opB W H (blkN XB YB nb)) M B Wn T0 k' d c) ∧ (∀ d', d' < d → ∀ c, c < 4 → Fix (opB W H (blkN XB YB nb)) M B Wn T0 k d' c) ∧ ∀ c', c' < c + 1 → Fix (opB W H (blkN XB YB nb)) M B Wn T0 k d c')) := Lib.hid (Or.inr ⟨rfl, hS2⟩)
                          have HT2 : Hid (TBk (wr.setCell ⟨bT, k * 4 + c, none⟩ (.int .i64 (M + tv))) bT (i * 4) (upd T (k * 4 + c) (M + tv))) := Lib.hid (HT.out.put (by omega) _)
                          have HS2 : Hid (SBk (wr.setCell ⟨bT, k * 4 + c, none⟩ (.int .i64 (M + tv))) bS i f) := Lib.hid (HS.out.keep (Below.heap_setCell _ _ _ _ (show bS ≠ bT by omega)))
                          have KG2 : Hid ((wr.setCell ⟨bT, k * 4 + c, none⟩ (.int .i64 (M + tv))).heap[bG]? = some (.cells #[.int .i64 W, .int .i64 H, .int .i64 M, .int .i64 B, .slice ao nb cb] 24 (0, 0))) := Lib.hid ((Below.heap_setCell _ _ _ _ (show bG ≠ bT by omega)).trans KG.out)
                          have HB2 : Hid (Below w.heap.size w (wr.setCell ⟨bT, k * 4 + c, none⟩ (.int .i64 (M + tv)))) := Lib.hid (HB.out.setCell (p := ⟨bT, k * 4 + c, none⟩) (by show w.heap.size ≤ bT; omega) _)
                          have hz2 := HT2.out.lt
                          clear hI2 hS2 hV2 HLess HPSn HI HTV hcse hl
                          go_wp2_with fail
                          go_roundg (4 - (c + 1))
                          case measure => have := HGC.out; omega
                          case rel => exact ⟨c + 1, true, _, by go_num, rfl, by omega, Lib.hid (Nat.le_refl _), HV2, HPS2, HI2, HT2, HS2, KG2, HB2, hz2⟩
                        case neg =>
                          have hcse : cs = M + tv := by have h := HCS.out; rw [show bd B c d = 0 from by unfold bd; rw [if_neg (by omega)]] at h; omega
                          have hq : ((c : Int) != (d : Int)) = false := by rw [hcd]; simp
                          have HCD := Lib.hid hcd
                          clear hcd
                          have hlc : ¬ M + tv < tc := by omega
                          have HPS2 := Lib.hid (HPSn.out hl)
                          clear HLess HPSn hcse hl
                          go_wp2_with fail
                          go_roundg (4 - (c + 1))
                          case measure => have := HGC.out; omega
                          case rel => exact ⟨c + 1, ch, T, by go_num, rfl, by omega, Lib.hid (Nat.le_refl _), HTV, HPS2, HI, HT, HS, KG, HB, hz⟩
                      case neg =>
                        by_cases hl : cs < tc
                        case pos =>
                          have hcse : cs = M + tv + B := by have h := HCS.out; rw [show bd B c d = B from by unfold bd; rw [if_pos (by omega)]] at h; omega
                          have hq : ((c : Int) != (d : Int)) = true := bne_iff_ne.2 (by omega)
                          have hw9 : IntKind.i64.wrap (M + tv + B) = M + tv + B := by rw [IntKind.wrap_i64]; omega
                          have hlc : M + tv + B < tc := by omega
                          obtain ⟨hI2, hS2, hV2⟩ := HLess.out hl
                          rw [hcse] at hI2 hS2 hV2
                          have HI2 := Lib.hid hI2
                          have HV2 := Lib.hid hV2
                          have HPS2 : Hid (Ps T0 (upd T (k * 4 + c) (M + tv + B)) (i * 4) true ((∀ k', k' < k → ∀ d, d < 4 → ∀ c, c < 4 → Fix (opB W H (blkN XB YB nb)) M B Wn T0 k' d c) ∧ (∀ d', d' < d → ∀ c, c < 4 → Fix (opB W H (blkN XB YB nb)) M B Wn T0 k d' c) ∧ ∀ c', c' < c + 1 → Fix (opB W H (blkN XB YB nb)) M B Wn T0 k d c')) := Lib.hid (Or.inr ⟨rfl, hS2⟩)
                          have HT2 : Hid (TBk (wr.setCell ⟨bT, k * 4 + c, none⟩ (.int .i64 (M + tv + B))) bT (i * 4) (upd T (k * 4 + c) (M + tv + B))) := Lib.hid (HT.out.put (by omega) _)
                          have HS2 : Hid (SBk (wr.setCell ⟨bT, k * 4 + c, none⟩ (.int .i64 (M + tv + B))) bS i f) := Lib.hid (HS.out.keep (Below.heap_setCell _ _ _ _ (show bS ≠ bT by omega)))
                          have KG2 : Hid ((wr.setCell ⟨bT, k * 4 + c, none⟩ (.int .i64 (M + tv + B))).heap[bG]? = some (.cells #[.int .i64 W, .int .i64 H, .int .i64 M, .int .i64 B, .slice ao nb cb] 24 (0, 0))) := Lib.hid ((Below.heap_setCell _ _ _ _ (show bG ≠ bT by omega)).trans KG.out)
                          have HB2 : Hid (Below w.heap.size w (wr.setCell ⟨bT, k * 4 + c, none⟩ (.int .i64 (M + tv + B)))) := Lib.hid (HB.out.setCell (p := ⟨bT, k * 4 + c, none⟩) (by show w.heap.size ≤ bT; omega) _)
                          have hz2 := HT2.out.lt
                          clear hI2 hS2 hV2 HLess HPSn HI HTV hcse hl
                          go_wp2_with fail
                          go_roundg (4 - (c + 1))
                          case measure => have := HGC.out; omega
                          case rel => exact ⟨c + 1, true, _, by go_num, rfl, by omega, Lib.hid (Nat.le_refl _), HV2, HPS2, HI2, HT2, HS2, KG2, HB2, hz2⟩
                        case neg =>
                          have hcse : cs = M + tv + B := by have h := HCS.out; rw [show bd B c d = B from by unfold bd; rw [if_pos (by omega)]] at h; omega
                          have hq : ((c : Int) != (d : Int)) = true := bne_iff_ne.2 (by omega)
                          have hw9 : IntKind.i64.wrap (M + tv + B) = M + tv + B := by rw [IntKind.wrap_i64]; omega
                          have hlc : ¬ M + tv + B < tc := by omega
                          have HPS2 := Lib.hid (HPSn.out hl)
                          clear HLess HPSn hcse hl
                          go_wp2_with fail
                          go_roundg (4 - (c + 1))
                          case measure => have := HGC.out; omega
                          case rel => exact ⟨c + 1, ch, T, by go_num, rfl, by omega, Lib.hid (Nat.le_refl _), HTV, HPS2, HI, HT, HS, KG, HB, hz⟩
end Go.Proofs.Ytkkcnhhfdicppaa
