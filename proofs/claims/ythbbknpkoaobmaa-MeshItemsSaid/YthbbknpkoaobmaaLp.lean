import Derived.Test.YthbbknpkoaobmaaAp
import Derived.Test.YthbbknpkoaobmaaPq
import Derived.Test.YthbbknpkoaobmaaVal
import Derived.Test.YthbbknpkoaobmaaPdm
import Derived.Deep.RegionHeld3
namespace Amp
theorem vld_made {z : Nm} (h : vld z = true) : made z.v z.k.toNat = (z, 0) := made_of_eqv h rfl
theorem mulS_one {z : Nm} (h : vld z = true) : mulS N1 z = (z, 0) := by
  unfold mulS
  rw [show vld N1 = true by decide, h]
  simp only [Bool.and_self, if_true]
  rw [show mul N1.v z.v = z.v by apply C4.ext' <;> simp [mul, N1], show N1.k + z.k = z.k by simp [N1]]
  exact vld_made h
theorem red_C0 (k : Nat) : red C0 k = (C0, 0) := by
  induction k with
  | zero => rfl
  | succ k ih => rw [red, if_pos (by decide), show half (tr C0) = C0 by decide, ih]
theorem made_C0 (k : Nat) : made C0 k = (N0, 0) := by
  unfold made; rw [red_C0]; rfl
theorem mulS_nil {z : Nm} (h : vld z = true) : mulS N0 z = (N0, 0) := by
  unfold mulS
  rw [vld_N0, h]
  simp only [Bool.and_self, if_true]
  rw [show mul N0.v z.v = C0 by apply C4.ext' <;> simp [mul, N0, C0]]
  exact made_C0 _
theorem addS_nil {z : Nm} (h : vld z = true) : addS N0 z = (z, 0) := by
  have hk := (vld_k h).1
  have h1 : ∀ N, z.k.toNat ≤ N → sc N N0 = C0 := fun N _ => by
    unfold sc
    show trn (N - 0) C0 = C0
    generalize N - 0 = m
    induction m with
    | zero => rfl
    | succ m ih => rw [trn_succ, ih]; decide
  unfold addS
  rw [vld_N0, h]
  simp only [Bool.and_self, if_true]
  refine made_of_eqv h ?_
  have h2 : z.k.toNat ≤ max (comb N0 z 1).2 z.k.toNat := Nat.le_max_right _ _
  rw [eqv_iff (max (comb N0 z 1).2 z.k.toNat) (Nat.le_max_left _ _) h2]
  rw [comb_sc _ N0 z 1 (by simp [N0]) h2, h1 _ h2]
  show add C0 (smul 1 (sc _ z)) = sc _ z
  apply C4.ext' <;> simp [add, smul, C0]
theorem fstE_zero {g : Nat → Int} {n : Nat} (h : ∀ k, k < n → g k = 0) : fstE g n = 0 := by
  induction n with
  | zero => rfl
  | succ n ih => rw [fstE, if_pos (ih (fun k hk => h k (by omega)))]; exact h n (by omega)
theorem tot_one {f : Nat → Nm} {i : Nat} {z : Nm} (hz : vld z = true) (hi : f i = z) (h0 : ∀ t, t ≠ i → f t = N0) (k : Nat) : tot f k = if i < k then (z, 0) else (N0, 0) := by
  induction k with
  | zero => rfl
  | succ k ih =>
    show stepS (tot f k) (f k) = _
    by_cases e : k = i
    · rw [ih, if_neg (by omega), if_pos (by omega), e, hi]
      unfold stepS
      simp [addS_nil hz]
    · rw [h0 k e]
      by_cases hlt : i < k
      · rw [ih, if_pos hlt, if_pos (by omega)]
        unfold stepS
        simp [addS_comm z N0, addS_nil hz]
      · rw [ih, if_neg hlt, if_neg (by omega)]
        unfold stepS
        simp [addS_nil vld_N0]
theorem prV_vld' (x y : Nat → Nm) (k : Nat) : vld (prV x y k) = true := mulS_vld _ _
theorem tot_congr {f g : Nat → Nm} {n : Nat} (h : ∀ t, t < n → f t = g t) : tot f n = tot g n := by
  induction n with
  | zero => rfl
  | succ n ih => simp only [tot]; rw [ih (fun t ht => h t (by omega)), h n (by omega)]
theorem dotS_id {n i : Nat} {y : Nat → Nm} (hn : n ≤ 6) (hi : i < n) (hy : ∀ t, t < n → vld (y t) = true) : dotS (fun t => idF n (i * n + t)) y n = (y i, 0) := by
  have hx : ∀ t, t < n → mulS (idF n (i * n + t)) (y t) = (if t = i then y i else N0, 0) := fun t ht => by
    unfold idF
    rw [(divmod_at (i := i) ht).1, (divmod_at (i := i) ht).2]
    by_cases e : t = i
    · subst e; rw [if_pos rfl, if_pos rfl, mulS_one (hy t ht)]
    · rw [if_neg (fun h => e h.symm), if_neg e, mulS_nil (hy t ht)]
  have h0 : fstE (prE (fun t => idF n (i * n + t)) y) n = 0 := fstE_zero (fun k hk => by unfold prE; rw [hx k hk])
  unfold dotS
  rw [if_pos h0, sumS_ok (by omega) (okTo_all (fun k _ => prV_vld' _ _ k))]
  have hg : tot (prV (fun t => idF n (i * n + t)) y) n = tot (fun t => if t = i then y i else N0) n := tot_congr (fun t ht => by unfold prV; rw [hx t ht])
  rw [hg, tot_one (f := fun t => if t = i then y i else N0) (z := y i) (hy i hi) (if_pos rfl) (fun t ht => if_neg ht), if_pos hi]
end Amp
namespace Go.Proofs.Ythbbknpkoaobmaa
open Go.RowKit Amp
attribute [local go_sem] ix0 ix1 ix2 ix3 jx0 jx1 jx2 jx3
attribute [local go_sem high] run_eqNum run_neNum

/-- What becomes of light: the error at the beginning, and after k items. -/
def lightE (n m : Nat) (y : Nat → Nm) : Int := if vecS m y = true then (if n = m then 0 else 21) else 20
def lightS (n : Nat) (f : Nat → It) (p : (Nat → Nm) × Int) : Nat → (Nat → Nm) × Int
  | 0 => p
  | k + 1 => if (lightS n f p k).2 = 0 then (appF n (sprI n (f k)) (lightS n f p k).1, fstE (appE n (sprI n (f k)) (lightS n f p k).1) n) else lightS n f p k
theorem lightS_stay {n : Nat} {f : Nat → It} {p : (Nat → Nm) × Int} {k : Nat} (h : (lightS n f p k).2 ≠ 0) : ∀ m, k ≤ m → lightS n f p m = lightS n f p k := by
  intro m
  induction m with
  | zero => intro hk; obtain rfl : k = 0 := (by omega); rfl
  | succ m ih =>
    intro hk
    by_cases e : k = m + 1
    · subst e; rfl
    · have := ih (by omega)
      rw [lightS, this, if_neg h]
theorem lightS_step {n : Nat} {f : Nat → It} {p : (Nat → Nm) × Int} {k : Nat} (h : (lightS n f p k).2 = 0) : lightS n f p (k + 1) = (appF n (sprI n (f k)) (lightS n f p k).1, fstE (appE n (sprI n (f k)) (lightS n f p k).1) n) := by rw [lightS, if_pos h]
theorem okTo_at {f : Nat → Nm} {n : Nat} (h : okTo f n = true) {k : Nat} (hk : k < n) : vld (f k) = true := by
  cases e : vld (f k)
  · rw [okTo_stop e n hk] at h; cases h
  · rfl
theorem vecS_at {n : Nat} {f : Nat → Nm} (h : vecS n f = true) : 1 ≤ n ∧ n ≤ 6 ∧ ∀ k, k < n → vld (f k) = true := by
  unfold vecS at h
  rw [Bool.and_eq_true, decide_eq_true_eq] at h
  exact ⟨h.1.1, h.1.2, fun k hk => okTo_at h.2 hk⟩
theorem vecS_mk {n : Nat} {f : Nat → Nm} (h1 : 0 < n) (h6 : n ≤ 6) (h : ∀ k, k < n → vld (f k) = true) : vecS n f = true := by
  unfold vecS
  have h2 : okTo f n = true := by
    clear h1 h6
    induction n with
    | zero => rfl
    | succ n ih => simp only [okTo]; rw [ih (fun k hk => h k (by omega)), h n (by omega)]; rfl
  rw [decide_eq_true ⟨h1, h6⟩, h2]; rfl
theorem lightS_vld {n : Nat} {f : Nat → It} {p : (Nat → Nm) × Int} (hp : p.2 = 0 → ∀ i, i < n → vld (p.1 i) = true) (k : Nat) (h : (lightS n f p k).2 = 0) : ∀ i, i < n → vld ((lightS n f p k).1 i) = true := by
  cases k with
  | zero => exact hp h
  | succ k =>
    intro i hi
    rw [lightS] at h ⊢
    split
    · exact dotS_vld _ _ _
    · next hh => rw [if_neg hh] at h; exact absurd h hh
theorem Nums.congr {w : World} {ao : Option Addr} {n : Nat} {f g : Nat → Nm} (h : Nums w ao n f) (e : ∀ i, i < n → f i = g i) : Nums w ao n g := fun hn => by
  obtain ⟨b, o, ea, hc⟩ := h hn
  exact ⟨b, o, ea, fun i hi => by rw [← e i hi]; exact hc i hi⟩

set_option maxHeartbeats 2000000 in
theorem apply_bad (n m g cap dap : Nat) (bo : Option Addr) (x y : Nat → Nm) (w : World) (hm : m ≤ 9223372036854775807) (hn : n ≤ 6) (hx : Numw w g (n * n) x) (hy : Nums w bo m y) (hv : Hid (mvS n (n * n) x = true)) (hu : Hid (¬ lightE n m y = 0)) :
    Calls Try.prog 45 #[.agg #[.int .i64 n, .slice (some ⟨g, 0, none⟩) (n * n) cap], .slice bo m dap] w fun e w' => e = .returned (.tuple #[.slice none 0 0, .int .i64 (lightE n m y)]) ∧ Below w.heap.size w w' := by
  have HX := Lib.hid hx
  have HY := Lib.hid hy
  have h36 : n * n ≤ 36 := Nat.mul_le_mul hn hn
  have HBG := Lib.hid (show n * n ≤ 9223372036854775807 by omega)
  clear hx hy h36
  cases hV : vecS m y
  · have HE : Hid (lightE n m y = 20) := Lib.hid (by unfold lightE; rw [hV]; rfl)
    have HV := Lib.hid hV
    clear hV
    go_enter Try.func45, Try.ntmps45
    go_wp2_with fail
    refine (read_yes n (some ⟨g, 0, none⟩) (n * n) cap x _ HBG.out (HX.out.nums.keep (by go_grown)) hv).mono ?_
    rintro e w1 ⟨rfl, hb⟩
    have D1 : Below w.heap.size w w1 := Below.trans (by go_grown) (hb.mono (by first | omega | (simp; done) | (simp; omega)))
    have s1 : w.heap.size < w1.heap.size := by have hs := hb.size; (try simp at hs); omega
    clear hb
    go_wp2_with fail
    refine (validVector_any bo m dap y _ hm (HY.out.keep (by go_grown))).mono ?_
    rintro e w2 ⟨rfl, hb⟩
    rw [HV.out]
    have D2 : Below w.heap.size w w2 := Below.trans (by go_grown) (hb.mono (by first | omega | (simp; done) | (simp; omega)))
    clear hb D1
    go_wp2_with fail
    go_ret2
    exact ⟨by rw [HE.out]; rfl, D2⟩
  · have hne : ¬ n = m := fun h => hu.out (by unfold lightE; rw [if_pos hV, if_pos h])
    have HE : Hid (lightE n m y = 21) := Lib.hid (by unfold lightE; rw [if_pos hV, if_neg hne])
    have HV := Lib.hid hV
    have hb1 : ((n : Int) != (m : Int)) = true := bne_iff_ne.2 (by omega)
    have hb2 : ((n : Int) == (m : Int)) = false := beq_eq_false_iff_ne.2 (by omega)
    clear hV
    go_enter Try.func45, Try.ntmps45
    go_wp2_with fail
    refine (read_yes n (some ⟨g, 0, none⟩) (n * n) cap x _ HBG.out (HX.out.nums.keep (by go_grown)) hv).mono ?_
    rintro e w1 ⟨rfl, hb⟩
    have D1 : Below w.heap.size w w1 := Below.trans (by go_grown) (hb.mono (by first | omega | (simp; done) | (simp; omega)))
    have s1 : w.heap.size < w1.heap.size := by have hs := hb.size; (try simp at hs); omega
    clear hb
    go_wp2_with fail
    refine (validVector_any bo m dap y _ hm (HY.out.keep (by go_grown))).mono ?_
    rintro e w2 ⟨rfl, hb⟩
    rw [HV.out]
    have c0 : w2.cell? ⟨w1.heap.size, 0, none⟩ = some (.int .i64 n) := (hb.cell (p := ⟨w1.heap.size, 0, none⟩) (by first | omega | (simp; done) | (simp; omega))).trans (by go_cell)
    have D2 : Below w.heap.size w w2 := Below.trans (by go_grown) (hb.mono (by first | omega | (simp; done) | (simp; omega)))
    clear hb D1
    go_wp2_with fail
    go_ret2
    exact ⟨by rw [HE.out]; rfl, D2⟩
end Go.Proofs.Ythbbknpkoaobmaa

namespace Go.Proofs.Ythbbknpkoaobmaa
open Go.RowKit Amp
attribute [local go_sem] ix0 ix1 ix2 ix3 jx0 jx1 jx2 jx3
attribute [local go_sem high] run_eqNum run_neNum

/-- A vector as a value, or none. -/
def VSt (w : World) (v : Value) (n : Nat) (F : Nat → Nm) (er : Int) : Prop :=
  (er = 0 ∧ ∃ bo cap, v = .slice bo n cap ∧ Nums w bo n F) ∨ (er ≠ 0 ∧ v = .slice none 0 0)
theorem apply_res (n g cap dap : Nat) (bo : Option Addr) (x y : Nat → Nm) (w : World) (h1 : 0 < n) (hn : n ≤ 6) (hcap : n * n ≤ cap) (hcm : cap ≤ 9223372036854775807) (hx : Numw w g (n * n) x) (hy : Nums w bo n y) (hv : Hid (mvS n (n * n) x = true)) (hu : Hid (vecS n y = true)) :
    Calls Try.prog 45 #[.agg #[.int .i64 n, .slice (some ⟨g, 0, none⟩) (n * n) cap], .slice bo n dap] w fun e w' => (∃ (ro : Option Addr) (rl rc : Nat), e = .returned (.tuple #[.slice ro rl rc, .int .i64 (fstE (appE n x y) n)]) ∧ Hid (VSt w' (.slice ro rl rc) n (appF n x y) (fstE (appE n x y) n))) ∧ Below w.heap.size w w' :=
  (apply_yes n g cap dap bo x y w h1 hn hcap hcm hx hy hv hu).mono fun e w' ⟨hm, hb⟩ => ⟨by
    rcases hm with ⟨h0, ao, cap, rfl, h4⟩ | ⟨h0, rfl⟩
    · exact ⟨ao, n, cap, by rw [h0], Lib.hid (.inl ⟨h0, ao, cap, rfl, h4⟩)⟩
    · exact ⟨none, 0, 0, rfl, Lib.hid (.inr ⟨h0, rfl⟩)⟩, hb⟩
/-- Apply of the identity: the vector itself, or what is wrong with it. -/
theorem apply_id (n m g cap dap : Nat) (bo : Option Addr) (y : Nat → Nm) (w : World) (hm : m ≤ 9223372036854775807) (h1 : 0 < n) (hn : n ≤ 6) (hcap : n * n ≤ cap) (hcm : cap ≤ 9223372036854775807) (hx : Numw w g (n * n) (idF n)) (hy : Nums w bo m y) :
    Calls Try.prog 45 #[.agg #[.int .i64 n, .slice (some ⟨g, 0, none⟩) (n * n) cap], .slice bo m dap] w fun e w' => (∃ (ro : Option Addr) (rl rc : Nat), e = .returned (.tuple #[.slice ro rl rc, .int .i64 (lightE n m y)]) ∧ Hid (VSt w' (.slice ro rl rc) n y (lightE n m y))) ∧ Below w.heap.size w w' := by
  have hv : Hid (mvS n (n * n) (idF n) = true) := Lib.hid (mvS_all h1 hn (idF_vld n))
  by_cases h0 : lightE n m y = 0
  · obtain ⟨rfl, hV⟩ : n = m ∧ vecS m y = true := by
      unfold lightE at h0
      split at h0
      · next hV => split at h0
                   · next e => exact ⟨e, hV⟩
                   · cases h0
      · cases h0
    have hy' := (vecS_at hV).2.2
    have e1 : fstE (appE n (idF n) y) n = 0 := fstE_zero (fun i hi => by unfold appE; rw [dotS_id hn hi hy'])
    have e2 : ∀ i, i < n → appF n (idF n) y i = y i := fun i hi => by unfold appF; rw [dotS_id hn hi hy']
    refine (apply_yes n g cap dap bo (idF n) y w h1 hn hcap hcm hx hy hv (Lib.hid hV)).mono fun e w' ⟨hm, hb⟩ => ⟨?_, hb⟩
    rw [h0]
    rcases hm with ⟨_, ao, cap, rfl, h4⟩ | ⟨h5, _⟩
    · exact ⟨ao, n, cap, rfl, Lib.hid (.inl ⟨rfl, ao, cap, rfl, h4.congr e2⟩)⟩
    · exact absurd e1 h5
  · refine (apply_bad n m g cap dap bo (idF n) y w hm hn hx hy hv (Lib.hid h0)).mono fun e w' ⟨hm, hb⟩ => ⟨?_, hb⟩
    exact ⟨none, 0, 0, hm, Lib.hid (.inr ⟨h0, rfl⟩)⟩

set_option maxRecDepth 100000 in
set_option maxHeartbeats 4000000 in
theorem mLight_ok (n len lap m map' : Nat) (ao vo : Option Addr) (f : Nat → It) (y : Nat → Nm) (w : World) (h1 : 0 < n) (hn : n ≤ 6) (hlen : len ≤ 5000) (hm : m ≤ 9223372036854775807) (hc : Its w ao len f) (hy : Nums w vo m y) (ha : Hid (askS n len f = 0)) (hfit : Hid (fitTo n f len = true)) :
    Calls Try.prog 17 #[.int .i64 n, .slice ao len lap, .slice vo m map'] w fun e w' => VecOr w' e n (lightS n f (y, lightE n m y) len).1 (lightS n f (y, lightE n m y) len).2 ∧ Below w.heap.size w w' := by
  have HC := Lib.hid hc
  have HY := Lib.hid hy
  obtain ⟨p, hp⟩ : ∃ p, Hid (p = (y, lightE n m y)) := ⟨_, rfl⟩
  rw [← hp.out]
  clear hc hy
  have HP : Hid (p.2 = 0 → ∀ i, i < n → vld (p.1 i) = true) := Lib.hid (by
    rw [hp.out]
    intro h0
    simp only at h0 ⊢
    unfold lightE at h0
    split at h0
    · next hV => split at h0
                 · next e => rw [e]; exact (vecS_at hV).2.2
                 · cases h0
    · cases h0)
  go_enter Try.func17, Try.ntmps17
  go_wp2_with fail
  refine (mcheck_any n len lap ao f _ (by omega) (HC.out.keep (Below.refl _ _))).mono ?_
  rintro e w0 ⟨rfl, hb⟩
  rw [ha.out]
  have D0 := Lib.hid hb
  have z0 := hb.size
  clear hb
  go_wp2_with fail
  refine (mIdentityW n _ h1 hn).mono ?_
  rintro e w1 ⟨⟨g0, cap0, rfl, hnu, hg1, hg2, hg3⟩, hb⟩
  have HN := Lib.hid hnu
  have HG := Lib.hid (And.intro hg2 hg3)
  have D1 := Lib.hid (D0.out.trans (hb.mono z0))
  have z1 := hb.size
  clear hb hnu hg1 hg2 hg3
  go_wp2_with fail
  refine (apply_id n m g0 cap0 map' vo y _ hm h1 hn HG.out.1 HG.out.2 (HN.out.alloc _) (HY.out.keep (by have := D1.out; go_grown))).mono ?_
  rintro e w2 ⟨⟨ro, rl, rc, rfl, HRES⟩, hb⟩
  have D2 : Below w.heap.size w w2 := Below.trans (by have := D1.out; go_grown) (hb.mono (by have := z1; have := z0; first | omega | (simp; omega)))
  obtain ⟨E0, hE0⟩ : ∃ E0, Hid (lightE n m y = E0) := ⟨_, rfl⟩
  rw [hE0.out] at HRES ⊢
  clear hb
  go_wp2_with fail
  go_loopw [10, 11, 13, 36] (fun ev lv _ iv wr => ∃ (k : Nat) (er : Int), iv = .int .i64 k ∧ ev = .int .i64 er ∧ k ≤ len ∧ Hid ((lightS n f p k).2 = er) ∧ Hid (VSt wr lv n (lightS n f p k).1 er) ∧ Below w.heap.size w wr) (fun _ _ _ iv _ => len - (intOf iv).toNat)
  case atStart => exact ⟨0, E0, rfl, rfl, by omega, Lib.hid (by rw [hp.out]; exact hE0.out), by rw [hp.out]; exact HRES, D2⟩
  case round =>
    obtain ⟨k, er, rfl, rfl, hk, HER, HVS, hbel⟩ := hrel
    have hsz := hbel.size
    by_cases hlt : k < len
    · have hlt' : (k : Int) < (len : Int) := by omega
      obtain ⟨b, o, rfl, hcell⟩ := (Its.keep HC.out hbel) (by omega)
      obtain ⟨⟨kd, at', m, nm⟩, hx⟩ : ∃ x : It, f k = x := ⟨_, rfl⟩
      have hz := hcell k hlt
      have hitf := fitTo_at hfit.out hlt
      rw [hx] at hz hitf
      obtain ⟨c0, c1, c2, c3, _⟩ := hz
      simp only at c0 c1 c2 c3
      obtain ⟨hk3, hat1, hat2, hat3, hown⟩ := itF_own hitf
      have HK3 := Lib.hid hk3
      have HIT := Lib.hid (And.intro hat2 (And.intro hat3 hown))
      have HX := Lib.hid hx
      have lb : b < wr.heap.size := World.block_lt_of_cell? wr _ c0
      have hne : ¬ wr.heap.size = b := by omega
      clear hcell hx hitf hk3 hat1 hat2 hat3 hown
      by_cases her : ¬ er = 0
      · have hb0 : (er == 0) = false := beq_eq_false_iff_ne.2 her
        have hb1 : (er != 0) = true := bne_iff_ne.2 her
        have HNE := Lib.hid her
        clear her
        go_wp2_with fail
        go_ret2
        have hst := lightS_stay (n := n) (f := f) (p := p) (k := k) (by rw [HER.out]; exact HNE.out) len (by omega)
        rw [hst]
        exact ⟨.inr ⟨by rw [HER.out]; exact HNE.out, by rw [HER.out]; rfl⟩, by go_grown⟩
      obtain rfl : er = 0 := Decidable.not_not.1 her
      clear her
      obtain ⟨lo, lc, hl1, hln⟩ : ∃ bo cap, u11 = .slice bo n cap ∧ Nums wr bo n (lightS n f p k).1 := by
        rcases HVS.out with ⟨_, h⟩ | ⟨h, _⟩
        · exact h
        · exact absurd rfl h
      subst hl1
      have HLN := Lib.hid hln
      have HV1 : Hid (mvS n (n * n) (sprI n ⟨kd, at', m, nm⟩) = true) := Lib.hid (mvS_all h1 hn (sprI_vld n _))
      have HV2 : Hid (vecS n (lightS n f p k).1 = true) := Lib.hid (vecS_mk h1 hn (lightS_vld HP.out k HER.out))
      have HST : Hid (lightS n f p (k + 1) = (appF n (sprI n ⟨kd, at', m, nm⟩) (lightS n f p k).1, fstE (appE n (sprI n ⟨kd, at', m, nm⟩) (lightS n f p k).1) n)) := Lib.hid (by rw [lightS_step HER.out, HX.out])
      clear hln
      go_upto_region 13 with fail
      have hw0 : Below wr.heap.size wr (wr.alloc (Obj.cells #[.int .i64 kd, .int .i64 at', .int .i64 m, .string nm] 61)) := by go_grown
      have hs0 : (wr.alloc (Obj.cells #[.int .i64 kd, .int .i64 at', .int .i64 m, .string nm] 61)).cell? ⟨wr.heap.size, 0, none⟩ = some (.int .i64 kd) ∧ (wr.alloc (Obj.cells #[.int .i64 kd, .int .i64 at', .int .i64 m, .string nm] 61)).cell? ⟨wr.heap.size, 1, none⟩ = some (.int .i64 at') ∧ (wr.alloc (Obj.cells #[.int .i64 kd, .int .i64 at', .int .i64 m, .string nm] 61)).cell? ⟨wr.heap.size, 2, none⟩ = some (.int .i64 m) ∧ (wr.alloc (Obj.cells #[.int .i64 kd, .int .i64 at', .int .i64 m, .string nm] 61)).cell? ⟨wr.heap.size, 3, none⟩ = some (.string nm) := ⟨by go_cell, by go_cell, by go_cell, by go_cell⟩
      have hwsz : wr.heap.size < (wr.alloc (Obj.cells #[.int .i64 kd, .int .i64 at', .int .i64 m, .string nm] 61)).heap.size := by simp
      generalize (wr.alloc (Obj.cells #[.int .i64 kd, .int .i64 at', .int .i64 m, .string nm] 61)) = W at *
      have G0 : Hid (∀ w', Below W.heap.size W w' → w'.cell? ⟨wr.heap.size, 0, none⟩ = some (.int .i64 kd) ∧ w'.cell? ⟨wr.heap.size, 1, none⟩ = some (.int .i64 at') ∧ w'.cell? ⟨wr.heap.size, 2, none⟩ = some (.int .i64 m) ∧ w'.cell? ⟨wr.heap.size, 3, none⟩ = some (.string nm)) := Lib.hid (fun w' hb => by
        have e1 := fun o' => hb.cell (p := ⟨wr.heap.size, o', none⟩) hwsz
        rw [e1, e1, e1, e1]
        exact hs0)
      have HB0 := Lib.hid hw0
      have HBW := Lib.hid (hbel.trans (hw0.mono (by omega)))
      clear hw0 hbel c0 c1 c2 c3
      go_region_held3 (fun w' => w'.cell? ⟨wr.heap.size, 0, none⟩ = some (.int .i64 kd) ∧ w'.cell? ⟨wr.heap.size, 1, none⟩ = some (.int .i64 at') ∧ w'.cell? ⟨wr.heap.size, 2, none⟩ = some (.int .i64 m) ∧ w'.cell? ⟨wr.heap.size, 3, none⟩ = some (.string nm))
        ((first | (refine G0.out _ ?_; go_grown; done) | go_keep))
        ((first | (go_at_call 47; refine (own_any kd at' m nm _ HK3.out).mono ?_; rintro e wA ⟨⟨og, rfl, hog, hogB⟩, hb⟩; have HD : Below W.heap.size W wA := (Below.trans (by first | exact Below.refl _ _ | go_grown) (hb.mono (by first | omega | (simp; done) | (simp; omega)))); have hzA := HD.size; have HOG := Lib.hid hog; clear hb hog hogB) | (go_at_call 46; refine (spread_any n (at' - 1).toNat (ownS ⟨kd, at', m, nm⟩) og _ at' (ownF ⟨kd, at', m, nm⟩) _ h1 hn HIT.out.2.2 HIT.out.1 HIT.out.2.1 ?_).mono ?_; (focus (exact HOG.out)); rintro e wB ⟨⟨sg, sap, rfl, hsg, hsgB, hsc, hsm⟩, hb⟩; have HD : Below W.heap.size W wB := (Below.trans (by first | exact Below.refl _ _ | go_grown) (hb.mono (by first | omega | (simp; done) | (simp; omega)))); have hzA := HD.size; have HSG := Lib.hid hsg; have HSC := Lib.hid (And.intro hsc hsm); clear hb hsg hsgB hsc hsm) | (go_at_call 45; refine (apply_res n sg sap lc lo (sprI n ⟨kd, at', m, nm⟩) (lightS n f p k).1 _ h1 hn HSC.out.1 HSC.out.2 ?_ ?_ HV1 HV2).mono ?_; (focus (exact HSG.out)); (focus (exact Nums.keep HLN.out (HB0.out.trans (HD.mono (by omega))))); rintro e wC ⟨⟨ro, rl, rc, rfl, HRES⟩, hb⟩; have HD : Below W.heap.size W wC := (Below.trans (by first | exact Below.refl _ _ | go_grown) (hb.mono (by first | omega | (simp; done) | (simp; omega)))); have hzA := HD.size; clear hb)))
      all_goals
        have DZ := HBW.out.trans (HD.mono (show w.heap.size ≤ W.heap.size by omega))
        go_wp2_with fail
        go_roundw
        case rel => exact ⟨k + 1, _, by go_num, rfl, by omega, Lib.hid (by rw [HST.out]), by rw [HST.out]; exact HRES, DZ⟩
        case measure => simp [intOf]; omega
    · obtain rfl : k = len := by omega
      rcases HVS.out with ⟨h0, bo, cap, rfl, hnu⟩ | ⟨h0, rfl⟩
      · have HN1 := Lib.hid hnu
        subst h0
        clear hnu
        go_wp2_with fail
        go_ret2
        exact ⟨.inl ⟨HER.out, bo, cap, rfl, HN1.out⟩, hbel⟩
      · have H0 := Lib.hid h0
        clear h0
        go_wp2_with fail
        go_ret2
        exact ⟨.inr ⟨by rw [HER.out]; exact H0.out, by rw [HER.out]; rfl⟩, hbel⟩
set_option maxHeartbeats 2000000 in
theorem mLight_no (N : Int) (len lap m map' : Nat) (ao vo : Option Addr) (f : Nat → It) (w : World) (hlen : len ≤ 9223372036854775807) (hc : Its w ao len f) (ha : Hid (¬ askS N len f = 0)) :
    Calls Try.prog 17 #[.int .i64 N, .slice ao len lap, .slice vo m map'] w fun e w' => e = .returned (.tuple #[.slice none 0 0, .int .i64 (askS N len f)]) ∧ Below w.heap.size w w' := by
  have HC := Lib.hid hc
  obtain ⟨er, hr⟩ : ∃ er, Hid (askS N len f = er) := ⟨_, rfl⟩
  have hne : ¬ er = 0 := by rw [← hr.out]; exact ha.out
  have hb0 : (er == 0) = false := beq_eq_false_iff_ne.2 hne
  have hb1 : (er != 0) = true := bne_iff_ne.2 hne
  clear hc hne
  go_enter Try.func17, Try.ntmps17
  go_wp2_with fail
  refine (mcheck_any N len lap ao f _ hlen (HC.out.keep (Below.refl _ _))).mono ?_
  rintro e w1 ⟨rfl, hb⟩
  rw [hr.out]
  go_wp2_with fail
  go_ret2
  exact ⟨by rw [hr.out]; rfl, hb⟩
end Go.Proofs.Ythbbknpkoaobmaa
