import Derived.Test.YtjodjfllgofkaaaPdm
import Derived.Deep.RegionWith
import Derived.Deep.DeepCutAuto
namespace Go.Proofs.Ytjodjfllgofkaaa
open Go.RowKit Amp
attribute [local go_sem] ix0 ix1 ix2 ix3 jx0 jx1 jx2 jx3
attribute [local go_sem high] run_eqNum run_neNum

theorem someF {a : Addr} {w' : World} {v : Value} {F : World → Value} (hF : Hid (∀ w', F w' = (w'.cell? a).getD undef)) (h : w'.cell? a = some v) : w'.cell? a = some (F w') := by rw [hF.out, h]; rfl
/-- What a product of matrices returned. -/
def MRes (B : Nat) (w : World) (n : Nat) (F : Nat → Nm) (er x0 : Int) (so : Option Addr) (sl sc : Nat) : Prop :=
  (er = 0 ∧ ∃ g, x0 = n ∧ so = some ⟨g, 0, none⟩ ∧ sl = n * n ∧ Numw w g (n * n) F ∧ B ≤ g ∧ n * n ≤ sc ∧ sc ≤ 9223372036854775807) ∨ (er ≠ 0 ∧ x0 = 0 ∧ so = none ∧ sl = 0 ∧ sc = 0)
theorem MRes.base {B B' : Nat} {w : World} {n : Nat} {F : Nat → Nm} {er x0 : Int} {so : Option Addr} {sl sc : Nat} (h : MRes B w n F er x0 so sl sc) (hB : B' ≤ B) : MRes B' w n F er x0 so sl sc := by
  rcases h with ⟨h0, g, h1, h2, h3, h4, h5, h6⟩ | h
  · exact .inl ⟨h0, g, h1, h2, h3, h4, by omega, h6⟩
  · exact .inr h
theorem MRes.other {B : Nat} {w : World} {n : Nat} {F : Nat → Nm} {er x0 : Int} {so : Option Addr} {sl sc : Nat} (h : MRes B w n F er x0 so sl sc) {m k : Nat} {v : Value} (hm : m < B) : MRes B (w.setCell ⟨m, k, none⟩ v) n F er x0 so sl sc := by
  rcases h with ⟨h0, g, h1, h2, h3, h4, h5, h6⟩ | h
  · exact .inl ⟨h0, g, h1, h2, h3, h4.other (by omega), h5, h6⟩
  · exact .inr h
theorem MRes.drew {B : Nat} {w : World} {n : Nat} {F : Nat → Nm} {er x0 : Int} {so : Option Addr} {sl sc : Nat} (h : MRes B w n F er x0 so sl sc) : MRes B w.drew n F er x0 so sl sc := by
  rcases h with ⟨h0, g, h1, h2, h3, h4, h5, h6⟩ | h
  · exact .inl ⟨h0, g, h1, h2, h3, h4.drew, h5, h6⟩
  · exact .inr h
theorem mMul_res (n g h cap dap : Nat) (x y : Nat → Nm) (w : World) (h1 : 0 < n) (hn : n ≤ 6) (hcap : n * n ≤ cap) (hcm : cap ≤ 9223372036854775807) (hx : Numw w g (n * n) x) (hy : Numw w h (n * n) y) (hv : Hid (mvS n (n * n) x = true)) (hu : Hid (mvS n (n * n) y = true)) :
    Calls Try.prog 86 #[.agg #[.int .i64 n, .slice (some ⟨g, 0, none⟩) (n * n) cap], .agg #[.int .i64 n, .slice (some ⟨h, 0, none⟩) (n * n) dap]] w fun e w' => (∃ (x0 : Int) (so : Option Addr) (sl sc : Nat), e = .returned (.tuple #[.agg #[.int .i64 x0, .slice so sl sc], .int .i64 (mulE n x y)]) ∧ Hid (MRes w.heap.size w' n (mulF n x y) (mulE n x y) x0 so sl sc)) ∧ Below w.heap.size w w' :=
  (mMul_yes n g h cap dap x y w h1 hn hcap hcm hx hy hv hu).mono fun e w' ⟨hm, hb⟩ => ⟨by
    rcases hm with ⟨h0, g, cap, rfl, h4, h5, h6, h7⟩ | ⟨h0, rfl⟩
    · exact ⟨n, some ⟨g, 0, none⟩, n * n, cap, by rw [h0], Lib.hid (.inl ⟨h0, g, rfl, rfl, rfl, h4, h5, h6, h7⟩)⟩
    · exact ⟨0, none, 0, 0, rfl, Lib.hid (.inr ⟨h0, rfl, rfl, rfl, rfl⟩)⟩, hb⟩
/-- What product keeps: the matrix so far, or the error. -/
def PSt (w : World) (B M n : Nat) (p : (Nat → Nm) × Int) : Prop :=
  (p.2 = 0 ∧ ∃ g cap, w.cell? ⟨M, 0, none⟩ = some (.int .i64 n) ∧ w.cell? ⟨M, 1, none⟩ = some (.slice (some ⟨g, 0, none⟩) (n * n) cap) ∧ Numw w g (n * n) p.1 ∧ B ≤ g ∧ ¬ M = g ∧ n * n ≤ cap ∧ cap ≤ 9223372036854775807) ∨
  (p.2 ≠ 0 ∧ w.cell? ⟨M, 0, none⟩ = some (.int .i64 0) ∧ w.cell? ⟨M, 1, none⟩ = some (.slice none 0 0))
theorem PSt.of {w : World} {B B' M n : Nat} {F : Nat → Nm} {er x0 : Int} {so : Option Addr} {sl sc : Nat} (h0 : w.cell? ⟨M, 0, none⟩ = some (.int .i64 x0)) (h1 : w.cell? ⟨M, 1, none⟩ = some (.slice so sl sc)) (h : MRes B w n F er x0 so sl sc) (hM : M < B) (hB : B' ≤ B) : PSt w B' M n (F, er) := by
  rcases h with ⟨e, g, rfl, rfl, rfl, h4, h5, h6, h7⟩ | ⟨e, rfl, rfl, rfl, rfl⟩
  · exact .inl ⟨e, g, sc, h0, h1, h4, by omega, by omega, h6, h7⟩
  · exact .inr ⟨e, h0, h1⟩

set_option maxRecDepth 100000 in
set_option maxHeartbeats 4000000 in
theorem mproduct_any (n len lap : Nat) (ao : Option Addr) (f : Nat → It) (w : World) (h1 : 0 < n) (hn : n ≤ 6) (hlen : len ≤ 5000) (hc : Its w ao len f) (hfit : Hid (fitTo n f len = true)) :
    Calls Try.prog 48 #[.int .i64 n, .slice ao len lap, .map none] w fun e w' => MatWOr w.heap.size w' e n (prodS n f len).1 (prodS n f len).2 ∧ Below w.heap.size w w' := by
  have HC := Lib.hid hc
  clear hc
  go_enter Try.func48, Try.ntmps48
  go_wp2_with fail
  refine (mIdentityW n _ h1 hn).mono ?_
  rintro e w1 ⟨⟨g0, cap0, rfl, hnu, hg1, hg2, hg3⟩, hb⟩
  have HN := Lib.hid hnu
  have hg6 : g0 < w1.heap.size := World.block_lt_of_cell? w1 _ (hnu 0 (Nat.mul_pos h1 h1)).1.1
  have hg5 : w.heap.size + 1 ≤ g0 := by first | omega | (simp at hg1; omega)
  have HG := Lib.hid (And.intro hg2 hg3)
  clear hnu hg1 hg2 hg3
  obtain ⟨ka1, kb1⟩ := bcell hb
  have c1_0_0 : w1.cell? ⟨w.heap.size, 0, none⟩ = some (.int .i64 0) := (ka1 _ _ (by first | omega | (simp; done) | (simp; omega))).trans (by go_cell)
  have f1_0_0 : w1.frozen? ⟨w.heap.size, 0, none⟩ = false := (kb1 _ _ (by first | omega | (simp; done) | (simp; omega))).trans (by go_cell)
  have c1_0_1 : w1.cell? ⟨w.heap.size, 1, none⟩ = some (.slice none 0 0) := (ka1 _ _ (by first | omega | (simp; done) | (simp; omega))).trans (by go_cell)
  have f1_0_1 : w1.frozen? ⟨w.heap.size, 1, none⟩ = false := (kb1 _ _ (by first | omega | (simp; done) | (simp; omega))).trans (by go_cell)
  have D1 : Below w.heap.size w w1 := Below.trans (by go_grown) (hb.mono (by first | omega | (simp; done) | (simp; omega)))
  have s1_0 : w.heap.size < w1.heap.size := by have hs := hb.size; (try simp at hs); omega
  clear hb ka1 kb1
  go_wp2_with fail
  go_loopw [9, 11, 19] (fun ev _ iv wr => ∃ (k : Nat) (er : Int), iv = .int .i64 k ∧ ev = .int .i64 er ∧ k ≤ len ∧ Hid ((prodS n f k).2 = er) ∧ Hid (PSt wr (w.heap.size + 1) w1.heap.size n (prodS n f k)) ∧ wr.frozen? ⟨w1.heap.size, 0, none⟩ = false ∧ wr.frozen? ⟨w1.heap.size, 1, none⟩ = false ∧ wr.cell? ⟨w.heap.size, 0, none⟩ = some (.int .i64 0) ∧ wr.cell? ⟨w.heap.size, 1, none⟩ = some (.slice none 0 0) ∧ wr.frozen? ⟨w.heap.size, 0, none⟩ = false ∧ wr.frozen? ⟨w.heap.size, 1, none⟩ = false ∧ Below w.heap.size w wr ∧ w1.heap.size < wr.heap.size) (fun _ _ iv _ => len - (intOf iv).toNat)
  case atStart =>
    refine ⟨0, 0, rfl, rfl, by omega, Lib.hid rfl, Lib.hid (.inl ⟨rfl, g0, cap0, by go_cell, by go_cell, ?_, hg5, by omega, HG.out.1, HG.out.2⟩), by go_cell, by go_cell, by go_cell, by go_cell, by go_cell, by go_cell, by go_grown, by simp⟩
    exact HN.out.alloc _
  case round =>
    obtain ⟨k, er, rfl, rfl, hk, HER, HPS, f0, f1, r0, r1, q0, q1, hbel, hsz⟩ := hrel
    have hsz0 : w.heap.size < wr.heap.size := by omega
    by_cases hlt : k < len
    · have hlt' : (k : Int) < (len : Int) := by omega
      obtain ⟨b, o, rfl, hcell⟩ := (Its.keep HC.out hbel) (by omega)
      obtain ⟨⟨kd, at', m, nm⟩, hx⟩ : ∃ x : It, f k = x := ⟨_, rfl⟩
      have hz := hcell k hlt
      have hitf := fitTo_at hfit.out hlt
      rw [hx] at hz hitf
      obtain ⟨c0, c1, c2, c3, _⟩ := hz
      simp only at c0 c1 c2 c3
      obtain ⟨hk3, hat1, hat2, hat3, hown⟩ := itF_own hitf
      have HK3 := Lib.hid hk3
      have HIT := Lib.hid (And.intro hat2 (And.intro hat3 hown))
      have HX := Lib.hid hx
      have lb : b < wr.heap.size := World.block_lt_of_cell? wr _ c0
      have hne : ¬ wr.heap.size = b := by omega
      have hneM : ¬ wr.heap.size = w1.heap.size := by omega
      have hneR : ¬ wr.heap.size = w.heap.size := by omega
      clear hcell hx hitf hk3 hat1 hat2 hat3 hown
      by_cases her : ¬ er = 0
      · have hb0 : (er == 0) = false := beq_eq_false_iff_ne.2 her
        have hb1 : (er != 0) = true := bne_iff_ne.2 her
        have HNE := Lib.hid her
        clear her
        go_wp2_with fail
        refine bodyPost_ret (v := .tuple #[.agg #[.int .i64 0, .slice none 0 0], .int .i64 er]) (by simp [results, Try.results48, go_sem, *]) rfl ⟨?_, by go_grown⟩
        have hst := prodS_stay (n := n) (f := f) (k := k) (by rw [HER.out]; exact HNE.out) len (by omega)
        rw [hst]
        exact .inr ⟨by rw [HER.out]; exact HNE.out, by rw [HER.out]⟩
      obtain rfl : er = 0 := Decidable.not_not.1 her
      clear her
      obtain ⟨g, cap, m0, m1, hnu, hgB, hMg, hgc, hgm⟩ : ∃ g cap, wr.cell? ⟨w1.heap.size, 0, none⟩ = some (.int .i64 n) ∧ wr.cell? ⟨w1.heap.size, 1, none⟩ = some (.slice (some ⟨g, 0, none⟩) (n * n) cap) ∧ Numw wr g (n * n) (prodS n f k).1 ∧ w.heap.size + 1 ≤ g ∧ ¬ w1.heap.size = g ∧ n * n ≤ cap ∧ cap ≤ 9223372036854775807 := by
        rcases HPS.out with ⟨_, h⟩ | ⟨h, _⟩
        · exact h
        · exact absurd HER.out h
      have HN1 := Lib.hid hnu
      have HGC := Lib.hid (And.intro hgB (And.intro hMg (And.intro hgc hgm)))
      have HV1 : Hid (mvS n (n * n) (sprI n ⟨kd, at', m, nm⟩) = true) := Lib.hid (mvS_all h1 hn (sprI_vld n _))
      have HV2 : Hid (mvS n (n * n) (prodS n f k).1 = true) := Lib.hid (mvS_all h1 hn (prodS_vld n f k))
      have HST : Hid (prodS n f (k + 1) = (mulF n (sprI n ⟨kd, at', m, nm⟩) (prodS n f k).1, mulE n (sprI n ⟨kd, at', m, nm⟩) (prodS n f k).1)) := Lib.hid (by rw [prodS_step HER.out, HX.out])
      have HRR := Lib.hid (And.intro r0 (And.intro r1 (And.intro q0 q1)))
      clear hnu hgB hMg hgc hgm
      go_upto_region 7 with fail
      have hw0 : Below wr.heap.size wr (wr.alloc (Obj.cells #[.int .i64 kd, .int .i64 at', .int .i64 m, .string nm] 68)) := by go_grown
      have hs0 : (wr.alloc (Obj.cells #[.int .i64 kd, .int .i64 at', .int .i64 m, .string nm] 68)).cell? ⟨wr.heap.size, 0, none⟩ = some (.int .i64 kd) ∧ (wr.alloc (Obj.cells #[.int .i64 kd, .int .i64 at', .int .i64 m, .string nm] 68)).cell? ⟨wr.heap.size, 1, none⟩ = some (.int .i64 at') ∧ (wr.alloc (Obj.cells #[.int .i64 kd, .int .i64 at', .int .i64 m, .string nm] 68)).cell? ⟨wr.heap.size, 2, none⟩ = some (.int .i64 m) ∧ (wr.alloc (Obj.cells #[.int .i64 kd, .int .i64 at', .int .i64 m, .string nm] 68)).cell? ⟨wr.heap.size, 3, none⟩ = some (.string nm) ∧ (wr.alloc (Obj.cells #[.int .i64 kd, .int .i64 at', .int .i64 m, .string nm] 68)).cell? ⟨w1.heap.size, 0, none⟩ = some (.int .i64 n) ∧ (wr.alloc (Obj.cells #[.int .i64 kd, .int .i64 at', .int .i64 m, .string nm] 68)).cell? ⟨w1.heap.size, 1, none⟩ = some (.slice (some ⟨g, 0, none⟩) (n * n) cap) := ⟨by go_cell, by go_cell, by go_cell, by go_cell, by go_cell, by go_cell⟩
      have hfz : (wr.alloc (Obj.cells #[.int .i64 kd, .int .i64 at', .int .i64 m, .string nm] 68)).frozen? ⟨w1.heap.size, 0, none⟩ = false ∧ (wr.alloc (Obj.cells #[.int .i64 kd, .int .i64 at', .int .i64 m, .string nm] 68)).frozen? ⟨w1.heap.size, 1, none⟩ = false := ⟨by go_cell, by go_cell⟩
      have hrz : (wr.alloc (Obj.cells #[.int .i64 kd, .int .i64 at', .int .i64 m, .string nm] 68)).cell? ⟨w.heap.size, 0, none⟩ = some (.int .i64 0) ∧ (wr.alloc (Obj.cells #[.int .i64 kd, .int .i64 at', .int .i64 m, .string nm] 68)).cell? ⟨w.heap.size, 1, none⟩ = some (.slice none 0 0) ∧ (wr.alloc (Obj.cells #[.int .i64 kd, .int .i64 at', .int .i64 m, .string nm] 68)).frozen? ⟨w.heap.size, 0, none⟩ = false ∧ (wr.alloc (Obj.cells #[.int .i64 kd, .int .i64 at', .int .i64 m, .string nm] 68)).frozen? ⟨w.heap.size, 1, none⟩ = false := ⟨by go_cell, by go_cell, by go_cell, by go_cell⟩
      have hwsz : (wr.alloc (Obj.cells #[.int .i64 kd, .int .i64 at', .int .i64 m, .string nm] 68)).heap.size = wr.heap.size + 1 := by simp
      generalize (wr.alloc (Obj.cells #[.int .i64 kd, .int .i64 at', .int .i64 m, .string nm] 68)) = W at *
      have lM : w1.heap.size < W.heap.size := by omega
      have lR : w.heap.size < W.heap.size := by omega
      have lX : wr.heap.size < W.heap.size := by omega
      have V0 : ∀ w', Below W.heap.size W w' → w'.cell? ⟨wr.heap.size, 0, none⟩ = some (.int .i64 kd) ∧ w'.cell? ⟨wr.heap.size, 1, none⟩ = some (.int .i64 at') ∧ w'.cell? ⟨wr.heap.size, 2, none⟩ = some (.int .i64 m) ∧ w'.cell? ⟨wr.heap.size, 3, none⟩ = some (.string nm) ∧ w'.cell? ⟨w1.heap.size, 0, none⟩ = some (.int .i64 n) ∧ w'.cell? ⟨w1.heap.size, 1, none⟩ = some (.slice (some ⟨g, 0, none⟩) (n * n) cap) := fun w' hb => by
        have e1 := fun o' => hb.cell (p := ⟨wr.heap.size, o', none⟩) lX
        have e2 := fun o' => hb.cell (p := ⟨w1.heap.size, o', none⟩) lM
        rw [e1, e1, e1, e1, e2, e2]
        exact hs0
      have V1 : ∀ w', Below W.heap.size W w' → w'.frozen? ⟨w1.heap.size, 0, none⟩ = false ∧ w'.frozen? ⟨w1.heap.size, 1, none⟩ = false := fun w' hb => by
        have e2 := fun o' => hb.frozen (p := ⟨w1.heap.size, o', none⟩) lM
        rw [e2, e2]
        exact hfz
      have V2 : ∀ w', Below W.heap.size W w' → w'.cell? ⟨w.heap.size, 0, none⟩ = some (.int .i64 0) ∧ w'.cell? ⟨w.heap.size, 1, none⟩ = some (.slice none 0 0) ∧ w'.frozen? ⟨w.heap.size, 0, none⟩ = false ∧ w'.frozen? ⟨w.heap.size, 1, none⟩ = false := fun w' hb => by
        have e1 := fun o' => hb.cell (p := ⟨w.heap.size, o', none⟩) lR
        have e2 := fun o' => hb.frozen (p := ⟨w.heap.size, o', none⟩) lR
        rw [e1, e1, e2, e2]
        exact hrz
      have G0 := Lib.hid V0
      have G3 : Hid (∀ w', Below W.heap.size W w' → w'.cell? ⟨wr.heap.size, 0, none⟩ = some (.int .i64 kd) ∧ w'.cell? ⟨wr.heap.size, 1, none⟩ = some (.int .i64 at') ∧ w'.cell? ⟨wr.heap.size, 2, none⟩ = some (.int .i64 m) ∧ w'.cell? ⟨wr.heap.size, 3, none⟩ = some (.string nm)) := Lib.hid (fun w' hb => by
        obtain ⟨v0, v1, v2, v3, _⟩ := G0.out w' hb
        exact ⟨v0, v1, v2, v3⟩)
      have G4 : Hid (∀ w', Below W.heap.size W w' → w'.cell? ⟨w1.heap.size, 0, none⟩ = some (.int .i64 n) ∧ w'.cell? ⟨w1.heap.size, 1, none⟩ = some (.slice (some ⟨g, 0, none⟩) (n * n) cap)) := Lib.hid (fun w' hb => by
        obtain ⟨_, _, _, _, v4, v5⟩ := G0.out w' hb
        exact ⟨v4, v5⟩)
      obtain ⟨x0', x1', x2', x3', m0', m1'⟩ := hs0
      have G1 := Lib.hid V1
      have G2 := Lib.hid V2
      have HB0 := Lib.hid hw0
      have HBW := Lib.hid (hbel.trans (hw0.mono (by omega)))
      obtain ⟨f2, f3⟩ := hfz
      clear V0 V1 V2 hw0 hrz hbel f0 f1 r0 r1 q0 q1 c0 c1 c2 c3 m0 m1
      go_region_with ((first | (go_at_call 56; refine (own_any kd at' m nm _ HK3.out).mono ?_; rintro e wA ⟨⟨og, rfl, hog, hogB⟩, hb⟩; have HD : Below W.heap.size W wA := (Below.trans (by first | exact Below.refl _ _ | go_grown) (hb.mono (by first | omega | (simp; done) | (simp; omega)))); have hzA := HD.size; obtain ⟨_, _⟩ := G1.out _ HD; obtain ⟨_, _, _, _⟩ := G3.out _ HD; obtain ⟨_, _⟩ := G4.out _ HD; have HOG := Lib.hid hog; clear hb hog hogB) | (go_at_call 55; refine (spread_any n (at' - 1).toNat (ownS ⟨kd, at', m, nm⟩) og _ at' (ownF ⟨kd, at', m, nm⟩) _ h1 hn HIT.out.2.2 HIT.out.1 HIT.out.2.1 ?_).mono ?_; (focus (exact HOG.out)); rintro e wB ⟨⟨sg, sap, rfl, hsg, hsgB, hsc, hsm⟩, hb⟩; have HD : Below W.heap.size W wB := (Below.trans (by first | exact Below.refl _ _ | go_grown) (hb.mono (by first | omega | (simp; done) | (simp; omega)))); have hzA := HD.size; obtain ⟨_, _⟩ := G1.out _ HD; obtain ⟨_, _, _, _⟩ := G3.out _ HD; obtain ⟨_, _⟩ := G4.out _ HD; have HSG := Lib.hid hsg; have HSC := Lib.hid (And.intro hsc hsm); clear hb hsg hsgB hsc hsm) | (go_at_call 86; refine (mMul_res n sg g sap cap (sprI n ⟨kd, at', m, nm⟩) (prodS n f k).1 _ h1 hn HSC.out.1 HSC.out.2 ?_ ?_ HV1 HV2).mono ?_; (focus (exact HSG.out)); (focus (exact Numw.keep HN1.out (HB0.out.trans (HD.mono (by omega))))); rintro e wC ⟨⟨x0, so, sl, sc, rfl, HRES0⟩, hb⟩; have HD : Below W.heap.size W wC := (Below.trans (by first | exact Below.refl _ _ | go_grown) (hb.mono (by first | omega | (simp; done) | (simp; omega)))); have hzA := HD.size; obtain ⟨_, _⟩ := G1.out _ HD; obtain ⟨_, _, _, _⟩ := G3.out _ HD; obtain ⟨_, _⟩ := G4.out _ HD; have HRES : Hid (MRes W.heap.size wC n (mulF n (sprI n ⟨kd, at', m, nm⟩) (prodS n f k).1) (mulE n (sprI n ⟨kd, at', m, nm⟩) (prodS n f k).1) x0 so sl sc) := Lib.hid (HRES0.out.base (by omega)); clear hb HRES0)))
      all_goals
        obtain ⟨z0, z1, z2, z3⟩ := G2.out _ HD
        have DZ := HBW.out.trans (HD.mono (show w.heap.size ≤ W.heap.size by omega))
        have hMC : w1.heap.size < wC.heap.size := by omega
        have hRM : ¬ w1.heap.size = w.heap.size := by omega
        go_wp2_with fail
        go_roundw
        case rel =>
          refine ⟨k + 1, mulE n (sprI n ⟨kd, at', m, nm⟩) (prodS n f k).1, by go_num, rfl, by omega, Lib.hid (by rw [HST.out]), ?_, ?_, ?_, ?_, ?_, ?_, ?_, ?_, ?_⟩
          · rw [HST.out]
            exact Lib.hid (PSt.of (by go_cell) (by go_cell) (MRes.drew (MRes.other (MRes.other HRES.out lM) lM)) lM (by omega))
          · go_cell
          · go_cell
          · go_cell
          · go_cell
          · go_cell
          · go_cell
          · go_grown
          · simp; omega
        case measure => simp [intOf]; omega
    · obtain rfl : k = len := by omega
      have hne1 : ¬ w.heap.size = w1.heap.size := by omega
      rcases HPS.out with ⟨h0, g, cap, m0, m1, hnu, hgB, hMg, hgc, hgm⟩ | ⟨h0, m0, m1⟩
      · have HN1 := Lib.hid hnu
        have hgl : g < wr.heap.size := World.block_lt_of_cell? wr _ (hnu 0 (Nat.mul_pos h1 h1)).1.1
        have HGC := Lib.hid (And.intro hgc hgm)
        have H0 := Lib.hid h0
        obtain rfl : er = 0 := by rw [← HER.out]; exact h0
        clear hnu hgc hgm h0
        go_wp2_with fail
        refine bodyPost_ret (v := .tuple #[.agg #[.int .i64 n, .slice (some ⟨g, 0, none⟩) (n * n) cap], .int .i64 0]) (by simp [results, Try.results48, go_sem, *]) rfl ⟨.inl ⟨H0.out, g, cap, rfl, (HN1.out.other (by omega)).other (by omega), by omega, HGC.out.1, HGC.out.2⟩, by go_grown⟩
      · have H0 := Lib.hid h0
        clear h0
        go_wp2_with fail
        refine bodyPost_ret (v := .tuple #[.agg #[.int .i64 0, .slice none 0 0], .int .i64 er]) (by simp [results, Try.results48, go_sem, *]) rfl ⟨.inr ⟨H0.out, by rw [HER.out]⟩, by go_grown⟩
end Go.Proofs.Ytjodjfllgofkaaa
