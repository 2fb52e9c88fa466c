import Derived.Test.YtgbnpnenejgnnaaBnd
import Derived.Test.YtgbnpnenejgnnaaSd
import Derived.Deep.DeepCutAuto
namespace Amp
theorem bd_of_mul {x B : Int} {m : Nat} (h : -B ≤ x * 2 ^ m ∧ x * 2 ^ m ≤ B) : -B ≤ x ∧ x ≤ B := by
  have h1 : (1 : Int) ≤ 2 ^ m := by
    have : 0 < (2 : Int) ^ m := Int.pow_pos (by omega)
    omega
  by_cases hx : 0 ≤ x
  · have := Int.mul_le_mul_of_nonneg_left h1 hx
    omega
  · have := Int.mul_le_mul_of_nonneg_left h1 (show 0 ≤ -x by omega)
    simp only [Int.neg_mul, Int.mul_one] at this
    omega
theorem nr_le {p q e B : Int} (h1 : -B ≤ nrP p q e ∧ nrP p q e ≤ B) (h2 : -B ≤ nrQ p q e ∧ nrQ p q e ≤ B) : (-B ≤ p ∧ p ≤ B) ∧ (-B ≤ q ∧ q ≤ B) := by
  unfold nrP at h1
  unfold nrQ at h2
  have g1 := bd_of_mul h1
  have g2 := bd_of_mul h2
  by_cases he : e % 2 = 1
  · rw [if_pos he] at g1 g2; omega
  · rw [if_neg he] at g1 g2; omega
theorem nr_down (p q : Int) {e : Int} (he : 2 ≤ e) : nrP (2 * p) (2 * q) (e - 2) = nrP p q e ∧ nrQ (2 * p) (2 * q) (e - 2) = nrQ p q e ∧ nrU (e - 2) = nrU e := by
  have e1 : (e - 2) % 2 = e % 2 := by omega
  have e2 : (e / 2).toNat = ((e - 2) / 2).toNat + 1 := by omega
  have e3 : (-((e - 2) / 2)).toNat = (-(e / 2)).toNat := by omega
  unfold nrP nrQ nrU
  rw [e1, e2, e3, Int.pow_succ]
  refine ⟨?_, ?_, rfl⟩ <;> split <;> grind
theorem nr_up (p q : Int) {e : Int} (he : e ≤ -2) : nrP p q (e + 2) = nrP p q e ∧ nrQ p q (e + 2) = nrQ p q e ∧ nrU e = 2 * nrU (e + 2) := by
  have e1 : (e + 2) % 2 = e % 2 := by omega
  have e2 : ((e + 2) / 2).toNat = (e / 2).toNat := by omega
  have e3 : (-(e / 2)).toNat = (-((e + 2) / 2)).toNat + 1 := by omega
  unfold nrP nrQ nrU
  rw [e1, e2, e3, Int.pow_succ]
  exact ⟨rfl, rfl, Int.mul_comm _ _⟩
theorem nr_zero (p q : Int) : nrP p q 0 = p ∧ nrQ p q 0 = q ∧ nrU 0 = 1 := by
  refine ⟨?_, ?_, by decide⟩
  · show (if (0 : Int) % 2 = 1 then 2 * q else p) * 2 ^ ((0 : Int) / 2).toNat = p
    rw [if_neg (by decide)]; simp
  · show (if (0 : Int) % 2 = 1 then p else q) * 2 ^ ((0 : Int) / 2).toNat = q
    rw [if_neg (by decide)]; simp
theorem nr_one (p q : Int) : nrP p q 1 = 2 * q ∧ nrQ p q 1 = p ∧ nrU 1 = 1 := by
  refine ⟨?_, ?_, by decide⟩
  · show (if (1 : Int) % 2 = 1 then 2 * q else p) * 2 ^ ((1 : Int) / 2).toNat = 2 * q
    rw [if_pos (by decide)]; simp
  · show (if (1 : Int) % 2 = 1 then p else q) * 2 ^ ((1 : Int) / 2).toNat = p
    rw [if_pos (by decide)]; simp
theorem nr_mone (p q : Int) : nrP p q (-1) = 2 * q ∧ nrQ p q (-1) = p ∧ nrU (-1) = 2 := by
  refine ⟨?_, ?_, by decide⟩
  · show (if (-1 : Int) % 2 = 1 then 2 * q else p) * 2 ^ ((-1 : Int) / 2).toNat = 2 * q
    rw [if_pos (by decide)]; simp
  · show (if (-1 : Int) % 2 = 1 then p else q) * 2 ^ ((-1 : Int) / 2).toNat = p
    rw [if_pos (by decide)]; simp
/-- Where the search begins. -/
theorem far_ok {P Q U A B far : Int} (hU : 0 < U) (hA : P ≤ A ∧ -P ≤ A) (hB : Q ≤ B ∧ -Q ≤ B) (hf : far = (A + 2 * B) / U + 2) : nn (P - -far * U) Q ∧ ¬ nn (P - far * U) Q := by
  have e := Int.mul_ediv_add_emod (A + 2 * B) U
  have r1 := Int.emod_lt_of_pos (A + 2 * B) hU
  rw [Int.mul_comm] at e
  have e2 : far * U = (A + 2 * B) / U * U + 2 * U := by rw [hf, Int.add_mul]
  have h1 : A + 2 * B < far * U := by omega
  rw [Int.neg_mul]
  generalize far * U = F at *
  have hb : 0 ≤ B := by omega
  have s1 := mul_self_mono (x := 2 * B) (y := P - -F) (by omega) (by omega)
  have s2 := mul_self_mono (x := 2 * B + 1) (y := F - P) (by omega) (by omega)
  have s3 : Q * Q ≤ B * B := by
    by_cases hq : 0 ≤ Q
    · exact mul_self_mono hq hB.1
    · have := mul_self_mono (x := -Q) (y := B) (by omega) hB.2
      rwa [Int.neg_mul_neg] at this
  have e3 : 2 * B * (2 * B) = 4 * (B * B) := by grind
  have e4 : (2 * B + 1) * (2 * B + 1) = 4 * (B * B) + 4 * B + 1 := by grind
  have e5 : (F - P) * (F - P) = (P - F) * (P - F) := by grind
  have b0 : 0 ≤ B * B := Int.mul_nonneg hb hb
  constructor
  · by_cases hq : 0 ≤ Q
    · exact Or.inl ⟨by omega, hq⟩
    · exact Or.inr (Or.inl ⟨by omega, by omega, by omega⟩)
  · rintro (⟨h, _⟩ | ⟨h, _, _⟩ | ⟨_, _, h⟩)
    · omega
    · omega
    · omega
theorem nrU_le {e : Int} (h : -41 ≤ e) : nrU e ≤ 2097152 := by
  unfold nrU
  have h1 : (2 : Nat) ^ (-(e / 2)).toNat ≤ 2 ^ 21 := Nat.pow_le_pow_right (by omega) (by omega)
  have h3 : (2 : Int) ^ (-(e / 2)).toNat = ((2 ^ (-(e / 2)).toNat : Nat) : Int) := by simp
  rw [h3]
  omega
theorem mul_pos_le {x u : Int} (hu : 0 < u) (hx : 0 ≤ x) : x ≤ x * u := by
  have := Int.mul_le_mul_of_nonneg_left (a := 1) (b := u) (c := x) (by omega) hx
  rw [Int.mul_one] at this
  exact this
theorem mul_rg {m u F X : Int} (hu : 0 < u) (hm : -F ≤ m ∧ m ≤ F) (h : F * u ≤ X) : -X ≤ m * u ∧ m * u ≤ X := by
  have h1 := Int.mul_le_mul_of_nonneg_right hm.1 (show 0 ≤ u by omega)
  have h2 := Int.mul_le_mul_of_nonneg_right hm.2 (show 0 ≤ u by omega)
  rw [Int.neg_mul] at h1
  omega
theorem sg0 (p q : Int) : (sgS p q == 0) = decide (p = 0 ∧ q = 0) := by
  rw [Bool.eq_iff_iff, beq_iff_eq, decide_eq_true_eq]
  constructor
  · intro h; unfold sgS at h; split at h
    · split at h
      · assumption
      · omega
    · omega
  · rintro ⟨rfl, rfl⟩; exact sgS_zero
theorem sgS_nonneg {p q : Int} : 0 ≤ sgS p q ↔ nn p q := by
  unfold sgS
  by_cases h : nn p q
  · rw [if_pos h]; refine ⟨fun _ => h, fun _ => ?_⟩; split <;> omega
  · rw [if_neg h]; refine ⟨fun h0 => by omega, fun h0 => absurd h0 h⟩
end Amp
namespace Go.Proofs.Ytgbnpnenejgnnaa
open Go.RowKit Amp
attribute [local go_sem] ix0 ix1 ix2 ix3 jx0 jx1 jx2 jx3

set_option maxRecDepth 100000 in
set_option maxHeartbeats 4000000 in
theorem rFloor_any (p q N : Int) (w : World) (hp : -2000000000 ≤ p ∧ p ≤ 2000000000) (hq : -1000000000 ≤ q ∧ q ≤ 1000000000) (hN : -41 ≤ N ∧ N ≤ 59) :
    Calls Try.prog 162 #[.int .i64 p, .int .i64 q, .int .i64 N] w fun e w' => ∃ f : Int, e = .returned (.tuple #[.int .i64 f, .bool (decide (nrP p q N - f * nrU N = 0 ∧ nrQ p q N = 0))]) ∧ Hid (isFlu (nrP p q N) (nrQ p q N) (nrU N) f) ∧ (-4000000000000000000 ≤ f ∧ f ≤ 4000000000000000000) ∧ Below w.heap.size w w' := by
  obtain ⟨b1, b2⟩ := nr_bd hp hq (e := N) hN.2
  have B1 := Lib.hid b1
  have B2 := Lib.hid b2
  obtain ⟨P, hP⟩ : ∃ P, Hid (nrP p q N = P) := ⟨_, rfl⟩
  obtain ⟨Q, hQ⟩ : ∃ Q, Hid (nrQ p q N = Q) := ⟨_, rfl⟩
  obtain ⟨U, hU⟩ : ∃ U, Hid (nrU N = U) := ⟨_, rfl⟩
  rw [hP.out, hQ.out, hU.out]
  rw [hP.out] at b1
  rw [hQ.out] at b2
  clear B1 B2
  have BU : Hid (1 ≤ U ∧ U ≤ 2097152) := Lib.hid (by
    have h1 := nrU_pos N
    have h2 := nrU_le (e := N) hN.1
    rw [hU.out] at h1 h2
    omega)
  have BP := Lib.hid b1
  have BQ := Lib.hid b2
  clear b1 b2
  obtain ⟨n1, n2⟩ := hN
  go_enter Try.func162, Try.ntmps162
  go_wp2_with fail
  go_loop [0, 1, 2] (fun pv qv ev => ∃ x y e : Int, pv = .int .i64 x ∧ qv = .int .i64 y ∧ ev = .int .i64 e ∧ -41 ≤ e ∧ e ≤ 59 ∧ Hid (nrP x y e = P ∧ nrQ x y e = Q ∧ nrU e = U)) (fun _ _ ev => (intOf ev).toNat)
  case atStart => exact ⟨p, q, N, rfl, rfl, rfl, n1, n2, Lib.hid ⟨hP.out, hQ.out, hU.out⟩⟩
  case round =>
    obtain ⟨x, y, e, rfl, rfl, rfl, e1, e2, HE⟩ := hrel
    obtain ⟨h1, h2, h3⟩ := HE.out
    obtain ⟨⟨x1, x2⟩, y1, y2⟩ := nr_le (B := 1073741824000000000) (by rw [h1]; exact BP.out) (by rw [h2]; exact BQ.out)
    clear h1 h2 h3
    by_cases he : 2 ≤ e
    · have HX := Lib.hid (nr_down x y he)
      go_wp2_with fail
      go_round
      case rel => exact ⟨2 * x, 2 * y, e - 2, rfl, rfl, rfl, by omega, by omega, Lib.hid ⟨HX.out.1.trans HE.out.1, HX.out.2.1.trans HE.out.2.1, HX.out.2.2.trans HE.out.2.2⟩⟩
      case measure => simp [intOf]; omega
    · have he' : e ≤ 1 := by omega
      go_upto_if 22 with fail
      go_cut [0, 1, 2] (fun a b c wx => ∃ x y e : Int, a = .int .i64 x ∧ b = .int .i64 y ∧ c = .int .i64 e ∧ -41 ≤ e ∧ e ≤ 0 ∧ Hid (nrP x y e = P ∧ nrQ x y e = Q ∧ nrU e = U) ∧ w = wx)
      case first =>
        by_cases h1 : e = 1
        · have HZ : Hid (nrP (2 * y) x 0 = P ∧ nrQ (2 * y) x 0 = Q ∧ nrU 0 = U) := Lib.hid (by
            subst h1
            obtain ⟨g1, g2, g3⟩ := nr_one x y
            obtain ⟨k1, k2, k3⟩ := nr_zero (2 * y) x
            exact ⟨by rw [k1, ← g1]; exact HE.out.1, by rw [k2, ← g2]; exact HE.out.2.1, by rw [k3, ← g3]; exact HE.out.2.2⟩)
          have hc : (e == 1) = true := by rw [beq_iff_eq]; exact h1
          clear h1
          go_wp2_with fail
          go_meet
          exact ⟨2 * y, x, 0, rfl, rfl, rfl, by omega, by omega, HZ, rfl⟩
        · have hc : (e == 1) = false := by rw [beq_eq_false_iff_ne]; exact h1
          go_wp2_with fail
          go_meet
          exact ⟨x, y, e, rfl, rfl, rfl, by omega, by omega, HE, rfl⟩
      case rest =>
        clear HE x1 x2 y1 y2 e1 e2 he he'
        obtain ⟨x', y', e', rfl, rfl, rfl, e1, e2, HE, rfl⟩ := hcut
        go_wp2_with fail
        go_loop [2, 8] (fun ev uv => ∃ e u : Int, ev = .int .i64 e ∧ uv = .int .i64 u ∧ -41 ≤ e ∧ e ≤ 0 ∧ 1 ≤ u ∧ u ≤ 2097152 ∧ Hid (nrP x' y' e = P ∧ nrQ x' y' e = Q ∧ u * nrU e = U)) (fun ev _ => (-(intOf ev)).toNat)
        case atStart => exact ⟨e', 1, rfl, rfl, e1, e2, by omega, by omega, Lib.hid ⟨HE.out.1, HE.out.2.1, by rw [Int.one_mul]; exact HE.out.2.2⟩⟩
        case round =>
          obtain ⟨e, u, rfl, rfl, e1, e2, u1, u2, HF⟩ := hrel
          obtain ⟨h1, h2, h3⟩ := HF.out
          obtain ⟨⟨x1, x2⟩, y1, y2⟩ := nr_le (B := 1073741824000000000) (by rw [h1]; exact BP.out) (by rw [h2]; exact BQ.out)
          clear h1 h2 h3
          by_cases hlt : e ≤ -2
          · have HX := Lib.hid (nr_up x' y' hlt)
            have u3 : u * 2 ≤ 2097152 := by
              have h3 := HF.out.2.2
              rw [HX.out.2.2, ← Int.mul_assoc] at h3
              have := mul_pos_le (x := u * 2) (nrU_pos (e + 2)) (by omega)
              have := BU.out
              omega
            go_wp2_with fail
            go_round
            case rel => exact ⟨e + 2, u * 2, rfl, rfl, by omega, by omega, by omega, u3, Lib.hid ⟨HX.out.1.trans HF.out.1, HX.out.2.1.trans HF.out.2.1, by rw [Int.mul_assoc, ← HX.out.2.2]; exact HF.out.2.2⟩⟩
            case measure => simp [intOf]; omega
          · go_upto_if 33 with fail
            go_cut [0, 1, 8] (fun a b c wx => a = .int .i64 P ∧ b = .int .i64 Q ∧ c = .int .i64 U ∧ w = wx)
            case first =>
              by_cases h1 : e = -1
              · have hc : (e == -1) = true := by rw [beq_iff_eq]; exact h1
                obtain ⟨k1, k2, k3⟩ : P = 2 * y' ∧ Q = x' ∧ U = u * 2 := by
                  subst h1
                  obtain ⟨g1, g2, g3⟩ := nr_mone x' y'
                  have := HF.out
                  rw [g1, g2, g3] at this
                  exact ⟨this.1.symm, this.2.1.symm, this.2.2.symm⟩
                have K := Lib.hid (And.intro k1 (And.intro k2 k3))
                clear k1 k2 k3 h1
                go_wp2_with fail
                go_meet
                exact ⟨by rw [K.out.1], by rw [K.out.2.1], by rw [K.out.2.2], rfl⟩
              · have hc : (e == -1) = false := by rw [beq_eq_false_iff_ne]; exact h1
                obtain ⟨k1, k2, k3⟩ : P = x' ∧ Q = y' ∧ U = u := by
                  obtain rfl : e = 0 := by omega
                  obtain ⟨g1, g2, g3⟩ := nr_zero x' y'
                  have := HF.out
                  rw [g1, g2, g3, Int.mul_one] at this
                  exact ⟨this.1.symm, this.2.1.symm, this.2.2.symm⟩
                have K := Lib.hid (And.intro k1 (And.intro k2 k3))
                clear k1 k2 k3
                go_wp2_with fail
                go_meet
                exact ⟨by rw [K.out.1], by rw [K.out.2.1], by rw [K.out.2.2], rfl⟩
            case rest =>
              clear HF hlt x1 x2 y1 y2
              obtain ⟨rfl, rfl, rfl, rfl⟩ := hcut
              obtain ⟨v1, v2⟩ := BU.out
              obtain ⟨p1, p2⟩ := BP.out
              obtain ⟨q1, q2⟩ := BQ.out
              obtain ⟨A, hA⟩ : ∃ A, (if P < -P then -P else P) = A := ⟨_, rfl⟩
              obtain ⟨B, hB⟩ : ∃ B, (if Q < -Q then -Q else Q) = B := ⟨_, rfl⟩
              have a1 : P ≤ A ∧ -P ≤ A ∧ 0 ≤ A ∧ A ≤ 1073741824000000000 := by rw [← hA]; split <;> omega
              have a2 : Q ≤ B ∧ -Q ≤ B ∧ 0 ≤ B ∧ B ≤ 1073741824000000000 := by rw [← hB]; split <;> omega
              obtain ⟨A1, A2, A3, A4⟩ := a1
              obtain ⟨B1, B2, B3, B4⟩ := a2
              have d1 : 0 ≤ (A + 2 * B) / U := Int.ediv_nonneg (by omega) (by omega)
              have d2 : (A + 2 * B) / U ≤ A + 2 * B := Int.ediv_le_self _ (by omega)
              obtain ⟨F, hF⟩ : ∃ F, (A + 2 * B) / U + 2 = F := ⟨_, rfl⟩
              have HO := Lib.hid (far_ok (P := P) (Q := Q) (U := U) (A := A) (B := B) (far := F) (by omega) ⟨A1, A2⟩ ⟨B1, B2⟩ hF.symm)
              have F0 : 2 ≤ F := by omega
              have F1 : F ≤ 3221225472000000002 := by omega
              have FU : F * U ≤ 3221225472004194304 := by
                have e := Int.mul_ediv_add_emod (A + 2 * B) U
                have r0 := Int.emod_nonneg (A + 2 * B) (show U ≠ 0 by omega)
                rw [← hF, Int.add_mul, Int.mul_comm ((A + 2 * B) / U) U]
                omega
              have HFU := Lib.hid FU
              clear FU
              go_wp2_with fail
              clear A1 A2 A3 A4 B1 B2 B3 B4 d1 d2 hA hB hF
              go_loopw [10, 11, 12] (fun lv hv _ wr => ∃ l h : Int, lv = .int .i64 l ∧ hv = .int .i64 h ∧ -F ≤ l ∧ l < h ∧ h ≤ F ∧ Hid (nn (P - l * U) Q ∧ ¬ nn (P - h * U) Q) ∧ Below w.heap.size w wr) (fun lv hv _ _ => (intOf hv - intOf lv).toNat)
              case atStart => exact ⟨-F, F, rfl, rfl, by omega, by omega, by omega, HO, Below.refl _ _⟩
              case round =>
                obtain ⟨l, h, rfl, rfl, l1, l2, l3, HN, hbel⟩ := hrel
                clear HO
                have hsz := hbel.size
                by_cases hlt : 1 < h - l
                · obtain ⟨m, hm⟩ : ∃ m, l + (h - l) / 2 = m := ⟨_, rfl⟩
                  have m1 : l < m := by omega
                  have m2 : m < h := by omega
                  obtain ⟨c1, c2⟩ := mul_rg (u := U) (by omega) (show -F ≤ m ∧ m ≤ F by omega) HFU.out
                  by_cases hn : nn (P - m * U) Q
                  · have hg := sgS_nonneg.2 hn
                    have HN2 := Lib.hid hn
                    clear hn
                    go_wp2_with fail
                    refine (side_wide _ _ _ (by omega) (by omega)).mono ?_
                    rintro e w1 ⟨rfl, hb⟩
                    have D1 : Below w.heap.size w w1 := Below.trans (by go_grown) (hb.mono (by first | omega | (simp; done) | (simp; omega)))
                    clear hb
                    go_wp2_with fail
                    go_roundw
                    case rel => exact ⟨m, h, rfl, rfl, by omega, by omega, by omega, Lib.hid ⟨HN2.out, HN.out.2⟩, D1⟩
                    case measure => simp [intOf]; omega
                  · have hg : ¬ 0 ≤ sgS (P - m * U) Q := fun h0 => hn (sgS_nonneg.1 h0)
                    have HN2 := Lib.hid hn
                    clear hn
                    go_wp2_with fail
                    refine (side_wide _ _ _ (by omega) (by omega)).mono ?_
                    rintro e w1 ⟨rfl, hb⟩
                    have D1 : Below w.heap.size w w1 := Below.trans (by go_grown) (hb.mono (by first | omega | (simp; done) | (simp; omega)))
                    clear hb
                    go_wp2_with fail
                    go_roundw
                    case rel => exact ⟨l, m, rfl, rfl, by omega, by omega, by omega, Lib.hid ⟨HN.out.1, HN2.out⟩, D1⟩
                    case measure => simp [intOf]; omega
                · obtain rfl : h = l + 1 := by omega
                  obtain ⟨c1, c2⟩ := mul_rg (u := U) (by omega) (show -F ≤ l ∧ l ≤ F by omega) HFU.out
                  have HG := Lib.hid (sg0 (P - l * U) Q)
                  go_wp2_with fail
                  refine (side_wide _ _ _ (by omega) (by omega)).mono ?_
                  rintro e w1 ⟨rfl, hb⟩
                  have D1 : Below w.heap.size w w1 := Below.trans (by go_grown) (hb.mono (by first | omega | (simp; done) | (simp; omega)))
                  clear hb
                  go_wp2_with fail
                  go_ret2
                  exact ⟨l, by rw [← HG.out]; rfl, HN, ⟨by omega, by omega⟩, D1⟩
end Go.Proofs.Ytgbnpnenejgnnaa
