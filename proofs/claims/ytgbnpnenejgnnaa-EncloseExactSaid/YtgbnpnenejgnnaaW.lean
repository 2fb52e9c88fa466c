import Derived.Test.YtgbnpnenejgnnaaU
import Derived.Deep.RegionHeld3
import Derived.Test.YtgbnpnenejgnnaaVal
namespace Amp
def setS (z : Nm) (v : C4) : Nm × Int := if vld z = true then (⟨v, z.k⟩, 0) else (N0, 10)
theorem setS_bad {z : Nm} {v : C4} (h : vld z = false) : setS z v = (N0, 10) := by unfold setS; rw [h]; rfl
theorem setS_ok {z : Nm} {v : C4} (h : vld z = true) : setS z v = (⟨v, z.k⟩, 0) := by unfold setS; rw [h]; rfl
theorem tmod8 (n : Int) : (-7 ≤ n.tmod 8 ∧ n.tmod 8 ≤ 7) ∧ (n.tmod 8 + 8) % 8 = n % 8 := by
  rw [Int.tmod_eq_emod]; split <;> omega
theorem made_form {z : Nm} {v : C4} (hz : vld z = true) (hv : vld ⟨v, z.k⟩ = true) : made v z.k.toNat = (⟨v, z.k⟩, 0) := by
  have k1 := vld_k hz
  have e := vld_red hv
  simp only at e
  unfold made
  rw [e]
  have hk : ((z.k.toNat : Nat) : Int) = z.k := by omega
  simp only [hk, hv, if_true]
theorem chg_set {z : Nm} {g : C4 → C4} (h : vld z = true → vld ⟨g z.v, z.k⟩ = true) : chgS z g = setS z (g z.v) := by
  unfold chgS setS
  split
  · next hz => exact made_form hz (h hz)
  · rfl
theorem vld_form {z : Nm} {v : C4} (hz : vld z = true) (hs : big 1000000000 v) (hd : dvb v = dvb z.v) : vld ⟨v, z.k⟩ = true := by
  unfold vld at hz ⊢
  rw [Bool.and_eq_true] at hz ⊢
  refine ⟨(sm_iff _).2 hs, ?_⟩
  simp only [hd]
  exact hz.2
theorem dvb_rot (x : C4) : dvb (rot x) = dvb x := by
  rw [Bool.eq_iff_iff, dvb_iff, dvb_iff]; simp only [rot]; omega
theorem dvb_rotn (n : Nat) (x : C4) : dvb (rotn n x) = dvb x := by
  induction n with
  | zero => rfl
  | succ n ih => rw [rotn, dvb_rot, ih]
theorem dvb_neg (x : C4) : dvb (neg x) = dvb x := by
  rw [Bool.eq_iff_iff, dvb_iff, dvb_iff]; simp only [neg]; omega
theorem dvb_conj (x : C4) : dvb (conj x) = dvb x := by
  rw [Bool.eq_iff_iff, dvb_iff, dvb_iff]; simp only [conj]; omega
theorem dvb_flp (x : C4) : dvb (flp x) = dvb x := by
  rw [Bool.eq_iff_iff, dvb_iff, dvb_iff]; simp only [flp]; omega
theorem dvb_flip (x : C4) (k : Int) : dvb (flipV x k) = dvb x := by
  unfold flipV; split
  · rw [dvb_neg, dvb_flp]
  · exact dvb_flp x
theorem rot4 (x : C4) : rotn 4 x = neg x := by
  apply C4.ext' <;> simp [rotn, rot, neg]
theorem neg_set (z : Nm) : chgS z neg = setS z (rotn 4 z.v) := by
  rw [chg_set (fun h => vld_form h (neg_bd (vld_sm h)) (dvb_neg _)), rot4]
theorem conj_set (z : Nm) : chgS z conj = setS z (conj z.v) := chg_set (fun h => vld_form h (conj_bd (vld_sm h)) (dvb_conj _))
theorem flip_set (z : Nm) (k : Int) : chgS z (fun x => flipV x k) = setS z (flipV z.v k) := chg_set (fun h => vld_form h (flip_bd (vld_sm h)) (dvb_flip _ _))
theorem turn_set (z : Nm) (n : Int) : chgS z (fun x => rotn (n % 8).toNat x) = setS z (rotn (n % 8).toNat z.v) := chg_set (fun h => vld_form h (rotn_bd _ (vld_sm h)) (dvb_rotn _ _))
end Amp
namespace Go.Proofs.Ytgbnpnenejgnnaa
open Go.RowKit Amp
attribute [local go_sem] ix0 ix1 ix2 ix3 jx0 jx1 jx2 jx3

end Go.Proofs.Ytgbnpnenejgnnaa
