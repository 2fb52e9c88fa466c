import Derived.Test.YtpjfpkhcadombaaIb
import Derived.Test.YtpjfpkhcadombaaIm
import Derived.RegionTactic
namespace Prm
def opI : Option Nat → Int
  | some k => k
  | none => -1
end Prm
namespace Go.Proofs.Ytpjfpkhcadombaa
open Go.RowKit Prm
theorem add0 (g j : Nat) : (⟨g, 0, none⟩ : Addr).add j = ⟨g, j, none⟩ := by unfold Addr.add; split <;> simp_all

set_option maxRecDepth 100000 in
set_option maxHeartbeats 2000000 in
theorem descent_any (n cap : Nat) (ao : Option Addr) (f : Nat → Int) (w : World) (h1 : 1 ≤ n) (hn : n ≤ 9223372036854775807) (hc : Ints w ao n f) :
    Calls Try.prog 30 #[.slice ao n cap] w fun e w' => e = .returned (.int .i64 (opI (desc f (n - 1) 0))) ∧ Below w.heap.size w w' := by
  have HC := Lib.hid hc
  have h1' : 1 ≤ (n : Int) := by omega
  clear hc
  obtain ⟨r, hr⟩ : ∃ r, desc f (n - 1) 0 = r := ⟨_, rfl⟩
  have HR := Lib.hid hr
  rw [hr]
  clear hr
  go_enter Try.func30, Try.ntmps30
  go_wp2_with fail
  go_loopw [3, 7] (fun _ i wr => ∃ k : Nat, i = .int .i64 k ∧ k ≤ n - 1 ∧ Hid (desc f (n - 1 - k) k = r) ∧ Below w.heap.size w wr) (fun _ i _ => n - 1 - (intOf i).toNat)
  case atStart => exact ⟨0, rfl, Nat.zero_le _, HR, by go_grown⟩
  case round =>
    obtain ⟨k, rfl, hk, HK, hbel⟩ := hrel
    by_cases hlt : k < n - 1
    · have hlt' : (k : Int) < (n : Int) - 1 := by omega
      have hlt2 : k < n := by omega
      obtain ⟨b, o, rfl, hcell⟩ := (Ints.keep HC.out hbel) (by omega)
      have c0 := hcell k (by omega)
      have c1 := hcell (k + 1) (by omega)
      obtain ⟨x, hx⟩ : ∃ x, f k = x := ⟨_, rfl⟩
      obtain ⟨y, hy⟩ : ∃ y, f (k + 1) = y := ⟨_, rfl⟩
      rw [hx] at c0
      rw [hy] at c1
      have HX := Lib.hid hx
      have HY := Lib.hid hy
      clear hcell hx hy
      have e1 : n - 1 - k = (n - 1 - (k + 1)) + 1 := by omega
      have HE : Hid (desc f (n - 1 - k) k = if y < x then some k else desc f (n - 1 - (k + 1)) (k + 1)) := Lib.hid (by rw [e1]; simp only [desc]; rw [HX.out, HY.out])
      clear e1
      by_cases hxy : y < x
      · have HF : Hid (r = some k) := Lib.hid (by rw [← HK.out, HE.out, if_pos hxy])
        go_wp2_with fail
        go_region
        all_goals
          go_wp2_with fail
          go_returns
          exact ⟨by rw [HF.out] <;> rfl, by go_grown⟩
      · have HF : Hid (desc f (n - 1 - (k + 1)) (k + 1) = r) := Lib.hid (by rw [← HK.out, HE.out, if_neg hxy])
        have hxy' : x ≤ y := by omega
        clear hxy
        go_wp2_with fail
        go_region
        all_goals
          go_wp2_with fail
          go_roundw
          case rel => exact ⟨k + 1, by go_num, by omega, HF, by go_grown⟩
          case measure => simp [intOf]; omega
    · obtain rfl : k = n - 1 := by omega
      have hge : ¬ (((n - 1 : Nat) : Int) < (n : Int) - 1) := by omega
      have HF : Hid (r = none) := Lib.hid (by rw [← HK.out, Nat.sub_self]; rfl)
      go_wp2_with fail
      go_returns
      exact ⟨by rw [HF.out] <;> rfl, hbel⟩

set_option maxRecDepth 100000 in
set_option maxHeartbeats 2000000 in
theorem clone_any (n cap b o : Nat) (f : Nat → Int) (w : World) (h1 : 1 ≤ n) (hn : n ≤ 64) (hc : ∀ i, i < n → w.cell? ⟨b, o + i, none⟩ = some (.int .i64 (f i))) :
    Calls Try.prog 29 #[.slice (some ⟨b, o, none⟩) n cap] w fun e w' => IntsRet w.heap.size w' e n f ∧ Below w.heap.size w w' := by
  obtain ⟨i0, hi, hz0, hz1, hz2⟩ := info_parts infoInt
  have HI := Lib.hid (And.intro hi (And.intro hz0 (And.intro hz1 hz2)))
  have HC := Lib.hid hc
  have hnil := fun (w : World) (a : Option Addr) (m c : Nat) => Lib.run_eql_slice_nil (P := Try.prog) w 22 3 a m c 0 0 Try.underlying22
  clear hi hz0 hz1 hz2 hc
  go_enter Try.func29, Try.ntmps29
  go_wp2_with (at_builtin; refine wpList_append_own _ rfl (.tmp 5) (.tmp 6) 22 rfl w.heap.size 3 i0 _ 1 8 Try.underlying22 HI.out.1 HI.out.2.1 HI.out.2.2.1 HI.out.2.2.2 rfl (by decide) _ 0 [] rfl (World.ownsRow_made w #[] 0 (Nat.le_refl _) (by unfold maxLen; omega) rfl) ⟨b, o, none⟩ n cap (cellsI f n) rfl ?c0 ?c1 ?c2 ?c3 ?c4 ?c5 ?_)
  case c0 => rw [cellsI_len]; omega
  case c1 =>
    intro j u hu
    have hj : j < n := by have := (List.getElem?_eq_some_iff.1 hu).1; rwa [cellsI_len] at this
    rw [cellsI_get f hj] at hu
    rw [Addr.add_lit, ← hu]
    have hb : b < w.heap.size := World.block_lt_of_cell? w _ (HC.out j hj)
    exact (((Below.refl _ _).alloc (Nat.le_refl _) _).cell (p := ⟨b, o + j, none⟩) hb).trans (HC.out j hj)
  case c2 => exact cellsI_one f n
  case c3 => unfold maxLen; omega
  case c4 => omega
  case c5 => first | omega | (simp; done) | (simp; omega)
  intro v' w2 hown hgrow _
  (try simp only [Nat.zero_add, List.nil_append] at hown)
  obtain ⟨g, cap', rfl, hgB, hgs, hgc, hgm⟩ := own_form hown h1
  have HW : Hid (Intw w2 g n f) := Lib.hid (Intw.of_own hown fun i hi => cellsI_get f hi)
  have D2 : Below w.heap.size w w2 := Below.grown (by go_grown) hgrow (by first | omega | (simp; done) | (simp; omega)) (fun k hk => by simp [Value.ownBlock] at hk; omega)
  have HG := Lib.hid (And.intro hgB (And.intro hgs (And.intro hgc hgm)))
  clear hown hgrow hgB hgs hgc hgm
  go_wp2_with fail
  go_returns
  exact ⟨⟨g, cap', rfl, HW.out, HG.out.1, HG.out.2.1, HG.out.2.2.1, HG.out.2.2.2⟩, D2⟩
end Go.Proofs.Ytpjfpkhcadombaa
