import Derived.Test.YtpjfpkhcadombaaVr
import Derived.Test.YtpjfpkhcadombaaDe
namespace Prm
/-- The inverse, as it is filled. -/
def invTo (f : Nat → Int) : Nat → Nat → Int
  | 0 => fun _ => 0
  | k + 1 => fun i => if i = (f k).toNat then (k : Int) else invTo f k i
end Prm
namespace Go.Proofs.Ytpjfpkhcadombaa
open Go.RowKit Prm
set_option maxRecDepth 100000 in
set_option maxHeartbeats 2000000 in
theorem inverse_any (n cap : Nat) (ao : Option Addr) (f : Nat → Int) (w : World) (hc : Ints w ao n f) (hp : permB n f = true) :
    Calls Try.prog 22 #[.slice ao n cap] w fun e w' => IntsRet w.heap.size w' e n (invTo f n) ∧ Below w.heap.size w w' := by
  obtain ⟨h1, hn, hrg⟩ := permB_yes hp
  obtain ⟨i0, hi, hz0, hz1, hz2⟩ := info_parts infoInt
  have HI := Lib.hid (And.intro hi (And.intro hz0 (And.intro hz1 hz2)))
  have HC := Lib.hid hc
  have HRG := Lib.hid hrg
  have hn' : (n : Int) ≤ 64 := by omega
  clear hi hz0 hz1 hz2 hc hrg hp
  go_enter Try.func22, Try.ntmps22
  go_wp2_with (refine wpList_make_full _ rfl (.tmp 7) (.tmp 7) 22 rfl w.heap.size 3 i0 _ 1 Try.underlying22 HI.out.1 HI.out.2.1 HI.out.2.2.1 .i64 .i64 _ _ n rfl rfl (by simp) (by simp) ?c1 ?c2 ?c3 ?_)
  case c1 => rw [HI.out.2.2.2]; omega
  case c2 => unfold maxLen; omega
  case c3 => exact Nat.le_refl _
  intro w1 hown hgrow
  have HW : Hid (Intw w1 w.heap.size n (fun _ => 0)) := Lib.hid (Intw.of_own hown fun i hi => made_get n i hi)
  have hlt1 : w.heap.size < w1.heap.size := (hown.lt _ rfl).2
  have D1 : Below w.heap.size w w1 := Below.grown (by go_grown) hgrow (Nat.le_refl _) (fun k hk => by cases hk)
  clear hown hgrow
  go_wp2_with fail
  go_loopw [4, 5, 11] (fun _ _ i wr => ∃ k : Nat, i = .int .i64 k ∧ k ≤ n ∧ Hid (Intw wr w.heap.size n (invTo f k)) ∧ Below w.heap.size w wr ∧ w.heap.size < wr.heap.size) (fun _ _ i _ => n - (intOf i).toNat)
  case atStart => exact ⟨0, rfl, Nat.zero_le _, HW, D1, hlt1⟩
  case round =>
    obtain ⟨k, rfl, hk, HK, hbel, hsz⟩ := hrel
    by_cases hlt : k < n
    · have hlt' : (k : Int) < (n : Int) := by omega
      obtain ⟨b, o, rfl, hcell⟩ := (Ints.keep HC.out hbel) (by omega)
      have c0 := hcell k hlt
      obtain ⟨hx0, hxn, _⟩ := HRG.out k hlt
      obtain ⟨y, hy⟩ : ∃ y : Nat, f k = y := ⟨(f k).toNat, by omega⟩
      rw [hy] at c0 hx0 hxn
      have hyn : y < n := by omega
      obtain ⟨d0, e0⟩ := HK.out y hyn
      have HS : Hid (Intw (wr.setCell ⟨w.heap.size, y, none⟩ (.int .i64 k)) w.heap.size n (invTo f (k + 1))) := Lib.hid ((HK.out.store hyn k).congr fun i _ => by
        simp only [invTo, updI]; rw [hy]; simp only [Int.toNat_natCast])
      clear hcell hy hx0
      go_wp2_with fail
      go_roundw
      case rel => exact ⟨k + 1, by go_num, by omega, HS, by go_grown, by simpa using hsz⟩
      case measure => simp [intOf]; omega
    · obtain rfl : k = n := by omega
      go_wp2_with fail
      go_returns
      exact ⟨⟨w.heap.size, k, rfl, HK.out, Nat.le_refl _, hsz, Nat.le_refl _, by omega⟩, hbel⟩

/-- A list of whole numbers of the call's own and no error, or none and the error. -/
def IntsOr (B : Nat) (w : World) (e : Ending) (n : Nat) (f : Nat → Int) (er : Int) : Prop :=
  (er = 0 ∧ ∃ g cap, e = .returned (.tuple #[.slice (some ⟨g, 0, none⟩) n cap, .int .i64 0]) ∧ Intw w g n f ∧ B ≤ g ∧ g < w.heap.size) ∨ (er ≠ 0 ∧ e = .returned (.tuple #[.slice none 0 0, .int .i64 er]))
def prmE (n : Nat) (f : Nat → Int) : Int := if permB n f = true then 0 else 40
end Go.Proofs.Ytpjfpkhcadombaa
