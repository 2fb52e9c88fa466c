import Derived.Test.YtkcbkcgampoclaaHa9
import Derived.Test.YtkcbkcgampoclaaFa9
namespace Go.Proofs.Ytkcbkcgampoclaa
open Go.RowKit Ben Prb
theorem pStates_any (n : Int) (w : World) : Calls Try.prog 20 #[.int .i64 n] w fun e w' => e = .returned (.tuple #[.int .i64 (stV n), .int .i64 (stE n)]) ∧ w = w' := by
  cases hk : knB n
  · have h1 : ¬ (n = 2 ∨ n = 4) := of_decide_eq_false hk
    rw [show stV n = 0 from by unfold stV; rw [if_neg (by omega), if_neg (by omega)], show stE n = 2 from by unfold stE; rw [if_neg h1]]
    exact pStates_no n hk w
  rcases kn_cases hk with rfl | rfl
  · exact pStates_2 w
  · exact pStates_4 w
theorem rStates_any (n : Int) (w : World) : Calls Try.prog 21 #[.int .i64 n] w fun e w' => e = .returned (.tuple #[.int .i64 (stV n), .int .i64 (stE n)]) ∧ w = w' := by
  cases hk : knB n
  · have h1 : ¬ (n = 2 ∨ n = 4) := of_decide_eq_false hk
    rw [show stV n = 0 from by unfold stV; rw [if_neg (by omega), if_neg (by omega)], show stE n = 2 from by unfold stE; rw [if_neg h1]]
    exact rStates_no n hk w
  rcases kn_cases hk with rfl | rfl
  · exact rStates_2 w
  · exact rStates_4 w
set_option maxRecDepth 100000 in
set_option maxHeartbeats 8000000 in
theorem ProbeAnswers_any (n st : Int) (m cap : Nat) (ao : Option Addr) (s : Nat → Bool) (p q : Int) (w : World) (hm : m ≤ 9223372036854775807) (hc : Bools w ao m s) :
    Calls Try.prog 5 #[.int .i64 n, .int .i64 st, .agg #[.slice ao m cap, .int .i64 p, .int .i64 q]] w fun e w' => e = .returned (.bool true) ∧ Below w.heap.size w w' := by
  obtain ⟨sv, hsv⟩ : ∃ v, stV n = v := ⟨_, rfl⟩
  obtain ⟨se, hse⟩ : ∃ v, stE n = v := ⟨_, rfl⟩
  obtain ⟨⟨an, ae⟩, han⟩ : ∃ v, anV n st m s p = v := ⟨_, rfl⟩
  obtain ⟨⟨gn, ge⟩, hgn⟩ : ∃ v, agV n st m s p q = v := ⟨_, rfl⟩
  have HC := Lib.hid hc
  have HS := Lib.hid (And.intro hsv hse)
  have HA := Lib.hid han
  have HG := Lib.hid hgn
  clear hc hsv hse han hgn
  go_enter Try.func5, Try.ntmps5
  go_wp2_with fail
  refine (pStates_any n _).mono ?_
  rw [HS.out.1, HS.out.2]
  rintro e w' ⟨rfl, rfl⟩
  go_wp2_with fail
  refine (rStates_any n _).mono ?_
  rw [HS.out.1, HS.out.2]
  rintro e w' ⟨rfl, rfl⟩
  go_wp2_with fail
  refine (pAnswer_any n st m cap ao s p _ hm (HC.out.keep (by go_grown))).mono ?_
  rw [HA.out]
  rintro e w1 ⟨rfl, hb⟩
  have T1 := (show HT (_ : World) w.heap.size ao m cap p q from (by refine ⟨?_, ?_, ?_⟩ <;> first | go_cell | assumption)).keep hb
  have HB1 := Lib.hid (show Below w.heap.size w w1 from Below.trans (by go_grown) (hb.mono (by first | omega | (simp; done) | (simp; omega))))
  have hs1 : w.heap.size < w1.heap.size := by have h9 := hb.size; (try simp at h9); omega
  clear hb
  have hbl := HB1.out
  obtain ⟨t0, t1, t2⟩ := T1
  go_wp2_with fail
  refine (rAnswer_any n st m cap ao s p _ hm (HC.out.keep (by go_grown))).mono ?_
  rw [HA.out]
  rintro e w2 ⟨rfl, hb⟩
  have T2 := (show HT (_ : World) w.heap.size ao m cap p q from (by refine ⟨?_, ?_, ?_⟩ <;> first | go_cell | assumption)).keep hb
  have HB2 := Lib.hid (show Below w.heap.size w w2 from Below.trans (by go_grown) (hb.mono (by first | omega | (simp; done) | (simp; omega))))
  have hs2 : w.heap.size < w2.heap.size := by have h9 := hb.size; (try simp at h9); omega
  clear hb hbl t0 t1 t2
  have hbl := HB2.out
  obtain ⟨t0, t1, t2⟩ := T2
  go_wp2_with fail
  refine (pAgrees_any n st m cap ao s p q _ hm (HC.out.keep (by go_grown))).mono ?_
  rw [HG.out]
  rintro e w3 ⟨rfl, hb⟩
  have T3 := (show HT (_ : World) w.heap.size ao m cap p q from (by refine ⟨?_, ?_, ?_⟩ <;> first | go_cell | assumption)).keep hb
  have HB3 := Lib.hid (show Below w.heap.size w w3 from Below.trans (by go_grown) (hb.mono (by first | omega | (simp; done) | (simp; omega))))
  have hs3 : w.heap.size < w3.heap.size := by have h9 := hb.size; (try simp at h9); omega
  clear hb hbl t0 t1 t2
  have hbl := HB3.out
  obtain ⟨t0, t1, t2⟩ := T3
  go_wp2_with fail
  refine (rAgrees_any n st m cap ao s p q _ hm (HC.out.keep (by go_grown))).mono ?_
  rw [HG.out]
  rintro e w4 ⟨rfl, hb⟩
  have T4 := (show HT (_ : World) w.heap.size ao m cap p q from (by refine ⟨?_, ?_, ?_⟩ <;> first | go_cell | assumption)).keep hb
  have HB4 := Lib.hid (show Below w.heap.size w w4 from Below.trans (by go_grown) (hb.mono (by first | omega | (simp; done) | (simp; omega))))
  have hs4 : w.heap.size < w4.heap.size := by have h9 := hb.size; (try simp at h9); omega
  clear hb hbl t0 t1 t2
  have hbl := HB4.out
  obtain ⟨t0, t1, t2⟩ := T4
  go_wp2_with fail
  refine (awake_any _).mono ?_
  rintro e w5 ⟨rfl, hb⟩
  have hbl5 := HB4.out.trans (hb.mono HB4.out.size)
  clear hb hbl
  go_wp2_with fail
  go_returns
  exact ⟨by first | rfl | (simp; done), by first | exact hbl5 | go_grown⟩
end Go.Proofs.Ytkcbkcgampoclaa
