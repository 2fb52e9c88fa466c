import Derived.Test.YtilclpldfoifkaaEn1
import Derived.Test.YtilclpldfoifkaaLz
import Derived.Test.YtilclpldfoifkaaEu
namespace Encl
/-- The order of t^2 and b * One. -/
def csq (t b : Int) : Int := if t * t < b * 1073741824 then -1 else if b * 1073741824 < t * t then 1 else 0
end Encl
namespace Go.Proofs.Ytilclpldfoifkaa
open Go.RowKit Encl
theorem csq_of {t b h l p q : Int} (h1 : t * t = h * 18446744073709551616 + l) (h2 : b * 1073741824 = p * 18446744073709551616 + q) (hl : 0 ≤ l) (hl1 : l < 18446744073709551616) (hq : 0 ≤ q) (hq1 : q < 18446744073709551616) :
    (if cmpI h p = 0 then cmpI l q else cmpI h p) = csq t b := by
  unfold csq cmpI
  rw [h1, h2]
  clear h1 h2
  by_cases e1 : h < p
  · rw [if_pos e1, if_neg (by omega), if_pos (by omega)]
  · by_cases e2 : p < h
    · rw [if_neg e1, if_pos e2, if_neg (by omega), if_neg (by omega), if_pos (by omega)]
    · have e3 : h = p := by omega
      subst e3
      rw [if_neg e1, if_neg e2, if_pos rfl]
      by_cases e4 : l < q
      · rw [if_pos e4, if_pos (by omega)]
      · rw [if_neg e4]
        by_cases e5 : q < l
        · rw [if_pos e5, if_neg (by omega), if_pos (by omega)]
        · rw [if_neg e5, if_neg (by omega), if_neg (by omega)]

set_option maxHeartbeats 2000000 in
theorem compareSquare_any (t b : Int) (w : World) (h0 : 0 ≤ t) (h1 : t ≤ 68719476736) (h2 : 0 ≤ b) (h3 : b ≤ 1099511627776) :
    Calls Try.prog 108 #[.int .i64 t, .int .i64 b] w fun e w' => e = .returned (.int .i64 (csq t b)) ∧ Below w.heap.size w w' := by
  go_enter Try.func108, Try.ntmps108
  go_wp2_with fail
  refine (Mul64_any t t _ (by omega) (by omega) (by omega) (by omega)).mono ?_
  rintro e w1 ⟨h, l, rfl, HM, rfl⟩
  go_wp2_with fail
  refine (Mul64_any b 1073741824 _ (by omega) (by omega) (by omega) (by omega)).mono ?_
  rintro e w2 ⟨p, q, rfl, HP, rfl⟩
  go_wp2_with fail
  refine (Compare_any h p _).mono ?_
  rintro e w2 ⟨rfl, rfl⟩
  go_wp2_with fail
  refine (Compare_any l q _).mono ?_
  rintro e w3 ⟨rfl, rfl⟩
  go_wp2_with fail
  refine (Or_any (cmpI h p) (cmpI l q) _ _ (by go_cell) (by go_cell)).mono ?_
  rintro e w4 ⟨rfl, rfl⟩
  rw [csq_of HM.out.1 HP.out.1 HM.out.2.1 HM.out.2.2.1 HP.out.2.1 HP.out.2.2.1]
  go_wp2_with fail
  go_returns
  exact ⟨rfl, by go_grown⟩

set_option maxHeartbeats 1000000 in
theorem above_any (t lo _hi : Int) (g : Nat) (w : World) (h0 : 0 ≤ t) (h1 : t ≤ 68719476736) (h2 : 0 ≤ lo) (h3 : lo ≤ 1099511627776) (hc : w.cell? ⟨g, 0, none⟩ = some (.int .i64 lo)) :
    Calls Try.prog 107 #[.int .i64 t, .pointer (some ⟨g, 0, none⟩)] w fun e w' => e = .returned (.bool (decide (lo * 1073741824 < t * t))) ∧ Below w.heap.size w w' := by
  have HE : Hid (decide (0 < csq t lo) = decide (lo * 1073741824 < t * t)) := Lib.hid (by unfold csq; split <;> (try split) <;> simp <;> omega)
  rw [← HE.out]
  go_enter Try.func107, Try.ntmps107
  go_wp2_with fail
  refine (compareSquare_any t lo _ h0 h1 h2 h3).mono ?_
  rintro e w1 ⟨rfl, hb⟩
  go_wp2_with fail
  go_returns
  exact ⟨rfl, hb⟩
set_option maxHeartbeats 1000000 in
theorem from_any (t _lo hi : Int) (g : Nat) (w : World) (h0 : 0 ≤ t) (h1 : t ≤ 68719476736) (h2 : 0 ≤ hi) (h3 : hi ≤ 1099511627776) (hc : w.cell? ⟨g, 1, none⟩ = some (.int .i64 hi)) :
    Calls Try.prog 109 #[.int .i64 t, .pointer (some ⟨g, 0, none⟩)] w fun e w' => e = .returned (.bool (decide (hi * 1073741824 ≤ t * t))) ∧ Below w.heap.size w w' := by
  have HE : Hid (decide (0 ≤ csq t hi) = decide (hi * 1073741824 ≤ t * t)) := Lib.hid (by unfold csq; split <;> (try split) <;> simp <;> omega)
  rw [← HE.out]
  go_enter Try.func109, Try.ntmps109
  go_wp2_with fail
  refine (compareSquare_any t hi _ h0 h1 h2 h3).mono ?_
  rintro e w1 ⟨rfl, hb⟩
  go_wp2_with fail
  go_returns
  exact ⟨rfl, hb⟩

def schRes (P : Int → Bool) (n i : Int) : Prop := 0 ≤ i ∧ i ≤ n ∧ (i = 0 ∨ P (i - 1) = false) ∧ (i = n ∨ P i = true)
def schSt (P : Int → Bool) (n i j : Int) : Prop := 0 ≤ i ∧ i ≤ j ∧ j ≤ n ∧ (i = 0 ∨ P (i - 1) = false) ∧ (j = n ∨ P j = true)
set_option maxRecDepth 100000 in
set_option maxHeartbeats 4000000 in
theorem search_above (n : Int) (g : Nat) (P : Int → Bool) (w : World) (hn0 : 0 ≤ n) (hn1 : n ≤ 68719476736) (H : ∀ (t : Int) (w1 : World), 0 ≤ t → t < n → Below w.heap.size w w1 → Calls Try.prog 107 #[.int .i64 t, .pointer (some ⟨g, 0, none⟩)] w1 fun e w' => e = .returned (.bool (P t)) ∧ Below w1.heap.size w1 w') :
    Calls Try.prog 106 #[.int .i64 n, .func (Fn.func 107) #[] #[.pointer (some ⟨g, 0, none⟩)]] w fun e w' => ∃ i : Int, e = .returned (.int .i64 i) ∧ Hid (schRes P n i) ∧ Below w.heap.size w w' := by
  have HH := Lib.hid H
  clear H
  go_enter Try.func106, Try.ntmps106
  go_wp2_with fail
  go_loopw [5, 6] (fun iv jv wr => ∃ i j : Int, iv = .int .i64 i ∧ jv = .int .i64 j ∧ 0 ≤ i ∧ i ≤ j ∧ j ≤ n ∧ Hid (schSt P n i j) ∧ Below w.heap.size w wr) (fun iv jv _ => (intOf jv - intOf iv).toNat)
  case atStart => exact ⟨0, n, rfl, rfl, by omega, by omega, by omega, Lib.hid ⟨by omega, by omega, by omega, .inl rfl, .inl rfl⟩, Below.refl _ _⟩
  case round =>
    obtain ⟨i, j, rfl, rfl, hi0, hij, hjn, HS, hbel⟩ := hrel
    have DB := Lib.hid hbel
    clear hbel
    by_cases hlt : i < j
    · obtain ⟨m, hm⟩ : ∃ m, (i + j) / 2 = m := ⟨_, rfl⟩
      have hm0 : 0 ≤ m := by omega
      have hm1 : m < j := by omega
      have hm2 : i ≤ m := by omega
      have hsum : IntKind.u64.wrap (i + j) = i + j := by rw [IntKind.wrap_u64]; omega
      obtain ⟨b, hb⟩ : ∃ b, P m = b := ⟨_, rfl⟩
      have HP := Lib.hid hb
      clear hb
      go_wp2_with fail
      refine (HH.out m _ hm0 (by omega) DB.out).mono ?_
      rw [HP.out]
      rintro e w1 ⟨rfl, hb1⟩
      have D1 := Lib.hid (DB.out.trans (hb1.mono DB.out.size))
      clear hb1
      cases b with
      | true =>
        have HZ : Hid (schSt P n i m) := Lib.hid ⟨hi0, hm2, by omega, HS.out.2.2.2.1, .inr HP.out⟩
        go_wp2_with fail
        go_roundw
        case rel => exact ⟨i, m, rfl, rfl, hi0, hm2, by omega, HZ, D1.out⟩
        case measure => simp [intOf]; omega
      | false =>
        have HZ : Hid (schSt P n (m + 1) j) := Lib.hid ⟨by omega, by omega, hjn, .inr (by rw [Int.add_sub_cancel]; exact HP.out), HS.out.2.2.2.2⟩
        go_wp2_with fail
        go_roundw
        case rel => exact ⟨m + 1, j, by go_num, rfl, by omega, by omega, hjn, HZ, D1.out⟩
        case measure => simp [intOf]; omega
    · obtain rfl : i = j := by omega
      have HR : Hid (schRes P n i) := Lib.hid ⟨hi0, hjn, HS.out.2.2.2.1, HS.out.2.2.2.2⟩
      go_wp2_with fail
      go_returns
      exact ⟨i, rfl, HR, DB.out⟩

set_option maxRecDepth 100000 in
set_option maxHeartbeats 4000000 in
theorem search_from (n : Int) (g : Nat) (P : Int → Bool) (w : World) (hn0 : 0 ≤ n) (hn1 : n ≤ 68719476736) (H : ∀ (t : Int) (w1 : World), 0 ≤ t → t < n → Below w.heap.size w w1 → Calls Try.prog 109 #[.int .i64 t, .pointer (some ⟨g, 0, none⟩)] w1 fun e w' => e = .returned (.bool (P t)) ∧ Below w1.heap.size w1 w') :
    Calls Try.prog 106 #[.int .i64 n, .func (Fn.func 109) #[] #[.pointer (some ⟨g, 0, none⟩)]] w fun e w' => ∃ i : Int, e = .returned (.int .i64 i) ∧ Hid (schRes P n i) ∧ Below w.heap.size w w' := by
  have HH := Lib.hid H
  clear H
  go_enter Try.func106, Try.ntmps106
  go_wp2_with fail
  go_loopw [5, 6] (fun iv jv wr => ∃ i j : Int, iv = .int .i64 i ∧ jv = .int .i64 j ∧ 0 ≤ i ∧ i ≤ j ∧ j ≤ n ∧ Hid (schSt P n i j) ∧ Below w.heap.size w wr) (fun iv jv _ => (intOf jv - intOf iv).toNat)
  case atStart => exact ⟨0, n, rfl, rfl, by omega, by omega, by omega, Lib.hid ⟨by omega, by omega, by omega, .inl rfl, .inl rfl⟩, Below.refl _ _⟩
  case round =>
    obtain ⟨i, j, rfl, rfl, hi0, hij, hjn, HS, hbel⟩ := hrel
    have DB := Lib.hid hbel
    clear hbel
    by_cases hlt : i < j
    · obtain ⟨m, hm⟩ : ∃ m, (i + j) / 2 = m := ⟨_, rfl⟩
      have hm0 : 0 ≤ m := by omega
      have hm1 : m < j := by omega
      have hm2 : i ≤ m := by omega
      have hsum : IntKind.u64.wrap (i + j) = i + j := by rw [IntKind.wrap_u64]; omega
      obtain ⟨b, hb⟩ : ∃ b, P m = b := ⟨_, rfl⟩
      have HP := Lib.hid hb
      clear hb
      go_wp2_with fail
      refine (HH.out m _ hm0 (by omega) DB.out).mono ?_
      rw [HP.out]
      rintro e w1 ⟨rfl, hb1⟩
      have D1 := Lib.hid (DB.out.trans (hb1.mono DB.out.size))
      clear hb1
      cases b with
      | true =>
        have HZ : Hid (schSt P n i m) := Lib.hid ⟨hi0, hm2, by omega, HS.out.2.2.2.1, .inr HP.out⟩
        go_wp2_with fail
        go_roundw
        case rel => exact ⟨i, m, rfl, rfl, hi0, hm2, by omega, HZ, D1.out⟩
        case measure => simp [intOf]; omega
      | false =>
        have HZ : Hid (schSt P n (m + 1) j) := Lib.hid ⟨by omega, by omega, hjn, .inr (by rw [Int.add_sub_cancel]; exact HP.out), HS.out.2.2.2.2⟩
        go_wp2_with fail
        go_roundw
        case rel => exact ⟨m + 1, j, by go_num, rfl, by omega, by omega, hjn, HZ, D1.out⟩
        case measure => simp [intOf]; omega
    · obtain rfl : i = j := by omega
      have HR : Hid (schRes P n i) := Lib.hid ⟨hi0, hjn, HS.out.2.2.2.1, HS.out.2.2.2.2⟩
      go_wp2_with fail
      go_returns
      exact ⟨i, rfl, HR, DB.out⟩

end Go.Proofs.Ytilclpldfoifkaa
