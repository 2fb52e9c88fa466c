import Derived.Test.YtgbnpnenejgnnaaEn1
import Derived.Test.YtgbnpnenejgnnaaEd
import Derived.Test.YtgbnpnenejgnnaaEu
import Derived.Deep.MidRow
import Derived.Test.YtgbnpnenejgnnaaEb
namespace Encl
/-- The order of t^2 and b * One. -/
def csq (t b : Int) : Int := if t * t < b * 1073741824 then -1 else if b * 1073741824 < t * t then 1 else 0
end Encl
namespace Go.Proofs.Ytgbnpnenejgnnaa
open Go.RowKit Encl
theorem csq_of {t b h l p q : Int} (h1 : t * t = h * 18446744073709551616 + l) (h2 : b * 1073741824 = p * 18446744073709551616 + q) (hl : 0 ≤ l) (hl1 : l < 18446744073709551616) (hq : 0 ≤ q) (hq1 : q < 18446744073709551616) :
    (if cmpI h p = 0 then cmpI l q else cmpI h p) = csq t b := by
  unfold csq cmpI
  rw [h1, h2]
  clear h1 h2
  by_cases e1 : h < p
  · rw [if_pos e1, if_neg (by omega), if_pos (by omega)]
  · by_cases e2 : p < h
    · rw [if_neg e1, if_pos e2, if_neg (by omega), if_neg (by omega), if_pos (by omega)]
    · have e3 : h = p := by omega
      subst e3
      rw [if_neg e1, if_neg e2, if_pos rfl]
      by_cases e4 : l < q
      · rw [if_pos e4, if_pos (by omega)]
      · rw [if_neg e4]
        by_cases e5 : q < l
        · rw [if_pos e5, if_neg (by omega), if_pos (by omega)]
        · rw [if_neg e5, if_neg (by omega), if_neg (by omega)]

set_option maxHeartbeats 2000000 in
theorem compareSquare_any (t b : Int) (w : World) (h0 : 0 ≤ t) (h1 : t ≤ 68719476736) (h2 : 0 ≤ b) (h3 : b ≤ 1099511627776) :
    Calls Try.prog 131 #[.int .i64 t, .int .i64 b] w fun e w' => e = .returned (.int .i64 (csq t b)) ∧ Below w.heap.size w w' := by
  go_enter Try.func131, Try.ntmps131
  go_wp2_with fail
  refine (Mul64_any t t _ (by omega) (by omega) (by omega) (by omega)).mono ?_
  rintro e w1 ⟨h, l, rfl, HM, rfl⟩
  go_wp2_with fail
  refine (Mul64_any b 1073741824 _ (by omega) (by omega) (by omega) (by omega)).mono ?_
  rintro e w2 ⟨p, q, rfl, HP, rfl⟩
  go_wp2_with fail
  refine (Compare_any h p _).mono ?_
  rintro e w2 ⟨rfl, rfl⟩
  go_wp2_with fail
  refine (Compare_any l q _).mono ?_
  rintro e w3 ⟨rfl, rfl⟩
  go_wp2_with fail
  refine (Or_any (cmpI h p) (cmpI l q) _ _ (by go_cell) (by go_cell)).mono ?_
  rintro e w4 ⟨rfl, rfl⟩
  rw [csq_of HM.out.1 HP.out.1 HM.out.2.1 HM.out.2.2.1 HP.out.2.1 HP.out.2.2.1]
  go_wp2_with fail
  go_returns
  exact ⟨rfl, by go_grown⟩

set_option maxHeartbeats 1000000 in
theorem above_any (t lo _hi : Int) (g : Nat) (w : World) (h0 : 0 ≤ t) (h1 : t ≤ 68719476736) (h2 : 0 ≤ lo) (h3 : lo ≤ 1099511627776) (hc : w.cell? ⟨g, 0, none⟩ = some (.int .i64 lo)) :
    Calls Try.prog 130 #[.int .i64 t, .pointer (some ⟨g, 0, none⟩)] w fun e w' => e = .returned (.bool (decide (lo * 1073741824 < t * t))) ∧ Below w.heap.size w w' := by
  have HE : Hid (decide (0 < csq t lo) = decide (lo * 1073741824 < t * t)) := Lib.hid (by unfold csq; split <;> (try split) <;> simp <;> omega)
  rw [← HE.out]
  go_enter Try.func130, Try.ntmps130
  go_wp2_with fail
  refine (compareSquare_any t lo _ h0 h1 h2 h3).mono ?_
  rintro e w1 ⟨rfl, hb⟩
  go_wp2_with fail
  go_returns
  exact ⟨rfl, hb⟩
set_option maxHeartbeats 1000000 in
theorem from_any (t _lo hi : Int) (g : Nat) (w : World) (h0 : 0 ≤ t) (h1 : t ≤ 68719476736) (h2 : 0 ≤ hi) (h3 : hi ≤ 1099511627776) (hc : w.cell? ⟨g, 1, none⟩ = some (.int .i64 hi)) :
    Calls Try.prog 132 #[.int .i64 t, .pointer (some ⟨g, 0, none⟩)] w fun e w' => e = .returned (.bool (decide (hi * 1073741824 ≤ t * t))) ∧ Below w.heap.size w w' := by
  have HE : Hid (decide (0 ≤ csq t hi) = decide (hi * 1073741824 ≤ t * t)) := Lib.hid (by unfold csq; split <;> (try split) <;> simp <;> omega)
  rw [← HE.out]
  go_enter Try.func132, Try.ntmps132
  go_wp2_with fail
  refine (compareSquare_any t hi _ h0 h1 h2 h3).mono ?_
  rintro e w1 ⟨rfl, hb⟩
  go_wp2_with fail
  go_returns
  exact ⟨rfl, hb⟩

def schRes (P : Int → Bool) (n i : Int) : Prop := 0 ≤ i ∧ i ≤ n ∧ (i = 0 ∨ P (i - 1) = false) ∧ (i = n ∨ P i = true)
def schSt (P : Int → Bool) (n i j : Int) : Prop := 0 ≤ i ∧ i ≤ j ∧ j ≤ n ∧ (i = 0 ∨ P (i - 1) = false) ∧ (j = n ∨ P j = true)
set_option maxRecDepth 100000 in
set_option maxHeartbeats 4000000 in
theorem search_above (n : Int) (g : Nat) (P : Int → Bool) (w : World) (hn0 : 0 ≤ n) (hn1 : n ≤ 68719476736) (H : ∀ (t : Int) (w1 : World), 0 ≤ t → t < n → Below w.heap.size w w1 → Calls Try.prog 130 #[.int .i64 t, .pointer (some ⟨g, 0, none⟩)] w1 fun e w' => e = .returned (.bool (P t)) ∧ Below w1.heap.size w1 w') :
    Calls Try.prog 129 #[.int .i64 n, .func (Fn.func 130) #[] #[.pointer (some ⟨g, 0, none⟩)]] w fun e w' => ∃ i : Int, e = .returned (.int .i64 i) ∧ Hid (schRes P n i) ∧ Below w.heap.size w w' := by
  have HH := Lib.hid H
  clear H
  go_enter Try.func129, Try.ntmps129
  go_wp2_with fail
  go_loopw [5, 6] (fun iv jv wr => ∃ i j : Int, iv = .int .i64 i ∧ jv = .int .i64 j ∧ 0 ≤ i ∧ i ≤ j ∧ j ≤ n ∧ Hid (schSt P n i j) ∧ Below w.heap.size w wr) (fun iv jv _ => (intOf jv - intOf iv).toNat)
  case atStart => exact ⟨0, n, rfl, rfl, by omega, by omega, by omega, Lib.hid ⟨by omega, by omega, by omega, .inl rfl, .inl rfl⟩, Below.refl _ _⟩
  case round =>
    obtain ⟨i, j, rfl, rfl, hi0, hij, hjn, HS, hbel⟩ := hrel
    have DB := Lib.hid hbel
    clear hbel
    by_cases hlt : i < j
    · obtain ⟨m, hm⟩ : ∃ m, (i + j) / 2 = m := ⟨_, rfl⟩
      have hm0 : 0 ≤ m := by omega
      have hm1 : m < j := by omega
      have hm2 : i ≤ m := by omega
      have hsum : IntKind.u64.wrap (i + j) = i + j := by rw [IntKind.wrap_u64]; omega
      obtain ⟨b, hb⟩ : ∃ b, P m = b := ⟨_, rfl⟩
      have HP := Lib.hid hb
      clear hb
      go_wp2_with fail
      refine (HH.out m _ hm0 (by omega) DB.out).mono ?_
      rw [HP.out]
      rintro e w1 ⟨rfl, hb1⟩
      have D1 := Lib.hid (DB.out.trans (hb1.mono DB.out.size))
      clear hb1
      cases b with
      | true =>
        have HZ : Hid (schSt P n i m) := Lib.hid ⟨hi0, hm2, by omega, HS.out.2.2.2.1, .inr HP.out⟩
        go_wp2_with fail
        go_roundw
        case rel => exact ⟨i, m, rfl, rfl, hi0, hm2, by omega, HZ, D1.out⟩
        case measure => simp [intOf]; omega
      | false =>
        have HZ : Hid (schSt P n (m + 1) j) := Lib.hid ⟨by omega, by omega, hjn, .inr (by rw [Int.add_sub_cancel]; exact HP.out), HS.out.2.2.2.2⟩
        go_wp2_with fail
        go_roundw
        case rel => exact ⟨m + 1, j, by go_num, rfl, by omega, by omega, hjn, HZ, D1.out⟩
        case measure => simp [intOf]; omega
    · obtain rfl : i = j := by omega
      have HR : Hid (schRes P n i) := Lib.hid ⟨hi0, hjn, HS.out.2.2.2.1, HS.out.2.2.2.2⟩
      go_wp2_with fail
      go_returns
      exact ⟨i, rfl, HR, DB.out⟩

set_option maxRecDepth 100000 in
set_option maxHeartbeats 4000000 in
theorem search_from (n : Int) (g : Nat) (P : Int → Bool) (w : World) (hn0 : 0 ≤ n) (hn1 : n ≤ 68719476736) (H : ∀ (t : Int) (w1 : World), 0 ≤ t → t < n → Below w.heap.size w w1 → Calls Try.prog 132 #[.int .i64 t, .pointer (some ⟨g, 0, none⟩)] w1 fun e w' => e = .returned (.bool (P t)) ∧ Below w1.heap.size w1 w') :
    Calls Try.prog 129 #[.int .i64 n, .func (Fn.func 132) #[] #[.pointer (some ⟨g, 0, none⟩)]] w fun e w' => ∃ i : Int, e = .returned (.int .i64 i) ∧ Hid (schRes P n i) ∧ Below w.heap.size w w' := by
  have HH := Lib.hid H
  clear H
  go_enter Try.func129, Try.ntmps129
  go_wp2_with fail
  go_loopw [5, 6] (fun iv jv wr => ∃ i j : Int, iv = .int .i64 i ∧ jv = .int .i64 j ∧ 0 ≤ i ∧ i ≤ j ∧ j ≤ n ∧ Hid (schSt P n i j) ∧ Below w.heap.size w wr) (fun iv jv _ => (intOf jv - intOf iv).toNat)
  case atStart => exact ⟨0, n, rfl, rfl, by omega, by omega, by omega, Lib.hid ⟨by omega, by omega, by omega, .inl rfl, .inl rfl⟩, Below.refl _ _⟩
  case round =>
    obtain ⟨i, j, rfl, rfl, hi0, hij, hjn, HS, hbel⟩ := hrel
    have DB := Lib.hid hbel
    clear hbel
    by_cases hlt : i < j
    · obtain ⟨m, hm⟩ : ∃ m, (i + j) / 2 = m := ⟨_, rfl⟩
      have hm0 : 0 ≤ m := by omega
      have hm1 : m < j := by omega
      have hm2 : i ≤ m := by omega
      have hsum : IntKind.u64.wrap (i + j) = i + j := by rw [IntKind.wrap_u64]; omega
      obtain ⟨b, hb⟩ : ∃ b, P m = b := ⟨_, rfl⟩
      have HP := Lib.hid hb
      clear hb
      go_wp2_with fail
      refine (HH.out m _ hm0 (by omega) DB.out).mono ?_
      rw [HP.out]
      rintro e w1 ⟨rfl, hb1⟩
      have D1 := Lib.hid (DB.out.trans (hb1.mono DB.out.size))
      clear hb1
      cases b with
      | true =>
        have HZ : Hid (schSt P n i m) := Lib.hid ⟨hi0, hm2, by omega, HS.out.2.2.2.1, .inr HP.out⟩
        go_wp2_with fail
        go_roundw
        case rel => exact ⟨i, m, rfl, rfl, hi0, hm2, by omega, HZ, D1.out⟩
        case measure => simp [intOf]; omega
      | false =>
        have HZ : Hid (schSt P n (m + 1) j) := Lib.hid ⟨by omega, by omega, hjn, .inr (by rw [Int.add_sub_cancel]; exact HP.out), HS.out.2.2.2.2⟩
        go_wp2_with fail
        go_roundw
        case rel => exact ⟨m + 1, j, by go_num, rfl, by omega, by omega, hjn, HZ, D1.out⟩
        case measure => simp [intOf]; omega
    · obtain rfl : i = j := by omega
      have HR : Hid (schRes P n i) := Lib.hid ⟨hi0, hjn, HS.out.2.2.2.1, HS.out.2.2.2.2⟩
      go_wp2_with fail
      go_returns
      exact ⟨i, rfl, HR, DB.out⟩

end Go.Proofs.Ytgbnpnenejgnnaa

namespace Go.Proofs.Ytgbnpnenejgnnaa
open Go.RowKit Encl

theorem sch_above {N i : Int} (h0 : 0 ≤ N) (h1 : N ≤ 1180591620717411303424) (h : schRes (fun t => decide (N < t * t)) 34359738369 i) : 1 ≤ i ∧ i - 1 = rtD N := by
  obtain ⟨a, b, c, d⟩ := h
  have hi : 1 ≤ i := by
    rcases d with d | d
    · omega
    · have := of_decide_eq_true d
      apply Classical.byContradiction; intro hc
      have : i = 0 := by omega
      subst this
      omega
  refine ⟨hi, rtD_eq h0 (by omega) ⟨by omega, ?_, ?_⟩⟩
  · rcases c with c | c
    · omega
    · have := of_decide_eq_false c; omega
  · rw [Int.sub_add_cancel]
    rcases d with d | d
    · subst d; omega
    · exact of_decide_eq_true d
theorem sch_from {N i : Int} (h0 : 0 ≤ N) (h1 : N ≤ 1180591620717411303424) (h : schRes (fun t => decide (N ≤ t * t)) 34359738369 i) : i = rtU N := by
  obtain ⟨a, b, c, d⟩ := h
  refine rtU_eq h0 (by omega) ⟨a, ?_, ?_⟩
  · rcases d with d | d
    · subst d; omega
    · exact of_decide_eq_true d
  · rcases c with c | c
    · exact .inl c
    · have := of_decide_eq_false c; right; omega

set_option maxRecDepth 100000 in
set_option maxHeartbeats 2000000 in
theorem rootSpan_any (a b : Int) (w : World) (h : okS ⟨a, b⟩ = true) (h0 : 0 ≤ a) :
    Calls Try.prog 82 #[.agg #[.int .i64 a, .int .i64 b]] w fun e w' => e = retS (rootS ⟨a, b⟩) ∧ Below w.heap.size w w' := by
  rw [okS_iff] at h
  have HG := Lib.hid h
  clear h
  have hmf : ∀ (fn : Fn) (first cap : Array Value) (w : World), (Instr.makeFunc fn first cap).run Try.prog w = .ok (.func fn first cap) w := fun _ _ _ _ => rfl
  go_enter Try.func82, Try.ntmps82
  go_wp2_with fail
  have hb0 : Below w.heap.size w ((w.alloc (Obj.cells #[.int .i64 a, .int .i64 b] 23)).alloc (Obj.cells #[.int .i64 0, .int .i64 0] 23)) := by go_grown
  have c0 : ((w.alloc (Obj.cells #[.int .i64 a, .int .i64 b] 23)).alloc (Obj.cells #[.int .i64 0, .int .i64 0] 23)).cell? ⟨w.heap.size, 0, none⟩ = some (.int .i64 a) := by go_cell
  have c1 : ((w.alloc (Obj.cells #[.int .i64 a, .int .i64 b] 23)).alloc (Obj.cells #[.int .i64 0, .int .i64 0] 23)).cell? ⟨w.heap.size, 1, none⟩ = some (.int .i64 b) := by go_cell
  have d0 : ((w.alloc (Obj.cells #[.int .i64 a, .int .i64 b] 23)).alloc (Obj.cells #[.int .i64 0, .int .i64 0] 23)).cell? ⟨w.heap.size + 1, 0, none⟩ = some (.int .i64 0) := by go_cell
  have d1 : ((w.alloc (Obj.cells #[.int .i64 a, .int .i64 b] 23)).alloc (Obj.cells #[.int .i64 0, .int .i64 0] 23)).cell? ⟨w.heap.size + 1, 1, none⟩ = some (.int .i64 0) := by go_cell
  have f0 : ((w.alloc (Obj.cells #[.int .i64 a, .int .i64 b] 23)).alloc (Obj.cells #[.int .i64 0, .int .i64 0] 23)).frozen? ⟨w.heap.size + 1, 0, none⟩ = false := by go_cell
  have f1 : ((w.alloc (Obj.cells #[.int .i64 a, .int .i64 b] 23)).alloc (Obj.cells #[.int .i64 0, .int .i64 0] 23)).frozen? ⟨w.heap.size + 1, 1, none⟩ = false := by go_cell
  have hz : w.heap.size + 1 < ((w.alloc (Obj.cells #[.int .i64 a, .int .i64 b] 23)).alloc (Obj.cells #[.int .i64 0, .int .i64 0] 23)).heap.size := by simp
  generalize ((w.alloc (Obj.cells #[.int .i64 a, .int .i64 b] 23)).alloc (Obj.cells #[.int .i64 0, .int .i64 0] 23)) = W at *
  have HB0 := Lib.hid hb0
  clear hb0
  refine (search_above 34359738369 w.heap.size (fun t => decide (a * 1073741824 < t * t)) W (by omega) (by omega) (fun t w1 ht0 ht1 hb => above_any t a b w.heap.size w1 ht0 (by omega) h0 (by have := HG.out; (try simp only at this); omega) (((bcl hb).1 _ _ (by omega)).trans c0))).mono ?_
  rintro e w1 ⟨i, rfl, HI, hb⟩
  have D1 := Lib.hid (HB0.out.trans (hb.mono HB0.out.size))
  have s1 : w.heap.size + 1 < w1.heap.size := by have := hb.size; omega
  obtain ⟨k1, k2⟩ := bcl hb
  have c1' := (k1 w.heap.size 1 (by omega)).trans c1
  have d0' := (k1 (w.heap.size + 1) 0 (by omega)).trans d0
  have d1' := (k1 (w.heap.size + 1) 1 (by omega)).trans d1
  have f0' := (k2 (w.heap.size + 1) 0 (by omega)).trans f0
  have f1' := (k2 (w.heap.size + 1) 1 (by omega)).trans f1
  clear hb k1 k2 c0 c1 d0 d1 f0 f1 HB0
  go_wp2_with fail
  refine (search_from 34359738369 w.heap.size (fun t => decide (b * 1073741824 ≤ t * t)) w1 (by omega) (by omega) (fun t w2 ht0 ht1 hb => from_any t a b w.heap.size w2 ht0 (by omega) (by have := HG.out; (try simp only at this); omega) (by have := HG.out; (try simp only at this); omega) (((bcl hb).1 _ _ (by omega)).trans c1'))).mono ?_
  rintro e w2 ⟨j, rfl, HJ, hb⟩
  have D2 := D1.out.trans (hb.mono D1.out.size)
  have s2 : w.heap.size + 1 < w2.heap.size := by have := hb.size; omega
  obtain ⟨k1, k2⟩ := bcl hb
  have d0'' := (k1 (w.heap.size + 1) 0 (by omega)).trans d0'
  have d1'' := (k1 (w.heap.size + 1) 1 (by omega)).trans d1'
  have f0'' := (k2 (w.heap.size + 1) 0 (by omega)).trans f0'
  have f1'' := (k2 (w.heap.size + 1) 1 (by omega)).trans f1'
  clear hb k1 k2 c1' d0' d1' f0' f1'
  have KA := Lib.hid (sch_above (by omega) (by have := HG.out; (try simp only at this); omega) HI.out)
  have KB := Lib.hid (sch_from (N := b * 1073741824) (by have := HG.out; (try simp only at this); omega) (by have := HG.out; (try simp only at this); omega) HJ.out)
  have hi1 := KA.out.1
  have hi2 := HI.out.2.1
  go_wp2_with fail
  refine bodyPost_ret (v := .agg #[.int .i64 (i - 1), .int .i64 j]) (by simp [results, Try.results82, go_sem, *]) rfl ⟨?_, by go_grown⟩
  rw [KA.out.2, KB.out]
  rfl
end Go.Proofs.Ytgbnpnenejgnnaa

namespace Encl
/-- The points at 2^b parts of 1024 of a turn: number 0 is i, and each further one is half the angle. -/
def nxt (c : Sp) : Rc := ⟨rootS (halfS ⟨1073741824 + c.lo, 1073741824 + c.hi⟩), rootS (halfS ⟨1073741824 - c.hi, 1073741824 - c.lo⟩)⟩
def cis : Nat → Rc
  | 0 => ⟨⟨0, 0⟩, ⟨1073741824, 1073741824⟩⟩
  | k + 1 => nxt (cis k).re
/-- The point at 2^b parts. -/
def pt (b : Nat) : Rc := if b = 9 then ⟨⟨-1073741824, -1073741824⟩, ⟨0, 0⟩⟩ else cis (8 - b)
theorem cis_ok : ∀ k : Fin 9, (decide (0 ≤ (cis k.val).re.lo) && (decide ((cis k.val).re.lo ≤ (cis k.val).re.hi) && decide ((cis k.val).re.hi ≤ 1073741824))) = true := by decide +kernel
theorem cis_re {k : Nat} (h : k ≤ 8) : 0 ≤ (cis k).re.lo ∧ (cis k).re.lo ≤ (cis k).re.hi ∧ (cis k).re.hi ≤ 1073741824 := by
  have := cis_ok ⟨k, by omega⟩
  simpa using this
end Encl
namespace Go.Proofs.Ytgbnpnenejgnnaa
open Go.RowKit Encl

/-- A rectangle lies at b, o, and may be written. -/
def RcAt (w : World) (b o : Nat) (x : Rc) : Prop :=
  (w.cell? ⟨b, o, none⟩ = some (.int .i64 x.re.lo) ∧ w.cell? ⟨b, o + 1, none⟩ = some (.int .i64 x.re.hi) ∧ w.cell? ⟨b, o + 2, none⟩ = some (.int .i64 x.im.lo) ∧ w.cell? ⟨b, o + 3, none⟩ = some (.int .i64 x.im.hi)) ∧
  (w.frozen? ⟨b, o, none⟩ = false ∧ w.frozen? ⟨b, o + 1, none⟩ = false ∧ w.frozen? ⟨b, o + 2, none⟩ = false ∧ w.frozen? ⟨b, o + 3, none⟩ = false)
/-- A table of ten rectangles. -/
def Tab (w : World) (b : Nat) (F : Nat → Rc) : Prop := ∀ j, j < 10 → RcAt w b (j * 4) (F j)
theorem RcAt.keep {B : Nat} {w w1 : World} {b o : Nat} {x : Rc} (h : RcAt w b o x) (hb : Below B w w1) (hB : b < B) : RcAt w1 b o x := by
  obtain ⟨⟨a, c, d, e⟩, f, g, i, j⟩ := h
  have k1 := fun o => hb.cell (p := ⟨b, o, none⟩) hB
  have k2 := fun o => hb.frozen (p := ⟨b, o, none⟩) hB
  exact ⟨⟨(k1 _).trans a, (k1 _).trans c, (k1 _).trans d, (k1 _).trans e⟩, (k2 _).trans f, (k2 _).trans g, (k2 _).trans i, (k2 _).trans j⟩
theorem Tab.keep {B : Nat} {w w1 : World} {b : Nat} {F : Nat → Rc} (h : Tab w b F) (hb : Below B w w1) (hB : b < B) : Tab w1 b F := fun j hj => (h j hj).keep hb hB
theorem RcAt.set {w : World} {b o m k : Nat} {x : Rc} (h : RcAt w b o x) (hne : ¬ m = b ∨ k < o ∨ o + 3 < k) (v : Value) : RcAt (w.setCell ⟨m, k, none⟩ v) b o x := by
  obtain ⟨⟨a, c, d, e⟩, f, g, i, j⟩ := h
  have k1 : ∀ t, o ≤ t → t ≤ o + 3 → (w.setCell ⟨m, k, none⟩ v).cell? ⟨b, t, none⟩ = w.cell? ⟨b, t, none⟩ := fun t h1 h2 => World.cell?_setCell_other _ _ _ _ (by simp only [ne_eq, Addr.mk.injEq]; omega)
  have k2 : ∀ t, (w.setCell ⟨m, k, none⟩ v).frozen? ⟨b, t, none⟩ = w.frozen? ⟨b, t, none⟩ := fun t => World.frozen?_setCell _ _ _ _
  exact ⟨⟨(k1 _ (by omega) (by omega)).trans a, (k1 _ (by omega) (by omega)).trans c, (k1 _ (by omega) (by omega)).trans d, (k1 _ (by omega) (by omega)).trans e⟩, (k2 _).trans f, (k2 _).trans g, (k2 _).trans i, (k2 _).trans j⟩
/-- A rectangle is stored. -/
theorem RcAt.store {w : World} {b o : Nat} {x : Rc} (h : RcAt w b o x) (p q s t : Int) :
    RcAt ((((w.setCell ⟨b, o, none⟩ (.int .i64 p)).setCell ⟨b, o + 1, none⟩ (.int .i64 q)).setCell ⟨b, o + 2, none⟩ (.int .i64 s)).setCell ⟨b, o + 3, none⟩ (.int .i64 t)) b o ⟨⟨p, q⟩, ⟨s, t⟩⟩ := by
  obtain ⟨⟨a, c, d, e⟩, f, g, i, j⟩ := h
  refine ⟨⟨?_, ?_, ?_, ?_⟩, ?_, ?_, ?_, ?_⟩ <;> go_cell
theorem Tab.store {w : World} {b : Nat} {F : Nat → Rc} (h : Tab w b F) {i : Nat} (hi : i < 10) (p q s t : Int) :
    Tab ((((w.setCell ⟨b, i * 4, none⟩ (.int .i64 p)).setCell ⟨b, i * 4 + 1, none⟩ (.int .i64 q)).setCell ⟨b, i * 4 + 2, none⟩ (.int .i64 s)).setCell ⟨b, i * 4 + 3, none⟩ (.int .i64 t)) b (fun j => if j = i then ⟨⟨p, q⟩, ⟨s, t⟩⟩ else F j) := by
  intro j hj
  by_cases e : j = i
  · subst e
    simp only [if_true]
    exact (h j hj).store p q s t
  · simp only [e, if_false]
    exact ((((h j hj).set (by omega) _).set (by omega) _).set (by omega) _).set (by omega) _
theorem Tab.congr {w : World} {b : Nat} {F G : Nat → Rc} (h : Tab w b F) (e : ∀ j, j < 10 → F j = G j) : Tab w b G := fun j hj => by rw [← e j hj]; exact h j hj
def zero40 : Array Value := #[.int .i64 0, .int .i64 0, .int .i64 0, .int .i64 0, .int .i64 0, .int .i64 0, .int .i64 0, .int .i64 0, .int .i64 0, .int .i64 0, .int .i64 0, .int .i64 0, .int .i64 0, .int .i64 0, .int .i64 0, .int .i64 0, .int .i64 0, .int .i64 0, .int .i64 0, .int .i64 0, .int .i64 0, .int .i64 0, .int .i64 0, .int .i64 0, .int .i64 0, .int .i64 0, .int .i64 0, .int .i64 0, .int .i64 0, .int .i64 0, .int .i64 0, .int .i64 0, .int .i64 0, .int .i64 0, .int .i64 0, .int .i64 0, .int .i64 0, .int .i64 0, .int .i64 0, .int .i64 0]
theorem Tab.fresh (w : World) (t : TypeId) (n : Nat) (hn : n = w.heap.size) : Tab (w.alloc (.cells zero40 t)) n (fun _ => R0) := by
  intro j hj
  have hz : ∀ i, i < 40 → zero40[i]? = some (.int .i64 0) := fun i hi => by rw [show zero40 = Array.replicate 40 (.int .i64 0) from rfl]; simp [hi]
  have k1 := fun i (hi : i < 40) => (World.cell?_alloc_at (w := w) zero40 t n i hn).trans (hz i hi)
  have k2 := fun i => World.frozen?_alloc_at (w := w) zero40 t n i hn
  exact ⟨⟨k1 _ (by omega), k1 _ (by omega), k1 _ (by omega), k1 _ (by omega)⟩, k2 _, k2 _, k2 _, k2 _⟩
/-- The forty cells of a table. -/
def tabL (F : Nat → Rc) : Nat → List Value
  | 0 => []
  | k + 1 => tabL F k ++ [.int .i64 (F k).re.lo, .int .i64 (F k).re.hi, .int .i64 (F k).im.lo, .int .i64 (F k).im.hi]
theorem tabL_len (F : Nat → Rc) (k : Nat) : (tabL F k).length = k * 4 := by
  induction k with
  | zero => rfl
  | succ k ih => rw [tabL, List.length_append, ih]; show k * 4 + 4 = _; omega
theorem tabL_get (F : Nat → Rc) {k i t : Nat} (hi : i < k) (ht : t < 4) : (tabL F k)[i * 4 + t]? = ([.int .i64 (F i).re.lo, .int .i64 (F i).re.hi, .int .i64 (F i).im.lo, .int .i64 (F i).im.hi] : List Value)[t]? := by
  induction k with
  | zero => omega
  | succ k ih =>
    rw [tabL]
    by_cases e : i = k
    · subst e
      rw [List.getElem?_append_right (by rw [tabL_len]; omega), tabL_len]
      congr 1
      omega
    · rw [List.getElem?_append_left (by rw [tabL_len]; omega)]
      exact ih (by omega)
theorem tabL_one (F : Nat → Rc) (k : Nat) : ∀ v ∈ tabL F k, v.oneCell' = true := by
  induction k with
  | zero => simp [tabL]
  | succ k ih =>
    intro v hv
    rw [tabL, List.mem_append] at hv
    rcases hv with hv | hv
    · exact ih v hv
    · simp at hv; rcases hv with rfl | rfl | rfl | rfl <;> rfl
theorem Tab.range {w : World} {b : Nat} {F : Nat → Rc} (h : Tab w b F) : w.rangeAt b 0 (tabL F 10) := by
  intro j v hv
  have hj : j < 40 := by
    have := (List.getElem?_eq_some_iff.1 hv).1
    rw [tabL_len] at this; omega
  obtain ⟨i, t, rfl, hi, ht⟩ : ∃ i t, j = i * 4 + t ∧ i < 10 ∧ t < 4 := ⟨j / 4, j % 4, by omega, by omega, by omega⟩
  rw [tabL_get F hi ht] at hv
  obtain ⟨⟨a, c, d, e⟩, _⟩ := h i hi
  rw [Nat.zero_add]
  have ht' : t = 0 ∨ t = 1 ∨ t = 2 ∨ t = 3 := by omega
  rcases ht' with rfl | rfl | rfl | rfl <;> (simp at hv; subst hv; assumption)
theorem Tab.there {w : World} {b : Nat} {F : Nat → Rc} (h : Tab w b F) : w.there b 0 40 := by
  intro j hj
  obtain ⟨i, t, rfl, hi, ht⟩ : ∃ i t, j = i * 4 + t ∧ i < 10 ∧ t < 4 := ⟨j / 4, j % 4, by omega, by omega, by omega⟩
  obtain ⟨⟨a, c, d, e⟩, f, g, k, l⟩ := h i hi
  rw [Nat.zero_add]
  have ht' : t = 0 ∨ t = 1 ∨ t = 2 ∨ t = 3 := by omega
  rcases ht' with rfl | rfl | rfl | rfl
  · exact ⟨by simp only [Nat.add_zero]; rw [a]; rfl, f⟩
  · exact ⟨by rw [c]; rfl, g⟩
  · exact ⟨by rw [d]; rfl, k⟩
  · exact ⟨by rw [e]; rfl, l⟩
theorem Tab.of_range {w : World} {b : Nat} {F : Nat → Rc} (h : w.rangeAt b 0 (tabL F 10)) (h2 : w.there b 0 40) : Tab w b F := by
  intro j hj
  have k1 := fun t v (ht : t < 4) (hv : ([.int .i64 (F j).re.lo, .int .i64 (F j).re.hi, .int .i64 (F j).im.lo, .int .i64 (F j).im.hi] : List Value)[t]? = some v) => h (j * 4 + t) v ((tabL_get F hj ht).trans hv)
  have k2 := fun t (ht : t < 4) => (h2 (j * 4 + t) (by omega)).2
  simp only [Nat.zero_add] at k1 k2
  exact ⟨⟨k1 0 _ (by omega) rfl, k1 1 _ (by omega) rfl, k1 2 _ (by omega) rfl, k1 3 _ (by omega) rfl⟩, k2 0 (by omega), k2 1 (by omega), k2 2 (by omega), k2 3 (by omega)⟩
theorem info99 : (Try.prog.info? 118).map (·.size) = some 40 := by kernel_rfl
theorem below_setCells {B : Nat} {w w1 : World} (h : Below B w w1) {m : Nat} (hm : B ≤ m) (vs : List Value) (o : Nat) : Below B w (w1.setCells m o vs) := by
  induction vs generalizing w1 o with
  | nil => exact h
  | cons v vs ih => exact ih (h.setCell (p := ⟨m, o, none⟩) (by simpa using hm) v) (o + 1)
theorem results_cell_mid {P : Program} {fn : Func} {p : Tmp} {ty : TypeId} (h : fn.results = #[.cell p ty]) (tmps : Array Value) (w : World) (b o : Nat) (cs : List Value) (d : TypeDesc)
    (hp : tmps.getD p undef = .pointer (some ⟨b, o, none⟩)) (hc : w.rangeAt b o cs) (hu : P.underlying ty = some d) (hd : d.isRow = true) (hi : (P.info? ty).map (·.size) = some cs.length) :
    (results fn tmps).run P w = .ok (.agg cs.toArray) w := by
  have hp' : tmps[p]?.getD undef = .pointer (some ⟨b, o, none⟩) := by simpa using hp
  simp [results, h, hp', asAddr, run_loadVar_mid w b o ty cs d hc hu hd hi]

theorem infoTab (F : Nat → Rc) : (Try.prog.info? 118).map (·.size) = some (tabL F 10).length := by rw [tabL_len]; exact info99
theorem half_ok {p q : Int} (h0 : 0 ≤ p) (h1 : p ≤ q) (h2 : q ≤ 1073741824) : okS (halfS ⟨1073741824 + p, 1073741824 + q⟩) = true ∧ 0 ≤ (halfS ⟨1073741824 + p, 1073741824 + q⟩).lo ∧ okS (halfS ⟨1073741824 - q, 1073741824 - p⟩) = true ∧ 0 ≤ (halfS ⟨1073741824 - q, 1073741824 - p⟩).lo := by
  simp only [okS_iff, halfS]
  refine ⟨⟨by omega, by omega, by omega⟩, by omega, ⟨by omega, by omega, by omega⟩, by omega⟩
theorem addOne_any (p q : Int) (w : World) (h0 : 0 ≤ p) (h1 : p ≤ q) (h2 : q ≤ 1073741824) :
    Calls Try.prog 117 #[.agg #[.int .i64 1073741824, .int .i64 1073741824], .agg #[.int .i64 p, .int .i64 q]] w fun e w' => e = retS ⟨1073741824 + p, 1073741824 + q⟩ ∧ Below w.heap.size w w' := by
  refine (addSpans_any _ _ _ _ w (by rw [okS_iff]; simp only; omega) (by rw [okS_iff]; simp only; omega)).mono ?_
  rintro e w' ⟨he, hb⟩
  have : addS ⟨1073741824, 1073741824⟩ ⟨p, q⟩ = .ok ⟨1073741824 + p, 1073741824 + q⟩ := inR_ok (by rw [okS_iff]; simp only; omega)
  rw [this] at he
  exact ⟨he, hb⟩
theorem subOne_any (p q : Int) (w : World) (h0 : 0 ≤ p) (h1 : p ≤ q) (h2 : q ≤ 1073741824) :
    Calls Try.prog 118 #[.agg #[.int .i64 1073741824, .int .i64 1073741824], .agg #[.int .i64 p, .int .i64 q]] w fun e w' => e = retS ⟨1073741824 - q, 1073741824 - p⟩ ∧ Below w.heap.size w w' := by
  refine (subSpans_any _ _ _ _ w (by rw [okS_iff]; simp only; omega) (by rw [okS_iff]; simp only; omega)).mono ?_
  rintro e w' ⟨he, hb⟩
  have : subS ⟨1073741824, 1073741824⟩ ⟨p, q⟩ = .ok ⟨1073741824 - q, 1073741824 - p⟩ := by
    unfold subS addS negS
    rw [inR_ok (by rw [okS_iff]; simp only; omega)]
    congr 1
  rw [this] at he
  exact ⟨he, hb⟩
end Go.Proofs.Ytgbnpnenejgnnaa

namespace Encl
/-- The bits of n from b - 1 down, multiplied together. -/
def unitGo (n : Int) : Nat → Rc → Out Rc
  | 0, z => .ok z
  | b + 1, z => if n / 2 ^ b % 2 = 1 then (mulR z (pt b)).bind (unitGo n b) else unitGo n b z
def unitS (n : Int) : Out Rc := unitGo n 10 ⟨⟨1073741824, 1073741824⟩, ⟨0, 0⟩⟩
theorem unit256 : unitS 256 = .ok ⟨⟨0, 0⟩, ⟨1073741824, 1073741824⟩⟩ := by decide +kernel
theorem pt_ok : ∀ b : Fin 10, okR (pt b.val) = true := by decide +kernel
end Encl
namespace Go.Proofs.Ytgbnpnenejgnnaa
open Go.RowKit Encl
theorem and1 (x : Int) : bits .and .i64 x 1 = x % 2 := by
  have h : (BitVec.ofInt 64 x &&& BitVec.ofInt 64 1).toNat = (x % 18446744073709551616).toNat % 2 := by
    rw [BitVec.toNat_and]
    have e1 : (BitVec.ofInt 64 1).toNat = 1 := by decide
    rw [e1, Nat.and_one_is_mod, BitVec.toNat_ofInt]
    rfl
  have e : bits .and .i64 x 1 = IntKind.i64.wrap ((BitVec.ofInt 64 x &&& BitVec.ofInt 64 1).toNat : Int) := rfl
  rw [e, h, IntKind.wrap_i64]
  omega
end Go.Proofs.Ytgbnpnenejgnnaa
