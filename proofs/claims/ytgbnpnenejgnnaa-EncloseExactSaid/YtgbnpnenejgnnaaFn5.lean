import Derived.Test.YtgbnpnenejgnnaaEu
import Derived.Deep.MidRow
import Derived.Deep.Upon
import Derived.Test.YtgbnpnenejgnnaaEat
import Derived.Deep.DeepCutAuto
namespace Go.Proofs.Ytgbnpnenejgnnaa
open Go.RowKit Encl
theorem below_mids {B g : Nat} (hg : B ≤ g) : ∀ (vs : List Value) (o : Nat) {a w : World}, Below B a w → Below B a (w.setCells g o vs)
  | [], _, _, _, h => h
  | v :: r, o, _, _, h => below_mids hg r (o + 1) (h.setCell (p := ⟨g, o, none⟩) hg v)
/-- A part of a block that is known whole. -/
theorem range_row {w : World} {b : Nat} {cs : Array Value} {t : TypeId} (h : w.heap[b]? = some (.cells cs t (0, 0))) (o : Nat) (l : List Value) (hl : ∀ j, j < l.length → cs[o + j]? = l[j]?) : w.rangeAt b o l := fun j v hv => by
  rw [cell_of_row _ _ _ _ _ (0, 0) h, hl j (List.getElem?_eq_some_iff.1 hv).1, hv]
theorem there_row {w : World} {b : Nat} {cs : Array Value} {t : TypeId} (h : w.heap[b]? = some (.cells cs t (0, 0))) (n : Nat) (hn : n ≤ cs.size) : w.there b 0 n := fun j hj => by
  refine ⟨?_, ?_⟩
  · rw [cell_of_row _ _ _ _ _ (0, 0) h, Nat.zero_add, Array.getElem?_eq_getElem (by omega)]; rfl
  · unfold World.frozen?; simp [h]
theorem there_mid {w : World} {b : Nat} {cs : Array Value} {t : TypeId} (h : w.heap[b]? = some (.cells cs t (0, 0))) (o n : Nat) (hn : o + n ≤ cs.size) : w.there b o n := fun j hj => by
  refine ⟨?_, ?_⟩
  · rw [cell_of_row _ _ _ _ _ (0, 0) h, Array.getElem?_eq_getElem (by omega)]; rfl
  · unfold World.frozen?; simp [h]
def putAt' (cs : Array Value) : Nat → List Value → Array Value
  | _, [] => cs
  | o, v :: r => putAt' (cs.setIfInBounds o v) (o + 1) r
theorem putAt'_get : ∀ (vs : List Value) (o : Nat) (cs : Array Value), o + vs.length ≤ cs.size → ∀ j : Nat, (putAt' cs o vs)[j]? = if j < o then cs[j]? else if j < o + vs.length then vs[j - o]? else cs[j]?
  | [], o, cs, _, j => by
    unfold putAt'
    split
    · rfl
    · rw [if_neg (by simp; omega)]
  | v :: r, o, cs, h, j => by
    unfold putAt'
    have hl : o + 1 + r.length ≤ cs.size := by simp at h; omega
    rw [putAt'_get r (o + 1) _ (by rw [Array.size_setIfInBounds]; exact hl) j]
    by_cases h1 : j < o
    · rw [if_pos (by omega), if_pos h1, Array.getElem?_setIfInBounds_ne (by omega)]
    · rw [if_neg h1]
      by_cases h2 : j = o
      · subst h2
        rw [if_pos (by omega), if_pos (by simp), Nat.sub_self, Array.getElem?_setIfInBounds_self_of_lt (by omega)]
        rfl
      · rw [if_neg (by omega)]
        by_cases h3 : j < o + 1 + r.length
        · rw [if_pos h3, if_pos (by simp; omega)]
          obtain ⟨k, rfl⟩ : ∃ k, j = o + 1 + k := ⟨j - (o + 1), by omega⟩
          rw [show o + 1 + k - (o + 1) = k by omega, show o + 1 + k - o = k + 1 by omega]
          rfl
        · rw [if_neg h3, if_neg (by simp; omega), Array.getElem?_setIfInBounds_ne (by omega)]
theorem putAt'_all (cs : Array Value) (vs : List Value) (h : cs.size = vs.length) : putAt' cs 0 vs = vs.toArray := by
  apply Array.ext_getElem?
  intro j
  rw [putAt'_get vs 0 cs (by omega) j, if_neg (by omega)]
  by_cases h2 : j < 0 + vs.length
  · rw [if_pos h2, Nat.sub_zero, List.getElem?_toArray]
  · rw [if_neg h2, Array.getElem?_eq_none (xs := cs) (by omega), Array.getElem?_eq_none (xs := vs.toArray) (by rw [List.size_toArray]; omega)]
theorem block_setCells' {b : Nat} {t : TypeId} : ∀ (vs : List Value) (o : Nat) (cs : Array Value) (w : World), w.heap[b]? = some (.cells cs t (0, 0)) → (w.setCells b o vs).heap[b]? = some (.cells (putAt' cs o vs) t (0, 0))
  | [], _, _, _, h => h
  | v :: r, o, cs, w, h => block_setCells' r (o + 1) _ (w.setCell ⟨b, o, none⟩ v) (heap_setCell_same w b o cs t v h)
/-- A block that is stored to as a whole. -/
theorem block_whole {b : Nat} {t : TypeId} {w : World} {cs : Array Value} (vs : List Value) (h : w.heap[b]? = some (.cells cs t (0, 0))) (hs : cs.size = vs.length) : (w.setCells b 0 vs).heap[b]? = some (.cells vs.toArray t (0, 0)) := by
  rw [block_setCells' vs 0 cs w h, putAt'_all cs vs hs]
end Go.Proofs.Ytgbnpnenejgnnaa

namespace Encl
/-- The rectangle of two spans, or the error of the first that is out of range. -/
def fromR (x y : Sp) : Out Rc := (inR x).bind fun a => (inR y).bind fun b => .ok ⟨a, b⟩
theorem fromR_eq (x y : Sp) : fromR x y = if okR ⟨x, y⟩ = true then .ok ⟨x, y⟩ else .bad 4 := by
  unfold fromR okR
  simp only
  by_cases h : okS x = true
  · rw [inR_ok h, Out.bind_ok, h]
    by_cases g : okS y = true
    · rw [inR_ok g, Out.bind_ok, g]; rfl
    · rw [inR_bad g, Out.bind_bad, if_neg (by simpa using g)]
  · rw [inR_bad h, Out.bind_bad, if_neg (by simp [h])]
/-- What FromNum says of a number with these bounds, or this error. -/
def numO (er : Int) (x y : Sp) : Out Rc := if er = 0 then fromR x y else .bad er
end Encl
namespace Go.Proofs.Ytgbnpnenejgnnaa
open Go.RowKit Encl
theorem OutR_form4 (o : Out Rc) : ∃ p q r s er : Int, OutR o = .returned (.tuple #[.agg #[.int .i64 p, .int .i64 q, .int .i64 r, .int .i64 s], .int .i64 er]) := by
  cases o with
  | ok x => exact ⟨_, _, _, _, _, rfl⟩
  | bad k => exact ⟨_, _, _, _, _, rfl⟩
set_option maxRecDepth 100000 in
set_option maxHeartbeats 4000000 in
theorem attempt_num (px py : Addr) (o : Out Rc) (w : World) (H : ∀ w1, Below w.heap.size w w1 → Calls Try.prog 106 #[.pointer (some px), .pointer (some py)] w1 fun e w' => IsR e o ∧ Below w1.heap.size w1 w') :
    Calls Try.prog 84 #[.func (Fn.func 106) #[] #[.pointer (some px), .pointer (some py)]] w fun e w' => e = OutR o ∧ Below w.heap.size w w' := by
  have HH := Lib.hid H
  clear H
  have hmf : ∀ (fn : Fn) (first cap : Array Value) (w : World), (Instr.makeFunc fn first cap).run Try.prog w = .ok (.func fn first cap) w := fun _ _ _ _ => rfl
  go_enter_defers Try.func84, Try.ntmps84
  go_wp2_with fail
  refine (HH.out _ (by go_grown)).mono ?_
  rintro e w1 ⟨he, hb⟩
  have D1 : Below w.heap.size w w1 := Below.trans (by go_grown) (hb.mono (by first | omega | (simp; done) | (simp; omega)))
  have s1 : w.heap.size + 1 < w1.heap.size := by have hs := hb.size; (try simp at hs); omega
  have s0 : w.heap.size < w1.heap.size := by omega
  obtain ⟨k1, k2⟩ := bcl hb
  have d0 := (k1 w.heap.size 0 (by first | omega | (simp; done) | (simp; omega))).trans (by go_cell : _ = some (.int .i64 0))
  have f0 := (k2 w.heap.size 0 (by first | omega | (simp; done) | (simp; omega))).trans (by go_cell : _ = false)
  have d1 := (k1 w.heap.size 1 (by first | omega | (simp; done) | (simp; omega))).trans (by go_cell : _ = some (.int .i64 0))
  have f1 := (k2 w.heap.size 1 (by first | omega | (simp; done) | (simp; omega))).trans (by go_cell : _ = false)
  have d2 := (k1 w.heap.size 2 (by first | omega | (simp; done) | (simp; omega))).trans (by go_cell : _ = some (.int .i64 0))
  have f2 := (k2 w.heap.size 2 (by first | omega | (simp; done) | (simp; omega))).trans (by go_cell : _ = false)
  have d3 := (k1 w.heap.size 3 (by first | omega | (simp; done) | (simp; omega))).trans (by go_cell : _ = some (.int .i64 0))
  have f3 := (k2 w.heap.size 3 (by first | omega | (simp; done) | (simp; omega))).trans (by go_cell : _ = false)
  have d'0 := (k1 (w.heap.size + 1) 0 (by first | omega | (simp; done) | (simp; omega))).trans (by go_cell : _ = some (.int .i64 0))
  have f'0 := (k2 (w.heap.size + 1) 0 (by first | omega | (simp; done) | (simp; omega))).trans (by go_cell : _ = false)
  clear hb k1 k2
  rcases o with ⟨⟨p, q⟩, ⟨s, t⟩⟩ | k
  · obtain rfl : e = .returned (.agg #[.int .i64 p, .int .i64 q, .int .i64 s, .int .i64 t]) := he
    go_wp2_with fail
    refine leaves_cons (f := 135) (args := #[.pointer (some ⟨w.heap.size + 1, 0, none⟩)]) (by simp) (by simp [go_sem]) ?_
    refine (catchR_idle ⟨w.heap.size + 1, 0, none⟩ _).mono ?_
    rintro e u' w2 ⟨rfl, rfl, rfl⟩
    simp [Leaves, settle, results, Try.results84, go_sem, *]
    exact ⟨rfl, by go_grown⟩
  · obtain rfl : e = .panicked [{ v := .iface 26 (.int .i64 k), recovered := false }] := he
    go_wp2_with fail
    refine leaves_cons (f := 135) (args := #[.pointer (some ⟨w.heap.size + 1, 0, none⟩)]) (by simp) (by simp [go_sem]) ?_
    refine (catchR_panicking ⟨w.heap.size + 1, 0, none⟩ 0 k [] _ ?_ ?_).mono ?_
    · go_cell
    · go_cell
    rintro e u' w2 ⟨rfl, rfl, rfl⟩
    simp [Leaves, settle, results, Try.results84, go_sem, *]
    exact ⟨rfl, by go_grown⟩


set_option maxRecDepth 100000 in
set_option maxHeartbeats 4000000 in
theorem numC_any (rl rh il ih : Int) (ga gb : Nat) (w : World) (hga : w.heap[ga]? = some (.cells #[.int .i64 rl, .int .i64 rh] 23 (0, 0))) (hgb : w.heap[gb]? = some (.cells #[.int .i64 il, .int .i64 ih] 23 (0, 0))) :
    Calls Try.prog 106 #[.pointer (some ⟨ga, 0, none⟩), .pointer (some ⟨gb, 0, none⟩)] w fun e w' => IsR e (fromR ⟨rl, rh⟩ ⟨il, ih⟩) ∧ Below w.heap.size w w' := by
  obtain ⟨SP, hsp⟩ : ∃ SP, fromR ⟨rl, rh⟩ ⟨il, ih⟩ = SP := ⟨_, rfl⟩
  have HSP := Lib.hid hsp
  rw [hsp]
  clear hsp
  have l1 : ga < w.heap.size := (Array.getElem?_eq_some_iff.1 hga).1
  have l2 : gb < w.heap.size := (Array.getElem?_eq_some_iff.1 hgb).1
  go_enter Try.func106, Try.ntmps106
  go_upto_region 1 with fail
  have hb0 : Below w.heap.size w (w.alloc (.cells #[.int .i64 0, .int .i64 0, .int .i64 0, .int .i64 0] 25)) := by go_grown
  have b1 := (hb0.block _ l1).trans hga
  have b2 := (hb0.block _ l2).trans hgb
  have bT : (w.alloc (.cells #[.int .i64 0, .int .i64 0, .int .i64 0, .int .i64 0] 25)).heap[w.heap.size]? = some (.cells #[.int .i64 0, .int .i64 0, .int .i64 0, .int .i64 0] 25 (0, 0)) := heap_alloc_new w _
  have lT : w.heap.size < (w.alloc (.cells #[.int .i64 0, .int .i64 0, .int .i64 0, .int .i64 0] 25)).heap.size := by simp
  clear hga hgb
  generalize (w.alloc (.cells #[.int .i64 0, .int .i64 0, .int .i64 0, .int .i64 0] 25)) = W at *
  have lw : w.heap.size ≤ W.heap.size := hb0.size
  have G0 : Hid (∀ w' : World, Below W.heap.size W w' → w'.heap[ga]? = some (.cells #[.int .i64 rl, .int .i64 rh] 23 (0, 0)) ∧ w'.heap[gb]? = some (.cells #[.int .i64 il, .int .i64 ih] 23 (0, 0))) := Lib.hid (fun w' hb => ⟨(hb.block _ (by omega)).trans b1, (hb.block _ (by omega)).trans b2⟩)
  have G1 : Hid (∀ w' : World, Below W.heap.size W w' → w'.heap[w.heap.size]? = some (.cells #[.int .i64 0, .int .i64 0, .int .i64 0, .int .i64 0] 25 (0, 0))) := Lib.hid (fun w' hb => (hb.block _ lT).trans bT)
  have HB0 := Lib.hid hb0
  clear hb0 b1 b2 bT
  have HD0 : Below W.heap.size W W.drew := (Below.refl _ _).drew
  refine wp_region_held_drew (S := fun w' => w'.heap[ga]? = some (.cells #[.int .i64 rl, .int .i64 rh] 23 (0, 0)) ∧ w'.heap[gb]? = some (.cells #[.int .i64 il, .int .i64 ih] 23 (0, 0))) (by kernel_rfl) (G0.out _ HD0) (fun hHeld => ?_)
  refine wpAnyH_take (i := 0) (oi := _) (v := _) rfl (by kernel_rfl) (by kernel_rfl) (by kernel_rfl) (fun _ _ _ h => h) (yieldsIf_load_mid (by rfl) 23 _ rfl (ga) 0 rfl [.int .i64 rl, .int .i64 rh] _ (fun w' h => range_row h.1 0 [.int .i64 rl, .int .i64 rh] (fun j hj => by simp only [Nat.zero_add, List.getElem?_toArray])) Try.underlying23 rfl (by kernel_rfl)) (by assumption) ?_
  try change wpAnyH _ _ _ _ _ _ _ (Act.put _ (some 3) _) _
  try simp only [act_all]
  refine wpAnyH_take (i := 2) (oi := _) (v := _) rfl (by kernel_rfl) (by kernel_rfl) (by kernel_rfl) (fun _ _ _ h => h) (yieldsIf_load_mid (by rfl) 23 _ rfl (gb) 0 rfl [.int .i64 il, .int .i64 ih] _ (fun w' h => range_row h.2 0 [.int .i64 il, .int .i64 ih] (fun j hj => by simp only [Nat.zero_add, List.getElem?_toArray])) Try.underlying23 rfl (by kernel_rfl)) (by assumption) ?_
  try change wpAnyH _ _ _ _ _ _ _ (Act.put _ (some 5) _) _
  try simp only [act_all]
  refine wpAnyH_ready (rs := [1]) (by kernel_rfl) (by simp) ?_
  refine AllReadyH.cons (o := _) rfl (fun K hK => ?_) AllReadyH.nil
  go_simp
  refine (inRange_any rl rh _).mono ?_
  rintro e y1 ⟨he, hb⟩
  have HD1 : Below W.heap.size W y1 := HD0.trans (hb.mono HD0.size)
  clear hb hHeld
  obtain ⟨r, hr⟩ : ∃ r, inR ⟨rl, rh⟩ = r := ⟨_, rfl⟩
  rw [hr] at he
  have HR1 := Lib.hid hr
  clear hr
  rcases r with ⟨x1, x2⟩ | k
  case' bad =>
    obtain rfl : e = .panicked [{ v := .iface 26 (.int .i64 k), recovered := false }] := he
    refine ⟨rfl, ?_, HB0.out.trans (HD1.mono lw)⟩
    rw [← HSP.out]; simp only [fromR, HR1.out, Out.binds, IsR]; (try rfl)
  obtain rfl : e = .returned (.agg #[.int .i64 x1, .int .i64 x2]) := he
  refine hK.out _ _ (G0.out _ HD1) (fun hHeld => ?_)
  clear hK K
  try simp only [act_all]
  refine wpAnyH_ready (rs := [3]) (by kernel_rfl) (by simp) ?_
  refine AllReadyH.cons (o := _) rfl (fun K hK => ?_) AllReadyH.nil
  go_simp
  refine (inRange_any il ih _).mono ?_
  rintro e y2 ⟨he, hb⟩
  have HD2 : Below W.heap.size W y2 := HD1.trans (hb.mono HD1.size)
  clear hb hHeld
  obtain ⟨r, hr⟩ : ∃ r, inR ⟨il, ih⟩ = r := ⟨_, rfl⟩
  rw [hr] at he
  have HR2 := Lib.hid hr
  clear hr
  rcases r with ⟨x3, x4⟩ | k
  case' bad =>
    obtain rfl : e = .panicked [{ v := .iface 26 (.int .i64 k), recovered := false }] := he
    refine ⟨rfl, ?_, HB0.out.trans (HD2.mono lw)⟩
    rw [← HSP.out]; simp only [fromR, HR1.out, HR2.out, Out.binds, IsR]; (try rfl)
  obtain rfl : e = .returned (.agg #[.int .i64 x3, .int .i64 x4]) := he
  refine hK.out _ _ (G0.out _ HD2) (fun hHeld => ?_)
  clear hK K
  try simp only [act_all]
  refine wpAnyH_take (i := 4) (oi := _) (v := ?_) rfl (by kernel_rfl) (by kernel_rfl) (by kernel_rfl) (fun _ _ _ h => h) (Or.inl ⟨by rfl, ?_⟩) (by assumption) ?_
  rotate_left
  · intro w _; go_simp; (try with_reducible rfl)
  try change wpAnyH _ _ _ _ _ _ _ (Act.put _ (some 7) _) _
  try simp only [act_all]
  refine wpAnyH_ready (rs := [5]) (by kernel_rfl) (by simp) ?_
  refine AllReadyH.cons (o := _) rfl (fun K hK => ?_) AllReadyH.nil
  have HTH := Lib.hid (there_mid (G1.out _ HD2) 0 4 (by decide))
  rw [if_pos (show Region.wanted _ _ = true from rfl)]
  refine wp_store_mid 25 (.tmp 2) (.tmp 7) rfl w.heap.size 0 #[.int .i64 x1, .int .i64 x2, .int .i64 x3, .int .i64 x4] rfl rfl HTH.out (by kernel_rfl) (by simp [Value.oneCell']) ?_
  (try rw [show (#[.int .i64 x1, .int .i64 x2, .int .i64 x3, .int .i64 x4] : Array Value).toList = [.int .i64 x1, .int .i64 x2, .int .i64 x3, .int .i64 x4] from rfl])
  have HDZ : Below w.heap.size w (y2.setCells w.heap.size 0 [.int .i64 x1, .int .i64 x2, .int .i64 x3, .int .i64 x4]) := below_mids (Nat.le_refl _) _ _ (HB0.out.trans (HD2.mono lw))
  have bZ : (y2.setCells w.heap.size 0 [.int .i64 x1, .int .i64 x2, .int .i64 x3, .int .i64 x4]).heap[w.heap.size]? = some (.cells #[.int .i64 x1, .int .i64 x2, .int .i64 x3, .int .i64 x4] 25 (0, 0)) := block_whole [.int .i64 x1, .int .i64 x2, .int .i64 x3, .int .i64 x4] (G1.out _ HD2) rfl
  have gg := G0.out _ HD2
  have ly := HD2.size
  refine hK.out _ _ ⟨(World.heap_setCells_other _ _ _ _ (by omega) (by omega)).trans gg.1, (World.heap_setCells_other _ _ _ _ (by omega) (by omega)).trans gg.2⟩ (fun hHeld => ?_)
  clear hK K
  try simp only [act_all]
  refine wpAnyH_done (by kernel_rfl) ?_ _
  clear hHeld gg
  generalize (y2.setCells w.heap.size 0 [.int .i64 x1, .int .i64 x2, .int .i64 x3, .int .i64 x4]) = W3 at *
  have HBZ := Lib.hid bZ
  clear bZ
  refine (‹∀ (a : Act) (w : World), Code.wp Try.prog Code.ret _ a w → _› _ _ ?_)
  apply wp_ret
  (try unfold Exit.then)
  (try dsimp only)
  (try simp only [act_all])
  obtain ⟨q0, q1, q2, q3⟩ : (W3.cell? ⟨w.heap.size, 0, none⟩ = some (.int .i64 x1) ∧ W3.cell? ⟨w.heap.size, 1, none⟩ = some (.int .i64 x2) ∧ W3.cell? ⟨w.heap.size, 2, none⟩ = some (.int .i64 x3) ∧ W3.cell? ⟨w.heap.size, 3, none⟩ = some (.int .i64 x4)) := by
    have h := range_row HBZ.out 0 [.int .i64 x1, .int .i64 x2, .int .i64 x3, .int .i64 x4] (fun j hj => by simp only [Nat.zero_add, List.getElem?_toArray])
    refine ⟨by have h1 := h 0 _ rfl; rwa [Nat.zero_add] at h1, by have h1 := h 1 _ rfl; rwa [Nat.zero_add] at h1, by have h1 := h 2 _ rfl; rwa [Nat.zero_add] at h1, by have h1 := h 3 _ rfl; rwa [Nat.zero_add] at h1⟩
  refine bodyPost_ret (v := .agg #[.int .i64 x1, .int .i64 x2, .int .i64 x3, .int .i64 x4]) (by simp [results, Try.results106, go_sem, q0, q1, q2, q3]) rfl ⟨?_, HDZ⟩
  rw [← HSP.out]; simp only [fromR, HR1.out, HR2.out, Out.binds, IsR]; (try rfl)
end Go.Proofs.Ytgbnpnenejgnnaa
