import Derived.Test.YtkkcnhhfdicppaaRv7
import Derived.Laws.AppendOwnNone
namespace Lay
/-- The first n cells as a list, and one more. -/
def prL (X Y : Nat → Int) (n : Nat) : List (Int × Int) := (List.range n).map fun i => (X i, Y i)
theorem prL_len (X Y : Nat → Int) (n : Nat) : (prL X Y n).length = n := by unfold prL; simp
def exL (X Y : Nat → Int) (n : Nat) (c : Int × Int) : List (Int × Int) := prL X Y n ++ [c]
theorem exL_len (X Y : Nat → Int) (n : Nat) (c : Int × Int) : (exL X Y n c).length = n + 1 := by unfold exL; rw [List.length_append, prL_len]; rfl
theorem exL_old {X Y : Nat → Int} {n i : Nat} {c : Int × Int} (h : i < n) : (exL X Y n c).getD i (0, 0) = (X i, Y i) := by
  unfold exL prL
  rw [List.getD_eq_getElem?_getD, List.getElem?_append_left (by simp; exact h), List.getElem?_map, List.getElem?_range h]
  rfl
theorem exL_new {X Y : Nat → Int} {n : Nat} {c : Int × Int} : (exL X Y n c).getD n (0, 0) = c := by
  unfold exL
  rw [List.getD_eq_getElem?_getD, List.getElem?_append_right (by rw [prL_len]; omega), prL_len, Nat.sub_self]
  rfl
theorem blkN_congr {X Y X' Y' : Nat → Int} : ∀ {n : Nat}, (∀ i, i < n → X' i = X i ∧ Y' i = Y i) → blkN X' Y' n = blkN X Y n
  | 0, _ => rfl
  | n + 1, h => by
    funext p q
    simp only [blkN]
    rw [blkN_congr fun i hi => h i (by omega), (h n (by omega)).1, (h n (by omega)).2]
theorem blkN_ex {X Y : Nat → Int} {n : Nat} {cx cy : Int} : blkN (fun j => ((exL X Y n (cx, cy)).getD j (0, 0)).1) (fun j => ((exL X Y n (cx, cy)).getD j (0, 0)).2) (n + 1) = fun p q => blkN X Y n p q || decide (p = cx ∧ q = cy) := by
  funext p q
  simp only [blkN]
  rw [blkN_congr (X := X) (Y := Y) fun i hi => by rw [exL_old hi]; exact ⟨rfl, rfl⟩]
  simp only [exL_new]
theorem wk_mono {op op' : Int → Int → Bool} {M B p q : Int} (h : ∀ x y, op' x y = true → op x y = true) {x y d v : Int} (hw : Wk op' M B p q x y d v) : Wk op M B p q x y d v := by
  induction hw with
  | base x y d h0 h4 ho h1 h2 => exact Wk.base x y d h0 h4 (h _ _ ho) h1 h2
  | step x y d x' y' d' v hw h0 h4 ho h1 h2 ih => exact Wk.step x y d x' y' d' v ih h0 h4 (h _ _ ho) h1 h2
/-- With fewer cells nothing is cheaper. -/
theorem far_more {W H M B tx ty : Int} {K K' : Int → Int → Bool} {F G : Int → Int → Int → Option Int} (hM : 0 ≤ M) (hB : 0 ≤ B) (hK : ∀ x y, opB W H K' x y = true → opB W H K x y = true) (hF : Costs W H K M B tx ty F) (hG : Costs W H K' M B tx ty G) (x y : Int)
    (h : 0 ≤ farS G B tx ty x y) : 0 ≤ farS F B tx ty x y ∧ farS F B tx ty x y ≤ farS G B tx ty x y := by
  unfold farS at h ⊢
  by_cases hp : x = tx ∧ y = ty
  · rw [if_pos hp, if_pos hp]; exact ⟨Int.le_refl _, Int.le_refl _⟩
  · rw [if_neg hp] at h ⊢
    rw [if_neg hp]
    have hz : ∀ d : Int, bd B (-1) d = 0 := fun d => by unfold bd; rw [if_neg (fun h => h.1 rfl)]
    rcases chN_is G B x y (-1) 4 with ⟨h1, _⟩ | ⟨d, v, h0, h4, hg, he, _, _⟩
    · have h1' : (chp G B x y (-1)).1 = -1 := h1
      rw [if_pos h1'] at h
      omega
    · have he' : chp G B x y (-1) = (d, v + bd B (-1) d) := he
      have hd : ¬ (chp G B x y (-1)).1 = -1 := by rw [he']; simp only; omega
      rw [if_neg hd, he'] at h ⊢
      simp only at h ⊢
      rw [hg] at h ⊢
      simp only [Option.getD_some] at h ⊢
      have hw := wk_mono hK ((hG.1 x y d).1 v hg).1
      obtain ⟨u, hu⟩ := (hF.1 x y d).2 v hw
      have huv := ((hF.1 x y d).1 u hu).2 v hw
      rcases chN_is F B x y (-1) 4 with ⟨_, k2⟩ | ⟨e, v1, k0, k4, kf, ke, km, _⟩
      · rw [k2 d h0 (by omega)] at hu; cases hu
      · have ke' : chp F B x y (-1) = (e, v1 + bd B (-1) e) := ke
        have hne : ¬ (chp F B x y (-1)).1 = -1 := by rw [ke']; simp only; omega
        rw [if_neg hne, ke']
        simp only
        rw [kf]
        simp only [Option.getD_some]
        have h5 := km d u h0 (by omega) hu
        rw [hz, hz] at h5
        have h6 := ((hF.1 x y e).1 v1 kf).1.low hM hB
        omega
theorem opB_less {W H : Int} {K : Int → Int → Bool} {cx cy x y : Int} (h : opB W H (fun p q => K p q || decide (p = cx ∧ q = cy)) x y = true) : opB W H K x y = true := by
  rw [opB_iff] at h ⊢
  simp only [Bool.or_eq_false_iff] at h
  exact ⟨h.1, h.2.1⟩
end Lay
namespace Go.Proofs.Ytkkcnhhfdicppaa
open Go.RowKit Lay
theorem news_xys {w : World} {b o n : Nat} {X Y : Nat → Int} (h : ∀ i, i < n → XyAt w b (o + i * 2) (X i) (Y i)) : ∀ j u, (xyC (prL X Y n))[j]? = some u → w.cell? ((⟨b, o, none⟩ : Addr).add j) = some u := by
  intro j u hu
  rw [Addr.add_lit]
  have hj : j < (xyC (prL X Y n)).length := (List.getElem?_eq_some_iff.1 hu).1
  rw [xyC_len, prL_len] at hj
  have hget : (prL X Y n)[j / 2]? = some (X (j / 2), Y (j / 2)) := by
    unfold prL
    rw [List.getElem?_map, List.getElem?_range (by omega)]
    rfl
  obtain ⟨h0, h1⟩ := xyC_get _ _ _ hget
  obtain ⟨a0, a1⟩ := h (j / 2) (by omega)
  have hcase : j = j / 2 * 2 ∨ j = j / 2 * 2 + 1 := by omega
  rcases hcase with e | e
  · rw [e] at hu ⊢
    rw [h0] at hu
    cases hu
    exact a0
  · rw [e] at hu ⊢
    rw [h1] at hu
    cases hu
    exact a1
/-- The cells of a slice that came in, behind an empty list of the call's own. -/
theorem step_app_src {ops : Array Oper} {o : Oper} {a : Act} {K : Act → World → Prop} {Q : Exit → Act → World → Prop} {E : Prop} {w : World} (hgd : o.guard = none) (s x : Operand)
    (ho : o.op = .call { callee := .builtin .append, args := #[s, x], argTypes := #[22, 22] }) (base : Nat) (v : Value) (hs : a.eval s = v) (hown : w.ownsRow base 26 2 v 0 [])
    (ao : Option Addr) (n cp : Nat) (X Y : Nat → Int) (hx : a.eval x = .slice ao n cp) (hc : XYs w ao n X Y) (hnil : ao = none → n = 0 ∧ cp = 0) (hn : n * 16 ≤ 140737488351232) (hbase : base ≤ w.heap.size)
    (h : ∀ v' w', w'.ownsRow base 26 2 v' n (xyC (prL X Y n)) → w.grownBy w' v.ownBlock → K (a.put o.dst v') w') :
    if Region.wanted o (yielded ops a.tmps) = true then Oper.wp Try.prog o a w K Q else E := by
  obtain ⟨i0, hi, hz0, hz1, hz2⟩ := info_parts xy_info
  have hw : Region.wanted o (yielded ops a.tmps) = true := by simp [Region.wanted, hgd]
  rw [if_pos hw]
  cases ao with
  | none =>
    obtain ⟨rfl, rfl⟩ := hnil rfl
    have hrun := run_append_owned_none (P := Try.prog) (w := w) base 22 o.type 26 i0 2 Try.underlying22 hi v 0 [] hown
    unfold Oper.wp
    simp [execOp, ho, resolve, invoke, builtin, hs, hx, hrun, Result.andThen]
    exact h v w hown ⟨rfl, rfl, rfl, Nat.le_refl _, fun _ _ _ => rfl⟩
  | some ad =>
    have hnews : ∀ j u, (xyC (prL X Y n))[j]? = some u → w.cell? (ad.add j) = some u := by
      by_cases h0 : n = 0
      · subst h0
        intro j u hu
        have : (xyC (prL X Y 0)) = [] := rfl
        rw [this] at hu
        simp at hu
      · obtain ⟨b, off, e, hcell⟩ := hc (by omega)
        cases e
        exact news_xys hcell
    refine wp_append_own w s x 22 ho base 26 i0 _ 2 16 Try.underlying22 hi hz0 hz1 hz2 rfl (by decide) v 0 [] hs hown ad n cp (xyC (prL X Y n)) hx (by rw [xyC_len, prL_len]) hnews ?_ (by unfold maxLen; omega) (by omega) hbase ?_
    · intro u hu
      unfold xyC at hu
      rw [List.mem_flatMap] at hu
      obtain ⟨c, _, hm⟩ := hu
      simp only [List.mem_cons, List.not_mem_nil, or_false] at hm
      rcases hm with rfl | rfl <;> rfl
    · intro v' w' h1 h2 _
      rw [Nat.zero_add, List.nil_append] at h1
      exact h v' w' h1 h2
end Go.Proofs.Ytkkcnhhfdicppaa
