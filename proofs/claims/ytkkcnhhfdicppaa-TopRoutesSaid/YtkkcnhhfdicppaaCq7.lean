import Derived.Test.YtkkcnhhfdicppaaRr7
import Derived.Maps.OwnSet
namespace Lay
/-- How many different cells there are among the first. -/
def disN (X Y : Nat → Int) : Nat → Nat
  | 0 => 0
  | n + 1 => if blkN X Y n (X n) (Y n) then disN X Y n else disN X Y n + 1
/-- Whether a cell comes twice. -/
def repN (X Y : Nat → Int) : Nat → Bool
  | 0 => false
  | n + 1 => repN X Y n || blkN X Y n (X n) (Y n)
theorem disN_le {X Y : Nat → Int} : ∀ n, disN X Y n ≤ n
  | 0 => Nat.le_refl _
  | n + 1 => by
    have := disN_le (X := X) (Y := Y) n
    simp only [disN]
    split <;> omega
theorem disN_eq {X Y : Nat → Int} : ∀ n, disN X Y n = n ↔ repN X Y n = false
  | 0 => ⟨fun _ => rfl, fun _ => rfl⟩
  | n + 1 => by
    have h1 := disN_le (X := X) (Y := Y) n
    have h2 := disN_eq (X := X) (Y := Y) n
    simp only [disN, repN, Bool.or_eq_false_iff]
    rw [← h2]
    by_cases h : blkN X Y n (X n) (Y n) = true
    · rw [if_pos h]; constructor
      · intro _; omega
      · intro k; rw [h] at k; exact absurd k.2 (by simp)
    · rw [if_neg h]
      have h' : blkN X Y n (X n) (Y n) = false := by simpa using h
      constructor
      · intro _; exact ⟨by omega, h'⟩
      · intro k; omega
end Lay
namespace Go.Proofs.Ytkkcnhhfdicppaa
open Go.RowKit Lay
open Go.Maps (Keyed)
/-- Block b is a map from cells to true; s of them are in it. -/
def CMap (w : World) (b n s : Nat) (B : Int → Int → Bool) : Prop :=
  ∃ D : DataW Unit, w.ownsMap Try.prog 26 (plainElem Try.prog 4) b n D ∧ Maps.IsMap D ∧
    (∀ x y kl, keyOf Try.prog 26 (xyV x y) = some kl → D.atKey kl (.lit (.bool false)) = .lit (.bool (B x y)) ∧ Maps.has D kl = B x y) ∧ Maps.size D = s
theorem CMap.toB {w : World} {b n s : Nat} {B : Int → Int → Bool} (h : CMap w b n s B) : BMap w b n B := by
  obtain ⟨D, h1, h2, h3, _⟩ := h
  exact ⟨D, h1, h2, fun x y kl hk => (h3 x y kl hk).1⟩
theorem CMap.lt {w : World} {b n s : Nat} {B : Int → Int → Bool} (h : CMap w b n s B) : b < w.heap.size := h.toB.lt
theorem CMap.keep {w w' : World} {b n s : Nat} {B : Int → Int → Bool} (h : CMap w b n s B) (e : w'.heap[b]? = w.heap[b]?) : CMap w' b n s B := by
  obtain ⟨D, ⟨es, clock, hb, r⟩, h2⟩ := h
  exact ⟨D, ⟨es, clock, e.trans hb, r⟩, h2⟩
theorem CMap.made (w : World) : CMap (w.alloc (.map #[] 0)) w.heap.size 0 0 (fun _ _ => false) := ⟨.map [], World.ownsMap_made _ _ _ _, ⟨_, rfl⟩, fun _ _ _ _ => ⟨rfl, rfl⟩, rfl⟩
theorem CMap.len {w : World} {b n s : Nat} {B : Int → Int → Bool} (h : CMap w b n s B) (ty : TypeId) : (Builtin.len_ #[66] ty #[.map (some b)]).run Try.prog w = .ok (.int .i64 s) w := by
  obtain ⟨D, h1, _, _, h4⟩ := h
  have h := h1.len Try.underlying66 ty
  rw [h4] at h
  exact h
theorem CMap.put {w : World} {b n s : Nat} {B : Int → Int → Bool} (h : CMap w b n s B) (hn : n < maxLen) {x y : Int} (hx : (Lit.int .i64 x).wf = true) (hy : (Lit.int .i64 y).wf = true) :
    ∃ w', (Instr.mapUpdate 66 (.map (some b)) (xyV x y) (.bool true)).run Try.prog w = .ok () w' ∧ CMap w' b (n + 1) (if B x y then s else s + 1) (fun p q => B p q || decide (p = x ∧ q = y)) ∧ w.grownBy w' (some b) := by
  obtain ⟨D, hown, hm, hF, hs⟩ := h
  obtain ⟨kl, hk⟩ := key26 x y hx hy
  obtain ⟨w', hrun, h1, h2⟩ := hown.update ked26 Try.underlying66 hn hk (plainElem_bool Try.underlying4 true)
  refine ⟨w', hrun, ⟨_, h1, hm.put _ _, fun x' y' kl' hk' => ?_, ?_⟩, h2⟩
  · by_cases hs : x' = x ∧ y' = y
    · obtain ⟨rfl, rfl⟩ := hs
      rw [hk] at hk'
      cases hk'
      rw [Maps.atKey_put_same hm (ked26.key hk), Maps.has_put_same hm (ked26.key hk)]
      simp
    · have hne : kl' ≠ kl := fun e => by
        subst e
        have := ked26.inj hk' hk
        simp at this
        exact hs ⟨this.1, this.2⟩
      rw [Maps.atKey_put_other hne, (hF x' y' kl' hk').1, Maps.has_put_other hne, (hF x' y' kl' hk').2]
      simp [hs]
  · rw [Maps.size_put (hown.tidy ked26), (hF x y kl hk).2, hs]
end Go.Proofs.Ytkkcnhhfdicppaa
