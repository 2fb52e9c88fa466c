import Derived.Test.YtkkcnhhfdicppaaJm7
import Derived.Test.YtkkcnhhfdicppaaPg7
import Derived.Maps.AppendAt
namespace Lay
/-- The direction of the step from a cell of a path, or −1 at its end. -/
def wzN (X Y : Nat → Int) (n i : Nat) : Int := if i + 1 < n then wyN X Y i else -1
def qvN (X Y : Nat → Int) (n : Nat) : Nat → Int
  | 0 => -1
  | i + 1 => wzN X Y n i
theorem qv_pv {X Y : Nat → Int} {n : Nat} : ∀ {i : Nat}, i < n → qvN X Y n i = pvN X Y i
  | 0, _ => rfl
  | i + 1, h => by simp only [qvN, pvN, wzN]; rw [if_pos h]
/-- How the first cells of a path use a cell. -/
def usP (X Y : Nat → Int) (n : Nat) (k : Int) : Nat → Int → Int → List (Int × Int × Int)
  | 0, _, _ => []
  | i + 1, x, y => usP X Y n k i x y ++ if x = X i ∧ y = Y i then [(k, pvN X Y i, wzN X Y n i)] else []
/-- How the first paths use a cell. -/
def usA (X Y : Nat → Nat → Int) (N : Nat → Nat) : Nat → Int → Int → List (Int × Int × Int)
  | 0, _, _ => []
  | k + 1, x, y => usA X Y N k x y ++ usP (X k) (Y k) (N k) k (N k) x y
theorem usP_len (X Y : Nat → Int) (n : Nat) (k : Int) (x y : Int) : ∀ i, (usP X Y n k i x y).length ≤ i
  | 0 => Nat.le_refl _
  | i + 1 => by
    have := usP_len X Y n k x y i
    simp only [usP, List.length_append]
    split <;> simp <;> omega
theorem usA_len (X Y : Nat → Nat → Int) (N : Nat → Nat) (x y : Int) {m : Nat} : ∀ k, (∀ j, j < k → N j ≤ m) → (usA X Y N k x y).length ≤ k * m
  | 0, _ => by simp [usA]
  | k + 1, h => by
    have h1 := usA_len X Y N x y (m := m) k (fun j hj => h j (by omega))
    have h2 := usP_len (X k) (Y k) (N k) k x y (N k)
    have h3 := h k (by omega)
    simp only [usA, List.length_append]
    rw [Nat.succ_mul]
    omega
def useC (l : List (Int × Int × Int)) : List Go.Value := l.flatMap fun u => [.int .i64 u.1, .int .i64 u.2.1, .int .i64 u.2.2]
theorem useC_snoc (l : List (Int × Int × Int)) (u : Int × Int × Int) : useC (l ++ [u]) = useC l ++ [.int .i64 u.1, .int .i64 u.2.1, .int .i64 u.2.2] := by unfold useC; simp
theorem useC_len (l : List (Int × Int × Int)) : (useC l).length = l.length * 3 := by
  induction l with
  | nil => rfl
  | cons a l ih => simp [useC] at ih ⊢; omega
end Lay
namespace Go.Proofs.Ytkkcnhhfdicppaa
open Go.RowKit Lay
theorem use_info : (Try.prog.info? 118).map (fun i => (i.zero, i.size, i.bytes)) = some (some (.agg #[.int .i64 0, .int .i64 0, .int .i64 0]), 3, 24) := by kernel_rfl
/-- Block b is a map of the uses U of the cells: a row of its own for each cell that is used. -/
def UST (w : World) (b n : Nat) (U : Int → Int → List (Int × Int × Int)) (nb : Option Nat) : Prop :=
  ∃ G : Int → Int → Value, UMap w b n G ∧ (∀ x y, w.ownsRow (b + 1) 118 3 (G x y) (U x y).length (useC (U x y))) ∧
    (∀ x y p q, ¬ (x = p ∧ y = q) → (G x y).ownBlock = none ∨ (G x y).ownBlock ≠ (G p q).ownBlock) ∧ ∀ g, nb = some g → ∀ x y, (G x y).ownBlock ≠ some g
theorem UST.lt {w : World} {b n : Nat} {U : Int → Int → List (Int × Int × Int)} {nb : Option Nat} (h : UST w b n U nb) : b < w.heap.size := by obtain ⟨G, h1, _⟩ := h; exact h1.lt
theorem UST.keep {w w' : World} {b n : Nat} {U : Int → Int → List (Int × Int × Int)} {nb : Option Nat} (h : UST w b n U nb) (hb : Below w.heap.size w w') : UST w' b n U nb := by
  obtain ⟨G, h1, h2, h3⟩ := h
  exact ⟨G, h1.keep (hb.block _ h1.lt), fun x y => own_below' (h2 x y) hb, h3⟩
theorem UST.more {w : World} {b n m : Nat} {U : Int → Int → List (Int × Int × Int)} {nb : Option Nat} (h : UST w b n U nb) (hm : n ≤ m) : UST w b m U nb := by
  obtain ⟨G, h1, h2⟩ := h
  exact ⟨G, h1.more hm, h2⟩
theorem UST.other {w : World} {b n : Nat} {U : Int → Int → List (Int × Int × Int)} {nb : Option Nat} (h : UST w b n U nb) {g : Nat} (hg : w.heap.size ≤ g) : UST w b n U (some g) := by
  obtain ⟨G, h1, h2, h3, _⟩ := h
  refine ⟨G, h1, h2, h3, fun g' hg' x y he => ?_⟩
  cases hg'
  have := ((h2 x y).lt g he).2
  omega
theorem UST.made (w : World) : UST (w.alloc (.map #[] 0)) w.heap.size 0 (fun _ _ => []) none :=
  ⟨fun _ _ => .slice none 0 0, GM.made w hd_ok, fun _ _ => World.ownsRow_nil _ _ _ _, fun _ _ _ _ _ => Or.inl rfl, fun _ h => by cases h⟩
theorem hd_own {w : World} {b n : Nat} {v : Value} {xs : List Value} (h : w.ownsRow b 118 3 v n xs) : ∃ d p, hdE v = some (d, p) := by
  obtain ⟨_, ⟨rfl, rfl⟩ | ⟨g, cap, cur, rfl, _⟩⟩ := h
  · exact ⟨_, _, rfl⟩
  · exact ⟨_, _, rfl⟩
/-- One more use of a cell: the entry is looked for, the row grows, the entry is stored to. -/
theorem UST.entry {w : World} {b n : Nat} {U : Int → Int → List (Int × Int × Int)} {nb : Option Nat} (h : UST w b n U nb) (hn : n < maxLen) (hnb : ∀ g, nb = some g → g < w.heap.size) {x y : Int} (hx : (Lit.int .i64 x).wf = true) (hy : (Lit.int .i64 y).wf = true) (c0 c1 c2 : Int) :
    ∃ (st : Nat) (w1 : World) (v0 : Value), (Instr.mapEntry 113 (.map (some b)) (xyV x y)).run Try.prog (w.alloc (.cells #[.int .i64 c0, .int .i64 c1, .int .i64 c2] 118)) = .ok (.tuple #[v0, goInt st]) w1 ∧ w1.ownsRow (b + 1) 118 3 v0 (U x y).length (useC (U x y)) ∧
      w1.heap[w.heap.size]? = some (.cells #[.int .i64 c0, .int .i64 c1, .int .i64 c2] 118 (0, 0)) ∧ w.grownBy w1 (some b) ∧ w.heap.size < w1.heap.size ∧ (∀ g, nb = some g → v0.ownBlock ≠ some g) ∧ (∀ g, v0.ownBlock = some g → g ≠ w.heap.size) ∧
      ∀ (w2 : World) (v' : Value), w2.ownsRow (b + 1) 118 3 v' ((U x y).length + 1) (useC (U x y ++ [(c0, c1, c2)])) → w1.grownBy w2 v0.ownBlock → (v'.ownBlock = v0.ownBlock ∨ v'.ownBlock = some w1.heap.size) →
        ∃ w3, (Instr.entryStore 113 (.map (some b)) (goInt st) v').run Try.prog w2 = .ok () w3 ∧ UST w3 b (n + 1) (fun p q => U p q ++ if p = x ∧ q = y then [(c0, c1, c2)] else []) nb ∧ w2.grownBy w3 (some b) := by
  obtain ⟨G, h1, h2, h3, h4⟩ := h
  have hlt := h1.lt
  obtain ⟨wa, hwa⟩ : ∃ z, z = w.alloc (.cells #[.int .i64 c0, .int .i64 c1, .int .i64 c2] 118) := ⟨_, rfl⟩
  have hga : w.grownBy wa none := by rw [hwa]; exact World.grownBy_alloc w _ none
  have hsa : wa.heap.size = w.heap.size + 1 := by rw [hwa]; simp
  have hna : wa.heap[w.heap.size]? = some (.cells #[.int .i64 c0, .int .i64 c1, .int .i64 c2] 118 (0, 0)) := by rw [hwa]; exact heap_alloc_new w _
  rw [← hwa]
  have g1 : UMap wa b n G := h1.keep (hga.block _ hlt (by simp))
  obtain ⟨st, w1, hrun, k1, k2, k3⟩ := g1.entry useK hd_ok hn hx hy
  have own0 : ∀ p q g, (G p q).ownBlock = some g → b < g ∧ g < w.heap.size := fun p q g hg => by have := (h2 p q).lt g hg; omega
  have ne0 : ∀ p q, (G p q).ownBlock = none ∨ (G p q).ownBlock ≠ some b := fun p q => by
    cases hg : (G p q).ownBlock with
    | none => exact Or.inl rfl
    | some g => exact Or.inr (fun e => by have := own0 p q g hg; cases e; omega)
  have own1 : ∀ p q, w1.ownsRow (b + 1) 118 3 (G p q) (U p q).length (useC (U p q)) := fun p q => ((h2 p q).kept hga (by cases (G p q).ownBlock <;> simp)).kept k2 (ne0 p q)
  have hs1 := k2.size
  refine ⟨st, w1, G x y, hrun, own1 x y, (k2.block _ (by omega) (by simp; omega)).trans hna, ?_, by omega, fun g hg => h4 g hg x y, fun g hg => by have := own0 x y g hg; omega, fun w2 v' hown hgr hat => ?_⟩
  · refine ⟨k2.os.trans hga.os, k2.tape.trans hga.tape, k2.output.trans hga.output, by omega, fun i hi hne => (k2.block i (by omega) hne).trans (hga.block i hi (by simp))⟩
  have hb2 : w2.heap[b]? = w1.heap[b]? := hgr.block _ (by have := k1.lt; omega) (fun e => by have := own0 x y b e.symm; omega)
  obtain ⟨d, p, hdv⟩ := hd_own hown
  obtain ⟨w3, hrun3, m1, m2⟩ := k3 w2 v' d p hb2 hdv
  have hs2 := hgr.size
  have nev : ∀ g, v'.ownBlock = some g → b < g := fun g hg => by have := (hown.lt g hg).1; omega
  refine ⟨w3, hrun3, ⟨_, m1, fun p q => ?_, fun p q r s hpq => ?_, fun g hg p q => ?_⟩, m2⟩
  · by_cases hs : p = x ∧ q = y
    · obtain ⟨rfl, rfl⟩ := hs
      simp only [and_self, if_true, List.length_append, List.length_singleton]
      refine hown.kept m2 ?_
      cases hg : v'.ownBlock with
      | none => exact Or.inl rfl
      | some g => exact Or.inr (fun e => by have := nev g hg; cases e; omega)
    · simp only [if_neg hs, List.append_nil]
      refine ((own1 p q).kept hgr ?_).kept m2 (ne0 p q)
      exact h3 p q x y hs
  · have new : ∀ a c, (G a c).ownBlock = none ∨ (G a c).ownBlock ≠ some w1.heap.size := fun a c => by
      cases hg : (G a c).ownBlock with
      | none => exact Or.inl rfl
      | some g => exact Or.inr (fun e => by have := own0 a c g hg; cases e; omega)
    by_cases hs : p = x ∧ q = y
    · have hs' : ¬ (r = x ∧ s = y) := fun h => hpq ⟨hs.1.trans h.1.symm, hs.2.trans h.2.symm⟩
      simp only [if_pos hs, if_neg hs']
      rcases hat with h | h
      · rw [h]
        exact h3 x y r s (fun e => hs' ⟨e.1.symm, e.2.symm⟩)
      · rw [h]
        rcases new r s with e | e
        · rw [e]; exact Or.inr (by simp)
        · exact Or.inr (fun k => e k.symm)
    · simp only [if_neg hs]
      by_cases hs' : r = x ∧ s = y
      · simp only [if_pos hs']
        rcases hat with h | h
        · rw [h]; exact h3 p q x y hs
        · rw [h]; exact new p q
      · simp only [if_neg hs']
        exact h3 p q r s hpq
  · by_cases hs : p = x ∧ q = y
    · simp only [if_pos hs]
      rcases hat with h | h
      · rw [h]; exact h4 g hg x y
      · rw [h]
        intro e
        have := hnb g hg
        cases e
        omega
    · simp only [if_neg hs]
      exact h4 g hg p q
set_option maxRecDepth 100000 in
set_option maxHeartbeats 16000000 in
theorem usesOf_any (mp cq : Nat) (sa : Option Addr) (A : Nat → Option Addr) (N C : Nat → Nat) (X Y : Nat → Nat → Int) (w : World) (h12 : mp ≤ 12) (hp : PSl w sa mp A N C X Y) (hN : ∀ j, j < mp → 1 ≤ N j ∧ N j ≤ 1000 ∧ R2 (X j) (Y j) (N j)) :
    Calls Try.prog 75 #[.slice sa mp cq] w fun e w' => ∃ b, e = .returned (.map (some b)) ∧ w.heap.size ≤ b ∧ UST w' b 12000 (usA X Y N mp) none ∧ Below w.heap.size w w' := by
  obtain ⟨i0, hi, hi0, hi1, hi2⟩ := info_parts use_info
  have HI := Lib.hid (And.intro hi (And.intro hi0 (And.intro hi1 hi2)))
  clear hi hi0 hi1 hi2
  have hmm := @run_makeMap Try.prog
  have HP := Lib.hid hp
  have HN := Lib.hid hN
  clear hp hN
  go_enter Try.func75, Try.ntmps75
  go_wp2_with fail
  go_loopg [12] mp (fun gg v12 wr => ∃ k : Nat, v12 = .int .i64 k ∧ k ≤ mp ∧ Hid (mp - k ≤ gg) ∧ Hid (UST wr w.heap.size (k * 1000) (usA X Y N k) none) ∧ Hid (Below w.heap.size w wr) ∧ w.heap.size < wr.heap.size)
  case atStart => exact ⟨0, rfl, by omega, Lib.hid (by omega), Lib.hid (UST.made w), Lib.hid (by go_grown), by simp⟩
  case round =>
    obtain ⟨k, rfl, hk, HG, HU, HB, hz⟩ := hrel
    by_cases hlt : k < mp
    case neg =>
      obtain rfl : mp = k := by omega
      go_wp2_with fail
      refine bodyPost_ret (v := .map (some w.heap.size)) (by simp [results, Try.results75, go_sem, *]) rfl ⟨_, rfl, Nat.le_refl _, HU.out.more (by omega), HB.out⟩
    have HGG : Hid (mp - k ≤ gk) := Lib.hid HG.out
    clear HG
    obtain ⟨bs, os, rfl, hcell⟩ := (HP.out.keep HB.out) (by omega)
    obtain ⟨c0, hxy⟩ := hcell k hlt
    obtain ⟨hN1, hNk, hRk⟩ := HN.out k hlt
    have HXY : Hid (XYs w (A k) (N k) (X k) (Y k)) := Lib.hid (by
      obtain ⟨b', o', _, h'⟩ := HP.out (by omega)
      exact (h' k hlt).2)
    have HRk := Lib.hid hRk
    clear hxy hcell hRk
    obtain ⟨nk, hnk⟩ : ∃ z, N k = z + 1 := ⟨N k - 1, by omega⟩
    obtain ⟨ak, hak⟩ : ∃ z, A k = z := ⟨_, rfl⟩
    obtain ⟨ck, hck⟩ : ∃ z, C k = z := ⟨_, rfl⟩
    rw [hak, hnk, hck] at c0
    rw [hnk] at HRk hNk
    have HNK := Lib.hid hnk
    rw [hak, hnk] at HXY
    obtain ⟨bp, op, hpe, _⟩ := HXY.out (by omega)
    clear hak
    subst hpe
    clear hnk hck hN1
    go_upto_region 6 with fail
    refine wp_region_lit ?_
    refine wpList_step (fun K hK => ?_); go_simp; refine hK _ _ ?_; clear hK K
    refine wpList_step (fun K hK => ?_)
    go_simp
    refine (waysOf_any nk ck (some ⟨bp, op, none⟩) (X k) (Y k) _ (by omega) (HXY.out.keep HB.out) HRk.out).mono ?_
    rintro e w1 ⟨v, rfl, hown, hb⟩
    have HBC := Lib.hid hb
    have hz1 : wr.heap.size ≤ w1.heap.size := hb.size
    have HO1 := Lib.hid hown
    clear hb hown c0
    refine hK _ _ ?_
    clear hK K
    refine wpList_step (fun K hK => ?_); go_simp; refine hK _ _ ?_; clear hK K
    obtain ⟨j0, hj, hj0, hj1, hj2⟩ := info_parts int_info
    have hNB : (w1.alloc (.cells #[.int .i64 (-1)] 3)).heap[w1.heap.size]? = some (.cells #[.int .i64 (-1)] 3 (0, 0)) := heap_alloc_new w1 _
    refine wpList_append_own _ rfl _ _ 34 rfl wr.heap.size 3 j0 _ 1 8 Try.underlying34 hj hj0 hj1 hj2 (by rfl) (by decide) v nk (intC (wyN (X k) (Y k)) nk) (by rfl) (HO1.out.alloc _) ⟨w1.heap.size, 0, none⟩ 1 1 [.int .i64 (-1)] (by rfl) rfl (fun j u hu => World.news_of_block (cs := #[.int .i64 (-1)]) hNB j u hu) (by intro u hu; simp only [List.mem_cons, List.not_mem_nil, or_false] at hu; rcases hu with rfl; rfl) (by unfold maxLen; omega) (by omega) (by simp; omega) ?_
    intro v' w2 hown' hgrow hnil
    clear hj hj0 hj1 hj2
    have hlo : ∀ j, v.ownBlock = some j → wr.heap.size ≤ j := fun j hj => (HO1.out.lt j hj).1
    have HB2w : Below wr.heap.size w1 w2 := ((Below.refl _ _).alloc (by omega) _).grown hgrow (by simp; omega) (fun j hj => hlo j hj)
    obtain ⟨_, ⟨_, hn0⟩ | ⟨gl, cl, cur, rfl, hgl, hgb, _, _, _, hcut⟩⟩ := hown'
    · omega
    have hgl2 : gl < w2.heap.size := (Array.getElem?_eq_some_iff.1 hgb).1
    have HCUR : Hid (∀ i, i < nk + 1 → cur[i]? = some (.int .i64 (wzN (X k) (Y k) (nk + 1) i))) := Lib.hid (fun i hi => by
      rw [← Array.getElem?_toList]
      have h := congrArg (fun l => l[i]?) hcut
      simp only [List.getElem?_take] at h
      rw [if_pos (by omega)] at h
      rw [h]
      by_cases hin : i < nk
      · rw [List.getElem?_append_left (by rw [intC_len]; omega), intC_get _ hin]
        unfold wzN
        rw [if_pos (by omega)]
      · obtain rfl : i = nk := by omega
        rw [List.getElem?_append_right (Nat.le_of_eq (intC_len _ _)), intC_len, Nat.sub_self]
        unfold wzN
        rw [if_neg (by omega)]
        rfl)
    have hbw : Below wr.heap.size wr w2 := HBC.out.trans HB2w
    have HU2 : Hid (UST w2 w.heap.size (k * 1000) (usA X Y N k) (some gl)) := Lib.hid ((HU.out.other hgl).keep hbw)
    have HB2 : Hid (Below w.heap.size w w2) := Lib.hid (HB.out.trans (hbw.mono (by omega)))
    have HGB2 : Hid (w2.heap[gl]? = some (.cells cur 3 (0, 0))) := Lib.hid hgb
    have hwg : w.heap.size < gl := by omega
    clear HO1 HBC HU HB hNB hgrow hnil hlo HB2w hcut hgb hz1 hbw hgl
    refine wpList_step (fun K hK => ?_); go_simp; refine hK _ _ ?_; clear hK K
    refine wpList_step (fun K hK => ?_); go_simp; refine hK _ _ ?_; clear hK K
    refine wpList_nil ?_
    go_wp2_with fail
    obtain ⟨wo, hwo⟩ : ∃ z, z = w2 := ⟨w2, rfl⟩
    subst hwo
    go_loopg [6, 22] (nk + 1) (fun gg v6 v22 wr => ∃ i : Nat, v22 = .int .i64 i ∧ v6 = .int .i64 (qvN (X k) (Y k) (nk + 1) i) ∧ i ≤ nk + 1 ∧ Hid (nk + 1 - i ≤ gg) ∧ Hid (UST wr w.heap.size (k * 1000 + i) (fun x y => usA X Y N k x y ++ usP (X k) (Y k) (nk + 1) k i x y) (some gl)) ∧ Hid (Below w.heap.size w wr) ∧ Hid (wr.heap[gl]? = some (.cells cur 3 (0, 0))) ∧ gl < wr.heap.size)
    case atStart => exact ⟨0, rfl, rfl, by omega, Lib.hid (Nat.le_refl _), Lib.hid (by simpa [usP] using HU2.out), HB2, HGB2, hgl2⟩
    case round =>
      obtain ⟨i, rfl, rfl, hi, HG, HU, HB, HGB, hzz⟩ := hrel
      clear HU2 HB2 HGB2 hgl2
      by_cases hli : i < nk + 1
      case neg =>
        obtain rfl : i = nk + 1 := by omega
        go_wp2_with fail
        go_roundg (mp - (k + 1))
        case measure => have := HGG.out; omega
        case rel =>
          refine ⟨k + 1, by go_num, by omega, Lib.hid (Nat.le_refl _), Lib.hid ?_, HB, by omega⟩
          have h := HU.out.more (m := (k + 1) * 1000) (by omega)
          obtain ⟨G, g1, g2, g3, _⟩ := h
          refine ⟨G, g1, fun x y => ?_, g3, fun _ h => by cases h⟩
          have := g2 x y
          simp only [usA]
          rw [HNK.out]
          exact this
      have HGI : Hid (nk + 1 - i ≤ gk) := Lib.hid HG.out
      clear HG
      obtain ⟨bp', op', hpe, hcell⟩ := (HXY.out.keep HB.out) (by omega)
      cases hpe
      obtain ⟨x0, x1⟩ := hcell i hli
      obtain ⟨⟨r0, r1⟩, r2, r3⟩ := HRk.out i hli
      have HXYk := Lib.hid (And.intro r0 (And.intro r1 (And.intro r2 r3)))
      obtain ⟨xi, hxi⟩ : ∃ z, X k i = z := ⟨_, rfl⟩
      obtain ⟨yi, hyi⟩ : ∃ z, Y k i = z := ⟨_, rfl⟩
      obtain ⟨oi, hoi⟩ : ∃ z, wzN (X k) (Y k) (nk + 1) i = z := ⟨_, rfl⟩
      obtain ⟨pi, hpi⟩ : ∃ z, pvN (X k) (Y k) i = z := ⟨_, rfl⟩
      have l0 : wr.cell? ⟨gl, i, none⟩ = some (.int .i64 oi) := cell_of_blk HGB.out (by rw [HCUR.out i hli, hoi])
      rw [hxi, hyi] at HXYk
      rw [hxi] at x0
      rw [hyi] at x1
      rw [qv_pv hli, hpi]
      have HE := Lib.hid (And.intro hxi (And.intro hyi (And.intro hoi hpi)))
      clear hcell r0 r1 r2 r3 hxi hyi hoi hpi
      go_upto_region 9 with fail
      refine wp_region_lit ?_
      refine wpList_step (fun K hK => ?_); go_simp; refine hK _ _ ?_; clear hK K
      refine wpList_step (fun K hK => ?_); go_simp; refine hK _ _ ?_; clear hK K
      refine wpList_step (fun K hK => ?_); go_simp; refine hK _ _ ?_; clear hK K
      refine wpList_step (fun K hK => ?_); go_simp; refine hK _ _ ?_; clear hK K
      refine wpList_step (fun K hK => ?_); go_simp; refine hK _ _ ?_; clear hK K
      refine wpList_step (fun K hK => ?_); go_simp; refine hK _ _ ?_; clear hK K
      refine wpList_step (fun K hK => ?_); go_simp; refine hK _ _ ?_; clear hK K
      refine wpList_step (fun K hK => ?_); go_simp; refine hK _ _ ?_; clear hK K
      refine wpList_step (fun K hK => ?_); go_simp; refine hK _ _ ?_; clear hK K
      refine wpList_step (fun K hK => ?_); go_simp; refine hK _ _ ?_; clear hK K
      obtain ⟨wx1, wx2⟩ := HXYk.out
      obtain ⟨st, w1, v0, hrun, hown0, hnew, hgr1, hsz1, hnl, hnn, hstore⟩ := HU.out.entry (by unfold maxLen; omega) (fun g hg => by cases hg; exact hzz) (wf7 (x := xi) wx1 wx2.1) (wf7 (x := yi) wx2.2.1 wx2.2.2) k pi oi
      have HLE : Hid ((usA X Y N k xi yi ++ usP (X k) (Y k) (nk + 1) k i xi yi).length ≤ 12000) := Lib.hid (by
        have h1 := usA_len X Y N xi yi (m := 1000) k (fun j hj => (HN.out j (by omega)).2.1)
        have h2 := usP_len (X k) (Y k) (nk + 1) k xi yi i
        rw [List.length_append]
        omega)
      have HST := Lib.hid hstore
      have HO0 := Lib.hid hown0
      have HNW := Lib.hid hnew
      clear hstore hown0 hnew
      refine wpList_step (fun K hK => ?_); go_simp; refine hK _ _ ?_; clear hK K
      refine wpList_step (fun K hK => ?_); go_simp; refine hK _ _ ?_; clear hK K
      refine wpList_append_own_at _ rfl _ _ 115 rfl (w.heap.size + 1) 118 i0 _ 3 24 Try.underlying115 HI.out.1 HI.out.2.1 HI.out.2.2.1 HI.out.2.2.2 (by rfl) (by decide) v0 _ _ (by rfl) HO0.out ⟨wr.heap.size, 0, none⟩ 1 1 [.int .i64 k, .int .i64 pi, .int .i64 oi] (by rfl) rfl (fun j u hu => World.news_of_block (cs := #[.int .i64 k, .int .i64 pi, .int .i64 oi]) HNW.out j u hu) (by intro u hu; simp only [List.mem_cons, List.not_mem_nil, or_false] at hu; rcases hu with rfl | rfl | rfl <;> rfl) ?_ ?_ (by omega) ?_
      · have := HLE.out; unfold maxLen; omega
      · have := HLE.out; omega
      intro v' w3 hown' hgr2 hnil hat
      obtain ⟨w4, hrun4, hU4, hgr4⟩ := HST.out w3 v' (by rw [useC_snoc]; exact hown') hgr2 hat
      simp only [goInt] at hrun4
      have hv0 : ∀ j, v0.ownBlock = some j → w.heap.size + 1 ≤ j := fun j hj => (HO0.out.lt j hj).1
      have hz1 := hgr1.size
      have hz2 := hgr2.size
      have hz4 := hgr4.size
      have HB4 : Hid (Below w.heap.size w w4) := Lib.hid (((HB.out.grown hgr1 (by omega) (fun j hj => by cases hj; omega)).grown hgr2 (by omega) (fun j hj => by have := hv0 j hj; omega)).grown hgr4 (by omega) (fun j hj => by cases hj; omega))
      have HGB4 : Hid (w4.heap[gl]? = some (.cells cur 3 (0, 0))) := Lib.hid ((hgr4.block _ (by omega) (by simp; omega)).trans ((hgr2.block _ (by omega) (fun e => hnl gl rfl e.symm)).trans ((hgr1.block _ hzz (by simp; omega)).trans HGB.out)))
      have HU4 := Lib.hid hU4
      clear hU4 hgr1 hgr2 hgr4 hv0 hnil hat hown' HO0 HST HNW hrun HU HB HGB hnl hnn HLE
      refine wpList_step (fun K hK => ?_); go_simp; refine hK _ _ ?_; clear hK K
      refine wpList_step (fun K hK => ?_); go_simp; refine hK _ _ ?_; clear hK K
      refine wpList_nil ?_
      go_wp2_with fail
      go_roundg (nk + 1 - (i + 1))
      case measure => have := HGI.out; omega
      case rel =>
        obtain ⟨e1, e2, e3, e4⟩ := HE.out
        refine ⟨i + 1, by go_num, ?_, by omega, Lib.hid (Nat.le_refl _), Lib.hid ?_, HB4, HGB4, by omega⟩
        · rw [← e3]; rfl
        · have h := HU4.out
          simp only [usP, e1, e2, e3, e4, List.append_assoc] at h ⊢
          exact h
end Go.Proofs.Ytkkcnhhfdicppaa
