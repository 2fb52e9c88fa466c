import Derived.Test.YtfilofnkiocbeaaWy8
namespace Ben
theorem out_shift (s : Nat → Bool) (b : Nat) : ∀ (k a i : Nat), out (fun j => s (b + j)) k a i = out s k (b + a) i
  | 0, a, i => rfl
  | k + 1, a, i => by
    simp only [out]
    rw [out_shift s b k]
    simp only [Nat.add_assoc]
/-- Settings that are put together from those of the first switches, of the last ones and of both halves. -/
def jn (h c : Nat) (ff fl su sl : Nat → Bool) : Nat → Bool := fun j => if j < h then ff j else if j < 2 * h then fl (j - h) else if j < 2 * h + c then su (j - 2 * h) else sl (j - (2 * h + c))
end Ben
namespace Go.Proofs.Ytfilofnkiocbeaa
open Go.RowKit Go.Shelf Ben Prm
attribute [local go_sem] Oper.semAt_some
theorem jn_cells (h c : Nat) (ff fl su sl : Nat → Bool) : ((cellsB ff h ++ cellsB fl h) ++ cellsB su c) ++ cellsB sl c = cellsB (jn h c ff fl su sl) (h + h + c + c) := by
  rw [cellsB_add, cellsB_add, cellsB_add]
  have e1 : cellsB ff h = cellsB (jn h c ff fl su sl) h := cellsB_congr fun i hi => by unfold jn; rw [if_pos hi]
  have e2 : cellsB fl h = cellsB (fun j => jn h c ff fl su sl (h + j)) h := cellsB_congr fun i hi => by unfold jn; rw [if_neg (by omega), if_pos (by omega)]; congr 1; omega
  have e3 : cellsB su c = cellsB (fun j => jn h c ff fl su sl (h + h + j)) c := cellsB_congr fun i hi => by unfold jn; rw [if_neg (by omega), if_neg (by omega), if_pos (by omega)]; congr 1; omega
  have e4 : cellsB sl c = cellsB (fun j => jn h c ff fl su sl (h + h + c + j)) c := cellsB_congr fun i hi => by unfold jn; rw [if_neg (by omega), if_neg (by omega), if_neg (by omega)]; congr 1; omega
  rw [← e1, ← e2, ← e3, ← e4]
theorem jn_out {k h c : Nat} {p q : Nat → Nat} {σ ff fl su sl : Nat → Bool} (hh : sz k = h) (hc : cn k = c) (P : Pm (2 * h) p q) (G : Ben.Good h q σ) (e1 : ∀ j, j < h → ff j = σ (2 * j)) (e2 : ∀ j, j < h → fl j = σ (q (2 * j)))
    (e3 : ∀ i, i < h → out su k 0 i = upS p σ i) (e4 : ∀ i, i < h → out sl k 0 i = loS p σ i) {x : Nat} (hx : x < 2 * h) : out (jn h c ff fl su sl) (k + 1) 0 x = p x := by
  subst hh hc
  have hz : sz (k + 1) = 2 * sz k := rfl
  refine join_out P G (fun j hj => ?_) (fun j hj => ?_) (fun i hi => ?_) (fun i hi => ?_) hx
  · rw [Nat.zero_add]; unfold jn; rw [if_pos hj]; exact e1 j hj
  · rw [Nat.zero_add]; unfold jn; rw [if_neg (by omega), if_pos (by omega), show sz k + j - sz k = j by omega]; exact e2 j hj
  · rw [← e3 i hi, Nat.zero_add, show sz (k + 1) = sz (k + 1) + 0 from rfl, ← out_shift]
    refine (out_congr k 0 i hi fun j _ hj => ?_).1
    unfold jn
    rw [if_neg (by omega), if_neg (by omega), if_pos (by omega)]
    congr 1; omega
  · rw [← e4 i hi, Nat.zero_add, show sz (k + 1) + cn k = (sz (k + 1) + cn k) + 0 from rfl, ← out_shift]
    refine (out_congr k 0 i hi fun j _ hj => ?_).1
    unfold jn
    rw [if_neg (by omega), if_neg (by omega), if_neg (by omega)]
    congr 1; omega
theorem jn_ag {h c : Nat} {f : Nat → Int} {ff fl su sl : Nat → Bool} (e1 : agB ff f h = true) (e2 : agB fl (fun j => f (h + j)) h = true) (e3 : agB su (fun j => f (2 * h + j)) c = true) (e4 : agB sl (fun j => f (2 * h + c + j)) c = true) :
    agB (jn h c ff fl su sl) f (h + h + c + c) = true := by
  rw [agB_iff] at e1 e2 e3 e4 ⊢
  intro j hj
  unfold jn
  by_cases h1 : j < h
  · rw [if_pos h1]; exact e1 j h1
  · rw [if_neg h1]
    by_cases h2 : j < 2 * h
    · rw [if_pos h2]
      have := e2 (j - h) (by omega)
      rwa [show h + (j - h) = j by omega] at this
    · rw [if_neg h2]
      by_cases h3 : j < 2 * h + c
      · rw [if_pos h3]
        have := e3 (j - 2 * h) (by omega)
        rwa [show 2 * h + (j - 2 * h) = j by omega] at this
      · rw [if_neg h3]
        have := e4 (j - (2 * h + c)) (by omega)
        rwa [show 2 * h + c + (j - (2 * h + c)) = j by omega] at this
/-- What around gives: settings that make the permutation and agree with the stuck switches, exactly if there are ways. -/
def AroR (k M N : Nat) (p : Nat → Nat) (f : Nat → Int) (w' : World) (e : Ending) : Prop := ∃ (ao : Option Addr) (n cap : Nat) (ok : Bool), e = .returned (.tuple #[.slice ao n cap, .bool ok]) ∧ ok = decide (0 < wN k p f) ∧
  (ok = true → ∃ (g : Nat) (s : Nat → Bool), ao = some ⟨g, 0, none⟩ ∧ M = n ∧ M ≤ cap ∧ cap ≤ 9223372036854775807 ∧ Bl w' g 0 M s ∧ (∀ x, x < N → out s k 0 x = p x) ∧ agB s f M = true)
def AroQ (k : Nat) : Prop := ∀ (cap dap : Nat) (ao bo : Option Addr) (p q : Nat → Nat) (f : Nat → Int) (w : World), cn k ≤ dap → dap ≤ 9223372036854775807 → Pm (sz k) p q → Ints w ao (sz k) (fun j => ((p j : Nat) : Int)) → Ints w bo (cn k) f →
    Calls Try.prog 59 #[.slice ao (sz k) cap, .slice bo (cn k) dap] w fun e w' => AroR k (cn k) (sz k) p f w' e ∧ Below w.heap.size w w'
set_option maxRecDepth 100000 in
set_option maxHeartbeats 4000000 in
theorem aroQ_zero : AroQ 0 := by
  intro cap dap ao bo p q f w _ _ P hc hd
  obtain ⟨b, o, rfl, hcell⟩ := hc (by decide)
  have HD := Lib.hid hd
  have HP := Lib.hid P
  have HX := Lib.hid (wN_zero p f)
  have hbl : Below w.heap.size w (((w.alloc (.cells #[.slice none 0 0] 27)).alloc (.cells #[.bool false] 4)).alloc (.cells #[.bool (((p 0 : Nat) : Int) == 1)] 4)) := by go_grown
  have HC0 : ∀ i, i < 2 → (((w.alloc (.cells #[.slice none 0 0] 27)).alloc (.cells #[.bool false] 4))).cell? ⟨b, o + i, none⟩ = some (.int .i64 ((fun j => ((p j : Nat) : Int)) i)) := fun i hi => by
    have h := hcell i hi
    have hlt := World.block_lt_of_cell? w _ h
    go_cell
  have HCC := Lib.hid HC0
  have hco : Bools (((w.alloc (.cells #[.slice none 0 0] 27)).alloc (.cells #[.bool false] 4)).alloc (.cells #[.bool (((p 0 : Nat) : Int) == 1)] 4)) (some ⟨w.heap.size + 1 + 1, 0, none⟩) 1 (fun _ => (((p 0 : Nat) : Int) == 1)) := by
    intro _
    refine ⟨_, _, rfl, fun i hi => ?_⟩
    obtain rfl : i = 0 := by omega
    go_cell
  have HB := Lib.hid hbl
  have HCo := Lib.hid hco
  clear hc hd hbl hco hcell HC0 P
  show Calls Try.prog 59 #[.slice (some ⟨b, o, none⟩) 2 cap, .slice bo 1 dap] w _
  go_enter Try.func59, Try.ntmps59
  go_wp2_with fail
  refine (only_any 2 cap b o (fun j => ((p j : Nat) : Int)) _ (by decide) HCC.out).mono ?_
  rintro e w' ⟨rfl, rfl⟩
  go_wp2_with fail
  refine (agree_any 1 1 1 dap _ bo _ f _ (by decide) (by decide) (by decide) HCo.out (HD.out.keep HB.out)).mono ?_
  rintro e w' ⟨rfl, rfl⟩
  obtain ⟨t, ht⟩ : ∃ t, agB (fun _ => (((p 0 : Nat) : Int) == 1)) f 1 = t := ⟨_, rfl⟩
  rw [ht]
  have HT := Lib.hid ht
  have HCell : Hid (∀ j, j < 1 → (((w.alloc (.cells #[.slice none 0 0] 27)).alloc (.cells #[.bool false] 4)).alloc (.cells #[.bool (((p 0 : Nat) : Int) == 1)] 4)).cell? ⟨w.heap.size + 1 + 1, 0 + j, none⟩ = some (.bool (((p 0 : Nat) : Int) == 1))) := Lib.hid (fun j hj => by
    obtain rfl : j = 0 := by omega
    go_cell)
  clear ht
  go_wp2_with fail
  refine bodyPost_ret (v := .tuple #[.slice (some ⟨w.heap.size + 1 + 1, 0, none⟩) 1 1, .bool t]) (by simp [results, Try.results59, go_sem, *]) rfl ⟨⟨_, 1, 1, t, rfl, ?_, fun hok => ⟨w.heap.size + 1 + 1, fun _ => (((p 0 : Nat) : Int) == 1), rfl, rfl, Nat.le_refl _, by decide, ?_, fun x hx => ?_, ?_⟩⟩, ?_⟩
  · rw [HX.out, HT.out]
    cases t <;> rfl
  · intro j hj
    have hj1 : j < 1 := hj
    obtain rfl : j = 0 := by omega
    go_cell
  · have hx2 : x < 2 := hx
    have h0 := HP.out.lp 0 (by decide)
    have h1 := HP.out.lp 1 (by decide)
    have hne : p 0 ≠ p 1 := fun e => by
      have a := HP.out.qp 0 (by decide)
      have b := HP.out.qp 1 (by decide)
      rw [e, b] at a
      cases a
    have hs : sz 0 = 2 := rfl
    rw [hs] at h0 h1
    show fl (((p 0 : Nat) : Int) == 1) x = p x
    unfold fl
    by_cases e : p 0 = 1
    · rw [e]
      have e2 : x = 0 ∨ x = 1 := by omega
      rcases e2 with rfl | rfl
      · simp [e]
      · simp; omega
    · have e1 : (((p 0 : Nat) : Int) == 1) = false := beq_eq_false_iff_ne.2 (by omega)
      rw [e1]
      have e2 : x = 0 ∨ x = 1 := by omega
      rcases e2 with rfl | rfl <;> simp <;> omega
  · rw [hok] at HT; exact HT.out
  · go_grown
theorem keepsFrom_of2 {lo : Nat} {A B C : World} (hb : Below A.heap.size A B) {a a' : Addr} {v v' : Value} (hC : C = (B.setCell a v).setCell a' v') (ha : a.block < lo) (ha' : a'.block < lo) : KeepsFrom lo A C := by
  subst hC
  refine ⟨by rw [World.size_setCell, World.size_setCell]; exact hb.size, fun b h1 h2 => ?_⟩
  rw [Below.heap_setCell _ a' v' b (by omega), Below.heap_setCell B a v b (by omega)]
  exact hb.block b h2
theorem Bow.put' {w : World} {g n : Nat} {f : Nat → Bool} (h : Bow w g n f) {l : Nat} {x x' : Obj} (hl : w.heap[l]? = some x) (hx : x.isCells = false) : Bow (w.putObj l x') g n f := fun i hi => by
  have hr : ∀ r, some l = some r → ∃ y : Obj, w.heap[r]? = some y ∧ y.isCells = false := fun r e => by cases e; exact ⟨x, hl, hx⟩
  obtain ⟨a, b⟩ := h i hi
  exact ⟨cell_kept a (grownBy_putObj' w l x') hr, (frozen_kept a (grownBy_putObj' w l x') hr).trans b⟩
/-- What around keeps between two choices. -/
structure ArI (k c h N cap dap g o T R : Nat) (ao : Option Addr) (p q : Nat → Nat) (f : Nat → Int) (w : World) (x : Plan) (m : Nat) (A : World) : Prop where
  r0 : A.cell? ⟨R, 0, none⟩ = some (.slice none 0 0)
  z0 : A.frozen? ⟨R, 0, none⟩ = false
  r1 : A.cell? ⟨R + 1, 0, none⟩ = some (.bool false)
  z1 : A.frozen? ⟨R + 1, 0, none⟩ = false
  t : su (fun m => wS k p q f (sdN x.id x.par m)) m = 0
  p2 : A.cell? ⟨T, 2, none⟩ = some (.slice (some ⟨g, o + N, none⟩) c (dap - N))
  p3 : A.cell? ⟨T, 3, none⟩ = some (.slice (some ⟨g, o + (N + c), none⟩) c (dap - N - c))
  b0 : A.cell? ⟨T + 1, 0, none⟩ = some (.slice ao (2 * h) cap)
  s0 : A.cell? ⟨T + 1 + 1, 0, none⟩ = some (.slice (some ⟨g, o, none⟩) h dap)
  s1 : A.cell? ⟨T + 1 + 1, 1, none⟩ = some (.slice (some ⟨g, o + h, none⟩) h (dap - h))
  s2 : A.cell? ⟨T + 1 + 1, 2, none⟩ = some (.slice (some ⟨g, o + N, none⟩) c (dap - N))
  s3 : A.cell? ⟨T + 1 + 1, 3, none⟩ = some (.slice (some ⟨g, o + (N + c), none⟩) c (dap - N - c))
  b : Below w.heap.size w A
theorem ArI.keep {k c h N cap dap g o T R : Nat} {ao : Option Addr} {p q : Nat → Nat} {f : Nat → Int} {w A B : World} {x : Plan} {m : Nat} (H : ArI k c h N cap dap g o T R ao p q f w x m A) (hb : Below A.heap.size A B) : ArI k c h N cap dap g o T R ao p q f w x m B := by
  have e := (bcl hb).1
  exact ⟨(e _ _ (World.block_lt_of_cell? A _ H.r0)).trans H.r0, ((bcl hb).2 _ _ (World.block_lt_of_cell? A _ H.r0)).trans H.z0, (e _ _ (World.block_lt_of_cell? A _ H.r1)).trans H.r1, ((bcl hb).2 _ _ (World.block_lt_of_cell? A _ H.r1)).trans H.z1, H.t, (e _ _ (World.block_lt_of_cell? A _ H.p2)).trans H.p2, (e _ _ (World.block_lt_of_cell? A _ H.p3)).trans H.p3, (e _ _ (World.block_lt_of_cell? A _ H.b0)).trans H.b0,
    (e _ _ (World.block_lt_of_cell? A _ H.s0)).trans H.s0, (e _ _ (World.block_lt_of_cell? A _ H.s1)).trans H.s1, (e _ _ (World.block_lt_of_cell? A _ H.s2)).trans H.s2, (e _ _ (World.block_lt_of_cell? A _ H.s3)).trans H.s3, H.b.trans (hb.mono H.b.size)⟩
theorem ArI.put {k c h N cap dap g o T R : Nat} {ao : Option Addr} {p q : Nat → Nat} {f : Nat → Int} {w A : World} {x : Plan} {m : Nat} (H : ArI k c h N cap dap g o T R ao p q f w x m A) {l : Nat} {y y' : Obj} (hl : A.heap[l]? = some y) (hy : y.isCells = false) (hw : w.heap.size ≤ l) : ArI k c h N cap dap g o T R ao p q f w x m (A.putObj l y') := by
  have hr : ∀ r, some l = some r → ∃ y : Obj, A.heap[r]? = some y ∧ y.isCells = false := fun r e => by cases e; exact ⟨y, hl, hy⟩
  have e : ∀ {a : Addr} {v : Value}, A.cell? a = some v → (A.putObj l y').cell? a = some v := fun h => cell_kept h (grownBy_putObj' A l y') hr
  exact ⟨e H.r0, (frozen_kept H.r0 (grownBy_putObj' A l y') hr).trans H.z0, e H.r1, (frozen_kept H.r1 (grownBy_putObj' A l y') hr).trans H.z1, H.t, e H.p2, e H.p3, e H.b0, e H.s0, e H.s1, e H.s2, e H.s3, H.b.grown (grownBy_putObj' A l y') H.b.size (fun k e => by cases e; omega)⟩
theorem ArI.zero {k c h N cap dap g o T R : Nat} {ao : Option Addr} {p q : Nat → Nat} {f : Nat → Int} {w A : World} {x y : Plan} (H : ArI k c h N cap dap g o T R ao p q f w x 0 A) : ArI k c h N cap dap g o T R ao p q f w y 0 A := ⟨H.r0, H.z0, H.r1, H.z1, rfl, H.p2, H.p3, H.b0, H.s0, H.s1, H.s2, H.s3, H.b⟩
theorem ArI.kp {k c h N M cap dap g o T R : Nat} {ao : Option Addr} {p q : Nat → Nat} {f : Nat → Int} {w A : World} {x : Plan} {m : Nat} (H : ArI k c h N cap dap g o T R ao p q f w x m A) (hc : Ints w ao (2 * h) (fun j => ((p j : Nat) : Int))) (hd : Ints w (some ⟨g, o, none⟩) M f) (hM : 2 * h ≤ M) :
    KpC h cap dap (dap - h) (T + 1) (T + 1 + 1) ao (some ⟨g, o, none⟩) (some ⟨g, o + h, none⟩) (.slice (some ⟨g, o + N, none⟩) c (dap - N)) (.slice (some ⟨g, o + (N + c), none⟩) c (dap - N - c)) p f A :=
  ⟨H.b0, H.s0, H.s1, H.s2, H.s3, hc.keep H.b, (hd.le (by omega)).keep H.b, (hd.sub (a := h) (m := h) (by omega)).keep H.b⟩
/-- What around has when it returns out of a choice. -/
def ArE (k M N R : Nat) (p : Nat → Nat) (f : Nat → Int) (w A : World) : Prop := ∃ (g cap : Nat) (s : Nat → Bool), A.cell? ⟨R, 0, none⟩ = some (.slice (some ⟨g, 0, none⟩) M cap) ∧ A.cell? ⟨R + 1, 0, none⟩ = some (.bool true) ∧ 0 < wN k p f ∧ M ≤ cap ∧ cap ≤ 9223372036854775807 ∧ Bl A g 0 M s ∧ (∀ x, x < N → out s k 0 x = p x) ∧ agB s f M = true ∧ Below w.heap.size w A
theorem ArE.keep {k M N R : Nat} {p : Nat → Nat} {f : Nat → Int} {w A B : World} (H : ArE k M N R p f w A) (hb : Below A.heap.size A B) : ArE k M N R p f w B := by
  obtain ⟨g, cap, s, a, b, c, d, e, i, j, l, m⟩ := H
  exact ⟨g, cap, s, ((bcl hb).1 _ _ (World.block_lt_of_cell? A _ a)).trans a, ((bcl hb).1 _ _ (World.block_lt_of_cell? A _ b)).trans b, c, d, e, i.keep hb, j, l, m.trans (hb.mono m.size)⟩
theorem ArE.put {k M N R : Nat} {p : Nat → Nat} {f : Nat → Int} {w A : World} (H : ArE k M N R p f w A) {l : Nat} {y y' : Obj} (hl : A.heap[l]? = some y) (hy : y.isCells = false) (hw : w.heap.size ≤ l) : ArE k M N R p f w (A.putObj l y') := by
  have hr : ∀ r, some l = some r → ∃ y : Obj, A.heap[r]? = some y ∧ y.isCells = false := fun r e => by cases e; exact ⟨y, hl, hy⟩
  have e : ∀ {a : Addr} {v : Value}, A.cell? a = some v → (A.putObj l y').cell? a = some v := fun h => cell_kept h (grownBy_putObj' A l y') hr
  obtain ⟨g, cap, s, a, b, c, d, e', i, j, l', m⟩ := H
  exact ⟨g, cap, s, e a, e b, c, d, e', fun j hj => e (i j hj), j, l', m.grown (grownBy_putObj' A l y') m.size (fun k e => by cases e; omega)⟩
set_option maxRecDepth 100000 in
set_option maxHeartbeats 8000000 in
theorem aroQ_succ (k : Nat) (hk : k ≤ 2) (HW : AroQ k) : AroQ (k + 1) := by
  intro cap dap ao bo p q f w hd1 hd2 hp hc hd
  obtain ⟨N, hN⟩ : ∃ N, sz (k + 1) = N := ⟨_, rfl⟩
  obtain ⟨M, hM⟩ : ∃ M, cn (k + 1) = M := ⟨_, rfl⟩
  obtain ⟨h, hh⟩ : ∃ h, sz k = h := ⟨_, rfl⟩
  obtain ⟨c, hcn⟩ : ∃ c, cn k = c := ⟨_, rfl⟩
  have hN2 : N = 2 * h := by rw [← hN, ← hh]; rfl
  have hM2 : M = N + 2 * c := by rw [← hM, ← hN, ← hcn]; rfl
  have hb : 2 ≤ h ∧ h ≤ 8 ∧ 1 ≤ c ∧ c ≤ 20 := by
    have : k = 0 ∨ k = 1 ∨ k = 2 := by omega
    rcases this with rfl | rfl | rfl <;> (simp [sz] at hh; simp [cn, sz] at hcn; omega)
  rw [hN] at hp hc
  rw [hM] at hd1 hd
  rw [hN, hM]
  have hP2 : Pm (2 * h) p q := by rw [← hN2]; exact hp
  obtain ⟨g, o, hbo, _⟩ := hd (by omega)
  subst hbo
  have HE := Lib.hid (And.intro hN (And.intro hM (And.intro hh (And.intro hcn (And.intro hN2 (And.intro hM2 (And.intro hb (And.intro hd1 hd2))))))))
  have HP := Lib.hid hP2
  have HC := Lib.hid hc
  have HD := Lib.hid hd
  have n2 : ((N : Int) == 2) = false := beq_eq_false_iff_ne.2 (by omega)
  clear hN hM hh hcn hN2 hM2 hb hp hP2 hc hd hd1 hd2
  refine (callsIn_wide (n := 8)).1 ?_
  refine callsIn_of_wp_marks Try.func59 rfl trivial ?_ rfl
  simp only [Try.ntmps59, List.size_toArray, List.length_cons, List.length_nil, Nat.reduceAdd, Nat.reduceSub, Array.replicate_succ, Array.replicate_zero, List.push_toArray, List.append_toArray, List.nil_append, List.cons_append]
  gi_wp2_with fail
  refine ⟨trivial, (callsIn_wide.2 (part_to k N M h c g o dap _ hk HE.out.1 HE.out.2.1 HE.out.2.2.1 HE.out.2.2.2.1 HE.out.2.2.2.2.2.2.2.1 HE.out.2.2.2.2.2.2.2.2)).mono ?_⟩
  rintro e w1 ⟨rfl, hb⟩
  have hsw := hb.size
  simp only [World.size_alloc] at hsw
  have D1 : Hid (Below w.heap.size w w1) := Lib.hid ((((Below.refl _ w).alloc (Nat.le_refl _) _).alloc (by simp) _).trans (hb.mono (by simp; omega)))
  have q0 : w1.cell? ⟨w.heap.size, 0, none⟩ = some (.slice none 0 0) := ((bcl hb).1 _ _ (by first | (simp; done) | (simp; omega))).trans (by go_cell)
  have q1 : w1.frozen? ⟨w.heap.size, 0, none⟩ = false := ((bcl hb).2 _ _ (by first | (simp; done) | (simp; omega))).trans (by go_cell)
  have q2 : w1.cell? ⟨w.heap.size + 1, 0, none⟩ = some (.bool false) := ((bcl hb).1 _ _ (by first | (simp; done) | (simp; omega))).trans (by go_cell)
  have q3 : w1.frozen? ⟨w.heap.size + 1, 0, none⟩ = false := ((bcl hb).2 _ _ (by first | (simp; done) | (simp; omega))).trans (by go_cell)
  clear hb
  gi_wp2_with fail
  refine ⟨trivial, (choices_in _ N cap ao _ _ _ _ _).mono ?_⟩
  rintro e w2 ⟨rfl, rfl⟩
  gi_wp2_with fail
  have hl0 : w.heap.size < w1.heap.size := by omega
  have hl1 : w.heap.size + 1 < w1.heap.size := by omega
  have HBW : Hid (Below w.heap.size w (((w1.alloc (.cells #[.slice (some ⟨g, o, none⟩) h dap, .slice (some ⟨g, o + h, none⟩) h (dap - h), .slice (some ⟨g, o + N, none⟩) c (dap - N), .slice (some ⟨g, o + (N + c), none⟩) c (dap - N - c)] 74)).alloc (.cells #[.slice ao N cap] 28)).alloc (.cells #[.slice (some ⟨g, o, none⟩) h dap, .slice (some ⟨g, o + h, none⟩) h (dap - h), .slice (some ⟨g, o + N, none⟩) c (dap - N), .slice (some ⟨g, o + (N + c), none⟩) c (dap - N - c)] 74))) := Lib.hid (((D1.out.alloc (by omega) _).alloc (by simp; omega) _).alloc (by simp; omega) _)
  have hch : Below w1.heap.size w1 (((w1.alloc (.cells #[.slice (some ⟨g, o, none⟩) h dap, .slice (some ⟨g, o + h, none⟩) h (dap - h), .slice (some ⟨g, o + N, none⟩) c (dap - N), .slice (some ⟨g, o + (N + c), none⟩) c (dap - N - c)] 74)).alloc (.cells #[.slice ao N cap] 28)).alloc (.cells #[.slice (some ⟨g, o, none⟩) h dap, .slice (some ⟨g, o + h, none⟩) h (dap - h), .slice (some ⟨g, o + N, none⟩) c (dap - N), .slice (some ⟨g, o + (N + c), none⟩) c (dap - N - c)] 74)) := ((((Below.refl _ w1).alloc (Nat.le_refl _) _).alloc (by simp) _).alloc (by simp; omega) _)
  have HI0 : Hid (∀ x, ArI k c h N cap dap g o w1.heap.size w.heap.size ao p q f w x 0 (((w1.alloc (.cells #[.slice (some ⟨g, o, none⟩) h dap, .slice (some ⟨g, o + h, none⟩) h (dap - h), .slice (some ⟨g, o + N, none⟩) c (dap - N), .slice (some ⟨g, o + (N + c), none⟩) c (dap - N - c)] 74)).alloc (.cells #[.slice ao N cap] 28)).alloc (.cells #[.slice (some ⟨g, o, none⟩) h dap, .slice (some ⟨g, o + h, none⟩) h (dap - h), .slice (some ⟨g, o + N, none⟩) c (dap - N), .slice (some ⟨g, o + (N + c), none⟩) c (dap - N - c)] 74))) := Lib.hid (fun x => ⟨(hch.cell (p := ⟨w.heap.size, 0, none⟩) hl0).trans q0, (hch.frozen (p := ⟨w.heap.size, 0, none⟩) hl0).trans q1, (hch.cell (p := ⟨w.heap.size + 1, 0, none⟩) hl1).trans q2, (hch.frozen (p := ⟨w.heap.size + 1, 0, none⟩) hl1).trans q3, rfl, by go_cell, by go_cell, by rw [← HE.out.2.2.2.2.1]; go_cell, by go_cell, by go_cell, by go_cell, by go_cell, HBW.out⟩)
  have hsz2 : w1.heap.size + 3 = (((w1.alloc (.cells #[.slice (some ⟨g, o, none⟩) h dap, .slice (some ⟨g, o + h, none⟩) h (dap - h), .slice (some ⟨g, o + N, none⟩) c (dap - N), .slice (some ⟨g, o + (N + c), none⟩) c (dap - N - c)] 74)).alloc (.cells #[.slice ao N cap] 28)).alloc (.cells #[.slice (some ⟨g, o, none⟩) h dap, .slice (some ⟨g, o + h, none⟩) h (dap - h), .slice (some ⟨g, o + N, none⟩) c (dap - N), .slice (some ⟨g, o + (N + c), none⟩) c (dap - N - c)] 74)).heap.size := by simp
  obtain ⟨W2, hW2⟩ : ∃ W2, W2 = (((w1.alloc (.cells #[.slice (some ⟨g, o, none⟩) h dap, .slice (some ⟨g, o + h, none⟩) h (dap - h), .slice (some ⟨g, o + N, none⟩) c (dap - N), .slice (some ⟨g, o + (N + c), none⟩) c (dap - N - c)] 74)).alloc (.cells #[.slice ao N cap] 28)).alloc (.cells #[.slice (some ⟨g, o, none⟩) h dap, .slice (some ⟨g, o + h, none⟩) h (dap - h), .slice (some ⟨g, o + N, none⟩) c (dap - N), .slice (some ⟨g, o + (N + c), none⟩) c (dap - N - c)] 74)) := ⟨_, rfl⟩
  rw [← hW2] at HI0 HBW hsz2 ⊢
  clear hW2 q0 q1 q2 q3
  have HKP : Hid (∀ x m A, ArI k c h N cap dap g o w1.heap.size w.heap.size ao p q f w x m A → KpC h cap dap (dap - h) (w1.heap.size + 1) (w1.heap.size + 1 + 1) ao (some ⟨g, o, none⟩) (some ⟨g, o + h, none⟩) (.slice (some ⟨g, o + N, none⟩) c (dap - N)) (.slice (some ⟨g, o + (N + c), none⟩) c (dap - N - c)) p f A) := Lib.hid (fun x m A H => H.kp (M := M) (by rw [← HE.out.2.2.2.2.1]; exact HC.out) HD.out (by have := HE.out; omega))
  refine wpIn_iterV rfl (by omega) (gf := 82) (lb := #[.pointer (some ⟨w1.heap.size + 1, 0, none⟩), .pointer (some ⟨w1.heap.size + 1 + 1, 0, none⟩)]) rfl trivial (enters_of Try.func82 (by kernel_rfl) rfl)
    (choices_iter _ h cap dap (dap - h) (w1.heap.size + 1) (w1.heap.size + 1 + 1) ao (some ⟨g, o, none⟩) (some ⟨g, o + h, none⟩) (.slice (some ⟨g, o + N, none⟩) c (dap - N)) (.slice (some ⟨g, o + (N + c), none⟩) c (dap - N - c)) p q f _ (by have := HE.out; omega) (by have := HE.out; omega) HP.out) rfl
    (fun x m A => ArI k c h N cap dap g o w1.heap.size w.heap.size ao p q f w x m A) (ArE (k + 1) M N w.heap.size p f w) (fun x m A B H hb => H.keep hb) (fun x m A l y y' hl hA hy H => H.put hA hy (by omega)) (fun A B H hb => H.keep hb) (fun A l y y' hl hA hy H => H.put hA hy (by omega)) (fun x m A H => HKP.out x m A H)
    (fun A hb => HKP.out ⟨0, id, fun _ => false, id⟩ 0 A ((HI0.out _).keep hb)) ?skip (fun x => HI0.out x) (fun v A => { tmps := #[.slice ao N cap, .slice (some ⟨g, o, none⟩) M dap, undef, undef, .pointer (some ⟨w.heap.size, 0, none⟩), .pointer (some ⟨w.heap.size + 1, 0, none⟩), undef, .pointer (some ⟨w1.heap.size, 0, none⟩), .pointer (some ⟨A.heap.size, 0, none⟩), undef, undef, undef, undef, undef, .slice ao N cap, .int .i64 (N : Int), .bool false, undef, undef, undef, undef, undef, undef, .slice ao N cap, .int .i64 (N : Int), .slice (some ⟨g, o, none⟩) M dap, .agg #[.slice (some ⟨g, o, none⟩) h dap, .slice (some ⟨g, o + h, none⟩) h (dap - h), .slice (some ⟨g, o + N, none⟩) c (dap - N), .slice (some ⟨g, o + (N + c), none⟩) c (dap - N - c)], .slice ao N cap, .agg #[.slice (some ⟨g, o, none⟩) h dap, .slice (some ⟨g, o + h, none⟩) h (dap - h), .slice (some ⟨g, o + N, none⟩) c (dap - N), .slice (some ⟨g, o + (N + c), none⟩) c (dap - N - c)], .func (.func 82) #[] #[.pointer (some ⟨w1.heap.size + 1, 0, none⟩), .pointer (some ⟨w1.heap.size + 1 + 1, 0, none⟩)], v, undef, undef, undef, undef, undef, undef, undef, undef, undef, undef, undef, undef, undef, undef, undef, undef, undef, undef, undef, undef, undef, undef, undef, undef, undef, undef, undef, undef, undef, undef, undef, undef, undef], defers := [] }) (fun v A => A.alloc (.cells v.cells 80)) (fun v A => (Below.refl _ A).alloc (Nat.le_refl _) _) ?assign ?body ?done ?ret
  case skip =>
    intro x m A _ _ hsel H
    refine ⟨H.r0, H.z0, H.r1, H.z1, ?_, H.p2, H.p3, H.b0, H.s0, H.s1, H.s2, H.s3, H.b⟩
    have e : wS k p q f (sdN x.id x.par m) = 0 := by unfold wS; rw [HE.out.2.2.1]; rw [if_neg (by rw [hsel]; decide)]
    simp only [su]
    rw [e, H.t]
  case assign =>
    rintro l x m v W K ⟨gf, gl, gu, gw, hv, _⟩ hK
    cases hv
    have hz : ∀ (x : Value), (#[30] : Array Tmp).zip #[x] = #[(30, x)] := fun x => by
      apply Array.toList_inj.1
      simp
    rw [hz]
    simp
    gi_wp2
    first
      | exact hK
      | simpa using hK
  case body =>
    rintro l x m v A y y' hsA hok hIA hm hsel ⟨gf, gl, gu, gw, hv, hF, hL, hU, hV⟩ hl1 hl2 hlo hno hIV
    cases hv
    have hr : ∀ r, some l = some r → ∃ y : Obj, (A.alloc (.cells #[.slice (some ⟨gf, 0, none⟩) h h, .slice (some ⟨gl, 0, none⟩) h h, .slice (some ⟨gu, 0, none⟩) h h, .slice (some ⟨gw, 0, none⟩) h h] 80)).heap[r]? = some y ∧ y.isCells = false := fun r e => by cases e; exact ⟨y, hlo, hno⟩
    have hal : Below A.heap.size A (A.alloc (.cells #[.slice (some ⟨gf, 0, none⟩) h h, .slice (some ⟨gl, 0, none⟩) h h, .slice (some ⟨gu, 0, none⟩) h h, .slice (some ⟨gw, 0, none⟩) h h] 80)) := (Below.refl _ _).alloc (Nat.le_refl _) _
    have hF2 := (hF.keep hal).put' (x' := y') hlo hno
    have hL2 := (hL.keep hal).put' (x' := y') hlo hno
    have hU2 := (hU.keep hal).put (x' := y') hlo hno
    have hV2 := (hV.keep hal).put (x' := y') hlo hno
    have k0 := cell_kept (by go_cell : (A.alloc (.cells #[.slice (some ⟨gf, 0, none⟩) h h, .slice (some ⟨gl, 0, none⟩) h h, .slice (some ⟨gu, 0, none⟩) h h, .slice (some ⟨gw, 0, none⟩) h h] 80)).cell? ⟨A.heap.size, 0, none⟩ = some (.slice (some ⟨gf, 0, none⟩) h h)) (grownBy_putObj' _ l y') hr
    have k1 := cell_kept (by go_cell : (A.alloc (.cells #[.slice (some ⟨gf, 0, none⟩) h h, .slice (some ⟨gl, 0, none⟩) h h, .slice (some ⟨gu, 0, none⟩) h h, .slice (some ⟨gw, 0, none⟩) h h] 80)).cell? ⟨A.heap.size, 1, none⟩ = some (.slice (some ⟨gl, 0, none⟩) h h)) (grownBy_putObj' _ l y') hr
    have k2 := cell_kept (by go_cell : (A.alloc (.cells #[.slice (some ⟨gf, 0, none⟩) h h, .slice (some ⟨gl, 0, none⟩) h h, .slice (some ⟨gu, 0, none⟩) h h, .slice (some ⟨gw, 0, none⟩) h h] 80)).cell? ⟨A.heap.size, 2, none⟩ = some (.slice (some ⟨gu, 0, none⟩) h h)) (grownBy_putObj' _ l y') hr
    have k3 := cell_kept (by go_cell : (A.alloc (.cells #[.slice (some ⟨gf, 0, none⟩) h h, .slice (some ⟨gl, 0, none⟩) h h, .slice (some ⟨gu, 0, none⟩) h h, .slice (some ⟨gw, 0, none⟩) h h] 80)).cell? ⟨A.heap.size, 3, none⟩ = some (.slice (some ⟨gw, 0, none⟩) h h)) (grownBy_putObj' _ l y') hr
    show Code.wpIn _ _ _ _ (goOnV _ _ _ ((A.alloc (.cells #[.slice (some ⟨gf, 0, none⟩) h h, .slice (some ⟨gl, 0, none⟩) h h, .slice (some ⟨gu, 0, none⟩) h h, .slice (some ⟨gw, 0, none⟩) h h] 80)).putObj l y')) _ ((A.alloc (.cells #[.slice (some ⟨gf, 0, none⟩) h h, .slice (some ⟨gl, 0, none⟩) h h, .slice (some ⟨gu, 0, none⟩) h h, .slice (some ⟨gw, 0, none⟩) h h] 80)).putObj l y')
    have hIV2 : ArI k c h N cap dap g o w1.heap.size w.heap.size ao p q f w x m ((A.alloc (.cells #[.slice (some ⟨gf, 0, none⟩) h h, .slice (some ⟨gl, 0, none⟩) h h, .slice (some ⟨gu, 0, none⟩) h h, .slice (some ⟨gw, 0, none⟩) h h] 80)).putObj l y') := hIV
    obtain ⟨V, hVe⟩ : ∃ V, (A.alloc (.cells #[.slice (some ⟨gf, 0, none⟩) h h, .slice (some ⟨gl, 0, none⟩) h h, .slice (some ⟨gu, 0, none⟩) h h, .slice (some ⟨gw, 0, none⟩) h h] 80)).putObj l y' = V := ⟨_, rfl⟩
    rw [hVe] at hF2 hL2 hU2 hV2 k0 k1 k2 k3 hIV2 ⊢
    obtain ⟨X, hX⟩ : ∃ X, A.heap.size = X := ⟨_, rfl⟩
    rw [hX] at k0 k1 k2 k3 ⊢
    clear hIV hVe hr hal hF hL hU hV hlo hno
    have HG := Lib.hid (good_sdN hok m)
    obtain ⟨σ, hσ⟩ : ∃ σ, sdN x.id x.par m = σ := ⟨_, rfl⟩
    rw [hσ] at hF2 hL2 hU2 hV2 HG hsel
    have HPU : Hid (Pm h (upS p σ) (upS q fun y => σ (q y))) := Lib.hid (upS_pm HP.out HG.out)
    have HPL : Hid (Pm h (loS p σ) (upS q fun y => !σ (q y))) := Lib.hid (loS_pm HP.out HG.out)
    have HF2 := Lib.hid hF2
    have HL2 := Lib.hid hL2
    have HU2 := Lib.hid hU2
    have HV2 := Lib.hid hV2
    have HIV := Lib.hid hIV2
    have HSEL := Lib.hid hsel
    have HWK : Hid (∀ (cap dap : Nat) (ao bo : Option Addr) (p q : Nat → Nat) (f : Nat → Int) (w : World), c ≤ dap → dap ≤ 9223372036854775807 → Pm h p q → Ints w ao h (fun j => ((p j : Nat) : Int)) → Ints w bo c f →
        Calls Try.prog 59 #[.slice ao h cap, .slice bo c dap] w fun e w' => AroR k c h p f w' e ∧ Below w.heap.size w w') := Lib.hid (by
      have h9 := HW
      unfold AroQ at h9
      rw [HE.out.2.2.1, HE.out.2.2.2.1] at h9
      exact h9)
    have HDV : Hid (Ints V (some ⟨g, o, none⟩) M f) := Lib.hid (HD.out.keep hIV2.b)
    have HWS : Hid (wS k p q f (sdN x.id x.par m) = wN k (upS p σ) (fun i => f (N + i)) * wN k (loS p σ) (fun i => f (N + c + i))) := Lib.hid (by
      rw [hσ]
      unfold wS
      rw [HE.out.2.2.1, HE.out.1, HE.out.2.2.2.1, if_pos hsel])
    have t2 := hIV2.p2
    have t3 := hIV2.p3
    have hbt : w1.heap.size < V.heap.size := World.block_lt_of_cell? V _ t2
    have hbx : X < V.heap.size := World.block_lt_of_cell? V _ k0
    have HNO : Hid (∀ B, Below V.heap.size V B → wS k p q f (sdN x.id x.par m) = 0 → KeepsOthers V B ∧ KeepsFrom (W2.heap.size + 2) V B ∧ ArI k c h N cap dap g o w1.heap.size w.heap.size ao p q f w x (m + 1) B) := Lib.hid (fun B hb e => by
      have H := HIV.out.keep hb
      refine ⟨keepsOthers_below hb, ⟨hb.size, fun b _ h2 => hb.block b h2⟩, H.r0, H.z0, H.r1, H.z1, ?_, H.p2, H.p3, H.b0, H.s0, H.s1, H.s2, H.s3, H.b⟩
      simp only [su]
      rw [e, H.t])
    have HOK := Lib.hid hok
    have HMM : Hid (m < 2 ^ x.L) := Lib.hid hm
    clear hsel hF2 hL2 hU2 hV2 hIV2 hok hm hσ
    gi_wp2_with fail
    refine ⟨trivial, CallsIn.inRound l ((callsIn_wide.2 (HWK.out _ _ _ _ _ _ (fun i => f (N + i)) _ (by have := HE.out; omega) (by have := HE.out; omega) HPU.out HU2.out.ints (HDV.out.sub (a := N) (m := c) (by have := HE.out; omega)))).mono ?_)⟩
    rintro e wA ⟨⟨ao1, n1, cap1, ok1, rfl, hok1, hyes1⟩, hb⟩
    have D1 := Lib.hid hb
    have HK1 := Lib.hid hok1
    have HY1 := Lib.hid hyes1
    have d2 : wA.cell? ⟨w1.heap.size, 3, none⟩ = _ := (hb.cell (p := ⟨w1.heap.size, 3, none⟩) hbt).trans t3
    have e3 : wA.cell? ⟨X, 3, none⟩ = _ := (hb.cell (p := ⟨X, 3, none⟩) hbx).trans k3
    have e0 : wA.cell? ⟨X, 0, none⟩ = _ := (hb.cell (p := ⟨X, 0, none⟩) hbx).trans k0
    have e1 : wA.cell? ⟨X, 1, none⟩ = _ := (hb.cell (p := ⟨X, 1, none⟩) hbx).trans k1
    have hbt1 := Nat.lt_of_lt_of_le hbt hb.size
    have hbx1 := Nat.lt_of_lt_of_le hbx hb.size
    clear hb hok1 hyes1 t2 t3 k0 k1 k2 k3
    cases ok1 with
    | false =>
      have hz : wS k p q f (sdN x.id x.par m) = 0 := by
        have h1 := HK1.out
        have h2 : wN k (upS p σ) (fun i => f (N + i)) = 0 := by
          have := of_decide_eq_false h1.symm
          omega
        rw [HWS.out, h2, Nat.zero_mul]
      have HR := Lib.hid (HNO.out wA D1.out hz)
      clear hz
      gi_wp2_with fail
      exact HR.out
    | true =>
      obtain ⟨gs, su1, rfl, rfl, hc1, hc2, hBl1, hout1, hag1⟩ := HY1.out rfl
      have HB1 := Lib.hid hBl1
      have HO1 := Lib.hid (And.intro hc1 (And.intro hc2 (And.intro hout1 hag1)))
      clear hc1 hc2 hBl1 hout1 hag1 HY1
      gi_wp2_with fail
      refine ⟨trivial, CallsIn.inRound l ((callsIn_wide.2 (HWK.out _ _ _ _ _ _ (fun i => f (N + c + i)) _ (by have := HE.out; omega) (by have := HE.out; omega) HPL.out (HV2.out.keep D1.out).ints ((HDV.out.keep D1.out).sub (a := N + c) (m := c) (by have := HE.out; omega)))).mono ?_)⟩
      rintro e wB ⟨⟨ao2, n2, cap2, ok2, rfl, hok2, hyes2⟩, hb⟩
      have D2 : Hid (Below V.heap.size V wB) := Lib.hid (D1.out.trans (hb.mono D1.out.size))
      have HK2 := Lib.hid hok2
      have HY2 := Lib.hid hyes2
      have g0 : wB.cell? ⟨X, 0, none⟩ = _ := (hb.cell (p := ⟨X, 0, none⟩) hbx1).trans e0
      have g1 : wB.cell? ⟨X, 1, none⟩ = _ := (hb.cell (p := ⟨X, 1, none⟩) hbx1).trans e1
      have HB12 := Lib.hid (HB1.out.keep hb)
      clear hb hok2 hyes2 d2 e0 e1 e3 HB1
      cases ok2 with
      | false =>
        have hz : wS k p q f (sdN x.id x.par m) = 0 := by
          have h1 := HK2.out
          have h2 : wN k (loS p σ) (fun i => f (N + c + i)) = 0 := by
            have := of_decide_eq_false h1.symm
            omega
          rw [HWS.out, h2, Nat.mul_zero]
        have HR := Lib.hid (HNO.out wB D2.out hz)
        clear hz
        gi_wp2_with fail
        exact HR.out
      | true =>
        obtain ⟨gt, sl1, rfl, rfl, hc1, hc2, hBl2, hout2, hag2⟩ := HY2.out rfl
        have HB2 := Lib.hid hBl2
        have HO2 := Lib.hid (And.intro hc1 (And.intro hc2 (And.intro hout2 hag2)))
        clear hc1 hc2 hBl2 hout2 hag2 HY2
        have r0 := (HIV.out.keep D2.out).r0
        have r1 := (HIV.out.keep D2.out).z0
        have r2 := (HIV.out.keep D2.out).r1
        have r3 := (HIV.out.keep D2.out).z1
        have HM9 : Hid (h + h + c + c = M) := Lib.hid (by have := HE.out; omega)
        have HLS : Hid (Lst wB gf 0 (cellsB (stF σ) h) ∧ Lst wB gl 0 (cellsB (fun j => σ (q (2 * j))) h) ∧ Lst wB gs 0 (cellsB su1 c) ∧ Lst wB gt 0 (cellsB sl1 c)) := Lib.hid ⟨Bl.lst (fun j hj => by rw [Nat.zero_add]; exact ((HF2.out.keep D2.out) j hj).1), Bl.lst (fun j hj => by rw [Nat.zero_add]; exact ((HL2.out.keep D2.out) j hj).1), HB12.out.lst, HB2.out.lst⟩
        gi_wp2_with fail
        refine ⟨trivial, CallsIn.inRound l ((callsIn_wide.2 (joinedB_of gf gl gs gt 0 0 0 0 h h cap1 cap2 h h c c (cellsB (stF σ) h) (cellsB (fun j => σ (q (2 * j))) h) (cellsB su1 c) (cellsB sl1 c) _ (cellsB_len _ _) (cellsB_len _ _) (cellsB_len _ _) (cellsB_len _ _) (HLS.out.1.keep (by go_grown)) (HLS.out.2.1.keep (by go_grown)) (HLS.out.2.2.1.keep (by go_grown)) (HLS.out.2.2.2.keep (by go_grown)) (cellsB_one _ _) (cellsB_one _ _) (cellsB_one _ _) (cellsB_one _ _) (by have := HE.out; omega) (by have := HE.out; omega))).mono ?_)⟩
        rintro e wJ ⟨⟨VJ, rfl, hown⟩, hb⟩
        rw [jn_cells, HM9.out] at hown
        obtain ⟨g9, cap9, rfl, hgB, hgs, hc9, hc10⟩ := own_fm hown (by have := HE.out; omega)
        have D3 : Below V.heap.size V wJ := (D2.out.alloc D2.out.size _).trans (hb.mono (by have := D2.out.size; simp; omega))
        have HIJ := Lib.hid (HIV.out.keep D3)
        have HBJ := Lib.hid (Bl.of_own hown)
        have HG9 := Lib.hid (And.intro hc9 hc10)
        have HgB : Hid (V.heap.size ≤ g9) := Lib.hid (by have := D2.out.size; simp at hgB; omega)
        have HD3 := Lib.hid D3
        have r0 := HIJ.out.r0
        have r1 := HIJ.out.z0
        have r2 := HIJ.out.r1
        have r3 := HIJ.out.z1
        have hRV : w.heap.size + 1 < V.heap.size := World.block_lt_of_cell? V _ HIV.out.r1
        have HRV := Lib.hid (And.intro hRV (And.intro hsz2 hl1))
        clear hown hb hgB hgs hc9 hc10 D3 hRV
        gi_wp2_with fail
        have n1 : ¬ w.heap.size = g9 := by have := HRV.out; have := HgB.out; omega
        have n2 : ¬ w.heap.size + 1 = g9 := by have := HRV.out; have := HgB.out; omega
        refine ⟨((keepsOthers_below HD3.out).trans (KeepsOthers.setCell _ _ _)).trans (KeepsOthers.setCell _ _ _), keepsFrom_of2 HD3.out rfl (by have := HRV.out; show w.heap.size < _; omega) (by have := HRV.out; show w.heap.size + 1 < _; omega), ?_⟩
        refine ⟨g9, cap9, jn h c (stF σ) (fun j => σ (q (2 * j))) su1 sl1, by go_cell, by go_cell, ?_, HG9.out.1, HG9.out.2, fun j hj => ?_, fun z hz => ?_, ?_, ((HIJ.out.b.setCell (by simp) _).setCell (by simp) _)⟩
        · have h1 : Pm (2 * sz k) p q := by rw [HE.out.2.2.1]; exact HP.out
          have h2 : Loops (sz k) x.L q x.id x.par x.s := by rw [HE.out.2.2.1]; exact HOK.out
          rw [wN_choices (st := f) h1 h2]
          refine su_pos (d := m) HMM.out ?_
          rw [HWS.out]
          exact Nat.mul_pos (of_decide_eq_true HK1.out.symm) (of_decide_eq_true HK2.out.symm)
        · have h3 := HBJ.out j hj
          go_cell
        · exact jn_out HE.out.2.2.1 HE.out.2.2.2.1 HP.out HG.out (fun _ _ => rfl) (fun _ _ => rfl) HO1.out.2.2.1 HO2.out.2.2.1 (by have := HE.out; omega)
        · have h4 := HSEL.out
          rw [maS_ag, Bool.and_eq_true] at h4
          have h5 := HO1.out.2.2.2
          have h6 := HO2.out.2.2.2
          rw [HE.out.2.2.2.2.1] at h5 h6
          rw [← HM9.out]
          exact jn_ag h4.1 h4.2 h5 h6
  case done =>
    rintro D W hD ⟨x, hok, hI⟩ hK
    have hwN : wN (k + 1) p f = 0 := by
      have h1 : Pm (2 * sz k) p q := by rw [HE.out.2.2.1]; exact HP.out
      have h2 : Loops (sz k) x.L q x.id x.par x.s := by rw [HE.out.2.2.1]; exact hok
      rw [wN_choices (st := f) h1 h2]
      exact hI.t
    have HWN := Lib.hid hwN
    have HK := Lib.hid hK
    have HII := Lib.hid hI
    have r0 := hI.r0
    have r1 := hI.z0
    have r2 := hI.r1
    have r3 := hI.z1
    have hDw : w.heap.size ≤ D := by omega
    have hHH := hI.b
    have hDr : ¬ w.heap.size = D := by omega
    have hDr1 : ¬ w.heap.size + 1 = D := by omega
    obtain ⟨WZ, hWZ⟩ : ∃ WZ, WZ = (W.setCell ⟨w.heap.size, 0, none⟩ (.slice none 0 0)).setCell ⟨w.heap.size + 1, 0, none⟩ (.bool false) := ⟨_, rfl⟩
    have hKZ : WZ.heap[D]? = some (.deferred (some [])) := by rw [hWZ, Below.heap_setCell _ _ _ _ (fun e => hDr1 e.symm), Below.heap_setCell _ _ _ _ (fun e => hDr e.symm)]; exact hK
    have z0 : WZ.cell? ⟨w.heap.size, 0, none⟩ = some (.slice none 0 0) := by rw [hWZ]; go_cell
    have z1 : WZ.cell? ⟨w.heap.size + 1, 0, none⟩ = some (.bool false) := by rw [hWZ]; go_cell
    have HBZ : Hid (Below w.heap.size w WZ) := Lib.hid (by rw [hWZ]; exact (hHH.setCell (by simp) _).setCell (by simp) _)
    have hrZ : ∀ r, some D = some r → ∃ y : Obj, WZ.heap[r]? = some y ∧ y.isCells = false := fun r e => by cases e; exact ⟨_, hKZ, rfl⟩
    have pz0 := cell_kept z0 (grownBy_putObj' _ D (.deferred none)) hrZ
    have pz1 := cell_kept z1 (grownBy_putObj' _ D (.deferred none)) hrZ
    have HKZ := Lib.hid hKZ
    have HWZ := Lib.hid hWZ
    clear hK hI hok hwN hWZ z0 z1 hrZ hKZ hHH
    gi_wp2
    rw [← HWZ.out]
    refine ⟨by simp, .inl ⟨_, _, rfl, run_takeDeferred HKZ.out, ?_⟩⟩
    exact ⟨.tuple #[.slice none 0 0, .bool false], by simp [results, Try.f59, go_sem, pz0, pz1], ⟨none, 0, 0, false, rfl, by rw [HWN.out]; rfl, fun h => by cases h⟩, putK_b HBZ.out hDw⟩
  case ret =>
    rintro D W hD ⟨g9, cap9, s9, a, b, c', d, e, i, j, l, mm⟩ hK
    have hDw : w.heap.size ≤ D := by omega
    have hrZ : ∀ r, some D = some r → ∃ y : Obj, W.heap[r]? = some y ∧ y.isCells = false := fun r e => by cases e; exact ⟨_, hK, rfl⟩
    have pz0 := cell_kept a (grownBy_putObj' _ D (.deferred none)) hrZ
    have pz1 := cell_kept b (grownBy_putObj' _ D (.deferred none)) hrZ
    have HR : Hid (AroR (k + 1) M N p f (W.putObj D (.deferred none)) (.returned (.tuple #[.slice (some ⟨g9, 0, none⟩) M cap9, .bool true]))) := Lib.hid ⟨_, M, cap9, true, rfl, (decide_eq_true c').symm, fun _ => ⟨g9, s9, rfl, rfl, d, e, fun j' hj => cell_kept (i j' hj) (grownBy_putObj' _ D (.deferred none)) hrZ, j, l⟩⟩
    have HK := Lib.hid hK
    have HMM := Lib.hid mm
    clear hK hrZ a b c' d e i j l mm
    simp only [Exit.inBlock, Exit.then]
    refine ⟨by simp, .inl ⟨_, _, rfl, run_takeDeferred HK.out, ?_⟩⟩
    exact ⟨.tuple #[.slice (some ⟨g9, 0, none⟩) M cap9, .bool true], by simp [results, Try.f59, go_sem, pz0, pz1], HR.out, putK_b HMM.out hDw⟩
end Go.Proofs.Ytfilofnkiocbeaa
