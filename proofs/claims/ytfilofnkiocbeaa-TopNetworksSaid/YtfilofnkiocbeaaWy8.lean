import Derived.Test.YtfilofnkiocbeaaCx8
import Derived.Test.YtfilofnkiocbeaaWb8
namespace Go.Proofs.Ytfilofnkiocbeaa
open Go.RowKit Go.Shelf Ben Prm
attribute [local go_sem] Oper.semAt_some
/-- The ways of a permutation, counted by the program. -/
def WaysQ (k : Nat) : Prop := ∀ (cap dap : Nat) (ao bo : Option Addr) (p q : Nat → Nat) (f : Nat → Int) (w : World), cn k ≤ dap → dap ≤ 9223372036854775807 → Pm (sz k) p q → Ints w ao (sz k) (fun j => ((p j : Nat) : Int)) → Ints w bo (cn k) f →
    Calls Try.prog 62 #[.slice ao (sz k) cap, .slice bo (cn k) dap] w fun e w' => e = .returned (.int .i64 ((wN k p f : Nat) : Int)) ∧ Below w.heap.size w w'
theorem waysQ_zero : WaysQ 0 := fun cap dap ao bo p q f w _ _ P hc hd => pways_zero cap dap ao bo p q f w P hc hd
theorem part_to (k N M h c g o cap : Nat) (w : World) (hk : k ≤ 2) (hN : sz (k + 1) = N) (hM : cn (k + 1) = M) (hh : sz k = h) (hcn : cn k = c) (hc : M ≤ cap) (hm : cap ≤ 9223372036854775807) :
    Calls Try.prog 71 #[.int .i64 (N : Int), .slice (some ⟨g, o, none⟩) M cap] w fun e w' => e = .returned (.agg #[.slice (some ⟨g, o, none⟩) h cap, .slice (some ⟨g, o + h, none⟩) h (cap - h), .slice (some ⟨g, o + N, none⟩) c (cap - N), .slice (some ⟨g, o + (N + c), none⟩) c (cap - N - c)]) ∧ Below w.heap.size w w' := by
  subst hN hM hh hcn
  exact partI_any k g o cap w hk hc hm
theorem Ints.sub {w : World} {g o n m a : Nat} {f : Nat → Int} (h : Ints w (some ⟨g, o, none⟩) n f) (hm : a + m ≤ n) : Ints w (some ⟨g, o + a, none⟩) m (fun j => f (a + j)) := fun h0 => by
  obtain ⟨b, o', e, hc⟩ := h (by omega)
  have e1 : g = b := congrArg Addr.block (Option.some.inj e)
  have e2 : o = o' := congrArg Addr.off (Option.some.inj e)
  subst e1 e2
  exact ⟨g, o + a, rfl, fun i hi => by rw [Nat.add_assoc]; exact hc (a + i) (by omega)⟩
theorem two_wraps {s x y : Nat} (h : s + x * y ≤ 72057594037927936) : IntKind.i64.wrap ((s : Int) + IntKind.i64.wrap ((x : Int) * (y : Int))) = ((s + x * y : Nat) : Int) := by
  obtain ⟨z, hz⟩ : ∃ z, x * y = z := ⟨_, rfl⟩
  rw [hz] at h
  have e : (x : Int) * (y : Int) = (z : Int) := by rw [← hz]; simp
  rw [e, hz, IntWalk.i64_in (z : Int) (by omega), IntWalk.i64_in _ (by omega)]
  simp
theorem su_mono {f : Nat → Nat} {m n : Nat} (h : m ≤ n) : su f m ≤ su f n := by
  induction n with
  | zero => obtain rfl : m = 0 := by omega
            exact Nat.le_refl _
  | succ n ih =>
    by_cases e : m = n + 1
    · rw [e]; exact Nat.le_refl _
    · exact Nat.le_trans (ih (by omega)) (Nat.le_add_right _ _)
theorem Ints.le {w : World} {ao : Option Addr} {n m : Nat} {f : Nat → Int} (h : Ints w ao n f) (hm : m ≤ n) : Ints w ao m f := fun h0 => by
  obtain ⟨b, o, e, hc⟩ := h (by omega)
  exact ⟨b, o, e, fun i hi => hc i (by omega)⟩
theorem Intw.put {w : World} {g n : Nat} {f : Nat → Int} (h : Intw w g n f) {l : Nat} {x x' : Obj} (hl : w.heap[l]? = some x) (hx : x.isCells = false) : Intw (w.putObj l x') g n f := fun i hi => by
  have hr : ∀ r, some l = some r → ∃ y : Obj, w.heap[r]? = some y ∧ y.isCells = false := fun r e => by cases e; exact ⟨x, hl, hx⟩
  obtain ⟨a, b⟩ := h i hi
  exact ⟨cell_kept a (grownBy_putObj' w l x') hr, (frozen_kept a (grownBy_putObj' w l x') hr).trans b⟩
/-- What ways keeps between two choices. -/
structure WyI (k c h N cap dap g o T : Nat) (ao : Option Addr) (p q : Nat → Nat) (f : Nat → Int) (w : World) (x : Plan) (m : Nat) (A : World) : Prop where
  t : A.cell? ⟨T + 1, 0, none⟩ = some (.int .i64 ((su (fun m => wS k p q f (sdN x.id x.par m)) m : Nat) : Int))
  z : A.frozen? ⟨T + 1, 0, none⟩ = false
  p2 : A.cell? ⟨T, 2, none⟩ = some (.slice (some ⟨g, o + N, none⟩) c (dap - N))
  p3 : A.cell? ⟨T, 3, none⟩ = some (.slice (some ⟨g, o + (N + c), none⟩) c (dap - N - c))
  b0 : A.cell? ⟨T + 1 + 1, 0, none⟩ = some (.slice ao (2 * h) cap)
  s0 : A.cell? ⟨T + 1 + 1 + 1, 0, none⟩ = some (.slice (some ⟨g, o, none⟩) h dap)
  s1 : A.cell? ⟨T + 1 + 1 + 1, 1, none⟩ = some (.slice (some ⟨g, o + h, none⟩) h (dap - h))
  s2 : A.cell? ⟨T + 1 + 1 + 1, 2, none⟩ = some (.slice (some ⟨g, o + N, none⟩) c (dap - N))
  s3 : A.cell? ⟨T + 1 + 1 + 1, 3, none⟩ = some (.slice (some ⟨g, o + (N + c), none⟩) c (dap - N - c))
  b : Below w.heap.size w A
theorem WyI.keep {k c h N cap dap g o T : Nat} {ao : Option Addr} {p q : Nat → Nat} {f : Nat → Int} {w A B : World} {x : Plan} {m : Nat} (H : WyI k c h N cap dap g o T ao p q f w x m A) (hb : Below A.heap.size A B) : WyI k c h N cap dap g o T ao p q f w x m B := by
  have e := (bcl hb).1
  exact ⟨(e _ _ (World.block_lt_of_cell? A _ H.t)).trans H.t, ((bcl hb).2 _ _ (World.block_lt_of_cell? A _ H.t)).trans H.z, (e _ _ (World.block_lt_of_cell? A _ H.p2)).trans H.p2, (e _ _ (World.block_lt_of_cell? A _ H.p3)).trans H.p3, (e _ _ (World.block_lt_of_cell? A _ H.b0)).trans H.b0,
    (e _ _ (World.block_lt_of_cell? A _ H.s0)).trans H.s0, (e _ _ (World.block_lt_of_cell? A _ H.s1)).trans H.s1, (e _ _ (World.block_lt_of_cell? A _ H.s2)).trans H.s2, (e _ _ (World.block_lt_of_cell? A _ H.s3)).trans H.s3, H.b.trans (hb.mono H.b.size)⟩
theorem WyI.put {k c h N cap dap g o T : Nat} {ao : Option Addr} {p q : Nat → Nat} {f : Nat → Int} {w A : World} {x : Plan} {m : Nat} (H : WyI k c h N cap dap g o T ao p q f w x m A) {l : Nat} {y y' : Obj} (hl : A.heap[l]? = some y) (hy : y.isCells = false) (hw : w.heap.size ≤ l) : WyI k c h N cap dap g o T ao p q f w x m (A.putObj l y') := by
  have hr : ∀ r, some l = some r → ∃ y : Obj, A.heap[r]? = some y ∧ y.isCells = false := fun r e => by cases e; exact ⟨y, hl, hy⟩
  have e : ∀ {a : Addr} {v : Value}, A.cell? a = some v → (A.putObj l y').cell? a = some v := fun h => cell_kept h (grownBy_putObj' A l y') hr
  exact ⟨e H.t, (frozen_kept H.t (grownBy_putObj' A l y') hr).trans H.z, e H.p2, e H.p3, e H.b0, e H.s0, e H.s1, e H.s2, e H.s3, H.b.grown (grownBy_putObj' A l y') H.b.size (fun k e => by cases e; omega)⟩
theorem WyI.zero {k c h N cap dap g o T : Nat} {ao : Option Addr} {p q : Nat → Nat} {f : Nat → Int} {w A : World} {x y : Plan} (H : WyI k c h N cap dap g o T ao p q f w x 0 A) : WyI k c h N cap dap g o T ao p q f w y 0 A := ⟨H.t, H.z, H.p2, H.p3, H.b0, H.s0, H.s1, H.s2, H.s3, H.b⟩
theorem WyI.kp {k c h N M cap dap g o T : Nat} {ao : Option Addr} {p q : Nat → Nat} {f : Nat → Int} {w A : World} {x : Plan} {m : Nat} (H : WyI k c h N cap dap g o T ao p q f w x m A) (hc : Ints w ao (2 * h) (fun j => ((p j : Nat) : Int))) (hd : Ints w (some ⟨g, o, none⟩) M f) (hM : 2 * h ≤ M) :
    KpC h cap dap (dap - h) (T + 1 + 1) (T + 1 + 1 + 1) ao (some ⟨g, o, none⟩) (some ⟨g, o + h, none⟩) (.slice (some ⟨g, o + N, none⟩) c (dap - N)) (.slice (some ⟨g, o + (N + c), none⟩) c (dap - N - c)) p f A :=
  ⟨H.b0, H.s0, H.s1, H.s2, H.s3, hc.keep H.b, (hd.le (by omega)).keep H.b, (hd.sub (a := h) (m := h) (by omega)).keep H.b⟩
theorem putK_b {w W : World} {D : Nat} {o' : Obj} (hb : Below w.heap.size w W) (hD : w.heap.size ≤ D) : Below w.heap.size w (W.putObj D o') := hb.grown (grownBy_putObj' W D o') hb.size (fun k e => by cases e; exact hD)
theorem keepsFrom_of {lo : Nat} {A B C : World} (hb : Below A.heap.size A B) {a : Addr} {v : Value} (hC : C = B.setCell a v) (ha : a.block < lo) : KeepsFrom lo A C := by
  subst hC
  refine ⟨by rw [World.size_setCell]; exact hb.size, fun b h1 h2 => ?_⟩
  rw [Below.heap_setCell B a v b (by omega)]
  exact hb.block b h2
theorem keepsOthers_below {A B : World} (hb : Below A.heap.size A B) : KeepsOthers A B := ⟨hb.size, fun k _ hk _ => (hb.block k (Array.getElem?_eq_some_iff.1 hk).1).trans hk⟩
set_option maxRecDepth 100000 in
set_option maxHeartbeats 8000000 in
theorem waysQ_succ (k : Nat) (hk : k ≤ 2) (HW : WaysQ k) : WaysQ (k + 1) := by
  intro cap dap ao bo p q f w hd1 hd2 hp hc hd
  obtain ⟨N, hN⟩ : ∃ N, sz (k + 1) = N := ⟨_, rfl⟩
  obtain ⟨M, hM⟩ : ∃ M, cn (k + 1) = M := ⟨_, rfl⟩
  obtain ⟨h, hh⟩ : ∃ h, sz k = h := ⟨_, rfl⟩
  obtain ⟨c, hcn⟩ : ∃ c, cn k = c := ⟨_, rfl⟩
  have hN2 : N = 2 * h := by rw [← hN, ← hh]; rfl
  have hM2 : M = N + 2 * c := by rw [← hM, ← hN, ← hcn]; rfl
  have hb : 2 ≤ h ∧ h ≤ 8 ∧ 1 ≤ c ∧ c ≤ 20 := by
    have : k = 0 ∨ k = 1 ∨ k = 2 := by omega
    rcases this with rfl | rfl | rfl <;> (simp [sz] at hh; simp [cn, sz] at hcn; omega)
  rw [hN] at hp hc
  rw [hM] at hd1 hd
  rw [hN, hM]
  have hP2 : Pm (2 * h) p q := by rw [← hN2]; exact hp
  obtain ⟨g, o, hbo, _⟩ := hd (by omega)
  subst hbo
  have HE := Lib.hid (And.intro hN (And.intro hM (And.intro hh (And.intro hcn (And.intro hN2 (And.intro hM2 (And.intro hb (And.intro hd1 hd2))))))))
  have HP := Lib.hid hP2
  have HC := Lib.hid hc
  have HD := Lib.hid hd
  have n2 : ((N : Int) == 2) = false := beq_eq_false_iff_ne.2 (by omega)
  clear hN hM hh hcn hN2 hM2 hb hp hP2 hc hd hd1 hd2
  refine (callsIn_wide (n := 8)).1 ?_
  refine callsIn_of_wp_marks Try.func62 rfl trivial ?_ rfl
  simp only [Try.ntmps62, List.size_toArray, List.length_cons, List.length_nil, Nat.reduceAdd, Nat.reduceSub, Array.replicate_succ, Array.replicate_zero, List.push_toArray, List.append_toArray, List.nil_append, List.cons_append]
  gi_wp2_with fail
  refine ⟨trivial, (callsIn_wide.2 (part_to k N M h c g o dap _ hk HE.out.1 HE.out.2.1 HE.out.2.2.1 HE.out.2.2.2.1 HE.out.2.2.2.2.2.2.2.1 HE.out.2.2.2.2.2.2.2.2)).mono ?_⟩
  rintro e w1 ⟨rfl, hb⟩
  have D1 := Lib.hid hb
  have hsw : w.heap.size ≤ w1.heap.size := hb.size
  clear hb
  gi_wp2_with fail
  refine ⟨trivial, (choices_in _ N cap ao _ _ _ _ _).mono ?_⟩
  rintro e w2 ⟨rfl, rfl⟩
  gi_wp2_with fail
  have HBW : Hid (Below w.heap.size w ((((w1.alloc (.cells #[.slice (some ⟨g, o, none⟩) h dap, .slice (some ⟨g, o + h, none⟩) h (dap - h), .slice (some ⟨g, o + N, none⟩) c (dap - N), .slice (some ⟨g, o + (N + c), none⟩) c (dap - N - c)] 74)).alloc (.cells #[.int .i64 0] 3)).alloc (.cells #[.slice ao N cap] 28)).alloc (.cells #[.slice (some ⟨g, o, none⟩) h dap, .slice (some ⟨g, o + h, none⟩) h (dap - h), .slice (some ⟨g, o + N, none⟩) c (dap - N), .slice (some ⟨g, o + (N + c), none⟩) c (dap - N - c)] 74))) := Lib.hid ((((D1.out.alloc hsw _).alloc (by simp; omega) _).alloc (by simp; omega) _).alloc (by simp; omega) _)
  have HI0 : Hid (∀ x, WyI k c h N cap dap g o w1.heap.size ao p q f w x 0 ((((w1.alloc (.cells #[.slice (some ⟨g, o, none⟩) h dap, .slice (some ⟨g, o + h, none⟩) h (dap - h), .slice (some ⟨g, o + N, none⟩) c (dap - N), .slice (some ⟨g, o + (N + c), none⟩) c (dap - N - c)] 74)).alloc (.cells #[.int .i64 0] 3)).alloc (.cells #[.slice ao N cap] 28)).alloc (.cells #[.slice (some ⟨g, o, none⟩) h dap, .slice (some ⟨g, o + h, none⟩) h (dap - h), .slice (some ⟨g, o + N, none⟩) c (dap - N), .slice (some ⟨g, o + (N + c), none⟩) c (dap - N - c)] 74))) := Lib.hid (fun x => ⟨(by go_cell : World.cell? _ ⟨w1.heap.size + 1, 0, none⟩ = some (.int .i64 0)), by go_cell, by go_cell, by go_cell, by rw [← HE.out.2.2.2.2.1]; go_cell, by go_cell, by go_cell, by go_cell, by go_cell, HBW.out⟩)
  have hsz2 : w1.heap.size + 4 = ((((w1.alloc (.cells #[.slice (some ⟨g, o, none⟩) h dap, .slice (some ⟨g, o + h, none⟩) h (dap - h), .slice (some ⟨g, o + N, none⟩) c (dap - N), .slice (some ⟨g, o + (N + c), none⟩) c (dap - N - c)] 74)).alloc (.cells #[.int .i64 0] 3)).alloc (.cells #[.slice ao N cap] 28)).alloc (.cells #[.slice (some ⟨g, o, none⟩) h dap, .slice (some ⟨g, o + h, none⟩) h (dap - h), .slice (some ⟨g, o + N, none⟩) c (dap - N), .slice (some ⟨g, o + (N + c), none⟩) c (dap - N - c)] 74)).heap.size := by simp
  obtain ⟨W2, hW2⟩ : ∃ W2, W2 = ((((w1.alloc (.cells #[.slice (some ⟨g, o, none⟩) h dap, .slice (some ⟨g, o + h, none⟩) h (dap - h), .slice (some ⟨g, o + N, none⟩) c (dap - N), .slice (some ⟨g, o + (N + c), none⟩) c (dap - N - c)] 74)).alloc (.cells #[.int .i64 0] 3)).alloc (.cells #[.slice ao N cap] 28)).alloc (.cells #[.slice (some ⟨g, o, none⟩) h dap, .slice (some ⟨g, o + h, none⟩) h (dap - h), .slice (some ⟨g, o + N, none⟩) c (dap - N), .slice (some ⟨g, o + (N + c), none⟩) c (dap - N - c)] 74)) := ⟨_, rfl⟩
  rw [← hW2] at HI0 HBW hsz2 ⊢
  clear hW2
  have HKP : Hid (∀ x m A, WyI k c h N cap dap g o w1.heap.size ao p q f w x m A → KpC h cap dap (dap - h) (w1.heap.size + 1 + 1) (w1.heap.size + 1 + 1 + 1) ao (some ⟨g, o, none⟩) (some ⟨g, o + h, none⟩) (.slice (some ⟨g, o + N, none⟩) c (dap - N)) (.slice (some ⟨g, o + (N + c), none⟩) c (dap - N - c)) p f A) := Lib.hid (fun x m A H => H.kp (M := M) (by rw [← HE.out.2.2.2.2.1]; exact HC.out) HD.out (by have := HE.out; omega))
  refine wpIn_iterV rfl (by omega) (gf := 82) (lb := #[.pointer (some ⟨w1.heap.size + 1 + 1, 0, none⟩), .pointer (some ⟨w1.heap.size + 1 + 1 + 1, 0, none⟩)]) rfl trivial (enters_of Try.func82 (by kernel_rfl) rfl)
    (choices_iter _ h cap dap (dap - h) (w1.heap.size + 1 + 1) (w1.heap.size + 1 + 1 + 1) ao (some ⟨g, o, none⟩) (some ⟨g, o + h, none⟩) (.slice (some ⟨g, o + N, none⟩) c (dap - N)) (.slice (some ⟨g, o + (N + c), none⟩) c (dap - N - c)) p q f _ (by have := HE.out; omega) (by have := HE.out; omega) HP.out) rfl
    (fun x m A => WyI k c h N cap dap g o w1.heap.size ao p q f w x m A) (fun _ => False) (fun x m A B H hb => H.keep hb) (fun x m A l y y' hl hA hy H => H.put hA hy (by omega)) (fun A B H _ => H) (fun A l y y' _ _ _ H => H) (fun x m A H => HKP.out x m A H)
    (fun A hb => HKP.out ⟨0, id, fun _ => false, id⟩ 0 A ((HI0.out _).keep hb)) ?skip (fun x => HI0.out x) (fun v A => { tmps := #[.slice ao N cap, .slice (some ⟨g, o, none⟩) M dap, undef, undef, .int .i64 0, .pointer (some ⟨w1.heap.size, 0, none⟩), .pointer (some ⟨w1.heap.size + 1, 0, none⟩), .pointer (some ⟨A.heap.size, 0, none⟩), .slice ao N cap, .int .i64 (N : Int), .bool false, undef, undef, undef, undef, .slice ao N cap, .int .i64 (N : Int), .slice (some ⟨g, o, none⟩) M dap, .agg #[.slice (some ⟨g, o, none⟩) h dap, .slice (some ⟨g, o + h, none⟩) h (dap - h), .slice (some ⟨g, o + N, none⟩) c (dap - N), .slice (some ⟨g, o + (N + c), none⟩) c (dap - N - c)], .slice ao N cap, .agg #[.slice (some ⟨g, o, none⟩) h dap, .slice (some ⟨g, o + h, none⟩) h (dap - h), .slice (some ⟨g, o + N, none⟩) c (dap - N), .slice (some ⟨g, o + (N + c), none⟩) c (dap - N - c)], .func (.func 82) #[] #[.pointer (some ⟨w1.heap.size + 1 + 1, 0, none⟩), .pointer (some ⟨w1.heap.size + 1 + 1 + 1, 0, none⟩)], v, undef, undef, undef, undef, undef, undef, undef, undef, undef, undef, undef, undef, undef, undef, undef, undef, undef, undef], defers := [] }) (fun v A => A.alloc (.cells v.cells 80)) (fun v A => (Below.refl _ A).alloc (Nat.le_refl _) _) ?assign ?body ?done (fun _ _ _ H => H.elim)
  case skip =>
    intro x m A _ _ hsel H
    refine ⟨?_, H.z, H.p2, H.p3, H.b0, H.s0, H.s1, H.s2, H.s3, H.b⟩
    have e : wS k p q f (sdN x.id x.par m) = 0 := by unfold wS; rw [HE.out.2.2.1]; rw [if_neg (by rw [hsel]; decide)]
    simp only [su]
    rw [e, Nat.add_zero]
    exact H.t
  case assign =>
    rintro l x m v W K ⟨gf, gl, gu, gw, hv, _⟩ hK
    cases hv
    have hz : ∀ (x : Value), (#[22] : Array Tmp).zip #[x] = #[(22, x)] := fun x => by
      apply Array.toList_inj.1
      simp
    rw [hz]
    simp
    gi_wp2
    first
      | exact hK
      | simpa using hK
  case body =>
    rintro l x m v A y y' hsA hok hIA hm hsel ⟨gf, gl, gu, gw, hv, hF, hL, hU, hV⟩ hl1 hl2 hlo hno hIV
    cases hv
    have hr : ∀ r, some l = some r → ∃ y : Obj, (A.alloc (.cells #[.slice (some ⟨gf, 0, none⟩) h h, .slice (some ⟨gl, 0, none⟩) h h, .slice (some ⟨gu, 0, none⟩) h h, .slice (some ⟨gw, 0, none⟩) h h] 80)).heap[r]? = some y ∧ y.isCells = false := fun r e => by cases e; exact ⟨y, hlo, hno⟩
    have hal : Below A.heap.size A (A.alloc (.cells #[.slice (some ⟨gf, 0, none⟩) h h, .slice (some ⟨gl, 0, none⟩) h h, .slice (some ⟨gu, 0, none⟩) h h, .slice (some ⟨gw, 0, none⟩) h h] 80)) := (Below.refl _ _).alloc (Nat.le_refl _) _
    have hU2 := (hU.keep hal).put (x' := y') hlo hno
    have hV2 := (hV.keep hal).put (x' := y') hlo hno
    have k2 := cell_kept (by go_cell : (A.alloc (.cells #[.slice (some ⟨gf, 0, none⟩) h h, .slice (some ⟨gl, 0, none⟩) h h, .slice (some ⟨gu, 0, none⟩) h h, .slice (some ⟨gw, 0, none⟩) h h] 80)).cell? ⟨A.heap.size, 2, none⟩ = some (.slice (some ⟨gu, 0, none⟩) h h)) (grownBy_putObj' _ l y') hr
    have k3 := cell_kept (by go_cell : (A.alloc (.cells #[.slice (some ⟨gf, 0, none⟩) h h, .slice (some ⟨gl, 0, none⟩) h h, .slice (some ⟨gu, 0, none⟩) h h, .slice (some ⟨gw, 0, none⟩) h h] 80)).cell? ⟨A.heap.size, 3, none⟩ = some (.slice (some ⟨gw, 0, none⟩) h h)) (grownBy_putObj' _ l y') hr
    show Code.wpIn _ _ _ _ (goOnV _ _ _ ((A.alloc (.cells #[.slice (some ⟨gf, 0, none⟩) h h, .slice (some ⟨gl, 0, none⟩) h h, .slice (some ⟨gu, 0, none⟩) h h, .slice (some ⟨gw, 0, none⟩) h h] 80)).putObj l y')) _ ((A.alloc (.cells #[.slice (some ⟨gf, 0, none⟩) h h, .slice (some ⟨gl, 0, none⟩) h h, .slice (some ⟨gu, 0, none⟩) h h, .slice (some ⟨gw, 0, none⟩) h h] 80)).putObj l y')
    have hIV2 : WyI k c h N cap dap g o w1.heap.size ao p q f w x m ((A.alloc (.cells #[.slice (some ⟨gf, 0, none⟩) h h, .slice (some ⟨gl, 0, none⟩) h h, .slice (some ⟨gu, 0, none⟩) h h, .slice (some ⟨gw, 0, none⟩) h h] 80)).putObj l y') := hIV
    obtain ⟨V, hVe⟩ : ∃ V, (A.alloc (.cells #[.slice (some ⟨gf, 0, none⟩) h h, .slice (some ⟨gl, 0, none⟩) h h, .slice (some ⟨gu, 0, none⟩) h h, .slice (some ⟨gw, 0, none⟩) h h] 80)).putObj l y' = V := ⟨_, rfl⟩
    rw [hVe] at hU2 hV2 k2 k3 hIV2 ⊢
    obtain ⟨X, hX⟩ : ∃ X, A.heap.size = X := ⟨_, rfl⟩
    rw [hX] at k2 k3 ⊢
    clear hIV hVe hr hal hF hL hU hV hlo hno
    have HG := Lib.hid (good_sdN hok m)
    obtain ⟨σ, hσ⟩ : ∃ σ, sdN x.id x.par m = σ := ⟨_, rfl⟩
    rw [hσ] at hU2 hV2 HG hsel
    have HPU : Hid (Pm h (upS p σ) (upS q fun y => σ (q y))) := Lib.hid (upS_pm HP.out HG.out)
    have HPL : Hid (Pm h (loS p σ) (upS q fun y => !σ (q y))) := Lib.hid (loS_pm HP.out HG.out)
    have HU2 := Lib.hid hU2
    have HV2 := Lib.hid hV2
    have HIV := Lib.hid hIV2
    have HWK : Hid (∀ (cap dap : Nat) (ao bo : Option Addr) (p q : Nat → Nat) (f : Nat → Int) (w : World), c ≤ dap → dap ≤ 9223372036854775807 → Pm h p q → Ints w ao h (fun j => ((p j : Nat) : Int)) → Ints w bo c f →
        Calls Try.prog 62 #[.slice ao h cap, .slice bo c dap] w fun e w' => e = .returned (.int .i64 ((wN k p f : Nat) : Int)) ∧ Below w.heap.size w w') := Lib.hid (by
      have h9 := HW
      unfold WaysQ at h9
      rw [HE.out.2.2.1, HE.out.2.2.2.1] at h9
      exact h9)
    obtain ⟨xu, hxu⟩ : ∃ xu, wN k (upS p σ) (fun i => f (N + i)) = xu := ⟨_, rfl⟩
    obtain ⟨yl, hyl⟩ : ∃ yl, wN k (loS p σ) (fun i => f (N + c + i)) = yl := ⟨_, rfl⟩
    obtain ⟨s1, hs1⟩ : ∃ s1, su (fun m => wS k p q f (sdN x.id x.par m)) m = s1 := ⟨_, rfl⟩
    have hstep : su (fun m => wS k p q f (sdN x.id x.par m)) (m + 1) = s1 + xu * yl := by
      simp only [su]
      rw [hs1, hσ]
      unfold wS
      rw [HE.out.2.2.1, HE.out.1, HE.out.2.2.2.1, if_pos hsel, hxu, hyl]
    have hbnd : s1 + xu * yl ≤ 72057594037927936 := by
      rw [← hstep]
      have h1 : Pm (2 * sz k) p q := by rw [HE.out.2.2.1]; exact HP.out
      have h2 : Loops (sz k) x.L q x.id x.par x.s := by rw [HE.out.2.2.1]; exact hok
      have h3 := wN_choices (st := f) h1 h2
      have h4 : su (fun m => wS k p q f (sdN x.id x.par m)) (m + 1) ≤ su (fun m => wS k p q f (sdN x.id x.par m)) (2 ^ x.L) := su_mono (show m + 1 ≤ 2 ^ x.L from hm)
      have h5 := wN_le (k + 1) p f
      have h6 : cn (k + 1) ≤ 56 := by
        have : k = 0 ∨ k = 1 ∨ k = 2 := by omega
        rcases this with rfl | rfl | rfl <;> decide
      have h7 : 2 ^ cn (k + 1) ≤ 2 ^ 56 := Nat.pow_le_pow_right (by omega) h6
      have h8 : (2 : Nat) ^ 56 = 72057594037927936 := by decide
      omega
    have HZ : Hid (IntKind.i64.wrap ((s1 : Int) + IntKind.i64.wrap ((xu : Int) * (yl : Int))) = ((su (fun m => wS k p q f (sdN x.id x.par m)) (m + 1) : Nat) : Int)) := Lib.hid (by rw [hstep]; exact two_wraps hbnd)
    have HXU := Lib.hid hxu
    have HYL := Lib.hid hyl
    have t0 := hIV2.t
    have t1 := hIV2.z
    have t2 := hIV2.p2
    have t3 := hIV2.p3
    rw [hs1] at t0
    have HDV : Hid (Ints V (some ⟨g, o, none⟩) M f) := Lib.hid (HD.out.keep hIV2.b)
    have HS : Hid (∀ w', Below V.heap.size V w' → w'.cell? ⟨X, 2, none⟩ = some (.slice (some ⟨gu, 0, none⟩) h h) ∧ w'.cell? ⟨X, 3, none⟩ = some (.slice (some ⟨gw, 0, none⟩) h h) ∧ w'.cell? ⟨w1.heap.size, 2, none⟩ = some (.slice (some ⟨g, o + N, none⟩) c (dap - N)) ∧ w'.cell? ⟨w1.heap.size, 3, none⟩ = some (.slice (some ⟨g, o + (N + c), none⟩) c (dap - N - c))) := Lib.hid (fun w' hb => by
      have e := (bcl hb).1
      exact ⟨(e _ _ (World.block_lt_of_cell? V _ k2)).trans k2, (e _ _ (World.block_lt_of_cell? V _ k3)).trans k3, (e _ _ (World.block_lt_of_cell? V _ t2)).trans t2, (e _ _ (World.block_lt_of_cell? V _ t3)).trans t3⟩)
    have hTV : w1.heap.size + 1 < V.heap.size := World.block_lt_of_cell? V _ t0
    have HEB := Lib.hid (And.intro hsz2 hsw)
    have HXX : Hid (w1.heap.size + 4 ≤ X) := Lib.hid (by omega)
    have HD0 : Below V.heap.size V V.drew := (Below.refl _ _).drew
    have HF0 : Hid (∀ w', Below V.heap.size V w' → w'.frozen? ⟨w1.heap.size + 1, 0, none⟩ = false) := Lib.hid (fun w' hb => ((bcl hb).2 _ _ hTV).trans t1)
    have HT0 : Hid (∀ w', Below V.heap.size V w' → w'.cell? ⟨w1.heap.size + 1, 0, none⟩ = some (.int .i64 (s1 : Int))) := Lib.hid (fun w' hb => ((bcl hb).1 _ _ hTV).trans t0)
    clear hsel hσ hxu hyl hstep hbnd hU2 hV2 hIV2 t1 t2 t3 k2 k3 t0 hs1 hm
    gi_wp2_with fail
    refine wpIn_region_round (S := fun w' => w'.cell? ⟨X, 2, none⟩ = some (.slice (some ⟨gu, 0, none⟩) h h) ∧ w'.cell? ⟨X, 3, none⟩ = some (.slice (some ⟨gw, 0, none⟩) h h) ∧ w'.cell? ⟨w1.heap.size, 2, none⟩ = some (.slice (some ⟨g, o + N, none⟩) c (dap - N)) ∧ w'.cell? ⟨w1.heap.size, 3, none⟩ = some (.slice (some ⟨g, o + (N + c), none⟩) c (dap - N - c))) (by kernel_rfl) (by kernel_rfl) (by rintro ⟨_, _, h⟩; exact h) (HS.out _ HD0) (fun hHeld => ?_)
    refine wpAnyH_take (i := 1) (oi := _) (v := ?_) rfl (by kernel_rfl) (by kernel_rfl) (by kernel_rfl) (fun _ _ _ h => h) (Or.inl ⟨by rfl, ?_⟩) (by assumption) ?_
    rotate_left
    · intro w hSw; obtain ⟨q1, q2, q3, q4⟩ := hSw; go_simp; (try with_reducible rfl)
    try change wpAnyH _ _ _ _ _ _ _ (Act.put _ (some 24) _) _
    try simp only [act_allC]
    refine wpAnyH_take (i := 2) (oi := _) (v := ?_) rfl (by kernel_rfl) (by kernel_rfl) (by kernel_rfl) (fun _ _ _ h => h) (Or.inl ⟨by rfl, ?_⟩) (by assumption) ?_
    rotate_left
    · intro w hSw; obtain ⟨q1, q2, q3, q4⟩ := hSw; go_simp; (try with_reducible rfl)
    try change wpAnyH _ _ _ _ _ _ _ (Act.put _ (some 25) _) _
    try simp only [act_allC]
    refine wpAnyH_take (i := 3) (oi := _) (v := ?_) rfl (by kernel_rfl) (by kernel_rfl) (by kernel_rfl) (fun _ _ _ h => h) (Or.inl ⟨by rfl, ?_⟩) (by assumption) ?_
    rotate_left
    · intro w hSw; obtain ⟨q1, q2, q3, q4⟩ := hSw; go_simp; (try with_reducible rfl)
    try change wpAnyH _ _ _ _ _ _ _ (Act.put _ (some 26) _) _
    try simp only [act_allC]
    refine wpAnyH_take (i := 4) (oi := _) (v := ?_) rfl (by kernel_rfl) (by kernel_rfl) (by kernel_rfl) (fun _ _ _ h => h) (Or.inl ⟨by rfl, ?_⟩) (by assumption) ?_
    rotate_left
    · intro w hSw; obtain ⟨q1, q2, q3, q4⟩ := hSw; go_simp; (try with_reducible rfl)
    try change wpAnyH _ _ _ _ _ _ _ (Act.put _ (some 27) _) _
    try simp only [act_allC]
    refine wpAnyH_take (i := 5) (oi := _) (v := ?_) rfl (by kernel_rfl) (by kernel_rfl) (by kernel_rfl) (fun _ _ _ h => h) (Or.inl ⟨by rfl, ?_⟩) (by assumption) ?_
    rotate_left
    · intro w hSw; obtain ⟨q1, q2, q3, q4⟩ := hSw; go_simp; (try with_reducible rfl)
    try change wpAnyH _ _ _ _ _ _ _ (Act.put _ (some 28) _) _
    try simp only [act_allC]
    refine wpAnyH_take (i := 6) (oi := _) (v := ?_) rfl (by kernel_rfl) (by kernel_rfl) (by kernel_rfl) (fun _ _ _ h => h) (Or.inl ⟨by rfl, ?_⟩) (by assumption) ?_
    rotate_left
    · intro w hSw; obtain ⟨q1, q2, q3, q4⟩ := hSw; go_simp; (try with_reducible rfl)
    try change wpAnyH _ _ _ _ _ _ _ (Act.put _ (some 29) _) _
    try simp only [act_allC]
    refine wpAnyH_take (i := 8) (oi := _) (v := ?_) rfl (by kernel_rfl) (by kernel_rfl) (by kernel_rfl) (fun _ _ _ h => h) (Or.inl ⟨by rfl, ?_⟩) (by assumption) ?_
    rotate_left
    · intro w hSw; obtain ⟨q1, q2, q3, q4⟩ := hSw; go_simp; (try with_reducible rfl)
    try change wpAnyH _ _ _ _ _ _ _ (Act.put _ (some 31) _) _
    try simp only [act_allC]
    refine wpAnyH_take (i := 9) (oi := _) (v := ?_) rfl (by kernel_rfl) (by kernel_rfl) (by kernel_rfl) (fun _ _ _ h => h) (Or.inl ⟨by rfl, ?_⟩) (by assumption) ?_
    rotate_left
    · intro w hSw; obtain ⟨q1, q2, q3, q4⟩ := hSw; go_simp; (try with_reducible rfl)
    try change wpAnyH _ _ _ _ _ _ _ (Act.put _ (some 32) _) _
    try simp only [act_allC]
    refine wpAnyH_take (i := 10) (oi := _) (v := ?_) rfl (by kernel_rfl) (by kernel_rfl) (by kernel_rfl) (fun _ _ _ h => h) (Or.inl ⟨by rfl, ?_⟩) (by assumption) ?_
    rotate_left
    · intro w hSw; obtain ⟨q1, q2, q3, q4⟩ := hSw; go_simp; (try with_reducible rfl)
    try change wpAnyH _ _ _ _ _ _ _ (Act.put _ (some 33) _) _
    try simp only [act_allC]
    refine wpAnyH_take (i := 11) (oi := _) (v := ?_) rfl (by kernel_rfl) (by kernel_rfl) (by kernel_rfl) (fun _ _ _ h => h) (Or.inl ⟨by rfl, ?_⟩) (by assumption) ?_
    rotate_left
    · intro w hSw; obtain ⟨q1, q2, q3, q4⟩ := hSw; go_simp; (try with_reducible rfl)
    try change wpAnyH _ _ _ _ _ _ _ (Act.put _ (some 34) _) _
    try simp only [act_allC]
    refine wpAnyH_take (i := 12) (oi := _) (v := ?_) rfl (by kernel_rfl) (by kernel_rfl) (by kernel_rfl) (fun _ _ _ h => h) (Or.inl ⟨by rfl, ?_⟩) (by assumption) ?_
    rotate_left
    · intro w hSw; obtain ⟨q1, q2, q3, q4⟩ := hSw; go_simp; (try with_reducible rfl)
    try change wpAnyH _ _ _ _ _ _ _ (Act.put _ (some 35) _) _
    try simp only [act_allC]
    refine wpAnyH_take (i := 13) (oi := _) (v := ?_) rfl (by kernel_rfl) (by kernel_rfl) (by kernel_rfl) (fun _ _ _ h => h) (Or.inl ⟨by rfl, ?_⟩) (by assumption) ?_
    rotate_left
    · intro w hSw; obtain ⟨q1, q2, q3, q4⟩ := hSw; go_simp; (try with_reducible rfl)
    try change wpAnyH _ _ _ _ _ _ _ (Act.put _ (some 36) _) _
    try simp only [act_allC]
    refine wpAnyH_ready (rs := [0, 7]) (by kernel_rfl) (by simp) ?_
    refine AllReadyH.cons (o := _) rfl (fun K hK => ?_) ?_
    ·
      have d0 := HT0.out _ HD0
      go_simp
      clear d0
      refine hK.out _ _ (HS.out _ HD0) (fun hHeld => ?_)
      clear hK K
      try simp only [act_allC]
      refine wpAnyH_ready (rs := [7]) (by kernel_rfl) (by simp) ?_
      refine AllReadyH.cons (o := _) rfl (fun K hK => ?_) AllReadyH.nil
      go_simp
      refine (HWK.out _ _ _ _ _ _ (fun i => f (N + i)) _ (by have := HE.out; omega) (by have := HE.out; omega) HPU.out (HU2.out.keep HD0).ints ((HDV.out.keep HD0).sub (a := N) (m := c) (by have := HE.out; omega))).mono ?_
      rw [HXU.out]
      rintro e wA ⟨rfl, hb⟩
      have D1 : Below V.heap.size V wA := HD0.trans (hb.mono (by simp))
      clear hb
      refine hK.out _ _ (HS.out _ D1) (fun hHeld => ?_)
      clear hK K
      try simp only [act_allC]
      refine wpAnyH_ready (rs := [14]) (by kernel_rfl) (by simp) ?_
      refine AllReadyH.cons (o := _) rfl (fun K hK => ?_) AllReadyH.nil
      go_simp
      refine (HWK.out _ _ _ _ _ _ (fun i => f (N + c + i)) _ (by have := HE.out; omega) (by have := HE.out; omega) HPL.out (HV2.out.keep D1).ints ((HDV.out.keep D1).sub (a := N + c) (m := c) (by have := HE.out; omega))).mono ?_
      rw [HYL.out]
      rintro e wB ⟨rfl, hb⟩
      have D2 : Below V.heap.size V wB := D1.trans (hb.mono (D1.size))
      clear hb
      refine hK.out _ _ (HS.out _ D2) (fun hHeld => ?_)
      clear hK K
      try simp only [act_allC]
      refine wpAnyH_take (i := 15) (oi := _) (v := ?_) rfl (by kernel_rfl) (by kernel_rfl) (by kernel_rfl) (fun _ _ _ h => h) (Or.inl ⟨by rfl, ?_⟩) (by assumption) ?_
      rotate_left
      · intro w hSw; obtain ⟨q1, q2, q3, q4⟩ := hSw; go_simp; (try with_reducible rfl)
      try change wpAnyH _ _ _ _ _ _ _ (Act.put _ (some 38) _) _
      try simp only [act_allC]
      refine wpAnyH_take (i := 16) (oi := _) (v := ?_) rfl (by kernel_rfl) (by kernel_rfl) (by kernel_rfl) (fun _ _ _ h => h) (Or.inl ⟨by rfl, ?_⟩) (by assumption) ?_
      rotate_left
      · intro w hSw; obtain ⟨q1, q2, q3, q4⟩ := hSw; go_simp; (try with_reducible rfl)
      try change wpAnyH _ _ _ _ _ _ _ (Act.put _ (some 39) _) _
      try simp only [act_allC]
      refine wpAnyH_ready (rs := [17]) (by kernel_rfl) (by simp) ?_
      refine AllReadyH.cons (o := _) rfl (fun K hK => ?_) AllReadyH.nil
      have d1 := HF0.out _ D2
      have d2 := HT0.out _ D2
      go_simp
      clear d1 d2
      rw [HZ.out]
      refine hK.out _ _ (by obtain ⟨a1, a2, a3, a4⟩ := HS.out _ D2; have n1 : ¬ w1.heap.size + 1 = X := (by have := HXX.out; omega); exact ⟨by go_cell, by go_cell, by go_cell, by go_cell⟩) (fun hHeld => ?_)
      clear hK K
      try simp only [act_allC]
      refine wpAnyH_done (by kernel_rfl) ?_ _
      have hIF := (HIV.out.keep D2)
      have d1 := HF0.out _ D2
      have d2 := HT0.out _ D2
      simp only [Exit.inBlock]
      refine ⟨(keepsOthers_below D2).trans (KeepsOthers.setCell _ _ _), keepsFrom_of D2 rfl (by have := HEB.out; show w1.heap.size + 1 < _; omega), ⟨by go_cell, by go_cell, ?_, ?_, ?_, ?_, ?_, ?_, ?_, hIF.b.setCell (by have := HEB.out; show w.heap.size ≤ w1.heap.size + 1; omega) _⟩⟩
      · have := hIF.p2; go_cell
      · have := hIF.p3; go_cell
      · have := hIF.b0; go_cell
      · have := hIF.s0; go_cell
      · have := hIF.s1; go_cell
      · have := hIF.s2; go_cell
      · have := hIF.s3; go_cell
    refine AllReadyH.cons (o := _) rfl (fun K hK => ?_) AllReadyH.nil
    go_simp
    refine (HWK.out _ _ _ _ _ _ (fun i => f (N + i)) _ (by have := HE.out; omega) (by have := HE.out; omega) HPU.out (HU2.out.keep HD0).ints ((HDV.out.keep HD0).sub (a := N) (m := c) (by have := HE.out; omega))).mono ?_
    rw [HXU.out]
    rintro e wA ⟨rfl, hb⟩
    have D1 : Below V.heap.size V wA := HD0.trans (hb.mono (by simp))
    clear hb
    refine hK.out _ _ (HS.out _ D1) (fun hHeld => ?_)
    clear hK K
    try simp only [act_allC]
    refine wpAnyH_ready (rs := [0, 14]) (by kernel_rfl) (by simp) ?_
    refine AllReadyH.cons (o := _) rfl (fun K hK => ?_) ?_
    ·
      have d0 := HT0.out _ D1
      go_simp
      clear d0
      refine hK.out _ _ (HS.out _ D1) (fun hHeld => ?_)
      clear hK K
      try simp only [act_allC]
      refine wpAnyH_ready (rs := [14]) (by kernel_rfl) (by simp) ?_
      refine AllReadyH.cons (o := _) rfl (fun K hK => ?_) AllReadyH.nil
      go_simp
      refine (HWK.out _ _ _ _ _ _ (fun i => f (N + c + i)) _ (by have := HE.out; omega) (by have := HE.out; omega) HPL.out (HV2.out.keep D1).ints ((HDV.out.keep D1).sub (a := N + c) (m := c) (by have := HE.out; omega))).mono ?_
      rw [HYL.out]
      rintro e wB ⟨rfl, hb⟩
      have D2 : Below V.heap.size V wB := D1.trans (hb.mono (D1.size))
      clear hb
      refine hK.out _ _ (HS.out _ D2) (fun hHeld => ?_)
      clear hK K
      try simp only [act_allC]
      refine wpAnyH_take (i := 15) (oi := _) (v := ?_) rfl (by kernel_rfl) (by kernel_rfl) (by kernel_rfl) (fun _ _ _ h => h) (Or.inl ⟨by rfl, ?_⟩) (by assumption) ?_
      rotate_left
      · intro w hSw; obtain ⟨q1, q2, q3, q4⟩ := hSw; go_simp; (try with_reducible rfl)
      try change wpAnyH _ _ _ _ _ _ _ (Act.put _ (some 38) _) _
      try simp only [act_allC]
      refine wpAnyH_take (i := 16) (oi := _) (v := ?_) rfl (by kernel_rfl) (by kernel_rfl) (by kernel_rfl) (fun _ _ _ h => h) (Or.inl ⟨by rfl, ?_⟩) (by assumption) ?_
      rotate_left
      · intro w hSw; obtain ⟨q1, q2, q3, q4⟩ := hSw; go_simp; (try with_reducible rfl)
      try change wpAnyH _ _ _ _ _ _ _ (Act.put _ (some 39) _) _
      try simp only [act_allC]
      refine wpAnyH_ready (rs := [17]) (by kernel_rfl) (by simp) ?_
      refine AllReadyH.cons (o := _) rfl (fun K hK => ?_) AllReadyH.nil
      have d1 := HF0.out _ D2
      have d2 := HT0.out _ D2
      go_simp
      clear d1 d2
      rw [HZ.out]
      refine hK.out _ _ (by obtain ⟨a1, a2, a3, a4⟩ := HS.out _ D2; have n1 : ¬ w1.heap.size + 1 = X := (by have := HXX.out; omega); exact ⟨by go_cell, by go_cell, by go_cell, by go_cell⟩) (fun hHeld => ?_)
      clear hK K
      try simp only [act_allC]
      refine wpAnyH_done (by kernel_rfl) ?_ _
      have hIF := (HIV.out.keep D2)
      have d1 := HF0.out _ D2
      have d2 := HT0.out _ D2
      simp only [Exit.inBlock]
      refine ⟨(keepsOthers_below D2).trans (KeepsOthers.setCell _ _ _), keepsFrom_of D2 rfl (by have := HEB.out; show w1.heap.size + 1 < _; omega), ⟨by go_cell, by go_cell, ?_, ?_, ?_, ?_, ?_, ?_, ?_, hIF.b.setCell (by have := HEB.out; show w.heap.size ≤ w1.heap.size + 1; omega) _⟩⟩
      · have := hIF.p2; go_cell
      · have := hIF.p3; go_cell
      · have := hIF.b0; go_cell
      · have := hIF.s0; go_cell
      · have := hIF.s1; go_cell
      · have := hIF.s2; go_cell
      · have := hIF.s3; go_cell
    refine AllReadyH.cons (o := _) rfl (fun K hK => ?_) AllReadyH.nil
    go_simp
    refine (HWK.out _ _ _ _ _ _ (fun i => f (N + c + i)) _ (by have := HE.out; omega) (by have := HE.out; omega) HPL.out (HV2.out.keep D1).ints ((HDV.out.keep D1).sub (a := N + c) (m := c) (by have := HE.out; omega))).mono ?_
    rw [HYL.out]
    rintro e wB ⟨rfl, hb⟩
    have D2 : Below V.heap.size V wB := D1.trans (hb.mono (D1.size))
    clear hb
    refine hK.out _ _ (HS.out _ D2) (fun hHeld => ?_)
    clear hK K
    try simp only [act_allC]
    refine wpAnyH_take (i := 15) (oi := _) (v := ?_) rfl (by kernel_rfl) (by kernel_rfl) (by kernel_rfl) (fun _ _ _ h => h) (Or.inl ⟨by rfl, ?_⟩) (by assumption) ?_
    rotate_left
    · intro w hSw; obtain ⟨q1, q2, q3, q4⟩ := hSw; go_simp; (try with_reducible rfl)
    try change wpAnyH _ _ _ _ _ _ _ (Act.put _ (some 38) _) _
    try simp only [act_allC]
    refine wpAnyH_ready (rs := [0]) (by kernel_rfl) (by simp) ?_
    refine AllReadyH.cons (o := _) rfl (fun K hK => ?_) AllReadyH.nil
    have d0 := HT0.out _ D2
    go_simp
    clear d0
    refine hK.out _ _ (HS.out _ D2) (fun hHeld => ?_)
    clear hK K
    try simp only [act_allC]
    refine wpAnyH_take (i := 16) (oi := _) (v := ?_) rfl (by kernel_rfl) (by kernel_rfl) (by kernel_rfl) (fun _ _ _ h => h) (Or.inl ⟨by rfl, ?_⟩) (by assumption) ?_
    rotate_left
    · intro w hSw; obtain ⟨q1, q2, q3, q4⟩ := hSw; go_simp; (try with_reducible rfl)
    try change wpAnyH _ _ _ _ _ _ _ (Act.put _ (some 39) _) _
    try simp only [act_allC]
    refine wpAnyH_ready (rs := [17]) (by kernel_rfl) (by simp) ?_
    refine AllReadyH.cons (o := _) rfl (fun K hK => ?_) AllReadyH.nil
    have d1 := HF0.out _ D2
    have d2 := HT0.out _ D2
    go_simp
    clear d1 d2
    rw [HZ.out]
    refine hK.out _ _ (by obtain ⟨a1, a2, a3, a4⟩ := HS.out _ D2; have n1 : ¬ w1.heap.size + 1 = X := (by have := HXX.out; omega); exact ⟨by go_cell, by go_cell, by go_cell, by go_cell⟩) (fun hHeld => ?_)
    clear hK K
    try simp only [act_allC]
    refine wpAnyH_done (by kernel_rfl) ?_ _
    have hIF := (HIV.out.keep D2)
    have d1 := HF0.out _ D2
    have d2 := HT0.out _ D2
    simp only [Exit.inBlock]
    refine ⟨(keepsOthers_below D2).trans (KeepsOthers.setCell _ _ _), keepsFrom_of D2 rfl (by have := HEB.out; show w1.heap.size + 1 < _; omega), ⟨by go_cell, by go_cell, ?_, ?_, ?_, ?_, ?_, ?_, ?_, hIF.b.setCell (by have := HEB.out; show w.heap.size ≤ w1.heap.size + 1; omega) _⟩⟩
    · have := hIF.p2; go_cell
    · have := hIF.p3; go_cell
    · have := hIF.b0; go_cell
    · have := hIF.s0; go_cell
    · have := hIF.s1; go_cell
    · have := hIF.s2; go_cell
    · have := hIF.s3; go_cell
  case done =>
    rintro D W hD ⟨x, hok, hI⟩ hK
    have hwN : ((su (fun m => wS k p q f (sdN x.id x.par m)) (2 ^ x.L) : Nat) : Int) = ((wN (k + 1) p f : Nat) : Int) := by
      have h1 : Pm (2 * sz k) p q := by rw [HE.out.2.2.1]; exact HP.out
      have h2 : Loops (sz k) x.L q x.id x.par x.s := by rw [HE.out.2.2.1]; exact hok
      rw [wN_choices (st := f) h1 h2]
    have ht := hI.t
    rw [hwN] at ht
    have HK := Lib.hid hK
    have HDB := Lib.hid hI.b
    have hDw : w.heap.size ≤ D := by omega
    clear hK hI hok hwN
    gi_wp2
    refine ⟨by simp, .inl ⟨_, _, rfl, run_takeDeferred HK.out, ?_⟩⟩
    exact ⟨.int .i64 ((wN (k + 1) p f : Nat) : Int), by simp [results, Try.f62, go_sem], rfl, putK_b HDB.out hDw⟩
end Go.Proofs.Ytfilofnkiocbeaa
