import Derived.Test.YtfilofnkiocbeaaBc8
import Derived.Lib.AppendZerosOnto
namespace Ben
open Go
/-- The first k lists behind one another. -/
def cat (X : Nat → List Value) : Nat → List Value
  | 0 => []
  | k + 1 => cat X k ++ X k
theorem cat_le (X : Nat → List Value) {k M : Nat} (h : k ≤ M) : (cat X k).length ≤ (cat X M).length := by
  induction M with
  | zero => have : k = 0 := by omega
            subst this; exact Nat.le_refl _
  | succ M ih =>
    by_cases e : k = M + 1
    · subst e; exact Nat.le_refl _
    · have := ih (by omega)
      simp only [cat, List.length_append]; omega
theorem cat_one (X : Nat → List Value) {M : Nat} (h : ∀ i, i < M → ∀ v ∈ X i, v.oneCell' = true) : ∀ v ∈ cat X M, v.oneCell' = true := by
  induction M with
  | zero => intro v hv; simp [cat] at hv
  | succ M ih =>
    intro v hv
    simp only [cat, List.mem_append] at hv
    rcases hv with hv | hv
    · exact ih (fun i hi => h i (by omega)) v hv
    · exact h M (by omega) v hv
end Ben
namespace Go.Proofs.Ytfilofnkiocbeaa
open Go.RowKit Ben
/-- The cells of a list lie from o on in block b. -/
def Lst (w : World) (b o : Nat) (X : List Value) : Prop := ∀ j v, X[j]? = some v → w.cell? ⟨b, o + j, none⟩ = some v
theorem Lst.keep {w w1 : World} {b o : Nat} {X : List Value} (h : Lst w b o X) (hb : Below w.heap.size w w1) : Lst w1 b o X := fun j v hv => ((bcl hb).1 _ _ (World.block_lt_of_cell? w _ (h j v hv))).trans (h j v hv)
theorem zc1 (z : Value) (n : Nat) : (Builtin.zeroCells #[z] n).size = n := by rw [size_zeroCells]; simp
theorem infoE_I : (Try.prog.info? 3).map (fun i => (i.zero, i.size, i.bytes)) = some (some (.int .i64 0), 1, 8) := by kernel_rfl
/-- A list of the call's own as a result. -/
def OwnRet_I (B : Nat) (w : World) (e : Ending) (n : Nat) (xs : List Value) : Prop := ∃ V, e = .returned V ∧ w.ownsRow B 3 1 V n xs
set_option maxRecDepth 100000 in
set_option maxHeartbeats 4000000 in
theorem grow_I (N : Nat) (w : World) (h1 : 1 ≤ N) (hN : N ≤ 1000) :
    Calls Try.prog 88 #[.slice none 0 0, .int .i64 N] w fun e w' => OwnRet_I w.heap.size w' e 0 [] ∧ Below w.heap.size w w' := by
  obtain ⟨i0, hi, hz0, hz1, hz2⟩ := info_parts infoE_I
  have hr := fun (w : World) (ty : TypeId) => Lib.run_append_nil_zeros (P := Try.prog) w 28 3 ty 3 i0 _ .i64 .i64 Try.underlying28 Try.underlying3 hi hz0 N (by omega) (by omega) (by omega) (by rw [hz2]; omega)
  have hcell : (Value.cells (.int .i64 0)) = #[.int .i64 0] := rfl
  have hge := fun w => grownCap_ge w N 0 3
  have hle := fun w => grownCap_le_maxLen w N 0 3 (by unfold maxLen; omega)
  have HR := Lib.hid hr
  have HGE := Lib.hid hge
  have HLE := Lib.hid hle
  have n0 : ¬ ((N : Int) < 0) := by omega
  have n1 : 0 < (N : Int) := by omega
  have v2 : wrap64 ((N : Int)) = (N : Int) := by unfold wrap64; omega
  clear hr hi hz0 hz1 hz2 hcell hge hle
  go_enter Try.func88, Try.ntmps88
  go_wp2_with (at_builtin; refine Lib.wpList_append_run _ rfl _ _ _ _ rfl _ _ rfl rfl _ _ (HR.out _ _) ?_)
  obtain ⟨G, hG⟩ : ∃ G, grownCap w N 0 3 = G := ⟨_, rfl⟩
  have e1 := HGE.out w
  have e2 := HLE.out w
  rw [hG] at e1 e2
  unfold maxLen at e2
  rw [hG]
  have HO : Hid ((w.drew.alloc (Obj.cells (Builtin.zeroCells (Value.cells (.int .i64 0)) N ++ Builtin.zeroCells (Value.cells (.int .i64 0)) (G - N)) 3)).ownsRow w.heap.size 3 1 (.slice (some ⟨w.heap.size, 0, none⟩) 0 G) 0 []) := Lib.hid (World.ownsRow_made w.drew _ G (Nat.le_refl _) (by unfold maxLen; omega) (by
    show (Builtin.zeroCells #[.int .i64 0] N ++ Builtin.zeroCells #[.int .i64 0] (G - N)).size = G * 1
    rw [Array.size_append, zc1, zc1]; omega))
  have hbl : Below w.heap.size w (w.drew.alloc (Obj.cells (Builtin.zeroCells (Value.cells (.int .i64 0)) N ++ Builtin.zeroCells (Value.cells (.int .i64 0)) (G - N)) 3)) := (Below.refl _ _).drew.alloc (Nat.le_refl _) _
  have HG := Lib.hid hG
  clear hG HR HGE HLE
  go_wp2_with fail
  go_returns
  exact ⟨⟨_, rfl, HO.out⟩, hbl⟩
set_option maxRecDepth 100000 in
set_option maxHeartbeats 4000000 in
theorem concat_I (M b o cap : Nat) (p q c : Nat → Nat) (X : Nat → List Value) (w : World) (hM1 : 1 ≤ M) (hM : M ≤ 4) (hc : ∀ i, i < M → w.cell? ⟨b, o + i, none⟩ = some (.slice (some ⟨p i, q i, none⟩) (X i).length (c i))) (hX : ∀ i, i < M → Lst w (p i) (q i) (X i))
    (h1 : ∀ i, i < M → ∀ v ∈ X i, v.oneCell' = true) (h0 : 1 ≤ (cat X M).length) (ht : (cat X M).length ≤ 1000) :
    Calls Try.prog 81 #[.slice (some ⟨b, o, none⟩) M cap] w fun e w' => OwnRet_I w.heap.size w' e (cat X M).length (cat X M) ∧ Below w.heap.size w w' := by
  obtain ⟨i0, hi, hz0, hz1, hz2⟩ := info_parts infoE_I
  have HI := Lib.hid (And.intro hi (And.intro hz0 (And.intro hz1 hz2)))
  have HC := Lib.hid hc
  have HX := Lib.hid hX
  have H1 := Lib.hid h1
  have HLE := Lib.hid (fun k (h : k ≤ M) => cat_le X h)
  clear hi hz0 hz1 hz2 hc hX h1
  go_enter Try.func81, Try.ntmps81
  go_wp2_with fail
  go_loopw [3, 11] (fun sv iv wr => ∃ (z : Int) (k : Nat) (y : Nat), iv = .int .i64 z ∧ sv = .int .i64 y ∧ z = k ∧ k ≤ M ∧ Hid (y = (cat X k).length) ∧ w = wr) (fun _ iv _ => M - (intOf iv).toNat)
  case atStart => exact ⟨0, 0, 0, rfl, rfl, rfl, by omega, Lib.hid rfl, rfl⟩
  case round =>
    obtain ⟨z, k, y, rfl, rfl, hz, hk, HY, rfl⟩ := hrel
    have hy : y ≤ 1000 := by rw [HY.out]; have := HLE.out k hk; omega
    by_cases hlt : k < M
    · have hlt' : z < (M : Int) := by omega
      subst hz
      have k0 : (0 : Int) ≤ (k : Int) := by omega
      have wz : wrap64 ((k : Int) + 1) = (k : Int) + 1 := by simp only [wrap64]; omega
      have g0 := HC.out k hlt
      have hbz := World.block_lt_of_cell? _ _ g0
      have hn := HLE.out (k + 1) hlt
      rw [cat, List.length_append, ← HY.out] at hn
      obtain ⟨m, hm⟩ : ∃ m, (X k).length = m := ⟨_, rfl⟩
      rw [hm] at g0 hn
      have HY2 : Hid (y + m = (cat X (k + 1)).length) := Lib.hid (by rw [cat, List.length_append, ← HY.out, hm])
      have v2 : wrap64 ((y : Int) + (m : Int)) = ((y + m : Nat) : Int) := by clear wz; simp only [wrap64]; omega
      have v3 : ¬ (((y + m : Nat) : Int) < 0) := by clear wz v2; omega
      have v4 : ¬ ((y : Int) + (m : Int) < 0) := by clear wz v2; omega
      clear hm HY hn
      go_wp2_with fail
      go_roundw
      case rel => exact ⟨(k : Int) + 1, k + 1, y + m, by first | rfl | rw [wz], by first | rfl | rw [v2] | (congr 1; clear wz v2; omega), by clear wz v2; omega, by clear wz v2; omega, HY2, by first | rfl | trivial⟩
      case measure => clear wz v2; first | (simp [intOf]; done) | (simp [intOf]; omega)
    · obtain rfl : k = M := by omega
      have hzn : ¬ z < (k : Int) := by omega
      subst hz
      have hy1 : 1 ≤ y := by rw [HY.out]; exact h0
      have HYY := Lib.hid HY.out
      clear HY
      go_wp2_with fail
      refine (grow_I y _ hy1 hy).mono ?_
      rintro e w1 ⟨⟨V0, rfl, hO⟩, hb⟩
      have HO0 := Lib.hid hO
      have HB0 := Lib.hid hb
      clear hO hb hzn
      go_wp2_with fail
      go_loopw [6, 27] (fun V iv wr => ∃ (z : Int) (i : Nat), iv = .int .i64 z ∧ z = i ∧ i ≤ k ∧ Hid (wr.ownsRow w.heap.size 3 1 V (cat X i).length (cat X i)) ∧ Hid (Below w.heap.size w wr)) (fun _ iv _ => k - (intOf iv).toNat)
      case atStart => exact ⟨0, 0, rfl, rfl, by omega, HO0, HB0⟩
      case round =>
        obtain ⟨z, i, rfl, hz, hi, HO, HB⟩ := hrel
        clear HO0 HB0
        by_cases hlt : i < k
        · have hlt' : z < (k : Int) := by omega
          subst hz
          have i00 : (0 : Int) ≤ (i : Int) := by omega
          have wz : wrap64 ((i : Int) + 1) = (i : Int) + 1 := by simp only [wrap64]; omega
          have hbl := HB.out
          have hblz := hbl.size
          have g0 := (hbl.cell (p := ⟨b, o + i, none⟩) (World.block_lt_of_cell? _ _ (HC.out i hlt))).trans (HC.out i hlt)
          have hbz := World.block_lt_of_cell? _ _ g0
          have hL := Lib.hid ((HX.out i hlt).keep hbl)
          have hn := HLE.out (i + 1) hlt
          rw [cat, List.length_append] at hn
          have HN := Lib.hid hn
          have HS := Lib.hid ht
          have hltk := HO.out.lt
          clear hn
          go_wp2_with (at_builtin; refine wpList_append_own _ rfl (.tmp 31) (.tmp 32) 28 rfl w.heap.size 3 i0 _ 1 8 Try.underlying28 HI.out.1 HI.out.2.1 HI.out.2.2.1 HI.out.2.2.2 rfl (by decide) _ (cat X i).length (cat X i) rfl HO.out ⟨p i, q i, none⟩ (X i).length (c i) (X i) rfl ?c0 ?c1 ?c2 ?c3 ?c4 ?c5 ?_)
          try (case c0 => omega)
          case c1 =>
            intro j u hu
            exact hL.out j u hu
          case c2 => exact H1.out i hlt
          case c3 => have h1 := HN.out; have h2 := HS.out; unfold maxLen; omega
          case c4 => have h1 := HN.out; have h2 := HS.out; omega
          try (case c5 => first | omega | (simp; done) | (simp; omega))
          intro v' w5 hown' hgrow _
          have HO5 : Hid (w5.ownsRow w.heap.size 3 1 v' (cat X (i + 1)).length (cat X (i + 1))) := Lib.hid (by rw [cat, List.length_append]; exact hown')
          have HB5 : Hid (Below w.heap.size w w5) := Lib.hid (Below.grown hbl hgrow (by first | omega | (simp; omega)) (fun p hp => (hltk p hp).1))
          clear hown' hgrow hltk HO hbl hblz HN HS hL g0
          go_wp2_with fail
          go_roundw
          case rel => exact ⟨(i : Int) + 1, i + 1, by first | rfl | rw [wz], by clear wz; omega, by clear wz; omega, HO5, HB5⟩
          case measure => clear wz; first | (simp [intOf]; done) | (simp [intOf]; omega)
        · obtain rfl : i = k := by omega
          have hzn : ¬ z < (i : Int) := by omega
          subst hz
          have hbl := HB.out
          have HOO := Lib.hid HO.out
          clear HB HO
          go_wp2_with fail
          go_returns
          exact ⟨⟨_, rfl, HOO.out⟩, hbl⟩
theorem infoE_B : (Try.prog.info? 4).map (fun i => (i.zero, i.size, i.bytes)) = some (some (.bool false), 1, 1) := by kernel_rfl
/-- A list of the call's own as a result. -/
def OwnRet_B (B : Nat) (w : World) (e : Ending) (n : Nat) (xs : List Value) : Prop := ∃ V, e = .returned V ∧ w.ownsRow B 4 1 V n xs
set_option maxRecDepth 100000 in
set_option maxHeartbeats 4000000 in
theorem grow_B (N : Nat) (w : World) (h1 : 1 ≤ N) (hN : N ≤ 1000) :
    Calls Try.prog 90 #[.slice none 0 0, .int .i64 N] w fun e w' => OwnRet_B w.heap.size w' e 0 [] ∧ Below w.heap.size w w' := by
  obtain ⟨i0, hi, hz0, hz1, hz2⟩ := info_parts infoE_B
  have hr := fun (w : World) (ty : TypeId) => Lib.run_append_nil_zeros (P := Try.prog) w 27 3 ty 4 i0 _ .i64 .i64 Try.underlying27 Try.underlying3 hi hz0 N (by omega) (by omega) (by omega) (by rw [hz2]; omega)
  have hcell : (Value.cells (.bool false)) = #[.bool false] := rfl
  have hge := fun w => grownCap_ge w N 0 4
  have hle := fun w => grownCap_le_maxLen w N 0 4 (by unfold maxLen; omega)
  have HR := Lib.hid hr
  have HGE := Lib.hid hge
  have HLE := Lib.hid hle
  have n0 : ¬ ((N : Int) < 0) := by omega
  have n1 : 0 < (N : Int) := by omega
  have v2 : wrap64 ((N : Int)) = (N : Int) := by unfold wrap64; omega
  clear hr hi hz0 hz1 hz2 hcell hge hle
  go_enter Try.func90, Try.ntmps90
  go_wp2_with (at_builtin; refine Lib.wpList_append_run _ rfl _ _ _ _ rfl _ _ rfl rfl _ _ (HR.out _ _) ?_)
  obtain ⟨G, hG⟩ : ∃ G, grownCap w N 0 4 = G := ⟨_, rfl⟩
  have e1 := HGE.out w
  have e2 := HLE.out w
  rw [hG] at e1 e2
  unfold maxLen at e2
  rw [hG]
  have HO : Hid ((w.drew.alloc (Obj.cells (Builtin.zeroCells (Value.cells (.bool false)) N ++ Builtin.zeroCells (Value.cells (.bool false)) (G - N)) 4)).ownsRow w.heap.size 4 1 (.slice (some ⟨w.heap.size, 0, none⟩) 0 G) 0 []) := Lib.hid (World.ownsRow_made w.drew _ G (Nat.le_refl _) (by unfold maxLen; omega) (by
    show (Builtin.zeroCells #[.bool false] N ++ Builtin.zeroCells #[.bool false] (G - N)).size = G * 1
    rw [Array.size_append, zc1, zc1]; omega))
  have hbl : Below w.heap.size w (w.drew.alloc (Obj.cells (Builtin.zeroCells (Value.cells (.bool false)) N ++ Builtin.zeroCells (Value.cells (.bool false)) (G - N)) 4)) := (Below.refl _ _).drew.alloc (Nat.le_refl _) _
  have HG := Lib.hid hG
  clear hG HR HGE HLE
  go_wp2_with fail
  go_returns
  exact ⟨⟨_, rfl, HO.out⟩, hbl⟩
set_option maxRecDepth 100000 in
set_option maxHeartbeats 4000000 in
theorem concat_B (M b o cap : Nat) (p q c : Nat → Nat) (X : Nat → List Value) (w : World) (hM1 : 1 ≤ M) (hM : M ≤ 4) (hc : ∀ i, i < M → w.cell? ⟨b, o + i, none⟩ = some (.slice (some ⟨p i, q i, none⟩) (X i).length (c i))) (hX : ∀ i, i < M → Lst w (p i) (q i) (X i))
    (h1 : ∀ i, i < M → ∀ v ∈ X i, v.oneCell' = true) (h0 : 1 ≤ (cat X M).length) (ht : (cat X M).length ≤ 1000) :
    Calls Try.prog 85 #[.slice (some ⟨b, o, none⟩) M cap] w fun e w' => OwnRet_B w.heap.size w' e (cat X M).length (cat X M) ∧ Below w.heap.size w w' := by
  obtain ⟨i0, hi, hz0, hz1, hz2⟩ := info_parts infoE_B
  have HI := Lib.hid (And.intro hi (And.intro hz0 (And.intro hz1 hz2)))
  have HC := Lib.hid hc
  have HX := Lib.hid hX
  have H1 := Lib.hid h1
  have HLE := Lib.hid (fun k (h : k ≤ M) => cat_le X h)
  clear hi hz0 hz1 hz2 hc hX h1
  go_enter Try.func85, Try.ntmps85
  go_wp2_with fail
  go_loopw [3, 11] (fun sv iv wr => ∃ (z : Int) (k : Nat) (y : Nat), iv = .int .i64 z ∧ sv = .int .i64 y ∧ z = k ∧ k ≤ M ∧ Hid (y = (cat X k).length) ∧ w = wr) (fun _ iv _ => M - (intOf iv).toNat)
  case atStart => exact ⟨0, 0, 0, rfl, rfl, rfl, by omega, Lib.hid rfl, rfl⟩
  case round =>
    obtain ⟨z, k, y, rfl, rfl, hz, hk, HY, rfl⟩ := hrel
    have hy : y ≤ 1000 := by rw [HY.out]; have := HLE.out k hk; omega
    by_cases hlt : k < M
    · have hlt' : z < (M : Int) := by omega
      subst hz
      have k0 : (0 : Int) ≤ (k : Int) := by omega
      have wz : wrap64 ((k : Int) + 1) = (k : Int) + 1 := by simp only [wrap64]; omega
      have g0 := HC.out k hlt
      have hbz := World.block_lt_of_cell? _ _ g0
      have hn := HLE.out (k + 1) hlt
      rw [cat, List.length_append, ← HY.out] at hn
      obtain ⟨m, hm⟩ : ∃ m, (X k).length = m := ⟨_, rfl⟩
      rw [hm] at g0 hn
      have HY2 : Hid (y + m = (cat X (k + 1)).length) := Lib.hid (by rw [cat, List.length_append, ← HY.out, hm])
      have v2 : wrap64 ((y : Int) + (m : Int)) = ((y + m : Nat) : Int) := by clear wz; simp only [wrap64]; omega
      have v3 : ¬ (((y + m : Nat) : Int) < 0) := by clear wz v2; omega
      have v4 : ¬ ((y : Int) + (m : Int) < 0) := by clear wz v2; omega
      clear hm HY hn
      go_wp2_with fail
      go_roundw
      case rel => exact ⟨(k : Int) + 1, k + 1, y + m, by first | rfl | rw [wz], by first | rfl | rw [v2] | (congr 1; clear wz v2; omega), by clear wz v2; omega, by clear wz v2; omega, HY2, by first | rfl | trivial⟩
      case measure => clear wz v2; first | (simp [intOf]; done) | (simp [intOf]; omega)
    · obtain rfl : k = M := by omega
      have hzn : ¬ z < (k : Int) := by omega
      subst hz
      have hy1 : 1 ≤ y := by rw [HY.out]; exact h0
      have HYY := Lib.hid HY.out
      clear HY
      go_wp2_with fail
      refine (grow_B y _ hy1 hy).mono ?_
      rintro e w1 ⟨⟨V0, rfl, hO⟩, hb⟩
      have HO0 := Lib.hid hO
      have HB0 := Lib.hid hb
      clear hO hb hzn
      go_wp2_with fail
      go_loopw [6, 27] (fun V iv wr => ∃ (z : Int) (i : Nat), iv = .int .i64 z ∧ z = i ∧ i ≤ k ∧ Hid (wr.ownsRow w.heap.size 4 1 V (cat X i).length (cat X i)) ∧ Hid (Below w.heap.size w wr)) (fun _ iv _ => k - (intOf iv).toNat)
      case atStart => exact ⟨0, 0, rfl, rfl, by omega, HO0, HB0⟩
      case round =>
        obtain ⟨z, i, rfl, hz, hi, HO, HB⟩ := hrel
        clear HO0 HB0
        by_cases hlt : i < k
        · have hlt' : z < (k : Int) := by omega
          subst hz
          have i00 : (0 : Int) ≤ (i : Int) := by omega
          have wz : wrap64 ((i : Int) + 1) = (i : Int) + 1 := by simp only [wrap64]; omega
          have hbl := HB.out
          have hblz := hbl.size
          have g0 := (hbl.cell (p := ⟨b, o + i, none⟩) (World.block_lt_of_cell? _ _ (HC.out i hlt))).trans (HC.out i hlt)
          have hbz := World.block_lt_of_cell? _ _ g0
          have hL := Lib.hid ((HX.out i hlt).keep hbl)
          have hn := HLE.out (i + 1) hlt
          rw [cat, List.length_append] at hn
          have HN := Lib.hid hn
          have HS := Lib.hid ht
          have hltk := HO.out.lt
          clear hn
          go_wp2_with (at_builtin; refine wpList_append_own _ rfl (.tmp 31) (.tmp 32) 27 rfl w.heap.size 4 i0 _ 1 1 Try.underlying27 HI.out.1 HI.out.2.1 HI.out.2.2.1 HI.out.2.2.2 rfl (by decide) _ (cat X i).length (cat X i) rfl HO.out ⟨p i, q i, none⟩ (X i).length (c i) (X i) rfl ?c0 ?c1 ?c2 ?c3 ?c4 ?c5 ?_)
          try (case c0 => omega)
          case c1 =>
            intro j u hu
            exact hL.out j u hu
          case c2 => exact H1.out i hlt
          case c3 => have h1 := HN.out; have h2 := HS.out; unfold maxLen; omega
          case c4 => have h1 := HN.out; have h2 := HS.out; omega
          try (case c5 => first | omega | (simp; done) | (simp; omega))
          intro v' w5 hown' hgrow _
          have HO5 : Hid (w5.ownsRow w.heap.size 4 1 v' (cat X (i + 1)).length (cat X (i + 1))) := Lib.hid (by rw [cat, List.length_append]; exact hown')
          have HB5 : Hid (Below w.heap.size w w5) := Lib.hid (Below.grown hbl hgrow (by first | omega | (simp; omega)) (fun p hp => (hltk p hp).1))
          clear hown' hgrow hltk HO hbl hblz HN HS hL g0
          go_wp2_with fail
          go_roundw
          case rel => exact ⟨(i : Int) + 1, i + 1, by first | rfl | rw [wz], by clear wz; omega, by clear wz; omega, HO5, HB5⟩
          case measure => clear wz; first | (simp [intOf]; done) | (simp [intOf]; omega)
        · obtain rfl : i = k := by omega
          have hzn : ¬ z < (i : Int) := by omega
          subst hz
          have hbl := HB.out
          have HOO := Lib.hid HO.out
          clear HB HO
          go_wp2_with fail
          go_returns
          exact ⟨⟨_, rfl, HOO.out⟩, hbl⟩
end Go.Proofs.Ytfilofnkiocbeaa
