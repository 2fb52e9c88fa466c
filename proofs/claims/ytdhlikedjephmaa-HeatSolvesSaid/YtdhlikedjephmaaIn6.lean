import Derived.Test.YtdhlikedjephmaaSr7
namespace Heat
/-- The k-th unit. -/
def unF (k i : Nat) : Int := if i = k then 1 else 0
def inE (N : Nat) (l : Nat → Nat) (F : Nat → Nat → Int) : Int := if okG N l F = true then (if detM N F = 0 then 61 else 0) else 60
def inP (N : Nat) (F : Nat → Nat → Int) (j k : Nat) : Int := soP N F (unF k) j
def inQ (N : Nat) (F : Nat → Nat → Int) (j k : Nat) : Int := soQ N F (unF k) j
theorem unF_bd {k i : Nat} : -1000000 ≤ unF k i ∧ unF k i ≤ 1000000 := by unfold unF; split <;> omega
theorem wi_wc2 {N k : Nat} {C : Nat → Int} {F : Nat → Nat → Int} (hN : N ≤ 5) : detN N (wiL k N C (gnL N N F)) = detM N (wcF k C F) := by
  rw [detM_P, detN_P hN]
  congr 1
  refine detP_congr fun i hi j hj => ?_
  have h5 : (i * 5 + j) / 5 = i ∧ (i * 5 + j) % 5 = j := by omega
  unfold wiL gnL wcF
  rw [h5.1, h5.2]
  by_cases e : j = k
  · rw [if_pos ⟨e, hi⟩, if_pos e]
  · rw [if_neg (fun h => e h.1), if_pos ⟨hi, hj⟩, if_neg e]
theorem in_no {N : Nat} {l : Nat → Nat} {F : Nat → Nat → Int} (h : okG N l F = false) : inE N l F = 60 := by unfold inE; rw [h]; rfl
theorem in_sing {N : Nat} {l : Nat → Nat} {F : Nat → Nat → Int} (h : okG N l F = true) (h3 : detM N F = 0) : inE N l F = 61 := by unfold inE; rw [h, if_pos rfl, if_pos h3]
theorem in_ok {N : Nat} {l : Nat → Nat} {F : Nat → Nat → Int} (h : okG N l F = true) (h3 : ¬ detM N F = 0) : inE N l F = 0 := by unfold inE; rw [h, if_pos rfl, if_neg h3]
end Heat
namespace Go.Proofs.Ytdhlikedjephmaa
open Go.RowKit Heat
theorem made_sl (n i : Nat) (h : i < n) : (madeCells #[Value.slice none 0 0] n).toList[i]? = some (.slice none 0 0) := by
  have e : i % 1 = 0 := Nat.mod_one i
  simp [madeCells, h, e]
theorem infoRs : (Try.prog.info? 22).map (fun i => (i.zero, i.size, i.bytes)) = some (some (.slice none 0 0), 1, 24) := by kernel_rfl
theorem Bkw.keepB {w w1 : World} {g B : Nat} {n : Int} {L R : Nat → Int} (h : Bkw w g n L R) (hb : Below B w w1) (hg : g < B) : Bkw w1 g n L R := by
  have hc : ∀ o, w1.cell? ⟨g, o, none⟩ = w.cell? ⟨g, o, none⟩ := fun o => hb.cell (p := ⟨g, o, none⟩) hg
  have hf : ∀ o, w1.frozen? ⟨g, o, none⟩ = w.frozen? ⟨g, o, none⟩ := fun o => hb.frozen (p := ⟨g, o, none⟩) hg
  obtain ⟨⟨a, b, c⟩, d⟩ := h
  exact ⟨⟨(hc _).trans a, (hf _).trans b, fun j hj => ⟨(hc _).trans (c j hj).1, (hf _).trans (c j hj).2⟩⟩, fun j hj => ⟨(hc _).trans (d j hj).1, (hf _).trans (d j hj).2⟩⟩
/-- A list of n rows of n ratios. -/
def Ratm (w : World) (ao : Option Addr) (n : Nat) (P Q : Nat → Nat → Int) : Prop :=
  0 < n → ∃ b o, ao = some ⟨b, o, none⟩ ∧ ∀ i, i < n → ∃ so cap, w.cell? ⟨b, o + i, none⟩ = some (.slice so n cap) ∧ Rats w so n (P i) (Q i)
/-- What comes back of Inverse. -/
def InR (w : World) (e : Ending) (N : Nat) (l : Nat → Nat) (F : Nat → Nat → Int) : Prop :=
  ∃ ao cap, e = .returned (.tuple #[.slice ao (if inE N l F = 0 then N else 0) cap, .int .i64 (inE N l F)]) ∧ Ratm w ao (if inE N l F = 0 then N else 0) (inP N F) (inQ N F)
theorem inR_no {w : World} {N : Nat} {l : Nat → Nat} {F : Nat → Nat → Int} {x : Int} (h : inE N l F = x) (h0 : x ≠ 0) : InR w (.returned (.tuple #[.slice none 0 0, .int .i64 x])) N l F := by
  unfold InR
  rw [h, if_neg h0]
  exact ⟨none, 0, rfl, fun h => absurd h (by omega)⟩
theorem inR_ok {w : World} {N : Nat} {l : Nat → Nat} {F : Nat → Nat → Int} {go cap : Nat} {V : Nat → Value} (_ : 1 ≤ N) (h : inE N l F = 0) (hw : InvS w go N N 0 V (inP N F) (inQ N F)) : InR w (.returned (.tuple #[.slice (some ⟨go, 0, none⟩) N cap, .int .i64 0])) N l F := by
  unfold InR
  rw [h, if_pos rfl]
  refine ⟨_, cap, rfl, fun _ => ⟨go, 0, rfl, fun i hi => ?_⟩⟩
  obtain ⟨⟨a, _⟩, b, _⟩ := hw i hi
  rw [if_neg (by omega)] at b
  obtain ⟨g, cp, hv, _⟩ := own_fm b (by omega)
  rw [hv] at a b
  exact ⟨_, cp, by rw [Nat.zero_add]; exact a, (Ratw.of_own b fun j hj => ratC_get _ _ hj).rats⟩
set_option maxRecDepth 100000 in
set_option maxHeartbeats 8000000 in
theorem hInverse_no (N cap : Nat) (ao : Option Addr) (A : Nat → Option Addr) (l c : Nat → Nat) (F : Nat → Nat → Int) (w : World) (hN : N ≤ 9223372036854775807) (hR : Rowsw w ao N A l c F) (hok : okG N l F = false) :
    Calls Try.prog 41 #[.agg #[.slice ao N cap]] w fun e w' => InR w' e N l F ∧ Below w.heap.size w w' := by
  have HG := Lib.hid hR
  have HOK := Lib.hid hok
  clear hR hok
  have HE : Hid (inE N l F = 60) := Lib.hid (in_no HOK.out)
  have hbx : (w.alloc (Obj.cells #[.slice ao N cap] 40)).cell? ⟨w.heap.size, 0, none⟩ = some (.slice ao N cap) := by go_cell
  have hb0 : Below w.heap.size w (w.alloc (Obj.cells #[.slice ao N cap] 40)) := by go_grown
  have hsz : w.heap.size < (w.alloc (Obj.cells #[.slice ao N cap] 40)).heap.size := by simp
  go_enter Try.func41, Try.ntmps41
  go_upto_region 1 with fail
  generalize (w.alloc (Obj.cells #[.slice ao N cap] 40)) = W at *
  have HB0 := Lib.hid hb0
  have HSZ := Lib.hid hsz
  clear hb0
  refine wp_region_lit ?_
  refine wpList_step (fun K hK => ?_); go_simp; refine hK _ _ ?_; clear hK K
  refine wpList_step (fun K hK => ?_); go_simp
  refine (read_no N cap ao A l c F _ hN (HG.out.keep (HB0.out.mono (Nat.le_refl _))) HOK.out).mono ?_
  rintro e w1 ⟨rfl, hb⟩
  have hB1 : Below w.heap.size w w1 := HB0.out.trans (hb.mono HB0.out.size)
  have hg : w.heap.size < w1.heap.size := by have h1 := hb.size; have h2 := HSZ.out; omega
  refine hK _ _ ?_; clear hK K
  clear hb hbx hsz HSZ HB0
  have HBK2 : Hid (Bkw (w1.alloc (Obj.cells #[.int .i64 0, .int .i64 0, .int .i64 0, .int .i64 0, .int .i64 0, .int .i64 0, .int .i64 0, .int .i64 0, .int .i64 0, .int .i64 0, .int .i64 0, .int .i64 0, .int .i64 0, .int .i64 0, .int .i64 0, .int .i64 0, .int .i64 0, .int .i64 0, .int .i64 0, .int .i64 0, .int .i64 0, .int .i64 0, .int .i64 0, .int .i64 0, .int .i64 0, .int .i64 0, .int .i64 0, .int .i64 0, .int .i64 0, .int .i64 0, .int .i64 0] 81)) w1.heap.size 0 (fun _ => 0) (fun _ => 0)) := Lib.hid (Bkw.fresh (by refine ⟨?_, ?_, ?_, ?_, ?_, ?_, ?_, ?_, ?_, ?_, ?_, ?_, ?_, ?_, ?_, ?_, ?_, ?_, ?_, ?_, ?_, ?_, ?_, ?_, ?_, ?_, ?_, ?_, ?_, ?_, ?_⟩ <;> go_cell) (by refine ⟨?_, ?_, ?_, ?_, ?_, ?_, ?_, ?_, ?_, ?_, ?_, ?_, ?_, ?_, ?_, ?_, ?_, ?_, ?_, ?_, ?_, ?_, ?_, ?_, ?_, ?_, ?_, ?_, ?_, ?_, ?_⟩ <;> go_cell))
  have hb2 : Below w1.heap.size w1 (w1.alloc (Obj.cells #[.int .i64 0, .int .i64 0, .int .i64 0, .int .i64 0, .int .i64 0, .int .i64 0, .int .i64 0, .int .i64 0, .int .i64 0, .int .i64 0, .int .i64 0, .int .i64 0, .int .i64 0, .int .i64 0, .int .i64 0, .int .i64 0, .int .i64 0, .int .i64 0, .int .i64 0, .int .i64 0, .int .i64 0, .int .i64 0, .int .i64 0, .int .i64 0, .int .i64 0, .int .i64 0, .int .i64 0, .int .i64 0, .int .i64 0, .int .i64 0, .int .i64 0] 81)) := (Below.refl _ _).alloc (Nat.le_refl _) _
  have hB2 : Below w.heap.size w (w1.alloc (Obj.cells #[.int .i64 0, .int .i64 0, .int .i64 0, .int .i64 0, .int .i64 0, .int .i64 0, .int .i64 0, .int .i64 0, .int .i64 0, .int .i64 0, .int .i64 0, .int .i64 0, .int .i64 0, .int .i64 0, .int .i64 0, .int .i64 0, .int .i64 0, .int .i64 0, .int .i64 0, .int .i64 0, .int .i64 0, .int .i64 0, .int .i64 0, .int .i64 0, .int .i64 0, .int .i64 0, .int .i64 0, .int .i64 0, .int .i64 0, .int .i64 0, .int .i64 0] 81)) := hB1.trans (hb2.mono hB1.size)
  refine wpList_step (fun K hK => ?_); go_simp; refine hK _ _ ?_; clear hK K
  refine wpList_step (fun K hK => ?_); go_simp; refine hK _ _ ?_; clear hK K
  refine wpList_step (fun K hK => ?_); go_simp; refine hK _ _ ?_; clear hK K
  refine wpList_step (fun K hK => ?_); go_simp; refine hK _ _ ?_; clear hK K
  generalize (w1.alloc (Obj.cells #[.int .i64 0, .int .i64 0, .int .i64 0, .int .i64 0, .int .i64 0, .int .i64 0, .int .i64 0, .int .i64 0, .int .i64 0, .int .i64 0, .int .i64 0, .int .i64 0, .int .i64 0, .int .i64 0, .int .i64 0, .int .i64 0, .int .i64 0, .int .i64 0, .int .i64 0, .int .i64 0, .int .i64 0, .int .i64 0, .int .i64 0, .int .i64 0, .int .i64 0, .int .i64 0, .int .i64 0, .int .i64 0, .int .i64 0, .int .i64 0, .int .i64 0] 81)) = W2 at *
  have HTH : Hid (W2.there w1.heap.size 0 (bkL 0 (fun _ => 0) (fun _ => 0)).toArray.size) := Lib.hid HBK2.out.there
  (refine wpList_store_mid rfl 81 _ _ rfl w1.heap.size 0 (bkL 0 (fun _ => 0) (fun _ => 0)).toArray rfl rfl HTH.out (infoBk 0 (fun _ => 0) (fun _ => 0)) (all_oneCell_toArray (bkL_one 0 (fun _ => 0) (fun _ => 0))) ?_)
  have HM3 : Hid (Bkw (W2.setCells w1.heap.size 0 (bkL 0 (fun _ => 0) (fun _ => 0)).toArray.toList) w1.heap.size 0 (fun _ => 0) (fun _ => 0)) := Lib.hid (by rw [List.toList_toArray]; exact HBK2.out.whole)
  have HB3 : Hid (Below w.heap.size w (W2.setCells w1.heap.size 0 (bkL 0 (fun _ => 0) (fun _ => 0)).toArray.toList)) := Lib.hid (below_setCells hB2 hB1.size _ _)
  generalize W2.setCells w1.heap.size 0 (bkL 0 (fun _ => 0) (fun _ => 0)).toArray.toList = W3 at *
  have hs3 : w1.heap.size < W3.heap.size := World.block_lt_of_cell? _ _ HM3.out.1.1
  clear HTH HBK2 hb2 hB2 hB1
  generalize w1.heap.size = g at *
  refine wpList_step (fun K hK => ?_); go_simp; refine hK _ _ ?_; clear hK K
  refine wpList_nil ?_
  have hbl := HB3.out
  clear HM3 HB3
  go_wp2_with fail
  refine bodyPost_ret (v := .tuple #[.slice none 0 0, .int .i64 60]) (by simp [results, Try.results41, go_sem, *]) rfl ⟨inR_no HE.out (by decide), by go_grown⟩
set_option maxRecDepth 100000 in
set_option maxHeartbeats 8000000 in
theorem hInverse_ok (N cap : Nat) (ao : Option Addr) (A : Nat → Option Addr) (l c : Nat → Nat) (F : Nat → Nat → Int) (w : World) (hN : N ≤ 9223372036854775807) (hR : Rowsw w ao N A l c F) (hok : okG N l F = true) :
    Calls Try.prog 41 #[.agg #[.slice ao N cap]] w fun e w' => InR w' e N l F ∧ Below w.heap.size w w' := by
  have HG := Lib.hid hR
  have HOK := Lib.hid hok
  clear hR hok
  have hN5 := (okG_iff.1 HOK.out).1.2
  have hN1 := (okG_iff.1 HOK.out).1.1
  have hF : ∀ i, i < N → ∀ j, j < N → -200 ≤ F i j ∧ F i j ≤ 200 := fun i hi => ((okG_iff.1 HOK.out).2 i hi).2
  have HDS := Lib.hid (detN_small hN5 hF)
  have HBD : Hid (∀ C : Nat → Int, (∀ i, -1000000 ≤ C i ∧ C i ≤ 1000000) → ∀ k, k < N → (detN N (wiL k N C (gnL N N F))).natAbs ≤ 1000000000000000000) := Lib.hid (fun C hC k hk => by rw [wi_wc2 hN5]; exact detN_small1 hN5 hk hF (fun i _ => hC i))
  obtain ⟨d, hd⟩ : ∃ d, detN N (gnL N N F) = d := ⟨_, rfl⟩
  have HdE := Lib.hid hd
  rw [hd] at HDS
  obtain ⟨i1, hi', hz0', hz1', hz2'⟩ := info_parts infoRs
  have HS := Lib.hid (And.intro hi' (And.intro hz0' (And.intro hz1' hz2')))
  obtain ⟨i2, hi2, hy0, hy1, hy2⟩ := info_parts infoRat
  have HT := Lib.hid (And.intro hi2 (And.intro hy0 (And.intro hy1 hy2)))
  clear hF hd hi' hz0' hz1' hz2' hi2 hy0 hy1 hy2
  have hbx : (w.alloc (Obj.cells #[.slice ao N cap] 40)).cell? ⟨w.heap.size, 0, none⟩ = some (.slice ao N cap) := by go_cell
  have hb0 : Below w.heap.size w (w.alloc (Obj.cells #[.slice ao N cap] 40)) := by go_grown
  have hsz : w.heap.size < (w.alloc (Obj.cells #[.slice ao N cap] 40)).heap.size := by simp
  go_enter Try.func41, Try.ntmps41
  go_upto_region 1 with fail
  generalize (w.alloc (Obj.cells #[.slice ao N cap] 40)) = W at *
  have HB0 := Lib.hid hb0
  have HSZ := Lib.hid hsz
  clear hb0
  refine wp_region_lit ?_
  refine wpList_step (fun K hK => ?_); go_simp; refine hK _ _ ?_; clear hK K
  refine wpList_step (fun K hK => ?_); go_simp
  refine (read_ok N cap ao A l c F _ hN (HG.out.keep (HB0.out.mono (Nat.le_refl _))) HOK.out).mono ?_
  rintro e w1 ⟨rfl, hb⟩
  have hB1 : Below w.heap.size w w1 := HB0.out.trans (hb.mono HB0.out.size)
  have hg : w.heap.size < w1.heap.size := by have h1 := hb.size; have h2 := HSZ.out; omega
  refine hK _ _ ?_; clear hK K
  clear hb hbx hsz HSZ HB0
  have HBK2 : Hid (Bkw (w1.alloc (Obj.cells #[.int .i64 0, .int .i64 0, .int .i64 0, .int .i64 0, .int .i64 0, .int .i64 0, .int .i64 0, .int .i64 0, .int .i64 0, .int .i64 0, .int .i64 0, .int .i64 0, .int .i64 0, .int .i64 0, .int .i64 0, .int .i64 0, .int .i64 0, .int .i64 0, .int .i64 0, .int .i64 0, .int .i64 0, .int .i64 0, .int .i64 0, .int .i64 0, .int .i64 0, .int .i64 0, .int .i64 0, .int .i64 0, .int .i64 0, .int .i64 0, .int .i64 0] 81)) w1.heap.size 0 (fun _ => 0) (fun _ => 0)) := Lib.hid (Bkw.fresh (by refine ⟨?_, ?_, ?_, ?_, ?_, ?_, ?_, ?_, ?_, ?_, ?_, ?_, ?_, ?_, ?_, ?_, ?_, ?_, ?_, ?_, ?_, ?_, ?_, ?_, ?_, ?_, ?_, ?_, ?_, ?_, ?_⟩ <;> go_cell) (by refine ⟨?_, ?_, ?_, ?_, ?_, ?_, ?_, ?_, ?_, ?_, ?_, ?_, ?_, ?_, ?_, ?_, ?_, ?_, ?_, ?_, ?_, ?_, ?_, ?_, ?_, ?_, ?_, ?_, ?_, ?_, ?_⟩ <;> go_cell))
  have hb2 : Below w1.heap.size w1 (w1.alloc (Obj.cells #[.int .i64 0, .int .i64 0, .int .i64 0, .int .i64 0, .int .i64 0, .int .i64 0, .int .i64 0, .int .i64 0, .int .i64 0, .int .i64 0, .int .i64 0, .int .i64 0, .int .i64 0, .int .i64 0, .int .i64 0, .int .i64 0, .int .i64 0, .int .i64 0, .int .i64 0, .int .i64 0, .int .i64 0, .int .i64 0, .int .i64 0, .int .i64 0, .int .i64 0, .int .i64 0, .int .i64 0, .int .i64 0, .int .i64 0, .int .i64 0, .int .i64 0] 81)) := (Below.refl _ _).alloc (Nat.le_refl _) _
  have hB2 : Below w.heap.size w (w1.alloc (Obj.cells #[.int .i64 0, .int .i64 0, .int .i64 0, .int .i64 0, .int .i64 0, .int .i64 0, .int .i64 0, .int .i64 0, .int .i64 0, .int .i64 0, .int .i64 0, .int .i64 0, .int .i64 0, .int .i64 0, .int .i64 0, .int .i64 0, .int .i64 0, .int .i64 0, .int .i64 0, .int .i64 0, .int .i64 0, .int .i64 0, .int .i64 0, .int .i64 0, .int .i64 0, .int .i64 0, .int .i64 0, .int .i64 0, .int .i64 0, .int .i64 0, .int .i64 0] 81)) := hB1.trans (hb2.mono hB1.size)
  refine wpList_step (fun K hK => ?_); go_simp; refine hK _ _ ?_; clear hK K
  refine wpList_step (fun K hK => ?_); go_simp; refine hK _ _ ?_; clear hK K
  refine wpList_step (fun K hK => ?_); go_simp; refine hK _ _ ?_; clear hK K
  refine wpList_step (fun K hK => ?_); go_simp; refine hK _ _ ?_; clear hK K
  generalize (w1.alloc (Obj.cells #[.int .i64 0, .int .i64 0, .int .i64 0, .int .i64 0, .int .i64 0, .int .i64 0, .int .i64 0, .int .i64 0, .int .i64 0, .int .i64 0, .int .i64 0, .int .i64 0, .int .i64 0, .int .i64 0, .int .i64 0, .int .i64 0, .int .i64 0, .int .i64 0, .int .i64 0, .int .i64 0, .int .i64 0, .int .i64 0, .int .i64 0, .int .i64 0, .int .i64 0, .int .i64 0, .int .i64 0, .int .i64 0, .int .i64 0, .int .i64 0, .int .i64 0] 81)) = W2 at *
  have HTH : Hid (W2.there w1.heap.size 0 (bkL N (gnL N N F) (rhL N N 0 F)).toArray.size) := Lib.hid HBK2.out.there
  (refine wpList_store_mid rfl 81 _ _ rfl w1.heap.size 0 (bkL N (gnL N N F) (rhL N N 0 F)).toArray rfl rfl HTH.out (infoBk N (gnL N N F) (rhL N N 0 F)) (all_oneCell_toArray (bkL_one N (gnL N N F) (rhL N N 0 F))) ?_)
  have HM3 : Hid (Bkw (W2.setCells w1.heap.size 0 (bkL N (gnL N N F) (rhL N N 0 F)).toArray.toList) w1.heap.size N (gnL N N F) (rhL N N 0 F)) := Lib.hid (by rw [List.toList_toArray]; exact HBK2.out.whole)
  have HB3 : Hid (Below w.heap.size w (W2.setCells w1.heap.size 0 (bkL N (gnL N N F) (rhL N N 0 F)).toArray.toList)) := Lib.hid (below_setCells hB2 hB1.size _ _)
  generalize W2.setCells w1.heap.size 0 (bkL N (gnL N N F) (rhL N N 0 F)).toArray.toList = W3 at *
  have hs3 : w1.heap.size < W3.heap.size := World.block_lt_of_cell? _ _ HM3.out.1.1
  clear HTH HBK2 hb2 hB2 hB1
  generalize w1.heap.size = g at *
  refine wpList_step (fun K hK => ?_); go_simp; refine hK _ _ ?_; clear hK K
  refine wpList_nil ?_
  have HRG := Lib.hid HM3.out.1.range
  go_upto_region 4 with fail
  refine wp_region_lit ?_
  refine wpList_step (fun K hK => ?_); go_simp; refine hK _ _ ?_; clear hK K
  (refine wpList_load_mid rfl 79 _ rfl g 0 rfl (sqL N (gnL N N F)) _ HRG.out Try.underlying79 rfl (infoSq N (gnL N N F)) ?_)
  refine wpList_step (fun K hK => ?_); go_simp
  refine (det_any N (gnL N N F) _ hN5).mono ?_
  rw [HdE.out]
  rintro e w4 ⟨rfl, hb⟩
  have HM4 := Lib.hid (HM3.out.keep hb)
  have HB4 := Lib.hid (HB3.out.trans (hb.mono HB3.out.size))
  have hs4 : g < w4.heap.size := by have := hb.size; omega
  clear hb HM3 HB3 hs3 HRG
  refine hK _ _ ?_; clear hK K
  refine wpList_step (fun K hK => ?_); go_simp; refine hK _ _ ?_; clear hK K
  refine wpList_nil ?_
  by_cases hd0 : d = 0
  · have HE : Hid (inE N l F = 61) := Lib.hid (in_sing HOK.out (by rw [detM_N hN5, HdE.out, hd0]))
    have hdb : (d == 0) = true := by simp [hd0]
    have hbl := HB4.out
    clear hd0 HM4 HB4
    go_wp2_with fail
    refine bodyPost_ret (v := .tuple #[.slice none 0 0, .int .i64 61]) (by simp [results, Try.results41, go_sem, *]) rfl ⟨inR_no HE.out (by decide), hbl⟩
  have HE : Hid (inE N l F = 0) := Lib.hid (in_ok HOK.out (by rw [detM_N hN5, HdE.out]; exact hd0))
  have hdb : (d == 0) = false := beq_eq_false_iff_ne.2 hd0
  have hc0 := HM4.out.1.1
  have hbl := HB4.out
  have hsz := hbl.size
  go_wp2_with (refine wpList_make_full _ rfl (.tmp 27) (.tmp 27) 55 rfl w4.heap.size 22 i1 _ 1 Try.underlying55 HS.out.1 HS.out.2.1 HS.out.2.2.1 .i64 .i64 _ _ N rfl rfl (by simp) (by simp) ?c1 ?c2 ?c3 ?_)
  case c1 => rw [HS.out.2.2.2]; omega
  case c2 => unfold maxLen; omega
  case c3 => exact Nat.le_refl _
  intro w5 hown hgrow
  have HV5 : Hid (InvS w5 w4.heap.size N 0 0 (fun _ => .slice none 0 0) (inP N F) (inQ N F)) := Lib.hid (fun j hj => ⟨⟨by rw [hown.cellAt j (by omega)]; first | exact made_sl N j hj | (rw [Nat.mul_one]; exact made_sl N j hj), hown.frozenAt j⟩, by rw [if_neg (by omega)]; exact World.ownsRow_nil _ _ _ _, fun _ _ _ => .inl rfl⟩)
  have hs5 : w4.heap.size < w5.heap.size := (hown.lt _ rfl).2
  have DW : Below w4.heap.size w4 w5 := Below.grown (Below.refl _ _) hgrow (Nat.le_refl _) (fun k hk => by cases hk)
  have HB5 : Hid (Below w.heap.size w w5) := Lib.hid (hbl.trans (DW.mono hsz))
  have HM5 := Lib.hid (HM4.out.keep DW)
  have hgo : w.heap.size ≤ w4.heap.size := hsz
  have hgg : g < w4.heap.size := hs4
  clear hown hgrow DW HM4 HB4 hbl hsz hc0 hs4
  generalize w4.heap.size = go at *
  have n00 : (0 : Int) ≤ (N : Int) := by omega
  have hc0 := HM5.out.1.1
  go_wp2_with fail
  clear hc0
  go_loopw [32] (fun iv wr => ∃ (z : Int) (k : Nat) (V : Nat → Value), iv = .int .i64 z ∧ z = k ∧ k ≤ N ∧ Hid (InvS wr go N k 0 V (inP N F) (inQ N F)) ∧ Hid (Bkw wr g N (gnL N N F) (rhL N N 0 F)) ∧ Hid (Below w.heap.size w wr) ∧ go < wr.heap.size) (fun iv _ => N - (intOf iv).toNat)
  case atStart => exact ⟨0, 0, _, rfl, by omega, by omega, HV5, HM5, HB5, hs5⟩
  case round =>
    obtain ⟨z, k, V, rfl, hz, hk, HV, HM, HB, hsw⟩ := hrel
    clear HV5 HM5 HB5 hs5
    by_cases hlt : k < N
    · have hlt' : z < (N : Int) := by omega
      subst hz
      have k00 : (0 : Int) ≤ (k : Int) := by omega
      have k5 : (k : Int) < 5 := by omega
      have HZ : Hid (Intw (wr.alloc (Obj.cells #[.int .i64 0, .int .i64 0, .int .i64 0, .int .i64 0, .int .i64 0] 74)) wr.heap.size 5 (fun _ => 0)) := Lib.hid (fun j hj => by rcases (show j = 0 ∨ j = 1 ∨ j = 2 ∨ j = 3 ∨ j = 4 by omega) with rfl | rfl | rfl | rfl | rfl <;> exact ⟨by go_cell, by go_cell⟩)
      have DZ : Below wr.heap.size wr (wr.alloc (Obj.cells #[.int .i64 0, .int .i64 0, .int .i64 0, .int .i64 0, .int .i64 0] 74)) := bal (Below.refl _ _) _
      go_upto_region 12 with fail
      generalize (wr.alloc (Obj.cells #[.int .i64 0, .int .i64 0, .int .i64 0, .int .i64 0, .int .i64 0] 74)) = wz0 at *
      have DU : Below wr.heap.size wr (wz0.setCell ⟨wr.heap.size, k, none⟩ (.int .i64 1)) := DZ.setCell (p := ⟨wr.heap.size, k, none⟩) (Nat.le_refl _) _
      have HUN : Hid (Intw (wz0.setCell ⟨wr.heap.size, k, none⟩ (.int .i64 1)) wr.heap.size 5 (unF k)) := Lib.hid ((HZ.out.store (j := k) (by omega) 1).congr fun j hj => rfl)
      have HV1 := Lib.hid (HV.out.keep DU)
      have HM1 := Lib.hid (HM.out.keep DU)
      have HB1 := Lib.hid (HB.out.trans (DU.mono HB.out.size))
      have hs1 : go < (wz0.setCell ⟨wr.heap.size, k, none⟩ (.int .i64 1)).heap.size := by have := DU.size; omega
      obtain ⟨m0, m1⟩ := HZ.out k (by omega)
      clear DU DZ HZ HV HM HB hsw
      go_upto_region 13 with fail
      generalize (wz0.setCell ⟨wr.heap.size, k, none⟩ (.int .i64 1)) = w6 at *
      clear m0 m1
      obtain ⟨⟨q0, _⟩, ⟨q1, _⟩, ⟨q2, _⟩, ⟨q3, _⟩, ⟨q4, _⟩⟩ : _ ∧ _ ∧ _ ∧ _ ∧ _ := ⟨HUN.out 0 (by omega), HUN.out 1 (by omega), HUN.out 2 (by omega), HUN.out 3 (by omega), HUN.out 4 (by omega)⟩
      have HRG := Lib.hid HM1.out.1.range
      refine wp_region_lit ?_
      refine wpList_step (fun K hK => ?_); go_simp; refine hK _ _ ?_; clear hK K
      (refine wpList_load_mid rfl 79 _ rfl g 0 rfl (sqL N (gnL N N F)) _ HRG.out Try.underlying79 rfl (infoSq N (gnL N N F)) ?_)
      refine wpList_step (fun K hK => ?_); go_simp; refine hK _ _ ?_; clear hK K
      refine wpList_step (fun K hK => ?_); go_simp; refine hK _ _ ?_; clear hK K
      refine wpList_step (fun K hK => ?_); go_simp
      refine (solved_any N (gnL N N F) (unF k) d _ hN5 HDS.out hd0 (HBD.out (unF k) (fun _ => unF_bd))).mono ?_
      rintro e w7 ⟨⟨g7, cap7, rfl, hr7, hg7, hl7, hc7, hm7⟩, hb⟩
      have HR7 : Hid (Ratw w7 g7 N (fun i => inP N F i k) (fun i => inQ N F i k)) := Lib.hid (hr7.congr fun i hi => by unfold inP inQ soP soQ; rw [wi_wc2 hN5, show detM N F = d from (detM_N hN5).trans HdE.out]; exact ⟨rfl, rfl⟩)
      have HNG7 : Hid (∀ j, j < N → (V j).ownBlock ≠ some g7) := Lib.hid (fun j hj e => by have := ((HV1.out j hj).2.1.lt _ e).2; omega)
      have hgo7 : go < g7 := by omega
      have HV7 := Lib.hid (HV1.out.keep hb)
      have HM7 := Lib.hid (HM1.out.keep hb)
      have HB7 := Lib.hid (HB1.out.trans (hb.mono HB1.out.size))
      have hs7 : go < w7.heap.size := by have := hb.size; omega
      clear hb hr7 HV1 HM1 HB1 hs1 HRG q0 q1 q2 q3 q4 HUN
      refine hK _ _ ?_; clear hK K
      refine wpList_step (fun K hK => ?_); go_simp; refine hK _ _ ?_; clear hK K
      refine wpList_step (fun K hK => ?_); go_simp; refine hK _ _ ?_; clear hK K
      refine wpList_nil ?_
      go_wp2_with fail
      go_loopw [43] (fun iv wr => ∃ (y : Int) (i : Nat) (V : Nat → Value), iv = .int .i64 y ∧ y = i ∧ i ≤ N ∧ Hid (InvS wr go N k i V (inP N F) (inQ N F)) ∧ Hid (∀ j, j < N → (V j).ownBlock ≠ some g7) ∧ Hid (Ratw wr g7 N (fun i => inP N F i k) (fun i => inQ N F i k)) ∧ Hid (Bkw wr g N (gnL N N F) (rhL N N 0 F)) ∧ Hid (Below w.heap.size w wr) ∧ go < wr.heap.size) (fun iv _ => N - (intOf iv).toNat)
      case atStart => exact ⟨0, 0, V, rfl, by omega, by omega, HV7, HNG7, HR7, HM7, HB7, hs7⟩
      case round =>
        obtain ⟨y, i, V, rfl, hy, hi, HV, HNG, HR, HM, HB, hsw⟩ := hrel
        clear HV7 HNG7 HR7 HM7 HB7 hs7
        by_cases hit : i < N
        · have hit' : y < (N : Int) := by omega
          subst hy
          have i00 : (0 : Int) ≤ (i : Int) := by omega
          have i5 : (i : Int) < 5 := by omega
          obtain ⟨⟨t0, t1⟩, _⟩ := HR.out i hit
          obtain ⟨p, hp⟩ : ∃ p, inP N F i k = p := ⟨_, rfl⟩
          obtain ⟨q, hq⟩ : ∃ q, inQ N F i k = q := ⟨_, rfl⟩
          have HPQ := Lib.hid (And.intro hp hq)
          (try dsimp only at t0 t1)
          rw [hp] at t0
          rw [hq] at t1
          have DA : Below wr.heap.size wr (wr.alloc (Obj.cells #[.int .i64 p, .int .i64 q] 68)) := bal (Below.refl _ _) _
          have HVa := Lib.hid (HV.out.keep DA)
          have HRa := Lib.hid (HR.out.keep DA)
          have HMa := Lib.hid (HM.out.keep DA)
          have HBa := Lib.hid (HB.out.trans (DA.mono HB.out.size))
          have a0 : (wr.alloc (Obj.cells #[.int .i64 p, .int .i64 q] 68)).cell? ⟨wr.heap.size, 0, none⟩ = some (.int .i64 p) := by go_cell
          have a1 : (wr.alloc (Obj.cells #[.int .i64 p, .int .i64 q] 68)).cell? ⟨wr.heap.size, 1, none⟩ = some (.int .i64 q) := by go_cell
          have hsa : go < (wr.alloc (Obj.cells #[.int .i64 p, .int .i64 q] 68)).heap.size := by have := DA.size; omega
          have hOB : Hid ((V i).ownBlock ≠ some wr.heap.size) := Lib.hid (fun e => by have := ((HV.out i hit).2.1.lt _ e).2; omega)
          have hbg : ¬ go = wr.heap.size := by omega
          clear hp hq DA HV HR HM HB
          go_upto_region 16 with fail
          generalize (wr.alloc (Obj.cells #[.int .i64 p, .int .i64 q] 68)) = wa at *
          generalize wr.heap.size = ba at *
          clear t0 t1 hsw
          obtain ⟨⟨v0, v1⟩, hVo, _⟩ := HVa.out i hit
          rw [if_neg (by omega)] at hVo
          have HVO := Lib.hid hVo
          have HVF := Lib.hid v1
          have HK : Hid (∀ w', Below wa.heap.size wa w' → w'.cell? ⟨go, i, none⟩ = some (V i) ∧ w'.cell? ⟨ba, 0, none⟩ = some (.int .i64 p) ∧ w'.cell? ⟨ba, 1, none⟩ = some (.int .i64 q)) := Lib.hid (fun w' hb => ⟨(hb.cell (p := ⟨go, i, none⟩) hsa).trans v0, (hb.cell (p := ⟨ba, 0, none⟩) (World.block_lt_of_cell? _ _ a0)).trans a0, (hb.cell (p := ⟨ba, 1, none⟩) (World.block_lt_of_cell? _ _ a1)).trans a1⟩)
          have D0 : Below wa.heap.size wa wa.drew := (Below.refl _ _).drew
          clear hVo v0 v1 a0 a1
          refine wp_region_held_drew (S := fun w' => w'.cell? ⟨ba, 0, none⟩ = some (.int .i64 p) ∧ w'.cell? ⟨ba, 1, none⟩ = some (.int .i64 q)) (by kernel_rfl) (HK.out _ D0).2 (fun hHeld => ?_)
          refine wpAnyH_take (i := 0) (oi := _) (v := ?_) rfl (by kernel_rfl) (by kernel_rfl) (by kernel_rfl) (fun _ _ _ h => h) (Or.inl ⟨by rfl, ?_⟩) (by assumption) ?_
          rotate_left
          · intro w hSw; obtain ⟨_, _⟩ := hSw; go_simp; (try with_reducible rfl)
          try change wpAnyH _ _ _ _ _ _ _ (Act.put _ (some 48) _) _
          try simp only [act_all]
          refine wpAnyH_take (i := 1) (oi := _) (v := ?_) rfl (by kernel_rfl) (by kernel_rfl) (by kernel_rfl) (fun _ _ _ h => h) (Or.inl ⟨by rfl, ?_⟩) (by assumption) ?_
          rotate_left
          · intro w hSw; obtain ⟨_, _⟩ := hSw; go_simp; (try with_reducible rfl)
          try change wpAnyH _ _ _ _ _ _ _ (Act.put _ (some 49) _) _
          try simp only [act_all]
          refine wpAnyH_take (i := 2) (oi := _) (v := ?_) rfl (by kernel_rfl) (by kernel_rfl) (by kernel_rfl) (fun _ _ _ h => h) (Or.inl ⟨by rfl, ?_⟩) (by assumption) ?_
          rotate_left
          · intro w hSw; obtain ⟨_, _⟩ := hSw; go_simp; (try with_reducible rfl)
          try change wpAnyH _ _ _ _ _ _ _ (Act.put _ (some 50) _) _
          try simp only [act_all]
          refine wpAnyH_take (i := 3) (oi := _) (v := ?_) rfl (by kernel_rfl) (by kernel_rfl) (by kernel_rfl) (fun _ _ _ h => h) (Or.inl ⟨by rfl, ?_⟩) (by assumption) ?_
          rotate_left
          · intro w hSw; obtain ⟨_, _⟩ := hSw; go_simp; (try with_reducible rfl)
          try change wpAnyH _ _ _ _ _ _ _ (Act.put _ (some 51) _) _
          try simp only [act_all]
          refine wpAnyH_take (i := 4) (oi := _) (v := ?_) rfl (by kernel_rfl) (by kernel_rfl) (by kernel_rfl) (fun _ _ _ h => h) (Or.inl ⟨by rfl, ?_⟩) (by assumption) ?_
          rotate_left
          · intro w hSw; obtain ⟨_, _⟩ := hSw; go_simp; (try with_reducible rfl)
          try change wpAnyH _ _ _ _ _ _ _ (Act.put _ (some 52) _) _
          try simp only [act_all]
          refine wpAnyH_take (i := 6) (oi := _) (v := ?_) rfl (by kernel_rfl) (by kernel_rfl) (by kernel_rfl) (fun _ _ _ h => h) (Or.inl ⟨by rfl, ?_⟩) (by assumption) ?_
          rotate_left
          · intro w hSw; obtain ⟨_, _⟩ := hSw; go_simp; (try with_reducible rfl)
          try change wpAnyH _ _ _ _ _ _ _ (Act.put _ (some 54) _) _
          try simp only [act_all]
          refine wpAnyH_ready (rs := [5, 7]) (by kernel_rfl) (by simp) ?_
          refine AllReadyH.cons (o := _) rfl (fun K hK => ?_) ?_
          · have v0 := (HK.out wa (Below.refl _ _)).1
            go_simp
            refine hK.out _ _ (HK.out _ D0).2 (fun hHeld => ?_)
            clear hK K
            try simp only [act_all]
            clear v0
            refine wpAnyH_ready (rs := [7]) (by kernel_rfl) (by simp) ?_
            refine AllReadyH.cons (o := _) rfl (fun K hK => ?_) AllReadyH.nil
            go_simp
            have D1 : Below wa.heap.size wa (wa.drew.alloc (Obj.cells #[.int .i64 p, .int .i64 q] 68)) := bal D0 _
            refine hK.out _ _ (HK.out _ D1).2 (fun hHeld => ?_)
            clear hK K
            try simp only [act_all]
            refine wpAnyH_ready (rs := [8]) (by kernel_rfl) (by simp) ?_
            refine AllReadyH.cons (o := _) rfl (fun K hK => ?_) AllReadyH.nil
            refine step_append_lies _ (by rfl) _ _ 22 (by rfl) (go + 1) 68 i2 _ 2 16 Try.underlying22 HT.out.1 HT.out.2.1 HT.out.2.2.1 HT.out.2.2.2 (by rfl) (by decide) (V i) k (ratC (inP N F i) (inQ N F i) k) (by rfl) ((own_below' HVO.out D0).alloc _) ⟨wa.drew.heap.size, 0, none⟩ 1 1 [.int .i64 p, .int .i64 q] (by rfl) (by rfl) (fun j u hu => World.news_of_block (cs := #[.int .i64 p, .int .i64 q]) (heap_new wa.drew _) j u hu) (by intro u hu; simp only [List.mem_cons, List.not_mem_nil, or_false] at hu; rcases hu with rfl | rfl <;> rfl) (by omega) (by unfold maxLen; omega) (by omega) (by first | (simp; omega) | (have := D0.size; have := D1.size; simp; omega)) _ rfl ?_
            intro g' cap' w9 hown' hgrow hor hlg
            have HVn := Lib.hid ((HVa.out.keep D1).next (g' := g') (cap' := cap') hit (by have := D1.size; omega) (by rw [HPQ.out.1, HPQ.out.2]; exact hown') hgrow (hor.imp id (fun h => Nat.le_of_eq h.symm)))
            have hk9 : ∀ b o v, wa.cell? ⟨b, o, none⟩ = some v → (V i).ownBlock ≠ some b → w9.cell? ⟨b, o, none⟩ = some v ∧ w9.frozen? ⟨b, o, none⟩ = wa.frozen? ⟨b, o, none⟩ := fun b o v hv hn => by
              have hlt9 : b < wa.heap.size := World.block_lt_of_cell? _ _ hv
              have hlt8 : b < (wa.drew.alloc (Obj.cells #[.int .i64 p, .int .i64 q] 68)).heap.size := by have := D1.size; omega
              exact ⟨((hgrow.cell_far ⟨b, o, none⟩ hlt8 (fun e => hn e.symm)).trans (D1.cell (p := ⟨b, o, none⟩) hlt9)).trans hv, (hgrow.frozen_far ⟨b, o, none⟩ hlt8 (fun e => hn e.symm)).trans (D1.frozen (p := ⟨b, o, none⟩) hlt9)⟩
            have hltk := HVO.out.lt
            have hng : (V i).ownBlock ≠ some go := fun e => by have := (hltk _ e).1; omega
            obtain ⟨x0, x1, x2⟩ := HK.out wa (Below.refl _ _)
            have y0 := hk9 go i _ x0 hng
            have y0f : w9.frozen? ⟨go, i, none⟩ = false := y0.2.trans HVF.out
            have y0c := y0.1
            have y1 := (hk9 ba 0 _ x1 hOB.out).1
            have y2 := (hk9 ba 1 _ x2 hOB.out).1
            have HRn : Hid (Ratw (w9.setCell ⟨go, i, none⟩ (.slice (some ⟨g', 0, none⟩) (k + 1) cap')) g7 N (fun i => inP N F i k) (fun i => inQ N F i k)) := Lib.hid (fun j hj => by
              obtain ⟨⟨r0, r1⟩, r2, r3⟩ := HRa.out j hj
              have s0 := hk9 g7 (j * 2) _ r0 (HNG.out i hit)
              have s1 := hk9 g7 (j * 2 + 1) _ r1 (HNG.out i hit)
              have e0 := s0.1
              have e1 := s1.1
              have e2 := s0.2.trans r2
              have e3 := s1.2.trans r3
              have hne : ¬ go = g7 := by omega
              exact ⟨⟨by go_cell, by go_cell⟩, by go_cell, by go_cell⟩)
            have DG0 : Below go wa w9 := Below.grown (D1.mono (by omega)) hgrow (by have := D1.size; omega) (fun q hq => by have := (hltk _ hq).1; omega)
            have DG : Below go wa (w9.setCell ⟨go, i, none⟩ (.slice (some ⟨g', 0, none⟩) (k + 1) cap')) := DG0.setCell (p := ⟨go, i, none⟩) (Nat.le_refl _) _
            have HMn := Lib.hid (HMa.out.keepB DG hgg)
            have HBn : Hid (Below w.heap.size w (w9.setCell ⟨go, i, none⟩ (.slice (some ⟨g', 0, none⟩) (k + 1) cap'))) := Lib.hid (HBa.out.trans (DG.mono hgo))
            have HNGn : Hid (∀ j, j < N → (updV V i (.slice (some ⟨g', 0, none⟩) (k + 1) cap') j).ownBlock ≠ some g7) := Lib.hid (fun j hj e => by
              unfold updV at e
              split at e
              · simp only [Value.ownBlock, Option.some.injEq] at e
                subst e
                rcases hor with h | h
                · exact HNG.out i hit h
                · have hl7 : g' < wa.heap.size := World.block_lt_of_cell? _ _ (HRa.out 0 (by omega)).1.1
                  have h8 : wa.heap.size ≤ g' := by rw [h]; exact D1.size
                  omega
              · exact HNG.out j hj e)
            have hsn : go < (w9.setCell ⟨go, i, none⟩ (.slice (some ⟨g', 0, none⟩) (k + 1) cap')).heap.size := by have := DG.size; omega
            refine hK.out _ _ ⟨y1, y2⟩ (fun hHeld => ?_)
            clear hK K
            try simp only [act_all]
            clear hown' hgrow hor hk9 hltk hng x0 x1 x2 y0 DG
            refine wpAnyH_take (i := 9) (oi := _) (v := ?_) rfl (by kernel_rfl) (by kernel_rfl) (by kernel_rfl) (fun _ _ _ h => h) (Or.inl ⟨by rfl, ?_⟩) (by assumption) ?_
            rotate_left
            · intro w hSw; obtain ⟨_, _⟩ := hSw; go_simp; (try with_reducible rfl)
            try change wpAnyH _ _ _ _ _ _ _ (Act.put _ (some 57) _) _
            try simp only [act_all]
            refine wpAnyH_ready (rs := [10]) (by kernel_rfl) (by simp) ?_
            refine AllReadyH.cons (o := _) rfl (fun K hK => ?_) AllReadyH.nil
            go_simp
            refine hK.out _ _ ⟨by go_cell, by go_cell⟩ (fun hHeld => ?_)
            clear hK K
            try simp only [act_all]
            refine wpAnyH_done (by kernel_rfl) ?_ _
            clear hHeld HK HVa HRa HMa HBa HVO HVF HNG y0f y0c y1 y2 D0 D1 hOB
            go_wp2_with fail
            go_roundw
            case rel => exact ⟨(i : Int) + 1, i + 1, _, by first | rfl | (rw [show wrap64 ((i : Int) + 1) = (i : Int) + 1 by simp only [wrap64]; omega]), by omega, by omega, HVn, HNGn, HRn, HMn, HBn, hsn⟩
            case measure => first | (simp [intOf]; done) | (simp [intOf]; omega)
          refine AllReadyH.cons (o := _) rfl (fun K hK => ?_) AllReadyH.nil
          go_simp
          have D1 : Below wa.heap.size wa (wa.drew.alloc (Obj.cells #[.int .i64 p, .int .i64 q] 68)) := bal D0 _
          refine hK.out _ _ (HK.out _ D1).2 (fun hHeld => ?_)
          clear hK K
          try simp only [act_all]
          refine wpAnyH_ready (rs := [5]) (by kernel_rfl) (by simp) ?_
          refine AllReadyH.cons (o := _) rfl (fun K hK => ?_) AllReadyH.nil
          have v0 := (HK.out wa (Below.refl _ _)).1
          go_simp
          refine hK.out _ _ (HK.out _ D1).2 (fun hHeld => ?_)
          clear hK K
          try simp only [act_all]
          clear v0
          refine wpAnyH_ready (rs := [8]) (by kernel_rfl) (by simp) ?_
          refine AllReadyH.cons (o := _) rfl (fun K hK => ?_) AllReadyH.nil
          refine step_append_lies _ (by rfl) _ _ 22 (by rfl) (go + 1) 68 i2 _ 2 16 Try.underlying22 HT.out.1 HT.out.2.1 HT.out.2.2.1 HT.out.2.2.2 (by rfl) (by decide) (V i) k (ratC (inP N F i) (inQ N F i) k) (by rfl) ((own_below' HVO.out D0).alloc _) ⟨wa.drew.heap.size, 0, none⟩ 1 1 [.int .i64 p, .int .i64 q] (by rfl) (by rfl) (fun j u hu => World.news_of_block (cs := #[.int .i64 p, .int .i64 q]) (heap_new wa.drew _) j u hu) (by intro u hu; simp only [List.mem_cons, List.not_mem_nil, or_false] at hu; rcases hu with rfl | rfl <;> rfl) (by omega) (by unfold maxLen; omega) (by omega) (by first | (simp; omega) | (have := D0.size; have := D1.size; simp; omega)) _ rfl ?_
          intro g' cap' w9 hown' hgrow hor hlg
          have HVn := Lib.hid ((HVa.out.keep D1).next (g' := g') (cap' := cap') hit (by have := D1.size; omega) (by rw [HPQ.out.1, HPQ.out.2]; exact hown') hgrow (hor.imp id (fun h => Nat.le_of_eq h.symm)))
          have hk9 : ∀ b o v, wa.cell? ⟨b, o, none⟩ = some v → (V i).ownBlock ≠ some b → w9.cell? ⟨b, o, none⟩ = some v ∧ w9.frozen? ⟨b, o, none⟩ = wa.frozen? ⟨b, o, none⟩ := fun b o v hv hn => by
            have hlt9 : b < wa.heap.size := World.block_lt_of_cell? _ _ hv
            have hlt8 : b < (wa.drew.alloc (Obj.cells #[.int .i64 p, .int .i64 q] 68)).heap.size := by have := D1.size; omega
            exact ⟨((hgrow.cell_far ⟨b, o, none⟩ hlt8 (fun e => hn e.symm)).trans (D1.cell (p := ⟨b, o, none⟩) hlt9)).trans hv, (hgrow.frozen_far ⟨b, o, none⟩ hlt8 (fun e => hn e.symm)).trans (D1.frozen (p := ⟨b, o, none⟩) hlt9)⟩
          have hltk := HVO.out.lt
          have hng : (V i).ownBlock ≠ some go := fun e => by have := (hltk _ e).1; omega
          obtain ⟨x0, x1, x2⟩ := HK.out wa (Below.refl _ _)
          have y0 := hk9 go i _ x0 hng
          have y0f : w9.frozen? ⟨go, i, none⟩ = false := y0.2.trans HVF.out
          have y0c := y0.1
          have y1 := (hk9 ba 0 _ x1 hOB.out).1
          have y2 := (hk9 ba 1 _ x2 hOB.out).1
          have HRn : Hid (Ratw (w9.setCell ⟨go, i, none⟩ (.slice (some ⟨g', 0, none⟩) (k + 1) cap')) g7 N (fun i => inP N F i k) (fun i => inQ N F i k)) := Lib.hid (fun j hj => by
            obtain ⟨⟨r0, r1⟩, r2, r3⟩ := HRa.out j hj
            have s0 := hk9 g7 (j * 2) _ r0 (HNG.out i hit)
            have s1 := hk9 g7 (j * 2 + 1) _ r1 (HNG.out i hit)
            have e0 := s0.1
            have e1 := s1.1
            have e2 := s0.2.trans r2
            have e3 := s1.2.trans r3
            have hne : ¬ go = g7 := by omega
            exact ⟨⟨by go_cell, by go_cell⟩, by go_cell, by go_cell⟩)
          have DG0 : Below go wa w9 := Below.grown (D1.mono (by omega)) hgrow (by have := D1.size; omega) (fun q hq => by have := (hltk _ hq).1; omega)
          have DG : Below go wa (w9.setCell ⟨go, i, none⟩ (.slice (some ⟨g', 0, none⟩) (k + 1) cap')) := DG0.setCell (p := ⟨go, i, none⟩) (Nat.le_refl _) _
          have HMn := Lib.hid (HMa.out.keepB DG hgg)
          have HBn : Hid (Below w.heap.size w (w9.setCell ⟨go, i, none⟩ (.slice (some ⟨g', 0, none⟩) (k + 1) cap'))) := Lib.hid (HBa.out.trans (DG.mono hgo))
          have HNGn : Hid (∀ j, j < N → (updV V i (.slice (some ⟨g', 0, none⟩) (k + 1) cap') j).ownBlock ≠ some g7) := Lib.hid (fun j hj e => by
            unfold updV at e
            split at e
            · simp only [Value.ownBlock, Option.some.injEq] at e
              subst e
              rcases hor with h | h
              · exact HNG.out i hit h
              · have hl7 : g' < wa.heap.size := World.block_lt_of_cell? _ _ (HRa.out 0 (by omega)).1.1
                have h8 : wa.heap.size ≤ g' := by rw [h]; exact D1.size
                omega
            · exact HNG.out j hj e)
          have hsn : go < (w9.setCell ⟨go, i, none⟩ (.slice (some ⟨g', 0, none⟩) (k + 1) cap')).heap.size := by have := DG.size; omega
          refine hK.out _ _ ⟨y1, y2⟩ (fun hHeld => ?_)
          clear hK K
          try simp only [act_all]
          clear hown' hgrow hor hk9 hltk hng x0 x1 x2 y0 DG
          refine wpAnyH_take (i := 9) (oi := _) (v := ?_) rfl (by kernel_rfl) (by kernel_rfl) (by kernel_rfl) (fun _ _ _ h => h) (Or.inl ⟨by rfl, ?_⟩) (by assumption) ?_
          rotate_left
          · intro w hSw; obtain ⟨_, _⟩ := hSw; go_simp; (try with_reducible rfl)
          try change wpAnyH _ _ _ _ _ _ _ (Act.put _ (some 57) _) _
          try simp only [act_all]
          refine wpAnyH_ready (rs := [10]) (by kernel_rfl) (by simp) ?_
          refine AllReadyH.cons (o := _) rfl (fun K hK => ?_) AllReadyH.nil
          go_simp
          refine hK.out _ _ ⟨by go_cell, by go_cell⟩ (fun hHeld => ?_)
          clear hK K
          try simp only [act_all]
          refine wpAnyH_done (by kernel_rfl) ?_ _
          clear hHeld HK HVa HRa HMa HBa HVO HVF HNG y0f y0c y1 y2 D0 D1 hOB
          go_wp2_with fail
          go_roundw
          case rel => exact ⟨(i : Int) + 1, i + 1, _, by first | rfl | (rw [show wrap64 ((i : Int) + 1) = (i : Int) + 1 by simp only [wrap64]; omega]), by omega, by omega, HVn, HNGn, HRn, HMn, HBn, hsn⟩
          case measure => first | (simp [intOf]; done) | (simp [intOf]; omega)
        · obtain rfl : i = N := by omega
          subst hy
          have HVt := Lib.hid HV.out.turn
          clear HV HR
          go_wp2_with fail
          go_roundw
          case rel => exact ⟨(k : Int) + 1, k + 1, V, by first | rfl | (rw [show wrap64 ((k : Int) + 1) = (k : Int) + 1 by simp only [wrap64]; omega]), by omega, by omega, HVt, HM, HB, hsw⟩
          case measure => first | (simp [intOf]; done) | (simp [intOf]; omega)
    · obtain rfl : k = N := by omega
      subst hz
      have hbl := HB.out
      clear HM HB
      go_wp2_with fail
      refine bodyPost_ret (v := .tuple #[.slice (some ⟨go, 0, none⟩) k k, .int .i64 0]) (by simp [results, Try.results41, go_sem]) rfl ⟨inR_ok hN1 HE.out HV.out, hbl⟩
end Go.Proofs.Ytdhlikedjephmaa
