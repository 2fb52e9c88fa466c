import Derived.Test.YtfilofnkiocbeaaCo8
import Derived.Test.YtfilofnkiocbeaaIr8
import Derived.Test.YtfilofnkiocbeaaBn8
namespace Ben
theorem maS_ag {h : Nat} {q : Nat → Nat} {st : Nat → Int} {σ : Nat → Bool} : maS h q st σ = (agB (stF σ) st h && agB (fun j => σ (q (2 * j))) (fun j => st (h + j)) h) := by
  rw [Bool.eq_iff_iff, Bool.and_eq_true, agB_iff, agB_iff]
  unfold maS
  rw [decide_eq_true_eq]
  exact ⟨fun H => ⟨fun k hk => (H k hk).1, fun k hk => (H k hk).2⟩, fun H j hj => ⟨H.1 j hj, H.2 j hj⟩⟩
/-- The loops of a permutation, as its choices need them. -/
structure Plan where
  L : Nat
  id : Nat → Nat
  par : Nat → Bool
  s : Nat → Nat
def PlOk (h : Nat) (q : Nat → Nat) (x : Plan) : Prop := Loops h x.L q x.id x.par x.s
end Ben
namespace Go.Proofs.Ytfilofnkiocbeaa
open Go.RowKit Go.Shelf Ben Prm
attribute [local go_sem] Oper.semAt_some
theorem Bow.bools {w : World} {g n : Nat} {f : Nat → Bool} (h : Bow w g n f) : Bools w (some ⟨g, 0, none⟩) n f := fun _ => ⟨g, 0, rfl, fun i hi => by rw [Nat.zero_add]; exact (h i hi).1⟩
theorem KeepsFrom.row {lo g : Nat} {A B : World} (h : KeepsFrom lo A B) (hg : lo ≤ g) (hA : g < A.heap.size) : B.heap[g]? = A.heap[g]? := h.2 g hg hA
theorem own_from {lo base : Nat} {A B : World} {e : TypeId} {s : Nat} {v : Value} {n : Nat} {xs : List Value} (h : A.ownsRow base e s v n xs) (hb : lo ≤ base) (hk : KeepsFrom lo A B) : B.ownsRow base e s v n xs :=
  ⟨h.1, h.2.imp (fun x => x) fun ⟨g, cap, cur, a, b, c, d⟩ => ⟨g, cap, cur, a, b, (hk.2 g (Nat.le_trans hb b) (Array.getElem?_eq_some_iff.1 c).1).trans c, d⟩⟩
theorem RowsV.from {lo base top : Nat} {A B : World} {V : Value} {i : Nat} {l G C : Nat → Nat} {F : Nat → Nat → Int} (h : RowsV A base top V i l G C F) (hb : lo ≤ base) (hk : KeepsFrom lo A B) : RowsV B base top V i l G C F :=
  ⟨own_from h.own hb hk, fun j hj => by
    obtain ⟨a, b, c, d⟩ := h.row j hj
    exact ⟨a.block (hk.2 _ (Nat.le_trans hb b) (Nat.lt_of_lt_of_le c h.top)), b, c, d⟩, h.blk, Nat.le_trans h.top hk.1⟩
/-- What the choices of a permutation are read from. -/
def KpC (h cap c0 c1 Bp Bs : Nat) (ao s0 s1 : Option Addr) (v2 v3 : Value) (p : Nat → Nat) (st : Nat → Int) (A : World) : Prop :=
  A.cell? ⟨Bp, 0, none⟩ = some (.slice ao (2 * h) cap) ∧ A.cell? ⟨Bs, 0, none⟩ = some (.slice s0 h c0) ∧ A.cell? ⟨Bs, 1, none⟩ = some (.slice s1 h c1) ∧ A.cell? ⟨Bs, 2, none⟩ = some v2 ∧ A.cell? ⟨Bs, 3, none⟩ = some v3 ∧
    Ints A ao (2 * h) (fun j => ((p j : Nat) : Int)) ∧ Ints A s0 h st ∧ Ints A s1 h (fun j => st (h + j))
set_option maxRecDepth 100000 in
set_option maxHeartbeats 1000000 in
theorem choices_in (n N cap : Nat) (ao : Option Addr) (v0 v1 v2 v3 : Value) (w : World) :
    CallsIn Fence.wide n Try.prog 72 #[.slice ao N cap, .agg #[v0, v1, v2, v3]] w fun e w' => e = .returned (.func (.func 82) #[] #[.pointer (some ⟨w.heap.size, 0, none⟩), .pointer (some ⟨w.heap.size + 1, 0, none⟩)]) ∧ (w.alloc (.cells #[.slice ao N cap] 28)).alloc (.cells #[v0, v1, v2, v3] 74) = w' := by
  refine callsIn_of_wp Try.func72 rfl trivial ?_ rfl
  simp only [Try.ntmps72, List.size_toArray, List.length_cons, List.length_nil, Nat.reduceAdd, Nat.reduceSub, Array.replicate_succ, Array.replicate_zero, List.push_toArray, List.append_toArray, List.nil_append, List.cons_append]
  gi_wp2
  go_ret
  exact ⟨rfl, rfl⟩
set_option maxRecDepth 100000 in
set_option maxHeartbeats 8000000 in
theorem choices_iter (n h cap c0 c1 Bp Bs : Nat) (ao s0 s1 : Option Addr) (v2 v3 : Value) (p q : Nat → Nat) (st : Nat → Int) (w0 : World) (h1 : 1 ≤ h) (h8 : h ≤ 8) (P : Pm (2 * h) p q) :
    IterV Fence.wide n Try.prog 82 #[.pointer (some ⟨Bp, 0, none⟩), .pointer (some ⟨Bs, 0, none⟩)] (PlOk h q) (fun x c v A => ChoR h p q (sdN x.id x.par c) A (.returned v)) (fun x c => maS h q st (sdN x.id x.par c)) (fun x => 2 ^ x.L) (KpC h cap c0 c1 Bp Bs ao s0 s1 v2 v3 p st) w0 := by
  intro l J D W hW hJb hJk hDb hY hSk h0 hK
  have HJB := Lib.hid hJb
  have HJK := Lib.hid hJk
  have HDB := Lib.hid hDb
  have HY := Lib.hid hY
  have HSK := Lib.hid hSk
  have H0 := Lib.hid h0
  have HP := Lib.hid P
  have HN := Lib.hid (And.intro h1 h8)
  obtain ⟨cB, _, _, _, _, hp, _, _⟩ := hK
  have HPC := Lib.hid hp
  clear hJb hJk hDb hY hSk h0 hW P h1 h8 hp
  refine callsIn_of_wp Try.func82 rfl trivial ?_ rfl
  simp only [Try.ntmps82, List.size_toArray, List.length_cons, List.length_nil, Nat.reduceAdd, Nat.reduceSub, Array.replicate_succ, Array.replicate_zero, List.push_toArray, List.append_toArray, List.nil_append, List.cons_append]
  gi_wp2_with fail
  refine ⟨trivial, (fun h => by simp [Fence.wide] at h), (callsIn_wide.2 (loopsOf_any h (2 * h) cap ao p q _ rfl HN.out.1 HN.out.2 HP.out HPC.out)).mono ?_⟩
  rintro e w1 ⟨⟨L, lc, gv, top, s, kk, G, C, rfl, hlps, h1L, hL, hkk, hrows⟩, hb⟩
  obtain ⟨id, par, hlo, hid⟩ := lps_loops HP.out hlps
  have HLO : Hid (PlOk h q ⟨L, id, par, s⟩) := Lib.hid hlo
  have HLP := Lib.hid hlps
  have HID := Lib.hid hid
  have HKK := Lib.hid hkk
  have HV := Lib.hid hrows
  have HLL := Lib.hid hL
  have HJ : Hid (J ⟨L, id, par, s⟩ 0 w1) := Lib.hid (HJB.out _ 0 _ _ (H0.out _) hb)
  have hsz1 := hb.size
  have L16 : (L : Int) ≤ 16 := by have := HN.out; omega
  have L0 : (0 : Int) ≤ (L : Int) := by omega
  clear hlo hlps hid hkk hrows hb cB HPC
  obtain ⟨M, hM⟩ : ∃ M, 2 ^ L = M := ⟨_, rfl⟩
  have hM16 : M ≤ 65536 := by rw [← hM]; exact Nat.pow_le_pow_right (by omega) (show L ≤ 16 by omega)
  have hw : wrap64 ((2 : Int) ^ L) = (M : Int) := by
    have e : (2 : Int) ^ L = (M : Int) := by rw [← hM]; simp
    rw [e]; unfold wrap64; omega
  have HM := Lib.hid (And.intro hM hM16)
  gi_wp2_with fail
  rw [hw]
  clear hw hM hM16 L16 L0
  obtain ⟨σm, hσm⟩ : ∃ σm : Nat → Nat → Bool, σm = fun m => sdN id par m := ⟨_, rfl⟩
  have HSM : Hid (∀ m, sdN id par m = σm m) := Lib.hid (fun m => by rw [hσm])
  clear hσm
  gi_loopw [12] (fun iv wr => ∃ m : Nat, iv = .int .i64 (m : Int) ∧ m ≤ M ∧ Hid (J ⟨L, id, par, s⟩ m wr) ∧ Hid (RowsV wr W.heap.size top (.slice (some ⟨gv, 0, none⟩) L lc) L (fun i => 2 * kk i) G C (fun i j => ((lpF p q (s i) j : Nat) : Int))) ∧ W.heap.size ≤ wr.heap.size) (fun iv _ => M - (intOf iv).toNat)
  case atStart => exact ⟨0, rfl, Nat.zero_le _, HJ, HV, hsz1⟩
  case round =>
    clear HJ HV hsz1
    obtain ⟨m, rfl, hm, HJ, HV, hsz⟩ := hrel
    by_cases hlt : m < M
    · have hlt' : (m : Int) < (M : Int) := by omega
      have m0 : (0 : Int) ≤ (m : Int) := by omega
      have m16 : (m : Int) < 65536 := by have := HM.out; omega
      obtain ⟨cB, d0, d1, d2, d3, hp, hs0, hs1⟩ := HJK.out _ _ _ HJ.out
      have HPC := Lib.hid hp
      have HS0 := Lib.hid hs0
      have HS1 := Lib.hid hs1
      have HMM := Lib.hid (And.intro hm hlt)
      clear hm hlt hp hs0 hs1
      gi_wp2_with fail
      refine ⟨trivial, (fun h => by simp [Fence.wide] at h), (callsIn_wide.2 (choiceOf_any h (2 * h) cap lc m W.heap.size top gv L ao p q s kk G C id par _ rfl HN.out.1 HN.out.2 HP.out HPC.out (by have h8 := HN.out; have h9 := HLL.out; omega) (by rw [HM.out.1]; exact HMM.out.2) HLO.out HLP.out HID.out HKK.out HV.out)).mono ?_⟩
      rw [HSM.out]
      obtain ⟨σ, hσ⟩ : ∃ σ, σm m = σ := ⟨_, rfl⟩
      rw [hσ]
      have HSG : Hid (sdN id par m = σ) := Lib.hid ((HSM.out m).trans hσ)
      clear hσ
      rintro e w2 ⟨⟨gf, gl, gu, gw, rfl, hF, hLL, hU, hVV⟩, hb2⟩
      obtain ⟨W3, hW3⟩ : ∃ W3, W3 = w2.alloc (.cells #[.slice (some ⟨gf, 0, none⟩) h h, .slice (some ⟨gl, 0, none⟩) h h, .slice (some ⟨gu, 0, none⟩) h h, .slice (some ⟨gw, 0, none⟩) h h] 80) := ⟨_, rfl⟩
      have hal : Below w2.heap.size w2 W3 := by rw [hW3]; exact (Below.refl _ _).alloc (Nat.le_refl _) _
      have hb3 : Below wr.heap.size wr W3 := hb2.trans (hal.mono hb2.size)
      have kc := (bcl hb3).1
      have HJ3 : Hid (J ⟨L, id, par, s⟩ m W3) := Lib.hid (HJB.out _ _ _ _ HJ.out hb3)
      have HV3 := Lib.hid (HV.out.keep hb3)
      have HCR : Hid (ChoR h p q σ W3 (.returned (.agg #[.slice (some ⟨gf, 0, none⟩) h h, .slice (some ⟨gl, 0, none⟩) h h, .slice (some ⟨gu, 0, none⟩) h h, .slice (some ⟨gw, 0, none⟩) h h]))) := Lib.hid ⟨gf, gl, gu, gw, rfl, hF.keep hal, hLL.keep hal, hU.keep hal, hVV.keep hal⟩
      have HF3 := Lib.hid (hF.keep hal)
      have HL3 := Lib.hid (hLL.keep hal)
      have HS03 := Lib.hid (HS0.out.keep hb3)
      have HS13 := Lib.hid (HS1.out.keep hb3)
      have e0 : W3.cell? ⟨Bs, 0, none⟩ = some (.slice s0 h c0) := (kc _ _ (World.block_lt_of_cell? wr _ d0)).trans d0
      have e1 : W3.cell? ⟨Bs, 1, none⟩ = some (.slice s1 h c1) := (kc _ _ (World.block_lt_of_cell? wr _ d1)).trans d1
      have k0 : W3.cell? ⟨w2.heap.size, 0, none⟩ = some (.slice (some ⟨gf, 0, none⟩) h h) := by rw [hW3]; go_cell
      have k1 : W3.cell? ⟨w2.heap.size, 1, none⟩ = some (.slice (some ⟨gl, 0, none⟩) h h) := by rw [hW3]; go_cell
      have k2 : W3.cell? ⟨w2.heap.size, 2, none⟩ = some (.slice (some ⟨gu, 0, none⟩) h h) := by rw [hW3]; go_cell
      have k3 : W3.cell? ⟨w2.heap.size, 3, none⟩ = some (.slice (some ⟨gw, 0, none⟩) h h) := by rw [hW3]; go_cell
      have hsz3 : W.heap.size ≤ W3.heap.size := Nat.le_trans hsz hb3.size
      have HW3 := Lib.hid hW3
      have f0 : w2.cell? ⟨Bs, 0, none⟩ = some (.slice s0 h c0) := ((bcl hb2).1 _ _ (World.block_lt_of_cell? wr _ d0)).trans d0
      have hBs : Bs < w2.heap.size := World.block_lt_of_cell? w2 _ f0
      clear hW3 hal hb2 hb3 kc hF hLL hU hVV HS0 HS1 HPC cB d0 d1 d2 d3 HJ HV
      gi_wp2_with fail
      rw [← HW3.out]
      clear f0 hBs
      refine ⟨trivial, (fun h => by simp [Fence.wide] at h), (callsIn_wide.2 (agree_any h h h c0 _ s0 (stF σ) st _ (by have := HN.out; omega) (Nat.le_refl _) (by have := HN.out; omega) HF3.out.bools HS03.out)).mono ?_⟩
      rintro e w' ⟨rfl, rfl⟩
      cases hA : agB (stF σ) st h with
      | false =>
        have HJ4 : Hid (J ⟨L, id, par, s⟩ (m + 1) W3) := Lib.hid (HSK.out _ _ _ HLO.out (by show m < 2 ^ L; rw [HM.out.1]; exact HMM.out.2) (by show maS h q st (sdN id par m) = false; rw [HSG.out, maS_ag, hA]; rfl) HJ3.out)
        clear HJ3 hA
        gi_wp2_with fail
        refine ⟨trivial, ?_⟩
        gi_wp2_with (refine wpListIn_skip (by rfl) (by rfl) ?_)
        go_roundw
        case rel => exact ⟨m + 1, by first | rfl | go_num, by have := HMM.out; omega, HJ4, HV3, hsz3⟩
        case measure => have := HMM.out; first | (simp [intOf]; done) | (simp [intOf]; omega)
      | true =>
        gi_wp2_with fail
        refine ⟨trivial, (fun h => by simp [Fence.wide] at h), (callsIn_wide.2 (agree_any h h h c1 _ s1 (fun j => σ (q (2 * j))) (fun j => st (h + j)) _ (by have := HN.out; omega) (Nat.le_refl _) (by have := HN.out; omega) HL3.out.bools HS13.out)).mono ?_⟩
        rintro e w' ⟨rfl, rfl⟩
        cases hB : agB (fun j => σ (q (2 * j))) (fun j => st (h + j)) h with
        | false =>
          have HJ4 : Hid (J ⟨L, id, par, s⟩ (m + 1) W3) := Lib.hid (HSK.out _ _ _ HLO.out (by show m < 2 ^ L; rw [HM.out.1]; exact HMM.out.2) (by show maS h q st (sdN id par m) = false; rw [HSG.out, maS_ag, hA, hB]; rfl) HJ3.out)
          clear HJ3 hA hB
          gi_wp2_with (refine wpListIn_skip (by rfl) (by rfl) ?_)
          go_roundw
          case rel => exact ⟨m + 1, by first | rfl | go_num, by have := HMM.out; omega, HJ4, HV3, hsz3⟩
          case measure => have := HMM.out; first | (simp [intOf]; done) | (simp [intOf]; omega)
        | true =>
          have hy0 := HY.out ⟨L, id, par, s⟩ m W3 (.agg #[.slice (some ⟨gf, 0, none⟩) h h, .slice (some ⟨gl, 0, none⟩) h h, .slice (some ⟨gu, 0, none⟩) h h, .slice (some ⟨gw, 0, none⟩) h h]) hsz3 HLO.out HJ3.out (by show m < 2 ^ L; rw [HM.out.1]; exact HMM.out.2) (by show maS h q st (sdN id par m) = true; rw [HSG.out, maS_ag, hA, hB]; rfl) (by show ChoR h p q (sdN id par m) W3 _; rw [HSG.out]; exact HCR.out)
          have HY0 := Lib.hid hy0
          clear hA hB hy0 HJ3
          gi_wp2
          obtain ⟨fn, tmps, assign, body, hy, hRn⟩ := HY0.out
          rw [hy, Oper.uponIn_round]
          clear hy HY0 k0 k1 k2 k3 e0 e1
          refine ⟨fun h => by simp [Fence.wide] at h, hRn.mono ?_⟩
          rintro e w5 ⟨hkf, ⟨rfl, hJ6⟩ | ⟨rfl, hD⟩⟩
          · have HJ6 := Lib.hid hJ6
            have HV6 := Lib.hid (HV3.out.from (Nat.le_refl _) hkf)
            have hsz6 : W.heap.size ≤ w5.heap.size := Nat.le_trans hsz3 hkf.1
            clear hRn hJ6 hkf HV3
            gi_wp2
            go_roundw
            case rel => exact ⟨m + 1, by first | rfl | go_num, by have := HMM.out; omega, HJ6, HV6, hsz6⟩
            case measure => have := HMM.out; first | (simp [intOf]; done) | (simp [intOf]; omega)
          · have HD := Lib.hid hD
            clear hRn hD hkf
            gi_wp2
            first | go_end0 | (refine bodyPost_ret (results_none _ _ _ (by kernel_rfl)) rfl ?_) | go_returns
            exact ⟨⟨_, rfl⟩, .inr HD.out⟩
    · have hmM : m = M := by omega
      have hnl : ¬ (m : Int) < (M : Int) := by omega
      have HJ2 : Hid (J ⟨L, id, par, s⟩ (2 ^ L) wr) := Lib.hid (by rw [HM.out.1, ← hmM]; exact HJ.out)
      clear hm hlt hmM HJ
      gi_wp2
      go_end0
      exact ⟨⟨_, rfl⟩, .inl ⟨⟨L, id, par, s⟩, HLO.out, HJ2.out⟩⟩
end Go.Proofs.Ytfilofnkiocbeaa
