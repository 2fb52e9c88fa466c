import Derived.Test.YtjodjfllgofkaaaPy
namespace Go.Proofs.Ytjodjfllgofkaaa
open Go.RowKit Amp Prm
set_option maxRecDepth 100000 in
set_option maxHeartbeats 2000000 in
theorem sameItems_yes (n cap dap : Nat) (ao bo : Option Addr) (f : Nat → It) (w : World) (hn : n ≤ 9223372036854775807) (hc : Its w ao n f) (hd : Its w bo n f) :
    Calls Try.prog 37 #[.slice ao n cap, .slice bo n dap] w fun e w' => e = .returned (.bool true) ∧ Below w.heap.size w w' := by
  have HC := Lib.hid hc
  have HD := Lib.hid hd
  clear hc hd
  go_enter Try.func37, Try.ntmps37
  go_wp2_with fail
  go_loopw [5] (fun i wr => ∃ k : Nat, i = .int .i64 k ∧ k ≤ n ∧ Below w.heap.size w wr) (fun i _ => n - (intOf i).toNat)
  case atStart => exact ⟨0, rfl, Nat.zero_le _, by go_grown⟩
  case round =>
    obtain ⟨k, rfl, hk, hbel⟩ := hrel
    by_cases hlt : k < n
    · have hlt' : (k : Int) < (n : Int) := by omega
      obtain ⟨b, o, rfl, hcell⟩ := (Its.keep HC.out hbel) (by omega)
      obtain ⟨b', o', rfl, hcell'⟩ := (Its.keep HD.out hbel) (by omega)
      obtain ⟨c0, c1, c2, c3, _⟩ := hcell k hlt
      obtain ⟨d0, d1, d2, d3, _⟩ := hcell' k hlt
      obtain ⟨⟨x0, x1, x2, x3⟩, hx⟩ : ∃ x, f k = x := ⟨_, rfl⟩
      rw [hx] at c0 c1 c2 c3 d0 d1 d2 d3
      simp only at c0 c1 c2 c3 d0 d1 d2 d3
      clear hcell hcell' hx
      go_wp2_with fail
      go_region
      all_goals
        go_wp2_with fail
        go_roundw
        case rel => exact ⟨k + 1, by go_num, by omega, by go_grown⟩
        case measure => simp [intOf]; omega
    · obtain rfl : k = n := by omega
      go_wp2_with fail
      go_returns
      exact ⟨rfl, hbel⟩
end Go.Proofs.Ytjodjfllgofkaaa

namespace Go.Proofs.Ytjodjfllgofkaaa
open Go.RowKit Amp Prm
def lenV : Value → Nat
  | .slice _ n _ => n
  | _ => 0
set_option maxRecDepth 100000 in
set_option maxHeartbeats 2000000 in
theorem rCrossings_no (n cap : Nat) (ao : Option Addr) (f : Nat → Int) (w : World) (hn : n ≤ 9223372036854775807) (hc : Ints w ao n f) (hp : csE n f ≠ 0) :
    Calls Try.prog 34 #[.slice ao n cap] w fun e w' => e = .returned (.tuple #[.slice none 0 0, .int .i64 (csE n f)]) ∧ Below w.heap.size w w' := by
  have HC := Lib.hid hc
  obtain ⟨er, her⟩ : ∃ er, csE n f = er := ⟨_, rfl⟩
  have HPP : Hid (permB n f = false ∧ er = 40 ∨ permB n f = true ∧ 6 < n ∧ er = 4) := Lib.hid (by
    unfold csE at hp her
    cases h : permB n f with
    | false => rw [h] at her; left; exact ⟨rfl, by rw [← her]; rfl⟩
    | true =>
      rw [h, if_pos rfl] at her hp
      right
      by_cases h6 : n ≤ 6
      · rw [if_pos h6] at hp; exact absurd rfl hp
      · rw [if_neg h6] at her; exact ⟨rfl, by omega, her.symm⟩)
  rw [her]
  clear hc hp her
  go_enter Try.func34, Try.ntmps34
  go_wp2_with fail
  refine (rValidPerm_any n cap ao f _ hn HC.out).mono ?_
  rintro e w1 ⟨rfl, hb⟩
  have D1 := Lib.hid hb
  clear hb
  rcases HPP.out with ⟨hp, rfl⟩ | ⟨hp, h6, rfl⟩
  · have HP := Lib.hid hp
    rw [HP.out]
    clear hp
    go_wp2_with fail
    go_returns
    exact ⟨rfl, D1.out⟩
  · have HP := Lib.hid hp
    rw [HP.out]
    have h6' : 6 < (n : Int) := by omega
    clear hp h6
    go_wp2_with fail
    go_returns
    exact ⟨rfl, D1.out⟩

set_option maxRecDepth 100000 in
set_option maxHeartbeats 4000000 in
theorem rCrossings_ok (n cap b o : Nat) (f : Nat → Int) (w : World) (hc : ∀ i, i < n → w.cell? ⟨b, o + i, none⟩ = some (.int .i64 (f i))) (hp : permB n f = true) (h6 : n ≤ 6) :
    Calls Try.prog 34 #[.slice (some ⟨b, o, none⟩) n cap] w fun e w' => CrRet w' e (exs n (inv n f) f) ∧ Below w.heap.size w w' := by
  obtain ⟨h1, h64, _⟩ := permB_yes hp
  obtain ⟨i0, hi, hz0, hz1, hz2⟩ := info_parts infoItem
  have HI := Lib.hid (And.intro hi (And.intro hz0 (And.intro hz1 hz2)))
  clear hi hz0 hz1 hz2
  obtain ⟨j0, hi, hz0, hz1, hz2⟩ := info_parts infoInt
  have HJ := Lib.hid (And.intro hi (And.intro hz0 (And.intro hz1 hz2)))
  clear hi hz0 hz1 hz2
  have HC := Lib.hid hc
  have HP := Lib.hid hp
  have hbs : b < w.heap.size := World.block_lt_of_cell? w _ (hc 0 (by omega))
  have h6' : (n : Int) ≤ 6 := by omega
  clear hc hp
  go_enter Try.func34, Try.ntmps34
  go_wp2_with fail
  refine (rValidPerm_any n cap (some ⟨b, o, none⟩) f _ (by omega) (fun _ => ⟨b, o, rfl, HC.out⟩)).mono ?_
  rintro e w1 ⟨rfl, hb⟩
  rw [HP.out]
  have HC1 : Hid (∀ i, i < n → w1.cell? ⟨b, o + i, none⟩ = some (.int .i64 (f i))) := Lib.hid fun i hi => (hb.cell (p := ⟨b, o + i, none⟩) hbs).trans (HC.out i hi)
  have D1 := Lib.hid hb
  have hsw : w.heap.size ≤ w1.heap.size := hb.size
  have hbs1 : b < w1.heap.size := Nat.lt_of_lt_of_le hbs hb.size
  clear hb
  go_wp2_with (at_builtin; refine wpList_append_own _ rfl (.tmp 13) (.tmp 14) 36 rfl w1.heap.size 3 j0 _ 1 8 Try.underlying36 HJ.out.1 HJ.out.2.1 HJ.out.2.2.1 HJ.out.2.2.2 rfl (by decide) _ 0 [] rfl (World.ownsRow_made w1 #[] 0 (Nat.le_refl _) (by unfold maxLen; omega) rfl) ⟨b, o, none⟩ n cap (cellsI f n) rfl ?c0 ?c1 ?c2 ?c3 ?c4 ?c5 ?_)
  case c0 => rw [cellsI_len]; omega
  case c1 =>
    intro j u hu
    have hj : j < n := by have := (List.getElem?_eq_some_iff.1 hu).1; rwa [cellsI_len] at this
    rw [cellsI_get f hj] at hu
    rw [Addr.add_lit, ← hu]
    exact (((Below.refl _ _).alloc (Nat.le_refl _) _).cell (p := ⟨b, o + j, none⟩) hbs1).trans (HC1.out j hj)
  case c2 => exact cellsI_one f n
  case c3 => unfold maxLen; omega
  case c4 => omega
  case c5 => first | omega | (simp; done) | (simp; omega)
  intro v' w2 hown hgrow _
  (try simp only [Nat.zero_add, List.nil_append] at hown)
  obtain ⟨g0, cap', rfl, hgB, hgs, _, _⟩ := own_fm hown h1
  have HW : Hid (Intw w2 g0 n f) := Lib.hid (Intw.of_own hown fun i hi => cellsI_get f hi)
  have D2 : Below w.heap.size w w2 := Below.grown (D1.out.alloc hsw _) hgrow (by first | omega | (simp; done) | (simp; omega)) (fun k hk => by simp [Value.ownBlock] at hk; omega)
  clear hown hgrow
  go_wp2_with fail
  go_loopw [5, 6] (fun ov kv wr => ∃ (l : List Nat) (g : Nat → Int) (k lc : Nat) (lo : Option Addr), ov = .slice lo l.length lc ∧ kv = .int .i64 k ∧ k + 1 ≤ n ∧ Hid (Runs n f l g) ∧ Hid (∀ j, j < k → g j ≤ g (j + 1)) ∧ Hid (Intw wr g0 n g) ∧ Hid (wr.ownsRow w2.heap.size 68 4 (.slice lo l.length lc) l.length (crow l)) ∧ Below w.heap.size w wr ∧ g0 < wr.heap.size ∧ w2.heap.size ≤ wr.heap.size) (fun ov kv _ => (inv n f - lenV ov) * (n + 1) + (n - (intOf kv).toNat))
  case atStart => exact ⟨[], f, 0, 0, none, rfl, rfl, h1, Lib.hid .nil, Lib.hid fun j hj => by omega, HW, Lib.hid (World.ownsRow_nil _ _ _ _), D2, hgs, Nat.le_refl _⟩
  case round =>
    obtain ⟨l, g, k, lc, lo, rfl, rfl, hk, HR, HD, HG, HO, hbel, hg0, hw2⟩ := hrel
    by_cases hlt : k + 1 < n
    · have hlt' : (k : Int) + 1 < (n : Int) := by omega
      have hk1 : k < n := by omega
      obtain ⟨c0, d0⟩ := HG.out k hk1
      obtain ⟨c1, d1⟩ := HG.out (k + 1) hlt
      obtain ⟨x, hx⟩ : ∃ x, g k = x := ⟨_, rfl⟩
      obtain ⟨y, hy⟩ : ∃ y, g (k + 1) = y := ⟨_, rfl⟩
      rw [hx] at c0
      rw [hy] at c1
      by_cases hxy : y < x
      · have hd : desc g (n - 1) 0 = some k := desc_some_of (Nat.zero_le _) (by omega) (by rw [hx, hy]; exact hxy) (fun j _ hj => by have := HD.out j hj; omega)
        have HR2 : Hid (Runs n f (l ++ [k]) (swp g k)) := Lib.hid (HR.out.step hd)
        have hV := inv_swp (n := n) hlt (by rw [hx, hy]; exact hxy : g (k + 1) < g k)
        have hIV := HR.out.inv
        have HM : Hid ((inv n f - (l.length + 1)) * (n + 1) + n < (inv n f - l.length) * (n + 1) + (n - k)) := Lib.hid (by
          obtain ⟨q, hq⟩ : ∃ q, inv n f - (l.length + 1) = q := ⟨_, rfl⟩
          have h2 : inv n f - l.length = q + 1 := by omega
          rw [hq, h2, Nat.succ_mul]
          omega)
        have hbd : l.length ≤ 36 := by have := inv_le n f; have := Nat.mul_le_mul h6 h6; omega
        have HXY := Lib.hid (And.intro hx hy)
        clear hd hV hIV hx hy
        go_wp2_with fail
        go_region
        all_goals
          go_wp2_with (at_builtin; refine wpList_append_own _ rfl (.tmp 31) (.tmp 35) 22 rfl w2.heap.size 68 i0 _ 4 40 Try.underlying22 HI.out.1 HI.out.2.1 HI.out.2.2.1 HI.out.2.2.2 rfl (by decide) _ l.length (crow l) rfl (HO.out.drew.alloc _) ⟨wr.heap.size, 0, none⟩ 1 1 (cellsC k) rfl rfl ?c1 ?c2 ?c3 ?c4 ?c5 ?_)
          case c1 => exact fun j u hu => World.news_of_block (cs := #[.int .i64 3, .int .i64 ((k : Int) + 1), .int .i64 0, .string ⟨#[]⟩]) (World.alloc_heap_new wr _) j u hu
          case c2 =>
            intro u hu
            simp only [cellsC, List.mem_cons, List.not_mem_nil, or_false] at hu
            rcases hu with rfl | rfl | rfl | rfl <;> rfl
          case c3 => unfold maxLen; omega
          case c4 => omega
          case c5 => simp; omega
          intro v' w3 hown' hgrow _
          obtain ⟨g', lc', rfl, hgB', hgs', _, _⟩ := own_fm hown' (by omega)
          rw [← crow_snoc] at hown'
          have hne : some g0 ≠ (Value.slice lo l.length lc).ownBlock := fun e => by have := (HO.out.lt _ e.symm).1; omega
          have HG3 : Hid (Intw w3 g0 n g) := Lib.hid (HG.out.block ((hgrow.block g0 (by simp; omega) hne).trans (Below.heap_alloc wr _ _ hg0)))
          have HB3 : Below w.heap.size w w3 := Below.grown ((hbel.alloc (by omega) _).drew) hgrow (by simp; omega) (fun k hk => by have := (HO.out.lt k hk).1; omega)
          have hz3 : w2.heap.size < w3.heap.size := by omega
          have HS : Hid (Intw ((w3.setCell ⟨g0, k, none⟩ (.int .i64 y)).setCell ⟨g0, k + 1, none⟩ (.int .i64 x)) g0 n (swp g k)) := Lib.hid (HG3.out.swap hlt HXY.out.1 HXY.out.2)
          have HO3 := Lib.hid (own_set (own_set hown' (b := g0) (k := k) (u := .int .i64 y) hgs) (b := g0) (k := k + 1) (u := .int .i64 x) hgs)
          obtain ⟨p0, q0⟩ := HG3.out k hk1
          obtain ⟨p1, q1⟩ := HG3.out (k + 1) hlt
          rw [HXY.out.1] at p0
          rw [HXY.out.2] at p1
          have hlen : l.length + 1 = (l ++ [k]).length := by simp
          have HL := Lib.hid hlen
          clear c0 d0 c1 d1 hown' hgrow hne hlen
          go_wp2_with fail
          go_region
          all_goals
            go_wp2_with fail
            go_roundw
            case rel => exact ⟨l ++ [k], swp g k, 0, lc', some ⟨g', 0, none⟩, by simp, rfl, by omega, HR2, Lib.hid fun j hj => by omega, HS, Lib.hid (by rw [← HL.out]; exact HO3.out), by go_grown, by simp; omega, by simp; omega⟩
            case measure =>
              have := HM.out
              simp only [intOf, lenV]
              simp
              omega
      · have HD2 : Hid (∀ j, j < k + 1 → g j ≤ g (j + 1)) := Lib.hid fun j hj => by
          by_cases e : j = k
          · subst e; rw [hx, hy]; omega
          · exact HD.out j (by omega)
        have hxy' : x ≤ y := by omega
        have HM : Hid (0 < n - k) := Lib.hid (by omega)
        clear hx hy hxy
        go_wp2_with fail
        go_region
        all_goals
          go_wp2_with fail
          go_roundw
          case rel => exact ⟨l, g, k + 1, lc, lo, rfl, by go_num, by omega, HR, HD2, Lib.hid (HG.out.keep (by go_grown)), Lib.hid (own_below' HO.out (by go_grown)), by go_grown, by simpa using hg0, by simpa using hw2⟩
          case measure => simp [intOf, lenV]; omega
    · have hke : k = n - 1 := by omega
      have hdn : desc g (n - 1) 0 = none := desc_none_of fun j _ hj => by have := HD.out j (by omega); omega
      have hpe := HR.out.all hdn
      obtain ⟨ao, ac, he, hits⟩ := Its.of_crow HO.out
      obtain ⟨rfl, rfl⟩ : lo = ao ∧ lc = ac := by simpa using he
      have HITS := Lib.hid hits
      have hge : ¬ ((k : Int) + 1 < (n : Int)) := by omega
      have HPE := Lib.hid hpe
      clear hdn hpe he hits
      go_wp2_with fail
      go_returns
      rw [← HPE.out]
      exact ⟨⟨lo, lc, rfl, HITS.out⟩, hbel⟩
end Go.Proofs.Ytjodjfllgofkaaa
