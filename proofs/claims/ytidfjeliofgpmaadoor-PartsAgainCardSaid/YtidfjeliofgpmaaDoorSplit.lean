/- Contract of parts' split: each class that a set cuts is cut in two. -/
import Derived.Test.YtidfjeliofgpmaaDoorOL2
import Derived.Test.YtidfjeliofgpmaaDoorPart
import Derived.Test.YtidfjeliofgpmaaDoorWithout
namespace Go.Proofs.YtidfjeliofgpmaaDoor.Split
open Go.RowKit Go.Proofs.YtidfjeliofgpmaaDoor.Base Go.Proofs.YtidfjeliofgpmaaDoor.Sets Go.Proofs.YtidfjeliofgpmaaDoor.Bytes Go.Proofs.YtidfjeliofgpmaaDoor.SetL Go.Proofs.YtidfjeliofgpmaaDoor.OL Go.Proofs.YtidfjeliofgpmaaDoor.Part

theorem eq_zero (s : ST) (w : World) : (Op.equalIn 10000 35 (val s) (.agg #[.int .u64 0, .int .u64 0, .int .u64 0, .int .u64 0])).run Tryd.prog w = .ok (eqB s ST.none) w := eq_set4 _ _ _ _ _ _ _ _ w

set_option maxRecDepth 100000 in
theorem split_any {w : World} {v : Value} {L M : List ST} {a : ST} (hM : Part L M) (hv : OL w v M) (ha : a.Ok) :
    Calls Tryd.prog 24 #[v, val a] w fun e w' => ∃ v', e = .returned v' ∧ OL w' v' (splitL a M) ∧ Keep (fun b => v.ownBlock = some b) w w' ∧ (∀ g, v'.ownBlock = some g → v.ownBlock = some g ∨ w.heap.size ≤ g) := by
  have h0 : 0 < M.length := by
    obtain ⟨s, hs, -⟩ := hM.cover 0 (by decide)
    exact List.length_pos_of_mem hs
  have h256 := part_le hM
  obtain ⟨g, cap, rfl, hg, hgl, -, -⟩ := hv.get (List.getElem?_eq_getElem h0)
  have HM := Lib.hid (And.intro hM (And.intro ha (And.intro hv (And.intro h0 (And.intro hgl h256)))))
  clear hM ha hv h0 hgl hg
  go_enter Tryd.func24, Tryd.ntmps24
  go_wp2_with fail
  have a1 := At.new w (cells a) 35
  have q1 := (Keep.refl (fun b => b = g) w).alloc (.cells (cells a) 35)
  have hv1 := HM.out.2.2.1.keep ((Keep.refl (fun _ => False) w).alloc (.cells (cells a) 35)) (fun _ _ h => h)
  have A1 := Lib.hid (And.intro a1 (And.intro q1 hv1))
  clear a1 q1 hv1
  generalize (w.alloc (.cells (cells a) 35)) = W at *
  go_loopg [0, 10] M.length (fun gg u i wr => ∃ k : Nat, i = .int .i64 k ∧ k + gg = M.length ∧ OL wr u (mid a M k) ∧ At wr w.heap.size 35 (cells a) ∧ (∀ (i : Nat) s, k ≤ i → M[i]? = some s → ∀ j, j < 4 → wr.cell? ⟨g, i * 4 + j, none⟩ = some (.int .u64 (s.w j))) ∧ Keep (fun b => b = g) w wr ∧ (∀ g', u.ownBlock = some g' → g' = g ∨ w.heap.size < g'))
  case atStart =>
    refine ⟨0, rfl, by omega, by rw [mid_zero]; exact A1.out.2.2, A1.out.1, fun i s _ hs j hj => ?_, A1.out.2.1, fun g' h => ?_⟩
    · obtain ⟨g2, cap2, e, -, -, hc, -⟩ := A1.out.2.2.get hs
      cases e
      exact hc j hj
    · cases h
      exact .inl rfl
  case round =>
    obtain ⟨k, rfl, hk, hu, hb, hc, hq, hn⟩ := hrel
    by_cases hlt : k < M.length
    · obtain ⟨s, hs⟩ : ∃ s, M[k]? = some s := ⟨M[k], List.getElem?_eq_getElem hlt⟩
      have hlt' : (k : Int) < M.length := by omega
      have e0 : wr.cell? ⟨g, k * 4, none⟩ = some (.int .u64 s.x0) := hc k s (Nat.le_refl _) hs 0 (by omega)
      have e1 : wr.cell? ⟨g, k * 4 + 1, none⟩ = some (.int .u64 s.x1) := hc k s (Nat.le_refl _) hs 1 (by omega)
      have e2 : wr.cell? ⟨g, k * 4 + 2, none⟩ = some (.int .u64 s.x2) := hc k s (Nat.le_refl _) hs 2 (by omega)
      have e3 : wr.cell? ⟨g, k * 4 + 3, none⟩ = some (.int .u64 s.x3) := hc k s (Nat.le_refl _) hs 3 (by omega)
      obtain ⟨g', cap', rfl, hg', hgl', -, hf'⟩ := hu.get (i := k) (by rw [mid_at a M k k (Nat.le_refl _) hlt]; exact hs)
      obtain ⟨⟨d0, d1, d2, d3⟩, -⟩ := cells4 hb
      have hbl : w.heap.size < wr.heap.size := hb.lt
      have hok := HM.out.1.ok s (List.mem_of_getElem? hs)
      have H := Lib.hid (And.intro hk (And.intro hu (And.intro hb (And.intro hc (And.intro hq (And.intro hn (And.intro hs (And.intro hok (And.intro hgl' hf')))))))))
      clear hk hu hb hc hq hn hs hok hgl' hf'
      go_wp2_with fail
      refine (and_any s a H.out.2.2.2.2.2.2.2.1 HM.out.2.1 _).mono ?_
      rintro e w2 ⟨rfl, q2⟩
      have qa := (((Keep.refl (fun _ => False) wr).alloc (.cells (cells s) 35)).trans q2)
      have s2 := ((At.new wr (cells s) 35).keep q2 (fun h => h))
      clear e0 e1 e2 e3 d0 d1 d2 d3
      obtain ⟨⟨e0, e1, e2, e3⟩, -⟩ := cells4 s2
      have hsl : wr.heap.size < w2.heap.size := s2.lt
      have H2 := Lib.hid (And.intro qa s2)
      clear qa s2 q2
      generalize hn1 : wr.heap.size = n1 at *
      obtain ⟨hk, hu, hb, hc, hq, hn, hs, hok, hgl', hf'⟩ := H.out
      have hu2 := hu.keep H2.out.1 (fun _ _ h => h)
      have hb2 := hb.keep H2.out.1 (fun h => h)
      obtain ⟨⟨d0, d1, d2, d3⟩, -⟩ := cells4 hb2
      obtain ⟨g2, cap2, e, -, hgl2, hc2, hf2⟩ := hu2.get (i := k) (by rw [mid_at a M k k (Nat.le_refl _) hlt]; exact hs)
      cases e
      have x0 : w2.cell? ⟨g', k * 4, none⟩ = some (.int .u64 s.x0) := hc2 0 (by omega)
      have x1 : w2.cell? ⟨g', k * 4 + 1, none⟩ = some (.int .u64 s.x1) := hc2 1 (by omega)
      have x2 : w2.cell? ⟨g', k * 4 + 2, none⟩ = some (.int .u64 s.x2) := hc2 2 (by omega)
      have x3 : w2.cell? ⟨g', k * 4 + 3, none⟩ = some (.int .u64 s.x3) := hc2 3 (by omega)
      have y0 := hf2 (k * 4)
      have y1 := hf2 (k * 4 + 1)
      have y2 := hf2 (k * 4 + 2)
      have y3 := hf2 (k * 4 + 3)
      have hne1 : g' ≠ n1 := by omega
      have hne2 : g' ≠ w.heap.size := by
        have := HM.out.2.2.2.2.1
        rcases hn g' rfl with h | h <;> omega
      have hbl2 : w.heap.size < w2.heap.size := hb2.lt
      have hml : (k : Int) < ((mid a M k).length : Int) := by
        have := mid_le a M k (by omega)
        omega
      clear hk hu hb hc hq hn hs hok hgl' hf' hu2 hb2 hc2 hf2
      have HN1 := Lib.hid hn1
      clear hn1
      have E1 := fun w => eq_zero (s.and a) w
      have E2 := fun w => eq_set (s.and a) s w
      have hcut : cuts a s = (!eqB (s.and a) ST.none && !eqB (s.and a) s) := rfl
      have HC := Lib.hid hcut
      clear hcut
      generalize hr : s.and a = r at *
      have HR := Lib.hid hr
      clear hr
      generalize eqB r ST.none = b1 at *
      generalize eqB r s = b2 at *
      have hroundNo : cuts a s = false → OL (w2.alloc (.cells (cells r) 35)) (.slice (some ⟨g', 0, none⟩) (mid a M k).length cap') (mid a M (k + 1)) ∧ At (w2.alloc (.cells (cells r) 35)) w.heap.size 35 (cells a) ∧ (∀ (i : Nat) s, k + 1 ≤ i → M[i]? = some s → ∀ j, j < 4 → (w2.alloc (.cells (cells r) 35)).cell? ⟨g, i * 4 + j, none⟩ = some (.int .u64 (s.w j))) ∧ Keep (fun b => b = g) w (w2.alloc (.cells (cells r) 35)) := fun hno => by
        obtain ⟨hk, hu, hb, hc, hq, hn, hs, hok, hgl', hf'⟩ := H.out
        have qq := H2.out.1.alloc (.cells (cells r) 35)
        rw [mid_no hs hno]
        refine ⟨hu.keep qq (fun _ _ h => h), hb.keep qq (fun h => h), fun i s' hi hs' j hj => ?_, hq.trans (qq.mono fun _ h => h.elim)⟩
        rw [qq.cell (a := ⟨g, i * 4 + j, none⟩) (Nat.lt_of_lt_of_le HM.out.2.2.2.2.1 hq.size) (fun h => h)]
        exact hc i s' (by omega) hs' j hj
      have HN := Lib.hid hroundNo
      clear hroundNo
      cases b1
      · cases b2
        · go_wp2_with fail
          refine (without_any s a H.out.2.2.2.2.2.2.2.1 HM.out.2.1 _).mono ?_
          rintro e w3 ⟨rfl, q3⟩
          obtain ⟨hk, hu, hb, hc, hq, hn, hs, hok, hgl', hf'⟩ := H.out
          have hmk : k < (mid a M k).length := by omega
          have hu2 := hu.keep H2.out.1 (fun _ _ h => h)
          have hu3 := hu2.put hmk rfl r
          have qp := put4_keep w2 g' (k * 4) r
          have q3' := ((Keep.refl (fun _ => False) _).alloc (.cells (cells r) 35)).trans q3
          have hu4 := hu3.keep q3' (fun _ _ h => h)
          have qw3 : Keep (fun b => b = g') wr w3 := (H2.out.1.mono fun _ h => h.elim).trans (qp.trans (q3'.mono fun _ h => h.elim))
          have hb3 := hb.keep qw3 (fun h => hne2 h.symm)
          have hgw := HM.out.2.2.2.2.1
          have hqs := hq.size
          have hc3 : ∀ (i : Nat) s, k + 1 ≤ i → M[i]? = some s → ∀ j, j < 4 → w3.cell? ⟨g, i * 4 + j, none⟩ = some (.int .u64 (s.w j)) := fun i s' hi hs' j hj => by
            by_cases hgg : g' = g
            · have hm := mid_at a M k i (by omega) (List.getElem?_eq_some_iff.1 hs').1
              obtain ⟨g5, c5, e5, -, -, hcc, -⟩ := hu4.get (i := i) (s := s') (by rw [List.getElem?_set_ne (by omega), hm, hs'])
              have e6 : g' = g5 := by
                injection e5 with e6
                injection e6 with e6
                injection e6
              rw [← hgg, e6]
              exact hcc j hj
            · rw [qw3.cell (a := ⟨g, i * 4 + j, none⟩) (Nat.lt_of_lt_of_le hgw hqs) (fun h => hgg h.symm)]
              exact hc i s' (by omega) hs' j hj
          obtain ⟨v', w4, hrun, hv', hcase⟩ := hu4.push2 rfl (s.and a.not) (by rw [List.length_set]; have := mid_length a M k (by omega); have := HM.out.2.2.2.2.2; omega) 22
          have hmy : mid a M (k + 1) = (mid a M k).set k r ++ [s.and a.not] := by
            rw [mid_yes hs (by rw [HC.out]; rfl), HR.out]
          rw [← hmy] at hv'
          have hw3 : w.heap.size < w3.heap.size := hb3.lt
          have hfin : OL w4 v' (mid a M (k + 1)) ∧ At w4 w.heap.size 35 (cells a) ∧ (∀ (i : Nat) s, k + 1 ≤ i → M[i]? = some s → ∀ j, j < 4 → w4.cell? ⟨g, i * 4 + j, none⟩ = some (.int .u64 (s.w j))) ∧ Keep (fun b => b = g) w w4 ∧ (∀ g', v'.ownBlock = some g' → g' = g ∨ w.heap.size < g') := by
            have hgd := hn g' rfl
            have q03 : Keep (fun b => b = g) w w3 := hq.next qw3 (fun i hi hl => by
              subst hi
              rcases hgd with h | h
              · exact h
              · omega)
            rcases hcase with ⟨h1, h2⟩ | ⟨h1, h2⟩
            · refine ⟨hv', hb3.keep h2 (fun h => hne2 h.symm), fun i s' hi hs' j hj => ?_, q03.next h2 (fun i hi hl => by
                subst hi
                rcases hgd with h | h
                · exact h
                · omega), fun g5 h5 => by
                rw [h1] at h5
                injection h5 with h5
                subst h5
                exact hgd⟩
              by_cases hgg : g' = g
              · have hm := mid_at a M (k + 1) i hi (List.getElem?_eq_some_iff.1 hs').1
                obtain ⟨g5, c5, -, e5, -, hcc, -⟩ := hv'.get (i := i) (s := s') (by rw [hm, hs'])
                rw [h1] at e5
                injection e5 with e5
                subst e5
                rw [← hgg]
                exact hcc j hj
              · rw [h2.cell (a := ⟨g, i * 4 + j, none⟩) (by have := qw3.size; show g < w3.heap.size; omega) (fun h => hgg h.symm)]
                exact hc3 i s' hi hs' j hj
            · refine ⟨hv', hb3.keep h1 (fun h => h), fun i s' hi hs' j hj => ?_, q03.trans (h1.mono fun _ h => h.elim), fun g5 h5 => .inr (by have := h2 g5 h5; omega)⟩
              rw [h1.cell (a := ⟨g, i * 4 + j, none⟩) (by have := qw3.size; show g < w3.heap.size; omega) (fun h => h)]
              exact hc3 i s' hi hs' j hj
          have HF := Lib.hid (And.intro hk hfin)
          clear hk hu hb hc hq hn hs hok hgl' hf' hu2 hu3 qp q3' hu4 qw3 hb3 hgw hqs hc3 hv' hcase hmy hw3 hfin q3 hmk
          clear e0 e1 e2 e3 d0 d1 d2 d3 x0 x1 x2 x3 y0 y1 y2 y3
          generalize s.and a.not = S at *
          go_wp2_with (at_builtin; refine Lib.wpList_append_run _ rfl _ _ _ _ rfl _ _ rfl rfl _ _ hrun ?_)
          clear hrun
          go_wp2_with fail
          go_roundg (M.length - (k + 1))
          case measure => have := HF.out.1; omega
          case rel =>
            exact ⟨k + 1, by go_num, by have := HF.out.1; omega, HF.out.2.1, HF.out.2.2.1, HF.out.2.2.2.1, HF.out.2.2.2.2.1, HF.out.2.2.2.2.2⟩
        · go_wp2_with fail
          go_roundg (M.length - (k + 1))
          case measure => have := H.out.1; omega
          case rel =>
            obtain ⟨h1, h2, h3, h4⟩ := HN.out (by rw [HC.out]; rfl)
            exact ⟨k + 1, by go_num, by have := H.out.1; omega, h1, h2, h3, h4, H.out.2.2.2.2.2.1⟩
      · go_wp2_with fail
        go_roundg (M.length - (k + 1))
        case measure => have := H.out.1; omega
        case rel =>
          obtain ⟨h1, h2, h3, h4⟩ := HN.out (by rw [HC.out]; rfl)
          exact ⟨k + 1, by go_num, by have := H.out.1; omega, h1, h2, h3, h4, H.out.2.2.2.2.2.1⟩
    · have hkM : k = M.length := by omega
      subst hkM
      rw [mid_end] at hu
      have H := Lib.hid (And.intro hu (And.intro hq hn))
      clear hu hq hn hc hb hk
      go_wp2
      go_ret
      refine ⟨_, rfl, H.out.1, H.out.2.1.mono fun b hb => by rw [hb]; rfl, fun g' h => ?_⟩
      rcases H.out.2.2 g' h with h | h
      · exact .inl (by rw [h]; rfl)
      · exact .inr (by omega)
end Go.Proofs.YtidfjeliofgpmaaDoor.Split
