/- The document's Most of a plain expression (layer 13). -/
import Derived.Test.YthcjfgfbeollpaaKG29
import Derived.Test.YthcjfgfbeollpaaKG34
namespace Go.Proofs.Ythcjfgfbeollpaa.P13
open Go.RowKit Go.Proofs.Ythcjfgfbeollpaa.Base Go.Proofs.Ythcjfgfbeollpaa.Bytes Go.Proofs.Ythcjfgfbeollpaa.P07 Go.Proofs.Ythcjfgfbeollpaa.P08 Go.Proofs.Ythcjfgfbeollpaa.P09
open Go.Proofs.Ythcjfgfbeollpaa.Sets (ST)

def MostOkP (t : T) : Prop := ∀ (d : Nat), RT d t → isP t = true → bnd 0 (cnt t) ≤ 9000000000000000000 → ∀ (a : Option Addr) (c : Nat) (w : World), Lie w (fun _ => True) a t.subs → Calls Try.prog 28 #[nodeV t a c] w fun e w' => e = .returned (.int .i64 (mostI t)) ∧ Keep (fun _ => False) w w'

set_option maxRecDepth 100000 in
set_option maxHeartbeats 4000000 in
theorem fmostp_all : ∀ (n : Nat) (t : T), SizeOf.sizeOf t < n → MostOkP t
  | 0, _, h => absurd h (Nat.not_lt_zero _)
  | n + 1, t, h => fun d hR hp hB a c w hL => by
    have hlen := hL.len
    have H0 := Lib.hid (And.intro ((Keep.refl (fun _ => False) w).alloc (.cells (ncells t a c) 27)) (And.intro (Bx.new (c := c) hL) (fmostp_all n)))
    have hcb := fun (s : T) (i : Nat) (h : t.subs[i]? = some s) => bnd_mono (Nat.le_refl 0) (show cnt s ≤ cnt t by have := cntL_le h; rw [cnt_eq t]; omega)
    have hcl : bnd 0 (cntL t.subs) ≤ bnd 0 (cnt t) := bnd_mono (Nat.le_refl 0) (by rw [cnt_eq t]; omega)
    have hsub := fun (s : T) (i : Nat) (h : t.subs[i]? = some s) => sub_RT hR h
    have HPP := Lib.hid hp
    clear hp
    have e := mostI_eq t
    have hnc := fun W (hq : Keep (fun _ => False) w W) => fnone_any t d hR a c W (hL.keepF hq)
    obtain ⟨A, hA⟩ : ∃ A, mostI t = A := ⟨_, rfl⟩
    obtain ⟨E, hE⟩ : ∃ E, noneB t = E := ⟨_, rfl⟩
    rw [hA, hE] at e
    rw [hE] at hnc
    rw [hA]
    have HE := Lib.hid (And.intro e (And.intro hsub (And.intro hcb (And.intro hR (And.intro hnc (And.intro hB hcl))))))
    have HN := Lib.hid h
    clear hL e hA h hsub hR hE hB hcl hnc hcb
    obtain ⟨c0, c1, c2, c3, c4, c5, c6, c7⟩ := H0.out.2.1.eight
    go_enter Try.func28, Try.ntmps28
    go_upto_region 1 with fail
    generalize (w.alloc (.cells (ncells t a c) 27)) = W at *
    generalize w.heap.size = n0 at *
    go_wp2_with fail
    refine (HE.out.2.2.2.2.1 W H0.out.1).mono ?_
    rintro e w1 ⟨rfl, q1⟩
    have H1 := Lib.hid (And.intro (H0.out.2.1.keep q1) (H0.out.1.trans q1))
    clear q1 c0 c1 c2 c3 c4 c5 c6 c7
    have hA := HE.out.1
    cases E with
    | true =>
      rw [if_pos rfl] at hA
      subst hA
      go_wp2_with fail
      go_ret
      exact ⟨rfl, H1.out.2⟩
    | false =>
      rw [if_neg (by decide)] at hA
      obtain ⟨c0, -, -, -, -, -, c6, c7⟩ := H1.out.1.eight
      by_cases k2 : t.kind = 2
      · rw [if_pos k2] at hA
        subst hA
        have b2 : (t.kind == 2) = true := by simp [k2]
        clear k2
        go_wp2_with fail
        go_ret
        exact ⟨rfl, H1.out.2⟩
      have b2 : (t.kind == 2) = false := by simp [k2]
      rw [if_neg k2] at hA
      by_cases k34 : t.kind = 3 ∨ t.kind = 4
      · rw [if_pos k34] at hA
        have HA := Lib.hid hA
        have b5 : (t.kind == 5) = false := by simp; omega
        have hb34 : ((t.kind == 3) = true ∧ (t.kind == 4) = false ∧ t.kind = 3) ∨ ((t.kind == 3) = false ∧ (t.kind == 4) = true ∧ t.kind ≠ 3) := by
          rcases k34 with h | h
          · exact .inl ⟨by simp [h], by simp [h], h⟩
          · exact .inr ⟨by simp [h], by simp [h], by omega⟩
        clear k2 k34 hA
        rcases hb34 with ⟨b3, b4, h3⟩ | ⟨b3, b4, h3⟩
        all_goals
          have H3 := Lib.hid h3
          clear h3
          go_wp2_with fail
          clear c0 c6 c7
          go_loopg [3, 4, 5] t.subs.length (fun gg m i s5 wr => ∃ (k : Nat) (M : Int), i = .int .i64 k ∧ k + gg = t.subs.length ∧ m = .int .i64 M ∧ mostL t.kind 0 (t.subs.take k) = M ∧ 0 ≤ M ∧ Keep (fun _ => False) w1 wr)
          case atStart => exact ⟨0, 0, rfl, by omega, rfl, by rw [List.take_zero, mostL], by omega, Keep.refl _ _⟩
          case round =>
            obtain ⟨k, M, rfl, hk, rfl, hM, hM0, hq⟩ := hrel
            have B1 := H1.out.1.keep hq
            obtain ⟨c0, -, -, -, -, -, -, c7⟩ := B1.eight
            by_cases hlt : k < t.subs.length
            · have hlt' : (k : Int) < t.subs.length := by omega
              have i0 : (0 : Int) ≤ k := by omega
              obtain ⟨s, hs⟩ : ∃ s, t.subs[k]? = some s := ⟨t.subs[k], List.getElem?_eq_getElem hlt⟩
              obtain ⟨bl, off, a1, e1, rfl, L1, d0, d1, d2, d3, d4, d5, d6, d7⟩ := B1.sub hs
              have hsl := sub_less hs
              have ht := mostL_take hs hM hM0
              have hst := mostL_stop hs hM hM0
              have hb2 := bnd_mono (Nat.le_refl 0) (cntL_pre t.subs (k + 1))
              have hb3 := mostL_bndP (t.subs.take (k + 1)) d t.kind (RL_take _ (k + 1) HE.out.2.2.2.1.subs) (fun u hu => isP_subs HPP.out u (List.mem_of_mem_take hu)) 0 (by omega)
              have hb4 := HE.out.2.2.2.2.2.2
              have hb5 := HE.out.2.2.2.2.2.1
              have hnn := fun W hL => fnone_any s d (HE.out.2.1 s k hs) a1 e1 W hL
              have hcall := fun W hL => H0.out.2.2 s (by have := HN.out; omega) d (HE.out.2.1 s k hs) (isP_subs HPP.out s (List.mem_of_getElem? hs)) (by have := HE.out.2.2.1 s k hs; omega) a1 e1 W hL
              have hV1 := (most_bnd s d (HE.out.2.1 s k hs)).1
              have hcs := HE.out.2.2.1 s k hs
              have hV2 := most_p (isP_subs HPP.out s (List.mem_of_getElem? hs))
              obtain ⟨V, hV⟩ : ∃ V, mostI s = V := ⟨_, rfl⟩
              obtain ⟨F, hF⟩ : ∃ F, noneB s = F := ⟨_, rfl⟩
              rw [hV] at hcall ht hst hV1 hV2
              rw [hF] at hnn ht hst
              have hMV : F = false → 0 ≤ V → t.kind = 3 → M + V ≤ 9000000000000000000 := fun hf hv h3 => by
                rw [hf, if_neg (by decide), if_neg (by omega), if_pos h3] at ht
                rw [ht] at hb3
                omega
              have HQ := Lib.hid (And.intro hq (And.intro hcall (And.intro ht (And.intro hst (And.intro hnn (And.intro L1 (And.intro hM hMV)))))))
              have hVb : V ≤ 9000000000000000000 := by omega
              clear hq hcall ht hM B1 hs hV hF hst hb2 hb3 hb4 hb5 hnn L1 hMV hcs hV2
              go_wp2_with fail
              refine (HQ.out.2.2.2.2.1 wr HQ.out.2.2.2.2.2.1).mono ?_
              rintro e w2 ⟨rfl, q2⟩
              have L2 := Lib.hid (And.intro (HQ.out.2.2.2.2.2.1.keepF q2) (HQ.out.1.trans q2))
              have B2 := H1.out.1.keep L2.out.2
              have hq' : ∀ (p : Addr) v, wr.cell? p = some v → w2.cell? p = some v := fun p v hv => (q2.cell (a := p) (World.block_lt_of_cell? wr _ hv) (fun h => h)).trans hv
              have g0 := hq' _ _ d0
              have g1 := hq' _ _ d1
              have g2 := hq' _ _ d2
              have g3 := hq' _ _ d3
              have g4 := hq' _ _ d4
              have g5 := hq' _ _ d5
              have g6 := hq' _ _ d6
              have g7 := hq' _ _ d7
              clear d0 d1 d2 d3 d4 d5 d6 d7 c0 c7 hq' q2
              obtain ⟨c0, -, -, -, -, -, -, c7⟩ := B2.eight
              clear B2
              have ht := HQ.out.2.2.1
              cases F with
              | true =>
                rw [if_pos rfl] at ht
                have HT := Lib.hid ht
                clear ht
                go_wp2_with fail
                go_roundg (t.subs.length - (k + 1))
                case measure => omega
                case rel => exact ⟨k + 1, M, by go_num, by omega, rfl, HT.out, hM0, L2.out.2⟩
              | false =>
                rw [if_neg (by decide)] at ht
                have HT := Lib.hid ht
                have HMV := Lib.hid (HQ.out.2.2.2.2.2.2.2 rfl)
                have HST := Lib.hid (HQ.out.2.2.2.1 rfl)
                clear ht
                go_wp2_with fail
                refine (HQ.out.2.1 w2 L2.out.1).mono ?_
                rintro e w3 ⟨rfl, q3⟩
                have Q3 := Lib.hid (L2.out.2.trans q3)
                have B3 := H1.out.1.keep Q3.out
                clear q3 g0 g1 g2 g3 g4 g5 g6 g7 c0 c7
                obtain ⟨c0, -, -, -, -, -, -, -⟩ := B3.eight
                clear B3
                by_cases hv : V < 0
                · have HS := Lib.hid (HST.out hv)
                  go_wp2_with fail
                  go_ret
                  exact ⟨by rw [HA.out, HS.out]; rfl, H1.out.2.trans Q3.out⟩
                · have hv' : 0 ≤ V := by omega
                  have ht := HT.out
                  rw [if_neg hv] at ht
                  first
                    | (rw [if_pos H3.out] at ht
                       have HT2 := Lib.hid ht
                       have hmv := HMV.out hv' H3.out
                       clear ht
                       go_wp2_with fail
                       go_roundg (t.subs.length - (k + 1))
                       case measure => omega
                       case rel => exact ⟨k + 1, M + V, by go_num, by omega, by go_num, HT2.out, by omega, Q3.out⟩)
                    | (rw [if_neg H3.out] at ht
                       have HT2 := Lib.hid ht
                       clear ht
                       go_wp2_with fail
                       go_roundg (t.subs.length - (k + 1))
                       case measure => omega
                       case rel => exact ⟨k + 1, max M V, by go_num, by omega, rfl, HT2.out, by omega, Q3.out⟩)
            · have hke : k = t.subs.length := by omega
              subst hke
              rw [List.take_length] at hM
              have HQ := Lib.hid (And.intro hq hM)
              clear hq hM B1 c0
              go_wp2_with fail
              go_ret
              exact ⟨by rw [HA.out, HQ.out.2]; rfl, H1.out.2.trans HQ.out.1⟩
      have b3 : (t.kind == 3) = false := by simp; omega
      have b4 : (t.kind == 4) = false := by simp; omega
      rw [if_neg k34] at hA
      by_cases k5 : t.kind = 5
      · rw [if_pos k5] at hA
        obtain ⟨s, hsub, m0, m1, hxx, hra⟩ := kind5_one HE.out.2.2.2.1 k5
        have hs : t.subs[0]? = some s := by rw [hsub]; rfl
        have hsl := sub_less hs
        have hl1 : t.subs.length = 1 := by rw [hsub]; rfl
        rw [show headM t.subs = mostI s from by rw [hsub, headM], show headN t.subs = noneB s from by rw [hsub, headN]] at hA
        have hbb := HE.out.2.2.2.2.2.1
        have hcs := HE.out.2.2.1 s 0 hs
        have hcall := fun a c w hL => H0.out.2.2 s (by have := HN.out; omega) d (HE.out.2.1 s 0 hs) (isP_subs HPP.out s (List.mem_of_getElem? hs)) (by omega) a c w hL
        have hnn := fun a c w hL => fnone_any s d (HE.out.2.1 s 0 hs) a c w hL
        have hV1 := (most_bnd s d (HE.out.2.1 s 0 hs)).1
        have hrb := fun (h : 0 ≤ mostI s) => (show mostI s * t.mx ≤ bnd 0 (cnt s + 1) from by rw [(fld_five HPP.out k5).2]; omega)
        have hct : cnt s + 1 ≤ cnt t := by rw [cnt_eq t, hsub, cntL, cntL]; omega
        have hb9 := bnd_mono (Nat.le_refl 0) hct
        obtain ⟨V, hV⟩ : ∃ V, mostI s = V := ⟨_, rfl⟩
        obtain ⟨F, hF⟩ : ∃ F, noneB s = F := ⟨_, rfl⟩
        rw [hV] at hcall hA hrb hV1
        rw [hF] at hnn hA
        have b5 : (t.kind == 5) = true := by simp [k5]
        have hmx : t.mx = -1 ∨ 0 ≤ t.mx := by omega
        have HQ := Lib.hid (And.intro hcall (And.intro hs (And.intro hnn hrb)))
        have hB9 : bnd 0 (cnt s + 1) ≤ 9000000000000000000 := by omega
        rw [hl1] at c7
        clear k2 k34 k5 hcall hs hsub hbb hcs hrb hct hb9 hV hF hra hnn hxx m0 m1
        obtain ⟨bl, off, a1, e1, rfl, L1, d0, d1, d2, d3, d4, d5, d6, d7⟩ := H1.out.1.first HQ.out.2.1
        have HL := Lib.hid L1
        clear L1
        have hfx : (F = true ∨ t.mx = 0) ∨ (F = false ∧ t.mx ≠ 0) := by
          cases F
          · by_cases h : t.mx = 0
            · exact .inl (.inr h)
            · exact .inr ⟨rfl, h⟩
          · exact .inl (.inl rfl)
        rcases hfx with hfx | ⟨hf, hx⟩
        · rw [if_pos hfx] at hA
          subst hA
          have hbx : F = true ∨ (F = false ∧ (t.mx == 0) = true) := by
            rcases hfx with h | h
            · exact .inl h
            · cases F
              · exact .inr ⟨rfl, by simp [h]⟩
              · exact .inl rfl
          clear hfx
          go_wp2_with fail
          refine (HQ.out.2.2.1 a1 e1 w1 HL.out).mono ?_
          rintro e w2 ⟨rfl, q2⟩
          have Q2 := Lib.hid (H1.out.2.trans q2)
          obtain ⟨-, -, -, -, -, -, c6, -⟩ := (H1.out.1.keep q2).eight
          clear q2 d0 d1 d2 d3 d4 d5 d6 d7 c0 c7
          rcases hbx with hf | ⟨hf, hx⟩
          · subst hf
            go_wp2_with fail
            go_ret
            exact ⟨rfl, Q2.out⟩
          · subst hf
            go_wp2_with fail
            go_ret
            exact ⟨rfl, Q2.out⟩
        · rw [if_neg (fun h => by rcases h with h | h; rw [hf] at h; cases h; exact hx h)] at hA
          subst hf
          have bx : (t.mx == 0) = false := by simp [hx]
          go_wp2_with fail
          refine (HQ.out.2.2.1 a1 e1 w1 HL.out).mono ?_
          rintro e w2 ⟨rfl, q2⟩
          have Q2 := Lib.hid (And.intro (H1.out.1.keep q2) (And.intro q2 (HL.out.keepF q2)))
          obtain ⟨-, -, -, -, -, -, c6, c7⟩ := Q2.out.1.eight
          rw [hl1] at c7
          have hq' : ∀ (p : Addr) v, w1.cell? p = some v → w2.cell? p = some v := fun p v hv => (q2.cell (a := p) (World.block_lt_of_cell? w1 _ hv) (fun h => h)).trans hv
          have g0 := hq' _ _ d0
          have g1 := hq' _ _ d1
          have g2 := hq' _ _ d2
          have g3 := hq' _ _ d3
          have g4 := hq' _ _ d4
          have g5 := hq' _ _ d5
          have g6 := hq' _ _ d6
          have g7 := hq' _ _ d7
          clear q2 d0 d1 d2 d3 d4 d5 d6 d7 c0 hq'
          have HA := Lib.hid hA
          clear hA
          go_wp2_with fail
          refine (HQ.out.1 a1 e1 w2 Q2.out.2.2).mono ?_
          rintro e w3 ⟨rfl, q3⟩
          have Q3 := Lib.hid (H1.out.2.trans (Q2.out.2.1.trans q3))
          obtain ⟨-, -, -, -, -, -, c6, -⟩ := (Q2.out.1.keep q3).eight
          clear q3 g0 g1 g2 g3 g4 g5 g6 g7 c7
          have hA := HA.out
          by_cases hv0 : V = 0
          · rw [if_pos hv0] at hA
            subst hA
            have v0 : (V == 0) = true := by simp [hv0]
            go_wp2_with fail
            go_ret
            exact ⟨rfl, Q3.out⟩
          have v0 : (V == 0) = false := by simp [hv0]
          rw [if_neg hv0] at hA
          by_cases hneg : V < 0 ∨ t.mx < 0
          · rw [if_pos hneg] at hA
            subst hA
            have hvx : V < 0 ∨ (¬ V < 0 ∧ t.mx < 0) := by omega
            rcases hvx with hv | ⟨hv, hx2⟩
            · go_wp2_with fail
              go_ret
              exact ⟨rfl, Q3.out⟩
            · go_wp2_with fail
              go_ret
              exact ⟨rfl, Q3.out⟩
          · rw [if_neg hneg] at hA
            have hv : ¬ V < 0 := by omega
            have hx2 : ¬ t.mx < 0 := by omega
            have hr := HQ.out.2.2.2 (by omega)
            have hp0 := Int.mul_nonneg (show 0 ≤ V by omega) (show 0 ≤ t.mx by omega)
            obtain ⟨P, hP⟩ : ∃ P, V * t.mx = P := ⟨_, rfl⟩
            rw [hP] at hr hp0 hA
            have hw1 : IntKind.i64.wrap (V * t.mx) = P := by rw [hP, IntKind.wrap_i64]; omega
            subst hA
            clear hP hneg hr
            go_wp2_with fail
            go_ret
            exact ⟨rfl, Q3.out⟩
      · rw [if_neg k5] at hA
        subst hA
        have b5 : (t.kind == 5) = false := by simp [k5]
        clear k2 k34 k5
        go_wp2_with fail
        go_ret
        exact ⟨rfl, H1.out.2⟩
theorem fmostp_any (t : T) (d : Nat) (hR : RT d t) (hp : isP t = true) (hB : bnd 0 (cnt t) ≤ 9000000000000000000) (a : Option Addr) (c : Nat) (w : World) (hL : Lie w (fun _ => True) a t.subs) : Calls Try.prog 28 #[nodeV t a c] w fun e w' => e = .returned (.int .i64 (mostI t)) ∧ Keep (fun _ => False) w w' :=
  fmostp_all _ t (Nat.lt_succ_self _) d hR hp hB a c w hL
end Go.Proofs.Ythcjfgfbeollpaa.P13
