/- ExpandFirst: the walk. -/
import Derived.Test.YthcjfgfbeollpaaKG50
import Derived.Test.YthcjfgfbeollpaaKG29
import Derived.Test.YthcjfgfbeollpaaKG27
import Derived.Test.YthcjfgfbeollpaaKG20
import Derived.Test.YthcjfgfbeollpaaKG35
import Derived.Test.YthcjfgfbeollpaaKG36
import Derived.Test.YthcjfgfbeollpaaKG41
import Derived.Test.YthcjfgfbeollpaaKG42
import Derived.Test.YthcjfgfbeollpaaKG49
import Derived.Test.YthcjfgfbeollpaaKG18
import Derived.Test.YthcjfgfbeollpaaKG33
import Derived.Test.YthcjfgfbeollpaaKG37
import Derived.Deep.RegionHeld3
import Derived.Test.YthcjfgfbeollpaaKG48
import Derived.Test.YthcjfgfbeollpaaRows
import Derived.JoinedCond
namespace Go.Proofs.Ythcjfgfbeollpaa.P13
open Go.RowKit Go.Proofs.Ythcjfgfbeollpaa.Base Go.Proofs.Ythcjfgfbeollpaa.Bytes Go.Proofs.Ythcjfgfbeollpaa.P07 Go.Proofs.Ythcjfgfbeollpaa.P08 Go.Proofs.Ythcjfgfbeollpaa.P09 Go.Proofs.Ythcjfgfbeollpaa.P10
open Go.Proofs.Ythcjfgfbeollpaa.Sets (ST)

set_option maxRecDepth 100000 in
set_option maxHeartbeats 16000000 in
theorem law_first (t : T) (a : Option Addr) (c : Nat) (w : World) (hta : Lie w (fun _ => True) a t.subs) (hcl : t.subs.length ≤ c) (ht : cnt t ≤ 1000000000) (hst : SOk t) :
    Calls Try.prog 7 #[nodeV t a c] w fun e w' => e = .returned (.bool true) ∧ Keep (fun _ => False) w w' := by
  have q := (Keep.refl (fun _ => False) w).alloc (.cells (ncells t a c) 27)
  have H0 := Lib.hid (And.intro q (show Nd _ w.heap.size t a c from ⟨At.new w _ _, hta.keepF q, hcl⟩))
  have HCT := Lib.hid (And.intro ht hst)
  clear q hta hcl ht hst
  go_enter Try.func7, Try.ntmps7
  go_upto_region 1 with fail
  generalize (w.alloc (.cells (ncells t a c) 27)) = W0 at *
  generalize w.heap.size = n1 at *
  go_wp2_with fail
  refine (awake13 W0).mono ?_
  rintro e w1 ⟨rfl, q1⟩
  have H1 := Lib.hid (And.intro (H0.out.1.trans q1) (H0.out.2.keep q1))
  clear q1
  obtain ⟨x0, x1, x2, x3, x4, x5, x6, x7⟩ := (cells8 H1.out.2.cell).1
  go_wp2_with fail
  refine (few_any t HCT.out.1 a c w1 H1.out.2.lie).mono ?_
  rintro e w2 ⟨rfl, q2⟩
  have H2 := Lib.hid (And.intro (H1.out.1.trans q2) (H1.out.2.keep q2))
  clear q2 x0 x1 x2 x3 x4 x5 x6 x7
  obtain ⟨x0, x1, x2, x3, x4, x5, x6, x7⟩ := (cells8 H2.out.2.cell).1
  by_cases h1 : sz t ≤ 200
  case neg =>
    have g1 : decide (sz t ≤ 200) = false := decide_eq_false h1
    rw [g1]
    clear g1 h1
    go_wp2_with fail
    refine (awake13 w2).mono ?_
    rintro e w3 ⟨rfl, q3⟩
    have Q3 := Lib.hid (H2.out.1.trans q3)
    clear q3
    go_wp2_with fail
    go_ret
    exact ⟨rfl, Q3.out⟩
  have g1 : decide (sz t ≤ 200) = true := decide_eq_true h1
  rw [g1]
  have HCn := Lib.hid (few_cnt h1)
  clear g1 h1
  go_wp2_with fail
  refine (fright_any t HCT.out.1 a c w2 H2.out.2.lie).mono ?_
  rintro e w3 ⟨rfl, q3⟩
  have H3 := Lib.hid (And.intro (H2.out.1.trans q3) (H2.out.2.keep q3))
  clear q3 x0 x1 x2 x3 x4 x5 x6 x7
  obtain ⟨x0, x1, x2, x3, x4, x5, x6, x7⟩ := (cells8 H3.out.2.cell).1
  cases h3 : rightB t with
  | false =>
    clear h3 x0 x1 x2 x3 x4 x5 x6 x7
    go_wp2_with fail
    refine (awake13 w3).mono ?_
    rintro e w9 ⟨rfl, q9⟩
    have Q9 := Lib.hid (H3.out.1.trans q9)
    clear q9
    go_wp2_with fail
    go_ret
    exact ⟨rfl, Q9.out⟩
  | true =>
  have hR := (rightB_iff HCT.out.2).1 h3
  by_cases h4 : wd t ≤ 400
  case neg =>
    have HP := Lib.hid (fun W (hL : Lie W (fun _ => True) a t.subs) => cplain_no t HCT.out.2 h3 rfl 400 11 (.inr ⟨rfl, rfl, by omega⟩) a c W hL)
    clear hR h4 h3
    go_wp2_with fail
    refine (HP.out w3 H3.out.2.lie).mono ?_
    rintro e w4 ⟨⟨ka, kc, rfl, -, -⟩, q4⟩
    have Q4 := Lib.hid ((H3.out.1.trans q4).alloc (.cells (ncells zT ka kc) 27))
    clear q4 x0 x1 x2 x3 x4 x5 x6 x7
    go_upto_region 4 with fail
    generalize (w4.alloc (.cells (ncells zT ka kc) 27)) = W5 at *
    generalize w4.heap.size = n5 at *
    go_wp2_with fail
    go_ret
    exact ⟨rfl, Q4.out⟩
  have hcp := pl_cnt hR (by omega)
  obtain ⟨e1, hE1⟩ := pl_rt hR
  have hms := pl_mat hR
  have hip := pl_isP hR
  obtain ⟨X, hX⟩ : ∃ X, plT t = X := ⟨_, rfl⟩
  rw [hX] at hcp hE1 hms hip
  obtain ⟨m, hm⟩ : ∃ m, wd t = m := ⟨_, rfl⟩
  have HP := Lib.hid (fun W (hL : Lie W (fun _ => True) a t.subs) => cplain_yes t hR (by have := HCn.out; omega) rfl 400 (by omega) hX a c W hL H3.out.2.le)
  have HWd0 := Lib.hid (fun W (hL : Lie W (fun _ => True) a t.subs) => fwide_any t 12 hR a c W hL)
  rw [hm] at HWd0 hcp h4
  have hfs := first_same hR hE1 hms
  have hmo := pl_most _ t (Nat.lt_succ_self _) 12 hR
  rw [hX] at hmo
  have hls : leastI X = leastI t ∧ mostI X = mostI t := ⟨least_same hR hE1 hms, hmo⟩
  have hsets := pl_sets _ t (Nat.lt_succ_self _) 12 hR
  rw [hX] at hsets
  have HSet := Lib.hid (And.intro hsets (sets_ok _ t (Nat.lt_succ_self _) HCT.out.2))
  have HRR := Lib.hid (And.intro hR (And.intro hE1 hip))
  have hcx : cnt X ≤ 400 := by omega
  have HSm := Lib.hid (And.intro hfs hls)
  clear hR hms hE1 hip h3 hX hm hfs hls hsets hmo
  go_wp2_with fail
  refine (HP.out w3 H3.out.2.lie).mono ?_
  rintro e w4 ⟨⟨xa, xc, rfl, hxc, hxl⟩, q4⟩
  have qa := (Keep.refl (fun _ => False) w4).alloc (.cells (ncells X xa xc) 27)
  have qq := q4.alloc (.cells (ncells X xa xc) 27)
  have H5 := Lib.hid (And.intro (H3.out.1.trans qq) (And.intro (H3.out.2.keep qq) (And.intro (Nd.new hxc hxl) ((zkeep hxl qa).mono (ok' := fun k => Zb (w4.alloc (.cells (ncells X xa xc) 27)) k) fun k hk => hk.2))))
  clear q4 qa qq hxc hxl x0 x1 x2 x3 x4 x5 x6 x7
  go_upto_region 4 with fail
  generalize (w4.alloc (.cells (ncells X xa xc) 27)) = W5 at *
  generalize w4.heap.size = n5 at *
  go_upto_region 6 with fail
  have hmm := @run_makeMap Try.prog
  go_upto_region 7 with fail
  clear hmm
  have m0 := SM.new W5
  have qm := (Keep.refl (fun _ => False) W5).alloc (.map #[] 0)
  have H6 := Lib.hid (And.intro qm (And.intro (H5.out.2.1.keep qm) (H5.out.2.2.1.keep qm)))
  have M0 := Lib.hid m0
  have hmb : W5.heap.size < (W5.alloc (.map #[] 0)).heap.size := by simp
  clear m0 qm
  generalize (W5.alloc (.map #[] 0)) = W6 at *
  generalize hmb0 : W5.heap.size = mb at *
  obtain ⟨x0, x1, x2, x3, x4, x5, x6, x7⟩ := (cells8 H6.out.2.1.cell).1
  have HFs := Lib.hid (fsets_any t a c W6 H6.out.2.1.lie (by have := HCn.out; omega))
  have hlen := setsT_len t
  obtain ⟨L, hL⟩ : ∃ L, setsT t = L := ⟨_, rfl⟩
  rw [hL] at HFs HSet hlen
  have hlen : L.length ≤ 1000 := by have := HCn.out; omega
  clear hL
  go_wp2_with fail
  refine HFs.out.mono ?_
  rintro e w7 ⟨v, rfl, hf⟩
  obtain ⟨la, lc, rfl, -, hla⟩ := hf.ol.form
  have H7 := Lib.hid (And.intro (H6.out.1.trans hf.q) (And.intro hf.ol (And.intro (M0.out.keep hf.q (fun h => h)) (show ∀ g, (Value.slice la L.length lc).ownBlock = some g → g ≠ mb from fun g hg => by have := hf.far g hg; omega))))
  clear hf hla x0 x1 x2 x3 x4 x5 x6 x7
  go_wp2_with fail
  go_loopg [7, 36] L.length (fun gg s7 i wr => ∃ k : Nat, i = .int .i64 k ∧ k + gg = L.length ∧ Keep (fun _ => False) W5 wr ∧ OL.OL wr (.slice la L.length lc) L ∧ SM wr mb k (L.take k))
  case atStart => exact ⟨0, rfl, by omega, H7.out.1, H7.out.2.1, H7.out.2.2.1⟩
  case round =>
    obtain ⟨k, rfl, hk, hq, ho, hm⟩ := hrel
    by_cases hlt : k < L.length
    · have hlt' : (k : Int) < L.length := by omega
      have i0 : (0 : Int) ≤ k := by omega
      obtain ⟨s, hs⟩ : ∃ s, L[k]? = some s := ⟨L[k], List.getElem?_eq_getElem hlt⟩
      have hok := HSet.out.2 s (List.mem_of_getElem? hs)
      have ht : L.take (k + 1) = L.take k ++ [s] := by rw [List.take_add_one, hs]; rfl
      obtain ⟨g, cap, e1, -, hgl, hc, -⟩ := ho.get13 hs
      injection e1 with e1 _ e3
      subst e1 e3
      have e0 : wr.cell? ⟨g, k * 4, none⟩ = some (.int .u64 s.x0) := hc 0 (by omega)
      have e1 : wr.cell? ⟨g, k * 4 + 1, none⟩ = some (.int .u64 s.x1) := hc 1 (by omega)
      have e2 : wr.cell? ⟨g, k * 4 + 2, none⟩ = some (.int .u64 s.x2) := hc 2 (by omega)
      have e3 : wr.cell? ⟨g, k * 4 + 3, none⟩ = some (.int .u64 s.x3) := hc 3 (by omega)
      have qa := (Keep.refl (fun _ => False) wr).alloc (.cells (cells s) 24)
      obtain ⟨⟨d0, d1, d2, d3⟩, -⟩ := cells4 (At.new wr (cells s) 24)
      have HA := Lib.hid (And.intro (hq.trans qa) (And.intro (ho.keep qa (fun _ _ h => h)) (And.intro (hm.keep qa (fun h => h)) (And.intro hok ht))))
      clear hq ho hm hok ht hc hs qa
      go_upto_region 10 with fail
      generalize (wr.alloc (.cells (cells s) 24)) = wa at *
      obtain ⟨w', hrun, hm', qm⟩ := HA.out.2.2.1.put (t := 41) (by rw [Try.underlying41]) s HA.out.2.2.2.1 (Nat.lt_of_lt_of_le (show k < 1000 by omega) (by decide))
      have hrun : (Instr.mapUpdate 41 (.map (some mb)) (.agg #[.int .u64 s.x0, .int .u64 s.x1, .int .u64 s.x2, .int .u64 s.x3]) (.bool true)).run Try.prog wa = .ok () w' := hrun
      have HB := Lib.hid (And.intro (HA.out.1.next qm (fun i h1 h2 => by omega)) (And.intro (HA.out.2.1.keep qm (fun g' hg' => H7.out.2.2.2 g' hg')) hm'))
      clear hm' qm e0 e1 e2 e3
      go_wp2_with fail
      go_roundg (L.length - (k + 1))
      case measure => omega
      case rel => exact ⟨k + 1, by go_num, by omega, HB.out.1, HB.out.2.1, by rw [HA.out.2.2.2.2]; exact HB.out.2.2⟩
    · have hke : k = L.length := by omega
      subst hke
      rw [List.take_length] at hm
      have H8 := Lib.hid (And.intro hq (And.intro (H5.out.2.1.keep hq) (And.intro (H5.out.2.2.1.keep hq) hm)))
      have HFs2 := Lib.hid (fsets_any X xa xc wr (H5.out.2.2.1.keep hq).lie (by omega))
      have hlen2 := setsT_len X
      obtain ⟨M, hM⟩ : ∃ M, setsT X = M := ⟨_, rfl⟩
      rw [hM] at HFs2 HSet hlen2
      have hlen2 : M.length ≤ 1000 := by omega
      clear hM hq ho hm
      obtain ⟨x0, x1, x2, x3, x4, x5, x6, x7⟩ := (cells8 H8.out.2.2.1.cell).1
      go_wp2_with fail
      refine HFs2.out.mono ?_
      rintro e w9 ⟨v2, rfl, hf⟩
      obtain ⟨ma, mc, rfl, -, hma⟩ := hf.ol.form
      have H9 := Lib.hid (And.intro (H8.out.1.trans hf.q) (And.intro hf.ol (H8.out.2.2.2.keep hf.q (fun h => h))))
      clear hf hma x0 x1 x2 x3 x4 x5 x6 x7
      go_wp2_with fail
      go_loopg [9, 46] M.length (fun gg s7 i wr => ∃ k : Nat, i = .int .i64 k ∧ k + gg = M.length ∧ Keep (fun _ => False) w9 wr)
      case atStart => exact ⟨0, rfl, by omega, Keep.refl _ _⟩
      case round =>
        obtain ⟨k, rfl, hk, hq⟩ := hrel
        by_cases hlt : k < M.length
        · have hlt' : (k : Int) < M.length := by omega
          have i0 : (0 : Int) ≤ k := by omega
          obtain ⟨s, hs⟩ : ∃ s, M[k]? = some s := ⟨M[k], List.getElem?_eq_getElem hlt⟩
          have hin := HSet.out.1 s (List.mem_of_getElem? hs)
          have hok := HSet.out.2 s hin
          obtain ⟨g, cap, e1, -, hgl, hc, -⟩ := (H9.out.2.1.keep hq (fun _ _ h => h)).get13 hs
          injection e1 with e1 _ e3
          subst e1 e3
          have e0 : wr.cell? ⟨g, k * 4, none⟩ = some (.int .u64 s.x0) := hc 0 (by omega)
          have e1 : wr.cell? ⟨g, k * 4 + 1, none⟩ = some (.int .u64 s.x1) := hc 1 (by omega)
          have e2 : wr.cell? ⟨g, k * 4 + 2, none⟩ = some (.int .u64 s.x2) := hc 2 (by omega)
          have e3 : wr.cell? ⟨g, k * 4 + 3, none⟩ = some (.int .u64 s.x3) := hc 3 (by omega)
          have qa := (Keep.refl (fun _ => False) wr).alloc (.cells (cells s) 24)
          obtain ⟨⟨d0, d1, d2, d3⟩, -⟩ := cells4 (At.new wr (cells s) 24)
          have hrun := (H9.out.2.2.keep (hq.trans qa) (fun h => h)).look (t := 41) (by rw [Try.underlying41]) hok hin
          have HA := Lib.hid (hq.trans qa)
          clear hq hok hc hs qa hin
          go_upto_region 15 with fail
          generalize (wr.alloc (.cells (cells s) 24)) = wa at *
          have hrun : (Instr.lookup 41 (.map (some mb)) (.agg #[.int .u64 s.x0, .int .u64 s.x1, .int .u64 s.x2, .int .u64 s.x3]) false).run Try.prog wa = .ok (.bool true) wa := hrun
          clear e0 e1 e2 e3
          go_wp2_with fail
          go_roundg (M.length - (k + 1))
          case measure => omega
          case rel => exact ⟨k + 1, by go_num, by omega, HA.out⟩
        · have hke : k = M.length := by omega
          subst hke
          have HN := Lib.hid (And.intro (H9.out.1.trans hq) (And.intro (H5.out.2.1.keep (H9.out.1.trans hq)) (H5.out.2.2.1.keep (H9.out.1.trans hq))))
          clear hq
          have hcn := HCn.out
          have hb1 : bnd 12 (cnt t) ≤ 9000000000000000000 := by
            have := bnd_small (n := cnt t) (by omega)
            omega
          have hb0 : bnd 0 (cnt X) ≤ 9000000000000000000 := by
            have := bnd_mono (Nat.le_refl 0) hcx
            have e : bnd 0 400 ≤ 9000000000000000000 := by decide +kernel
            omega
          have HF1 := Lib.hid (fun (W : World) (q : Keep (fun _ => False) wr W) => ffirst_all _ t (Nat.lt_succ_self _) (by omega) 12 HRR.out.1 a c W (HN.out.2.1.lie.keepF q))
          have hF2 := fun (W : World) (q : Keep (fun _ => False) wr W) => ffirst_all _ X (Nat.lt_succ_self _) (by omega) e1 HRR.out.2.1 xa xc W (HN.out.2.2.lie.keepF q)
          rw [HSm.out.1] at hF2
          have HF2 := Lib.hid hF2
          have HLe1 := Lib.hid (fun (W : World) (q : Keep (fun _ => False) wr W) => fleast_any t 12 HRR.out.1 hb1 a c W (HN.out.2.1.lie.keepF q))
          have hL2 := fun (W : World) (q : Keep (fun _ => False) wr W) => fleastp_any X e1 HRR.out.2.1 HRR.out.2.2 hb0 xa xc W (HN.out.2.2.lie.keepF q)
          rw [HSm.out.2.1] at hL2
          have HLe2 := Lib.hid hL2
          have HMo1 := Lib.hid (fun (W : World) (q : Keep (fun _ => False) wr W) => fmost_any t 12 HRR.out.1 hb1 a c W (HN.out.2.1.lie.keepF q))
          have hM2 := fun (W : World) (q : Keep (fun _ => False) wr W) => fmostp_any X e1 HRR.out.2.1 HRR.out.2.2 hb0 xa xc W (HN.out.2.2.lie.keepF q)
          rw [HSm.out.2.2] at hM2
          have HMo2 := Lib.hid hM2
          clear hF2 hL2 hM2
          have hs : ∀ W', Keep (fun _ => False) wr W' → (fun w' => Keep (fun _ => False) wr w' ∧ w'.cell? ⟨n1, 0, none⟩ = some (.int .i64 t.kind) ∧ w'.cell? ⟨n1, 1, none⟩ = some (.int .u64 t.set.x0) ∧ w'.cell? ⟨n1, 2, none⟩ = some (.int .u64 t.set.x1) ∧ w'.cell? ⟨n1, 3, none⟩ = some (.int .u64 t.set.x2) ∧ w'.cell? ⟨n1, 4, none⟩ = some (.int .u64 t.set.x3) ∧ w'.cell? ⟨n1, 5, none⟩ = some (.int .i64 t.mn) ∧ w'.cell? ⟨n1, 6, none⟩ = some (.int .i64 t.mx) ∧ w'.cell? ⟨n1, 7, none⟩ = some (.slice a t.subs.length c) ∧ w'.cell? ⟨n5, 0, none⟩ = some (.int .i64 X.kind) ∧ w'.cell? ⟨n5, 1, none⟩ = some (.int .u64 X.set.x0) ∧ w'.cell? ⟨n5, 2, none⟩ = some (.int .u64 X.set.x1) ∧ w'.cell? ⟨n5, 3, none⟩ = some (.int .u64 X.set.x2) ∧ w'.cell? ⟨n5, 4, none⟩ = some (.int .u64 X.set.x3) ∧ w'.cell? ⟨n5, 5, none⟩ = some (.int .i64 X.mn) ∧ w'.cell? ⟨n5, 6, none⟩ = some (.int .i64 X.mx) ∧ w'.cell? ⟨n5, 7, none⟩ = some (.slice xa X.subs.length xc)) W' := fun W' q => by
            obtain ⟨x0, x1, x2, x3, x4, x5, x6, x7⟩ := (cells8 (HN.out.2.1.cell.keep q (fun h => h))).1
            obtain ⟨y0, y1, y2, y3, y4, y5, y6, y7⟩ := (cells8 (HN.out.2.2.cell.keep q (fun h => h))).1
            exact ⟨q, x0, x1, x2, x3, x4, x5, x6, x7, y0, y1, y2, y3, y4, y5, y6, y7⟩
          have HS := Lib.hid hs
          clear hs
          obtain ⟨fs, hfs⟩ : ∃ fs, firstS t = fs := ⟨_, rfl⟩
          obtain ⟨le, hle⟩ : ∃ le, leastI t = le := ⟨_, rfl⟩
          obtain ⟨mo, hmo⟩ : ∃ mo, mostI t = mo := ⟨_, rfl⟩
          rw [hfs] at HF1 HF2
          rw [hle] at HLe1 HLe2
          rw [hmo] at HMo1 HMo2
          have hes : ∀ W, (Op.equalIn 10000 24 (.agg #[.int .u64 fs.x0, .int .u64 fs.x1, .int .u64 fs.x2, .int .u64 fs.x3]) (.agg #[.int .u64 fs.x0, .int .u64 fs.x1, .int .u64 fs.x2, .int .u64 fs.x3])).run Try.prog W = .ok true W := fun W => by
            have := eq_set fs fs W
            rw [eqB_refl] at this
            exact this
          clear hfs hle hmo hcn hb1 hb0
          go_upto_region 18 with fail
          · skip
            refine wp_region_noPanic ?_
            refine wp_region_held_drew (S := (fun w' => Keep (fun _ => False) wr w' ∧ w'.cell? ⟨n1, 0, none⟩ = some (.int .i64 t.kind) ∧ w'.cell? ⟨n1, 1, none⟩ = some (.int .u64 t.set.x0) ∧ w'.cell? ⟨n1, 2, none⟩ = some (.int .u64 t.set.x1) ∧ w'.cell? ⟨n1, 3, none⟩ = some (.int .u64 t.set.x2) ∧ w'.cell? ⟨n1, 4, none⟩ = some (.int .u64 t.set.x3) ∧ w'.cell? ⟨n1, 5, none⟩ = some (.int .i64 t.mn) ∧ w'.cell? ⟨n1, 6, none⟩ = some (.int .i64 t.mx) ∧ w'.cell? ⟨n1, 7, none⟩ = some (.slice a t.subs.length c) ∧ w'.cell? ⟨n5, 0, none⟩ = some (.int .i64 X.kind) ∧ w'.cell? ⟨n5, 1, none⟩ = some (.int .u64 X.set.x0) ∧ w'.cell? ⟨n5, 2, none⟩ = some (.int .u64 X.set.x1) ∧ w'.cell? ⟨n5, 3, none⟩ = some (.int .u64 X.set.x2) ∧ w'.cell? ⟨n5, 4, none⟩ = some (.int .u64 X.set.x3) ∧ w'.cell? ⟨n5, 5, none⟩ = some (.int .i64 X.mn) ∧ w'.cell? ⟨n5, 6, none⟩ = some (.int .i64 X.mx) ∧ w'.cell? ⟨n5, 7, none⟩ = some (.slice xa X.subs.length xc))) (by kernel_rfl) ?_ (fun hHeld => ?_)
            · exact HS.out _ ((Keep.refl _ _).drew)
            refine wpAnyH_take (i := 0) (oi := { dst := some 55, op := Go.Op.load 27 (Go.Operand.tmp 1), type := 27, pos := "law.go:108", after := #[], guard := none }) (v := ?_) rfl (by kernel_rfl) (by kernel_rfl) (by kernel_rfl) (fun _ _ _ h => h) (Or.inl ⟨by rfl, ?_⟩) (by assumption) ?_
            rotate_left 1
            · (intro w hSw; (try dsimp only at hSw); go_simp; first | done | with_reducible rfl)
            try simp only [Act.put, List.setIfInBounds_toArray, List.set_cons_zero, List.set_cons_succ]
            refine wpAnyH_take (i := 2) (oi := { dst := some 57, op := Go.Op.load 27 (Go.Operand.tmp 3), type := 27, pos := "law.go:108", after := #[], guard := none }) (v := ?_) rfl (by kernel_rfl) (by kernel_rfl) (by kernel_rfl) (fun _ _ _ h => h) (Or.inl ⟨by rfl, ?_⟩) (by assumption) ?_
            rotate_left 1
            · (intro w hSw; (try dsimp only at hSw); go_simp; first | done | with_reducible rfl)
            try simp only [Act.put, List.setIfInBounds_toArray, List.set_cons_zero, List.set_cons_succ]
            refine wpAnyH_ready (rs := [1]) (by kernel_rfl) (by simp) ?_
            refine (AllReadyH.cons (o := { dst := some 56, op := Go.Op.call { callee := Go.Callee.value (Go.Operand.func 26), args := #[Go.Operand.tmp 55], argTypes := #[27] }, type := 24, pos := "law.go:108", after := #[{ on := 0, ground := Go.Ground.data }], guard := none }) rfl (fun K hK => ?_) AllReadyH.nil)
            go_simp
            (go_at_call 26; refine (HF1.out _ (And.left hHeld)).mono ?_; rintro e w2 ⟨rfl, q⟩)
            refine hK.out _ _ ?_ (fun hHeld' => ?_)
            · exact HS.out _ (Keep.trans (And.left hHeld) q)
            clear hK K hHeld
            have hHeld := hHeld'
            clear hHeld'
            try simp only [Act.put, List.setIfInBounds_toArray, List.set_cons_zero, List.set_cons_succ]
            refine wpAnyH_ready (rs := [3]) (by kernel_rfl) (by simp) ?_
            refine (AllReadyH.cons (o := { dst := some 58, op := Go.Op.call { callee := Go.Callee.value (Go.Operand.func 26), args := #[Go.Operand.tmp 57], argTypes := #[27] }, type := 24, pos := "law.go:108", after := #[{ on := 2, ground := Go.Ground.data }, { on := 1, ground := Go.Ground.chain }], guard := none }) rfl (fun K hK => ?_) AllReadyH.nil)
            go_simp
            (go_at_call 26; refine (HF2.out _ (And.left hHeld)).mono ?_; rintro e w2 ⟨rfl, q⟩)
            refine hK.out _ _ ?_ (fun hHeld' => ?_)
            · exact HS.out _ (Keep.trans (And.left hHeld) q)
            clear hK K hHeld
            have hHeld := hHeld'
            clear hHeld'
            try simp only [Act.put, List.setIfInBounds_toArray, List.set_cons_zero, List.set_cons_succ]
            refine wpAnyH_take (i := 4) (oi := { dst := some 59, op := Go.Op.binOp Go.BinOp.eql 24 (Go.Operand.tmp 56) (Go.Operand.tmp 58) 24, type := 4, pos := "law.go:108", after := #[{ on := 1, ground := Go.Ground.data }, { on := 3, ground := Go.Ground.data }], guard := none }) (v := ?_) rfl (by kernel_rfl) (by kernel_rfl) (by kernel_rfl) (fun _ _ _ h => h) (Or.inl ⟨by rfl, ?_⟩) (by assumption) ?_
            rotate_left 1
            · (intro w hSw; (try dsimp only at hSw); go_simp; first | done | with_reducible rfl)
            try simp only [Act.put, List.setIfInBounds_toArray, List.set_cons_zero, List.set_cons_succ]
            refine wpAnyH_take (i := 5) (oi := { dst := some 60, op := Go.Op.move (Go.Operand.tmp 59), type := 4, pos := "law.go:108", after := #[{ on := 4, ground := Go.Ground.data }, { on := 3, ground := Go.Ground.chain }], guard := none }) (v := ?_) rfl (by kernel_rfl) (by kernel_rfl) (by kernel_rfl) (fun _ _ _ h => h) (Or.inl ⟨by rfl, ?_⟩) (by assumption) ?_
            rotate_left 1
            · (intro w hSw; (try dsimp only at hSw); go_simp; first | done | with_reducible rfl)
            try simp only [Act.put, List.setIfInBounds_toArray, List.set_cons_zero, List.set_cons_succ]
            refine wpAnyH_take (i := 6) (oi := { dst := some 61, op := Go.Op.load 27 (Go.Operand.tmp 1), type := 27, pos := "law.go:108", after := #[{ on := 5, ground := Go.Ground.guard }], guard := some (5, true) }) (v := ?_) rfl (by kernel_rfl) (by kernel_rfl) (by kernel_rfl) (fun _ _ _ h => h) (Or.inl ⟨by rfl, ?_⟩) (by assumption) ?_
            rotate_left 1
            · (intro w hSw; (try dsimp only at hSw); go_simp; first | done | with_reducible rfl)
            try simp only [Act.put, List.setIfInBounds_toArray, List.set_cons_zero, List.set_cons_succ]
            refine wpAnyH_take (i := 8) (oi := { dst := some 63, op := Go.Op.load 27 (Go.Operand.tmp 3), type := 27, pos := "law.go:108", after := #[{ on := 5, ground := Go.Ground.guard }], guard := some (5, true) }) (v := ?_) rfl (by kernel_rfl) (by kernel_rfl) (by kernel_rfl) (fun _ _ _ h => h) (Or.inl ⟨by rfl, ?_⟩) (by assumption) ?_
            rotate_left 1
            · (intro w hSw; (try dsimp only at hSw); go_simp; first | done | with_reducible rfl)
            try simp only [Act.put, List.setIfInBounds_toArray, List.set_cons_zero, List.set_cons_succ]
            refine wpAnyH_ready (rs := [7]) (by kernel_rfl) (by simp) ?_
            refine (AllReadyH.cons (o := { dst := some 62, op := Go.Op.call { callee := Go.Callee.value (Go.Operand.func 27), args := #[Go.Operand.tmp 61], argTypes := #[27] }, type := 3, pos := "law.go:108", after := #[{ on := 6, ground := Go.Ground.data }, { on := 5, ground := Go.Ground.chain }, { on := 5, ground := Go.Ground.guard }], guard := some (5, true) }) rfl (fun K hK => ?_) AllReadyH.nil)
            go_simp
            (go_at_call 27; refine (HLe1.out _ (And.left hHeld)).mono ?_; rintro e w2 ⟨rfl, q⟩)
            refine hK.out _ _ ?_ (fun hHeld' => ?_)
            · exact HS.out _ (Keep.trans (And.left hHeld) q)
            clear hK K hHeld
            have hHeld := hHeld'
            clear hHeld'
            try simp only [Act.put, List.setIfInBounds_toArray, List.set_cons_zero, List.set_cons_succ]
            refine wpAnyH_ready (rs := [9]) (by kernel_rfl) (by simp) ?_
            refine (AllReadyH.cons (o := { dst := some 64, op := Go.Op.call { callee := Go.Callee.value (Go.Operand.func 27), args := #[Go.Operand.tmp 63], argTypes := #[27] }, type := 3, pos := "law.go:108", after := #[{ on := 8, ground := Go.Ground.data }, { on := 7, ground := Go.Ground.chain }, { on := 5, ground := Go.Ground.guard }], guard := some (5, true) }) rfl (fun K hK => ?_) AllReadyH.nil)
            go_simp
            (go_at_call 27; refine (HLe2.out _ (And.left hHeld)).mono ?_; rintro e w2 ⟨rfl, q⟩)
            refine hK.out _ _ ?_ (fun hHeld' => ?_)
            · exact HS.out _ (Keep.trans (And.left hHeld) q)
            clear hK K hHeld
            have hHeld := hHeld'
            clear hHeld'
            try simp only [Act.put, List.setIfInBounds_toArray, List.set_cons_zero, List.set_cons_succ]
            refine wpAnyH_take (i := 10) (oi := { dst := some 65, op := Go.Op.binOp Go.BinOp.eql 3 (Go.Operand.tmp 62) (Go.Operand.tmp 64) 3, type := 4, pos := "law.go:108", after := #[{ on := 7, ground := Go.Ground.data }, { on := 9, ground := Go.Ground.data }, { on := 5, ground := Go.Ground.guard }], guard := some (5, true) }) (v := ?_) rfl (by kernel_rfl) (by kernel_rfl) (by kernel_rfl) (fun _ _ _ h => h) (Or.inl ⟨by rfl, ?_⟩) (by assumption) ?_
            rotate_left 1
            · (intro w hSw; (try dsimp only at hSw); go_simp; first | done | with_reducible rfl)
            try simp only [Act.put, List.setIfInBounds_toArray, List.set_cons_zero, List.set_cons_succ]
            refine wpAnyH_take (i := 11) (oi := { dst := some 66, op := Go.Op.pick (Go.Operand.tmp 60) (Go.Operand.tmp 65) (Go.Operand.const (Go.Value.bool false)), type := 4, pos := "law.go:108", after := #[{ on := 5, ground := Go.Ground.data }, { on := 10, ground := Go.Ground.data }], guard := none }) (v := ?_) rfl (by kernel_rfl) (by kernel_rfl) (by kernel_rfl) (fun _ _ _ h => h) (Or.inl ⟨by rfl, ?_⟩) (by assumption) ?_
            rotate_left 1
            · (intro w hSw; (try dsimp only at hSw); go_simp; first | done | with_reducible rfl)
            try simp only [Act.put, List.setIfInBounds_toArray, List.set_cons_zero, List.set_cons_succ]
            refine wpAnyH_take (i := 12) (oi := { dst := some 67, op := Go.Op.move (Go.Operand.tmp 66), type := 4, pos := "law.go:108", after := #[{ on := 11, ground := Go.Ground.data }, { on := 9, ground := Go.Ground.chain }], guard := none }) (v := ?_) rfl (by kernel_rfl) (by kernel_rfl) (by kernel_rfl) (fun _ _ _ h => h) (Or.inl ⟨by rfl, ?_⟩) (by assumption) ?_
            rotate_left 1
            · (intro w hSw; (try dsimp only at hSw); go_simp; first | done | with_reducible rfl)
            try simp only [Act.put, List.setIfInBounds_toArray, List.set_cons_zero, List.set_cons_succ]
            refine wpAnyH_take (i := 13) (oi := { dst := some 68, op := Go.Op.load 27 (Go.Operand.tmp 1), type := 27, pos := "law.go:108", after := #[{ on := 12, ground := Go.Ground.guard }], guard := some (12, true) }) (v := ?_) rfl (by kernel_rfl) (by kernel_rfl) (by kernel_rfl) (fun _ _ _ h => h) (Or.inl ⟨by rfl, ?_⟩) (by assumption) ?_
            rotate_left 1
            · (intro w hSw; (try dsimp only at hSw); go_simp; first | done | with_reducible rfl)
            try simp only [Act.put, List.setIfInBounds_toArray, List.set_cons_zero, List.set_cons_succ]
            refine wpAnyH_take (i := 15) (oi := { dst := some 70, op := Go.Op.load 27 (Go.Operand.tmp 3), type := 27, pos := "law.go:108", after := #[{ on := 12, ground := Go.Ground.guard }], guard := some (12, true) }) (v := ?_) rfl (by kernel_rfl) (by kernel_rfl) (by kernel_rfl) (fun _ _ _ h => h) (Or.inl ⟨by rfl, ?_⟩) (by assumption) ?_
            rotate_left 1
            · (intro w hSw; (try dsimp only at hSw); go_simp; first | done | with_reducible rfl)
            try simp only [Act.put, List.setIfInBounds_toArray, List.set_cons_zero, List.set_cons_succ]
            refine wpAnyH_ready (rs := [14]) (by kernel_rfl) (by simp) ?_
            refine (AllReadyH.cons (o := { dst := some 69, op := Go.Op.call { callee := Go.Callee.value (Go.Operand.func 28), args := #[Go.Operand.tmp 68], argTypes := #[27] }, type := 3, pos := "law.go:108", after := #[{ on := 13, ground := Go.Ground.data }, { on := 12, ground := Go.Ground.chain }, { on := 12, ground := Go.Ground.guard }], guard := some (12, true) }) rfl (fun K hK => ?_) AllReadyH.nil)
            go_simp
            (go_at_call 28; refine (HMo1.out _ (And.left hHeld)).mono ?_; rintro e w2 ⟨rfl, q⟩)
            refine hK.out _ _ ?_ (fun hHeld' => ?_)
            · exact HS.out _ (Keep.trans (And.left hHeld) q)
            clear hK K hHeld
            have hHeld := hHeld'
            clear hHeld'
            try simp only [Act.put, List.setIfInBounds_toArray, List.set_cons_zero, List.set_cons_succ]
            refine wpAnyH_ready (rs := [16]) (by kernel_rfl) (by simp) ?_
            refine (AllReadyH.cons (o := { dst := some 71, op := Go.Op.call { callee := Go.Callee.value (Go.Operand.func 28), args := #[Go.Operand.tmp 70], argTypes := #[27] }, type := 3, pos := "law.go:108", after := #[{ on := 15, ground := Go.Ground.data }, { on := 14, ground := Go.Ground.chain }, { on := 12, ground := Go.Ground.guard }], guard := some (12, true) }) rfl (fun K hK => ?_) AllReadyH.nil)
            go_simp
            (go_at_call 28; refine (HMo2.out _ (And.left hHeld)).mono ?_; rintro e w2 ⟨rfl, q⟩)
            refine hK.out _ _ ?_ (fun hHeld' => ?_)
            · exact HS.out _ (Keep.trans (And.left hHeld) q)
            clear hK K hHeld
            have hHeld := hHeld'
            clear hHeld'
            try simp only [Act.put, List.setIfInBounds_toArray, List.set_cons_zero, List.set_cons_succ]
            refine wpAnyH_take (i := 17) (oi := { dst := some 72, op := Go.Op.binOp Go.BinOp.eql 3 (Go.Operand.tmp 69) (Go.Operand.tmp 71) 3, type := 4, pos := "law.go:108", after := #[{ on := 14, ground := Go.Ground.data }, { on := 16, ground := Go.Ground.data }, { on := 12, ground := Go.Ground.guard }], guard := some (12, true) }) (v := ?_) rfl (by kernel_rfl) (by kernel_rfl) (by kernel_rfl) (fun _ _ _ h => h) (Or.inl ⟨by rfl, ?_⟩) (by assumption) ?_
            rotate_left 1
            · (intro w hSw; (try dsimp only at hSw); go_simp; first | done | with_reducible rfl)
            try simp only [Act.put, List.setIfInBounds_toArray, List.set_cons_zero, List.set_cons_succ]
            refine wpAnyH_take (i := 18) (oi := { dst := some 73, op := Go.Op.pick (Go.Operand.tmp 67) (Go.Operand.tmp 72) (Go.Operand.const (Go.Value.bool false)), type := 4, pos := "law.go:108", after := #[{ on := 12, ground := Go.Ground.data }, { on := 17, ground := Go.Ground.data }], guard := none }) (v := ?_) rfl (by kernel_rfl) (by kernel_rfl) (by kernel_rfl) (fun _ _ _ h => h) (Or.inl ⟨by rfl, ?_⟩) (by assumption) ?_
            rotate_left 1
            · (intro w hSw; (try dsimp only at hSw); go_simp; first | done | with_reducible rfl)
            try simp only [Act.put, List.setIfInBounds_toArray, List.set_cons_zero, List.set_cons_succ]
            refine wpAnyH_take (i := 19) (oi := { dst := some 2, op := Go.Op.assign (Go.Operand.tmp 73), type := 4, pos := "law.go:108", after := #[{ on := 18, ground := Go.Ground.data }, { on := 16, ground := Go.Ground.chain }, { on := 0, ground := Go.Ground.phase }, { on := 1, ground := Go.Ground.phase }, { on := 2, ground := Go.Ground.phase }, { on := 3, ground := Go.Ground.phase }, { on := 4, ground := Go.Ground.phase }, { on := 5, ground := Go.Ground.phase }, { on := 6, ground := Go.Ground.phase }, { on := 7, ground := Go.Ground.phase }, { on := 8, ground := Go.Ground.phase }, { on := 9, ground := Go.Ground.phase }, { on := 10, ground := Go.Ground.phase }, { on := 11, ground := Go.Ground.phase }, { on := 12, ground := Go.Ground.phase }, { on := 13, ground := Go.Ground.phase }, { on := 14, ground := Go.Ground.phase }, { on := 15, ground := Go.Ground.phase }, { on := 16, ground := Go.Ground.phase }, { on := 17, ground := Go.Ground.phase }, { on := 18, ground := Go.Ground.phase }], guard := none }) (v := ?_) rfl (by kernel_rfl) (by kernel_rfl) (by kernel_rfl) (fun _ _ _ h => h) (Or.inl ⟨by rfl, ?_⟩) (by assumption) ?_
            rotate_left 1
            · (intro w hSw; (try dsimp only at hSw); go_simp; first | done | with_reducible rfl)
            try simp only [Act.put, List.setIfInBounds_toArray, List.set_cons_zero, List.set_cons_succ]
            refine wpAnyH_done (by kernel_rfl) ?_ _
            refine NoPanic.normal ?_
            rotate_left 1
            have HZ := Lib.hid (HN.out.1.trans (And.left hHeld))
            clear hHeld
            go_wp2_with fail
            go_ret
            exact ⟨rfl, H5.out.1.trans HZ.out⟩
end Go.Proofs.Ythcjfgfbeollpaa.P13
/- ExpandFirst: the arguments opened. -/
namespace Go.Proofs.Ythcjfgfbeollpaa.ExpandFirst
open Go.RowKit Go.Proofs.Ythcjfgfbeollpaa.Base Go.Proofs.Ythcjfgfbeollpaa.P08 Go.Proofs.Ythcjfgfbeollpaa.P13
open Go.ChangeShapes Go.WideShapes Go.ChangeAt

set_option maxRecDepth 100000 in
theorem walk {H : Type} {enc : TypeId × Value → H} (v0 : Value) {d0 : DataW H} {p0 : List MemPlace} (W : World)
    (k0 : Value.okWide Try.prog W .any 0 27 v0)
    (h0 : DataW.Trod enc Try.prog W 0 (fun _ => true) true 27 v0 d0 p0)
    (hk : Rows.uptoSmall H [d0] = true) :
    Calls Try.prog 7 #[v0] W fun e w' => e = .returned (.bool true) ∧ Below W.heap.size W w' := by
  have hb := of_decide_eq_true hk
  obtain ⟨t0, a0, c0, rfl, hc0, hL0, hn0, hs0⟩ := node_arg k0 h0
  simp only [Rows.uptoBulkAll] at hb
  exact (law_first t0 a0 c0 W hL0 hc0 (by omega) hs0).mono fun e w' ⟨he, q⟩ => ⟨he, q.below (Nat.le_refl _) (fun _ _ h => h)⟩
end Go.Proofs.Ythcjfgfbeollpaa.ExpandFirst
/- THE STATEMENT 'ExpandFirst' OF LAYER 13, SECOND FORM: for every input that holds no more values than the given bound the law answers true, and each argument reads as it did. The bound: the given 'uptoSmall'. The walk is in XW13First. -/
namespace Go.Proofs.Ythcjfgfbeollpaa.ExpandFirst
open Go.ChangeShapes Go.WideShapes Go.ChangeAt Go.RowKit
set_option linter.unusedVariables false

theorem own : ownKnob Try.prog.godebug = none := by kernel_rfl
theorem laidOut : laidOutB Try.prog = true := by kernel_rfl

set_option maxRecDepth 100000 in
theorem contract (H : Type) (enc : TypeId × Value → H) (W : World) (base : Nat) (args : Array Value) (ds gs : List (DataW H)) (before : List MemPlace)
    (hval0 : ∀ (j : Nat) t v, Try.f7.params[j]? = some t → args[j]? = some v → Value.okWide Try.prog W .any base t v)
    (hW : DataW.Whole enc Try.prog Try.f7.params.toList Rows.expandFirstSpec.vars false W args.toList ds gs before) (hk : Rows.uptoSmall H (ds ++ gs) = true) :
    Calls Try.prog 7 args W fun e W' => ∃ v, e = .returned v ∧ Rows.expandFirstSpec.post enc Try.prog Try.f7 false true false false W args v W' := by
  have hval : ∀ (j : Nat) t v, Try.f7.params[j]? = some t → args[j]? = some v → Value.okWide Try.prog W .any base t v := hval0
  have hW' := hW
  obtain ⟨p, q, hA0, hV, rfl, hfz, hnd⟩ := hW
  have hA : DataW.TrodAll enc Try.prog W 0 (fun _ => true) true Try.f7.params.toList args.toList ds p := hA0
  rw [Try.params7] at hA hval
  obtain ⟨v0, vs0, d0, ds0, p0, q0, hargs, rfl, rfl, h0, r0⟩ := trodAll_cons hA
  obtain ⟨rfl, rfl, rfl⟩ := trodAll_nil r0
  obtain rfl : args = #[v0] := by cases args; simp_all
  obtain ⟨rfl, rfl⟩ := trodVars_none hV
  have lt0 : ∀ x ∈ p0, x.block < W.heap.size := by obtain ⟨m, hm⟩ := h0; exact DataW.trod_lt m _ _ _ hm
  have hk1 : Rows.uptoSmall H [d0] = true := hk
  refine (walk v0 W (hval 0 27 v0 rfl rfl) h0 hk1).mono fun e W' ⟨he, bel⟩ => ?_
  subst he
  exact ⟨_, rfl, _, _, _, [], _, [], hW', trodAll_mk1 (shut_bool Try.underlying4 _), (trodAll_cons_mk (Below.trod laidOut (by kernel_rfl) (of_decide_eq_true (by kernel_rfl)) h0 bel lt0) trodAll_mk0), rfl, bel.frame _, fun h => by cases h⟩

set_option maxRecDepth 100000 in
theorem lifted (os : Os) (started : os.Started) (H : Type) (enc : TypeId × Value → H) (F : Stop.Interp) :
    ReturnsInHanded {} Try.checked os 7 .any ((Rows.OpenSpec.upto Rows.expandFirstSpec).pre6 enc Try.prog Try.f7 Rows.expandFirstUptoRow.domain false) (((Rows.OpenSpec.upto Rows.expandFirstSpec).at F).post enc Try.prog Try.f7 false true false false) := by
  refine returnsInHanded_of_cond (C := Try.checked) (s := Rows.OpenSpec.upto Rows.expandFirstSpec) (k := Rows.uptoSmall) rfl own started (by kernel_rfl) Try.func7
    (OpenSpec.witness (enc := enc) (C := Try.checked) (s := Rows.OpenSpec.upto Rows.expandFirstSpec) (k := Rows.uptoSmall) rfl false ⟨#[], #[.agg #[.int .i64 0, .int .u64 0, .int .u64 0, .int .u64 0, .int .u64 0, .int .i64 0, .int .i64 0, .slice none 0 0]], []⟩ 8 (by kernel_rfl) (by kernel_rfl) (by kernel_rfl)
      (x := ([.agg [.lit (.int .i64 0), .agg [.lit (.int .u64 0), .lit (.int .u64 0), .lit (.int .u64 0), .lit (.int .u64 0)], .lit (.int .i64 0), .lit (.int .i64 0), .nil]], [], [])) (by kernel_rfl) rfl (by kernel_rfl)) ?_
  intro W base args ds gs before hval hW _ hk _
  exact contract H enc W base args ds gs before hval hW hk

theorem over : Rows.expandFirstUptoRow.holds Try.pinned (Rows.OpenSpec.upto Rows.expandFirstSpec) :=
  OpenClaim.holds_of_cond 7 Try.f7 rfl rfl rfl rfl rfl rfl rfl ⟨rfl, rfl, rfl, rfl, rfl⟩ rfl rfl rfl rfl rfl (by kernel_rfl) Try.func7 (by kernel_rfl)
    (of_decide_eq_true (by kernel_rfl)) (by unfold Func.isWrapper; first | (rw [if_pos (by decide +kernel)]; kernel_rfl) | (rw [if_neg (by decide +kernel)]; exact ⟨rfl, rfl⟩))
    (fun os started H enc _ F => lifted os started H enc F)

theorem proved : Rows.ExpandFirstUptoSaid := over
#print axioms proved
end Go.Proofs.Ythcjfgfbeollpaa.ExpandFirst
