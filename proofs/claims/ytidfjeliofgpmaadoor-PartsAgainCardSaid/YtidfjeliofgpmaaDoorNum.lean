/- Contract of parts' numbers: of each byte its class. -/
import Derived.Test.YtidfjeliofgpmaaDoorArr8
import Derived.Test.YtidfjeliofgpmaaDoorPart
import Derived.Test.YtidfjeliofgpmaaDoorRanges
import Derived.Test.YtidfjeliofgpmaaDoorOL2
import Derived.Deep.WholeRow
namespace Go.Proofs.YtidfjeliofgpmaaDoor.Num
open Go.RowKit Go.Proofs.YtidfjeliofgpmaaDoor.Base Go.Proofs.YtidfjeliofgpmaaDoor.Sets Go.Proofs.YtidfjeliofgpmaaDoor.Bytes Go.Proofs.YtidfjeliofgpmaaDoor.SetL Go.Proofs.YtidfjeliofgpmaaDoor.OL Go.Proofs.YtidfjeliofgpmaaDoor.PL Go.Proofs.YtidfjeliofgpmaaDoor.Cls Go.Proofs.YtidfjeliofgpmaaDoor.Parts Go.Proofs.YtidfjeliofgpmaaDoor.Part

theorem pl_get {w : World} {a : Option Addr} {n cap : Nat} {L : List (Nat × Nat)} (h : PL w (.slice a n cap) L) {k : Nat} {r : Nat × Nat} (hr : L[k]? = some r) :
    ∃ g, a = some ⟨g, 0, none⟩ ∧ w.cell? ⟨g, k * 2, none⟩ = some (.int .u8 r.1) ∧ w.cell? ⟨g, k * 2 + 1, none⟩ = some (.int .u8 r.2) := by
  obtain ⟨a', cap', e, -, hc⟩ := h.form
  injection e with e1 _ _
  subst e1
  obtain ⟨g, -, ha, d0, d1, -⟩ := hc k r hr
  rw [show 2 * k = k * 2 from by omega] at d0
  rw [show 2 * k + 1 = k * 2 + 1 from by omega] at d1
  exact ⟨g, ha, d0, d1⟩

/-- The row when the bytes of G are told. -/
def row (C : Nat → Nat) (G : Nat → Bool) : Array Value := arr8 fun b => if G b = true then (C b : Int) else 0
theorem row_congr {C : Nat → Nat} {G H : Nat → Bool} (h : ∀ b, b < 256 → G b = H b) : row C G = row C H := arr8_congr fun b hb => by rw [h b hb]
theorem row_at (C : Nat → Nat) (G : Nat → Bool) (c : Nat) (h : c < 256) : (row C G)[c]? = some (.int .u8 (if G c = true then (C c : Int) else 0)) := arr8_at _ c h
theorem row_set {C : Nat → Nat} {G : Nat → Bool} {c k : Nat} (hc : c < 256) (hk : C c = k) : (row C G).setIfInBounds c (.int .u8 (k : Int)) = row C (fun b => G b || decide (b = c)) := by
  unfold row
  rw [arr8_set _ _ hc]
  refine arr8_congr fun b hb => ?_
  by_cases e : b = c
  · subst e
    simp [hk]
  · simp [e]
theorem row_none (C : Nat → Nat) : row C (fun _ => false) = arr8 fun _ => 0 := rfl

/-- Covered by the first j ranges. -/
def cov (R : List (Nat × Nat)) (j b : Nat) : Bool := (R.take j).any fun r => decide (r.1 ≤ b) && decide (b ≤ r.2)
theorem cov_0 (R : List (Nat × Nat)) (b : Nat) : cov R 0 b = false := by simp [cov]
theorem cov_succ {R : List (Nat × Nat)} {j : Nat} {r : Nat × Nat} (h : R[j]? = some r) (b : Nat) : cov R (j + 1) b = (cov R j b || (decide (r.1 ≤ b) && decide (b ≤ r.2))) := by
  unfold cov
  rw [List.take_add_one, h, List.any_append]
  simp
theorem cov_all (R : List (Nat × Nat)) (b : Nat) : cov R R.length b = true ↔ ∃ r ∈ R, r.1 ≤ b ∧ b ≤ r.2 := by
  unfold cov
  rw [List.take_length]
  simp

set_option maxRecDepth 100000 in
theorem numbers_any {w : World} {a : Option Addr} {L N : List ST} (cap : Nat) (hN : Done L N) (hv : SL w a N) (hT : Tab w) :
    Calls Tryd.prog 28 #[.slice a N.length cap] w fun e w' => e = .returned (.agg (arr8 fun i => (cls (key L) i : Int))) ∧ Keep (fun _ => False) w w' := by
  have h256 : N.length ≤ 256 := by rw [hN.len]; exact ncl_le _
  have HL := Lib.hid (And.intro hN (And.intro (fun (w' : World) (q : Keep (fun _ => False) w w') => hv.keep q (fun _ _ h => h)) (fun (w' : World) (q : Keep (fun _ => False) w w') => hT.keep q)))
  clear hN hv hT
  have hz := run_zero8
  obtain ⟨ys, hys⟩ : ∃ ys, ys = arr8 fun _ => 0 := ⟨_, rfl⟩
  rw [← hys] at hz
  have HY := Lib.hid hys
  clear hys
  go_enter Tryd.func28, Tryd.ntmps28
  go_wp2_with fail
  have a1 := (At.new w ys 29).alloc (.cells ys 29)
  have a2 := At.new (w.alloc (.cells ys 29)) ys 29
  have q := ((Keep.refl (fun _ => False) w).alloc (.cells ys 29)).alloc (.cells ys 29)
  rw [show (w.alloc (.cells ys 29)).heap.size = w.heap.size + 1 from by simp] at a2
  have A1 := Lib.hid (And.intro a1 (And.intro a2 q))
  clear a1 a2 q hz
  generalize ((w.alloc (.cells ys 29)).alloc (.cells ys 29)) = W at *
  generalize hn0 : w.heap.size = n0 at *
  have HN0 := Lib.hid hn0
  clear hn0
  go_loopg [11] N.length (fun gg i wr => ∃ k : Nat, i = .int .i64 k ∧ k + gg = N.length ∧ At wr n0 29 ys ∧ At wr (n0 + 1) 29 (row (cls (key L)) fun b => decide (cls (key L) b < k)) ∧ Keep (fun _ => False) w wr)
  case atStart =>
    refine ⟨0, rfl, by omega, A1.out.1, ?_, A1.out.2.2⟩
    rw [row_congr (H := fun _ => false) (fun b _ => by simp), row_none, ← HY.out]
    exact A1.out.2.1
  case round =>
    obtain ⟨k, rfl, hk, ha, hb, hq⟩ := hrel
    clear A1
    by_cases hlt : k < N.length
    · have hlt' : (k : Int) < N.length := by omega
      obtain ⟨s, hs⟩ : ∃ s, N[k]? = some s := ⟨N[k], List.getElem?_eq_getElem hlt⟩
      obtain ⟨bl, off, rfl, hbl, -⟩ := (HL.out.2.1 _ hq).range hs
      have hc := (HL.out.2.1 _ hq).cells hs
      have c0 : wr.cell? ⟨bl, off + k * 4, none⟩ = some (.int .u64 s.x0) := hc 0 (by omega)
      have c1 : wr.cell? ⟨bl, off + k * 4 + 1, none⟩ = some (.int .u64 s.x1) := hc 1 (by omega)
      have c2 : wr.cell? ⟨bl, off + k * 4 + 2, none⟩ = some (.int .u64 s.x2) := hc 2 (by omega)
      have c3 : wr.cell? ⟨bl, off + k * 4 + 3, none⟩ = some (.int .u64 s.x3) := hc 3 (by omega)
      have hok := HL.out.1.ok s (List.mem_of_getElem? hs)
      have hat := HL.out.1.at' k s hs
      have H := Lib.hid (And.intro hk (And.intro ha (And.intro hb (And.intro hq (And.intro hok hat)))))
      clear hk ha hb hq hok hat hc
      go_wp2_with fail
      refine (ranges_any s H.out.2.2.2.2.1 _ (HL.out.2.2 _ (H.out.2.2.2.1.alloc _))).mono ?_
      rintro e w2 ⟨lv, rfl, hp, hnew, q2⟩
      obtain ⟨hk, ha, hb, hq, hok, hat⟩ := H.out
      have q2' := ((Keep.refl (fun _ => False) wr).alloc (.cells (cells s) 35)).trans q2
      have ha2 := ha.keep q2' (fun h => h)
      have hb2 := hb.keep q2' (fun h => h)
      have hq2 := hq.trans q2'
      have hro := rgs_ok s.has 256
      have hrl := rgs_le s.has 256
      obtain ⟨pa, pc, rfl, -, -⟩ := hp.form
      have hown : ∀ g, pa = some ⟨g, 0, none⟩ → n0 + 1 < g := fun g hg => by
        have := hnew g (by rw [hg]; rfl)
        have h3 := hb.lt
        simp at this
        omega
      generalize rgs s.has 256 = R at *
      have hcov : ∀ b, b < 256 → (cov R R.length b = true ↔ s.has b = true) := fun b hb => by
        rw [cov_all, hro.mem b]
        exact ⟨fun h => h.2, fun h => ⟨hb, h⟩⟩
      have H2 := Lib.hid (And.intro hk (And.intro hp (And.intro ha2 (And.intro hb2 (And.intro hq2 (And.intro hro (And.intro hcov (And.intro hat hown))))))))
      clear hk hp ha2 hb2 hq2 hro hcov hat hown ha hb hq hok H q2 q2' hnew c0 c1 c2 c3
      go_wp2_with fail
      go_loopg [19] R.length (fun gg i wx => ∃ j : Nat, i = .int .i64 j ∧ j + gg = R.length ∧ PL wx (.slice pa R.length pc) R ∧ At wx n0 29 ys ∧ At wx (n0 + 1) 29 (row (cls (key L)) fun b => decide (cls (key L) b < k) || cov R j b) ∧ Keep (fun _ => False) w wx)
      case atStart =>
        refine ⟨0, rfl, by omega, H2.out.2.1, H2.out.2.2.1, ?_, H2.out.2.2.2.2.1⟩
        rw [row_congr (H := fun b => decide (cls (key L) b < k)) (fun b _ => by rw [cov_0, Bool.or_false])]
        exact H2.out.2.2.2.1
      case round =>
        obtain ⟨j, rfl, hj, hp, ha, hb, hq⟩ := hrel
        by_cases hjl : j < R.length
        · have hjl' : (j : Int) < R.length := by omega
          obtain ⟨r, hr⟩ : ∃ r, R[j]? = some r := ⟨R[j], List.getElem?_eq_getElem hjl⟩
          obtain ⟨g, rfl, d0, d1⟩ := pl_get hp hr
          have hord := H2.out.2.2.2.2.2.1.ord r (List.mem_of_getElem? hr)
          have H3 := Lib.hid (And.intro hj (And.intro hp (And.intro ha (And.intro hb (And.intro hq hr)))))
          clear hj hp ha hb hq hr
          go_wp2_with fail
          have qa := (Keep.refl (fun _ => False) wr).alloc (.cells #[.int .u8 r.1, .int .u8 r.2] 64)
          have an := At.new wr #[.int .u8 r.1, .int .u8 r.2] 64
          have hlt3 : n0 + 1 < wr.heap.size := H3.out.2.2.2.1.lt
          have H4 := Lib.hid (And.intro an (And.intro (H3.out.2.1.keep qa (fun _ _ h => h)) (And.intro (H3.out.2.2.1.keep qa (fun h => h)) (And.intro (H3.out.2.2.2.1.keep qa (fun h => h)) (And.intro (H3.out.2.2.2.2.1.trans qa) hlt3)))))
          clear d0 d1 qa an hlt3
          generalize wr.heap.size = bn at *
          generalize (wr.alloc (.cells #[.int .u8 r.1, .int .u8 r.2] 64)) = w3 at *
          go_loopg [8] (r.2 + 1 - r.1) (fun gg i wx => ∃ c : Nat, i = .int .i64 c ∧ c + gg = r.2 + 1 ∧ r.1 ≤ c ∧ At wx bn 64 #[.int .u8 r.1, .int .u8 r.2] ∧ PL wx (.slice (some ⟨g, 0, none⟩) R.length pc) R ∧ At wx n0 29 ys ∧ At wx (n0 + 1) 29 (row (cls (key L)) fun b => decide (cls (key L) b < k) || cov R j b || (decide (r.1 ≤ b) && decide (b < c))) ∧ Keep (fun _ => False) w wx)
          case atStart =>
            obtain ⟨x1, x2, x3, x4, x5, x6⟩ := H4.out
            refine ⟨r.1, rfl, by omega, Nat.le_refl _, x1, x2, x3, ?_, x5⟩
            rw [row_congr (H := fun b => decide (cls (key L) b < k) || cov R j b) (fun b _ => by
              have : (decide (r.1 ≤ b) && decide (b < r.1)) = false := by rw [Bool.eq_false_iff]; simp
              rw [this, Bool.or_false])]
            exact x4
          case round =>
            obtain ⟨c, rfl, hcg, hrc, hbx, hp, ha, hb, hq⟩ := hrel
            have d0 := hbx.cell (o := 0) rfl
            have d1 := hbx.cell (o := 1) rfl
            by_cases hcl : c ≤ r.2
            · have hcl' : (c : Int) ≤ (r.2 : Int) := by omega
              have hc256 : c < 256 := by omega
              have hcc := hb.cell (row_at (cls (key L)) _ c hc256)
              have hf := hb.frozen c
              have hck : cls (key L) c = k := by
                have h1 := (H2.out.2.2.2.2.2.1.mem c).1 ⟨r, List.mem_of_getElem? H3.out.2.2.2.2.2, hrc, hcl⟩
                have h2 := H2.out.2.2.2.2.2.2.2.1 c hc256
                rw [h1.2] at h2
                exact of_decide_eq_true h2.symm
              have hk8 : IntKind.u8.wrap (k : Int) = k := by rw [show IntKind.u8.wrap (k : Int) = (k : Int) % 256 from by simp [IntKind.wrap, IntKind.bits, IntKind.signed]]; omega
              have b1 := hb.set c (.int .u8 (k : Int))
              rw [row_set hc256 hck] at b1
              have hgn := H2.out.2.2.2.2.2.2.2.2 g rfl
              have hbn := H4.out.2.2.2.2.2
              have HK := Lib.hid (And.intro hcg (And.intro (hbx.setOther (p := ⟨n0 + 1, c, none⟩) (show bn ≠ n0 + 1 from by omega) (.int .u8 (k : Int))) (And.intro (hp.keep ((Keep.refl (fun b => b = n0 + 1) wr).setCell (p := ⟨n0 + 1, c, none⟩) (fun _ => rfl) (.int .u8 (k : Int))) (fun g' hg' e => by
                have h2 : some g = some g' := hg'
                injection h2 with h2
                have e' : g' = n0 + 1 := e
                omega)) (And.intro (ha.setOther (p := ⟨n0 + 1, c, none⟩) (show n0 ≠ n0 + 1 from by omega) (.int .u8 (k : Int))) (And.intro b1 (hq.setCell (p := ⟨n0 + 1, c, none⟩) (fun h => absurd h (by show ¬ (n0 + 1 < w.heap.size); rw [HN0.out]; omega)) (.int .u8 (k : Int))))))))
              clear hcg hbx hp ha hb hq b1 hgn hbn hck
              go_wp2_with fail
              go_roundg (r.2 + 1 - (c + 1))
              case measure => have := HK.out.1; omega
              case rel =>
                obtain ⟨x1, x2, x3, x4, x5, x6⟩ := HK.out
                refine ⟨c + 1, by go_num, by omega, by omega, x2, x3, x4, ?_, x6⟩
                rw [row_congr (H := fun b => decide (cls (key L) b < k) || cov R j b || (decide (r.1 ≤ b) && decide (b < c)) || decide (b = c)) (fun b _ => by
                  have : (decide (r.1 ≤ b) && decide (b < c + 1)) = ((decide (r.1 ≤ b) && decide (b < c)) || decide (b = c)) := by
                    rw [Bool.eq_iff_iff]
                    simp
                    omega
                  rw [this, ← Bool.or_assoc])]
                exact x5
            · have hcl' : ¬ (c : Int) ≤ (r.2 : Int) := by omega
              have hce : c = r.2 + 1 := by omega
              subst hce
              have HK := Lib.hid (And.intro hp (And.intro ha (And.intro hb hq)))
              clear hcg hbx hp ha hb hq
              go_wp2_with fail
              go_roundg (R.length - (j + 1))
              case measure => have := H3.out.1; omega
              case rel =>
                obtain ⟨x1, x2, x3, x4⟩ := HK.out
                refine ⟨j + 1, by go_num, by omega, x1, x2, ?_, x4⟩
                rw [row_congr (H := fun b => decide (cls (key L) b < k) || cov R j b || (decide (r.1 ≤ b) && decide (b < r.2 + 1))) (fun b _ => by
                  rw [cov_succ H3.out.2.2.2.2.2, Bool.or_assoc]
                  congr 3
                  apply decide_eq_decide.2
                  omega)]
                exact x3
        · have hje : j = R.length := by omega
          subst hje
          have HK := Lib.hid (And.intro ha (And.intro hb hq))
          clear hj hp ha hb hq
          go_wp2_with fail
          go_roundg (N.length - (k + 1))
          case measure => have := H2.out.1; omega
          case rel =>
            obtain ⟨x2, x3, x4⟩ := HK.out
            refine ⟨k + 1, by go_num, by have := H2.out.1; omega, x2, ?_, x4⟩
            rw [row_congr (H := fun b => decide (cls (key L) b < k) || cov R R.length b) (fun b hb => by
              have h1 := H2.out.2.2.2.2.2.2.1 b hb
              have h2 := H2.out.2.2.2.2.2.2.2.1 b hb
              rw [h2, decide_eq_true_eq] at h1
              rw [Bool.eq_iff_iff, Bool.or_eq_true, h1, decide_eq_true_eq, decide_eq_true_eq]
              omega)]
            exact x3
    · have hkN : k = N.length := by omega
      subst hkN
      have hall : row (cls (key L)) (fun b => decide (cls (key L) b < N.length)) = arr8 fun i => (cls (key L) i : Int) := arr8_congr fun b hb => by
        have := cls_lt (key L) hb
        rw [HL.out.1.len, if_pos (decide_eq_true this)]
      rw [hall] at hb
      have h1 := arr8_one (fun i => (cls (key L) i : Int))
      have hs1 := arr8_size (fun i => (cls (key L) i : Int))
      have hz1 : ys.size = 256 := by rw [HY.out, arr8_size]
      generalize hM : arr8 (fun i => (cls (key L) i : Int)) = M at *
      have hi1 : (Tryd.prog.info? 29).map (·.size) = some M.size := by rw [hs1]; exact size8
      have hla : wr.heap[n0]? = some (.cells ys 29 (0, 0)) := ha
      have hlb : wr.heap[n0 + 1]? = some (.cells M 29 (0, 0)) := hb
      have hq2 : Keep (fun _ => False) w (wr.setRow n0 M) := ⟨hq.os, hq.tape, hq.output, by rw [setRow_size]; exact hq.size, fun k hk _ => (setRow_other wr n0 k M (by have := HN0.out; omega)).trans (hq.block k hk (fun h => h))⟩
      have hnew : (wr.setRow n0 M).heap[n0]? = some (.cells M 29 (0, 0)) := setRow_heap wr n0 ys M 29 (0, 0) hla
      have H := Lib.hid (And.intro hla (And.intro hlb (And.intro hi1 (And.intro h1 (And.intro (hz1.trans hs1.symm) (And.intro hq2 hnew))))))
      have HM := Lib.hid hM
      clear ha hb hq hk hall h1 hs1 hz1 hi1 hla hlb hq2 hnew hM
      go_wp2_with (first
        | (refine wpList_load_row rfl 29 _ rfl (n0 + 1) rfl 29 M (0, 0) _ H.out.2.1 Tryd.underlying29 rfl H.out.2.2.1 ?_)
        | (refine wpList_store_row rfl 29 _ _ rfl n0 M rfl rfl 29 ys H.out.1 H.out.2.2.1 H.out.2.2.2.2.1 H.out.2.2.2.1 ?_))
      have hr := run_loadVar_row (P := Tryd.prog) (wr.setRow n0 M) n0 29 29 M (0, 0) _ H.out.2.2.2.2.2.2 Tryd.underlying29 rfl H.out.2.2.1
      exact bodyPost_ret (v := .agg M) (by simp [results, Tryd.results28, asAddr, Act.put, hr]) rfl ⟨by rw [HM.out], H.out.2.2.2.2.2.1⟩
end Go.Proofs.YtidfjeliofgpmaaDoor.Num
