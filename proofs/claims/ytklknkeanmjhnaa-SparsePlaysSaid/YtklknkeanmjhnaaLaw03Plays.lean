/- SparsePlays, walked: in every order of calls those that are there, and their order, are the document's. -/
import Derived.Test.YtklknkeanmjhnaaPlays03
import Derived.Deep.RegionHeld3
import Derived.Deep.DeepCutAuto
import Derived.Deep.CutBlock
import Derived.Deep.LoopGhost
namespace Go.Proofs.Ytklknkeanmjhnaa.SparsePlays
open Go.RowKit Go.Proofs.Ytklknkeanmjhnaa.Base Go.Proofs.Ytklknkeanmjhnaa.Lists Go.Proofs.Ytklknkeanmjhnaa.Sparse Go.Proofs.Ytklknkeanmjhnaa.Law03 Go.Proofs.Ytklknkeanmjhnaa.Meter Go.Proofs.Ytklknkeanmjhnaa.Ref03

set_option maxRecDepth 100000 in
set_option maxHeartbeats 2000000 in
theorem walk {H : Type} {enc : TypeId × Value → H} (v0 v1 : Value) {d0 d1 : DataW H} {p0 p1 : List MemPlace} (W : World)
    (k0 : Value.okWide Try.prog W .any 0 3 v0) (k1 : Value.okWide Try.prog W .any 0 57 v1)
    (h0 : DataW.Trod enc Try.prog W 0 (fun _ => true) true 3 v0 d0 p0) (h1 : DataW.Trod enc Try.prog W 0 (fun _ => true) true 57 v1 d1 p1) :
    Calls Try.prog 8 #[v0, v1] W fun e w' => e = .returned (.bool true) ∧ Below W.heap.size W w' := by
  obtain ⟨n, rfl, -, -⟩ := int_arg Try.underlying3 k0 h0
  obtain ⟨la, len, cap, bl, off, rfl, hlen, hla, hrow⟩ := ops_arg k1 h1
  clear k0 k1 h0 h1
  have HR := Lib.hid hrow
  have HA := Lib.hid hla
  clear hrow hla
  by_cases c2 : 300 < n
  · have c2' : decide (300 < n) = true := by simpa using c2
    go_enter Try.func8, Try.ntmps8
    go_wp2_with fail
    refine (awake_any _).mono ?_
    rintro e w1 ⟨rfl, q1⟩
    have r1 := Lib.hid q1
    clear q1
    go_wp2_with fail
    refine (awake_any _).mono ?_
    rintro e w2 ⟨rfl, q2⟩
    have r2 := Lib.hid (r1.out.trans q2)
    clear q2 r1
    go_wp2
    go_ret
    exact ⟨rfl, r2.out.below (Nat.le_refl _) (fun _ _ h => h)⟩
  · have c2' : decide (300 < n) = false := by simpa using c2
    by_cases c3 : 500 < len
    · have c3' : decide ((500 : Int) < (len : Int)) = true := by simp; omega
      go_enter Try.func8, Try.ntmps8
      go_wp2_with fail
      refine (awake_any _).mono ?_
      rintro e w1 ⟨rfl, q1⟩
      have r1 := Lib.hid q1
      clear q1
      go_wp2_with fail
      refine (awake_any _).mono ?_
      rintro e w2 ⟨rfl, q2⟩
      have r2 := Lib.hid (r1.out.trans q2)
      clear q2 r1
      go_wp2
      go_ret
      exact ⟨rfl, r2.out.below (Nat.le_refl _) (fun _ _ h => h)⟩
    · have c3' : decide ((500 : Int) < (len : Int)) = false := by simp; omega
      by_cases c1 : n < 0
      · go_enter Try.func8, Try.ntmps8
        go_wp2_with fail
        refine (awake_any _).mono ?_
        rintro e w1 ⟨rfl, q1⟩
        have r1 := Lib.hid q1
        clear q1
        go_wp2_with fail
        refine (new_bad _ n _ (.inl c1)).mono ?_
        rintro e w2 ⟨rfl, rfl⟩
        go_wp2
        go_ret
        exact ⟨rfl, r1.out.below (Nat.le_refl _) (fun _ _ h => h)⟩
      · obtain ⟨n, rfl⟩ : ∃ k : Nat, n = k := ⟨n.toNat, by omega⟩
        have hn : n ≤ 65536 := by omega
        have c1' : decide ((n : Int) < 0) = false := by simp
        go_enter Try.func8, Try.ntmps8
        go_wp2_with fail
        refine (awake_any _).mono ?_
        rintro e w1 ⟨rfl, q1⟩
        go_wp2_with fail
        refine (new_none n hn _).mono ?_
        rintro e w2 F1
        obtain ⟨b, g, rfl, T0⟩ := Pl.made q1 F1
        clear F1 q1
        go_wp2_with fail
        clear c1 c1' c2 c2' c3 c3'
        go_loopg [7, 40] len (fun gg lv i wr => ∃ (k : Nat) (L : List Nat), k + gg = len ∧ i = .int .i64 k ∧ Pl W wr [] b g n L lv)
        case atStart => exact ⟨0, [], Nat.zero_add _, rfl, T0⟩
        case round =>
          obtain ⟨k, L0, hk, rfl, hT⟩ := hrel
          obtain ⟨la0, cap0, rfl, hL0, -⟩ := hT.form
          by_cases hlt : k < len
          · obtain ⟨hla, hbl⟩ := HA.out (by omega)
            subst hla
            have hc : ∀ j, j < 2 → ∃ q : Int, wr.cell? ⟨bl, off + (k * 2 + j), none⟩ = some (.int .i64 q) ∧ -9223372036854775808 ≤ q ∧ q ≤ 9223372036854775807 := fun j hj => by
              obtain ⟨q, h1, h2⟩ := HR.out k j hlt hj
              exact ⟨q, (hT.o.q.cell hbl (fun h => h)).trans h1, h2⟩
            obtain ⟨x0, c0, -, -⟩ := hc 0 (by omega)
            obtain ⟨x1, c1, y1, z1⟩ := hc 1 (by omega)
            rw [Nat.add_zero] at c0
            simp only [← Nat.add_assoc] at c1
            have hlt' : (k : Int) < len := by omega
            have T1 := hT.more #[.int .i64 x0, .int .i64 x1] 62
            have hob : ∀ w' L1 l1, Pl W w' [(wr.heap.size, 62, #[.int .i64 x0, .int .i64 x1])] b g n L1 l1 → w'.cell? ⟨wr.heap.size, 0, none⟩ = some (.int .i64 x0) ∧ w'.cell? ⟨wr.heap.size, 1, none⟩ = some (.int .i64 x1) := fun w' L1 l1 h => ⟨(h.at_ (List.mem_singleton.2 rfl)).cell rfl, (h.at_ (List.mem_singleton.2 rfl)).cell rfl⟩
            have OB := Lib.hid hob
            have T1 := Lib.hid T1
            clear hc hT hob T0
            go_upto_block 2 with fail
            go_cut [7] (fun lv wx => ∃ L, Pl W wx [(wr.heap.size, 62, #[.int .i64 x0, .int .i64 x1])] b g n L lv)
            case first =>
              obtain ⟨-, b1⟩ := OB.out _ _ _ T1.out
              by_cases e1 : x0 = 1
              · subst e1
                go_wp2_with fail
                refine (pl_ref_add b g n L0 _ x1 _ T1.out).mono ?_
                rintro e w3 ⟨u, rfl, N1⟩
                obtain ⟨-, b2⟩ := OB.out _ _ _ N1.p
                have N1 := Lib.hid N1
                have hbb : ((addV n L0 x1).2 != (addV n L0 x1).2) = false := by simp
                clear b1 T1
                go_wp2_with fail
                refine (pn_add b g n L0 _ u x1 _ N1.out).mono ?_
                rintro e w4 ⟨rfl, T2⟩
                have T2 := Lib.hid T2
                clear N1 b2
                generalize (addV n L0 x1).2 = t at *
                generalize (addV n L0 x1).1 = L1 at *
                go_wp2_with fail
                go_meet
                case rel => exact ⟨L1, T2.out⟩
              · have e1' : (x0 == 1) = false := by simpa using e1
                by_cases e2 : x0 = 2
                · subst e2
                  go_wp2_with fail
                  refine (pl_clear b g n L0 _ _ T1.out).mono ?_
                  rintro e w4 ⟨rfl, T2⟩
                  have T2 := Lib.hid T2
                  clear T1 b1
                  go_wp2_with fail
                  go_meet
                  case rel => exact ⟨[], T2.out⟩
                · have e2' : (x0 == 2) = false := by simpa using e2
                  go_wp2_with fail
                  go_meet
                  case rel => exact ⟨L0, T1.out⟩
            case rest =>
              obtain ⟨L, T2⟩ := hcut
              clear T1 c0 c1
              obtain ⟨la2, cap2, rfl, hL, hcell⟩ := T2.form
              obtain ⟨-, b1⟩ := OB.out _ _ _ T2
              have T2 := Lib.hid T2
              have HC := Lib.hid hcell
              clear hcell
              by_cases d1 : 0 ≤ x1
              · obtain ⟨y, hy⟩ : ∃ y : Nat, x1 = y := ⟨x1.toNat, by omega⟩
                by_cases d2 : y < L.length
                · have hx : L[y]? = some L[y] := List.getElem?_eq_getElem d2
                  obtain ⟨u, rfl, cc⟩ := HC.out y _ hx
                  have d2' : (y : Int) < L.length := by omega
                  have ha := atV_some hx
                  generalize L[y] = z at *
                  subst hy
                  have hb1 : (hasV L y != hasV L y) = false := by simp
                  have hb2 : ((L.length : Int) != L.length) = false := by simp
                  have hb3 : (atV L y != (z : Int)) = false := by simp [ha]
                  have T3 := T2
                  clear T2 HC
                  go_upto_region 22 with fail
                  go_cut [121] (fun v wx => v = .bool false ∧ Pl W wx [(wr.heap.size, 62, #[.int .i64 x0, .int .i64 y])] b g n L (.slice (some ⟨u, 0, none⟩) L.length cap2))
                  case first =>
                    go_region_held3 (fun w' => w'.cell? ⟨wr.heap.size, 1, none⟩ = some (.int .i64 y)) (first | exact b1 | exact (OB.out _ _ _ HT5).2 | exact (OB.out _ _ _ HT4).2 | exact (OB.out _ _ _ HT3).2 | exact (OB.out _ _ _ HT2).2 | exact (OB.out _ _ _ HT1).2) (first
                        | (go_at_call 36; refine (pl_has b g n L (.slice (some ⟨u, 0, none⟩) L.length cap2) y _ (by first | exact T3.out | exact T3.out.noneK ((Drawn.r1 _).keep _) | exact T3.out.noneK ((Drawn.r2 _).keep _) | exact T3.out.noneK ((Drawn.r3 _).keep _))).mono ?_; rintro e w4 ⟨rfl, rfl⟩)
                        | (go_at_call 37; refine (pl_ref_has b g n L (.slice (some ⟨u, 0, none⟩) L.length cap2) y _ (by first | exact T3.out | exact T3.out.noneK ((Drawn.r1 _).keep _) | exact T3.out.noneK ((Drawn.r2 _).keep _) | exact T3.out.noneK ((Drawn.r3 _).keep _))).mono ?_; rintro e w5 ⟨rfl, rfl⟩)
                        | (go_at_call 38; refine (pl_len b g n L (.slice (some ⟨u, 0, none⟩) L.length cap2) _ (by first | exact T3.out | exact T3.out.noneK ((Drawn.r1 _).keep _) | exact T3.out.noneK ((Drawn.r2 _).keep _) | exact T3.out.noneK ((Drawn.r3 _).keep _))).mono ?_; rintro e w6 ⟨rfl, rfl⟩)
                        | (go_at_call 40; refine (pl_list b g n L (.slice (some ⟨u, 0, none⟩) L.length cap2) _ (by first | exact T3.out | exact T3.out.noneK ((Drawn.r1 _).keep _) | exact T3.out.noneK ((Drawn.r2 _).keep _) | exact T3.out.noneK ((Drawn.r3 _).keep _))).mono ?_; rintro e w7 ⟨l1, rfl, HL1, HT1⟩)
                        | (go_at_call_of 39 l1; refine (pl_same b g n L (.slice (some ⟨u, 0, none⟩) L.length cap2) l1 _ (by first | exact HL1 | exact IL.keep HL1 ((Drawn.r1 _).keep (fun _ => False)) (fun _ _ h => h) | exact IL.keep HL1 ((Drawn.r2 _).keep (fun _ => False)) (fun _ _ h => h)) (by first | exact HT1 | exact HT1.noneK ((Drawn.r1 _).keep _) | exact HT1.noneK ((Drawn.r2 _).keep _) | exact HT1.noneK ((Drawn.r3 _).keep _))).mono ?_; rintro e w8 ⟨rfl, HT2⟩)
                        | (go_at_call 41; refine (pl_sorted b g n L (.slice (some ⟨u, 0, none⟩) L.length cap2) _ (by first | exact HT2 | exact HT2.noneK ((Drawn.r1 _).keep _) | exact HT2.noneK ((Drawn.r2 _).keep _) | exact HT2.noneK ((Drawn.r3 _).keep _))).mono ?_; rintro e w9 ⟨l2, rfl, HL2, HT3⟩)
                        | (go_at_call 42; refine (pl_ref_sorted b g n L (.slice (some ⟨u, 0, none⟩) L.length cap2) _ (by first | exact HT3 | exact HT3.noneK ((Drawn.r1 _).keep _) | exact HT3.noneK ((Drawn.r2 _).keep _) | exact HT3.noneK ((Drawn.r3 _).keep _))).mono ?_; rintro e w10 ⟨l3, rfl, HL3, HQ, HT4⟩; replace HL2 := IL.keep HL2 HQ (fun _ _ h => h))
                        | (go_at_call_of 39 l2; refine (pl_same2 b g n L (.slice (some ⟨u, 0, none⟩) L.length cap2) l2 l3 _ (by first | exact HL2 | exact IL.keep HL2 ((Drawn.r1 _).keep (fun _ => False)) (fun _ _ h => h) | exact IL.keep HL2 ((Drawn.r2 _).keep (fun _ => False)) (fun _ _ h => h)) (by first | exact HL3 | exact IL.keep HL3 ((Drawn.r1 _).keep (fun _ => False)) (fun _ _ h => h) | exact IL.keep HL3 ((Drawn.r2 _).keep (fun _ => False)) (fun _ _ h => h)) (by first | exact HT4 | exact HT4.noneK ((Drawn.r1 _).keep _) | exact HT4.noneK ((Drawn.r2 _).keep _) | exact HT4.noneK ((Drawn.r3 _).keep _))).mono ?_; rintro e w11 ⟨rfl, HT5⟩)
                        | (go_at_call 43; refine (pl_at b g n L (.slice (some ⟨u, 0, none⟩) L.length cap2) y _ (by first | exact HT5 | exact HT5.noneK ((Drawn.r1 _).keep _) | exact HT5.noneK ((Drawn.r2 _).keep _) | exact HT5.noneK ((Drawn.r3 _).keep _))).mono ?_; rintro e w12 ⟨rfl, rfl⟩))
                    all_goals
                      go_wp2_with fail
                      go_meet
                      case rel => exact ⟨rfl, HT5⟩
                  case rest =>
                    obtain ⟨rfl, T5⟩ := hcut
                    have T5 := Lib.hid T5.less
                    clear b1
                    go_wp2_with fail
                    go_roundg (gk - 1)
                    case measure => omega
                    case rel => exact ⟨k + 1, L, by omega, by go_num, T5.out⟩
                · have d2' : decide ((y : Int) < L.length) = false := by simp; omega
                  have ha : atV L y = -1 := by unfold atV; rw [if_pos (by omega), Int.toNat_natCast, List.getElem?_eq_none (by omega)]
                  subst hy
                  have hb1 : (hasV L y != hasV L y) = false := by simp
                  have hb2 : ((L.length : Int) != L.length) = false := by simp
                  have hb3 : (atV L y != -1) = false := by simp [ha]
                  have T3 := T2
                  clear T2 HC
                  go_upto_region 22 with fail
                  go_cut [121] (fun v wx => v = .bool false ∧ Pl W wx [(wr.heap.size, 62, #[.int .i64 x0, .int .i64 y])] b g n L (.slice la2 L.length cap2))
                  case first =>
                    go_region_held3 (fun w' => w'.cell? ⟨wr.heap.size, 1, none⟩ = some (.int .i64 y)) (first | exact b1 | exact (OB.out _ _ _ HT5).2 | exact (OB.out _ _ _ HT4).2 | exact (OB.out _ _ _ HT3).2 | exact (OB.out _ _ _ HT2).2 | exact (OB.out _ _ _ HT1).2) (first
                        | (go_at_call 36; refine (pl_has b g n L (.slice la2 L.length cap2) y _ (by first | exact T3.out | exact T3.out.noneK ((Drawn.r1 _).keep _) | exact T3.out.noneK ((Drawn.r2 _).keep _) | exact T3.out.noneK ((Drawn.r3 _).keep _))).mono ?_; rintro e w4 ⟨rfl, rfl⟩)
                        | (go_at_call 37; refine (pl_ref_has b g n L (.slice la2 L.length cap2) y _ (by first | exact T3.out | exact T3.out.noneK ((Drawn.r1 _).keep _) | exact T3.out.noneK ((Drawn.r2 _).keep _) | exact T3.out.noneK ((Drawn.r3 _).keep _))).mono ?_; rintro e w5 ⟨rfl, rfl⟩)
                        | (go_at_call 38; refine (pl_len b g n L (.slice la2 L.length cap2) _ (by first | exact T3.out | exact T3.out.noneK ((Drawn.r1 _).keep _) | exact T3.out.noneK ((Drawn.r2 _).keep _) | exact T3.out.noneK ((Drawn.r3 _).keep _))).mono ?_; rintro e w6 ⟨rfl, rfl⟩)
                        | (go_at_call 40; refine (pl_list b g n L (.slice la2 L.length cap2) _ (by first | exact T3.out | exact T3.out.noneK ((Drawn.r1 _).keep _) | exact T3.out.noneK ((Drawn.r2 _).keep _) | exact T3.out.noneK ((Drawn.r3 _).keep _))).mono ?_; rintro e w7 ⟨l1, rfl, HL1, HT1⟩)
                        | (go_at_call_of 39 l1; refine (pl_same b g n L (.slice la2 L.length cap2) l1 _ (by first | exact HL1 | exact IL.keep HL1 ((Drawn.r1 _).keep (fun _ => False)) (fun _ _ h => h) | exact IL.keep HL1 ((Drawn.r2 _).keep (fun _ => False)) (fun _ _ h => h)) (by first | exact HT1 | exact HT1.noneK ((Drawn.r1 _).keep _) | exact HT1.noneK ((Drawn.r2 _).keep _) | exact HT1.noneK ((Drawn.r3 _).keep _))).mono ?_; rintro e w8 ⟨rfl, HT2⟩)
                        | (go_at_call 41; refine (pl_sorted b g n L (.slice la2 L.length cap2) _ (by first | exact HT2 | exact HT2.noneK ((Drawn.r1 _).keep _) | exact HT2.noneK ((Drawn.r2 _).keep _) | exact HT2.noneK ((Drawn.r3 _).keep _))).mono ?_; rintro e w9 ⟨l2, rfl, HL2, HT3⟩)
                        | (go_at_call 42; refine (pl_ref_sorted b g n L (.slice la2 L.length cap2) _ (by first | exact HT3 | exact HT3.noneK ((Drawn.r1 _).keep _) | exact HT3.noneK ((Drawn.r2 _).keep _) | exact HT3.noneK ((Drawn.r3 _).keep _))).mono ?_; rintro e w10 ⟨l3, rfl, HL3, HQ, HT4⟩; replace HL2 := IL.keep HL2 HQ (fun _ _ h => h))
                        | (go_at_call_of 39 l2; refine (pl_same2 b g n L (.slice la2 L.length cap2) l2 l3 _ (by first | exact HL2 | exact IL.keep HL2 ((Drawn.r1 _).keep (fun _ => False)) (fun _ _ h => h) | exact IL.keep HL2 ((Drawn.r2 _).keep (fun _ => False)) (fun _ _ h => h)) (by first | exact HL3 | exact IL.keep HL3 ((Drawn.r1 _).keep (fun _ => False)) (fun _ _ h => h) | exact IL.keep HL3 ((Drawn.r2 _).keep (fun _ => False)) (fun _ _ h => h)) (by first | exact HT4 | exact HT4.noneK ((Drawn.r1 _).keep _) | exact HT4.noneK ((Drawn.r2 _).keep _) | exact HT4.noneK ((Drawn.r3 _).keep _))).mono ?_; rintro e w11 ⟨rfl, HT5⟩)
                        | (go_at_call 43; refine (pl_at b g n L (.slice la2 L.length cap2) y _ (by first | exact HT5 | exact HT5.noneK ((Drawn.r1 _).keep _) | exact HT5.noneK ((Drawn.r2 _).keep _) | exact HT5.noneK ((Drawn.r3 _).keep _))).mono ?_; rintro e w12 ⟨rfl, rfl⟩))
                    all_goals
                      go_wp2_with fail
                      go_meet
                      case rel => exact ⟨rfl, HT5⟩
                  case rest =>
                    obtain ⟨rfl, T5⟩ := hcut
                    have T5 := Lib.hid T5.less
                    clear b1
                    go_wp2_with fail
                    go_roundg (gk - 1)
                    case measure => omega
                    case rel => exact ⟨k + 1, L, by omega, by go_num, T5.out⟩
              · have d1' : decide (0 ≤ x1) = false := by simpa using d1
                have ha : atV L x1 = -1 := by unfold atV; rw [if_neg d1]
                have hb1 : (hasV L x1 != hasV L x1) = false := by simp
                have hb2 : ((L.length : Int) != L.length) = false := by simp
                have hb3 : (atV L x1 != -1) = false := by simp [ha]
                have T3 := T2
                clear T2 HC
                go_upto_region 22 with fail
                go_cut [121] (fun v wx => v = .bool false ∧ Pl W wx [(wr.heap.size, 62, #[.int .i64 x0, .int .i64 x1])] b g n L (.slice la2 L.length cap2))
                case first =>
                  go_region_held3 (fun w' => w'.cell? ⟨wr.heap.size, 1, none⟩ = some (.int .i64 x1)) (first | exact b1 | exact (OB.out _ _ _ HT5).2 | exact (OB.out _ _ _ HT4).2 | exact (OB.out _ _ _ HT3).2 | exact (OB.out _ _ _ HT2).2 | exact (OB.out _ _ _ HT1).2) (first
                      | (go_at_call 36; refine (pl_has b g n L (.slice la2 L.length cap2) x1 _ (by first | exact T3.out | exact T3.out.noneK ((Drawn.r1 _).keep _) | exact T3.out.noneK ((Drawn.r2 _).keep _) | exact T3.out.noneK ((Drawn.r3 _).keep _))).mono ?_; rintro e w4 ⟨rfl, rfl⟩)
                      | (go_at_call 37; refine (pl_ref_has b g n L (.slice la2 L.length cap2) x1 _ (by first | exact T3.out | exact T3.out.noneK ((Drawn.r1 _).keep _) | exact T3.out.noneK ((Drawn.r2 _).keep _) | exact T3.out.noneK ((Drawn.r3 _).keep _))).mono ?_; rintro e w5 ⟨rfl, rfl⟩)
                      | (go_at_call 38; refine (pl_len b g n L (.slice la2 L.length cap2) _ (by first | exact T3.out | exact T3.out.noneK ((Drawn.r1 _).keep _) | exact T3.out.noneK ((Drawn.r2 _).keep _) | exact T3.out.noneK ((Drawn.r3 _).keep _))).mono ?_; rintro e w6 ⟨rfl, rfl⟩)
                      | (go_at_call 40; refine (pl_list b g n L (.slice la2 L.length cap2) _ (by first | exact T3.out | exact T3.out.noneK ((Drawn.r1 _).keep _) | exact T3.out.noneK ((Drawn.r2 _).keep _) | exact T3.out.noneK ((Drawn.r3 _).keep _))).mono ?_; rintro e w7 ⟨l1, rfl, HL1, HT1⟩)
                      | (go_at_call_of 39 l1; refine (pl_same b g n L (.slice la2 L.length cap2) l1 _ (by first | exact HL1 | exact IL.keep HL1 ((Drawn.r1 _).keep (fun _ => False)) (fun _ _ h => h) | exact IL.keep HL1 ((Drawn.r2 _).keep (fun _ => False)) (fun _ _ h => h)) (by first | exact HT1 | exact HT1.noneK ((Drawn.r1 _).keep _) | exact HT1.noneK ((Drawn.r2 _).keep _) | exact HT1.noneK ((Drawn.r3 _).keep _))).mono ?_; rintro e w8 ⟨rfl, HT2⟩)
                      | (go_at_call 41; refine (pl_sorted b g n L (.slice la2 L.length cap2) _ (by first | exact HT2 | exact HT2.noneK ((Drawn.r1 _).keep _) | exact HT2.noneK ((Drawn.r2 _).keep _) | exact HT2.noneK ((Drawn.r3 _).keep _))).mono ?_; rintro e w9 ⟨l2, rfl, HL2, HT3⟩)
                      | (go_at_call 42; refine (pl_ref_sorted b g n L (.slice la2 L.length cap2) _ (by first | exact HT3 | exact HT3.noneK ((Drawn.r1 _).keep _) | exact HT3.noneK ((Drawn.r2 _).keep _) | exact HT3.noneK ((Drawn.r3 _).keep _))).mono ?_; rintro e w10 ⟨l3, rfl, HL3, HQ, HT4⟩; replace HL2 := IL.keep HL2 HQ (fun _ _ h => h))
                      | (go_at_call_of 39 l2; refine (pl_same2 b g n L (.slice la2 L.length cap2) l2 l3 _ (by first | exact HL2 | exact IL.keep HL2 ((Drawn.r1 _).keep (fun _ => False)) (fun _ _ h => h) | exact IL.keep HL2 ((Drawn.r2 _).keep (fun _ => False)) (fun _ _ h => h)) (by first | exact HL3 | exact IL.keep HL3 ((Drawn.r1 _).keep (fun _ => False)) (fun _ _ h => h) | exact IL.keep HL3 ((Drawn.r2 _).keep (fun _ => False)) (fun _ _ h => h)) (by first | exact HT4 | exact HT4.noneK ((Drawn.r1 _).keep _) | exact HT4.noneK ((Drawn.r2 _).keep _) | exact HT4.noneK ((Drawn.r3 _).keep _))).mono ?_; rintro e w11 ⟨rfl, HT5⟩)
                      | (go_at_call 43; refine (pl_at b g n L (.slice la2 L.length cap2) x1 _ (by first | exact HT5 | exact HT5.noneK ((Drawn.r1 _).keep _) | exact HT5.noneK ((Drawn.r2 _).keep _) | exact HT5.noneK ((Drawn.r3 _).keep _))).mono ?_; rintro e w12 ⟨rfl, rfl⟩))
                  all_goals
                    go_wp2_with fail
                    go_meet
                    case rel => exact ⟨rfl, HT5⟩
                case rest =>
                  obtain ⟨rfl, T5⟩ := hcut
                  have T5 := Lib.hid T5.less
                  clear b1
                  go_wp2_with fail
                  go_roundg (gk - 1)
                  case measure => omega
                  case rel => exact ⟨k + 1, L, by omega, by go_num, T5.out⟩
          · obtain rfl : k = len := by omega
            have hf : ¬ ((k : Int) < k) := by omega
            have Q := Lib.hid hT.o.q
            clear hT T0
            go_wp2
            go_ret
            exact ⟨rfl, Q.out.below (Nat.le_refl _) (fun _ _ h => h)⟩

end Go.Proofs.Ytklknkeanmjhnaa.SparsePlays
