/- SparseNew, walked: cleared, whatever was in it, a set does all that a new one does. -/
import Derived.Test.YtklknkeanmjhnaaPair
import Derived.Deep.RegionHeld3
import Derived.Deep.DeepCutAuto
import Derived.Deep.CutBlock
import Derived.Deep.LoopGhost
namespace Go.Proofs.Ytklknkeanmjhnaa.SparseNew
open Go.RowKit Go.Proofs.Ytklknkeanmjhnaa.Base Go.Proofs.Ytklknkeanmjhnaa.Lists Go.Proofs.Ytklknkeanmjhnaa.Sparse Go.Proofs.Ytklknkeanmjhnaa.Law03 Go.Proofs.Ytklknkeanmjhnaa.Meter Go.Proofs.Ytklknkeanmjhnaa.Ref03

set_option maxRecDepth 100000 in
set_option maxHeartbeats 2000000 in
theorem walk {H : Type} {enc : TypeId × Value → H} (v0 v1 v2 : Value) {d0 d1 d2 : DataW H} {p0 p1 p2 : List MemPlace} (W : World)
    (k0 : Value.okWide Try.prog W .any 0 3 v0) (k1 : Value.okWide Try.prog W .any 0 57 v1) (k2 : Value.okWide Try.prog W .any 0 57 v2)
    (h0 : DataW.Trod enc Try.prog W 0 (fun _ => true) true 3 v0 d0 p0) (h1 : DataW.Trod enc Try.prog W 0 (fun _ => true) true 57 v1 d1 p1) (h2 : DataW.Trod enc Try.prog W 0 (fun _ => true) true 57 v2 d2 p2) :
    Calls Try.prog 9 #[v0, v1, v2] W fun e w' => e = .returned (.bool true) ∧ Below W.heap.size W w' := by
  obtain ⟨n, rfl, -, -⟩ := int_arg Try.underlying3 k0 h0
  obtain ⟨la, len, cap, bl, off, rfl, hlen, hla, hrow⟩ := ops_arg k1 h1
  obtain ⟨lb, len2, cap2, bl2, off2, rfl, hlen2, hlb, hrow2⟩ := ops_arg k2 h2
  clear k0 k1 k2 h0 h1 h2
  have HR := Lib.hid hrow
  have HR2 := Lib.hid hrow2
  have HA := Lib.hid hla
  have HB := Lib.hid hlb
  clear hrow hrow2 hla hlb
  by_cases c1 : n < 0
  · have c1' : decide (n < 0) = true := by simpa using c1
    go_enter Try.func9, Try.ntmps9
    go_wp2_with fail
    refine (awake_any _).mono ?_
    rintro e w1 ⟨rfl, q1⟩
    have r1 := Lib.hid q1
    clear q1
    go_wp2_with fail
    refine (awake_any _).mono ?_
    rintro e w2 ⟨rfl, q2⟩
    have r2 := Lib.hid (r1.out.trans q2)
    clear q2 r1
    go_wp2
    go_ret
    exact ⟨rfl, r2.out.below (Nat.le_refl _) (fun _ _ h => h)⟩
  · have c1' : decide (n < 0) = false := by simpa using c1
    by_cases c2 : 300 < n
    · have c2' : decide (300 < n) = true := by simpa using c2
      go_enter Try.func9, Try.ntmps9
      go_wp2_with fail
      refine (awake_any _).mono ?_
      rintro e w1 ⟨rfl, q1⟩
      have r1 := Lib.hid q1
      clear q1
      go_wp2_with fail
      refine (awake_any _).mono ?_
      rintro e w2 ⟨rfl, q2⟩
      have r2 := Lib.hid (r1.out.trans q2)
      clear q2 r1
      go_wp2
      go_ret
      exact ⟨rfl, r2.out.below (Nat.le_refl _) (fun _ _ h => h)⟩
    · have c2' : decide (300 < n) = false := by simpa using c2
      by_cases c3 : 500 < wrap64 ((len : Int) + len2)
      · have c3' : decide (500 < wrap64 ((len : Int) + len2)) = true := by simpa using c3
        go_enter Try.func9, Try.ntmps9
        go_wp2_with fail
        refine (awake_any _).mono ?_
        rintro e w1 ⟨rfl, q1⟩
        have r1 := Lib.hid q1
        clear q1
        go_wp2_with fail
        refine (awake_any _).mono ?_
        rintro e w2 ⟨rfl, q2⟩
        have r2 := Lib.hid (r1.out.trans q2)
        clear q2 r1
        go_wp2
        go_ret
        exact ⟨rfl, r2.out.below (Nat.le_refl _) (fun _ _ h => h)⟩
      · have c3' : decide (500 < wrap64 ((len : Int) + len2)) = false := by simpa using c3
        obtain ⟨n, rfl⟩ : ∃ k : Nat, n = k := ⟨n.toNat, by omega⟩
        have hn : n ≤ 65536 := by omega
        go_enter Try.func9, Try.ntmps9
        go_wp2_with fail
        refine (awake_any _).mono ?_
        rintro e w1 ⟨rfl, q1⟩
        go_wp2_with fail
        refine (new_none n hn _).mono ?_
        rintro e w2 F1
        obtain ⟨⟨b, g, rfl, -⟩, -⟩ := id F1
        go_wp2_with fail
        refine (new_none n hn _).mono ?_
        rintro e w3 F2
        obtain ⟨b', g', c, d, e1, rfl, T0⟩ := Two.made q1 F1 F2
        cases e1
        clear F1 F2
        clear c1 c1' c2 c2' c3 c3'
        go_wp2_with fail
        go_loopg [46] len (fun gg i wr => ∃ (k : Nat) (L : List Nat), k + gg = len ∧ i = .int .i64 k ∧ Two W wr [] b g' c d n L [])
        case atStart => exact ⟨0, [], Nat.zero_add _, rfl, T0⟩
        case round =>
          obtain ⟨k, L, hk, rfl, hT⟩ := hrel
          by_cases hlt : k < len
          · obtain ⟨hla, hbl⟩ := HA.out (by omega)
            subst hla
            have hc : ∀ j, j < 2 → ∃ q : Int, wr.cell? ⟨bl, off + (k * 2 + j), none⟩ = some (.int .i64 q) ∧ -9223372036854775808 ≤ q ∧ q ≤ 9223372036854775807 := fun j hj => by
              obtain ⟨q, h1, h2⟩ := HR.out k j hlt hj
              exact ⟨q, (hT.keep.cell hbl (fun h => h)).trans h1, h2⟩
            obtain ⟨x0, c0, -, -⟩ := hc 0 (by omega)
            obtain ⟨x1, c1, y1, z1⟩ := hc 1 (by omega)
            rw [Nat.add_zero] at c0
            simp only [← Nat.add_assoc] at c1
            have hlt' : (k : Int) < len := by omega
            have T1 := hT.more #[.int .i64 x0, .int .i64 x1] 62
            have T1 := Lib.hid T1.less
            clear hc hT
            go_wp2_with fail
            refine (two_add b g' c d n L [] x1 _ T1.out).mono ?_
            rintro e w4 ⟨rfl, T2⟩
            have T2 := Lib.hid T2
            clear T1
            generalize (addV n L x1).1 = L1 at *
            generalize (addV n L x1).2 = t1 at *
            go_wp2_with fail
            go_roundg (gk - 1)
            case measure => omega
            case rel => exact ⟨k + 1, L1, by omega, by go_num, T2.out⟩
          · obtain rfl : k = len := by omega
            have hf : ¬ ((k : Int) < k) := by omega
            have T1 := Lib.hid hT
            clear hT
            go_wp2_with fail
            refine (two_clear b g' c d n L [] _ T1.out).mono ?_
            rintro e w4 ⟨rfl, T2⟩
            go_wp2_with fail
            go_loopg [59] len2 (fun gg i wr => ∃ (k : Nat) (L : List Nat), k + gg = len2 ∧ i = .int .i64 k ∧ Two W wr [] b g' c d n L L)
            case atStart => exact ⟨0, [], Nat.zero_add _, rfl, T2⟩
            case round =>
              obtain ⟨k, L, hk, rfl, hT⟩ := hrel
              by_cases hlt : k < len2
              · obtain ⟨hla, hbl⟩ := HB.out (by omega)
                subst hla
                have hc : ∀ j, j < 2 → ∃ q : Int, wr.cell? ⟨bl2, off2 + (k * 2 + j), none⟩ = some (.int .i64 q) ∧ -9223372036854775808 ≤ q ∧ q ≤ 9223372036854775807 := fun j hj => by
                  obtain ⟨q, h1, h2⟩ := HR2.out k j hlt hj
                  exact ⟨q, (hT.keep.cell hbl (fun h => h)).trans h1, h2⟩
                obtain ⟨x0, c0, -, -⟩ := hc 0 (by omega)
                obtain ⟨x1, c1, y1, z1⟩ := hc 1 (by omega)
                rw [Nat.add_zero] at c0
                simp only [← Nat.add_assoc] at c1
                have hlt' : (k : Int) < len2 := by omega
                have T1 := hT.more #[.int .i64 x0, .int .i64 x1] 62
                have hob : ∀ w' L1 L2, Two W w' [(wr.heap.size, 62, #[.int .i64 x0, .int .i64 x1])] b g' c d n L1 L2 → w'.cell? ⟨wr.heap.size, 1, none⟩ = some (.int .i64 x1) := fun w' L1 L2 h => (h.at_ (List.mem_singleton.2 rfl)).cell rfl
                have OB := Lib.hid hob
                have b1 := hob _ _ _ T1
                have T1 := Lib.hid T1
                clear hc hT hob T0 T2 q1
                obtain ⟨hv, hhv⟩ : ∃ v, hasV L x1 = v := ⟨_, rfl⟩
                have hbb : (hv != hv) = false := by simp
                go_upto_region 14 with fail
                go_cut [97] (fun v wx => v = .bool false ∧ ∃ L3, Two W wx [(wr.heap.size, 62, #[.int .i64 x0, .int .i64 x1])] b g' c d n L3 L3)
                case first =>
                  go_region_held3 (fun w' => w'.cell? ⟨wr.heap.size, 1, none⟩ = some (.int .i64 x1)) (first | exact b1 | exact OB.out _ _ _ HT5 | exact OB.out _ _ _ HT4 | exact OB.out _ _ _ HT3 | exact OB.out _ _ _ HT2 | exact OB.out _ _ _ HT1) (first
                      | (go_at_call_of 36 (ptr b); refine (two_has b g' c d n _ _ x1 hv hhv _ (by first | exact T1.out | exact T1.out.noneK ((Drawn.r1 _).keep _) | exact T1.out.noneK ((Drawn.r2 _).keep _) | exact T1.out.noneK ((Drawn.r3 _).keep _))).mono ?_; rintro e w4 ⟨rfl, rfl⟩)
                      | (go_at_call_of 36 (ptr c); refine (two_has c d b g' n _ _ x1 hv hhv _ (by first | exact T1.out.swap | exact T1.out.swap.noneK ((Drawn.r1 _).keep _) | exact T1.out.swap.noneK ((Drawn.r2 _).keep _))).mono ?_; rintro e w5 ⟨rfl, rfl⟩)
                      | (go_at_call_of 34 (ptr b); refine (two_add b g' c d n _ _ x1 _ (by first | exact T1.out | exact T1.out.noneK ((Drawn.r1 _).keep _) | exact T1.out.noneK ((Drawn.r2 _).keep _) | exact T1.out.noneK ((Drawn.r3 _).keep _))).mono ?_; rintro e w6 ⟨rfl, HT1⟩)
                      | (go_at_call_of 34 (ptr c); refine (two_add c d b g' n _ _ x1 _ (by first | exact HT1.swap | exact HT1.swap.noneK ((Drawn.r1 _).keep _) | exact HT1.swap.noneK ((Drawn.r2 _).keep _) | exact HT1.swap.noneK ((Drawn.r3 _).keep _))).mono ?_; rintro e w7 ⟨rfl, HT2⟩; replace HT2 := HT2.swap)
                      | (go_at_call_of 38 (ptr b); refine (two_len b g' c d n _ _ _ (by first | exact HT2 | exact HT2.noneK ((Drawn.r1 _).keep _) | exact HT2.noneK ((Drawn.r2 _).keep _) | exact HT2.noneK ((Drawn.r3 _).keep _))).mono ?_; rintro e w8 ⟨rfl, rfl⟩)
                      | (go_at_call_of 38 (ptr c); refine (two_len c d b g' n _ _ _ (by first | exact HT2.swap | exact HT2.swap.noneK ((Drawn.r1 _).keep _) | exact HT2.swap.noneK ((Drawn.r2 _).keep _) | exact HT2.swap.noneK ((Drawn.r3 _).keep _))).mono ?_; rintro e w9 ⟨rfl, rfl⟩)
                      | (go_at_call_of 40 (ptr b); refine (two_list b g' c d n _ _ _ (by first | exact HT2 | exact HT2.noneK ((Drawn.r1 _).keep _) | exact HT2.noneK ((Drawn.r2 _).keep _) | exact HT2.noneK ((Drawn.r3 _).keep _))).mono ?_; rintro e w10 ⟨l1, rfl, HL1, -, HT3⟩)
                      | (go_at_call_of 40 (ptr c); refine (two_list c d b g' n _ _ _ (by first | exact HT3.swap | exact HT3.swap.noneK ((Drawn.r1 _).keep _) | exact HT3.swap.noneK ((Drawn.r2 _).keep _) | exact HT3.swap.noneK ((Drawn.r3 _).keep _))).mono ?_; rintro e w11 ⟨l2, rfl, HL2, HQ, HT4⟩; replace HT4 := HT4.swap; replace HL1 := IL.keep HL1 HQ (fun _ _ h => h))
                      | (go_at_call 39; refine (same_self _ (by first | exact HL1 | exact IL.keep HL1 ((Drawn.r1 _).keep (fun _ => False)) (fun _ _ h => h) | exact IL.keep HL1 ((Drawn.r2 _).keep (fun _ => False)) (fun _ _ h => h)) (by first | exact HL2 | exact IL.keep HL2 ((Drawn.r1 _).keep (fun _ => False)) (fun _ _ h => h) | exact IL.keep HL2 ((Drawn.r2 _).keep (fun _ => False)) (fun _ _ h => h)) (by have := len_of HT4.o1.st; omega)).mono ?_; rintro e w12 ⟨rfl, HQ2⟩; have HT5 := HT4.noneK HQ2))
                  all_goals
                    go_wp2_with fail
                    go_meet
                    case rel => exact ⟨rfl, _, HT5⟩
                case rest =>
                  obtain ⟨rfl, L3, T5⟩ := hcut
                  have T5 := Lib.hid T5.less
                  clear b1
                  go_wp2_with fail
                  go_roundg (gk - 1)
                  case measure => omega
                  case rel => exact ⟨k + 1, L3, by omega, by go_num, T5.out⟩
              · obtain rfl : k = len2 := by omega
                have hf : ¬ ((k : Int) < k) := by omega
                have Q := Lib.hid hT.keep
                clear hT T2 T0 q1
                go_wp2
                go_ret
                exact ⟨rfl, Q.out.below (Nat.le_refl _) (fun _ _ h => h)⟩

end Go.Proofs.Ytklknkeanmjhnaa.SparseNew
