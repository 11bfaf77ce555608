/- The walk of MeterPlays: in every order of calls the program's meter and the document's own one tell the same. -/
import Derived.Test.YthnjohjibohflaaLaw01Awake
import Derived.Test.YthnjohjibohflaaOpRows
import Derived.Test.YthnjohjibohflaaRef01
import Derived.Deep.RegionHeld3
import Derived.Deep.DeepCutAuto
import Derived.Deep.CutBlock
import Derived.Deep.LoopGhost
namespace Go.Proofs.Ythnjohjibohflaa.MeterPlays
open Go.ChangeShapes Go.WideShapes Go.RowKit Go.Proofs.Ythnjohjibohflaa.Base Go.Proofs.Ythnjohjibohflaa.Meter Go.Proofs.Ythnjohjibohflaa.Law01

theorem r_take_is (b : Nat) (m : MS) (n : Int) (w : World) (v : Bool) (m' : MS) (hv : m.take n = (v, m')) (hm : m.Ok) (h : At w b 27 m.vals) (n0 : -9223372036854775808 ≤ n) (n1 : n ≤ 9223372036854775807) :
    Calls Try.prog 12 #[ptr b, .int .i64 n] w (Ref01.RTurns b w (.bool v) m') := by
  have := Ref01.take_any b m n w hm h n0 n1
  rw [hv] at this
  exact this

theorem r_give_is (b : Nat) (m : MS) (n : Int) (w : World) (v : Bool) (m' : MS) (hv : m.give n = (v, m')) (hm : m.Ok) (h : At w b 27 m.vals) (n0 : -9223372036854775808 ≤ n) (n1 : n ≤ 9223372036854775807) :
    Calls Try.prog 14 #[ptr b, .int .i64 n] w (Ref01.RTurns b w (.bool v) m') := by
  have := Ref01.give_any b m n w hm h n0 n1
  rw [hv] at this
  exact this

theorem r_step_is (b : Nat) (m : MS) (n : Int) (w : World) (v : Bool) (m' : MS) (hv : m.step n = (v, m')) (hm : m.Ok) (h : At w b 27 m.vals) (n0 : -9223372036854775808 ≤ n) (n1 : n ≤ 9223372036854775807) :
    Calls Try.prog 16 #[ptr b, .int .i64 n] w (Ref01.RTurns b w (.bool v) m') := by
  have := Ref01.step_any b m n w hm h n0 n1
  rw [hv] at this
  exact this

set_option maxHeartbeats 1000000 in
set_option maxRecDepth 100000 in
theorem walk {H : Type} {enc : TypeId × Value → H} (v0 v1 v2 : Value) {d0 d1 d2 : DataW H} {p0 p1 p2 : List MemPlace} (W : World)
    (k0 : Value.okWide Try.prog W .any 0 3 v0) (k1 : Value.okWide Try.prog W .any 0 3 v1) (k2 : Value.okWide Try.prog W .any 0 22 v2)
    (h0 : DataW.Trod enc Try.prog W 0 (fun _ => true) true 3 v0 d0 p0) (h1 : DataW.Trod enc Try.prog W 0 (fun _ => true) true 3 v1 d1 p1) (h2 : DataW.Trod enc Try.prog W 0 (fun _ => true) true 22 v2 d2 p2) :
    Calls Try.prog 3 #[v0, v1, v2] W fun e w' => e = .returned (.bool true) ∧ Below W.heap.size W w' := by
  obtain ⟨c, rfl, -, -⟩ := int_arg Try.underlying3 k0 h0
  obtain ⟨s, rfl, -, -⟩ := int_arg Try.underlying3 k1 h1
  obtain ⟨la, len, cap, rfl, hlen, hrows⟩ := rows_arg2 Try.underlying22 Try.underlying30 (by kernel_rfl) (by kernel_rfl) Try.underlying3 Try.underlying3 k2 h2
  clear k0 k1 k2 h0 h1 h2
  by_cases hbig : 500 < len
  · go_enter Try.func3, Try.ntmps3
    go_wp2_with fail
    refine (awake_any _).mono ?_
    rintro e w1 ⟨rfl, q1⟩
    go_wp2_with fail
    refine (awake_any _).mono ?_
    rintro e w2 ⟨rfl, q2⟩
    go_wp2
    go_ret
    exact ⟨rfl, (q1.trans q2).below (Nat.le_refl _) (fun _ _ h => h)⟩
  · rcases hrows with h0 | ⟨bl, off, rfl, hbl, hrow⟩
    · have h0' : (len : Int) = 0 := by omega
      subst h0
      go_enter Try.func3, Try.ntmps3
      go_wp2_with fail
      refine (awake_any _).mono ?_
      rintro e w1 ⟨rfl, q1⟩
      go_wp2_with fail
      refine (new_any _ _ _).mono ?_
      rintro e w2 ⟨b, rfl, hb, i0, q2⟩
      go_wp2_with fail
      refine (Ref01.new_any _ _ _).mono ?_
      rintro e w3 ⟨rfl, q3⟩
      have j0 := At.new w3 (MS.new c s).vals 27
      have i1 := (i0.keep (S := fun _ => False) q3 (fun h => h)).alloc (.cells (MS.new c s).vals 27)
      have hgj : b < w3.heap.size := Nat.lt_of_lt_of_le i0.lt q3.size
      have q4 := ((q1.trans q2).trans q3).alloc (.cells (MS.new c s).vals 27)
      have hW3 : W.heap.size ≤ w3.heap.size := by have := ((q1.trans q2).trans q3).size; exact this
      have hWb : W.heap.size ≤ b := by have := q1.size; omega
      clear i0 q1 q2 q3 hb
      go_wp2_with fail
      go_loopg [32] 0 (fun gg i wr => ∃ (k : Nat) (ms : MS), k + gg = 0 ∧ i = .int .i64 k ∧ ms.Ok ∧ At wr b 44 ms.vals ∧ At wr w3.heap.size 27 ms.vals ∧ Keep (fun _ => False) W wr)
      case atStart => exact ⟨0, MS.new c s, Nat.zero_add _, rfl, MS.new_ok c s, i1, j0, q4⟩
      case round =>
        obtain ⟨k, ms, hk, rfl, ho, ha, hg, hq⟩ := hrel
        obtain rfl : k = 0 := by omega
        go_wp2
        go_ret
        exact ⟨rfl, hq.below (Nat.le_refl _) (fun _ _ h => h)⟩
    · have hb5 : decide ((500 : Int) < (len : Int)) = false := by simp; omega
      go_enter Try.func3, Try.ntmps3
      go_wp2_with fail
      refine (awake_any _).mono ?_
      rintro e w1 ⟨rfl, q1⟩
      go_wp2_with fail
      refine (new_any _ _ _).mono ?_
      rintro e w2 ⟨b, rfl, hb, i0, q2⟩
      go_wp2_with fail
      refine (Ref01.new_any _ _ _).mono ?_
      rintro e w3 ⟨rfl, q3⟩
      have j0 := At.new w3 (MS.new c s).vals 27
      have i1 := (i0.keep (S := fun _ => False) q3 (fun h => h)).alloc (.cells (MS.new c s).vals 27)
      have hgj : b < w3.heap.size := Nat.lt_of_lt_of_le i0.lt q3.size
      have q4 := ((q1.trans q2).trans q3).alloc (.cells (MS.new c s).vals 27)
      have hW3 : W.heap.size ≤ w3.heap.size := by have := ((q1.trans q2).trans q3).size; exact this
      have hWb : W.heap.size ≤ b := by have := q1.size; omega
      clear i0 q1 q2 q3 hb
      go_wp2_with fail
      go_loopg [32] len (fun gg i wr => ∃ (k : Nat) (ms : MS), k + gg = len ∧ i = .int .i64 k ∧ ms.Ok ∧ At wr b 44 ms.vals ∧ At wr w3.heap.size 27 ms.vals ∧ Keep (fun _ => False) W wr)
      case atStart => exact ⟨0, MS.new c s, Nat.zero_add _, rfl, MS.new_ok c s, i1, j0, q4⟩
      case round =>
        obtain ⟨k, ms, hk, rfl, ho, ha, hg, hq⟩ := hrel
        by_cases hlt : k < len
        · obtain ⟨x, n, n0, n1, c0, c1⟩ : ∃ x n : Int, -9223372036854775808 ≤ n ∧ n ≤ 9223372036854775807 ∧ wr.cell? ⟨bl, off + k * 2, none⟩ = some (.int .i64 x) ∧ wr.cell? ⟨bl, off + k * 2 + 1, none⟩ = some (.int .i64 n) :=
            ⟨_, _, (hrow k 1 hlt (by omega)).2.1, (hrow k 1 hlt (by omega)).2.2, (hq.cell hbl (fun h => h)).trans (hrow k 0 hlt (by omega)).1, (hq.cell hbl (fun h => h)).trans (hrow k 1 hlt (by omega)).1⟩
          have HR := Lib.hid hrow
          clear hrow
          have HQ := Lib.hid hq
          clear hq
          go_upto_block 2 with fail
          go_cut [] (fun wx => ∃ ms' : MS, ms'.Ok ∧ At wx b 44 ms'.vals ∧ At wx w3.heap.size 27 ms'.vals ∧ Keep (fun _ => False) W wx)
          case first =>
            have a0 := At.new wr #[.int .i64 x, .int .i64 n] 30
            have hn1 : ¬ wr.heap.size = b := by have := ha.lt; omega
            have hn2 : ¬ wr.heap.size = w3.heap.size := by have := hg.lt; omega
            have hn3 : ¬ w3.heap.size = b := by omega
            have hn4 : ¬ b = w3.heap.size := by omega
            have N1 := Lib.hid hn1
            have N2 := Lib.hid hn2
            have N3 := Lib.hid hn3
            have N4 := Lib.hid hn4
            clear hn1 hn2 hn3 hn4
            have ha1 := ha.alloc (.cells #[.int .i64 x, .int .i64 n] 30)
            have hg1 := hg.alloc (.cells #[.int .i64 x, .int .i64 n] 30)
            have HQ1 := Lib.hid (HQ.out.alloc (.cells #[.int .i64 x, .int .i64 n] 30))
            have kk : ∀ (a c : World), Keep (fun _ => False) W a → Keep (· = b) a c → Keep (fun _ => False) W c := fun _ _ x y => x.next y (fun i hi hl => by omega)
            have K := Lib.hid kk
            have kk2 : ∀ (a c : World), Keep (fun _ => False) W a → Keep (· = w3.heap.size) a c → Keep (fun _ => False) W c := fun _ _ x y => x.next y (fun i hi hl => by omega)
            have K2 := Lib.hid kk2
            clear kk kk2 ha hg HQ c0 c1 hb5 q4 i1 j0
            have hx : x = 1 ∨ x = 2 ∨ x = 3 ∨ x = 4 ∨ (¬ x = 1 ∧ ¬ x = 2 ∧ ¬ x = 3 ∧ ¬ x = 4) := by omega
            rcases hx with rfl | rfl | rfl | rfl | ⟨y1, y2, y3, y4⟩
            · obtain ⟨v, hv⟩ : ∃ v, Hid ((ms.take n).1 = v) := ⟨_, rfl⟩
              go_wp2_with fail
              go_region_with (first
                | (go_at_call 11
                   refine (take_is b ms n _ v (MS.take ms n).2 (Prod.ext hv.out rfl) ho (by first | exact ha1 | exact ha1.drew | exact ha1.drewN _) n0 n1).mono ?_
                   rintro e w4 ⟨rfl, h3, q3, -⟩
                   have a3 := a0.drew.keep q3 N1.out
                   have z1 : w4.cell? ⟨wr.heap.size, 1, none⟩ = some (.int .i64 n) := a3.cell rfl
                   have g3 := hg1.drew.keep q3 N3.out
                   have r3 := K.out _ _ HQ1.out.drew q3)
                | (go_at_call 12
                   refine (r_take_is w3.heap.size ms n _ v (MS.take ms n).2 (Prod.ext hv.out rfl) ho (by first | exact g3 | exact g3.drew | exact g3.drewN _) n0 n1).mono ?_
                   rintro e w5 ⟨rfl, h5, q5, -⟩))
              all_goals
                have h6 := (by first | exact h3.keep q5 N4.out | exact h3.drew.keep q5 N4.out | exact (h3.drewN _).keep q5 N4.out : At w5 b 44 (MS.take ms n).2.vals)
                have r6 := (by first | exact K2.out _ _ r3 q5 | exact K2.out _ _ r3.drew q5 | exact K2.out _ _ (r3.drewN _) q5 : Keep (fun _ => False) W w5)
                clear a3 g3 r3 h3 q3 q5
                go_wp2_with fail
                go_meet
                case rel => exact ⟨(MS.take ms n).2, MS.take_ok ho n, h6, h5, r6⟩
            · obtain ⟨v, hv⟩ : ∃ v, Hid ((ms.give n).1 = v) := ⟨_, rfl⟩
              go_wp2_with fail
              go_region_with (first
                | (go_at_call 13
                   refine (give_is b ms n _ v (MS.give ms n).2 (Prod.ext hv.out rfl) ho (by first | exact ha1 | exact ha1.drew | exact ha1.drewN _) n0 n1).mono ?_
                   rintro e w4 ⟨rfl, h3, q3, -⟩
                   have a3 := a0.drew.keep q3 N1.out
                   have z1 : w4.cell? ⟨wr.heap.size, 1, none⟩ = some (.int .i64 n) := a3.cell rfl
                   have g3 := hg1.drew.keep q3 N3.out
                   have r3 := K.out _ _ HQ1.out.drew q3)
                | (go_at_call 14
                   refine (r_give_is w3.heap.size ms n _ v (MS.give ms n).2 (Prod.ext hv.out rfl) ho (by first | exact g3 | exact g3.drew | exact g3.drewN _) n0 n1).mono ?_
                   rintro e w5 ⟨rfl, h5, q5, -⟩))
              all_goals
                have h6 := (by first | exact h3.keep q5 N4.out | exact h3.drew.keep q5 N4.out | exact (h3.drewN _).keep q5 N4.out : At w5 b 44 (MS.give ms n).2.vals)
                have r6 := (by first | exact K2.out _ _ r3 q5 | exact K2.out _ _ r3.drew q5 | exact K2.out _ _ (r3.drewN _) q5 : Keep (fun _ => False) W w5)
                clear a3 g3 r3 h3 q3 q5
                go_wp2_with fail
                go_meet
                case rel => exact ⟨(MS.give ms n).2, MS.give_ok ho n, h6, h5, r6⟩
            · obtain ⟨v, hv⟩ : ∃ v, Hid ((ms.step n).1 = v) := ⟨_, rfl⟩
              go_wp2_with fail
              go_region_with (first
                | (go_at_call 15
                   refine (step_is b ms n _ v (MS.step ms n).2 (Prod.ext hv.out rfl) ho (by first | exact ha1 | exact ha1.drew | exact ha1.drewN _) n0 n1).mono ?_
                   rintro e w4 ⟨rfl, h3, q3, -⟩
                   have a3 := a0.drew.keep q3 N1.out
                   have z1 : w4.cell? ⟨wr.heap.size, 1, none⟩ = some (.int .i64 n) := a3.cell rfl
                   have g3 := hg1.drew.keep q3 N3.out
                   have r3 := K.out _ _ HQ1.out.drew q3)
                | (go_at_call 16
                   refine (r_step_is w3.heap.size ms n _ v (MS.step ms n).2 (Prod.ext hv.out rfl) ho (by first | exact g3 | exact g3.drew | exact g3.drewN _) n0 n1).mono ?_
                   rintro e w5 ⟨rfl, h5, q5, -⟩))
              all_goals
                have h6 := (by first | exact h3.keep q5 N4.out | exact h3.drew.keep q5 N4.out | exact (h3.drewN _).keep q5 N4.out : At w5 b 44 (MS.step ms n).2.vals)
                have r6 := (by first | exact K2.out _ _ r3 q5 | exact K2.out _ _ r3.drew q5 | exact K2.out _ _ (r3.drewN _) q5 : Keep (fun _ => False) W w5)
                clear a3 g3 r3 h3 q3 q5
                go_wp2_with fail
                go_meet
                case rel => exact ⟨(MS.step ms n).2, MS.step_ok ho n, h6, h5, r6⟩
            · go_wp2_with fail
              refine (begin_any b ms n _ ha1).mono ?_
              rintro e w4 ⟨rfl, h3, q3, -⟩
              have a3 := a0.keep q3 N1.out
              have z1 : w4.cell? ⟨wr.heap.size, 1, none⟩ = some (.int .i64 n) := a3.cell rfl
              have g3 := hg1.keep q3 N3.out
              have r3 := K.out _ _ HQ1.out q3
              clear a0 a3 ha1 hg1 q3
              go_wp2_with fail
              refine (Ref01.begin_any w3.heap.size ms n _ g3).mono ?_
              rintro e w5 ⟨rfl, h5, q5, -⟩
              have h6 := h3.keep q5 N4.out
              have r6 := K2.out _ _ r3 q5
              clear g3 r3 h3 q5
              go_wp2_with fail
              go_meet
              case rel => exact ⟨ms.begin n, MS.begin_ok ho n, h6, h5, r6⟩
            · have z1 : (x == 1) = false := by simpa using y1
              have z2 : (x == 2) = false := by simpa using y2
              have z3 : (x == 3) = false := by simpa using y3
              have z4 : (x == 4) = false := by simpa using y4
              clear y1 y2 y3 y4
              go_wp2_with fail
              go_meet
              case rel => exact ⟨ms, ho, ha1, hg1, HQ1.out⟩
          case rest =>
            obtain ⟨ms', o', a', g', q'⟩ := hcut
            clear c0 c1 ha hg HQ hb5 q4 i1 j0 ho
            go_wp2_with fail
            refine (cells_any b _ _ a').mono ?_
            rintro e w4 ⟨rfl, d4⟩
            have a4 := a'.drawn d4
            have g4 := g'.drawn d4
            have q4 := q'.trans (d4.keep _)
            clear a' g' q' d4
            go_wp2_with fail
            refine (steps_any b _ _ a4).mono ?_
            rintro e w5 ⟨rfl, d5⟩
            have a5 := a4.drawn d5
            have g5 := g4.drawn d5
            have q5 := q4.trans (d5.keep _)
            clear a4 g4 q4 d5
            obtain ⟨u, m, c', d, s', e'⟩ := ms'
            have y0 : w5.cell? ⟨w3.heap.size, 0, none⟩ = some (.int .i64 u) := g5.cell rfl
            have y1 : w5.cell? ⟨w3.heap.size, 1, none⟩ = some (.int .i64 m) := g5.cell rfl
            have y2 : w5.cell? ⟨w3.heap.size, 2, none⟩ = some (.int .i64 c') := g5.cell rfl
            have y3 : w5.cell? ⟨w3.heap.size, 3, none⟩ = some (.int .i64 d) := g5.cell rfl
            have y4 : w5.cell? ⟨w3.heap.size, 4, none⟩ = some (.int .i64 s') := g5.cell rfl
            have y5 : w5.cell? ⟨w3.heap.size, 5, none⟩ = some (.int .i64 e') := g5.cell rfl
            go_wp2_with fail
            go_quiet ((go_at_call 21; exact quiet_same (err_any b ⟨u, m, c', d, s', e'⟩ _ (a5.drewN _))))
            go_wp2_with fail
            go_roundg (gk - 1)
            case measure => omega
            case rel => exact ⟨k + 1, ⟨u, m, c', d, s', e'⟩, by omega, by go_num, o', a5.drewN _, g5.drewN _, q5.drewN _⟩
        · go_wp2
          go_ret
          exact ⟨rfl, hq.below (Nat.le_refl _) (fun _ _ h => h)⟩

end Go.Proofs.Ythnjohjibohflaa.MeterPlays
