/- The walk of MeterHonest: whatever is asked, used and done are the sums of what was taken, given and stepped. -/
import Derived.Test.YthnjohjibohflaaLaw01Awake
import Derived.Test.YthnjohjibohflaaOpRows
import Derived.Deep.RegionHeld3
import Derived.Deep.DeepCutAuto
import Derived.Deep.CutBlock
import Derived.Deep.LoopGhost
namespace Go.Proofs.Ythnjohjibohflaa.MeterHonest
open Go.ChangeShapes Go.WideShapes Go.RowKit Go.Proofs.Ythnjohjibohflaa.Base Go.Proofs.Ythnjohjibohflaa.Meter Go.Proofs.Ythnjohjibohflaa.Law01

set_option maxHeartbeats 1000000 in
set_option maxRecDepth 100000 in
theorem walk {H : Type} {enc : TypeId × Value → H} (v0 v1 v2 : Value) {d0 d1 d2 : DataW H} {p0 p1 p2 : List MemPlace} (W : World)
    (k0 : Value.okWide Try.prog W .any 0 3 v0) (k1 : Value.okWide Try.prog W .any 0 3 v1) (k2 : Value.okWide Try.prog W .any 0 22 v2)
    (h0 : DataW.Trod enc Try.prog W 0 (fun _ => true) true 3 v0 d0 p0) (h1 : DataW.Trod enc Try.prog W 0 (fun _ => true) true 3 v1 d1 p1) (h2 : DataW.Trod enc Try.prog W 0 (fun _ => true) true 22 v2 d2 p2) :
    Calls Try.prog 4 #[v0, v1, v2] W fun e w' => e = .returned (.bool true) ∧ Below W.heap.size W w' := by
  obtain ⟨c, rfl, -, -⟩ := int_arg Try.underlying3 k0 h0
  obtain ⟨s, rfl, -, -⟩ := int_arg Try.underlying3 k1 h1
  obtain ⟨la, len, cap, rfl, hlen, hrows⟩ := rows_arg2 Try.underlying22 Try.underlying30 (by kernel_rfl) (by kernel_rfl) Try.underlying3 Try.underlying3 k2 h2
  clear k0 k1 k2 h0 h1 h2
  by_cases hbig : 500 < len
  · go_enter Try.func4, Try.ntmps4
    go_wp2_with fail
    refine (awake_any _).mono ?_
    rintro e w1 ⟨rfl, q1⟩
    go_wp2_with fail
    refine (awake_any _).mono ?_
    rintro e w2 ⟨rfl, q2⟩
    go_wp2
    go_ret
    exact ⟨rfl, (q1.trans q2).below (Nat.le_refl _) (fun _ _ h => h)⟩
  · rcases hrows with h0 | ⟨bl, off, rfl, hbl, hrow⟩
    · have h0' : (len : Int) = 0 := by omega
      subst h0
      go_enter Try.func4, Try.ntmps4
      go_wp2_with fail
      refine (awake_any _).mono ?_
      rintro e w1 ⟨rfl, q1⟩
      go_wp2_with fail
      refine (new_any _ _ _).mono ?_
      rintro e w2 ⟨b, rfl, hb, i0, q2⟩
      go_wp2_with fail
      go_loopw [8, 9, 10, 31] (fun u d mo i wr => ∃ (k : Nat) (ms : MS), k ≤ 0 ∧ i = .int .i64 k ∧ u = .int .i64 ms.used ∧ d = .int .i64 ms.done ∧ mo = .int .i64 ms.most ∧ ms.Ok ∧ At wr b 44 ms.vals ∧ Keep (fun _ => False) W wr) (fun _ _ _ i _ => 0 - (intOf i).toNat)
      case atStart => exact ⟨0, MS.new c s, Nat.zero_le _, rfl, rfl, rfl, rfl, MS.new_ok c s, i0, q1.trans q2⟩
      case round =>
        obtain ⟨k, ms, hk, rfl, rfl, rfl, rfl, ho, ha, hq⟩ := hrel
        obtain rfl : k = 0 := by omega
        go_wp2
        go_ret
        exact ⟨rfl, hq.below (Nat.le_refl _) (fun _ _ h => h)⟩
    · have hb5 : decide ((500 : Int) < (len : Int)) = false := by simp; omega
      go_enter Try.func4, Try.ntmps4
      go_wp2_with fail
      refine (awake_any _).mono ?_
      rintro e w1 ⟨rfl, q1⟩
      go_wp2_with fail
      refine (new_any _ _ _).mono ?_
      rintro e w2 ⟨b, rfl, hb, i0, q2⟩
      go_wp2_with fail
      go_loopg [8, 9, 10, 31] len (fun gg u d mo i wr => ∃ (k : Nat) (ms : MS), k + gg = len ∧ i = .int .i64 k ∧ u = .int .i64 ms.used ∧ d = .int .i64 ms.done ∧ mo = .int .i64 ms.most ∧ ms.Ok ∧ At wr b 44 ms.vals ∧ Keep (fun _ => False) W wr)
      case atStart => exact ⟨0, MS.new c s, Nat.zero_add _, rfl, rfl, rfl, rfl, MS.new_ok c s, i0, q1.trans q2⟩
      case round =>
        obtain ⟨k, ms, hk, rfl, rfl, rfl, rfl, ho, ha, hq⟩ := hrel
        by_cases hlt : k < len
        · obtain ⟨x, n, n0, n1, c0, c1⟩ : ∃ x n : Int, -9223372036854775808 ≤ n ∧ n ≤ 9223372036854775807 ∧ wr.cell? ⟨bl, off + k * 2, none⟩ = some (.int .i64 x) ∧ wr.cell? ⟨bl, off + k * 2 + 1, none⟩ = some (.int .i64 n) :=
            ⟨_, _, (hrow k 1 hlt (by omega)).2.1, (hrow k 1 hlt (by omega)).2.2, (hq.cell hbl (fun h => h)).trans (hrow k 0 hlt (by omega)).1, (hq.cell hbl (fun h => h)).trans (hrow k 1 hlt (by omega)).1⟩
          have HR := Lib.hid hrow
          clear hrow
          have HQ := Lib.hid hq
          clear hq
          go_upto_block 2 with fail
          go_cut [8, 9] (fun u d wx => ∃ ms' : MS, u = .int .i64 ms'.used ∧ d = .int .i64 ms'.done ∧ ms'.Ok ∧ Hid (max ms.most ms'.used = ms'.most) ∧ At wx b 44 ms'.vals ∧ Keep (fun _ => False) W wx)
          case first =>
            have a0 := At.new wr #[.int .i64 x, .int .i64 n] 30
            have hg : ¬ wr.heap.size = b := by have := ha.lt; omega
            have HG := Lib.hid hg
            clear hg
            have ha1 := ha.alloc (.cells #[.int .i64 x, .int .i64 n] 30)
            have HQ1 := Lib.hid (HQ.out.alloc (.cells #[.int .i64 x, .int .i64 n] 30))
            have kk : ∀ (a c : World), Keep (fun _ => False) W a → Keep (· = b) a c → Keep (fun _ => False) W c := fun _ _ x y => x.next y (fun i hi hl => by have := q1.size; omega)
            have K := Lib.hid kk
            have u0 := ho.u0; have um := ho.um; have mc := ho.mc; have cc := ho.c1; have dd := ho.d0; have ds := ho.ds; have ss := ho.s1
            clear kk ha HQ c0 c1 q1 i0 q2 hb5
            have hx : x = 1 ∨ x = 2 ∨ x = 3 ∨ x = 4 ∨ (¬ x = 1 ∧ ¬ x = 2 ∧ ¬ x = 3 ∧ ¬ x = 4) := by omega
            rcases hx with rfl | rfl | rfl | rfl | ⟨y1, y2, y3, y4⟩
            · rcases Bool.eq_false_or_eq_true (ms.take n).1 with hv | hv
              · have HV := Lib.hid hv
                obtain ⟨n2, n3, -, -, -⟩ := MS.take_true hv
                clear hv
                go_wp2_with fail
                refine (take_is b ms n _ true (MS.take ms n).2 (Prod.ext HV.out rfl) ho ha1 n0 n1).mono ?_
                rintro e w3 ⟨rfl, h3, q3, -⟩
                have a3 := a0.keep q3 HG.out
                have z1 : w3.cell? ⟨wr.heap.size, 1, none⟩ = some (.int .i64 n) := a3.cell rfl
                have z0 : w3.cell? ⟨wr.heap.size, 0, none⟩ = some (.int .i64 1) := a3.cell rfl
                have r3 := K.out _ _ HQ1.out q3
                clear a0 a3 ha1 q3
                go_wp2_with fail
                go_meet
                case rel =>
                  obtain ⟨-, -, e1, e2, e3⟩ := MS.take_true HV.out
                  refine ⟨(MS.take ms n).2, by rw [e1], by rw [e2], MS.take_ok ho n, ?_, h3, r3⟩
                  show max ms.most (MS.take ms n).2.used = (MS.take ms n).2.most
                  rw [e1, e3]
                  try omega
              · have HV := Lib.hid hv
                clear hv
                go_wp2_with fail
                refine (take_is b ms n _ false (MS.take ms n).2 (Prod.ext HV.out rfl) ho ha1 n0 n1).mono ?_
                rintro e w3 ⟨rfl, h3, q3, -⟩
                have a3 := a0.keep q3 HG.out
                have z1 : w3.cell? ⟨wr.heap.size, 1, none⟩ = some (.int .i64 n) := a3.cell rfl
                have z0 : w3.cell? ⟨wr.heap.size, 0, none⟩ = some (.int .i64 1) := a3.cell rfl
                have r3 := K.out _ _ HQ1.out q3
                clear a0 a3 ha1 q3
                go_wp2_with fail
                go_meet
                case rel =>
                  obtain ⟨e1, e2, e3⟩ := MS.take_false HV.out
                  refine ⟨(MS.take ms n).2, by rw [e1], by rw [e2], MS.take_ok ho n, ?_, h3, r3⟩
                  show max ms.most (MS.take ms n).2.used = (MS.take ms n).2.most
                  rw [e1, e3]
                  try omega
            · rcases Bool.eq_false_or_eq_true (ms.give n).1 with hv | hv
              · have HV := Lib.hid hv
                obtain ⟨n2, n3, -, -, -⟩ := MS.give_true hv
                clear hv
                go_wp2_with fail
                refine (give_is b ms n _ true (MS.give ms n).2 (Prod.ext HV.out rfl) ho ha1 n0 n1).mono ?_
                rintro e w3 ⟨rfl, h3, q3, -⟩
                have a3 := a0.keep q3 HG.out
                have z1 : w3.cell? ⟨wr.heap.size, 1, none⟩ = some (.int .i64 n) := a3.cell rfl
                have z0 : w3.cell? ⟨wr.heap.size, 0, none⟩ = some (.int .i64 2) := a3.cell rfl
                have r3 := K.out _ _ HQ1.out q3
                clear a0 a3 ha1 q3
                go_wp2_with fail
                go_meet
                case rel =>
                  obtain ⟨-, -, e1, e2, e3⟩ := MS.give_true HV.out
                  refine ⟨(MS.give ms n).2, by rw [e1], by rw [e2], MS.give_ok ho n, ?_, h3, r3⟩
                  show max ms.most (MS.give ms n).2.used = (MS.give ms n).2.most
                  rw [e1, e3]
                  try omega
              · have HV := Lib.hid hv
                clear hv
                go_wp2_with fail
                refine (give_is b ms n _ false (MS.give ms n).2 (Prod.ext HV.out rfl) ho ha1 n0 n1).mono ?_
                rintro e w3 ⟨rfl, h3, q3, -⟩
                have a3 := a0.keep q3 HG.out
                have z1 : w3.cell? ⟨wr.heap.size, 1, none⟩ = some (.int .i64 n) := a3.cell rfl
                have z0 : w3.cell? ⟨wr.heap.size, 0, none⟩ = some (.int .i64 2) := a3.cell rfl
                have r3 := K.out _ _ HQ1.out q3
                clear a0 a3 ha1 q3
                go_wp2_with fail
                go_meet
                case rel =>
                  obtain ⟨e1, e2, e3⟩ := MS.give_false HV.out
                  refine ⟨(MS.give ms n).2, by rw [e1], by rw [e2], MS.give_ok ho n, ?_, h3, r3⟩
                  show max ms.most (MS.give ms n).2.used = (MS.give ms n).2.most
                  rw [e1, e3]
                  try omega
            · rcases Bool.eq_false_or_eq_true (ms.step n).1 with hv | hv
              · have HV := Lib.hid hv
                obtain ⟨n2, n3, -, -, -⟩ := MS.step_true hv
                clear hv
                go_wp2_with fail
                refine (step_is b ms n _ true (MS.step ms n).2 (Prod.ext HV.out rfl) ho ha1 n0 n1).mono ?_
                rintro e w3 ⟨rfl, h3, q3, -⟩
                have a3 := a0.keep q3 HG.out
                have z1 : w3.cell? ⟨wr.heap.size, 1, none⟩ = some (.int .i64 n) := a3.cell rfl
                have z0 : w3.cell? ⟨wr.heap.size, 0, none⟩ = some (.int .i64 3) := a3.cell rfl
                have r3 := K.out _ _ HQ1.out q3
                clear a0 a3 ha1 q3
                go_wp2_with fail
                go_meet
                case rel =>
                  obtain ⟨-, -, e1, e2, e3⟩ := MS.step_true HV.out
                  refine ⟨(MS.step ms n).2, by rw [e1], by rw [e2], MS.step_ok ho n, ?_, h3, r3⟩
                  show max ms.most (MS.step ms n).2.used = (MS.step ms n).2.most
                  rw [e1, e3]
                  try omega
              · have HV := Lib.hid hv
                clear hv
                go_wp2_with fail
                refine (step_is b ms n _ false (MS.step ms n).2 (Prod.ext HV.out rfl) ho ha1 n0 n1).mono ?_
                rintro e w3 ⟨rfl, h3, q3, -⟩
                have a3 := a0.keep q3 HG.out
                have z1 : w3.cell? ⟨wr.heap.size, 1, none⟩ = some (.int .i64 n) := a3.cell rfl
                have z0 : w3.cell? ⟨wr.heap.size, 0, none⟩ = some (.int .i64 3) := a3.cell rfl
                have r3 := K.out _ _ HQ1.out q3
                clear a0 a3 ha1 q3
                go_wp2_with fail
                go_meet
                case rel =>
                  obtain ⟨e1, e2, e3⟩ := MS.step_false HV.out
                  refine ⟨(MS.step ms n).2, by rw [e1], by rw [e2], MS.step_ok ho n, ?_, h3, r3⟩
                  show max ms.most (MS.step ms n).2.used = (MS.step ms n).2.most
                  rw [e1, e3]
                  try omega
            · go_wp2_with fail
              refine (begin_any b ms n _ ha1).mono ?_
              rintro e w3 ⟨rfl, h3, q3, -⟩
              have a3 := a0.keep q3 HG.out
              have r3 := K.out _ _ HQ1.out q3
              clear a0 a3 ha1 q3
              go_wp2_with fail
              go_meet
              case rel => exact ⟨ms.begin n, rfl, rfl, MS.begin_ok ho n, by show max ms.most ms.used = ms.most; omega, h3, r3⟩
            · have z1 : (x == 1) = false := by simpa using y1
              have z2 : (x == 2) = false := by simpa using y2
              have z3 : (x == 3) = false := by simpa using y3
              have z4 : (x == 4) = false := by simpa using y4
              clear y1 y2 y3 y4
              go_wp2_with fail
              go_meet
              case rel => exact ⟨ms, rfl, rfl, ho, by show max ms.most ms.used = ms.most; omega, ha1, HQ1.out⟩
          case rest =>
            obtain ⟨⟨u', m', c', d', s', e'⟩, rfl, rfl, o', HM, a', q'⟩ := hcut
            obtain ⟨u0, um, mc, cc, dd, ds, ss⟩ := o'
            have o' : MS.Ok ⟨u', m', c', d', s', e'⟩ := ⟨u0, um, mc, cc, dd, ds, ss⟩
            simp only at u0 um mc cc dd ds ss
            have hm' : max ms.most u' = m' := HM.out
            clear HM c0 c1 ha HQ q1 i0 q2 hb5 ho
            have hmm : (ms.most < u' ∧ u' = m') ∨ (¬ ms.most < u' ∧ m' = ms.most) := by omega
            clear hm'
            rcases hmm with ⟨hmm, rfl⟩ | ⟨hmm, rfl⟩
            all_goals
              obtain ⟨mz, hz⟩ : ∃ mz : MS, Hid (mz = ⟨u', _, c', d', s', e'⟩ ∧ At wc b 44 mz.vals) := ⟨_, rfl, a'⟩
              go_wp2_with fail
              refine (cells_any b _ _ a').mono ?_
              rintro e w4 ⟨rfl, d4⟩
              have a4 := a'.drawn d4
              have q4 := q'.trans (d4.keep _)
              clear a' q' d4
              go_wp2_with fail
              refine (steps_any b _ _ a4).mono ?_
              rintro e w5 ⟨rfl, d5⟩
              have a5 := a4.drawn d5
              have q5 := q4.trans (d5.keep _)
              clear a4 q4 d5
              go_wp2_with fail
              go_roundg (gk - 1)
              case measure => omega
              case rel => exact ⟨k + 1, mz, by omega, by go_num, by rw [hz.out.1], by rw [hz.out.1], by rw [hz.out.1], by rw [hz.out.1]; exact o', by rw [hz.out.1]; exact a5, q5⟩
        · go_wp2
          go_ret
          exact ⟨rfl, hq.below (Nat.le_refl _) (fun _ _ h => h)⟩

end Go.Proofs.Ythnjohjibohflaa.MeterHonest
