/- Layer 11: EndsSimple. -/
import Derived.Test.YtfpijkcaceoboaaDoorKK53
import Derived.Test.YtfpijkcaceoboaaDoorKK27
import Derived.Test.YtfpijkcaceoboaaDoorKK49
import Derived.Test.YtfpijkcaceoboaaDoorKK47
import Derived.Test.YtfpijkcaceoboaaDoorKK09
import Derived.Test.YtfpijkcaceoboaaDoorRows
import Derived.Test.YtfpijkcaceoboaaDoorCards
import Derived.Test.YtfpijkcaceoboaaDoorTie
import Derived.Test.YtfpijkcaceoboaaDoorKK23
import Derived.SevenTiedAt
import Derived.JoinedCond
import Derived.Deep.DeepHandedRow
import Derived.Deep.DeepWitnessRowRef
namespace Go.Proofs.YtfpijkcaceoboaaDoor.P11
open Go.RowKit Go.Proofs.YtfpijkcaceoboaaDoor.Base Go.Proofs.YtfpijkcaceoboaaDoor.Bytes Go.Proofs.YtfpijkcaceoboaaDoor.P07 Go.Proofs.YtfpijkcaceoboaaDoor.P08 Go.Proofs.YtfpijkcaceoboaaDoor.P09 Go.Proofs.YtfpijkcaceoboaaDoor.P10 Go.Proofs.YtfpijkcaceoboaaDoor.IL
open Go.Proofs.YtfpijkcaceoboaaDoor.Sets (ST)

set_option maxRecDepth 100000 in
set_option maxHeartbeats 8000000 in
theorem law_simple (t : T) (a : Option Addr) (c : Nat) (w : World) (hta : Lie w (fun _ => True) a t.subs) (hcl : t.subs.length ≤ c) (ht : cnt t ≤ 1000000000) (hst : SOk t) (hTab : Tab w) (s : List UInt8) :
    Calls Tryd.prog 5 #[nodeV t a c, .string ⟨s.toArray⟩] w fun e w' => e = .returned (.bool true) ∧ Keep (fun _ => False) w w' := by
  have HTab := Lib.hid hTab
  clear hTab
  have H0 := Lib.hid (Bx.new (c := c) hta)
  have QA := Lib.hid ((Keep.refl (fun _ => False) w).alloc (.cells (ncells t a c) 27))
  have hsz := P07.size_str s
  have HH := Lib.hid (And.intro hcl (And.intro hst ht))
  clear hta hcl hst ht
  go_enter Tryd.func5, Tryd.ntmps5
  go_upto_region 1 with fail
  generalize (w.alloc (.cells (ncells t a c) 27)) = W at *
  go_wp2_with fail
  refine (awake11 _ (HTab.out.keep QA.out)).mono ?_
  rintro e w1 ⟨rfl, q1⟩
  have B1 := Lib.hid (H0.out.keep q1)
  have Q1 := Lib.hid (QA.out.trans q1)
  clear q1
  obtain ⟨d0, d1, d2, d3, d4, d5, d6, d7⟩ := B1.out.eight
  go_wp2_with fail
  refine (few11_any t HH.out.2.1 HH.out.2.2 s a c w1 B1.out.lie).mono ?_
  rintro e w2 ⟨rfl, q2⟩
  have B2 := Lib.hid (B1.out.keep q2)
  have Q2 := Lib.hid (Q1.out.trans q2)
  clear q2 d0 d1 d2 d3 d4 d5 d6 d7
  obtain ⟨d0, d1, d2, d3, d4, d5, d6, d7⟩ := B2.out.eight
  cases hf : fewL s t with
  | false =>
    clear d0 d1 d2 d3 d4 d5 d6 d7
    go_wp2_with fail
    refine (awake11 _ (HTab.out.keep Q2.out)).mono ?_
    rintro e w9 ⟨rfl, q9⟩
    have Q9 := Lib.hid (Q2.out.trans q9)
    clear q9
    go_wp2_with fail
    go_ret
    exact ⟨rfl, Q9.out⟩
  | true =>
    unfold fewL at hf
    simp only [Bool.and_eq_true, decide_eq_true_eq] at hf
    have hs40 := hf.2.1
    have HCS := Lib.hid (show cnt t ≤ 1000000 by have := few_cnt hf.1; omega)
    have HF := Lib.hid hf
    clear hf
    go_wp2_with fail
    refine (fright_any t HH.out.2.2 a c w2 B2.out.lie).mono ?_
    rintro e w3 ⟨rfl, q3⟩
    have B3 := Lib.hid (B2.out.keep q3)
    have Q3 := Lib.hid (Q2.out.trans q3)
    clear q3 d0 d1 d2 d3 d4 d5 d6 d7
    obtain ⟨d0, d1, d2, d3, d4, d5, d6, d7⟩ := B3.out.eight
    cases hr : rightB t with
    | false =>
      clear d0 d1 d2 d3 d4 d5 d6 d7
      go_wp2_with fail
      refine (awake11 _ (HTab.out.keep Q3.out)).mono ?_
      rintro e w9 ⟨rfl, q9⟩
      have Q9 := Lib.hid (Q3.out.trans q9)
      clear q9
      go_wp2_with fail
      go_ret
      exact ⟨rfl, Q9.out⟩
    | true =>
      have hR := (rightB_iff HH.out.2.1).1 hr
      have hcn := few_cnt HF.out.1
      have hsm := fsimple_any t 12 hR (by omega) a c (fun _ => True) w3 B3.out.lie HH.out.1
      have hRs := (sim_ok t 12 hR).1.rt
      have HCM := Lib.hid (show cnt (simT t) ≤ 1000000 by have := (sim_ok t 12 hR).1.cnt; omega)
      have HSM := Lib.hid hsm
      clear hsm
      go_wp2_with fail
      refine HSM.out.mono ?_
      rintro e w4 ⟨⟨v, rfl, a2, c2, rfl, hle2, hL2⟩, q4⟩
      have hR3 := hR
      have ends := fun F (hF : F ≤ s.length) => ends_simple hR hF
      generalize simT t = m at *
      have qq := q4.alloc (.cells (ncells m a2 c2) 27)
      have B4 := Lib.hid (And.intro (B3.out.keep qq) (And.intro (Bx.new (c := c2) (hL2.mono fun _ _ => trivial)) (Q3.out.trans qq)))
      have HE := Lib.hid (And.intro ends (And.intro hr hRs))
      clear ends qq q4 hL2 d0 d1 d2 d3 d4 d5 d6 d7 hR hR3 hr hRs hcn
      go_upto_region 4 with fail
      generalize (w4.alloc (.cells (ncells m a2 c2) 27)) = W1 at *
      generalize w4.heap.size = n1 at *
      have hsm := RT_sok m 12 HE.out.2.2
      have hrm := (rightB_iff hsm).2 HE.out.2.2
      have HRM := Lib.hid (And.intro hsm hrm)
      clear hsm hrm
      go_wp2_with fail
      have QW := Lib.hid B4.out.2.2
      go_loopg [30] (s.length + 1) (fun gg i wr => ∃ k : Nat, i = .int .i64 k ∧ k + gg = s.length + 1 ∧ Keep (fun _ => False) W1 wr)
      case atStart => exact ⟨0, rfl, by omega, Keep.refl _ _⟩
      case round =>
        obtain ⟨k, rfl, hk, hq⟩ := hrel
        by_cases hlt : k < s.length + 1
        · have hlt' : (k : Int) < (s.length : Int) + 1 := by omega
          have i0 : (0 : Int) ≤ k := by omega
          have hF : k ≤ s.length := by omega
          have x1 := fun w' (q : Keep (fun _ => False) wr w') => call_any t HH.out.2.1 s (by omega) (k : Int) a c w' ((B4.out.1.keep (hq.trans q)).lie) (HTab.out.keep (QW.out.trans (hq.trans q))) HCS.out
          have x2 := fun w' (q : Keep (fun _ => False) wr w') => call_any m HRM.out.1 s (by omega) (k : Int) a2 c2 w' ((B4.out.2.1.keep (hq.trans q)).lie) (HTab.out.keep (QW.out.trans (hq.trans q))) HCM.out
          unfold IsAll at x1 x2
          rw [allA_in HE.out.2.1 hF, allE_in HE.out.2.1 hF, HE.out.1 k hF] at x1
          rw [allA_in HRM.out.2 hF, allE_in HRM.out.2 hF] at x2
          have hll : (endsI s m k).length ≤ s.length + 1 := plc_length _ _
          generalize endsI s m k = L at *
          have HX := Lib.hid (And.intro x1 (And.intro x2 (And.intro hq hll)))
          obtain ⟨d0, d1, d2, d3, d4, d5, d6, d7⟩ := (B4.out.1.keep hq).eight
          clear x1 x2 hq hll
          go_wp2_with fail
          refine (HX.out.1 wr (Keep.refl _ _)).mono ?_
          rintro e w5 ⟨v1, rfl, hil1, -, q5⟩
          obtain ⟨e0, e1, e2, e3, e4, e5, e6, e7⟩ := (B4.out.2.1.keep (HX.out.2.2.1.trans q5)).eight
          have G5 := Lib.hid (And.intro hil1 q5)
          clear d0 d1 d2 d3 d4 d5 d6 d7 hil1 q5
          go_wp2_with fail
          refine (HX.out.2.1 w5 G5.out.2).mono ?_
          rintro e w6 ⟨v2, rfl, hil2, -, q6⟩
          have G6 := Lib.hid (And.intro (G5.out.1.keep q6 (fun _ _ h => h)) (And.intro hil2 (HX.out.2.2.1.trans (G5.out.2.trans q6))))
          clear e0 e1 e2 e3 e4 e5 e6 e7 hil2 q6
          go_wp2_with fail
          refine (same_yes11 v1 v2 L w6 G6.out.1 G6.out.2.1 (by have := HX.out.2.2.2; omega)).mono ?_
          rintro e w7 ⟨rfl, q7⟩
          have G7 := Lib.hid (G6.out.2.2.trans q7)
          clear q7
          go_wp2_with fail
          go_roundg (s.length + 1 - (k + 1))
          case measure => omega
          case rel => exact ⟨k + 1, by go_num, by omega, G7.out⟩
        · have hke : k = s.length + 1 := by omega
          subst hke
          have HQ := Lib.hid hq
          clear hq
          go_wp2_with fail
          go_ret
          exact ⟨rfl, QW.out.trans HQ.out⟩
end Go.Proofs.YtfpijkcaceoboaaDoor.P11
/- EndsSimple: the arguments opened. -/
namespace Go.Proofs.YtfpijkcaceoboaaDoor.EndsSimple
open Go.RowKit Go.Proofs.YtfpijkcaceoboaaDoor.Base Go.Proofs.YtfpijkcaceoboaaDoor.P08 Go.Proofs.YtfpijkcaceoboaaDoor.P11
open Go.ChangeShapes Go.WideShapes Go.ChangeAt
open Go.Proofs.YtfpijkcaceoboaaDoor.Bytes (Tab)

set_option maxRecDepth 100000 in
theorem walk {H : Type} {enc : TypeId × Value → H} (v0 v1 : Value) {d0 d1 : DataW H} {p0 p1 : List MemPlace} (W : World) (hT : Tab W)
    (k0 : Value.okWide Tryd.prog W .any 0 27 v0) (k1 : Value.okWide Tryd.prog W .any 0 9 v1)
    (h0 : DataW.Trod enc Tryd.prog W 0 (fun _ => true) true 27 v0 d0 p0) (h1 : DataW.Trod enc Tryd.prog W 0 (fun _ => true) true 9 v1 d1 p1)
    (hk : Rows.uptoSmall H [d0, d1] = true) :
    Calls Tryd.prog 5 #[v0, v1] W fun e w' => e = .returned (.bool true) ∧ Below W.heap.size W w' := by
  have hb := of_decide_eq_true hk
  obtain ⟨t0, a0, c0, rfl, hc0, hL0, hn0, hs0⟩ := node_arg k0 h0
  obtain ⟨l1, rfl, rfl, -⟩ := str_arg11 k1 h1
  simp only [Rows.uptoBulkAll, Rows.uptoBulk] at hb
  exact (law_simple t0 a0 c0 W hL0 hc0 (by omega) hs0 hT l1).mono fun e w' ⟨he, q⟩ => ⟨he, q.below (Nat.le_refl _) (fun _ _ h => h)⟩
end Go.Proofs.YtfpijkcaceoboaaDoor.EndsSimple
/- THE STATEMENT 'EndsSimple' OF LAYER 11, SECOND FORM: for every input that holds no more values than the given bound (uptoSmall) the law answers true, and each argument reads as it did. Condition: the library's table math/bits.deBruijn64tab reads as the program's text lays them (the card ties them). The walk is in XW11Simple. -/
namespace Go.Proofs.YtfpijkcaceoboaaDoor.EndsSimple
open Go.ChangeShapes Go.WideShapes Go.ChangeAt Go.RowKit Go.Proofs.YtfpijkcaceoboaaDoor.Tied
set_option linter.unusedVariables false

theorem own : ownKnob Tryd.prog.godebug = none := by kernel_rfl
theorem laidOut : laidOutB Tryd.prog = true := by kernel_rfl

set_option maxRecDepth 100000 in
theorem contract (H : Type) (enc : TypeId × Value → H) (W : World) (base : Nat) (args : Array Value) (ds gs : List (DataW H)) (before : List MemPlace)
    (hval0 : ∀ (j : Nat) t v, Tryd.f5.params[j]? = some t → args[j]? = some v → Value.okWide Tryd.prog W .any base t v)
    (hW : DataW.Whole enc Tryd.prog Tryd.f5.params.toList Rows.endsSimpleSpec.vars false W args.toList ds gs before) (hL : laidMetH Tryd.prog laid W) (hk : Rows.uptoSmall H (ds ++ gs) = true) :
    Calls Tryd.prog 5 args W fun e W' => ∃ v, e = .returned v ∧ Rows.endsSimpleSpec.post enc Tryd.prog Tryd.f5 false true false false W args v W' := by
  have hval : ∀ (j : Nat) t v, Tryd.f5.params[j]? = some t → args[j]? = some v → Value.okWide Tryd.prog W .any base t v := hval0
  have hW' := hW
  have hT := of_laid hL
  obtain ⟨p, q, hA0, hV, rfl, hfz, hnd⟩ := hW
  have hA : DataW.TrodAll enc Tryd.prog W 0 (fun _ => true) true Tryd.f5.params.toList args.toList ds p := hA0
  rw [Tryd.params5] at hA hval
  obtain ⟨v0, vs0, d0, ds0, p0, q0, hargs, rfl, rfl, h0, r0⟩ := trodAll_cons hA
  obtain ⟨v1, vs1, d1, ds1, p1, q1, rfl, rfl, rfl, h1, r1⟩ := trodAll_cons r0
  obtain ⟨rfl, rfl, rfl⟩ := trodAll_nil r1
  obtain rfl : args = #[v0, v1] := by cases args; simp_all
  obtain ⟨rfl, rfl⟩ := trodVars_none hV
  have lt0 : ∀ x ∈ p0, x.block < W.heap.size := by obtain ⟨m, hm⟩ := h0; exact DataW.trod_lt m _ _ _ hm
  have lt1 : ∀ x ∈ p1, x.block < W.heap.size := by obtain ⟨m, hm⟩ := h1; exact DataW.trod_lt m _ _ _ hm
  have hk1 : Rows.uptoSmall H [d0, d1] = true := hk
  refine (walk v0 v1 W hT (hval 0 27 v0 rfl rfl) (hval 1 9 v1 rfl rfl) h0 h1 hk1).mono fun e W' ⟨he, bel⟩ => ?_
  subst he
  exact ⟨_, rfl, _, _, _, [], _, [], hW', trodAll_mk1 (shut_bool Tryd.underlying4 _), (trodAll_cons_mk (Below.trod laidOut (by kernel_rfl) (of_decide_eq_true (by kernel_rfl)) h0 bel lt0) (trodAll_cons_mk (Below.trod laidOut (by kernel_rfl) (of_decide_eq_true (by kernel_rfl)) h1 bel lt1) trodAll_mk0)), rfl, bel.frame _, fun h => by cases h⟩

theorem reads (os : Os) {H : Type} (enc : TypeId × Value → H) : ∃ places, DataW.whole enc Tryd.prog ((World.doorLaid Tryd.prog 400 os).forCall (fun _ _ => 0) ⟨#[], #[.agg #[.int .i64 0, .int .u64 0, .int .u64 0, .int .u64 0, .int .u64 0, .int .i64 0, .int .i64 0, .slice none 0 0], .string ⟨#[]⟩], []⟩).memory Tryd.f5.params.toList Rows.endsSimpleSpec.vars false (#[.agg #[.int .i64 0, .int .u64 0, .int .u64 0, .int .u64 0, .int .u64 0, .int .i64 0, .int .i64 0, .slice none 0 0], .string ⟨#[]⟩] : Array Value).toList 8 = some ([.agg [.lit (.int .i64 0), .agg [.lit (.int .u64 0), .lit (.int .u64 0), .lit (.int .u64 0), .lit (.int .u64 0)], .lit (.int .i64 0), .lit (.int .i64 0), .nil], .lit (.string [])], [], places) :=
  ⟨[], by kernel_rfl⟩

set_option maxRecDepth 100000 in
theorem lifted (os : Os) (started : os.Started) (H : Type) (enc : TypeId × Value → H) (F : Stop.Interp) :
    ReturnsInHanded {} Tryd.checked os 5 .any ((Rows.OpenSpec.upto Rows.endsSimpleSpec).preRow enc Tryd.prog Tryd.f5 Rows.endsSimpleUptoRow.domain false Rows.endsSimpleUptoRow.laid) (((Rows.OpenSpec.upto Rows.endsSimpleSpec).at F).post enc Tryd.prog Tryd.f5 false true false false) := by
  obtain ⟨places, hx⟩ := reads os enc
  refine returnsInHanded_of_row (C := Tryd.checked) (s := (Rows.OpenSpec.upto Rows.endsSimpleSpec)) own started (by kernel_rfl) Tryd.func5
    (witness_row_atRef (enc := enc) (C := Tryd.checked) false (World.doorLaid Tryd.prog 400 os) #[.agg #[.int .i64 0, .int .u64 0, .int .u64 0, .int .u64 0, .int .u64 0, .int .i64 0, .int .i64 0, .slice none 0 0], .string ⟨#[]⟩] rfl (by kernel_rfl) (by kernel_rfl) (by kernel_rfl)
      (OpenSpec.preRow_of_cond 8 hx (by kernel_rfl) (fun k hk => by cases hk; kernel_rfl) (by kernel_rfl) (laid_met os _))) ?_
  intro W base args ds gs before hval hW _ hcond _ hL _ _
  exact contract H enc W base args ds gs before hval hW hL (hcond _ rfl)

theorem over : Rows.endsSimpleUptoRow.holds Tryd.pinned (Rows.OpenSpec.upto Rows.endsSimpleSpec) :=
  OpenClaim.holds_of_cond 5 Tryd.f5 rfl rfl rfl rfl rfl rfl rfl ⟨rfl, rfl, rfl, rfl, rfl⟩ rfl rfl rfl rfl rfl (by kernel_rfl) Tryd.func5 (by kernel_rfl)
    (of_decide_eq_true (by kernel_rfl)) (by unfold Func.isWrapper; first | (rw [if_pos (by decide +kernel)]; kernel_rfl) | (rw [if_neg (by decide +kernel)]; exact ⟨rfl, rfl⟩))
    (fun os started H enc _ F => by rw [OpenClaim.pre_eq_preRow]; exact lifted os started H enc F)

/-- No parameter wants a stand-in; the program's own looks are off. -/
theorem bare (f : FuncId) (fn : Func) (hf : Tryd.pinned.checked.prog.funcNamed "sieve/sievelaw11.EndsSimple" = some f) (hfn : Tryd.pinned.checked.prog.funcs[f]? = some fn) :
    true = Tryd.pinned.checked.prog.looks [] ∧ ∀ (j : Nat) t, fn.params[j]? = some t → Tryd.pinned.checked.prog.wantsStandIn t = false := by
  obtain rfl : f = 5 := Option.some.inj ((show Tryd.prog.funcNamed "sieve/sievelaw11.EndsSimple" = some 5 by kernel_rfl).symm.trans hf) |>.symm
  obtain rfl : fn = Tryd.f5 := (Option.some.inj (Tryd.func5.symm.trans hfn)).symm
  refine ⟨by kernel_rfl, fun j t ht => ?_⟩
  rw [Tryd.params5] at ht
  have hm : t ∈ [27, 9] := by simpa using Array.mem_of_getElem? ht
  have hall : ([27, 9].all fun u => !Tryd.prog.wantsStandIn u) = true := by kernel_rfl
  exact (show Tryd.prog.wantsStandIn t = false by simpa using List.all_eq_true.1 hall t hm)

theorem proved : Rows.EndsSimpleUptoCardSaid :=
  Claim7.holds_tied_plain_at .later [] _ _ _ _ over (fun _ h => by cases h) (by kernel_rfl) (fun _ h => by cases h) endsSimpleUpto_row_tie rfl ⟨rfl, rfl⟩ (by kernel_rfl) rfl bare (by kernel_rfl)
#print axioms proved
end Go.Proofs.YtfpijkcaceoboaaDoor.EndsSimple
