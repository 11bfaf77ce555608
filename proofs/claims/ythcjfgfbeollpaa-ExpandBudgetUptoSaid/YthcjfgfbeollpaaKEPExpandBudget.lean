/- ExpandBudget: the walk. -/
import Derived.Test.YthcjfgfbeollpaaKE50
import Derived.Test.YthcjfgfbeollpaaKE29
import Derived.Test.YthcjfgfbeollpaaKE27
import Derived.Test.YthcjfgfbeollpaaKE20
import Derived.Test.YthcjfgfbeollpaaKE49
import Derived.Test.YthcjfgfbeollpaaRows
import Derived.JoinedCond
namespace Go.Proofs.Ythcjfgfbeollpaa.P13
open Go.RowKit Go.Proofs.Ythcjfgfbeollpaa.Base Go.Proofs.Ythcjfgfbeollpaa.Bytes Go.Proofs.Ythcjfgfbeollpaa.P07 Go.Proofs.Ythcjfgfbeollpaa.P08 Go.Proofs.Ythcjfgfbeollpaa.P09 Go.Proofs.Ythcjfgfbeollpaa.P10
open Go.Proofs.Ythcjfgfbeollpaa.Sets (ST)

set_option maxRecDepth 100000 in
set_option maxHeartbeats 16000000 in
theorem law_budget (t : T) (a : Option Addr) (c : Nat) (w : World) (hta : Lie w (fun _ => True) a t.subs) (hcl : t.subs.length ≤ c) (ht : cnt t ≤ 1000000000) (hst : SOk t) :
    Calls Try.prog 6 #[nodeV t a c] w fun e w' => e = .returned (.bool true) ∧ Keep (fun _ => False) w w' := by
  have q := (Keep.refl (fun _ => False) w).alloc (.cells (ncells t a c) 27)
  have H0 := Lib.hid (And.intro q (show Nd _ w.heap.size t a c from ⟨At.new w _ _, hta.keepF q, hcl⟩))
  have HCT := Lib.hid (And.intro ht hst)
  clear q hta hcl ht hst
  go_enter Try.func6, Try.ntmps6
  go_upto_region 1 with fail
  generalize (w.alloc (.cells (ncells t a c) 27)) = W0 at *
  generalize w.heap.size = n1 at *
  go_wp2_with fail
  refine (awake13 W0).mono ?_
  rintro e w1 ⟨rfl, q1⟩
  have H1 := Lib.hid (And.intro (H0.out.1.trans q1) (H0.out.2.keep q1))
  clear q1
  obtain ⟨x0, x1, x2, x3, x4, x5, x6, x7⟩ := (cells8 H1.out.2.cell).1
  go_wp2_with fail
  refine (few_any t HCT.out.1 a c w1 H1.out.2.lie).mono ?_
  rintro e w2 ⟨rfl, q2⟩
  have H2 := Lib.hid (And.intro (H1.out.1.trans q2) (H1.out.2.keep q2))
  clear q2 x0 x1 x2 x3 x4 x5 x6 x7
  obtain ⟨x0, x1, x2, x3, x4, x5, x6, x7⟩ := (cells8 H2.out.2.cell).1
  by_cases h1 : sz t ≤ 200
  case neg =>
    have g1 : decide (sz t ≤ 200) = false := decide_eq_false h1
    rw [g1]
    clear g1 h1
    go_wp2_with fail
    refine (awake13 w2).mono ?_
    rintro e w3 ⟨rfl, q3⟩
    have Q3 := Lib.hid (H2.out.1.trans q3)
    clear q3
    go_wp2_with fail
    go_ret
    exact ⟨rfl, Q3.out⟩
  have g1 : decide (sz t ≤ 200) = true := decide_eq_true h1
  rw [g1]
  have HF1 := Lib.hid (few_cnt h1)
  clear g1 h1
  go_wp2_with fail
  refine (fright_any t HCT.out.1 a c w2 H2.out.2.lie).mono ?_
  rintro e w3 ⟨rfl, q3⟩
  have H3 := Lib.hid (And.intro (H2.out.1.trans q3) (H2.out.2.keep q3))
  clear q3 x0 x1 x2 x3 x4 x5 x6 x7
  obtain ⟨x0, x1, x2, x3, x4, x5, x6, x7⟩ := (cells8 H3.out.2.cell).1
  cases h3 : rightB t with
  | false =>
    clear h3 x0 x1 x2 x3 x4 x5 x6 x7
    go_wp2_with fail
    refine (awake13 w3).mono ?_
    rintro e w4 ⟨rfl, q4⟩
    have Q4 := Lib.hid (H3.out.1.trans q4)
    clear q4
    go_wp2_with fail
    go_ret
    exact ⟨rfl, Q4.out⟩
  | true =>
    have hR := (rightB_iff HCT.out.2).1 h3
    have hw1 := (plT_cnt _ t (Nat.lt_succ_self _) 12 hR).1
    have hw2 := (wd_bnd t 12 hR).2
    have HW := Lib.hid (fun W (hL : Lie W (fun _ => True) a t.subs) => fwide_any t 12 hR a c W hL)
    obtain ⟨n, hn⟩ : ∃ n, wd t = n := ⟨_, rfl⟩
    have HP2 := Lib.hid (fun W (hL : Lie W (fun _ => True) a t.subs) => cplain_no t HCT.out.2 h3 hn (n - 1) 11 (.inr ⟨rfl, rfl, by omega⟩) a c W hL)
    have HP1 := Lib.hid (show ∃ x er, ((n ≤ 400 ∧ er = 0) ∨ (400 < n ∧ er = 11)) ∧ ∀ W, Lie W (fun _ => True) a t.subs → Calls Try.prog 15 #[nodeV t a c, .int .i64 n] W (GivesE W x er) from by
      by_cases h4 : n ≤ 400
      · exact ⟨plT t, 0, .inl ⟨h4, rfl⟩, fun W hL => cplain_yes t hR (by have := HF1.out; omega) hn n (by omega) rfl a c W hL H3.out.2.le⟩
      · exact ⟨zT, 11, .inr ⟨by omega, rfl⟩, fun W hL => cplain_no t HCT.out.2 h3 hn n 11 (.inr ⟨rfl, rfl, by omega⟩) a c W hL⟩)
    rw [hn] at HW hw1 hw2
    clear hR h3 hn
    obtain ⟨x, er, her, HP⟩ := HP1.out
    have HP := Lib.hid HP
    clear HP1
    go_wp2_with fail
    refine (HW.out w3 H3.out.2.lie).mono ?_
    rintro e w4 ⟨rfl, q4⟩
    have H4 := Lib.hid (And.intro (H3.out.1.trans q4) (H3.out.2.keep q4))
    clear q4 x0 x1 x2 x3 x4 x5 x6 x7
    obtain ⟨x0, x1, x2, x3, x4, x5, x6, x7⟩ := (cells8 H4.out.2.cell).1
    go_wp2_with fail
    refine (HP.out w4 H4.out.2.lie).mono ?_
    rintro e w5 ⟨⟨ka, kc, rfl, -, -⟩, q5⟩
    have qq := q5.alloc (.cells (ncells x ka kc) 27)
    have H5 := Lib.hid (And.intro (H4.out.1.trans qq) (H4.out.2.keep qq))
    clear q5 qq x0 x1 x2 x3 x4 x5 x6 x7
    go_upto_region 5 with fail
    generalize (w5.alloc (.cells (ncells x ka kc) 27)) = W5 at *
    generalize w5.heap.size = n5 at *
    obtain ⟨x0, x1, x2, x3, x4, x5, x6, x7⟩ := (cells8 H5.out.2.cell).1
    go_wp2_with fail
    refine (HP2.out W5 H5.out.2.lie).mono ?_
    rintro e w6 ⟨⟨ja, jc, rfl, -, -⟩, q6⟩
    have qq := q6.alloc (.cells (ncells zT ja jc) 27)
    have H6 := Lib.hid (H5.out.1.trans qq)
    clear q6 qq x0 x1 x2 x3 x4 x5 x6 x7
    go_upto_region 6 with fail
    generalize (w6.alloc (.cells (ncells zT ja jc) 27)) = W6 at *
    generalize w6.heap.size = n6 at *
    rcases her with ⟨h4, rfl⟩ | ⟨h4, rfl⟩
    · have h4' : decide (n ≤ 400) = true := decide_eq_true h4
      go_wp2_with fail
      go_ret
      exact ⟨rfl, H6.out⟩
    · have h4' : decide (n ≤ 400) = false := decide_eq_false (by omega)
      go_wp2_with fail
      go_ret
      exact ⟨rfl, H6.out⟩
end Go.Proofs.Ythcjfgfbeollpaa.P13
/- ExpandBudget: the arguments opened. -/
namespace Go.Proofs.Ythcjfgfbeollpaa.ExpandBudget
open Go.RowKit Go.Proofs.Ythcjfgfbeollpaa.Base Go.Proofs.Ythcjfgfbeollpaa.P08 Go.Proofs.Ythcjfgfbeollpaa.P13
open Go.ChangeShapes Go.WideShapes Go.ChangeAt

set_option maxRecDepth 100000 in
theorem walk {H : Type} {enc : TypeId × Value → H} (v0 : Value) {d0 : DataW H} {p0 : List MemPlace} (W : World)
    (k0 : Value.okWide Try.prog W .any 0 27 v0)
    (h0 : DataW.Trod enc Try.prog W 0 (fun _ => true) true 27 v0 d0 p0)
    (hk : Rows.uptoSmall H [d0] = true) :
    Calls Try.prog 6 #[v0] W fun e w' => e = .returned (.bool true) ∧ Below W.heap.size W w' := by
  have hb := of_decide_eq_true hk
  obtain ⟨t0, a0, c0, rfl, hc0, hL0, hn0, hs0⟩ := node_arg k0 h0
  simp only [Rows.uptoBulkAll] at hb
  exact (law_budget t0 a0 c0 W hL0 hc0 (by omega) hs0).mono fun e w' ⟨he, q⟩ => ⟨he, q.below (Nat.le_refl _) (fun _ _ h => h)⟩
end Go.Proofs.Ythcjfgfbeollpaa.ExpandBudget
/- THE STATEMENT 'ExpandBudget' OF LAYER 13, SECOND FORM: for every input that holds no more values than the given bound the law answers true, and each argument reads as it did. The bound: the given 'uptoSmall'. The walk is in XW13Budget. -/
namespace Go.Proofs.Ythcjfgfbeollpaa.ExpandBudget
open Go.ChangeShapes Go.WideShapes Go.ChangeAt Go.RowKit
set_option linter.unusedVariables false

theorem own : ownKnob Try.prog.godebug = none := by kernel_rfl
theorem laidOut : laidOutB Try.prog = true := by kernel_rfl

set_option maxRecDepth 100000 in
theorem contract (H : Type) (enc : TypeId × Value → H) (W : World) (base : Nat) (args : Array Value) (ds gs : List (DataW H)) (before : List MemPlace)
    (hval0 : ∀ (j : Nat) t v, Try.f6.params[j]? = some t → args[j]? = some v → Value.okWide Try.prog W .any base t v)
    (hW : DataW.Whole enc Try.prog Try.f6.params.toList Rows.expandBudgetSpec.vars false W args.toList ds gs before) (hk : Rows.uptoSmall H (ds ++ gs) = true) :
    Calls Try.prog 6 args W fun e W' => ∃ v, e = .returned v ∧ Rows.expandBudgetSpec.post enc Try.prog Try.f6 false true false false W args v W' := by
  have hval : ∀ (j : Nat) t v, Try.f6.params[j]? = some t → args[j]? = some v → Value.okWide Try.prog W .any base t v := hval0
  have hW' := hW
  obtain ⟨p, q, hA0, hV, rfl, hfz, hnd⟩ := hW
  have hA : DataW.TrodAll enc Try.prog W 0 (fun _ => true) true Try.f6.params.toList args.toList ds p := hA0
  rw [Try.params6] at hA hval
  obtain ⟨v0, vs0, d0, ds0, p0, q0, hargs, rfl, rfl, h0, r0⟩ := trodAll_cons hA
  obtain ⟨rfl, rfl, rfl⟩ := trodAll_nil r0
  obtain rfl : args = #[v0] := by cases args; simp_all
  obtain ⟨rfl, rfl⟩ := trodVars_none hV
  have lt0 : ∀ x ∈ p0, x.block < W.heap.size := by obtain ⟨m, hm⟩ := h0; exact DataW.trod_lt m _ _ _ hm
  have hk1 : Rows.uptoSmall H [d0] = true := hk
  refine (walk v0 W (hval 0 27 v0 rfl rfl) h0 hk1).mono fun e W' ⟨he, bel⟩ => ?_
  subst he
  exact ⟨_, rfl, _, _, _, [], _, [], hW', trodAll_mk1 (shut_bool Try.underlying4 _), (trodAll_cons_mk (Below.trod laidOut (by kernel_rfl) (of_decide_eq_true (by kernel_rfl)) h0 bel lt0) trodAll_mk0), rfl, bel.frame _, fun h => by cases h⟩

set_option maxRecDepth 100000 in
theorem lifted (os : Os) (started : os.Started) (H : Type) (enc : TypeId × Value → H) (F : Stop.Interp) :
    ReturnsInHanded {} Try.checked os 6 .any ((Rows.OpenSpec.upto Rows.expandBudgetSpec).pre6 enc Try.prog Try.f6 Rows.expandBudgetUptoRow.domain false) (((Rows.OpenSpec.upto Rows.expandBudgetSpec).at F).post enc Try.prog Try.f6 false true false false) := by
  refine returnsInHanded_of_cond (C := Try.checked) (s := Rows.OpenSpec.upto Rows.expandBudgetSpec) (k := Rows.uptoSmall) rfl own started (by kernel_rfl) Try.func6
    (OpenSpec.witness (enc := enc) (C := Try.checked) (s := Rows.OpenSpec.upto Rows.expandBudgetSpec) (k := Rows.uptoSmall) rfl false ⟨#[], #[.agg #[.int .i64 0, .int .u64 0, .int .u64 0, .int .u64 0, .int .u64 0, .int .i64 0, .int .i64 0, .slice none 0 0]], []⟩ 8 (by kernel_rfl) (by kernel_rfl) (by kernel_rfl)
      (x := ([.agg [.lit (.int .i64 0), .agg [.lit (.int .u64 0), .lit (.int .u64 0), .lit (.int .u64 0), .lit (.int .u64 0)], .lit (.int .i64 0), .lit (.int .i64 0), .nil]], [], [])) (by kernel_rfl) rfl (by kernel_rfl)) ?_
  intro W base args ds gs before hval hW _ hk _
  exact contract H enc W base args ds gs before hval hW hk

theorem over : Rows.expandBudgetUptoRow.holds Try.pinned (Rows.OpenSpec.upto Rows.expandBudgetSpec) :=
  OpenClaim.holds_of_cond 6 Try.f6 rfl rfl rfl rfl rfl rfl rfl ⟨rfl, rfl, rfl, rfl, rfl⟩ rfl rfl rfl rfl rfl (by kernel_rfl) Try.func6 (by kernel_rfl)
    (of_decide_eq_true (by kernel_rfl)) (by unfold Func.isWrapper; first | (rw [if_pos (by decide +kernel)]; kernel_rfl) | (rw [if_neg (by decide +kernel)]; exact ⟨rfl, rfl⟩))
    (fun os started H enc _ F => lifted os started H enc F)

theorem proved : Rows.ExpandBudgetUptoSaid := over
#print axioms proved
end Go.Proofs.Ythcjfgfbeollpaa.ExpandBudget
