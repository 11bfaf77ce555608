/- Layer 11: EndsMatch. -/
import Derived.Test.YtfpijkcaceoboaaDoorKK53
import Derived.Test.YtfpijkcaceoboaaDoorKK27
import Derived.Deep.RegionHeld3
import Derived.Test.YtfpijkcaceoboaaDoorKK47
import Derived.Test.YtfpijkcaceoboaaDoorKK09
import Derived.Test.YtfpijkcaceoboaaDoorRows
import Derived.Test.YtfpijkcaceoboaaDoorCards
import Derived.Test.YtfpijkcaceoboaaDoorTie
import Derived.Test.YtfpijkcaceoboaaDoorKK23
import Derived.SevenTiedAt
import Derived.JoinedCond
import Derived.Deep.DeepHandedRow
import Derived.Deep.DeepWitnessRowRef
namespace Go.Proofs.YtfpijkcaceoboaaDoor.P11
open Go.RowKit Go.Proofs.YtfpijkcaceoboaaDoor.Base Go.Proofs.YtfpijkcaceoboaaDoor.Bytes Go.Proofs.YtfpijkcaceoboaaDoor.P07 Go.Proofs.YtfpijkcaceoboaaDoor.P08 Go.Proofs.YtfpijkcaceoboaaDoor.P09 Go.Proofs.YtfpijkcaceoboaaDoor.P10 Go.Proofs.YtfpijkcaceoboaaDoor.IL
open Go.Proofs.YtfpijkcaceoboaaDoor.Sets (ST)

set_option maxRecDepth 100000 in
set_option maxHeartbeats 8000000 in
theorem law_match (t : T) (a : Option Addr) (c : Nat) (w : World) (hta : Lie w (fun _ => True) a t.subs) (hcl : t.subs.length ≤ c) (ht : cnt t ≤ 1000000000) (hst : SOk t) (hTab : Tab w) (s : List UInt8) :
    Calls Tryd.prog 4 #[nodeV t a c, .string ⟨s.toArray⟩] w fun e w' => e = .returned (.bool true) ∧ Keep (fun _ => False) w w' := by
  have HTab := Lib.hid hTab
  clear hTab
  have H0 := Lib.hid (Bx.new (c := c) hta)
  have QA := Lib.hid ((Keep.refl (fun _ => False) w).alloc (.cells (ncells t a c) 27))
  have hsz := P07.size_str s
  have HH := Lib.hid (And.intro hcl (And.intro hst ht))
  clear hta hcl hst ht
  go_enter Tryd.func4, Tryd.ntmps4
  go_upto_region 1 with fail
  generalize (w.alloc (.cells (ncells t a c) 27)) = W at *
  go_wp2_with fail
  refine (awake11 _ (HTab.out.keep QA.out)).mono ?_
  rintro e w1 ⟨rfl, q1⟩
  have B1 := Lib.hid (H0.out.keep q1)
  have Q1 := Lib.hid (QA.out.trans q1)
  clear q1
  obtain ⟨d0, d1, d2, d3, d4, d5, d6, d7⟩ := B1.out.eight
  go_wp2_with fail
  refine (few11_any t HH.out.2.1 HH.out.2.2 s a c w1 B1.out.lie).mono ?_
  rintro e w2 ⟨rfl, q2⟩
  have B2 := Lib.hid (B1.out.keep q2)
  have Q2 := Lib.hid (Q1.out.trans q2)
  clear q2 d0 d1 d2 d3 d4 d5 d6 d7
  obtain ⟨d0, d1, d2, d3, d4, d5, d6, d7⟩ := B2.out.eight
  cases hf : fewL s t with
  | false =>
    clear d0 d1 d2 d3 d4 d5 d6 d7
    go_wp2_with fail
    refine (awake11 _ (HTab.out.keep Q2.out)).mono ?_
    rintro e w9 ⟨rfl, q9⟩
    have Q9 := Lib.hid (Q2.out.trans q9)
    clear q9
    go_wp2_with fail
    go_ret
    exact ⟨rfl, Q9.out⟩
  | true =>
    unfold fewL at hf
    simp only [Bool.and_eq_true, decide_eq_true_eq] at hf
    have hs40 := hf.2.1
    have HCS := Lib.hid (show cnt t ≤ 1000000 by have := few_cnt hf.1; omega)
    have HF := Lib.hid hf
    clear hf
    by_cases h6 : s.length ≤ 6
    case neg =>
      have h6' : (6 : Int) < s.length := by omega
      clear d0 d1 d2 d3 d4 d5 d6 d7
      go_wp2_with fail
      refine (awake11 _ (HTab.out.keep Q2.out)).mono ?_
      rintro e w9 ⟨rfl, q9⟩
      have Q9 := Lib.hid (Q2.out.trans q9)
      clear q9
      go_wp2_with fail
      go_ret
      exact ⟨rfl, Q9.out⟩
    have h6' : ¬ (6 : Int) < s.length := by omega
    clear h6
    go_wp2_with fail
    refine (fright_any t HH.out.2.2 a c w2 B2.out.lie).mono ?_
    rintro e w3 ⟨rfl, q3⟩
    have B3 := Lib.hid (B2.out.keep q3)
    have Q3 := Lib.hid (Q2.out.trans q3)
    clear q3 d0 d1 d2 d3 d4 d5 d6 d7
    obtain ⟨d0, d1, d2, d3, d4, d5, d6, d7⟩ := B3.out.eight
    cases hr : rightB t with
    | false =>
      clear d0 d1 d2 d3 d4 d5 d6 d7
      go_wp2_with fail
      refine (awake11 _ (HTab.out.keep Q3.out)).mono ?_
      rintro e w9 ⟨rfl, q9⟩
      have Q9 := Lib.hid (Q3.out.trans q9)
      clear q9
      go_wp2_with fail
      go_ret
      exact ⟨rfl, Q9.out⟩
    | true =>
      have hR := (rightB_iff HH.out.2.1).1 hr
      have hw := fwide_any t 12 hR a c w3 B3.out.lie
      have hm := fun W (q : Keep (fun _ => False) w W) L => cmatch_any t HH.out.2.1 s (by omega) a c W L (HTab.out.keep q) HCS.out
      have hi := fun W L => fis_any t 12 hR s (by omega) a c W HH.out.1 L
      unfold matchA at hm
      unfold IsSays at hi
      rw [hr, Bool.true_and] at hm
      generalize pb (P10.Mat t s) = P at *
      generalize wd t = V at *
      have HC := Lib.hid (And.intro hw (And.intro hm hi))
      clear hw hm hi hR hr
      go_wp2_with fail
      refine HC.out.1.mono ?_
      rintro e w4 ⟨rfl, q4⟩
      have B4 := Lib.hid (B3.out.keep q4)
      have Q4 := Lib.hid (Q3.out.trans q4)
      clear q4 d0 d1 d2 d3 d4 d5 d6 d7
      obtain ⟨d0, d1, d2, d3, d4, d5, d6, d7⟩ := B4.out.eight
      by_cases hv : V ≤ 60
      case neg =>
        have hv' : 60 < V := by omega
        clear d0 d1 d2 d3 d4 d5 d6 d7
        go_wp2_with fail
        refine (awake11 _ (HTab.out.keep Q4.out)).mono ?_
        rintro e w9 ⟨rfl, q9⟩
        have Q9 := Lib.hid (Q4.out.trans q9)
        clear q9
        go_wp2_with fail
        go_ret
        exact ⟨rfl, Q9.out⟩
      have hv' : ¬ 60 < V := by omega
      clear hv
      have HS := Lib.hid (fun w' (q : Keep (fun _ => False) w4 w') => And.intro q (B4.out.keep q).eight)
      have HM := Lib.hid (And.intro (fun w' (q : Keep (fun _ => False) w4 w') => HC.out.2.1 w' (Q4.out.trans q) (B4.out.keep q).lie) (fun w' (q : Keep (fun _ => False) w4 w') => HC.out.2.2 w' (B4.out.keep q).lie))
      go_wp2_with fail
      go_region_held3 (fun w' => Keep (fun _ => False) w4 w' ∧ w'.cell? ⟨w.heap.size, 0, none⟩ = some (.int .i64 t.kind) ∧ w'.cell? ⟨w.heap.size, 1, none⟩ = some (.int .u64 t.set.x0) ∧ w'.cell? ⟨w.heap.size, 2, none⟩ = some (.int .u64 t.set.x1) ∧ w'.cell? ⟨w.heap.size, 3, none⟩ = some (.int .u64 t.set.x2) ∧ w'.cell? ⟨w.heap.size, 4, none⟩ = some (.int .u64 t.set.x3) ∧ w'.cell? ⟨w.heap.size, 5, none⟩ = some (.int .i64 t.mn) ∧ w'.cell? ⟨w.heap.size, 6, none⟩ = some (.int .i64 t.mx) ∧ w'.cell? ⟨w.heap.size, 7, none⟩ = some (.slice a t.subs.length c)) (first | assumption | exact HS.out _ ((Keep.refl _ _).drew) | exact HS.out _ (Keep.trans (And.left (by assumption)) q)) (first
        | (go_at_call 14; refine (HM.out.1 _ (And.left (by assumption))).mono ?_; rintro e w5 ⟨rfl, q⟩)
        | (go_at_call 20; refine (HM.out.2 _ (And.left (by assumption))).mono ?_; rintro e w5 ⟨rfl, q⟩))
      all_goals
        rename_i hh
        have Q6 := Lib.hid (Q4.out.trans hh.1)
        clear hh d0 d1 d2 d3 d4 d5 d6 d7
        cases P
        all_goals
          go_wp2_with fail
          go_ret
          exact ⟨rfl, Q6.out⟩
end Go.Proofs.YtfpijkcaceoboaaDoor.P11
/- EndsMatch: the arguments opened. -/
namespace Go.Proofs.YtfpijkcaceoboaaDoor.EndsMatch
open Go.RowKit Go.Proofs.YtfpijkcaceoboaaDoor.Base Go.Proofs.YtfpijkcaceoboaaDoor.P08 Go.Proofs.YtfpijkcaceoboaaDoor.P11
open Go.ChangeShapes Go.WideShapes Go.ChangeAt
open Go.Proofs.YtfpijkcaceoboaaDoor.Bytes (Tab)

set_option maxRecDepth 100000 in
theorem walk {H : Type} {enc : TypeId × Value → H} (v0 v1 : Value) {d0 d1 : DataW H} {p0 p1 : List MemPlace} (W : World) (hT : Tab W)
    (k0 : Value.okWide Tryd.prog W .any 0 27 v0) (k1 : Value.okWide Tryd.prog W .any 0 9 v1)
    (h0 : DataW.Trod enc Tryd.prog W 0 (fun _ => true) true 27 v0 d0 p0) (h1 : DataW.Trod enc Tryd.prog W 0 (fun _ => true) true 9 v1 d1 p1)
    (hk : Rows.uptoSmall H [d0, d1] = true) :
    Calls Tryd.prog 4 #[v0, v1] W fun e w' => e = .returned (.bool true) ∧ Below W.heap.size W w' := by
  have hb := of_decide_eq_true hk
  obtain ⟨t0, a0, c0, rfl, hc0, hL0, hn0, hs0⟩ := node_arg k0 h0
  obtain ⟨l1, rfl, rfl, -⟩ := str_arg11 k1 h1
  simp only [Rows.uptoBulkAll, Rows.uptoBulk] at hb
  exact (law_match t0 a0 c0 W hL0 hc0 (by omega) hs0 hT l1).mono fun e w' ⟨he, q⟩ => ⟨he, q.below (Nat.le_refl _) (fun _ _ h => h)⟩
end Go.Proofs.YtfpijkcaceoboaaDoor.EndsMatch
/- THE STATEMENT 'EndsMatch' OF LAYER 11, SECOND FORM: for every input that holds no more values than the given bound (uptoSmall) the law answers true, and each argument reads as it did. Condition: the library's table math/bits.deBruijn64tab reads as the program's text lays them (the card ties them). The walk is in XW11Match. -/
namespace Go.Proofs.YtfpijkcaceoboaaDoor.EndsMatch
open Go.ChangeShapes Go.WideShapes Go.ChangeAt Go.RowKit Go.Proofs.YtfpijkcaceoboaaDoor.Tied
set_option linter.unusedVariables false

theorem own : ownKnob Tryd.prog.godebug = none := by kernel_rfl
theorem laidOut : laidOutB Tryd.prog = true := by kernel_rfl

set_option maxRecDepth 100000 in
theorem contract (H : Type) (enc : TypeId × Value → H) (W : World) (base : Nat) (args : Array Value) (ds gs : List (DataW H)) (before : List MemPlace)
    (hval0 : ∀ (j : Nat) t v, Tryd.f4.params[j]? = some t → args[j]? = some v → Value.okWide Tryd.prog W .any base t v)
    (hW : DataW.Whole enc Tryd.prog Tryd.f4.params.toList Rows.endsMatchSpec.vars false W args.toList ds gs before) (hL : laidMetH Tryd.prog laid W) (hk : Rows.uptoSmall H (ds ++ gs) = true) :
    Calls Tryd.prog 4 args W fun e W' => ∃ v, e = .returned v ∧ Rows.endsMatchSpec.post enc Tryd.prog Tryd.f4 false true false false W args v W' := by
  have hval : ∀ (j : Nat) t v, Tryd.f4.params[j]? = some t → args[j]? = some v → Value.okWide Tryd.prog W .any base t v := hval0
  have hW' := hW
  have hT := of_laid hL
  obtain ⟨p, q, hA0, hV, rfl, hfz, hnd⟩ := hW
  have hA : DataW.TrodAll enc Tryd.prog W 0 (fun _ => true) true Tryd.f4.params.toList args.toList ds p := hA0
  rw [Tryd.params4] at hA hval
  obtain ⟨v0, vs0, d0, ds0, p0, q0, hargs, rfl, rfl, h0, r0⟩ := trodAll_cons hA
  obtain ⟨v1, vs1, d1, ds1, p1, q1, rfl, rfl, rfl, h1, r1⟩ := trodAll_cons r0
  obtain ⟨rfl, rfl, rfl⟩ := trodAll_nil r1
  obtain rfl : args = #[v0, v1] := by cases args; simp_all
  obtain ⟨rfl, rfl⟩ := trodVars_none hV
  have lt0 : ∀ x ∈ p0, x.block < W.heap.size := by obtain ⟨m, hm⟩ := h0; exact DataW.trod_lt m _ _ _ hm
  have lt1 : ∀ x ∈ p1, x.block < W.heap.size := by obtain ⟨m, hm⟩ := h1; exact DataW.trod_lt m _ _ _ hm
  have hk1 : Rows.uptoSmall H [d0, d1] = true := hk
  refine (walk v0 v1 W hT (hval 0 27 v0 rfl rfl) (hval 1 9 v1 rfl rfl) h0 h1 hk1).mono fun e W' ⟨he, bel⟩ => ?_
  subst he
  exact ⟨_, rfl, _, _, _, [], _, [], hW', trodAll_mk1 (shut_bool Tryd.underlying4 _), (trodAll_cons_mk (Below.trod laidOut (by kernel_rfl) (of_decide_eq_true (by kernel_rfl)) h0 bel lt0) (trodAll_cons_mk (Below.trod laidOut (by kernel_rfl) (of_decide_eq_true (by kernel_rfl)) h1 bel lt1) trodAll_mk0)), rfl, bel.frame _, fun h => by cases h⟩

theorem reads (os : Os) {H : Type} (enc : TypeId × Value → H) : ∃ places, DataW.whole enc Tryd.prog ((World.doorLaid Tryd.prog 400 os).forCall (fun _ _ => 0) ⟨#[], #[.agg #[.int .i64 0, .int .u64 0, .int .u64 0, .int .u64 0, .int .u64 0, .int .i64 0, .int .i64 0, .slice none 0 0], .string ⟨#[]⟩], []⟩).memory Tryd.f4.params.toList Rows.endsMatchSpec.vars false (#[.agg #[.int .i64 0, .int .u64 0, .int .u64 0, .int .u64 0, .int .u64 0, .int .i64 0, .int .i64 0, .slice none 0 0], .string ⟨#[]⟩] : Array Value).toList 8 = some ([.agg [.lit (.int .i64 0), .agg [.lit (.int .u64 0), .lit (.int .u64 0), .lit (.int .u64 0), .lit (.int .u64 0)], .lit (.int .i64 0), .lit (.int .i64 0), .nil], .lit (.string [])], [], places) :=
  ⟨[], by kernel_rfl⟩

set_option maxRecDepth 100000 in
theorem lifted (os : Os) (started : os.Started) (H : Type) (enc : TypeId × Value → H) (F : Stop.Interp) :
    ReturnsInHanded {} Tryd.checked os 4 .any ((Rows.OpenSpec.upto Rows.endsMatchSpec).preRow enc Tryd.prog Tryd.f4 Rows.endsMatchUptoRow.domain false Rows.endsMatchUptoRow.laid) (((Rows.OpenSpec.upto Rows.endsMatchSpec).at F).post enc Tryd.prog Tryd.f4 false true false false) := by
  obtain ⟨places, hx⟩ := reads os enc
  refine returnsInHanded_of_row (C := Tryd.checked) (s := (Rows.OpenSpec.upto Rows.endsMatchSpec)) own started (by kernel_rfl) Tryd.func4
    (witness_row_atRef (enc := enc) (C := Tryd.checked) false (World.doorLaid Tryd.prog 400 os) #[.agg #[.int .i64 0, .int .u64 0, .int .u64 0, .int .u64 0, .int .u64 0, .int .i64 0, .int .i64 0, .slice none 0 0], .string ⟨#[]⟩] rfl (by kernel_rfl) (by kernel_rfl) (by kernel_rfl)
      (OpenSpec.preRow_of_cond 8 hx (by kernel_rfl) (fun k hk => by cases hk; kernel_rfl) (by kernel_rfl) (laid_met os _))) ?_
  intro W base args ds gs before hval hW _ hcond _ hL _ _
  exact contract H enc W base args ds gs before hval hW hL (hcond _ rfl)

theorem over : Rows.endsMatchUptoRow.holds Tryd.pinned (Rows.OpenSpec.upto Rows.endsMatchSpec) :=
  OpenClaim.holds_of_cond 4 Tryd.f4 rfl rfl rfl rfl rfl rfl rfl ⟨rfl, rfl, rfl, rfl, rfl⟩ rfl rfl rfl rfl rfl (by kernel_rfl) Tryd.func4 (by kernel_rfl)
    (of_decide_eq_true (by kernel_rfl)) (by unfold Func.isWrapper; first | (rw [if_pos (by decide +kernel)]; kernel_rfl) | (rw [if_neg (by decide +kernel)]; exact ⟨rfl, rfl⟩))
    (fun os started H enc _ F => by rw [OpenClaim.pre_eq_preRow]; exact lifted os started H enc F)

/-- No parameter wants a stand-in; the program's own looks are off. -/
theorem bare (f : FuncId) (fn : Func) (hf : Tryd.pinned.checked.prog.funcNamed "sieve/sievelaw11.EndsMatch" = some f) (hfn : Tryd.pinned.checked.prog.funcs[f]? = some fn) :
    true = Tryd.pinned.checked.prog.looks [] ∧ ∀ (j : Nat) t, fn.params[j]? = some t → Tryd.pinned.checked.prog.wantsStandIn t = false := by
  obtain rfl : f = 4 := Option.some.inj ((show Tryd.prog.funcNamed "sieve/sievelaw11.EndsMatch" = some 4 by kernel_rfl).symm.trans hf) |>.symm
  obtain rfl : fn = Tryd.f4 := (Option.some.inj (Tryd.func4.symm.trans hfn)).symm
  refine ⟨by kernel_rfl, fun j t ht => ?_⟩
  rw [Tryd.params4] at ht
  have hm : t ∈ [27, 9] := by simpa using Array.mem_of_getElem? ht
  have hall : ([27, 9].all fun u => !Tryd.prog.wantsStandIn u) = true := by kernel_rfl
  exact (show Tryd.prog.wantsStandIn t = false by simpa using List.all_eq_true.1 hall t hm)

theorem proved : Rows.EndsMatchUptoCardSaid :=
  Claim7.holds_tied_plain_at .later [] _ _ _ _ over (fun _ h => by cases h) (by kernel_rfl) (fun _ h => by cases h) endsMatchUpto_row_tie rfl ⟨rfl, rfl⟩ (by kernel_rfl) rfl bare (by kernel_rfl)
#print axioms proved
end Go.Proofs.YtfpijkcaceoboaaDoor.EndsMatch
