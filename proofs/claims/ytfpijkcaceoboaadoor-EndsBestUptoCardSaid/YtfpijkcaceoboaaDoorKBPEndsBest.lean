/- Layer 11: EndsBest. -/
import Derived.Test.YtfpijkcaceoboaaDoorKB53
import Derived.Test.YtfpijkcaceoboaaDoorKB32
import Derived.Test.YtfpijkcaceoboaaDoorKB41
import Derived.Test.YtfpijkcaceoboaaDoorKB23
import Derived.Test.YtfpijkcaceoboaaDoorKB48
import Derived.Test.YtfpijkcaceoboaaDoorKB09
import Derived.Test.YtfpijkcaceoboaaDoorKB50
import Derived.Test.YtfpijkcaceoboaaDoorRows
import Derived.Test.YtfpijkcaceoboaaDoorCards
import Derived.Test.YtfpijkcaceoboaaDoorTie
import Derived.Test.YtfpijkcaceoboaaDoorKB24
import Derived.SevenTiedAt
import Derived.JoinedCond
import Derived.Deep.DeepHandedRow
import Derived.Deep.DeepWitnessRowRef
namespace Go.Proofs.YtfpijkcaceoboaaDoor.P11
open Go.RowKit Go.Proofs.YtfpijkcaceoboaaDoor.Base Go.Proofs.YtfpijkcaceoboaaDoor.Bytes Go.Proofs.YtfpijkcaceoboaaDoor.P07 Go.Proofs.YtfpijkcaceoboaaDoor.P08 Go.Proofs.YtfpijkcaceoboaaDoor.P09 Go.Proofs.YtfpijkcaceoboaaDoor.P10 Go.Proofs.YtfpijkcaceoboaaDoor.IL
open Go.Proofs.YtfpijkcaceoboaaDoor.Sets (ST)

set_option maxRecDepth 100000 in
set_option maxHeartbeats 8000000 in
theorem law_best (L : List RU) (al : Option Addr) (cl : Nat) (w : World) (hS : RS w (fun _ => True) al L) (hTab : Tab w) (hl : L.length ≤ 9223372036854775807) (hb : ∀ x ∈ L, SOk x.re ∧ cnt x.re ≤ 1000000000) (s mo : List UInt8) (hlen : s.length + mo.length ≤ 1000000000) (f : Int) :
    Calls Tryd.prog 6 #[.slice al L.length cl, .string ⟨s.toArray⟩, .string ⟨mo.toArray⟩, .int .i64 f] w fun e w' => e = .returned (.bool true) ∧ Keep (fun _ => False) w w' := by
  have HTab := Lib.hid hTab
  clear hTab
  have hsz := P07.size_str s
  have hsm := P07.size_str mo
  have hcat := Bytes.str_append s mo
  have hsc := P07.size_str (s ++ mo)
  obtain ⟨C, hC⟩ : ∃ C : ByteArray, (⟨(s ++ mo).toArray⟩ : ByteArray) = C := ⟨_, rfl⟩
  rw [hC] at hcat hsc
  rw [List.length_append] at hsc
  have H0 := Lib.hid (And.intro hS hb)
  have HC := Lib.hid hC
  clear hS hb hC
  go_enter Tryd.func6, Tryd.ntmps6
  go_wp2_with fail
  refine (awake11 _ (HTab.out.keep (Keep.refl _ _))).mono ?_
  rintro e w1 ⟨rfl, q1⟩
  have Q1 := Lib.hid q1
  clear q1
  go_wp2_with fail
  refine (ffew_any L al cl hl (fun x hx => (H0.out.2 x hx).2) w1 (H0.out.1.keepF Q1.out)).mono ?_
  rintro e w2 ⟨rfl, q2⟩
  have Q2 := Lib.hid (Q1.out.trans q2)
  clear q2
  cases hf : fewR L with
  | false =>
    go_wp2_with fail
    refine (awake11 _ (HTab.out.keep Q2.out)).mono ?_
    rintro e w9 ⟨rfl, q9⟩
    have Q9 := Lib.hid (Q2.out.trans q9)
    clear q9
    go_wp2_with fail
    go_ret
    exact ⟨rfl, Q9.out⟩
  | true =>
    by_cases h40 : s.length + mo.length ≤ 40
    case neg =>
      have h40' : (40 : Int) < (s.length : Int) + mo.length := by omega
      go_wp2_with fail
      refine (awake11 _ (HTab.out.keep Q2.out)).mono ?_
      rintro e w9 ⟨rfl, q9⟩
      have Q9 := Lib.hid (Q2.out.trans q9)
      clear q9
      go_wp2_with fail
      go_ret
      exact ⟨rfl, Q9.out⟩
    have h40' : ¬ (40 : Int) < (s.length : Int) + mo.length := by omega
    have hsml : ∀ x ∈ L, SOk x.re ∧ cnt x.re ≤ 1000000 := fun x hx => by
      unfold fewR at hf
      rw [Bool.and_eq_true, List.all_eq_true] at hf
      have h1 := hf.1 x hx
      unfold fewU at h1
      rw [Bool.and_eq_true, decide_eq_true_iff] at h1
      have := few_cnt h1.1
      exact ⟨(H0.out.2 x hx).1, by omega⟩
    have hl20 : L.length ≤ 1000 := by
      unfold fewR at hf
      rw [Bool.and_eq_true, decide_eq_true_iff] at hf
      omega
    have k1 := fun w' (q : Keep (fun _ => False) w2 w') => cbest_any L al cl hl20 hsml s (by omega) f w' (H0.out.1.keepF (Q2.out.trans q)) (HTab.out.keep (Q2.out.trans q))
    have k2 := fun w' (q : Keep (fun _ => False) w2 w') => fbest_any L al cl hl20 hsml s (by omega) f w' (H0.out.1.keepF (Q2.out.trans q))
    have k3 := fun w' (q : Keep (fun _ => False) w2 w') => cbest_any L al cl hl20 hsml (s ++ mo) (by rw [List.length_append]; omega) f w' (H0.out.1.keepF (Q2.out.trans q)) (HTab.out.keep (Q2.out.trans q))
    have hfar := bestI_longer s mo f L (fun x hx => (H0.out.2 x hx).1)
    rw [HC.out] at k3
    have HF := Lib.hid (fun (x : RU) hx (a : Option Addr) (c : Nat) w' (hL : Lie w' (fun _ => True) a x.re.subs) => few11_any x.re (H0.out.2 x hx).1 (H0.out.2 x hx).2 s a c w' hL)
    generalize (bestI s f L).1 = X1 at *
    generalize (bestI s f L).2 = X2 at *
    generalize (bestI (s ++ mo) f L).1 = Y1 at *
    generalize (bestI (s ++ mo) f L).2 = Y2 at *
    have HK := Lib.hid (And.intro k1 (And.intro k2 k3))
    have HY := Lib.hid hfar
    clear k1 k2 k3 hfar hsml hl20 hf
    go_wp2_with fail
    go_loopg [38] L.length (fun gg i wr => ∃ k : Nat, i = .int .i64 k ∧ k + gg = L.length ∧ Keep (fun _ => False) w2 wr)
    case atStart => exact ⟨0, rfl, by omega, Keep.refl _ _⟩
    case round =>
      obtain ⟨k, rfl, hk, hq⟩ := hrel
      by_cases hlt : k < L.length
      · have hlt' : (k : Int) < L.length := by omega
        have i0 : (0 : Int) ≤ k := by omega
        obtain ⟨x, hx⟩ : ∃ x, L[k]? = some x := ⟨L[k], List.getElem?_eq_getElem hlt⟩
        have hSw := H0.out.1.keepF (Q2.out.trans hq)
        obtain ⟨bl, off, a1, e1, rfl, hbl, -, hle, L1, C1⟩ := hSw.get hx
        obtain ⟨c0, c1, c2, c3, c4, c5, c6, c7, c8⟩ := rnine C1
        have qa := (Keep.refl (fun _ => False) wr).alloc (.cells (rcells x a1 e1) 44)
        have ha := At.new wr (rcells x a1 e1) 44
        have HB := Lib.hid (And.intro (hq.trans qa) (And.intro (L1.keepF qa) (And.intro (List.mem_of_getElem? hx) ha)))
        clear hSw hbl hle L1 C1 qa ha hx hq
        go_upto_region 6 with fail
        change Code.wp _ _ _ _ (wr.alloc (.cells (rcells x a1 e1) 44))
        generalize (wr.alloc (.cells (rcells x a1 e1) 44)) = W1 at *
        generalize wr.heap.size = nb at *
        clear c0 c1 c2 c3 c4 c5 c6 c7 c8
        have c0 := HB.out.2.2.2.cell (o := 0) rfl
        have c1 := HB.out.2.2.2.cell (o := 1) rfl
        have c2 := HB.out.2.2.2.cell (o := 2) rfl
        have c3 := HB.out.2.2.2.cell (o := 3) rfl
        have c4 := HB.out.2.2.2.cell (o := 4) rfl
        have c5 := HB.out.2.2.2.cell (o := 5) rfl
        have c6 := HB.out.2.2.2.cell (o := 6) rfl
        have c7 := HB.out.2.2.2.cell (o := 7) rfl
        have c8 := HB.out.2.2.2.cell (o := 8) rfl
        go_wp2_with fail
        refine (HF.out x HB.out.2.2.1 a1 e1 W1 HB.out.2.1).mono ?_
        rintro e w3 ⟨rfl, q3⟩
        have Q3 := Lib.hid (HB.out.1.trans q3)
        clear q3 c0 c1 c2 c3 c4 c5 c6 c7 c8
        cases fewL s x.re with
        | false =>
          go_wp2_with fail
          go_ret
          exact ⟨rfl, Q2.out.trans Q3.out⟩
        | true =>
          go_wp2_with fail
          go_roundg (L.length - (k + 1))
          case measure => omega
          case rel => exact ⟨k + 1, by go_num, by omega, Q3.out⟩
      · have hke : k = L.length := by omega
        subst hke
        have HQ := Lib.hid hq
        clear hq
        go_wp2_with fail
        refine (HK.out.1 wr HQ.out).mono ?_
        rintro e w4 ⟨rfl, q4⟩
        have Q4 := Lib.hid (HQ.out.trans q4)
        clear q4
        go_wp2_with fail
        refine (HK.out.2.1 w4 Q4.out).mono ?_
        rintro e w5 ⟨rfl, q5⟩
        have Q5 := Lib.hid (Q4.out.trans q5)
        clear q5
        go_wp2_with fail
        refine (HK.out.2.2 w5 Q5.out).mono ?_
        rintro e w6 ⟨rfl, q6⟩
        have Q6 := Lib.hid (Q5.out.trans q6)
        clear q6
        have hc : f < 0 ∨ (0 ≤ f ∧ (s.length : Int) < f) ∨ (0 ≤ f ∧ ¬ (s.length : Int) < f ∧ X2 ≤ Y2) := by
          by_cases h : 0 ≤ f ∧ f ≤ s.length
          · exact .inr (.inr ⟨h.1, by omega, HY.out h⟩)
          · omega
        rcases hc with h | ⟨h0, h⟩ | ⟨h0, h, h9⟩
        all_goals
          go_wp2_with fail
          go_ret
          exact ⟨by simp_all, Q2.out.trans Q6.out⟩
end Go.Proofs.YtfpijkcaceoboaaDoor.P11
/- EndsBest: the arguments opened. -/
namespace Go.Proofs.YtfpijkcaceoboaaDoor.EndsBest
open Go.RowKit Go.Proofs.YtfpijkcaceoboaaDoor.Base Go.Proofs.YtfpijkcaceoboaaDoor.P08 Go.Proofs.YtfpijkcaceoboaaDoor.P11
open Go.ChangeShapes Go.WideShapes Go.ChangeAt
open Go.Proofs.YtfpijkcaceoboaaDoor.Bytes (Tab)

set_option maxRecDepth 100000 in
theorem walk {H : Type} {enc : TypeId × Value → H} (v0 v1 v2 v3 : Value) {d0 d1 d2 d3 : DataW H} {p0 p1 p2 p3 : List MemPlace} (W : World) (hT : Tab W)
    (k0 : Value.okWide Tryd.prog W .any 0 41 v0) (k1 : Value.okWide Tryd.prog W .any 0 9 v1) (k2 : Value.okWide Tryd.prog W .any 0 9 v2) (k3 : Value.okWide Tryd.prog W .any 0 3 v3)
    (h0 : DataW.Trod enc Tryd.prog W 0 (fun _ => true) true 41 v0 d0 p0) (h1 : DataW.Trod enc Tryd.prog W 0 (fun _ => true) true 9 v1 d1 p1) (h2 : DataW.Trod enc Tryd.prog W 0 (fun _ => true) true 9 v2 d2 p2) (h3 : DataW.Trod enc Tryd.prog W 0 (fun _ => true) true 3 v3 d3 p3)
    (hk : Rows.uptoSmall H [d0, d1, d2, d3] = true) :
    Calls Tryd.prog 6 #[v0, v1, v2, v3] W fun e w' => e = .returned (.bool true) ∧ Below W.heap.size W w' := by
  have hb := of_decide_eq_true hk
  obtain ⟨L0, a0, c0, rfl, hR0, hl0, hm0⟩ := rows_arg k0 h0
  obtain ⟨l1, rfl, rfl, -⟩ := str_arg11 k1 h1
  obtain ⟨l2, rfl, rfl, -⟩ := str_arg11 k2 h2
  obtain ⟨f3, rfl, -, -⟩ := int_arg Tryd.underlying3 k3 h3
  simp only [Rows.uptoBulkAll, Rows.uptoBulk] at hb
  exact (law_best L0 a0 c0 W hR0 hT hl0 (fun x hx => ⟨(hm0 x hx).1, by have := (hm0 x hx).2; omega⟩) l1 l2 (by omega) f3).mono fun e w' ⟨he, q⟩ => ⟨he, q.below (Nat.le_refl _) (fun _ _ h => h)⟩
end Go.Proofs.YtfpijkcaceoboaaDoor.EndsBest
/- THE STATEMENT 'EndsBest' OF LAYER 11, SECOND FORM: for every input that holds no more values than the given bound (uptoSmall) the law answers true, and each argument reads as it did. Condition: the library's table math/bits.deBruijn64tab reads as the program's text lays them (the card ties them). The walk is in XW11Best. -/
namespace Go.Proofs.YtfpijkcaceoboaaDoor.EndsBest
open Go.ChangeShapes Go.WideShapes Go.ChangeAt Go.RowKit Go.Proofs.YtfpijkcaceoboaaDoor.Tied
set_option linter.unusedVariables false

theorem own : ownKnob Tryd.prog.godebug = none := by kernel_rfl
theorem laidOut : laidOutB Tryd.prog = true := by kernel_rfl

set_option maxRecDepth 100000 in
theorem contract (H : Type) (enc : TypeId × Value → H) (W : World) (base : Nat) (args : Array Value) (ds gs : List (DataW H)) (before : List MemPlace)
    (hval0 : ∀ (j : Nat) t v, Tryd.f6.params[j]? = some t → args[j]? = some v → Value.okWide Tryd.prog W .any base t v)
    (hW : DataW.Whole enc Tryd.prog Tryd.f6.params.toList Rows.endsBestSpec.vars false W args.toList ds gs before) (hL : laidMetH Tryd.prog laid W) (hk : Rows.uptoSmall H (ds ++ gs) = true) :
    Calls Tryd.prog 6 args W fun e W' => ∃ v, e = .returned v ∧ Rows.endsBestSpec.post enc Tryd.prog Tryd.f6 false true false false W args v W' := by
  have hval : ∀ (j : Nat) t v, Tryd.f6.params[j]? = some t → args[j]? = some v → Value.okWide Tryd.prog W .any base t v := hval0
  have hW' := hW
  have hT := of_laid hL
  obtain ⟨p, q, hA0, hV, rfl, hfz, hnd⟩ := hW
  have hA : DataW.TrodAll enc Tryd.prog W 0 (fun _ => true) true Tryd.f6.params.toList args.toList ds p := hA0
  rw [Tryd.params6] at hA hval
  obtain ⟨v0, vs0, d0, ds0, p0, q0, hargs, rfl, rfl, h0, r0⟩ := trodAll_cons hA
  obtain ⟨v1, vs1, d1, ds1, p1, q1, rfl, rfl, rfl, h1, r1⟩ := trodAll_cons r0
  obtain ⟨v2, vs2, d2, ds2, p2, q2, rfl, rfl, rfl, h2, r2⟩ := trodAll_cons r1
  obtain ⟨v3, vs3, d3, ds3, p3, q3, rfl, rfl, rfl, h3, r3⟩ := trodAll_cons r2
  obtain ⟨rfl, rfl, rfl⟩ := trodAll_nil r3
  obtain rfl : args = #[v0, v1, v2, v3] := by cases args; simp_all
  obtain ⟨rfl, rfl⟩ := trodVars_none hV
  have lt0 : ∀ x ∈ p0, x.block < W.heap.size := by obtain ⟨m, hm⟩ := h0; exact DataW.trod_lt m _ _ _ hm
  have lt1 : ∀ x ∈ p1, x.block < W.heap.size := by obtain ⟨m, hm⟩ := h1; exact DataW.trod_lt m _ _ _ hm
  have lt2 : ∀ x ∈ p2, x.block < W.heap.size := by obtain ⟨m, hm⟩ := h2; exact DataW.trod_lt m _ _ _ hm
  have lt3 : ∀ x ∈ p3, x.block < W.heap.size := by obtain ⟨m, hm⟩ := h3; exact DataW.trod_lt m _ _ _ hm
  have hk1 : Rows.uptoSmall H [d0, d1, d2, d3] = true := hk
  refine (walk v0 v1 v2 v3 W hT (hval 0 41 v0 rfl rfl) (hval 1 9 v1 rfl rfl) (hval 2 9 v2 rfl rfl) (hval 3 3 v3 rfl rfl) h0 h1 h2 h3 hk1).mono fun e W' ⟨he, bel⟩ => ?_
  subst he
  exact ⟨_, rfl, _, _, _, [], _, [], hW', trodAll_mk1 (shut_bool Tryd.underlying4 _), (trodAll_cons_mk (Below.trod laidOut (by kernel_rfl) (of_decide_eq_true (by kernel_rfl)) h0 bel lt0) (trodAll_cons_mk (Below.trod laidOut (by kernel_rfl) (of_decide_eq_true (by kernel_rfl)) h1 bel lt1) (trodAll_cons_mk (Below.trod laidOut (by kernel_rfl) (of_decide_eq_true (by kernel_rfl)) h2 bel lt2) (trodAll_cons_mk (Below.trod laidOut (by kernel_rfl) (of_decide_eq_true (by kernel_rfl)) h3 bel lt3) trodAll_mk0)))), rfl, bel.frame _, fun h => by cases h⟩

theorem reads (os : Os) {H : Type} (enc : TypeId × Value → H) : ∃ places, DataW.whole enc Tryd.prog ((World.doorLaid Tryd.prog 400 os).forCall (fun _ _ => 0) ⟨#[], #[.slice none 0 0, .string ⟨#[]⟩, .string ⟨#[]⟩, .int .i64 0], []⟩).memory Tryd.f6.params.toList Rows.endsBestSpec.vars false (#[.slice none 0 0, .string ⟨#[]⟩, .string ⟨#[]⟩, .int .i64 0] : Array Value).toList 8 = some ([.nil, .lit (.string []), .lit (.string []), .lit (.int .i64 0)], [], places) :=
  ⟨[], by kernel_rfl⟩

set_option maxRecDepth 100000 in
theorem lifted (os : Os) (started : os.Started) (H : Type) (enc : TypeId × Value → H) (F : Stop.Interp) :
    ReturnsInHanded {} Tryd.checked os 6 .any ((Rows.OpenSpec.upto Rows.endsBestSpec).preRow enc Tryd.prog Tryd.f6 Rows.endsBestUptoRow.domain false Rows.endsBestUptoRow.laid) (((Rows.OpenSpec.upto Rows.endsBestSpec).at F).post enc Tryd.prog Tryd.f6 false true false false) := by
  obtain ⟨places, hx⟩ := reads os enc
  refine returnsInHanded_of_row (C := Tryd.checked) (s := (Rows.OpenSpec.upto Rows.endsBestSpec)) own started (by kernel_rfl) Tryd.func6
    (witness_row_atRef (enc := enc) (C := Tryd.checked) false (World.doorLaid Tryd.prog 400 os) #[.slice none 0 0, .string ⟨#[]⟩, .string ⟨#[]⟩, .int .i64 0] rfl (by kernel_rfl) (by kernel_rfl) (by kernel_rfl)
      (OpenSpec.preRow_of_cond 8 hx (by kernel_rfl) (fun k hk => by cases hk; kernel_rfl) (by kernel_rfl) (laid_met os _))) ?_
  intro W base args ds gs before hval hW _ hcond _ hL _ _
  exact contract H enc W base args ds gs before hval hW hL (hcond _ rfl)

theorem over : Rows.endsBestUptoRow.holds Tryd.pinned (Rows.OpenSpec.upto Rows.endsBestSpec) :=
  OpenClaim.holds_of_cond 6 Tryd.f6 rfl rfl rfl rfl rfl rfl rfl ⟨rfl, rfl, rfl, rfl, rfl⟩ rfl rfl rfl rfl rfl (by kernel_rfl) Tryd.func6 (by kernel_rfl)
    (of_decide_eq_true (by kernel_rfl)) (by unfold Func.isWrapper; first | (rw [if_pos (by decide +kernel)]; kernel_rfl) | (rw [if_neg (by decide +kernel)]; exact ⟨rfl, rfl⟩))
    (fun os started H enc _ F => by rw [OpenClaim.pre_eq_preRow]; exact lifted os started H enc F)

/-- No parameter wants a stand-in; the program's own looks are off. -/
theorem bare (f : FuncId) (fn : Func) (hf : Tryd.pinned.checked.prog.funcNamed "sieve/sievelaw11.EndsBest" = some f) (hfn : Tryd.pinned.checked.prog.funcs[f]? = some fn) :
    true = Tryd.pinned.checked.prog.looks [] ∧ ∀ (j : Nat) t, fn.params[j]? = some t → Tryd.pinned.checked.prog.wantsStandIn t = false := by
  obtain rfl : f = 6 := Option.some.inj ((show Tryd.prog.funcNamed "sieve/sievelaw11.EndsBest" = some 6 by kernel_rfl).symm.trans hf) |>.symm
  obtain rfl : fn = Tryd.f6 := (Option.some.inj (Tryd.func6.symm.trans hfn)).symm
  refine ⟨by kernel_rfl, fun j t ht => ?_⟩
  rw [Tryd.params6] at ht
  have hm : t ∈ [41, 9, 9, 3] := by simpa using Array.mem_of_getElem? ht
  have hall : ([41, 9, 9, 3].all fun u => !Tryd.prog.wantsStandIn u) = true := by kernel_rfl
  exact (show Tryd.prog.wantsStandIn t = false by simpa using List.all_eq_true.1 hall t hm)

theorem proved : Rows.EndsBestUptoCardSaid :=
  Claim7.holds_tied_plain_at .later [] _ _ _ _ over (fun _ h => by cases h) (by kernel_rfl) (fun _ h => by cases h) endsBestUpto_row_tie rfl ⟨rfl, rfl⟩ (by kernel_rfl) rfl bare (by kernel_rfl)
#print axioms proved
end Go.Proofs.YtfpijkcaceoboaaDoor.EndsBest
