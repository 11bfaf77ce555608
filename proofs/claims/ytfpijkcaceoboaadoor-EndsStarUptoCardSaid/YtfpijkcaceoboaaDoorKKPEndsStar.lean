/- Layer 11: EndsStar. -/
import Derived.Test.YtfpijkcaceoboaaDoorKK53
import Derived.Test.YtfpijkcaceoboaaDoorKK27
import Derived.Test.YtfpijkcaceoboaaDoorKK52
import Derived.Test.YtfpijkcaceoboaaDoorKK30
import Derived.Test.YtfpijkcaceoboaaDoorKK47
import Derived.Test.YtfpijkcaceoboaaDoorKK09
import Derived.Test.YtfpijkcaceoboaaDoorRows
import Derived.Test.YtfpijkcaceoboaaDoorCards
import Derived.Test.YtfpijkcaceoboaaDoorTie
import Derived.Test.YtfpijkcaceoboaaDoorKK23
import Derived.SevenTiedAt
import Derived.JoinedCond
import Derived.Deep.DeepHandedRow
import Derived.Deep.DeepWitnessRowRef
namespace Go.Proofs.YtfpijkcaceoboaaDoor.P11
open Go.RowKit Go.Proofs.YtfpijkcaceoboaaDoor.Base Go.Proofs.YtfpijkcaceoboaaDoor.Bytes Go.Proofs.YtfpijkcaceoboaaDoor.P07 Go.Proofs.YtfpijkcaceoboaaDoor.P08 Go.Proofs.YtfpijkcaceoboaaDoor.P09 Go.Proofs.YtfpijkcaceoboaaDoor.P10 Go.Proofs.YtfpijkcaceoboaaDoor.IL
open Go.Proofs.YtfpijkcaceoboaaDoor.Sets (ST)

theorem star_sok {t : T} (h : SOk t) : SOk (starT t) := by
  unfold starT
  rw [SOk, SOkL, SOkL]
  exact ⟨ST.none_ok, h, trivial⟩
def tailT (t : T) : T := .nd 3 ST.none 0 0 [t, starT t]
theorem more_eq (t : T) : moreT t = .nd 4 ST.none 0 0 [emptyT, tailT t] := rfl
theorem empty_sok : SOk emptyT := by
  unfold emptyT
  rw [SOk, SOkL]
  exact ⟨ST.none_ok, trivial⟩
theorem tail_sok {t : T} (h : SOk t) : SOk (tailT t) := by
  unfold tailT
  rw [SOk, SOkL, SOkL, SOkL]
  exact ⟨ST.none_ok, h, star_sok h, trivial⟩
theorem more_sok {t : T} (h : SOk t) : SOk (moreT t) := by
  rw [more_eq, SOk, SOkL, SOkL, SOkL]
  exact ⟨ST.none_ok, empty_sok, tail_sok h, trivial⟩
theorem more_cnt (t : T) : cnt (moreT t) = 2 * cnt t + 4 := by
  unfold moreT emptyT starT
  simp only [cnt, cntL]
  omega
set_option maxRecDepth 100000 in
set_option maxHeartbeats 8000000 in
theorem law_star (t : T) (a : Option Addr) (c : Nat) (w : World) (hta : Lie w (fun _ => True) a t.subs) (hcl : t.subs.length ≤ c) (ht : cnt t ≤ 400000000) (hst : SOk t) (hTab : Tab w) (s : List UInt8) :
    Calls Tryd.prog 9 #[nodeV t a c, .string ⟨s.toArray⟩] w fun e w' => e = .returned (.bool true) ∧ Keep (fun _ => False) w w' := by
  have HTab := Lib.hid hTab
  clear hTab
  have QA := Lib.hid ((Keep.refl (fun _ => False) w).alloc (.cells (ncells t a c) 27))
  have H0 := Lib.hid (Bx.new (c := c) hta)
  have hsz := P07.size_str s
  have HH := Lib.hid (And.intro hcl (And.intro hst ht))
  clear hta hcl hst ht
  go_enter Tryd.func9, Tryd.ntmps9
  go_upto_region 1 with fail
  obtain ⟨d0, d1, d2, d3, d4, d5, d6, d7⟩ := H0.out.eight
  generalize (w.alloc (.cells (ncells t a c) 27)) = W at *
  go_upto_region 2 with fail
  change Code.wp _ _ _ _ ((W.alloc (.cells (ncells t a c) 27)).alloc (.cells (ncells (starT t) (some ⟨W.heap.size, 0, none⟩) 1) 27))
  have hs1 : (W.alloc (.cells (ncells t a c) 27)).heap.size = W.heap.size + 1 := by simp
  have q1 := (Keep.refl (fun _ => False) W).alloc (.cells (ncells t a c) 27)
  have l1 : Lie (W.alloc (.cells (ncells t a c) 27)) (fun _ => True) (some ⟨W.heap.size, 0, none⟩) (starT t).subs := lie_one (At.new W _ _) trivial HH.out.1 (H0.out.lie.keepF q1)
  have b1 := Bx.new (c := 1) l1
  rw [hs1] at b1
  have q2 := q1.alloc (.cells (ncells (starT t) (some ⟨W.heap.size, 0, none⟩) 1) 27)
  have I2 := Lib.hid (And.intro (H0.out.keep q2) (And.intro b1 (QA.out.trans q2)))
  clear hs1 q1 l1 b1 q2 d0 d1 d2 d3 d4 d5 d6 d7
  generalize ((W.alloc (.cells (ncells t a c) 27)).alloc (.cells (ncells (starT t) (some ⟨W.heap.size, 0, none⟩) 1) 27)) = W2 at *
  generalize W.heap.size = gS at *
  obtain ⟨d0, d1, d2, d3, d4, d5, d6, d7⟩ := I2.out.1.eight
  obtain ⟨e0, e1, e2, e3, e4, e5, e6, e7⟩ := I2.out.2.1.eight
  go_upto_region 3 with fail
  change Code.wp _ _ _ _ (((W2.alloc (.cells (ncells t a c ++ ncells (starT t) (some ⟨gS, 0, none⟩) 1) 27)).alloc (.cells (ncells emptyT none 0 ++ ncells (tailT t) (some ⟨W2.heap.size, 0, none⟩) 2) 27)).alloc (.cells (ncells (moreT t) (some ⟨W2.heap.size + 1, 0, none⟩) 2) 27))
  have l1 := lie_two (W := W2) (t := t) (u := starT t) (a := a) (b := some ⟨gS, 0, none⟩) (c := c) (d := 1) I2.out.1.lie I2.out.2.1.lie HH.out.1 (Nat.le_refl 1)
  have q1 := (Keep.refl (fun _ => False) W2).alloc (.cells (ncells t a c ++ ncells (starT t) (some ⟨gS, 0, none⟩) 1) 27)
  have z1 : (W2.alloc (.cells (ncells t a c ++ ncells (starT t) (some ⟨gS, 0, none⟩) 1) 27)).heap.size = W2.heap.size + 1 := by simp
  generalize (W2.alloc (.cells (ncells t a c ++ ncells (starT t) (some ⟨gS, 0, none⟩) 1) 27)) = P1 at *
  have l2 := lie_two (W := P1) (t := emptyT) (u := tailT t) (a := none) (b := some ⟨W2.heap.size, 0, none⟩) (c := 0) (d := 2) (.nil _) l1 (Nat.le_refl 0) (Nat.le_refl 2)
  have q2 := q1.alloc (.cells (ncells emptyT none 0 ++ ncells (tailT t) (some ⟨W2.heap.size, 0, none⟩) 2) 27)
  have z2 : (P1.alloc (.cells (ncells emptyT none 0 ++ ncells (tailT t) (some ⟨W2.heap.size, 0, none⟩) 2) 27)).heap.size = W2.heap.size + 1 + 1 := by rw [← z1]; simp
  generalize (P1.alloc (.cells (ncells emptyT none 0 ++ ncells (tailT t) (some ⟨W2.heap.size, 0, none⟩) 2) 27)) = P2 at *
  rw [z1] at l2
  have b3 := Bx.new (W := P2) (t := moreT t) (a := some ⟨W2.heap.size + 1, 0, none⟩) (c := 2) l2
  rw [z2] at b3
  have q3 := q2.alloc (.cells (ncells (moreT t) (some ⟨W2.heap.size + 1, 0, none⟩) 2) 27)
  have I3 := Lib.hid (And.intro (I2.out.2.1.keep q3) (And.intro b3 (I2.out.2.2.trans q3)))
  clear l1 q1 z1 l2 q2 z2 b3 q3 d0 d1 d2 d3 d4 d5 d6 d7 e0 e1 e2 e3 e4 e5 e6 e7
  generalize (P2.alloc (.cells (ncells (moreT t) (some ⟨W2.heap.size + 1, 0, none⟩) 2) 27)) = W3 at *
  generalize W2.heap.size = gM at *
  have HM := Lib.hid (And.intro (more_sok HH.out.2.1) (And.intro (show cnt (moreT t) ≤ 1000000000 by rw [more_cnt]; have := HH.out.2.2; omega) (star_sok HH.out.2.1)))
  have hst0 : ∀ F, F ≤ s.length → RT 12 (moreT t) → endsI s (starT t) F = endsI s (moreT t) F ∧ (endsI s (starT t) F)[0]? = some (F : Int) := fun F hF hR => ends_star (sub_RT (t := tailT t) (i := 1) (sub_RT (t := moreT t) (i := 1) hR rfl) rfl) hR hF
  have HUM := Lib.hid (show cnt (starT t) ≤ cnt (moreT t) by unfold moreT emptyT starT; simp only [cnt, cntL]; omega)
  have hrs0 : RT 12 (moreT t) → RT 12 (starT t) := fun hR => sub_RT (t := tailT t) (i := 1) (sub_RT (t := moreT t) (i := 1) hR rfl) rfl
  have HE := Lib.hid (And.intro hst0 hrs0)
  clear hst0 hrs0
  generalize moreT t = m at *
  generalize starT t = u at *
  go_wp2_with fail
  refine (awake11 _ (HTab.out.keep I3.out.2.2)).mono ?_
  rintro e w4 ⟨rfl, q4⟩
  have I4 := Lib.hid (And.intro (I3.out.1.keep q4) (And.intro (I3.out.2.1.keep q4) (I3.out.2.2.trans q4)))
  clear q4
  obtain ⟨d0, d1, d2, d3, d4, d5, d6, d7⟩ := I4.out.2.1.eight
  go_wp2_with fail
  refine (few11_any m HM.out.1 HM.out.2.1 s _ _ w4 I4.out.2.1.lie).mono ?_
  rintro e w5 ⟨rfl, q5⟩
  have I5 := Lib.hid (And.intro (I4.out.1.keep q5) (And.intro (I4.out.2.1.keep q5) (I4.out.2.2.trans q5)))
  clear q5 d0 d1 d2 d3 d4 d5 d6 d7
  obtain ⟨d0, d1, d2, d3, d4, d5, d6, d7⟩ := I5.out.2.1.eight
  cases hf : fewL s m with
  | false =>
    clear d0 d1 d2 d3 d4 d5 d6 d7
    go_wp2_with fail
    refine (awake11 _ (HTab.out.keep I5.out.2.2)).mono ?_
    rintro e w9 ⟨rfl, q9⟩
    have Q9 := Lib.hid (I5.out.2.2.trans q9)
    clear q9
    go_wp2_with fail
    go_ret
    exact ⟨rfl, Q9.out⟩
  | true =>
    unfold fewL at hf
    simp only [Bool.and_eq_true, decide_eq_true_eq] at hf
    have hs40 := hf.2.1
    have HCS := Lib.hid (show cnt m ≤ 1000000 by have := few_cnt hf.1; omega)
    have HF := Lib.hid hf
    clear hf
    go_wp2_with fail
    refine (fright_any m HM.out.2.1 _ _ w5 I5.out.2.1.lie).mono ?_
    rintro e w6 ⟨rfl, q6⟩
    have I6 := Lib.hid (And.intro (I5.out.1.keep q6) (And.intro (I5.out.2.1.keep q6) (I5.out.2.2.trans q6)))
    clear q6 d0 d1 d2 d3 d4 d5 d6 d7
    obtain ⟨d0, d1, d2, d3, d4, d5, d6, d7⟩ := I6.out.2.1.eight
    cases hr : rightB m with
    | false =>
      clear d0 d1 d2 d3 d4 d5 d6 d7
      go_wp2_with fail
      refine (awake11 _ (HTab.out.keep I6.out.2.2)).mono ?_
      rintro e w9 ⟨rfl, q9⟩
      have Q9 := Lib.hid (I6.out.2.2.trans q9)
      clear q9
      go_wp2_with fail
      go_ret
      exact ⟨rfl, Q9.out⟩
    | true =>
      have hR := (rightB_iff HM.out.1).1 hr
      have hrs := (rightB_iff HM.out.2.2).2 (HE.out.2 hR)
      have HR := Lib.hid (And.intro hr (And.intro hrs (fun F hF => HE.out.1 F hF hR)))
      clear hr hrs hR d0 d1 d2 d3 d4 d5 d6 d7
      go_wp2_with fail
      go_loopg [39] (s.length + 1) (fun gg i wr => ∃ k : Nat, i = .int .i64 k ∧ k + gg = s.length + 1 ∧ Keep (fun _ => False) w6 wr)
      case atStart => exact ⟨0, rfl, by omega, Keep.refl _ _⟩
      case round =>
        obtain ⟨k, rfl, hk, hq⟩ := hrel
        by_cases hlt : k < s.length + 1
        · have hlt' : (k : Int) < (s.length : Int) + 1 := by omega
          have i0 : (0 : Int) ≤ k := by omega
          have hF : k ≤ s.length := by omega
          have x1 := fun w' (q : Keep (fun _ => False) wr w') => call_any u HM.out.2.2 s (by omega) (k : Int) _ 1 w' ((I6.out.1.keep (hq.trans q)).lie) (HTab.out.keep (I6.out.2.2.trans (hq.trans q))) (by have := HUM.out; have := HCS.out; omega)
          have x2 := fun w' (q : Keep (fun _ => False) wr w') => call_any m HM.out.1 s (by omega) (k : Int) _ 2 w' ((I6.out.2.1.keep (hq.trans q)).lie) (HTab.out.keep (I6.out.2.2.trans (hq.trans q))) HCS.out
          unfold IsAll at x1 x2
          obtain ⟨hs1, hs2⟩ := HR.out.2.2 k hF
          rw [allA_in HR.out.2.1 hF, allE_in HR.out.2.1 hF, hs1] at x1
          rw [allA_in HR.out.1 hF, allE_in HR.out.1 hF] at x2
          rw [hs1] at hs2
          have hll : (endsI s m k).length ≤ s.length + 1 := plc_length _ _
          generalize endsI s m k = L at *
          have HX := Lib.hid (And.intro x1 (And.intro x2 (And.intro hq (And.intro hll hs2))))
          obtain ⟨d0, d1, d2, d3, d4, d5, d6, d7⟩ := (I6.out.1.keep hq).eight
          clear x1 x2 hq hll hs1 hs2
          go_wp2_with fail
          refine (HX.out.1 wr (Keep.refl _ _)).mono ?_
          rintro e w7 ⟨v1, rfl, hil1, -, q5⟩
          obtain ⟨ad, cp, rfl, -⟩ := hil1.form
          obtain ⟨e0, e1, e2, e3, e4, e5, e6, e7⟩ := (I6.out.2.1.keep (HX.out.2.2.1.trans q5)).eight
          have G5 := Lib.hid (And.intro hil1 q5)
          clear d0 d1 d2 d3 d4 d5 d6 d7 hil1 q5
          go_wp2_with fail
          refine (HX.out.2.1 w7 G5.out.2).mono ?_
          rintro e w8 ⟨v2, rfl, hil2, -, q6⟩
          have G6 := Lib.hid (And.intro (G5.out.1.keep q6 (fun _ _ h => h)) (And.intro hil2 (HX.out.2.2.1.trans (G5.out.2.trans q6))))
          clear e0 e1 e2 e3 e4 e5 e6 e7 hil2 q6
          go_wp2_with fail
          refine (same_yes11 _ v2 L w8 G6.out.1 G6.out.2.1 (by have := HX.out.2.2.2.1; omega)).mono ?_
          rintro e w10 ⟨rfl, q7⟩
          have hl0 := (List.getElem?_eq_some_iff.1 HX.out.2.2.2.2).1
          obtain ⟨ad2, cp2, hev, hc⟩ := (G6.out.1.keep q7 (fun _ _ h => h)).form
          injection hev with hev1 _ hev2
          subst hev1
          obtain ⟨g, -, rfl, hcell⟩ := hc 0 (k : Int) HX.out.2.2.2.2
          have h1 : ((L.length : Int) == 0) = false := by rw [beq_eq_false_iff_ne]; omega
          have h2 : (0 : Int) < L.length := by omega
          have G7 := Lib.hid (G6.out.2.2.trans q7)
          clear q7 hc hev2
          go_wp2_with fail
          go_roundg (s.length + 1 - (k + 1))
          case measure => omega
          case rel => exact ⟨k + 1, by go_num, by omega, G7.out⟩
        · have hke : k = s.length + 1 := by omega
          subst hke
          have HQ := Lib.hid hq
          clear hq
          go_wp2_with fail
          go_ret
          exact ⟨rfl, I6.out.2.2.trans HQ.out⟩
end Go.Proofs.YtfpijkcaceoboaaDoor.P11
/- EndsStar: the arguments opened. -/
namespace Go.Proofs.YtfpijkcaceoboaaDoor.EndsStar
open Go.RowKit Go.Proofs.YtfpijkcaceoboaaDoor.Base Go.Proofs.YtfpijkcaceoboaaDoor.P08 Go.Proofs.YtfpijkcaceoboaaDoor.P11
open Go.ChangeShapes Go.WideShapes Go.ChangeAt
open Go.Proofs.YtfpijkcaceoboaaDoor.Bytes (Tab)

set_option maxRecDepth 100000 in
theorem walk {H : Type} {enc : TypeId × Value → H} (v0 v1 : Value) {d0 d1 : DataW H} {p0 p1 : List MemPlace} (W : World) (hT : Tab W)
    (k0 : Value.okWide Tryd.prog W .any 0 27 v0) (k1 : Value.okWide Tryd.prog W .any 0 9 v1)
    (h0 : DataW.Trod enc Tryd.prog W 0 (fun _ => true) true 27 v0 d0 p0) (h1 : DataW.Trod enc Tryd.prog W 0 (fun _ => true) true 9 v1 d1 p1)
    (hk : Rows.uptoSmall H [d0, d1] = true) :
    Calls Tryd.prog 9 #[v0, v1] W fun e w' => e = .returned (.bool true) ∧ Below W.heap.size W w' := by
  have hb := of_decide_eq_true hk
  obtain ⟨t0, a0, c0, rfl, hc0, hL0, hn0, hs0⟩ := node_arg k0 h0
  obtain ⟨l1, rfl, rfl, -⟩ := str_arg11 k1 h1
  simp only [Rows.uptoBulkAll, Rows.uptoBulk] at hb
  exact (law_star t0 a0 c0 W hL0 hc0 (by omega) hs0 hT l1).mono fun e w' ⟨he, q⟩ => ⟨he, q.below (Nat.le_refl _) (fun _ _ h => h)⟩
end Go.Proofs.YtfpijkcaceoboaaDoor.EndsStar
/- THE STATEMENT 'EndsStar' OF LAYER 11, SECOND FORM: for every input that holds no more values than the given bound (uptoSmall) the law answers true, and each argument reads as it did. Condition: the library's table math/bits.deBruijn64tab reads as the program's text lays them (the card ties them). The walk is in XW11Star. -/
namespace Go.Proofs.YtfpijkcaceoboaaDoor.EndsStar
open Go.ChangeShapes Go.WideShapes Go.ChangeAt Go.RowKit Go.Proofs.YtfpijkcaceoboaaDoor.Tied
set_option linter.unusedVariables false

theorem own : ownKnob Tryd.prog.godebug = none := by kernel_rfl
theorem laidOut : laidOutB Tryd.prog = true := by kernel_rfl

set_option maxRecDepth 100000 in
theorem contract (H : Type) (enc : TypeId × Value → H) (W : World) (base : Nat) (args : Array Value) (ds gs : List (DataW H)) (before : List MemPlace)
    (hval0 : ∀ (j : Nat) t v, Tryd.f9.params[j]? = some t → args[j]? = some v → Value.okWide Tryd.prog W .any base t v)
    (hW : DataW.Whole enc Tryd.prog Tryd.f9.params.toList Rows.endsStarSpec.vars false W args.toList ds gs before) (hL : laidMetH Tryd.prog laid W) (hk : Rows.uptoSmall H (ds ++ gs) = true) :
    Calls Tryd.prog 9 args W fun e W' => ∃ v, e = .returned v ∧ Rows.endsStarSpec.post enc Tryd.prog Tryd.f9 false true false false W args v W' := by
  have hval : ∀ (j : Nat) t v, Tryd.f9.params[j]? = some t → args[j]? = some v → Value.okWide Tryd.prog W .any base t v := hval0
  have hW' := hW
  have hT := of_laid hL
  obtain ⟨p, q, hA0, hV, rfl, hfz, hnd⟩ := hW
  have hA : DataW.TrodAll enc Tryd.prog W 0 (fun _ => true) true Tryd.f9.params.toList args.toList ds p := hA0
  rw [Tryd.params9] at hA hval
  obtain ⟨v0, vs0, d0, ds0, p0, q0, hargs, rfl, rfl, h0, r0⟩ := trodAll_cons hA
  obtain ⟨v1, vs1, d1, ds1, p1, q1, rfl, rfl, rfl, h1, r1⟩ := trodAll_cons r0
  obtain ⟨rfl, rfl, rfl⟩ := trodAll_nil r1
  obtain rfl : args = #[v0, v1] := by cases args; simp_all
  obtain ⟨rfl, rfl⟩ := trodVars_none hV
  have lt0 : ∀ x ∈ p0, x.block < W.heap.size := by obtain ⟨m, hm⟩ := h0; exact DataW.trod_lt m _ _ _ hm
  have lt1 : ∀ x ∈ p1, x.block < W.heap.size := by obtain ⟨m, hm⟩ := h1; exact DataW.trod_lt m _ _ _ hm
  have hk1 : Rows.uptoSmall H [d0, d1] = true := hk
  refine (walk v0 v1 W hT (hval 0 27 v0 rfl rfl) (hval 1 9 v1 rfl rfl) h0 h1 hk1).mono fun e W' ⟨he, bel⟩ => ?_
  subst he
  exact ⟨_, rfl, _, _, _, [], _, [], hW', trodAll_mk1 (shut_bool Tryd.underlying4 _), (trodAll_cons_mk (Below.trod laidOut (by kernel_rfl) (of_decide_eq_true (by kernel_rfl)) h0 bel lt0) (trodAll_cons_mk (Below.trod laidOut (by kernel_rfl) (of_decide_eq_true (by kernel_rfl)) h1 bel lt1) trodAll_mk0)), rfl, bel.frame _, fun h => by cases h⟩

theorem reads (os : Os) {H : Type} (enc : TypeId × Value → H) : ∃ places, DataW.whole enc Tryd.prog ((World.doorLaid Tryd.prog 400 os).forCall (fun _ _ => 0) ⟨#[], #[.agg #[.int .i64 0, .int .u64 0, .int .u64 0, .int .u64 0, .int .u64 0, .int .i64 0, .int .i64 0, .slice none 0 0], .string ⟨#[]⟩], []⟩).memory Tryd.f9.params.toList Rows.endsStarSpec.vars false (#[.agg #[.int .i64 0, .int .u64 0, .int .u64 0, .int .u64 0, .int .u64 0, .int .i64 0, .int .i64 0, .slice none 0 0], .string ⟨#[]⟩] : Array Value).toList 8 = some ([.agg [.lit (.int .i64 0), .agg [.lit (.int .u64 0), .lit (.int .u64 0), .lit (.int .u64 0), .lit (.int .u64 0)], .lit (.int .i64 0), .lit (.int .i64 0), .nil], .lit (.string [])], [], places) :=
  ⟨[], by kernel_rfl⟩

set_option maxRecDepth 100000 in
theorem lifted (os : Os) (started : os.Started) (H : Type) (enc : TypeId × Value → H) (F : Stop.Interp) :
    ReturnsInHanded {} Tryd.checked os 9 .any ((Rows.OpenSpec.upto Rows.endsStarSpec).preRow enc Tryd.prog Tryd.f9 Rows.endsStarUptoRow.domain false Rows.endsStarUptoRow.laid) (((Rows.OpenSpec.upto Rows.endsStarSpec).at F).post enc Tryd.prog Tryd.f9 false true false false) := by
  obtain ⟨places, hx⟩ := reads os enc
  refine returnsInHanded_of_row (C := Tryd.checked) (s := (Rows.OpenSpec.upto Rows.endsStarSpec)) own started (by kernel_rfl) Tryd.func9
    (witness_row_atRef (enc := enc) (C := Tryd.checked) false (World.doorLaid Tryd.prog 400 os) #[.agg #[.int .i64 0, .int .u64 0, .int .u64 0, .int .u64 0, .int .u64 0, .int .i64 0, .int .i64 0, .slice none 0 0], .string ⟨#[]⟩] rfl (by kernel_rfl) (by kernel_rfl) (by kernel_rfl)
      (OpenSpec.preRow_of_cond 8 hx (by kernel_rfl) (fun k hk => by cases hk; kernel_rfl) (by kernel_rfl) (laid_met os _))) ?_
  intro W base args ds gs before hval hW _ hcond _ hL _ _
  exact contract H enc W base args ds gs before hval hW hL (hcond _ rfl)

theorem over : Rows.endsStarUptoRow.holds Tryd.pinned (Rows.OpenSpec.upto Rows.endsStarSpec) :=
  OpenClaim.holds_of_cond 9 Tryd.f9 rfl rfl rfl rfl rfl rfl rfl ⟨rfl, rfl, rfl, rfl, rfl⟩ rfl rfl rfl rfl rfl (by kernel_rfl) Tryd.func9 (by kernel_rfl)
    (of_decide_eq_true (by kernel_rfl)) (by unfold Func.isWrapper; first | (rw [if_pos (by decide +kernel)]; kernel_rfl) | (rw [if_neg (by decide +kernel)]; exact ⟨rfl, rfl⟩))
    (fun os started H enc _ F => by rw [OpenClaim.pre_eq_preRow]; exact lifted os started H enc F)

/-- No parameter wants a stand-in; the program's own looks are off. -/
theorem bare (f : FuncId) (fn : Func) (hf : Tryd.pinned.checked.prog.funcNamed "sieve/sievelaw11.EndsStar" = some f) (hfn : Tryd.pinned.checked.prog.funcs[f]? = some fn) :
    true = Tryd.pinned.checked.prog.looks [] ∧ ∀ (j : Nat) t, fn.params[j]? = some t → Tryd.pinned.checked.prog.wantsStandIn t = false := by
  obtain rfl : f = 9 := Option.some.inj ((show Tryd.prog.funcNamed "sieve/sievelaw11.EndsStar" = some 9 by kernel_rfl).symm.trans hf) |>.symm
  obtain rfl : fn = Tryd.f9 := (Option.some.inj (Tryd.func9.symm.trans hfn)).symm
  refine ⟨by kernel_rfl, fun j t ht => ?_⟩
  rw [Tryd.params9] at ht
  have hm : t ∈ [27, 9] := by simpa using Array.mem_of_getElem? ht
  have hall : ([27, 9].all fun u => !Tryd.prog.wantsStandIn u) = true := by kernel_rfl
  exact (show Tryd.prog.wantsStandIn t = false by simpa using List.all_eq_true.1 hall t hm)

theorem proved : Rows.EndsStarUptoCardSaid :=
  Claim7.holds_tied_plain_at .later [] _ _ _ _ over (fun _ h => by cases h) (by kernel_rfl) (fun _ h => by cases h) endsStarUpto_row_tie rfl ⟨rfl, rfl⟩ (by kernel_rfl) rfl bare (by kernel_rfl)
#print axioms proved
end Go.Proofs.YtfpijkcaceoboaaDoor.EndsStar
