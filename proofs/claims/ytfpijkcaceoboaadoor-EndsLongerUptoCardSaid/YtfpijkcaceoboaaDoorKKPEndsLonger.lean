/- Layer 11: EndsLonger. -/
import Derived.Test.YtfpijkcaceoboaaDoorKK53
import Derived.Test.YtfpijkcaceoboaaDoorKK27
import Derived.Test.YtfpijkcaceoboaaDoorKK22
import Derived.Test.YtfpijkcaceoboaaDoorKK47
import Derived.Test.YtfpijkcaceoboaaDoorKK09
import Derived.Test.YtfpijkcaceoboaaDoorRows
import Derived.Test.YtfpijkcaceoboaaDoorCards
import Derived.Test.YtfpijkcaceoboaaDoorTie
import Derived.Test.YtfpijkcaceoboaaDoorKK23
import Derived.SevenTiedAt
import Derived.JoinedCond
import Derived.Deep.DeepHandedRow
import Derived.Deep.DeepWitnessRowRef
namespace Go.Proofs.YtfpijkcaceoboaaDoor.P11
open Go.RowKit Go.Proofs.YtfpijkcaceoboaaDoor.Base Go.Proofs.YtfpijkcaceoboaaDoor.Bytes Go.Proofs.YtfpijkcaceoboaaDoor.P07 Go.Proofs.YtfpijkcaceoboaaDoor.P08 Go.Proofs.YtfpijkcaceoboaaDoor.P09 Go.Proofs.YtfpijkcaceoboaaDoor.P10 Go.Proofs.YtfpijkcaceoboaaDoor.IL
open Go.Proofs.YtfpijkcaceoboaaDoor.Sets (ST)

/-- A row's beginning. -/
theorem IL.pre {w : World} {a : Option Addr} {n cap : Nat} {L R : List Int} (h : IL w (.slice a n cap) (L ++ R)) : IL w (.slice a L.length cap) L ∧ n = L.length + R.length ∧ n ≤ cap ∧ (a = none ∧ n = 0 ∨ ∃ g, a = some ⟨g, 0, none⟩ ∧ ∀ i x, (L ++ R)[i]? = some x → w.cell? ⟨g, i, none⟩ = some (.int .i64 x)) := by
  have hf := h.form
  obtain ⟨a', cap', e, hc⟩ := hf
  injection e with e1 e2 e3
  subst e1 e3
  rw [List.length_append] at e2
  rcases h.2 with ⟨he, h0⟩ | ⟨g, cp, cur, he, hb, hg, h1, h2, h3, h4⟩
  · injection he with he1 he2 he3
    subst he1 he2 he3
    rw [List.length_append] at h0
    have hL : L = [] := List.eq_nil_of_length_eq_zero (by omega)
    subst hL
    exact ⟨⟨by simp, .inl ⟨rfl, rfl⟩⟩, e2, Nat.le_refl _, .inl ⟨rfl, rfl⟩⟩
  · injection he with he1 he2 he3
    subst he1 he2 he3
    refine ⟨⟨by simp, .inr ⟨g, _, cur, rfl, hb, hg, by rw [List.length_append] at h1; omega, h2, h3, ?_⟩⟩, e2, by omega, .inr ⟨g, rfl, fun i x hx => ?_⟩⟩
    · rw [Nat.mul_one] at h4 ⊢
      have := congrArg (List.take L.length) h4
      rw [List.take_take, List.length_append, Nat.min_eq_left (by omega), List.map_append, List.take_append_of_le_length (by simp)] at this
      rw [this, List.take_of_length_le (by simp)]
    · obtain ⟨g', hg', -, hcell⟩ := hc i x hx
      cases hg'
      exact hcell
theorem pre_run (a : Option Addr) (n k cap : Nat) (h1 : k ≤ n) (h2 : n ≤ cap) (ha : a = none ∧ n = 0 ∨ ∃ g, a = some ⟨g, 0, none⟩) (w : World) : (Instr.slice 30 (.slice a n cap) none (some (.int .i64 k)) none).run Tryd.prog w = .ok (.slice a k cap) w := by
  have h3 : k ≤ cap := by omega
  rcases ha with ⟨rfl, rfl⟩ | ⟨g, rfl⟩
  · obtain rfl : k = 0 := by omega
    simp [Instr.slice, Instr.sliceBounds, Instr.sliceBound, run_underlying (P := Tryd.prog) Tryd.underlying30, asIntOf, go_sem]
  · simp [Instr.slice, Instr.sliceBounds, Instr.sliceBound, run_underlying (P := Tryd.prog) Tryd.underlying30, asIntOf, h3, go_sem]
theorem suf_run (a : Option Addr) (n k cap : Nat) (h1 : k ≤ n) (h2 : n ≤ cap) (ha : a = none ∧ n = 0 ∨ ∃ g, a = some ⟨g, 0, none⟩) : ∃ ad, (∀ w, (Instr.slice 30 (.slice a n cap) (some (.int .i64 k)) none none).run Tryd.prog w = .ok (.slice ad (n - k) (cap - k)) w) ∧ ∀ g, a = some ⟨g, 0, none⟩ → k < n → ad = some ⟨g, k, none⟩ := by
  rcases ha with ⟨rfl, rfl⟩ | ⟨g, rfl⟩
  · obtain rfl : k = 0 := by omega
    refine ⟨none, fun w => ?_, fun g h => by cases h⟩
    simp [Instr.slice, Instr.sliceBounds, Instr.sliceBound, run_underlying (P := Tryd.prog) Tryd.underlying30, asIntOf, go_sem]
  · by_cases hk : k = cap
    · refine ⟨some ⟨g, 0, none⟩, fun w => ?_, fun g h1 h2 => by omega⟩
      subst hk
      simp [Instr.slice, Instr.sliceBounds, Instr.sliceBound, run_underlying (P := Tryd.prog) Tryd.underlying30, asIntOf, h1, go_sem]
    · refine ⟨some ⟨g, k, none⟩, fun w => ?_, fun g' h1 _ => by injection h1 with h1; injection h1 with h1; rw [h1]⟩
      have hk' : ¬ cap = k := fun h => hk h.symm
      simp [Instr.slice, Instr.sliceBounds, Instr.sliceBound, run_underlying (P := Tryd.prog) Tryd.underlying30, asIntOf, h1, hk', go_sem]
set_option maxRecDepth 100000 in
set_option maxHeartbeats 8000000 in
theorem law_longer (t : T) (a : Option Addr) (c : Nat) (w : World) (hta : Lie w (fun _ => True) a t.subs) (hcl : t.subs.length ≤ c) (ht : cnt t ≤ 1000000000) (hst : SOk t) (hTab : Tab w) (s mo : List UInt8) (hlen : s.length + mo.length ≤ 1000000000) (f : Int) :
    Calls Tryd.prog 7 #[nodeV t a c, .string ⟨s.toArray⟩, .string ⟨mo.toArray⟩, .int .i64 f] w fun e w' => e = .returned (.bool true) ∧ Keep (fun _ => False) w w' := by
  have HTab := Lib.hid hTab
  clear hTab
  have H0 := Lib.hid (Bx.new (c := c) hta)
  have QA := Lib.hid ((Keep.refl (fun _ => False) w).alloc (.cells (ncells t a c) 27))
  have hsz := P07.size_str s
  have hsm := P07.size_str mo
  have hcat := Bytes.str_append s mo
  obtain ⟨C, hC⟩ : ∃ C : ByteArray, (⟨(s ++ mo).toArray⟩ : ByteArray) = C := ⟨_, rfl⟩
  rw [hC] at hcat
  have HC := Lib.hid hC
  have hfw := fun w' L => few11_any t hst ht (s ++ mo) a c w' L
  rw [hC] at hfw
  have HW := Lib.hid hfw
  have HH := Lib.hid (And.intro hcl (And.intro hst ht))
  clear hta hcl hst ht hC hfw
  go_enter Tryd.func7, Tryd.ntmps7
  go_upto_region 1 with fail
  generalize (w.alloc (.cells (ncells t a c) 27)) = W at *
  go_wp2_with fail
  refine (awake11 _ (HTab.out.keep QA.out)).mono ?_
  rintro e w1 ⟨rfl, q1⟩
  have B1 := Lib.hid (H0.out.keep q1)
  have Q1 := Lib.hid (QA.out.trans q1)
  clear q1
  obtain ⟨d0, d1, d2, d3, d4, d5, d6, d7⟩ := B1.out.eight
  go_wp2_with fail
  refine (HW.out w1 B1.out.lie).mono ?_
  rintro e w2 ⟨rfl, q2⟩
  have B2 := Lib.hid (B1.out.keep q2)
  have Q2 := Lib.hid (Q1.out.trans q2)
  clear q2 d0 d1 d2 d3 d4 d5 d6 d7
  obtain ⟨d0, d1, d2, d3, d4, d5, d6, d7⟩ := B2.out.eight
  cases hf : fewL (s ++ mo) t with
  | false =>
    clear d0 d1 d2 d3 d4 d5 d6 d7
    go_wp2_with fail
    refine (awake11 _ (HTab.out.keep Q2.out)).mono ?_
    rintro e w9 ⟨rfl, q9⟩
    have Q9 := Lib.hid (Q2.out.trans q9)
    clear q9
    go_wp2_with fail
    go_ret
    exact ⟨rfl, Q9.out⟩
  | true =>
    unfold fewL at hf
    simp only [Bool.and_eq_true, decide_eq_true_eq, List.length_append] at hf
    have hs40 := hf.2.1
    have HCS := Lib.hid (show cnt t ≤ 1000000 by have := few_cnt hf.1; omega)
    have HF := Lib.hid hf
    clear hf
    go_wp2_with fail
    refine (fright_any t HH.out.2.2 a c w2 B2.out.lie).mono ?_
    rintro e w3 ⟨rfl, q3⟩
    have B3 := Lib.hid (B2.out.keep q3)
    have Q3 := Lib.hid (Q2.out.trans q3)
    clear q3 d0 d1 d2 d3 d4 d5 d6 d7
    obtain ⟨d0, d1, d2, d3, d4, d5, d6, d7⟩ := B3.out.eight
    cases hr : rightB t with
    | false =>
      clear d0 d1 d2 d3 d4 d5 d6 d7
      go_wp2_with fail
      refine (awake11 _ (HTab.out.keep Q3.out)).mono ?_
      rintro e w9 ⟨rfl, q9⟩
      have Q9 := Lib.hid (Q3.out.trans q9)
      clear q9
      go_wp2_with fail
      go_ret
      exact ⟨rfl, Q9.out⟩
    | true =>
      have hR := (rightB_iff HH.out.2.1).1 hr
      by_cases hf : 0 ≤ f ∧ f ≤ s.length
      case neg =>
        have hc : f < 0 ∨ (0 ≤ f ∧ (s.length : Int) < f) := by omega
        clear hf hr hR
        rcases hc with h | ⟨h0, h⟩
        all_goals
          clear d0 d1 d2 d3 d4 d5 d6 d7
          go_wp2_with fail
          refine (awake11 _ (HTab.out.keep Q3.out)).mono ?_
          rintro e w9 ⟨rfl, q9⟩
          have Q9 := Lib.hid (Q3.out.trans q9)
          clear q9
          go_wp2_with fail
          go_ret
          exact ⟨rfl, Q9.out⟩
      obtain ⟨F, rfl⟩ : ∃ F : Nat, f = F := ⟨f.toNat, by omega⟩
      have hF : F ≤ s.length := by omega
      have hF2 : F ≤ (s ++ mo).length := by rw [List.length_append]; omega
      have x1 := fun w' (q : Keep (fun _ => False) w3 w') => call_any t HH.out.2.1 s (by omega) (F : Int) a c w' (B3.out.keep q).lie (HTab.out.keep (Q3.out.trans q)) HCS.out
      have x2 := fun w' (q : Keep (fun _ => False) w3 w') => call_any t HH.out.2.1 (s ++ mo) (by rw [List.length_append]; omega) (F : Int) a c w' (B3.out.keep q).lie (HTab.out.keep (Q3.out.trans q)) HCS.out
      unfold IsAll at x1 x2
      rw [allA_in hr hF, allE_in hr hF] at x1
      rw [allA_in hr hF2, allE_in hr hF2, HC.out] at x2
      have hll : (endsI (s ++ mo) t F).length ≤ (s ++ mo).length + 1 := plc_length _ _
      obtain ⟨R, hR1, hR2⟩ := ends_longer (m := mo) hR hF
      rw [hR1] at x2 hll
      rw [List.length_append, List.length_append] at hll
      generalize endsI s t F = L at *
      have HX := Lib.hid (And.intro x1 (And.intro x2 hR2))
      have h1 : ¬ (F : Int) < 0 := by omega
      have h2 : ¬ (s.length : Int) < F := by omega
      clear x1 x2 hR1 hR2 hr hR hf
      go_wp2_with fail
      refine (HX.out.1 w3 (Keep.refl _ _)).mono ?_
      rintro e w4 ⟨v1, rfl, hil1, -, q4⟩
      obtain ⟨ad1, cp1, rfl, -⟩ := hil1.form
      have B4 := Lib.hid (B3.out.keep q4)
      have G4 := Lib.hid (And.intro hil1 q4)
      clear hil1 q4 d0 d1 d2 d3 d4 d5 d6 d7
      obtain ⟨d0, d1, d2, d3, d4, d5, d6, d7⟩ := B4.out.eight
      go_wp2_with fail
      refine (HX.out.2.1 w4 G4.out.2).mono ?_
      rintro e w5 ⟨v2, rfl, hil2, -, q5⟩
      obtain ⟨ad2, cp2, rfl, -⟩ := hil2.form
      have hpre := IL.pre hil2
      generalize (L ++ R).length = N at *
      obtain ⟨p1, p2, p3, p4⟩ := hpre
      subst p2
      have pr : ∀ W, _ := fun W => pre_run ad2 (L.length + R.length) L.length cp2 (by omega) p3 (by rcases p4 with h | ⟨g, h, -⟩; exact .inl h; exact .inr ⟨g, h⟩) W
      obtain ⟨ad3, sr, hsr⟩ := suf_run ad2 (L.length + R.length) L.length cp2 (by omega) p3 (by rcases p4 with h | ⟨g, h, -⟩; exact .inl h; exact .inr ⟨g, h⟩)
      have hlt1 : ¬ (L.length : Int) + R.length < L.length := by omega
      rw [Nat.add_sub_cancel_left] at sr
      have G5 := Lib.hid (And.intro p1 (And.intro p4 (And.intro hsr (And.intro (G4.out.1.keep q5 (fun _ _ h => h)) (Q3.out.trans (G4.out.2.trans q5))))))
      clear hil2 p1 p4 hsr q5 d0 d1 d2 d3 d4 d5 d6 d7
      go_wp2_with fail
      refine (same_yes11 _ _ L w5 G5.out.2.2.2.1 G5.out.1 (by omega)).mono ?_
      rintro e w6 ⟨rfl, q6⟩
      have Q6 := Lib.hid q6
      clear q6
      go_wp2_with fail
      go_loopg [84] R.length (fun gg i wr => ∃ k : Nat, i = .int .i64 k ∧ k + gg = R.length ∧ Keep (fun _ => False) w6 wr)
      case atStart => exact ⟨0, rfl, by omega, Keep.refl _ _⟩
      case round =>
        obtain ⟨k, rfl, hk, hq⟩ := hrel
        by_cases hlt : k < R.length
        · have hlt' : (k : Int) < R.length := by omega
          have i0 : (0 : Int) ≤ k := by omega
          obtain ⟨x, hx⟩ : ∃ x, R[k]? = some x := ⟨R[k], List.getElem?_eq_getElem hlt⟩
          have hgt := HX.out.2.2 x (List.mem_of_getElem? hx)
          have hx' : ¬ x ≤ s.length := by omega
          rcases G5.out.2.1 with ⟨-, h0⟩ | ⟨g, rfl, hcell⟩
          · omega
          obtain rfl := G5.out.2.2.1 g rfl (by omega)
          have hc := hcell (L.length + k) x (by rw [List.getElem?_append_right (by omega), Nat.add_sub_cancel_left]; exact hx)
          have hc2 := ((Q6.out.trans hq).cell (a := ⟨g, L.length + k, none⟩) (World.block_lt_of_cell? w5 _ hc) (fun h => h)).trans hc
          have HQ := Lib.hid hq
          clear hc hcell hq hx
          go_wp2_with fail
          go_roundg (R.length - (k + 1))
          case measure => omega
          case rel => exact ⟨k + 1, by go_num, by omega, HQ.out⟩
        · have hke : k = R.length := by omega
          subst hke
          have HQ := Lib.hid hq
          clear hq
          go_wp2_with fail
          go_ret
          exact ⟨rfl, G5.out.2.2.2.2.trans (Q6.out.trans HQ.out)⟩
end Go.Proofs.YtfpijkcaceoboaaDoor.P11
/- EndsLonger: the arguments opened. -/
namespace Go.Proofs.YtfpijkcaceoboaaDoor.EndsLonger
open Go.RowKit Go.Proofs.YtfpijkcaceoboaaDoor.Base Go.Proofs.YtfpijkcaceoboaaDoor.P08 Go.Proofs.YtfpijkcaceoboaaDoor.P11
open Go.ChangeShapes Go.WideShapes Go.ChangeAt
open Go.Proofs.YtfpijkcaceoboaaDoor.Bytes (Tab)

set_option maxRecDepth 100000 in
theorem walk {H : Type} {enc : TypeId × Value → H} (v0 v1 v2 v3 : Value) {d0 d1 d2 d3 : DataW H} {p0 p1 p2 p3 : List MemPlace} (W : World) (hT : Tab W)
    (k0 : Value.okWide Tryd.prog W .any 0 27 v0) (k1 : Value.okWide Tryd.prog W .any 0 9 v1) (k2 : Value.okWide Tryd.prog W .any 0 9 v2) (k3 : Value.okWide Tryd.prog W .any 0 3 v3)
    (h0 : DataW.Trod enc Tryd.prog W 0 (fun _ => true) true 27 v0 d0 p0) (h1 : DataW.Trod enc Tryd.prog W 0 (fun _ => true) true 9 v1 d1 p1) (h2 : DataW.Trod enc Tryd.prog W 0 (fun _ => true) true 9 v2 d2 p2) (h3 : DataW.Trod enc Tryd.prog W 0 (fun _ => true) true 3 v3 d3 p3)
    (hk : Rows.uptoSmall H [d0, d1, d2, d3] = true) :
    Calls Tryd.prog 7 #[v0, v1, v2, v3] W fun e w' => e = .returned (.bool true) ∧ Below W.heap.size W w' := by
  have hb := of_decide_eq_true hk
  obtain ⟨t0, a0, c0, rfl, hc0, hL0, hn0, hs0⟩ := node_arg k0 h0
  obtain ⟨l1, rfl, rfl, -⟩ := str_arg11 k1 h1
  obtain ⟨l2, rfl, rfl, -⟩ := str_arg11 k2 h2
  obtain ⟨f3, rfl, -, -⟩ := int_arg Tryd.underlying3 k3 h3
  simp only [Rows.uptoBulkAll, Rows.uptoBulk] at hb
  exact (law_longer t0 a0 c0 W hL0 hc0 (by omega) hs0 hT l1 l2 (by omega) f3).mono fun e w' ⟨he, q⟩ => ⟨he, q.below (Nat.le_refl _) (fun _ _ h => h)⟩
end Go.Proofs.YtfpijkcaceoboaaDoor.EndsLonger
/- THE STATEMENT 'EndsLonger' OF LAYER 11, SECOND FORM: for every input that holds no more values than the given bound (uptoSmall) the law answers true, and each argument reads as it did. Condition: the library's table math/bits.deBruijn64tab reads as the program's text lays them (the card ties them). The walk is in XW11Longer. -/
namespace Go.Proofs.YtfpijkcaceoboaaDoor.EndsLonger
open Go.ChangeShapes Go.WideShapes Go.ChangeAt Go.RowKit Go.Proofs.YtfpijkcaceoboaaDoor.Tied
set_option linter.unusedVariables false

theorem own : ownKnob Tryd.prog.godebug = none := by kernel_rfl
theorem laidOut : laidOutB Tryd.prog = true := by kernel_rfl

set_option maxRecDepth 100000 in
theorem contract (H : Type) (enc : TypeId × Value → H) (W : World) (base : Nat) (args : Array Value) (ds gs : List (DataW H)) (before : List MemPlace)
    (hval0 : ∀ (j : Nat) t v, Tryd.f7.params[j]? = some t → args[j]? = some v → Value.okWide Tryd.prog W .any base t v)
    (hW : DataW.Whole enc Tryd.prog Tryd.f7.params.toList Rows.endsLongerSpec.vars false W args.toList ds gs before) (hL : laidMetH Tryd.prog laid W) (hk : Rows.uptoSmall H (ds ++ gs) = true) :
    Calls Tryd.prog 7 args W fun e W' => ∃ v, e = .returned v ∧ Rows.endsLongerSpec.post enc Tryd.prog Tryd.f7 false true false false W args v W' := by
  have hval : ∀ (j : Nat) t v, Tryd.f7.params[j]? = some t → args[j]? = some v → Value.okWide Tryd.prog W .any base t v := hval0
  have hW' := hW
  have hT := of_laid hL
  obtain ⟨p, q, hA0, hV, rfl, hfz, hnd⟩ := hW
  have hA : DataW.TrodAll enc Tryd.prog W 0 (fun _ => true) true Tryd.f7.params.toList args.toList ds p := hA0
  rw [Tryd.params7] at hA hval
  obtain ⟨v0, vs0, d0, ds0, p0, q0, hargs, rfl, rfl, h0, r0⟩ := trodAll_cons hA
  obtain ⟨v1, vs1, d1, ds1, p1, q1, rfl, rfl, rfl, h1, r1⟩ := trodAll_cons r0
  obtain ⟨v2, vs2, d2, ds2, p2, q2, rfl, rfl, rfl, h2, r2⟩ := trodAll_cons r1
  obtain ⟨v3, vs3, d3, ds3, p3, q3, rfl, rfl, rfl, h3, r3⟩ := trodAll_cons r2
  obtain ⟨rfl, rfl, rfl⟩ := trodAll_nil r3
  obtain rfl : args = #[v0, v1, v2, v3] := by cases args; simp_all
  obtain ⟨rfl, rfl⟩ := trodVars_none hV
  have lt0 : ∀ x ∈ p0, x.block < W.heap.size := by obtain ⟨m, hm⟩ := h0; exact DataW.trod_lt m _ _ _ hm
  have lt1 : ∀ x ∈ p1, x.block < W.heap.size := by obtain ⟨m, hm⟩ := h1; exact DataW.trod_lt m _ _ _ hm
  have lt2 : ∀ x ∈ p2, x.block < W.heap.size := by obtain ⟨m, hm⟩ := h2; exact DataW.trod_lt m _ _ _ hm
  have lt3 : ∀ x ∈ p3, x.block < W.heap.size := by obtain ⟨m, hm⟩ := h3; exact DataW.trod_lt m _ _ _ hm
  have hk1 : Rows.uptoSmall H [d0, d1, d2, d3] = true := hk
  refine (walk v0 v1 v2 v3 W hT (hval 0 27 v0 rfl rfl) (hval 1 9 v1 rfl rfl) (hval 2 9 v2 rfl rfl) (hval 3 3 v3 rfl rfl) h0 h1 h2 h3 hk1).mono fun e W' ⟨he, bel⟩ => ?_
  subst he
  exact ⟨_, rfl, _, _, _, [], _, [], hW', trodAll_mk1 (shut_bool Tryd.underlying4 _), (trodAll_cons_mk (Below.trod laidOut (by kernel_rfl) (of_decide_eq_true (by kernel_rfl)) h0 bel lt0) (trodAll_cons_mk (Below.trod laidOut (by kernel_rfl) (of_decide_eq_true (by kernel_rfl)) h1 bel lt1) (trodAll_cons_mk (Below.trod laidOut (by kernel_rfl) (of_decide_eq_true (by kernel_rfl)) h2 bel lt2) (trodAll_cons_mk (Below.trod laidOut (by kernel_rfl) (of_decide_eq_true (by kernel_rfl)) h3 bel lt3) trodAll_mk0)))), rfl, bel.frame _, fun h => by cases h⟩

theorem reads (os : Os) {H : Type} (enc : TypeId × Value → H) : ∃ places, DataW.whole enc Tryd.prog ((World.doorLaid Tryd.prog 400 os).forCall (fun _ _ => 0) ⟨#[], #[.agg #[.int .i64 0, .int .u64 0, .int .u64 0, .int .u64 0, .int .u64 0, .int .i64 0, .int .i64 0, .slice none 0 0], .string ⟨#[]⟩, .string ⟨#[]⟩, .int .i64 0], []⟩).memory Tryd.f7.params.toList Rows.endsLongerSpec.vars false (#[.agg #[.int .i64 0, .int .u64 0, .int .u64 0, .int .u64 0, .int .u64 0, .int .i64 0, .int .i64 0, .slice none 0 0], .string ⟨#[]⟩, .string ⟨#[]⟩, .int .i64 0] : Array Value).toList 8 = some ([.agg [.lit (.int .i64 0), .agg [.lit (.int .u64 0), .lit (.int .u64 0), .lit (.int .u64 0), .lit (.int .u64 0)], .lit (.int .i64 0), .lit (.int .i64 0), .nil], .lit (.string []), .lit (.string []), .lit (.int .i64 0)], [], places) :=
  ⟨[], by kernel_rfl⟩

set_option maxRecDepth 100000 in
theorem lifted (os : Os) (started : os.Started) (H : Type) (enc : TypeId × Value → H) (F : Stop.Interp) :
    ReturnsInHanded {} Tryd.checked os 7 .any ((Rows.OpenSpec.upto Rows.endsLongerSpec).preRow enc Tryd.prog Tryd.f7 Rows.endsLongerUptoRow.domain false Rows.endsLongerUptoRow.laid) (((Rows.OpenSpec.upto Rows.endsLongerSpec).at F).post enc Tryd.prog Tryd.f7 false true false false) := by
  obtain ⟨places, hx⟩ := reads os enc
  refine returnsInHanded_of_row (C := Tryd.checked) (s := (Rows.OpenSpec.upto Rows.endsLongerSpec)) own started (by kernel_rfl) Tryd.func7
    (witness_row_atRef (enc := enc) (C := Tryd.checked) false (World.doorLaid Tryd.prog 400 os) #[.agg #[.int .i64 0, .int .u64 0, .int .u64 0, .int .u64 0, .int .u64 0, .int .i64 0, .int .i64 0, .slice none 0 0], .string ⟨#[]⟩, .string ⟨#[]⟩, .int .i64 0] rfl (by kernel_rfl) (by kernel_rfl) (by kernel_rfl)
      (OpenSpec.preRow_of_cond 8 hx (by kernel_rfl) (fun k hk => by cases hk; kernel_rfl) (by kernel_rfl) (laid_met os _))) ?_
  intro W base args ds gs before hval hW _ hcond _ hL _ _
  exact contract H enc W base args ds gs before hval hW hL (hcond _ rfl)

theorem over : Rows.endsLongerUptoRow.holds Tryd.pinned (Rows.OpenSpec.upto Rows.endsLongerSpec) :=
  OpenClaim.holds_of_cond 7 Tryd.f7 rfl rfl rfl rfl rfl rfl rfl ⟨rfl, rfl, rfl, rfl, rfl⟩ rfl rfl rfl rfl rfl (by kernel_rfl) Tryd.func7 (by kernel_rfl)
    (of_decide_eq_true (by kernel_rfl)) (by unfold Func.isWrapper; first | (rw [if_pos (by decide +kernel)]; kernel_rfl) | (rw [if_neg (by decide +kernel)]; exact ⟨rfl, rfl⟩))
    (fun os started H enc _ F => by rw [OpenClaim.pre_eq_preRow]; exact lifted os started H enc F)

/-- No parameter wants a stand-in; the program's own looks are off. -/
theorem bare (f : FuncId) (fn : Func) (hf : Tryd.pinned.checked.prog.funcNamed "sieve/sievelaw11.EndsLonger" = some f) (hfn : Tryd.pinned.checked.prog.funcs[f]? = some fn) :
    true = Tryd.pinned.checked.prog.looks [] ∧ ∀ (j : Nat) t, fn.params[j]? = some t → Tryd.pinned.checked.prog.wantsStandIn t = false := by
  obtain rfl : f = 7 := Option.some.inj ((show Tryd.prog.funcNamed "sieve/sievelaw11.EndsLonger" = some 7 by kernel_rfl).symm.trans hf) |>.symm
  obtain rfl : fn = Tryd.f7 := (Option.some.inj (Tryd.func7.symm.trans hfn)).symm
  refine ⟨by kernel_rfl, fun j t ht => ?_⟩
  rw [Tryd.params7] at ht
  have hm : t ∈ [27, 9, 9, 3] := by simpa using Array.mem_of_getElem? ht
  have hall : ([27, 9, 9, 3].all fun u => !Tryd.prog.wantsStandIn u) = true := by kernel_rfl
  exact (show Tryd.prog.wantsStandIn t = false by simpa using List.all_eq_true.1 hall t hm)

theorem proved : Rows.EndsLongerUptoCardSaid :=
  Claim7.holds_tied_plain_at .later [] _ _ _ _ over (fun _ h => by cases h) (by kernel_rfl) (fun _ h => by cases h) endsLongerUpto_row_tie rfl ⟨rfl, rfl⟩ (by kernel_rfl) rfl bare (by kernel_rfl)
#print axioms proved
end Go.Proofs.YtfpijkcaceoboaaDoor.EndsLonger
