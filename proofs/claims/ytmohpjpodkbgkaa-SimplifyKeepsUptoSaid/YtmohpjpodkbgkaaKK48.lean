/- SimplifyKeeps: the walk. -/
import Derived.Test.YtmohpjpodkbgkaaKK46
import Derived.Test.YtmohpjpodkbgkaaKK38
import Derived.Test.YtmohpjpodkbgkaaKK25
import Derived.Test.YtmohpjpodkbgkaaKK27
namespace Go.Proofs.Ytmohpjpodkbgkaa.P10
open Go.RowKit Go.Proofs.Ytmohpjpodkbgkaa.Base Go.Proofs.Ytmohpjpodkbgkaa.Bytes Go.Proofs.Ytmohpjpodkbgkaa.P07 Go.Proofs.Ytmohpjpodkbgkaa.P08 Go.Proofs.Ytmohpjpodkbgkaa.P09
open Go.Proofs.Ytmohpjpodkbgkaa.Sets (ST)

set_option maxRecDepth 100000 in
set_option maxHeartbeats 16000000 in
theorem law_keeps (t : T) (a : Option Addr) (c : Nat) (w : World) (hta : Lie w (fun _ => True) a t.subs) (hcl : t.subs.length ≤ c) (ht : cnt t ≤ 1000000000) (hst : SOk t) :
    Calls Try.prog 5 #[nodeV t a c] w fun e w' => e = .returned (.bool true) ∧ Keep (fun _ => False) w w' := by
  have q := (Keep.refl (fun _ => False) w).alloc (.cells (ncells t a c) 27)
  have H0 := Lib.hid (And.intro q (show Nd _ w.heap.size t a c from ⟨At.new w _ _, hta.keepF q, hcl⟩))
  have HCT := Lib.hid (And.intro ht hst)
  clear q hta hcl ht hst
  go_enter Try.func5, Try.ntmps5
  go_upto_region 1 with fail
  generalize (w.alloc (.cells (ncells t a c) 27)) = W0 at *
  generalize w.heap.size = n1 at *
  go_wp2_with fail
  refine (awake_true W0).mono ?_
  rintro e w1 ⟨rfl, q1⟩
  have H1 := Lib.hid (And.intro (H0.out.1.trans q1) (H0.out.2.keep q1))
  clear q1
  obtain ⟨x0, x1, x2, x3, x4, x5, x6, x7⟩ := (cells8 H1.out.2.cell).1
  go_wp2_with fail
  refine (few_any t HCT.out.1 a c w1 H1.out.2.lie).mono ?_
  rintro e w2 ⟨rfl, q2⟩
  have H2 := Lib.hid (And.intro (H1.out.1.trans q2) (H1.out.2.keep q2))
  clear q2 x0 x1 x2 x3 x4 x5 x6 x7
  by_cases h1 : sz t ≤ 200
  case neg =>
    have g1 : decide (sz t ≤ 200) = false := decide_eq_false h1
    rw [g1]
    clear g1 h1
    go_wp2_with fail
    refine (awake_true w2).mono ?_
    rintro e w3 ⟨rfl, q3⟩
    have Q3 := Lib.hid (H2.out.1.trans q3)
    clear q3
    go_wp2_with fail
    go_ret
    exact ⟨rfl, Q3.out⟩
  have g1 : decide (sz t ≤ 200) = true := decide_eq_true h1
  rw [g1]
  have HF1 := Lib.hid (few_cnt h1)
  clear g1 h1
  have HRi := Lib.hid (fun W hL => fright_any t HCT.out.1 a c W hL)
  obtain ⟨x0, x1, x2, x3, x4, x5, x6, x7⟩ := (cells8 H2.out.2.cell).1
  cases h3 : rightB t with
  | false =>
    rw [h3] at HRi
    clear h3
    go_wp2_with fail
    refine (HRi.out w2 H2.out.2.lie).mono ?_
    rintro e w3 ⟨rfl, q3⟩
    have Q3 := Lib.hid (H2.out.1.trans q3)
    clear q3
    go_wp2_with fail
    refine (awake_true w3).mono ?_
    rintro e w4 ⟨rfl, q4⟩
    have Q4 := Lib.hid (Q3.out.trans q4)
    clear q4
    go_wp2_with fail
    go_ret
    exact ⟨rfl, Q4.out⟩
  | true =>
    have hR : RT 12 t := (rightB_iff HCT.out.2).1 h3
    have hc2 : cntL [t, t] ≤ 400000 := by have := HF1.out; rw [cntL, cntL, cntL]; omega
    have hsub : ∀ k, ∀ u ∈ unf k [t, t], u.set.Ok := fun k => sets_ok (d := 12) (fun u hu => by simp at hu; rw [hu]; exact hR)
    have HX := Lib.hid (fun (b : Option Addr) (cap : Nat) W (hL : Lie W (fun _ => True) b [t, t]) => And.intro (xcat_any [t, t] b cap (fun _ => True) W hL hc2 (hsub 3)) (xalt_any [t, t] b cap (fun _ => True) W hL hc2 (hsub 4)))
    have HM := Lib.hid (fun W hL => csimple_right t hR (by have := HF1.out; omega) a c (fun _ => True) W hL H2.out.2.le)
    have HTx := Lib.hid (fun W hL => ftext_any t (by have := HF1.out; omega) 12 hR a c W hL)
    rw [h3] at HRi
    clear hR h3 hc2 hsub
    generalize simT t = M at *
    generalize catT [t, t] = C1 at *
    generalize altT [t, t] = C2 at *
    generalize txt t = tx at *
    go_wp2_with fail
    refine (HRi.out w2 H2.out.2.lie).mono ?_
    rintro e w3 ⟨rfl, q3⟩
    have H3 := Lib.hid (And.intro (H2.out.1.trans q3) (H2.out.2.keep q3))
    clear q3 x0 x1 x2 x3 x4 x5 x6 x7
    obtain ⟨x0, x1, x2, x3, x4, x5, x6, x7⟩ := (cells8 H3.out.2.cell).1
    go_wp2_with fail
    refine (HTx.out w3 H3.out.2.lie).mono ?_
    rintro e w4 ⟨rfl, q4⟩
    have H4 := Lib.hid (And.intro (H3.out.1.trans q4) (H3.out.2.keep q4))
    clear q4 x0 x1 x2 x3 x4 x5 x6 x7
    obtain ⟨x0, x1, x2, x3, x4, x5, x6, x7⟩ := (cells8 H4.out.2.cell).1
    go_wp2_with fail
    refine (HM.out w4 H4.out.2.lie).mono ?_
    rintro e w5 ⟨⟨v, rfl, -⟩, q5⟩
    have H5 := Lib.hid (And.intro (H4.out.1.trans q5) (H4.out.2.keep q5))
    clear q5 x0 x1 x2 x3 x4 x5 x6 x7
    obtain ⟨x0, x1, x2, x3, x4, x5, x6, x7⟩ := (cells8 H5.out.2.cell).1
    go_wp2_with fail
    change Calls _ _ _ (two w5 t t a a c c) _
    have HC := Lib.hid ((HX.out (some ⟨w5.heap.size, 0, none⟩) 2 (two w5 t t a a c c) (two_lie H5.out.2.lie H5.out.2.lie H5.out.2.le H5.out.2.le)).1)
    have qq := two_keep w5 t t a a c c
    generalize (two w5 t t a a c c) = V1 at *
    refine HC.out.mono ?_
    rintro e w6 ⟨⟨v, rfl, -⟩, q⟩
    clear HC
    have H6 := Lib.hid (And.intro (H5.out.1.trans (qq.trans q)) (H5.out.2.keep (qq.trans q)))
    clear q qq x0 x1 x2 x3 x4 x5 x6 x7
    obtain ⟨x0, x1, x2, x3, x4, x5, x6, x7⟩ := (cells8 H6.out.2.cell).1
    go_wp2_with fail
    change Calls _ _ _ (two w6 t t a a c c) _
    have HC := Lib.hid ((HX.out (some ⟨w6.heap.size, 0, none⟩) 2 (two w6 t t a a c c) (two_lie H6.out.2.lie H6.out.2.lie H6.out.2.le H6.out.2.le)).2)
    have qq := two_keep w6 t t a a c c
    generalize (two w6 t t a a c c) = V2 at *
    refine HC.out.mono ?_
    rintro e w7 ⟨⟨v, rfl, -⟩, q⟩
    clear HC
    have H7 := Lib.hid (And.intro (H6.out.1.trans (qq.trans q)) (H6.out.2.keep (qq.trans q)))
    clear q qq x0 x1 x2 x3 x4 x5 x6 x7
    obtain ⟨x0, x1, x2, x3, x4, x5, x6, x7⟩ := (cells8 H7.out.2.cell).1
    go_wp2_with fail
    refine (HTx.out w7 H7.out.2.lie).mono ?_
    rintro e w8 ⟨rfl, q8⟩
    have H8 := Lib.hid (H7.out.1.trans q8)
    clear q8 x0 x1 x2 x3 x4 x5 x6 x7
    go_wp2_with fail
    go_ret
    exact ⟨rfl, H8.out⟩
end Go.Proofs.Ytmohpjpodkbgkaa.P10
