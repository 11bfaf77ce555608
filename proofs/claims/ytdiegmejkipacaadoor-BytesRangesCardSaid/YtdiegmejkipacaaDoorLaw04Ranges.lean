/- The walk of BytesRanges. -/
import Derived.Test.YtdiegmejkipacaaDoorEqs
namespace Go.Proofs.YtdiegmejkipacaaDoor.BytesRanges
open Go.ChangeShapes Go.WideShapes Go.RowKit Go.Proofs.YtdiegmejkipacaaDoor.Base Go.Proofs.YtdiegmejkipacaaDoor.Sets Go.Proofs.YtdiegmejkipacaaDoor.PL Go.Proofs.YtdiegmejkipacaaDoor.IL Go.Proofs.YtdiegmejkipacaaDoor.Bytes Go.Proofs.YtdiegmejkipacaaDoor.Law04 Go.Proofs.YtdiegmejkipacaaDoor.Tied

/-- The ranges' bytes together. -/
def sumT : List (Nat × Nat) → ST
  | [] => .none
  | r :: l => (sumT l).or (.range r.1 r.2)

theorem sumT_ok : ∀ l, (sumT l).Ok
  | [] => ST.none_ok
  | _ :: l => ST.or_ok (sumT_ok l) (ST.range_ok _ _)

theorem has_sumT (b : Nat) (hb : b < 256) : ∀ l, (sumT l).has b = true ↔ ∃ r, r ∈ l ∧ r.1 ≤ b ∧ b ≤ r.2
  | [] => by simp [sumT, ST.has_none]
  | r :: l => by
    have i := has_sumT b hb l
    rw [sumT, ST.has_or _ _ _ hb, ST.has_range _ _ _ hb]
    simp only [Bool.or_eq_true, i, decide_eq_true_eq, List.mem_cons]
    constructor
    · rintro (⟨s, h1, h2⟩ | h)
      · exact ⟨s, .inr h1, h2⟩
      · exact ⟨r, .inl rfl, h⟩
    · rintro ⟨s, rfl | h1, h2⟩
      · exact .inr h2
      · exact .inl ⟨s, h1, h2⟩

theorem sumT_rgs {s : ST} (hs : s.Ok) : sumT (rgs s.has 256).reverse = s := by
  refine ST.ext (sumT_ok _) hs fun b hb => ?_
  have h1 := has_sumT b hb (rgs s.has 256).reverse
  have h2 := (rgs_ok s.has 256).mem b
  rw [Bool.eq_iff_iff, h1]
  simp only [List.mem_reverse]
  rw [h2]
  exact ⟨fun h => h.2, fun h => ⟨hb, h⟩⟩

theorem take_rev {L : List (Nat × Nat)} {k : Nat} {r : Nat × Nat} (h : L[k]? = some r) : (L.take (k + 1)).reverse = r :: (L.take k).reverse := by
  rw [List.take_add_one, h]
  simp

set_option maxRecDepth 100000 in
set_option maxHeartbeats 1000000 in
theorem walk {H : Type} {enc : TypeId × Value → H} (v0 v1 v2 v3 : Value) {d0 d1 d2 d3 : DataW H} {p0 p1 p2 p3 : List MemPlace} (W : World) (hT : Tab W)
    (k0 : Value.okWide Tryd.prog W .any 0 24 v0) (k1 : Value.okWide Tryd.prog W .any 0 5 v1) (k2 : Value.okWide Tryd.prog W .any 0 5 v2) (k3 : Value.okWide Tryd.prog W .any 0 5 v3)
    (h0 : DataW.Trod enc Tryd.prog W 0 (fun _ => true) true 24 v0 d0 p0) (h1 : DataW.Trod enc Tryd.prog W 0 (fun _ => true) true 5 v1 d1 p1) (h2 : DataW.Trod enc Tryd.prog W 0 (fun _ => true) true 5 v2 d2 p2) (h3 : DataW.Trod enc Tryd.prog W 0 (fun _ => true) true 5 v3 d3 p3) :
    Calls Tryd.prog 5 #[v0, v1, v2, v3] W fun e w' => e = .returned (.bool true) ∧ Below W.heap.size W w' := by
  obtain ⟨s, rfl, hs⟩ := set_arg k0 h0
  obtain ⟨lo, rfl, hlo⟩ := byte_arg k1 h1
  obtain ⟨hi, rfl, hhi⟩ := byte_arg k2 h2
  obtain ⟨x, rfl, hx⟩ := byte_arg k3 h3
  clear k0 k1 k2 k3 h0 h1 h2 h3
  have HT := Lib.hid hT
  clear hT
  go_enter Tryd.func5, Tryd.ntmps5
  go_wp2_with fail
  have a1 := (At.new W (cells s) 24).alloc (.cells zeros 24)
  have a2 := At.new (W.alloc (.cells (cells s) 24)) zeros 24
  have q := ((Keep.refl (fun _ => False) W).alloc (.cells (cells s) 24)).alloc (.cells zeros 24)
  rw [show (W.alloc (.cells (cells s) 24)).heap.size = W.heap.size + 1 from by simp] at a2
  have A1 := Lib.hid (And.intro a1 (And.intro a2 q))
  obtain ⟨⟨c0, c1, c2, c3⟩, -⟩ := cells4 a1
  clear a1 a2 q
  generalize ((W.alloc (.cells (cells s) 24)).alloc (.cells zeros 24)) = w0 at *
  go_wp2_with fail
  refine (ranges_any s hs w0 (HT.out.keep A1.out.2.2)).mono ?_
  rintro e w1 ⟨lv, rfl, hp, -, q1⟩
  have hl := rgs_le s.has 256
  have hord := (rgs_ok s.has 256).ord
  have hsum := sumT_rgs hs
  generalize rgs s.has 256 = L at *
  obtain ⟨a, cap, rfl, -, -⟩ := hp.form
  have H := Lib.hid (And.intro hp (And.intro (A1.out.1.keep q1 (fun h => h)) (And.intro (A1.out.2.1.keep q1 (fun h => h)) (And.intro (A1.out.2.2.trans q1) (And.intro hord hsum)))))
  clear hp q1 hord hsum c0 c1 c2 c3 A1
  go_wp2_with fail
  go_loopg [15] L.length (fun gg i wr => ∃ k : Nat, i = .int .i64 k ∧ k + gg = L.length ∧ PL wr (.slice a L.length cap) L ∧ At wr W.heap.size 24 (cells s) ∧ At wr (W.heap.size + 1) 24 (cells (sumT (L.take k).reverse)) ∧ Keep (fun _ => False) W wr)
  case atStart => exact ⟨0, rfl, by omega, H.out.1, H.out.2.1, H.out.2.2.1, H.out.2.2.2.1⟩
  case round =>
    obtain ⟨k, rfl, hk, hp, ha, hb, hq⟩ := hrel
    have ok := sumT_ok (L.take k).reverse
    by_cases hlt : k < L.length
    · obtain ⟨r, hr⟩ : ∃ r, L[k]? = some r := ⟨L[k], List.getElem?_eq_getElem hlt⟩
      obtain ⟨g, rfl, e0, e1⟩ := PL.get hp hr
      have hrr := H.out.2.2.2.2.1 r (List.mem_of_getElem? hr)
      have i0 : (0 : Int) ≤ (k : Int) := by omega
      have i1 : (k : Int) < (L.length : Int) := by omega
      have hnext : sumT (L.take (k + 1)).reverse = (sumT (L.take k).reverse).or (.range r.1 r.2) := by rw [take_rev hr]; rfl
      obtain ⟨cur, hg⟩ := PL.at_ hp
      have hne : g ≠ W.heap.size + 1 := at_ne hg hb (by decide)
      have HR := Lib.hid (And.intro hk (And.intro hp (And.intro ha (And.intro hq (And.intro hnext hne)))))
      clear hk hp ha hq hnext hr hg hne
      go_wp2_with fail
      have qa := (Keep.refl (fun _ => False) wr).alloc (.cells #[.int .u8 r.1, .int .u8 r.2] 30)
      have an := At.new wr #[.int .u8 r.1, .int .u8 r.2] 30
      have hb2 := hb.keep qa (fun h => h)
      clear hb e0 e1
      generalize wr.heap.size = bn at *
      generalize (wr.alloc (.cells #[.int .u8 r.1, .int .u8 r.2] 30)) = w2 at *
      generalize sumT (L.take k).reverse = T at *
      have n0 : w2.cell? ⟨bn, 0, none⟩ = some (.int .u8 r.1) := an.cell rfl
      have n1 : w2.cell? ⟨bn, 1, none⟩ = some (.int .u8 r.2) := an.cell rfl
      obtain ⟨⟨d0, d1, d2, d3⟩, f0, f1, f2, f3⟩ := cells4 hb2
      have HB := Lib.hid (And.intro hb2 qa)
      clear hb2 qa an
      go_wp2_with fail
      go_region_with (first
        | (go_at_call 23; refine (of_any r.1 r.2 (by omega) (by omega) _).mono ?_; rintro e w3 ⟨rfl, q3⟩; have H3 := Lib.hid (And.intro (HB.out.1.drew.keep q3 (fun h => h)) (HB.out.2.drew.trans q3)); clear q3; obtain ⟨⟨d0, d1, d2, d3⟩, f0, f1, f2, f3⟩ := cells4 H3.out.1)
        | (go_at_call 20; refine (or_any T (ST.range r.1 r.2) ok (ST.range_ok _ _) _).mono ?_; rintro e w4 ⟨rfl, q4⟩; have H4 := Lib.hid (And.intro (H3.out.1.keep q4 (fun h => h)) (H3.out.2.trans q4)); clear q4; obtain ⟨⟨d0, d1, d2, d3⟩, f0, f1, f2, f3⟩ := cells4 H4.out.1))
      all_goals
        go_wp2_with fail
        go_roundg (L.length - (k + 1))
        case measure => have := HR.out.1; omega
        case rel =>
          obtain ⟨hk, hp, ha, hq, hnext, hne⟩ := HR.out
          obtain ⟨b4, q4⟩ := H4.out
          have b5 := set4 b4 (.int .u64 (T.or (ST.range r.1 r.2)).x0) (.int .u64 (T.or (ST.range r.1 r.2)).x1) (.int .u64 (T.or (ST.range r.1 r.2)).x2) (.int .u64 (T.or (ST.range r.1 r.2)).x3)
          have q5 := keep4 (Keep.refl (fun i => i = W.heap.size + 1) w4) (b := W.heap.size + 1) (fun _ => rfl) (.int .u64 (T.or (ST.range r.1 r.2)).x0) (.int .u64 (T.or (ST.range r.1 r.2)).x1) (.int .u64 (T.or (ST.range r.1 r.2)).x2) (.int .u64 (T.or (ST.range r.1 r.2)).x3)
          refine ⟨k + 1, by go_num, by omega, (hp.keep q4 (fun _ _ h => h)).keep q5 (fun g' hg' h => ?_), (ha.keep q4 (fun h => h)).keep q5 (by omega), by rw [hnext]; exact b5, (hq.trans q4).next q5 (fun i hi hl => by omega)⟩
          injection hg' with hg'
          subst hg'
          exact hne h
    · have hkl : k = L.length := by omega
      subst hkl
      rw [List.take_length, H.out.2.2.2.2.2] at hb
      obtain ⟨⟨d0, d1, d2, d3⟩, -⟩ := cells4 hb
      have HR := Lib.hid (And.intro ha (And.intro hb hq))
      clear hp ha hb hq hk ok H d0 d1 d2 d3
      go_wp2_with fail
      refine (awake_any wr (HT.out.keep HR.out.2.2)).mono ?_
      rintro e w2 ⟨rfl, q2⟩
      have ha2 := HR.out.1.keep q2 (fun h => h)
      have hb2 := HR.out.2.1.keep q2 (fun h => h)
      obtain ⟨⟨c0, c1, c2, c3⟩, -⟩ := cells4 ha2
      obtain ⟨⟨d0, d1, d2, d3⟩, -⟩ := cells4 hb2
      have HQ := Lib.hid (HR.out.2.2.trans q2)
      clear ha2 hb2 q2 HR
      have eq1 : ∀ w, (Op.equalIn 10000 24 (val s) (val s)).run Tryd.prog w = .ok true w := eq_yes rfl
      have eq2 : ∀ w, (Op.equalIn 10000 24 (val (ST.range lo lo)) (val (ST.one lo))).run Tryd.prog w = .ok true w := eq_yes rfl
      by_cases hC : lo ≤ x ∧ x ≤ hi
      · have hv : (ST.range lo hi).has x = true := by rw [ST.has_range _ _ _ hx]; exact decide_eq_true hC
        have HV := Lib.hid hv
        have hA : (lo : Int) ≤ (x : Int) := by omega
        have hB : (x : Int) ≤ (hi : Int) := by omega
        clear hv hC
        go_wp2_with fail
        refine (of_any lo hi hlo hhi w2).mono ?_
        rintro e w3 ⟨rfl, q3⟩
        have HQ3 := Lib.hid (HQ.out.trans q3)
        clear q3
        go_wp2_with fail
        refine (has_is HV.out (ST.range_ok _ _) hx w3).mono ?_
        rintro e w4 ⟨rfl, q4⟩
        have HQ4 := Lib.hid (HQ3.out.trans q4)
        clear q4
        go_wp2_with fail
        refine (of_any lo lo hlo hlo w4).mono ?_
        rintro e w5 ⟨rfl, q5⟩
        have HQ5 := Lib.hid (HQ4.out.trans q5)
        clear q5
        go_wp2_with fail
        refine (one_any lo hlo w5).mono ?_
        rintro e w6 ⟨rfl, q6⟩
        have HQ6 := Lib.hid (HQ5.out.trans q6)
        clear q6
        go_wp2
        go_ret
        exact ⟨rfl, HQ6.out.below (Nat.le_refl _) (fun _ _ h => h)⟩
      · have hv : (ST.range lo hi).has x = false := by rw [ST.has_range _ _ _ hx]; exact decide_eq_false hC
        have HV := Lib.hid hv
        clear hv
        by_cases hD : lo ≤ x
        · have hA : (lo : Int) ≤ (x : Int) := by omega
          have hB : ¬ (x : Int) ≤ (hi : Int) := by omega
          have hBn : decide (x ≤ hi) = false := decide_eq_false (by omega)
          clear hC hD
          go_wp2_with fail
          refine (of_any lo hi hlo hhi w2).mono ?_
          rintro e w3 ⟨rfl, q3⟩
          have HQ3 := Lib.hid (HQ.out.trans q3)
          clear q3
          go_wp2_with fail
          refine (has_is HV.out (ST.range_ok _ _) hx w3).mono ?_
          rintro e w4 ⟨rfl, q4⟩
          have HQ4 := Lib.hid (HQ3.out.trans q4)
          clear q4
          go_wp2_with fail
          refine (of_any lo lo hlo hlo w4).mono ?_
          rintro e w5 ⟨rfl, q5⟩
          have HQ5 := Lib.hid (HQ4.out.trans q5)
          clear q5
          go_wp2_with fail
          refine (one_any lo hlo w5).mono ?_
          rintro e w6 ⟨rfl, q6⟩
          have HQ6 := Lib.hid (HQ5.out.trans q6)
          clear q6
          go_wp2
          go_ret
          exact ⟨rfl, HQ6.out.below (Nat.le_refl _) (fun _ _ h => h)⟩
        · have hA : ¬ (lo : Int) ≤ (x : Int) := by omega
          clear hC hD
          go_wp2_with fail
          refine (of_any lo hi hlo hhi w2).mono ?_
          rintro e w3 ⟨rfl, q3⟩
          have HQ3 := Lib.hid (HQ.out.trans q3)
          clear q3
          go_wp2_with fail
          refine (has_is HV.out (ST.range_ok _ _) hx w3).mono ?_
          rintro e w4 ⟨rfl, q4⟩
          have HQ4 := Lib.hid (HQ3.out.trans q4)
          clear q4
          go_wp2_with fail
          refine (of_any lo lo hlo hlo w4).mono ?_
          rintro e w5 ⟨rfl, q5⟩
          have HQ5 := Lib.hid (HQ4.out.trans q5)
          clear q5
          go_wp2_with fail
          refine (one_any lo hlo w5).mono ?_
          rintro e w6 ⟨rfl, q6⟩
          have HQ6 := Lib.hid (HQ5.out.trans q6)
          clear q6
          go_wp2
          go_ret
          exact ⟨rfl, HQ6.out.below (Nat.le_refl _) (fun _ _ h => h)⟩
end Go.Proofs.YtdiegmejkipacaaDoor.BytesRanges
