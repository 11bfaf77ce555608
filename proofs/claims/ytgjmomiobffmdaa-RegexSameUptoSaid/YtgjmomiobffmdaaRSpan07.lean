/- The code's reader (layer 7): span. -/
import Derived.Test.YtgjmomiobffmdaaRByte07
import Derived.Test.YtgjmomiobffmdaaClass07
namespace Go.Proofs.Ytgjmomiobffmdaa.P07
open Go.RowKit Go.Proofs.Ytgjmomiobffmdaa.Base Go.Proofs.Ytgjmomiobffmdaa.Bytes
open Go.Proofs.Ytgjmomiobffmdaa.Sets (ST)

/-- The reader, and a result's own block. -/
structure Rs (w : World) (b : Nat) (l : List UInt8) (ty : TypeId) (o : Array Value) (s : PS) (W : World) : Prop where
  rd : Rd W b l s
  out : At W w.heap.size ty o
  keep : Keep (fun i => i = b) w W
  low : b < w.heap.size
theorem Rs.start {w : World} {b : Nat} {l : List UInt8} {s : PS} (h : Rd w b l s) (ty : TypeId) (o : Array Value) : Rs w b l ty o s (w.alloc (.cells o ty)) :=
  ⟨h.alloc _, At.new w o ty, (Keep.refl _ w).alloc _, At.lt h⟩
theorem Rs.step {w : World} {b : Nat} {l : List UInt8} {ty : TypeId} {o : Array Value} {s s' : PS} {W W' : World} (I : Rs w b l ty o s W) (h : Rd W' b l s') (q : Keep (fun i => i = b) W W') : Rs w b l ty o s' W' :=
  ⟨h, I.out.keep q (by have := I.low; omega), I.keep.trans q, I.low⟩
theorem Rs.quiet {w : World} {b : Nat} {l : List UInt8} {ty : TypeId} {o : Array Value} {s : PS} {W W' : World} (I : Rs w b l ty o s W) (q : Keep (fun _ => False) W W') : Rs w b l ty o s W' :=
  I.step (I.rd.keep q (fun h => h)) (upk b q)
theorem Rs.ne {w : World} {b : Nat} {l : List UInt8} {ty : TypeId} {o : Array Value} {s : PS} {W : World} (I : Rs w b l ty o s W) : b ≠ w.heap.size := by have := I.low; omega

/-- A set of bytes, by a list. -/
@[reducible] def VS (_ : World) (v : Value) (L : List Nat) : Prop := v = val (mkS L) ∧ ∀ x ∈ L, x < 256

theorem mk_append (L M : List Nat) : mkS (L ++ M) = ST.or (mkS L) (mkS M) := by
  refine ST.ext (mk_ok _ _ rfl) (ST.or_ok (mk_ok _ _ rfl) (mk_ok _ _ rfl)) (fun b hb => ?_)
  rw [mk_has b hb _ _ rfl, ST.has_or _ _ _ hb, mk_has b hb _ _ rfl, mk_has b hb _ _ rfl, Bool.eq_iff_iff]
  simp
theorem mk_upto (lo hi : Nat) : mkS (upto lo hi) = ST.range lo hi := by
  refine ST.ext (mk_ok _ _ rfl) (ST.range_ok _ _) (fun b hb => ?_)
  rw [mk_has b hb _ _ rfl, ST.has_range _ _ _ hb]
  apply decide_eq_decide.2
  unfold upto
  rw [List.mem_map]
  constructor
  · rintro ⟨i, hi, rfl⟩
    have := List.mem_range.1 hi
    omega
  · rintro ⟨h1, h2⟩
    exact ⟨b - lo, List.mem_range.2 (by omega), by omega⟩

set_option maxRecDepth 100000 in
set_option maxHeartbeats 4000000 in
theorem rspan_any (b : Nat) (l : List UInt8) (s : PS) (hb : s.bad = none) (hp : s.pos ≤ l.length) (hl : l.length ≤ 100000000) (w : World) (h : Rd w b l s) :
    Calls Try.prog 55 #[.pointer (some ⟨b, 0, none⟩)] w (Outs w b l VS (range1 l s)) := by
  have hby := fun W h1 => rbyte_any b l s hb hp hl W h1
  have r1 := one_range l s
  have hp1 := fun h => one_sharp.toTame.pos_le hb hp h
  have hr : range1 l s = dashB (one l s).1 (nxt l (one l s).2) l (one l s).2 := rfl
  have hbd : ∀ x, (one l s).2.bad = some x → (range1 l s).2.bad = some x := fun x h => by rw [hr]; exact (dash_tame _).bad l _ x h
  obtain ⟨r, hrr⟩ : ∃ r, range1 l s = r := ⟨_, rfl⟩
  rw [hrr] at hr hbd ⊢
  obtain ⟨⟨lo, s1⟩, h1⟩ : ∃ q, one l s = q := ⟨_, rfl⟩
  rw [h1] at hby r1 hp1 hr hbd
  dsimp only at r1 hp1 hr hbd
  obtain ⟨lo, rfl⟩ : ∃ n : Nat, lo = n := ⟨lo.toNat, by omega⟩
  have HC := Lib.hid (And.intro hby (And.intro hp1 (And.intro hr hbd)))
  have W0 := Lib.hid (Rs.start h 25 zeros)
  clear h hby hp1 hr hbd hrr h1 hb hp
  go_enter Try.func55, Try.ntmps55
  go_wp2_with fail
  generalize (w.alloc (.cells zeros 25)) = V at *
  refine (HC.out.1 V W0.out.rd).mono ?_
  intro e w2 hO
  rcases hO.split with ⟨hb2, v, rfl, hv, h2, q2⟩ | ⟨x, hb2, rfl, q2⟩
  · unfold VB at hv
    subst hv
    have I2 := W0.out.step h2 q2
    clear h2 q2 hO
    have hpos := HC.out.2.1 hb2
    by_cases h45 : nxt l s1 = 45
    · have hlt := nxt_lt (l := l) (s := s1) (by omega)
      have ht := take_yes b 45 l s1 h45 hl w2 I2.rd
      have hby := fun W h1 => rbyte_any b l s1.adv hb2 (show s1.pos + 1 ≤ l.length by omega) hl W h1
      have r2 := one_range l s1.adv
      have hr := HC.out.2.2.1
      unfold dashB hiP at hr
      rw [if_pos h45] at hr
      have ha : s1.adv.pos = s1.pos + 1 := rfl
      rw [ha] at hr
      obtain ⟨⟨hi, s2⟩, h1⟩ : ∃ q, one l s1.adv = q := ⟨_, rfl⟩
      rw [h1] at hby r2 hr
      dsimp only at r2 hr
      obtain ⟨hi, rfl⟩ : ∃ n : Nat, hi = n := ⟨hi.toNat, by omega⟩
      have H2 := Lib.hid (And.intro I2 (And.intro ht (And.intro hby hr)))
      clear I2 ht hby hr h1 h45 hb2 ha
      go_wp2_with fail
      refine H2.out.2.1.mono ?_
      rintro e w3 ⟨rfl, h3, q3⟩
      have c1 : w3.cell? ⟨b, 1, none⟩ = some (.int .i64 ((s1.pos : Int) + 1)) := h3.cell (o := 1) rfl
      have H3 := Lib.hid (And.intro (H2.out.1.step h3 q3) h3)
      clear h3 q3
      go_wp2_with fail
      refine (H2.out.2.2.1 w3 H3.out.2).mono ?_
      intro e w4 hO
      rcases hO.split with ⟨hb4, v, rfl, hv, h4, q4⟩ | ⟨x, hb4, rfl, q4⟩
      · unfold VB at hv
        subst hv
        have I4 := H3.out.1.step h4 q4
        clear h4 q4 hO c1
        by_cases hlo : hi < lo
        · have hlo' : (hi : Int) < (lo : Int) := by omega
          have H4 := Lib.hid (And.intro I4 hb4)
          clear I4 hb4
          go_wp2_with fail
          refine ⟨rfl, Outs.gave (x := s1.pos + 1) ?_ H4.out.1.keep⟩
          rw [H2.out.2.2.2, if_pos ⟨H4.out.2, by omega⟩]
          exact bad_fail H4.out.2 _
        · have hlo' : ¬ (hi : Int) < (lo : Int) := by omega
          have hof := of_any lo hi (by omega) (by omega) w4
          have hr := H2.out.2.2.2
          rw [if_neg (by rintro ⟨_, h⟩; omega)] at hr
          have hmk := mk_upto lo hi
          have H4 := Lib.hid (And.intro I4 (And.intro hb4 (And.intro hof (And.intro hr hmk))))
          clear I4 hb4 hof hr hmk
          obtain ⟨R, hR⟩ : ∃ R, ST.range lo hi = R := ⟨_, rfl⟩
          rw [hR] at H4
          go_wp2_with fail
          refine H4.out.2.2.1.mono ?_
          rintro e w5 ⟨rfl, q5⟩
          have I5 := H4.out.1.quiet q5
          obtain ⟨⟨d0, d1, d2, d3⟩, f0, f1, f2, f3⟩ := cells4 I5.out
          have H5 := Lib.hid I5
          clear I5 q5 hR
          go_wp2_with fail
          have a := set4 H5.out.out (.int .u64 R.x0) (.int .u64 R.x1) (.int .u64 R.x2) (.int .u64 R.x3)
          have q := keep4 H5.out.keep (b := w.heap.size) (fun h => absurd h (by simp)) (.int .u64 R.x0) (.int .u64 R.x1) (.int .u64 R.x2) (.int .u64 R.x3)
          have p : At _ b _ _ := (((At.setOther H5.out.rd (p := ⟨w.heap.size, 0, none⟩) H5.out.ne (.int .u64 R.x0)).setOther (p := ⟨w.heap.size, 1, none⟩) H5.out.ne (.int .u64 R.x1)).setOther (p := ⟨w.heap.size, 2, none⟩) H5.out.ne (.int .u64 R.x2)).setOther (p := ⟨w.heap.size, 3, none⟩) H5.out.ne (.int .u64 R.x3)
          generalize World.setCell _ _ _ = W2 at *
          obtain ⟨⟨e0, e1, e2, e3⟩, -⟩ := cells4 a
          refine bodyPost_ret (v := val R) (by simp [results, Try.results55, go_sem, e0, e1, e2, e3]) rfl ?_
          refine Outs.ok (by rw [H4.out.2.2.2.1]; exact H4.out.2.1) (by rw [H4.out.2.2.2.1]; exact ⟨by rw [H4.out.2.2.2.2], upto_lt (by omega) (by omega)⟩) (by rw [H4.out.2.2.2.1]; exact p) q
      · have H4 := Lib.hid (And.intro hb4 (H3.out.1.keep.trans q4))
        clear hb4 q4 hO
        go_wp2_with fail
        refine ⟨rfl, Outs.gave (x := x) ?_ H4.out.2⟩
        rw [H2.out.2.2.2, if_neg (by rintro ⟨h, _⟩; rw [H4.out.1] at h; cases h)]
        exact H4.out.1
    · have ht := take_no b 45 l s1 hb2 h45 w2 I2.rd
      have hof := fun W => of_any lo lo (by omega) (by omega) W
      have hr := HC.out.2.2.1
      unfold dashB at hr
      rw [if_neg h45] at hr
      have hmk := mk_upto lo lo
      have H2 := Lib.hid (And.intro I2 (And.intro ht (And.intro hof (And.intro hr (And.intro hmk hb2)))))
      clear I2 ht hof hr h45 hb2 hmk
      obtain ⟨R, hR⟩ : ∃ R, ST.range lo lo = R := ⟨_, rfl⟩
      rw [hR] at H2
      go_wp2_with fail
      refine H2.out.2.1.mono ?_
      rintro e w3 ⟨rfl, h3, q3⟩
      have H3 := Lib.hid (H2.out.1.step h3 q3)
      clear h3 q3
      have hlo' : ¬ (lo : Int) < (lo : Int) := by omega
      go_wp2_with fail
      refine (H2.out.2.2.1 w3).mono ?_
      rintro e w5 ⟨rfl, q5⟩
      have I5 := H3.out.quiet q5
      obtain ⟨⟨d0, d1, d2, d3⟩, f0, f1, f2, f3⟩ := cells4 I5.out
      have H5 := Lib.hid I5
      clear I5 q5 hR
      go_wp2_with fail
      have a := set4 H5.out.out (.int .u64 R.x0) (.int .u64 R.x1) (.int .u64 R.x2) (.int .u64 R.x3)
      have q := keep4 H5.out.keep (b := w.heap.size) (fun h => absurd h (by simp)) (.int .u64 R.x0) (.int .u64 R.x1) (.int .u64 R.x2) (.int .u64 R.x3)
      have p : At _ b _ _ := (((At.setOther H5.out.rd (p := ⟨w.heap.size, 0, none⟩) H5.out.ne (.int .u64 R.x0)).setOther (p := ⟨w.heap.size, 1, none⟩) H5.out.ne (.int .u64 R.x1)).setOther (p := ⟨w.heap.size, 2, none⟩) H5.out.ne (.int .u64 R.x2)).setOther (p := ⟨w.heap.size, 3, none⟩) H5.out.ne (.int .u64 R.x3)
      generalize World.setCell _ _ _ = W2 at *
      obtain ⟨⟨e0, e1, e2, e3⟩, -⟩ := cells4 a
      refine bodyPost_ret (v := val R) (by simp [results, Try.results55, go_sem, e0, e1, e2, e3]) rfl ?_
      refine Outs.ok (by rw [H2.out.2.2.2.1]; exact H2.out.2.2.2.2.2) (by rw [H2.out.2.2.2.1]; exact ⟨by rw [H2.out.2.2.2.2.1], upto_lt (by omega) (by omega)⟩) (by rw [H2.out.2.2.2.1]; exact p) q
  · have H2 := Lib.hid (And.intro hb2 (W0.out.keep.trans q2))
    clear hb2 q2 hO
    go_wp2_with fail
    exact ⟨rfl, Outs.gave (x := x) (HC.out.2.2.2 _ H2.out.1) H2.out.2⟩
end Go.Proofs.Ytgjmomiobffmdaa.P07
