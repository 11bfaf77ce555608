/- The code's bytesOf, then, or, repeated, length (layer 9). -/
import Derived.Test.YtblijgcfelnlmaaKP24
import Derived.Test.YtblijgcfelnlmaaKP03
import Derived.Test.YtblijgcfelnlmaaKP09
import Derived.Deep.DeepCutAuto
import Derived.Deep.CutBlock
namespace Go.Proofs.Ytblijgcfelnlmaa.P09
open Go.RowKit Go.Proofs.Ytblijgcfelnlmaa.Base Go.Proofs.Ytblijgcfelnlmaa.Bytes Go.Proofs.Ytblijgcfelnlmaa.P07 Go.Proofs.Ytblijgcfelnlmaa.P08
open Go.Proofs.Ytblijgcfelnlmaa.Sets (ST)

@[reducible] def xcells (x : TX) : Array Value := #[.bool x.none, .bool x.endless, .int .u64 x.first.x0, .int .u64 x.first.x1, .int .u64 x.first.x2, .int .u64 x.first.x3, .int .i64 x.least, .int .i64 x.most]
@[reducible] def xV (x : TX) : Value := .agg (xcells x)
@[reducible] def xzeros : Array Value := #[.bool false, .bool false, .int .u64 0, .int .u64 0, .int .u64 0, .int .u64 0, .int .i64 0, .int .i64 0]
def xput (w : World) (b : Nat) (x : TX) : World := put8 w b (.bool x.none) (.bool x.endless) (.int .u64 x.first.x0) (.int .u64 x.first.x1) (.int .u64 x.first.x2) (.int .u64 x.first.x3) (.int .i64 x.least) (.int .i64 x.most)
theorem xput_at {w : World} {b : Nat} {t : TypeId} {y0 y1 y2 y3 y4 y5 y6 y7 : Value} (h : At w b t #[y0, y1, y2, y3, y4, y5, y6, y7]) (x : TX) : At (xput w b x) b t (xcells x) := set8 h _ _ _ _ _ _ _ _
theorem xput_keep {S : Nat → Prop} {a w : World} (h : Keep S a w) {b : Nat} (hp : b < a.heap.size → S b) (x : TX) : Keep S a (xput w b x) := keep8 h hp _ _ _ _ _ _ _ _

set_option maxRecDepth 100000 in
set_option maxHeartbeats 2000000 in
theorem bytesOf_any (s : ST) (hs : s.Ok) (w : World) : Calls Try.prog 49 #[val s] w fun e w' => e = .returned (xV (TX.cls s)) ∧ Keep (fun _ => False) w w' := by
  have a1 := (At.new w (cells s) 24).alloc (.cells xzeros 52)
  have a2 := At.new (w.alloc (.cells (cells s) 24)) xzeros 52
  have q := ((Keep.refl (fun _ => False) w).alloc (.cells (cells s) 24)).alloc (.cells xzeros 52)
  rw [show (w.alloc (.cells (cells s) 24)).heap.size = w.heap.size + 1 from by simp] at a2
  obtain ⟨X, hX⟩ : ∃ X, TX.cls s = X := ⟨_, rfl⟩
  have hc : ((s.count : Int) == 0) = true ∧ X = .nothing ∨ ((s.count : Int) == 0) = false ∧ X = ⟨false, false, s, 1, 1⟩ := by
    rw [← hX]
    unfold TX.cls
    by_cases h : s.count = 0
    · exact .inl ⟨by simp [h], if_pos h⟩
    · exact .inr ⟨by simp [h], if_neg h⟩
  rw [hX]
  have HW : ∀ b, w.heap.size ≤ b → b < w.heap.size → False := fun b h1 h2 => by omega
  have H0 := Lib.hid (And.intro a1 (And.intro a2 (And.intro q (And.intro hc (And.intro HW hs)))))
  clear a1 a2 q hc hX HW hs
  go_enter Try.func49, Try.ntmps49
  go_upto_region 1 with fail
  generalize ((w.alloc (.cells (cells s) 24)).alloc (.cells xzeros 52)) = W at *
  obtain ⟨⟨c0, c1, c2, c3⟩, -⟩ := cells4 H0.out.1
  go_wp2_with fail
  refine (count_any s H0.out.2.2.2.2.2 W).mono ?_
  rintro e w1 ⟨rfl, q1⟩
  have H1 := Lib.hid (And.intro (H0.out.1.keep q1 (fun h => h)) (And.intro (H0.out.2.1.keep q1 (fun h => h)) (H0.out.2.2.1.trans q1)))
  clear q1 c0 c1 c2 c3
  obtain ⟨⟨c0, c1, c2, c3⟩, -⟩ := cells4 H1.out.1
  obtain ⟨⟨g0, g1, g2, g3, g4, g5, g6, g7⟩, ⟨f0, f1, f2, f3, f4, f5, f6, f7⟩⟩ := cells8 H1.out.2.1
  rcases H0.out.2.2.2.1 with ⟨hz, hX⟩ | ⟨hz, hX⟩
  · subst hX
    go_wp2_with fail
    change bodyPost _ _ _ _ _ (xput w1 (w.heap.size + 1) .nothing)
    have a := xput_at H1.out.2.1 .nothing
    have q := xput_keep H1.out.2.2 (b := w.heap.size + 1) (fun h => H0.out.2.2.2.2.1 _ (by omega) h) .nothing
    generalize (xput w1 (w.heap.size + 1) .nothing) = W9 at a q ⊢
    obtain ⟨⟨e0, e1, e2, e3, e4, e5, e6, e7⟩, -⟩ := cells8 a
    exact bodyPost_ret (v := xV .nothing) (by simp [results, Try.results49, go_sem, e0, e1, e2, e3, e4, e5, e6, e7]) rfl ⟨rfl, q⟩
  · subst hX
    go_wp2_with fail
    change bodyPost _ _ _ _ _ (xput w1 (w.heap.size + 1) ⟨false, false, s, 1, 1⟩)
    have a := xput_at H1.out.2.1 ⟨false, false, s, 1, 1⟩
    have q := xput_keep H1.out.2.2 (b := w.heap.size + 1) (fun h => H0.out.2.2.2.2.1 _ (by omega) h) ⟨false, false, s, 1, 1⟩
    generalize (xput w1 (w.heap.size + 1) ⟨false, false, s, 1, 1⟩) = W9 at a q ⊢
    obtain ⟨⟨e0, e1, e2, e3, e4, e5, e6, e7⟩, -⟩ := cells8 a
    exact bodyPost_ret (v := xV ⟨false, false, s, 1, 1⟩) (by simp [results, Try.results49, go_sem, e0, e1, e2, e3, e4, e5, e6, e7]) rfl ⟨rfl, q⟩

/-- Length's answer. -/
def TX.len (x : TX) : Int × Int := if x.none = true then (-1, -1) else if x.endless = true then (x.least, -1) else (x.least, x.most)
set_option maxRecDepth 100000 in
set_option maxHeartbeats 2000000 in
theorem length_any (x : TX) (w : World) : Calls Try.prog 36 #[xV x] w fun e w' => e = .returned (.tuple #[.int .i64 x.len.1, .int .i64 x.len.2]) ∧ Keep (fun _ => False) w w' := by
  have a1 := At.new w (xcells x) 52
  have q := (Keep.refl (fun _ => False) w).alloc (.cells (xcells x) 52)
  have H0 := Lib.hid (And.intro a1 q)
  clear a1 q
  obtain ⟨xn, xe, xf, xl, xm⟩ := x
  cases xn <;> cases xe
  all_goals
    go_enter Try.func36, Try.ntmps36
    go_upto_region 1 with fail
    generalize (w.alloc (.cells (xcells _) 52)) = W at *
    obtain ⟨⟨c0, c1, c2, c3, c4, c5, c6, c7⟩, -⟩ := cells8 H0.out.1
    dsimp only at c0 c1 c2 c3 c4 c5 c6 c7
    go_wp2_with fail
    first
      | exact bodyPost_ret (v := .tuple #[.int .i64 (-1), .int .i64 (-1)]) (by simp [results, Try.results36, go_sem]) rfl ⟨rfl, H0.out.2⟩
      | exact bodyPost_ret (v := .tuple #[.int .i64 xl, .int .i64 (-1)]) (by simp [results, Try.results36, go_sem]) rfl ⟨rfl, H0.out.2⟩
      | (go_quiet (fail)
         go_wp2_with fail
         exact bodyPost_ret (v := .tuple #[.int .i64 xl, .int .i64 xm]) (by simp [results, Try.results36, go_sem]) rfl ⟨rfl, H0.out.2.drewN _⟩)
end Go.Proofs.Ytblijgcfelnlmaa.P09
/- The code's then (layer 9). -/
namespace Go.Proofs.Ytblijgcfelnlmaa.P09
open Go.RowKit Go.Proofs.Ytblijgcfelnlmaa.Base Go.Proofs.Ytblijgcfelnlmaa.Bytes Go.Proofs.Ytblijgcfelnlmaa.P07 Go.Proofs.Ytblijgcfelnlmaa.P08
open Go.Proofs.Ytblijgcfelnlmaa.Sets (ST)

def xfirst (w : World) (b : Nat) (s : ST) : World := (((w.setCell ⟨b, 2, none⟩ (.int .u64 s.x0)).setCell ⟨b, 3, none⟩ (.int .u64 s.x1)).setCell ⟨b, 4, none⟩ (.int .u64 s.x2)).setCell ⟨b, 5, none⟩ (.int .u64 s.x3)
theorem xfirst_at {w : World} {b : Nat} {t : TypeId} {x : TX} (h : At w b t (xcells x)) (s : ST) : At (xfirst w b s) b t (xcells { x with first := s }) :=
  (((h.set 2 (.int .u64 s.x0)).set 3 (.int .u64 s.x1)).set 4 (.int .u64 s.x2)).set 5 (.int .u64 s.x3)
theorem xfirst_keep {S : Nat → Prop} {a w : World} (h : Keep S a w) {b : Nat} (hp : b < a.heap.size → S b) (s : ST) : Keep S a (xfirst w b s) :=
  (((h.setCell (p := ⟨b, 2, none⟩) hp _).setCell (p := ⟨b, 3, none⟩) hp _).setCell (p := ⟨b, 4, none⟩) hp _).setCell (p := ⟨b, 5, none⟩) hp _
theorem xfirst_other {w : World} {a b : Nat} {t : TypeId} {vs : Array Value} (h : At w a t vs) (hb : a ≠ b) (s : ST) : At (xfirst w b s) a t vs :=
  (((h.setOther (p := ⟨b, 2, none⟩) hb _).setOther (p := ⟨b, 3, none⟩) hb _).setOther (p := ⟨b, 4, none⟩) hb _).setOther (p := ⟨b, 5, none⟩) hb _

/-- What the walk holds: both texts in boxes, and the result's. -/
structure Th (w : World) (x y : TX) (W : World) : Prop where
  a1 : At W w.heap.size 52 (xcells x)
  a2 : At W (w.heap.size + 1) 52 (xcells y)
  a3 : At W (w.heap.size + 2) 52 xzeros
  q : Keep (fun _ => False) w W
theorem Th.start (w : World) (x y : TX) : Th w x y (((w.alloc (.cells (xcells x) 52)).alloc (.cells (xcells y) 52)).alloc (.cells xzeros 52)) := by
  have a1 := ((At.new w (xcells x) 52).alloc (.cells (xcells y) 52)).alloc (.cells xzeros 52)
  have a2 := (At.new (w.alloc (.cells (xcells x) 52)) (xcells y) 52).alloc (.cells xzeros 52)
  have a3 := At.new ((w.alloc (.cells (xcells x) 52)).alloc (.cells (xcells y) 52)) xzeros 52
  rw [show (w.alloc (.cells (xcells x) 52)).heap.size = w.heap.size + 1 from by simp] at a2
  rw [show ((w.alloc (.cells (xcells x) 52)).alloc (.cells (xcells y) 52)).heap.size = w.heap.size + 2 from by simp] at a3
  exact ⟨a1, a2, a3, (((Keep.refl (fun _ => False) w).alloc _).alloc _).alloc _⟩
theorem Th.keep {w : World} {x y : TX} {W W' : World} (h : Th w x y W) (k : Keep (fun _ => False) W W') : Th w x y W' :=
  ⟨h.a1.keep k (fun h => h), h.a2.keep k (fun h => h), h.a3.keep k (fun h => h), h.q.trans k⟩
theorem Th.first {w : World} {x y : TX} {W : World} (h : Th w x y W) (s : ST) : Th w { x with first := s } y (xfirst W w.heap.size s) :=
  ⟨xfirst_at h.a1 s, xfirst_other h.a2 (by omega) s, xfirst_other h.a3 (by omega) s, xfirst_keep h.q (fun h => absurd h (Nat.lt_irrefl _)) s⟩
theorem Th.endless {w : World} {x y : TX} {W : World} (h : Th w x y W) (b : Bool) : Th w { x with endless := b } y (W.setCell ⟨w.heap.size, 1, none⟩ (.bool b)) :=
  ⟨h.a1.set 1 (.bool b), h.a2.setOther (p := ⟨w.heap.size, 1, none⟩) (by show w.heap.size + 1 ≠ w.heap.size; omega) _, h.a3.setOther (p := ⟨w.heap.size, 1, none⟩) (by show w.heap.size + 2 ≠ w.heap.size; omega) _, h.q.setCell (p := ⟨w.heap.size, 1, none⟩) (fun h => absurd h (Nat.lt_irrefl _)) _⟩
theorem Th.least {w : World} {x y : TX} {W : World} (h : Th w x y W) (b : Int) : Th w { x with least := b } y (W.setCell ⟨w.heap.size, 6, none⟩ (.int .i64 b)) :=
  ⟨h.a1.set 6 (.int .i64 b), h.a2.setOther (p := ⟨w.heap.size, 6, none⟩) (by show w.heap.size + 1 ≠ w.heap.size; omega) _, h.a3.setOther (p := ⟨w.heap.size, 6, none⟩) (by show w.heap.size + 2 ≠ w.heap.size; omega) _, h.q.setCell (p := ⟨w.heap.size, 6, none⟩) (fun h => absurd h (Nat.lt_irrefl _)) _⟩
theorem Th.most {w : World} {x y : TX} {W : World} (h : Th w x y W) (b : Int) : Th w { x with most := b } y (W.setCell ⟨w.heap.size, 7, none⟩ (.int .i64 b)) :=
  ⟨h.a1.set 7 (.int .i64 b), h.a2.setOther (p := ⟨w.heap.size, 7, none⟩) (by show w.heap.size + 1 ≠ w.heap.size; omega) _, h.a3.setOther (p := ⟨w.heap.size, 7, none⟩) (by show w.heap.size + 2 ≠ w.heap.size; omega) _, h.q.setCell (p := ⟨w.heap.size, 7, none⟩) (fun h => absurd h (Nat.lt_irrefl _)) _⟩

set_option maxRecDepth 100000 in
set_option maxHeartbeats 4000000 in
theorem then_any (x y : TX) {A B : Int} (hx : x.In A) (hy : y.In B) (hAB : A + B ≤ 9000000000000000000) (w : World) : Calls Try.prog 50 #[xV x, xV y] w fun e w' => e = .returned (xV (x.then_ y)) ∧ Keep (fun _ => False) w w' := by
  have H0 := Lib.hid (Th.start w x y)
  obtain ⟨R, hR⟩ : ∃ R, x.then_ y = R := ⟨_, rfl⟩
  rw [hR]
  have HI := Lib.hid (And.intro hx (And.intro hy hAB))
  unfold TX.then_ at hR
  clear hx hy hAB
  by_cases hn : x.none = true ∨ y.none = true
  · rw [if_pos hn] at hR
    subst hR
    have hn2 : x.none = true ∨ (x.none = false ∧ y.none = true) := by
      rcases hn with h | h
      · exact .inl h
      · cases hx : x.none
        · exact .inr ⟨rfl, h⟩
        · exact .inl rfl
    clear hn
    go_enter Try.func50, Try.ntmps50
    go_upto_region 1 with fail
    generalize (((w.alloc (.cells (xcells x) 52)).alloc (.cells (xcells y) 52)).alloc (.cells xzeros 52)) = W at *
    obtain ⟨⟨c0, -, -, -, -, -, -, -⟩, -⟩ := cells8 H0.out.a1
    obtain ⟨⟨d0, -, -, -, -, -, -, -⟩, -⟩ := cells8 H0.out.a2
    obtain ⟨⟨g0, g1, g2, g3, g4, g5, g6, g7⟩, ⟨f0, f1, f2, f3, f4, f5, f6, f7⟩⟩ := cells8 H0.out.a3
    have hfin : At (xput W (w.heap.size + 2) .nothing) (w.heap.size + 2) 52 (xcells .nothing) ∧ Keep (fun _ => False) w (xput W (w.heap.size + 2) .nothing) := ⟨xput_at H0.out.a3 .nothing, xput_keep H0.out.q (fun h => absurd h (by omega)) .nothing⟩
    have HF := Lib.hid hfin
    clear hfin
    rcases hn2 with h | ⟨h, h'⟩
    · rw [h] at c0
      go_wp2_with fail
      change bodyPost _ _ _ _ _ (xput W (w.heap.size + 2) .nothing)
      have hf := HF.out
      generalize (xput W (w.heap.size + 2) .nothing) = W9 at hf ⊢
      obtain ⟨⟨e0, e1, e2, e3, e4, e5, e6, e7⟩, -⟩ := cells8 hf.1
      exact bodyPost_ret (v := xV .nothing) (by simp [results, Try.results50, go_sem, e0, e1, e2, e3, e4, e5, e6, e7]) rfl ⟨rfl, hf.2⟩
    · rw [h] at c0
      rw [h'] at d0
      go_wp2_with fail
      change bodyPost _ _ _ _ _ (xput W (w.heap.size + 2) .nothing)
      have hf := HF.out
      generalize (xput W (w.heap.size + 2) .nothing) = W9 at hf ⊢
      obtain ⟨⟨e0, e1, e2, e3, e4, e5, e6, e7⟩, -⟩ := cells8 hf.1
      exact bodyPost_ret (v := xV .nothing) (by simp [results, Try.results50, go_sem, e0, e1, e2, e3, e4, e5, e6, e7]) rfl ⟨rfl, hf.2⟩
  · rw [if_neg hn] at hR
    have hx0 : x.none = false := by
      cases h : x.none
      · rfl
      · exact absurd (.inl h) hn
    have hy0 : y.none = false := by
      cases h : y.none
      · rfl
      · exact absurd (.inr h) hn
    obtain ⟨F, hF⟩ : ∃ F, (if x.least = 0 then x.first.or y.first else x.first) = F := ⟨_, rfl⟩
    rw [hF] at hR
    have HR := Lib.hid (And.intro hF hR)
    clear hn hF hR
    go_enter Try.func50, Try.ntmps50
    go_upto_region 1 with fail
    generalize (((w.alloc (.cells (xcells x) 52)).alloc (.cells (xcells y) 52)).alloc (.cells xzeros 52)) = W at *
    obtain ⟨⟨c0, c1, c2, c3, c4, c5, c6, c7⟩, ⟨f0, f1, f2, f3, f4, f5, f6, f7⟩⟩ := cells8 H0.out.a1
    obtain ⟨⟨d0, d1, d2, d3, d4, d5, d6, d7⟩, -⟩ := cells8 H0.out.a2
    rw [hx0] at c0
    rw [hy0] at d0
    go_upto_if 14 with fail
    go_cut [] from 13 to 21 (fun wx => Th w { x with first := F } y wx)
    case first =>
      have hF := HR.out.1
      by_cases hl : x.least = 0
      · rw [if_pos hl] at hF
        have b0 : (x.least == 0) = true := by simp [hl]
        go_wp2_with fail
        refine (or_any x.first y.first HI.out.1.ok HI.out.2.1.ok W).mono ?_
        rintro e w1 ⟨rfl, q1⟩
        rw [hF]
        have H1 := Lib.hid (H0.out.keep q1)
        clear q1 c0 c1 c2 c3 c4 c5 c6 c7 f0 f1 f2 f3 f4 f5 f6 f7 d0 d1 d2 d3 d4 d5 d6 d7
        obtain ⟨⟨c0, c1, c2, c3, c4, c5, c6, c7⟩, ⟨f0, f1, f2, f3, f4, f5, f6, f7⟩⟩ := cells8 H1.out.a1
        go_wp2_with fail
        go_meet
        case rel => exact H1.out.first F
      · rw [if_neg hl] at hF
        have b0 : (x.least == 0) = false := by simp [hl]
        subst hF
        go_wp2_with fail
        go_meet
        case rel => exact H0.out
    case rest =>
    have H1 := Lib.hid hcut
    clear hcut c0 c1 c2 c3 c4 c5 c6 c7 f0 f1 f2 f3 f4 f5 f6 f7 d0 d1 d2 d3 d4 d5 d6 d7
    obtain ⟨⟨c0, c1, c2, c3, c4, c5, c6, c7⟩, ⟨f0, f1, f2, f3, f4, f5, f6, f7⟩⟩ := cells8 H1.out.a1
    obtain ⟨⟨d0, d1, d2, d3, d4, d5, d6, d7⟩, -⟩ := cells8 H1.out.a2
    dsimp only at c0 c1 c2 c3 c4 c5 c6 c7
    have hs1 := plus_is HI.out.1.l0 HI.out.2.1.l0 (by have := HI.out.1.l1; have := HI.out.2.1.l1; have := HI.out.2.2; omega)
    have hs2 := plus_is HI.out.1.m0 HI.out.2.1.m0 (by have := HI.out.1.m1; have := HI.out.2.1.m1; have := HI.out.2.2; omega)
    have HS := Lib.hid (And.intro hs1 hs2)
    clear hs1 hs2
    obtain ⟨E, hE⟩ : ∃ E, (x.endless || y.endless) = E := ⟨_, rfl⟩
    have hE2 : (x.endless = true ∧ E = true) ∨ (x.endless = false ∧ E = y.endless) := by
      cases h : x.endless
      · exact .inr ⟨rfl, by rw [← hE, h]; rfl⟩
      · exact .inl ⟨rfl, by rw [← hE, h]; rfl⟩
    rw [hx0] at c0
    have hR := HR.out.2
    rw [hE] at hR
    have HX := Lib.hid (And.intro hR hx0)
    clear hR hx0 hE
    rcases hE2 with ⟨h1, h2⟩ | ⟨h1, h2⟩
    all_goals
      rw [h1] at c1
      subst h2
      clear h1
      go_upto_region 6 with fail
      clear c0 c1 c2 c3 c4 c5 c6 c7 f0 f1 f2 f3 f4 f5 f6 f7 d0 d1 d2 d3 d4 d5 d6 d7
      first
        | change Code.wp _ _ _ _ (wc.setCell ⟨w.heap.size, 1, none⟩ (.bool true))
          have H2 := Lib.hid (H1.out.endless true)
          generalize (wc.setCell ⟨w.heap.size, 1, none⟩ (.bool true)) = W2 at *
        | change Code.wp _ _ _ _ (wc.setCell ⟨w.heap.size, 1, none⟩ (.bool y.endless))
          have H2 := Lib.hid (H1.out.endless y.endless)
          generalize (wc.setCell ⟨w.heap.size, 1, none⟩ (.bool y.endless)) = W2 at *
      obtain ⟨⟨c0, c1, c2, c3, c4, c5, c6, c7⟩, ⟨f0, f1, f2, f3, f4, f5, f6, f7⟩⟩ := cells8 H2.out.a1
      obtain ⟨⟨d0, d1, d2, d3, d4, d5, d6, d7⟩, -⟩ := cells8 H2.out.a2
      dsimp only at c0 c1 c2 c3 c4 c5 c6 c7
      go_wp2_with fail
      refine (HS.out.1 W2).mono ?_
      rintro e w3 ⟨rfl, rfl⟩
      go_upto_region 7 with fail
      clear c0 c1 c2 c3 c4 c5 c6 c7 f0 f1 f2 f3 f4 f5 f6 f7 d0 d1 d2 d3 d4 d5 d6 d7
      change Code.wp _ _ _ _ (W2.setCell ⟨w.heap.size, 6, none⟩ (.int .i64 (x.least + y.least)))
      have H3 := Lib.hid (H2.out.least (x.least + y.least))
      generalize (W2.setCell ⟨w.heap.size, 6, none⟩ (.int .i64 (x.least + y.least))) = W3 at *
      obtain ⟨⟨c0, c1, c2, c3, c4, c5, c6, c7⟩, ⟨f0, f1, f2, f3, f4, f5, f6, f7⟩⟩ := cells8 H3.out.a1
      obtain ⟨⟨d0, d1, d2, d3, d4, d5, d6, d7⟩, -⟩ := cells8 H3.out.a2
      dsimp only at c0 c1 c2 c3 c4 c5 c6 c7
      go_wp2_with fail
      refine (HS.out.2 W3).mono ?_
      rintro e w4 ⟨rfl, rfl⟩
      go_upto_region 8 with fail
      clear c0 c1 c2 c3 c4 c5 c6 c7 f0 f1 f2 f3 f4 f5 f6 f7 d0 d1 d2 d3 d4 d5 d6 d7
      change Code.wp _ _ _ _ (W3.setCell ⟨w.heap.size, 7, none⟩ (.int .i64 (x.most + y.most)))
      have h4 := H3.out.most (x.most + y.most)
      dsimp only at h4
      rw [HX.out.2, HX.out.1] at h4
      have H4 := Lib.hid h4
      clear h4
      generalize (W3.setCell ⟨w.heap.size, 7, none⟩ (.int .i64 (x.most + y.most))) = W4 at *
      obtain ⟨⟨c0, c1, c2, c3, c4, c5, c6, c7⟩, -⟩ := cells8 H4.out.a1
      obtain ⟨⟨g0, g1, g2, g3, g4, g5, g6, g7⟩, ⟨f0, f1, f2, f3, f4, f5, f6, f7⟩⟩ := cells8 H4.out.a3
      go_wp2_with fail
      change bodyPost _ _ _ _ _ (xput W4 (w.heap.size + 2) R)
      have a := xput_at H4.out.a3 R
      have q := xput_keep H4.out.q (b := w.heap.size + 2) (fun h => absurd h (by omega)) R
      generalize (xput W4 (w.heap.size + 2) R) = W9 at a q ⊢
      obtain ⟨⟨e0, e1, e2, e3, e4, e5, e6, e7⟩, -⟩ := cells8 a
      exact bodyPost_ret (v := xV R) (by simp [results, Try.results50, go_sem, e0, e1, e2, e3, e4, e5, e6, e7]) rfl ⟨rfl, q⟩
end Go.Proofs.Ytblijgcfelnlmaa.P09
