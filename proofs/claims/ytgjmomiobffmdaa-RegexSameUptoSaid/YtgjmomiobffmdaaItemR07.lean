/- The document's parser (layer 7): item with a sign. -/
import Derived.Test.YtgjmomiobffmdaaItem07
namespace Go.Proofs.Ytgjmomiobffmdaa.P07
open Go.RowKit Go.Proofs.Ytgjmomiobffmdaa.Base Go.Proofs.Ytgjmomiobffmdaa.IL Go.Proofs.Ytgjmomiobffmdaa.Bytes
open Go.Proofs.Ytgjmomiobffmdaa.Sets (ST)

@[reducible] def rcells (mn mx : Int) (n4 : Nat) : Array Value := #[.int .i64 5, .int .u64 0, .int .u64 0, .int .u64 0, .int .u64 0, .int .i64 mn, .int .i64 mx, .slice (some ⟨n4, 0, none⟩) 1 1]
/-- What holds while a sign is read: the repeated part lies in block n4, the node in n5. -/
structure Rp (w : World) (b : Nat) (l : List UInt8) (nV n4 n5 : Nat) (t : T) (a : Option Addr) (c : Nat) (mn mx : Int) (s : PS) (W : World) : Prop where
  pr : Pr W b l s
  out : At W w.heap.size 28 nzeros
  row : At W n4 28 (ncells t a c)
  box : At W n5 28 (rcells mn mx n4)
  keep : Keep (fun i => i = b) w W
  lie : Lie W (fun k => nV ≤ k ∧ k < n4) a t.subs
  low : b < w.heap.size ∧ w.heap.size < nV ∧ nV < n4 ∧ n4 < n5 ∧ t.subs.length ≤ c
theorem Rp.step {w : World} {b : Nat} {l : List UInt8} {nV n4 n5 : Nat} {t : T} {a : Option Addr} {c : Nat} {mn mx : Int} {s s' : PS} {W W' : World} (I : Rp w b l nV n4 n5 t a c mn mx s W) (h : Pr W' b l s') (q : Keep (fun i => i = b) W W') : Rp w b l nV n4 n5 t a c mn mx s' W' :=
  have hl := I.low
  ⟨h, I.out.keep q (by omega), I.row.keep q (by omega), I.box.keep q (by omega), I.keep.trans q, I.lie.keep q (fun k hk e => by omega), hl⟩
theorem Rp.quiet {w : World} {b : Nat} {l : List UInt8} {nV n4 n5 : Nat} {t : T} {a : Option Addr} {c : Nat} {mn mx : Int} {s : PS} {W W' : World} (I : Rp w b l nV n4 n5 t a c mn mx s W) (q : Keep (fun _ => False) W W') : Rp w b l nV n4 n5 t a c mn mx s W' :=
  ⟨I.pr.keep q (fun h => h), I.out.keep q (fun h => h), I.row.keep q (fun h => h), I.box.keep q (fun h => h), I.keep.trans (upk b q), I.lie.keepF q, I.low⟩
theorem Rp.on {w : World} {b : Nat} {l : List UInt8} {nV n4 n5 : Nat} {t : T} {a : Option Addr} {c : Nat} {mn mx : Int} {s : PS} {W : World} (I : Rp w b l nV n4 n5 t a c mn mx s W) : Rp w b l nV n4 n5 t a c mn mx s.adv (W.setCell ⟨b, 1, none⟩ (.int .i64 ((s.pos : Int) + 1))) :=
  I.step (At.set I.pr 1 (.int .i64 ((s.pos : Int) + 1))) ((Keep.refl (fun i => i = b) W).setCell (p := ⟨b, 1, none⟩) (fun _ => rfl) _)
theorem Rp.set5 {w : World} {b : Nat} {l : List UInt8} {nV n4 n5 : Nat} {t : T} {a : Option Addr} {c : Nat} {mn mx : Int} {s : PS} {W : World} (I : Rp w b l nV n4 n5 t a c mn mx s W) (x : Int) : Rp w b l nV n4 n5 t a c x mx s (W.setCell ⟨n5, 5, none⟩ (.int .i64 x)) :=
  have hl := I.low
  have q := (Keep.refl (fun i => i = n5) W).setCell (p := ⟨n5, 5, none⟩) (fun _ => rfl) (.int .i64 x)
  ⟨I.pr.keep q (by omega), I.out.keep q (by omega), I.row.keep q (by omega), I.box.set 5 (.int .i64 x), I.keep.setCell (p := ⟨n5, 5, none⟩) (fun h => by have : n5 < w.heap.size := h; omega) (.int .i64 x), I.lie.keep q (fun k hk e => by omega), hl⟩
theorem Rp.set6 {w : World} {b : Nat} {l : List UInt8} {nV n4 n5 : Nat} {t : T} {a : Option Addr} {c : Nat} {mn mx : Int} {s : PS} {W : World} (I : Rp w b l nV n4 n5 t a c mn mx s W) (x : Int) : Rp w b l nV n4 n5 t a c mn x s (W.setCell ⟨n5, 6, none⟩ (.int .i64 x)) :=
  have hl := I.low
  have q := (Keep.refl (fun i => i = n5) W).setCell (p := ⟨n5, 6, none⟩) (fun _ => rfl) (.int .i64 x)
  ⟨I.pr.keep q (by omega), I.out.keep q (by omega), I.row.keep q (by omega), I.box.set 6 (.int .i64 x), I.keep.setCell (p := ⟨n5, 6, none⟩) (fun h => by have : n5 < w.heap.size := h; omega) (.int .i64 x), I.lie.keep q (fun k hk e => by omega), hl⟩
theorem Rp.start {w : World} {b : Nat} {l : List UInt8} {nV nA : Nat} {t : T} {a : Option Addr} {c : Nat} {s : PS} {W : World} (I : It w b l nV nA t a c s W) :
    Rp w b l nV W.heap.size (W.heap.size + 1) t a c 0 (-1) s ((W.alloc (.cells (ncells t a c) 28)).alloc (.cells (rcells 0 (-1) W.heap.size) 28)) := by
  have hl := I.low
  have ho := I.own.lt
  have q1 := (Keep.refl (fun _ => False) W).alloc (.cells (ncells t a c) 28)
  have q2 := q1.alloc (.cells (rcells 0 (-1) W.heap.size) 28)
  have a2 := At.new (W.alloc (.cells (ncells t a c) 28)) (rcells 0 (-1) W.heap.size) 28
  rw [show (W.alloc (.cells (ncells t a c) 28)).heap.size = W.heap.size + 1 from by simp] at a2
  exact ⟨I.pr.keep q2 (fun h => h), I.out.keep q2 (fun h => h), (At.new W _ _).alloc _, a2, I.keep.trans (upk b q2), (I.lie.keepF q2).mono (fun k hk => ⟨hk.1, by omega⟩), hl.1, hl.2.1, by omega, by omega, hl.2.2.2⟩
theorem Rp.node {w : World} {b : Nat} {l : List UInt8} {nV n4 n5 : Nat} {t : T} {a : Option Addr} {c : Nat} {mn mx : Int} {s : PS} {W W' : World} (I : Rp w b l nV n4 n5 t a c mn mx s W) (q : Keep (fun i => i = w.heap.size) W W') : NodeV W' (fun k => w.heap.size ≤ k) (.agg (rcells mn mx n4)) (repT t mn mx) := by
  have hl := I.low
  have hrow := I.row.keep q (by omega)
  have hlie := (I.lie.keep q (fun k hk e => by omega)).mono (ok' := fun k => w.heap.size ≤ k) (fun k hk => by omega)
  refine ⟨some ⟨n4, 0, none⟩, 1, by unfold nodeV ncells rcells repT T.kind T.set T.mn T.mx T.subs; simp only [zs_zero]; rfl, Nat.le_refl 1, .cons n4 0 [t] (fun _ => a) (fun _ => c) (by simp) hrow.lt (by omega) (fun i t' ht => ?_) (fun i t' ht j v hv => ?_) (fun i t' ht => ?_)⟩
  · cases i with
    | zero =>
      simp at ht
      subst ht
      exact hl.2.2.2.2
    | succ i => simp at ht
  · cases i with
    | zero =>
      simp at ht
      subst ht
      have := hrow.cell hv
      simpa using this
    | succ i => simp at ht
  · cases i with
    | zero =>
      simp at ht
      subst ht
      exact hlie
    | succ i => simp at ht

set_option maxRecDepth 100000 in
set_option maxHeartbeats 8000000 in
theorem item_star (b o : Nat) (l : List UInt8) (B : List UInt8 → PS → T × PS) (hl : l.length ≤ 3000) (hB : NodeC 35 b l o B) (s : PS) (w : World) (hH : Here l s) (ho : s.opn = o) (hb : b < w.heap.size) (h : Pr w b l s) (t : T) (s2 : PS) (hR : B l s = (t, s2)) (hc : nxt l s2 = 42) : Calls Try.prog 32 #[.pointer (some ⟨b, 0, none⟩)] w fun e w' => (∃ v, e = .returned v ∧ NodeV w' (fun k => w.heap.size ≤ k) v (repT t 0 (-1), s2.adv).1) ∧ Pr w' b l (repT t 0 (-1), s2.adv).2 ∧ Keep (fun i => i = b) w w' := by
  have hp0 := (Here.next (l := l) (s := s2) (by rw [hc]; decide)).2.1
  have hw : IntKind.i64.wrap ((s2.pos : Int) + 1) = (s2.pos : Int) + 1 := by rw [IntKind.wrap_i64]; omega
  have hin : inL sgs 42 = true := by decide
  have HC := Lib.hid hc
  have HAt := Lib.hid (show ∀ W, b < W.heap.size → Pr W b l s → Calls Try.prog 35 #[.pointer (some ⟨b, 0, none⟩)] W fun e w' => (∃ v, e = .returned v ∧ NodeV w' (fun k => W.heap.size ≤ k) v t) ∧ Pr w' b l s2 ∧ Keep (fun i => i = b) W w' from fun W hbW hW => by
    have h1 := hB s W hH ho hbW hW
    rw [hR] at h1
    exact h1)
  have HIn := Lib.hid (show ∀ W, Calls Try.prog 36 #[.string ⟨#[42, 43, 63, 123]⟩, .int .i64 42] W fun e w' => e = .returned (.bool true) ∧ W = w' from fun W => by
    have h1 := in_any sgs 42 (by decide) W
    rw [hin] at h1
    exact h1)
  clear hc hB hR hin
  have HB := Lib.hid hb
  have hbn : b ≠ w.heap.size := by omega
  have HBN := Lib.hid hbn
  have W0 := Lib.hid (And.intro (h.keep ((Keep.refl (fun _ => False) w).alloc (.cells nzeros 28)) (fun h => h)) (And.intro (At.new w nzeros 28) ((Keep.refl (fun i => i = b) w).alloc (.cells nzeros 28))))
  clear h hb hbn
  go_enter Try.func32, Try.ntmps32
  go_wp2_with fail
  generalize (w.alloc (.cells nzeros 28)) = V at *
  have hV := W0.out.2.1.lt
  refine (HAt.out V (by have := HB.out; omega) W0.out.1).mono ?_
  rintro e w1 ⟨⟨v, rfl, a', c', rfl, hle, hLie⟩, r1, q1⟩
  have I1 := Lib.hid (It.start HB.out hV q1.size r1 (W0.out.2.1.keep q1 (Ne.symm HBN.out)) (W0.out.2.2.trans q1) hle hLie)
  clear hV r1 q1 hle hLie
  go_upto_region 2 with fail
  generalize (w1.alloc (.cells (ncells t a' c') 28)) = W1 at *
  generalize w1.heap.size = nA at *
  generalize V.heap.size = nV at *
  go_wp2_with fail
  refine (next_is HC.out W1 I1.out.pr).mono ?_
  rintro e w2 ⟨rfl, q2⟩
  have I2 := Lib.hid (I1.out.quiet q2)
  clear q2
  go_wp2_with fail
  refine (HIn.out w2).mono ?_
  rintro e w3 ⟨rfl, rfl⟩
  have d1 : w2.cell? ⟨b, 1, none⟩ = some (.int .i64 s2.pos) := At.cell I2.out.pr (o := 1) rfl
  have f1 := At.frozen I2.out.pr 1
  have I3 := Lib.hid I2.out.on
  obtain ⟨⟨x0, x1, x2, x3, x4, x5, x6, x7⟩, -⟩ := cells8 I2.out.own
  have hlt5 := I2.out.own.lt
  obtain ⟨⟨y0, y1, y2, y3, y4, y5, y6, y7⟩, -⟩ := cells8 I3.out.own
  have hlt6 := I3.out.own.lt
  go_upto_region 6 with fail
  generalize (w2.setCell ⟨b, 1, none⟩ (.int .i64 ((s2.pos : Int) + 1))) = W3 at *
  clear d1 f1 x0 x1 x2 x3 x4 x5 x6 x7 hlt5
  have R4 := Lib.hid (Rp.start I3.out)
  go_upto_region 7 with fail
  generalize ((W3.alloc (.cells (ncells t a' c') 28)).alloc (.cells (rcells 0 (-1) W3.heap.size) 28)) = W4 at *
  generalize W3.heap.size = n4 at *
  clear y0 y1 y2 y3 y4 y5 y6 y7 hlt6
  obtain ⟨⟨x0, x1, x2, x3, x4, x5, x6, x7⟩, -⟩ := cells8 R4.out.box
  have hlt5 := R4.out.box.lt
  obtain ⟨⟨c0, c1, c2, c3, c4, c5, c6, c7⟩, f0, f1, f2, f3, f4, f5, f6, f7⟩ := cells8 R4.out.out
  have hlt0 := (R4.out.out).lt
  go_wp2_with fail
  change bodyPost _ _ _ _ _ (put8 W4 w.heap.size (.int .i64 5) (.int .u64 0) (.int .u64 0) (.int .u64 0) (.int .u64 0) (.int .i64 0) (.int .i64 (-1)) (.slice (some ⟨n4, 0, none⟩) 1 1))
  have a := set8 R4.out.out (.int .i64 5) (.int .u64 0) (.int .u64 0) (.int .u64 0) (.int .u64 0) (.int .i64 0) (.int .i64 (-1)) (.slice (some ⟨n4, 0, none⟩) 1 1)
  have p := other8 (show At _ b _ _ from R4.out.pr) HBN.out (.int .i64 5) (.int .u64 0) (.int .u64 0) (.int .u64 0) (.int .u64 0) (.int .i64 0) (.int .i64 (-1)) (.slice (some ⟨n4, 0, none⟩) 1 1)
  have q := keep8 R4.out.keep (b := w.heap.size) (fun h => absurd h (Nat.lt_irrefl _)) (.int .i64 5) (.int .u64 0) (.int .u64 0) (.int .u64 0) (.int .u64 0) (.int .i64 0) (.int .i64 (-1)) (.slice (some ⟨n4, 0, none⟩) 1 1)
  have hNode := R4.out.node (keep8 (Keep.refl (fun i => i = w.heap.size) W4) (b := w.heap.size) (fun _ => rfl) (.int .i64 5) (.int .u64 0) (.int .u64 0) (.int .u64 0) (.int .u64 0) (.int .i64 0) (.int .i64 (-1)) (.slice (some ⟨n4, 0, none⟩) 1 1))
  generalize (put8 W4 w.heap.size (.int .i64 5) (.int .u64 0) (.int .u64 0) (.int .u64 0) (.int .u64 0) (.int .i64 0) (.int .i64 (-1)) (.slice (some ⟨n4, 0, none⟩) 1 1)) = W9 at a p q hNode ⊢
  obtain ⟨⟨e0, e1, e2, e3, e4, e5, e6, e7⟩, -⟩ := cells8 a
  exact bodyPost_ret (v := .agg #[(.int .i64 5), (.int .u64 0), (.int .u64 0), (.int .u64 0), (.int .u64 0), (.int .i64 0), (.int .i64 (-1)), (.slice (some ⟨n4, 0, none⟩) 1 1)]) (by simp [results, Try.results32, go_sem, e0, e1, e2, e3, e4, e5, e6, e7]) rfl ⟨⟨_, rfl, hNode⟩, p, q⟩

set_option maxRecDepth 100000 in
set_option maxHeartbeats 8000000 in
theorem item_plus (b o : Nat) (l : List UInt8) (B : List UInt8 → PS → T × PS) (hl : l.length ≤ 3000) (hB : NodeC 35 b l o B) (s : PS) (w : World) (hH : Here l s) (ho : s.opn = o) (hb : b < w.heap.size) (h : Pr w b l s) (t : T) (s2 : PS) (hR : B l s = (t, s2)) (hc : nxt l s2 = 43) : Calls Try.prog 32 #[.pointer (some ⟨b, 0, none⟩)] w fun e w' => (∃ v, e = .returned v ∧ NodeV w' (fun k => w.heap.size ≤ k) v (repT t 1 (-1), s2.adv).1) ∧ Pr w' b l (repT t 1 (-1), s2.adv).2 ∧ Keep (fun i => i = b) w w' := by
  have hp0 := (Here.next (l := l) (s := s2) (by rw [hc]; decide)).2.1
  have hw : IntKind.i64.wrap ((s2.pos : Int) + 1) = (s2.pos : Int) + 1 := by rw [IntKind.wrap_i64]; omega
  have hin : inL sgs 43 = true := by decide
  have HC := Lib.hid hc
  have HAt := Lib.hid (show ∀ W, b < W.heap.size → Pr W b l s → Calls Try.prog 35 #[.pointer (some ⟨b, 0, none⟩)] W fun e w' => (∃ v, e = .returned v ∧ NodeV w' (fun k => W.heap.size ≤ k) v t) ∧ Pr w' b l s2 ∧ Keep (fun i => i = b) W w' from fun W hbW hW => by
    have h1 := hB s W hH ho hbW hW
    rw [hR] at h1
    exact h1)
  have HIn := Lib.hid (show ∀ W, Calls Try.prog 36 #[.string ⟨#[42, 43, 63, 123]⟩, .int .i64 43] W fun e w' => e = .returned (.bool true) ∧ W = w' from fun W => by
    have h1 := in_any sgs 43 (by decide) W
    rw [hin] at h1
    exact h1)
  clear hc hB hR hin
  have HB := Lib.hid hb
  have hbn : b ≠ w.heap.size := by omega
  have HBN := Lib.hid hbn
  have W0 := Lib.hid (And.intro (h.keep ((Keep.refl (fun _ => False) w).alloc (.cells nzeros 28)) (fun h => h)) (And.intro (At.new w nzeros 28) ((Keep.refl (fun i => i = b) w).alloc (.cells nzeros 28))))
  clear h hb hbn
  go_enter Try.func32, Try.ntmps32
  go_wp2_with fail
  generalize (w.alloc (.cells nzeros 28)) = V at *
  have hV := W0.out.2.1.lt
  refine (HAt.out V (by have := HB.out; omega) W0.out.1).mono ?_
  rintro e w1 ⟨⟨v, rfl, a', c', rfl, hle, hLie⟩, r1, q1⟩
  have I1 := Lib.hid (It.start HB.out hV q1.size r1 (W0.out.2.1.keep q1 (Ne.symm HBN.out)) (W0.out.2.2.trans q1) hle hLie)
  clear hV r1 q1 hle hLie
  go_upto_region 2 with fail
  generalize (w1.alloc (.cells (ncells t a' c') 28)) = W1 at *
  generalize w1.heap.size = nA at *
  generalize V.heap.size = nV at *
  go_wp2_with fail
  refine (next_is HC.out W1 I1.out.pr).mono ?_
  rintro e w2 ⟨rfl, q2⟩
  have I2 := Lib.hid (I1.out.quiet q2)
  clear q2
  go_wp2_with fail
  refine (HIn.out w2).mono ?_
  rintro e w3 ⟨rfl, rfl⟩
  have d1 : w2.cell? ⟨b, 1, none⟩ = some (.int .i64 s2.pos) := At.cell I2.out.pr (o := 1) rfl
  have f1 := At.frozen I2.out.pr 1
  have I3 := Lib.hid I2.out.on
  obtain ⟨⟨x0, x1, x2, x3, x4, x5, x6, x7⟩, -⟩ := cells8 I2.out.own
  have hlt5 := I2.out.own.lt
  obtain ⟨⟨y0, y1, y2, y3, y4, y5, y6, y7⟩, -⟩ := cells8 I3.out.own
  have hlt6 := I3.out.own.lt
  go_upto_region 6 with fail
  generalize (w2.setCell ⟨b, 1, none⟩ (.int .i64 ((s2.pos : Int) + 1))) = W3 at *
  clear d1 f1 x0 x1 x2 x3 x4 x5 x6 x7 hlt5
  have R4 := Lib.hid (Rp.start I3.out)
  go_upto_region 7 with fail
  generalize ((W3.alloc (.cells (ncells t a' c') 28)).alloc (.cells (rcells 0 (-1) W3.heap.size) 28)) = W4 at *
  generalize W3.heap.size = n4 at *
  clear y0 y1 y2 y3 y4 y5 y6 y7 hlt6
  obtain ⟨⟨x0, x1, x2, x3, x4, x5, x6, x7⟩, z0, z1, z2, z3, z4, z5, z6, z7⟩ := cells8 R4.out.box
  go_upto_region 24 with fail
  have R5 := Lib.hid (R4.out.set5 1)
  clear x0 x1 x2 x3 x4 x5 x6 x7 z0 z1 z2 z3 z4 z5 z6 z7
  generalize (W4.setCell ⟨n4 + 1, 5, none⟩ (.int .i64 1)) = W5 at *
  obtain ⟨⟨x0, x1, x2, x3, x4, x5, x6, x7⟩, -⟩ := cells8 R5.out.box
  have hlt5 := R5.out.box.lt
  obtain ⟨⟨c0, c1, c2, c3, c4, c5, c6, c7⟩, f0, f1, f2, f3, f4, f5, f6, f7⟩ := cells8 R5.out.out
  have hlt0 := (R5.out.out).lt
  go_wp2_with fail
  change bodyPost _ _ _ _ _ (put8 W5 w.heap.size (.int .i64 5) (.int .u64 0) (.int .u64 0) (.int .u64 0) (.int .u64 0) (.int .i64 1) (.int .i64 (-1)) (.slice (some ⟨n4, 0, none⟩) 1 1))
  have a := set8 R5.out.out (.int .i64 5) (.int .u64 0) (.int .u64 0) (.int .u64 0) (.int .u64 0) (.int .i64 1) (.int .i64 (-1)) (.slice (some ⟨n4, 0, none⟩) 1 1)
  have p := other8 (show At _ b _ _ from R5.out.pr) HBN.out (.int .i64 5) (.int .u64 0) (.int .u64 0) (.int .u64 0) (.int .u64 0) (.int .i64 1) (.int .i64 (-1)) (.slice (some ⟨n4, 0, none⟩) 1 1)
  have q := keep8 R5.out.keep (b := w.heap.size) (fun h => absurd h (Nat.lt_irrefl _)) (.int .i64 5) (.int .u64 0) (.int .u64 0) (.int .u64 0) (.int .u64 0) (.int .i64 1) (.int .i64 (-1)) (.slice (some ⟨n4, 0, none⟩) 1 1)
  have hNode := R5.out.node (keep8 (Keep.refl (fun i => i = w.heap.size) W5) (b := w.heap.size) (fun _ => rfl) (.int .i64 5) (.int .u64 0) (.int .u64 0) (.int .u64 0) (.int .u64 0) (.int .i64 1) (.int .i64 (-1)) (.slice (some ⟨n4, 0, none⟩) 1 1))
  generalize (put8 W5 w.heap.size (.int .i64 5) (.int .u64 0) (.int .u64 0) (.int .u64 0) (.int .u64 0) (.int .i64 1) (.int .i64 (-1)) (.slice (some ⟨n4, 0, none⟩) 1 1)) = W9 at a p q hNode ⊢
  obtain ⟨⟨e0, e1, e2, e3, e4, e5, e6, e7⟩, -⟩ := cells8 a
  exact bodyPost_ret (v := .agg #[(.int .i64 5), (.int .u64 0), (.int .u64 0), (.int .u64 0), (.int .u64 0), (.int .i64 1), (.int .i64 (-1)), (.slice (some ⟨n4, 0, none⟩) 1 1)]) (by simp [results, Try.results32, go_sem, e0, e1, e2, e3, e4, e5, e6, e7]) rfl ⟨⟨_, rfl, hNode⟩, p, q⟩

set_option maxRecDepth 100000 in
set_option maxHeartbeats 8000000 in
theorem item_quest (b o : Nat) (l : List UInt8) (B : List UInt8 → PS → T × PS) (hl : l.length ≤ 3000) (hB : NodeC 35 b l o B) (s : PS) (w : World) (hH : Here l s) (ho : s.opn = o) (hb : b < w.heap.size) (h : Pr w b l s) (t : T) (s2 : PS) (hR : B l s = (t, s2)) (hc : nxt l s2 = 63) : Calls Try.prog 32 #[.pointer (some ⟨b, 0, none⟩)] w fun e w' => (∃ v, e = .returned v ∧ NodeV w' (fun k => w.heap.size ≤ k) v (repT t 0 1, s2.adv).1) ∧ Pr w' b l (repT t 0 1, s2.adv).2 ∧ Keep (fun i => i = b) w w' := by
  have hp0 := (Here.next (l := l) (s := s2) (by rw [hc]; decide)).2.1
  have hw : IntKind.i64.wrap ((s2.pos : Int) + 1) = (s2.pos : Int) + 1 := by rw [IntKind.wrap_i64]; omega
  have hin : inL sgs 63 = true := by decide
  have HC := Lib.hid hc
  have HAt := Lib.hid (show ∀ W, b < W.heap.size → Pr W b l s → Calls Try.prog 35 #[.pointer (some ⟨b, 0, none⟩)] W fun e w' => (∃ v, e = .returned v ∧ NodeV w' (fun k => W.heap.size ≤ k) v t) ∧ Pr w' b l s2 ∧ Keep (fun i => i = b) W w' from fun W hbW hW => by
    have h1 := hB s W hH ho hbW hW
    rw [hR] at h1
    exact h1)
  have HIn := Lib.hid (show ∀ W, Calls Try.prog 36 #[.string ⟨#[42, 43, 63, 123]⟩, .int .i64 63] W fun e w' => e = .returned (.bool true) ∧ W = w' from fun W => by
    have h1 := in_any sgs 63 (by decide) W
    rw [hin] at h1
    exact h1)
  clear hc hB hR hin
  have HB := Lib.hid hb
  have hbn : b ≠ w.heap.size := by omega
  have HBN := Lib.hid hbn
  have W0 := Lib.hid (And.intro (h.keep ((Keep.refl (fun _ => False) w).alloc (.cells nzeros 28)) (fun h => h)) (And.intro (At.new w nzeros 28) ((Keep.refl (fun i => i = b) w).alloc (.cells nzeros 28))))
  clear h hb hbn
  go_enter Try.func32, Try.ntmps32
  go_wp2_with fail
  generalize (w.alloc (.cells nzeros 28)) = V at *
  have hV := W0.out.2.1.lt
  refine (HAt.out V (by have := HB.out; omega) W0.out.1).mono ?_
  rintro e w1 ⟨⟨v, rfl, a', c', rfl, hle, hLie⟩, r1, q1⟩
  have I1 := Lib.hid (It.start HB.out hV q1.size r1 (W0.out.2.1.keep q1 (Ne.symm HBN.out)) (W0.out.2.2.trans q1) hle hLie)
  clear hV r1 q1 hle hLie
  go_upto_region 2 with fail
  generalize (w1.alloc (.cells (ncells t a' c') 28)) = W1 at *
  generalize w1.heap.size = nA at *
  generalize V.heap.size = nV at *
  go_wp2_with fail
  refine (next_is HC.out W1 I1.out.pr).mono ?_
  rintro e w2 ⟨rfl, q2⟩
  have I2 := Lib.hid (I1.out.quiet q2)
  clear q2
  go_wp2_with fail
  refine (HIn.out w2).mono ?_
  rintro e w3 ⟨rfl, rfl⟩
  have d1 : w2.cell? ⟨b, 1, none⟩ = some (.int .i64 s2.pos) := At.cell I2.out.pr (o := 1) rfl
  have f1 := At.frozen I2.out.pr 1
  have I3 := Lib.hid I2.out.on
  obtain ⟨⟨x0, x1, x2, x3, x4, x5, x6, x7⟩, -⟩ := cells8 I2.out.own
  have hlt5 := I2.out.own.lt
  obtain ⟨⟨y0, y1, y2, y3, y4, y5, y6, y7⟩, -⟩ := cells8 I3.out.own
  have hlt6 := I3.out.own.lt
  go_upto_region 6 with fail
  generalize (w2.setCell ⟨b, 1, none⟩ (.int .i64 ((s2.pos : Int) + 1))) = W3 at *
  clear d1 f1 x0 x1 x2 x3 x4 x5 x6 x7 hlt5
  have R4 := Lib.hid (Rp.start I3.out)
  go_upto_region 7 with fail
  generalize ((W3.alloc (.cells (ncells t a' c') 28)).alloc (.cells (rcells 0 (-1) W3.heap.size) 28)) = W4 at *
  generalize W3.heap.size = n4 at *
  clear y0 y1 y2 y3 y4 y5 y6 y7 hlt6
  obtain ⟨⟨x0, x1, x2, x3, x4, x5, x6, x7⟩, z0, z1, z2, z3, z4, z5, z6, z7⟩ := cells8 R4.out.box
  go_upto_region 24 with fail
  have R5 := Lib.hid (R4.out.set6 1)
  clear x0 x1 x2 x3 x4 x5 x6 x7 z0 z1 z2 z3 z4 z5 z6 z7
  generalize (W4.setCell ⟨n4 + 1, 6, none⟩ (.int .i64 1)) = W5 at *
  obtain ⟨⟨x0, x1, x2, x3, x4, x5, x6, x7⟩, -⟩ := cells8 R5.out.box
  have hlt5 := R5.out.box.lt
  obtain ⟨⟨c0, c1, c2, c3, c4, c5, c6, c7⟩, f0, f1, f2, f3, f4, f5, f6, f7⟩ := cells8 R5.out.out
  have hlt0 := (R5.out.out).lt
  go_wp2_with fail
  change bodyPost _ _ _ _ _ (put8 W5 w.heap.size (.int .i64 5) (.int .u64 0) (.int .u64 0) (.int .u64 0) (.int .u64 0) (.int .i64 0) (.int .i64 1) (.slice (some ⟨n4, 0, none⟩) 1 1))
  have a := set8 R5.out.out (.int .i64 5) (.int .u64 0) (.int .u64 0) (.int .u64 0) (.int .u64 0) (.int .i64 0) (.int .i64 1) (.slice (some ⟨n4, 0, none⟩) 1 1)
  have p := other8 (show At _ b _ _ from R5.out.pr) HBN.out (.int .i64 5) (.int .u64 0) (.int .u64 0) (.int .u64 0) (.int .u64 0) (.int .i64 0) (.int .i64 1) (.slice (some ⟨n4, 0, none⟩) 1 1)
  have q := keep8 R5.out.keep (b := w.heap.size) (fun h => absurd h (Nat.lt_irrefl _)) (.int .i64 5) (.int .u64 0) (.int .u64 0) (.int .u64 0) (.int .u64 0) (.int .i64 0) (.int .i64 1) (.slice (some ⟨n4, 0, none⟩) 1 1)
  have hNode := R5.out.node (keep8 (Keep.refl (fun i => i = w.heap.size) W5) (b := w.heap.size) (fun _ => rfl) (.int .i64 5) (.int .u64 0) (.int .u64 0) (.int .u64 0) (.int .u64 0) (.int .i64 0) (.int .i64 1) (.slice (some ⟨n4, 0, none⟩) 1 1))
  generalize (put8 W5 w.heap.size (.int .i64 5) (.int .u64 0) (.int .u64 0) (.int .u64 0) (.int .u64 0) (.int .i64 0) (.int .i64 1) (.slice (some ⟨n4, 0, none⟩) 1 1)) = W9 at a p q hNode ⊢
  obtain ⟨⟨e0, e1, e2, e3, e4, e5, e6, e7⟩, -⟩ := cells8 a
  exact bodyPost_ret (v := .agg #[(.int .i64 5), (.int .u64 0), (.int .u64 0), (.int .u64 0), (.int .u64 0), (.int .i64 0), (.int .i64 1), (.slice (some ⟨n4, 0, none⟩) 1 1)]) (by simp [results, Try.results32, go_sem, e0, e1, e2, e3, e4, e5, e6, e7]) rfl ⟨⟨_, rfl, hNode⟩, p, q⟩

end Go.Proofs.Ytgjmomiobffmdaa.P07
