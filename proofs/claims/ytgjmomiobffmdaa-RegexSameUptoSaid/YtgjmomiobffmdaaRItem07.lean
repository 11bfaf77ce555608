/- The code's reader (layer 7): item. -/
import Derived.Test.YtgjmomiobffmdaaRAtomA07
import Derived.Test.YtgjmomiobffmdaaRNum07
namespace Go.Proofs.Ytgjmomiobffmdaa.P07
open Go.RowKit Go.Proofs.Ytgjmomiobffmdaa.Base Go.Proofs.Ytgjmomiobffmdaa.IL Go.Proofs.Ytgjmomiobffmdaa.Bytes
open Go.Proofs.Ytgjmomiobffmdaa.Sets (ST)

/-- One node in a block, as a list of parts. -/
theorem lie_one {W : World} {ok : Nat → Prop} {n : Nat} {t : T} {a : Option Addr} {c : Nat} (hrow : At W n 28 (ncells t a c)) (hok : ok n) (hle : t.subs.length ≤ c) (hL : Lie W ok a t.subs) : Lie W ok (some ⟨n, 0, none⟩) [t] := by
  refine .cons n 0 [t] (fun _ => a) (fun _ => c) (by simp) hrow.lt hok (fun i t' ht => ?_) (fun i t' ht j v hv => ?_) (fun i t' ht => ?_)
  · cases i with
    | zero =>
      simp at ht
      subst ht
      exact hle
    | succ i => simp at ht
  · cases i with
    | zero =>
      simp at ht
      subst ht
      have := hrow.cell hv
      simpa using this
    | succ i => simp at ht
  · cases i with
    | zero =>
      simp at ht
      subst ht
      exact hL
    | succ i => simp at ht

/-- The reader, the result's block, and a node in block nA. -/
structure Ri (w : World) (b : Nat) (l : List UInt8) (nA : Nat) (t : T) (a : Option Addr) (c : Nat) (s : PS) (W : World) : Prop where
  rs : Rs w b l 28 nzeros s W
  own : At W nA 28 (ncells t a c)
  lie : Lie W (fun k => w.heap.size < k) a t.subs
  low : w.heap.size < nA ∧ t.subs.length ≤ c
theorem Ri.step {w : World} {b : Nat} {l : List UInt8} {nA : Nat} {t : T} {a : Option Addr} {c : Nat} {s s' : PS} {W W' : World} (I : Ri w b l nA t a c s W) (h : Rd W' b l s') (q : Keep (fun i => i = b) W W') : Ri w b l nA t a c s' W' :=
  ⟨I.rs.step h q, I.own.keep q (by have := I.low; have := I.rs.low; omega), I.lie.keep q (fun k hk e => by have := I.rs.low; omega), I.low⟩
theorem Ri.quiet {w : World} {b : Nat} {l : List UInt8} {nA : Nat} {t : T} {a : Option Addr} {c : Nat} {s : PS} {W W' : World} (I : Ri w b l nA t a c s W) (q : Keep (fun _ => False) W W') : Ri w b l nA t a c s W' :=
  I.step (I.rs.rd.keep q (fun h => h)) (upk b q)

set_option maxRecDepth 100000 in
set_option maxHeartbeats 8000000 in
theorem ritem_any (F b o : Nat) (l : List UInt8) (A : List UInt8 → PS → T × PS) (hl : l.length ≤ 100000000) (hT : Tame A) (hI : NodeR 39 b l o (atomP F A)) : NodeR 34 b l o (itemP F A) := by
  intro s w hb hp hop h
  have W0 := Lib.hid (Rs.start h 28 nzeros)
  have hat := fun W h => hI s W hb hp hop h
  have hr : itemP F A l s = sgB (atomP F A l s).1 (nxt l (atomP F A l s).2) l (atomP F A l s).2 := rfl
  have hbd : ∀ x, (atomP F A l s).2.bad = some x → (itemP F A l s).2.bad = some x := fun x h => by
    rw [hr]
    exact (sg_tame (atomP F A l s).1).bad l _ x h
  have hp1 := fun h => (atom_tame F hT).pos_le (l := l) (s := s) hb hp h
  obtain ⟨⟨tR, sR⟩, hrr⟩ : ∃ r, itemP F A l s = r := ⟨_, rfl⟩
  rw [hrr] at hr hbd ⊢
  obtain ⟨⟨t, s1⟩, hq⟩ : ∃ q, atomP F A l s = q := ⟨_, rfl⟩
  rw [hq] at hat hr hbd hp1
  dsimp only at hr hbd hp1
  have HC := Lib.hid (And.intro hat (And.intro hr (And.intro hbd hp1)))
  clear h hat hr hbd hp1 hrr hq hb hp hI
  go_enter Try.func34, Try.ntmps34
  go_upto_region 1 with fail
  generalize (w.alloc (.cells nzeros 28)) = V at *
  go_wp2_with fail
  refine (HC.out.1 V W0.out.rd).mono ?_
  intro e w1 hO
  rcases hO.split with ⟨hb1, v, rfl, ⟨a', c', hv, hle, hLie⟩, h1, q1⟩ | ⟨x, hb1, rfl, q1⟩
  · dsimp only at hv hb1 hle hLie
    subst hv
    have hpos := HC.out.2.2.2 hb1
    have hlow := W0.out.out.lt
    have I1 := Lib.hid (show Ri w b l w1.heap.size t a' c' s1 (w1.alloc (.cells (ncells t a' c') 28)) from by
      have J := W0.out.step h1 q1
      have qa := (Keep.refl (fun _ => False) w1).alloc (.cells (ncells t a' c') 28)
      exact ⟨J.quiet qa, At.new w1 _ _, (hLie.keepF qa).mono (fun k hk => by omega), J.out.lt, hle⟩)
    have HB := Lib.hid hb1
    clear hLie hle h1 q1 hO hlow hb1
    go_upto_region 2 with fail
    generalize (w1.alloc (.cells (ncells t a' c') 28)) = W1 at *
    generalize w1.heap.size = nA at *
    go_wp2_with fail
    refine (rtimes_any b l s1 t HB.out hl W1 I1.out.rs.rd).mono ?_
    intro e w2 hO
    rw [← HC.out.2.1] at hO
    rcases hO.split with ⟨hb2, v, rfl, hv, h2, q2⟩ | ⟨x, hb2, rfl, q2⟩
    · have I2 := Lib.hid (And.intro (I1.out.step h2 q2) hb2)
      clear h2 q2 hb2 hO
      obtain ⟨⟨x0, x1, x2, x3, x4, x5, x6, x7⟩, -⟩ := cells8 I2.out.1.own
      rcases hv with ⟨rfl, ht⟩ | ⟨mn, mx, rfl, ht⟩
      · dsimp only at ht
        subst ht
        obtain ⟨⟨k0, k1, k2, k3, k4, k5, k6, k7⟩, f0, f1, f2, f3, f4, f5, f6, f7⟩ := cells8 I2.out.1.rs.out
        have hlt0 := I2.out.1.rs.out.lt
        go_wp2_with fail
        change bodyPost _ _ _ _ _ (putN w2 w.heap.size tR a' c')
        obtain ⟨a, p, q, n⟩ := I2.out.1.rs.put tR a' c' I2.out.1.low.2 I2.out.1.lie
        generalize (putN w2 w.heap.size tR a' c') = W9 at a p q n ⊢
        obtain ⟨⟨e0, e1, e2, e3, e4, e5, e6, e7⟩, -⟩ := cells8 a
        refine bodyPost_ret (v := nodeV tR a' c') (by simp [results, Try.results34, go_sem, e0, e1, e2, e3, e4, e5, e6, e7]) rfl ?_
        exact Outs.ok I2.out.2 n p q
      · dsimp only at ht
        have HT := Lib.hid ht
        clear ht
        obtain ⟨⟨k0, k1, k2, k3, k4, k5, k6, k7⟩, f0, f1, f2, f3, f4, f5, f6, f7⟩ := cells8 I2.out.1.rs.out
        have hlt0 := I2.out.1.rs.out.lt
        go_wp2_with fail
        change bodyPost _ _ _ _ _ ((put8 w2 w.heap.size (.int .i64 5) (.int .u64 0) (.int .u64 0) (.int .u64 0) (.int .u64 0) (.int .i64 mn) (.int .i64 mx) (.slice (some ⟨w2.heap.size, 0, none⟩) 1 1)).alloc (.cells (ncells t a' c') 28))
        have hsz : (put8 w2 w.heap.size (.int .i64 5) (.int .u64 0) (.int .u64 0) (.int .u64 0) (.int .u64 0) (.int .i64 mn) (.int .i64 mx) (.slice (some ⟨w2.heap.size, 0, none⟩) 1 1)).heap.size = w2.heap.size := by unfold put8; simp [World.setCell]
        have J := I2.out.1
        have a := (set8 J.rs.out (.int .i64 5) (.int .u64 0) (.int .u64 0) (.int .u64 0) (.int .u64 0) (.int .i64 mn) (.int .i64 mx) (.slice (some ⟨w2.heap.size, 0, none⟩) 1 1)).alloc (.cells (ncells t a' c') 28)
        have p := (other8 (show At _ b _ _ from J.rs.rd) J.rs.ne (.int .i64 5) (.int .u64 0) (.int .u64 0) (.int .u64 0) (.int .u64 0) (.int .i64 mn) (.int .i64 mx) (.slice (some ⟨w2.heap.size, 0, none⟩) 1 1)).alloc (.cells (ncells t a' c') 28)
        have q := (keep8 J.rs.keep (b := w.heap.size) (fun h => absurd h (Nat.lt_irrefl _)) (.int .i64 5) (.int .u64 0) (.int .u64 0) (.int .u64 0) (.int .u64 0) (.int .i64 mn) (.int .i64 mx) (.slice (some ⟨w2.heap.size, 0, none⟩) 1 1)).alloc (.cells (ncells t a' c') 28)
        have qo := (keep8 (Keep.refl (fun i => i = w.heap.size) w2) (b := w.heap.size) (fun _ => rfl) (.int .i64 5) (.int .u64 0) (.int .u64 0) (.int .u64 0) (.int .u64 0) (.int .i64 mn) (.int .i64 mx) (.slice (some ⟨w2.heap.size, 0, none⟩) 1 1)).alloc (.cells (ncells t a' c') 28)
        have row := At.new (put8 w2 w.heap.size (.int .i64 5) (.int .u64 0) (.int .u64 0) (.int .u64 0) (.int .u64 0) (.int .i64 mn) (.int .i64 mx) (.slice (some ⟨w2.heap.size, 0, none⟩) 1 1)) (ncells t a' c') 28
        rw [hsz] at row
        have n : NodeV ((put8 w2 w.heap.size (.int .i64 5) (.int .u64 0) (.int .u64 0) (.int .u64 0) (.int .u64 0) (.int .i64 mn) (.int .i64 mx) (.slice (some ⟨w2.heap.size, 0, none⟩) 1 1)).alloc (.cells (ncells t a' c') 28)) (fun k => w.heap.size ≤ k) (.agg #[(.int .i64 5), (.int .u64 0), (.int .u64 0), (.int .u64 0), (.int .u64 0), (.int .i64 mn), (.int .i64 mx), (.slice (some ⟨w2.heap.size, 0, none⟩) 1 1)]) (repT t mn mx) :=
          ⟨some ⟨w2.heap.size, 0, none⟩, 1, by unfold nodeV ncells repT T.kind T.set T.mn T.mx T.subs; simp only [zs_zero]; rfl, Nat.le_refl 1, lie_one row (Nat.le_of_lt hlt0) J.low.2 ((J.lie.keep qo (fun k hk e => by omega)).mono (fun k hk => Nat.le_of_lt hk))⟩
        clear hsz row qo
        generalize ((put8 w2 w.heap.size (.int .i64 5) (.int .u64 0) (.int .u64 0) (.int .u64 0) (.int .u64 0) (.int .i64 mn) (.int .i64 mx) (.slice (some ⟨w2.heap.size, 0, none⟩) 1 1)).alloc (.cells (ncells t a' c') 28)) = W9 at a p q n ⊢
        obtain ⟨⟨e0, e1, e2, e3, e4, e5, e6, e7⟩, -⟩ := cells8 a
        refine bodyPost_ret (v := .agg #[(.int .i64 5), (.int .u64 0), (.int .u64 0), (.int .u64 0), (.int .u64 0), (.int .i64 mn), (.int .i64 mx), (.slice (some ⟨w2.heap.size, 0, none⟩) 1 1)]) (by simp [results, Try.results34, go_sem, e0, e1, e2, e3, e4, e5, e6, e7]) rfl ?_
        exact Outs.ok I2.out.2 (by rw [HT.out]; exact n) p q
    · have HR := Lib.hid (And.intro hb2 (I1.out.rs.keep.trans q2))
      clear hb2 q2 hO
      go_wp2_with fail
      exact ⟨rfl, Outs.gave (x := x) HR.out.1 HR.out.2⟩
  · have HR := Lib.hid (And.intro hb1 (W0.out.keep.trans q1))
    clear hb1 q1 hO
    go_wp2_with fail
    exact ⟨rfl, Outs.gave (x := x) (HC.out.2.2.1 _ HR.out.1) HR.out.2⟩
end Go.Proofs.Ytgjmomiobffmdaa.P07
