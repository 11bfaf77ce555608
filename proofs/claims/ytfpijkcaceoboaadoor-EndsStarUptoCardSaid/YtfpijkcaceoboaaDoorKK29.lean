/- The document's nothing and of (layer 10). -/
import Derived.Test.YtfpijkcaceoboaaDoorKK24
import Derived.Test.YtfpijkcaceoboaaDoorKK27
namespace Go.Proofs.YtfpijkcaceoboaaDoor.P10
open Go.RowKit Go.Proofs.YtfpijkcaceoboaaDoor.Base Go.Proofs.YtfpijkcaceoboaaDoor.Bytes Go.Proofs.YtfpijkcaceoboaaDoor.P07 Go.Proofs.YtfpijkcaceoboaaDoor.P08
open Go.Proofs.YtfpijkcaceoboaaDoor.Sets (ST)

set_option maxRecDepth 100000 in
set_option maxHeartbeats 4000000 in
theorem fno_any (t : T) (a : Option Addr) (c : Nat) (w : World) : Calls Tryd.prog 50 #[nodeV t a c] w fun e w' => e = .returned (.bool (isNo t)) ∧ Keep (fun _ => False) w w' := by
  obtain ⟨r, hr⟩ : ∃ r, isNo t = r := ⟨_, rfl⟩
  obtain ⟨E, hE⟩ : ∃ E, eqB t.set ST.none = E := ⟨_, rfl⟩
  have es : ∀ W, (Op.equalIn 10000 24 (.agg #[.int .u64 (t.set.x0 : Int), .int .u64 (t.set.x1 : Int), .int .u64 (t.set.x2 : Int), .int .u64 (t.set.x3 : Int)]) (.agg #[.int .u64 0, .int .u64 0, .int .u64 0, .int .u64 0])).run Tryd.prog W = .ok E W := fun W => by
    rw [← hE]
    exact eq_set t.set ST.none W
  have hrE : r = (decide (t.kind = 2) && E) := by rw [← hr, ← hE]; rfl
  have HR := Lib.hid hrE
  have q := Lib.hid ((Keep.refl (fun _ => False) w).alloc (.cells (ncells t a c) 27))
  rw [hr]
  clear hr hE hrE
  go_enter Tryd.func50, Tryd.ntmps50
  go_wp2_with fail
  all_goals go_ret
  · rename_i h2
    exact ⟨by rw [HR.out, decide_eq_true h2, Bool.true_and]; rfl, q.out⟩
  · rename_i h2
    exact ⟨by rw [HR.out, decide_eq_false h2, Bool.false_and]; rfl, q.out⟩
/-- Whatever is handed back as a node: its parts lie where those of the arguments lie, or in new blocks. -/
def Gives (w : World) (ok : Nat → Prop) (t : T) (e : Ending) (w' : World) : Prop := (∃ v, e = .returned v ∧ NodeV w' (fun k => ok k ∨ w.heap.size ≤ k) v t) ∧ Keep (fun _ => False) w w'
/-- The result's block, the argument's box beside it. -/
structure Rb (w : World) (n : Nat) (W : World) : Prop where
  out : At W n 27 nzeros
  keep : Keep (fun _ => False) w W
  lt : w.heap.size ≤ n
theorem Rb.next {w : World} {n : Nat} {W W' : World} (h : Rb w n W) (q : Keep (fun _ => False) W W') : Rb w n W' := ⟨h.out.keep q (fun h => h), h.keep.trans q, h.lt⟩
/-- The node that is stored there is handed back. -/
theorem Rb.put {w : World} {n : Nat} {W : World} (h : Rb w n W) (t : T) (a : Option Addr) (c : Nat) : At (putNd W n 0 t a c) n 27 (ncells t a c) ∧ Keep (fun _ => False) w (putNd W n 0 t a c) ∧ Keep (fun b => b = n) W (putNd W n 0 t a c) := by
  have k := set8 h.out (.int .i64 t.kind) (.int .u64 t.set.x0) (.int .u64 t.set.x1) (.int .u64 t.set.x2) (.int .u64 t.set.x3) (.int .i64 t.mn) (.int .i64 t.mx) (.slice a t.subs.length c)
  exact ⟨k, keep8 h.keep (b := n) (fun h1 => absurd h1 (by have := h.lt; omega)) (.int .i64 t.kind) (.int .u64 t.set.x0) (.int .u64 t.set.x1) (.int .u64 t.set.x2) (.int .u64 t.set.x3) (.int .i64 t.mn) (.int .i64 t.mx) (.slice a t.subs.length c), putNd_keep W n 0 t a c⟩
theorem Rb.gives {w : World} {n : Nat} {W : World} (h : Rb w n W) {ok : Nat → Prop} {t : T} {a : Option Addr} {c : Nat} (hc : t.subs.length ≤ c) (hl : Lie W (fun k => (ok k ∨ w.heap.size ≤ k) ∧ k ≠ n) a t.subs) : Gives w ok t (.returned (nodeV t a c)) (putNd W n 0 t a c) := by
  have k := h.put t a c
  exact ⟨⟨_, rfl, a, c, rfl, hc, (hl.keep k.2.2 (fun k hk e => hk.2 e)).mono fun k hk => hk.1⟩, k.2.1⟩
end Go.Proofs.YtfpijkcaceoboaaDoor.P10
/- The document's of (layer 10). -/
namespace Go.Proofs.YtfpijkcaceoboaaDoor.P10
open Go.RowKit Go.Proofs.YtfpijkcaceoboaaDoor.Base Go.Proofs.YtfpijkcaceoboaaDoor.Bytes Go.Proofs.YtfpijkcaceoboaaDoor.P07 Go.Proofs.YtfpijkcaceoboaaDoor.P08
open Go.Proofs.YtfpijkcaceoboaaDoor.Sets (ST)

set_option maxRecDepth 100000 in
set_option maxHeartbeats 4000000 in
theorem fof_any (k : Int) (L : List T) (a : Option Addr) (cap : Nat) (e : T) (ae : Option Addr) (ce : Nat) (ok : Nat → Prop) (w : World) (hL : Lie w ok a L) (hcap : L.length ≤ cap) (he : Lie w ok ae e.subs) (hce : e.subs.length ≤ ce) :
    Calls Tryd.prog 51 #[.int .i64 k, .slice a L.length cap, nodeV e ae ce] w (Gives w ok (joinT k L e)) := by
  have hlen := hL.len
  have b0 := (At.new w (ncells e ae ce) 27).alloc (.cells nzeros 27)
  have r0 : Rb w (w.heap.size + 1) ((w.alloc (.cells (ncells e ae ce) 27)).alloc (.cells nzeros 27)) := by
    refine ⟨?_, ((Keep.refl (fun _ => False) w).alloc _).alloc _, by omega⟩
    have := At.new (w.alloc (.cells (ncells e ae ce) 27)) nzeros 27
    rw [show (w.alloc (.cells (ncells e ae ce) 27)).heap.size = w.heap.size + 1 from by simp] at this
    exact this
  have q := r0.keep
  have hlieE := Lib.hid (he.under.keepF q)
  have hlieL := Lib.hid (hL.under.keepF q)
  have HC := Lib.hid (And.intro hcap hce)
  have HR := Lib.hid r0
  have HB := Lib.hid b0
  clear he hL hcap hce r0 b0 q
  rcases join_cases k L e with ⟨rfl, ej⟩ | ⟨t, rfl, ej⟩ | ⟨h2, ej⟩
  · rw [ej]
    have HJ := Lib.hid ej
    clear ej
    go_enter Tryd.func51, Tryd.ntmps51
    go_upto_region 1 with fail
    generalize ((w.alloc (.cells (ncells e ae ce) 27)).alloc (.cells nzeros 27)) = W at *
    obtain ⟨⟨c0, c1, c2, c3, c4, c5, c6, c7⟩, -⟩ := cells8 HB.out
    obtain ⟨⟨d0, d1, d2, d3, d4, d5, d6, d7⟩, f0, f1, f2, f3, f4, f5, f6, f7⟩ := cells8 HR.out.out
    have hlt := HR.out.out.lt
    go_wp2_with fail
    change bodyPost _ _ _ _ _ (putNd (W) (w.heap.size + 1) 0 (e) (ae) (ce))
    have hP := HR.out.put (e) (ae) (ce)
    have hG := HR.out.gives (ok := ok) HC.out.2 (hlieE.out.mono fun k hk => ⟨.inl hk.1, by omega⟩)
    generalize (putNd (W) (w.heap.size + 1) 0 (e) (ae) (ce)) = W9 at hP hG ⊢
    obtain ⟨⟨e0, e1, e2, e3, e4, e5, e6, e7⟩, -⟩ := cells8 hP.1
    exact bodyPost_ret (v := nodeV (e) (ae) (ce)) (by simp [results, Tryd.results51, go_sem, e0, e1, e2, e3, e4, e5, e6, e7]) rfl hG
  · rw [ej]
    have HJ := Lib.hid ej
    clear ej
    obtain ⟨bl, off, a1, c1, rfl, hok, hbl, hc1, L1, C1⟩ := hlieL.out.get (i := 0) (t := t) rfl
    have L2 := Lib.hid (And.intro (L1.mono (ok' := fun k => (ok k ∨ w.heap.size ≤ k) ∧ k ≠ w.heap.size + 1) fun k hk => ⟨.inl hk.1, by omega⟩) hc1)
    obtain ⟨x0, x1, x2, x3, x4, x5, x6, x7⟩ := ncell C1
    rw [Nat.zero_mul, Nat.add_zero] at x0 x1 x2 x3 x4 x5 x6 x7
    clear C1 L1 hbl hok hc1
    go_enter Tryd.func51, Tryd.ntmps51
    go_upto_region 1 with fail
    generalize ((w.alloc (.cells (ncells e ae ce) 27)).alloc (.cells nzeros 27)) = W at *
    obtain ⟨⟨d0, d1, d2, d3, d4, d5, d6, d7⟩, f0, f1, f2, f3, f4, f5, f6, f7⟩ := cells8 HR.out.out
    have hlt := HR.out.out.lt
    go_wp2_with fail
    change bodyPost _ _ _ _ _ (putNd (W) (w.heap.size + 1) 0 (t) (a1) (c1))
    have hP := HR.out.put (t) (a1) (c1)
    have hG := HR.out.gives (ok := ok) L2.out.2 L2.out.1
    generalize (putNd (W) (w.heap.size + 1) 0 (t) (a1) (c1)) = W9 at hP hG ⊢
    obtain ⟨⟨e0, e1, e2, e3, e4, e5, e6, e7⟩, -⟩ := cells8 hP.1
    exact bodyPost_ret (v := nodeV (t) (a1) (c1)) (by simp [results, Tryd.results51, go_sem, e0, e1, e2, e3, e4, e5, e6, e7]) rfl hG
  · rw [ej]
    have HJ := Lib.hid ej
    clear ej
    have hn0 : ¬ (L.length : Int) = 0 := by omega
    have hn1 : ¬ (L.length : Int) = 1 := by omega
    go_enter Tryd.func51, Tryd.ntmps51
    go_upto_region 1 with fail
    generalize ((w.alloc (.cells (ncells e ae ce) 27)).alloc (.cells nzeros 27)) = W at *
    obtain ⟨⟨d0, d1, d2, d3, d4, d5, d6, d7⟩, f0, f1, f2, f3, f4, f5, f6, f7⟩ := cells8 HR.out.out
    have hlt := HR.out.out.lt
    go_wp2_with fail
    change bodyPost _ _ _ _ _ (putNd (W) (w.heap.size + 1) 0 (.nd k ST.none 0 0 L) (a) (cap))
    have hP := HR.out.put (.nd k ST.none 0 0 L) (a) (cap)
    have hG := HR.out.gives (ok := ok) (t := .nd k ST.none 0 0 L) HC.out.1 (hlieL.out.mono fun k hk => ⟨.inl hk.1, by omega⟩)
    generalize (putNd (W) (w.heap.size + 1) 0 (.nd k ST.none 0 0 L) (a) (cap)) = W9 at hP hG ⊢
    obtain ⟨⟨e0, e1, e2, e3, e4, e5, e6, e7⟩, -⟩ := cells8 hP.1
    exact bodyPost_ret (v := nodeV (.nd k ST.none 0 0 L) (a) (cap)) (by simp [results, Tryd.results51, go_sem, e0, e1, e2, e3, e4, e5, e6, e7]) rfl hG
end Go.Proofs.YtfpijkcaceoboaaDoor.P10
