/- The document's parser (layer 7): item. -/
import Derived.Test.YtgjmomiobffmdaaAtomP07
namespace Go.Proofs.Ytgjmomiobffmdaa.P07
open Go.RowKit Go.Proofs.Ytgjmomiobffmdaa.Base Go.Proofs.Ytgjmomiobffmdaa.IL Go.Proofs.Ytgjmomiobffmdaa.Bytes
open Go.Proofs.Ytgjmomiobffmdaa.Sets (ST)

theorem Lie.under {w : World} {ok : Nat → Prop} {a : Option Addr} {M : List T} (h : Lie w ok a M) : Lie w (fun k => ok k ∧ k < w.heap.size) a M := by
  induction h with
  | nil a => exact .nil a
  | cons bl off L A C hL hb hok hC hc _ ih => exact .cons bl off L A C hL hb ⟨hok, hb⟩ hC hc ih

/-- What holds while an item is read: its atom lies in block nA, its parts from nV on, below nA. -/
structure It (w : World) (b : Nat) (l : List UInt8) (nV nA : Nat) (t : T) (a : Option Addr) (c : Nat) (s : PS) (W : World) : Prop where
  pr : Pr W b l s
  out : At W w.heap.size 28 nzeros
  own : At W nA 28 (ncells t a c)
  keep : Keep (fun i => i = b) w W
  lie : Lie W (fun k => nV ≤ k ∧ k < nA) a t.subs
  low : b < w.heap.size ∧ w.heap.size < nV ∧ nV ≤ nA ∧ t.subs.length ≤ c
theorem It.step {w : World} {b : Nat} {l : List UInt8} {nV nA : Nat} {t : T} {a : Option Addr} {c : Nat} {s s' : PS} {W W' : World} (I : It w b l nV nA t a c s W) (h : Pr W' b l s') (q : Keep (fun i => i = b) W W') : It w b l nV nA t a c s' W' :=
  have hl := I.low
  ⟨h, I.out.keep q (by omega), I.own.keep q (by omega), I.keep.trans q, I.lie.keep q (fun k hk e => by omega), hl⟩
theorem It.quiet {w : World} {b : Nat} {l : List UInt8} {nV nA : Nat} {t : T} {a : Option Addr} {c : Nat} {s : PS} {W W' : World} (I : It w b l nV nA t a c s W) (q : Keep (fun _ => False) W W') : It w b l nV nA t a c s W' :=
  ⟨I.pr.keep q (fun h => h), I.out.keep q (fun h => h), I.own.keep q (fun h => h), I.keep.trans (upk b q), I.lie.keepF q, I.low⟩
theorem It.on {w : World} {b : Nat} {l : List UInt8} {nV nA : Nat} {t : T} {a : Option Addr} {c : Nat} {s : PS} {W : World} (I : It w b l nV nA t a c s W) : It w b l nV nA t a c s.adv (W.setCell ⟨b, 1, none⟩ (.int .i64 ((s.pos : Int) + 1))) :=
  I.step (At.set I.pr 1 (.int .i64 ((s.pos : Int) + 1))) ((Keep.refl (fun i => i = b) W).setCell (p := ⟨b, 1, none⟩) (fun _ => rfl) _)
theorem It.start {w : World} {b : Nat} {l : List UInt8} {t : T} {a : Option Addr} {c nV : Nat} {s : PS} {w1 : World} (hb : b < w.heap.size) (hV : w.heap.size < nV) (hn : nV ≤ w1.heap.size) (h : Pr w1 b l s) (h0 : At w1 w.heap.size 28 nzeros) (q : Keep (fun i => i = b) w w1) (hle : t.subs.length ≤ c) (hl : Lie w1 (fun k => nV ≤ k) a t.subs) :
    It w b l nV w1.heap.size t a c s (w1.alloc (.cells (ncells t a c) 28)) :=
  ⟨h.keep ((Keep.refl (fun _ => False) w1).alloc (.cells (ncells t a c) 28)) (fun h => h), h0.alloc _, At.new w1 _ _, q.alloc _, hl.under.keepF ((Keep.refl (fun _ => False) w1).alloc (.cells (ncells t a c) 28)), hb, hV, hn, hle⟩

def sgs : List UInt8 := [42, 43, 63, 123]

set_option maxRecDepth 100000 in
set_option maxHeartbeats 8000000 in
theorem item_none (b o : Nat) (l : List UInt8) (B : List UInt8 → PS → T × PS) (hB : NodeC 35 b l o B) (s : PS) (w : World) (hH : Here l s) (ho : s.opn = o) (hb : b < w.heap.size) (h : Pr w b l s) (t : T) (s2 : PS) (hR : B l s = (t, s2)) (c : Int) (hc : nxt l s2 = c) (hin : inL sgs c = false) : Calls Try.prog 32 #[.pointer (some ⟨b, 0, none⟩)] w fun e w' => (∃ v, e = .returned v ∧ NodeV w' (fun k => w.heap.size ≤ k) v (t, s2).1) ∧ Pr w' b l (t, s2).2 ∧ Keep (fun i => i = b) w w' := by
  have HC := Lib.hid hc
  have HAt := Lib.hid (show ∀ W, b < W.heap.size → Pr W b l s → Calls Try.prog 35 #[.pointer (some ⟨b, 0, none⟩)] W fun e w' => (∃ v, e = .returned v ∧ NodeV w' (fun k => W.heap.size ≤ k) v t) ∧ Pr w' b l s2 ∧ Keep (fun i => i = b) W w' from fun W hbW hW => by
    have h1 := hB s W hH ho hbW hW
    rw [hR] at h1
    exact h1)
  have HIn := Lib.hid (show ∀ W, Calls Try.prog 36 #[.string ⟨#[42, 43, 63, 123]⟩, .int .i64 c] W fun e w' => e = .returned (.bool false) ∧ W = w' from fun W => by
    have h1 := in_any sgs c (by decide) W
    rw [hin] at h1
    exact h1)
  clear hc hB hR hin
  have HB := Lib.hid hb
  have hbn : b ≠ w.heap.size := by omega
  have HBN := Lib.hid hbn
  have W0 := Lib.hid (And.intro (h.keep ((Keep.refl (fun _ => False) w).alloc (.cells nzeros 28)) (fun h => h)) (And.intro (At.new w nzeros 28) ((Keep.refl (fun i => i = b) w).alloc (.cells nzeros 28))))
  clear h hb hbn
  go_enter Try.func32, Try.ntmps32
  go_wp2_with fail
  generalize (w.alloc (.cells nzeros 28)) = V at *
  have hV := W0.out.2.1.lt
  refine (HAt.out V (by have := HB.out; omega) W0.out.1).mono ?_
  rintro e w1 ⟨⟨v, rfl, a', c', rfl, hle, hLie⟩, r1, q1⟩
  have I1 := Lib.hid (It.start HB.out hV q1.size r1 (W0.out.2.1.keep q1 (Ne.symm HBN.out)) (W0.out.2.2.trans q1) hle hLie)
  clear hV r1 q1 hle hLie
  go_upto_region 2 with fail
  generalize (w1.alloc (.cells (ncells t a' c') 28)) = W1 at *
  generalize w1.heap.size = nA at *
  generalize V.heap.size = nV at *
  go_wp2_with fail
  refine (next_is HC.out W1 I1.out.pr).mono ?_
  rintro e w2 ⟨rfl, q2⟩
  have I2 := Lib.hid (I1.out.quiet q2)
  clear q2
  go_wp2_with fail
  refine (HIn.out w2).mono ?_
  rintro e w3 ⟨rfl, rfl⟩
  obtain ⟨⟨x0, x1, x2, x3, x4, x5, x6, x7⟩, -⟩ := cells8 I2.out.own
  have hlt5 := I2.out.own.lt
  obtain ⟨⟨c0, c1, c2, c3, c4, c5, c6, c7⟩, f0, f1, f2, f3, f4, f5, f6, f7⟩ := cells8 I2.out.out
  have hlt0 := (I2.out.out).lt
  go_wp2_with fail
  change bodyPost _ _ _ _ _ (put8 w2 w.heap.size (.int .i64 t.kind) (.int .u64 t.set.x0) (.int .u64 t.set.x1) (.int .u64 t.set.x2) (.int .u64 t.set.x3) (.int .i64 t.mn) (.int .i64 t.mx) (.slice a' t.subs.length c'))
  have a := set8 I2.out.out (.int .i64 t.kind) (.int .u64 t.set.x0) (.int .u64 t.set.x1) (.int .u64 t.set.x2) (.int .u64 t.set.x3) (.int .i64 t.mn) (.int .i64 t.mx) (.slice a' t.subs.length c')
  have p := other8 (show At _ b _ _ from I2.out.pr) HBN.out (.int .i64 t.kind) (.int .u64 t.set.x0) (.int .u64 t.set.x1) (.int .u64 t.set.x2) (.int .u64 t.set.x3) (.int .i64 t.mn) (.int .i64 t.mx) (.slice a' t.subs.length c')
  have q := keep8 I2.out.keep (b := w.heap.size) (fun h => absurd h (Nat.lt_irrefl _)) (.int .i64 t.kind) (.int .u64 t.set.x0) (.int .u64 t.set.x1) (.int .u64 t.set.x2) (.int .u64 t.set.x3) (.int .i64 t.mn) (.int .i64 t.mx) (.slice a' t.subs.length c')
  have hLast := (I2.out.lie.keep (keep8 (Keep.refl (fun i => i = w.heap.size) w2) (b := w.heap.size) (fun _ => rfl) (.int .i64 t.kind) (.int .u64 t.set.x0) (.int .u64 t.set.x1) (.int .u64 t.set.x2) (.int .u64 t.set.x3) (.int .i64 t.mn) (.int .i64 t.mx) (.slice a' t.subs.length c')) (fun k hk e => by have := I2.out.low; omega)).mono (ok' := fun k => w.heap.size ≤ k) (fun k hk => by have := I2.out.low; omega)
  generalize (put8 w2 w.heap.size (.int .i64 t.kind) (.int .u64 t.set.x0) (.int .u64 t.set.x1) (.int .u64 t.set.x2) (.int .u64 t.set.x3) (.int .i64 t.mn) (.int .i64 t.mx) (.slice a' t.subs.length c')) = W9 at a p q hLast ⊢
  obtain ⟨⟨e0, e1, e2, e3, e4, e5, e6, e7⟩, -⟩ := cells8 a
  exact bodyPost_ret (v := .agg #[(.int .i64 t.kind), (.int .u64 t.set.x0), (.int .u64 t.set.x1), (.int .u64 t.set.x2), (.int .u64 t.set.x3), (.int .i64 t.mn), (.int .i64 t.mx), (.slice a' t.subs.length c')]) (by simp [results, Try.results32, go_sem, e0, e1, e2, e3, e4, e5, e6, e7]) rfl ⟨⟨_, rfl, a', c', rfl, I2.out.low.2.2.2, hLast⟩, p, q⟩

end Go.Proofs.Ytgjmomiobffmdaa.P07
