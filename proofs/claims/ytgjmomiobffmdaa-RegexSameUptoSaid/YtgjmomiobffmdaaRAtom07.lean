/- The code's reader (layer 7): class, group, atom. -/
import Derived.Test.YtgjmomiobffmdaaRCls07
import Derived.Test.YtgjmomiobffmdaaAtom07
import Derived.Test.YtgjmomiobffmdaaItem07
namespace Go.Proofs.Ytgjmomiobffmdaa.P07
open Go.RowKit Go.Proofs.Ytgjmomiobffmdaa.Base Go.Proofs.Ytgjmomiobffmdaa.IL Go.Proofs.Ytgjmomiobffmdaa.Bytes
open Go.Proofs.Ytgjmomiobffmdaa.Sets (ST)

/-- An expression, in memory that was made. -/
@[reducible] def VN (w : World) (w' : World) (v : Value) (t : T) : Prop := NodeV w' (fun k => w.heap.size ≤ k) v t
/-- The reader's function f does as A says. -/
def NodeR (f b : Nat) (l : List UInt8) (o : Nat) (A : List UInt8 → PS → T × PS) : Prop :=
  ∀ (s : PS) (w : World), s.bad = none → s.pos ≤ l.length → s.opn = o → Rd w b l s → Calls Try.prog f #[.pointer (some ⟨b, 0, none⟩)] w (Outs w b l (VN w) (A l s))

/-- The world in which a node is laid into the result's block. -/
def putN (W : World) (n : Nat) (t : T) (a : Option Addr) (c : Nat) : World :=
  put8 W n (.int .i64 t.kind) (.int .u64 t.set.x0) (.int .u64 t.set.x1) (.int .u64 t.set.x2) (.int .u64 t.set.x3) (.int .i64 t.mn) (.int .i64 t.mx) (.slice a t.subs.length c)
theorem Rs.put {w : World} {b : Nat} {l : List UInt8} {s : PS} {W : World} (I : Rs w b l 28 nzeros s W) (t : T) (a : Option Addr) (c : Nat) (hle : t.subs.length ≤ c) (hL : Lie W (fun k => w.heap.size < k) a t.subs) :
    At (putN W w.heap.size t a c) w.heap.size 28 (ncells t a c) ∧ Rd (putN W w.heap.size t a c) b l s ∧ Keep (fun i => i = b) w (putN W w.heap.size t a c) ∧ NodeV (putN W w.heap.size t a c) (fun k => w.heap.size ≤ k) (nodeV t a c) t := by
  unfold putN
  refine ⟨set8 I.out _ _ _ _ _ _ _ _, other8 (show At _ b _ _ from I.rd) I.ne _ _ _ _ _ _ _ _, keep8 I.keep (b := w.heap.size) (fun h => absurd h (Nat.lt_irrefl _)) _ _ _ _ _ _ _ _, a, c, rfl, hle, ?_⟩
  exact (hL.keep (keep8 (Keep.refl (fun i => i = w.heap.size) W) (b := w.heap.size) (fun _ => rfl) _ _ _ _ _ _ _ _) (fun k hk e => by omega)).mono (fun k hk => by omega)

set_option maxRecDepth 100000 in
set_option maxHeartbeats 1000000 in
theorem class_fn (S : ST) (w : World) : Calls Try.prog 46 #[val S] w fun e w' => e = .returned (nodeV (clsT S) none 0) ∧ Keep (fun _ => False) w w' := by
  have a0 := (At.new w (cells S) 25).alloc (.cells nzeros 28)
  have a1 := At.new (w.alloc (.cells (cells S) 25)) nzeros 28
  rw [show (w.alloc (.cells (cells S) 25)).heap.size = w.heap.size + 1 from by simp] at a1
  have q := ((Keep.refl (fun _ => False) w).alloc (.cells (cells S) 25)).alloc (.cells nzeros 28)
  have H := Lib.hid (And.intro a0 (And.intro a1 q))
  clear a0 a1 q
  go_enter Try.func46, Try.ntmps46
  go_upto_region 1 with fail
  generalize ((w.alloc (.cells (cells S) 25)).alloc (.cells nzeros 28)) = W at *
  obtain ⟨⟨k0, k1, k2, k3⟩, -⟩ := cells4 H.out.1
  obtain ⟨⟨c0, c1, c2, c3, c4, c5, c6, c7⟩, f0, f1, f2, f3, f4, f5, f6, f7⟩ := cells8 H.out.2.1
  have hlt0 := (H.out.2.1).lt
  go_wp2_with fail
  change bodyPost _ _ _ _ _ (put8 W (w.heap.size + 1) (.int .i64 2) (.int .u64 S.x0) (.int .u64 S.x1) (.int .u64 S.x2) (.int .u64 S.x3) (.int .i64 0) (.int .i64 0) (.slice none 0 0))
  have a := set8 H.out.2.1 (.int .i64 2) (.int .u64 S.x0) (.int .u64 S.x1) (.int .u64 S.x2) (.int .u64 S.x3) (.int .i64 0) (.int .i64 0) (.slice none 0 0)
  have q := keep8 H.out.2.2 (b := w.heap.size + 1) (fun h => absurd h (by omega)) (.int .i64 2) (.int .u64 S.x0) (.int .u64 S.x1) (.int .u64 S.x2) (.int .u64 S.x3) (.int .i64 0) (.int .i64 0) (.slice none 0 0)
  generalize (put8 W (w.heap.size + 1) (.int .i64 2) (.int .u64 S.x0) (.int .u64 S.x1) (.int .u64 S.x2) (.int .u64 S.x3) (.int .i64 0) (.int .i64 0) (.slice none 0 0)) = W9 at a q ⊢
  obtain ⟨⟨e0, e1, e2, e3, e4, e5, e6, e7⟩, -⟩ := cells8 a
  exact bodyPost_ret (v := .agg #[(.int .i64 2), (.int .u64 S.x0), (.int .u64 S.x1), (.int .u64 S.x2), (.int .u64 S.x3), (.int .i64 0), (.int .i64 0), (.slice none 0 0)]) (by simp [results, Try.results46, go_sem, e0, e1, e2, e3, e4, e5, e6, e7]) rfl ⟨rfl, q⟩

/-- One more bracket stands open; one less. -/
def PS.open1 (s : PS) : PS := { s with opn := s.opn + 1 }
def PS.shut1 (s : PS) : PS := { s with opn := s.opn - 1 }
theorem nxt_shut (l : List UInt8) (s : PS) : nxt l s.shut1 = nxt l s := rfl

set_option maxRecDepth 100000 in
set_option maxHeartbeats 4000000 in
theorem rgroup_any (b : Nat) (l : List UInt8) (A : List UInt8 → PS → T × PS) (hl : l.length ≤ 100000000) (s : PS) (w : World) (hA : s.opn < 12 → NodeR 24 b l (s.opn + 1) A) (hSt : Still A) (hb : s.bad = none) (hc : nxt l s = 40) (ho : s.opn ≤ 12) (h : Rd w b l s) :
    Calls Try.prog 45 #[.pointer (some ⟨b, 0, none⟩)] w (Outs w b l (VN w) (if s.opn = 12 then (zeroT, s.fail s.pos) else parP A l s.adv)) := by
  have W0 := Lib.hid (Rs.start h 28 nzeros)
  clear h
  by_cases h12 : s.opn = 12
  · rw [if_pos h12]
    have hf : (zeroT, s.fail s.pos).2.bad = some s.pos := bad_fail hb _
    obtain ⟨r, hr⟩ : ∃ r, (zeroT, s.fail s.pos) = r := ⟨_, rfl⟩
    rw [hr] at hf ⊢
    have HF := Lib.hid hf
    clear hf hr hc
    go_enter Try.func45, Try.ntmps45
    go_upto_region 1 with fail
    generalize (w.alloc (.cells nzeros 28)) = V at *
    have c1 : V.cell? ⟨b, 1, none⟩ = some (.int .i64 s.pos) := At.cell W0.out.rd (o := 1) rfl
    have c2 : V.cell? ⟨b, 2, none⟩ = some (.int .i64 s.opn) := At.cell W0.out.rd (o := 2) rfl
    rw [h12] at c2
    clear h12 ho
    go_wp2_with fail
    exact ⟨rfl, Outs.gave (x := s.pos) HF.out W0.out.keep⟩
  · rw [if_neg h12]
    have hlt := (nxt_lt (l := l) (s := s) (by omega)).2
    have hN := hA (by omega)
    have hmu := fun W h => must_yes b 40 l s hc hl W h
    have hin : ∀ W, Rd W b l s.adv.open1 → Calls Try.prog 24 #[.pointer (some ⟨b, 0, none⟩)] W (Outs W b l (VN W) (A l s.adv.open1)) := fun W hW => hN s.adv.open1 W hb hlt rfl hW
    have hop : (A l s.adv.open1).2.opn = s.opn + 1 := hSt l s.adv.open1
    have hr : parP A l s.adv = ((A l s.adv.open1).1, (must 41 l (A l s.adv.open1).2.shut1).2) := rfl
    obtain ⟨r, hrr⟩ : ∃ r, parP A l s.adv = r := ⟨_, rfl⟩
    rw [hrr] at hr ⊢
    obtain ⟨⟨t, s2⟩, hq⟩ : ∃ q, A l s.adv.open1 = q := ⟨_, rfl⟩
    rw [hq] at hin hr hop
    dsimp only at hr hop
    have HC := Lib.hid (And.intro hmu (And.intro hin (And.intro hr hop)))
    have e12 : ((s.opn : Int) == 12) = false := by simp; omega
    have w1 : IntKind.i64.wrap ((s.opn : Int) + 1) = (s.opn : Int) + 1 := by rw [IntKind.wrap_i64]; omega
    have w2 : IntKind.i64.wrap ((s.opn : Int) + 1 - 1) = (s.opn : Int) := by rw [IntKind.wrap_i64]; omega
    clear hmu hin hr hop hrr hq hN hc h12 hA hSt hlt
    go_enter Try.func45, Try.ntmps45
    go_upto_region 1 with fail
    generalize (w.alloc (.cells nzeros 28)) = V at *
    have c2 : V.cell? ⟨b, 2, none⟩ = some (.int .i64 s.opn) := At.cell W0.out.rd (o := 2) rfl
    go_wp2_with fail
    refine (HC.out.1 V W0.out.rd).mono ?_
    rintro e w1 ⟨rfl, h1, q1⟩
    clear c2
    have c2 : w1.cell? ⟨b, 2, none⟩ = some (.int .i64 s.opn) := At.cell h1 (o := 2) rfl
    have f2 := At.frozen h1 2
    have I1 := Lib.hid (W0.out.step h1 q1)
    have I2 := Lib.hid (I1.out.step (s' := s.adv.open1) (W' := w1.setCell ⟨b, 2, none⟩ (.int .i64 ((s.opn : Int) + 1))) (At.set h1 2 (.int .i64 ((s.opn : Int) + 1))) ((Keep.refl (fun i => i = b) w1).setCell (p := ⟨b, 2, none⟩) (fun _ => rfl) _))
    clear h1 q1
    go_upto_region 5 with fail
    generalize (w1.setCell ⟨b, 2, none⟩ (.int .i64 ((s.opn : Int) + 1))) = W2 at *
    clear c2 f2
    go_wp2_with fail
    refine (HC.out.2.1 W2 I2.out.rd).mono ?_
    intro e w3 hO
    rcases hO.split with ⟨hb3, v, rfl, ⟨a', c', hv, hle, hLie⟩, h3, q3⟩ | ⟨x, hb3, rfl, q3⟩
    · dsimp only at hv
      subst hv
      have I3 := I2.out.step h3 q3
      have hlow := I2.out.out.lt
      have I4 := Lib.hid (And.intro (I3.quiet ((Keep.refl (fun _ => False) w3).alloc (.cells (ncells t a' c') 28))) (And.intro (At.new w3 (ncells t a' c') 28) (And.intro ((hLie.keepF ((Keep.refl (fun _ => False) w3).alloc (.cells (ncells t a' c') 28))).mono (ok' := fun k => w.heap.size < k) (fun k hk => by omega)) (And.intro hle (And.intro hb3 (show w.heap.size < w3.heap.size from by have := q3.size; omega))))))
      clear hLie hle h3 q3 hb3 I3 hO hlow
      go_upto_region 6 with fail
      generalize (w3.alloc (.cells (ncells t a' c') 28)) = W4 at *
      generalize w3.heap.size = nn at *
      go_wp2_with fail
      by_cases h41 : nxt l s2 = 41
      · have hms : (must 41 l s2.shut1).2 = s2.adv.shut1 := by unfold must; rw [nxt_shut, if_pos h41]; rfl
        have hr := HC.out.2.2.1
        rw [hms] at hr
        have HR := Lib.hid hr
        refine (must_yes b 41 l s2 h41 hl W4 I4.out.1.rd).mono ?_
        rintro e w5 ⟨rfl, h5, q5⟩
        have c2 : w5.cell? ⟨b, 2, none⟩ = some (.int .i64 ((s.opn : Int) + 1)) := by
          have := At.cell h5 (o := 2) (v := .int .i64 s2.opn) rfl
          rw [this, HC.out.2.2.2]
          rfl
        have f2 := At.frozen h5 2
        have qk : Keep (fun i => i = b) W4 (w5.setCell ⟨b, 2, none⟩ (.int .i64 (s.opn : Int))) := q5.trans ((Keep.refl (fun i => i = b) w5).setCell (p := ⟨b, 2, none⟩) (fun _ => rfl) _)
        have I6 := Lib.hid (And.intro (I4.out.1.step (s' := s2.adv.shut1) (W' := w5.setCell ⟨b, 2, none⟩ (.int .i64 (s.opn : Int))) (by
          have := At.set h5 2 (.int .i64 (s.opn : Int))
          have e : ((s2.opn - 1 : Nat) : Int) = (s.opn : Int) := by rw [HC.out.2.2.2]; omega
          show At _ b _ #[str l, .int .i64 _, .int .i64 ((s2.opn - 1 : Nat) : Int)]
          rw [e]
          exact this) qk) (And.intro (I4.out.2.1.keep qk (by have := I4.out.2.2.2.2.2; have := I4.out.1.low; omega)) (I4.out.2.2.1.keep qk (fun k hk e => by have := I4.out.1.low; omega))))
        clear h5 q5 qk hms hr h41
        go_upto_region 8 with fail
        generalize (w5.setCell ⟨b, 2, none⟩ (.int .i64 (s.opn : Int))) = W6 at *
        clear c2 f2
        obtain ⟨⟨x0, x1, x2, x3, x4, x5, x6, x7⟩, -⟩ := cells8 I6.out.2.1
        obtain ⟨⟨k0, k1, k2, k3, k4, k5, k6, k7⟩, f0, f1, f2, f3, f4, f5, f6, f7⟩ := cells8 I6.out.1.out
        have hlt0 := I6.out.1.out.lt
        go_wp2_with fail
        change bodyPost _ _ _ _ _ (putN W6 w.heap.size t a' c')
        obtain ⟨a, p, q, n⟩ := I6.out.1.put t a' c' I4.out.2.2.2.1 I6.out.2.2
        generalize (putN W6 w.heap.size t a' c') = W9 at a p q n ⊢
        obtain ⟨⟨e0, e1, e2, e3, e4, e5, e6, e7⟩, -⟩ := cells8 a
        refine bodyPost_ret (v := nodeV t a' c') (by simp [results, Try.results45, go_sem, e0, e1, e2, e3, e4, e5, e6, e7]) rfl ?_
        exact Outs.ok (by rw [HR.out]; exact I4.out.2.2.2.2.1) (by rw [HR.out]; exact n) (by rw [HR.out]; exact p) q
      · have hms : (must 41 l s2.shut1).2 = (s2.shut1.fail s2.pos).adv := by unfold must; rw [nxt_shut, if_neg h41]; rfl
        have hr := HC.out.2.2.1
        rw [hms] at hr
        refine (must_no b 41 l s2 I4.out.2.2.2.2.1 h41 W4 I4.out.1.rd).mono ?_
        rintro e w5 ⟨rfl, q5⟩
        have HR := Lib.hid (And.intro hr q5)
        clear q5 hms hr h41
        go_wp2_with fail
        exact ⟨rfl, Outs.gave (x := s2.pos) (by rw [HR.out.1]; exact bad_fail (s := s2.shut1) I4.out.2.2.2.2.1 _) (I4.out.1.keep.trans HR.out.2)⟩
    · have HR := Lib.hid (And.intro hb3 (I2.out.keep.trans q3))
      clear hb3 q3 hO
      go_wp2_with fail
      exact ⟨rfl, Outs.gave (x := x) (by rw [HC.out.2.2.1]; exact (must_tame 41 (by decide)).bad l _ x HR.out.1) HR.out.2⟩
end Go.Proofs.Ytgjmomiobffmdaa.P07
