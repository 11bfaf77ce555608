/- The document's parser (layer 7): alt. -/
import Derived.Test.YtgjmomiobffmdaaCat07
namespace Go.Proofs.Ytgjmomiobffmdaa.P07
open Go.RowKit Go.Proofs.Ytgjmomiobffmdaa.Base Go.Proofs.Ytgjmomiobffmdaa.IL Go.Proofs.Ytgjmomiobffmdaa.Bytes
open Go.Proofs.Ytgjmomiobffmdaa.Sets (ST)

theorem OT.one (w : World) (ok : Nat → Prop) (t : T) (a : Option Addr) (c : Nat) (hc : t.subs.length ≤ c) (hl : Lie w ok a t.subs) (hok : ok w.heap.size) :
    OT (w.alloc (.cells (ncells t a c) 28)) ok (.slice (some ⟨w.heap.size, 0, none⟩) 1 1) [t] := by
  refine ⟨[(t, a, c)], ⟨⟨rfl, .inr ⟨w.heap.size, 1, ncells t a c, rfl, ?_, At.new w _ _, ?_, ?_, ?_, ?_⟩⟩, fun g hg => ?_, fun x hx => ?_⟩, rfl⟩
  · simp
  · simp
  · simp [maxLen]
  · simp
  · simp
  · injection hg with hg
    rw [← hg]
    exact hok
  · rw [List.mem_singleton.1 hx]
    refine ⟨hc, ((hl.under).keepF ((Keep.refl (fun _ => False) w).alloc (.cells (ncells t a c) 28))).mono (fun k hk => ⟨hk.1, fun e => ?_⟩)⟩
    have e' : some w.heap.size = some k := e
    injection e' with e'
    have : k < w.heap.size := hk.2
    omega

theorem Ct.on {w : World} {b : Nat} {l : List UInt8} {nV : Nat} {u : Value} {acc : List T} {s : PS} {W : World} (I : Ct w b l nV u acc s W) : Ct w b l nV u acc s.adv (W.setCell ⟨b, 1, none⟩ (.int .i64 ((s.pos : Int) + 1))) :=
  I.step (At.set I.pr 1 (.int .i64 ((s.pos : Int) + 1))) ((Keep.refl (fun i => i = b) W).setCell (p := ⟨b, 1, none⟩) (fun _ => rfl) _)

/-- The loop of alt. -/
structure InAlt (w : World) (b F o nV : Nat) (l : List UInt8) (A : List UInt8 → PS → T × PS) (R : List T × PS) (f : Nat) (u : Value) (acc : List T) (s : PS) (wr : World) : Prop where
  ct : Ct w b l nV u acc s wr
  eq : altL F A f acc l s = R
  here : Here l s
  opn : s.opn = o
  pos : s.bad = none → acc.length ≤ s.pos + 1 ∧ l.length + 2 ≤ s.pos + f
  len : acc.length ≤ l.length + 2
  some : acc ≠ []

set_option maxRecDepth 100000 in
set_option maxHeartbeats 8000000 in
theorem alt_any (F b o : Nat) (l : List UInt8) (A : List UInt8 → PS → T × PS) (hF : l.length + 2 ≤ F) (hl : l.length ≤ 3000) (hA : Tame A) (hI : NodeC 25 b l o (catP F A)) (hS : Still A) {kk : Nat} (hk : kk + 1 ≤ 14) (hNr : Near kk 0 A) : NodeC 20 b l o (altP F A) := by
  intro s w hH ho hb h
  obtain ⟨⟨t0, s0'⟩, hR0⟩ : ∃ R, catP F A l s = R := ⟨_, rfl⟩
  have hh0 := (cat_near F hNr).here hk hH
  have ho0 : (catP F A l s).2.opn = o := (cat_still F hS l s).trans ho
  rw [hR0] at hh0 ho0
  dsimp only at hh0 ho0
  obtain ⟨⟨RA, RS⟩, hR⟩ : ∃ R, altL F A F [t0] l s0' = R := ⟨_, rfl⟩
  have hq : altP F A l s = (wrapA RA, RS) := by unfold altP; rw [hR0]; dsimp only; rw [hR]
  rw [hq]
  have HB := Lib.hid hb
  have HR := Lib.hid (And.intro hR (And.intro hh0 ho0))
  have HCat := Lib.hid (show ∀ W, b < W.heap.size → Pr W b l s → Calls Try.prog 25 #[.pointer (some ⟨b, 0, none⟩)] W fun e w' => (∃ v, e = .returned v ∧ NodeV w' (fun k => W.heap.size ≤ k) v t0) ∧ Pr w' b l s0' ∧ Keep (fun i => i = b) W w' from fun W h1 h2 => by
    have h3 := hI s W hH ho h1 h2
    rw [hR0] at h3
    exact h3)
  have hbn : b ≠ w.heap.size := by omega
  have HBN := Lib.hid hbn
  have W0 := Lib.hid (show Ct w b l (w.heap.size + 1) (.slice none 0 0) [] s (w.alloc (.cells nzeros 28)) from ⟨h.keep ((Keep.refl (fun _ => False) w).alloc (.cells nzeros 28)) (fun h => h), At.new w nzeros 28, OT.nil _ _, (Keep.refl (fun i => i = b) w).alloc (.cells nzeros 28), hb, by omega, by simp⟩)
  clear h hb hbn hq hR hH ho hR0 hh0 ho0
  go_enter Try.func20, Try.ntmps20
  go_wp2_with fail
  generalize (w.alloc (.cells nzeros 28)) = V at *
  refine (HCat.out V (by have := W0.out.low; omega) W0.out.pr).mono ?_
  rintro e w1 ⟨⟨v, rfl, a', c', rfl, hle, hLie⟩, r1, q1⟩
  have W1 := Lib.hid (show Ct w b l (w.heap.size + 1) (.slice (some ⟨w1.heap.size, 0, none⟩) 1 1) [t0] s0' (w1.alloc (.cells (ncells t0 a' c') 28)) from by
    have I1 := W0.out.step r1 q1
    have hv := W0.out.low
    have qa := (Keep.refl (fun _ => False) w1).alloc (.cells (ncells t0 a' c') 28)
    have hlo := I1.low
    exact ⟨I1.pr.keep qa (fun h => h), I1.out.alloc _, OT.one w1 _ t0 a' c' hle (hLie.mono (fun k hk => by omega)) hlo.2.2, I1.keep.alloc _, hlo.1, hlo.2.1, by have := qa.size; omega⟩)
  clear r1 q1 hle hLie
  go_wp2_with fail
  generalize (w1.alloc (.cells (ncells t0 a' c') 28)) = V1 at *
  generalize w1.heap.size = n1 at *
  go_loopg [3] F (fun gg u wr => ∃ (acc : List T) (s' : PS), InAlt w b F o (w.heap.size + 1) l A (RA, RS) gg u acc s' wr)
  case atStart => exact ⟨[t0], s0', ⟨W1.out, HR.out.1, HR.out.2.1, HR.out.2.2, fun _ => ⟨by simp, by omega⟩, by simp, by simp⟩⟩
  case round =>
    obtain ⟨acc, s', I⟩ := hrel
    obtain ⟨c, hc⟩ : ∃ c, nxt l s' = c := ⟨_, rfl⟩
    have HC := Lib.hid hc
    have I0 := Lib.hid I.ct
    have II := Lib.hid I
    clear I hc
    go_wp2_with fail
    refine (next_is HC.out wr I0.out.pr).mono ?_
    rintro e wz ⟨rfl, qz⟩
    have I6 := Lib.hid (I0.out.quiet qz)
    clear qz
    by_cases h124 : c = 124
    · have h0 := Here.next (l := l) (s := s') (by rw [HC.out, h124]; decide)
      have hps := II.out.pos h0.1
      have hE0 := II.out.eq
      obtain ⟨f, rfl⟩ : ∃ f, gk = f + 1 := ⟨gk - 1, by omega⟩
      rw [altL, if_pos (by rw [HC.out]; exact h124)] at hE0
      have hmv : (catP F A l s'.adv).2.bad = none → s'.pos < (catP F A l s'.adv).2.pos := fun h => (cat_tame F hA).step h
      have hhere := (cat_near F hNr).here hk h0.2.2
      have hopn : (catP F A l s'.adv).2.opn = o := (cat_still F hS l s'.adv).trans II.out.opn
      have hc2 := fun W h1 h2 => hI s'.adv W h0.2.2 II.out.opn h1 h2
      obtain ⟨⟨t, s2⟩, hR⟩ : ∃ R, catP F A l s'.adv = R := ⟨_, rfl⟩
      rw [hR] at hE0 hmv hhere hopn hc2
      dsimp only at hE0 hmv hhere hopn hc2
      have HItem := Lib.hid hc2
      have HE := Lib.hid (And.intro hE0 (And.intro hmv (And.intro hhere (And.intro hopn (And.intro hps (And.intro h0.1 h0.2.1))))))
      have hw : IntKind.i64.wrap ((s'.pos : Int) + 1) = (s'.pos : Int) + 1 := by have := h0.2.1; rw [IntKind.wrap_i64]; omega
      have d1 : wz.cell? ⟨b, 1, none⟩ = some (.int .i64 s'.pos) := At.cell I6.out.pr (o := 1) rfl
      have f1 := At.frozen I6.out.pr 1
      clear h0 hps hE0 hmv hhere hopn hc2 hR
      go_wp2_with fail
      have I5 := Lib.hid I6.out.on
      clear d1 f1
      generalize (wz.setCell ⟨b, 1, none⟩ (.int .i64 ((s'.pos : Int) + 1))) = wc at *
      refine (HItem.out wc (by have := I5.out.low; omega) I5.out.pr).mono ?_
      rintro e w4 ⟨⟨v, rfl, a', c', rfl, hle, hLie⟩, r4, q4⟩
      have I7 := Lib.hid (I5.out.step r4 q4)
      have hlow := I5.out.low
      have hown := fun g hg => I5.out.ot.lt (g := g) hg
      obtain ⟨v', w9, hrun, g1, g2, g3⟩ := I7.out.ot.push t a' c' hle (hLie.mono (fun k hk => ⟨by omega, fun e => by have := (hown k e).1; omega⟩)) (by have := II.out.len; omega) (fun g hg => by have := I7.out.low; omega) 26
      have H9 := Lib.hid (show Ct w b l (w.heap.size + 1) v' (acc ++ [t]) s2 w9 from
        ⟨r4.keep g2 (fun h => by have := (hown b h).2; omega), I7.out.out.keep g2 (fun h => by have := (hown _ h).2; omega), g1, I7.out.keep.next g2 (fun i hi hl => by have := (hown i hi).2; omega), hlow.1, hlow.2.1, by have := I7.out.low; have := g2.size; omega⟩)
      clear hLie r4 q4 hlow hown g1 g2 g3 hle
      go_wp2_with (at_builtin; refine Lib.wpList_append_run _ rfl _ _ _ _ rfl _ _ rfl rfl _ _ hrun ?_)
      clear hrun
      go_wp2_with fail
      go_roundg f
      case measure => omega
      case rel =>
        refine ⟨acc ++ [t], s2, ⟨H9.out, HE.out.1, HE.out.2.2.1, HE.out.2.2.2.1, fun hb3 => ?_, ?_, by simp⟩⟩
        · have h1 := HE.out.2.1 hb3
          have h2 := HE.out.2.2.2.2.1
          rw [List.length_append, List.length_singleton]
          omega
        · have h2 := HE.out.2.2.2.2.1
          have h3 := HE.out.2.2.2.2.2.2
          rw [List.length_append, List.length_singleton]
          omega
    · have hstop : RA = acc ∧ RS = s' := by
        have e := II.out.eq
        have hng : ¬ nxt l s' = 124 := by rw [HC.out]; exact h124
        cases gk with
        | zero =>
          rw [altL] at e
          injection e with e1 e2
          exact ⟨e1.symm, e2.symm⟩
        | succ f =>
          rw [altL, if_neg hng] at e
          injection e with e1 e2
          exact ⟨e1.symm, e2.symm⟩
      obtain ⟨rfl, rfl⟩ := hstop
      obtain ⟨a1, cap, hu, hcap, hLie⟩ := I6.out.ot.form
      have hlen := II.out.len
      have hlow := I6.out.low
      have HU := Lib.hid (And.intro hcap hLie)
      have hsome := II.out.some
      clear hcap hLie II
      subst hu
      rcases RA with _ | ⟨t, _ | ⟨t2, r⟩⟩
      · exact absurd rfl hsome
      · obtain ⟨bl, off, a', c', e1, hok, hbl, hle, hL2, hcells⟩ := HU.out.2.get (i := 0) (t := t) rfl
        subst e1
        have k0 : wz.cell? ⟨bl, off, none⟩ = some (.int .i64 t.kind) := by have := hcells 0 (.int .i64 t.kind) rfl; simpa using this
        have k1 : wz.cell? ⟨bl, off + 1, none⟩ = some (.int .u64 t.set.x0) := by have := hcells 1 (.int .u64 t.set.x0) rfl; simpa using this
        have k2 : wz.cell? ⟨bl, off + 2, none⟩ = some (.int .u64 t.set.x1) := by have := hcells 2 (.int .u64 t.set.x1) rfl; simpa using this
        have k3 : wz.cell? ⟨bl, off + 3, none⟩ = some (.int .u64 t.set.x2) := by have := hcells 3 (.int .u64 t.set.x2) rfl; simpa using this
        have k4 : wz.cell? ⟨bl, off + 4, none⟩ = some (.int .u64 t.set.x3) := by have := hcells 4 (.int .u64 t.set.x3) rfl; simpa using this
        have k5 : wz.cell? ⟨bl, off + 5, none⟩ = some (.int .i64 t.mn) := by have := hcells 5 (.int .i64 t.mn) rfl; simpa using this
        have k6 : wz.cell? ⟨bl, off + 6, none⟩ = some (.int .i64 t.mx) := by have := hcells 6 (.int .i64 t.mx) rfl; simpa using this
        have k7 : wz.cell? ⟨bl, off + 7, none⟩ = some (.slice a' t.subs.length c') := by have := hcells 7 (.slice a' t.subs.length c') rfl; simpa using this
        obtain ⟨⟨c0, c1, c2, c3, c4, c5, c6, c7⟩, f0, f1, f2, f3, f4, f5, f6, f7⟩ := cells8 I6.out.out
        have hlt0 := (I6.out.out).lt
        have HL2 := Lib.hid (And.intro hL2 hle)
        clear hcells hL2 hle
        go_wp2_with fail
        change bodyPost _ _ _ _ _ (put8 wz w.heap.size (.int .i64 t.kind) (.int .u64 t.set.x0) (.int .u64 t.set.x1) (.int .u64 t.set.x2) (.int .u64 t.set.x3) (.int .i64 t.mn) (.int .i64 t.mx) (.slice a' t.subs.length c'))
        have a := set8 I6.out.out (.int .i64 t.kind) (.int .u64 t.set.x0) (.int .u64 t.set.x1) (.int .u64 t.set.x2) (.int .u64 t.set.x3) (.int .i64 t.mn) (.int .i64 t.mx) (.slice a' t.subs.length c')
        have p := other8 (show At _ b _ _ from I6.out.pr) HBN.out (.int .i64 t.kind) (.int .u64 t.set.x0) (.int .u64 t.set.x1) (.int .u64 t.set.x2) (.int .u64 t.set.x3) (.int .i64 t.mn) (.int .i64 t.mx) (.slice a' t.subs.length c')
        have q := keep8 I6.out.keep (b := w.heap.size) (fun h => absurd h (Nat.lt_irrefl _)) (.int .i64 t.kind) (.int .u64 t.set.x0) (.int .u64 t.set.x1) (.int .u64 t.set.x2) (.int .u64 t.set.x3) (.int .i64 t.mn) (.int .i64 t.mx) (.slice a' t.subs.length c')
        have hLast := (HL2.out.1.keep (keep8 (Keep.refl (fun i => i = w.heap.size) wz) (b := w.heap.size) (fun _ => rfl) (.int .i64 t.kind) (.int .u64 t.set.x0) (.int .u64 t.set.x1) (.int .u64 t.set.x2) (.int .u64 t.set.x3) (.int .i64 t.mn) (.int .i64 t.mx) (.slice a' t.subs.length c')) (fun k hk e => by omega)).mono (ok' := fun k => w.heap.size ≤ k) (fun k hk => by omega)
        generalize (put8 wz w.heap.size (.int .i64 t.kind) (.int .u64 t.set.x0) (.int .u64 t.set.x1) (.int .u64 t.set.x2) (.int .u64 t.set.x3) (.int .i64 t.mn) (.int .i64 t.mx) (.slice a' t.subs.length c')) = W9 at a p q hLast ⊢
        obtain ⟨⟨e0, e1, e2, e3, e4, e5, e6, e7⟩, -⟩ := cells8 a
        exact bodyPost_ret (v := .agg #[(.int .i64 t.kind), (.int .u64 t.set.x0), (.int .u64 t.set.x1), (.int .u64 t.set.x2), (.int .u64 t.set.x3), (.int .i64 t.mn), (.int .i64 t.mx), (.slice a' t.subs.length c')]) (by simp [results, Try.results20, go_sem, e0, e1, e2, e3, e4, e5, e6, e7]) rfl ⟨⟨_, rfl, a', c', rfl, HL2.out.2, hLast⟩, p, q⟩
      · obtain ⟨⟨c0, c1, c2, c3, c4, c5, c6, c7⟩, f0, f1, f2, f3, f4, f5, f6, f7⟩ := cells8 I6.out.out
        have hlt0 := (I6.out.out).lt
        have hl1 : ¬ (t :: t2 :: r).length = 1 := by simp
        obtain ⟨n, hn⟩ : ∃ n, (t :: t2 :: r).length = n := ⟨_, rfl⟩
        rw [hn] at hl1 hlen ⊢
        have HNN := Lib.hid hn
        clear hn
        go_wp2_with fail
        change bodyPost _ _ _ _ _ (put8 wz w.heap.size (.int .i64 4) (.int .u64 0) (.int .u64 0) (.int .u64 0) (.int .u64 0) (.int .i64 0) (.int .i64 0) (.slice a1 n cap))
        have a := set8 I6.out.out (.int .i64 4) (.int .u64 0) (.int .u64 0) (.int .u64 0) (.int .u64 0) (.int .i64 0) (.int .i64 0) (.slice a1 n cap)
        have p := other8 (show At _ b _ _ from I6.out.pr) HBN.out (.int .i64 4) (.int .u64 0) (.int .u64 0) (.int .u64 0) (.int .u64 0) (.int .i64 0) (.int .i64 0) (.slice a1 n cap)
        have q := keep8 I6.out.keep (b := w.heap.size) (fun h => absurd h (Nat.lt_irrefl _)) (.int .i64 4) (.int .u64 0) (.int .u64 0) (.int .u64 0) (.int .u64 0) (.int .i64 0) (.int .i64 0) (.slice a1 n cap)
        have hLast := (HU.out.2.keep (keep8 (Keep.refl (fun i => i = w.heap.size) wz) (b := w.heap.size) (fun _ => rfl) (.int .i64 4) (.int .u64 0) (.int .u64 0) (.int .u64 0) (.int .u64 0) (.int .i64 0) (.int .i64 0) (.slice a1 n cap)) (fun k hk e => by omega)).mono (ok' := fun k => w.heap.size ≤ k) (fun k hk => by omega)
        generalize (put8 wz w.heap.size (.int .i64 4) (.int .u64 0) (.int .u64 0) (.int .u64 0) (.int .u64 0) (.int .i64 0) (.int .i64 0) (.slice a1 n cap)) = W9 at a p q hLast ⊢
        obtain ⟨⟨e0, e1, e2, e3, e4, e5, e6, e7⟩, -⟩ := cells8 a
        exact bodyPost_ret (v := .agg #[(.int .i64 4), (.int .u64 0), (.int .u64 0), (.int .u64 0), (.int .u64 0), (.int .i64 0), (.int .i64 0), (.slice a1 n cap)]) (by simp [results, Try.results20, go_sem, e0, e1, e2, e3, e4, e5, e6, e7]) rfl ⟨⟨_, rfl, a1, cap, by rw [← HNN.out]; unfold nodeV ncells wrapA T.kind T.set T.mn T.mx T.subs; simp only [zs_zero]; rfl, HU.out.1, hLast⟩, p, q⟩
theorem altD_any (F b : Nat) (l : List UInt8) (hF : l.length + 2 ≤ F) (hl : l.length ≤ 3000) : ∀ d o, 1 ≤ d → d + o = 13 → NodeC 20 b l o (altD F d)
  | 0, o, h, _ => absurd h (by omega)
  | d + 1, o, _, hd =>
    alt_any F b o l (altD F d) hF hl (altD_tame F d) (cat_any F b o l (altD F d) hF hl (altD_tame F d) (item_any F b o l (altD F d) hl (atom_any F b o l (altD F d) hF hl (by omega) (fun ho => altD_any F b l hF hl d (o + 1) (by omega) (by omega)) (altD_still F d) (show d ≤ 14 by omega) (altD_near F d))) (altD_still F d) (by omega) (altD_near F d)) (altD_still F d) (by omega) (altD_near F d)
end Go.Proofs.Ytgjmomiobffmdaa.P07
