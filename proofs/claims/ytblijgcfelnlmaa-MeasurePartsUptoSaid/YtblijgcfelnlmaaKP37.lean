/- The code's reader (layer 7): alt, and the whole recursion. -/
import Derived.Test.YtblijgcfelnlmaaKP36
namespace Go.Proofs.Ytblijgcfelnlmaa.P07
open Go.RowKit Go.Proofs.Ytblijgcfelnlmaa.Base Go.Proofs.Ytblijgcfelnlmaa.IL Go.Proofs.Ytblijgcfelnlmaa.Bytes
open Go.Proofs.Ytblijgcfelnlmaa.Sets (ST)

/-- The loop of alt. -/
structure InRA (w : World) (b F o : Nat) (l : List UInt8) (A : List UInt8 → PS → T × PS) (R : List T × PS) (f : Nat) (u : Value) (acc : List T) (s : PS) (W : World) : Prop where
  rt : Rt w b l u acc s W
  eq : altL F A f acc l s = R
  bad : s.bad = none
  pos : s.pos ≤ l.length
  opn : s.opn = o
  len : acc.length ≤ s.pos + 1
  fuel : l.length + 1 ≤ s.pos + f
  some : acc ≠ []

set_option maxRecDepth 100000 in
set_option maxHeartbeats 8000000 in
theorem ralt_any (F b o : Nat) (l : List UInt8) (A : List UInt8 → PS → T × PS) (hF : l.length + 2 ≤ F) (hl : l.length ≤ 100000000) (hT : Tame A) (hSt : Still A) (hI : NodeR 61 b l o (catP F A)) : NodeR 55 b l o (altP F A) := by
  intro s w hb hp hop h
  have W0 := Lib.hid (Rs.start h 27 nzeros)
  have hp1 := fun h => (cat_tame F hT).pos_le (l := l) (s := s) hb hp h
  have hop1 : (catP F A l s).2.opn = o := (cat_still F hSt l s).trans hop
  have hcat := fun W h => hI s W hb hp hop h
  obtain ⟨⟨t0, s1⟩, hR0⟩ : ∃ R, catP F A l s = R := ⟨_, rfl⟩
  rw [hR0] at hp1 hop1 hcat
  dsimp only at hp1 hop1
  obtain ⟨⟨RA, RS⟩, hR⟩ : ∃ R, altL F A F [t0] l s1 = R := ⟨_, rfl⟩
  have hq : altP F A l s = (wrapA RA, RS) := by unfold altP; rw [hR0]; dsimp only; rw [hR]
  have hbd : ∀ x, s1.bad = some x → RS.bad = some x := fun x h => by
    have h1 := (altL_tame F hT F [t0]).bad l s1 x h
    rw [hR] at h1
    exact h1
  rw [hq]
  obtain ⟨tR, htR⟩ : ∃ t, wrapA RA = t := ⟨_, rfl⟩
  rw [htR]
  have HR := Lib.hid (And.intro hR (And.intro hp1 (And.intro hop1 (And.intro hcat (And.intro hbd htR)))))
  clear h hq hR hb hp hop htR hp1 hop1 hcat hbd hR0
  go_enter Try.func55, Try.ntmps55
  go_wp2_with fail
  generalize (w.alloc (.cells nzeros 27)) = V at *
  refine (HR.out.2.2.2.1 V W0.out.rd).mono ?_
  intro e w1 hO
  rcases hO.split with ⟨hb1, v, rfl, ⟨a', c', hv, hle, hLie⟩, h1, q1⟩ | ⟨x, hb1, rfl, q1⟩
  · dsimp only at hv hb1 hle hLie
    subst hv
    have hlow := W0.out.out.lt
    have W1 := Lib.hid (And.intro (show Rt w b l (.slice (some ⟨w1.heap.size, 0, none⟩) 1 1) [t0] s1 (w1.alloc (.cells (ncells t0 a' c') 27)) from by
      have J := W0.out.step h1 q1
      exact ⟨J.quiet ((Keep.refl (fun _ => False) w1).alloc _), OT.one w1 _ t0 a' c' hle (hLie.mono (fun k hk => by omega)) J.out.lt⟩) hb1)
    clear h1 q1 hle hLie hlow hb1 hO
    go_wp2_with fail
    generalize (w1.alloc (.cells (ncells t0 a' c') 27)) = V1 at *
    generalize w1.heap.size = n1 at *
    go_loopg [3] F (fun gg u wr => ∃ (acc : List T) (s' : PS), InRA w b F o l A (RA, RS) gg u acc s' wr)
    case atStart => exact ⟨[t0], s1, ⟨W1.out.1, HR.out.1, W1.out.2, HR.out.2.1 W1.out.2, HR.out.2.2.1, by simp, by omega, by simp⟩⟩
    case round =>
      obtain ⟨acc, s', I⟩ := hrel
      have II := Lib.hid I
      have I0 := Lib.hid I.rt
      by_cases h124 : nxt l s' = 124
      · have hlt := (nxt_lt (l := l) (s := s') (by omega)).2
        have ht := take_yes b 124 l s' h124 hl wr I.rt.rs.rd
        have hE0 := I.eq
        obtain ⟨f, rfl⟩ : ∃ f, gk = f + 1 := ⟨gk - 1, by have := I.fuel; have := I.pos; omega⟩
        rw [altL, if_pos h124] at hE0
        have hmv : (catP F A l s'.adv).2.bad = none → s'.pos < (catP F A l s'.adv).2.pos := fun h => (cat_tame F hT).step h
        have hin := fun h => (cat_tame F hT).pos_le (l := l) (s := s'.adv) I.bad hlt h
        have hopn : (catP F A l s'.adv).2.opn = o := (cat_still F hSt l s'.adv).trans I.opn
        have hc2 := fun W h => hI s'.adv W I.bad hlt I.opn h
        obtain ⟨⟨t, s2⟩, hR⟩ : ∃ R, catP F A l s'.adv = R := ⟨_, rfl⟩
        rw [hR] at hE0 hmv hin hopn hc2
        dsimp only at hE0 hmv hin hopn
        have hbd : ∀ x, s2.bad = some x → RS.bad = some x := fun x h => by
          have h1 := (altL_tame F hT f (acc ++ [t])).bad l s2 x h
          rw [hE0] at h1
          exact h1
        have HItem := Lib.hid (And.intro ht hc2)
        have HE := Lib.hid (And.intro hE0 (And.intro hmv (And.intro hin (And.intro hopn hbd))))
        clear hlt ht hE0 hmv hin hopn hc2 hR hbd I h124
        go_wp2_with fail
        refine HItem.out.1.mono ?_
        rintro e w3 ⟨rfl, h3, q3⟩
        have I3 := Lib.hid (I0.out.step h3 q3)
        clear h3 q3
        go_wp2_with fail
        refine (HItem.out.2 w3 I3.out.rs.rd).mono ?_
        intro e w4 hO
        rcases hO.split with ⟨hb4, v, rfl, ⟨a', c', hv, hle, hLie⟩, h4, q4⟩ | ⟨x, hb4, rfl, q4⟩
        · dsimp only at hv hb4 hle hLie
          subst hv
          obtain ⟨v', w9, hrun, I9⟩ := I3.out.push h4 q4 hle hLie (by have := II.out.len; have := II.out.pos; omega)
          have H9 := Lib.hid (And.intro I9 hb4)
          clear hLie h4 q4 hle I9 hb4 hO
          go_wp2_with (at_builtin; refine Lib.wpList_append_run _ rfl _ _ _ _ rfl _ _ rfl rfl _ _ hrun ?_)
          clear hrun
          go_wp2_with fail
          go_roundg f
          case measure => omega
          case rel =>
            have h1 := HE.out.2.1 H9.out.2
            have h2 := II.out.len
            have h3 := II.out.fuel
            exact ⟨acc ++ [t], s2, ⟨H9.out.1, HE.out.1, H9.out.2, HE.out.2.2.1 H9.out.2, HE.out.2.2.2.1, by rw [List.length_append, List.length_singleton]; omega, by omega, by simp⟩⟩
        · have HP := Lib.hid (And.intro hb4 (I3.out.rs.keep.trans q4))
          clear hb4 q4 hO
          go_wp2_with fail
          exact ⟨rfl, Outs.gave (x := x) (HE.out.2.2.2.2 _ HP.out.1) HP.out.2⟩
      · have hstop : RA = acc ∧ RS = s' := by
          have e := I.eq
          cases gk with
          | zero =>
            rw [altL] at e
            injection e with e1 e2
            exact ⟨e1.symm, e2.symm⟩
          | succ f =>
            rw [altL, if_neg h124] at e
            injection e with e1 e2
            exact ⟨e1.symm, e2.symm⟩
        obtain ⟨rfl, rfl⟩ := hstop
        have ht := take_no b 124 l RS I.bad h124 wr I.rt.rs.rd
        have HT := Lib.hid ht
        clear ht h124 I
        go_wp2_with fail
        refine HT.out.mono ?_
        rintro e w3 ⟨rfl, h3, q3⟩
        have I3 := Lib.hid (I0.out.step h3 q3)
        clear h3 q3
        obtain ⟨a1, cap, hu, hcap, hLie⟩ := I3.out.ot.form
        have hlen : RA.length ≤ 100000001 := by have := II.out.len; have := II.out.pos; omega
        have hbad := II.out.bad
        have hsome := II.out.some
        have HU := Lib.hid (And.intro hcap hLie)
        have HBAD := Lib.hid hbad
        have htR := HR.out.2.2.2.2.2
        clear hcap hLie II hbad
        subst hu
        rcases RA with _ | ⟨t, _ | ⟨t2, r⟩⟩
        · exact absurd rfl hsome
        · have htR' : t = tR := htR
          subst htR'
          clear htR hsome
          obtain ⟨bl, off, a', c', e1, hok, hbl, hle, hL2, hcells⟩ := HU.out.2.get (i := 0) (t := t) rfl
          subst e1
          have y0 : w3.cell? ⟨bl, off, none⟩ = some (.int .i64 t.kind) := by have := hcells 0 (.int .i64 t.kind) rfl; simpa using this
          have y1 : w3.cell? ⟨bl, off + 1, none⟩ = some (.int .u64 t.set.x0) := by have := hcells 1 (.int .u64 t.set.x0) rfl; simpa using this
          have y2 : w3.cell? ⟨bl, off + 2, none⟩ = some (.int .u64 t.set.x1) := by have := hcells 2 (.int .u64 t.set.x1) rfl; simpa using this
          have y3 : w3.cell? ⟨bl, off + 3, none⟩ = some (.int .u64 t.set.x2) := by have := hcells 3 (.int .u64 t.set.x2) rfl; simpa using this
          have y4 : w3.cell? ⟨bl, off + 4, none⟩ = some (.int .u64 t.set.x3) := by have := hcells 4 (.int .u64 t.set.x3) rfl; simpa using this
          have y5 : w3.cell? ⟨bl, off + 5, none⟩ = some (.int .i64 t.mn) := by have := hcells 5 (.int .i64 t.mn) rfl; simpa using this
          have y6 : w3.cell? ⟨bl, off + 6, none⟩ = some (.int .i64 t.mx) := by have := hcells 6 (.int .i64 t.mx) rfl; simpa using this
          have y7 : w3.cell? ⟨bl, off + 7, none⟩ = some (.slice a' t.subs.length c') := by have := hcells 7 (.slice a' t.subs.length c') rfl; simpa using this
          have HL2 := Lib.hid (And.intro hL2 hle)
          clear hcells hL2 hle
          obtain ⟨⟨k0, k1, k2, k3, k4, k5, k6, k7⟩, f0, f1, f2, f3, f4, f5, f6, f7⟩ := cells8 I3.out.rs.out
          have hlt0 := I3.out.rs.out.lt
          go_wp2_with fail
          change bodyPost _ _ _ _ _ (put8 w3 w.heap.size (.int .i64 t.kind) (.int .u64 t.set.x0) (.int .u64 t.set.x1) (.int .u64 t.set.x2) (.int .u64 t.set.x3) (.int .i64 t.mn) (.int .i64 t.mx) (.slice a' t.subs.length c'))
          obtain ⟨a, p, q, n⟩ := I3.out.rs.put_of (.int .i64 t.kind) (.int .u64 t.set.x0) (.int .u64 t.set.x1) (.int .u64 t.set.x2) (.int .u64 t.set.x3) (.int .i64 t.mn) (.int .i64 t.mx) (.slice a' t.subs.length c') t a' c' rfl HL2.out.2 HL2.out.1
          generalize (put8 w3 w.heap.size (.int .i64 t.kind) (.int .u64 t.set.x0) (.int .u64 t.set.x1) (.int .u64 t.set.x2) (.int .u64 t.set.x3) (.int .i64 t.mn) (.int .i64 t.mx) (.slice a' t.subs.length c')) = W9 at a p q n ⊢
          obtain ⟨⟨e0, e1, e2, e3, e4, e5, e6, e7⟩, -⟩ := cells8 a
          refine bodyPost_ret (v := .agg #[(.int .i64 t.kind), (.int .u64 t.set.x0), (.int .u64 t.set.x1), (.int .u64 t.set.x2), (.int .u64 t.set.x3), (.int .i64 t.mn), (.int .i64 t.mx), (.slice a' t.subs.length c')]) (by simp [results, Try.results55, go_sem, e0, e1, e2, e3, e4, e5, e6, e7]) rfl ?_
          exact Outs.ok HBAD.out n p q
        · have HT := Lib.hid (show tR = .nd 4 zS 0 0 (t :: t2 :: r) from htR.symm)
          have hl1 : ((t :: t2 :: r).length == 1) = false := by simp
          have hl3 : ¬ (t :: t2 :: r).length = 1 := by simp
          obtain ⟨n, hn⟩ : ∃ n, (t :: t2 :: r).length = n := ⟨_, rfl⟩
          rw [hn] at hl1 hl3 hlen ⊢
          have HNN := Lib.hid hn
          have hi1 : ((n : Int) == 1) = false := by simp; omega
          clear hn htR hsome
          obtain ⟨⟨k0, k1, k2, k3, k4, k5, k6, k7⟩, f0, f1, f2, f3, f4, f5, f6, f7⟩ := cells8 I3.out.rs.out
          have hlt0 := I3.out.rs.out.lt
          go_wp2_with fail
          change bodyPost _ _ _ _ _ (put8 w3 w.heap.size (.int .i64 4) (.int .u64 0) (.int .u64 0) (.int .u64 0) (.int .u64 0) (.int .i64 0) (.int .i64 0) (.slice a1 n cap))
          obtain ⟨a, p, q, n_⟩ := I3.out.rs.put_of (.int .i64 4) (.int .u64 0) (.int .u64 0) (.int .u64 0) (.int .u64 0) (.int .i64 0) (.int .i64 0) (.slice a1 n cap) (.nd 4 zS 0 0 (t :: t2 :: r)) a1 cap (by rw [← HNN.out]; unfold ncells T.kind T.set T.mn T.mx T.subs; simp only [zs_zero]; rfl) HU.out.1 HU.out.2
          generalize (put8 w3 w.heap.size (.int .i64 4) (.int .u64 0) (.int .u64 0) (.int .u64 0) (.int .u64 0) (.int .i64 0) (.int .i64 0) (.slice a1 n cap)) = W9 at a p q n_ ⊢
          obtain ⟨⟨e0, e1, e2, e3, e4, e5, e6, e7⟩, -⟩ := cells8 a
          refine bodyPost_ret (v := .agg #[(.int .i64 4), (.int .u64 0), (.int .u64 0), (.int .u64 0), (.int .u64 0), (.int .i64 0), (.int .i64 0), (.slice a1 n cap)]) (by simp [results, Try.results55, go_sem, e0, e1, e2, e3, e4, e5, e6, e7]) rfl ?_
          exact Outs.ok HBAD.out (by show NodeV _ _ _ tR; rw [HT.out]; exact n_) p q
  · have HP := Lib.hid (And.intro hb1 (W0.out.keep.trans q1))
    clear hb1 q1 hO
    go_wp2_with fail
    exact ⟨rfl, Outs.gave (x := x) (HR.out.2.2.2.2.1 _ HP.out.1) HP.out.2⟩

theorem raltD_any (F b : Nat) (l : List UInt8) (hF : l.length + 2 ≤ F) (hl : l.length ≤ 100000000) : ∀ d o, 1 ≤ d → d + o = 13 → NodeR 55 b l o (altD F d)
  | 0, o, h, _ => absurd h (by omega)
  | d + 1, o, _, hd =>
    ralt_any F b o l (altD F d) hF hl (altD_tame F d) (altD_still F d) (rcat_any F b o l (altD F d) hF hl (altD_tame F d) (altD_still F d) (ritem_any F b o l (altD F d) hl (altD_tame F d) (ratom_any F b o l (altD F d) hF hl (by omega) (fun ho => raltD_any F b l hF hl d (o + 1) (by omega) (by omega)) (altD_still F d))))
end Go.Proofs.Ytblijgcfelnlmaa.P07
