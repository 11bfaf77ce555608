/- The code's reader (layer 7): set (behind [). -/
import Derived.Test.YtblijgcfelnlmaaKP19
import Derived.Test.YtblijgcfelnlmaaKP01
import Derived.RegionDies
namespace Go.Proofs.Ytblijgcfelnlmaa.P07
open Go.RowKit Go.Proofs.Ytblijgcfelnlmaa.Base Go.Proofs.Ytblijgcfelnlmaa.Bytes
open Go.Proofs.Ytblijgcfelnlmaa.Sets (ST)

/-- A class's set. -/
@[reducible] def VC (_ : World) (v : Value) (t : T) : Prop := ∃ S : ST, S.Ok ∧ t = clsT S ∧ v = val S

structure Rc (w : World) (b : Nat) (l : List UInt8) (nA : Nat) (acc : List Nat) (s : PS) (W : World) : Prop where
  rs : Rs w b l 24 zeros s W
  own : At W nA 24 (cells (mkS acc))
  low : w.heap.size < nA
theorem Rc.step {w : World} {b : Nat} {l : List UInt8} {nA : Nat} {acc : List Nat} {s s' : PS} {W W' : World} (I : Rc w b l nA acc s W) (h : Rd W' b l s') (q : Keep (fun i => i = b) W W') : Rc w b l nA acc s' W' :=
  ⟨I.rs.step h q, I.own.keep q (by have := I.low; have := I.rs.low; omega), I.low⟩
theorem Rc.quiet {w : World} {b : Nat} {l : List UInt8} {nA : Nat} {acc : List Nat} {s : PS} {W W' : World} (I : Rc w b l nA acc s W) (q : Keep (fun _ => False) W W') : Rc w b l nA acc s W' :=
  I.step (I.rs.rd.keep q (fun h => h)) (upk b q)

/-- The loop of set. -/
structure InSet (w : World) (b : Nat) (l : List UInt8) (nA : Nat) (R : List Nat × PS) (f : Nat) (acc : List Nat) (s : PS) (W : World) : Prop where
  rc : Rc w b l nA acc s W
  eq : setP f acc l s = R
  bad : s.bad = none
  pos : s.pos ≤ l.length
  fuel : l.length + 1 ≤ s.pos + f

theorem Rc.drew {w : World} {b : Nat} {l : List UInt8} {nA : Nat} {acc : List Nat} {s : PS} {W : World} (I : Rc w b l nA acc s W) : Rc w b l nA acc s W.drew :=
  ⟨⟨I.rs.rd, I.rs.out, I.rs.keep.drew, I.rs.low⟩, I.own, I.low⟩

theorem range_moves {l : List UInt8} {s : PS} (h : (range1 l s).2.bad = none) : s.pos < (range1 l s).2.pos := by
  have h1 : (one l s).2.bad = none := (dash_tame (one l s).1).bad_none (l := l) (s := (one l s).2) h
  exact (dash_tame (one l s).1).fore (l := l) (s := (one l s).2) h (one_sharp.moves l s h1)

set_option maxRecDepth 100000 in
set_option maxHeartbeats 4000000 in
theorem rset_any (F b : Nat) (l : List UInt8) (s : PS) (hF : l.length + 2 ≤ F) (hb : s.bad = none) (hp : s.pos ≤ l.length) (hl : l.length ≤ 100000000) (w : World) (h : Rd w b l s) :
    Calls Try.prog 71 #[.pointer (some ⟨b, 0, none⟩)] w (Outs w b l VC (clsP F l s)) := by
  obtain ⟨nt, s1, hcls, htk, hb1, hp1⟩ : ∃ (nt : Bool) (s1 : PS), clsP F l s = clsQ F nt l s1 ∧ (∀ W, Rd W b l s → Calls Try.prog 62 #[.pointer (some ⟨b, 0, none⟩), .int .u8 94] W fun e w' => e = .returned (.bool nt) ∧ Rd w' b l s1 ∧ Keep (fun i => i = b) W w') ∧ s1.bad = none ∧ s1.pos ≤ l.length := by
    by_cases h94 : nxt l s = 94
    · have hlt := nxt_lt (l := l) (s := s) (by omega)
      exact ⟨true, s.adv, by unfold clsP clsB; rw [if_pos h94], fun W hW => take_yes b 94 l s h94 hl W hW, hb, hlt.2⟩
    · exact ⟨false, s, by unfold clsP clsB; rw [if_neg h94], fun W hW => take_no b 94 l s hb h94 W hW, hb, hp⟩
  rw [hcls]
  obtain ⟨⟨RA, RS⟩, hR⟩ : ∃ q, setP F [] l s1 = q := ⟨_, rfl⟩
  have hq : clsQ F nt l s1 = (clsT (if nt then notS (mkS RA) else mkS RA), (must 93 l RS).2) := by unfold clsQ; rw [hR]
  rw [hq]
  obtain ⟨r, hr⟩ : ∃ r, (clsT (if nt then notS (mkS RA) else mkS RA), (must 93 l RS).2) = r := ⟨_, rfl⟩
  rw [hr]
  have HC := Lib.hid (And.intro htk (And.intro hR (And.intro hb1 (And.intro hp1 hr))))
  have W0 := Lib.hid (Rs.start h 24 zeros)
  clear h htk hR hb1 hp1 hr hq hcls hb hp
  go_enter Try.func71, Try.ntmps71
  go_wp2_with fail
  generalize (w.alloc (.cells zeros 24)) = V at *
  refine (HC.out.1 V W0.out.rd).mono ?_
  rintro e w2 ⟨rfl, h2, q2⟩
  have I2 := W0.out.step h2 q2
  have W2 := Lib.hid (show Rc w b l w2.heap.size [] s1 (w2.alloc (.cells zeros 24)) from by
    have qa := (Keep.refl (fun _ => False) w2).alloc (.cells zeros 24)
    exact ⟨I2.quiet qa, At.new w2 zeros 24, I2.out.lt⟩)
  clear h2 q2 I2
  go_wp2_with fail
  generalize (w2.alloc (.cells zeros 24)) = V2 at *
  generalize w2.heap.size = nA at *
  go_loopg [] F (fun gg wr => ∃ (acc : List Nat) (s' : PS), InSet w b l nA (RA, RS) gg acc s' wr)
  case atStart => exact ⟨[], s1, ⟨W2.out, HC.out.2.1, HC.out.2.2.1, HC.out.2.2.2.1, by omega⟩⟩
  case round =>
    obtain ⟨acc, s', I⟩ := hrel
    have II := Lib.hid I
    obtain ⟨f, rfl⟩ : ∃ f, gk = f + 1 := ⟨gk - 1, by have := I.fuel; have := I.pos; omega⟩
    have hE := I.eq
    rw [setP, if_pos I.bad] at hE
    by_cases h93 : nxt l s' = 93
    · rw [if_pos h93] at hE
      injection hE with e1 e2
      subst e1 e2
      have ht := take_yes b 93 l s' h93 hl wr I.rc.rs.rd
      have hmu : (must 93 l s').2 = s'.adv := by unfold must; rw [if_pos h93]
      have hr := HC.out.2.2.2.2
      rw [hmu] at hr
      have hbad : s'.adv.bad = none := I.bad
      have HT := Lib.hid (And.intro ht (And.intro hr hbad))
      clear I h93 ht hmu hr hbad
      go_wp2_with fail
      refine HT.out.1.mono ?_
      rintro e w3 ⟨rfl, h3, q3⟩
      have I3 := II.out.rc.step h3 q3
      clear h3 q3
      obtain ⟨S, hS⟩ : ∃ S, mkS acc = S := ⟨_, rfl⟩
      have hok : S.Ok := by rw [← hS]; exact mk_ok _ _ rfl
      have hown := I3.own
      have hrr := HT.out.2.1
      rw [hS] at hown hrr
      obtain ⟨⟨k0, k1, k2, k3⟩, -⟩ := cells4 hown
      obtain ⟨⟨d0, d1, d2, d3⟩, f0, f1, f2, f3⟩ := cells4 I3.rs.out
      cases nt with
      | false =>
        have H3 := Lib.hid (And.intro I3 (And.intro hrr hok))
        clear I3 hown hrr hS hok
        go_wp2_with fail
        have a := set4 H3.out.1.rs.out (.int .u64 S.x0) (.int .u64 S.x1) (.int .u64 S.x2) (.int .u64 S.x3)
        have q := keep4 H3.out.1.rs.keep (b := w.heap.size) (fun h => absurd h (by simp)) (.int .u64 S.x0) (.int .u64 S.x1) (.int .u64 S.x2) (.int .u64 S.x3)
        have p : At _ b _ _ := (((At.setOther H3.out.1.rs.rd (p := ⟨w.heap.size, 0, none⟩) H3.out.1.rs.ne (.int .u64 S.x0)).setOther (p := ⟨w.heap.size, 1, none⟩) H3.out.1.rs.ne (.int .u64 S.x1)).setOther (p := ⟨w.heap.size, 2, none⟩) H3.out.1.rs.ne (.int .u64 S.x2)).setOther (p := ⟨w.heap.size, 3, none⟩) H3.out.1.rs.ne (.int .u64 S.x3)
        generalize World.setCell _ _ _ = W2 at *
        obtain ⟨⟨e0, e1, e2, e3⟩, -⟩ := cells4 a
        refine bodyPost_ret (v := val S) (by simp [results, Try.results71, go_sem, e0, e1, e2, e3]) rfl ?_
        refine Outs.ok (by rw [← H3.out.2.1]; exact HT.out.2.2) (by rw [← H3.out.2.1]; exact ⟨S, H3.out.2.2, rfl, rfl⟩) (by rw [← H3.out.2.1]; exact p) q
      | true =>
        have hnot := fun W => not_any S hok W
        have H3 := Lib.hid (And.intro I3 (And.intro hrr (And.intro (show (ST.not S).Ok from ST.not_ok S) hnot)))
        clear I3 hown hrr hS hnot
        obtain ⟨N, hN⟩ : ∃ N, ST.not S = N := ⟨_, rfl⟩
        have hNS : notS S = N := hN
        rw [hN] at H3
        go_wp2_with fail
        refine (H3.out.2.2.2 w3).mono ?_
        rintro e w4 ⟨rfl, q4⟩
        have I4 := H3.out.1.quiet q4
        obtain ⟨⟨d0, d1, d2, d3⟩, f0, f1, f2, f3⟩ := cells4 I4.rs.out
        have H4 := Lib.hid (And.intro I4 hNS)
        clear I4 q4 k0 k1 k2 k3 hN hNS hok
        go_wp2_with fail
        have a := set4 H4.out.1.rs.out (.int .u64 N.x0) (.int .u64 N.x1) (.int .u64 N.x2) (.int .u64 N.x3)
        have q := keep4 H4.out.1.rs.keep (b := w.heap.size) (fun h => absurd h (by simp)) (.int .u64 N.x0) (.int .u64 N.x1) (.int .u64 N.x2) (.int .u64 N.x3)
        have p : At _ b _ _ := (((At.setOther H4.out.1.rs.rd (p := ⟨w.heap.size, 0, none⟩) H4.out.1.rs.ne (.int .u64 N.x0)).setOther (p := ⟨w.heap.size, 1, none⟩) H4.out.1.rs.ne (.int .u64 N.x1)).setOther (p := ⟨w.heap.size, 2, none⟩) H4.out.1.rs.ne (.int .u64 N.x2)).setOther (p := ⟨w.heap.size, 3, none⟩) H4.out.1.rs.ne (.int .u64 N.x3)
        generalize World.setCell _ _ _ = W2 at *
        obtain ⟨⟨e0, e1, e2, e3⟩, -⟩ := cells4 a
        refine bodyPost_ret (v := val N) (by simp [results, Try.results71, go_sem, e0, e1, e2, e3]) rfl ?_
        refine Outs.ok (by rw [← H3.out.2.1]; exact HT.out.2.2) (by rw [← H3.out.2.1]; exact ⟨N, H3.out.2.2.1, by show clsT (notS S) = _; rw [H4.out.2], rfl⟩) (by rw [← H3.out.2.1]; exact p) q
    · rw [if_neg h93] at hE
      have ht := take_no b 93 l s' I.bad h93 wr I.rc.rs.rd
      have hsp := fun W hW => rspan_any b l s' I.bad I.pos hl W hW
      have hmv := range_moves (l := l) (s := s')
      have hin := fun h => range_tame.pos_le (l := l) (s := s') I.bad I.pos h
      obtain ⟨⟨M, s2⟩, hM⟩ : ∃ q, range1 l s' = q := ⟨_, rfl⟩
      rw [hM] at hE hsp hmv hin
      dsimp only at hE hmv hin
      have hmk := mk_append acc M
      obtain ⟨S, hS⟩ : ∃ S, mkS acc = S := ⟨_, rfl⟩
      obtain ⟨SM, hSM⟩ : ∃ S, mkS M = S := ⟨_, rfl⟩
      have hok : S.Ok := by rw [← hS]; exact mk_ok _ _ rfl
      have hokM : SM.Ok := by rw [← hSM]; exact mk_ok _ _ rfl
      rw [hS, hSM] at hmk
      have hor := fun W => or_any S SM hok hokM W
      obtain ⟨N, hN⟩ : ∃ N, ST.or S SM = N := ⟨_, rfl⟩
      rw [hN] at hor hmk
      have HT := Lib.hid (And.intro ht (And.intro hsp (And.intro hor (And.intro hmk (And.intro hE (And.intro hmv (And.intro hin (And.intro hS hSM))))))))
      clear I h93 ht hsp hor hmk hE hmv hin hM hS hSM hN hok hokM
      go_wp2_with fail
      refine HT.out.1.mono ?_
      rintro e w3 ⟨rfl, h3, q3⟩
      have I3 := Lib.hid (II.out.rc.step h3 q3)
      clear h3 q3
      go_upto_region 4 with fail
      cases hb2 : s2.bad with
      | some x =>
        have hpan : ∀ W, Rd W b l s' → Calls Try.prog 76 #[.pointer (some ⟨b, 0, none⟩)] W fun e w' => e = Gave x ∧ Keep (fun i => i = b) W w' := fun W hW => (HT.out.2.1 W hW).mono (by
          intro e w' hO
          rcases hO.split with ⟨hb4, _⟩ | ⟨y, hb4, rfl, q⟩
          · rw [hb2] at hb4
            cases hb4
          · rw [hb2] at hb4
            injection hb4 with hb4
            subst hb4
            exact ⟨rfl, q⟩)
        have hfin : r.2.bad = some x := by
          have h1 := (set_tame f (acc ++ M)).bad l s2 x hb2
          rw [HT.out.2.2.2.2.1] at h1
          rw [← HC.out.2.2.2.2]
          exact (must_tame 93 (by decide)).bad l RS x h1
        have HP := Lib.hid (And.intro hpan hfin)
        obtain ⟨⟨k0, k1, k2, k3⟩, g0, g1, g2, g3⟩ := cells4 I3.out.own
        clear hpan hfin hb2
        go_region_dies
        all_goals
          refine (HP.out.1 _ I3.out.drew.rs.rd).mono ?_
          rintro e w4 ⟨rfl, q4⟩
          exact ⟨rfl, Outs.gave (x := x) HP.out.2 (I3.out.drew.rs.keep.trans q4)⟩
      | none =>
        have hgo : ∀ W, Rd W b l s' → Calls Try.prog 76 #[.pointer (some ⟨b, 0, none⟩)] W fun e w' => e = .returned (val SM) ∧ Rd w' b l s2 ∧ Keep (fun i => i = b) W w' := fun W hW => (HT.out.2.1 W hW).mono (by
          intro e w' hO
          rcases hO.split with ⟨hb4, v, rfl, hv, hr, q⟩ | ⟨y, hb4, _⟩
          · obtain ⟨hv, -⟩ := hv
            dsimp only at hv
            rw [HT.out.2.2.2.2.2.2.2.2] at hv
            subst hv
            exact ⟨rfl, hr, q⟩
          · rw [hb2] at hb4
            cases hb4)
        have hown := I3.out.own
        rw [HT.out.2.2.2.2.2.2.2.1] at hown
        obtain ⟨⟨k0, k1, k2, k3⟩, g0, g1, g2, g3⟩ := cells4 hown
        have HG := Lib.hid (And.intro hgo hb2)
        clear hgo hown hb2
        go_region_with (first
          | (go_at_call 76; refine (HG.out.1 _ (by first | exact I3.out.rs.rd | exact I3.out.drew.rs.rd)).mono ?_; rintro e w4 ⟨rfl, h4, q4⟩; have I4 := Lib.hid (I3.out.drew.step h4 q4); have hown := I4.out.own; rw [HT.out.2.2.2.2.2.2.2.1] at hown; obtain ⟨⟨k0, k1, k2, k3⟩, g0, g1, g2, g3⟩ := cells4 hown; clear hown h4 q4)
          | (go_at_call 27; refine (HT.out.2.2.1 _).mono ?_; rintro e w5 ⟨rfl, q5⟩; have I5 := Lib.hid (I4.out.quiet q5); have hown := I5.out.own; rw [HT.out.2.2.2.2.2.2.2.1] at hown; obtain ⟨⟨k0, k1, k2, k3⟩, g0, g1, g2, g3⟩ := cells4 hown; clear hown q5))
        all_goals
          have I6 := Lib.hid (show Rc w b l nA (acc ++ M) s2 ((((w5.setCell ⟨nA, 0, none⟩ (.int .u64 N.x0)).setCell ⟨nA, 1, none⟩ (.int .u64 N.x1)).setCell ⟨nA, 2, none⟩ (.int .u64 N.x2)).setCell ⟨nA, 3, none⟩ (.int .u64 N.x3)) from by
            have hlow := I5.out.low
            have hb0 := I5.out.rs.low
            have hbA : b ≠ nA := by omega
            have hwA : w.heap.size ≠ nA := by omega
            have p : At _ b _ _ := (((At.setOther I5.out.rs.rd (p := ⟨nA, 0, none⟩) hbA (.int .u64 N.x0)).setOther (p := ⟨nA, 1, none⟩) hbA (.int .u64 N.x1)).setOther (p := ⟨nA, 2, none⟩) hbA (.int .u64 N.x2)).setOther (p := ⟨nA, 3, none⟩) hbA (.int .u64 N.x3)
            have o : At _ w.heap.size _ _ := (((At.setOther I5.out.rs.out (p := ⟨nA, 0, none⟩) hwA (.int .u64 N.x0)).setOther (p := ⟨nA, 1, none⟩) hwA (.int .u64 N.x1)).setOther (p := ⟨nA, 2, none⟩) hwA (.int .u64 N.x2)).setOther (p := ⟨nA, 3, none⟩) hwA (.int .u64 N.x3)
            have a := set4 I5.out.own (.int .u64 N.x0) (.int .u64 N.x1) (.int .u64 N.x2) (.int .u64 N.x3)
            have q := keep4 I5.out.rs.keep (b := nA) (fun h => absurd h (by omega)) (.int .u64 N.x0) (.int .u64 N.x1) (.int .u64 N.x2) (.int .u64 N.x3)
            exact ⟨⟨p, o, q, I5.out.rs.low⟩, by rw [HT.out.2.2.2.1]; exact a, hlow⟩)
          clear k0 k1 k2 k3 g0 g1 g2 g3
          generalize World.setCell _ _ _ = W6 at *
          go_wp2_with fail
          go_roundg f
          case measure => omega
          case rel => exact ⟨acc ++ M, s2, ⟨I6.out, HT.out.2.2.2.2.1, HG.out.2, HT.out.2.2.2.2.2.2.1 HG.out.2, by have := HT.out.2.2.2.2.2.1 HG.out.2; have := II.out.fuel; omega⟩⟩
end Go.Proofs.Ytblijgcfelnlmaa.P07
