/- The code's reader (layer 7): set (behind [). -/
import Derived.Test.YthcjfgfbeollpaaKG25
import Derived.Test.YthcjfgfbeollpaaKG03
import Derived.RegionDies
import Derived.Test.YthcjfgfbeollpaaKG22
import Derived.Test.YthcjfgfbeollpaaKG17
namespace Go.Proofs.Ythcjfgfbeollpaa.P07
open Go.RowKit Go.Proofs.Ythcjfgfbeollpaa.Base Go.Proofs.Ythcjfgfbeollpaa.Bytes
open Go.Proofs.Ythcjfgfbeollpaa.Sets (ST)

/-- A class's set. -/
@[reducible] def VC (_ : World) (v : Value) (t : T) : Prop := ∃ S : ST, S.Ok ∧ t = clsT S ∧ v = val S

structure Rc (w : World) (b : Nat) (l : List UInt8) (nA : Nat) (acc : List Nat) (s : PS) (W : World) : Prop where
  rs : Rs w b l 24 zeros s W
  own : At W nA 24 (cells (mkS acc))
  low : w.heap.size < nA
theorem Rc.step {w : World} {b : Nat} {l : List UInt8} {nA : Nat} {acc : List Nat} {s s' : PS} {W W' : World} (I : Rc w b l nA acc s W) (h : Rd W' b l s') (q : Keep (fun i => i = b) W W') : Rc w b l nA acc s' W' :=
  ⟨I.rs.step h q, I.own.keep q (by have := I.low; have := I.rs.low; omega), I.low⟩
theorem Rc.quiet {w : World} {b : Nat} {l : List UInt8} {nA : Nat} {acc : List Nat} {s : PS} {W W' : World} (I : Rc w b l nA acc s W) (q : Keep (fun _ => False) W W') : Rc w b l nA acc s W' :=
  I.step (I.rs.rd.keep q (fun h => h)) (upk b q)

/-- The loop of set. -/
structure InSet (w : World) (b : Nat) (l : List UInt8) (nA : Nat) (R : List Nat × PS) (f : Nat) (acc : List Nat) (s : PS) (W : World) : Prop where
  rc : Rc w b l nA acc s W
  eq : setP f acc l s = R
  bad : s.bad = none
  pos : s.pos ≤ l.length
  fuel : l.length + 1 ≤ s.pos + f

theorem Rc.drew {w : World} {b : Nat} {l : List UInt8} {nA : Nat} {acc : List Nat} {s : PS} {W : World} (I : Rc w b l nA acc s W) : Rc w b l nA acc s W.drew :=
  ⟨⟨I.rs.rd, I.rs.out, I.rs.keep.drew, I.rs.low⟩, I.own, I.low⟩

theorem range_moves {l : List UInt8} {s : PS} (h : (range1 l s).2.bad = none) : s.pos < (range1 l s).2.pos := by
  have h1 : (one l s).2.bad = none := (dash_tame (one l s).1).bad_none (l := l) (s := (one l s).2) h
  exact (dash_tame (one l s).1).fore (l := l) (s := (one l s).2) h (one_sharp.moves l s h1)

set_option maxRecDepth 100000 in
set_option maxHeartbeats 4000000 in
theorem rset_any (F b : Nat) (l : List UInt8) (s : PS) (hF : l.length + 2 ≤ F) (hb : s.bad = none) (hp : s.pos ≤ l.length) (hl : l.length ≤ 100000000) (w : World) (h : Rd w b l s) :
    Calls Try.prog 122 #[.pointer (some ⟨b, 0, none⟩)] w (Outs w b l VC (clsP F l s)) := by
  obtain ⟨nt, s1, hcls, htk, hb1, hp1⟩ : ∃ (nt : Bool) (s1 : PS), clsP F l s = clsQ F nt l s1 ∧ (∀ W, Rd W b l s → Calls Try.prog 112 #[.pointer (some ⟨b, 0, none⟩), .int .u8 94] W fun e w' => e = .returned (.bool nt) ∧ Rd w' b l s1 ∧ Keep (fun i => i = b) W w') ∧ s1.bad = none ∧ s1.pos ≤ l.length := by
    by_cases h94 : nxt l s = 94
    · have hlt := nxt_lt (l := l) (s := s) (by omega)
      exact ⟨true, s.adv, by unfold clsP clsB; rw [if_pos h94], fun W hW => take_yes b 94 l s h94 hl W hW, hb, hlt.2⟩
    · exact ⟨false, s, by unfold clsP clsB; rw [if_neg h94], fun W hW => take_no b 94 l s hb h94 W hW, hb, hp⟩
  rw [hcls]
  obtain ⟨⟨RA, RS⟩, hR⟩ : ∃ q, setP F [] l s1 = q := ⟨_, rfl⟩
  have hq : clsQ F nt l s1 = (clsT (if nt then notS (mkS RA) else mkS RA), (must 93 l RS).2) := by unfold clsQ; rw [hR]
  rw [hq]
  obtain ⟨r, hr⟩ : ∃ r, (clsT (if nt then notS (mkS RA) else mkS RA), (must 93 l RS).2) = r := ⟨_, rfl⟩
  rw [hr]
  have HC := Lib.hid (And.intro htk (And.intro hR (And.intro hb1 (And.intro hp1 hr))))
  have W0 := Lib.hid (Rs.start h 24 zeros)
  clear h htk hR hb1 hp1 hr hq hcls hb hp
  go_enter Try.func122, Try.ntmps122
  go_wp2_with fail
  generalize (w.alloc (.cells zeros 24)) = V at *
  refine (HC.out.1 V W0.out.rd).mono ?_
  rintro e w2 ⟨rfl, h2, q2⟩
  have I2 := W0.out.step h2 q2
  have W2 := Lib.hid (show Rc w b l w2.heap.size [] s1 (w2.alloc (.cells zeros 24)) from by
    have qa := (Keep.refl (fun _ => False) w2).alloc (.cells zeros 24)
    exact ⟨I2.quiet qa, At.new w2 zeros 24, I2.out.lt⟩)
  clear h2 q2 I2
  go_wp2_with fail
  generalize (w2.alloc (.cells zeros 24)) = V2 at *
  generalize w2.heap.size = nA at *
  go_loopg [] F (fun gg wr => ∃ (acc : List Nat) (s' : PS), InSet w b l nA (RA, RS) gg acc s' wr)
  case atStart => exact ⟨[], s1, ⟨W2.out, HC.out.2.1, HC.out.2.2.1, HC.out.2.2.2.1, by omega⟩⟩
  case round =>
    obtain ⟨acc, s', I⟩ := hrel
    have II := Lib.hid I
    obtain ⟨f, rfl⟩ : ∃ f, gk = f + 1 := ⟨gk - 1, by have := I.fuel; have := I.pos; omega⟩
    have hE := I.eq
    rw [setP, if_pos I.bad] at hE
    by_cases h93 : nxt l s' = 93
    · rw [if_pos h93] at hE
      injection hE with e1 e2
      subst e1 e2
      have ht := take_yes b 93 l s' h93 hl wr I.rc.rs.rd
      have hmu : (must 93 l s').2 = s'.adv := by unfold must; rw [if_pos h93]
      have hr := HC.out.2.2.2.2
      rw [hmu] at hr
      have hbad : s'.adv.bad = none := I.bad
      have HT := Lib.hid (And.intro ht (And.intro hr hbad))
      clear I h93 ht hmu hr hbad
      go_wp2_with fail
      refine HT.out.1.mono ?_
      rintro e w3 ⟨rfl, h3, q3⟩
      have I3 := II.out.rc.step h3 q3
      clear h3 q3
      obtain ⟨S, hS⟩ : ∃ S, mkS acc = S := ⟨_, rfl⟩
      have hok : S.Ok := by rw [← hS]; exact mk_ok _ _ rfl
      have hown := I3.own
      have hrr := HT.out.2.1
      rw [hS] at hown hrr
      obtain ⟨⟨k0, k1, k2, k3⟩, -⟩ := cells4 hown
      obtain ⟨⟨d0, d1, d2, d3⟩, f0, f1, f2, f3⟩ := cells4 I3.rs.out
      cases nt with
      | false =>
        have H3 := Lib.hid (And.intro I3 (And.intro hrr hok))
        clear I3 hown hrr hS hok
        go_wp2_with fail
        have a := set4 H3.out.1.rs.out (.int .u64 S.x0) (.int .u64 S.x1) (.int .u64 S.x2) (.int .u64 S.x3)
        have q := keep4 H3.out.1.rs.keep (b := w.heap.size) (fun h => absurd h (by simp)) (.int .u64 S.x0) (.int .u64 S.x1) (.int .u64 S.x2) (.int .u64 S.x3)
        have p : At _ b _ _ := (((At.setOther H3.out.1.rs.rd (p := ⟨w.heap.size, 0, none⟩) H3.out.1.rs.ne (.int .u64 S.x0)).setOther (p := ⟨w.heap.size, 1, none⟩) H3.out.1.rs.ne (.int .u64 S.x1)).setOther (p := ⟨w.heap.size, 2, none⟩) H3.out.1.rs.ne (.int .u64 S.x2)).setOther (p := ⟨w.heap.size, 3, none⟩) H3.out.1.rs.ne (.int .u64 S.x3)
        generalize World.setCell _ _ _ = W2 at *
        obtain ⟨⟨e0, e1, e2, e3⟩, -⟩ := cells4 a
        refine bodyPost_ret (v := val S) (by simp [results, Try.results122, go_sem, e0, e1, e2, e3]) rfl ?_
        refine Outs.ok (by rw [← H3.out.2.1]; exact HT.out.2.2) (by rw [← H3.out.2.1]; exact ⟨S, H3.out.2.2, rfl, rfl⟩) (by rw [← H3.out.2.1]; exact p) q
      | true =>
        have hnot := fun W => not_any S hok W
        have H3 := Lib.hid (And.intro I3 (And.intro hrr (And.intro (show (ST.not S).Ok from ST.not_ok S) hnot)))
        clear I3 hown hrr hS hnot
        obtain ⟨N, hN⟩ : ∃ N, ST.not S = N := ⟨_, rfl⟩
        have hNS : notS S = N := hN
        rw [hN] at H3
        go_wp2_with fail
        refine (H3.out.2.2.2 w3).mono ?_
        rintro e w4 ⟨rfl, q4⟩
        have I4 := H3.out.1.quiet q4
        obtain ⟨⟨d0, d1, d2, d3⟩, f0, f1, f2, f3⟩ := cells4 I4.rs.out
        have H4 := Lib.hid (And.intro I4 hNS)
        clear I4 q4 k0 k1 k2 k3 hN hNS hok
        go_wp2_with fail
        have a := set4 H4.out.1.rs.out (.int .u64 N.x0) (.int .u64 N.x1) (.int .u64 N.x2) (.int .u64 N.x3)
        have q := keep4 H4.out.1.rs.keep (b := w.heap.size) (fun h => absurd h (by simp)) (.int .u64 N.x0) (.int .u64 N.x1) (.int .u64 N.x2) (.int .u64 N.x3)
        have p : At _ b _ _ := (((At.setOther H4.out.1.rs.rd (p := ⟨w.heap.size, 0, none⟩) H4.out.1.rs.ne (.int .u64 N.x0)).setOther (p := ⟨w.heap.size, 1, none⟩) H4.out.1.rs.ne (.int .u64 N.x1)).setOther (p := ⟨w.heap.size, 2, none⟩) H4.out.1.rs.ne (.int .u64 N.x2)).setOther (p := ⟨w.heap.size, 3, none⟩) H4.out.1.rs.ne (.int .u64 N.x3)
        generalize World.setCell _ _ _ = W2 at *
        obtain ⟨⟨e0, e1, e2, e3⟩, -⟩ := cells4 a
        refine bodyPost_ret (v := val N) (by simp [results, Try.results122, go_sem, e0, e1, e2, e3]) rfl ?_
        refine Outs.ok (by rw [← H3.out.2.1]; exact HT.out.2.2) (by rw [← H3.out.2.1]; exact ⟨N, H3.out.2.2.1, by show clsT (notS S) = _; rw [H4.out.2], rfl⟩) (by rw [← H3.out.2.1]; exact p) q
    · rw [if_neg h93] at hE
      have ht := take_no b 93 l s' I.bad h93 wr I.rc.rs.rd
      have hsp := fun W hW => rspan_any b l s' I.bad I.pos hl W hW
      have hmv := range_moves (l := l) (s := s')
      have hin := fun h => range_tame.pos_le (l := l) (s := s') I.bad I.pos h
      obtain ⟨⟨M, s2⟩, hM⟩ : ∃ q, range1 l s' = q := ⟨_, rfl⟩
      rw [hM] at hE hsp hmv hin
      dsimp only at hE hmv hin
      have hmk := mk_append acc M
      obtain ⟨S, hS⟩ : ∃ S, mkS acc = S := ⟨_, rfl⟩
      obtain ⟨SM, hSM⟩ : ∃ S, mkS M = S := ⟨_, rfl⟩
      have hok : S.Ok := by rw [← hS]; exact mk_ok _ _ rfl
      have hokM : SM.Ok := by rw [← hSM]; exact mk_ok _ _ rfl
      rw [hS, hSM] at hmk
      have hor := fun W => or_any S SM hok hokM W
      obtain ⟨N, hN⟩ : ∃ N, ST.or S SM = N := ⟨_, rfl⟩
      rw [hN] at hor hmk
      have HT := Lib.hid (And.intro ht (And.intro hsp (And.intro hor (And.intro hmk (And.intro hE (And.intro hmv (And.intro hin (And.intro hS hSM))))))))
      clear I h93 ht hsp hor hmk hE hmv hin hM hS hSM hN hok hokM
      go_wp2_with fail
      refine HT.out.1.mono ?_
      rintro e w3 ⟨rfl, h3, q3⟩
      have I3 := Lib.hid (II.out.rc.step h3 q3)
      clear h3 q3
      go_upto_region 4 with fail
      cases hb2 : s2.bad with
      | some x =>
        have hpan : ∀ W, Rd W b l s' → Calls Try.prog 131 #[.pointer (some ⟨b, 0, none⟩)] W fun e w' => e = Gave x ∧ Keep (fun i => i = b) W w' := fun W hW => (HT.out.2.1 W hW).mono (by
          intro e w' hO
          rcases hO.split with ⟨hb4, _⟩ | ⟨y, hb4, rfl, q⟩
          · rw [hb2] at hb4
            cases hb4
          · rw [hb2] at hb4
            injection hb4 with hb4
            subst hb4
            exact ⟨rfl, q⟩)
        have hfin : r.2.bad = some x := by
          have h1 := (set_tame f (acc ++ M)).bad l s2 x hb2
          rw [HT.out.2.2.2.2.1] at h1
          rw [← HC.out.2.2.2.2]
          exact (must_tame 93 (by decide)).bad l RS x h1
        have HP := Lib.hid (And.intro hpan hfin)
        obtain ⟨⟨k0, k1, k2, k3⟩, g0, g1, g2, g3⟩ := cells4 I3.out.own
        clear hpan hfin hb2
        go_region_dies
        all_goals
          refine (HP.out.1 _ I3.out.drew.rs.rd).mono ?_
          rintro e w4 ⟨rfl, q4⟩
          exact ⟨rfl, Outs.gave (x := x) HP.out.2 (I3.out.drew.rs.keep.trans q4)⟩
      | none =>
        have hgo : ∀ W, Rd W b l s' → Calls Try.prog 131 #[.pointer (some ⟨b, 0, none⟩)] W fun e w' => e = .returned (val SM) ∧ Rd w' b l s2 ∧ Keep (fun i => i = b) W w' := fun W hW => (HT.out.2.1 W hW).mono (by
          intro e w' hO
          rcases hO.split with ⟨hb4, v, rfl, hv, hr, q⟩ | ⟨y, hb4, _⟩
          · obtain ⟨hv, -⟩ := hv
            dsimp only at hv
            rw [HT.out.2.2.2.2.2.2.2.2] at hv
            subst hv
            exact ⟨rfl, hr, q⟩
          · rw [hb2] at hb4
            cases hb4)
        have hown := I3.out.own
        rw [HT.out.2.2.2.2.2.2.2.1] at hown
        obtain ⟨⟨k0, k1, k2, k3⟩, g0, g1, g2, g3⟩ := cells4 hown
        have HG := Lib.hid (And.intro hgo hb2)
        clear hgo hown hb2
        go_region_with (first
          | (go_at_call 131; refine (HG.out.1 _ (by first | exact I3.out.rs.rd | exact I3.out.drew.rs.rd)).mono ?_; rintro e w4 ⟨rfl, h4, q4⟩; have I4 := Lib.hid (I3.out.drew.step h4 q4); have hown := I4.out.own; rw [HT.out.2.2.2.2.2.2.2.1] at hown; obtain ⟨⟨k0, k1, k2, k3⟩, g0, g1, g2, g3⟩ := cells4 hown; clear hown h4 q4)
          | (go_at_call 130; refine (HT.out.2.2.1 _).mono ?_; rintro e w5 ⟨rfl, q5⟩; have I5 := Lib.hid (I4.out.quiet q5); have hown := I5.out.own; rw [HT.out.2.2.2.2.2.2.2.1] at hown; obtain ⟨⟨k0, k1, k2, k3⟩, g0, g1, g2, g3⟩ := cells4 hown; clear hown q5))
        all_goals
          have I6 := Lib.hid (show Rc w b l nA (acc ++ M) s2 ((((w5.setCell ⟨nA, 0, none⟩ (.int .u64 N.x0)).setCell ⟨nA, 1, none⟩ (.int .u64 N.x1)).setCell ⟨nA, 2, none⟩ (.int .u64 N.x2)).setCell ⟨nA, 3, none⟩ (.int .u64 N.x3)) from by
            have hlow := I5.out.low
            have hb0 := I5.out.rs.low
            have hbA : b ≠ nA := by omega
            have hwA : w.heap.size ≠ nA := by omega
            have p : At _ b _ _ := (((At.setOther I5.out.rs.rd (p := ⟨nA, 0, none⟩) hbA (.int .u64 N.x0)).setOther (p := ⟨nA, 1, none⟩) hbA (.int .u64 N.x1)).setOther (p := ⟨nA, 2, none⟩) hbA (.int .u64 N.x2)).setOther (p := ⟨nA, 3, none⟩) hbA (.int .u64 N.x3)
            have o : At _ w.heap.size _ _ := (((At.setOther I5.out.rs.out (p := ⟨nA, 0, none⟩) hwA (.int .u64 N.x0)).setOther (p := ⟨nA, 1, none⟩) hwA (.int .u64 N.x1)).setOther (p := ⟨nA, 2, none⟩) hwA (.int .u64 N.x2)).setOther (p := ⟨nA, 3, none⟩) hwA (.int .u64 N.x3)
            have a := set4 I5.out.own (.int .u64 N.x0) (.int .u64 N.x1) (.int .u64 N.x2) (.int .u64 N.x3)
            have q := keep4 I5.out.rs.keep (b := nA) (fun h => absurd h (by omega)) (.int .u64 N.x0) (.int .u64 N.x1) (.int .u64 N.x2) (.int .u64 N.x3)
            exact ⟨⟨p, o, q, I5.out.rs.low⟩, by rw [HT.out.2.2.2.1]; exact a, hlow⟩)
          clear k0 k1 k2 k3 g0 g1 g2 g3
          generalize World.setCell _ _ _ = W6 at *
          go_wp2_with fail
          go_roundg f
          case measure => omega
          case rel => exact ⟨acc ++ M, s2, ⟨I6.out, HT.out.2.2.2.2.1, HG.out.2, HT.out.2.2.2.2.2.2.1 HG.out.2, by have := HT.out.2.2.2.2.2.1 HG.out.2; have := II.out.fuel; omega⟩⟩
end Go.Proofs.Ythcjfgfbeollpaa.P07
/- The code's reader (layer 7): class, group, atom. -/
namespace Go.Proofs.Ythcjfgfbeollpaa.P07
open Go.RowKit Go.Proofs.Ythcjfgfbeollpaa.Base Go.Proofs.Ythcjfgfbeollpaa.IL Go.Proofs.Ythcjfgfbeollpaa.Bytes
open Go.Proofs.Ythcjfgfbeollpaa.Sets (ST)

/-- An expression, in memory that was made. -/
@[reducible] def VN (w : World) (w' : World) (v : Value) (t : T) : Prop := NodeV w' (fun k => w.heap.size ≤ k) v t
/-- The reader's function f does as A says. -/
def NodeR (f b : Nat) (l : List UInt8) (o : Nat) (A : List UInt8 → PS → T × PS) : Prop :=
  ∀ (s : PS) (w : World), s.bad = none → s.pos ≤ l.length → s.opn = o → Rd w b l s → Calls Try.prog f #[.pointer (some ⟨b, 0, none⟩)] w (Outs w b l (VN w) (A l s))

/-- The world in which a node is laid into the result's block. -/
def putN (W : World) (n : Nat) (t : T) (a : Option Addr) (c : Nat) : World :=
  put8 W n (.int .i64 t.kind) (.int .u64 t.set.x0) (.int .u64 t.set.x1) (.int .u64 t.set.x2) (.int .u64 t.set.x3) (.int .i64 t.mn) (.int .i64 t.mx) (.slice a t.subs.length c)
theorem Rs.put {w : World} {b : Nat} {l : List UInt8} {s : PS} {W : World} (I : Rs w b l 27 nzeros s W) (t : T) (a : Option Addr) (c : Nat) (hle : t.subs.length ≤ c) (hL : Lie W (fun k => w.heap.size < k) a t.subs) :
    At (putN W w.heap.size t a c) w.heap.size 27 (ncells t a c) ∧ Rd (putN W w.heap.size t a c) b l s ∧ Keep (fun i => i = b) w (putN W w.heap.size t a c) ∧ NodeV (putN W w.heap.size t a c) (fun k => w.heap.size ≤ k) (nodeV t a c) t := by
  unfold putN
  refine ⟨set8 I.out _ _ _ _ _ _ _ _, other8 (show At _ b _ _ from I.rd) I.ne _ _ _ _ _ _ _ _, keep8 I.keep (b := w.heap.size) (fun h => absurd h (Nat.lt_irrefl _)) _ _ _ _ _ _ _ _, a, c, rfl, hle, ?_⟩
  exact (hL.keep (keep8 (Keep.refl (fun i => i = w.heap.size) W) (b := w.heap.size) (fun _ => rfl) _ _ _ _ _ _ _ _) (fun k hk e => by omega)).mono (fun k hk => by omega)

set_option maxRecDepth 100000 in
set_option maxHeartbeats 1000000 in
theorem class_fn (S : ST) (w : World) : Calls Try.prog 120 #[val S] w fun e w' => e = .returned (nodeV (clsT S) none 0) ∧ Keep (fun _ => False) w w' := by
  have a0 := (At.new w (cells S) 24).alloc (.cells nzeros 27)
  have a1 := At.new (w.alloc (.cells (cells S) 24)) nzeros 27
  rw [show (w.alloc (.cells (cells S) 24)).heap.size = w.heap.size + 1 from by simp] at a1
  have q := ((Keep.refl (fun _ => False) w).alloc (.cells (cells S) 24)).alloc (.cells nzeros 27)
  have H := Lib.hid (And.intro a0 (And.intro a1 q))
  clear a0 a1 q
  go_enter Try.func120, Try.ntmps120
  go_upto_region 1 with fail
  generalize ((w.alloc (.cells (cells S) 24)).alloc (.cells nzeros 27)) = W at *
  obtain ⟨⟨k0, k1, k2, k3⟩, -⟩ := cells4 H.out.1
  obtain ⟨⟨c0, c1, c2, c3, c4, c5, c6, c7⟩, f0, f1, f2, f3, f4, f5, f6, f7⟩ := cells8 H.out.2.1
  have hlt0 := (H.out.2.1).lt
  go_wp2_with fail
  change bodyPost _ _ _ _ _ (put8 W (w.heap.size + 1) (.int .i64 2) (.int .u64 S.x0) (.int .u64 S.x1) (.int .u64 S.x2) (.int .u64 S.x3) (.int .i64 0) (.int .i64 0) (.slice none 0 0))
  have a := set8 H.out.2.1 (.int .i64 2) (.int .u64 S.x0) (.int .u64 S.x1) (.int .u64 S.x2) (.int .u64 S.x3) (.int .i64 0) (.int .i64 0) (.slice none 0 0)
  have q := keep8 H.out.2.2 (b := w.heap.size + 1) (fun h => absurd h (by omega)) (.int .i64 2) (.int .u64 S.x0) (.int .u64 S.x1) (.int .u64 S.x2) (.int .u64 S.x3) (.int .i64 0) (.int .i64 0) (.slice none 0 0)
  generalize (put8 W (w.heap.size + 1) (.int .i64 2) (.int .u64 S.x0) (.int .u64 S.x1) (.int .u64 S.x2) (.int .u64 S.x3) (.int .i64 0) (.int .i64 0) (.slice none 0 0)) = W9 at a q ⊢
  obtain ⟨⟨e0, e1, e2, e3, e4, e5, e6, e7⟩, -⟩ := cells8 a
  exact bodyPost_ret (v := .agg #[(.int .i64 2), (.int .u64 S.x0), (.int .u64 S.x1), (.int .u64 S.x2), (.int .u64 S.x3), (.int .i64 0), (.int .i64 0), (.slice none 0 0)]) (by simp [results, Try.results120, go_sem, e0, e1, e2, e3, e4, e5, e6, e7]) rfl ⟨rfl, q⟩

/-- One more bracket stands open; one less. -/
def PS.open1 (s : PS) : PS := { s with opn := s.opn + 1 }
def PS.shut1 (s : PS) : PS := { s with opn := s.opn - 1 }
theorem nxt_shut (l : List UInt8) (s : PS) : nxt l s.shut1 = nxt l s := rfl

set_option maxRecDepth 100000 in
set_option maxHeartbeats 4000000 in
theorem rgroup_any (b : Nat) (l : List UInt8) (A : List UInt8 → PS → T × PS) (hl : l.length ≤ 100000000) (s : PS) (w : World) (hA : s.opn < 12 → NodeR 104 b l (s.opn + 1) A) (hSt : Still A) (hb : s.bad = none) (hc : nxt l s = 40) (ho : s.opn ≤ 12) (h : Rd w b l s) :
    Calls Try.prog 119 #[.pointer (some ⟨b, 0, none⟩)] w (Outs w b l (VN w) (if s.opn = 12 then (zeroT, s.fail s.pos) else parP A l s.adv)) := by
  have W0 := Lib.hid (Rs.start h 27 nzeros)
  clear h
  by_cases h12 : s.opn = 12
  · rw [if_pos h12]
    have hf : (zeroT, s.fail s.pos).2.bad = some s.pos := bad_fail hb _
    obtain ⟨r, hr⟩ : ∃ r, (zeroT, s.fail s.pos) = r := ⟨_, rfl⟩
    rw [hr] at hf ⊢
    have HF := Lib.hid hf
    clear hf hr hc
    go_enter Try.func119, Try.ntmps119
    go_upto_region 1 with fail
    generalize (w.alloc (.cells nzeros 27)) = V at *
    have c1 : V.cell? ⟨b, 1, none⟩ = some (.int .i64 s.pos) := At.cell W0.out.rd (o := 1) rfl
    have c2 : V.cell? ⟨b, 2, none⟩ = some (.int .i64 s.opn) := At.cell W0.out.rd (o := 2) rfl
    rw [h12] at c2
    clear h12 ho
    go_wp2_with fail
    exact ⟨rfl, Outs.gave (x := s.pos) HF.out W0.out.keep⟩
  · rw [if_neg h12]
    have hlt := (nxt_lt (l := l) (s := s) (by omega)).2
    have hN := hA (by omega)
    have hmu := fun W h => must_yes b 40 l s hc hl W h
    have hin : ∀ W, Rd W b l s.adv.open1 → Calls Try.prog 104 #[.pointer (some ⟨b, 0, none⟩)] W (Outs W b l (VN W) (A l s.adv.open1)) := fun W hW => hN s.adv.open1 W hb hlt rfl hW
    have hop : (A l s.adv.open1).2.opn = s.opn + 1 := hSt l s.adv.open1
    have hr : parP A l s.adv = ((A l s.adv.open1).1, (must 41 l (A l s.adv.open1).2.shut1).2) := rfl
    obtain ⟨r, hrr⟩ : ∃ r, parP A l s.adv = r := ⟨_, rfl⟩
    rw [hrr] at hr ⊢
    obtain ⟨⟨t, s2⟩, hq⟩ : ∃ q, A l s.adv.open1 = q := ⟨_, rfl⟩
    rw [hq] at hin hr hop
    dsimp only at hr hop
    have HC := Lib.hid (And.intro hmu (And.intro hin (And.intro hr hop)))
    have e12 : ((s.opn : Int) == 12) = false := by simp; omega
    have w1 : IntKind.i64.wrap ((s.opn : Int) + 1) = (s.opn : Int) + 1 := by rw [IntKind.wrap_i64]; omega
    have w2 : IntKind.i64.wrap ((s.opn : Int) + 1 - 1) = (s.opn : Int) := by rw [IntKind.wrap_i64]; omega
    clear hmu hin hr hop hrr hq hN hc h12 hA hSt hlt
    go_enter Try.func119, Try.ntmps119
    go_upto_region 1 with fail
    generalize (w.alloc (.cells nzeros 27)) = V at *
    have c2 : V.cell? ⟨b, 2, none⟩ = some (.int .i64 s.opn) := At.cell W0.out.rd (o := 2) rfl
    go_wp2_with fail
    refine (HC.out.1 V W0.out.rd).mono ?_
    rintro e w1 ⟨rfl, h1, q1⟩
    clear c2
    have c2 : w1.cell? ⟨b, 2, none⟩ = some (.int .i64 s.opn) := At.cell h1 (o := 2) rfl
    have f2 := At.frozen h1 2
    have I1 := Lib.hid (W0.out.step h1 q1)
    have I2 := Lib.hid (I1.out.step (s' := s.adv.open1) (W' := w1.setCell ⟨b, 2, none⟩ (.int .i64 ((s.opn : Int) + 1))) (At.set h1 2 (.int .i64 ((s.opn : Int) + 1))) ((Keep.refl (fun i => i = b) w1).setCell (p := ⟨b, 2, none⟩) (fun _ => rfl) _))
    clear h1 q1
    go_upto_region 5 with fail
    generalize (w1.setCell ⟨b, 2, none⟩ (.int .i64 ((s.opn : Int) + 1))) = W2 at *
    clear c2 f2
    go_wp2_with fail
    refine (HC.out.2.1 W2 I2.out.rd).mono ?_
    intro e w3 hO
    rcases hO.split with ⟨hb3, v, rfl, ⟨a', c', hv, hle, hLie⟩, h3, q3⟩ | ⟨x, hb3, rfl, q3⟩
    · dsimp only at hv
      subst hv
      have I3 := I2.out.step h3 q3
      have hlow := I2.out.out.lt
      have I4 := Lib.hid (And.intro (I3.quiet ((Keep.refl (fun _ => False) w3).alloc (.cells (ncells t a' c') 27))) (And.intro (At.new w3 (ncells t a' c') 27) (And.intro ((hLie.keepF ((Keep.refl (fun _ => False) w3).alloc (.cells (ncells t a' c') 27))).mono (ok' := fun k => w.heap.size < k) (fun k hk => by omega)) (And.intro hle (And.intro hb3 (show w.heap.size < w3.heap.size from by have := q3.size; omega))))))
      clear hLie hle h3 q3 hb3 I3 hO hlow
      go_upto_region 6 with fail
      generalize (w3.alloc (.cells (ncells t a' c') 27)) = W4 at *
      generalize w3.heap.size = nn at *
      go_wp2_with fail
      by_cases h41 : nxt l s2 = 41
      · have hms : (must 41 l s2.shut1).2 = s2.adv.shut1 := by unfold must; rw [nxt_shut, if_pos h41]; rfl
        have hr := HC.out.2.2.1
        rw [hms] at hr
        have HR := Lib.hid hr
        refine (must_yes b 41 l s2 h41 hl W4 I4.out.1.rd).mono ?_
        rintro e w5 ⟨rfl, h5, q5⟩
        have c2 : w5.cell? ⟨b, 2, none⟩ = some (.int .i64 ((s.opn : Int) + 1)) := by
          have := At.cell h5 (o := 2) (v := .int .i64 s2.opn) rfl
          rw [this, HC.out.2.2.2]
          rfl
        have f2 := At.frozen h5 2
        have qk : Keep (fun i => i = b) W4 (w5.setCell ⟨b, 2, none⟩ (.int .i64 (s.opn : Int))) := q5.trans ((Keep.refl (fun i => i = b) w5).setCell (p := ⟨b, 2, none⟩) (fun _ => rfl) _)
        have I6 := Lib.hid (And.intro (I4.out.1.step (s' := s2.adv.shut1) (W' := w5.setCell ⟨b, 2, none⟩ (.int .i64 (s.opn : Int))) (by
          have := At.set h5 2 (.int .i64 (s.opn : Int))
          have e : ((s2.opn - 1 : Nat) : Int) = (s.opn : Int) := by rw [HC.out.2.2.2]; omega
          show At _ b _ #[str l, .int .i64 _, .int .i64 ((s2.opn - 1 : Nat) : Int)]
          rw [e]
          exact this) qk) (And.intro (I4.out.2.1.keep qk (by have := I4.out.2.2.2.2.2; have := I4.out.1.low; omega)) (I4.out.2.2.1.keep qk (fun k hk e => by have := I4.out.1.low; omega))))
        clear h5 q5 qk hms hr h41
        go_upto_region 8 with fail
        generalize (w5.setCell ⟨b, 2, none⟩ (.int .i64 (s.opn : Int))) = W6 at *
        clear c2 f2
        obtain ⟨⟨x0, x1, x2, x3, x4, x5, x6, x7⟩, -⟩ := cells8 I6.out.2.1
        obtain ⟨⟨k0, k1, k2, k3, k4, k5, k6, k7⟩, f0, f1, f2, f3, f4, f5, f6, f7⟩ := cells8 I6.out.1.out
        have hlt0 := I6.out.1.out.lt
        go_wp2_with fail
        change bodyPost _ _ _ _ _ (putN W6 w.heap.size t a' c')
        obtain ⟨a, p, q, n⟩ := I6.out.1.put t a' c' I4.out.2.2.2.1 I6.out.2.2
        generalize (putN W6 w.heap.size t a' c') = W9 at a p q n ⊢
        obtain ⟨⟨e0, e1, e2, e3, e4, e5, e6, e7⟩, -⟩ := cells8 a
        refine bodyPost_ret (v := nodeV t a' c') (by simp [results, Try.results119, go_sem, e0, e1, e2, e3, e4, e5, e6, e7]) rfl ?_
        exact Outs.ok (by rw [HR.out]; exact I4.out.2.2.2.2.1) (by rw [HR.out]; exact n) (by rw [HR.out]; exact p) q
      · have hms : (must 41 l s2.shut1).2 = (s2.shut1.fail s2.pos).adv := by unfold must; rw [nxt_shut, if_neg h41]; rfl
        have hr := HC.out.2.2.1
        rw [hms] at hr
        refine (must_no b 41 l s2 I4.out.2.2.2.2.1 h41 W4 I4.out.1.rd).mono ?_
        rintro e w5 ⟨rfl, q5⟩
        have HR := Lib.hid (And.intro hr q5)
        clear q5 hms hr h41
        go_wp2_with fail
        exact ⟨rfl, Outs.gave (x := s2.pos) (by rw [HR.out.1]; exact bad_fail (s := s2.shut1) I4.out.2.2.2.2.1 _) (I4.out.1.keep.trans HR.out.2)⟩
    · have HR := Lib.hid (And.intro hb3 (I2.out.keep.trans q3))
      clear hb3 q3 hO
      go_wp2_with fail
      exact ⟨rfl, Outs.gave (x := x) (by rw [HC.out.2.2.1]; exact (must_tame 41 (by decide)).bad l _ x HR.out.1) HR.out.2⟩
end Go.Proofs.Ythcjfgfbeollpaa.P07
/- The code's reader (layer 7): atom. -/
namespace Go.Proofs.Ythcjfgfbeollpaa.P07
open Go.RowKit Go.Proofs.Ythcjfgfbeollpaa.Base Go.Proofs.Ythcjfgfbeollpaa.IL Go.Proofs.Ythcjfgfbeollpaa.Bytes
open Go.Proofs.Ythcjfgfbeollpaa.Sets (ST)

theorem all_set : ST.range 0 255 = notS zS := by
  refine ST.ext (ST.range_ok _ _) (ST.not_ok _) (fun b hb => ?_)
  have e : (ST.not zS).has b = !zS.has b := ST.has_not (mk_ok _ [] rfl) b hb
  have e2 : zS.has b = false := ST.has_none b
  rw [ST.has_range _ _ _ hb]
  show _ = (ST.not zS).has b
  rw [e, e2]
  simp
  omega
theorem one_set (u : Nat) : mkS [u] = ST.one u := by
  refine ST.ext (mk_ok _ _ rfl) (ST.one_ok _) (fun b hb => ?_)
  rw [mk_has b hb _ _ rfl, ST.has_one _ _ hb]
  simp
theorem rnext_is {b c : Nat} {l : List UInt8} {s : PS} {g : Bool} (hg : decide (nxt l s = c) = g) (hb : s.bad = none) (w : World) (h : Rd w b l s) :
    Calls Try.prog 115 #[.pointer (some ⟨b, 0, none⟩), .int .u8 c] w fun e w' => e = .returned (.bool g) ∧ Keep (fun _ => False) w w' := by
  rw [← hg]
  exact rnext_any b c l s hb w h

set_option maxRecDepth 100000 in
set_option maxHeartbeats 8000000 in
theorem ratom_any (F b o : Nat) (l : List UInt8) (A : List UInt8 → PS → T × PS) (hF : l.length + 2 ≤ F) (hl : l.length ≤ 100000000) (ho : o ≤ 12) (hA : o < 12 → NodeR 104 b l (o + 1) A) (hSt : Still A) : NodeR 117 b l o (atomP F A) := by
  intro s w hb hp hop h
  subst hop
  have W0 := Lib.hid (Rs.start h 27 nzeros)
  clear h
  obtain ⟨r, hr⟩ : ∃ r, atomP F A l s = r := ⟨_, rfl⟩
  rw [hr]
  unfold atomP atomB at hr
  by_cases h40 : nxt l s = 40
  · rw [if_pos h40] at hr
    have hg := fun W h => rgroup_any b l A hl s W hA hSt hb h40 ho h
    rw [hr] at hg
    obtain ⟨t, sR⟩ := r
    have HC := Lib.hid (And.intro (fun W h => rnext_is (b := b) (decide_eq_true h40) hb W h) hg)
    clear hr hg h40 hb hp hA hSt
    go_enter Try.func117, Try.ntmps117
    go_upto_region 1 with fail
    generalize (w.alloc (.cells nzeros 27)) = V at *
    go_wp2_with fail
    refine (HC.out.1 V W0.out.rd).mono ?_
    rintro e w1 ⟨rfl, q1⟩
    have I1 := Lib.hid (W0.out.quiet q1)
    clear q1
    go_wp2_with fail
    refine (HC.out.2 w1 I1.out.rd).mono ?_
    intro e w2 hO
    rcases hO.split with ⟨hb2, v, rfl, ⟨a', c', hv, hle, hLie⟩, h2, q2⟩ | ⟨x, hb2, rfl, q2⟩
    · dsimp only at hv
      subst hv
      have hlow := I1.out.out.lt
      have I2 := Lib.hid (And.intro (I1.out.step h2 q2) (And.intro (hLie.mono (ok' := fun k => w.heap.size < k) (fun k hk => by omega)) (And.intro hle hb2)))
      clear hLie hle h2 q2 hb2 hO hlow
      obtain ⟨⟨k0, k1, k2, k3, k4, k5, k6, k7⟩, f0, f1, f2, f3, f4, f5, f6, f7⟩ := cells8 I2.out.1.out
      have hlt0 := I2.out.1.out.lt
      go_wp2_with fail
      change bodyPost _ _ _ _ _ (putN w2 w.heap.size t a' c')
      obtain ⟨a, p, q, n⟩ := I2.out.1.put t a' c' I2.out.2.2.1 I2.out.2.1
      generalize (putN w2 w.heap.size t a' c') = W9 at a p q n ⊢
      obtain ⟨⟨e0, e1, e2, e3, e4, e5, e6, e7⟩, -⟩ := cells8 a
      refine bodyPost_ret (v := nodeV t a' c') (by simp [results, Try.results117, go_sem, e0, e1, e2, e3, e4, e5, e6, e7]) rfl ?_
      exact Outs.ok I2.out.2.2.2 n p q
    · have HR := Lib.hid (And.intro hb2 (I1.out.keep.trans q2))
      clear hb2 q2 hO
      go_wp2_with fail
      exact ⟨rfl, Outs.gave (x := x) HR.out.1 HR.out.2⟩
  rw [if_neg h40] at hr
  have N40 := Lib.hid (fun W h => rnext_is (b := b) (c := 40) (decide_eq_false h40) hb W h)
  by_cases h46 : nxt l s = 46
  · rw [if_pos h46] at hr
    have hof := fun W => of_any 0 255 (by decide) (by decide) W
    rw [all_set] at hof
    obtain ⟨S, hS⟩ : ∃ S, notS zS = S := ⟨_, rfl⟩
    rw [hS] at hof hr
    have hcl := fun W => class_fn S W
    have HC := Lib.hid (And.intro (fun W h => take_yes b 46 l s h46 hl W h) (And.intro hr (And.intro hb (And.intro hof hcl))))
    clear hr hof hcl hS h40 h46 hb hp hA hSt
    go_enter Try.func117, Try.ntmps117
    go_upto_region 1 with fail
    generalize (w.alloc (.cells nzeros 27)) = V at *
    go_wp2_with fail
    refine (N40.out V W0.out.rd).mono ?_
    rintro e w1 ⟨rfl, q1⟩
    have I1 := Lib.hid (W0.out.quiet q1)
    clear q1
    go_wp2_with fail
    refine (HC.out.1 w1 I1.out.rd).mono ?_
    rintro e w2 ⟨rfl, h2, q2⟩
    have I2 := Lib.hid (I1.out.step h2 q2)
    clear h2 q2
    go_wp2_with fail
    refine (HC.out.2.2.2.1 w2).mono ?_
    rintro e w3 ⟨rfl, q3⟩
    have I3 := Lib.hid (I2.out.quiet q3)
    clear q3
    go_wp2_with fail
    refine (HC.out.2.2.2.2 w3).mono ?_
    rintro e w4 ⟨rfl, q4⟩
    have I4 := Lib.hid (I3.out.quiet q4)
    clear q4
    obtain ⟨⟨k0, k1, k2, k3, k4, k5, k6, k7⟩, f0, f1, f2, f3, f4, f5, f6, f7⟩ := cells8 I4.out.out
    have hlt0 := I4.out.out.lt
    go_wp2_with fail
    change bodyPost _ _ _ _ _ (putN w4 w.heap.size (clsT S) none 0)
    obtain ⟨a, p, q, n⟩ := I4.out.put (clsT S) none 0 (Nat.le_refl 0) (.nil _)
    generalize (putN w4 w.heap.size (clsT S) none 0) = W9 at a p q n ⊢
    obtain ⟨⟨e0, e1, e2, e3, e4, e5, e6, e7⟩, -⟩ := cells8 a
    refine bodyPost_ret (v := nodeV (clsT S) none 0) (by simp [results, Try.results117, go_sem, e0, e1, e2, e3, e4, e5, e6, e7]) rfl ?_
    exact Outs.ok (by rw [← HC.out.2.1]; exact HC.out.2.2.1) (by rw [← HC.out.2.1]; exact n) (by rw [← HC.out.2.1]; exact p) q
  rw [if_neg h46] at hr
  have N46 := Lib.hid (fun W h => take_no b 46 l s hb h46 W h)
  by_cases h91 : nxt l s = 91
  · rw [if_pos h91] at hr
    have hlt := (nxt_lt (l := l) (s := s) (by omega)).2
    have hset := fun W h => rset_any F b l s.adv hF hb hlt hl W h
    rw [hr] at hset
    have HC := Lib.hid (And.intro (fun W h => take_yes b 91 l s h91 hl W h) hset)
    clear hr hset hlt h40 h46 h91 hb hp hA hSt
    go_enter Try.func117, Try.ntmps117
    go_upto_region 1 with fail
    generalize (w.alloc (.cells nzeros 27)) = V at *
    go_wp2_with fail
    refine (N40.out V W0.out.rd).mono ?_
    rintro e w1 ⟨rfl, q1⟩
    have I1 := Lib.hid (W0.out.quiet q1)
    clear q1
    go_wp2_with fail
    refine (N46.out w1 I1.out.rd).mono ?_
    rintro e w2 ⟨rfl, h2, q2⟩
    have I2 := Lib.hid (I1.out.step h2 q2)
    clear h2 q2
    go_wp2_with fail
    refine (HC.out.1 w2 I2.out.rd).mono ?_
    rintro e w3 ⟨rfl, h3, q3⟩
    have I3 := Lib.hid (I2.out.step h3 q3)
    clear h3 q3
    go_wp2_with fail
    refine (HC.out.2 w3 I3.out.rd).mono ?_
    intro e w4 hO
    rcases hO.split with ⟨hb4, v, rfl, ⟨S, hok, ht, hv⟩, h4, q4⟩ | ⟨x, hb4, rfl, q4⟩
    · subst hv
      have I4 := Lib.hid (And.intro (I3.out.step h4 q4) (And.intro ht hb4))
      clear h4 q4 hb4 hO ht hok
      go_wp2_with fail
      refine (class_fn S w4).mono ?_
      rintro e w5 ⟨rfl, q5⟩
      have I5 := Lib.hid (I4.out.1.quiet q5)
      clear q5
      obtain ⟨⟨k0, k1, k2, k3, k4, k5, k6, k7⟩, f0, f1, f2, f3, f4, f5, f6, f7⟩ := cells8 I5.out.out
      have hlt0 := I5.out.out.lt
      go_wp2_with fail
      change bodyPost _ _ _ _ _ (putN w5 w.heap.size (clsT S) none 0)
      obtain ⟨a, p, q, n⟩ := I5.out.put (clsT S) none 0 (Nat.le_refl 0) (.nil _)
      generalize (putN w5 w.heap.size (clsT S) none 0) = W9 at a p q n ⊢
      obtain ⟨⟨e0, e1, e2, e3, e4, e5, e6, e7⟩, -⟩ := cells8 a
      refine bodyPost_ret (v := nodeV (clsT S) none 0) (by simp [results, Try.results117, go_sem, e0, e1, e2, e3, e4, e5, e6, e7]) rfl ?_
      exact Outs.ok I4.out.2.2 (by rw [I4.out.2.1]; exact n) p q
    · have HR := Lib.hid (And.intro hb4 (I3.out.keep.trans q4))
      clear hb4 q4 hO
      go_wp2_with fail
      exact ⟨rfl, Outs.gave (x := x) HR.out.1 HR.out.2⟩
  rw [if_neg h91] at hr
  have N91 := Lib.hid (fun W h => take_no b 91 l s hb h91 W h)
  have hby := fun W h => rbyte_any b l s hb hp hl W h
  have r1 := one_range l s
  unfold litP at hr
  obtain ⟨⟨x, s2⟩, hq⟩ : ∃ q, one l s = q := ⟨_, rfl⟩
  rw [hq] at hby r1 hr
  dsimp only at r1 hr
  obtain ⟨u, rfl⟩ : ∃ n : Nat, x = n := ⟨x.toNat, by omega⟩
  rw [Int.toNat_natCast, one_set] at hr
  have hone := fun W => Bytes.one_any u (by omega) W
  obtain ⟨S, hS⟩ : ∃ S, ST.one u = S := ⟨_, rfl⟩
  rw [hS] at hone hr
  have HC := Lib.hid (And.intro hby (And.intro hr hone))
  clear hr hby hone hS hq h40 h46 h91 hb hp hA hSt
  go_enter Try.func117, Try.ntmps117
  go_upto_region 1 with fail
  generalize (w.alloc (.cells nzeros 27)) = V at *
  go_wp2_with fail
  refine (N40.out V W0.out.rd).mono ?_
  rintro e w1 ⟨rfl, q1⟩
  have I1 := Lib.hid (W0.out.quiet q1)
  clear q1
  go_wp2_with fail
  refine (N46.out w1 I1.out.rd).mono ?_
  rintro e w2 ⟨rfl, h2, q2⟩
  have I2 := Lib.hid (I1.out.step h2 q2)
  clear h2 q2
  go_wp2_with fail
  refine (N91.out w2 I2.out.rd).mono ?_
  rintro e w3 ⟨rfl, h3, q3⟩
  have I3 := Lib.hid (I2.out.step h3 q3)
  clear h3 q3
  go_wp2_with fail
  refine (HC.out.1 w3 I3.out.rd).mono ?_
  intro e w4 hO
  rcases hO.split with ⟨hb4, v, rfl, hv, h4, q4⟩ | ⟨x, hb4, rfl, q4⟩
  · unfold VB at hv
    subst hv
    have I4 := Lib.hid (And.intro (I3.out.step h4 q4) hb4)
    clear h4 q4 hb4 hO
    go_wp2_with fail
    refine (HC.out.2.2 w4).mono ?_
    rintro e w5 ⟨rfl, q5⟩
    have I5 := Lib.hid (I4.out.1.quiet q5)
    clear q5
    go_wp2_with fail
    refine (class_fn S w5).mono ?_
    rintro e w6 ⟨rfl, q6⟩
    have I6 := Lib.hid (I5.out.quiet q6)
    clear q6
    obtain ⟨⟨k0, k1, k2, k3, k4, k5, k6, k7⟩, f0, f1, f2, f3, f4, f5, f6, f7⟩ := cells8 I6.out.out
    have hlt0 := I6.out.out.lt
    go_wp2_with fail
    change bodyPost _ _ _ _ _ (putN w6 w.heap.size (clsT S) none 0)
    obtain ⟨a, p, q, n⟩ := I6.out.put (clsT S) none 0 (Nat.le_refl 0) (.nil _)
    generalize (putN w6 w.heap.size (clsT S) none 0) = W9 at a p q n ⊢
    obtain ⟨⟨e0, e1, e2, e3, e4, e5, e6, e7⟩, -⟩ := cells8 a
    refine bodyPost_ret (v := nodeV (clsT S) none 0) (by simp [results, Try.results117, go_sem, e0, e1, e2, e3, e4, e5, e6, e7]) rfl ?_
    exact Outs.ok (by rw [← HC.out.2.1]; exact I4.out.2) (by rw [← HC.out.2.1]; exact n) (by rw [← HC.out.2.1]; exact p) q
  · have HR := Lib.hid (And.intro hb4 (I3.out.keep.trans q4))
    clear hb4 q4 hO
    go_wp2_with fail
    exact ⟨rfl, Outs.gave (x := x) (by rw [← HC.out.2.1]; exact HR.out.1) HR.out.2⟩
end Go.Proofs.Ythcjfgfbeollpaa.P07
/- The code's reader (layer 7): item. -/
namespace Go.Proofs.Ythcjfgfbeollpaa.P07
open Go.RowKit Go.Proofs.Ythcjfgfbeollpaa.Base Go.Proofs.Ythcjfgfbeollpaa.IL Go.Proofs.Ythcjfgfbeollpaa.Bytes
open Go.Proofs.Ythcjfgfbeollpaa.Sets (ST)

/-- One node in a block, as a list of parts. -/
theorem lie_one {W : World} {ok : Nat → Prop} {n : Nat} {t : T} {a : Option Addr} {c : Nat} (hrow : At W n 27 (ncells t a c)) (hok : ok n) (hle : t.subs.length ≤ c) (hL : Lie W ok a t.subs) : Lie W ok (some ⟨n, 0, none⟩) [t] := by
  refine .cons n 0 [t] (fun _ => a) (fun _ => c) (by simp) hrow.lt hok (fun i t' ht => ?_) (fun i t' ht j v hv => ?_) (fun i t' ht => ?_)
  · cases i with
    | zero =>
      simp at ht
      subst ht
      exact hle
    | succ i => simp at ht
  · cases i with
    | zero =>
      simp at ht
      subst ht
      have := hrow.cell hv
      simpa using this
    | succ i => simp at ht
  · cases i with
    | zero =>
      simp at ht
      subst ht
      exact hL
    | succ i => simp at ht

/-- The reader, the result's block, and a node in block nA. -/
structure Ri (w : World) (b : Nat) (l : List UInt8) (nA : Nat) (t : T) (a : Option Addr) (c : Nat) (s : PS) (W : World) : Prop where
  rs : Rs w b l 27 nzeros s W
  own : At W nA 27 (ncells t a c)
  lie : Lie W (fun k => w.heap.size < k) a t.subs
  low : w.heap.size < nA ∧ t.subs.length ≤ c
theorem Ri.step {w : World} {b : Nat} {l : List UInt8} {nA : Nat} {t : T} {a : Option Addr} {c : Nat} {s s' : PS} {W W' : World} (I : Ri w b l nA t a c s W) (h : Rd W' b l s') (q : Keep (fun i => i = b) W W') : Ri w b l nA t a c s' W' :=
  ⟨I.rs.step h q, I.own.keep q (by have := I.low; have := I.rs.low; omega), I.lie.keep q (fun k hk e => by have := I.rs.low; omega), I.low⟩
theorem Ri.quiet {w : World} {b : Nat} {l : List UInt8} {nA : Nat} {t : T} {a : Option Addr} {c : Nat} {s : PS} {W W' : World} (I : Ri w b l nA t a c s W) (q : Keep (fun _ => False) W W') : Ri w b l nA t a c s W' :=
  I.step (I.rs.rd.keep q (fun h => h)) (upk b q)

set_option maxRecDepth 100000 in
set_option maxHeartbeats 8000000 in
theorem ritem_any (F b o : Nat) (l : List UInt8) (A : List UInt8 → PS → T × PS) (hl : l.length ≤ 100000000) (hT : Tame A) (hI : NodeR 117 b l o (atomP F A)) : NodeR 116 b l o (itemP F A) := by
  intro s w hb hp hop h
  have W0 := Lib.hid (Rs.start h 27 nzeros)
  have hat := fun W h => hI s W hb hp hop h
  have hr : itemP F A l s = sgB (atomP F A l s).1 (nxt l (atomP F A l s).2) l (atomP F A l s).2 := rfl
  have hbd : ∀ x, (atomP F A l s).2.bad = some x → (itemP F A l s).2.bad = some x := fun x h => by
    rw [hr]
    exact (sg_tame (atomP F A l s).1).bad l _ x h
  have hp1 := fun h => (atom_tame F hT).pos_le (l := l) (s := s) hb hp h
  obtain ⟨⟨tR, sR⟩, hrr⟩ : ∃ r, itemP F A l s = r := ⟨_, rfl⟩
  rw [hrr] at hr hbd ⊢
  obtain ⟨⟨t, s1⟩, hq⟩ : ∃ q, atomP F A l s = q := ⟨_, rfl⟩
  rw [hq] at hat hr hbd hp1
  dsimp only at hr hbd hp1
  have HC := Lib.hid (And.intro hat (And.intro hr (And.intro hbd hp1)))
  clear h hat hr hbd hp1 hrr hq hb hp hI
  go_enter Try.func116, Try.ntmps116
  go_upto_region 1 with fail
  generalize (w.alloc (.cells nzeros 27)) = V at *
  go_wp2_with fail
  refine (HC.out.1 V W0.out.rd).mono ?_
  intro e w1 hO
  rcases hO.split with ⟨hb1, v, rfl, ⟨a', c', hv, hle, hLie⟩, h1, q1⟩ | ⟨x, hb1, rfl, q1⟩
  · dsimp only at hv hb1 hle hLie
    subst hv
    have hpos := HC.out.2.2.2 hb1
    have hlow := W0.out.out.lt
    have I1 := Lib.hid (show Ri w b l w1.heap.size t a' c' s1 (w1.alloc (.cells (ncells t a' c') 27)) from by
      have J := W0.out.step h1 q1
      have qa := (Keep.refl (fun _ => False) w1).alloc (.cells (ncells t a' c') 27)
      exact ⟨J.quiet qa, At.new w1 _ _, (hLie.keepF qa).mono (fun k hk => by omega), J.out.lt, hle⟩)
    have HB := Lib.hid hb1
    clear hLie hle h1 q1 hO hlow hb1
    go_upto_region 2 with fail
    generalize (w1.alloc (.cells (ncells t a' c') 27)) = W1 at *
    generalize w1.heap.size = nA at *
    go_wp2_with fail
    refine (rtimes_any b l s1 t HB.out hl W1 I1.out.rs.rd).mono ?_
    intro e w2 hO
    rw [← HC.out.2.1] at hO
    rcases hO.split with ⟨hb2, v, rfl, hv, h2, q2⟩ | ⟨x, hb2, rfl, q2⟩
    · have I2 := Lib.hid (And.intro (I1.out.step h2 q2) hb2)
      clear h2 q2 hb2 hO
      obtain ⟨⟨x0, x1, x2, x3, x4, x5, x6, x7⟩, -⟩ := cells8 I2.out.1.own
      rcases hv with ⟨rfl, ht⟩ | ⟨mn, mx, rfl, ht⟩
      · dsimp only at ht
        subst ht
        obtain ⟨⟨k0, k1, k2, k3, k4, k5, k6, k7⟩, f0, f1, f2, f3, f4, f5, f6, f7⟩ := cells8 I2.out.1.rs.out
        have hlt0 := I2.out.1.rs.out.lt
        go_wp2_with fail
        change bodyPost _ _ _ _ _ (putN w2 w.heap.size tR a' c')
        obtain ⟨a, p, q, n⟩ := I2.out.1.rs.put tR a' c' I2.out.1.low.2 I2.out.1.lie
        generalize (putN w2 w.heap.size tR a' c') = W9 at a p q n ⊢
        obtain ⟨⟨e0, e1, e2, e3, e4, e5, e6, e7⟩, -⟩ := cells8 a
        refine bodyPost_ret (v := nodeV tR a' c') (by simp [results, Try.results116, go_sem, e0, e1, e2, e3, e4, e5, e6, e7]) rfl ?_
        exact Outs.ok I2.out.2 n p q
      · dsimp only at ht
        have HT := Lib.hid ht
        clear ht
        obtain ⟨⟨k0, k1, k2, k3, k4, k5, k6, k7⟩, f0, f1, f2, f3, f4, f5, f6, f7⟩ := cells8 I2.out.1.rs.out
        have hlt0 := I2.out.1.rs.out.lt
        go_wp2_with fail
        change bodyPost _ _ _ _ _ ((put8 w2 w.heap.size (.int .i64 5) (.int .u64 0) (.int .u64 0) (.int .u64 0) (.int .u64 0) (.int .i64 mn) (.int .i64 mx) (.slice (some ⟨w2.heap.size, 0, none⟩) 1 1)).alloc (.cells (ncells t a' c') 27))
        have hsz : (put8 w2 w.heap.size (.int .i64 5) (.int .u64 0) (.int .u64 0) (.int .u64 0) (.int .u64 0) (.int .i64 mn) (.int .i64 mx) (.slice (some ⟨w2.heap.size, 0, none⟩) 1 1)).heap.size = w2.heap.size := by unfold put8; simp [World.setCell]
        have J := I2.out.1
        have a := (set8 J.rs.out (.int .i64 5) (.int .u64 0) (.int .u64 0) (.int .u64 0) (.int .u64 0) (.int .i64 mn) (.int .i64 mx) (.slice (some ⟨w2.heap.size, 0, none⟩) 1 1)).alloc (.cells (ncells t a' c') 27)
        have p := (other8 (show At _ b _ _ from J.rs.rd) J.rs.ne (.int .i64 5) (.int .u64 0) (.int .u64 0) (.int .u64 0) (.int .u64 0) (.int .i64 mn) (.int .i64 mx) (.slice (some ⟨w2.heap.size, 0, none⟩) 1 1)).alloc (.cells (ncells t a' c') 27)
        have q := (keep8 J.rs.keep (b := w.heap.size) (fun h => absurd h (Nat.lt_irrefl _)) (.int .i64 5) (.int .u64 0) (.int .u64 0) (.int .u64 0) (.int .u64 0) (.int .i64 mn) (.int .i64 mx) (.slice (some ⟨w2.heap.size, 0, none⟩) 1 1)).alloc (.cells (ncells t a' c') 27)
        have qo := (keep8 (Keep.refl (fun i => i = w.heap.size) w2) (b := w.heap.size) (fun _ => rfl) (.int .i64 5) (.int .u64 0) (.int .u64 0) (.int .u64 0) (.int .u64 0) (.int .i64 mn) (.int .i64 mx) (.slice (some ⟨w2.heap.size, 0, none⟩) 1 1)).alloc (.cells (ncells t a' c') 27)
        have row := At.new (put8 w2 w.heap.size (.int .i64 5) (.int .u64 0) (.int .u64 0) (.int .u64 0) (.int .u64 0) (.int .i64 mn) (.int .i64 mx) (.slice (some ⟨w2.heap.size, 0, none⟩) 1 1)) (ncells t a' c') 27
        rw [hsz] at row
        have n : NodeV ((put8 w2 w.heap.size (.int .i64 5) (.int .u64 0) (.int .u64 0) (.int .u64 0) (.int .u64 0) (.int .i64 mn) (.int .i64 mx) (.slice (some ⟨w2.heap.size, 0, none⟩) 1 1)).alloc (.cells (ncells t a' c') 27)) (fun k => w.heap.size ≤ k) (.agg #[(.int .i64 5), (.int .u64 0), (.int .u64 0), (.int .u64 0), (.int .u64 0), (.int .i64 mn), (.int .i64 mx), (.slice (some ⟨w2.heap.size, 0, none⟩) 1 1)]) (repT t mn mx) :=
          ⟨some ⟨w2.heap.size, 0, none⟩, 1, by unfold nodeV ncells repT T.kind T.set T.mn T.mx T.subs; simp only [zs_zero]; rfl, Nat.le_refl 1, lie_one row (Nat.le_of_lt hlt0) J.low.2 ((J.lie.keep qo (fun k hk e => by omega)).mono (fun k hk => Nat.le_of_lt hk))⟩
        clear hsz row qo
        generalize ((put8 w2 w.heap.size (.int .i64 5) (.int .u64 0) (.int .u64 0) (.int .u64 0) (.int .u64 0) (.int .i64 mn) (.int .i64 mx) (.slice (some ⟨w2.heap.size, 0, none⟩) 1 1)).alloc (.cells (ncells t a' c') 27)) = W9 at a p q n ⊢
        obtain ⟨⟨e0, e1, e2, e3, e4, e5, e6, e7⟩, -⟩ := cells8 a
        refine bodyPost_ret (v := .agg #[(.int .i64 5), (.int .u64 0), (.int .u64 0), (.int .u64 0), (.int .u64 0), (.int .i64 mn), (.int .i64 mx), (.slice (some ⟨w2.heap.size, 0, none⟩) 1 1)]) (by simp [results, Try.results116, go_sem, e0, e1, e2, e3, e4, e5, e6, e7]) rfl ?_
        exact Outs.ok I2.out.2 (by rw [HT.out]; exact n) p q
    · have HR := Lib.hid (And.intro hb2 (I1.out.rs.keep.trans q2))
      clear hb2 q2 hO
      go_wp2_with fail
      exact ⟨rfl, Outs.gave (x := x) HR.out.1 HR.out.2⟩
  · have HR := Lib.hid (And.intro hb1 (W0.out.keep.trans q1))
    clear hb1 q1 hO
    go_wp2_with fail
    exact ⟨rfl, Outs.gave (x := x) (HC.out.2.2.1 _ HR.out.1) HR.out.2⟩
end Go.Proofs.Ythcjfgfbeollpaa.P07
