/- The document's parser (layer 7): class. -/
import Derived.Test.YtgjmomiobffmdaaClass07
import Derived.Test.YtgjmomiobffmdaaEight07
namespace Go.Proofs.Ytgjmomiobffmdaa.P07
open Go.RowKit Go.Proofs.Ytgjmomiobffmdaa.Base Go.Proofs.Ytgjmomiobffmdaa.IL Go.Proofs.Ytgjmomiobffmdaa.Bytes
open Go.Proofs.Ytgjmomiobffmdaa.Sets (ST)

/-- What the round keeps: the parser, the result's block, the list. -/
def Five (w : World) (b : Nat) (l : List UInt8) (u : Value) (L : List Int) (wr : World) (s : PS) : Prop :=
  Pr wr b l s ∧ At wr w.heap.size 28 nzeros ∧ Keep (fun i => i = b) w wr ∧ IL wr u L ∧ ∀ g, u.ownBlock = some g → w.heap.size < g
theorem Five.step {w : World} {b : Nat} {l : List UInt8} {u : Value} {L : List Int} {wr : World} {s : PS} (P : Five w b l u L wr s) (hb : b < w.heap.size) {w' : World} {s' : PS} (h : Pr w' b l s') (q : Keep (fun i => i = b) wr w') : Five w b l u L w' s' :=
  ⟨h, P.2.1.keep q (by omega), P.2.2.1.trans q, P.2.2.2.1.keep q (fun g hg e => by have := P.2.2.2.2 g hg; omega), P.2.2.2.2⟩
theorem Five.quiet {w : World} {b : Nat} {l : List UInt8} {u : Value} {L : List Int} {wr : World} {s : PS} (P : Five w b l u L wr s) {w' : World} (q : Keep (fun _ => False) wr w') : Five w b l u L w' s :=
  ⟨P.1.keep q (fun h => h), P.2.1.keep q (fun h => h), P.2.2.1.trans (upk b q), P.2.2.2.1.keep q (fun _ _ h => h), P.2.2.2.2⟩
theorem Five.on {w : World} {b : Nat} {l : List UInt8} {u : Value} {L : List Int} {wr : World} {s : PS} (P : Five w b l u L wr s) (hb : b < w.heap.size) : Five w b l u L (wr.setCell ⟨b, 1, none⟩ (.int .i64 ((s.pos : Int) + 1))) s.adv :=
  P.step hb (At.set P.1 1 (.int .i64 ((s.pos : Int) + 1))) ((Keep.refl (fun i => i = b) wr).setCell (p := ⟨b, 1, none⟩) (fun _ => rfl) _)

/-- What is known of a round's range. -/
structure InGood (l : List UInt8) (RA : List Nat) (RS : PS) (f : Nat) (acc : List Nat) (lo hi : Int) (s : PS) : Prop where
  eq : setP f (acc ++ upto lo hi) l s = (RA, RS)
  lt : ∀ x ∈ acc, x < 256
  pos : s.bad = none → s.pos ≤ l.length ∧ acc.length + 256 ≤ 256 * s.pos ∧ l.length + 2 ≤ s.pos + f
  near : s.pos ≤ l.length ∧ acc.length + 256 ≤ 256 * (l.length + 1)
  lo : 0 ≤ lo ∧ lo ≤ 255
  hi : 0 ≤ hi ∧ hi ≤ 255

set_option maxRecDepth 100000 in
set_option maxHeartbeats 8000000 in
theorem class_any (F b : Nat) (l : List UInt8) (s : PS) (hF : l.length + 2 ≤ F) (hl : l.length ≤ 3000) (hp : s.bad = none → s.pos ≤ l.length) (hp2 : s.pos ≤ l.length + 20) (w : World) (hb : b < w.heap.size) (h : Pr w b l s) :
    Calls Try.prog 42 #[.pointer (some ⟨b, 0, none⟩)] w fun e w' => e = .returned (nodeV (clsP F l s).1 none 0) ∧ Pr w' b l (clsP F l s).2 ∧ Keep (fun i => i = b) w w' := by
  have HB := Lib.hid hb
  obtain ⟨c, hc⟩ : ∃ c, nxt l s = c := ⟨_, rfl⟩
  obtain ⟨nt, st, hst, hnt⟩ : ∃ (nt : Bool) (st : PS), clsP F l s = clsQ F nt l st ∧ ((nt = true ∧ c = 94 ∧ st = s.adv ∧ st.bad = none ∧ st.pos = s.pos + 1 ∧ st.pos ≤ l.length) ∨ (nt = false ∧ c ≠ 94 ∧ st = s)) := by
    by_cases h94 : c = 94
    · have h0 := nxt_lt (l := l) (s := s) (by rw [hc]; omega)
      exact ⟨true, s.adv, by unfold clsP clsB; rw [hc, if_pos h94], .inl ⟨rfl, h94, rfl, h0.1, rfl, h0.2⟩⟩
    · exact ⟨false, s, by unfold clsP clsB; rw [hc, if_neg h94], .inr ⟨rfl, h94, rfl⟩⟩
  rw [hst]
  have hpb : st.bad = none → st.pos ≤ l.length := fun hbn => by
    rcases hnt with ⟨_, _, _, _, _, h6⟩ | ⟨_, _, h6⟩
    · exact h6
    · rw [h6] at hbn ⊢
      exact hp hbn
  have hpb2 : st.pos ≤ l.length + 20 := by
    rcases hnt with ⟨_, _, _, _, _, h6⟩ | ⟨_, _, h6⟩
    · omega
    · rw [h6]; exact hp2
  have e94 : (c == 94) = nt := by
    rcases hnt with ⟨h1, h2, _⟩ | ⟨h1, h2, _⟩
    · rw [h1, h2]; rfl
    · rw [h1]; simpa using h2
  have hw : IntKind.i64.wrap ((s.pos : Int) + 1) = (s.pos : Int) + 1 := by rw [IntKind.wrap_i64]; omega
  have W0 := Lib.hid (And.intro (h.keep ((Keep.refl (fun _ => False) w).alloc (.cells nzeros 28)) (fun h => h)) (And.intro (At.new w nzeros 28) ((Keep.refl (fun i => i = b) w).alloc (.cells nzeros 28))))
  obtain ⟨⟨RA, RS⟩, hR⟩ : ∃ R, setP F [] l st = R := ⟨_, rfl⟩
  have hq : clsQ F nt l st = (clsT (if nt then notS (mkS RA) else mkS RA), (must 93 l RS).2) := by unfold clsQ; rw [hR]
  obtain ⟨s5, hs5⟩ : ∃ s5, mkS RA = s5 := ⟨_, rfl⟩
  have hok5 : s5.Ok := by rw [← hs5]; exact mk_ok _ RA rfl
  rw [hs5] at hq
  obtain ⟨s6, hs6⟩ : ∃ s6, (if nt then notS s5 else s5) = s6 := ⟨_, rfl⟩
  rw [hs6] at hq
  rw [hq]
  have HS5 := Lib.hid (And.intro hs5 hok5)
  have HS6 := Lib.hid hs6
  have hn := fun W hp => next_is (b := b) hc W hp
  have HR := Lib.hid (And.intro hR (And.intro hn (And.intro hnt (And.intro hpb hpb2))))
  clear h hb hst hq hR hn hc hnt hpb hpb2 hp hp2 hs5 hok5 hs6
  go_enter Try.func42, Try.ntmps42
  go_wp2_with fail
  generalize (w.alloc (.cells nzeros 28)) = V at *
  refine (HR.out.2.1 V W0.out.1).mono ?_
  rintro e w1 ⟨rfl, q1⟩
  have P1 := Lib.hid (And.intro (W0.out.1.keep q1 (fun h => h)) (And.intro (W0.out.2.1.keep q1 (fun h => h)) (W0.out.2.2.trans (upk b q1))))
  clear q1
  go_upto_if 13 with fail
  go_cut [] from 13 to 20 (fun wx => Pr wx b l st ∧ At wx w.heap.size 28 nzeros ∧ Keep (fun i => i = b) w wx)
  case first =>
    have d1 : w1.cell? ⟨b, 1, none⟩ = some (.int .i64 s.pos) := At.cell P1.out.1 (o := 1) rfl
    have f1 := At.frozen P1.out.1 1
    cases nt
    · go_wp2_with fail
      go_meet
      case rel =>
        rcases HR.out.2.2.1 with ⟨h1, _⟩ | ⟨_, _, h6⟩
        · cases h1
        · rw [h6]
          exact ⟨P1.out.1, P1.out.2.1, P1.out.2.2⟩
    · go_wp2_with fail
      go_meet
      case rel =>
        rcases HR.out.2.2.1 with ⟨_, _, h6, _⟩ | ⟨h1, _⟩
        · rw [h6]
          have h2 := At.set P1.out.1 1 (.int .i64 ((s.pos : Int) + 1))
          have hne : w.heap.size ≠ b := by have := HB.out; omega
          exact ⟨h2, P1.out.2.1.setOther (p := ⟨b, 1, none⟩) (by simpa using hne) _, P1.out.2.2.setCell (p := ⟨b, 1, none⟩) (fun _ => rfl) _⟩
        · cases h1
  case rest =>
    obtain ⟨h2, a2, k2⟩ := hcut
    have P2 := Lib.hid (And.intro h2 (And.intro a2 k2))
    clear h2 a2 k2
    go_wp2_with fail
    go_loopg [4, 5, 6, 7] F (fun gg u _ _ _ wr => ∃ (acc : List Nat) (s' : PS), InCls w b l (RA, RS) gg u acc s' wr)
    case atStart =>
      exact ⟨[], st, ⟨IL.nil _, fun g hg => (by cases hg), P2.out.1, P2.out.2.1, P2.out.2.2, HR.out.1, by simp, fun hbn => ⟨HR.out.2.2.2.1 hbn, by simp, by omega⟩, by have := HR.out.2.2.2.2; omega, by simp⟩⟩
    case round =>
      obtain ⟨acc, s', I⟩ := hrel
      by_cases hgo : s'.bad = none ∧ nxt l s' ≠ 93
      · obtain ⟨hbad, h93⟩ := hgo
        have hIP := I.pos hbad
        have hpos2 := I.pos2
        have hlen2 := I.len
        obtain ⟨f, rfl⟩ : ∃ f, gk = f + 1 := ⟨gk - 1, by omega⟩
        have hE0 := I.eq
        rw [setP, if_pos hbad, if_neg h93] at hE0
        obtain ⟨cn, hcn⟩ : ∃ c, nxt l s' = c := ⟨_, rfl⟩
        rw [hcn] at h93
        obtain ⟨⟨lo, s2⟩, h1⟩ : ∃ r, one l s' = r := ⟨_, rfl⟩
        obtain ⟨c2, hc2⟩ : ∃ c, nxt l s2 = c := ⟨_, rfl⟩
        obtain ⟨⟨hi, s4⟩, h4⟩ : ∃ r, one l s2.adv = r := ⟨_, rfl⟩
        obtain ⟨hi', s3, hr, hcase⟩ : ∃ hi' s3, range1 l s' = (upto lo hi', s3) ∧ ((c2 = 45 ∧ hi' = hi ∧ s3 = if s4.bad = none ∧ hi < lo then s4.fail s2.adv.pos else s4) ∨ (c2 ≠ 45 ∧ hi' = lo ∧ s3 = s2)) := by
          unfold range1 dashB
          rw [h1]
          dsimp only
          rw [hc2]
          by_cases h45 : c2 = 45
          · exact ⟨hi, _, by rw [if_pos h45]; unfold hiP; rw [h4], .inl ⟨h45, rfl, rfl⟩⟩
          · exact ⟨lo, s2, by rw [if_neg h45], .inr ⟨h45, rfl, rfl⟩⟩
        have hlo := one_range l s'
        rw [h1] at hlo
        dsimp only at hlo
        have hhi := one_range l s2.adv
        rw [h4] at hhi
        dsimp only at hhi
        have hnear := range_near.good l s' hbad hIP.1
        have hmv : (range1 l s').2.bad = none → s'.pos < (range1 l s').2.pos := fun hb3 => by
          have hd := dash_tame lo
          cases hb2 : s2.bad with
          | some x =>
            have := hd.bad l s2 x hb2
            try dsimp only at this
            unfold range1 at hb3
            rw [h1] at hb3
            dsimp only at hb3
            rw [this] at hb3
            cases hb3
          | none =>
            have h5 := one_sharp.moves l s'
            rw [h1] at h5
            have h6 := hd.past l s2 s'.pos hb2 (h5 hb2)
            try dsimp only at h6
            unfold range1 at hb3 ⊢
            rw [h1] at hb3 ⊢
            dsimp only at hb3 ⊢
            rcases h6 with h6 | ⟨x, _, h6⟩
            · exact h6.2
            · rw [h6] at hb3
              cases hb3
        rw [hr] at hnear hmv hE0
        dsimp only at hnear hmv hE0
        have hp2 : s2.pos ≤ l.length := by
          have h5 := one_near.good l s' hbad hIP.1
          rw [h1] at h5
          dsimp only at h5
          omega
        have h03 : s3.pos ≤ l.length := by omega
        have P0 := Lib.hid (show Five w b l u4 (ints acc) wr s' from ⟨I.pr, I.at', I.keep, I.il, I.own⟩)
        have c2' : wr.cell? ⟨b, 2, none⟩ = some (.int .i64 (-1)) := by
          have := At.cell I.pr (o := 2) (v := .int .i64 (badI s'.bad)) rfl
          rw [hbad] at this
          exact this
        have hx0 : (-1 : Int) < 0 := by omega
        have HO := Lib.hid (show ∀ W, Pr W b l s' → Calls Try.prog 43 #[.pointer (some ⟨b, 0, none⟩)] W fun e w' => e = .returned (.int .i64 lo) ∧ Pr w' b l s2 ∧ Keep (fun i => i = b) W w' from fun W hW => by
          have := one_any b l s' (by omega) W hW
          rw [h1] at this
          exact this)
        have HO4 := Lib.hid (show ∀ W, Pr W b l s2.adv → Calls Try.prog 43 #[.pointer (some ⟨b, 0, none⟩)] W fun e w' => e = .returned (.int .i64 hi) ∧ Pr w' b l s4 ∧ Keep (fun i => i = b) W w' from fun W hW => by
          have := one_any b l s2.adv (show s2.pos + 1 ≤ _ by omega) W hW
          rw [h4] at this
          exact this)
        have HC := Lib.hid (And.intro hcn hc2)
        have hw2 : IntKind.i64.wrap ((s2.pos : Int) + 1) = (s2.pos : Int) + 1 := by rw [IntKind.wrap_i64]; omega
        have hhi' : 0 ≤ hi' ∧ hi' ≤ 255 := by
          rcases hcase with ⟨_, h, _⟩ | ⟨_, h, _⟩ <;> rw [h]
          · exact hhi
          · exact hlo
        have hgood : InGood l RA RS f acc lo hi' s3 := ⟨hE0, I.lt, fun h => by have := hmv h; omega, by omega, hlo, hhi'⟩
        have HI := Lib.hid hgood
        have HK := Lib.hid hcase
        clear I hbad hIP hpos2 hlen2 hE0 h1 h4 hr hnear hmv h03 hcn hc2 hgood hcase hhi hlo hhi'
        go_wp2_with fail
        refine (next_is HC.out.1 wr P0.out.1).mono ?_
        rintro e v2 ⟨rfl, q2⟩
        have P1 := Lib.hid (P0.out.quiet q2)
        clear q2
        go_wp2_with fail
        refine (HO.out _ P1.out.1).mono ?_
        rintro e v3 ⟨rfl, r3, q3⟩
        have P2 := Lib.hid (P1.out.step HB.out r3 q3)
        clear r3 q3
        go_wp2_with fail
        refine (next_is HC.out.2 v3 P2.out.1).mono ?_
        rintro e v4 ⟨rfl, q4⟩
        have P3 := Lib.hid (P2.out.quiet q4)
        clear q4
        go_upto_if 36 with fail
        go_cut [6, 7] (fun x6 _ wx => x6 = .int .i64 hi' ∧ Five w b l u4 (ints acc) wx s3)
        case first =>
          have d1 : v4.cell? ⟨b, 1, none⟩ = some (.int .i64 s2.pos) := At.cell P3.out.1 (o := 1) rfl
          have f1 := At.frozen P3.out.1 1
          by_cases h45 : c2 = 45
          · rcases HK.out with ⟨_, h6, h7⟩ | ⟨h6, _, _⟩
            · have HQ := Lib.hid (And.intro h6 h7)
              clear h6 h7
              go_wp2_with fail
              have PX := Lib.hid (P3.out.on HB.out)
              clear d1 f1
              generalize (v4.setCell ⟨b, 1, none⟩ (.int .i64 ((s2.pos : Int) + 1))) = V4 at *
              refine (HO4.out _ PX.out.1).mono ?_
              rintro e v5 ⟨rfl, r5, q5⟩
              have P5 := Lib.hid (PX.out.step HB.out r5 q5)
              clear r5 q5
              have c5 : v5.cell? ⟨b, 2, none⟩ = some (.int .i64 (badI s4.bad)) := At.cell P5.out.1 (o := 2) rfl
              cases hb4 : s4.bad with
              | some x =>
                rw [hb4] at c5
                have c5' : v5.cell? ⟨b, 2, none⟩ = some (.int .i64 (x : Int)) := c5
                have hx1 : ¬ (x : Int) < 0 := by omega
                have HS3 := Lib.hid (show s3 = s4 from by rw [HQ.out.2, if_neg (fun h => by rw [hb4] at h; cases h.1)])
                clear c5 hb4
                go_wp2_with fail
                go_meet
                case rel => exact ⟨by rw [HQ.out.1], by rw [HS3.out]; exact P5.out⟩
              | none =>
                rw [hb4] at c5
                have c5' : v5.cell? ⟨b, 2, none⟩ = some (.int .i64 (-1)) := c5
                by_cases hlt : hi < lo
                · have HS3 := Lib.hid (show s3 = s4.fail (s2.pos + 1) from by rw [HQ.out.2, if_pos ⟨hb4, hlt⟩]; rfl)
                  clear c5 hb4
                  go_wp2_with fail
                  refine (fail_any b l s4 (s2.pos + 1) v5 P5.out.1).mono ?_
                  rintro e v6 ⟨rfl, r6, q6⟩
                  have P6 := Lib.hid (P5.out.step HB.out r6 q6)
                  clear r6 q6
                  go_wp2_with fail
                  go_meet
                  case rel => exact ⟨by rw [HQ.out.1], by rw [HS3.out]; exact P6.out⟩
                · have HS3 := Lib.hid (show s3 = s4 from by rw [HQ.out.2, if_neg (fun h => hlt h.2)])
                  clear c5 hb4
                  go_wp2_with fail
                  go_meet
                  case rel => exact ⟨by rw [HQ.out.1], by rw [HS3.out]; exact P5.out⟩
            · exact absurd h45 h6
          · rcases HK.out with ⟨h6, _, _⟩ | ⟨_, h6, h7⟩
            · exact absurd h6 h45
            · have HQ := Lib.hid (And.intro h6 h7)
              clear h6 h7
              go_wp2_with fail
              go_meet
              case rel => exact ⟨by rw [HQ.out.1], by rw [HQ.out.2]; exact P3.out⟩
        case rest =>
          obtain ⟨rfl, r6⟩ := hcut
          have P6 := Lib.hid r6
          clear r6
          have hlo := HI.out.lo
          have hhi := HI.out.hi
          have hul := upto_len lo hi'
          have hult := upto_lt (lo := lo) (hi := hi') (by omega) (by omega)
          obtain ⟨n, hn⟩ : ∃ n, (hi' + 1 - lo).toNat = n := ⟨_, rfl⟩
          rw [hn] at hul
          have hn2 : n ≤ 256 := by omega
          have hn3 : ∀ j : Nat, j < n → lo + (j : Int) ≤ hi' := fun j hj => by omega
          have hn4 : ∀ j : Nat, j = n → ¬ lo + (j : Int) ≤ hi' := fun j hj => by omega
          have hlacc : acc.length ≤ 800000 := by have := HI.out.near.2; omega
          have HN := Lib.hid (And.intro hul (And.intro hult (And.intro hn (And.intro hn3 hn4))))
          clear hul hult hn hn3 hn4 hhi
          go_wp2_with fail
          go_loopg [4, 8] n (fun gg u i wr => ∃ j : Nat, i = .int .i64 (lo + j) ∧ j + gg = n ∧ Five w b l u (ints (acc ++ (upto lo hi').take j)) wr s3)
          case atStart => exact ⟨0, by simp, by omega, by rw [List.take_zero, List.append_nil]; exact P6.out⟩
          case round =>
            obtain ⟨j, rfl, hj, hF5⟩ := hrel
            by_cases hjn : j < n
            · have hle : lo + (j : Int) ≤ hi' := HN.out.2.2.2.1 j hjn
              have htk := upto_take (lo := lo) (hi := hi') (j := j) (by have := HN.out.2.2.1; omega)
              have hx : ((lo.toNat + j : Nat) : Int) = lo + j := by omega
              have hlen2 : (ints (acc ++ (upto lo hi').take j)).length < 2097152 := by
                unfold ints
                rw [List.length_map, List.length_append, List.length_take]
                omega
              obtain ⟨v', w9, hrun, g1, g2, g3⟩ := hF5.2.2.2.1.push (lo + j) hlen2 69
              rw [← hx, ← ints_snoc, List.append_assoc, ← htk] at g1
              have H9 := Lib.hid (show Five w b l v' (ints (acc ++ (upto lo hi').take (j + 1))) w9 s3 from by
                obtain ⟨hpr, hat, hq, hil, hown⟩ := hF5
                have hbsz := hat.lt
                exact ⟨hpr.keep g2 (fun h => by have := hown b h; have := HB.out; omega), hat.keep g2 (fun h => by have := hown _ h; omega), hq.next g2 (fun i hi hl => by have := hown i hi; omega), g1, fun g hg => by
                  rcases g3 g hg with h | h
                  · exact hown g h
                  · omega⟩)
              clear hF5 g1 g2 g3 htk hx hlen2
              go_wp2_with (at_builtin; refine Lib.wpList_append_run _ rfl _ _ _ _ rfl _ _ rfl rfl _ _ hrun ?_)
              clear hrun
              go_wp2_with fail
              go_roundg (n - (j + 1))
              case measure => omega
              case rel => exact ⟨j + 1, by go_num, by omega, H9.out⟩
            · have hjn2 : j = n := by omega
              have hle : ¬ lo + (j : Int) ≤ hi' := by have := HN.out.2.2.2.2 j hjn2; omega
              have H9 := Lib.hid (show Five w b l u4 (ints (acc ++ upto lo hi')) wr s3 from by
                rw [List.take_of_length_le (by rw [HN.out.1]; omega)] at hF5
                exact hF5)
              clear hF5
              go_wp2_with fail
              go_roundg f
              case measure => omega
              case rel =>
                refine ⟨acc ++ upto lo hi', s3, ⟨H9.out.2.2.2.1, H9.out.2.2.2.2, H9.out.1, H9.out.2.1, H9.out.2.2.1, HI.out.eq, fun x hx => ?_, fun hb3 => ?_, ?_, ?_⟩⟩
                · rcases List.mem_append.1 hx with hx | hx
                  · exact HI.out.lt x hx
                  · exact HN.out.2.1 x hx
                · have := HI.out.pos hb3
                  rw [List.length_append, HN.out.1]
                  omega
                · have := HI.out.near.1
                  omega
                · have := HI.out.near.2
                  rw [List.length_append, HN.out.1]
                  omega
      · have hstop : RA = acc ∧ RS = s' := by
          have e := I.eq
          cases gk with
          | zero =>
            rw [setP] at e
            injection e with e1 e2
            exact ⟨e1.symm, e2.symm⟩
          | succ f =>
            rw [setP] at e
            by_cases hbad : s'.bad = none
            · rw [if_pos hbad, if_pos (by
                by_cases h93 : nxt l s' = 93
                · exact h93
                · exact absurd ⟨hbad, h93⟩ hgo)] at e
              injection e with e1 e2
              exact ⟨e1.symm, e2.symm⟩
            · rw [if_neg hbad] at e
              injection e with e1 e2
              exact ⟨e1.symm, e2.symm⟩
        obtain ⟨rfl, rfl⟩ := hstop
        have hpos := I.pos2
        have HX := Lib.hid (And.intro I.lt I.len)
        have P3 := Lib.hid (And.intro I.pr (And.intro I.at' (And.intro I.keep (And.intro I.il I.own))))
        have c2 : wr.cell? ⟨b, 2, none⟩ = some (.int .i64 (badI RS.bad)) := At.cell I.pr (o := 2) rfl
        have HG := Lib.hid hgo
        clear I hgo
        cases hbad : RS.bad with
        | some x =>
          rw [hbad] at c2
          have c2' : wr.cell? ⟨b, 2, none⟩ = some (.int .i64 (x : Int)) := c2
          have hx0 : ¬ (x : Int) < 0 := by omega
          clear c2 hbad
          go_wp2_with fail
          refine (must_any b l RS 93 (by omega) _ P3.out.1).mono ?_
          rintro e v1 ⟨rfl, h1, q1⟩
          have T1 := Lib.hid (And.intro h1 (And.intro (P3.out.2.1.keep q1 (by have := HB.out; omega)) (And.intro (P3.out.2.2.1.trans q1) (P3.out.2.2.2.1.keep q1 (fun g hg e => by have := P3.out.2.2.2.2 g hg; have := HB.out; omega)))))
          clear h1 q1
          have hset := set_is RA HX.out.1 (by have := HX.out.2; omega) _ v1 T1.out.2.2.2
          rw [HS5.out.1] at hset
          have HSet := Lib.hid hset
          clear hset
          go_wp2_with fail
          refine HSet.out.mono ?_
          rintro e v2 ⟨rfl, q2⟩
          have T2 := Lib.hid (And.intro (T1.out.1.keep q2 (fun h => h)) (And.intro (T1.out.2.1.keep q2 (fun h => h)) (T1.out.2.2.1.trans (upk b q2))))
          have hbn : b ≠ w.heap.size := by have := HB.out; omega
          have HBN := Lib.hid hbn
          clear q2 hbn
          have A5 := At.new v2 (cells s5) 25
          have T3 := Lib.hid (And.intro (Pr.keep T2.out.1 ((Keep.refl (fun _ => False) v2).alloc (.cells (cells s5) 25)) (fun h => h)) (And.intro (T2.out.2.1.alloc (.cells (cells s5) 25)) (And.intro (T2.out.2.2.alloc (.cells (cells s5) 25)) A5)))
          have hne := T2.out.2.1.lt
          have hn5 : w.heap.size ≠ v2.heap.size := by omega
          have HN5 := Lib.hid (And.intro hn5 (And.intro (show b ≠ v2.heap.size from by have := HB.out; omega) (show ¬ v2.heap.size < w.heap.size from by omega)))
          have hNot := fun W => rnot_any s5 HS5.out.2 W
          have HNot := Lib.hid hNot
          clear A5 hne hn5 hNot
          go_upto_if 77 with fail
          generalize (v2.alloc (.cells (cells s5) 25)) = V3 at *
          generalize v2.heap.size = n5 at *
          go_cut [] from 77 to 79 (fun wx => Pr wx b l (must 93 l RS).2 ∧ At wx w.heap.size 28 nzeros ∧ At wx n5 25 (cells s6) ∧ Keep (fun i => i = b) w wx)
          case first =>
            cases nt
            · have H56 := Lib.hid (show s5 = s6 from by simpa using HS6.out)
              go_wp2_with fail
              go_meet
              case rel => exact ⟨T3.out.1, T3.out.2.1, by rw [← H56.out]; exact T3.out.2.2.2, T3.out.2.2.1⟩
            · have h56 : s5.not = s6 := by simpa [notS] using HS6.out
              have H56 := Lib.hid h56
              clear h56
              have k5 := T3.out.2.2.2
              obtain ⟨⟨g0, g1, g2, g3⟩, i0, i1, i2, i3⟩ := cells4 k5
              have hlt1 := k5.lt
              clear k5
              go_wp2_with fail
              refine (HNot.out V3).mono ?_
              rintro e v4 ⟨rfl, q4⟩
              have T4 := Lib.hid (And.intro (T3.out.1.keep q4 (fun h => h)) (And.intro (T3.out.2.1.keep q4 (fun h => h)) (And.intro (T3.out.2.2.1.trans (upk b q4)) (T3.out.2.2.2.keep q4 (fun h => h)))))
              clear q4 g0 g1 g2 g3 i0 i1 i2 i3 hlt1
              obtain ⟨⟨g0, g1, g2, g3⟩, i0, i1, i2, i3⟩ := cells4 T4.out.2.2.2
              have hlt1 := T4.out.2.2.2.lt
              go_wp2_with fail
              go_meet
              case rel => exact ⟨(At.setOther (At.setOther (At.setOther (At.setOther (show At _ b _ _ from T4.out.1) (p := ⟨n5, 0, none⟩) HN5.out.2.1 (.int .u64 s5.not.x0)) (p := ⟨n5, 1, none⟩) HN5.out.2.1 (.int .u64 s5.not.x1)) (p := ⟨n5, 2, none⟩) HN5.out.2.1 (.int .u64 s5.not.x2)) (p := ⟨n5, 3, none⟩) HN5.out.2.1 (.int .u64 s5.not.x3)), (At.setOther (At.setOther (At.setOther (At.setOther T4.out.2.1 (p := ⟨n5, 0, none⟩) HN5.out.1 (.int .u64 s5.not.x0)) (p := ⟨n5, 1, none⟩) HN5.out.1 (.int .u64 s5.not.x1)) (p := ⟨n5, 2, none⟩) HN5.out.1 (.int .u64 s5.not.x2)) (p := ⟨n5, 3, none⟩) HN5.out.1 (.int .u64 s5.not.x3)), by rw [← H56.out]; exact set4 T4.out.2.2.2 _ _ _ _, (Keep.setCell (Keep.setCell (Keep.setCell (Keep.setCell T4.out.2.2.1 (p := ⟨n5, 0, none⟩) (fun h => absurd h HN5.out.2.2) (.int .u64 s5.not.x0)) (p := ⟨n5, 1, none⟩) (fun h => absurd h HN5.out.2.2) (.int .u64 s5.not.x1)) (p := ⟨n5, 2, none⟩) (fun h => absurd h HN5.out.2.2) (.int .u64 s5.not.x2)) (p := ⟨n5, 3, none⟩) (fun h => absurd h HN5.out.2.2) (.int .u64 s5.not.x3))⟩
          case rest =>
            obtain ⟨r1, r2, r3, r4⟩ := hcut
            have T6 := Lib.hid (And.intro r1 (And.intro r2 (And.intro r3 r4)))
            clear r1 r2 r3 r4
            obtain ⟨⟨g0, g1, g2, g3⟩, -⟩ := cells4 T6.out.2.2.1
            obtain ⟨⟨c0, c1, c2, c3, c4, c5, c6, c7⟩, f0, f1, f2, f3, f4, f5, f6, f7⟩ := cells8 T6.out.2.1
            have hlt0 := T6.out.2.1.lt
            have hlt1 := T6.out.2.2.1.lt
            go_wp2_with fail
            change bodyPost _ _ _ _ _ (put8 wc w.heap.size (.int .i64 2) (.int .u64 s6.x0) (.int .u64 s6.x1) (.int .u64 s6.x2) (.int .u64 s6.x3) (.int .i64 0) (.int .i64 0) (.slice none 0 0))
            have a := set8 T6.out.2.1 (.int .i64 2) (.int .u64 s6.x0) (.int .u64 s6.x1) (.int .u64 s6.x2) (.int .u64 s6.x3) (.int .i64 0) (.int .i64 0) (.slice none 0 0)
            have p := other8 (show At _ b _ _ from T6.out.1) HBN.out (.int .i64 2) (.int .u64 s6.x0) (.int .u64 s6.x1) (.int .u64 s6.x2) (.int .u64 s6.x3) (.int .i64 0) (.int .i64 0) (.slice none 0 0)
            have q := keep8 T6.out.2.2.2 (b := w.heap.size) (fun h => absurd h (Nat.lt_irrefl _)) (.int .i64 2) (.int .u64 s6.x0) (.int .u64 s6.x1) (.int .u64 s6.x2) (.int .u64 s6.x3) (.int .i64 0) (.int .i64 0) (.slice none 0 0)
            generalize (put8 wc w.heap.size (.int .i64 2) (.int .u64 s6.x0) (.int .u64 s6.x1) (.int .u64 s6.x2) (.int .u64 s6.x3) (.int .i64 0) (.int .i64 0) (.slice none 0 0)) = W9 at a p q ⊢
            obtain ⟨⟨e0, e1, e2, e3, e4, e5, e6, e7⟩, -⟩ := cells8 a
            exact bodyPost_ret (v := nodeV (clsT s6) none 0) (by simp [results, Try.results42, go_sem, e0, e1, e2, e3, e4, e5, e6, e7]; exact ⟨rfl, rfl, rfl, rfl, rfl, rfl, rfl, rfl⟩) rfl ⟨rfl, p, q⟩
        | none =>
          have h93 : nxt l RS = 93 := by
            by_cases h : nxt l RS = 93
            · exact h
            · exact absurd ⟨hbad, h⟩ HG.out
          rw [hbad] at c2
          have c2' : wr.cell? ⟨b, 2, none⟩ = some (.int .i64 (-1)) := c2
          have hx0 : (-1 : Int) < 0 := by omega
          have hnx := next_is h93 wr P3.out.1
          have HNX := Lib.hid hnx
          clear c2 hbad hnx h93
          go_wp2_with fail
          refine HNX.out.mono ?_
          rintro e w5 ⟨rfl, q5⟩
          have P4 := Lib.hid (And.intro (P3.out.1.keep q5 (fun h => h)) (And.intro (P3.out.2.1.keep q5 (fun h => h)) (And.intro (P3.out.2.2.1.trans (upk b q5)) (And.intro (P3.out.2.2.2.1.keep q5 (fun _ _ h => h)) P3.out.2.2.2.2))))
          clear q5
          go_wp2_with fail
          refine (must_any b l RS 93 (by omega) _ P4.out.1).mono ?_
          rintro e v1 ⟨rfl, h1, q1⟩
          have T1 := Lib.hid (And.intro h1 (And.intro (P4.out.2.1.keep q1 (by have := HB.out; omega)) (And.intro (P4.out.2.2.1.trans q1) (P4.out.2.2.2.1.keep q1 (fun g hg e => by have := P4.out.2.2.2.2 g hg; have := HB.out; omega)))))
          clear h1 q1
          have hset := set_is RA HX.out.1 (by have := HX.out.2; omega) _ v1 T1.out.2.2.2
          rw [HS5.out.1] at hset
          have HSet := Lib.hid hset
          clear hset
          go_wp2_with fail
          refine HSet.out.mono ?_
          rintro e v2 ⟨rfl, q2⟩
          have T2 := Lib.hid (And.intro (T1.out.1.keep q2 (fun h => h)) (And.intro (T1.out.2.1.keep q2 (fun h => h)) (T1.out.2.2.1.trans (upk b q2))))
          have hbn : b ≠ w.heap.size := by have := HB.out; omega
          have HBN := Lib.hid hbn
          clear q2 hbn
          have A5 := At.new v2 (cells s5) 25
          have T3 := Lib.hid (And.intro (Pr.keep T2.out.1 ((Keep.refl (fun _ => False) v2).alloc (.cells (cells s5) 25)) (fun h => h)) (And.intro (T2.out.2.1.alloc (.cells (cells s5) 25)) (And.intro (T2.out.2.2.alloc (.cells (cells s5) 25)) A5)))
          have hne := T2.out.2.1.lt
          have hn5 : w.heap.size ≠ v2.heap.size := by omega
          have HN5 := Lib.hid (And.intro hn5 (And.intro (show b ≠ v2.heap.size from by have := HB.out; omega) (show ¬ v2.heap.size < w.heap.size from by omega)))
          have hNot := fun W => rnot_any s5 HS5.out.2 W
          have HNot := Lib.hid hNot
          clear A5 hne hn5 hNot
          go_upto_if 77 with fail
          generalize (v2.alloc (.cells (cells s5) 25)) = V3 at *
          generalize v2.heap.size = n5 at *
          go_cut [] from 77 to 79 (fun wx => Pr wx b l (must 93 l RS).2 ∧ At wx w.heap.size 28 nzeros ∧ At wx n5 25 (cells s6) ∧ Keep (fun i => i = b) w wx)
          case first =>
            cases nt
            · have H56 := Lib.hid (show s5 = s6 from by simpa using HS6.out)
              go_wp2_with fail
              go_meet
              case rel => exact ⟨T3.out.1, T3.out.2.1, by rw [← H56.out]; exact T3.out.2.2.2, T3.out.2.2.1⟩
            · have h56 : s5.not = s6 := by simpa [notS] using HS6.out
              have H56 := Lib.hid h56
              clear h56
              have k5 := T3.out.2.2.2
              obtain ⟨⟨g0, g1, g2, g3⟩, i0, i1, i2, i3⟩ := cells4 k5
              have hlt1 := k5.lt
              clear k5
              go_wp2_with fail
              refine (HNot.out V3).mono ?_
              rintro e v4 ⟨rfl, q4⟩
              have T4 := Lib.hid (And.intro (T3.out.1.keep q4 (fun h => h)) (And.intro (T3.out.2.1.keep q4 (fun h => h)) (And.intro (T3.out.2.2.1.trans (upk b q4)) (T3.out.2.2.2.keep q4 (fun h => h)))))
              clear q4 g0 g1 g2 g3 i0 i1 i2 i3 hlt1
              obtain ⟨⟨g0, g1, g2, g3⟩, i0, i1, i2, i3⟩ := cells4 T4.out.2.2.2
              have hlt1 := T4.out.2.2.2.lt
              go_wp2_with fail
              go_meet
              case rel => exact ⟨(At.setOther (At.setOther (At.setOther (At.setOther (show At _ b _ _ from T4.out.1) (p := ⟨n5, 0, none⟩) HN5.out.2.1 (.int .u64 s5.not.x0)) (p := ⟨n5, 1, none⟩) HN5.out.2.1 (.int .u64 s5.not.x1)) (p := ⟨n5, 2, none⟩) HN5.out.2.1 (.int .u64 s5.not.x2)) (p := ⟨n5, 3, none⟩) HN5.out.2.1 (.int .u64 s5.not.x3)), (At.setOther (At.setOther (At.setOther (At.setOther T4.out.2.1 (p := ⟨n5, 0, none⟩) HN5.out.1 (.int .u64 s5.not.x0)) (p := ⟨n5, 1, none⟩) HN5.out.1 (.int .u64 s5.not.x1)) (p := ⟨n5, 2, none⟩) HN5.out.1 (.int .u64 s5.not.x2)) (p := ⟨n5, 3, none⟩) HN5.out.1 (.int .u64 s5.not.x3)), by rw [← H56.out]; exact set4 T4.out.2.2.2 _ _ _ _, (Keep.setCell (Keep.setCell (Keep.setCell (Keep.setCell T4.out.2.2.1 (p := ⟨n5, 0, none⟩) (fun h => absurd h HN5.out.2.2) (.int .u64 s5.not.x0)) (p := ⟨n5, 1, none⟩) (fun h => absurd h HN5.out.2.2) (.int .u64 s5.not.x1)) (p := ⟨n5, 2, none⟩) (fun h => absurd h HN5.out.2.2) (.int .u64 s5.not.x2)) (p := ⟨n5, 3, none⟩) (fun h => absurd h HN5.out.2.2) (.int .u64 s5.not.x3))⟩
          case rest =>
            obtain ⟨r1, r2, r3, r4⟩ := hcut
            have T6 := Lib.hid (And.intro r1 (And.intro r2 (And.intro r3 r4)))
            clear r1 r2 r3 r4
            obtain ⟨⟨g0, g1, g2, g3⟩, -⟩ := cells4 T6.out.2.2.1
            obtain ⟨⟨c0, c1, c2, c3, c4, c5, c6, c7⟩, f0, f1, f2, f3, f4, f5, f6, f7⟩ := cells8 T6.out.2.1
            have hlt0 := T6.out.2.1.lt
            have hlt1 := T6.out.2.2.1.lt
            go_wp2_with fail
            change bodyPost _ _ _ _ _ (put8 wc w.heap.size (.int .i64 2) (.int .u64 s6.x0) (.int .u64 s6.x1) (.int .u64 s6.x2) (.int .u64 s6.x3) (.int .i64 0) (.int .i64 0) (.slice none 0 0))
            have a := set8 T6.out.2.1 (.int .i64 2) (.int .u64 s6.x0) (.int .u64 s6.x1) (.int .u64 s6.x2) (.int .u64 s6.x3) (.int .i64 0) (.int .i64 0) (.slice none 0 0)
            have p := other8 (show At _ b _ _ from T6.out.1) HBN.out (.int .i64 2) (.int .u64 s6.x0) (.int .u64 s6.x1) (.int .u64 s6.x2) (.int .u64 s6.x3) (.int .i64 0) (.int .i64 0) (.slice none 0 0)
            have q := keep8 T6.out.2.2.2 (b := w.heap.size) (fun h => absurd h (Nat.lt_irrefl _)) (.int .i64 2) (.int .u64 s6.x0) (.int .u64 s6.x1) (.int .u64 s6.x2) (.int .u64 s6.x3) (.int .i64 0) (.int .i64 0) (.slice none 0 0)
            generalize (put8 wc w.heap.size (.int .i64 2) (.int .u64 s6.x0) (.int .u64 s6.x1) (.int .u64 s6.x2) (.int .u64 s6.x3) (.int .i64 0) (.int .i64 0) (.slice none 0 0)) = W9 at a p q ⊢
            obtain ⟨⟨e0, e1, e2, e3, e4, e5, e6, e7⟩, -⟩ := cells8 a
            exact bodyPost_ret (v := nodeV (clsT s6) none 0) (by simp [results, Try.results42, go_sem, e0, e1, e2, e3, e4, e5, e6, e7]; exact ⟨rfl, rfl, rfl, rfl, rfl, rfl, rfl, rfl⟩) rfl ⟨rfl, p, q⟩
end Go.Proofs.Ytgjmomiobffmdaa.P07
