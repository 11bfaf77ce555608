/- The document's parser (layer 7): cat. -/
import Derived.Test.YtgjmomiobffmdaaItemB07
import Derived.Test.YtgjmomiobffmdaaMoves07
namespace Go.Proofs.Ytgjmomiobffmdaa.P07
open Go.RowKit Go.Proofs.Ytgjmomiobffmdaa.Base Go.Proofs.Ytgjmomiobffmdaa.IL Go.Proofs.Ytgjmomiobffmdaa.Bytes
open Go.Proofs.Ytgjmomiobffmdaa.Sets (ST)

theorem OT.lt {w : World} {ok : Nat → Prop} {v : Value} {L : List T} (h : OT w ok v L) {g : Nat} (hg : v.ownBlock = some g) : g < w.heap.size ∧ ok g := by
  obtain ⟨X, ⟨h1, h2, _⟩, _⟩ := h
  refine ⟨?_, h2 g hg⟩
  rcases h1.2 with ⟨rfl, _⟩ | ⟨g', cap, cur, rfl, _, h3, _⟩
  · cases hg
  · cases hg
    exact (Array.getElem?_eq_some_iff.1 h3).1

/-- What holds while a list of nodes is read: it lies from nV on. -/
structure Ct (w : World) (b : Nat) (l : List UInt8) (nV : Nat) (u : Value) (acc : List T) (s : PS) (W : World) : Prop where
  pr : Pr W b l s
  out : At W w.heap.size 28 nzeros
  ot : OT W (fun k => nV ≤ k) u acc
  keep : Keep (fun i => i = b) w W
  low : b < w.heap.size ∧ w.heap.size < nV ∧ nV ≤ W.heap.size
theorem Ct.step {w : World} {b : Nat} {l : List UInt8} {nV : Nat} {u : Value} {acc : List T} {s s' : PS} {W W' : World} (I : Ct w b l nV u acc s W) (h : Pr W' b l s') (q : Keep (fun i => i = b) W W') : Ct w b l nV u acc s' W' :=
  have hl := I.low
  have hs := q.size
  ⟨h, I.out.keep q (by omega), I.ot.keep q (fun k hk e => by omega), I.keep.trans q, hl.1, hl.2.1, by omega⟩
theorem Ct.quiet {w : World} {b : Nat} {l : List UInt8} {nV : Nat} {u : Value} {acc : List T} {s : PS} {W W' : World} (I : Ct w b l nV u acc s W) (q : Keep (fun _ => False) W W') : Ct w b l nV u acc s W' :=
  I.step (I.pr.keep q (fun h => h)) (upk b q)
/-- The loop of cat. -/
structure InCat (w : World) (b F o nV : Nat) (l : List UInt8) (A : List UInt8 → PS → T × PS) (R : List T × PS) (f : Nat) (u : Value) (acc : List T) (s : PS) (wr : World) : Prop where
  ct : Ct w b l nV u acc s wr
  eq : catL F A f acc l s = R
  here : Here l s
  opn : s.opn = o
  pos : s.bad = none → acc.length ≤ s.pos ∧ l.length + 2 ≤ s.pos + f
  len : acc.length ≤ l.length + 1

set_option maxRecDepth 100000 in
set_option maxHeartbeats 8000000 in
theorem cat_any (F b o : Nat) (l : List UInt8) (A : List UInt8 → PS → T × PS) (hF : l.length + 2 ≤ F) (hl : l.length ≤ 3000) (hA : Tame A) (hI : NodeC 32 b l o (itemP F A)) (hS : Still A) {kk : Nat} (hk : kk + 1 ≤ 14) (hNr : Near kk 0 A) : NodeC 25 b l o (catP F A) := by
  intro s w hH ho hb h
  obtain ⟨⟨RA, RS⟩, hR⟩ : ∃ R, catL F A F [] l s = R := ⟨_, rfl⟩
  have hq : catP F A l s = (wrapC RA, RS) := by unfold catP; rw [hR]
  rw [hq]
  have HB := Lib.hid hb
  have HR := Lib.hid (And.intro hR (And.intro hH ho))
  have hbn : b ≠ w.heap.size := by omega
  have HBN := Lib.hid hbn
  have W0 := Lib.hid (show Ct w b l (w.heap.size + 1) (.slice none 0 0) [] s (w.alloc (.cells nzeros 28)) from ⟨h.keep ((Keep.refl (fun _ => False) w).alloc (.cells nzeros 28)) (fun h => h), At.new w nzeros 28, OT.nil _ _, (Keep.refl (fun i => i = b) w).alloc (.cells nzeros 28), hb, by omega, by simp⟩)
  clear h hb hbn hq hR hH ho
  go_enter Try.func25, Try.ntmps25
  go_wp2_with fail
  generalize (w.alloc (.cells nzeros 28)) = V at *
  go_loopg [3] F (fun gg u wr => ∃ (acc : List T) (s' : PS), InCat w b F o (w.heap.size + 1) l A (RA, RS) gg u acc s' wr)
  case atStart => exact ⟨[], s, ⟨W0.out, HR.out.1, HR.out.2.1, HR.out.2.2, fun _ => ⟨Nat.zero_le _, by omega⟩, Nat.zero_le _⟩⟩
  case round =>
    obtain ⟨acc, s', I⟩ := hrel
    obtain ⟨c, hc⟩ : ∃ c, nxt l s' = c := ⟨_, rfl⟩
    obtain ⟨g, hg⟩ : ∃ g : Bool, decide (goes c) = g := ⟨_, rfl⟩
    have HC := Lib.hid hc
    have HG := Lib.hid hg
    have I0 := Lib.hid I.ct
    have II := Lib.hid I
    clear I hc hg
    go_upto_region 2 with fail
    go_cut [23] (fun x23 wx => x23 = .bool g ∧ Ct w b l (w.heap.size + 1) u3 acc s' wx)
    case first =>
      have c2 : wr.cell? ⟨b, 2, none⟩ = some (.int .i64 (badI s'.bad)) := At.cell I0.out.pr (o := 2) rfl
      cases hbad : s'.bad with
      | some x =>
        rw [hbad] at c2
        have c2' : wr.cell? ⟨b, 2, none⟩ = some (.int .i64 (x : Int)) := c2
        have hx0 : ¬ (x : Int) < 0 := by omega
        have HX := Lib.hid (show false = g from by rw [← HG.out, ← HC.out]; exact (decide_eq_false (goes_bad (by rw [hbad]; simp))).symm)
        clear c2 hbad
        go_wp2_with fail
        go_meet
        case rel => exact ⟨by rw [HX.out], I0.out⟩
      | none =>
        rw [hbad] at c2
        have c2' : wr.cell? ⟨b, 2, none⟩ = some (.int .i64 (-1)) := c2
        have hx0 : (-1 : Int) < 0 := by omega
        clear c2 hbad
        by_cases h0 : 0 ≤ c
        · by_cases h124 : c = 124
          · have HX := Lib.hid (show false = g from by rw [← HG.out]; exact (decide_eq_false (fun h => h.2.1 h124)).symm)
            go_wp2_with fail
            refine (next_is HC.out _ I0.out.pr).mono ?_
            rintro e v1 ⟨rfl, qq⟩
            have I1 := Lib.hid (I0.out.quiet qq)
            clear qq
            go_wp2_with fail
            refine (next_is HC.out _ I1.out.pr).mono ?_
            rintro e v2 ⟨rfl, qq⟩
            have I2 := Lib.hid (I1.out.quiet qq)
            clear qq
            go_wp2_with fail
            go_meet
            case rel => exact ⟨by rw [HX.out], I2.out⟩
          · by_cases h41 : c = 41
            · have HX := Lib.hid (show false = g from by rw [← HG.out]; exact (decide_eq_false (fun h => h.2.2 h41)).symm)
              go_wp2_with fail
              refine (next_is HC.out _ I0.out.pr).mono ?_
              rintro e v1 ⟨rfl, qq⟩
              have I1 := Lib.hid (I0.out.quiet qq)
              clear qq
              go_wp2_with fail
              refine (next_is HC.out _ I1.out.pr).mono ?_
              rintro e v2 ⟨rfl, qq⟩
              have I2 := Lib.hid (I1.out.quiet qq)
              clear qq
              go_wp2_with fail
              refine (next_is HC.out _ I2.out.pr).mono ?_
              rintro e v3 ⟨rfl, qq⟩
              have I3 := Lib.hid (I2.out.quiet qq)
              clear qq
              go_wp2_with fail
              go_meet
              case rel => exact ⟨by rw [HX.out], I3.out⟩
            · have HX := Lib.hid (show true = g from by rw [← HG.out]; exact (decide_eq_true ⟨h0, h124, h41⟩).symm)
              go_wp2_with fail
              refine (next_is HC.out _ I0.out.pr).mono ?_
              rintro e v1 ⟨rfl, qq⟩
              have I1 := Lib.hid (I0.out.quiet qq)
              clear qq
              go_wp2_with fail
              refine (next_is HC.out _ I1.out.pr).mono ?_
              rintro e v2 ⟨rfl, qq⟩
              have I2 := Lib.hid (I1.out.quiet qq)
              clear qq
              go_wp2_with fail
              refine (next_is HC.out _ I2.out.pr).mono ?_
              rintro e v3 ⟨rfl, qq⟩
              have I3 := Lib.hid (I2.out.quiet qq)
              clear qq
              go_wp2_with fail
              go_meet
              case rel => exact ⟨by rw [← HX.out]; simp [h124, h41], I3.out⟩
        · have HX := Lib.hid (show false = g from by rw [← HG.out]; exact (decide_eq_false (fun h => h0 h.1)).symm)
          go_wp2_with fail
          refine (next_is HC.out _ I0.out.pr).mono ?_
          rintro e v1 ⟨rfl, qq⟩
          have I1 := Lib.hid (I0.out.quiet qq)
          clear qq
          go_wp2_with fail
          go_meet
          case rel => exact ⟨by rw [HX.out], I1.out⟩
    case rest =>
      obtain ⟨rfl, r6⟩ := hcut
      have I6 := Lib.hid r6
      clear r6 I0
      cases g with
      | true =>
        have hgo : goes (nxt l s') := by rw [HC.out]; exact of_decide_eq_true HG.out
        have hal := goes_here hgo
        have hps := II.out.pos hal.1
        have hE0 := II.out.eq
        obtain ⟨f, rfl⟩ : ∃ f, gk = f + 1 := ⟨gk - 1, by omega⟩
        rw [catL, if_pos hgo] at hE0
        have hmv := item_moves F hA l s'
        have hhere := (item_near F hNr).here hk II.out.here
        have hopn : (itemP F A l s').2.opn = o := (item_still F hS l s').trans II.out.opn
        have hlow := I6.out.low
        have hc2 := hI s' wc II.out.here II.out.opn (by omega) I6.out.pr
        obtain ⟨⟨t, s2⟩, hR⟩ : ∃ R, itemP F A l s' = R := ⟨_, rfl⟩
        rw [hR] at hE0 hmv hhere hopn hc2
        dsimp only at hE0 hmv hhere hopn hc2
        have HItem := Lib.hid hc2
        have HE := Lib.hid (And.intro hE0 (And.intro hmv (And.intro hhere (And.intro hopn (And.intro hps hal)))))
        clear hgo hal hps hE0 hmv hhere hopn hc2 hR hlow
        go_wp2_with fail
        refine HItem.out.mono ?_
        rintro e w4 ⟨⟨v, rfl, a', c', rfl, hle, hLie⟩, r4, q4⟩
        have I7 := Lib.hid (I6.out.step r4 q4)
        have hlow := I6.out.low
        have hown := fun g hg => I6.out.ot.lt (g := g) hg
        obtain ⟨v', w9, hrun, g1, g2, g3⟩ := I7.out.ot.push t a' c' hle (hLie.mono (fun k hk => ⟨by omega, fun e => by have := (hown k e).1; omega⟩)) (by have := II.out.len; omega) (fun g hg => by have := I7.out.low; omega) 26
        have H9 := Lib.hid (show Ct w b l (w.heap.size + 1) v' (acc ++ [t]) s2 w9 from
          ⟨r4.keep g2 (fun h => by have := (hown b h).2; omega), I7.out.out.keep g2 (fun h => by have := (hown _ h).2; omega), g1, I7.out.keep.next g2 (fun i hi hl => by have := (hown i hi).2; omega), hlow.1, hlow.2.1, by have := I7.out.low; have := g2.size; omega⟩)
        clear hLie r4 q4 hlow hown g1 g2 g3 hle
        go_wp2_with (at_builtin; refine Lib.wpList_append_run _ rfl _ _ _ _ rfl _ _ rfl rfl _ _ hrun ?_)
        clear hrun
        go_wp2_with fail
        go_roundg f
        case measure => omega
        case rel =>
          refine ⟨acc ++ [t], s2, ⟨H9.out, HE.out.1, HE.out.2.2.1, HE.out.2.2.2.1, fun hb3 => ?_, ?_⟩⟩
          · have h1 := HE.out.2.1 hb3
            have h2 := HE.out.2.2.2.2.1
            rw [List.length_append, List.length_singleton]
            omega
          · have h2 := HE.out.2.2.2.2.1
            have h3 := HE.out.2.2.2.2.2.2
            rw [List.length_append, List.length_singleton]
            omega
      | false =>
        have hstop : RA = acc ∧ RS = s' := by
          have e := II.out.eq
          have hng : ¬ goes (nxt l s') := by rw [HC.out]; exact of_decide_eq_false HG.out
          cases gk with
          | zero =>
            rw [catL] at e
            injection e with e1 e2
            exact ⟨e1.symm, e2.symm⟩
          | succ f =>
            rw [catL, if_neg hng] at e
            injection e with e1 e2
            exact ⟨e1.symm, e2.symm⟩
        obtain ⟨rfl, rfl⟩ := hstop
        obtain ⟨a1, cap, hu, hcap, hLie⟩ := I6.out.ot.form
        have hlen := II.out.len
        have hlow := I6.out.low
        have HU := Lib.hid (And.intro hcap hLie)
        clear hcap hLie II
        subst hu
        rcases RA with _ | ⟨t, _ | ⟨t2, r⟩⟩
        · obtain ⟨⟨c0, c1, c2, c3, c4, c5, c6, c7⟩, f0, f1, f2, f3, f4, f5, f6, f7⟩ := cells8 I6.out.out
          have hlt0 := (I6.out.out).lt
          go_wp2_with fail
          change bodyPost _ _ _ _ _ (put8 wc w.heap.size (.int .i64 1) (.int .u64 0) (.int .u64 0) (.int .u64 0) (.int .u64 0) (.int .i64 0) (.int .i64 0) (.slice none 0 0))
          have a := set8 I6.out.out (.int .i64 1) (.int .u64 0) (.int .u64 0) (.int .u64 0) (.int .u64 0) (.int .i64 0) (.int .i64 0) (.slice none 0 0)
          have p := other8 (show At _ b _ _ from I6.out.pr) HBN.out (.int .i64 1) (.int .u64 0) (.int .u64 0) (.int .u64 0) (.int .u64 0) (.int .i64 0) (.int .i64 0) (.slice none 0 0)
          have q := keep8 I6.out.keep (b := w.heap.size) (fun h => absurd h (Nat.lt_irrefl _)) (.int .i64 1) (.int .u64 0) (.int .u64 0) (.int .u64 0) (.int .u64 0) (.int .i64 0) (.int .i64 0) (.slice none 0 0)
          have hLast := True.intro
          generalize (put8 wc w.heap.size (.int .i64 1) (.int .u64 0) (.int .u64 0) (.int .u64 0) (.int .u64 0) (.int .i64 0) (.int .i64 0) (.slice none 0 0)) = W9 at a p q hLast ⊢
          obtain ⟨⟨e0, e1, e2, e3, e4, e5, e6, e7⟩, -⟩ := cells8 a
          exact bodyPost_ret (v := .agg #[(.int .i64 1), (.int .u64 0), (.int .u64 0), (.int .u64 0), (.int .u64 0), (.int .i64 0), (.int .i64 0), (.slice none 0 0)]) (by simp [results, Try.results25, go_sem, e0, e1, e2, e3, e4, e5, e6, e7]) rfl ⟨⟨_, rfl, none, 0, by unfold nodeV ncells wrapC T.kind T.set T.mn T.mx T.subs; simp only [zs_zero]; rfl, Nat.zero_le _, .nil _⟩, p, q⟩
        · obtain ⟨bl, off, a', c', e1, hok, hbl, hle, hL2, hcells⟩ := HU.out.2.get (i := 0) (t := t) rfl
          subst e1
          have k0 : wc.cell? ⟨bl, off, none⟩ = some (.int .i64 t.kind) := by have := hcells 0 (.int .i64 t.kind) rfl; simpa using this
          have k1 : wc.cell? ⟨bl, off + 1, none⟩ = some (.int .u64 t.set.x0) := by have := hcells 1 (.int .u64 t.set.x0) rfl; simpa using this
          have k2 : wc.cell? ⟨bl, off + 2, none⟩ = some (.int .u64 t.set.x1) := by have := hcells 2 (.int .u64 t.set.x1) rfl; simpa using this
          have k3 : wc.cell? ⟨bl, off + 3, none⟩ = some (.int .u64 t.set.x2) := by have := hcells 3 (.int .u64 t.set.x2) rfl; simpa using this
          have k4 : wc.cell? ⟨bl, off + 4, none⟩ = some (.int .u64 t.set.x3) := by have := hcells 4 (.int .u64 t.set.x3) rfl; simpa using this
          have k5 : wc.cell? ⟨bl, off + 5, none⟩ = some (.int .i64 t.mn) := by have := hcells 5 (.int .i64 t.mn) rfl; simpa using this
          have k6 : wc.cell? ⟨bl, off + 6, none⟩ = some (.int .i64 t.mx) := by have := hcells 6 (.int .i64 t.mx) rfl; simpa using this
          have k7 : wc.cell? ⟨bl, off + 7, none⟩ = some (.slice a' t.subs.length c') := by have := hcells 7 (.slice a' t.subs.length c') rfl; simpa using this
          obtain ⟨⟨c0, c1, c2, c3, c4, c5, c6, c7⟩, f0, f1, f2, f3, f4, f5, f6, f7⟩ := cells8 I6.out.out
          have hlt0 := (I6.out.out).lt
          have HL2 := Lib.hid (And.intro hL2 hle)
          clear hcells hL2 hle
          go_wp2_with fail
          change bodyPost _ _ _ _ _ (put8 wc w.heap.size (.int .i64 t.kind) (.int .u64 t.set.x0) (.int .u64 t.set.x1) (.int .u64 t.set.x2) (.int .u64 t.set.x3) (.int .i64 t.mn) (.int .i64 t.mx) (.slice a' t.subs.length c'))
          have a := set8 I6.out.out (.int .i64 t.kind) (.int .u64 t.set.x0) (.int .u64 t.set.x1) (.int .u64 t.set.x2) (.int .u64 t.set.x3) (.int .i64 t.mn) (.int .i64 t.mx) (.slice a' t.subs.length c')
          have p := other8 (show At _ b _ _ from I6.out.pr) HBN.out (.int .i64 t.kind) (.int .u64 t.set.x0) (.int .u64 t.set.x1) (.int .u64 t.set.x2) (.int .u64 t.set.x3) (.int .i64 t.mn) (.int .i64 t.mx) (.slice a' t.subs.length c')
          have q := keep8 I6.out.keep (b := w.heap.size) (fun h => absurd h (Nat.lt_irrefl _)) (.int .i64 t.kind) (.int .u64 t.set.x0) (.int .u64 t.set.x1) (.int .u64 t.set.x2) (.int .u64 t.set.x3) (.int .i64 t.mn) (.int .i64 t.mx) (.slice a' t.subs.length c')
          have hLast := (HL2.out.1.keep (keep8 (Keep.refl (fun i => i = w.heap.size) wc) (b := w.heap.size) (fun _ => rfl) (.int .i64 t.kind) (.int .u64 t.set.x0) (.int .u64 t.set.x1) (.int .u64 t.set.x2) (.int .u64 t.set.x3) (.int .i64 t.mn) (.int .i64 t.mx) (.slice a' t.subs.length c')) (fun k hk e => by omega)).mono (ok' := fun k => w.heap.size ≤ k) (fun k hk => by omega)
          generalize (put8 wc w.heap.size (.int .i64 t.kind) (.int .u64 t.set.x0) (.int .u64 t.set.x1) (.int .u64 t.set.x2) (.int .u64 t.set.x3) (.int .i64 t.mn) (.int .i64 t.mx) (.slice a' t.subs.length c')) = W9 at a p q hLast ⊢
          obtain ⟨⟨e0, e1, e2, e3, e4, e5, e6, e7⟩, -⟩ := cells8 a
          exact bodyPost_ret (v := .agg #[(.int .i64 t.kind), (.int .u64 t.set.x0), (.int .u64 t.set.x1), (.int .u64 t.set.x2), (.int .u64 t.set.x3), (.int .i64 t.mn), (.int .i64 t.mx), (.slice a' t.subs.length c')]) (by simp [results, Try.results25, go_sem, e0, e1, e2, e3, e4, e5, e6, e7]) rfl ⟨⟨_, rfl, a', c', rfl, HL2.out.2, hLast⟩, p, q⟩
        · obtain ⟨⟨c0, c1, c2, c3, c4, c5, c6, c7⟩, f0, f1, f2, f3, f4, f5, f6, f7⟩ := cells8 I6.out.out
          have hlt0 := (I6.out.out).lt
          have hl0 : ¬ (t :: t2 :: r).length = 0 := by simp
          have hl1 : ¬ (t :: t2 :: r).length = 1 := by simp
          obtain ⟨n, hn⟩ : ∃ n, (t :: t2 :: r).length = n := ⟨_, rfl⟩
          rw [hn] at hl0 hl1 hlen ⊢
          have HNN := Lib.hid hn
          clear hn
          go_wp2_with fail
          change bodyPost _ _ _ _ _ (put8 wc w.heap.size (.int .i64 3) (.int .u64 0) (.int .u64 0) (.int .u64 0) (.int .u64 0) (.int .i64 0) (.int .i64 0) (.slice a1 n cap))
          have a := set8 I6.out.out (.int .i64 3) (.int .u64 0) (.int .u64 0) (.int .u64 0) (.int .u64 0) (.int .i64 0) (.int .i64 0) (.slice a1 n cap)
          have p := other8 (show At _ b _ _ from I6.out.pr) HBN.out (.int .i64 3) (.int .u64 0) (.int .u64 0) (.int .u64 0) (.int .u64 0) (.int .i64 0) (.int .i64 0) (.slice a1 n cap)
          have q := keep8 I6.out.keep (b := w.heap.size) (fun h => absurd h (Nat.lt_irrefl _)) (.int .i64 3) (.int .u64 0) (.int .u64 0) (.int .u64 0) (.int .u64 0) (.int .i64 0) (.int .i64 0) (.slice a1 n cap)
          have hLast := (HU.out.2.keep (keep8 (Keep.refl (fun i => i = w.heap.size) wc) (b := w.heap.size) (fun _ => rfl) (.int .i64 3) (.int .u64 0) (.int .u64 0) (.int .u64 0) (.int .u64 0) (.int .i64 0) (.int .i64 0) (.slice a1 n cap)) (fun k hk e => by omega)).mono (ok' := fun k => w.heap.size ≤ k) (fun k hk => by omega)
          generalize (put8 wc w.heap.size (.int .i64 3) (.int .u64 0) (.int .u64 0) (.int .u64 0) (.int .u64 0) (.int .i64 0) (.int .i64 0) (.slice a1 n cap)) = W9 at a p q hLast ⊢
          obtain ⟨⟨e0, e1, e2, e3, e4, e5, e6, e7⟩, -⟩ := cells8 a
          exact bodyPost_ret (v := .agg #[(.int .i64 3), (.int .u64 0), (.int .u64 0), (.int .u64 0), (.int .u64 0), (.int .i64 0), (.int .i64 0), (.slice a1 n cap)]) (by simp [results, Try.results25, go_sem, e0, e1, e2, e3, e4, e5, e6, e7]) rfl ⟨⟨_, rfl, a1, cap, by rw [← HNN.out]; unfold nodeV ncells wrapC T.kind T.set T.mn T.mx T.subs; simp only [zs_zero]; rfl, HU.out.1, hLast⟩, p, q⟩
end Go.Proofs.Ytgjmomiobffmdaa.P07
