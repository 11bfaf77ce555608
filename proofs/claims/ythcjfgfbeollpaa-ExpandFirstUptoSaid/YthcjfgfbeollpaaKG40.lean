/- The code's reader (layer 7): cat. -/
import Derived.Test.YthcjfgfbeollpaaKG39
import Derived.Test.YthcjfgfbeollpaaKG22
namespace Go.Proofs.Ythcjfgfbeollpaa.P07
open Go.RowKit Go.Proofs.Ythcjfgfbeollpaa.Base Go.Proofs.Ythcjfgfbeollpaa.IL Go.Proofs.Ythcjfgfbeollpaa.Bytes
open Go.Proofs.Ythcjfgfbeollpaa.Sets (ST)

theorem Rs.put_of {w : World} {b : Nat} {l : List UInt8} {s : PS} {W : World} (I : Rs w b l 27 nzeros s W) (v0 v1 v2 v3 v4 v5 v6 v7 : Value) (t : T) (a : Option Addr) (c : Nat) (he : #[v0, v1, v2, v3, v4, v5, v6, v7] = ncells t a c) (hle : t.subs.length ≤ c) (hL : Lie W (fun k => w.heap.size < k) a t.subs) :
    At (put8 W w.heap.size v0 v1 v2 v3 v4 v5 v6 v7) w.heap.size 27 #[v0, v1, v2, v3, v4, v5, v6, v7] ∧ Rd (put8 W w.heap.size v0 v1 v2 v3 v4 v5 v6 v7) b l s ∧ Keep (fun i => i = b) w (put8 W w.heap.size v0 v1 v2 v3 v4 v5 v6 v7) ∧ NodeV (put8 W w.heap.size v0 v1 v2 v3 v4 v5 v6 v7) (fun k => w.heap.size ≤ k) (.agg #[v0, v1, v2, v3, v4, v5, v6, v7]) t := by
  refine ⟨set8 I.out _ _ _ _ _ _ _ _, other8 (show At _ b _ _ from I.rd) I.ne _ _ _ _ _ _ _ _, keep8 I.keep (b := w.heap.size) (fun h => absurd h (Nat.lt_irrefl _)) _ _ _ _ _ _ _ _, a, c, by rw [he], hle, ?_⟩
  exact (hL.keep (keep8 (Keep.refl (fun i => i = w.heap.size) W) (b := w.heap.size) (fun _ => rfl) _ _ _ _ _ _ _ _) (fun k hk e => by omega)).mono (fun k hk => by omega)

/-- The reader, the result's block, and a list of nodes. -/
structure Rt (w : World) (b : Nat) (l : List UInt8) (u : Value) (acc : List T) (s : PS) (W : World) : Prop where
  rs : Rs w b l 27 nzeros s W
  ot : OT W (fun k => w.heap.size < k) u acc
theorem Rt.step {w : World} {b : Nat} {l : List UInt8} {u : Value} {acc : List T} {s s' : PS} {W W' : World} (I : Rt w b l u acc s W) (h : Rd W' b l s') (q : Keep (fun i => i = b) W W') : Rt w b l u acc s' W' :=
  ⟨I.rs.step h q, I.ot.keep q (fun k hk e => by have := I.rs.low; omega)⟩
theorem Rt.quiet {w : World} {b : Nat} {l : List UInt8} {u : Value} {acc : List T} {s : PS} {W W' : World} (I : Rt w b l u acc s W) (q : Keep (fun _ => False) W W') : Rt w b l u acc s W' :=
  I.step (I.rs.rd.keep q (fun h => h)) (upk b q)
theorem Rt.drawn {w : World} {b : Nat} {l : List UInt8} {u : Value} {acc : List T} {s : PS} {W W' : World} (I : Rt w b l u acc s W) (q : Drawn W W') : Rt w b l u acc s W' := I.quiet (q.keep _)

/-- A node more. -/
theorem Rt.push {w : World} {b : Nat} {l : List UInt8} {u : Value} {acc : List T} {s s' : PS} {W W' : World} (I : Rt w b l u acc s W) (h : Rd W' b l s') (q : Keep (fun i => i = b) W W') {t : T} {a : Option Addr} {c : Nat} (hle : t.subs.length ≤ c) (hL : Lie W' (fun k => W.heap.size ≤ k) a t.subs) (hlen : acc.length ≤ 100000010) :
    ∃ v' w', (Builtin.append_ #[25, 25] 25 #[u, .slice (some ⟨W'.heap.size, 0, none⟩) 1 1]).run Try.prog (W'.alloc (.cells (ncells t a c) 27)) = .ok v' w' ∧ Rt w b l v' (acc ++ [t]) s' w' := by
  have J := I.step h q
  have hW := I.rs.out.lt
  have hW' := J.rs.out.lt
  have hown := fun g hg => I.ot.lt (g := g) hg
  obtain ⟨v', w', hrun, g1, g2, g3⟩ := J.ot.push t a c hle (hL.mono (fun k hk => ⟨by omega, fun e => by have := (hown k e).1; omega⟩)) (by omega) (fun g hg => by omega) 25
  have hb := I.rs.low
  refine ⟨v', w', hrun, ⟨J.rs.rd.keep g2 (fun h => by have := (hown b h).2; omega), J.rs.out.keep g2 (fun h => by have := (hown _ h).2; omega), J.rs.keep.next g2 (fun i hi hl => by have := (hown i hi).2; omega), hb⟩, g1⟩

set_option maxRecDepth 100000 in
set_option maxHeartbeats 1000000 in
theorem rnext_drawn (b c : Nat) (l : List UInt8) (s : PS) (hb : s.bad = none) (w : World) (h : Rd w b l s) :
    Calls Try.prog 115 #[.pointer (some ⟨b, 0, none⟩), .int .u8 c] w fun e w' => e = .returned (.bool (decide (nxt l s = c))) ∧ ∃ m, w' = w.drewN m := by
  have c0 : w.cell? ⟨b, 0, none⟩ = some (str l) := At.cell h (o := 0) rfl
  have c1 : w.cell? ⟨b, 1, none⟩ = some (.int .i64 s.pos) := At.cell h (o := 1) rfl
  have hs := size_str l
  have hix := index_run l
  obtain ⟨B, hB⟩ : ∃ B : ByteArray, (⟨l.toArray⟩ : ByteArray) = B := ⟨_, rfl⟩
  unfold str at c0 hix
  rw [hB] at hs c0 hix
  clear hB h
  by_cases hlt : s.pos < l.length
  · have i1 := hix s.pos hlt
    have hn : nxt l s = byteAt l s.pos := by unfold nxt; rw [if_pos ⟨hb, hlt⟩]
    have hbt := byteAt_lt l s.pos
    rw [hn]
    obtain ⟨t, ht⟩ : ∃ t, decide ((byteAt l s.pos : Int) = c) = t := ⟨_, rfl⟩
    rw [ht]
    have hq : ((byteAt l s.pos : Int) == (c : Int)) = t := by rw [← ht]; rfl
    have hlti : (s.pos : Int) < l.length := by omega
    generalize byteAt l s.pos = u at *
    clear hix hn ht hb
    go_enter Try.func115, Try.ntmps115
    go_wp2_with fail
    go_quiet (fail)
    go_wp2_with fail
    go_ret
    exact ⟨rfl, _, rfl⟩
  · have hn : nxt l s = -1 := nxt_fin (by omega)
    have hq : decide (nxt l s = c) = false := by rw [hn]; simp
    rw [hq]
    have hlti : ¬ (s.pos : Int) < l.length := by omega
    clear hix hn hq hb
    go_enter Try.func115, Try.ntmps115
    go_wp2_with fail
    go_quiet (fail)
    go_wp2_with fail
    go_ret
    exact ⟨rfl, _, rfl⟩
/-- Two questions in one region. -/
theorem rnext_two {b : Nat} {l : List UInt8} {s : PS} (hb : s.bad = none) {w : World} (h : Rd w b l s) {x y : Bool} (hx : decide (nxt l s = (124 : Nat)) = x) (hy : decide (nxt l s = (41 : Nat)) = y) (n : Nat) (c : Int) (v : Bool) (hc : c = 124 ∧ v = x ∨ c = 41 ∧ v = y) :
    Calls Try.prog 115 #[.pointer (some ⟨b, 0, none⟩), .int .u8 c] (w.drewN n) fun e w' => e = .returned (.bool v) ∧ ∃ m, w' = w.drewN m := by
  rcases hc with ⟨rfl, rfl⟩ | ⟨rfl, rfl⟩
  · refine (rnext_drawn b 124 l s hb (w.drewN n) h).mono ?_
    rintro e w' ⟨rfl, m, rfl⟩
    exact ⟨by rw [hx], n + m, World.drewN_drewN _ _ _⟩
  · refine (rnext_drawn b 41 l s hb (w.drewN n) h).mono ?_
    rintro e w' ⟨rfl, m, rfl⟩
    exact ⟨by rw [hy], n + m, World.drewN_drewN _ _ _⟩

/-- The loop of cat. -/
structure InRC (w : World) (b F o : Nat) (l : List UInt8) (A : List UInt8 → PS → T × PS) (R : List T × PS) (f : Nat) (u : Value) (acc : List T) (s : PS) (W : World) : Prop where
  rt : Rt w b l u acc s W
  eq : catL F A f acc l s = R
  bad : s.bad = none
  pos : s.pos ≤ l.length
  opn : s.opn = o
  len : acc.length ≤ s.pos
  fuel : l.length + 1 ≤ s.pos + f

set_option maxRecDepth 100000 in
set_option maxHeartbeats 8000000 in
theorem rcat_any (F b o : Nat) (l : List UInt8) (A : List UInt8 → PS → T × PS) (hF : l.length + 2 ≤ F) (hl : l.length ≤ 100000000) (hT : Tame A) (hSt : Still A) (hI : NodeR 116 b l o (itemP F A)) : NodeR 111 b l o (catP F A) := by
  intro s w hb hp hop h
  have W0 := Lib.hid (Rs.start h 27 nzeros)
  obtain ⟨⟨RA, RS⟩, hR⟩ : ∃ R, catL F A F [] l s = R := ⟨_, rfl⟩
  have hq : catP F A l s = (wrapC RA, RS) := by unfold catP; rw [hR]
  rw [hq]
  obtain ⟨tR, htR⟩ : ∃ t, wrapC RA = t := ⟨_, rfl⟩
  rw [htR]
  have HR := Lib.hid (And.intro hR (And.intro hb (And.intro hp (And.intro hop htR))))
  clear h hq hR hb hp hop htR
  go_enter Try.func111, Try.ntmps111
  go_wp2_with fail
  generalize (w.alloc (.cells nzeros 27)) = V at *
  go_loopg [3] F (fun gg u wr => ∃ (acc : List T) (s' : PS), InRC w b F o l A (RA, RS) gg u acc s' wr)
  case atStart => exact ⟨[], s, ⟨⟨W0.out, OT.nil _ _⟩, HR.out.1, HR.out.2.1, HR.out.2.2.1, HR.out.2.2.2.1, Nat.zero_le _, by omega⟩⟩
  case round =>
    obtain ⟨acc, s', I⟩ := hrel
    obtain ⟨c, hc⟩ : ∃ c, nxt l s' = c := ⟨_, rfl⟩
    obtain ⟨g, hg⟩ : ∃ g : Bool, decide (goes c) = g := ⟨_, rfl⟩
    have HC := Lib.hid hc
    have HG := Lib.hid hg
    have II := Lib.hid I
    have I0 := Lib.hid I.rt
    have c0 : wr.cell? ⟨b, 0, none⟩ = some (str l) := At.cell I.rt.rs.rd (o := 0) rfl
    have c1 : wr.cell? ⟨b, 1, none⟩ = some (.int .i64 s'.pos) := At.cell I.rt.rs.rd (o := 1) rfl
    have hs := size_str l
    obtain ⟨B, hB⟩ : ∃ B : ByteArray, (⟨l.toArray⟩ : ByteArray) = B := ⟨_, rfl⟩
    unfold str at c0
    rw [hB] at hs c0
    clear I hc hg hB
    go_upto_region 2 with fail
    go_cut [23] (fun x23 wx => x23 = .bool g ∧ Drawn wr wx)
    case first =>
      by_cases hlt : s'.pos < l.length
      · have hlti : (s'.pos : Int) < l.length := by omega
        have h0 : 0 ≤ c := by
          rw [← HC.out]
          unfold nxt
          rw [if_pos ⟨II.out.bad, hlt⟩]
          omega
        by_cases h124 : c = 124
        · have HX := Lib.hid (show false = g from by rw [← HG.out]; exact (decide_eq_false (fun h => h.2.1 h124)).symm)
          have HN := Lib.hid (rnext_two II.out.bad I0.out.rs.rd (x := true) (y := false) (by rw [HC.out, h124]; rfl) (by rw [HC.out, h124]; rfl))
          go_quiet ((go_at_call 115; exact HN.out _ _ _ (by first | exact .inl ⟨rfl, rfl⟩ | exact .inr ⟨rfl, rfl⟩)))
          go_wp2_with fail
          go_meet
          case rel => exact ⟨by rw [HX.out], ⟨_, rfl⟩⟩
        · by_cases h41 : c = 41
          · have HX := Lib.hid (show false = g from by rw [← HG.out]; exact (decide_eq_false (fun h => h.2.2 h41)).symm)
            have HN := Lib.hid (rnext_two II.out.bad I0.out.rs.rd (x := false) (y := true) (by rw [HC.out, h41]; rfl) (by rw [HC.out, h41]; rfl))
            go_quiet ((go_at_call 115; exact HN.out _ _ _ (by first | exact .inl ⟨rfl, rfl⟩ | exact .inr ⟨rfl, rfl⟩)))
            go_wp2_with fail
            go_meet
            case rel => exact ⟨by rw [HX.out], ⟨_, rfl⟩⟩
          · have HX := Lib.hid (show true = g from by rw [← HG.out]; exact (decide_eq_true ⟨h0, h124, h41⟩).symm)
            have HN := Lib.hid (rnext_two II.out.bad I0.out.rs.rd (x := false) (y := false) (by rw [HC.out]; exact decide_eq_false h124) (by rw [HC.out]; exact decide_eq_false h41))
            go_quiet ((go_at_call 115; exact HN.out _ _ _ (by first | exact .inl ⟨rfl, rfl⟩ | exact .inr ⟨rfl, rfl⟩)))
            go_wp2_with fail
            go_meet
            case rel => exact ⟨by rw [HX.out], ⟨_, rfl⟩⟩
      · have hlti : ¬ (s'.pos : Int) < l.length := by omega
        have HX := Lib.hid (show false = g from by
          rw [← HG.out, ← HC.out, nxt_fin (by omega)]
          rfl)
        go_quiet (fail)
        go_wp2_with fail
        go_meet
        case rel => exact ⟨by rw [HX.out], ⟨_, rfl⟩⟩
    case rest =>
      obtain ⟨rfl, hd⟩ := hcut
      have I6 := Lib.hid (I0.out.drawn hd)
      clear hd I0 c0 c1
      cases g with
      | true =>
        have hgo : goes (nxt l s') := by rw [HC.out]; exact of_decide_eq_true HG.out
        have hE0 := II.out.eq
        obtain ⟨f, rfl⟩ : ∃ f, gk = f + 1 := ⟨gk - 1, by have := II.out.fuel; have := II.out.pos; omega⟩
        rw [catL, if_pos hgo] at hE0
        have hmv := item_moves F hT l s'
        have hin := fun h => (item_tame F hT).pos_le (l := l) (s := s') II.out.bad II.out.pos h
        have hopn : (itemP F A l s').2.opn = o := (item_still F hSt l s').trans II.out.opn
        have hc2 := hI s' wc II.out.bad II.out.pos II.out.opn I6.out.rs.rd
        obtain ⟨⟨t, s2⟩, hR⟩ : ∃ R, itemP F A l s' = R := ⟨_, rfl⟩
        rw [hR] at hE0 hmv hin hopn hc2
        dsimp only at hE0 hmv hin hopn
        have hbd : ∀ x, s2.bad = some x → RS.bad = some x := fun x h => by
          have h1 := (catL_tame F hT f (acc ++ [t])).bad l s2 x h
          rw [hE0] at h1
          exact h1
        have HItem := Lib.hid hc2
        have HE := Lib.hid (And.intro hE0 (And.intro hmv (And.intro hin (And.intro hopn hbd))))
        clear hgo hE0 hmv hin hopn hc2 hR hbd
        go_wp2_with fail
        refine HItem.out.mono ?_
        intro e w4 hO
        rcases hO.split with ⟨hb4, v, rfl, ⟨a', c', hv, hle, hLie⟩, h4, q4⟩ | ⟨x, hb4, rfl, q4⟩
        · dsimp only at hv hb4 hle hLie
          subst hv
          obtain ⟨v', w9, hrun, I9⟩ := I6.out.push h4 q4 hle hLie (by have := II.out.len; have := II.out.pos; omega)
          have H9 := Lib.hid (And.intro I9 hb4)
          clear hLie h4 q4 hle I9 hb4 hO
          go_wp2_with (at_builtin; refine Lib.wpList_append_run _ rfl _ _ _ _ rfl _ _ rfl rfl _ _ hrun ?_)
          clear hrun
          go_wp2_with fail
          go_roundg f
          case measure => omega
          case rel =>
            have h1 := HE.out.2.1 H9.out.2
            have h2 := II.out.len
            have h3 := II.out.fuel
            exact ⟨acc ++ [t], s2, ⟨H9.out.1, HE.out.1, H9.out.2, HE.out.2.2.1 H9.out.2, HE.out.2.2.2.1, by rw [List.length_append, List.length_singleton]; omega, by omega⟩⟩
        · have HP := Lib.hid (And.intro hb4 (I6.out.rs.keep.trans q4))
          clear hb4 q4 hO
          go_wp2_with fail
          exact ⟨rfl, Outs.gave (x := x) (HE.out.2.2.2.2 _ HP.out.1) HP.out.2⟩
      | false =>
        have hng : ¬ goes (nxt l s') := by rw [HC.out]; exact of_decide_eq_false HG.out
        have hstop : RA = acc ∧ RS = s' := by
          have e := II.out.eq
          cases gk with
          | zero =>
            rw [catL] at e
            injection e with e1 e2
            exact ⟨e1.symm, e2.symm⟩
          | succ f =>
            rw [catL, if_neg hng] at e
            injection e with e1 e2
            exact ⟨e1.symm, e2.symm⟩
        obtain ⟨rfl, rfl⟩ := hstop
        obtain ⟨a1, cap, hu, hcap, hLie⟩ := I6.out.ot.form
        have hlen : RA.length ≤ 100000000 := by have := II.out.len; have := II.out.pos; omega
        have hbad := II.out.bad
        have HU := Lib.hid (And.intro hcap hLie)
        have HBAD := Lib.hid hbad
        have htR := HR.out.2.2.2.2
        clear hcap hLie II hng hbad
        subst hu
        rcases RA with _ | ⟨t, _ | ⟨t2, r⟩⟩
        · have HT := Lib.hid htR
          clear htR
          obtain ⟨⟨k0, k1, k2, k3, k4, k5, k6, k7⟩, f0, f1, f2, f3, f4, f5, f6, f7⟩ := cells8 I6.out.rs.out
          have hlt0 := I6.out.rs.out.lt
          go_wp2_with fail
          change bodyPost _ _ _ _ _ (put8 wc w.heap.size (.int .i64 1) (.int .u64 0) (.int .u64 0) (.int .u64 0) (.int .u64 0) (.int .i64 0) (.int .i64 0) (.slice none 0 0))
          obtain ⟨a, p, q, n⟩ := I6.out.rs.put_of (.int .i64 1) (.int .u64 0) (.int .u64 0) (.int .u64 0) (.int .u64 0) (.int .i64 0) (.int .i64 0) (.slice none 0 0) (.nd 1 zS 0 0 []) none 0 (by unfold ncells T.kind T.set T.mn T.mx T.subs; simp only [zs_zero]; rfl) (Nat.le_refl 0) (.nil _)
          generalize (put8 wc w.heap.size (.int .i64 1) (.int .u64 0) (.int .u64 0) (.int .u64 0) (.int .u64 0) (.int .i64 0) (.int .i64 0) (.slice none 0 0)) = W9 at a p q n ⊢
          obtain ⟨⟨e0, e1, e2, e3, e4, e5, e6, e7⟩, -⟩ := cells8 a
          refine bodyPost_ret (v := .agg #[(.int .i64 1), (.int .u64 0), (.int .u64 0), (.int .u64 0), (.int .u64 0), (.int .i64 0), (.int .i64 0), (.slice none 0 0)]) (by simp [results, Try.results111, go_sem, e0, e1, e2, e3, e4, e5, e6, e7]) rfl ?_
          exact Outs.ok HBAD.out (by show NodeV _ _ _ tR; rw [← HT.out]; exact n) p q
        · have htR' : t = tR := htR
          subst htR'
          clear htR
          obtain ⟨bl, off, a', c', e1, hok, hbl, hle, hL2, hcells⟩ := HU.out.2.get (i := 0) (t := t) rfl
          subst e1
          have y0 : wc.cell? ⟨bl, off, none⟩ = some (.int .i64 t.kind) := by have := hcells 0 (.int .i64 t.kind) rfl; simpa using this
          have y1 : wc.cell? ⟨bl, off + 1, none⟩ = some (.int .u64 t.set.x0) := by have := hcells 1 (.int .u64 t.set.x0) rfl; simpa using this
          have y2 : wc.cell? ⟨bl, off + 2, none⟩ = some (.int .u64 t.set.x1) := by have := hcells 2 (.int .u64 t.set.x1) rfl; simpa using this
          have y3 : wc.cell? ⟨bl, off + 3, none⟩ = some (.int .u64 t.set.x2) := by have := hcells 3 (.int .u64 t.set.x2) rfl; simpa using this
          have y4 : wc.cell? ⟨bl, off + 4, none⟩ = some (.int .u64 t.set.x3) := by have := hcells 4 (.int .u64 t.set.x3) rfl; simpa using this
          have y5 : wc.cell? ⟨bl, off + 5, none⟩ = some (.int .i64 t.mn) := by have := hcells 5 (.int .i64 t.mn) rfl; simpa using this
          have y6 : wc.cell? ⟨bl, off + 6, none⟩ = some (.int .i64 t.mx) := by have := hcells 6 (.int .i64 t.mx) rfl; simpa using this
          have y7 : wc.cell? ⟨bl, off + 7, none⟩ = some (.slice a' t.subs.length c') := by have := hcells 7 (.slice a' t.subs.length c') rfl; simpa using this
          have HL2 := Lib.hid (And.intro hL2 hle)
          clear hcells hL2 hle
          obtain ⟨⟨k0, k1, k2, k3, k4, k5, k6, k7⟩, f0, f1, f2, f3, f4, f5, f6, f7⟩ := cells8 I6.out.rs.out
          have hlt0 := I6.out.rs.out.lt
          go_wp2_with fail
          change bodyPost _ _ _ _ _ (put8 wc w.heap.size (.int .i64 t.kind) (.int .u64 t.set.x0) (.int .u64 t.set.x1) (.int .u64 t.set.x2) (.int .u64 t.set.x3) (.int .i64 t.mn) (.int .i64 t.mx) (.slice a' t.subs.length c'))
          obtain ⟨a, p, q, n⟩ := I6.out.rs.put_of (.int .i64 t.kind) (.int .u64 t.set.x0) (.int .u64 t.set.x1) (.int .u64 t.set.x2) (.int .u64 t.set.x3) (.int .i64 t.mn) (.int .i64 t.mx) (.slice a' t.subs.length c') t a' c' rfl HL2.out.2 HL2.out.1
          generalize (put8 wc w.heap.size (.int .i64 t.kind) (.int .u64 t.set.x0) (.int .u64 t.set.x1) (.int .u64 t.set.x2) (.int .u64 t.set.x3) (.int .i64 t.mn) (.int .i64 t.mx) (.slice a' t.subs.length c')) = W9 at a p q n ⊢
          obtain ⟨⟨e0, e1, e2, e3, e4, e5, e6, e7⟩, -⟩ := cells8 a
          refine bodyPost_ret (v := .agg #[(.int .i64 t.kind), (.int .u64 t.set.x0), (.int .u64 t.set.x1), (.int .u64 t.set.x2), (.int .u64 t.set.x3), (.int .i64 t.mn), (.int .i64 t.mx), (.slice a' t.subs.length c')]) (by simp [results, Try.results111, go_sem, e0, e1, e2, e3, e4, e5, e6, e7]) rfl ?_
          exact Outs.ok HBAD.out n p q
        · have HT := Lib.hid (show tR = .nd 3 zS 0 0 (t :: t2 :: r) from htR.symm)
          have hl0 : ((t :: t2 :: r).length == 0) = false := by simp
          have hl1 : ((t :: t2 :: r).length == 1) = false := by simp
          have hl2 : ¬ (t :: t2 :: r).length = 0 := by simp
          have hl3 : ¬ (t :: t2 :: r).length = 1 := by simp
          obtain ⟨n, hn⟩ : ∃ n, (t :: t2 :: r).length = n := ⟨_, rfl⟩
          rw [hn] at hl0 hl1 hl2 hl3 hlen ⊢
          have HNN := Lib.hid hn
          have hi0 : ((n : Int) == 0) = false := by simp; omega
          have hi1 : ((n : Int) == 1) = false := by simp; omega
          clear hn htR
          obtain ⟨⟨k0, k1, k2, k3, k4, k5, k6, k7⟩, f0, f1, f2, f3, f4, f5, f6, f7⟩ := cells8 I6.out.rs.out
          have hlt0 := I6.out.rs.out.lt
          go_wp2_with fail
          change bodyPost _ _ _ _ _ (put8 wc w.heap.size (.int .i64 3) (.int .u64 0) (.int .u64 0) (.int .u64 0) (.int .u64 0) (.int .i64 0) (.int .i64 0) (.slice a1 n cap))
          obtain ⟨a, p, q, n_⟩ := I6.out.rs.put_of (.int .i64 3) (.int .u64 0) (.int .u64 0) (.int .u64 0) (.int .u64 0) (.int .i64 0) (.int .i64 0) (.slice a1 n cap) (.nd 3 zS 0 0 (t :: t2 :: r)) a1 cap (by rw [← HNN.out]; unfold ncells T.kind T.set T.mn T.mx T.subs; simp only [zs_zero]; rfl) HU.out.1 HU.out.2
          generalize (put8 wc w.heap.size (.int .i64 3) (.int .u64 0) (.int .u64 0) (.int .u64 0) (.int .u64 0) (.int .i64 0) (.int .i64 0) (.slice a1 n cap)) = W9 at a p q n_ ⊢
          obtain ⟨⟨e0, e1, e2, e3, e4, e5, e6, e7⟩, -⟩ := cells8 a
          refine bodyPost_ret (v := .agg #[(.int .i64 3), (.int .u64 0), (.int .u64 0), (.int .u64 0), (.int .u64 0), (.int .i64 0), (.int .i64 0), (.slice a1 n cap)]) (by simp [results, Try.results111, go_sem, e0, e1, e2, e3, e4, e5, e6, e7]) rfl ?_
          exact Outs.ok HBAD.out (by show NodeV _ _ _ tR; rw [HT.out]; exact n_) p q
end Go.Proofs.Ythcjfgfbeollpaa.P07
/- The code's reader (layer 7): alt, and the whole recursion. -/
namespace Go.Proofs.Ythcjfgfbeollpaa.P07
open Go.RowKit Go.Proofs.Ythcjfgfbeollpaa.Base Go.Proofs.Ythcjfgfbeollpaa.IL Go.Proofs.Ythcjfgfbeollpaa.Bytes
open Go.Proofs.Ythcjfgfbeollpaa.Sets (ST)

/-- The loop of alt. -/
structure InRA (w : World) (b F o : Nat) (l : List UInt8) (A : List UInt8 → PS → T × PS) (R : List T × PS) (f : Nat) (u : Value) (acc : List T) (s : PS) (W : World) : Prop where
  rt : Rt w b l u acc s W
  eq : altL F A f acc l s = R
  bad : s.bad = none
  pos : s.pos ≤ l.length
  opn : s.opn = o
  len : acc.length ≤ s.pos + 1
  fuel : l.length + 1 ≤ s.pos + f
  some : acc ≠ []

set_option maxRecDepth 100000 in
set_option maxHeartbeats 8000000 in
theorem ralt_any (F b o : Nat) (l : List UInt8) (A : List UInt8 → PS → T × PS) (hF : l.length + 2 ≤ F) (hl : l.length ≤ 100000000) (hT : Tame A) (hSt : Still A) (hI : NodeR 111 b l o (catP F A)) : NodeR 104 b l o (altP F A) := by
  intro s w hb hp hop h
  have W0 := Lib.hid (Rs.start h 27 nzeros)
  have hp1 := fun h => (cat_tame F hT).pos_le (l := l) (s := s) hb hp h
  have hop1 : (catP F A l s).2.opn = o := (cat_still F hSt l s).trans hop
  have hcat := fun W h => hI s W hb hp hop h
  obtain ⟨⟨t0, s1⟩, hR0⟩ : ∃ R, catP F A l s = R := ⟨_, rfl⟩
  rw [hR0] at hp1 hop1 hcat
  dsimp only at hp1 hop1
  obtain ⟨⟨RA, RS⟩, hR⟩ : ∃ R, altL F A F [t0] l s1 = R := ⟨_, rfl⟩
  have hq : altP F A l s = (wrapA RA, RS) := by unfold altP; rw [hR0]; dsimp only; rw [hR]
  have hbd : ∀ x, s1.bad = some x → RS.bad = some x := fun x h => by
    have h1 := (altL_tame F hT F [t0]).bad l s1 x h
    rw [hR] at h1
    exact h1
  rw [hq]
  obtain ⟨tR, htR⟩ : ∃ t, wrapA RA = t := ⟨_, rfl⟩
  rw [htR]
  have HR := Lib.hid (And.intro hR (And.intro hp1 (And.intro hop1 (And.intro hcat (And.intro hbd htR)))))
  clear h hq hR hb hp hop htR hp1 hop1 hcat hbd hR0
  go_enter Try.func104, Try.ntmps104
  go_wp2_with fail
  generalize (w.alloc (.cells nzeros 27)) = V at *
  refine (HR.out.2.2.2.1 V W0.out.rd).mono ?_
  intro e w1 hO
  rcases hO.split with ⟨hb1, v, rfl, ⟨a', c', hv, hle, hLie⟩, h1, q1⟩ | ⟨x, hb1, rfl, q1⟩
  · dsimp only at hv hb1 hle hLie
    subst hv
    have hlow := W0.out.out.lt
    have W1 := Lib.hid (And.intro (show Rt w b l (.slice (some ⟨w1.heap.size, 0, none⟩) 1 1) [t0] s1 (w1.alloc (.cells (ncells t0 a' c') 27)) from by
      have J := W0.out.step h1 q1
      exact ⟨J.quiet ((Keep.refl (fun _ => False) w1).alloc _), OT.one w1 _ t0 a' c' hle (hLie.mono (fun k hk => by omega)) J.out.lt⟩) hb1)
    clear h1 q1 hle hLie hlow hb1 hO
    go_wp2_with fail
    generalize (w1.alloc (.cells (ncells t0 a' c') 27)) = V1 at *
    generalize w1.heap.size = n1 at *
    go_loopg [3] F (fun gg u wr => ∃ (acc : List T) (s' : PS), InRA w b F o l A (RA, RS) gg u acc s' wr)
    case atStart => exact ⟨[t0], s1, ⟨W1.out.1, HR.out.1, W1.out.2, HR.out.2.1 W1.out.2, HR.out.2.2.1, by simp, by omega, by simp⟩⟩
    case round =>
      obtain ⟨acc, s', I⟩ := hrel
      have II := Lib.hid I
      have I0 := Lib.hid I.rt
      by_cases h124 : nxt l s' = 124
      · have hlt := (nxt_lt (l := l) (s := s') (by omega)).2
        have ht := take_yes b 124 l s' h124 hl wr I.rt.rs.rd
        have hE0 := I.eq
        obtain ⟨f, rfl⟩ : ∃ f, gk = f + 1 := ⟨gk - 1, by have := I.fuel; have := I.pos; omega⟩
        rw [altL, if_pos h124] at hE0
        have hmv : (catP F A l s'.adv).2.bad = none → s'.pos < (catP F A l s'.adv).2.pos := fun h => (cat_tame F hT).step h
        have hin := fun h => (cat_tame F hT).pos_le (l := l) (s := s'.adv) I.bad hlt h
        have hopn : (catP F A l s'.adv).2.opn = o := (cat_still F hSt l s'.adv).trans I.opn
        have hc2 := fun W h => hI s'.adv W I.bad hlt I.opn h
        obtain ⟨⟨t, s2⟩, hR⟩ : ∃ R, catP F A l s'.adv = R := ⟨_, rfl⟩
        rw [hR] at hE0 hmv hin hopn hc2
        dsimp only at hE0 hmv hin hopn
        have hbd : ∀ x, s2.bad = some x → RS.bad = some x := fun x h => by
          have h1 := (altL_tame F hT f (acc ++ [t])).bad l s2 x h
          rw [hE0] at h1
          exact h1
        have HItem := Lib.hid (And.intro ht hc2)
        have HE := Lib.hid (And.intro hE0 (And.intro hmv (And.intro hin (And.intro hopn hbd))))
        clear hlt ht hE0 hmv hin hopn hc2 hR hbd I h124
        go_wp2_with fail
        refine HItem.out.1.mono ?_
        rintro e w3 ⟨rfl, h3, q3⟩
        have I3 := Lib.hid (I0.out.step h3 q3)
        clear h3 q3
        go_wp2_with fail
        refine (HItem.out.2 w3 I3.out.rs.rd).mono ?_
        intro e w4 hO
        rcases hO.split with ⟨hb4, v, rfl, ⟨a', c', hv, hle, hLie⟩, h4, q4⟩ | ⟨x, hb4, rfl, q4⟩
        · dsimp only at hv hb4 hle hLie
          subst hv
          obtain ⟨v', w9, hrun, I9⟩ := I3.out.push h4 q4 hle hLie (by have := II.out.len; have := II.out.pos; omega)
          have H9 := Lib.hid (And.intro I9 hb4)
          clear hLie h4 q4 hle I9 hb4 hO
          go_wp2_with (at_builtin; refine Lib.wpList_append_run _ rfl _ _ _ _ rfl _ _ rfl rfl _ _ hrun ?_)
          clear hrun
          go_wp2_with fail
          go_roundg f
          case measure => omega
          case rel =>
            have h1 := HE.out.2.1 H9.out.2
            have h2 := II.out.len
            have h3 := II.out.fuel
            exact ⟨acc ++ [t], s2, ⟨H9.out.1, HE.out.1, H9.out.2, HE.out.2.2.1 H9.out.2, HE.out.2.2.2.1, by rw [List.length_append, List.length_singleton]; omega, by omega, by simp⟩⟩
        · have HP := Lib.hid (And.intro hb4 (I3.out.rs.keep.trans q4))
          clear hb4 q4 hO
          go_wp2_with fail
          exact ⟨rfl, Outs.gave (x := x) (HE.out.2.2.2.2 _ HP.out.1) HP.out.2⟩
      · have hstop : RA = acc ∧ RS = s' := by
          have e := I.eq
          cases gk with
          | zero =>
            rw [altL] at e
            injection e with e1 e2
            exact ⟨e1.symm, e2.symm⟩
          | succ f =>
            rw [altL, if_neg h124] at e
            injection e with e1 e2
            exact ⟨e1.symm, e2.symm⟩
        obtain ⟨rfl, rfl⟩ := hstop
        have ht := take_no b 124 l RS I.bad h124 wr I.rt.rs.rd
        have HT := Lib.hid ht
        clear ht h124 I
        go_wp2_with fail
        refine HT.out.mono ?_
        rintro e w3 ⟨rfl, h3, q3⟩
        have I3 := Lib.hid (I0.out.step h3 q3)
        clear h3 q3
        obtain ⟨a1, cap, hu, hcap, hLie⟩ := I3.out.ot.form
        have hlen : RA.length ≤ 100000001 := by have := II.out.len; have := II.out.pos; omega
        have hbad := II.out.bad
        have hsome := II.out.some
        have HU := Lib.hid (And.intro hcap hLie)
        have HBAD := Lib.hid hbad
        have htR := HR.out.2.2.2.2.2
        clear hcap hLie II hbad
        subst hu
        rcases RA with _ | ⟨t, _ | ⟨t2, r⟩⟩
        · exact absurd rfl hsome
        · have htR' : t = tR := htR
          subst htR'
          clear htR hsome
          obtain ⟨bl, off, a', c', e1, hok, hbl, hle, hL2, hcells⟩ := HU.out.2.get (i := 0) (t := t) rfl
          subst e1
          have y0 : w3.cell? ⟨bl, off, none⟩ = some (.int .i64 t.kind) := by have := hcells 0 (.int .i64 t.kind) rfl; simpa using this
          have y1 : w3.cell? ⟨bl, off + 1, none⟩ = some (.int .u64 t.set.x0) := by have := hcells 1 (.int .u64 t.set.x0) rfl; simpa using this
          have y2 : w3.cell? ⟨bl, off + 2, none⟩ = some (.int .u64 t.set.x1) := by have := hcells 2 (.int .u64 t.set.x1) rfl; simpa using this
          have y3 : w3.cell? ⟨bl, off + 3, none⟩ = some (.int .u64 t.set.x2) := by have := hcells 3 (.int .u64 t.set.x2) rfl; simpa using this
          have y4 : w3.cell? ⟨bl, off + 4, none⟩ = some (.int .u64 t.set.x3) := by have := hcells 4 (.int .u64 t.set.x3) rfl; simpa using this
          have y5 : w3.cell? ⟨bl, off + 5, none⟩ = some (.int .i64 t.mn) := by have := hcells 5 (.int .i64 t.mn) rfl; simpa using this
          have y6 : w3.cell? ⟨bl, off + 6, none⟩ = some (.int .i64 t.mx) := by have := hcells 6 (.int .i64 t.mx) rfl; simpa using this
          have y7 : w3.cell? ⟨bl, off + 7, none⟩ = some (.slice a' t.subs.length c') := by have := hcells 7 (.slice a' t.subs.length c') rfl; simpa using this
          have HL2 := Lib.hid (And.intro hL2 hle)
          clear hcells hL2 hle
          obtain ⟨⟨k0, k1, k2, k3, k4, k5, k6, k7⟩, f0, f1, f2, f3, f4, f5, f6, f7⟩ := cells8 I3.out.rs.out
          have hlt0 := I3.out.rs.out.lt
          go_wp2_with fail
          change bodyPost _ _ _ _ _ (put8 w3 w.heap.size (.int .i64 t.kind) (.int .u64 t.set.x0) (.int .u64 t.set.x1) (.int .u64 t.set.x2) (.int .u64 t.set.x3) (.int .i64 t.mn) (.int .i64 t.mx) (.slice a' t.subs.length c'))
          obtain ⟨a, p, q, n⟩ := I3.out.rs.put_of (.int .i64 t.kind) (.int .u64 t.set.x0) (.int .u64 t.set.x1) (.int .u64 t.set.x2) (.int .u64 t.set.x3) (.int .i64 t.mn) (.int .i64 t.mx) (.slice a' t.subs.length c') t a' c' rfl HL2.out.2 HL2.out.1
          generalize (put8 w3 w.heap.size (.int .i64 t.kind) (.int .u64 t.set.x0) (.int .u64 t.set.x1) (.int .u64 t.set.x2) (.int .u64 t.set.x3) (.int .i64 t.mn) (.int .i64 t.mx) (.slice a' t.subs.length c')) = W9 at a p q n ⊢
          obtain ⟨⟨e0, e1, e2, e3, e4, e5, e6, e7⟩, -⟩ := cells8 a
          refine bodyPost_ret (v := .agg #[(.int .i64 t.kind), (.int .u64 t.set.x0), (.int .u64 t.set.x1), (.int .u64 t.set.x2), (.int .u64 t.set.x3), (.int .i64 t.mn), (.int .i64 t.mx), (.slice a' t.subs.length c')]) (by simp [results, Try.results104, go_sem, e0, e1, e2, e3, e4, e5, e6, e7]) rfl ?_
          exact Outs.ok HBAD.out n p q
        · have HT := Lib.hid (show tR = .nd 4 zS 0 0 (t :: t2 :: r) from htR.symm)
          have hl1 : ((t :: t2 :: r).length == 1) = false := by simp
          have hl3 : ¬ (t :: t2 :: r).length = 1 := by simp
          obtain ⟨n, hn⟩ : ∃ n, (t :: t2 :: r).length = n := ⟨_, rfl⟩
          rw [hn] at hl1 hl3 hlen ⊢
          have HNN := Lib.hid hn
          have hi1 : ((n : Int) == 1) = false := by simp; omega
          clear hn htR hsome
          obtain ⟨⟨k0, k1, k2, k3, k4, k5, k6, k7⟩, f0, f1, f2, f3, f4, f5, f6, f7⟩ := cells8 I3.out.rs.out
          have hlt0 := I3.out.rs.out.lt
          go_wp2_with fail
          change bodyPost _ _ _ _ _ (put8 w3 w.heap.size (.int .i64 4) (.int .u64 0) (.int .u64 0) (.int .u64 0) (.int .u64 0) (.int .i64 0) (.int .i64 0) (.slice a1 n cap))
          obtain ⟨a, p, q, n_⟩ := I3.out.rs.put_of (.int .i64 4) (.int .u64 0) (.int .u64 0) (.int .u64 0) (.int .u64 0) (.int .i64 0) (.int .i64 0) (.slice a1 n cap) (.nd 4 zS 0 0 (t :: t2 :: r)) a1 cap (by rw [← HNN.out]; unfold ncells T.kind T.set T.mn T.mx T.subs; simp only [zs_zero]; rfl) HU.out.1 HU.out.2
          generalize (put8 w3 w.heap.size (.int .i64 4) (.int .u64 0) (.int .u64 0) (.int .u64 0) (.int .u64 0) (.int .i64 0) (.int .i64 0) (.slice a1 n cap)) = W9 at a p q n_ ⊢
          obtain ⟨⟨e0, e1, e2, e3, e4, e5, e6, e7⟩, -⟩ := cells8 a
          refine bodyPost_ret (v := .agg #[(.int .i64 4), (.int .u64 0), (.int .u64 0), (.int .u64 0), (.int .u64 0), (.int .i64 0), (.int .i64 0), (.slice a1 n cap)]) (by simp [results, Try.results104, go_sem, e0, e1, e2, e3, e4, e5, e6, e7]) rfl ?_
          exact Outs.ok HBAD.out (by show NodeV _ _ _ tR; rw [HT.out]; exact n_) p q
  · have HP := Lib.hid (And.intro hb1 (W0.out.keep.trans q1))
    clear hb1 q1 hO
    go_wp2_with fail
    exact ⟨rfl, Outs.gave (x := x) (HR.out.2.2.2.2.1 _ HP.out.1) HP.out.2⟩

theorem raltD_any (F b : Nat) (l : List UInt8) (hF : l.length + 2 ≤ F) (hl : l.length ≤ 100000000) : ∀ d o, 1 ≤ d → d + o = 13 → NodeR 104 b l o (altD F d)
  | 0, o, h, _ => absurd h (by omega)
  | d + 1, o, _, hd =>
    ralt_any F b o l (altD F d) hF hl (altD_tame F d) (altD_still F d) (rcat_any F b o l (altD F d) hF hl (altD_tame F d) (altD_still F d) (ritem_any F b o l (altD F d) hl (altD_tame F d) (ratom_any F b o l (altD F d) hF hl (by omega) (fun ho => raltD_any F b l hF hl d (o + 1) (by omega) (by omega)) (altD_still F d))))
end Go.Proofs.Ythcjfgfbeollpaa.P07
