/- The code's Depth (layer 7), level by level. -/
import Derived.Test.YtgjmomiobffmdaaRPair07
import Derived.Test.YtgjmomiobffmdaaRItem07
namespace Go.Proofs.Ytgjmomiobffmdaa.P07
open Go.RowKit Go.Proofs.Ytgjmomiobffmdaa.Base Go.Proofs.Ytgjmomiobffmdaa.IL Go.Proofs.Ytgjmomiobffmdaa.Bytes
open Go.Proofs.Ytgjmomiobffmdaa.Sets (ST)

/-- The parts of all nodes of a list that have some. -/
def nextL : List T → List (List T)
  | [] => []
  | t :: L => if 0 < t.subs.length then t.subs :: nextL L else nextL L
def lev : List (List T) → List (List T)
  | [] => []
  | L :: X => nextL L ++ lev X
def depLL : List (List T) → Nat
  | [] => 0
  | L :: X => max (depL L) (depLL X)
def cntLL : List (List T) → Nat
  | [] => 0
  | L :: X => cntL L + cntLL X
theorem depLL_append : ∀ X Y, depLL (X ++ Y) = max (depLL X) (depLL Y)
  | [], Y => by rw [List.nil_append, depLL]; omega
  | L :: X, Y => by rw [List.cons_append, depLL, depLL, depLL_append X Y]; omega
theorem cntLL_append : ∀ X Y, cntLL (X ++ Y) = cntLL X + cntLL Y
  | [], Y => by rw [List.nil_append, cntLL]; omega
  | L :: X, Y => by rw [List.cons_append, cntLL, cntLL, cntLL_append X Y]; omega
theorem depL_next : ∀ L : List T, L ≠ [] → depL L = depLL (nextL L) + 1
  | [], h => absurd rfl h
  | t :: L, _ => by
    have e : depLL (nextL (t :: L)) = max (depL t.subs) (depLL (nextL L)) := by
      rw [nextL]
      split
      · rfl
      · rename_i h
        rw [List.eq_nil_of_length_eq_zero (l := t.subs) (by omega), depL]
        omega
    rw [e, depL, dep_eq]
    cases L with
    | nil =>
      rw [depL, nextL, depLL]
      omega
    | cons s L =>
      rw [depL_next (s :: L) (by simp)]
      omega
theorem dep_lev : ∀ X : List (List T), X ≠ [] → (∀ L ∈ X, L ≠ []) → depLL X = depLL (lev X) + 1
  | [], h, _ => absurd rfl h
  | L :: X, _, h => by
    rw [depLL, lev, depLL_append, depL_next L (h L (by simp))]
    cases X with
    | nil =>
      rw [depLL, lev, depLL]
      omega
    | cons M X =>
      rw [dep_lev (M :: X) (by simp) (fun K hK => h K (by simp [hK]))]
      omega
theorem next_some : ∀ (L : List T), ∀ M ∈ nextL L, M ≠ []
  | [], M, h => absurd h (by rw [nextL]; simp)
  | t :: L, M, h => by
    rw [nextL] at h
    split at h
    · rename_i h0
      rcases List.mem_cons.1 h with rfl | h
      · intro e
        rw [e] at h0
        exact absurd h0 (by simp)
      · exact next_some L M h
    · exact next_some L M h
theorem lev_some : ∀ (X : List (List T)), ∀ M ∈ lev X, M ≠ []
  | [], M, h => absurd h (by rw [lev]; simp)
  | L :: X, M, h => by
    rw [lev] at h
    rcases List.mem_append.1 h with h | h
    · exact next_some L M h
    · exact lev_some X M h
theorem next_cnt : ∀ L : List T, cntLL (nextL L) + (nextL L).length ≤ cntL L
  | [] => by rw [nextL, cntLL, cntL]; simp
  | t :: L => by
    have := next_cnt L
    rw [nextL, cntL, cnt_eq]
    split
    · rw [cntLL, List.length_cons]
      omega
    · omega
theorem lev_cnt : ∀ X : List (List T), cntLL (lev X) + (lev X).length ≤ cntLL X
  | [] => by rw [lev, cntLL]; simp
  | L :: X => by
    have h1 := lev_cnt X
    have h2 := next_cnt L
    rw [lev, cntLL_append, cntLL, List.length_append]
    omega

/-- A list of nodes, where it lies. -/
structure LR where
  la : List T
  aa : Option Addr
  ca : Nat
@[reducible] def lrcells (x : LR) : Array Value := #[.slice x.aa x.la.length x.ca]
@[reducible] def flatR (X : List LR) : List Value := X.flatMap fun x => (lrcells x).toList
theorem infoLr : (Try.prog.info? 26).map (fun i => (i.zero, i.size, i.bytes)) = some (some (.slice none 0 0), 1, 24) := by kernel_rfl
theorem flatR_length (X : List LR) : (flatR X).length = X.length * 1 := by
  induction X with
  | nil => rfl
  | cons x X ih =>
    unfold flatR at *
    rw [List.flatMap_cons, List.length_append, ih, List.length_cons]
    simp
    omega
theorem flatR_append (X Y : List LR) : flatR (X ++ Y) = flatR X ++ flatR Y := List.flatMap_append ..
theorem flatR_at : ∀ (X : List LR) (i : Nat) (x : LR), X[i]? = some x → (flatR X)[i]? = some (.slice x.aa x.la.length x.ca)
  | [], i, x, h => by simp at h
  | y :: X, 0, x, h => by
    simp at h
    subst h
    rfl
  | y :: X, i + 1, x, h => by
    have ih := flatR_at X i x (by simpa using h)
    have e : flatR (y :: X) = (lrcells y).toList ++ flatR X := rfl
    rw [e, List.getElem?_append_right (by simp), ← ih]
    congr 1

structure LrOk (W : World) (n0 : Nat) (x : LR) : Prop where
  ca : x.la.length ≤ x.ca
  la : Lie W (fun k => k < n0) x.aa x.la
theorem LrOk.keep {S : Nat → Prop} {W W' : World} {n0 : Nat} {x : LR} (h : LrOk W n0 x) (q : Keep S W W') (hS : ∀ k, k < n0 → ¬ S k) : LrOk W' n0 x := ⟨h.ca, h.la.keep q hS⟩
/-- The slice u is a row of such lists, of the program's own, in a block from n0 on. -/
structure OR (W : World) (n0 : Nat) (u : Value) (X : List LR) : Prop where
  row : W.ownsRow 0 26 1 u X.length (flatR X)
  own : ∀ g, u.ownBlock = some g → n0 ≤ g
  ok : ∀ x ∈ X, LrOk W n0 x
theorem OR.keep {S : Nat → Prop} {W W' : World} {n0 : Nat} {u : Value} {X : List LR} (h : OR W n0 u X) (q : Keep S W W') (hS : ∀ k, S k → n0 ≤ k ∧ u.ownBlock ≠ some k) : OR W' n0 u X := by
  refine ⟨⟨h.row.1, ?_⟩, h.own, fun x hx => (h.ok x hx).keep q (fun k hk e => by have := (hS k e).1; omega)⟩
  rcases h.row.2 with h1 | ⟨g, cap, cur, rfl, hb, hg, r⟩
  · exact .inl h1
  · refine .inr ⟨g, cap, cur, rfl, hb, ?_, r⟩
    have : At W g 26 cur := hg
    exact this.keep q (fun e => (hS g e).2 rfl)
theorem OR.keepF {W W' : World} {n0 : Nat} {u : Value} {X : List LR} (h : OR W n0 u X) (q : Keep (fun _ => False) W W') : OR W' n0 u X := h.keep q (fun _ h => h.elim)
theorem OR.lt {W : World} {n0 : Nat} {u : Value} {X : List LR} (h : OR W n0 u X) {g : Nat} (hg : u.ownBlock = some g) : g < W.heap.size := by
  rcases h.row.2 with ⟨rfl, h0⟩ | ⟨g', cap, cur, rfl, hb, hc, r⟩
  · cases hg
  · have : At W g' 26 cur := hc
    injection hg with hg
    subst hg
    exact this.lt
/-- As an argument. -/
theorem OR.form {W : World} {n0 : Nat} {u : Value} {X : List LR} (h : OR W n0 u X) : ∃ a cap, u = .slice a X.length cap ∧ X.length ≤ 9223372036854775807 ∧ ∀ i x, X[i]? = some x → ∃ g, a = some ⟨g, 0, none⟩ ∧ W.cell? ⟨g, i, none⟩ = some (.slice x.aa x.la.length x.ca) := by
  rcases h.row.2 with ⟨rfl, h0⟩ | ⟨g, cap, cur, rfl, hb, hg, h5, h6, h7, h8⟩
  · have e : X = [] := List.eq_nil_of_length_eq_zero h0
    subst e
    exact ⟨none, 0, rfl, by simp, fun i x hx => by simp at hx⟩
  · have ha : At W g 26 cur := hg
    refine ⟨_, cap, rfl, by unfold maxLen at h6; omega, fun i x hx => ⟨g, rfl, ha.cell ?_⟩⟩
    have hi : i < X.length := (List.getElem?_eq_some_iff.1 hx).1
    have h9 := flatR_at X i x hx
    have h10 : (cur.toList.take (X.length * 1))[i]? = (flatR X)[i]? := by rw [h8]
    rw [List.getElem?_take_of_lt (by omega), h9] at h10
    simpa using h10
theorem OR.nil (W : World) (n0 : Nat) : OR W n0 (.slice none 0 0) [] := ⟨⟨rfl, .inl ⟨rfl, rfl⟩⟩, fun g hg => (by cases hg), by simp⟩
theorem OR.one {W : World} {n0 : Nat} {p : LR} (hp : LrOk W n0 p) (hn : n0 ≤ W.heap.size) :
    OR (W.alloc (.cells (lrcells p) 26)) n0 (.slice (some ⟨W.heap.size, 0, none⟩) 1 1) [p] := by
  refine ⟨⟨by rw [flatR_length], .inr ⟨W.heap.size, 1, lrcells p, rfl, Nat.zero_le _, At.new W _ _, Nat.le_refl 1, by decide, rfl, by simp⟩⟩, fun g hg => ?_, fun x hx => ?_⟩
  · injection hg with hg
    rw [← hg]
    exact hn
  · rw [List.mem_singleton.1 hx]
    exact hp.keep ((Keep.refl (fun _ => False) W).alloc _) (fun _ _ h => h)
theorem OR.push {W : World} {n0 : Nat} {u : Value} {X : List LR} (h : OR W n0 u X) (p : LR) (hp : LrOk W n0 p) (hn : n0 ≤ W.heap.size) (hlen : X.length ≤ 1000000000) (ty : TypeId) :
    ∃ v' w', (Builtin.append_ #[50, 50] ty #[u, .slice (some ⟨W.heap.size, 0, none⟩) 1 1]).run Try.prog (W.alloc (.cells (lrcells p) 26)) = .ok v' w' ∧ OR w' n0 v' (X ++ [p]) ∧ Keep (fun b => u.ownBlock = some b) W w' ∧ (∀ g, v'.ownBlock = some g → u.ownBlock = some g ∨ W.heap.size ≤ g) := by
  have qa := (Keep.refl (fun _ => False) W).alloc (.cells (lrcells p) 26)
  have ha := At.new W (lrcells p) 26
  have h1 := (h.keepF qa).row
  obtain ⟨i0, hi0, hz0, hz1, hz2⟩ := info_parts infoLr
  obtain ⟨v', w', hrun, g2, g3, _, g5⟩ := run_append_own_at (P := Try.prog) (W.alloc (.cells (lrcells p) 26)) 0 50 ty 26 i0 (.slice none 0 0) 1 24 Try.underlying50 hi0 hz0 hz1 hz2 rfl (by omega) u X.length (flatR X) h1 ⟨W.heap.size, 0, none⟩ 1 1 (lrcells p).toList rfl
    (fun j v hv => by
      have := ha.cell (o := j) (v := v) (by simpa using hv)
      have e : (⟨W.heap.size, 0, none⟩ : Addr).add j = ⟨W.heap.size, j, none⟩ := by
        unfold Addr.add
        split
        · rename_i hz
          rw [hz]
        · simp
      rw [e]
      exact this)
    (by intro v hv; simp at hv; subst hv; rfl) (by simp only [maxLen]; omega) (by omega) (Nat.zero_le _)
  have q : Keep (fun b => u.ownBlock = some b) W w' := (qa.mono (fun _ h => h.elim)).trans (pkeep_grown g3)
  have hbl : ∀ g, v'.ownBlock = some g → u.ownBlock = some g ∨ W.heap.size ≤ g := fun g hg => by
    rcases g5 with g5 | g5
    · exact .inl (by rw [← g5]; exact hg)
    · rw [g5] at hg
      injection hg with hg
      simp at hg
      exact .inr (by omega)
  refine ⟨v', w', hrun, ⟨?_, fun g hg => ?_, fun x hx => ?_⟩, q, hbl⟩
  · rw [List.length_append, flatR_append]
    have e : flatR [p] = (lrcells p).toList := by unfold flatR; simp
    rw [e]
    exact g2
  · rcases hbl g hg with h2 | h2
    · exact h.own g h2
    · omega
  · have hS : ∀ k, k < n0 → ¬ u.ownBlock = some k := fun k hk e => by have := h.own k e; omega
    rcases List.mem_append.1 hx with hx | hx
    · exact (h.ok x hx).keep q hS
    · rw [List.mem_singleton.1 hx]
      exact hp.keep q hS

/-- The loops of below: what was put together, what is left. -/
structure InB (n0 : Nat) (W0 : World) (u0 : Value) (X0 : List LR) (rest : List (List T)) (u : Value) (X : List LR) (W : World) : Prop where
  row : OR W n0 u X
  old : OR W n0 u0 X0
  own : ∀ g, u.ownBlock = some g → W0.heap.size ≤ g
  eq : X.map (·.la) ++ rest = lev (X0.map (·.la))
  keep : Keep (fun _ => False) W0 W
theorem InB.len {n0 : Nat} {W0 : World} {u0 : Value} {X0 : List LR} {rest : List (List T)} {u : Value} {X : List LR} {W : World} (I : InB n0 W0 u0 X0 rest u X W) : X.length ≤ (lev (X0.map (·.la))).length := by
  rw [← I.eq, List.length_append, List.length_map]
  omega

theorem drop_at {α : Type} {L : List α} {k : Nat} {t : α} (h : L[k]? = some t) : L.drop k = t :: L.drop (k + 1) := by
  have e := List.getElem?_eq_some_iff.1 h
  rw [← e.2]
  exact List.drop_eq_getElem_cons e.1

set_option maxRecDepth 100000 in
set_option maxHeartbeats 8000000 in
theorem below_any (n0 : Nat) (X0 : List LR) (u0 : Value) (w : World) (h0 : OR w n0 u0 X0) (hn : n0 ≤ w.heap.size) (hlen : (lev (X0.map (·.la))).length ≤ 100000000) :
    Calls Try.prog 19 #[u0] w fun e w' => ∃ v' X', e = .returned v' ∧ X'.map (·.la) = lev (X0.map (·.la)) ∧ OR w' n0 v' X' ∧ Keep (fun _ => False) w w' := by
  obtain ⟨a0, cap0, hu0, hl0, hget⟩ := h0.form
  have H0 := Lib.hid (And.intro h0 (And.intro hn hlen))
  clear h0 hget hn hlen
  subst hu0
  go_enter Try.func19, Try.ntmps19
  go_wp2_with fail
  go_loopg [3, 9] X0.length (fun gg u i wr => ∃ (k : Nat) (X : List LR), i = .int .i64 k ∧ k + gg = X0.length ∧ InB n0 w (.slice a0 X0.length cap0) X0 (lev ((X0.drop k).map (·.la))) u X wr)
  case atStart => exact ⟨0, [], rfl, by omega, ⟨OR.nil _ _, H0.out.1, fun g hg => (by cases hg), by rw [List.drop_zero]; rfl, Keep.refl _ _⟩⟩
  case round =>
    obtain ⟨k, X, rfl, hk, I⟩ := hrel
    by_cases hlt : k < X0.length
    · have hlt' : (k : Int) < X0.length := by omega
      have i0 : (0 : Int) ≤ k := by omega
      obtain ⟨⟨la, aa, ca⟩, hx⟩ : ∃ x, X0[k]? = some x := ⟨X0[k], List.getElem?_eq_getElem hlt⟩
      obtain ⟨a', cap', e1, -, hg⟩ := I.old.form
      obtain ⟨g, e2, c0⟩ := hg k ⟨la, aa, ca⟩ hx
      injection e1 with e1 e3 e4
      clear e3 e4
      subst e1
      subst e2
      have hxl := (I.old.ok ⟨la, aa, ca⟩ (List.mem_of_getElem? hx)).la.len
      dsimp only at hxl c0
      have hdr := drop_at hx
      have hI : InB n0 w (.slice (some ⟨g, 0, none⟩) X0.length cap0) X0 (nextL (la.drop 0) ++ lev ((X0.drop (k + 1)).map (·.la))) u3 X wr := ⟨I.row, I.old, I.own, by rw [← I.eq, hdr, List.map_cons, lev, List.drop_zero], I.keep⟩
      have HI := Lib.hid (And.intro hI hx)
      clear I hI hg hdr hx
      go_wp2_with fail
      go_loopg [3, 15] la.length (fun gg u i wr => ∃ (j : Nat) (X : List LR), i = .int .i64 j ∧ j + gg = la.length ∧ InB n0 w (.slice (some ⟨g, 0, none⟩) X0.length cap0) X0 (nextL (la.drop j) ++ lev ((X0.drop (k + 1)).map (·.la))) u X wr)
      case atStart => exact ⟨0, X, rfl, by omega, HI.out.1⟩
      case round =>
        obtain ⟨j, X, rfl, hj, I⟩ := hrel
        by_cases hjlt : j < la.length
        · have hjlt' : (j : Int) < la.length := by omega
          have j0 : (0 : Int) ≤ j := by omega
          obtain ⟨t, ht⟩ : ∃ t, la[j]? = some t := ⟨la[j], List.getElem?_eq_getElem hjlt⟩
          obtain ⟨bl1, off1, a1, c1, e1, ok1, -, le1, L1, C1⟩ := (I.old.ok ⟨la, aa, ca⟩ (List.mem_of_getElem? HI.out.2)).la.get ht
          have C7 := (ncell C1).2.2.2.2.2.2.2
          have II := Lib.hid (And.intro I (And.intro ht (And.intro L1 le1)))
          dsimp only at e1
          clear I ht L1 C1 le1
          subst e1
          by_cases hsub : 0 < t.subs.length
          · have hsub' : (0 : Int) < t.subs.length := by omega
            obtain ⟨v', w9, hrun, g1', g2', g3'⟩ := II.out.1.row.push ⟨t.subs, a1, c1⟩ ⟨II.out.2.2.2, II.out.2.2.1⟩ (by have := II.out.1.keep.size; have := H0.out.2.1; omega) (by have := II.out.1.len; have := H0.out.2.2; omega) 50
            have H9 := Lib.hid (show InB n0 w (.slice (some ⟨g, 0, none⟩) X0.length cap0) X0 (nextL (la.drop (j + 1)) ++ lev ((X0.drop (k + 1)).map (·.la))) v' (X ++ [⟨t.subs, a1, c1⟩]) w9 from by
              have I := II.out.1
              have hgl : g < w.heap.size := H0.out.1.lt (g := g) rfl
              refine ⟨g1', I.old.keep g2' (fun k hk => ⟨I.row.own k hk, fun e => ?_⟩), fun g hg => ?_, ?_, I.keep.next g2' (fun i hi hl => by have := I.own i hi; omega)⟩
              · injection e with e
                have := I.own k hk
                have e2 : g = k := e
                omega
              · rcases g3' g hg with h | h
                · exact I.own g h
                · have := I.keep.size
                  omega
              · rw [← I.eq, drop_at II.out.2.1, nextL, if_pos hsub, List.map_append]
                simp)
            clear g1' g2' g3'
            go_wp2_with (at_builtin; refine Lib.wpList_append_run _ rfl _ _ _ _ rfl _ _ rfl rfl _ _ hrun ?_)
            clear hrun
            go_wp2_with fail
            go_roundg (la.length - (j + 1))
            case measure => omega
            case rel => exact ⟨j + 1, _, by go_num, by omega, H9.out⟩
          · have hsub' : ¬ (0 : Int) < t.subs.length := by omega
            go_wp2_with fail
            go_roundg (la.length - (j + 1))
            case measure => omega
            case rel =>
              have I := II.out.1
              refine ⟨j + 1, X, by go_num, by omega, ⟨I.row, I.old, I.own, ?_, I.keep⟩⟩
              rw [← I.eq, drop_at II.out.2.1, nextL, if_neg hsub]
        · have II := Lib.hid I
          have HJ := Lib.hid (show la.length ≤ j by omega)
          clear I
          go_wp2_with fail
          go_roundg (X0.length - (k + 1))
          case measure => omega
          case rel =>
            have I := II.out
            refine ⟨k + 1, X, by go_num, by omega, ⟨I.row, I.old, I.own, ?_, I.keep⟩⟩
            rw [← I.eq, List.drop_eq_nil_of_le HJ.out, nextL, List.nil_append]
    · have II := Lib.hid I
      have hke : k = X0.length := by omega
      have HK := Lib.hid hke
      clear I hke
      go_wp2_with fail
      go_ret
      refine ⟨u3, X, rfl, ?_, II.out.row, II.out.keep⟩
      have h1 := II.out.eq
      rw [HK.out, List.drop_length, List.map_nil, lev, List.append_nil] at h1
      exact h1

theorem depLL_le : ∀ X : List (List T), depLL X ≤ cntLL X
  | [] => Nat.le_refl 0
  | L :: X => by
    have h1 := depLL_le X
    have h2 := depL_le L
    rw [depLL, cntLL]
    omega

/-- The loop of Depth. -/
structure InD (w : World) (n0 : Nat) (a : T) (m d : Nat) (u : Value) (X : List LR) (W : World) : Prop where
  row : OR W n0 u X
  eq : d + depLL (X.map (·.la)) = dep a
  some : ∀ L ∈ X.map (·.la), L ≠ []
  cnt : cntLL (X.map (·.la)) ≤ 100000000
  dm : depLL (X.map (·.la)) ≤ m
  keep : Keep (fun _ => False) w W
  low : n0 ≤ W.heap.size

theorem rdepth_start (a : T) (aa : Option Addr) (ac : Nat) (w : World) (ha : Lie w (fun _ => True) aa a.subs) (hac : a.subs.length ≤ ac) (hcnt : cnt a ≤ 100000000) :
    InD w (w.heap.size + 2) a (dep a) 0 (.slice (some ⟨w.heap.size + 2, 0, none⟩) 1 1) [⟨[a], some ⟨w.heap.size + 1, 0, none⟩, 1⟩]
      (((w.alloc (.cells (ncells a aa ac) 28)).alloc (.cells (ncells a aa ac) 28)).alloc (.cells #[.slice (some ⟨w.heap.size + 1, 0, none⟩) 1 1] 26)) := by
  have a3 := At.new (w.alloc (.cells (ncells a aa ac) 28)) (ncells a aa ac) 28
  rw [show (w.alloc (.cells (ncells a aa ac) 28)).heap.size = w.heap.size + 1 from by simp] at a3
  have q4 := ((Keep.refl (fun _ => False) w).alloc (.cells (ncells a aa ac) 28)).alloc (.cells (ncells a aa ac) 28)
  have s4 : ((w.alloc (.cells (ncells a aa ac) 28)).alloc (.cells (ncells a aa ac) 28)).heap.size = w.heap.size + 2 := by simp
  generalize ((w.alloc (.cells (ncells a aa ac) 28)).alloc (.cells (ncells a aa ac) 28)) = W4 at *
  have hp : LrOk W4 (w.heap.size + 2) ⟨[a], some ⟨w.heap.size + 1, 0, none⟩, 1⟩ :=
    ⟨Nat.le_refl 1, lie_one a3 (by omega) hac ((ha.under.keepF q4).mono (fun k hk => by have := hk.2; omega))⟩
  have h := OR.one hp (by omega)
  rw [s4] at h
  have hd : depLL ([(⟨[a], some ⟨w.heap.size + 1, 0, none⟩, 1⟩ : LR)].map (·.la)) = dep a := by
    show max (max (dep a) 0) 0 = dep a
    omega
  refine ⟨h, by rw [hd]; omega, fun L hL => ?_, ?_, by rw [hd]; exact Nat.le_refl _, q4.alloc _, by simp; omega⟩
  · simp at hL
    rw [hL]
    simp
  · show (cnt a + 0) + 0 ≤ _
    omega

set_option maxRecDepth 100000 in
set_option maxHeartbeats 8000000 in
theorem rdepth_any (a : T) (aa : Option Addr) (ac : Nat) (w : World) (ha : Lie w (fun _ => True) aa a.subs) (hac : a.subs.length ≤ ac) (hcnt : cnt a ≤ 100000000) :
    Calls Try.prog 12 #[nodeV a aa ac] w fun e w' => e = .returned (.int .i64 (dep a)) ∧ Keep (fun _ => False) w w' := by
  have hda : dep a ≤ 100000000 := by have := dep_le_cnt _ a (Nat.lt_succ_self _); omega
  have W0 := Lib.hid (rdepth_start a aa ac w ha hac hcnt)
  clear ha hac hcnt
  obtain ⟨D, hD⟩ : ∃ D, dep a = D := ⟨_, rfl⟩
  have HD := Lib.hid hD
  rw [hD] at hda ⊢
  clear hD
  go_enter Try.func12, Try.ntmps12
  go_wp2_with fail
  generalize n0def : w.heap.size + 2 = n0 at W0
  generalize (((_ : World).alloc _).alloc (.cells #[.slice _ 1 1] 26)) = V at *
  go_loopg [3, 4] D (fun gg d u wr => ∃ (k : Nat) (X : List LR), d = .int .i64 k ∧ InD w n0 a gg k u X wr)
  case atStart => exact ⟨0, _, rfl, by subst n0def; rw [← HD.out]; exact W0.out⟩
  case round =>
    obtain ⟨k, X, rfl, I⟩ := hrel
    have hkd : k ≤ 100000000 := by have := I.eq; have := HD.out; omega
    obtain ⟨a0, cap0, hu0, hl0, -⟩ := I.row.form
    have II := Lib.hid I
    clear I
    subst hu0
    rcases List.eq_nil_or_concat X with rfl | ⟨X', p, rfl⟩
    · have he := II.out.eq
      rw [List.map_nil, depLL, Nat.add_zero, HD.out] at he
      subst he
      have h0 : ([] : List LR).length = 0 := rfl
      go_wp2_with fail
      go_ret
      exact ⟨rfl, II.out.keep⟩
    · rw [List.concat_eq_append] at II ⊢
      obtain ⟨Y, hY⟩ : ∃ Y, X' ++ [p] = Y := ⟨_, rfl⟩
      have hne : 0 < Y.length := by rw [← hY]; simp
      rw [hY] at II ⊢
      clear hY
      have hb := below_any n0 Y (.slice a0 Y.length cap0) wr II.out.row II.out.low (by
        have h1 := lev_cnt (Y.map (·.la))
        have h2 := II.out.cnt
        omega)
      have hdl := dep_lev (Y.map (·.la)) (fun e => by rw [List.map_eq_nil_iff.1 e] at hne; exact absurd hne (by simp)) II.out.some
      have HB := Lib.hid (And.intro hb hdl)
      have hne' : (0 : Int) < Y.length := by omega
      clear hb hdl
      have w1 : IntKind.i64.wrap ((k : Int) + 1) = (k : Int) + 1 := by rw [IntKind.wrap_i64]; omega
      go_wp2_with fail
      refine HB.out.1.mono ?_
      rintro e w2 ⟨v', X2, rfl, hX2, hrow, hk2⟩
      have hg0 : 0 < gk := by have := II.out.dm; have := HB.out.2; omega
      have H2 := Lib.hid (show InD w n0 a (gk - 1) (k + 1) v' X2 w2 from by
        have I := II.out
        have h1 := HB.out.2
        have h2 := I.eq
        have h3 := I.dm
        have h4 := lev_cnt (Y.map (·.la))
        have h5 := I.cnt
        refine ⟨hrow, by rw [hX2]; omega, fun L hL => ?_, by rw [hX2]; omega, by rw [hX2]; omega, I.keep.trans hk2, by have := hk2.size; have := I.low; omega⟩
        rw [hX2] at hL
        exact lev_some _ L hL)
      clear hX2 hrow hk2
      go_wp2_with fail
      go_roundg (gk - 1)
      case measure => omega
      case rel => exact ⟨k + 1, X2, by go_num, H2.out⟩
end Go.Proofs.Ytgjmomiobffmdaa.P07
