/- The code's cat (layer 10). -/
import Derived.Test.YtfpijkcaceoboaaDoorKK36
import Derived.Test.YtfpijkcaceoboaaDoorKK29
import Derived.Test.YtfpijkcaceoboaaDoorKK12
import Derived.Test.YtfpijkcaceoboaaDoorKK30
namespace Go.Proofs.YtfpijkcaceoboaaDoor.P10
open Go.RowKit Go.Proofs.YtfpijkcaceoboaaDoor.Base Go.Proofs.YtfpijkcaceoboaaDoor.Bytes Go.Proofs.YtfpijkcaceoboaaDoor.P07 Go.Proofs.YtfpijkcaceoboaaDoor.P08
open Go.Proofs.YtfpijkcaceoboaaDoor.Sets (ST)

def not1 (t : T) : Bool := decide (t.kind ≠ 1)
theorem filter_take {p : T → Bool} {M : List T} {i : Nat} {t : T} (h : M[i]? = some t) : (M.take (i + 1)).filter p = (M.take i).filter p ++ (if p t = true then [t] else []) := by
  rw [List.take_add_one, h, List.filter_append]
  congr 1
  show List.filter p [t] = _
  split
  · rename_i h1
    exact List.filter_cons_of_pos h1
  · rename_i h1
    exact List.filter_cons_of_neg h1
theorem any_take {p : T → Bool} {M : List T} {i : Nat} {t : T} (h : M[i]? = some t) (h0 : (M.take i).any p = false) (h1 : p t = false) : (M.take (i + 1)).any p = false := by
  rw [List.take_add_one, h, List.any_append, h0]
  show (p t || false) = false
  rw [h1]
  rfl
theorem any_get {p : T → Bool} {M : List T} {i : Nat} {t : T} (h : M[i]? = some t) (h1 : p t = true) : M.any p = true := List.any_eq_true.2 ⟨t, List.mem_of_getElem? h, h1⟩
theorem len_filter_take (p : T → Bool) (M : List T) (i : Nat) : ((M.take i).filter p).length ≤ M.length := by
  have h1 := List.length_filter_le p (M.take i)
  rw [List.length_take] at h1
  omega
theorem lie_of {w W W' : World} {ok ok' : Nat → Prop} {L : List T} {a : Option Addr} {n : Nat} (h : Lie W' (fun k => ok' k ∨ W.heap.size ≤ k) a L) (hn : n < W.heap.size) (hw : w.heap.size ≤ W.heap.size) (hk : ∀ k, ok' k → (ok k ∨ w.heap.size ≤ k) ∧ k ≠ n) : Lie W' (fun k => (ok k ∨ w.heap.size ≤ k) ∧ k ≠ n) a L :=
  h.mono fun k h1 => by
    rcases h1 with h1 | h1
    · exact hk k h1
    · exact ⟨.inr (by omega), by omega⟩

end Go.Proofs.YtfpijkcaceoboaaDoor.P10
/- The code's isNeedless and rep (layer 10). -/
namespace Go.Proofs.YtfpijkcaceoboaaDoor.P10
open Go.RowKit Go.Proofs.YtfpijkcaceoboaaDoor.Base Go.Proofs.YtfpijkcaceoboaaDoor.Bytes Go.Proofs.YtfpijkcaceoboaaDoor.P07 Go.Proofs.YtfpijkcaceoboaaDoor.P08
open Go.Proofs.YtfpijkcaceoboaaDoor.Sets (ST)

def needB (t : T) : Bool := decide (t.kind = 5 ∧ (t.mn = 0 ∨ t.mn = 1) ∧ t.subs.length = 1) && !isSt t
/-- What comes behind the loop. -/
def repC (s : T) (lo hi : Int) : T :=
  if hi = 0 ∨ s.kind = 1 then epsT else if isNo s = true ∧ lo = 0 then epsT else if isNo s = true then noT else if (lo = 1 ∧ hi = 1) ∨ isSt s = true then s else .nd 5 ST.none lo hi [s]
theorem repP_star (s : T) : repP s 0 (-1) = starT s := by
  unfold repP
  rw [starT_eq]
  by_cases h : s.kind = 1 ∨ isNo s = true
  · rw [if_pos h, if_pos]
    rcases h with h | h
    · exact .inr (.inl h)
    · exact .inr (.inr ⟨h, rfl⟩)
  · rw [if_neg h, if_neg]
    · by_cases h2 : isSt s = true
      · rw [if_pos h2, if_pos (.inr (.inr h2))]
      · rw [if_neg h2, if_neg, if_pos ⟨rfl, rfl⟩]
        · rintro (h3 | h3 | h3)
          · exact h (.inr h3)
          · omega
          · exact h2 h3
    · rintro (h3 | h3 | h3)
      · omega
      · exact h (.inl h3)
      · exact h (.inr h3.1)
theorem need_sub {s : T} (h : needB s = true) : ∃ u, s.subs = [u] ∧ repP s 0 (-1) = repP u 0 (-1) ∧ s.kind = 5 := by
  unfold needB at h
  rw [Bool.and_eq_true, decide_eq_true_eq, Bool.not_eq_true'] at h
  obtain ⟨⟨h5, hm, hl⟩, hst⟩ := h
  obtain ⟨u, hu⟩ : ∃ u, s.subs = [u] := by
    match h9 : s.subs, hl with
    | [u], _ => exact ⟨u, rfl⟩
  refine ⟨u, hu, ?_, h5⟩
  rw [repP_star, repP_star, starT_eq, if_neg, if_neg (by rw [hst]; decide), if_pos ⟨h5, hm, hl⟩, hu, starH]
  rintro (h | h)
  · omega
  · have := is_no h
    omega

/-- Behind the loop. -/
structure Tl (w : World) (ok : Nat → Prop) (s : T) (a1 : Option Addr) (c1 : Nat) (lo hi : Int) (tt : T) (W : World) : Prop where
  rb : Rb w (w.heap.size + 1) W
  box : At W w.heap.size 27 (ncells s a1 c1)
  lie : Lie W (fun k => ok k ∧ k < w.heap.size) a1 s.subs
  le : s.subs.length ≤ c1
  sok : s.set.Ok
  eq : tt = repC s lo hi
theorem Tl.next {w : World} {ok : Nat → Prop} {s : T} {a1 : Option Addr} {c1 : Nat} {lo hi : Int} {tt : T} {W W' : World} (h : Tl w ok s a1 c1 lo hi tt W) (q : Keep (fun _ => False) W W') : Tl w ok s a1 c1 lo hi tt W' :=
  ⟨h.rb.next q, h.box.keep q (fun h => h), h.lie.keepF q, h.le, h.sok, h.eq⟩
theorem Tl.size {w : World} {ok : Nat → Prop} {s : T} {a1 : Option Addr} {c1 : Nat} {lo hi : Int} {tt : T} {W : World} (h : Tl w ok s a1 c1 lo hi tt W) : w.heap.size + 1 < W.heap.size := h.rb.out.lt
theorem Tl.far {w : World} {ok : Nat → Prop} {s : T} {a1 : Option Addr} {c1 : Nat} {lo hi : Int} {tt : T} {W : World} (h : Tl w ok s a1 c1 lo hi tt W) : Lie W (fun k => (ok k ∨ w.heap.size ≤ k) ∧ k ≠ w.heap.size + 1) a1 s.subs := h.lie.mono fun k hk => ⟨.inl hk.1, by omega⟩

theorem putNd_size (W : World) (g o : Nat) (t : T) (a : Option Addr) (c : Nat) : (putNd W g o t a c).heap.size = W.heap.size := by
  unfold putNd
  simp [World.setCell]
/-- A repetition of the node in a new block of its own. -/
theorem Rb.wrap {w : World} {n : Nat} {W : World} (h : Rb w n W) {ok : Nat → Prop} {s : T} {a : Option Addr} {c : Nat} (k : Int) (lo hi : Int) (hc : s.subs.length ≤ c) (hl : Lie W (fun k => (ok k ∨ w.heap.size ≤ k) ∧ k ≠ n) a s.subs) :
    At ((putNd W n 0 (.nd k ST.none lo hi [s]) (some ⟨W.heap.size, 0, none⟩) 1).alloc (.cells (ncells s a c) 27)) n 27 (ncells (.nd k ST.none lo hi [s]) (some ⟨W.heap.size, 0, none⟩) 1)
    ∧ Gives w ok (.nd k ST.none lo hi [s]) (.returned (nodeV (.nd k ST.none lo hi [s]) (some ⟨W.heap.size, 0, none⟩) 1)) ((putNd W n 0 (.nd k ST.none lo hi [s]) (some ⟨W.heap.size, 0, none⟩) 1).alloc (.cells (ncells s a c) 27)) := by
  have hk := h.put (.nd k ST.none lo hi [s]) (some ⟨W.heap.size, 0, none⟩) 1
  have hsz := putNd_size W n 0 (.nd k ST.none lo hi [s]) (some ⟨W.heap.size, 0, none⟩) 1
  have hn := h.out.lt
  have hw := h.keep.size
  have hl2 := hl.keep hk.2.2 (fun k hk e => hk.2 e)
  generalize (putNd W n 0 (.nd k ST.none lo hi [s]) (some ⟨W.heap.size, 0, none⟩) 1) = V at *
  have qa := (Keep.refl (fun _ => False) V).alloc (.cells (ncells s a c) 27)
  have hrow := At.new V (ncells s a c) 27
  rw [hsz] at hrow
  refine ⟨hk.1.alloc _, ⟨_, rfl, _, _, rfl, Nat.le_refl 1, lie_one hrow (.inr (by omega)) hc ((hl2.keepF qa).mono fun k hk => hk.1)⟩, hk.2.1.alloc _⟩

/-- In the loop. -/
structure Tw (w : World) (ok : Nat → Prop) (s : T) (a1 : Option Addr) (c1 : Nat) (d : Nat) (lo hi : Int) (tt : T) (W : World) : Prop where
  rb : Rb w (w.heap.size + 1) W
  box : At W w.heap.size 27 (ncells s a1 c1)
  lie : Lie W (fun k => ok k ∧ k < w.heap.size) a1 s.subs
  le : s.subs.length ≤ c1
  rt : RT d s
  eq : repP s lo hi = tt
theorem Tw.next {w : World} {ok : Nat → Prop} {s : T} {a1 : Option Addr} {c1 d : Nat} {lo hi : Int} {tt : T} {W W' : World} (h : Tw w ok s a1 c1 d lo hi tt W) (q : Keep (fun _ => False) W W') : Tw w ok s a1 c1 d lo hi tt W' :=
  ⟨h.rb.next q, h.box.keep q (fun h => h), h.lie.keepF q, h.le, h.rt, h.eq⟩
end Go.Proofs.YtfpijkcaceoboaaDoor.P10
/- The document's Cat (layer 10). -/
namespace Go.Proofs.YtfpijkcaceoboaaDoor.P10
open Go.RowKit Go.Proofs.YtfpijkcaceoboaaDoor.Base Go.Proofs.YtfpijkcaceoboaaDoor.Bytes Go.Proofs.YtfpijkcaceoboaaDoor.P07 Go.Proofs.YtfpijkcaceoboaaDoor.P08
open Go.Proofs.YtfpijkcaceoboaaDoor.Sets (ST)

set_option maxRecDepth 100000 in
set_option maxHeartbeats 8000000 in
theorem fcat_any (L : List T) (a : Option Addr) (cap : Nat) (ok : Nat → Prop) (w : World) (hL : Lie w ok a L) (hcnt : cntL L ≤ 500000) :
    Calls Tryd.prog 35 #[.slice a L.length cap] w (Gives w ok (catT L)) := by
  have r0 : Rb w w.heap.size (w.alloc (.cells nzeros 27)) := ⟨At.new w nzeros 27, (Keep.refl (fun _ => False) w).alloc _, Nat.le_refl _⟩
  have hM := unf_len 3 L L.length
  rw [List.take_length] at hM
  have hlen := len_cntL L
  have hL1 := hL.under.keepF r0.keep
  obtain ⟨M, hMe⟩ : ∃ M, unf 3 L = M := ⟨_, rfl⟩
  obtain ⟨tt, htt⟩ : ∃ tt, catT L = tt := ⟨_, rfl⟩
  rw [hMe] at hM
  rw [htt]
  unfold catT at htt
  rw [hMe] at htt
  have hLl : (L.length : Int) ≤ 500000 := by omega
  have HH := Lib.hid (And.intro htt hMe)
  have HM := Lib.hid (And.intro (show M.length ≤ 500000 by omega) hcnt)
  have HR := Lib.hid r0
  have HL := Lib.hid hL1
  clear hL r0 hM hL1 hMe htt hcnt hlen
  go_enter Tryd.func35, Tryd.ntmps35
  go_upto_region 1 with fail
  have hn := HR.out.out.lt
  generalize (w.alloc (.cells nzeros 27)) = W0 at *
  have HN0 := Lib.hid hn
  clear hn
  go_wp2_with fail
  go_loopg [3, 4] L.length (fun gg u i wr => ∃ j : Nat, i = .int .i64 j ∧ j + gg = L.length ∧ InU W0 (fun k => ok k ∧ k < w.heap.size) u (unf 3 (L.take j)) wr)
  case atStart => exact ⟨0, rfl, by omega, InU.start _ _⟩
  case round =>
    obtain ⟨j, rfl, hj, I⟩ := hrel
    have j0 : (0 : Int) ≤ j := by omega
    by_cases hlt : j < L.length
    · have hlt' : (j : Int) < L.length := by omega
      obtain ⟨t, ht⟩ : ∃ t, L[j]? = some t := ⟨L[j], List.getElem?_eq_getElem hlt⟩
      obtain ⟨bl, off, a1, c1, rfl, -, -, le1, L1, C1⟩ := (I.lie HL.out).get ht
      obtain ⟨x0, x1, x2, x3, x4, x5, x6, x7⟩ := ncell C1
      have L2 := L1.mono (ok' := fun j => (ok j ∧ j < w.heap.size) ∧ j < W0.heap.size) (fun k hk => hk)
      have II := Lib.hid (And.intro I (And.intro ht (And.intro L2 le1)))
      have hM := unf_len 3 L j
      have hts : t.subs.length ≤ 500000 := by
        have h1 := len_cntL t.subs
        have h2 := cntL_le ht
        have h3 := cnt_eq t
        have := HM.out.2
        omega
      have HS := Lib.hid (And.intro hM hts)
      clear I L1 L2 C1 ht hM hts
      by_cases hk : t.kind = 3
      · have hk' : (t.kind == 3) = true := by simpa using hk
        obtain ⟨v', w9, hrun, hI⟩ := II.out.1.append t.subs a1 c1 II.out.2.2.1 (by have := HS.out; have := HM.out.2; omega) 25
        have H9 := Lib.hid (show InU W0 (fun k => ok k ∧ k < w.heap.size) v' (unf 3 (L.take (j + 1))) w9 from by
          rw [unf_take II.out.2.1, if_pos hk]
          exact hI)
        clear hI hk
        go_wp2_with (at_builtin; refine Lib.wpList_append_run _ rfl _ _ _ _ rfl _ _ rfl rfl _ _ hrun ?_)
        clear hrun
        go_wp2_with fail
        go_roundg (L.length - (j + 1))
        case measure => omega
        case rel => exact ⟨j + 1, by go_num, by omega, H9.out⟩
      · have hk' : (t.kind == 3) = false := by simpa using hk
        obtain ⟨v', w9, hrun, hI⟩ := II.out.1.push t a1 c1 II.out.2.2.2 II.out.2.2.1 (by have := HS.out; have := HM.out.2; omega) 25
        have H9 := Lib.hid (show InU W0 (fun k => ok k ∧ k < w.heap.size) v' (unf 3 (L.take (j + 1))) w9 from by
          rw [unf_take II.out.2.1, if_neg hk]
          exact hI)
        clear hI hk
        go_wp2_with (at_builtin; refine Lib.wpList_append_run _ rfl _ _ _ _ rfl _ _ rfl rfl _ _ hrun ?_)
        clear hrun
        go_wp2_with fail
        go_roundg (L.length - (j + 1))
        case measure => omega
        case rel => exact ⟨j + 1, by go_num, by omega, H9.out⟩
    · have hje : j = L.length := by omega
      rw [hje, List.take_length, HH.out.2] at I
      have HJ := Lib.hid hje
      have R1 := Lib.hid (HR.out.next I.keep)
      obtain ⟨ra, rc, rfl, -, hl1⟩ := I.form
      have hsz := I.keep.size
      have HL1 := Lib.hid hl1
      have HN := Lib.hid (And.intro HN0.out hsz)
      have hMl : (M.length : Int) ≤ 500000 := by have := HM.out; omega
      generalize wr = W1 at *
      clear I hl1 hsz hje
      go_wp2_with fail
      go_loopg [5, 6] M.length (fun gg u i wr => ∃ j : Nat, i = .int .i64 j ∧ j + gg = M.length ∧ InU W1 (fun k => (ok k ∧ k < w.heap.size) ∨ W0.heap.size ≤ k) u ((M.take j).filter not1) wr ∧ (M.take j).any isNo = false)
      case atStart => exact ⟨0, rfl, by omega, InU.start _ _, rfl⟩
      case round =>
        obtain ⟨j, rfl, hj, I, hany⟩ := hrel
        have j0 : (0 : Int) ≤ j := by omega
        have HA := Lib.hid hany
        clear hany
        by_cases hlt : j < M.length
        · have hlt' : (j : Int) < M.length := by omega
          obtain ⟨t, ht⟩ : ∃ t, M[j]? = some t := ⟨M[j], List.getElem?_eq_getElem hlt⟩
          obtain ⟨bl, off, a1, c1, rfl, -, hbl, le1, L1, C1⟩ := (I.lie HL1.out).get ht
          obtain ⟨x0, x1, x2, x3, x4, x5, x6, x7⟩ := ncell C1
          have II := Lib.hid (And.intro I (And.intro ht (And.intro L1 (And.intro le1 (And.intro C1 hbl)))))
          clear I L1 C1 ht hbl
          go_wp2_with fail
          refine (fno_any t a1 c1 wr).mono ?_
          rintro e w2 ⟨rfl, q2⟩
          have J := Lib.hid (And.intro (II.out.1.next q2) (And.intro II.out.2.1 (And.intro (II.out.2.2.1.keepF q2) (And.intro II.out.2.2.2.1 (ncells_keep II.out.2.2.2.2.1 q2 II.out.2.2.2.2.2)))))
          clear q2 x0 x1 x2 x3 x4 x5 x6 x7
          cases hno : isNo t with
          | true =>
            have hT : tt = noT := by
              have h1 := HH.out.1
              rw [if_pos (any_get J.out.2.1 hno)] at h1
              exact h1.symm
            have HT := Lib.hid hT
            have R3 := Lib.hid (R1.out.next J.out.1.keep)
            clear hT hno
            obtain ⟨⟨d0, d1, d2, d3, d4, d5, d6, d7⟩, f0, f1, f2, f3, f4, f5, f6, f7⟩ := cells8 R3.out.out
            have hlt := R3.out.out.lt
            go_wp2_with fail
            change bodyPost _ _ _ _ _ (putNd (w2) (w.heap.size) 0 (noT) (none) (0))
            have hP := R3.out.put (noT) (none) (0)
            have hG := (by rw [HT.out]; exact R3.out.gives (ok := ok) (t := noT) (Nat.le_refl 0) (.nil none) : Gives w ok tt (.returned (nodeV noT none 0)) (putNd w2 w.heap.size 0 noT none 0))
            generalize (putNd (w2) (w.heap.size) 0 (noT) (none) (0)) = W9 at hP hG ⊢
            obtain ⟨⟨e0, e1, e2, e3, e4, e5, e6, e7⟩, -⟩ := cells8 hP.1
            exact bodyPost_ret (v := nodeV (noT) (none) (0)) (by simp [results, Tryd.results35, go_sem, e0, e1, e2, e3, e4, e5, e6, e7]) rfl hG
          | false =>
            obtain ⟨y0, y1, y2, y3, y4, y5, y6, y7⟩ := ncell J.out.2.2.2.2
            have HA2 := Lib.hid (any_take J.out.2.1 HA.out hno)
            have hlf := len_filter_take not1 M j
            by_cases hk : t.kind = 1
            · have hk' : (t.kind != 1) = false := by simpa using hk
              have HK := Lib.hid (show (M.take (j + 1)).filter not1 = (M.take j).filter not1 from by
                rw [filter_take J.out.2.1, if_neg (by unfold not1; simp [hk]), List.append_nil])
              clear hk hno hlf
              go_wp2_with fail
              go_roundg (M.length - (j + 1))
              case measure => omega
              case rel => exact ⟨j + 1, by go_num, by omega, by rw [HK.out]; exact J.out.1, HA2.out⟩
            · have hk' : (t.kind != 1) = true := by simpa using hk
              have HK := Lib.hid (show (M.take (j + 1)).filter not1 = (M.take j).filter not1 ++ [t] from by
                rw [filter_take J.out.2.1, if_pos (by unfold not1; simp [hk])])
              obtain ⟨v', w9, hrun, hI⟩ := J.out.1.push t a1 c1 J.out.2.2.2.1 (J.out.2.2.1) (by have := HM.out; omega) 25
              have H9 := Lib.hid hI
              clear hk hno hI hlf
              go_wp2_with (at_builtin; refine Lib.wpList_append_run _ rfl _ _ _ _ rfl _ _ rfl rfl _ _ hrun ?_)
              clear hrun
              go_wp2_with fail
              go_roundg (M.length - (j + 1))
              case measure => omega
              case rel => exact ⟨j + 1, by go_num, by omega, by rw [HK.out]; exact H9.out, HA2.out⟩
        · have II := Lib.hid I
          have hje : j = M.length := by omega
          have hT : tt = joinT 3 (M.filter not1) epsT := by
            have h1 := HH.out.1
            have h2 := HA.out
            rw [hje, List.take_length] at h2
            rw [if_neg (by rw [h2]; decide)] at h1
            exact h1.symm
          have HT := Lib.hid (And.intro hje hT)
          clear hje hT
          rw [HT.out.1, List.take_length] at I
          obtain ⟨fa, fc, hu, hfc, hlf⟩ := I.form
          have R3 := Lib.hid (R1.out.next I.keep)
          have hn2 := HN.out.1
          have hn3 := HN.out.2
          have hn4 := I.keep.size
          have HC := Lib.hid (fof_any 3 (M.filter not1) fa fc epsT none 0 (fun k => (ok k ∨ w.heap.size ≤ k) ∧ k ≠ w.heap.size) wr (hlf.mono fun k hk => by
            rcases hk with (hk | hk) | hk
            · exact ⟨.inl hk.1, by omega⟩
            · exact ⟨.inr (by omega), by omega⟩
            · exact ⟨.inr (by omega), by omega⟩) hfc (.nil none) (Nat.le_refl 0))
          subst hu
          clear hlf I
          go_wp2_with fail
          refine HC.out.mono ?_
          rintro e w4 ⟨⟨v, rfl, ja, jc, rfl, hle, hlie⟩, q4⟩
          have R4 := Lib.hid (R3.out.next q4)
          have HE := Lib.hid (And.intro hle (lie_of (w := w) (ok := ok) (n := w.heap.size) hlie (by omega) (by omega) (fun k h => h)))
          rw [← HT.out.2] at HE
          clear q4 hlie hle hn2 hn3 hn4
          generalize joinT 3 (M.filter not1) epsT = tj at *
          obtain ⟨⟨d0, d1, d2, d3, d4, d5, d6, d7⟩, f0, f1, f2, f3, f4, f5, f6, f7⟩ := cells8 R4.out.out
          have hlt := R4.out.out.lt
          go_wp2_with fail
          change bodyPost _ _ _ _ _ (putNd (w4) (w.heap.size) 0 (tj) (ja) (jc))
          have hP := R4.out.put (tj) (ja) (jc)
          have hG := (by rw [← HT.out.2]; exact R4.out.gives (ok := ok) HE.out.1 HE.out.2 : Gives w ok tt (.returned (nodeV tj ja jc)) (putNd w4 w.heap.size 0 tj ja jc))
          generalize (putNd (w4) (w.heap.size) 0 (tj) (ja) (jc)) = W9 at hP hG ⊢
          obtain ⟨⟨e0, e1, e2, e3, e4, e5, e6, e7⟩, -⟩ := cells8 hP.1
          exact bodyPost_ret (v := nodeV (tj) (ja) (jc)) (by simp [results, Tryd.results35, go_sem, e0, e1, e2, e3, e4, e5, e6, e7]) rfl hG
end Go.Proofs.YtfpijkcaceoboaaDoor.P10
/- The document's Rep (layer 10). -/
namespace Go.Proofs.YtfpijkcaceoboaaDoor.P10
open Go.RowKit Go.Proofs.YtfpijkcaceoboaaDoor.Base Go.Proofs.YtfpijkcaceoboaaDoor.Bytes Go.Proofs.YtfpijkcaceoboaaDoor.P07 Go.Proofs.YtfpijkcaceoboaaDoor.P08
open Go.Proofs.YtfpijkcaceoboaaDoor.Sets (ST)

/-- What the document's Rep does. -/
def FRepOk (t : T) : Prop := ∀ (lo hi : Int) (a : Option Addr) (c : Nat) (ok : Nat → Prop) (w : World), Lie w ok a t.subs → t.subs.length ≤ c →
  Calls Tryd.prog 37 #[nodeV t a c, .int .i64 lo, .int .i64 hi] w (Gives w ok (repP t lo hi))
def t1B (t : T) (lo hi : Int) : Bool := decide (hi = 0) || (decide (t.kind = 1) || (isNo t && decide (lo = 0)))
def t2B (t : T) (lo hi : Int) : Bool := isNo t || ((decide (lo = 1) && decide (hi = 1)) || isSt t)
def t3B (t : T) (lo hi : Int) : Bool := decide (lo = 0) && (decide (hi = -1) && (decide (t.kind = 5) && (decide (t.mn ≤ 1) && (decide (t.mn ≥ 0) && decide (t.subs.length = 1)))))
theorem rep_1 {t : T} {lo hi : Int} (h : t1B t lo hi = true) : repP t lo hi = epsT := by
  unfold t1B at h
  simp only [Bool.or_eq_true, Bool.and_eq_true, decide_eq_true_eq] at h
  unfold repP
  rw [if_pos h]
theorem rep_2 {t : T} {lo hi : Int} (h1 : t1B t lo hi = false) (h : t2B t lo hi = true) : repP t lo hi = t := by
  have h1 : ¬ t1B t lo hi = true := by rw [h1]; decide
  unfold t1B at h1
  unfold t2B at h
  simp only [Bool.or_eq_true, Bool.and_eq_true, decide_eq_true_eq] at h h1
  unfold repP
  rw [if_neg h1, if_pos h]
theorem rep_3 {t : T} {lo hi : Int} (h1 : t1B t lo hi = false) (h2 : t2B t lo hi = false) (h : t3B t lo hi = true) : ∃ u, t.subs = [u] ∧ repP t lo hi = repP u 0 (-1) := by
  have h1 : ¬ t1B t lo hi = true := by rw [h1]; decide
  have h2 : ¬ t2B t lo hi = true := by rw [h2]; decide
  unfold t3B at h
  unfold t2B at h2
  simp only [Bool.or_eq_true, Bool.and_eq_true, decide_eq_true_eq, not_or] at h h2
  obtain ⟨rfl, rfl, h5, h6, h7, h8⟩ := h
  have hn : needB t = true := by
    unfold needB
    rw [decide_eq_true ⟨h5, by omega, h8⟩, Bool.true_and]
    cases e : isSt t with
    | false => rfl
    | true => exact absurd e h2.2.2
  obtain ⟨u, hu, he, -⟩ := need_sub hn
  exact ⟨u, hu, he⟩
theorem rep_4 {t : T} {lo hi : Int} (h1 : t1B t lo hi = false) (h2 : t2B t lo hi = false) (h : t3B t lo hi = false) : repP t lo hi = .nd 5 ST.none lo hi [t] := by
  have h1 : ¬ t1B t lo hi = true := by rw [h1]; decide
  have h2 : ¬ t2B t lo hi = true := by rw [h2]; decide
  have h3 : ¬ t3B t lo hi = true := by rw [h]; decide
  unfold t1B at h1
  unfold t2B at h2
  unfold t3B at h3
  simp only [Bool.or_eq_true, Bool.and_eq_true, decide_eq_true_eq] at h1 h2 h3
  unfold repP
  rw [if_neg h1, if_neg h2]
  split
  · rename_i h4
    rw [starT_eq, if_neg (fun h => by rcases h with h | h; exact h1 (.inr (.inl h)); exact h2 (.inl h)), if_neg (fun h => h2 (.inr (.inr h))), if_neg, h4.1, h4.2]
    intro h5
    exact h3 ⟨h4.1, h4.2, h5.1, by omega, by omega, h5.2.2⟩
  · rfl

set_option maxRecDepth 100000 in
set_option maxHeartbeats 8000000 in
theorem frep_step (n : Nat) (ih : ∀ t : T, SizeOf.sizeOf t < n → FRepOk t) (t : T) (hsz : SizeOf.sizeOf t < n + 1) : FRepOk t := by
  intro lo hi a c ok w hL hc
  obtain ⟨tt, htt⟩ : ∃ tt, repP t lo hi = tt := ⟨_, rfl⟩
  rw [htt]
  have b0 := (At.new w (ncells t a c) 27).alloc (.cells nzeros 27)
  have r0 : Rb w (w.heap.size + 1) ((w.alloc (.cells (ncells t a c) 27)).alloc (.cells nzeros 27)) := by
    refine ⟨?_, ((Keep.refl (fun _ => False) w).alloc _).alloc _, by omega⟩
    have := At.new (w.alloc (.cells (ncells t a c) 27)) nzeros 27
    rw [show (w.alloc (.cells (ncells t a c) 27)).heap.size = w.heap.size + 1 from by simp] at this
    exact this
  have hl0 := hL.under.keepF r0.keep
  have hlen := hL.len
  have HTT := Lib.hid (And.intro htt (And.intro ih hsz))
  have H0 := Lib.hid (And.intro r0 (And.intro b0 (And.intro hl0 hc)))
  clear r0 b0 hl0 hL hc htt ih hsz
  go_enter Tryd.func37, Tryd.ntmps37
  go_upto_region 1 with fail
  generalize ((w.alloc (.cells (ncells t a c) 27)).alloc (.cells nzeros 27)) = W at *
  obtain ⟨⟨y0, y1, y2, y3, y4, y5, y6, y7⟩, -⟩ := cells8 H0.out.2.1
  obtain ⟨x1, hx1⟩ : ∃ x, t1B t lo hi = x := ⟨_, rfl⟩
  have HX1 := Lib.hid hx1
  clear hx1
  go_cut [21] (fun x wx => x = .bool x1 ∧ Keep (fun _ => False) W wx)
  case first =>
    by_cases h0 : hi = 0
    · have hb : (hi == 0) = true := by simpa using h0
      have HX := Lib.hid (show x1 = true by rw [← HX1.out]; unfold t1B; rw [decide_eq_true h0]; rfl)
      clear h0
      go_wp2_with fail
      go_meet
      case rel => exact ⟨by rw [HX.out], Keep.refl _ _⟩
    have hb : (hi == 0) = false := by simpa using h0
    by_cases h1 : t.kind = 1
    · have hb1 : (t.kind == 1) = true := by simpa using h1
      have HX := Lib.hid (show x1 = true by rw [← HX1.out]; unfold t1B; rw [decide_eq_true h1, Bool.true_or, Bool.or_true])
      clear h0 h1
      go_wp2_with fail
      go_meet
      case rel => exact ⟨by rw [HX.out], Keep.refl _ _⟩
    have hb1 : (t.kind == 1) = false := by simpa using h1
    have HX := Lib.hid (show x1 = (isNo t && decide (lo = 0)) by rw [← HX1.out]; unfold t1B; rw [decide_eq_false h0, decide_eq_false h1]; rfl)
    clear h0 h1
    go_wp2_with fail
    refine (fno_any t a c W).mono ?_
    rintro e w2 ⟨rfl, q2⟩
    have Q2 := Lib.hid q2
    clear q2
    cases hno : isNo t with
    | true =>
      rw [hno] at HX
      clear hno
      by_cases hlo : lo = 0
      · have hbl : (lo == 0) = true := by simpa using hlo
        have HX2 := Lib.hid (show x1 = true by rw [HX.out, decide_eq_true hlo]; rfl)
        clear hlo
        go_wp2_with fail
        go_meet
        case rel => exact ⟨by rw [HX2.out], Q2.out⟩
      · have hbl : (lo == 0) = false := by simpa using hlo
        have HX2 := Lib.hid (show x1 = false by rw [HX.out, decide_eq_false hlo]; rfl)
        clear hlo
        go_wp2_with fail
        go_meet
        case rel => exact ⟨by rw [HX2.out], Q2.out⟩
    | false =>
      rw [hno] at HX
      clear hno
      go_wp2_with fail
      go_meet
      case rel => exact ⟨by rw [HX.out]; rfl, Q2.out⟩
  case rest =>
    obtain ⟨rfl, qc⟩ := hcut
    have J := Lib.hid (And.intro (H0.out.1.next qc) (And.intro (H0.out.2.1.keep qc (fun h => h)) (And.intro (H0.out.2.2.1.keepF qc) H0.out.2.2.2)))
    clear y0 y1 y2 y3 y4 y5 y6 y7 qc
    generalize wc = W1 at *
    cases x1 with
    | true =>
      have HT := Lib.hid (show tt = epsT by rw [← HTT.out.1]; exact rep_1 HX1.out)
      obtain ⟨⟨d0, d1, d2, d3, d4, d5, d6, d7⟩, f0, f1, f2, f3, f4, f5, f6, f7⟩ := cells8 J.out.1.out
      have hltr := J.out.1.out.lt
      go_wp2_with fail
      change bodyPost _ _ _ _ _ (putNd (W1) (w.heap.size + 1) 0 (epsT) (none) (0))
      have hP := J.out.1.put (epsT) (none) (0)
      have hG := (by rw [HT.out]; exact J.out.1.gives (ok := ok) (t := epsT) (Nat.le_refl 0) (.nil none) : Gives w ok tt (.returned (nodeV (epsT) (none) (0))) (putNd (W1) (w.heap.size + 1) 0 (epsT) (none) (0)))
      generalize (putNd (W1) (w.heap.size + 1) 0 (epsT) (none) (0)) = W9 at hP hG ⊢
      obtain ⟨⟨e0, e1, e2, e3, e4, e5, e6, e7⟩, -⟩ := cells8 hP.1
      exact bodyPost_ret (v := nodeV (epsT) (none) (0)) (by simp [results, Tryd.results37, go_sem, e0, e1, e2, e3, e4, e5, e6, e7]) rfl hG
    | false =>
      obtain ⟨⟨y0, y1, y2, y3, y4, y5, y6, y7⟩, -⟩ := cells8 J.out.2.1
      obtain ⟨x2, hx2⟩ : ∃ x, t2B t lo hi = x := ⟨_, rfl⟩
      have HX2 := Lib.hid hx2
      clear hx2
      go_upto_region 3 with fail
      go_cut [47] (fun x wx => x = .bool x2 ∧ Keep (fun _ => False) W1 wx)
      case first =>
        go_wp2_with fail
        refine (fno_any t a c W1).mono ?_
        rintro e w2 ⟨rfl, q2⟩
        obtain ⟨⟨z0, z1, z2, z3, z4, z5, z6, z7⟩, -⟩ := cells8 (J.out.2.1.keep q2 (fun h => h))
        have Q2 := Lib.hid q2
        clear q2
        cases hno : isNo t with
        | true =>
          have HX := Lib.hid (show x2 = true by rw [← HX2.out]; unfold t2B; rw [hno]; rfl)
          clear hno
          go_wp2_with fail
          go_meet
          case rel => exact ⟨by rw [HX.out], Q2.out⟩
        | false =>
          have HX := Lib.hid (show x2 = ((decide (lo = 1) && decide (hi = 1)) || (decide (t.kind = 5) && (decide (t.mn = 0) && decide (t.mx = -1)))) by rw [← HX2.out]; unfold t2B isSt; rw [hno, Bool.decide_and, Bool.decide_and]; rfl)
          clear hno
          by_cases hp0 : lo = 1
          · have hq0 : (lo == 1) = true := by simpa using hp0
            have HB0 := Lib.hid (decide_eq_true hp0)
            clear hp0
            by_cases hp1 : hi = 1
            · have hq1 : (hi == 1) = true := by simpa using hp1
              have HB1 := Lib.hid (decide_eq_true hp1)
              clear hp1
              go_wp2_with fail
              go_meet
              case rel => exact ⟨by rw [HX.out]; simp only [HB0.out, HB1.out]; try rfl, Q2.out⟩
            · have hq1 : (hi == 1) = false := by simpa using hp1
              have HB1 := Lib.hid (decide_eq_false hp1)
              clear hp1
              by_cases hp2 : t.kind = 5
              · have hq2 : (t.kind == 5) = true := by simpa using hp2
                have HB2 := Lib.hid (decide_eq_true hp2)
                clear hp2
                by_cases hp3 : t.mn = 0
                · have hq3 : (t.mn == 0) = true := by simpa using hp3
                  have HB3 := Lib.hid (decide_eq_true hp3)
                  clear hp3
                  by_cases hp4 : t.mx = -1
                  · have hq4 : (t.mx == -1) = true := by simpa using hp4
                    have HB4 := Lib.hid (decide_eq_true hp4)
                    clear hp4
                    go_wp2_with fail
                    go_meet
                    case rel => exact ⟨by rw [HX.out]; simp only [HB0.out, HB1.out, HB2.out, HB3.out, HB4.out]; try rfl, Q2.out⟩
                  · have hq4 : (t.mx == -1) = false := by simpa using hp4
                    have HB4 := Lib.hid (decide_eq_false hp4)
                    clear hp4
                    go_wp2_with fail
                    go_meet
                    case rel => exact ⟨by rw [HX.out]; simp only [HB0.out, HB1.out, HB2.out, HB3.out, HB4.out]; try rfl, Q2.out⟩
                · have hq3 : (t.mn == 0) = false := by simpa using hp3
                  have HB3 := Lib.hid (decide_eq_false hp3)
                  clear hp3
                  go_wp2_with fail
                  go_meet
                  case rel => exact ⟨by rw [HX.out]; simp only [HB0.out, HB1.out, HB2.out, HB3.out]; try rfl, Q2.out⟩
              · have hq2 : (t.kind == 5) = false := by simpa using hp2
                have HB2 := Lib.hid (decide_eq_false hp2)
                clear hp2
                go_wp2_with fail
                go_meet
                case rel => exact ⟨by rw [HX.out]; simp only [HB0.out, HB1.out, HB2.out]; try rfl, Q2.out⟩
          · have hq0 : (lo == 1) = false := by simpa using hp0
            have HB0 := Lib.hid (decide_eq_false hp0)
            clear hp0
            by_cases hp2 : t.kind = 5
            · have hq2 : (t.kind == 5) = true := by simpa using hp2
              have HB2 := Lib.hid (decide_eq_true hp2)
              clear hp2
              by_cases hp3 : t.mn = 0
              · have hq3 : (t.mn == 0) = true := by simpa using hp3
                have HB3 := Lib.hid (decide_eq_true hp3)
                clear hp3
                by_cases hp4 : t.mx = -1
                · have hq4 : (t.mx == -1) = true := by simpa using hp4
                  have HB4 := Lib.hid (decide_eq_true hp4)
                  clear hp4
                  go_wp2_with fail
                  go_meet
                  case rel => exact ⟨by rw [HX.out]; simp only [HB0.out, HB2.out, HB3.out, HB4.out]; try rfl, Q2.out⟩
                · have hq4 : (t.mx == -1) = false := by simpa using hp4
                  have HB4 := Lib.hid (decide_eq_false hp4)
                  clear hp4
                  go_wp2_with fail
                  go_meet
                  case rel => exact ⟨by rw [HX.out]; simp only [HB0.out, HB2.out, HB3.out, HB4.out]; try rfl, Q2.out⟩
              · have hq3 : (t.mn == 0) = false := by simpa using hp3
                have HB3 := Lib.hid (decide_eq_false hp3)
                clear hp3
                go_wp2_with fail
                go_meet
                case rel => exact ⟨by rw [HX.out]; simp only [HB0.out, HB2.out, HB3.out]; try rfl, Q2.out⟩
            · have hq2 : (t.kind == 5) = false := by simpa using hp2
              have HB2 := Lib.hid (decide_eq_false hp2)
              clear hp2
              go_wp2_with fail
              go_meet
              case rel => exact ⟨by rw [HX.out]; simp only [HB0.out, HB2.out]; try rfl, Q2.out⟩
      case rest =>
        obtain ⟨rfl, qc⟩ := hcut
        replace J := Lib.hid (And.intro (J.out.1.next qc) (And.intro (J.out.2.1.keep qc (fun h => h)) (And.intro (J.out.2.2.1.keepF qc) J.out.2.2.2)))
        clear y0 y1 y2 y3 y4 y5 y6 y7 qc
        generalize wc = W2 at *
        obtain ⟨⟨y0, y1, y2, y3, y4, y5, y6, y7⟩, -⟩ := cells8 J.out.2.1
        cases x2 with
        | true =>
          have HT := Lib.hid (show tt = t by rw [← HTT.out.1]; exact rep_2 HX1.out HX2.out)
          obtain ⟨⟨d0, d1, d2, d3, d4, d5, d6, d7⟩, f0, f1, f2, f3, f4, f5, f6, f7⟩ := cells8 J.out.1.out
          have hltr := J.out.1.out.lt
          go_wp2_with fail
          change bodyPost _ _ _ _ _ (putNd (W2) (w.heap.size + 1) 0 (t) (a) (c))
          have hP := J.out.1.put (t) (a) (c)
          have hG := (by rw [HT.out]; exact J.out.1.gives (ok := ok) (t := t) J.out.2.2.2 (J.out.2.2.1.mono fun k hk => ⟨.inl hk.1, by omega⟩) : Gives w ok tt (.returned (nodeV (t) (a) (c))) (putNd (W2) (w.heap.size + 1) 0 (t) (a) (c)))
          generalize (putNd (W2) (w.heap.size + 1) 0 (t) (a) (c)) = W9 at hP hG ⊢
          obtain ⟨⟨e0, e1, e2, e3, e4, e5, e6, e7⟩, -⟩ := cells8 hP.1
          exact bodyPost_ret (v := nodeV (t) (a) (c)) (by simp [results, Tryd.results37, go_sem, e0, e1, e2, e3, e4, e5, e6, e7]) rfl hG
        | false =>
          obtain ⟨x3, hx3⟩ : ∃ x, t3B t lo hi = x := ⟨_, rfl⟩
          have HX3 := Lib.hid hx3
          clear hx3
          go_upto_region 5 with fail
          go_cut [75] (fun x wx => x = .bool x3 ∧ Keep (fun _ => False) W2 wx)
          case first =>
            have HX := Lib.hid (show x3 = (decide (lo = 0) && (decide (hi = -1) && (decide (t.kind = 5) && (decide (t.mn ≤ 1) && (decide (t.mn ≥ 0) && decide (t.subs.length = 1)))))) from HX3.out.symm)
            by_cases hp0 : lo = 0
            · have hq0 : (lo == 0) = true := by simpa using hp0
              have HB0 := Lib.hid (decide_eq_true hp0)
              clear hp0
              by_cases hp1 : hi = -1
              · have hq1 : (hi == -1) = true := by simpa using hp1
                have HB1 := Lib.hid (decide_eq_true hp1)
                clear hp1
                by_cases hp2 : t.kind = 5
                · have hq2 : (t.kind == 5) = true := by simpa using hp2
                  have HB2 := Lib.hid (decide_eq_true hp2)
                  clear hp2
                  by_cases hp3 : t.mn ≤ 1
                  · have hq3 : t.mn ≤ 1 := hp3
                    have HB3 := Lib.hid (decide_eq_true hp3)
                    clear hp3
                    by_cases hp4 : t.mn ≥ 0
                    · have hq4 : t.mn ≥ 0 := hp4
                      have HB4 := Lib.hid (decide_eq_true hp4)
                      clear hp4
                      by_cases hp5 : t.subs.length = 1
                      · have hq5 : ((t.subs.length : Int) == 1) = true := by simp; omega
                        have HB5 := Lib.hid (decide_eq_true hp5)
                        clear hp5
                        go_wp2_with fail
                        go_meet
                        case rel => exact ⟨by rw [HX.out]; simp only [HB0.out, HB1.out, HB2.out, HB3.out, HB4.out, HB5.out]; try rfl, Keep.refl _ _⟩
                      · have hq5 : ((t.subs.length : Int) == 1) = false := by simp; omega
                        have HB5 := Lib.hid (decide_eq_false hp5)
                        clear hp5
                        go_wp2_with fail
                        go_meet
                        case rel => exact ⟨by rw [HX.out]; simp only [HB0.out, HB1.out, HB2.out, HB3.out, HB4.out, HB5.out]; try rfl, Keep.refl _ _⟩
                    · have hq4 : ¬ t.mn ≥ 0 := hp4
                      have HB4 := Lib.hid (decide_eq_false hp4)
                      clear hp4
                      go_wp2_with fail
                      go_meet
                      case rel => exact ⟨by rw [HX.out]; simp only [HB0.out, HB1.out, HB2.out, HB3.out, HB4.out]; try rfl, Keep.refl _ _⟩
                  · have hq3 : ¬ t.mn ≤ 1 := hp3
                    have HB3 := Lib.hid (decide_eq_false hp3)
                    clear hp3
                    go_wp2_with fail
                    go_meet
                    case rel => exact ⟨by rw [HX.out]; simp only [HB0.out, HB1.out, HB2.out, HB3.out]; try rfl, Keep.refl _ _⟩
                · have hq2 : (t.kind == 5) = false := by simpa using hp2
                  have HB2 := Lib.hid (decide_eq_false hp2)
                  clear hp2
                  go_wp2_with fail
                  go_meet
                  case rel => exact ⟨by rw [HX.out]; simp only [HB0.out, HB1.out, HB2.out]; try rfl, Keep.refl _ _⟩
              · have hq1 : (hi == -1) = false := by simpa using hp1
                have HB1 := Lib.hid (decide_eq_false hp1)
                clear hp1
                go_wp2_with fail
                go_meet
                case rel => exact ⟨by rw [HX.out]; simp only [HB0.out, HB1.out]; try rfl, Keep.refl _ _⟩
            · have hq0 : (lo == 0) = false := by simpa using hp0
              have HB0 := Lib.hid (decide_eq_false hp0)
              clear hp0
              go_wp2_with fail
              go_meet
              case rel => exact ⟨by rw [HX.out]; simp only [HB0.out]; try rfl, Keep.refl _ _⟩
          case rest =>
            obtain ⟨rfl, qc⟩ := hcut
            replace J := Lib.hid (And.intro (J.out.1.next qc) (And.intro (J.out.2.1.keep qc (fun h => h)) (And.intro (J.out.2.2.1.keepF qc) J.out.2.2.2)))
            clear y0 y1 y2 y3 y4 y5 y6 y7 qc
            generalize wc = W3 at *
            obtain ⟨⟨y0, y1, y2, y3, y4, y5, y6, y7⟩, -⟩ := cells8 J.out.2.1
            cases x3 with
            | true =>
              obtain ⟨u, hu, he⟩ := rep_3 HX1.out HX2.out HX3.out
              have hl1 : t.subs.length = 1 := by rw [hu]; rfl
              obtain ⟨bl, off, a2, c2, rfl, -, -, le2, L2, C2⟩ := J.out.2.2.1.get (i := 0) (t := u) (by rw [hu]; rfl)
              obtain ⟨z0, z1, z2, z3, z4, z5, z6, z7⟩ := ncell C2
              rw [Nat.zero_mul, Nat.add_zero] at z0 z1 z2 z3 z4 z5 z6 z7
              have HC := Lib.hid (HTT.out.2.1 u (by have := sub_less (a := t) (i := 0) (t := u) (by rw [hu]; rfl); have := HTT.out.2.2; omega) 0 (-1) a2 c2 (fun k => ok k ∧ k < w.heap.size) W3 L2 le2)
              have HT := Lib.hid (show tt = repP u 0 (-1) by rw [← HTT.out.1]; exact he)
              rw [hl1] at y7
              clear C2 L2 hu he hl1 le2
              go_wp2_with fail
              refine HC.out.mono ?_
              rintro e w4 ⟨⟨v, rfl, ja, jc, rfl, hle, hlie⟩, q4⟩
              have hn2 := J.out.1.out.lt
              have HE := Lib.hid (And.intro hle (lie_of (w := w) (ok := ok) (n := w.heap.size + 1) hlie (by omega) (by omega) (fun k h => ⟨.inl h.1, by omega⟩)))
              replace J := Lib.hid (And.intro (J.out.1.next q4) J.out.2.2.2)
              clear q4 hlie hle hn2 y0 y1 y2 y3 y4 y5 y6 y7 z0 z1 z2 z3 z4 z5 z6 z7
              generalize repP u 0 (-1) = tj at *
              obtain ⟨⟨d0, d1, d2, d3, d4, d5, d6, d7⟩, f0, f1, f2, f3, f4, f5, f6, f7⟩ := cells8 J.out.1.out
              have hltr := J.out.1.out.lt
              go_wp2_with fail
              change bodyPost _ _ _ _ _ (putNd (w4) (w.heap.size + 1) 0 (tj) (ja) (jc))
              have hP := J.out.1.put (tj) (ja) (jc)
              have hG := (by rw [HT.out]; exact J.out.1.gives (ok := ok) (t := tj) HE.out.1 HE.out.2 : Gives w ok tt (.returned (nodeV (tj) (ja) (jc))) (putNd (w4) (w.heap.size + 1) 0 (tj) (ja) (jc)))
              generalize (putNd (w4) (w.heap.size + 1) 0 (tj) (ja) (jc)) = W9 at hP hG ⊢
              obtain ⟨⟨e0, e1, e2, e3, e4, e5, e6, e7⟩, -⟩ := cells8 hP.1
              exact bodyPost_ret (v := nodeV (tj) (ja) (jc)) (by simp [results, Tryd.results37, go_sem, e0, e1, e2, e3, e4, e5, e6, e7]) rfl hG
            | false =>
              have HT := Lib.hid (show tt = .nd 5 ST.none lo hi [t] by rw [← HTT.out.1]; exact rep_4 HX1.out HX2.out HX3.out)
              have hG := J.out.1.wrap (ok := ok) 5 lo hi J.out.2.2.2 (J.out.2.2.1.mono fun k hk => ⟨.inl hk.1, by omega⟩)
              have HG := Lib.hid hG
              clear hG
              obtain ⟨⟨d0, d1, d2, d3, d4, d5, d6, d7⟩, f0, f1, f2, f3, f4, f5, f6, f7⟩ := cells8 J.out.1.out
              have hltr := J.out.1.out.lt
              go_wp2_with fail

              change bodyPost _ _ _ _ _ ((putNd W3 (w.heap.size + 1) 0 (.nd 5 ST.none lo hi [t]) (some ⟨W3.heap.size, 0, none⟩) 1).alloc (.cells (ncells t a c) 27))
              have hP := HG.out.1
              have hG : Gives w ok tt (.returned (nodeV (.nd 5 ST.none lo hi [t]) (some ⟨W3.heap.size, 0, none⟩) 1)) ((putNd W3 (w.heap.size + 1) 0 (.nd 5 ST.none lo hi [t]) (some ⟨W3.heap.size, 0, none⟩) 1).alloc (.cells (ncells t a c) 27)) := by rw [HT.out]; exact HG.out.2
              generalize ((putNd W3 (w.heap.size + 1) 0 (.nd 5 ST.none lo hi [t]) (some ⟨W3.heap.size, 0, none⟩) 1).alloc (.cells (ncells t a c) 27)) = W9 at hP hG ⊢
              obtain ⟨⟨e0, e1, e2, e3, e4, e5, e6, e7⟩, -⟩ := cells8 hP
              exact bodyPost_ret (v := nodeV (.nd 5 ST.none lo hi [t]) (some ⟨W3.heap.size, 0, none⟩) 1) (by simp [results, Tryd.results37, go_sem, e0, e1, e2, e3, e4, e5, e6, e7]) rfl hG
theorem frep_all : ∀ (n : Nat) (t : T), SizeOf.sizeOf t < n → FRepOk t
  | 0, _, h => absurd h (Nat.not_lt_zero _)
  | n + 1, t, h => frep_step n (frep_all n) t h
theorem frep_any (t : T) : FRepOk t := frep_all _ t (Nat.lt_succ_self _)
end Go.Proofs.YtfpijkcaceoboaaDoor.P10
/- The code's copied (layer 10), plain and in memory: whatever lay somewhere still does when a node's parts are told to lie in a new row that is alike. -/
namespace Go.Proofs.YtfpijkcaceoboaaDoor.P10
open Go.RowKit Go.Proofs.YtfpijkcaceoboaaDoor.Base Go.Proofs.YtfpijkcaceoboaaDoor.Bytes Go.Proofs.YtfpijkcaceoboaaDoor.P07 Go.Proofs.YtfpijkcaceoboaaDoor.P08
open Go.Proofs.YtfpijkcaceoboaaDoor.Sets (ST)

theorem set_ext {s t : ST} (h0 : (s.x0 : Int) = t.x0) (h1 : (s.x1 : Int) = t.x1) (h2 : (s.x2 : Int) = t.x2) (h3 : (s.x3 : Int) = t.x3) : s = t := by
  obtain ⟨a0, a1, a2, a3⟩ := s
  obtain ⟨b0, b1, b2, b3⟩ := t
  simp only at h0 h1 h2 h3
  have e0 : a0 = b0 := by omega
  have e1 : a1 = b1 := by omega
  have e2 : a2 = b2 := by omega
  have e3 : a3 = b3 := by omega
  rw [e0, e1, e2, e3]
theorem cell_eq {w : World} {a : Addr} {u v : Value} (h1 : w.cell? a = some u) (h2 : w.cell? a = some v) : u = v := by
  rw [h1] at h2
  injection h2
/-- The cells tell the nodes. -/
theorem lie_det {w : World} {ok ok' : Nat → Prop} {a : Option Addr} {L : List T} (h : Lie w ok a L) : ∀ {M : List T}, Lie w ok' a M → L.length = M.length → L = M := by
  induction h with
  | nil a =>
    intro M _ hl
    exact (List.eq_nil_of_length_eq_zero hl.symm).symm
  | cons bl off L A C hL hb hok hC hc hs ih =>
    intro M hM hl
    apply List.ext_getElem?
    intro i
    by_cases hi : i < L.length
    · obtain ⟨t, ht⟩ : ∃ t, L[i]? = some t := ⟨L[i], List.getElem?_eq_getElem hi⟩
      obtain ⟨s, hsm⟩ : ∃ s, M[i]? = some s := ⟨M[i]'(by omega), List.getElem?_eq_getElem (by omega)⟩
      obtain ⟨bl', off', a', c', e, -, -, -, L', C'⟩ := hM.get hsm
      injection e with e
      injection e with e1 e2
      subst e1 e2
      have e0 := cell_eq (hc i t ht 0 _ rfl) (C' 0 _ rfl)
      have e1 := cell_eq (hc i t ht 1 _ rfl) (C' 1 _ rfl)
      have e2 := cell_eq (hc i t ht 2 _ rfl) (C' 2 _ rfl)
      have e3 := cell_eq (hc i t ht 3 _ rfl) (C' 3 _ rfl)
      have e4 := cell_eq (hc i t ht 4 _ rfl) (C' 4 _ rfl)
      have e5 := cell_eq (hc i t ht 5 _ rfl) (C' 5 _ rfl)
      have e6 := cell_eq (hc i t ht 6 _ rfl) (C' 6 _ rfl)
      have e7 := cell_eq (hc i t ht 7 _ rfl) (C' 7 _ rfl)
      injection e0 with _ e0
      injection e1 with _ e1
      injection e2 with _ e2
      injection e3 with _ e3
      injection e4 with _ e4
      injection e5 with _ e5
      injection e6 with _ e6
      injection e7 with e7 e8 _
      rw [ht, hsm]
      congr 1
      exact T.ext e0 (set_ext e1 e2 e3 e4) e5 e6 (ih i t ht (by rw [e7]; exact L') e8)
    · rw [List.getElem?_eq_none (by omega), List.getElem?_eq_none (by omega)]
/-- A node's parts are told to lie elsewhere, where they are the same. -/
theorem lie_turn {W : World} {ok : Nat → Prop} {g o : Nat} {s : T} {a1 : Option Addr} {c1 : Nat} {ty : TypeId} {cur : Array Value} (hg : At W g ty cur) (hcs : ∀ j v, (ncells s a1 c1)[j]? = some v → W.cell? ⟨g, o + j, none⟩ = some v) {ok1 : Nat → Prop} (h1 : Lie W ok1 a1 s.subs) {a2 : Option Addr} {c2 : Nat} (hc2 : s.subs.length ≤ c2) (h2 : Lie W (fun k => ok k ∧ k ≠ g) a2 s.subs) :
    ∀ {a : Option Addr} {M : List T}, Lie W ok a M → Lie (W.setCell ⟨g, o + 7, none⟩ (.slice a2 s.subs.length c2)) ok a M := by
  intro a M h
  have hset := hg.set (o + 7) (.slice a2 s.subs.length c2)
  have q := (Keep.refl (fun b => b = g) W).setCell (p := ⟨g, o + 7, none⟩) (fun _ => rfl) (.slice a2 s.subs.length c2)
  have hcell7 := hcs 7 _ rfl
  have hsz7 : o + 7 < cur.size := by
    have h3 : W.cell? ⟨g, o + 7, none⟩ = some (.slice a1 s.subs.length c1) := hcell7
    have h4 : W.heap[g]? = some (.cells cur ty (0, 0)) := hg
    have h5 : cur[o + 7]? = some (.slice a1 s.subs.length c1) := by
      simp [World.cell?, h4] at h3
      exact h3
    exact (Array.getElem?_eq_some_iff.1 h5).1
  have hnew : (W.setCell ⟨g, o + 7, none⟩ (.slice a2 s.subs.length c2)).cell? ⟨g, o + 7, none⟩ = some (.slice a2 s.subs.length c2) := hset.cell (by rw [Array.getElem?_setIfInBounds, if_pos rfl, if_pos hsz7])
  have hold : ∀ p v, p ≠ o + 7 → W.cell? ⟨g, p, none⟩ = some v → (W.setCell ⟨g, o + 7, none⟩ (.slice a2 s.subs.length c2)).cell? ⟨g, p, none⟩ = some v := fun p v hp hv => by
    have h4 : W.heap[g]? = some (.cells cur ty (0, 0)) := hg
    have h5 : cur[p]? = some v := by
      simp [World.cell?, h4] at hv
      exact hv
    exact hset.cell (by rw [Array.getElem?_setIfInBounds, if_neg (fun e => hp e.symm)]; exact h5)
  have h2' := h2.keep q (fun k hk e => hk.2 e)
  generalize (W.setCell ⟨g, o + 7, none⟩ (.slice a2 s.subs.length c2)) = W' at *
  induction h with
  | nil a => exact .nil a
  | cons bl off L A C hL hb hok hC hc hs ih =>
    by_cases hbl : bl = g
    · subst hbl
      have hlt := Nat.lt_of_lt_of_le hb q.size
      refine .cons bl off L (fun i => if off + i * 8 = o then a2 else A i) (fun i => if off + i * 8 = o then c2 else C i) hL hlt hok (fun i t ht => ?_) (fun i t ht j v hv => ?_) (fun i t ht => ?_)
      · try dsimp only
        split
        · rename_i he
          have e7 := cell_eq (hc i t ht 7 _ rfl) (by rw [he]; exact hcell7)
          injection e7 with _ e8 _
          omega
        · exact hC i t ht
      · try dsimp only at hv
        split at hv
        · rename_i he
          have e7 := cell_eq (hc i t ht 7 _ rfl) (by rw [he]; exact hcell7)
          injection e7 with _ e8 _
          by_cases hj : j = 7
          · subst hj
            have hv : some (Value.slice a2 t.subs.length c2) = some v := hv
            injection hv with hv
            subst hv
            rw [he]
            rw [e8]
            exact hnew
          · have hj8 : j < 8 := (Array.getElem?_eq_some_iff.1 hv).1
            refine hold _ v (by omega) (hc i t ht j v ?_)
            match j, hj8, hj with
            | 0, _, _ => exact hv
            | 1, _, _ => exact hv
            | 2, _, _ => exact hv
            | 3, _, _ => exact hv
            | 4, _, _ => exact hv
            | 5, _, _ => exact hv
            | 6, _, _ => exact hv
            | 7, _, h7 => exact absurd rfl h7
        · rename_i he
          refine hold _ v (fun e => ?_) (hc i t ht j v hv)
          have hj8 : j < 8 := (Array.getElem?_eq_some_iff.1 hv).1
          have hv2 := hc i t ht j v hv
          rw [e] at hv2
          have e7 := cell_eq hv2 hcell7
          subst e7
          match j, hj8 with
          | 0, _ => cases hv
          | 1, _ => cases hv
          | 2, _ => cases hv
          | 3, _ => cases hv
          | 4, _ => cases hv
          | 5, _ => cases hv
          | 6, _ => cases hv
          | 7, _ => omega
      · try dsimp only
        split
        · rename_i he
          have e7 := cell_eq (hc i t ht 7 _ rfl) (by rw [he]; exact hcell7)
          injection e7 with e7 e8 _
          have h3 := hs i t ht
          rw [e7] at h3
          rw [lie_det h3 h1 e8]
          exact h2'.mono fun k hk => hk.1
        · exact ih i t ht
    · exact .cons bl off L A C hL (Nat.lt_of_lt_of_le hb q.size) hok hC (fun i t ht j v hv => (q.cell (a := ⟨bl, off + i * 8 + j, none⟩) hb (fun e => hbl e)).trans (hc i t ht j v hv)) ih
end Go.Proofs.YtfpijkcaceoboaaDoor.P10
/- The code's copied (layer 10): the stack of lists that are still open. -/
namespace Go.Proofs.YtfpijkcaceoboaaDoor.P10
open Go.RowKit Go.Proofs.YtfpijkcaceoboaaDoor.Base Go.Proofs.YtfpijkcaceoboaaDoor.Bytes Go.Proofs.YtfpijkcaceoboaaDoor.P07 Go.Proofs.YtfpijkcaceoboaaDoor.P08
open Go.Proofs.YtfpijkcaceoboaaDoor.Sets (ST)

@[reducible] def lsV (x : LR) : Value := .slice x.aa x.la.length x.ca
/-- The slice u is a row of such lists, each in a block of its own; their parts lie in E. -/
structure St (W : World) (E : Nat → Prop) (n0 : Nat) (u : Value) (X : List LR) : Prop where
  row : W.ownsRow 0 25 1 u X.length (flatR X)
  own : Own n0 u
  ls : ∀ x ∈ X, OE W E (lsV x) x.la ∧ Own n0 (lsV x)
  dis : ∀ (i j : Nat) (x y : LR) (g : Nat), X[i]? = some x → X[j]? = some y → (lsV x).ownBlock = some g → (lsV y).ownBlock = some g → i = j
theorem St.lists {W : World} {E : Nat → Prop} {n0 : Nat} {u : Value} {X : List LR} (h : St W E n0 u X) {g : Nat} (hg : u.ownBlock = some g) : ∃ cur, At W g 25 cur := by
  rcases h.row.2 with ⟨rfl, -⟩ | ⟨g', cap, cur, rfl, _, hc, -⟩
  · cases hg
  · injection hg with hg
    have e : g' = g := hg
    rw [e] at hc
    exact ⟨cur, hc⟩
theorem two_types {W : World} {g : Nat} {c1 c2 : Array Value} (h1 : At W g 27 c1) (h2 : At W g 25 c2) : False := by
  have h1 : W.heap[g]? = some (.cells c1 27 (0, 0)) := h1
  have h2 : W.heap[g]? = some (.cells c2 25 (0, 0)) := h2
  rw [h1] at h2
  injection h2 with h2
  injection h2 with _ h2
  exact absurd h2 (by decide)
theorem St.apart {W : World} {E : Nat → Prop} {n0 : Nat} {u : Value} {X : List LR} (h : St W E n0 u X) {g : Nat} {cur : Array Value} (hg : At W g 27 cur) : u.ownBlock ≠ some g := fun e => by
  obtain ⟨c2, h2⟩ := h.lists e
  exact two_types hg h2
theorem St.keep {S : Nat → Prop} {W W' : World} {E : Nat → Prop} {n0 : Nat} {u : Value} {X : List LR} (h : St W E n0 u X) (q : Keep S W W') (h1 : ∀ g, u.ownBlock = some g → ¬ S g) (h2 : ∀ x ∈ X, ∀ g, (lsV x).ownBlock = some g → ¬ S g) (h3 : ∀ k, E k → ¬ S k) : St W' E n0 u X := by
  refine ⟨⟨h.row.1, ?_⟩, h.own, fun x hx => ⟨(h.ls x hx).1.keep q (h2 x hx) h3, (h.ls x hx).2⟩, h.dis⟩
  rcases h.row.2 with h0 | ⟨g, cap, cur, rfl, hb, hg, r⟩
  · exact .inl h0
  · refine .inr ⟨g, cap, cur, rfl, hb, ?_, r⟩
    have : At W g 25 cur := hg
    exact this.keep q (h1 g rfl)
theorem St.keepF {W W' : World} {E : Nat → Prop} {n0 : Nat} {u : Value} {X : List LR} (h : St W E n0 u X) (q : Keep (fun _ => False) W W') : St W' E n0 u X := h.keep q (fun _ _ h => h) (fun _ _ _ _ h => h) (fun _ _ h => h)
theorem St.one {W : World} {E : Nat → Prop} {n0 : Nat} {p : LR} (hp : OE W E (lsV p) p.la) (ho : Own n0 (lsV p)) (hn : n0 ≤ W.heap.size) : St (W.alloc (.cells (lrcells p) 25)) E n0 (.slice (some ⟨W.heap.size, 0, none⟩) 1 1) [p] := by
  refine ⟨⟨by rw [flatR_length], .inr ⟨W.heap.size, 1, lrcells p, rfl, Nat.zero_le _, At.new W _ _, Nat.le_refl 1, by decide, rfl, by simp⟩⟩, fun g hg => ?_, fun x hx => ?_, fun i j x y g hi hj _ _ => ?_⟩
  · injection hg with hg
    rw [← hg]
    exact hn
  · rw [List.mem_singleton.1 hx]
    exact ⟨hp.keep ((Keep.refl (fun _ => False) W).alloc _) (fun _ _ h => h) (fun _ _ h => h), ho⟩
  · have h1 := (List.getElem?_eq_some_iff.1 hi).1
    have h2 := (List.getElem?_eq_some_iff.1 hj).1
    simp at h1 h2
    omega
end Go.Proofs.YtfpijkcaceoboaaDoor.P10
/- The code's copied (layer 10). -/
namespace Go.Proofs.YtfpijkcaceoboaaDoor.P10
open Go.RowKit Go.Proofs.YtfpijkcaceoboaaDoor.Base Go.Proofs.YtfpijkcaceoboaaDoor.Bytes Go.Proofs.YtfpijkcaceoboaaDoor.P07 Go.Proofs.YtfpijkcaceoboaaDoor.P08
open Go.Proofs.YtfpijkcaceoboaaDoor.Sets (ST)

/-- What the whole's row holds is the expression, at any time; its lists lie in blocks of their own. -/
def Wh (w : World) (ok : Nat → Prop) (t : T) (u : Value) (W : World) : Prop := ∃ G : Nat → Prop, Lie W (fun k => (ok k ∧ k < w.heap.size) ∨ G k) (some ⟨w.heap.size + 2, 0, none⟩) [t] ∧ ∀ k, G k → w.heap.size + 2 ≤ k ∧ k < W.heap.size ∧ u.ownBlock ≠ some k
theorem Wh.keepF {w : World} {ok : Nat → Prop} {t : T} {u : Value} {W W' : World} (h : Wh w ok t u W) (q : Keep (fun _ => False) W W') : Wh w ok t u W' := by
  obtain ⟨G, h1, h2⟩ := h
  exact ⟨G, h1.keepF q, fun k hk => ⟨(h2 k hk).1, Nat.lt_of_lt_of_le (h2 k hk).2.1 q.size, (h2 k hk).2.2⟩⟩
theorem Wh.lie {w : World} {ok : Nat → Prop} {t : T} {u : Value} {W : World} (h : Wh w ok t u W) : Lie W (fun k => (ok k ∨ w.heap.size ≤ k) ∧ k ≠ w.heap.size + 1) (some ⟨w.heap.size + 2, 0, none⟩) [t] := by
  obtain ⟨G, h1, h2⟩ := h
  exact h1.mono fun k hk => by
    rcases hk with hk | hk
    · exact ⟨.inl hk.1, by omega⟩
    · have := (h2 k hk).1
      exact ⟨.inr (by omega), by omega⟩
theorem Wh.push {w : World} {ok : Nat → Prop} {t : T} {u u' : Value} {W W' : World} (h : Wh w ok t u W) (hu : Own (w.heap.size + 2) u) (q : Keep (fun b => u.ownBlock = some b) W W') (hb : ∀ g, u'.ownBlock = some g → u.ownBlock = some g ∨ W.heap.size ≤ g) : Wh w ok t u' W' := by
  obtain ⟨G, h1, h2⟩ := h
  refine ⟨G, h1.keep q (fun k hk e => ?_), fun k hk => ⟨(h2 k hk).1, Nat.lt_of_lt_of_le (h2 k hk).2.1 q.size, fun e => ?_⟩⟩
  · rcases hk with hk | hk
    · have := hu k e
      omega
    · exact (h2 k hk).2.2 e
  · rcases hb k e with h3 | h3
    · exact (h2 k hk).2.2 h3
    · have := (h2 k hk).2.1
      omega
theorem Wh.turn {w : World} {ok : Nat → Prop} {t : T} {u : Value} {W W9 : World} (h : Wh w ok t u W) (q9 : Keep (fun _ => False) W W9) (hul : ∀ g, u.ownBlock = some g → g < W.heap.size) {g o : Nat} {s : T} {a1 : Option Addr} {c1 : Nat} {cur : Array Value} (hg : At W9 g 27 cur) (hgl : w.heap.size ≤ g ∧ g < W.heap.size) (hn : w.heap.size + 2 ≤ W.heap.size) (hcs : ∀ j v, (ncells s a1 c1)[j]? = some v → W9.cell? ⟨g, o + j, none⟩ = some v) {ok1 : Nat → Prop} (h1 : Lie W9 ok1 a1 s.subs) {a2 : Option Addr} {c2 : Nat} (hc2 : s.subs.length ≤ c2) (h2 : Lie W9 (fun k => (ok k ∧ k < w.heap.size) ∨ W.heap.size ≤ k) a2 s.subs) : Wh w ok t u (W9.setCell ⟨g, o + 7, none⟩ (.slice a2 s.subs.length c2)) := by
  obtain ⟨G, k1, k2⟩ := h
  have qs := (Keep.refl (fun b => b = g) W9).setCell (p := ⟨g, o + 7, none⟩) (fun _ => rfl) (.slice a2 s.subs.length c2)
  refine ⟨fun k => G k ∨ (W.heap.size ≤ k ∧ k < W9.heap.size), lie_turn (ok := fun k => (ok k ∧ k < w.heap.size) ∨ (G k ∨ (W.heap.size ≤ k ∧ k < W9.heap.size))) hg hcs h1 hc2 (h2.under.mono fun k hk => ⟨by
    rcases hk.1 with h | h
    · exact .inl h
    · exact .inr (.inr ⟨h, hk.2⟩), by
    rcases hk.1 with h | h <;> omega⟩) ((k1.keepF q9).mono fun k hk => by
    rcases hk with hk | hk
    · exact .inl hk
    · exact .inr (.inl hk)), fun k hk => ?_⟩
  have hs9 := q9.size
  have hs := qs.size
  rcases hk with hk | hk
  · have := k2 k hk
    exact ⟨this.1, by omega, this.2.2⟩
  · exact ⟨by omega, by omega, fun e => by have := hul k e; omega⟩
/-- In the loop: what the whole's row holds is the expression, at any time. -/
structure Cq (w : World) (ok : Nat → Prop) (t : T) (n : Nat) (u : Value) (X : List LR) (W : World) : Prop where
  st : St W (fun k => ok k ∧ k < w.heap.size) (w.heap.size + 2) u X
  ne : ∀ x ∈ X, x.la ≠ []
  lt : cntLL (X.map (·.la)) < n
  up : n ≤ 500001
  who : Wh w ok t u W
  rb : Rb w (w.heap.size + 1) W
  size : w.heap.size + 2 ≤ W.heap.size
/-- A list that is gone over, in block g; from j on its nodes are as they were. -/
structure Cl (w : World) (ok : Nat → Prop) (g : Nat) (la : List T) (j : Nat) (X : List LR) (W : World) : Prop where
  at_ : ∃ cur, At W g 27 cur
  low : w.heap.size + 2 ≤ g
  rest : ∀ (q : Nat) (s : T), j ≤ q → la[q]? = some s → ∃ a1 c1, (∀ i v, (ncells s a1 c1)[i]? = some v → W.cell? ⟨g, q * 8 + i, none⟩ = some v) ∧ s.subs.length ≤ c1 ∧ Lie W (fun k => ok k ∧ k < w.heap.size) a1 s.subs
  far : ∀ x ∈ X, (lsV x).ownBlock ≠ some g
theorem Cl.keep {w : World} {ok : Nat → Prop} {g : Nat} {la : List T} {j : Nat} {X : List LR} {W W' : World} (h : Cl w ok g la j X W) {S : Nat → Prop} (q : Keep S W W') (h1 : ¬ S g) (h2 : ∀ k, k < w.heap.size → ¬ S k) : Cl w ok g la j X W' := by
  obtain ⟨cur, hc⟩ := h.at_
  refine ⟨⟨cur, hc.keep q h1⟩, h.low, fun p s hp hs => ?_, h.far⟩
  obtain ⟨a1, c1, k1, k2, k3⟩ := h.rest p s hp hs
  exact ⟨a1, c1, fun i v hv => (q.cell (a := ⟨g, p * 8 + i, none⟩) hc.lt h1).trans (k1 i v hv), k2, k3.keep q (fun k hk e => h2 k hk.2 e)⟩
end Go.Proofs.YtfpijkcaceoboaaDoor.P10
