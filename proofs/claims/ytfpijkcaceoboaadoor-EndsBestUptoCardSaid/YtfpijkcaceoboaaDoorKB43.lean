/- The document's Best (layer 11). -/
import Derived.Test.YtfpijkcaceoboaaDoorKB38
import Derived.Test.YtfpijkcaceoboaaDoorKB41
import Derived.Test.YtfpijkcaceoboaaDoorKB28
import Derived.Test.YtfpijkcaceoboaaDoorKB27
import Derived.Test.YtfpijkcaceoboaaDoorKB32
namespace Go.Proofs.YtfpijkcaceoboaaDoor.P11
open Go.RowKit Go.Proofs.YtfpijkcaceoboaaDoor.Base Go.Proofs.YtfpijkcaceoboaaDoor.Bytes Go.Proofs.YtfpijkcaceoboaaDoor.P07 Go.Proofs.YtfpijkcaceoboaaDoor.P08 Go.Proofs.YtfpijkcaceoboaaDoor.P09
open Go.Proofs.YtfpijkcaceoboaaDoor.Sets (ST)

/-- How far a rule's longest match goes, and whether it counts. -/
noncomputable def farI (s : List UInt8) (f : Nat) (t : T) : Int := lastI (endsI s t f)
noncomputable def bestS (s : List UInt8) (f : Nat) : List RU → Int → Int × Int → Int × Int
  | [], _, p => p
  | x :: L, i, p => bestS s f L (i + 1) (if rightB x.re = true ∧ (f : Int) < farI s f x.re ∧ p.2 < farI s f x.re then (i, farI s f x.re) else p)
theorem bestS_at (s : List UInt8) (f : Nat) {L : List RU} {k : Nat} {x : RU} (h : L[k]? = some x) (p : Int × Int) : bestS s f (L.drop k) k p = bestS s f (L.drop (k + 1)) ((k + 1 : Nat) : Int) (if rightB x.re = true ∧ (f : Int) < farI s f x.re ∧ p.2 < farI s f x.re then ((k : Int), farI s f x.re) else p) := by
  obtain ⟨hi, rfl⟩ := List.getElem?_eq_some_iff.1 h
  rw [List.drop_eq_getElem_cons hi, bestS]
  rfl
/-- Best's answer. -/
noncomputable def bestI (s : List UInt8) (f : Int) (L : List RU) : Int × Int := if 0 ≤ f ∧ f ≤ s.length then bestS s f.toNat L 0 (-1, -1) else (-1, -1)

set_option maxRecDepth 100000 in
set_option maxHeartbeats 4000000 in
theorem fbest_any (L : List RU) (a : Option Addr) (cap : Nat) (hl : L.length ≤ 1000) (hb : ∀ x ∈ L, SOk x.re ∧ cnt x.re ≤ 1000000) (s : List UInt8) (hsl : s.length ≤ 100) (f : Int) (w : World) (hS : RS w (fun _ => True) a L) :
    Calls Tryd.prog 24 #[.slice a L.length cap, .string ⟨s.toArray⟩, .int .i64 f] w fun e w' => e = .returned (.tuple #[.int .i64 (bestI s f L).1, .int .i64 (bestI s f L).2, .bool (decide (0 ≤ (bestI s f L).1))]) ∧ Keep (fun _ => False) w w' := by
  have hsz := P07.size_str s
  by_cases hf : 0 ≤ f ∧ f ≤ s.length
  · obtain ⟨F, rfl⟩ : ∃ F : Nat, f = F := ⟨f.toNat, by omega⟩
    have hR : bestI s F L = bestS s F L 0 (-1, -1) := by
      unfold bestI
      rw [if_pos hf, Int.toNat_natCast]
    rw [hR]
    obtain ⟨R, hRR⟩ : ∃ R, bestS s F L 0 (-1, -1) = R := ⟨_, rfl⟩
    rw [hRR]
    have hf1 : ¬ (F : Int) < 0 := by omega
    have hf2 : ¬ (s.length : Int) < F := by omega
    have hf3 : F ≤ s.length := by omega
    have H0 := Lib.hid (And.intro hS (And.intro hb hRR))
    clear hS hb hRR hR hf
    go_enter Tryd.func24, Tryd.ntmps24
    go_wp2_with fail
    go_loopg [9, 10, 11, 12] L.length (fun gg u9 u10 i u12 wr => ∃ (k : Nat) (p : Int × Int), i = .int .i64 k ∧ k + gg = L.length ∧ u9 = .int .i64 p.1 ∧ u10 = .int .i64 p.2 ∧ bestS s F (L.drop k) k p = R ∧ Keep (fun _ => False) w wr)
    case atStart => exact ⟨0, (-1, -1), rfl, by omega, rfl, rfl, by rw [List.drop_zero]; exact H0.out.2.2, Keep.refl _ _⟩
    case round =>
      obtain ⟨k, ⟨p1, p2⟩, rfl, hk, rfl, rfl, hst, hq⟩ := hrel
      dsimp only at *
      by_cases hlt : k < L.length
      · have hlt' : (k : Int) < L.length := by omega
        have i0 : (0 : Int) ≤ k := by omega
        obtain ⟨x, hx⟩ : ∃ x, L[k]? = some x := ⟨L[k], List.getElem?_eq_getElem hlt⟩
        have hSw := H0.out.1.keepF hq
        obtain ⟨bl, off, a1, e1, rfl, hbl, -, hle, L1, C1⟩ := hSw.get hx
        obtain ⟨c0, c1, c2, c3, c4, c5, c6, c7, c8⟩ := rnine C1
        obtain ⟨hx2, hx3⟩ := H0.out.2.1 x (List.mem_of_getElem? hx)
        have hcall := fright_any x.re (by omega) a1 e1 wr L1
        have hlong := fun (hr : rightB x.re = true) W (q : Keep (fun _ => False) wr W) => flong_any x.re 12 ((rightB_iff hx2).1 hr) s hsl F hf3 a1 e1 W (L1.keepF q)
        rw [bestS_at s F hx] at hst
        unfold farI at hst
        obtain ⟨r, hr⟩ : ∃ r, rightB x.re = r := ⟨_, rfl⟩
        obtain ⟨V, hV⟩ : ∃ V, lastI (endsI s x.re F) = V := ⟨_, rfl⟩
        rw [hr] at hcall hst hlong
        rw [hV] at hst hlong
        have HQ := Lib.hid (And.intro hcall (And.intro hlong (And.intro hst (And.intro hq (fun W (q : Keep (fun _ => False) wr W) j v (hv : (rcells x a1 e1)[j]? = some v) => (q.cell (a := ⟨bl, off + k * 9 + j, none⟩) hbl (fun h => h)).trans (C1 j v hv))))))
        clear hcall hlong hst hq hSw C1 L1 hle hbl hx hx2 hx3 hr hV
        go_wp2_with fail
        refine HQ.out.1.mono ?_
        rintro e w2 ⟨rfl, q2⟩
        cases r with
        | false =>
          have hst := HQ.out.2.2.1
          rw [if_neg (by simp)] at hst
          have Q2 := Lib.hid (And.intro (HQ.out.2.2.2.1.trans q2) hst)
          clear q2 hst c0 c1 c2 c3 c4 c5 c6 c7 c8
          go_wp2_with fail
          go_roundg (L.length - (k + 1))
          case measure => omega
          case rel => exact ⟨k + 1, (p1, p2), by go_num, by omega, rfl, rfl, Q2.out.2, Q2.out.1⟩
        | true =>
          clear c0 c1 c2 c3 c4 c5 c6 c7 c8
          have C2 := HQ.out.2.2.2.2 w2 q2
          obtain ⟨c0, c1, c2, c3, c4, c5, c6, c7, c8⟩ := rnine C2
          have hl2 := HQ.out.2.1 rfl w2 q2
          have Q2 := Lib.hid (And.intro (HQ.out.2.2.2.1.trans q2) hl2)
          clear q2 C2 hl2
          go_wp2_with fail
          refine Q2.out.2.mono ?_
          rintro e w3 ⟨rfl, q3⟩
          have Q3 := Lib.hid (Q2.out.1.trans q3)
          clear q3 c0 c1 c2 c3 c4 c5 c6 c7 c8
          have hst := HQ.out.2.2.1
          by_cases hc : (F : Int) < V ∧ p2 < V
          · obtain ⟨h1, h2⟩ := hc
            rw [if_pos (by first | exact ⟨rfl, h1, h2⟩ | exact ⟨trivial, h1, h2⟩)] at hst
            have HT := Lib.hid hst
            clear hst
            go_wp2_with fail
            go_roundg (L.length - (k + 1))
            case measure => omega
            case rel => exact ⟨k + 1, (k, V), by go_num, by omega, rfl, rfl, HT.out, Q3.out⟩
          · rw [if_neg (fun h => hc h.2)] at hst
            have HT := Lib.hid hst
            have hc' : ¬ (F : Int) < V ∨ ((F : Int) < V ∧ ¬ p2 < V) := by omega
            clear hst hc
            rcases hc' with h1 | ⟨h1, h2⟩
            all_goals
              go_wp2_with fail
              go_roundg (L.length - (k + 1))
              case measure => omega
              case rel => exact ⟨k + 1, (p1, p2), by go_num, by omega, rfl, rfl, HT.out, Q3.out⟩
      · have hke : k = L.length := by omega
        subst hke
        rw [List.drop_length, bestS] at hst
        subst hst
        have HQ := Lib.hid hq
        clear hq
        go_wp2_with fail
        refine bodyPost_ret (v := .tuple #[.int .i64 p1, .int .i64 p2, .bool (decide (0 ≤ p1))]) (by simp [results, Tryd.results24, go_sem]) rfl ?_
        exact ⟨rfl, HQ.out⟩
  · have hR : bestI s f L = (-1, -1) := by
      unfold bestI
      rw [if_neg hf]
    rw [hR]
    have hc : f < 0 ∨ (0 ≤ f ∧ (s.length : Int) < f) := by omega
    clear hf hR hS hb
    go_enter Tryd.func24, Tryd.ntmps24
    rcases hc with h | ⟨h0, h⟩
    all_goals
      go_wp2_with fail
      refine bodyPost_ret (v := .tuple #[.int .i64 (-1), .int .i64 (-1), .bool false]) (by simp [results, Tryd.results24, go_sem]) rfl ?_
      exact ⟨rfl, Keep.refl _ _⟩
end Go.Proofs.YtfpijkcaceoboaaDoor.P11
/- Layer 11, plain: what the laws say of ends. -/
namespace Go.Proofs.YtfpijkcaceoboaaDoor.P11
open Go.RowKit Go.Proofs.YtfpijkcaceoboaaDoor.Base Go.Proofs.YtfpijkcaceoboaaDoor.Bytes Go.Proofs.YtfpijkcaceoboaaDoor.P07 Go.Proofs.YtfpijkcaceoboaaDoor.P08 Go.Proofs.YtfpijkcaceoboaaDoor.P09 Go.Proofs.YtfpijkcaceoboaaDoor.P10 Go.Proofs.YtfpijkcaceoboaaDoor.IL
open Go.Proofs.YtfpijkcaceoboaaDoor.Sets (ST)

theorem plc_congr {X Y : List Bool} : ∀ k, (∀ j, j < k → (On X j ↔ On Y j)) → plc X k = plc Y k
  | 0, _ => rfl
  | k + 1, h => by
    have e : X.getD k false = Y.getD k false := by
      rw [Bool.eq_iff_iff]
      exact h k (Nat.lt_succ_self k)
    rw [plc_succ, plc_succ, plc_congr k (fun j hj => h j (by omega)), e]
theorem plc_mem {X : List Bool} {k : Nat} {x : Int} : x ∈ plc X k ↔ ∃ j : Nat, j < k ∧ On X j ∧ x = j := by
  unfold plc On
  exact lst_mem _ k x
theorem plc_add (Y : List Bool) (n : Nat) : ∀ m, ∃ R, plc Y (n + m) = plc Y n ++ R ∧ ∀ x ∈ R, (n : Int) ≤ x
  | 0 => ⟨[], by simp, fun x h => by cases h⟩
  | m + 1 => by
    obtain ⟨R, h1, h2⟩ := plc_add Y n m
    rw [← Nat.add_assoc, plc_succ]
    split
    · refine ⟨R ++ [((n + m : Nat) : Int)], by rw [h1, List.append_assoc], fun x hx => ?_⟩
      rcases List.mem_append.1 hx with hx | hx
      · exact h2 x hx
      · rw [List.mem_singleton] at hx
        omega
    · exact ⟨R, h1, h2⟩
/-- A longer text changes nothing of ends that were there. -/
theorem ends_longer {s m : List UInt8} {t : T} {d f : Nat} (hR : RT d t) (hf : f ≤ s.length) : ∃ R, endsI (s ++ m) t f = endsI s t f ++ R ∧ ∀ x ∈ R, (s.length : Int) < x := by
  obtain ⟨R, h1, h2⟩ := plc_add (rowT (s ++ m) t f) (s.length + 1) m.length
  refine ⟨R, ?_, fun x hx => by have := h2 x hx; omega⟩
  unfold endsI
  rw [List.length_append, show s.length + m.length + 1 = s.length + 1 + m.length by omega, h1]
  congr 1
  refine plc_congr _ (fun j hj => ?_)
  rw [(rowT_ok hR (by rw [List.length_append]; omega)).2 j, (rowT_ok hR hf).2 j]
  unfold EndAt
  rw [seg_longer s m (by omega), List.length_append]
  constructor
  · exact fun h => ⟨h.1, by omega, h.2.2⟩
  · exact fun h => ⟨h.1, by omega, h.2.2⟩
theorem ends_le {s : List UInt8} {t : T} {f : Nat} {x : Int} (h : x ∈ endsI s t f) : 0 ≤ x ∧ x ≤ s.length := by
  obtain ⟨j, h1, -, rfl⟩ := plc_mem.1 h
  omega
theorem lastI_mem {L : List Int} : lastI L = -1 ∧ L = [] ∨ lastI L ∈ L := by
  unfold lastI
  cases h : L.getLast? with
  | none => exact .inl ⟨rfl, List.getLast?_eq_none_iff.1 h⟩
  | some x => exact .inr (List.mem_of_getLast? h)
theorem far_longer {s m : List UInt8} {t : T} {d f : Nat} (hR : RT d t) (hf : f ≤ s.length) : farI s f t ≤ farI (s ++ m) f t := by
  unfold farI
  obtain ⟨R, h1, h2⟩ := ends_longer (m := m) hR hf
  rw [h1]
  by_cases hr : R = []
  · subst hr
    rw [List.append_nil]
    exact Int.le_refl _
  · have e : lastI (endsI s t f ++ R) ∈ R := by
      unfold lastI
      rw [List.getLast?_append]
      cases h : R.getLast? with
      | none => exact absurd (List.getLast?_eq_none_iff.1 h) hr
      | some x =>
        rw [Option.some_or]
        exact List.mem_of_getLast? h
    have := h2 _ e
    rcases lastI_mem (L := endsI s t f) with ⟨h, -⟩ | h
    · omega
    · have := ends_le h
      omega
theorem best_longer (s m : List UInt8) (f : Nat) (hf : f ≤ s.length) : ∀ (L : List RU) (i : Int) (p q : Int × Int), (∀ x ∈ L, SOk x.re) → p.2 ≤ q.2 → (bestS s f L i p).2 ≤ (bestS (s ++ m) f L i q).2
  | [], _, p, q, _, h => by
    rw [bestS, bestS]
    exact h
  | x :: L, i, p, q, hs, h => by
    rw [bestS, bestS]
    refine best_longer s m f hf L (i + 1) _ _ (fun y hy => hs y (List.mem_cons_of_mem _ hy)) ?_
    by_cases hr : rightB x.re = true
    · have hle := far_longer (m := m) ((rightB_iff (hs x (List.mem_cons_self ..))).1 hr) hf
      split
      · rename_i h1
        split
        · exact hle
        · rename_i h2
          have : ¬ q.2 < farI (s ++ m) f x.re := fun h3 => h2 ⟨hr, by omega, h3⟩
          show farI s f x.re ≤ q.2
          omega
      · split
        · rename_i h2
          show p.2 ≤ farI (s ++ m) f x.re
          omega
        · exact h
    · rw [if_neg (fun h => hr h.1), if_neg (fun h => hr h.1)]
      exact h
theorem bestI_longer (s m : List UInt8) (f : Int) (L : List RU) (hs : ∀ x ∈ L, SOk x.re) (hf : 0 ≤ f ∧ f ≤ s.length) : (bestI s f L).2 ≤ (bestI (s ++ m) f L).2 := by
  unfold bestI
  rw [if_pos hf, if_pos ⟨hf.1, by rw [List.length_append]; omega⟩]
  exact best_longer s m f.toNat (by omega) L 0 (-1, -1) (-1, -1) hs (Int.le_refl _)

/-- As often as may be. -/
def starT (t : T) : T := .nd 5 ST.none 0 (-1) [t]
/-- Match, by its row. -/
theorem match_row {s : List UInt8} {t : T} {d : Nat} (hR : RT d t) : pb (P10.Mat t s) = (rowT s t 0).getD s.length false := by
  refine pb_is ?_
  have h := (rowT_ok (s := s) hR (Nat.zero_le _)).2 s.length
  unfold On at h
  rw [h]
  unfold EndAt
  rw [seg_whole]
  exact ⟨fun h => ⟨Nat.zero_le _, Nat.le_refl _, h⟩, fun h => h.2.2⟩
/-- Two choices, two behind one another. -/
def altP (a b : T) : T := .nd 4 ST.none 0 0 [a, b]
def catP (a b : T) : T := .nd 3 ST.none 0 0 [a, b]
theorem altP_mat (a b : T) (w : List UInt8) : P10.Mat (altP a b) w ↔ P10.Mat a w ∨ P10.Mat b w := by
  unfold altP
  rw [mat_4, malt_cons, malt_cons]
  constructor
  · rintro (h | h | h)
    · exact .inl h
    · exact .inr h
    · exact absurd h (malt_nil _)
  · rintro (h | h)
    · exact .inl h
    · exact .inr (.inl h)
theorem catP_mat (a b : T) (w : List UInt8) : P10.Mat (catP a b) w ↔ ∃ u v, w = u ++ v ∧ P10.Mat a u ∧ P10.Mat b v := by
  unfold catP
  rw [mat_3, mcat_cons]
  constructor
  · rintro ⟨u, v, rfl, h1, h2⟩
    obtain ⟨x, y, rfl, h3, h4⟩ := (mcat_cons _ _ _).1 h2
    rw [mcat_nil] at h4
    subst h4
    exact ⟨u, x, by rw [List.append_nil], h1, h3⟩
  · rintro ⟨u, v, rfl, h1, h2⟩
    exact ⟨u, v, rfl, h1, (mcat_cons _ _ _).2 ⟨v, [], by rw [List.append_nil], h2, (mcat_nil _).2 rfl⟩⟩
theorem alt_on {s : List UInt8} {a b : T} {d1 d2 d3 f : Nat} (hP : RT d1 (altP a b)) (hA : RT d2 a) (hB : RT d3 b) (hf : f ≤ s.length) (j : Nat) : On (rowT s (altP a b) f) j ↔ On (rowT s a f) j ∨ On (rowT s b f) j := by
  rw [(rowT_ok hP hf).2 j, (rowT_ok hA hf).2 j, (rowT_ok hB hf).2 j]
  unfold EndAt
  rw [altP_mat]
  constructor
  · rintro ⟨h1, h2, h3 | h3⟩
    · exact .inl ⟨h1, h2, h3⟩
    · exact .inr ⟨h1, h2, h3⟩
  · rintro (⟨h1, h2, h3⟩ | ⟨h1, h2, h3⟩)
    · exact ⟨h1, h2, .inl h3⟩
    · exact ⟨h1, h2, .inr h3⟩
theorem cat_on {s : List UInt8} {a b : T} {d1 d2 d3 f : Nat} (hP : RT d1 (catP a b)) (hA : RT d2 a) (hB : RT d3 b) (hf : f ≤ s.length) (j : Nat) : On (rowT s (catP a b) f) j ↔ ∃ i, i ≤ s.length ∧ On (rowT s a f) i ∧ On (rowT s b i) j := by
  rw [(rowT_ok hP hf).2 j]
  unfold EndAt
  rw [catP_mat]
  constructor
  · rintro ⟨h1, h2, h3⟩
    obtain ⟨k, k1, k2, h4, h5⟩ := (seg_seq h1 h2 _ _).1 h3
    have hk : k ≤ s.length := by omega
    exact ⟨k, hk, ((rowT_ok hA hf).2 k).2 ⟨k1, hk, h4⟩, ((rowT_ok hB hk).2 j).2 ⟨k2, h2, h5⟩⟩
  · rintro ⟨k, hk, h1, h2⟩
    obtain ⟨a1, a2, a3⟩ := ((rowT_ok hA hf).2 k).1 h1
    obtain ⟨b1, b2, b3⟩ := ((rowT_ok hB hk).2 j).1 h2
    exact ⟨by omega, b2, (seg_seq (by omega) b2 _ _).2 ⟨k, a1, b1, a3, b3⟩⟩
/-- How many places. -/
def cntP (X : List Bool) : Nat → Nat
  | 0 => 0
  | k + 1 => if X.getD k false = true then cntP X k + 1 else cntP X k
theorem plc_count (X : List Bool) : ∀ k, (plc X k).length = cntP X k
  | 0 => by simp [plc, lst, cntP]
  | k + 1 => by
    rw [plc_succ, cntP, ← plc_count X k]
    split
    · rw [List.length_append, List.length_singleton]
    · rfl
end Go.Proofs.YtfpijkcaceoboaaDoor.P11
