/- The document's own answers of layer 3: Has, Same, Add, Sorted over lists. -/
import Derived.Test.YtklknkeanmjhnaaLists
import Derived.Test.YtklknkeanmjhnaaSparseList
import Derived.LoopNIn
namespace Go.Proofs.Ytklknkeanmjhnaa.Ref03
open Go.RowKit Go.Proofs.Ytklknkeanmjhnaa.Base Go.Proofs.Ytklknkeanmjhnaa.Lists Go.Proofs.Ytklknkeanmjhnaa.Sparse

theorem has_ref (v : Value) (L : List Int) (x : Int) (w : World) (h : IL w v L) (hl : L.length ≤ 2097152) :
    Calls Try.prog 37 #[v, .int .i64 x] w fun e w' => e = .returned (.bool (decide (x ∈ L))) ∧ w = w' := by
  obtain ⟨a, cap, rfl, hc⟩ := h.form
  clear h
  have HC := Lib.hid hc
  clear hc
  go_enter Try.func37, Try.ntmps37
  go_wp2_with fail
  go_loop [5] (fun i => ∃ k : Nat, k ≤ L.length ∧ i = .int .i64 k ∧ ∀ j, j < k → L[j]? ≠ some x) (fun i => L.length - (intOf i).toNat)
  case atStart => exact ⟨0, Nat.zero_le _, rfl, fun j hj => absurd hj (Nat.not_lt_zero _)⟩
  case round =>
    obtain ⟨k, hk, rfl, hno⟩ := hrel
    by_cases hlt : k < L.length
    · have hlt' : (k : Int) < L.length := by omega
      have hx : L[k]? = some L[k] := List.getElem?_eq_getElem hlt
      obtain ⟨g, -, rfl, c0⟩ := HC.out k _ hx
      have hmem : L[k] ∈ L := List.getElem_mem hlt
      generalize L[k] = y at *
      by_cases hy : y = x
      · subst hy
        go_wp2
        go_ret
        exact ⟨by first | rfl | (rw [show decide (y ∈ L) = true from by simp [hmem]]; rfl), rfl⟩
      · have hy' : (y == x) = false := by simpa using hy
        clear hmem
        go_wp2
        go_round
        case rel => exact ⟨k + 1, by omega, by go_num, fun j hj => by
          by_cases e : j = k
          · subst e; rw [hx]; intro e; injection e with e; exact hy e
          · exact hno j (by omega)⟩
        case measure => simp [intOf]; omega
    · obtain rfl : k = L.length := by omega
      have hn : decide (x ∈ L) = false := by
        simp only [decide_eq_false_iff_not]
        intro hm
        obtain ⟨j, hj, e⟩ := List.getElem_of_mem hm
        exact hno j hj (by rw [List.getElem?_eq_getElem hj, e])
      clear hno
      go_wp2
      go_ret
      exact ⟨by first | rfl | (rw [hn]; rfl), rfl⟩

theorem drawn_cell {w w' : World} (h : Drawn w w') {a : Addr} {v : Value} (hc : w.cell? a = some v) : w'.cell? a = some v := by
  obtain ⟨k, rfl⟩ := h
  exact hc

theorem same_ref (va vb : Value) (A B : List Int) (w : World) (ha : IL w va A) (hb : IL w vb B) (hl : A.length ≤ 2097152) :
    Calls Try.prog 39 #[va, vb] w fun e w' => e = .returned (.bool (decide (A = B))) ∧ Drawn w w' := by
  obtain ⟨a, cap, rfl, hc⟩ := ha.form
  obtain ⟨b, cap2, rfl, hd⟩ := hb.form
  clear ha hb
  have HC := Lib.hid (And.intro hc hd)
  clear hc hd
  by_cases hlen : A.length = B.length
  · have hlen' : ((A.length : Int) != B.length) = false := by simp [hlen]
    go_enter Try.func39, Try.ntmps39
    go_wp2_with fail
    go_loopw [5] (fun i wr => ∃ k : Nat, k ≤ A.length ∧ i = .int .i64 k ∧ Drawn w wr ∧ ∀ j, j < k → A[j]? = B[j]?) (fun i _ => A.length - (intOf i).toNat)
    case atStart => exact ⟨0, Nat.zero_le _, rfl, ⟨0, rfl⟩, fun j hj => absurd hj (Nat.not_lt_zero _)⟩
    case round =>
      obtain ⟨k, hk, rfl, hd, hall⟩ := hrel
      by_cases hlt : k < A.length
      · have hlt' : (k : Int) < A.length := by omega
        have hlt2 : (k : Int) < B.length := by omega
        have hx : A[k]? = some A[k] := List.getElem?_eq_getElem hlt
        have hy : B[k]? = some B[k] := List.getElem?_eq_getElem (by omega)
        obtain ⟨g, -, rfl, c0⟩ := HC.out.1 k _ hx
        obtain ⟨g2, -, rfl, c1⟩ := HC.out.2 k _ hy
        have c0 := drawn_cell hd c0
        have c1 := drawn_cell hd c1
        generalize A[k] = x at *
        have hy : B[k]? = some (B[k]'(by omega)) := hy
        generalize B[k]'(by omega) = y at *
        have HD := Lib.hid (And.intro hd (And.intro hall (And.intro hx hy)))
        clear hd hall hx hy
        by_cases hxy : x = y
        · have hxy' : (x != y) = false := by simp [hxy]
          go_wp2_with fail
          go_quiet (fail)
          go_wp2
          go_round
          case rel => exact ⟨k + 1, by omega, by go_num, (by obtain ⟨q, rfl⟩ := HD.out.1; exact ⟨q + nq, by rw [World.drewN_drewN]⟩), fun j hj => by
            by_cases e : j = k
            · subst e; rw [HD.out.2.2.1, HD.out.2.2.2, hxy]
            · exact HD.out.2.1 j (by omega)⟩
          case measure => simp [intOf]; omega
        · have hxy' : (x != y) = true := by simpa using hxy
          go_wp2_with fail
          go_quiet (fail)
          go_wp2
          go_ret
          refine ⟨?_, (by obtain ⟨q, rfl⟩ := HD.out.1; exact ⟨q + nq, by rw [World.drewN_drewN]⟩)⟩
          have : decide (A = B) = false := by
            simp only [decide_eq_false_iff_not]
            intro e
            have h1 := HD.out.2.2.1
            rw [e, HD.out.2.2.2] at h1
            injection h1 with h1
            exact hxy h1.symm
          first | rfl | (rw [this]; rfl)
      · obtain rfl : k = A.length := by omega
        have hAB : A = B := List.ext_getElem? (fun j => by
          by_cases hj : j < A.length
          · exact hall j hj
          · rw [List.getElem?_eq_none (by omega), List.getElem?_eq_none (by omega)])
        clear hall
        have hf : ¬ ((A.length : Int) < A.length) := by omega
        go_wp2
        go_ret
        exact ⟨by first | rfl | (rw [show decide (A = B) = true from by simp [hAB]]; rfl), hd⟩
  · have hlen' : ((A.length : Int) != B.length) = true := by simp; omega
    go_enter Try.func39, Try.ntmps39
    go_wp2
    go_ret
    have hne : decide (A = B) = false := by simp only [decide_eq_false_iff_not]; intro e; exact hlen (by rw [e])
    exact ⟨by first | rfl | (rw [hne]; rfl), ⟨0, rfl⟩⟩

theorem add_ref_old (v : Value) (L : List Int) (n x : Int) (w : World) (h : IL w v L) (hl : L.length ≤ 2097152) (hx : x < 0 ∨ n ≤ x ∨ x ∈ L) :
    Calls Try.prog 33 #[v, .int .i64 n, .int .i64 x] w fun e w' => e = .returned (.tuple #[v, .bool false]) ∧ w = w' := by
  have hh := has_ref v L x w h hl
  obtain ⟨a, cap, rfl, -⟩ := h.form
  by_cases h1 : x < 0
  · go_enter Try.func33, Try.ntmps33
    go_wp2
    go_ret2
    exact ⟨rfl, rfl⟩
  · have h1' : decide (x < 0) = false := by simpa using h1
    by_cases h2 : n ≤ x
    · go_enter Try.func33, Try.ntmps33
      go_wp2
      go_ret2
      exact ⟨rfl, rfl⟩
    · have h2' : decide (n ≤ x) = false := by simpa using h2
      have hm : decide (x ∈ L) = true := by simpa using (by omega : x < 0 ∨ n ≤ x ∨ x ∈ L).resolve_left h1 |>.resolve_left h2
      rw [hm] at hh
      have HH := Lib.hid hh
      clear hh h hm hx
      go_enter Try.func33, Try.ntmps33
      go_wp2_with fail
      refine HH.out.mono ?_
      rintro e w1 ⟨rfl, rfl⟩
      go_wp2
      go_ret2
      exact ⟨rfl, rfl⟩

set_option maxRecDepth 100000 in
theorem add_ref_new (v : Value) (L : List Int) (n x : Int) (w : World) (h : IL w v L) (hl : L.length ≤ 65536) (h0 : 0 ≤ x) (h1 : x < n) (hx : x ∉ L) :
    Calls Try.prog 33 #[v, .int .i64 n, .int .i64 x] w fun e w' => ∃ u, e = .returned (.tuple #[u, .bool true]) ∧ IL w' u (L ++ [x]) ∧ (∀ g, u.ownBlock = some g → w.heap.size ≤ g) ∧ Keep (fun _ => False) w w' := by
  have hh := has_ref v L x w h (by omega)
  rw [show decide (x ∈ L) = false from by simpa using hx] at hh
  have HH := Lib.hid hh
  clear hh
  have h1' : decide (x < 0) = false := by simp; omega
  have h2' : decide (n ≤ x) = false := by simp; omega
  obtain ⟨a, cap, rfl, -⟩ := h.form
  obtain ⟨v1, w1, hr1, i1, q1, f1⟩ := h.copy (by omega) 32
  obtain ⟨v2, w2, hr2, i2, q2, f2⟩ := i1.push x (by omega) 32
  have HN := Lib.hid (show IL w2 v2 (L ++ [x]) ∧ (∀ g, v2.ownBlock = some g → w.heap.size ≤ g) ∧ Keep (fun _ => False) w w2 from
    ⟨i2, fun g hg => (by have := q1.size; rcases f2 g hg with h | h; exact f1 g h; omega), q1.next q2 (fun i hi hh => (by have := f1 i hi; omega))⟩)
  clear i1 q1 f1 i2 q2 f2 h hx
  go_enter Try.func33, Try.ntmps33
  go_wp2_with fail
  refine HH.out.mono ?_
  rintro e w1 ⟨rfl, rfl⟩
  go_wp2_with (first
    | (at_builtin; refine Lib.wpList_append_run _ rfl _ _ _ _ rfl _ _ rfl rfl _ _ hr1 ?_)
    | (at_builtin; refine Lib.wpList_append_run _ rfl _ _ _ _ rfl _ _ rfl rfl _ _ hr2 ?_))
  go_ret2
  exact ⟨_, rfl, HN.out⟩

theorem sorted_ref (v : Value) (L : List Int) (n : Nat) (w : World) (h : IL w v L) (hl : L.length ≤ 65536) (hn : n ≤ 65536) :
    Calls Try.prog 42 #[v, .int .i64 n] w (NewList ((ints (List.range n)).filter fun x => decide (x ∈ L)) w) := by
  go_enter Try.func42, Try.ntmps42
  go_wp2_with fail
  go_loopw [5, 6] (fun o i wr => ∃ k : Nat, k ≤ n ∧ i = .int .i64 k ∧ IL wr o ((ints (List.range k)).filter fun x => decide (x ∈ L)) ∧ (∀ g, o.ownBlock = some g → w.heap.size ≤ g) ∧ Keep (fun _ => False) w wr) (fun _ i _ => n - (intOf i).toNat)
  case atStart => exact ⟨0, Nat.zero_le _, rfl, IL.nil w, fun g hg => (by cases hg), Keep.refl _ _⟩
  case round =>
    obtain ⟨k, hk, rfl, ho, hf, hq⟩ := hrel
    by_cases hlt : k < n
    · have hlt' : (k : Int) < n := by omega
      have hh := has_ref v L k wr (h.keep hq (fun _ _ h => h)) (by omega)
      have hs : (ints (List.range (k + 1))).filter (fun x => decide (x ∈ L)) = (ints (List.range k)).filter (fun x => decide (x ∈ L)) ++ (if decide ((k : Int) ∈ L) then [(k : Int)] else []) := by
        unfold ints
        rw [List.range_succ, List.map_append, List.filter_append]
        simp [List.filter_cons]
      have hln : ((ints (List.range k)).filter (fun x => decide (x ∈ L))).length < 2097152 := by
        refine Nat.lt_of_le_of_lt (List.length_filter_le _ _) ?_
        unfold ints
        rw [List.length_map, List.length_range]
        omega
      by_cases hkL : (k : Int) ∈ L
      · have hkL' : decide ((k : Int) ∈ L) = true := by simpa using hkL
        rw [hkL'] at hh
        rw [hkL', if_pos rfl] at hs
        obtain ⟨v2, w2, hr2, i2, q2, f2⟩ := ho.push k hln 32
        rw [← hs] at i2
        have HN := Lib.hid (And.intro i2 (And.intro (show ∀ g, v2.ownBlock = some g → w.heap.size ≤ g from fun g hg => (by have := hq.size; rcases f2 g hg with h | h; exact hf g h; omega)) (hq.next q2 (fun i hi hh => (by have := hf i hi; omega)))))
        have HH := Lib.hid hh
        clear hh hs hln hkL hkL' i2 q2 f2 ho hf hq h
        go_wp2_with fail
        refine HH.out.mono ?_
        rintro e w1 ⟨rfl, rfl⟩
        go_wp2_with (at_builtin; refine Lib.wpList_append_run _ rfl _ _ _ _ rfl _ _ rfl rfl _ _ hr2 ?_)
        go_roundw
        case rel => exact ⟨k + 1, by omega, by go_num, HN.out⟩
        case measure => simp [intOf]; omega
      · have hkL' : decide ((k : Int) ∈ L) = false := by simpa using hkL
        rw [hkL'] at hh
        rw [hkL', if_neg (by simp), List.append_nil] at hs
        rw [← hs] at ho
        have HN := Lib.hid (And.intro ho (And.intro hf hq))
        have HH := Lib.hid hh
        clear hh hs hln hkL hkL' ho hf hq h
        go_wp2_with fail
        refine HH.out.mono ?_
        rintro e w1 ⟨rfl, rfl⟩
        go_wp2
        go_roundw
        case rel => exact ⟨k + 1, by omega, by go_num, HN.out⟩
        case measure => simp [intOf]; omega
    · obtain rfl : k = n := by omega
      have HN := Lib.hid (And.intro ho (And.intro hf hq))
      clear ho hf hq h
      have hf : ¬ ((k : Int) < k) := by omega
      go_wp2
      go_ret
      exact ⟨_, rfl, HN.out⟩

end Go.Proofs.Ytklknkeanmjhnaa.Ref03
