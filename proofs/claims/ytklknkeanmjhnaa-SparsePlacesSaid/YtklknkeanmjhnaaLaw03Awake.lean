/- A set of the caller's own, and 'awake' of layer 3: it answers true, and turns nothing that was there. -/
import Derived.Test.YtklknkeanmjhnaaRef03
import Derived.Test.YtklknkeanmjhnaaSparseAdd
import Derived.Test.YtklknkeanmjhnaaSparseNew
namespace Go.Proofs.Ytklknkeanmjhnaa.Law03
open Go.RowKit Go.Proofs.Ytklknkeanmjhnaa.Base Go.Proofs.Ytklknkeanmjhnaa.Lists Go.Proofs.Ytklknkeanmjhnaa.Sparse Go.Proofs.Ytklknkeanmjhnaa.Meter Go.Proofs.Ytklknkeanmjhnaa.Ref03

/-- A set that came after w0; nothing that was there at w0 has turned. -/
structure Ow (w0 : World) (b g n : Nat) (L : List Nat) (w : World) : Prop where
  st : St w b g n L
  hb : w0.heap.size ≤ b
  hg : w0.heap.size ≤ g
  b1 : b < w.heap.size
  g1 : g < w.heap.size
  q : Keep (fun _ => False) w0 w

theorem Ow.turn {w0 : World} {b g n : Nat} {L L' : List Nat} {n' : Nat} {w w' : World} (h : Ow w0 b g n L w) (q : Keep (fun i => i = b ∨ i = g) w w') (s : St w' b g n' L') : Ow w0 b g n' L' w' :=
  ⟨s, h.hb, h.hg, Nat.lt_of_lt_of_le h.b1 q.size, Nat.lt_of_lt_of_le h.g1 q.size, h.q.next q (fun i hi hl => by have := h.hb; have := h.hg; omega)⟩

theorem Ow.step {w0 : World} {b g n : Nat} {L : List Nat} {w w' : World} {S : Nat → Prop} (h : Ow w0 b g n L w) (q : Keep S w w') (hb : ¬ S b) (hg : ¬ S g) (h0 : ∀ i, S i → w0.heap.size ≤ i) : Ow w0 b g n L w' :=
  ⟨h.st.keep q hb hg, h.hb, h.hg, Nat.lt_of_lt_of_le h.b1 q.size, Nat.lt_of_lt_of_le h.g1 q.size, h.q.next q (fun i hi hl => by have := h0 i hi; omega)⟩

theorem Ow.quiet {w0 : World} {b g n : Nat} {L : List Nat} {w w' : World} (h : Ow w0 b g n L w) (q : Keep (fun _ => False) w w') : Ow w0 b g n L w' :=
  h.step q (fun h => h) (fun h => h) (fun _ h => h.elim)

/-- A list of the caller's own, beside the blocks b and g. -/
structure Li (b g : Nat) (v : Value) (L : List Int) (w : World) : Prop where
  il : IL w v L
  ne : ∀ k, v.ownBlock = some k → k ≠ b ∧ k ≠ g

theorem Li.turn {b g : Nat} {v : Value} {L : List Int} {w w' : World} (h : Li b g v L w) (q : Keep (fun i => i = b ∨ i = g) w w') : Li b g v L w' :=
  ⟨h.il.keep q (fun k hk => by have := h.ne k hk; omega), h.ne⟩
theorem Li.quiet {b g : Nat} {v : Value} {L : List Int} {w w' : World} (h : Li b g v L w) (q : Keep (fun _ => False) w w') : Li b g v L w' :=
  ⟨h.il.keep q (fun _ _ h => h), h.ne⟩

theorem own_add {w0 w : World} {b g n : Nat} {L : List Nat} (x : Int) (v : Bool) (L' : List Nat) (hv : addV n L x = (L', v)) (h : Ow w0 b g n L w) :
    Calls Try.prog 34 #[ptr b, .int .i64 x] w fun e w' => e = .returned (.bool v) ∧ Ow w0 b g n L' w' ∧ Keep (fun i => i = b ∨ i = g) w w' := by
  have := add_any b g n L x w h.st
  rw [hv] at this
  exact this.mono fun _ _ r => ⟨r.1, h.turn r.2.2 r.2.1, r.2.2⟩

theorem own_clear {w0 w : World} {b g n : Nat} {L : List Nat} (h : Ow w0 b g n L w) :
    Calls Try.prog 35 #[ptr b] w fun e w' => e = .returned (.tuple #[]) ∧ Ow w0 b g n [] w' ∧ Keep (fun i => i = b ∨ i = g) w w' :=
  (clear_any b g n L w h.st).mono fun _ _ r => ⟨r.1, h.turn r.2.2 r.2.1, r.2.2⟩

theorem own_has {w0 w : World} {b g n : Nat} {L : List Nat} (x : Int) (v : Bool) (hv : hasV L x = v) (h : Ow w0 b g n L w) :
    Calls Try.prog 36 #[ptr b, .int .i64 x] w fun e w' => e = .returned (.bool v) ∧ w = w' := by
  have := has_any b g n L x w h.st
  rw [hv] at this
  exact this

theorem own_len {w0 w : World} {b g n : Nat} {L : List Nat} (k : Int) (hk : (L.length : Int) = k) (h : Ow w0 b g n L w) :
    Calls Try.prog 38 #[ptr b] w fun e w' => e = .returned (.int .i64 k) ∧ w = w' := by
  have := len_any b g n L w h.st
  rw [hk] at this
  exact this

theorem own_at {w0 w : World} {b g n : Nat} {L : List Nat} (i k : Int) (hk : atV L i = k) (h : Ow w0 b g n L w) :
    Calls Try.prog 43 #[ptr b, .int .i64 i] w fun e w' => e = .returned (.int .i64 k) ∧ w = w' := by
  have := at_any b g n L i w h.st
  rw [hk] at this
  exact this

theorem own_list {w0 w : World} {b g n : Nat} {L : List Nat} (h : Ow w0 b g n L w) :
    Calls Try.prog 40 #[ptr b] w fun e w' => ∃ v, e = .returned v ∧ Li b g v (ints L) w' ∧ Keep (fun _ => False) w w' :=
  (list_any b g n L w h.st).mono fun _ _ r => by
    obtain ⟨v, rfl, h1, h2, h3⟩ := r
    have := h.b1
    have := h.g1
    exact ⟨v, rfl, ⟨h1, fun k hk => by have := h2 k hk; omega⟩, h3⟩

theorem own_sorted {w0 w : World} {b g n : Nat} {L : List Nat} (h : Ow w0 b g n L w) :
    Calls Try.prog 41 #[ptr b] w fun e w' => ∃ v, e = .returned v ∧ Li b g v (sortI (ints L)) w' ∧ Keep (fun _ => False) w w' :=
  (sorted_any b g n L w h.st).mono fun _ _ r => by
    obtain ⟨v, rfl, h1, h2, h3⟩ := r
    have := h.b1
    have := h.g1
    exact ⟨v, rfl, ⟨h1, fun k hk => by have := h2 k hk; omega⟩, h3⟩

theorem same_is {va vb : Value} {A B : List Int} {w : World} (v : Bool) (hv : decide (A = B) = v) (ha : IL w va A) (hb : IL w vb B) (hl : A.length ≤ 2097152) :
    Calls Try.prog 39 #[va, vb] w fun e w' => e = .returned (.bool v) ∧ Keep (fun _ => False) w w' := by
  have := same_ref va vb A B w ha hb hl
  rw [hv] at this
  exact this.mono fun _ _ r => ⟨r.1, r.2.keep _⟩

/-- A list of two numbers that the call has laid. -/
theorem il_two (w : World) (x y : Int) : IL (w.alloc (.cells #[.int .i64 x, .int .i64 y] 3)) (.slice (some ⟨w.heap.size, 0, none⟩) 2 2) [x, y] :=
  ⟨rfl, .inr ⟨_, 2, _, rfl, Nat.zero_le _, At.new w _ _, Nat.le_refl _, by decide, rfl, rfl⟩⟩

theorem sorted31 : sortI (ints [3, 1]) = [1, 3] := sortI_eq (by decide) (by decide)

set_option maxRecDepth 100000 in
set_option maxHeartbeats 2000000 in
theorem awake_any (w : World) : Calls Try.prog 31 #[] w fun e w' => e = .returned (.bool true) ∧ Keep (fun _ => False) w w' := by
  go_enter Try.func31, Try.ntmps31
  go_wp2_with fail
  refine (new_any 10 0 _).mono ?_
  rintro e w1 ⟨mb, rfl, hb, h0, q0⟩
  have hm : (MS.new 10 0) = ⟨0, 0, 10, 0, 0, 0⟩ := rfl
  rw [hm] at h0
  clear hm
  have o0 : MS.Ok ⟨0, 0, 10, 0, 0, 0⟩ := MS.new_ok 10 0
  go_wp2_with fail
  refine (new_taken 5 (by decide) mb ⟨0, 0, 10, 0, 0, 0⟩ _ o0 h0 (by decide)).mono ?_
  rintro e w2 ⟨⟨b, g, rfl, hb1, hg1, hb2, hg2, hbg, hs⟩, h1, q1⟩
  have hm : (MS.take ⟨0, 0, 10, 0, 0, 0⟩ (2 * ((5 : Nat) : Int))).2 = ⟨10, 10, 10, 0, 0, 0⟩ := rfl
  rw [hm] at h1
  clear hm
  have o1 : MS.Ok ⟨10, 10, 10, 0, 0, 0⟩ := ⟨by decide, by decide, by decide, by decide, by decide, by decide, by decide⟩
  have hlt := h0.lt
  have H1 : Ow w b g 5 [] w2 := ⟨hs, by have := q0.size; omega, by have := q0.size; omega, hb2, hg2, q0.next q1 (fun i hi hl => by omega)⟩
  clear hs q1 q0 h0 o0
  go_wp2_with fail
  refine (new_refused 1 (by decide) mb ⟨10, 10, 10, 0, 0, 0⟩ _ o1 h1 (by decide)).mono ?_
  rintro e w3 ⟨rfl, h2, q2⟩
  have H2 : Ow w b g 5 [] w3 := H1.step q2 (by omega) (by omega) (fun i hi => by omega)
  clear H1 q2 h1 h2 o1
  go_wp2_with fail
  refine (new_bad _ (-1) _ (.inl (by decide))).mono ?_
  rintro e w4 ⟨rfl, rfl⟩
  go_wp2_with fail
  refine (own_add 3 true [3] rfl H2).mono ?_
  rintro e w5 ⟨rfl, H3, -⟩
  clear H2
  go_wp2_with fail
  refine (own_add 1 true [3, 1] rfl H3).mono ?_
  rintro e w6 ⟨rfl, H4, -⟩
  clear H3
  go_wp2_with fail
  refine (own_add 3 false [3, 1] rfl H4).mono ?_
  rintro e w7 ⟨rfl, H5, -⟩
  clear H4
  go_wp2_with fail
  refine (own_add 5 false [3, 1] rfl H5).mono ?_
  rintro e w8 ⟨rfl, H6, -⟩
  clear H5
  go_wp2_with fail
  refine (own_list H6).mono ?_
  rintro e w9 ⟨l, rfl, L1, p1⟩
  have H7 := H6.quiet p1
  clear H6 p1
  go_wp2_with fail
  refine (own_sorted H7).mono ?_
  rintro e w10 ⟨k, rfl, K1, p2⟩
  have H8 := H7.quiet p2
  have L2 := L1.quiet p2
  clear H7 p2 L1
  go_wp2_with fail
  refine (own_has 3 true rfl H8).mono ?_
  rintro e w11 ⟨rfl, rfl⟩
  go_wp2_with fail
  refine (own_clear H8).mono ?_
  rintro e w12 ⟨rfl, H9, p3⟩
  have L3 := L2.turn p3
  have K3 := K1.turn p3
  clear H8 L2 K1 p3
  go_wp2_with fail
  have p4 : Keep (fun _ => False) w12 (w12.alloc (.cells #[.int .i64 3, .int .i64 1] 3)) := (Keep.refl _ _).alloc _
  refine (same_is true rfl (L3.quiet p4).il (il_two w12 3 1) (by decide)).mono ?_
  rintro e w13 ⟨rfl, p5⟩
  have H10 := H9.quiet (p4.trans p5)
  have K4 := K3.quiet (p4.trans p5)
  clear H9 K3 p4 p5 L3
  go_wp2_with fail
  have p4 : Keep (fun _ => False) w13 (w13.alloc (.cells #[.int .i64 1, .int .i64 3] 3)) := (Keep.refl _ _).alloc _
  refine (same_is true (by rw [sorted31]; rfl) (K4.quiet p4).il (il_two w13 1 3) (by rw [sorted31]; decide)).mono ?_
  rintro e w14 ⟨rfl, p5⟩
  have H11 := H10.quiet (p4.trans p5)
  clear H10 K4 p4 p5
  go_wp2_with fail
  refine (own_has 3 false rfl H11).mono ?_
  rintro e w15 ⟨rfl, rfl⟩
  go_wp2_with fail
  refine (own_len 0 rfl H11).mono ?_
  rintro e w16 ⟨rfl, rfl⟩
  go_wp2_with fail
  refine (own_at 0 (-1) rfl H11).mono ?_
  rintro e w17 ⟨rfl, rfl⟩
  go_wp2_with fail
  refine (own_add 3 true [3] rfl H11).mono ?_
  rintro e w18 ⟨rfl, H12, -⟩
  clear H11
  go_wp2_with fail
  refine (own_at 0 3 rfl H12).mono ?_
  rintro e w19 ⟨rfl, rfl⟩
  have Q := Lib.hid H12.q
  clear H12
  go_wp2
  go_ret
  exact ⟨rfl, Q.out⟩

end Go.Proofs.Ytklknkeanmjhnaa.Law03
