/- The code's reader (layer 7): span. -/
import Derived.Test.YtmohpjpodkbgkaaKK12
import Derived.Test.YtmohpjpodkbgkaaKK20
import Derived.Laws.StructEq
namespace Go.Proofs.Ytmohpjpodkbgkaa.P07
open Go.RowKit Go.Proofs.Ytmohpjpodkbgkaa.Base Go.Proofs.Ytmohpjpodkbgkaa.Bytes
open Go.Proofs.Ytmohpjpodkbgkaa.Sets (ST)

/-- The reader, and a result's own block. -/
structure Rs (w : World) (b : Nat) (l : List UInt8) (ty : TypeId) (o : Array Value) (s : PS) (W : World) : Prop where
  rd : Rd W b l s
  out : At W w.heap.size ty o
  keep : Keep (fun i => i = b) w W
  low : b < w.heap.size
theorem Rs.start {w : World} {b : Nat} {l : List UInt8} {s : PS} (h : Rd w b l s) (ty : TypeId) (o : Array Value) : Rs w b l ty o s (w.alloc (.cells o ty)) :=
  ⟨h.alloc _, At.new w o ty, (Keep.refl _ w).alloc _, At.lt h⟩
theorem Rs.step {w : World} {b : Nat} {l : List UInt8} {ty : TypeId} {o : Array Value} {s s' : PS} {W W' : World} (I : Rs w b l ty o s W) (h : Rd W' b l s') (q : Keep (fun i => i = b) W W') : Rs w b l ty o s' W' :=
  ⟨h, I.out.keep q (by have := I.low; omega), I.keep.trans q, I.low⟩
theorem Rs.quiet {w : World} {b : Nat} {l : List UInt8} {ty : TypeId} {o : Array Value} {s : PS} {W W' : World} (I : Rs w b l ty o s W) (q : Keep (fun _ => False) W W') : Rs w b l ty o s W' :=
  I.step (I.rd.keep q (fun h => h)) (upk b q)
theorem Rs.ne {w : World} {b : Nat} {l : List UInt8} {ty : TypeId} {o : Array Value} {s : PS} {W : World} (I : Rs w b l ty o s W) : b ≠ w.heap.size := by have := I.low; omega

/-- A set of bytes, by a list. -/
@[reducible] def VS (_ : World) (v : Value) (L : List Nat) : Prop := v = val (mkS L) ∧ ∀ x ∈ L, x < 256

theorem mk_append (L M : List Nat) : mkS (L ++ M) = ST.or (mkS L) (mkS M) := by
  refine ST.ext (mk_ok _ _ rfl) (ST.or_ok (mk_ok _ _ rfl) (mk_ok _ _ rfl)) (fun b hb => ?_)
  rw [mk_has b hb _ _ rfl, ST.has_or _ _ _ hb, mk_has b hb _ _ rfl, mk_has b hb _ _ rfl, Bool.eq_iff_iff]
  simp
theorem mk_upto (lo hi : Nat) : mkS (upto lo hi) = ST.range lo hi := by
  refine ST.ext (mk_ok _ _ rfl) (ST.range_ok _ _) (fun b hb => ?_)
  rw [mk_has b hb _ _ rfl, ST.has_range _ _ _ hb]
  apply decide_eq_decide.2
  unfold upto
  rw [List.mem_map]
  constructor
  · rintro ⟨i, hi, rfl⟩
    have := List.mem_range.1 hi
    omega
  · rintro ⟨h1, h2⟩
    exact ⟨b - lo, List.mem_range.2 (by omega), by omega⟩

set_option maxRecDepth 100000 in
set_option maxHeartbeats 4000000 in
theorem rspan_any (b : Nat) (l : List UInt8) (s : PS) (hb : s.bad = none) (hp : s.pos ≤ l.length) (hl : l.length ≤ 100000000) (w : World) (h : Rd w b l s) :
    Calls Try.prog 91 #[.pointer (some ⟨b, 0, none⟩)] w (Outs w b l VS (range1 l s)) := by
  have hby := fun W h1 => rbyte_any b l s hb hp hl W h1
  have r1 := one_range l s
  have hp1 := fun h => one_sharp.toTame.pos_le hb hp h
  have hr : range1 l s = dashB (one l s).1 (nxt l (one l s).2) l (one l s).2 := rfl
  have hbd : ∀ x, (one l s).2.bad = some x → (range1 l s).2.bad = some x := fun x h => by rw [hr]; exact (dash_tame _).bad l _ x h
  obtain ⟨r, hrr⟩ : ∃ r, range1 l s = r := ⟨_, rfl⟩
  rw [hrr] at hr hbd ⊢
  obtain ⟨⟨lo, s1⟩, h1⟩ : ∃ q, one l s = q := ⟨_, rfl⟩
  rw [h1] at hby r1 hp1 hr hbd
  dsimp only at r1 hp1 hr hbd
  obtain ⟨lo, rfl⟩ : ∃ n : Nat, lo = n := ⟨lo.toNat, by omega⟩
  have HC := Lib.hid (And.intro hby (And.intro hp1 (And.intro hr hbd)))
  have W0 := Lib.hid (Rs.start h 24 zeros)
  clear h hby hp1 hr hbd hrr h1 hb hp
  go_enter Try.func91, Try.ntmps91
  go_wp2_with fail
  generalize (w.alloc (.cells zeros 24)) = V at *
  refine (HC.out.1 V W0.out.rd).mono ?_
  intro e w2 hO
  rcases hO.split with ⟨hb2, v, rfl, hv, h2, q2⟩ | ⟨x, hb2, rfl, q2⟩
  · unfold VB at hv
    subst hv
    have I2 := W0.out.step h2 q2
    clear h2 q2 hO
    have hpos := HC.out.2.1 hb2
    by_cases h45 : nxt l s1 = 45
    · have hlt := nxt_lt (l := l) (s := s1) (by omega)
      have ht := take_yes b 45 l s1 h45 hl w2 I2.rd
      have hby := fun W h1 => rbyte_any b l s1.adv hb2 (show s1.pos + 1 ≤ l.length by omega) hl W h1
      have r2 := one_range l s1.adv
      have hr := HC.out.2.2.1
      unfold dashB hiP at hr
      rw [if_pos h45] at hr
      have ha : s1.adv.pos = s1.pos + 1 := rfl
      rw [ha] at hr
      obtain ⟨⟨hi, s2⟩, h1⟩ : ∃ q, one l s1.adv = q := ⟨_, rfl⟩
      rw [h1] at hby r2 hr
      dsimp only at r2 hr
      obtain ⟨hi, rfl⟩ : ∃ n : Nat, hi = n := ⟨hi.toNat, by omega⟩
      have H2 := Lib.hid (And.intro I2 (And.intro ht (And.intro hby hr)))
      clear I2 ht hby hr h1 h45 hb2 ha
      go_wp2_with fail
      refine H2.out.2.1.mono ?_
      rintro e w3 ⟨rfl, h3, q3⟩
      have c1 : w3.cell? ⟨b, 1, none⟩ = some (.int .i64 ((s1.pos : Int) + 1)) := h3.cell (o := 1) rfl
      have H3 := Lib.hid (And.intro (H2.out.1.step h3 q3) h3)
      clear h3 q3
      go_wp2_with fail
      refine (H2.out.2.2.1 w3 H3.out.2).mono ?_
      intro e w4 hO
      rcases hO.split with ⟨hb4, v, rfl, hv, h4, q4⟩ | ⟨x, hb4, rfl, q4⟩
      · unfold VB at hv
        subst hv
        have I4 := H3.out.1.step h4 q4
        clear h4 q4 hO c1
        by_cases hlo : hi < lo
        · have hlo' : (hi : Int) < (lo : Int) := by omega
          have H4 := Lib.hid (And.intro I4 hb4)
          clear I4 hb4
          go_wp2_with fail
          refine ⟨rfl, Outs.gave (x := s1.pos + 1) ?_ H4.out.1.keep⟩
          rw [H2.out.2.2.2, if_pos ⟨H4.out.2, by omega⟩]
          exact bad_fail H4.out.2 _
        · have hlo' : ¬ (hi : Int) < (lo : Int) := by omega
          have hof := of_any lo hi (by omega) (by omega) w4
          have hr := H2.out.2.2.2
          rw [if_neg (by rintro ⟨_, h⟩; omega)] at hr
          have hmk := mk_upto lo hi
          have H4 := Lib.hid (And.intro I4 (And.intro hb4 (And.intro hof (And.intro hr hmk))))
          clear I4 hb4 hof hr hmk
          obtain ⟨R, hR⟩ : ∃ R, ST.range lo hi = R := ⟨_, rfl⟩
          rw [hR] at H4
          go_wp2_with fail
          refine H4.out.2.2.1.mono ?_
          rintro e w5 ⟨rfl, q5⟩
          have I5 := H4.out.1.quiet q5
          obtain ⟨⟨d0, d1, d2, d3⟩, f0, f1, f2, f3⟩ := cells4 I5.out
          have H5 := Lib.hid I5
          clear I5 q5 hR
          go_wp2_with fail
          have a := set4 H5.out.out (.int .u64 R.x0) (.int .u64 R.x1) (.int .u64 R.x2) (.int .u64 R.x3)
          have q := keep4 H5.out.keep (b := w.heap.size) (fun h => absurd h (by simp)) (.int .u64 R.x0) (.int .u64 R.x1) (.int .u64 R.x2) (.int .u64 R.x3)
          have p : At _ b _ _ := (((At.setOther H5.out.rd (p := ⟨w.heap.size, 0, none⟩) H5.out.ne (.int .u64 R.x0)).setOther (p := ⟨w.heap.size, 1, none⟩) H5.out.ne (.int .u64 R.x1)).setOther (p := ⟨w.heap.size, 2, none⟩) H5.out.ne (.int .u64 R.x2)).setOther (p := ⟨w.heap.size, 3, none⟩) H5.out.ne (.int .u64 R.x3)
          generalize World.setCell _ _ _ = W2 at *
          obtain ⟨⟨e0, e1, e2, e3⟩, -⟩ := cells4 a
          refine bodyPost_ret (v := val R) (by simp [results, Try.results91, go_sem, e0, e1, e2, e3]) rfl ?_
          refine Outs.ok (by rw [H4.out.2.2.2.1]; exact H4.out.2.1) (by rw [H4.out.2.2.2.1]; exact ⟨by rw [H4.out.2.2.2.2], upto_lt (by omega) (by omega)⟩) (by rw [H4.out.2.2.2.1]; exact p) q
      · have H4 := Lib.hid (And.intro hb4 (H3.out.1.keep.trans q4))
        clear hb4 q4 hO
        go_wp2_with fail
        refine ⟨rfl, Outs.gave (x := x) ?_ H4.out.2⟩
        rw [H2.out.2.2.2, if_neg (by rintro ⟨h, _⟩; rw [H4.out.1] at h; cases h)]
        exact H4.out.1
    · have ht := take_no b 45 l s1 hb2 h45 w2 I2.rd
      have hof := fun W => of_any lo lo (by omega) (by omega) W
      have hr := HC.out.2.2.1
      unfold dashB at hr
      rw [if_neg h45] at hr
      have hmk := mk_upto lo lo
      have H2 := Lib.hid (And.intro I2 (And.intro ht (And.intro hof (And.intro hr (And.intro hmk hb2)))))
      clear I2 ht hof hr h45 hb2 hmk
      obtain ⟨R, hR⟩ : ∃ R, ST.range lo lo = R := ⟨_, rfl⟩
      rw [hR] at H2
      go_wp2_with fail
      refine H2.out.2.1.mono ?_
      rintro e w3 ⟨rfl, h3, q3⟩
      have H3 := Lib.hid (H2.out.1.step h3 q3)
      clear h3 q3
      have hlo' : ¬ (lo : Int) < (lo : Int) := by omega
      go_wp2_with fail
      refine (H2.out.2.2.1 w3).mono ?_
      rintro e w5 ⟨rfl, q5⟩
      have I5 := H3.out.quiet q5
      obtain ⟨⟨d0, d1, d2, d3⟩, f0, f1, f2, f3⟩ := cells4 I5.out
      have H5 := Lib.hid I5
      clear I5 q5 hR
      go_wp2_with fail
      have a := set4 H5.out.out (.int .u64 R.x0) (.int .u64 R.x1) (.int .u64 R.x2) (.int .u64 R.x3)
      have q := keep4 H5.out.keep (b := w.heap.size) (fun h => absurd h (by simp)) (.int .u64 R.x0) (.int .u64 R.x1) (.int .u64 R.x2) (.int .u64 R.x3)
      have p : At _ b _ _ := (((At.setOther H5.out.rd (p := ⟨w.heap.size, 0, none⟩) H5.out.ne (.int .u64 R.x0)).setOther (p := ⟨w.heap.size, 1, none⟩) H5.out.ne (.int .u64 R.x1)).setOther (p := ⟨w.heap.size, 2, none⟩) H5.out.ne (.int .u64 R.x2)).setOther (p := ⟨w.heap.size, 3, none⟩) H5.out.ne (.int .u64 R.x3)
      generalize World.setCell _ _ _ = W2 at *
      obtain ⟨⟨e0, e1, e2, e3⟩, -⟩ := cells4 a
      refine bodyPost_ret (v := val R) (by simp [results, Try.results91, go_sem, e0, e1, e2, e3]) rfl ?_
      refine Outs.ok (by rw [H2.out.2.2.2.1]; exact H2.out.2.2.2.2.2) (by rw [H2.out.2.2.2.1]; exact ⟨by rw [H2.out.2.2.2.2.1], upto_lt (by omega) (by omega)⟩) (by rw [H2.out.2.2.2.1]; exact p) q
  · have H2 := Lib.hid (And.intro hb2 (W0.out.keep.trans q2))
    clear hb2 q2 hO
    go_wp2_with fail
    exact ⟨rfl, Outs.gave (x := x) (HC.out.2.2.2 _ H2.out.1) H2.out.2⟩
end Go.Proofs.Ytmohpjpodkbgkaa.P07
/- Plain mathematics for layer 8 (show), of no program. Part 1: reading by what is left of the text; a byte's text, a class's text, and that both are read as they were written. -/
namespace Go.Proofs.Ytmohpjpodkbgkaa.P08
open Go.Proofs.Ytmohpjpodkbgkaa.Sets Go.Proofs.Ytmohpjpodkbgkaa.P07

/-- What stands first; -1: nothing. -/
def hd : List UInt8 → Int
  | [] => -1
  | c :: _ => c.toNat

theorem hd_append {u r : List UInt8} (h : u ≠ []) : hd (u ++ r) = hd u := by
  cases u with
  | nil => exact absurd rfl h
  | cons c u => rfl
theorem drop_add {l : List UInt8} {p : Nat} {u r : List UInt8} (h : l.drop p = u ++ r) : l.drop (p + u.length) = r := by
  rw [← List.drop_drop, h, List.drop_left]
theorem drop_one {l : List UInt8} {p : Nat} {c : UInt8} {r : List UInt8} (h : l.drop p = c :: r) : l.drop (p + 1) = r := drop_add (u := [c]) h
theorem nxt_drop (l : List UInt8) (p o : Nat) : P07.nxt l ⟨p, none, o⟩ = hd (l.drop p) := by
  unfold P07.nxt byteAt
  by_cases h : p < l.length
  · rw [if_pos ⟨rfl, h⟩, List.drop_eq_getElem_cons h]
    simp [hd, h]
  · rw [if_neg (by simp; omega), List.drop_eq_nil_of_le (by omega)]
    rfl
theorem len_drop {l u r : List UInt8} {p : Nat} (h : l.drop p = u ++ r) (hu : u ≠ []) : p + u.length + r.length = l.length := by
  have := congrArg List.length h
  have h2 : 0 < u.length := by cases u with
    | nil => exact absurd rfl hu
    | cons c u => simp
  simp at this
  omega

/-! ### Bytes -/
def hexd (k : Nat) : UInt8 := ([48, 49, 50, 51, 52, 53, 54, 55, 56, 57, 97, 98, 99, 100, 101, 102] : List UInt8).getD k 0
/-- How a byte is written. -/
def esc (b : Nat) : List UInt8 := if plainN b then [UInt8.ofNat b] else [92, 120, hexd (b / 16), hexd (b % 16)]

theorem hex_read : ∀ k, k < 16 → hexv (hexd k).toNat = k := by decide +kernel
theorem esc_hd : ∀ b, b < 256 → esc b ≠ [] ∧ hd (esc b) ∉ ([45, 93, 94, 40, 41, 46, 91, 124, 42, 43, 63, 123, 125, -1] : List Int) := by decide +kernel
theorem plain_small : ∀ b, b < 256 → plainN b = true → (UInt8.ofNat b).toNat = b := by decide +kernel
theorem esc_hd_app {b : Nat} (hb : b < 256) (r : List UInt8) : hd (esc b ++ r) ∉ ([45, 93, 94, 40, 41, 46, 91, 124, 42, 43, 63, 123, 125, -1] : List Int) := by
  rw [hd_append (esc_hd b hb).1]
  exact (esc_hd b hb).2

theorem digit_read {l r : List UInt8} {p o k : Nat} (hk : k < 16) (h : l.drop p = hexd k :: r) : digit l ⟨p, none, o⟩ = ((k : Int), ⟨p + 1, none, o⟩) := by
  unfold digit
  rw [nxt_drop, h]
  have e : hexv (hd (hexd k :: r)) = k := hex_read k hk
  rw [e, if_pos (by omega)]
  rfl
theorem one_read {l r : List UInt8} {p o b : Nat} (hb : b < 256) (h : l.drop p = esc b ++ r) : one l ⟨p, none, o⟩ = ((b : Int), ⟨p + (esc b).length, none, o⟩) := by
  unfold one
  rw [nxt_drop, h]
  unfold esc
  by_cases hp : plainN b = true
  · simp only [if_pos hp]
    show oneB ((UInt8.ofNat b).toNat : Nat) l _ = _
    rw [plain_small b hb hp]
    unfold oneB
    rw [if_pos (by unfold plainI; simp [hp])]
    rfl
  · have h' : l.drop p = 92 :: 120 :: hexd (b / 16) :: hexd (b % 16) :: r := by rw [h]; simp [esc, hp]
    have h1 := drop_one h'
    have h2 := drop_one h1
    have h3 := drop_one h2
    simp only [if_neg hp]
    show oneB 92 l _ = _
    have e92 : plainI 92 = false := by decide +kernel
    unfold oneB
    rw [if_neg (by rw [e92]; decide), if_pos rfl]
    show escP l ⟨p + 1, none, o⟩ = _
    unfold escP
    rw [nxt_drop, h1]
    show escB 120 l _ = _
    unfold escB
    rw [if_pos rfl]
    show two l ⟨p + 1 + 1, none, o⟩ = _
    unfold two
    rw [digit_read (o := o) (by omega) h2]
    dsimp only
    rw [digit_read (o := o) (by omega) h3]
    dsimp only
    rw [show (16 * ((b / 16 : Nat) : Int) + ((b % 16 : Nat) : Int)) = b from by omega]
    rfl

/-! ### Ranges -/
def spanT (lo hi : Nat) : List UInt8 := if hi = lo then esc lo else if hi = lo + 1 then esc lo ++ esc hi else esc lo ++ [45] ++ esc hi
def spansT (L : List (Nat × Nat)) : List UInt8 := L.flatMap fun r => spanT r.1 r.2
/-- All bytes of some ranges. -/
def allOf (L : List (Nat × Nat)) : List Nat := L.flatMap fun r => upto r.1 r.2

theorem range_one {l r : List UInt8} {p o b : Nat} (hb : b < 256) (h : l.drop p = esc b ++ r) (hr : hd r ≠ 45) : range1 l ⟨p, none, o⟩ = (upto b b, ⟨p + (esc b).length, none, o⟩) := by
  unfold range1
  rw [one_read hb h]
  dsimp only
  rw [nxt_drop, drop_add h]
  unfold dashB
  rw [if_neg hr]
theorem range_two {l r : List UInt8} {p o a b : Nat} (ha : a ≤ b) (hb : b < 256) (h : l.drop p = esc a ++ [45] ++ esc b ++ r) : range1 l ⟨p, none, o⟩ = (upto a b, ⟨p + (esc a ++ [45] ++ esc b).length, none, o⟩) := by
  have h0 : l.drop p = esc a ++ (45 :: (esc b ++ r)) := by rw [h]; simp
  have h1 := drop_add h0
  have h2 := drop_one h1
  unfold range1
  rw [one_read (by omega) h0]
  dsimp only
  rw [nxt_drop, h1]
  unfold dashB
  rw [if_pos (by rfl)]
  show hiP a l ⟨p + (esc a).length + 1, none, o⟩ = _
  unfold hiP
  rw [one_read hb h2]
  dsimp only
  rw [if_neg (by simp; omega)]
  simp
  omega

theorem upto_two (a : Nat) : upto a (a + 1 : Nat) = upto a a ++ upto (a + 1 : Nat) (a + 1 : Nat) := by
  unfold upto
  rw [show ((a + 1 : Nat) + 1 - (a : Int)).toNat = 2 from by omega, show ((a : Int) + 1 - (a : Int)).toNat = 1 from by omega, show (((a + 1 : Nat) : Int) + 1 - ((a + 1 : Nat) : Int)).toNat = 1 from by omega]
  simp [List.range_succ]

theorem set_go {f : Nat} {acc : List Nat} {l : List UInt8} {p o : Nat} (h : hd (l.drop p) ≠ 93) : setP (f + 1) acc l ⟨p, none, o⟩ = setP f (acc ++ (range1 l ⟨p, none, o⟩).1) l (range1 l ⟨p, none, o⟩).2 := by
  rw [setP, if_pos rfl, nxt_drop, if_neg h]

theorem spansT_cons (r : Nat × Nat) (L : List (Nat × Nat)) : spansT (r :: L) = spanT r.1 r.2 ++ spansT L := by simp [spansT]
theorem allOf_cons (r : Nat × Nat) (L : List (Nat × Nat)) : allOf (r :: L) = upto r.1 r.2 ++ allOf L := by simp [allOf]
theorem spanT_hd {a b : Nat} (h : a < 256) (r : List UInt8) : spanT a b ++ r ≠ [] ∧ hd (spanT a b ++ r) ∉ ([45, 93, 94, 40, 41, 46, 91, 124, 42, 43, 63, 123, 125, -1] : List Int) := by
  unfold spanT
  have hn := (esc_hd a h).1
  split
  · exact ⟨by simp [hn], esc_hd_app h _⟩
  · split
    · rw [List.append_assoc]
      exact ⟨by simp [hn], esc_hd_app h _⟩
    · rw [List.append_assoc, List.append_assoc]
      exact ⟨by simp [hn], esc_hd_app h _⟩
/-- What may stand behind ranges, up to the bracket. -/
theorem spansT_hd {L : List (Nat × Nat)} (h : ∀ r, r ∈ L → r.1 ≤ r.2 ∧ r.2 < 256) (r : List UInt8) : hd (spansT L ++ 93 :: r) ≠ 45 ∧ hd (spansT L ++ 93 :: r) ≠ 94 := by
  cases L with
  | nil => exact ⟨by simp [spansT, hd], by simp [spansT, hd]⟩
  | cons x L =>
    have hx := h x (by simp)
    rw [spansT_cons, List.append_assoc]
    have := (spanT_hd (b := x.2) (show x.1 < 256 by omega) (spansT L ++ 93 :: r)).2
    simp only [List.mem_cons, not_or] at this
    exact ⟨this.1, this.2.2.1⟩

theorem set_read {l r : List UInt8} {o : Nat} : ∀ (L : List (Nat × Nat)) (f : Nat) (acc : List Nat) (p : Nat), (∀ r, r ∈ L → r.1 ≤ r.2 ∧ r.2 < 256) → l.drop p = spansT L ++ 93 :: r → (spansT L).length < f → setP f acc l ⟨p, none, o⟩ = (acc ++ allOf L, ⟨p + (spansT L).length, none, o⟩)
  | [], f, acc, p, _, h, hf => by
    match f, hf with
    | f + 1, _ =>
      rw [setP, if_pos rfl, nxt_drop, h, if_pos (by simp [spansT, hd])]
      simp [allOf, spansT]
  | (a, b) :: L, f, acc, p, hL, h, hf => by
    obtain ⟨h1, h2⟩ := hL (a, b) (by simp)
    dsimp only at h1 h2
    have hL' : ∀ r, r ∈ L → r.1 ≤ r.2 ∧ r.2 < 256 := fun r hr => hL r (List.mem_cons_of_mem _ hr)
    have hN := spansT_hd hL' r
    rw [spansT_cons] at h hf
    rw [List.append_assoc] at h
    have hhd := (spanT_hd (b := b) (show a < 256 by omega) (spansT L ++ 93 :: r)).2
    rw [← h] at hhd
    simp only [List.mem_cons, not_or] at hhd
    have hd' := drop_add h
    rw [List.length_append] at hf
    rw [spansT_cons, allOf_cons, List.length_append]
    dsimp only at h hf hd' ⊢
    by_cases e1 : b = a
    · subst e1
      have es : spanT b b = esc b := by rw [spanT, if_pos rfl]
      rw [es] at h hf hd' ⊢
      have hp : 0 < (esc b).length := List.length_pos_iff.2 (esc_hd b h2).1
      obtain ⟨f, rfl⟩ : ∃ g, f = g + 1 := ⟨f - 1, by omega⟩
      rw [set_go hhd.2.1, range_one h2 h hN.1]
      dsimp only
      rw [set_read L f _ _ hL' hd' (by omega), List.append_assoc, Nat.add_assoc]
    · by_cases e2 : b = a + 1
      · subst e2
        have es : spanT a (a + 1) = esc a ++ esc (a + 1) := by rw [spanT, if_neg e1, if_pos rfl]
        rw [es] at h hf hd' ⊢
        have hp : 0 < (esc a).length := List.length_pos_iff.2 (esc_hd a (by omega)).1
        have hp2 : 0 < (esc (a + 1)).length := List.length_pos_iff.2 (esc_hd _ h2).1
        rw [List.length_append] at hf
        obtain ⟨f, rfl⟩ : ∃ g, f = g + 2 := ⟨f - 2, by omega⟩
        rw [List.append_assoc] at h
        have hh := esc_hd_app h2 (spansT L ++ 93 :: r)
        simp only [List.mem_cons, not_or] at hh
        have h3 := drop_add h
        rw [set_go hhd.2.1, range_one (by omega) h hh.1]
        dsimp only
        rw [set_go (by rw [h3]; exact hh.2.1), range_one h2 h3 hN.1]
        dsimp only
        rw [show p + (esc a).length + (esc (a + 1)).length = p + (esc a ++ esc (a + 1)).length from by rw [List.length_append]; omega]
        rw [set_read L f _ _ hL' hd' (by omega), upto_two]
        simp [Nat.add_assoc]
      · have es : spanT a b = esc a ++ [45] ++ esc b := by rw [spanT, if_neg e1, if_neg e2]
        rw [es] at h hf hd' ⊢
        have hp : 0 < (esc a ++ [45] ++ esc b).length := by simp; omega
        obtain ⟨f, rfl⟩ : ∃ g, f = g + 1 := ⟨f - 1, by omega⟩
        rw [set_go hhd.2.1, range_two h1 h2 h]
        dsimp only
        rw [set_read L f _ _ hL' hd' (by omega), List.append_assoc, Nat.add_assoc]

/-! ### Classes -/
/-- A set, as a class. -/
def textT (s : ST) : List UInt8 :=
  if s.count = 256 then [46] else if s.count = 1 then esc (Sets.nxt s.has 0) else if s.count ≤ 128 then 91 :: (spansT (rgs s.has 256) ++ [93]) else 91 :: 94 :: (spansT (rgs s.not.has 256) ++ [93])

theorem mem_upto {a b x : Nat} : x ∈ upto a b ↔ a ≤ x ∧ x ≤ b := by
  unfold upto
  rw [List.mem_map]
  constructor
  · rintro ⟨i, hi, rfl⟩
    rw [List.mem_range] at hi
    omega
  · rintro ⟨h1, h2⟩
    exact ⟨x - a, by rw [List.mem_range]; omega, by omega⟩
/-- The ranges of a set are the set. -/
theorem mk_all {s : ST} (hs : s.Ok) : mkS (allOf (rgs s.has 256)) = s := by
  refine ST.ext (mk_ok _ _ rfl) hs fun b hb => ?_
  rw [mk_has b hb _ _ rfl, Bool.eq_iff_iff, decide_eq_true_eq]
  unfold allOf
  rw [List.mem_flatMap]
  have m := (rgs_ok s.has 256).mem b
  constructor
  · rintro ⟨r, hr, hm⟩
    exact (m.1 ⟨r, hr, mem_upto.1 hm⟩).2
  · intro h
    obtain ⟨r, hr, hm⟩ := m.2 ⟨hb, h⟩
    exact ⟨r, hr, mem_upto.2 hm⟩
theorem single {s : ST} (hs : s.Ok) (h : s.count = 1) : Sets.nxt s.has 0 < 256 ∧ s = .one (Sets.nxt s.has 0) := by
  have hn : Sets.nxt s.has 0 < 256 := (nxt_lt_iff s.has).2 (by have : s.count = Sets.cnt s.has 256 := rfl; omega)
  have nx := nxt_nx s.has 0 (by decide)
  refine ⟨hn, ST.ext hs (ST.one_ok _) fun b hb => ?_⟩
  rw [ST.has_one _ _ hb, Bool.eq_iff_iff, decide_eq_true_eq]
  exact ⟨fun hb' => cnt_one h hb hn hb' (nx.at' hn), fun e => by rw [e]; exact nx.at' hn⟩
theorem mk_one (u : Nat) : mkS [u] = ST.one u := by
  refine ST.ext (mk_ok _ _ rfl) (ST.one_ok _) fun b hb => ?_
  rw [mk_has b hb _ _ rfl, ST.has_one _ _ hb]
  simp

/-- A sign of repetition does not stand there. -/
def noSg (r : List UInt8) : Prop := hd r ≠ 42 ∧ hd r ≠ 43 ∧ hd r ≠ 63 ∧ hd r ≠ 123
theorem sg_none {a : T} {l r : List UInt8} {p o : Nat} (h : l.drop p = r) (hr : noSg r) : sgB a (P07.nxt l ⟨p, none, o⟩) l ⟨p, none, o⟩ = (a, ⟨p, none, o⟩) := by
  rw [nxt_drop, h]
  unfold sgB
  rw [if_neg hr.1, if_neg hr.2.1, if_neg hr.2.2.1, if_neg hr.2.2.2]

theorem must_read {c : UInt8} {l r : List UInt8} {p o : Nat} (h : l.drop p = c :: r) : (must c.toNat l ⟨p, none, o⟩).2 = ⟨p + 1, none, o⟩ := by
  unfold must
  have e : hd (c :: r) = c.toNat := rfl
  rw [nxt_drop, h, e, if_pos rfl]
  rfl
theorem clsQ_read {F : Nat} {nt : Bool} {l r : List UInt8} {p o : Nat} {L : List (Nat × Nat)} (hL : ∀ r, r ∈ L → r.1 ≤ r.2 ∧ r.2 < 256) (h : l.drop p = spansT L ++ 93 :: r) (hF : (spansT L).length < F) :
    clsQ F nt l ⟨p, none, o⟩ = (clsT (if nt then notS (mkS (allOf L)) else mkS (allOf L)), ⟨p + (spansT L).length + 1, none, o⟩) := by
  unfold clsQ
  rw [set_read L F [] p hL h hF, List.nil_append]
  dsimp only
  have := must_read (o := o) (drop_add h)
  rw [show ((93 : UInt8).toNat : Int) = 93 from rfl] at this
  rw [this]

theorem text_hd {s : ST} (hs : s.Ok) : textT s ≠ [] ∧ hd (textT s) ∉ ([40, 41, 124, 42, 43, 63, 123, -1] : List Int) := by
  unfold textT
  split
  · exact ⟨by simp, by simp [hd]⟩
  · split
    · rename_i h1
      have := esc_hd _ (single hs h1).1
      refine ⟨this.1, ?_⟩
      have h2 := this.2
      simp only [List.mem_cons, not_or, List.not_mem_nil, not_false_eq_true, and_true] at h2 ⊢
      omega
    · split
      · exact ⟨by simp, by simp [hd]⟩
      · exact ⟨by simp, by simp [hd]⟩

/-- A CLASS IS READ AS IT WAS. -/
theorem class_read {F : Nat} {A : List UInt8 → PS → T × PS} {s : ST} (hs : s.Ok) {l r : List UInt8} {p o : Nat} (h : l.drop p = textT s ++ r) (hF : l.length < F) : atomP F A l ⟨p, none, o⟩ = (clsT s, ⟨p + (textT s).length, none, o⟩) := by
  have hlen := len_drop h (text_hd hs).1
  unfold atomP
  rw [nxt_drop, h]
  unfold textT at h hlen ⊢
  by_cases h1 : s.count = 256
  · rw [if_pos h1] at h hlen ⊢
    have e : s = notS zS := ST.ext hs (ST.not_ok _) fun b hb => by
      rw [show s.has b = true from cnt_all h1 b hb, show (notS zS).has b = _ from ST.has_not ST.none_ok b hb, ST.has_none]
      rfl
    show atomB F A 46 _ l _ = _
    unfold atomB
    rw [if_neg (by decide), if_pos rfl, ← e]
    rfl
  · rw [if_neg h1] at h hlen ⊢
    by_cases h2 : s.count = 1
    · rw [if_pos h2] at h hlen ⊢
      obtain ⟨hn, e⟩ := single hs h2
      have hh := esc_hd_app hn r
      simp only [List.mem_cons, not_or] at hh
      unfold atomB
      rw [if_neg (by omega), if_neg (by omega), if_neg (by omega)]
      unfold litP
      rw [one_read hn h]
      dsimp only
      rw [Int.toNat_natCast, mk_one, ← e]
    · rw [if_neg h2] at h hlen ⊢
      by_cases h3 : s.count ≤ 128
      · rw [if_pos h3] at h hlen ⊢
        have g := (rgs_ok s.has 256).ord
        show atomB F A 91 _ l _ = _
        unfold atomB
        rw [if_neg (by decide), if_neg (by decide), if_pos rfl]
        have h4 : l.drop (p + 1) = spansT (rgs s.has 256) ++ 93 :: r := by
          rw [drop_one h]; simp
        have hb := spansT_hd g r
        show clsP F l ⟨p + 1, none, o⟩ = _
        unfold clsP
        rw [nxt_drop, h4]
        unfold clsB
        rw [if_neg hb.2, clsQ_read g h4 (by simp at hlen; omega), mk_all hs]
        simp only [Bool.false_eq_true, if_false, List.length_cons, List.length_append, List.length_nil]
        congr 2
        omega
      · rw [if_neg h3] at h hlen ⊢
        have g := (rgs_ok s.not.has 256).ord
        show atomB F A 91 _ l _ = _
        unfold atomB
        rw [if_neg (by decide), if_neg (by decide), if_pos rfl]
        have h4 : l.drop (p + 1) = 94 :: (spansT (rgs s.not.has 256) ++ 93 :: r) := by
          rw [drop_one h]; simp
        have h5 := drop_one h4
        show clsP F l ⟨p + 1, none, o⟩ = _
        unfold clsP
        rw [nxt_drop, h4]
        show clsB F 94 l _ = _
        unfold clsB
        rw [if_pos rfl]
        show clsQ F true l ⟨p + 1 + 1, none, o⟩ = _
        rw [clsQ_read g h5 (by simp at hlen; omega), mk_all (ST.not_ok s)]
        simp only [if_true, List.length_cons, List.length_append, List.length_nil]
        rw [show notS s.not = s from ST.not_not hs]
        congr 2
        omega

end Go.Proofs.Ytmohpjpodkbgkaa.P08
/- Plain mathematics for layer 8 (show), of no program. Part 2: which expressions are right, their texts, and that a right one's text is read as it (the stage's consequence). -/
namespace Go.Proofs.Ytmohpjpodkbgkaa.P08
open Go.Proofs.Ytmohpjpodkbgkaa.P07
open Go.Proofs.Ytmohpjpodkbgkaa.Sets (ST)

/-! ### Numbers and signs of repetition -/
def numT (n : Nat) : List UInt8 := if n < 10 then [UInt8.ofNat (48 + n)] else [UInt8.ofNat (48 + n / 10), UInt8.ofNat (48 + n % 10)]
def times (lo hi : Int) : List UInt8 :=
  if lo = 0 ∧ hi = -1 then [42] else if lo = 1 ∧ hi = -1 then [43] else if lo = 0 ∧ hi = 1 then [63] else 123 :: (numT lo.toNat ++ (if hi = -1 then [44, 125] else if lo < hi then 44 :: (numT hi.toNat ++ [125]) else [125]))

theorem dig_ok : ∀ k, k < 10 → ((UInt8.ofNat (48 + k)).toNat : Int) = 48 + k := by decide +kernel
theorem dig_is {k : Nat} (hk : k < 10) : isDig (48 + (k : Int)) = true := decide_eq_true (by omega)
theorem num_read {l r : List UInt8} {p o n : Nat} (hn : n ≤ 20) (h : l.drop p = numT n ++ r) (hr : isDig (hd r) = false) : number l ⟨p, none, o⟩ = ((n : Int), ⟨p + (numT n).length, none, o⟩) := by
  have key : num l ⟨p, none, o⟩ = ((n : Int), ⟨p + (numT n).length, none, o⟩) := by
    unfold num
    rw [nxt_drop, h]
    unfold numT at h ⊢
    by_cases h1 : n < 10
    · rw [if_pos h1] at h ⊢
      have e : hd ([UInt8.ofNat (48 + n)] ++ r) = 48 + n := dig_ok n h1
      rw [e]
      unfold numB
      rw [if_pos (dig_is h1)]
      show num2 _ l ⟨p + 1, none, o⟩ = _
      unfold num2
      have h2 : l.drop (p + 1) = r := drop_one h
      rw [nxt_drop, h2]
      unfold numB2
      rw [if_neg (by rw [hr]; decide)]
      simp
      omega
    · rw [if_neg h1] at h ⊢
      have e : hd ([UInt8.ofNat (48 + n / 10), UInt8.ofNat (48 + n % 10)] ++ r) = 48 + (n / 10 : Nat) := dig_ok (n / 10) (by omega)
      rw [e]
      have h2 := drop_one h
      have e2 : hd (UInt8.ofNat (48 + n % 10) :: r) = 48 + (n % 10 : Nat) := dig_ok (n % 10) (by omega)
      unfold numB
      rw [if_pos (dig_is (by omega))]
      show num2 _ l ⟨p + 1, none, o⟩ = _
      unfold num2
      rw [nxt_drop, h2]
      show numB2 _ (hd (UInt8.ofNat (48 + n % 10) :: r)) l _ = _
      rw [e2]
      unfold numB2
      rw [if_pos (dig_is (by omega))]
      rw [show (10 * (48 + ((n / 10 : Nat) : Int) - 48) + (48 + ((n % 10 : Nat) : Int) - 48)) = (n : Int) from by omega]
      rfl
  unfold number
  rw [key]
  dsimp only
  rw [if_neg (by omega)]
theorem brace_read {l r : List UInt8} {p o : Nat} {lo hi : Int} (h0 : 0 ≤ lo) (h1 : lo ≤ 20) (h2 : hi = -1 ∨ lo ≤ hi ∧ hi ≤ 20)
    (h : l.drop p = numT lo.toNat ++ (if hi = -1 then [44, 125] else if lo < hi then 44 :: (numT hi.toNat ++ [125]) else [125]) ++ r) :
    braces l ⟨p, none, o⟩ = ((lo, hi), ⟨p + (numT lo.toNat ++ (if hi = -1 then [44, 125] else if lo < hi then 44 :: (numT hi.toNat ++ [125]) else [125])).length, none, o⟩) := by
  have hlo : ((lo.toNat : Nat) : Int) = lo := Int.toNat_of_nonneg h0
  rw [List.append_assoc] at h
  have h3 := drop_add h
  unfold braces
  by_cases a : hi = -1
  · rw [if_pos a] at h h3 ⊢
    rw [num_read (by omega) h (by simp [hd, isDig]), hlo]
    dsimp only
    have e : cmaP lo l ⟨p + (numT lo.toNat).length, none, o⟩ = (-1, ⟨p + (numT lo.toNat).length + 1, none, o⟩) := by
      unfold cmaP
      rw [nxt_drop, h3]
      show cmaB lo 44 l _ = _
      unfold cmaB
      rw [if_pos rfl]
      show maxP lo l ⟨p + (numT lo.toNat).length + 1, none, o⟩ = _
      unfold maxP
      rw [nxt_drop, drop_one h3]
      show maxB lo 125 l _ = _
      unfold maxB
      rw [if_pos rfl]
    rw [e]
    dsimp only
    have := must_read (c := 125) (o := o) (drop_one h3)
    rw [show ((125 : UInt8).toNat : Int) = 125 from rfl] at this
    rw [this, a]
    simp [Nat.add_assoc]
  · rw [if_neg a] at h h3 ⊢
    by_cases b : lo < hi
    · have hhi : ((hi.toNat : Nat) : Int) = hi := Int.toNat_of_nonneg (by omega)
      rw [if_pos b] at h h3 ⊢
      rw [num_read (by omega) h (by simp [hd, isDig]), hlo]
      dsimp only
      have h4 : l.drop (p + (numT lo.toNat).length + 1) = numT hi.toNat ++ (125 :: r) := by
        have := drop_one h3
        rw [this]
        simp
      have e : cmaP lo l ⟨p + (numT lo.toNat).length, none, o⟩ = (hi, ⟨p + (numT lo.toNat).length + 1 + (numT hi.toNat).length, none, o⟩) := by
        unfold cmaP
        rw [nxt_drop, h3]
        show cmaB lo 44 l _ = _
        unfold cmaB
        rw [if_pos rfl]
        show maxP lo l ⟨p + (numT lo.toNat).length + 1, none, o⟩ = _
        unfold maxP
        rw [nxt_drop, h4]
        have hne : hd (numT hi.toNat ++ (125 :: r)) ≠ 125 := by
          unfold numT
          split
          · have := dig_ok hi.toNat (by omega)
            show ((UInt8.ofNat (48 + hi.toNat)).toNat : Int) ≠ 125
            omega
          · have := dig_ok (hi.toNat / 10) (by omega)
            show ((UInt8.ofNat (48 + hi.toNat / 10)).toNat : Int) ≠ 125
            omega
        unfold maxB
        rw [if_neg hne]
        unfold maxC
        rw [num_read (by omega) h4 (by simp [hd, isDig]), hhi]
        dsimp only
        rw [if_neg (by omega)]
      rw [e]
      dsimp only
      have := must_read (c := 125) (o := o) (drop_add h4)
      rw [show ((125 : UInt8).toNat : Int) = 125 from rfl] at this
      rw [this]
      simp
      omega
    · rw [if_neg b] at h h3 ⊢
      rw [num_read (by omega) h (by simp [hd, isDig]), hlo]
      dsimp only
      have e : cmaP lo l ⟨p + (numT lo.toNat).length, none, o⟩ = (lo, ⟨p + (numT lo.toNat).length, none, o⟩) := by
        unfold cmaP
        rw [nxt_drop, h3]
        show cmaB lo 125 l _ = _
        unfold cmaB
        rw [if_neg (by decide)]
      rw [e]
      dsimp only
      have := must_read (c := 125) (o := o) h3
      rw [show ((125 : UInt8).toNat : Int) = 125 from rfl] at this
      rw [this, show hi = lo from by omega]
      simp
      omega
/-- How often it is repeated is read as it was. -/
theorem times_read {a : T} {l r : List UInt8} {p o : Nat} {lo hi : Int} (h0 : 0 ≤ lo) (h1 : lo ≤ 20) (h2 : hi = -1 ∨ lo ≤ hi ∧ hi ≤ 20) (h : l.drop p = times lo hi ++ r) :
    sgB a (P07.nxt l ⟨p, none, o⟩) l ⟨p, none, o⟩ = (repT a lo hi, ⟨p + (times lo hi).length, none, o⟩) := by
  rw [nxt_drop, h]
  unfold times at h ⊢
  by_cases a1 : lo = 0 ∧ hi = -1
  · rw [if_pos a1, a1.1, a1.2]
    show sgB a 42 l _ = _
    unfold sgB
    rw [if_pos rfl]
    rfl
  · rw [if_neg a1] at h ⊢
    by_cases a2 : lo = 1 ∧ hi = -1
    · rw [if_pos a2, a2.1, a2.2]
      show sgB a 43 l _ = _
      unfold sgB
      rw [if_neg (by decide), if_pos rfl]
      rfl
    · rw [if_neg a2] at h ⊢
      by_cases a3 : lo = 0 ∧ hi = 1
      · rw [if_pos a3, a3.1, a3.2]
        show sgB a 63 l _ = _
        unfold sgB
        rw [if_neg (by decide), if_neg (by decide), if_pos rfl]
        rfl
      · rw [if_neg a3] at h ⊢
        have h4 := drop_one h
        show sgB a 123 l _ = _
        unfold sgB
        rw [if_neg (by decide), if_neg (by decide), if_neg (by decide), if_pos rfl]
        show (repT a (braces l ⟨p + 1, none, o⟩).1.1 (braces l ⟨p + 1, none, o⟩).1.2, (braces l ⟨p + 1, none, o⟩).2) = _
        rw [brace_read h0 h1 h2 h4]
        simp
        omega

/-! ### Right expressions, and their texts -/
/-- All fields are zero but those of its kind, which are in bounds. -/
def Bare (k : Int) (s : ST) (mn mx : Int) (n : Nat) : Prop :=
  (k = 1 ∧ s = ST.none ∧ mn = 0 ∧ mx = 0 ∧ n = 0) ∨ (k = 2 ∧ mn = 0 ∧ mx = 0 ∧ n = 0) ∨ ((k = 3 ∨ k = 4) ∧ s = ST.none ∧ mn = 0 ∧ mx = 0 ∧ 2 ≤ n) ∨ (k = 5 ∧ s = ST.none ∧ n = 1 ∧ 0 ≤ mn ∧ mn ≤ 20 ∧ (mx = -1 ∨ mn ≤ mx ∧ mx ≤ 20))
/-- Do brackets stand round a sub of kind j? -/
def rnd (k j : Int) : Bool := if k = 3 then decide (j = 1 ∨ j = 3 ∨ j = 4) else if k = 4 then decide (j = 4) else decide (j ≠ 2)
def br (b : Bool) (u : List UInt8) : List UInt8 := if b then 40 :: (u ++ [41]) else u
mutual
/-- Right, with no more than d brackets open. -/
def RT : Nat → T → Prop
  | d, .nd k s mn mx l => Bare k s mn mx l.length ∧ s.Ok ∧ RL d k l
def RL : Nat → Int → List T → Prop
  | _, _, [] => True
  | d, k, t :: l => (if rnd k t.kind then 1 ≤ d ∧ RT (d - 1) t else RT d t) ∧ RL d k l
end
mutual
/-- Its text. -/
def txt : T → List UInt8
  | .nd k s mn mx l => if k = 2 then textT s else subT k true l ++ (if k = 5 then times mn mx else [])
def subT : Int → Bool → List T → List UInt8
  | _, _, [] => []
  | k, b, t :: l => (if k = 4 ∧ b = false then [124] else []) ++ (br (rnd k t.kind) (txt t) ++ subT k false l)
end

theorem RT.bare {d : Nat} {k : Int} {s : ST} {mn mx : Int} {l : List T} (h : RT d (.nd k s mn mx l)) : Bare k s mn mx l.length ∧ s.Ok ∧ RL d k l := by rw [RT] at h; exact h
theorem txt_eq (k : Int) (s : ST) (mn mx : Int) (l : List T) : txt (.nd k s mn mx l) = if k = 2 then textT s else subT k true l ++ (if k = 5 then times mn mx else []) := by rw [txt]
theorem subT_nil (k : Int) (b : Bool) : subT k b [] = [] := by rw [subT]
theorem subT_cons (k : Int) (b : Bool) (t : T) (l : List T) : subT k b (t :: l) = (if k = 4 ∧ b = false then [124] else []) ++ (br (rnd k t.kind) (txt t) ++ subT k false l) := by rw [subT]
theorem RL_cons {d : Nat} {k : Int} {t : T} {l : List T} (h : RL d k (t :: l)) : (if rnd k t.kind then 1 ≤ d ∧ RT (d - 1) t else RT d t) ∧ RL d k l := by rw [RL] at h; exact h
theorem sub_no {k : Int} (hk : k ≠ 4) (b : Bool) (t : T) (l : List T) : subT k b (t :: l) = br (rnd k t.kind) (txt t) ++ subT k false l := by
  rw [subT_cons, if_neg (by simp [hk]), List.nil_append]

/-- What the grammar's whole does with a right one. -/
def Al (F : Nat) (t : T) : Prop := ∀ (d o : Nat) (l r : List UInt8) (p : Nat), d + o = 12 → RT d t → l.length < F → l.drop p = txt t ++ r → (hd r = -1 ∨ hd r = 41) → altD F (d + 1) l ⟨p, none, o⟩ = (t, ⟨p + (txt t).length, none, o⟩)

theorem br_length (u : List UInt8) : (br true u).length = u.length + 2 := by simp [br]
/-- In brackets. -/
theorem par_read {F d o : Nat} {t : T} {l r : List UInt8} {p : Nat} (ih : Al F t) (hd0 : 1 ≤ d) (hdo : d + o = 12) (hR : RT (d - 1) t) (hF : l.length < F) (h : l.drop p = br true (txt t) ++ r) :
    atomP F (altD F d) l ⟨p, none, o⟩ = (t, ⟨p + (br true (txt t)).length, none, o⟩) := by
  obtain ⟨e, rfl⟩ : ∃ e, d = e + 1 := ⟨d - 1, by omega⟩
  have h1 : l.drop p = 40 :: (txt t ++ (41 :: r)) := by rw [h]; simp [br]
  have h2 := drop_one h1
  have hA := ih e (o + 1) l (41 :: r) (p + 1) (by omega) hR hF h2 (.inr rfl)
  rw [br_length, atom_open (by rw [nxt_drop, h1]; rfl), if_neg (by show o ≠ 12; omega)]
  unfold parP
  show ((altD F (e + 1) l ⟨p + 1, none, o + 1⟩).1, (must 41 l { (altD F (e + 1) l ⟨p + 1, none, o + 1⟩).2 with opn := (altD F (e + 1) l ⟨p + 1, none, o + 1⟩).2.opn - 1 }).2) = _
  rw [hA]
  dsimp only
  rw [Nat.add_sub_cancel]
  have := must_read (c := 41) (o := o) (drop_add h2)
  rw [show ((41 : UInt8).toNat : Int) = 41 from rfl] at this
  rw [this]
  congr 2
  omega

/-- How the text of an item that is no class, and its brackets, begin. -/
def okHd (c : Int) : Prop := c ≠ -1 ∧ c ≠ 124 ∧ c ≠ 41 ∧ c ≠ 42 ∧ c ≠ 43 ∧ c ≠ 63 ∧ c ≠ 123
theorem class_hd {s : ST} (hs : s.Ok) (r : List UInt8) : okHd (hd (textT s ++ r)) ∧ textT s ≠ [] := by
  have h := text_hd hs
  rw [hd_append h.1]
  have h2 := h.2
  simp only [List.mem_cons, not_or, List.not_mem_nil, not_false_eq_true, and_true] at h2
  unfold okHd
  exact ⟨by omega, h.1⟩
theorem par_hd (u r : List UInt8) : okHd (hd (br true u ++ r)) ∧ br true u ≠ [] := by
  unfold okHd
  exact ⟨by simp [br, hd], by simp [br]⟩
theorem kind2 {d : Nat} {t : T} (h : RT d t) (hk : t.kind = 2) : ∃ s : ST, s.Ok ∧ t = clsT s ∧ txt t = textT s := by
  match t, h, hk with
  | .nd k s mn mx l, h, hk =>
    obtain ⟨hb, hs, -⟩ := h.bare
    change k = 2 at hk
    subst hk
    unfold Bare at hb
    have h1 : mn = 0 ∧ mx = 0 ∧ l.length = 0 := by omega
    obtain ⟨rfl, rfl, hl⟩ := h1
    rw [List.length_eq_zero_iff.1 hl] at *
    exact ⟨s, hs, rfl, by rw [txt_eq, if_pos rfl]⟩
theorem kind5 {d : Nat} {t : T} (h : RT d t) (hk : t.kind = 5) : ∃ (a : T) (mn mx : Int), t = repT a mn mx ∧ 0 ≤ mn ∧ mn ≤ 20 ∧ (mx = -1 ∨ mn ≤ mx ∧ mx ≤ 20) ∧ (if rnd 5 a.kind then 1 ≤ d ∧ RT (d - 1) a else RT d a) ∧ txt t = br (rnd 5 a.kind) (txt a) ++ times mn mx := by
  match t, h, hk with
  | .nd k s mn mx l, h, hk =>
    obtain ⟨hb, hs, hl⟩ := h.bare
    change k = 5 at hk
    subst hk
    unfold Bare at hb
    have h1 : s = ST.none ∧ l.length = 1 ∧ 0 ≤ mn ∧ mn ≤ 20 ∧ (mx = -1 ∨ mn ≤ mx ∧ mx ≤ 20) := by
      rcases hb with h | h | h | h
      · omega
      · omega
      · omega
      · exact h.2
    obtain ⟨rfl, h2, h3⟩ := h1
    match l, h2 with
    | [a], _ =>
      refine ⟨a, mn, mx, rfl, h3.1, h3.2.1, h3.2.2, (RL_cons hl).1, ?_⟩
      rw [txt_eq, if_neg (by decide), if_pos rfl, sub_no (by decide), subT_nil, List.append_nil]
theorem rep_hd {d : Nat} {a : T} (h : if rnd 5 a.kind then 1 ≤ d ∧ RT (d - 1) a else RT d a) (r : List UInt8) : okHd (hd (br (rnd 5 a.kind) (txt a) ++ r)) ∧ br (rnd 5 a.kind) (txt a) ≠ [] := by
  cases e : rnd 5 a.kind with
  | true => exact par_hd _ _
  | false =>
    have hk : a.kind = 2 := by unfold rnd at e; simp at e; exact e
    rw [e] at h
    obtain ⟨s, hs, -, ht⟩ := kind2 (by simpa using h) hk
    show okHd (hd (txt a ++ r)) ∧ txt a ≠ []
    rw [ht]
    exact class_hd hs r
/-- An item by itself begins as one. -/
theorem item_hd {d : Nat} {t : T} (h : RT d t) (hk : t.kind = 2 ∨ t.kind = 5) (r : List UInt8) : okHd (hd (txt t ++ r)) ∧ txt t ≠ [] := by
  rcases hk with hk | hk
  · obtain ⟨s, hs, -, ht⟩ := kind2 h hk
    rw [ht]
    exact class_hd hs r
  · obtain ⟨a, mn, mx, -, -, -, -, ha, ht⟩ := kind5 h hk
    rw [ht, List.append_assoc]
    have := rep_hd ha (times mn mx ++ r)
    exact ⟨this.1, by simp [this.2]⟩

theorem kinds {d : Nat} {t : T} (h : RT d t) : t.kind = 1 ∨ t.kind = 2 ∨ t.kind = 3 ∨ t.kind = 4 ∨ t.kind = 5 := by
  match t, h with
  | .nd k s mn mx l, h =>
    have hb := h.bare.1
    unfold Bare at hb
    show k = 1 ∨ k = 2 ∨ k = 3 ∨ k = 4 ∨ k = 5
    omega

/-- An item that stands without brackets. -/
theorem item_plain {F d o : Nat} {t : T} {l r : List UInt8} {p : Nat} (ih : ∀ u, cnt u < cnt t → Al F u) (hdo : d + o = 12) (hR : RT d t) (hk : t.kind = 2 ∨ t.kind = 5) (hF : l.length < F) (h : l.drop p = txt t ++ r) (hr : noSg r) :
    itemP F (altD F d) l ⟨p, none, o⟩ = (t, ⟨p + (txt t).length, none, o⟩) := by
  unfold itemP
  rcases hk with hk | hk
  · obtain ⟨s, hs, e, ht⟩ := kind2 hR hk
    rw [ht] at h ⊢
    rw [class_read hs h hF]
    dsimp only
    rw [sg_none (drop_add h) hr, e]
  · obtain ⟨a, mn, mx, e, h0, h1, h2, ha, ht⟩ := kind5 hR hk
    have hc : cnt a < cnt t := by
      rw [e]
      unfold repT
      rw [cnt, cntL, cntL]
      omega
    rw [ht] at h ⊢
    rw [List.append_assoc] at h
    have hat : atomP F (altD F d) l ⟨p, none, o⟩ = (a, ⟨p + (br (rnd 5 a.kind) (txt a)).length, none, o⟩) := by
      cases eb : rnd 5 a.kind with
      | true =>
        rw [eb, if_pos rfl] at ha
        rw [eb] at h
        exact par_read (ih a hc) ha.1 hdo ha.2 hF h
      | false =>
        rw [eb] at ha h
        have hka : a.kind = 2 := by unfold rnd at eb; simp at eb; exact eb
        obtain ⟨s, hs, e', ht'⟩ := kind2 (by simpa using ha) hka
        change l.drop p = txt a ++ _ at h
        show _ = (a, PS.mk (p + (txt a).length) none o)
        rw [ht'] at h ⊢
        rw [class_read hs h hF, e']
    rw [hat]
    dsimp only
    rw [times_read h0 h1 h2 (drop_add h), e, List.length_append, Nat.add_assoc]

/-- An item, with its brackets if they stand. -/
theorem item_any {F d o : Nat} {t : T} {l r : List UInt8} {p : Nat} (ih : ∀ u, cnt u ≤ cnt t → Al F u) (hdo : d + o = 12) (hR : if rnd 3 t.kind then 1 ≤ d ∧ RT (d - 1) t else RT d t) (hF : l.length < F) (h : l.drop p = br (rnd 3 t.kind) (txt t) ++ r) (hr : noSg r) :
    itemP F (altD F d) l ⟨p, none, o⟩ = (t, ⟨p + (br (rnd 3 t.kind) (txt t)).length, none, o⟩) := by
  cases e : rnd 3 t.kind with
  | true =>
    rw [e] at h hR
    rw [if_pos rfl] at hR
    unfold itemP
    rw [par_read (ih t (Nat.le_refl _)) hR.1 hdo hR.2 hF h]
    dsimp only
    rw [sg_none (drop_add h) hr]
  | false =>
    rw [e] at h hR
    have hR : RT d t := by simpa using hR
    have hk : t.kind = 2 ∨ t.kind = 5 := by
      have := kinds hR
      unfold rnd at e
      simp at e
      omega
    exact item_plain (fun u hu => ih u (by omega)) hdo hR hk hF h hr
theorem item_any_hd {d : Nat} {t : T} (hR : if rnd 3 t.kind then 1 ≤ d ∧ RT (d - 1) t else RT d t) (r : List UInt8) : okHd (hd (br (rnd 3 t.kind) (txt t) ++ r)) ∧ br (rnd 3 t.kind) (txt t) ≠ [] := by
  cases e : rnd 3 t.kind with
  | true => exact par_hd _ _
  | false =>
    rw [e] at hR
    have hR : RT d t := by simpa using hR
    have hk : t.kind = 2 ∨ t.kind = 5 := by
      have := kinds hR
      unfold rnd at e
      simp at e
      omega
    exact item_hd hR hk r

theorem okHd.goes {r : List UInt8} (h : okHd (hd r)) : P07.goes (hd r) := by
  unfold okHd at h
  refine ⟨?_, h.2.1, h.2.2.1⟩
  cases r with
  | nil => simp [hd] at h
  | cons c r => simp [hd]
theorem okHd.noSg {r : List UInt8} (h : okHd (hd r)) : noSg r := by
  unfold okHd at h
  exact ⟨h.2.2.2.1, h.2.2.2.2.1, h.2.2.2.2.2.1, h.2.2.2.2.2.2⟩
theorem stop_noSg {r : List UInt8} (h : hd r = -1 ∨ hd r = 41 ∨ hd r = 124) : noSg r := by
  unfold noSg
  omega
theorem stop_goes {r : List UInt8} (h : hd r = -1 ∨ hd r = 41 ∨ hd r = 124) : ¬ P07.goes (hd r) := by
  unfold P07.goes
  omega

/-- Items, one behind the other. -/
theorem items_read {F d o : Nat} {l r : List UInt8} (hdo : d + o = 12) (hF : l.length < F) (hr : hd r = -1 ∨ hd r = 41 ∨ hd r = 124) : ∀ (L : List T) (f : Nat) (acc : List T) (p : Nat) (b : Bool), (∀ t, t ∈ L → ∀ u, cnt u ≤ cnt t → Al F u) → RL d 3 L → l.drop p = subT 3 b L ++ r → (subT 3 b L).length < f →
    catL F (altD F d) f acc l ⟨p, none, o⟩ = (acc ++ L, ⟨p + (subT 3 b L).length, none, o⟩)
  | [], f, acc, p, b, _, _, h, hf => by
    rw [subT_nil] at h hf ⊢
    obtain ⟨f, rfl⟩ : ∃ g, f = g + 1 := ⟨f - 1, by omega⟩
    rw [catL, nxt_drop, h, List.nil_append, if_neg (stop_goes hr), List.append_nil]
    rfl
  | t :: L, f, acc, p, b, ih, hR, h, hf => by
    obtain ⟨hR1, hR2⟩ := RL_cons hR
    rw [sub_no (by decide)] at h hf ⊢
    rw [List.append_assoc] at h
    have hh := item_any_hd hR1 (subT 3 false L ++ r)
    have hn := List.length_pos_iff.2 hh.2
    rw [List.length_append] at hf
    obtain ⟨f, rfl⟩ : ∃ g, f = g + 1 := ⟨f - 1, by omega⟩
    have hsg : noSg (subT 3 false L ++ r) := by
      cases L with
      | nil => rw [subT_nil]; exact stop_noSg hr
      | cons t' L' =>
        rw [sub_no (by decide), List.append_assoc]
        exact (item_any_hd (RL_cons hR2).1 _).1.noSg
    rw [catL, nxt_drop, h, if_pos hh.1.goes, item_any (ih t (by simp)) hdo hR1 hF h hsg]
    dsimp only
    rw [items_read hdo hF hr L f _ _ false (fun t' ht' => ih t' (List.mem_cons_of_mem _ ht')) hR2 (drop_add h) (by omega), List.length_append, List.append_assoc, Nat.add_assoc]
    rfl

/-- One item alone. -/
theorem cat_one {F : Nat} {A : List UInt8 → PS → T × PS} {l : List UInt8} {p q o : Nat} {t : T} (h : itemP F A l ⟨p, none, o⟩ = (t, ⟨q, none, o⟩)) (hg : P07.goes (hd (l.drop p))) (hs : ¬ P07.goes (hd (l.drop q))) (hF : 2 ≤ F) : catP F A l ⟨p, none, o⟩ = (t, ⟨q, none, o⟩) := by
  obtain ⟨F, rfl⟩ : ∃ g, F = g + 2 := ⟨F - 2, by omega⟩
  unfold catP
  rw [catL, nxt_drop, if_pos hg, h]
  dsimp only
  rw [catL, nxt_drop, if_neg hs]
  rfl

theorem cntL_mem {L : List T} {t : T} (h : t ∈ L) : cnt t ≤ cntL L := by
  obtain ⟨M, N, rfl⟩ := List.append_of_mem h
  rw [cntL_append, cntL]
  omega

/-- Between two |. -/
theorem cat_read {F d o : Nat} {t : T} {l r : List UInt8} {p : Nat} (ih : ∀ u, cnt u < cnt t → Al F u) (hdo : d + o = 12) (hR : RT d t) (hk : t.kind ≠ 4) (hF : l.length < F) (h : l.drop p = txt t ++ r) (hr : hd r = -1 ∨ hd r = 41 ∨ hd r = 124) :
    catP F (altD F d) l ⟨p, none, o⟩ = (t, ⟨p + (txt t).length, none, o⟩) := by
  by_cases hi : t.kind = 2 ∨ t.kind = 5
  · have hh := item_hd hR hi r
    have hl := len_drop h hh.2
    have hn := List.length_pos_iff.2 hh.2
    exact cat_one (item_plain ih hdo hR hi hF h (stop_noSg hr)) (by rw [h]; exact hh.1.goes) (by rw [drop_add h]; exact stop_goes hr) (by omega)
  · have hkk := kinds hR
    match t, ih, hR, hk, h, hi, hkk with
    | .nd k s mn mx L, ih, hR, hk, h, hi, hkk =>
      change k ≠ 4 at hk
      change ¬ (k = 2 ∨ k = 5) at hi
      change k = 1 ∨ k = 2 ∨ k = 3 ∨ k = 4 ∨ k = 5 at hkk
      obtain ⟨hb, hs, hl⟩ := hR.bare
      unfold Bare at hb
      rw [txt_eq, if_neg (by omega), if_neg (by omega), List.append_nil] at h ⊢
      by_cases h1 : k = 1
      · subst h1
        have h2 : s = ST.none ∧ mn = 0 ∧ mx = 0 ∧ L.length = 0 := by
          rcases hb with h | h | h | h
          · exact h.2
          · omega
          · omega
          · omega
        obtain ⟨rfl, rfl, rfl, h3⟩ := h2
        rw [List.length_eq_zero_iff.1 h3, subT_nil] at h ⊢
        unfold catP
        obtain ⟨F, rfl⟩ : ∃ g, F = g + 1 := ⟨F - 1, by omega⟩
        rw [catL, nxt_drop, h, if_neg (by rw [List.nil_append]; exact stop_goes hr)]
        rfl
      · have hk3 : k = 3 := by omega
        subst hk3
        have h2 : s = ST.none ∧ mn = 0 ∧ mx = 0 ∧ 2 ≤ L.length := by
          rcases hb with h | h | h | h
          · omega
          · omega
          · exact h.2
          · omega
        obtain ⟨rfl, rfl, rfl, h3⟩ := h2
        have hlen : (subT 3 true L).length < F := by
          have := congrArg List.length h
          simp at this
          omega
        unfold catP
        rw [items_read hdo hF hr L F [] p true (fun t ht u hu => ih u (by rw [cnt]; have := cntL_mem ht; omega)) hl h hlen]
        match L, h3 with
        | a :: b :: L, _ => rfl

/-- What stands between two | of an Alt. -/
theorem arm_read {F d o : Nat} {t : T} {l r : List UInt8} {p : Nat} (ih : ∀ u, cnt u ≤ cnt t → Al F u) (hdo : d + o = 12) (hR : if rnd 4 t.kind then 1 ≤ d ∧ RT (d - 1) t else RT d t) (hF : l.length < F) (h : l.drop p = br (rnd 4 t.kind) (txt t) ++ r) (hr : hd r = -1 ∨ hd r = 41 ∨ hd r = 124) :
    catP F (altD F d) l ⟨p, none, o⟩ = (t, ⟨p + (br (rnd 4 t.kind) (txt t)).length, none, o⟩) := by
  cases e : rnd 4 t.kind with
  | true =>
    rw [e] at h hR
    rw [if_pos rfl] at hR
    have hh := par_hd (txt t) r
    have hl := len_drop h hh.2
    have hn := List.length_pos_iff.2 hh.2
    refine cat_one ?_ (by rw [h]; exact hh.1.goes) (by rw [drop_add h]; exact stop_goes hr) (by omega)
    unfold itemP
    rw [par_read (ih t (Nat.le_refl _)) hR.1 hdo hR.2 hF h]
    dsimp only
    rw [sg_none (drop_add h) (stop_noSg hr)]
  | false =>
    rw [e] at h hR
    have hk : t.kind ≠ 4 := by
      unfold rnd at e
      simpa using e
    exact cat_read (fun u hu => ih u (by omega)) hdo (by simpa using hR) hk hF h hr

theorem arms_hd (L : List T) {r : List UInt8} (hr : hd r = -1 ∨ hd r = 41) : hd (subT 4 false L ++ r) = -1 ∨ hd (subT 4 false L ++ r) = 41 ∨ hd (subT 4 false L ++ r) = 124 := by
  cases L with
  | nil => rw [subT_nil]; exact hr.imp id Or.inl
  | cons t L => rw [subT_cons, if_pos ⟨rfl, rfl⟩]; exact .inr (.inr rfl)
theorem arms_read {F d o : Nat} {l r : List UInt8} (hdo : d + o = 12) (hF : l.length < F) (hr : hd r = -1 ∨ hd r = 41) : ∀ (L : List T) (f : Nat) (acc : List T) (p : Nat), (∀ t, t ∈ L → ∀ u, cnt u ≤ cnt t → Al F u) → RL d 4 L → l.drop p = subT 4 false L ++ r → (subT 4 false L).length < f →
    altL F (altD F d) f acc l ⟨p, none, o⟩ = (acc ++ L, ⟨p + (subT 4 false L).length, none, o⟩)
  | [], f, acc, p, _, _, h, hf => by
    rw [subT_nil] at h hf ⊢
    obtain ⟨f, rfl⟩ : ∃ g, f = g + 1 := ⟨f - 1, by omega⟩
    rw [altL, nxt_drop, h, if_neg (by rw [List.nil_append]; omega), List.append_nil]
    rfl
  | t :: L, f, acc, p, ih, hR, h, hf => by
    obtain ⟨hR1, hR2⟩ := RL_cons hR
    rw [subT_cons, if_pos ⟨rfl, rfl⟩] at h hf ⊢
    have h1 : l.drop p = 124 :: (br (rnd 4 t.kind) (txt t) ++ (subT 4 false L ++ r)) := by rw [h]; simp
    have h2 := drop_one h1
    rw [List.length_append, List.length_append] at hf
    obtain ⟨f, rfl⟩ : ∃ g, f = g + 1 := ⟨f - 1, by omega⟩
    have hstop := arms_hd L hr
    have hc := arm_read (ih t (by simp)) hdo hR1 hF h2 hstop
    rw [altL, nxt_drop, h1, if_pos (by rfl)]
    show altL F (altD F d) f (acc ++ [(catP F (altD F d) l ⟨p + 1, none, o⟩).1]) l (catP F (altD F d) l ⟨p + 1, none, o⟩).2 = _
    rw [hc]
    dsimp only
    rw [arms_read hdo hF hr L f _ _ (fun t' ht' => ih t' (List.mem_cons_of_mem _ ht')) hR2 (drop_add h2) (by simp at hf; omega), List.length_append, List.length_append, List.append_assoc]
    congr 2
    simp
    omega

/-- No | behind it. -/
theorem alt_none {F : Nat} {A : List UInt8 → PS → T × PS} {l : List UInt8} {p q o : Nat} {t : T} (h : catP F A l ⟨p, none, o⟩ = (t, ⟨q, none, o⟩)) (hs : hd (l.drop q) ≠ 124) (hF : 1 ≤ F) : altP F A l ⟨p, none, o⟩ = (t, ⟨q, none, o⟩) := by
  obtain ⟨F, rfl⟩ : ∃ g, F = g + 1 := ⟨F - 1, by omega⟩
  unfold altP
  rw [h]
  dsimp only
  rw [altL, nxt_drop, if_neg hs]
  rfl

/-- The whole. -/
theorem al_step {F : Nat} {t : T} (ih : ∀ u, cnt u < cnt t → Al F u) : Al F t := fun d o l r p hdo hR hF h hr => by
  have hr3 : hd r = -1 ∨ hd r = 41 ∨ hd r = 124 := hr.imp id Or.inl
  show altP F (altD F d) l ⟨p, none, o⟩ = _
  by_cases hk : t.kind = 4
  · match t, ih, hR, hk, h with
    | .nd k s mn mx L, ih, hR, hk, h =>
      change k = 4 at hk
      subst hk
      obtain ⟨hb, hs, hl⟩ := hR.bare
      unfold Bare at hb
      have h2 : s = ST.none ∧ mn = 0 ∧ mx = 0 ∧ 2 ≤ L.length := by
        rcases hb with h | h | h | h
        · omega
        · omega
        · exact h.2
        · omega
      obtain ⟨rfl, rfl, rfl, h3⟩ := h2
      have ihL : ∀ t, t ∈ L → ∀ u, cnt u ≤ cnt t → Al F u := fun t ht u hu => ih u (by rw [cnt]; have := cntL_mem ht; omega)
      rw [txt_eq, if_neg (by decide), if_neg (by decide), List.append_nil] at h ⊢
      match L, h3, ihL, hl, h with
      | a :: b :: L, _, ihL, hl, h =>
        obtain ⟨hR1, hR2⟩ := RL_cons hl
        have hlen : (subT 4 false (b :: L)).length < F := by
          have := congrArg List.length h
          rw [subT_cons] at this
          simp at this
          omega
        rw [subT_cons, if_neg (by decide), List.nil_append] at h ⊢
        rw [List.append_assoc] at h
        have hc := arm_read (ihL a (by simp)) hdo hR1 hF h (arms_hd _ hr)
        unfold altP
        rw [hc]
        dsimp only
        rw [arms_read hdo hF hr (b :: L) F _ _ (fun t' ht' => ihL t' (List.mem_cons_of_mem _ ht')) hR2 (drop_add h) hlen, List.length_append, Nat.add_assoc]
        rfl
  · exact alt_none (cat_read ih hdo hR hk hF h hr3) (by rw [drop_add h]; omega) (by omega)
theorem al_all {F : Nat} : ∀ (n : Nat) (t : T), cnt t ≤ n → Al F t
  | 0, t, h => by rw [cnt_eq] at h; omega
  | n + 1, t, h => al_step fun u hu => al_all n u (by omega)

/-- A RIGHT EXPRESSION'S TEXT IS READ AS IT. -/
theorem text_read {F : Nat} {t : T} (hR : RT 12 t) (hF : (txt t).length < F) : parse F (txt t) = .inr t := by
  refine right_of (o := 0) ?_
  have := al_all (cnt t) t (Nat.le_refl _) 12 0 (txt t) [] 0 rfl hR hF (by simp) (.inl rfl)
  rw [Nat.zero_add] at this
  exact this

end Go.Proofs.Ytmohpjpodkbgkaa.P08
/- Plain mathematics for layer 8 (show), of no program. Part 3: what is read is right; unlike right expressions have unlike texts; a part's text stands in the whole's; how many brackets stand open, as the document counts. -/
namespace Go.Proofs.Ytmohpjpodkbgkaa.P08
open Go.Proofs.Ytmohpjpodkbgkaa.P07
open Go.Proofs.Ytmohpjpodkbgkaa.Sets (ST)

/-! ### The brackets that are counted beside stay as they were -/
def Opn {α : Type} (f : List UInt8 → PS → α × PS) : Prop := ∀ l s, (f l s).2.opn = s.opn
theorem fail_opn (s : PS) (k : Nat) : (s.fail k).opn = s.opn := by unfold PS.fail; split <;> rfl
theorem adv_opn (s : PS) : s.adv.opn = s.opn := rfl
theorem digit_opn : Opn digit := fun l s => by
  unfold digit
  split
  · rfl
  · exact fail_opn _ _
theorem two_opn : Opn two := fun l s => by
  unfold two
  exact (digit_opn _ _).trans (digit_opn _ _)
theorem esc_opn : Opn escP := fun l s => by
  unfold escP escB
  split
  · exact two_opn _ _
  · split
    · rfl
    · split
      · rfl
      · split
        · rfl
        · exact fail_opn _ _
theorem one_opn : Opn one := fun l s => by
  unfold one oneB
  split
  · rfl
  · split
    · exact esc_opn _ _
    · exact fail_opn _ _
theorem hi_opn (lo : Int) : Opn (hiP lo) := fun l s => by
  unfold hiP
  dsimp only
  split
  · exact (fail_opn _ _).trans (one_opn _ _)
  · exact one_opn _ _
theorem range_opn : Opn range1 := fun l s => by
  unfold range1 dashB
  split
  · exact (hi_opn _ _ _).trans (one_opn _ _)
  · exact one_opn _ _
theorem set_opn : ∀ f acc, Opn (setP f acc)
  | 0, acc => fun l s => rfl
  | f + 1, acc => fun l s => by
    rw [setP]
    split
    · split
      · rfl
      · exact (set_opn f _ _ _).trans (range_opn _ _)
    · rfl
theorem num2_opn (d : Int) : Opn (num2 d) := fun l s => by
  unfold num2 numB2
  split <;> rfl
theorem num_opn : Opn num := fun l s => by
  unfold num numB
  split
  · exact num2_opn _ _ _
  · exact fail_opn _ _
theorem number_opn : Opn number := fun l s => by
  unfold number
  dsimp only
  split
  · exact (fail_opn _ _).trans (num_opn _ _)
  · exact num_opn _ _
theorem must_opn (c : Int) : Opn (must c) := fun l s => by
  unfold must
  show (if P07.nxt l s = c then s else s.fail s.pos).opn = _
  split
  · rfl
  · exact fail_opn _ _
theorem max_opn (mn : Int) : Opn (maxP mn) := fun l s => by
  unfold maxP maxB
  split
  · rfl
  · unfold maxC
    dsimp only
    split
    · exact (fail_opn _ _).trans (number_opn _ _)
    · exact number_opn _ _
theorem cma_opn (mn : Int) : Opn (cmaP mn) := fun l s => by
  unfold cmaP cmaB
  split
  · exact max_opn _ _ _
  · rfl
theorem braces_opn : Opn braces := fun l s => by
  unfold braces
  exact (must_opn _ _ _).trans ((cma_opn _ _ _).trans (number_opn _ _))
theorem clsQ_opn (F : Nat) (nt : Bool) : Opn (clsQ F nt) := fun l s => by
  unfold clsQ
  exact (must_opn _ _ _).trans (set_opn _ _ _ _)
theorem cls_opn (F : Nat) : Opn (clsP F) := fun l s => by
  unfold clsP clsB
  split
  · exact clsQ_opn _ _ _ _
  · exact clsQ_opn _ _ _ _
theorem lit_opn : Opn litP := fun l s => one_opn l s

/-! ### What is read is right -/
/-- What it gives, if nothing is wrong; and the brackets are as before. -/
def Gives {α : Type} (f : List UInt8 → PS → α × PS) (o : Nat) (P : α → Prop) : Prop := ∀ l s, s.opn = o → s.bad = none → (f l s).2.bad = none → P (f l s).1 ∧ (f l s).2.opn = o

theorem before {α : Type} {f : List UInt8 → PS → α × PS} (h : Tame f) {l : List UInt8} {s : PS} (hb : (f l s).2.bad = none) : s.bad = none := by
  cases e : s.bad with
  | none => rfl
  | some b =>
    rw [h.bad l s b e] at hb
    cases hb

theorem fail_bad (s : PS) (k : Nat) : (s.fail k).bad ≠ none := by
  unfold PS.fail
  split
  · simp
  · assumption
theorem dig_bounds {c : Int} (h : isDig c = true) : 0 ≤ c - 48 ∧ c - 48 ≤ 9 := by
  unfold isDig at h
  have := of_decide_eq_true h
  omega
theorem num_gives {l : List UInt8} {s : PS} (h : (num l s).2.bad = none) : 0 ≤ (num l s).1 := by
  unfold num numB at h ⊢
  split at h
  · rename_i h1
    rw [if_pos h1]
    unfold num2 numB2
    have := dig_bounds h1
    split
    · rename_i h2
      have := dig_bounds h2
      dsimp only
      omega
    · exact this.1
  · exact absurd h (fail_bad _ _)
theorem number_gives {l : List UInt8} {s : PS} (h : (number l s).2.bad = none) : 0 ≤ (number l s).1 ∧ (number l s).1 ≤ 20 := by
  unfold number at h ⊢
  dsimp only at h ⊢
  split at h
  · exact absurd h (fail_bad _ _)
  · rename_i h1
    have h2 := num_gives h
    refine ⟨h2, ?_⟩
    rcases Int.lt_or_le 20 (num l s).1 with h3 | h3
    · exact absurd ⟨h, h3⟩ h1
    · exact h3
theorem max_gives {mn : Int} {l : List UInt8} {s : PS} (h : (maxP mn l s).2.bad = none) : (maxP mn l s).1 = -1 ∨ mn ≤ (maxP mn l s).1 ∧ (maxP mn l s).1 ≤ 20 := by
  unfold maxP maxB at h ⊢
  split at h
  · rename_i h1
    rw [if_pos h1]
    exact .inl rfl
  · rename_i h1
    rw [if_neg h1]
    unfold maxC at h ⊢
    dsimp only at h ⊢
    split at h
    · exact absurd h (fail_bad _ _)
    · rename_i h2
      have h3 := number_gives h
      rcases Int.lt_or_le (number l s).1 mn with h4 | h4
      · exact absurd ⟨h, h4⟩ h2
      · exact .inr ⟨h4, h3.2⟩
theorem cma_gives {mn : Int} (hm : mn ≤ 20) {l : List UInt8} {s : PS} (h : (cmaP mn l s).2.bad = none) : (cmaP mn l s).1 = -1 ∨ mn ≤ (cmaP mn l s).1 ∧ (cmaP mn l s).1 ≤ 20 := by
  unfold cmaP cmaB at h ⊢
  split at h
  · rename_i h1
    rw [if_pos h1]
    exact max_gives h
  · rename_i h1
    rw [if_neg h1]
    exact .inr ⟨Int.le_refl _, hm⟩
theorem braces_gives {l : List UInt8} {s : PS} (h : (braces l s).2.bad = none) : 0 ≤ (braces l s).1.1 ∧ (braces l s).1.1 ≤ 20 ∧ ((braces l s).1.2 = -1 ∨ (braces l s).1.1 ≤ (braces l s).1.2 ∧ (braces l s).1.2 ≤ 20) := by
  have h1 : (cmaP (number l s).1 l (number l s).2).2.bad = none := before (must_tame 125 (by decide)) h
  have h2 : (number l s).2.bad = none := before (cma_tame _) h1
  have h3 := number_gives h2
  exact ⟨h3.1, h3.2, cma_gives h3.2 h1⟩

mutual
theorem RT_mono : ∀ (t : T) (d e : Nat), RT d t → d ≤ e → RT e t
  | .nd k s mn mx l, d, e, h, hd => by
    have := h.bare
    rw [RT]
    exact ⟨this.1, this.2.1, RL_mono l d e k this.2.2 hd⟩
theorem RL_mono : ∀ (l : List T) (d e : Nat) (k : Int), RL d k l → d ≤ e → RL e k l
  | [], d, e, k, h, hd => by rw [RL]; trivial
  | t :: l, d, e, k, h, hd => by
    obtain ⟨h1, h2⟩ := RL_cons h
    rw [RL]
    refine ⟨?_, RL_mono l d e k h2 hd⟩
    split
    · rename_i h3
      rw [if_pos h3] at h1
      exact ⟨by omega, RT_mono t (d - 1) (e - 1) h1.2 (by omega)⟩
    · rename_i h3
      rw [if_neg h3] at h1
      exact RT_mono t d e h1 hd
end

/-- What an atom may be. -/
def IA (d : Nat) (a : T) : Prop := (∃ s : ST, s.Ok ∧ a = clsT s) ∨ (1 ≤ d ∧ RT (d - 1) a)
/-- What may stand in a node of a kind. -/
def IS (d : Nat) (k : Int) (t : T) : Prop := if rnd k t.kind then 1 ≤ d ∧ RT (d - 1) t else RT d t

theorem class_RT {s : ST} (hs : s.Ok) (d : Nat) : RT d (clsT s) := by
  unfold clsT
  rw [RT]
  exact ⟨.inr (.inl ⟨rfl, rfl, rfl, rfl⟩), hs, by rw [RL]; trivial⟩
theorem IA.is {d : Nat} {a : T} (h : IA d a) (k : Int) (hk : k = 3 ∨ k = 4 ∨ k = 5) : IS d k a := by
  unfold IS
  rcases h with ⟨s, hs, rfl⟩ | ⟨h1, h2⟩
  · have e : rnd k (clsT s).kind = false := by
      show rnd k 2 = false
      unfold rnd
      rcases hk with rfl | rfl | rfl <;> decide
    rw [if_neg (by rw [e]; decide)]
    exact class_RT hs d
  · split
    · exact ⟨h1, h2⟩
    · exact RT_mono a _ _ h2 (by omega)
theorem IS.rt {d : Nat} {k : Int} {t : T} (h : IS d k t) : RT d t := by
  unfold IS at h
  split at h
  · exact RT_mono t _ _ h.2 (by omega)
  · exact h
theorem RL_all {d : Nat} {k : Int} : ∀ (L : List T), (∀ t, t ∈ L → IS d k t) → RL d k L
  | [], _ => by rw [RL]; trivial
  | t :: L, h => by
    rw [RL]
    exact ⟨h t (by simp), RL_all L fun u hu => h u (List.mem_cons_of_mem _ hu)⟩
theorem rep_RT {d : Nat} {a : T} (h : IA d a) {lo hi : Int} (h0 : 0 ≤ lo) (h1 : lo ≤ 20) (h2 : hi = -1 ∨ lo ≤ hi ∧ hi ≤ 20) : RT d (repT a lo hi) := by
  unfold repT
  rw [RT]
  refine ⟨.inr (.inr (.inr ⟨rfl, rfl, rfl, h0, h1, h2⟩)), ST.none_ok, RL_all _ fun t ht => ?_⟩
  rw [List.mem_singleton.1 ht]
  exact h.is 5 (by omega)
theorem rep_is {d : Nat} {a : T} (h : IA d a) {lo hi : Int} (h0 : 0 ≤ lo) (h1 : lo ≤ 20) (h2 : hi = -1 ∨ lo ≤ hi ∧ hi ≤ 20) (k : Int) (hk : k = 3 ∨ k = 4) : IS d k (repT a lo hi) := by
  have e : rnd k (repT a lo hi).kind = false := by
    show rnd k 5 = false
    unfold rnd
    rcases hk with rfl | rfl <;> decide
  unfold IS
  rw [if_neg (by rw [e]; decide)]
  exact rep_RT h h0 h1 h2

/-- The whole, d brackets more may stand open. -/
def AG (F d : Nat) : Prop := ∀ o, d + o = 12 → Gives (altD F (d + 1)) o (RT d)

theorem atom_gives {F d o : Nat} (hdo : d + o = 12) (ih : ∀ e, d = e + 1 → AG F e) : Gives (atomP F (altD F d)) o (IA d) := fun l s ho hb h => by
  unfold atomP atomB at h ⊢
  by_cases h1 : P07.nxt l s = 40
  · rw [if_pos h1] at h ⊢
    by_cases h2 : s.opn = 12
    · rw [if_pos h2] at h
      exact absurd h (fail_bad _ _)
    · rw [if_neg h2] at h ⊢
      obtain ⟨e, rfl⟩ : ∃ e, d = e + 1 := ⟨d - 1, by omega⟩
      unfold parP at h ⊢
      dsimp only at h ⊢
      have h3 := before (must_tame 41 (by decide)) h
      dsimp only at h3
      obtain ⟨h4, h5⟩ := ih e rfl (o + 1) (by omega) l { s.adv with opn := s.adv.opn + 1 } (by show s.opn + 1 = _; omega) hb h3
      refine ⟨.inr ⟨by omega, h4⟩, ?_⟩
      rw [must_opn]
      dsimp only
      rw [h5]
      rfl
  · rw [if_neg h1] at h ⊢
    by_cases h2 : P07.nxt l s = 46
    · rw [if_pos h2] at h ⊢
      exact ⟨.inl ⟨_, ST.not_ok _, rfl⟩, ho⟩
    · rw [if_neg h2] at h ⊢
      by_cases h3 : P07.nxt l s = 91
      · rw [if_pos h3] at h ⊢
        refine ⟨.inl ?_, (cls_opn F _ _).trans ho⟩
        unfold clsP clsB clsQ
        have key : ∀ (nt : Bool) (L : List Nat), (if nt then notS (mkS L) else mkS L).Ok := fun nt L => by
          cases nt
          · exact mk_ok _ _ rfl
          · exact ST.not_ok _
        split
        · exact ⟨_, key true _, rfl⟩
        · exact ⟨_, key false _, rfl⟩
      · rw [if_neg h3] at h ⊢
        exact ⟨.inl ⟨_, mk_ok _ _ rfl, rfl⟩, (lit_opn _ _).trans ho⟩

theorem item_gives {F d o : Nat} (hdo : d + o = 12) (ih : ∀ e, d = e + 1 → AG F e) : Gives (itemP F (altD F d)) o (fun t => IS d 3 t ∧ IS d 4 t) := fun l s ho hb h => by
  unfold itemP at h ⊢
  have h0 := before (sg_tame (atomP F (altD F d) l s).1) h
  obtain ⟨h1, h2⟩ := atom_gives hdo ih l s ho hb h0
  generalize atomP F (altD F d) l s = x at *
  unfold sgB at h ⊢
  by_cases c1 : P07.nxt l x.2 = 42
  · rw [if_pos c1] at h ⊢
    exact ⟨⟨rep_is h1 (by omega) (by omega) (.inl rfl) 3 (by omega), rep_is h1 (by omega) (by omega) (.inl rfl) 4 (by omega)⟩, h2⟩
  · rw [if_neg c1] at h ⊢
    by_cases c2 : P07.nxt l x.2 = 43
    · rw [if_pos c2] at h ⊢
      exact ⟨⟨rep_is h1 (by omega) (by omega) (.inl rfl) 3 (by omega), rep_is h1 (by omega) (by omega) (.inl rfl) 4 (by omega)⟩, h2⟩
    · rw [if_neg c2] at h ⊢
      by_cases c3 : P07.nxt l x.2 = 63
      · rw [if_pos c3] at h ⊢
        exact ⟨⟨rep_is h1 (by omega) (by omega) (.inr ⟨by omega, by omega⟩) 3 (by omega), rep_is h1 (by omega) (by omega) (.inr ⟨by omega, by omega⟩) 4 (by omega)⟩, h2⟩
      · rw [if_neg c3] at h ⊢
        by_cases c4 : P07.nxt l x.2 = 123
        · rw [if_pos c4] at h ⊢
          obtain ⟨b1, b2, b3⟩ := braces_gives h
          exact ⟨⟨rep_is h1 b1 b2 b3 3 (by omega), rep_is h1 b1 b2 b3 4 (by omega)⟩, (braces_opn _ _).trans h2⟩
        · rw [if_neg c4] at h ⊢
          exact ⟨⟨h1.is 3 (by omega), h1.is 4 (by omega)⟩, h2⟩

theorem catL_gives {F d o : Nat} (hdo : d + o = 12) (ih : ∀ e, d = e + 1 → AG F e) : ∀ f acc, (∀ t, t ∈ acc → IS d 3 t ∧ IS d 4 t) → Gives (catL F (altD F d) f acc) o (fun L => ∀ t, t ∈ L → IS d 3 t ∧ IS d 4 t)
  | 0, acc, ha => fun l s ho hb h => ⟨ha, ho⟩
  | f + 1, acc, ha => fun l s ho hb h => by
    rw [catL] at h ⊢
    split at h
    · rename_i hg
      rw [if_pos hg]
      have h0 := before (catL_tame F (altD_tame F d) f _) h
      obtain ⟨h1, h2⟩ := item_gives hdo ih l s ho hb h0
      refine catL_gives hdo ih f _ (fun t ht => ?_) l _ h2 h0 h
      rcases List.mem_append.1 ht with ht | ht
      · exact ha t ht
      · rw [List.mem_singleton.1 ht]
        exact h1
    · rename_i hg
      rw [if_neg hg]
      exact ⟨ha, ho⟩
theorem cat_gives {F d o : Nat} (hdo : d + o = 12) (ih : ∀ e, d = e + 1 → AG F e) : Gives (catP F (altD F d)) o (IS d 4) := fun l s ho hb h => by
  unfold catP at h ⊢
  obtain ⟨h1, h2⟩ := catL_gives hdo ih F [] (by simp) l s ho hb h
  refine ⟨?_, h2⟩
  generalize (catL F (altD F d) F [] l s).1 = L at *
  dsimp only
  match L, h1 with
  | [], _ =>
    unfold IS
    rw [if_neg (by show ¬ rnd 4 1 = true; decide)]
    unfold wrapC
    rw [RT]
    exact ⟨.inl ⟨rfl, rfl, rfl, rfl, rfl⟩, ST.none_ok, by rw [RL]; trivial⟩
  | [t], h1 => exact (h1 t (by simp)).2
  | a :: b :: L, h1 =>
    unfold IS
    rw [if_neg (by show ¬ rnd 4 3 = true; decide)]
    unfold wrapC
    rw [RT]
    exact ⟨.inr (.inr (.inl ⟨.inl rfl, rfl, rfl, rfl, by simp⟩)), ST.none_ok, RL_all _ fun t ht => (h1 t ht).1⟩
theorem altL_gives {F d o : Nat} (hdo : d + o = 12) (ih : ∀ e, d = e + 1 → AG F e) : ∀ f acc, acc ≠ [] → (∀ t, t ∈ acc → IS d 4 t) → Gives (altL F (altD F d) f acc) o (fun L => L ≠ [] ∧ ∀ t, t ∈ L → IS d 4 t)
  | 0, acc, hn, ha => fun l s ho hb h => ⟨⟨hn, ha⟩, ho⟩
  | f + 1, acc, hn, ha => fun l s ho hb h => by
    rw [altL] at h ⊢
    split at h
    · rename_i hg
      rw [if_pos hg]
      have h0 := before (altL_tame F (altD_tame F d) f _) h
      obtain ⟨h1, h2⟩ := cat_gives hdo ih l s.adv ho hb h0
      refine altL_gives hdo ih f _ (by simp) (fun t ht => ?_) l _ h2 h0 h
      rcases List.mem_append.1 ht with ht | ht
      · exact ha t ht
      · rw [List.mem_singleton.1 ht]
        exact h1
    · rename_i hg
      rw [if_neg hg]
      exact ⟨⟨hn, ha⟩, ho⟩
theorem alt_gives {F d : Nat} (ih : ∀ e, d = e + 1 → AG F e) : AG F d := fun o hdo l s ho hb h => by
  change (altP F (altD F d) l s).2.bad = none at h
  show RT d (altP F (altD F d) l s).1 ∧ (altP F (altD F d) l s).2.opn = o
  unfold altP at h ⊢
  dsimp only at h ⊢
  have h0 := before (altL_tame F (altD_tame F d) F _) h
  obtain ⟨h1, h2⟩ := cat_gives hdo ih l s ho hb h0
  obtain ⟨⟨h3, h4⟩, h5⟩ := altL_gives hdo ih F [(catP F (altD F d) l s).1] (by simp) (fun t ht => by rw [List.mem_singleton.1 ht]; exact h1) l _ h2 h0 h
  refine ⟨?_, h5⟩
  generalize (altL F (altD F d) F [(catP F (altD F d) l s).1] l (catP F (altD F d) l s).2).1 = L at *
  match L, h3, h4 with
  | [t], _, h4 => exact (h4 t (by simp)).rt
  | a :: b :: L, _, h4 =>
    unfold wrapA
    rw [RT]
    exact ⟨.inr (.inr (.inl ⟨.inr rfl, rfl, rfl, rfl, by simp⟩)), ST.none_ok, RL_all _ h4⟩
theorem ag_all {F : Nat} : ∀ d, AG F d
  | 0 => alt_gives fun e he => by omega
  | d + 1 => alt_gives fun e he => by
    rw [show e = d from by omega]
    exact ag_all d

/-- WHAT IS READ IS RIGHT. -/
theorem read_right {F : Nat} {l : List UInt8} {t : T} (h : parse F l = .inr t) : RT 12 t := by
  obtain ⟨h1, h2, -⟩ := right_run h
  have := (ag_all (F := F) 12 0 rfl l s0 rfl rfl h2).1
  change RT 12 (altD F 13 l s0).1 at this
  rw [h1] at this
  exact this

/-- UNLIKE RIGHT EXPRESSIONS HAVE UNLIKE TEXTS. -/
theorem txt_inj {t u : T} (ht : RT 12 t) (hu : RT 12 u) (h : txt t = txt u) : t = u := by
  have h1 := text_read (F := (txt u).length + 1) ht (by rw [h]; omega)
  have h2 := text_read (F := (txt u).length + 1) hu (by omega)
  rw [h, h2] at h1
  injection h1 with h1
  exact h1.symm

/-! ### Parts -/
theorem sub_right {d : Nat} {k : Int} : ∀ {L : List T}, RL d k L → ∀ t, t ∈ L → RT d t
  | [], _, t, h => by simp at h
  | a :: L, hR, t, h => by
    obtain ⟨h1, h2⟩ := RL_cons hR
    rcases List.mem_cons.1 h with rfl | h
    · exact IS.rt (k := k) h1
    · exact sub_right h2 t h
theorem sub_text (k : Int) : ∀ (b : Bool) (L : List T) (t : T), t ∈ L → ∃ u v, subT k b L = u ++ (txt t ++ v)
  | b, [], t, h => by simp at h
  | b, a :: L, t, h => by
    rw [subT_cons]
    rcases List.mem_cons.1 h with rfl | h
    · cases rnd k t.kind with
      | true => exact ⟨(if k = 4 ∧ b = false then [124] else []) ++ [40], 41 :: subT k false L, by simp [br]⟩
      | false => exact ⟨(if k = 4 ∧ b = false then [124] else []), subT k false L, by simp [br]⟩
    · obtain ⟨u, v, e⟩ := sub_text k false L t h
      exact ⟨(if k = 4 ∧ b = false then [124] else []) ++ (br (rnd k a.kind) (txt a) ++ u), v, by rw [e]; simp⟩
/-- A PART'S TEXT STANDS IN THE WHOLE'S. -/
theorem part_text {d : Nat} {t u : T} (h : RT d t) (hu : u ∈ t.subs) : RT d u ∧ ∃ a b, txt t = a ++ (txt u ++ b) := by
  match t, h, hu with
  | .nd k s mn mx L, h, hu =>
    change u ∈ L at hu
    obtain ⟨hb, -, hl⟩ := h.bare
    refine ⟨sub_right hl u hu, ?_⟩
    have hk : k ≠ 2 := by
      rintro rfl
      unfold Bare at hb
      have : L.length = 0 := by omega
      rw [List.length_eq_zero_iff.1 this] at hu
      simp at hu
    obtain ⟨a, b, e⟩ := sub_text k true L u hu
    rw [txt_eq, if_neg hk, e]
    exact ⟨a, b ++ (if k = 5 then times mn mx else []), by simp⟩

end Go.Proofs.Ytmohpjpodkbgkaa.P08
/- Layer 8 (show), plain. Part 4: the document's own way to count: is a node bare, how many brackets stand open; and that this says which expressions are right. -/
namespace Go.Proofs.Ytmohpjpodkbgkaa.P08
open Go.Proofs.Ytmohpjpodkbgkaa.P07 Go.Proofs.Ytmohpjpodkbgkaa.Bytes
open Go.Proofs.Ytmohpjpodkbgkaa.Sets (ST)

/-- Bare, by its kind. -/
def bareB (t : T) : Bool :=
  if t.kind = 1 then eqB t.set ST.none && (decide (t.mn = 0) && (decide (t.mx = 0) && decide (t.subs.length = 0)))
  else if t.kind = 2 then decide (t.mn = 0) && (decide (t.mx = 0) && decide (t.subs.length = 0))
  else if t.kind = 3 ∨ t.kind = 4 then eqB t.set ST.none && (decide (t.mn = 0) && (decide (t.mx = 0) && decide (2 ≤ t.subs.length)))
  else if t.kind = 5 then eqB t.set ST.none && (decide (t.subs.length = 1) && (decide (0 ≤ t.mn) && (decide (t.mn ≤ 20) && (decide (t.mx = -1) || (decide (t.mn ≤ t.mx) && decide (t.mx ≤ 20))))))
  else false

theorem bareB_iff (k : Int) (s : ST) (mn mx : Int) (l : List T) : bareB (.nd k s mn mx l) = true ↔ Bare k s mn mx l.length := by
  unfold bareB Bare T.kind T.set T.mn T.mx T.subs
  dsimp only
  by_cases h1 : k = 1
  · rw [if_pos h1]
    simp only [Bool.and_eq_true, decide_eq_true_eq, eqB_iff]
    constructor
    · rintro ⟨e1, h2, h3, h4⟩
      exact .inl ⟨h1, e1, h2, h3, h4⟩
    · rintro (h | h | h | h)
      · exact h.2
      · omega
      · omega
      · omega
  · rw [if_neg h1]
    by_cases h2 : k = 2
    · rw [if_pos h2]
      simp only [Bool.and_eq_true, decide_eq_true_eq]
      constructor
      · rintro ⟨e2, e3, e4⟩
        exact .inr (.inl ⟨h2, e2, e3, e4⟩)
      · rintro (h | h | h | h)
        · omega
        · exact h.2
        · omega
        · omega
    · rw [if_neg h2]
      by_cases h3 : k = 3 ∨ k = 4
      · rw [if_pos h3]
        simp only [Bool.and_eq_true, decide_eq_true_eq, eqB_iff]
        constructor
        · rintro ⟨e1, e2, e3, e4⟩
          exact .inr (.inr (.inl ⟨h3, e1, e2, e3, e4⟩))
        · rintro (h | h | h | h)
          · omega
          · omega
          · exact h.2
          · omega
      · rw [if_neg h3]
        by_cases h4 : k = 5
        · rw [if_pos h4]
          simp only [Bool.and_eq_true, Bool.or_eq_true, decide_eq_true_eq, eqB_iff]
          constructor
          · rintro ⟨e1, e2, e3, e4, e5⟩
            exact .inr (.inr (.inr ⟨h4, e1, e2, e3, e4, e5⟩))
          · rintro (h | h | h | h)
            · omega
            · omega
            · omega
            · exact h.2
        · rw [if_neg h4]
          constructor
          · intro h
            cases h
          · intro h
            omega

mutual
/-- All sets are sets. -/
def SOk : T → Prop
  | .nd _ s _ _ l => s.Ok ∧ SOkL l
def SOkL : List T → Prop
  | [] => True
  | t :: l => SOk t ∧ SOkL l
end
mutual
/-- How many brackets stand open at most; -1: it isn't right. -/
def opn : T → Int
  | .nd k s mn mx l => if bareB (.nd k s mn mx l) then opnL k 0 l else -1
def opnL : Int → Int → List T → Int
  | _, m, [] => m
  | k, m, t :: l => if opn t < 0 then -1 else opnL k (max m (if rnd k t.kind then opn t + 1 else opn t)) l
end

theorem SOk_cons {t : T} {l : List T} (h : SOkL (t :: l)) : SOk t ∧ SOkL l := by rw [SOkL] at h; exact h
mutual
theorem opn_iff : ∀ (t : T) (d : Nat), SOk t → ((0 ≤ opn t ∧ opn t ≤ d) ↔ RT d t)
  | .nd k s mn mx l, d, hs => by
    rw [SOk] at hs
    rw [opn, RT]
    have hb := bareB_iff k s mn mx l
    by_cases h : bareB (.nd k s mn mx l) = true
    · rw [if_pos h]
      have := opnL_iff l d k 0 hs.2 (Int.le_refl 0)
      rw [this]
      constructor
      · rintro ⟨-, h2⟩
        exact ⟨hb.1 h, hs.1, h2⟩
      · rintro ⟨-, -, h2⟩
        exact ⟨by omega, h2⟩
    · rw [if_neg h]
      constructor
      · intro h2
        omega
      · rintro ⟨h2, -⟩
        exact absurd (hb.2 h2) h
theorem opnL_iff : ∀ (l : List T) (d : Nat) (k m : Int), SOkL l → 0 ≤ m → ((0 ≤ opnL k m l ∧ opnL k m l ≤ d) ↔ m ≤ d ∧ RL d k l)
  | [], d, k, m, _, hm => by
    rw [opnL, RL]
    exact ⟨fun h => ⟨h.2, trivial⟩, fun h => ⟨hm, h.1⟩⟩
  | t :: l, d, k, m, hs, hm => by
    obtain ⟨h1, h2⟩ := SOk_cons hs
    rw [opnL, RL]
    by_cases h : opn t < 0
    · rw [if_pos h]
      constructor
      · intro h3
        omega
      · rintro ⟨-, h3, -⟩
        split at h3
        · have := (opn_iff t (d - 1) h1).2 h3.2
          omega
        · have := (opn_iff t d h1).2 h3
          omega
    · rw [if_neg h]
      rw [opnL_iff l d k _ h2 (by omega)]
      constructor
      · rintro ⟨h3, h4⟩
        refine ⟨by omega, ?_, h4⟩
        split
        · rename_i hr
          rw [if_pos hr] at h3
          exact ⟨by omega, (opn_iff t (d - 1) h1).1 (by omega)⟩
        · rename_i hr
          rw [if_neg hr] at h3
          exact (opn_iff t d h1).1 (by omega)
      · rintro ⟨h3, h4, h5⟩
        refine ⟨?_, h5⟩
        split
        · rename_i hr
          rw [if_pos hr] at h4
          have := (opn_iff t (d - 1) h1).2 h4.2
          omega
        · rename_i hr
          rw [if_neg hr] at h4
          have := (opn_iff t d h1).2 h4
          omega
end

/-- Right, as the document counts. -/
def rightB (t : T) : Bool := decide (0 ≤ opn t) && decide (opn t ≤ 12)
theorem rightB_iff {t : T} (h : SOk t) : rightB t = true ↔ RT 12 t := by
  rw [← opn_iff t 12 h]
  unfold rightB
  simp

/-- Over the parts gone over: as far as they are right. -/
theorem opnL_append (k : Int) : ∀ (l : List T) (m : Int) (t : T), 0 ≤ m → opnL k m (l ++ [t]) = if opnL k m l < 0 then -1 else if opn t < 0 then -1 else max (opnL k m l) (if rnd k t.kind then opn t + 1 else opn t)
  | [], m, t, hm => by
    rw [List.nil_append, opnL, opnL, opnL, if_neg (show ¬ m < 0 by omega)]
  | s :: l, m, t, hm => by
    rw [List.cons_append, opnL, opnL]
    by_cases h : opn s < 0
    · rw [if_pos h, if_pos h, if_pos (by omega)]
    · rw [if_neg h, if_neg h, opnL_append k l _ t (by omega)]
theorem opnL_ge (k : Int) : ∀ (l : List T) (m : Int), -1 ≤ m → -1 ≤ opnL k m l
  | [], m, hm => by rw [opnL]; exact hm
  | t :: l, m, hm => by
    rw [opnL]
    split
    · exact Int.le_refl _
    · exact opnL_ge k l _ (by omega)
theorem opn_ge (t : T) : -1 ≤ opn t := by
  cases t with
  | nd k s mn mx l =>
    rw [opn]
    split
    · exact opnL_ge k l 0 (by omega)
    · exact Int.le_refl _
mutual
theorem opn_le : ∀ t : T, opn t ≤ cnt t
  | .nd k s mn mx l => by
    rw [opn, cnt]
    split
    · have := opnL_le l k 0
      omega
    · omega
theorem opnL_le : ∀ (l : List T) (k m : Int), opnL k m l ≤ max m (cntL l + 1)
  | [], k, m => by rw [opnL]; omega
  | t :: l, k, m => by
    rw [opnL, cntL]
    split
    · omega
    · have h1 := opnL_le l k (max m (if rnd k t.kind then opn t + 1 else opn t))
      have h2 := opn_le t
      have h3 : (if rnd k t.kind then opn t + 1 else opn t) ≤ opn t + 1 := by split <;> omega
      generalize (if rnd k t.kind then opn t + 1 else opn t) = X at *
      omega
end

end Go.Proofs.Ytmohpjpodkbgkaa.P08
/- The document's bare and round (layer 8). -/
namespace Go.Proofs.Ytmohpjpodkbgkaa.P08
open Go.RowKit Go.Proofs.Ytmohpjpodkbgkaa.Base Go.Proofs.Ytmohpjpodkbgkaa.Bytes Go.Proofs.Ytmohpjpodkbgkaa.P07
open Go.Proofs.Ytmohpjpodkbgkaa.Sets (ST)

set_option maxRecDepth 100000 in
set_option maxHeartbeats 4000000 in
theorem fround_any (t s : T) (a : Option Addr) (c : Nat) (b : Option Addr) (e : Nat) (w : World) : Calls Try.prog 34 #[nodeV t a c, nodeV s b e] w fun e w' => e = .returned (.bool (rnd t.kind s.kind)) ∧ Keep (fun _ => False) w w' := by
  have q := ((Keep.refl (fun _ => False) w).alloc (.cells (ncells t a c) 27)).alloc (.cells (ncells s b e) 27)
  go_enter Try.func34, Try.ntmps34
  go_wp2_with fail
  all_goals
    go_ret
    refine ⟨Bytes.ret_bool ?_, q⟩
    rw [Bool.eq_iff_iff]
    unfold rnd
    try simp_all
    try omega

set_option maxRecDepth 100000 in
set_option maxHeartbeats 4000000 in
theorem fbare_any (t : T) (a : Option Addr) (c : Nat) (w : World) : Calls Try.prog 42 #[nodeV t a c] w fun e w' => e = .returned (.bool (bareB t)) ∧ Keep (fun _ => False) w w' := by
  have a0 := At.new w (ncells t a c) 27
  have q := (Keep.refl (fun _ => False) w).alloc (.cells (ncells t a c) 27)
  obtain ⟨E, hE⟩ : ∃ E, eqB t.set ST.none = E := ⟨_, rfl⟩
  have es : ∀ W, (Op.equalIn 10000 24 (.agg #[.int .u64 (t.set.x0 : Int), .int .u64 (t.set.x1 : Int), .int .u64 (t.set.x2 : Int), .int .u64 (t.set.x3 : Int)]) (.agg #[.int .u64 0, .int .u64 0, .int .u64 0, .int .u64 0])).run Try.prog W = .ok E W := fun W => by
    rw [← hE]
    exact eq_set t.set ST.none W
  have HE := Lib.hid (And.intro hE q)
  clear hE q
  cases E
  all_goals
    go_enter Try.func42, Try.ntmps42
    go_wp2_with fail
    all_goals
      go_ret
      refine ⟨Bytes.ret_bool ?_, HE.out.2⟩
      rw [Bool.eq_iff_iff]
      unfold bareB
      rw [HE.out.1]
      clear a0 es HE
      try simp_all
      try omega
end Go.Proofs.Ytmohpjpodkbgkaa.P08
/- The document's open and Right (layer 8). -/
namespace Go.Proofs.Ytmohpjpodkbgkaa.P08
open Go.RowKit Go.Proofs.Ytmohpjpodkbgkaa.Base Go.Proofs.Ytmohpjpodkbgkaa.Bytes Go.Proofs.Ytmohpjpodkbgkaa.P07
open Go.Proofs.Ytmohpjpodkbgkaa.Sets (ST)

theorem opnL_neg (k : Int) : ∀ (L : List T) (m : Int) (i : Nat) (s : T), L[i]? = some s → opn s < 0 → opnL k m L = -1
  | [], m, i, s, h, _ => by simp at h
  | t :: L, m, 0, s, h, hs => by
    simp at h
    subst h
    rw [opnL, if_pos hs]
  | t :: L, m, i + 1, s, h, hs => by
    rw [opnL]
    split
    · rfl
    · exact opnL_neg k L _ i s (by simpa using h) hs
theorem opn_bare {t : T} (h : bareB t = true) : opn t = opnL t.kind 0 t.subs := by
  cases t with
  | nd k s mn mx l => rw [opn, if_pos h]; rfl
theorem opn_not {t : T} (h : bareB t = false) : opn t = -1 := by
  cases t with
  | nd k s mn mx l => rw [opn, if_neg (by rw [h]; decide)]
theorem opnL_pre (k : Int) (L : List T) (i : Nat) {s : T} (hs : L[i]? = some s) (h : 0 ≤ opnL k 0 (L.take i)) (h2 : 0 ≤ opn s) : opnL k 0 (L.take (i + 1)) = max (opnL k 0 (L.take i)) (if rnd k s.kind then opn s + 1 else opn s) := by
  rw [List.take_add_one, hs]
  show opnL k 0 (L.take i ++ [s]) = _
  rw [opnL_append k _ 0 s (by omega), if_neg (by omega), if_neg (by omega)]

theorem ncells_keep {w w' : World} {bl o : Nat} {t : T} {a : Option Addr} {c : Nat} (h : ∀ j v, (ncells t a c)[j]? = some v → w.cell? ⟨bl, o + j, none⟩ = some v) (q : Keep (fun _ => False) w w') (hb : bl < w.heap.size) :
    ∀ j v, (ncells t a c)[j]? = some v → w'.cell? ⟨bl, o + j, none⟩ = some v := fun j v hv => (q.cell (a := ⟨bl, o + j, none⟩) hb (fun h => h)).trans (h j v hv)

set_option maxRecDepth 100000 in
set_option maxHeartbeats 4000000 in
theorem fopen_all : ∀ (n : Nat) (t : T), SizeOf.sizeOf t < n → cnt t ≤ 1000000000 → ∀ (a : Option Addr) (c : Nat) (w : World), Lie w (fun _ => True) a t.subs →
    Calls Try.prog 25 #[nodeV t a c] w fun e w' => e = .returned (.int .i64 (opn t)) ∧ Keep (fun _ => False) w w'
  | 0, _, h, _, _, _, _, _ => absurd h (Nat.not_lt_zero _)
  | n + 1, t, h, hc, a, c, w, hL => by
    have hlen := hL.len
    have a0 := At.new w (ncells t a c) 27
    have q := (Keep.refl (fun _ => False) w).alloc (.cells (ncells t a c) 27)
    have H0 := Lib.hid (And.intro a0 (And.intro q (And.intro hL (fopen_all n))))
    rw [cnt_eq] at hc
    have hbl : ∀ k, opnL t.kind 0 (t.subs.take k) ≤ 1000000001 := fun k => by
      have h0 := opnL_le (t.subs.take k) t.kind 0
      have h2 := cntL_append (t.subs.take k) (t.subs.drop k)
      rw [List.take_append_drop] at h2
      omega
    have HD := Lib.hid hbl
    clear q hL hbl
    have c0 := a0
    clear a0
    go_enter Try.func25, Try.ntmps25
    go_wp2_with fail
    have c7' : (w.alloc (.cells (ncells t a c) 27)).cell? ⟨w.heap.size, 7, none⟩ = some (.slice a t.subs.length c) := c0.cell (o := 7) rfl
    generalize (w.alloc (.cells (ncells t a c) 27)) = W at *
    refine (fbare_any t a c W).mono ?_
    rintro e w1 ⟨rfl, q1⟩
    have C0 := c0.keep q1 (fun h => h)
    have Q1 := Lib.hid (H0.out.2.1.trans q1)
    cases hb : bareB t with
    | false =>
      have ho := opn_not hb
      have HO := Lib.hid ho
      clear ho hb
      go_wp2
      go_ret
      exact ⟨by rw [HO.out]; rfl, Q1.out⟩
    | true =>
      obtain ⟨D, hD⟩ : ∃ D, opnL t.kind 0 t.subs = D := ⟨_, rfl⟩
      have HO := Lib.hid (And.intro (opn_bare hb) hD)
      clear hb hD c7' c0
      go_wp2_with fail
      go_loopg [3, 4] t.subs.length (fun gg m i wr => ∃ k : Nat, i = .int .i64 k ∧ k + gg = t.subs.length ∧ m = .int .i64 (opnL t.kind 0 (t.subs.take k)) ∧ 0 ≤ opnL t.kind 0 (t.subs.take k) ∧ Keep (fun _ => False) w1 wr)
      case atStart => exact ⟨0, rfl, by omega, by rw [List.take_zero, opnL], by rw [List.take_zero, opnL]; exact Int.le_refl 0, Keep.refl _ _⟩
      case round =>
        obtain ⟨k, rfl, hk, rfl, h0, hq⟩ := hrel
        have A0 := C0.keep hq (fun h => h)
        have c0 : wr.cell? ⟨w.heap.size, 0, none⟩ = some (.int .i64 t.kind) := A0.cell (o := 0) rfl
        have c1 : wr.cell? ⟨w.heap.size, 1, none⟩ = some (.int .u64 t.set.x0) := A0.cell (o := 1) rfl
        have c2 : wr.cell? ⟨w.heap.size, 2, none⟩ = some (.int .u64 t.set.x1) := A0.cell (o := 2) rfl
        have c3 : wr.cell? ⟨w.heap.size, 3, none⟩ = some (.int .u64 t.set.x2) := A0.cell (o := 3) rfl
        have c4 : wr.cell? ⟨w.heap.size, 4, none⟩ = some (.int .u64 t.set.x3) := A0.cell (o := 4) rfl
        have c5 : wr.cell? ⟨w.heap.size, 5, none⟩ = some (.int .i64 t.mn) := A0.cell (o := 5) rfl
        have c6 : wr.cell? ⟨w.heap.size, 6, none⟩ = some (.int .i64 t.mx) := A0.cell (o := 6) rfl
        have c7 : wr.cell? ⟨w.heap.size, 7, none⟩ = some (.slice a t.subs.length c) := A0.cell (o := 7) rfl
        have hm := HD.out k
        by_cases hlt : k < t.subs.length
        · have hlt' : (k : Int) < t.subs.length := by omega
          obtain ⟨s, hs⟩ : ∃ s, t.subs[k]? = some s := ⟨t.subs[k], List.getElem?_eq_getElem hlt⟩
          have LL := Lib.hid (H0.out.2.2.1.keepF (Q1.out.trans hq))
          obtain ⟨bl, off, a1, e1, rfl, -, hbl, -, L1, C1⟩ := LL.out.get hs
          obtain ⟨d0, d1, d2, d3, d4, d5, d6, d7⟩ := ncell C1
          have hsl := sub_less hs
          have hcl := cntL_le hs
          have hcall := H0.out.2.2.2 s (by omega) (by omega) a1 e1 wr L1
          have hds : opn s ≤ 1000000000 := by
            have := opn_le s
            omega
          have hpre : 0 ≤ opn s → _ := opnL_pre t.kind t.subs k hs h0
          have hneg := opnL_neg t.kind t.subs 0 k s hs
          have HQ := Lib.hid (And.intro hq (And.intro hcall (And.intro hpre (And.intro hneg (And.intro hs (And.intro C1 hbl))))))
          clear hq hcall hpre hneg hs L1 C1 A0 hbl
          have i0 : (0 : Int) ≤ k := by omega
          obtain ⟨x, hx⟩ : ∃ x, opn s = x := ⟨_, rfl⟩
          obtain ⟨m, hmm⟩ : ∃ m, opnL t.kind 0 (t.subs.take k) = m := ⟨_, rfl⟩
          rw [hx] at hds
          rw [hmm] at hm h0
          have HX := Lib.hid (And.intro hx hmm)
          rw [hmm]
          clear hx hmm
          go_wp2_with fail
          refine HQ.out.2.1.mono ?_
          rintro e w2 ⟨rfl, q2⟩
          rw [HX.out.1]
          have QQ := Lib.hid (And.intro (HQ.out.1.trans q2) q2)
          by_cases hx : x < 0
          · have hneg := HQ.out.2.2.2.1
            rw [HX.out.1] at hneg
            have hD : D = -1 := HO.out.2.symm.trans (hneg hx)
            have HD1 := Lib.hid (And.intro hD QQ.out.1)
            clear hD hneg q2
            go_wp2
            go_ret
            exact ⟨by rw [HO.out.1, HO.out.2, HD1.out.1]; rfl, Q1.out.trans HD1.out.2⟩
          · have A0 := C0.keep QQ.out.1 (fun h => h)
            have C2 := ncells_keep HQ.out.2.2.2.2.2.1 q2 HQ.out.2.2.2.2.2.2
            have hS : ∀ w', Keep (fun _ => False) w2 w' → Keep (fun _ => False) w2 w' ∧ w'.cell? ⟨w.heap.size, 0, none⟩ = some (.int .i64 t.kind) ∧ w'.cell? ⟨w.heap.size, 1, none⟩ = some (.int .u64 t.set.x0) ∧ w'.cell? ⟨w.heap.size, 2, none⟩ = some (.int .u64 t.set.x1) ∧ w'.cell? ⟨w.heap.size, 3, none⟩ = some (.int .u64 t.set.x2) ∧ w'.cell? ⟨w.heap.size, 4, none⟩ = some (.int .u64 t.set.x3) ∧ w'.cell? ⟨w.heap.size, 5, none⟩ = some (.int .i64 t.mn) ∧ w'.cell? ⟨w.heap.size, 6, none⟩ = some (.int .i64 t.mx) ∧ w'.cell? ⟨w.heap.size, 7, none⟩ = some (.slice (some ⟨bl, off, none⟩) t.subs.length c) ∧ w'.cell? ⟨bl, off + k * 8, none⟩ = some (.int .i64 s.kind) ∧ w'.cell? ⟨bl, off + k * 8 + 1, none⟩ = some (.int .u64 s.set.x0) ∧ w'.cell? ⟨bl, off + k * 8 + 2, none⟩ = some (.int .u64 s.set.x1) ∧ w'.cell? ⟨bl, off + k * 8 + 3, none⟩ = some (.int .u64 s.set.x2) ∧ w'.cell? ⟨bl, off + k * 8 + 4, none⟩ = some (.int .u64 s.set.x3) ∧ w'.cell? ⟨bl, off + k * 8 + 5, none⟩ = some (.int .i64 s.mn) ∧ w'.cell? ⟨bl, off + k * 8 + 6, none⟩ = some (.int .i64 s.mx) ∧ w'.cell? ⟨bl, off + k * 8 + 7, none⟩ = some (.slice a1 s.subs.length e1) := fun w' q' => by
              have e1 := fun j v h => (q'.cell (a := ⟨bl, off + k * 8 + j, none⟩) (World.block_lt_of_cell? w2 _ (C2 j v h)) (fun h => h)).trans (C2 j v h)
              have e0 := A0.keep q' (fun h => h)
              exact ⟨q', e0.cell (o := 0) rfl, e0.cell (o := 1) rfl, e0.cell (o := 2) rfl, e0.cell (o := 3) rfl, e0.cell (o := 4) rfl, e0.cell (o := 5) rfl, e0.cell (o := 6) rfl, e0.cell (o := 7) rfl, e1 0 _ rfl, e1 1 _ rfl, e1 2 _ rfl, e1 3 _ rfl, e1 4 _ rfl, e1 5 _ rfl, e1 6 _ rfl, e1 7 _ rfl⟩
            have HS := Lib.hid hS
            have hst := HQ.out.2.2.1
            rw [HX.out.1, HX.out.2] at hst
            have HP := Lib.hid (And.intro (hst (by omega)) HQ.out.2.2.2.2.1)
            have hx0 : 0 ≤ x := by omega
            have HR := Lib.hid (fun W' => fround_any t s (some ⟨bl, off, none⟩) c a1 e1 W')
            obtain ⟨r, hr⟩ : ∃ r, rnd t.kind s.kind = r := ⟨_, rfl⟩
            rw [hr] at HP HR
            clear hst A0 q2 d0 d1 d2 d3 d4 d5 d6 d7 C2 hS hr
            go_wp2_with fail
            go_region_held3 (fun w' => Keep (fun _ => False) w2 w' ∧ w'.cell? ⟨w.heap.size, 0, none⟩ = some (.int .i64 t.kind) ∧ w'.cell? ⟨w.heap.size, 1, none⟩ = some (.int .u64 t.set.x0) ∧ w'.cell? ⟨w.heap.size, 2, none⟩ = some (.int .u64 t.set.x1) ∧ w'.cell? ⟨w.heap.size, 3, none⟩ = some (.int .u64 t.set.x2) ∧ w'.cell? ⟨w.heap.size, 4, none⟩ = some (.int .u64 t.set.x3) ∧ w'.cell? ⟨w.heap.size, 5, none⟩ = some (.int .i64 t.mn) ∧ w'.cell? ⟨w.heap.size, 6, none⟩ = some (.int .i64 t.mx) ∧ w'.cell? ⟨w.heap.size, 7, none⟩ = some (.slice (some ⟨bl, off, none⟩) t.subs.length c) ∧ w'.cell? ⟨bl, off + k * 8, none⟩ = some (.int .i64 s.kind) ∧ w'.cell? ⟨bl, off + k * 8 + 1, none⟩ = some (.int .u64 s.set.x0) ∧ w'.cell? ⟨bl, off + k * 8 + 2, none⟩ = some (.int .u64 s.set.x1) ∧ w'.cell? ⟨bl, off + k * 8 + 3, none⟩ = some (.int .u64 s.set.x2) ∧ w'.cell? ⟨bl, off + k * 8 + 4, none⟩ = some (.int .u64 s.set.x3) ∧ w'.cell? ⟨bl, off + k * 8 + 5, none⟩ = some (.int .i64 s.mn) ∧ w'.cell? ⟨bl, off + k * 8 + 6, none⟩ = some (.int .i64 s.mx) ∧ w'.cell? ⟨bl, off + k * 8 + 7, none⟩ = some (.slice a1 s.subs.length e1)) (first | exact HS.out _ ((Keep.refl _ _).drew) | exact HS.out _ (Keep.trans (And.left (by assumption)) q)) (first
              | (go_at_call 34; refine (HR.out _).mono ?_; rintro e w2 ⟨rfl, q⟩))
            all_goals
              rename_i hh
              have HK := Lib.hid (QQ.out.1.trans hh.1)
              clear hh
              have j1 : IntKind.i64.wrap (x + 1) = x + 1 := by rw [IntKind.wrap_i64]; omega
              cases r
              · have em : opnL t.kind 0 (t.subs.take (k + 1)) = max m (x) := by rw [HP.out.1, if_neg (by decide)]
                have EM := Lib.hid em
                clear em
                go_wp2_with fail
                go_roundg (t.subs.length - (k + 1))
                case measure => omega
                case rel => exact ⟨k + 1, by go_num, by omega, by rw [EM.out], by rw [EM.out]; omega, HK.out⟩
              · have em : opnL t.kind 0 (t.subs.take (k + 1)) = max m (x + 1) := by rw [HP.out.1, if_pos rfl]
                have EM := Lib.hid em
                clear em
                go_wp2_with fail
                go_roundg (t.subs.length - (k + 1))
                case measure => omega
                case rel => exact ⟨k + 1, by go_num, by omega, by rw [EM.out], by rw [EM.out]; omega, HK.out⟩
        · have hke : k = t.subs.length := by omega
          subst hke
          rw [List.take_length, HO.out.2] at hm h0 ⊢
          have HQ := Lib.hid hq
          clear hq A0
          go_wp2_with fail
          go_ret
          exact ⟨by rw [HO.out.1, HO.out.2]; rfl, Q1.out.trans HQ.out⟩
end Go.Proofs.Ytmohpjpodkbgkaa.P08
/- The document's Right (layer 8). -/
namespace Go.Proofs.Ytmohpjpodkbgkaa.P08
open Go.RowKit Go.Proofs.Ytmohpjpodkbgkaa.Base Go.Proofs.Ytmohpjpodkbgkaa.Bytes Go.Proofs.Ytmohpjpodkbgkaa.P07
open Go.Proofs.Ytmohpjpodkbgkaa.Sets (ST)

set_option maxRecDepth 100000 in
theorem fright_any (t : T) (hc : cnt t ≤ 1000000000) (a : Option Addr) (c : Nat) (w : World) (hL : Lie w (fun _ => True) a t.subs) : Calls Try.prog 10 #[nodeV t a c] w fun e w' => e = .returned (.bool (rightB t)) ∧ Keep (fun _ => False) w w' := by
  have hO := fun w' (q : Keep (fun _ => False) w w') => fopen_all _ t (Nat.lt_succ_self _) hc a c w' (hL.keepF q)
  have HO := Lib.hid hO
  have q0 := (Keep.refl (fun _ => False) w).alloc (.cells (ncells t a c) 27)
  have HQ0 := Lib.hid q0
  obtain ⟨x, hx⟩ : ∃ x, opn t = x := ⟨_, rfl⟩
  have hr : rightB t = (decide (0 ≤ x) && decide (x ≤ 12)) := by rw [← hx]; rfl
  rw [hx] at HO
  rw [hr]
  clear hO hr hx q0
  go_enter Try.func10, Try.ntmps10
  go_wp2_with fail
  refine (HO.out _ (by first | exact HQ0.out | exact Keep.refl _ _)).mono ?_
  rintro e w1 ⟨rfl, q1⟩
  have HQ := Lib.hid q1
  clear q1
  by_cases h1 : 0 ≤ x <;> by_cases h2 : x ≤ 12
  all_goals
    have b1 := h1
    have b2 := h2
    go_wp2
    all_goals
      go_ret
      refine ⟨?_, by first | exact HQ0.out.trans HQ.out | exact HQ.out⟩
      all_goals (first | rfl | simp [b1, b2])
end Go.Proofs.Ytmohpjpodkbgkaa.P08
/- Plain (layer 8): brackets counted down, as the code's right does. -/
namespace Go.Proofs.Ytmohpjpodkbgkaa.P08
open Go.Proofs.Ytmohpjpodkbgkaa.P07
open Go.Proofs.Ytmohpjpodkbgkaa.Sets (ST)

mutual
/-- Right where so many brackets, less one, may still be opened. -/
def rgt : Nat → T → Bool
  | d, .nd k s mn mx l => if d = 0 then false else bareB (.nd k s mn mx l) && rgtL (d - 1) k l
def rgtL : Nat → Int → List T → Bool
  | _, _, [] => true
  | d, k, t :: l => rgt (if rnd k t.kind then d else d + 1) t && rgtL d k l
end
theorem rgt_zero (t : T) : rgt 0 t = false := by
  cases t
  rw [rgt, if_pos rfl]
theorem rgt_succ (d : Nat) (t : T) : rgt (d + 1) t = (bareB t && rgtL d t.kind t.subs) := by
  cases t
  rw [rgt, if_neg (by omega)]
  rfl
mutual
theorem rgt_iff : ∀ (t : T) (d : Nat), SOk t → (rgt (d + 1) t = true ↔ RT d t)
  | .nd k s mn mx l, d, h => by
    rw [SOk] at h
    rw [rgt, if_neg (by omega), RT, Bool.and_eq_true, bareB_iff, Nat.add_sub_cancel, rgtL_iff l d k h.2]
    exact ⟨fun h1 => ⟨h1.1, h.1, h1.2⟩, fun h1 => ⟨h1.1, h1.2.2⟩⟩
theorem rgtL_iff : ∀ (l : List T) (d : Nat) (k : Int), SOkL l → (rgtL d k l = true ↔ RL d k l)
  | [], d, k, _ => by
    rw [rgtL, RL]
    simp
  | t :: l, d, k, h => by
    obtain ⟨h1, h2⟩ := SOk_cons h
    rw [rgtL, RL, Bool.and_eq_true, rgtL_iff l d k h2]
    refine and_congr ?_ Iff.rfl
    cases rnd k t.kind with
    | true =>
      rw [if_pos rfl, if_pos rfl]
      cases d with
      | zero =>
        rw [rgt_zero]
        simp
      | succ e =>
        rw [rgt_iff t e h1]
        simp
    | false =>
      rw [if_neg (by decide), if_neg (by decide)]
      exact rgt_iff t d h1
end
theorem rgt_right {t : T} (h : SOk t) : rgt 13 t = rightB t := by
  have h1 := rgt_iff t 12 h
  have h2 := rightB_iff h
  cases e : rgt 13 t with
  | true => exact ((h2.2 (h1.1 e))).symm
  | false =>
    cases e2 : rightB t with
    | true => rw [h1.2 (h2.1 e2)] at e; cases e
    | false => rfl
theorem rgtL_get {d : Nat} {k : Int} : ∀ (L : List T) (i : Nat) (s : T), L[i]? = some s → rgtL d k L = true → rgt (if rnd k s.kind then d else d + 1) s = true
  | [], i, s, h, _ => by simp at h
  | t :: L, 0, s, h, hr => by
    simp at h
    subst h
    rw [rgtL, Bool.and_eq_true] at hr
    exact hr.1
  | t :: L, i + 1, s, h, hr => by
    rw [rgtL, Bool.and_eq_true] at hr
    exact rgtL_get L i s (by simpa using h) hr.2
theorem rgtL_not {d : Nat} {k : Int} (L : List T) (i : Nat) (s : T) (h : L[i]? = some s) (hr : rgt (if rnd k s.kind then d else d + 1) s = false) : rgtL d k L = false := by
  cases e : rgtL d k L with
  | false => rfl
  | true =>
    rw [rgtL_get L i s h e] at hr
    cases hr
theorem rgtL_take {d : Nat} {k : Int} (L : List T) (i : Nat) (s : T) (h : L[i]? = some s) (h0 : rgtL d k (L.take i) = true) (hr : rgt (if rnd k s.kind then d else d + 1) s = true) : rgtL d k (L.take (i + 1)) = true := by
  have key : ∀ M : List T, rgtL d k M = true → rgtL d k (M ++ [s]) = true := fun M => by
    induction M with
    | nil =>
      intro _
      rw [List.nil_append, rgtL, rgtL, hr]
      rfl
    | cons t M ih =>
      intro hM
      rw [rgtL, Bool.and_eq_true] at hM
      rw [List.cons_append, rgtL, hM.1, ih hM.2]
      rfl
  rw [List.take_add_one, h]
  exact key _ h0
end Go.Proofs.Ytmohpjpodkbgkaa.P08
