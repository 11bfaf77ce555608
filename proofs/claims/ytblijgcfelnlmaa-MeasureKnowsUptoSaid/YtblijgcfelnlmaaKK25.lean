/- The code's reader (layer 7): span. -/
import Derived.Test.YtblijgcfelnlmaaKK12
import Derived.Test.YtblijgcfelnlmaaKK22
namespace Go.Proofs.Ytblijgcfelnlmaa.P07
open Go.RowKit Go.Proofs.Ytblijgcfelnlmaa.Base Go.Proofs.Ytblijgcfelnlmaa.Bytes
open Go.Proofs.Ytblijgcfelnlmaa.Sets (ST)

/-- The reader, and a result's own block. -/
structure Rs (w : World) (b : Nat) (l : List UInt8) (ty : TypeId) (o : Array Value) (s : PS) (W : World) : Prop where
  rd : Rd W b l s
  out : At W w.heap.size ty o
  keep : Keep (fun i => i = b) w W
  low : b < w.heap.size
theorem Rs.start {w : World} {b : Nat} {l : List UInt8} {s : PS} (h : Rd w b l s) (ty : TypeId) (o : Array Value) : Rs w b l ty o s (w.alloc (.cells o ty)) :=
  ⟨h.alloc _, At.new w o ty, (Keep.refl _ w).alloc _, At.lt h⟩
theorem Rs.step {w : World} {b : Nat} {l : List UInt8} {ty : TypeId} {o : Array Value} {s s' : PS} {W W' : World} (I : Rs w b l ty o s W) (h : Rd W' b l s') (q : Keep (fun i => i = b) W W') : Rs w b l ty o s' W' :=
  ⟨h, I.out.keep q (by have := I.low; omega), I.keep.trans q, I.low⟩
theorem Rs.quiet {w : World} {b : Nat} {l : List UInt8} {ty : TypeId} {o : Array Value} {s : PS} {W W' : World} (I : Rs w b l ty o s W) (q : Keep (fun _ => False) W W') : Rs w b l ty o s W' :=
  I.step (I.rd.keep q (fun h => h)) (upk b q)
theorem Rs.ne {w : World} {b : Nat} {l : List UInt8} {ty : TypeId} {o : Array Value} {s : PS} {W : World} (I : Rs w b l ty o s W) : b ≠ w.heap.size := by have := I.low; omega

/-- A set of bytes, by a list. -/
@[reducible] def VS (_ : World) (v : Value) (L : List Nat) : Prop := v = val (mkS L) ∧ ∀ x ∈ L, x < 256

theorem mk_append (L M : List Nat) : mkS (L ++ M) = ST.or (mkS L) (mkS M) := by
  refine ST.ext (mk_ok _ _ rfl) (ST.or_ok (mk_ok _ _ rfl) (mk_ok _ _ rfl)) (fun b hb => ?_)
  rw [mk_has b hb _ _ rfl, ST.has_or _ _ _ hb, mk_has b hb _ _ rfl, mk_has b hb _ _ rfl, Bool.eq_iff_iff]
  simp
theorem mk_upto (lo hi : Nat) : mkS (upto lo hi) = ST.range lo hi := by
  refine ST.ext (mk_ok _ _ rfl) (ST.range_ok _ _) (fun b hb => ?_)
  rw [mk_has b hb _ _ rfl, ST.has_range _ _ _ hb]
  apply decide_eq_decide.2
  unfold upto
  rw [List.mem_map]
  constructor
  · rintro ⟨i, hi, rfl⟩
    have := List.mem_range.1 hi
    omega
  · rintro ⟨h1, h2⟩
    exact ⟨b - lo, List.mem_range.2 (by omega), by omega⟩

set_option maxRecDepth 100000 in
set_option maxHeartbeats 4000000 in
theorem rspan_any (b : Nat) (l : List UInt8) (s : PS) (hb : s.bad = none) (hp : s.pos ≤ l.length) (hl : l.length ≤ 100000000) (w : World) (h : Rd w b l s) :
    Calls Try.prog 76 #[.pointer (some ⟨b, 0, none⟩)] w (Outs w b l VS (range1 l s)) := by
  have hby := fun W h1 => rbyte_any b l s hb hp hl W h1
  have r1 := one_range l s
  have hp1 := fun h => one_sharp.toTame.pos_le hb hp h
  have hr : range1 l s = dashB (one l s).1 (nxt l (one l s).2) l (one l s).2 := rfl
  have hbd : ∀ x, (one l s).2.bad = some x → (range1 l s).2.bad = some x := fun x h => by rw [hr]; exact (dash_tame _).bad l _ x h
  obtain ⟨r, hrr⟩ : ∃ r, range1 l s = r := ⟨_, rfl⟩
  rw [hrr] at hr hbd ⊢
  obtain ⟨⟨lo, s1⟩, h1⟩ : ∃ q, one l s = q := ⟨_, rfl⟩
  rw [h1] at hby r1 hp1 hr hbd
  dsimp only at r1 hp1 hr hbd
  obtain ⟨lo, rfl⟩ : ∃ n : Nat, lo = n := ⟨lo.toNat, by omega⟩
  have HC := Lib.hid (And.intro hby (And.intro hp1 (And.intro hr hbd)))
  have W0 := Lib.hid (Rs.start h 24 zeros)
  clear h hby hp1 hr hbd hrr h1 hb hp
  go_enter Try.func76, Try.ntmps76
  go_wp2_with fail
  generalize (w.alloc (.cells zeros 24)) = V at *
  refine (HC.out.1 V W0.out.rd).mono ?_
  intro e w2 hO
  rcases hO.split with ⟨hb2, v, rfl, hv, h2, q2⟩ | ⟨x, hb2, rfl, q2⟩
  · unfold VB at hv
    subst hv
    have I2 := W0.out.step h2 q2
    clear h2 q2 hO
    have hpos := HC.out.2.1 hb2
    by_cases h45 : nxt l s1 = 45
    · have hlt := nxt_lt (l := l) (s := s1) (by omega)
      have ht := take_yes b 45 l s1 h45 hl w2 I2.rd
      have hby := fun W h1 => rbyte_any b l s1.adv hb2 (show s1.pos + 1 ≤ l.length by omega) hl W h1
      have r2 := one_range l s1.adv
      have hr := HC.out.2.2.1
      unfold dashB hiP at hr
      rw [if_pos h45] at hr
      have ha : s1.adv.pos = s1.pos + 1 := rfl
      rw [ha] at hr
      obtain ⟨⟨hi, s2⟩, h1⟩ : ∃ q, one l s1.adv = q := ⟨_, rfl⟩
      rw [h1] at hby r2 hr
      dsimp only at r2 hr
      obtain ⟨hi, rfl⟩ : ∃ n : Nat, hi = n := ⟨hi.toNat, by omega⟩
      have H2 := Lib.hid (And.intro I2 (And.intro ht (And.intro hby hr)))
      clear I2 ht hby hr h1 h45 hb2 ha
      go_wp2_with fail
      refine H2.out.2.1.mono ?_
      rintro e w3 ⟨rfl, h3, q3⟩
      have c1 : w3.cell? ⟨b, 1, none⟩ = some (.int .i64 ((s1.pos : Int) + 1)) := h3.cell (o := 1) rfl
      have H3 := Lib.hid (And.intro (H2.out.1.step h3 q3) h3)
      clear h3 q3
      go_wp2_with fail
      refine (H2.out.2.2.1 w3 H3.out.2).mono ?_
      intro e w4 hO
      rcases hO.split with ⟨hb4, v, rfl, hv, h4, q4⟩ | ⟨x, hb4, rfl, q4⟩
      · unfold VB at hv
        subst hv
        have I4 := H3.out.1.step h4 q4
        clear h4 q4 hO c1
        by_cases hlo : hi < lo
        · have hlo' : (hi : Int) < (lo : Int) := by omega
          have H4 := Lib.hid (And.intro I4 hb4)
          clear I4 hb4
          go_wp2_with fail
          refine ⟨rfl, Outs.gave (x := s1.pos + 1) ?_ H4.out.1.keep⟩
          rw [H2.out.2.2.2, if_pos ⟨H4.out.2, by omega⟩]
          exact bad_fail H4.out.2 _
        · have hlo' : ¬ (hi : Int) < (lo : Int) := by omega
          have hof := of_any lo hi (by omega) (by omega) w4
          have hr := H2.out.2.2.2
          rw [if_neg (by rintro ⟨_, h⟩; omega)] at hr
          have hmk := mk_upto lo hi
          have H4 := Lib.hid (And.intro I4 (And.intro hb4 (And.intro hof (And.intro hr hmk))))
          clear I4 hb4 hof hr hmk
          obtain ⟨R, hR⟩ : ∃ R, ST.range lo hi = R := ⟨_, rfl⟩
          rw [hR] at H4
          go_wp2_with fail
          refine H4.out.2.2.1.mono ?_
          rintro e w5 ⟨rfl, q5⟩
          have I5 := H4.out.1.quiet q5
          obtain ⟨⟨d0, d1, d2, d3⟩, f0, f1, f2, f3⟩ := cells4 I5.out
          have H5 := Lib.hid I5
          clear I5 q5 hR
          go_wp2_with fail
          have a := set4 H5.out.out (.int .u64 R.x0) (.int .u64 R.x1) (.int .u64 R.x2) (.int .u64 R.x3)
          have q := keep4 H5.out.keep (b := w.heap.size) (fun h => absurd h (by simp)) (.int .u64 R.x0) (.int .u64 R.x1) (.int .u64 R.x2) (.int .u64 R.x3)
          have p : At _ b _ _ := (((At.setOther H5.out.rd (p := ⟨w.heap.size, 0, none⟩) H5.out.ne (.int .u64 R.x0)).setOther (p := ⟨w.heap.size, 1, none⟩) H5.out.ne (.int .u64 R.x1)).setOther (p := ⟨w.heap.size, 2, none⟩) H5.out.ne (.int .u64 R.x2)).setOther (p := ⟨w.heap.size, 3, none⟩) H5.out.ne (.int .u64 R.x3)
          generalize World.setCell _ _ _ = W2 at *
          obtain ⟨⟨e0, e1, e2, e3⟩, -⟩ := cells4 a
          refine bodyPost_ret (v := val R) (by simp [results, Try.results76, go_sem, e0, e1, e2, e3]) rfl ?_
          refine Outs.ok (by rw [H4.out.2.2.2.1]; exact H4.out.2.1) (by rw [H4.out.2.2.2.1]; exact ⟨by rw [H4.out.2.2.2.2], upto_lt (by omega) (by omega)⟩) (by rw [H4.out.2.2.2.1]; exact p) q
      · have H4 := Lib.hid (And.intro hb4 (H3.out.1.keep.trans q4))
        clear hb4 q4 hO
        go_wp2_with fail
        refine ⟨rfl, Outs.gave (x := x) ?_ H4.out.2⟩
        rw [H2.out.2.2.2, if_neg (by rintro ⟨h, _⟩; rw [H4.out.1] at h; cases h)]
        exact H4.out.1
    · have ht := take_no b 45 l s1 hb2 h45 w2 I2.rd
      have hof := fun W => of_any lo lo (by omega) (by omega) W
      have hr := HC.out.2.2.1
      unfold dashB at hr
      rw [if_neg h45] at hr
      have hmk := mk_upto lo lo
      have H2 := Lib.hid (And.intro I2 (And.intro ht (And.intro hof (And.intro hr (And.intro hmk hb2)))))
      clear I2 ht hof hr h45 hb2 hmk
      obtain ⟨R, hR⟩ : ∃ R, ST.range lo lo = R := ⟨_, rfl⟩
      rw [hR] at H2
      go_wp2_with fail
      refine H2.out.2.1.mono ?_
      rintro e w3 ⟨rfl, h3, q3⟩
      have H3 := Lib.hid (H2.out.1.step h3 q3)
      clear h3 q3
      have hlo' : ¬ (lo : Int) < (lo : Int) := by omega
      go_wp2_with fail
      refine (H2.out.2.2.1 w3).mono ?_
      rintro e w5 ⟨rfl, q5⟩
      have I5 := H3.out.quiet q5
      obtain ⟨⟨d0, d1, d2, d3⟩, f0, f1, f2, f3⟩ := cells4 I5.out
      have H5 := Lib.hid I5
      clear I5 q5 hR
      go_wp2_with fail
      have a := set4 H5.out.out (.int .u64 R.x0) (.int .u64 R.x1) (.int .u64 R.x2) (.int .u64 R.x3)
      have q := keep4 H5.out.keep (b := w.heap.size) (fun h => absurd h (by simp)) (.int .u64 R.x0) (.int .u64 R.x1) (.int .u64 R.x2) (.int .u64 R.x3)
      have p : At _ b _ _ := (((At.setOther H5.out.rd (p := ⟨w.heap.size, 0, none⟩) H5.out.ne (.int .u64 R.x0)).setOther (p := ⟨w.heap.size, 1, none⟩) H5.out.ne (.int .u64 R.x1)).setOther (p := ⟨w.heap.size, 2, none⟩) H5.out.ne (.int .u64 R.x2)).setOther (p := ⟨w.heap.size, 3, none⟩) H5.out.ne (.int .u64 R.x3)
      generalize World.setCell _ _ _ = W2 at *
      obtain ⟨⟨e0, e1, e2, e3⟩, -⟩ := cells4 a
      refine bodyPost_ret (v := val R) (by simp [results, Try.results76, go_sem, e0, e1, e2, e3]) rfl ?_
      refine Outs.ok (by rw [H2.out.2.2.2.1]; exact H2.out.2.2.2.2.2) (by rw [H2.out.2.2.2.1]; exact ⟨by rw [H2.out.2.2.2.2.1], upto_lt (by omega) (by omega)⟩) (by rw [H2.out.2.2.2.1]; exact p) q
  · have H2 := Lib.hid (And.intro hb2 (W0.out.keep.trans q2))
    clear hb2 q2 hO
    go_wp2_with fail
    exact ⟨rfl, Outs.gave (x := x) (HC.out.2.2.2 _ H2.out.1) H2.out.2⟩
end Go.Proofs.Ytblijgcfelnlmaa.P07
/- Plain mathematics for layer 8 (show), of no program. Part 1: reading by what is left of the text; a byte's text, a class's text, and that both are read as they were written. -/
namespace Go.Proofs.Ytblijgcfelnlmaa.P08
open Go.Proofs.Ytblijgcfelnlmaa.Sets Go.Proofs.Ytblijgcfelnlmaa.P07

/-- What stands first; -1: nothing. -/
def hd : List UInt8 → Int
  | [] => -1
  | c :: _ => c.toNat

theorem hd_append {u r : List UInt8} (h : u ≠ []) : hd (u ++ r) = hd u := by
  cases u with
  | nil => exact absurd rfl h
  | cons c u => rfl
theorem drop_add {l : List UInt8} {p : Nat} {u r : List UInt8} (h : l.drop p = u ++ r) : l.drop (p + u.length) = r := by
  rw [← List.drop_drop, h, List.drop_left]
theorem drop_one {l : List UInt8} {p : Nat} {c : UInt8} {r : List UInt8} (h : l.drop p = c :: r) : l.drop (p + 1) = r := drop_add (u := [c]) h
theorem nxt_drop (l : List UInt8) (p o : Nat) : P07.nxt l ⟨p, none, o⟩ = hd (l.drop p) := by
  unfold P07.nxt byteAt
  by_cases h : p < l.length
  · rw [if_pos ⟨rfl, h⟩, List.drop_eq_getElem_cons h]
    simp [hd, h]
  · rw [if_neg (by simp; omega), List.drop_eq_nil_of_le (by omega)]
    rfl
theorem len_drop {l u r : List UInt8} {p : Nat} (h : l.drop p = u ++ r) (hu : u ≠ []) : p + u.length + r.length = l.length := by
  have := congrArg List.length h
  have h2 : 0 < u.length := by cases u with
    | nil => exact absurd rfl hu
    | cons c u => simp
  simp at this
  omega

/-! ### Bytes -/
def hexd (k : Nat) : UInt8 := ([48, 49, 50, 51, 52, 53, 54, 55, 56, 57, 97, 98, 99, 100, 101, 102] : List UInt8).getD k 0
/-- How a byte is written. -/
def esc (b : Nat) : List UInt8 := if plainN b then [UInt8.ofNat b] else [92, 120, hexd (b / 16), hexd (b % 16)]

theorem hex_read : ∀ k, k < 16 → hexv (hexd k).toNat = k := by decide +kernel
theorem esc_hd : ∀ b, b < 256 → esc b ≠ [] ∧ hd (esc b) ∉ ([45, 93, 94, 40, 41, 46, 91, 124, 42, 43, 63, 123, 125, -1] : List Int) := by decide +kernel
theorem plain_small : ∀ b, b < 256 → plainN b = true → (UInt8.ofNat b).toNat = b := by decide +kernel
theorem esc_hd_app {b : Nat} (hb : b < 256) (r : List UInt8) : hd (esc b ++ r) ∉ ([45, 93, 94, 40, 41, 46, 91, 124, 42, 43, 63, 123, 125, -1] : List Int) := by
  rw [hd_append (esc_hd b hb).1]
  exact (esc_hd b hb).2

theorem digit_read {l r : List UInt8} {p o k : Nat} (hk : k < 16) (h : l.drop p = hexd k :: r) : digit l ⟨p, none, o⟩ = ((k : Int), ⟨p + 1, none, o⟩) := by
  unfold digit
  rw [nxt_drop, h]
  have e : hexv (hd (hexd k :: r)) = k := hex_read k hk
  rw [e, if_pos (by omega)]
  rfl
theorem one_read {l r : List UInt8} {p o b : Nat} (hb : b < 256) (h : l.drop p = esc b ++ r) : one l ⟨p, none, o⟩ = ((b : Int), ⟨p + (esc b).length, none, o⟩) := by
  unfold one
  rw [nxt_drop, h]
  unfold esc
  by_cases hp : plainN b = true
  · simp only [if_pos hp]
    show oneB ((UInt8.ofNat b).toNat : Nat) l _ = _
    rw [plain_small b hb hp]
    unfold oneB
    rw [if_pos (by unfold plainI; simp [hp])]
    rfl
  · have h' : l.drop p = 92 :: 120 :: hexd (b / 16) :: hexd (b % 16) :: r := by rw [h]; simp [esc, hp]
    have h1 := drop_one h'
    have h2 := drop_one h1
    have h3 := drop_one h2
    simp only [if_neg hp]
    show oneB 92 l _ = _
    have e92 : plainI 92 = false := by decide +kernel
    unfold oneB
    rw [if_neg (by rw [e92]; decide), if_pos rfl]
    show escP l ⟨p + 1, none, o⟩ = _
    unfold escP
    rw [nxt_drop, h1]
    show escB 120 l _ = _
    unfold escB
    rw [if_pos rfl]
    show two l ⟨p + 1 + 1, none, o⟩ = _
    unfold two
    rw [digit_read (o := o) (by omega) h2]
    dsimp only
    rw [digit_read (o := o) (by omega) h3]
    dsimp only
    rw [show (16 * ((b / 16 : Nat) : Int) + ((b % 16 : Nat) : Int)) = b from by omega]
    rfl

/-! ### Ranges -/
def spanT (lo hi : Nat) : List UInt8 := if hi = lo then esc lo else if hi = lo + 1 then esc lo ++ esc hi else esc lo ++ [45] ++ esc hi
def spansT (L : List (Nat × Nat)) : List UInt8 := L.flatMap fun r => spanT r.1 r.2
/-- All bytes of some ranges. -/
def allOf (L : List (Nat × Nat)) : List Nat := L.flatMap fun r => upto r.1 r.2

theorem range_one {l r : List UInt8} {p o b : Nat} (hb : b < 256) (h : l.drop p = esc b ++ r) (hr : hd r ≠ 45) : range1 l ⟨p, none, o⟩ = (upto b b, ⟨p + (esc b).length, none, o⟩) := by
  unfold range1
  rw [one_read hb h]
  dsimp only
  rw [nxt_drop, drop_add h]
  unfold dashB
  rw [if_neg hr]
theorem range_two {l r : List UInt8} {p o a b : Nat} (ha : a ≤ b) (hb : b < 256) (h : l.drop p = esc a ++ [45] ++ esc b ++ r) : range1 l ⟨p, none, o⟩ = (upto a b, ⟨p + (esc a ++ [45] ++ esc b).length, none, o⟩) := by
  have h0 : l.drop p = esc a ++ (45 :: (esc b ++ r)) := by rw [h]; simp
  have h1 := drop_add h0
  have h2 := drop_one h1
  unfold range1
  rw [one_read (by omega) h0]
  dsimp only
  rw [nxt_drop, h1]
  unfold dashB
  rw [if_pos (by rfl)]
  show hiP a l ⟨p + (esc a).length + 1, none, o⟩ = _
  unfold hiP
  rw [one_read hb h2]
  dsimp only
  rw [if_neg (by simp; omega)]
  simp
  omega

theorem upto_two (a : Nat) : upto a (a + 1 : Nat) = upto a a ++ upto (a + 1 : Nat) (a + 1 : Nat) := by
  unfold upto
  rw [show ((a + 1 : Nat) + 1 - (a : Int)).toNat = 2 from by omega, show ((a : Int) + 1 - (a : Int)).toNat = 1 from by omega, show (((a + 1 : Nat) : Int) + 1 - ((a + 1 : Nat) : Int)).toNat = 1 from by omega]
  simp [List.range_succ]

theorem set_go {f : Nat} {acc : List Nat} {l : List UInt8} {p o : Nat} (h : hd (l.drop p) ≠ 93) : setP (f + 1) acc l ⟨p, none, o⟩ = setP f (acc ++ (range1 l ⟨p, none, o⟩).1) l (range1 l ⟨p, none, o⟩).2 := by
  rw [setP, if_pos rfl, nxt_drop, if_neg h]

theorem spansT_cons (r : Nat × Nat) (L : List (Nat × Nat)) : spansT (r :: L) = spanT r.1 r.2 ++ spansT L := by simp [spansT]
theorem allOf_cons (r : Nat × Nat) (L : List (Nat × Nat)) : allOf (r :: L) = upto r.1 r.2 ++ allOf L := by simp [allOf]
theorem spanT_hd {a b : Nat} (h : a < 256) (r : List UInt8) : spanT a b ++ r ≠ [] ∧ hd (spanT a b ++ r) ∉ ([45, 93, 94, 40, 41, 46, 91, 124, 42, 43, 63, 123, 125, -1] : List Int) := by
  unfold spanT
  have hn := (esc_hd a h).1
  split
  · exact ⟨by simp [hn], esc_hd_app h _⟩
  · split
    · rw [List.append_assoc]
      exact ⟨by simp [hn], esc_hd_app h _⟩
    · rw [List.append_assoc, List.append_assoc]
      exact ⟨by simp [hn], esc_hd_app h _⟩
/-- What may stand behind ranges, up to the bracket. -/
theorem spansT_hd {L : List (Nat × Nat)} (h : ∀ r, r ∈ L → r.1 ≤ r.2 ∧ r.2 < 256) (r : List UInt8) : hd (spansT L ++ 93 :: r) ≠ 45 ∧ hd (spansT L ++ 93 :: r) ≠ 94 := by
  cases L with
  | nil => exact ⟨by simp [spansT, hd], by simp [spansT, hd]⟩
  | cons x L =>
    have hx := h x (by simp)
    rw [spansT_cons, List.append_assoc]
    have := (spanT_hd (b := x.2) (show x.1 < 256 by omega) (spansT L ++ 93 :: r)).2
    simp only [List.mem_cons, not_or] at this
    exact ⟨this.1, this.2.2.1⟩

theorem set_read {l r : List UInt8} {o : Nat} : ∀ (L : List (Nat × Nat)) (f : Nat) (acc : List Nat) (p : Nat), (∀ r, r ∈ L → r.1 ≤ r.2 ∧ r.2 < 256) → l.drop p = spansT L ++ 93 :: r → (spansT L).length < f → setP f acc l ⟨p, none, o⟩ = (acc ++ allOf L, ⟨p + (spansT L).length, none, o⟩)
  | [], f, acc, p, _, h, hf => by
    match f, hf with
    | f + 1, _ =>
      rw [setP, if_pos rfl, nxt_drop, h, if_pos (by simp [spansT, hd])]
      simp [allOf, spansT]
  | (a, b) :: L, f, acc, p, hL, h, hf => by
    obtain ⟨h1, h2⟩ := hL (a, b) (by simp)
    dsimp only at h1 h2
    have hL' : ∀ r, r ∈ L → r.1 ≤ r.2 ∧ r.2 < 256 := fun r hr => hL r (List.mem_cons_of_mem _ hr)
    have hN := spansT_hd hL' r
    rw [spansT_cons] at h hf
    rw [List.append_assoc] at h
    have hhd := (spanT_hd (b := b) (show a < 256 by omega) (spansT L ++ 93 :: r)).2
    rw [← h] at hhd
    simp only [List.mem_cons, not_or] at hhd
    have hd' := drop_add h
    rw [List.length_append] at hf
    rw [spansT_cons, allOf_cons, List.length_append]
    dsimp only at h hf hd' ⊢
    by_cases e1 : b = a
    · subst e1
      have es : spanT b b = esc b := by rw [spanT, if_pos rfl]
      rw [es] at h hf hd' ⊢
      have hp : 0 < (esc b).length := List.length_pos_iff.2 (esc_hd b h2).1
      obtain ⟨f, rfl⟩ : ∃ g, f = g + 1 := ⟨f - 1, by omega⟩
      rw [set_go hhd.2.1, range_one h2 h hN.1]
      dsimp only
      rw [set_read L f _ _ hL' hd' (by omega), List.append_assoc, Nat.add_assoc]
    · by_cases e2 : b = a + 1
      · subst e2
        have es : spanT a (a + 1) = esc a ++ esc (a + 1) := by rw [spanT, if_neg e1, if_pos rfl]
        rw [es] at h hf hd' ⊢
        have hp : 0 < (esc a).length := List.length_pos_iff.2 (esc_hd a (by omega)).1
        have hp2 : 0 < (esc (a + 1)).length := List.length_pos_iff.2 (esc_hd _ h2).1
        rw [List.length_append] at hf
        obtain ⟨f, rfl⟩ : ∃ g, f = g + 2 := ⟨f - 2, by omega⟩
        rw [List.append_assoc] at h
        have hh := esc_hd_app h2 (spansT L ++ 93 :: r)
        simp only [List.mem_cons, not_or] at hh
        have h3 := drop_add h
        rw [set_go hhd.2.1, range_one (by omega) h hh.1]
        dsimp only
        rw [set_go (by rw [h3]; exact hh.2.1), range_one h2 h3 hN.1]
        dsimp only
        rw [show p + (esc a).length + (esc (a + 1)).length = p + (esc a ++ esc (a + 1)).length from by rw [List.length_append]; omega]
        rw [set_read L f _ _ hL' hd' (by omega), upto_two]
        simp [Nat.add_assoc]
      · have es : spanT a b = esc a ++ [45] ++ esc b := by rw [spanT, if_neg e1, if_neg e2]
        rw [es] at h hf hd' ⊢
        have hp : 0 < (esc a ++ [45] ++ esc b).length := by simp; omega
        obtain ⟨f, rfl⟩ : ∃ g, f = g + 1 := ⟨f - 1, by omega⟩
        rw [set_go hhd.2.1, range_two h1 h2 h]
        dsimp only
        rw [set_read L f _ _ hL' hd' (by omega), List.append_assoc, Nat.add_assoc]

/-! ### Classes -/
/-- A set, as a class. -/
def textT (s : ST) : List UInt8 :=
  if s.count = 256 then [46] else if s.count = 1 then esc (Sets.nxt s.has 0) else if s.count ≤ 128 then 91 :: (spansT (rgs s.has 256) ++ [93]) else 91 :: 94 :: (spansT (rgs s.not.has 256) ++ [93])

theorem mem_upto {a b x : Nat} : x ∈ upto a b ↔ a ≤ x ∧ x ≤ b := by
  unfold upto
  rw [List.mem_map]
  constructor
  · rintro ⟨i, hi, rfl⟩
    rw [List.mem_range] at hi
    omega
  · rintro ⟨h1, h2⟩
    exact ⟨x - a, by rw [List.mem_range]; omega, by omega⟩
/-- The ranges of a set are the set. -/
theorem mk_all {s : ST} (hs : s.Ok) : mkS (allOf (rgs s.has 256)) = s := by
  refine ST.ext (mk_ok _ _ rfl) hs fun b hb => ?_
  rw [mk_has b hb _ _ rfl, Bool.eq_iff_iff, decide_eq_true_eq]
  unfold allOf
  rw [List.mem_flatMap]
  have m := (rgs_ok s.has 256).mem b
  constructor
  · rintro ⟨r, hr, hm⟩
    exact (m.1 ⟨r, hr, mem_upto.1 hm⟩).2
  · intro h
    obtain ⟨r, hr, hm⟩ := m.2 ⟨hb, h⟩
    exact ⟨r, hr, mem_upto.2 hm⟩
theorem single {s : ST} (hs : s.Ok) (h : s.count = 1) : Sets.nxt s.has 0 < 256 ∧ s = .one (Sets.nxt s.has 0) := by
  have hn : Sets.nxt s.has 0 < 256 := (nxt_lt_iff s.has).2 (by have : s.count = Sets.cnt s.has 256 := rfl; omega)
  have nx := nxt_nx s.has 0 (by decide)
  refine ⟨hn, ST.ext hs (ST.one_ok _) fun b hb => ?_⟩
  rw [ST.has_one _ _ hb, Bool.eq_iff_iff, decide_eq_true_eq]
  exact ⟨fun hb' => cnt_one h hb hn hb' (nx.at' hn), fun e => by rw [e]; exact nx.at' hn⟩
theorem mk_one (u : Nat) : mkS [u] = ST.one u := by
  refine ST.ext (mk_ok _ _ rfl) (ST.one_ok _) fun b hb => ?_
  rw [mk_has b hb _ _ rfl, ST.has_one _ _ hb]
  simp

/-- A sign of repetition does not stand there. -/
def noSg (r : List UInt8) : Prop := hd r ≠ 42 ∧ hd r ≠ 43 ∧ hd r ≠ 63 ∧ hd r ≠ 123
theorem sg_none {a : T} {l r : List UInt8} {p o : Nat} (h : l.drop p = r) (hr : noSg r) : sgB a (P07.nxt l ⟨p, none, o⟩) l ⟨p, none, o⟩ = (a, ⟨p, none, o⟩) := by
  rw [nxt_drop, h]
  unfold sgB
  rw [if_neg hr.1, if_neg hr.2.1, if_neg hr.2.2.1, if_neg hr.2.2.2]

theorem must_read {c : UInt8} {l r : List UInt8} {p o : Nat} (h : l.drop p = c :: r) : (must c.toNat l ⟨p, none, o⟩).2 = ⟨p + 1, none, o⟩ := by
  unfold must
  have e : hd (c :: r) = c.toNat := rfl
  rw [nxt_drop, h, e, if_pos rfl]
  rfl
theorem clsQ_read {F : Nat} {nt : Bool} {l r : List UInt8} {p o : Nat} {L : List (Nat × Nat)} (hL : ∀ r, r ∈ L → r.1 ≤ r.2 ∧ r.2 < 256) (h : l.drop p = spansT L ++ 93 :: r) (hF : (spansT L).length < F) :
    clsQ F nt l ⟨p, none, o⟩ = (clsT (if nt then notS (mkS (allOf L)) else mkS (allOf L)), ⟨p + (spansT L).length + 1, none, o⟩) := by
  unfold clsQ
  rw [set_read L F [] p hL h hF, List.nil_append]
  dsimp only
  have := must_read (o := o) (drop_add h)
  rw [show ((93 : UInt8).toNat : Int) = 93 from rfl] at this
  rw [this]

theorem text_hd {s : ST} (hs : s.Ok) : textT s ≠ [] ∧ hd (textT s) ∉ ([40, 41, 124, 42, 43, 63, 123, -1] : List Int) := by
  unfold textT
  split
  · exact ⟨by simp, by simp [hd]⟩
  · split
    · rename_i h1
      have := esc_hd _ (single hs h1).1
      refine ⟨this.1, ?_⟩
      have h2 := this.2
      simp only [List.mem_cons, not_or, List.not_mem_nil, not_false_eq_true, and_true] at h2 ⊢
      omega
    · split
      · exact ⟨by simp, by simp [hd]⟩
      · exact ⟨by simp, by simp [hd]⟩

/-- A CLASS IS READ AS IT WAS. -/
theorem class_read {F : Nat} {A : List UInt8 → PS → T × PS} {s : ST} (hs : s.Ok) {l r : List UInt8} {p o : Nat} (h : l.drop p = textT s ++ r) (hF : l.length < F) : atomP F A l ⟨p, none, o⟩ = (clsT s, ⟨p + (textT s).length, none, o⟩) := by
  have hlen := len_drop h (text_hd hs).1
  unfold atomP
  rw [nxt_drop, h]
  unfold textT at h hlen ⊢
  by_cases h1 : s.count = 256
  · rw [if_pos h1] at h hlen ⊢
    have e : s = notS zS := ST.ext hs (ST.not_ok _) fun b hb => by
      rw [show s.has b = true from cnt_all h1 b hb, show (notS zS).has b = _ from ST.has_not ST.none_ok b hb, ST.has_none]
      rfl
    show atomB F A 46 _ l _ = _
    unfold atomB
    rw [if_neg (by decide), if_pos rfl, ← e]
    rfl
  · rw [if_neg h1] at h hlen ⊢
    by_cases h2 : s.count = 1
    · rw [if_pos h2] at h hlen ⊢
      obtain ⟨hn, e⟩ := single hs h2
      have hh := esc_hd_app hn r
      simp only [List.mem_cons, not_or] at hh
      unfold atomB
      rw [if_neg (by omega), if_neg (by omega), if_neg (by omega)]
      unfold litP
      rw [one_read hn h]
      dsimp only
      rw [Int.toNat_natCast, mk_one, ← e]
    · rw [if_neg h2] at h hlen ⊢
      by_cases h3 : s.count ≤ 128
      · rw [if_pos h3] at h hlen ⊢
        have g := (rgs_ok s.has 256).ord
        show atomB F A 91 _ l _ = _
        unfold atomB
        rw [if_neg (by decide), if_neg (by decide), if_pos rfl]
        have h4 : l.drop (p + 1) = spansT (rgs s.has 256) ++ 93 :: r := by
          rw [drop_one h]; simp
        have hb := spansT_hd g r
        show clsP F l ⟨p + 1, none, o⟩ = _
        unfold clsP
        rw [nxt_drop, h4]
        unfold clsB
        rw [if_neg hb.2, clsQ_read g h4 (by simp at hlen; omega), mk_all hs]
        simp only [Bool.false_eq_true, if_false, List.length_cons, List.length_append, List.length_nil]
        congr 2
        omega
      · rw [if_neg h3] at h hlen ⊢
        have g := (rgs_ok s.not.has 256).ord
        show atomB F A 91 _ l _ = _
        unfold atomB
        rw [if_neg (by decide), if_neg (by decide), if_pos rfl]
        have h4 : l.drop (p + 1) = 94 :: (spansT (rgs s.not.has 256) ++ 93 :: r) := by
          rw [drop_one h]; simp
        have h5 := drop_one h4
        show clsP F l ⟨p + 1, none, o⟩ = _
        unfold clsP
        rw [nxt_drop, h4]
        show clsB F 94 l _ = _
        unfold clsB
        rw [if_pos rfl]
        show clsQ F true l ⟨p + 1 + 1, none, o⟩ = _
        rw [clsQ_read g h5 (by simp at hlen; omega), mk_all (ST.not_ok s)]
        simp only [if_true, List.length_cons, List.length_append, List.length_nil]
        rw [show notS s.not = s from ST.not_not hs]
        congr 2
        omega

end Go.Proofs.Ytblijgcfelnlmaa.P08
