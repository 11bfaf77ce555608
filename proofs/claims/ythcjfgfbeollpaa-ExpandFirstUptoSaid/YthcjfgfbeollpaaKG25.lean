/- The code's reader (layer 7): span. -/
import Derived.Test.YthcjfgfbeollpaaKG12
import Derived.Test.YthcjfgfbeollpaaKG21
import Derived.Test.YthcjfgfbeollpaaKG20
namespace Go.Proofs.Ythcjfgfbeollpaa.P07
open Go.RowKit Go.Proofs.Ythcjfgfbeollpaa.Base Go.Proofs.Ythcjfgfbeollpaa.Bytes
open Go.Proofs.Ythcjfgfbeollpaa.Sets (ST)

/-- The reader, and a result's own block. -/
structure Rs (w : World) (b : Nat) (l : List UInt8) (ty : TypeId) (o : Array Value) (s : PS) (W : World) : Prop where
  rd : Rd W b l s
  out : At W w.heap.size ty o
  keep : Keep (fun i => i = b) w W
  low : b < w.heap.size
theorem Rs.start {w : World} {b : Nat} {l : List UInt8} {s : PS} (h : Rd w b l s) (ty : TypeId) (o : Array Value) : Rs w b l ty o s (w.alloc (.cells o ty)) :=
  ⟨h.alloc _, At.new w o ty, (Keep.refl _ w).alloc _, At.lt h⟩
theorem Rs.step {w : World} {b : Nat} {l : List UInt8} {ty : TypeId} {o : Array Value} {s s' : PS} {W W' : World} (I : Rs w b l ty o s W) (h : Rd W' b l s') (q : Keep (fun i => i = b) W W') : Rs w b l ty o s' W' :=
  ⟨h, I.out.keep q (by have := I.low; omega), I.keep.trans q, I.low⟩
theorem Rs.quiet {w : World} {b : Nat} {l : List UInt8} {ty : TypeId} {o : Array Value} {s : PS} {W W' : World} (I : Rs w b l ty o s W) (q : Keep (fun _ => False) W W') : Rs w b l ty o s W' :=
  I.step (I.rd.keep q (fun h => h)) (upk b q)
theorem Rs.ne {w : World} {b : Nat} {l : List UInt8} {ty : TypeId} {o : Array Value} {s : PS} {W : World} (I : Rs w b l ty o s W) : b ≠ w.heap.size := by have := I.low; omega

/-- A set of bytes, by a list. -/
@[reducible] def VS (_ : World) (v : Value) (L : List Nat) : Prop := v = val (mkS L) ∧ ∀ x ∈ L, x < 256

theorem mk_append (L M : List Nat) : mkS (L ++ M) = ST.or (mkS L) (mkS M) := by
  refine ST.ext (mk_ok _ _ rfl) (ST.or_ok (mk_ok _ _ rfl) (mk_ok _ _ rfl)) (fun b hb => ?_)
  rw [mk_has b hb _ _ rfl, ST.has_or _ _ _ hb, mk_has b hb _ _ rfl, mk_has b hb _ _ rfl, Bool.eq_iff_iff]
  simp
theorem mk_upto (lo hi : Nat) : mkS (upto lo hi) = ST.range lo hi := by
  refine ST.ext (mk_ok _ _ rfl) (ST.range_ok _ _) (fun b hb => ?_)
  rw [mk_has b hb _ _ rfl, ST.has_range _ _ _ hb]
  apply decide_eq_decide.2
  unfold upto
  rw [List.mem_map]
  constructor
  · rintro ⟨i, hi, rfl⟩
    have := List.mem_range.1 hi
    omega
  · rintro ⟨h1, h2⟩
    exact ⟨b - lo, List.mem_range.2 (by omega), by omega⟩

set_option maxRecDepth 100000 in
set_option maxHeartbeats 4000000 in
theorem rspan_any (b : Nat) (l : List UInt8) (s : PS) (hb : s.bad = none) (hp : s.pos ≤ l.length) (hl : l.length ≤ 100000000) (w : World) (h : Rd w b l s) :
    Calls Try.prog 131 #[.pointer (some ⟨b, 0, none⟩)] w (Outs w b l VS (range1 l s)) := by
  have hby := fun W h1 => rbyte_any b l s hb hp hl W h1
  have r1 := one_range l s
  have hp1 := fun h => one_sharp.toTame.pos_le hb hp h
  have hr : range1 l s = dashB (one l s).1 (nxt l (one l s).2) l (one l s).2 := rfl
  have hbd : ∀ x, (one l s).2.bad = some x → (range1 l s).2.bad = some x := fun x h => by rw [hr]; exact (dash_tame _).bad l _ x h
  obtain ⟨r, hrr⟩ : ∃ r, range1 l s = r := ⟨_, rfl⟩
  rw [hrr] at hr hbd ⊢
  obtain ⟨⟨lo, s1⟩, h1⟩ : ∃ q, one l s = q := ⟨_, rfl⟩
  rw [h1] at hby r1 hp1 hr hbd
  dsimp only at r1 hp1 hr hbd
  obtain ⟨lo, rfl⟩ : ∃ n : Nat, lo = n := ⟨lo.toNat, by omega⟩
  have HC := Lib.hid (And.intro hby (And.intro hp1 (And.intro hr hbd)))
  have W0 := Lib.hid (Rs.start h 24 zeros)
  clear h hby hp1 hr hbd hrr h1 hb hp
  go_enter Try.func131, Try.ntmps131
  go_wp2_with fail
  generalize (w.alloc (.cells zeros 24)) = V at *
  refine (HC.out.1 V W0.out.rd).mono ?_
  intro e w2 hO
  rcases hO.split with ⟨hb2, v, rfl, hv, h2, q2⟩ | ⟨x, hb2, rfl, q2⟩
  · unfold VB at hv
    subst hv
    have I2 := W0.out.step h2 q2
    clear h2 q2 hO
    have hpos := HC.out.2.1 hb2
    by_cases h45 : nxt l s1 = 45
    · have hlt := nxt_lt (l := l) (s := s1) (by omega)
      have ht := take_yes b 45 l s1 h45 hl w2 I2.rd
      have hby := fun W h1 => rbyte_any b l s1.adv hb2 (show s1.pos + 1 ≤ l.length by omega) hl W h1
      have r2 := one_range l s1.adv
      have hr := HC.out.2.2.1
      unfold dashB hiP at hr
      rw [if_pos h45] at hr
      have ha : s1.adv.pos = s1.pos + 1 := rfl
      rw [ha] at hr
      obtain ⟨⟨hi, s2⟩, h1⟩ : ∃ q, one l s1.adv = q := ⟨_, rfl⟩
      rw [h1] at hby r2 hr
      dsimp only at r2 hr
      obtain ⟨hi, rfl⟩ : ∃ n : Nat, hi = n := ⟨hi.toNat, by omega⟩
      have H2 := Lib.hid (And.intro I2 (And.intro ht (And.intro hby hr)))
      clear I2 ht hby hr h1 h45 hb2 ha
      go_wp2_with fail
      refine H2.out.2.1.mono ?_
      rintro e w3 ⟨rfl, h3, q3⟩
      have c1 : w3.cell? ⟨b, 1, none⟩ = some (.int .i64 ((s1.pos : Int) + 1)) := h3.cell (o := 1) rfl
      have H3 := Lib.hid (And.intro (H2.out.1.step h3 q3) h3)
      clear h3 q3
      go_wp2_with fail
      refine (H2.out.2.2.1 w3 H3.out.2).mono ?_
      intro e w4 hO
      rcases hO.split with ⟨hb4, v, rfl, hv, h4, q4⟩ | ⟨x, hb4, rfl, q4⟩
      · unfold VB at hv
        subst hv
        have I4 := H3.out.1.step h4 q4
        clear h4 q4 hO c1
        by_cases hlo : hi < lo
        · have hlo' : (hi : Int) < (lo : Int) := by omega
          have H4 := Lib.hid (And.intro I4 hb4)
          clear I4 hb4
          go_wp2_with fail
          refine ⟨rfl, Outs.gave (x := s1.pos + 1) ?_ H4.out.1.keep⟩
          rw [H2.out.2.2.2, if_pos ⟨H4.out.2, by omega⟩]
          exact bad_fail H4.out.2 _
        · have hlo' : ¬ (hi : Int) < (lo : Int) := by omega
          have hof := of_any lo hi (by omega) (by omega) w4
          have hr := H2.out.2.2.2
          rw [if_neg (by rintro ⟨_, h⟩; omega)] at hr
          have hmk := mk_upto lo hi
          have H4 := Lib.hid (And.intro I4 (And.intro hb4 (And.intro hof (And.intro hr hmk))))
          clear I4 hb4 hof hr hmk
          obtain ⟨R, hR⟩ : ∃ R, ST.range lo hi = R := ⟨_, rfl⟩
          rw [hR] at H4
          go_wp2_with fail
          refine H4.out.2.2.1.mono ?_
          rintro e w5 ⟨rfl, q5⟩
          have I5 := H4.out.1.quiet q5
          obtain ⟨⟨d0, d1, d2, d3⟩, f0, f1, f2, f3⟩ := cells4 I5.out
          have H5 := Lib.hid I5
          clear I5 q5 hR
          go_wp2_with fail
          have a := set4 H5.out.out (.int .u64 R.x0) (.int .u64 R.x1) (.int .u64 R.x2) (.int .u64 R.x3)
          have q := keep4 H5.out.keep (b := w.heap.size) (fun h => absurd h (by simp)) (.int .u64 R.x0) (.int .u64 R.x1) (.int .u64 R.x2) (.int .u64 R.x3)
          have p : At _ b _ _ := (((At.setOther H5.out.rd (p := ⟨w.heap.size, 0, none⟩) H5.out.ne (.int .u64 R.x0)).setOther (p := ⟨w.heap.size, 1, none⟩) H5.out.ne (.int .u64 R.x1)).setOther (p := ⟨w.heap.size, 2, none⟩) H5.out.ne (.int .u64 R.x2)).setOther (p := ⟨w.heap.size, 3, none⟩) H5.out.ne (.int .u64 R.x3)
          generalize World.setCell _ _ _ = W2 at *
          obtain ⟨⟨e0, e1, e2, e3⟩, -⟩ := cells4 a
          refine bodyPost_ret (v := val R) (by simp [results, Try.results131, go_sem, e0, e1, e2, e3]) rfl ?_
          refine Outs.ok (by rw [H4.out.2.2.2.1]; exact H4.out.2.1) (by rw [H4.out.2.2.2.1]; exact ⟨by rw [H4.out.2.2.2.2], upto_lt (by omega) (by omega)⟩) (by rw [H4.out.2.2.2.1]; exact p) q
      · have H4 := Lib.hid (And.intro hb4 (H3.out.1.keep.trans q4))
        clear hb4 q4 hO
        go_wp2_with fail
        refine ⟨rfl, Outs.gave (x := x) ?_ H4.out.2⟩
        rw [H2.out.2.2.2, if_neg (by rintro ⟨h, _⟩; rw [H4.out.1] at h; cases h)]
        exact H4.out.1
    · have ht := take_no b 45 l s1 hb2 h45 w2 I2.rd
      have hof := fun W => of_any lo lo (by omega) (by omega) W
      have hr := HC.out.2.2.1
      unfold dashB at hr
      rw [if_neg h45] at hr
      have hmk := mk_upto lo lo
      have H2 := Lib.hid (And.intro I2 (And.intro ht (And.intro hof (And.intro hr (And.intro hmk hb2)))))
      clear I2 ht hof hr h45 hb2 hmk
      obtain ⟨R, hR⟩ : ∃ R, ST.range lo lo = R := ⟨_, rfl⟩
      rw [hR] at H2
      go_wp2_with fail
      refine H2.out.2.1.mono ?_
      rintro e w3 ⟨rfl, h3, q3⟩
      have H3 := Lib.hid (H2.out.1.step h3 q3)
      clear h3 q3
      have hlo' : ¬ (lo : Int) < (lo : Int) := by omega
      go_wp2_with fail
      refine (H2.out.2.2.1 w3).mono ?_
      rintro e w5 ⟨rfl, q5⟩
      have I5 := H3.out.quiet q5
      obtain ⟨⟨d0, d1, d2, d3⟩, f0, f1, f2, f3⟩ := cells4 I5.out
      have H5 := Lib.hid I5
      clear I5 q5 hR
      go_wp2_with fail
      have a := set4 H5.out.out (.int .u64 R.x0) (.int .u64 R.x1) (.int .u64 R.x2) (.int .u64 R.x3)
      have q := keep4 H5.out.keep (b := w.heap.size) (fun h => absurd h (by simp)) (.int .u64 R.x0) (.int .u64 R.x1) (.int .u64 R.x2) (.int .u64 R.x3)
      have p : At _ b _ _ := (((At.setOther H5.out.rd (p := ⟨w.heap.size, 0, none⟩) H5.out.ne (.int .u64 R.x0)).setOther (p := ⟨w.heap.size, 1, none⟩) H5.out.ne (.int .u64 R.x1)).setOther (p := ⟨w.heap.size, 2, none⟩) H5.out.ne (.int .u64 R.x2)).setOther (p := ⟨w.heap.size, 3, none⟩) H5.out.ne (.int .u64 R.x3)
      generalize World.setCell _ _ _ = W2 at *
      obtain ⟨⟨e0, e1, e2, e3⟩, -⟩ := cells4 a
      refine bodyPost_ret (v := val R) (by simp [results, Try.results131, go_sem, e0, e1, e2, e3]) rfl ?_
      refine Outs.ok (by rw [H2.out.2.2.2.1]; exact H2.out.2.2.2.2.2) (by rw [H2.out.2.2.2.1]; exact ⟨by rw [H2.out.2.2.2.2.1], upto_lt (by omega) (by omega)⟩) (by rw [H2.out.2.2.2.1]; exact p) q
  · have H2 := Lib.hid (And.intro hb2 (W0.out.keep.trans q2))
    clear hb2 q2 hO
    go_wp2_with fail
    exact ⟨rfl, Outs.gave (x := x) (HC.out.2.2.2 _ H2.out.1) H2.out.2⟩
end Go.Proofs.Ythcjfgfbeollpaa.P07
/- Plain mathematics for layer 8 (show), of no program. Part 1: reading by what is left of the text; a byte's text, a class's text, and that both are read as they were written. -/
namespace Go.Proofs.Ythcjfgfbeollpaa.P08
open Go.Proofs.Ythcjfgfbeollpaa.Sets Go.Proofs.Ythcjfgfbeollpaa.P07

/-- What stands first; -1: nothing. -/
def hd : List UInt8 → Int
  | [] => -1
  | c :: _ => c.toNat

def hexd (k : Nat) : UInt8 := ([48, 49, 50, 51, 52, 53, 54, 55, 56, 57, 97, 98, 99, 100, 101, 102] : List UInt8).getD k 0
/-- How a byte is written. -/
def esc (b : Nat) : List UInt8 := if plainN b then [UInt8.ofNat b] else [92, 120, hexd (b / 16), hexd (b % 16)]

def spanT (lo hi : Nat) : List UInt8 := if hi = lo then esc lo else if hi = lo + 1 then esc lo ++ esc hi else esc lo ++ [45] ++ esc hi
def spansT (L : List (Nat × Nat)) : List UInt8 := L.flatMap fun r => spanT r.1 r.2
/-- A set, as a class. -/
def textT (s : ST) : List UInt8 :=
  if s.count = 256 then [46] else if s.count = 1 then esc (Sets.nxt s.has 0) else if s.count ≤ 128 then 91 :: (spansT (rgs s.has 256) ++ [93]) else 91 :: 94 :: (spansT (rgs s.not.has 256) ++ [93])

end Go.Proofs.Ythcjfgfbeollpaa.P08
/- Plain mathematics for layer 8 (show), of no program. Part 2: which expressions are right, their texts, and that a right one's text is read as it (the stage's consequence). -/
namespace Go.Proofs.Ythcjfgfbeollpaa.P08
open Go.Proofs.Ythcjfgfbeollpaa.P07
open Go.Proofs.Ythcjfgfbeollpaa.Sets (ST)

/-! ### Numbers and signs of repetition -/
def numT (n : Nat) : List UInt8 := if n < 10 then [UInt8.ofNat (48 + n)] else [UInt8.ofNat (48 + n / 10), UInt8.ofNat (48 + n % 10)]
def times (lo hi : Int) : List UInt8 :=
  if lo = 0 ∧ hi = -1 then [42] else if lo = 1 ∧ hi = -1 then [43] else if lo = 0 ∧ hi = 1 then [63] else 123 :: (numT lo.toNat ++ (if hi = -1 then [44, 125] else if lo < hi then 44 :: (numT hi.toNat ++ [125]) else [125]))

/-- All fields are zero but those of its kind, which are in bounds. -/
def Bare (k : Int) (s : ST) (mn mx : Int) (n : Nat) : Prop :=
  (k = 1 ∧ s = ST.none ∧ mn = 0 ∧ mx = 0 ∧ n = 0) ∨ (k = 2 ∧ mn = 0 ∧ mx = 0 ∧ n = 0) ∨ ((k = 3 ∨ k = 4) ∧ s = ST.none ∧ mn = 0 ∧ mx = 0 ∧ 2 ≤ n) ∨ (k = 5 ∧ s = ST.none ∧ n = 1 ∧ 0 ≤ mn ∧ mn ≤ 20 ∧ (mx = -1 ∨ mn ≤ mx ∧ mx ≤ 20))
/-- Do brackets stand round a sub of kind j? -/
def rnd (k j : Int) : Bool := if k = 3 then decide (j = 1 ∨ j = 3 ∨ j = 4) else if k = 4 then decide (j = 4) else decide (j ≠ 2)
def br (b : Bool) (u : List UInt8) : List UInt8 := if b then 40 :: (u ++ [41]) else u
mutual
/-- Right, with no more than d brackets open. -/
def RT : Nat → T → Prop
  | d, .nd k s mn mx l => Bare k s mn mx l.length ∧ s.Ok ∧ RL d k l
def RL : Nat → Int → List T → Prop
  | _, _, [] => True
  | d, k, t :: l => (if rnd k t.kind then 1 ≤ d ∧ RT (d - 1) t else RT d t) ∧ RL d k l
end
mutual
/-- Its text. -/
def txt : T → List UInt8
  | .nd k s mn mx l => if k = 2 then textT s else subT k true l ++ (if k = 5 then times mn mx else [])
def subT : Int → Bool → List T → List UInt8
  | _, _, [] => []
  | k, b, t :: l => (if k = 4 ∧ b = false then [124] else []) ++ (br (rnd k t.kind) (txt t) ++ subT k false l)
end

theorem RT.bare {d : Nat} {k : Int} {s : ST} {mn mx : Int} {l : List T} (h : RT d (.nd k s mn mx l)) : Bare k s mn mx l.length ∧ s.Ok ∧ RL d k l := by rw [RT] at h; exact h
theorem RL_cons {d : Nat} {k : Int} {t : T} {l : List T} (h : RL d k (t :: l)) : (if rnd k t.kind then 1 ≤ d ∧ RT (d - 1) t else RT d t) ∧ RL d k l := by rw [RL] at h; exact h
/-- How the text of an item that is no class, and its brackets, begin. -/
def okHd (c : Int) : Prop := c ≠ -1 ∧ c ≠ 124 ∧ c ≠ 41 ∧ c ≠ 42 ∧ c ≠ 43 ∧ c ≠ 63 ∧ c ≠ 123
theorem kinds {d : Nat} {t : T} (h : RT d t) : t.kind = 1 ∨ t.kind = 2 ∨ t.kind = 3 ∨ t.kind = 4 ∨ t.kind = 5 := by
  match t, h with
  | .nd k s mn mx l, h =>
    have hb := h.bare.1
    unfold Bare at hb
    show k = 1 ∨ k = 2 ∨ k = 3 ∨ k = 4 ∨ k = 5
    omega

theorem okHd.goes {r : List UInt8} (h : okHd (hd r)) : P07.goes (hd r) := by
  unfold okHd at h
  refine ⟨?_, h.2.1, h.2.2.1⟩
  cases r with
  | nil => simp [hd] at h
  | cons c r => simp [hd]
end Go.Proofs.Ythcjfgfbeollpaa.P08
/- Plain mathematics for layer 8 (show), of no program. Part 3: what is read is right; unlike right expressions have unlike texts; a part's text stands in the whole's; how many brackets stand open, as the document counts. -/
namespace Go.Proofs.Ythcjfgfbeollpaa.P08
open Go.Proofs.Ythcjfgfbeollpaa.P07
open Go.Proofs.Ythcjfgfbeollpaa.Sets (ST)

/-! ### The brackets that are counted beside stay as they were -/
def Opn {α : Type} (f : List UInt8 → PS → α × PS) : Prop := ∀ l s, (f l s).2.opn = s.opn
theorem fail_opn (s : PS) (k : Nat) : (s.fail k).opn = s.opn := by unfold PS.fail; split <;> rfl
theorem digit_opn : Opn digit := fun l s => by
  unfold digit
  split
  · rfl
  · exact fail_opn _ _
theorem two_opn : Opn two := fun l s => by
  unfold two
  exact (digit_opn _ _).trans (digit_opn _ _)
theorem esc_opn : Opn escP := fun l s => by
  unfold escP escB
  split
  · exact two_opn _ _
  · split
    · rfl
    · split
      · rfl
      · split
        · rfl
        · exact fail_opn _ _
theorem one_opn : Opn one := fun l s => by
  unfold one oneB
  split
  · rfl
  · split
    · exact esc_opn _ _
    · exact fail_opn _ _
theorem hi_opn (lo : Int) : Opn (hiP lo) := fun l s => by
  unfold hiP
  dsimp only
  split
  · exact (fail_opn _ _).trans (one_opn _ _)
  · exact one_opn _ _
theorem range_opn : Opn range1 := fun l s => by
  unfold range1 dashB
  split
  · exact (hi_opn _ _ _).trans (one_opn _ _)
  · exact one_opn _ _
theorem set_opn : ∀ f acc, Opn (setP f acc)
  | 0, acc => fun l s => rfl
  | f + 1, acc => fun l s => by
    rw [setP]
    split
    · split
      · rfl
      · exact (set_opn f _ _ _).trans (range_opn _ _)
    · rfl
theorem num2_opn (d : Int) : Opn (num2 d) := fun l s => by
  unfold num2 numB2
  split <;> rfl
theorem num_opn : Opn num := fun l s => by
  unfold num numB
  split
  · exact num2_opn _ _ _
  · exact fail_opn _ _
theorem number_opn : Opn number := fun l s => by
  unfold number
  dsimp only
  split
  · exact (fail_opn _ _).trans (num_opn _ _)
  · exact num_opn _ _
theorem must_opn (c : Int) : Opn (must c) := fun l s => by
  unfold must
  show (if P07.nxt l s = c then s else s.fail s.pos).opn = _
  split
  · rfl
  · exact fail_opn _ _
theorem max_opn (mn : Int) : Opn (maxP mn) := fun l s => by
  unfold maxP maxB
  split
  · rfl
  · unfold maxC
    dsimp only
    split
    · exact (fail_opn _ _).trans (number_opn _ _)
    · exact number_opn _ _
theorem cma_opn (mn : Int) : Opn (cmaP mn) := fun l s => by
  unfold cmaP cmaB
  split
  · exact max_opn _ _ _
  · rfl
theorem braces_opn : Opn braces := fun l s => by
  unfold braces
  exact (must_opn _ _ _).trans ((cma_opn _ _ _).trans (number_opn _ _))
theorem clsQ_opn (F : Nat) (nt : Bool) : Opn (clsQ F nt) := fun l s => by
  unfold clsQ
  exact (must_opn _ _ _).trans (set_opn _ _ _ _)
theorem cls_opn (F : Nat) : Opn (clsP F) := fun l s => by
  unfold clsP clsB
  split
  · exact clsQ_opn _ _ _ _
  · exact clsQ_opn _ _ _ _
theorem lit_opn : Opn litP := fun l s => one_opn l s

/-! ### What is read is right -/
/-- What it gives, if nothing is wrong; and the brackets are as before. -/
def Gives {α : Type} (f : List UInt8 → PS → α × PS) (o : Nat) (P : α → Prop) : Prop := ∀ l s, s.opn = o → s.bad = none → (f l s).2.bad = none → P (f l s).1 ∧ (f l s).2.opn = o

theorem before {α : Type} {f : List UInt8 → PS → α × PS} (h : Tame f) {l : List UInt8} {s : PS} (hb : (f l s).2.bad = none) : s.bad = none := by
  cases e : s.bad with
  | none => rfl
  | some b =>
    rw [h.bad l s b e] at hb
    cases hb

theorem fail_bad (s : PS) (k : Nat) : (s.fail k).bad ≠ none := by
  unfold PS.fail
  split
  · simp
  · assumption
theorem dig_bounds {c : Int} (h : isDig c = true) : 0 ≤ c - 48 ∧ c - 48 ≤ 9 := by
  unfold isDig at h
  have := of_decide_eq_true h
  omega
theorem num_gives {l : List UInt8} {s : PS} (h : (num l s).2.bad = none) : 0 ≤ (num l s).1 := by
  unfold num numB at h ⊢
  split at h
  · rename_i h1
    rw [if_pos h1]
    unfold num2 numB2
    have := dig_bounds h1
    split
    · rename_i h2
      have := dig_bounds h2
      dsimp only
      omega
    · exact this.1
  · exact absurd h (fail_bad _ _)
theorem number_gives {l : List UInt8} {s : PS} (h : (number l s).2.bad = none) : 0 ≤ (number l s).1 ∧ (number l s).1 ≤ 20 := by
  unfold number at h ⊢
  dsimp only at h ⊢
  split at h
  · exact absurd h (fail_bad _ _)
  · rename_i h1
    have h2 := num_gives h
    refine ⟨h2, ?_⟩
    rcases Int.lt_or_le 20 (num l s).1 with h3 | h3
    · exact absurd ⟨h, h3⟩ h1
    · exact h3
theorem max_gives {mn : Int} {l : List UInt8} {s : PS} (h : (maxP mn l s).2.bad = none) : (maxP mn l s).1 = -1 ∨ mn ≤ (maxP mn l s).1 ∧ (maxP mn l s).1 ≤ 20 := by
  unfold maxP maxB at h ⊢
  split at h
  · rename_i h1
    rw [if_pos h1]
    exact .inl rfl
  · rename_i h1
    rw [if_neg h1]
    unfold maxC at h ⊢
    dsimp only at h ⊢
    split at h
    · exact absurd h (fail_bad _ _)
    · rename_i h2
      have h3 := number_gives h
      rcases Int.lt_or_le (number l s).1 mn with h4 | h4
      · exact absurd ⟨h, h4⟩ h2
      · exact .inr ⟨h4, h3.2⟩
theorem cma_gives {mn : Int} (hm : mn ≤ 20) {l : List UInt8} {s : PS} (h : (cmaP mn l s).2.bad = none) : (cmaP mn l s).1 = -1 ∨ mn ≤ (cmaP mn l s).1 ∧ (cmaP mn l s).1 ≤ 20 := by
  unfold cmaP cmaB at h ⊢
  split at h
  · rename_i h1
    rw [if_pos h1]
    exact max_gives h
  · rename_i h1
    rw [if_neg h1]
    exact .inr ⟨Int.le_refl _, hm⟩
theorem braces_gives {l : List UInt8} {s : PS} (h : (braces l s).2.bad = none) : 0 ≤ (braces l s).1.1 ∧ (braces l s).1.1 ≤ 20 ∧ ((braces l s).1.2 = -1 ∨ (braces l s).1.1 ≤ (braces l s).1.2 ∧ (braces l s).1.2 ≤ 20) := by
  have h1 : (cmaP (number l s).1 l (number l s).2).2.bad = none := before (must_tame 125 (by decide)) h
  have h2 : (number l s).2.bad = none := before (cma_tame _) h1
  have h3 := number_gives h2
  exact ⟨h3.1, h3.2, cma_gives h3.2 h1⟩

mutual
theorem RT_mono : ∀ (t : T) (d e : Nat), RT d t → d ≤ e → RT e t
  | .nd k s mn mx l, d, e, h, hd => by
    have := h.bare
    rw [RT]
    exact ⟨this.1, this.2.1, RL_mono l d e k this.2.2 hd⟩
theorem RL_mono : ∀ (l : List T) (d e : Nat) (k : Int), RL d k l → d ≤ e → RL e k l
  | [], d, e, k, h, hd => by rw [RL]; trivial
  | t :: l, d, e, k, h, hd => by
    obtain ⟨h1, h2⟩ := RL_cons h
    rw [RL]
    refine ⟨?_, RL_mono l d e k h2 hd⟩
    split
    · rename_i h3
      rw [if_pos h3] at h1
      exact ⟨by omega, RT_mono t (d - 1) (e - 1) h1.2 (by omega)⟩
    · rename_i h3
      rw [if_neg h3] at h1
      exact RT_mono t d e h1 hd
end

/-- What an atom may be. -/
def IA (d : Nat) (a : T) : Prop := (∃ s : ST, s.Ok ∧ a = clsT s) ∨ (1 ≤ d ∧ RT (d - 1) a)
/-- What may stand in a node of a kind. -/
def IS (d : Nat) (k : Int) (t : T) : Prop := if rnd k t.kind then 1 ≤ d ∧ RT (d - 1) t else RT d t

theorem class_RT {s : ST} (hs : s.Ok) (d : Nat) : RT d (clsT s) := by
  unfold clsT
  rw [RT]
  exact ⟨.inr (.inl ⟨rfl, rfl, rfl, rfl⟩), hs, by rw [RL]; trivial⟩
theorem IA.is {d : Nat} {a : T} (h : IA d a) (k : Int) (hk : k = 3 ∨ k = 4 ∨ k = 5) : IS d k a := by
  unfold IS
  rcases h with ⟨s, hs, rfl⟩ | ⟨h1, h2⟩
  · have e : rnd k (clsT s).kind = false := by
      show rnd k 2 = false
      unfold rnd
      rcases hk with rfl | rfl | rfl <;> decide
    rw [if_neg (by rw [e]; decide)]
    exact class_RT hs d
  · split
    · exact ⟨h1, h2⟩
    · exact RT_mono a _ _ h2 (by omega)
theorem IS.rt {d : Nat} {k : Int} {t : T} (h : IS d k t) : RT d t := by
  unfold IS at h
  split at h
  · exact RT_mono t _ _ h.2 (by omega)
  · exact h
theorem RL_all {d : Nat} {k : Int} : ∀ (L : List T), (∀ t, t ∈ L → IS d k t) → RL d k L
  | [], _ => by rw [RL]; trivial
  | t :: L, h => by
    rw [RL]
    exact ⟨h t (by simp), RL_all L fun u hu => h u (List.mem_cons_of_mem _ hu)⟩
theorem rep_RT {d : Nat} {a : T} (h : IA d a) {lo hi : Int} (h0 : 0 ≤ lo) (h1 : lo ≤ 20) (h2 : hi = -1 ∨ lo ≤ hi ∧ hi ≤ 20) : RT d (repT a lo hi) := by
  unfold repT
  rw [RT]
  refine ⟨.inr (.inr (.inr ⟨rfl, rfl, rfl, h0, h1, h2⟩)), ST.none_ok, RL_all _ fun t ht => ?_⟩
  rw [List.mem_singleton.1 ht]
  exact h.is 5 (by omega)
theorem rep_is {d : Nat} {a : T} (h : IA d a) {lo hi : Int} (h0 : 0 ≤ lo) (h1 : lo ≤ 20) (h2 : hi = -1 ∨ lo ≤ hi ∧ hi ≤ 20) (k : Int) (hk : k = 3 ∨ k = 4) : IS d k (repT a lo hi) := by
  have e : rnd k (repT a lo hi).kind = false := by
    show rnd k 5 = false
    unfold rnd
    rcases hk with rfl | rfl <;> decide
  unfold IS
  rw [if_neg (by rw [e]; decide)]
  exact rep_RT h h0 h1 h2

/-- The whole, d brackets more may stand open. -/
def AG (F d : Nat) : Prop := ∀ o, d + o = 12 → Gives (altD F (d + 1)) o (RT d)

theorem atom_gives {F d o : Nat} (hdo : d + o = 12) (ih : ∀ e, d = e + 1 → AG F e) : Gives (atomP F (altD F d)) o (IA d) := fun l s ho hb h => by
  unfold atomP atomB at h ⊢
  by_cases h1 : P07.nxt l s = 40
  · rw [if_pos h1] at h ⊢
    by_cases h2 : s.opn = 12
    · rw [if_pos h2] at h
      exact absurd h (fail_bad _ _)
    · rw [if_neg h2] at h ⊢
      obtain ⟨e, rfl⟩ : ∃ e, d = e + 1 := ⟨d - 1, by omega⟩
      unfold parP at h ⊢
      dsimp only at h ⊢
      have h3 := before (must_tame 41 (by decide)) h
      dsimp only at h3
      obtain ⟨h4, h5⟩ := ih e rfl (o + 1) (by omega) l { s.adv with opn := s.adv.opn + 1 } (by show s.opn + 1 = _; omega) hb h3
      refine ⟨.inr ⟨by omega, h4⟩, ?_⟩
      rw [must_opn]
      dsimp only
      rw [h5]
      rfl
  · rw [if_neg h1] at h ⊢
    by_cases h2 : P07.nxt l s = 46
    · rw [if_pos h2] at h ⊢
      exact ⟨.inl ⟨_, ST.not_ok _, rfl⟩, ho⟩
    · rw [if_neg h2] at h ⊢
      by_cases h3 : P07.nxt l s = 91
      · rw [if_pos h3] at h ⊢
        refine ⟨.inl ?_, (cls_opn F _ _).trans ho⟩
        unfold clsP clsB clsQ
        have key : ∀ (nt : Bool) (L : List Nat), (if nt then notS (mkS L) else mkS L).Ok := fun nt L => by
          cases nt
          · exact mk_ok _ _ rfl
          · exact ST.not_ok _
        split
        · exact ⟨_, key true _, rfl⟩
        · exact ⟨_, key false _, rfl⟩
      · rw [if_neg h3] at h ⊢
        exact ⟨.inl ⟨_, mk_ok _ _ rfl, rfl⟩, (lit_opn _ _).trans ho⟩

theorem item_gives {F d o : Nat} (hdo : d + o = 12) (ih : ∀ e, d = e + 1 → AG F e) : Gives (itemP F (altD F d)) o (fun t => IS d 3 t ∧ IS d 4 t) := fun l s ho hb h => by
  unfold itemP at h ⊢
  have h0 := before (sg_tame (atomP F (altD F d) l s).1) h
  obtain ⟨h1, h2⟩ := atom_gives hdo ih l s ho hb h0
  generalize atomP F (altD F d) l s = x at *
  unfold sgB at h ⊢
  by_cases c1 : P07.nxt l x.2 = 42
  · rw [if_pos c1] at h ⊢
    exact ⟨⟨rep_is h1 (by omega) (by omega) (.inl rfl) 3 (by omega), rep_is h1 (by omega) (by omega) (.inl rfl) 4 (by omega)⟩, h2⟩
  · rw [if_neg c1] at h ⊢
    by_cases c2 : P07.nxt l x.2 = 43
    · rw [if_pos c2] at h ⊢
      exact ⟨⟨rep_is h1 (by omega) (by omega) (.inl rfl) 3 (by omega), rep_is h1 (by omega) (by omega) (.inl rfl) 4 (by omega)⟩, h2⟩
    · rw [if_neg c2] at h ⊢
      by_cases c3 : P07.nxt l x.2 = 63
      · rw [if_pos c3] at h ⊢
        exact ⟨⟨rep_is h1 (by omega) (by omega) (.inr ⟨by omega, by omega⟩) 3 (by omega), rep_is h1 (by omega) (by omega) (.inr ⟨by omega, by omega⟩) 4 (by omega)⟩, h2⟩
      · rw [if_neg c3] at h ⊢
        by_cases c4 : P07.nxt l x.2 = 123
        · rw [if_pos c4] at h ⊢
          obtain ⟨b1, b2, b3⟩ := braces_gives h
          exact ⟨⟨rep_is h1 b1 b2 b3 3 (by omega), rep_is h1 b1 b2 b3 4 (by omega)⟩, (braces_opn _ _).trans h2⟩
        · rw [if_neg c4] at h ⊢
          exact ⟨⟨h1.is 3 (by omega), h1.is 4 (by omega)⟩, h2⟩

theorem catL_gives {F d o : Nat} (hdo : d + o = 12) (ih : ∀ e, d = e + 1 → AG F e) : ∀ f acc, (∀ t, t ∈ acc → IS d 3 t ∧ IS d 4 t) → Gives (catL F (altD F d) f acc) o (fun L => ∀ t, t ∈ L → IS d 3 t ∧ IS d 4 t)
  | 0, acc, ha => fun l s ho hb h => ⟨ha, ho⟩
  | f + 1, acc, ha => fun l s ho hb h => by
    rw [catL] at h ⊢
    split at h
    · rename_i hg
      rw [if_pos hg]
      have h0 := before (catL_tame F (altD_tame F d) f _) h
      obtain ⟨h1, h2⟩ := item_gives hdo ih l s ho hb h0
      refine catL_gives hdo ih f _ (fun t ht => ?_) l _ h2 h0 h
      rcases List.mem_append.1 ht with ht | ht
      · exact ha t ht
      · rw [List.mem_singleton.1 ht]
        exact h1
    · rename_i hg
      rw [if_neg hg]
      exact ⟨ha, ho⟩
theorem cat_gives {F d o : Nat} (hdo : d + o = 12) (ih : ∀ e, d = e + 1 → AG F e) : Gives (catP F (altD F d)) o (IS d 4) := fun l s ho hb h => by
  unfold catP at h ⊢
  obtain ⟨h1, h2⟩ := catL_gives hdo ih F [] (by simp) l s ho hb h
  refine ⟨?_, h2⟩
  generalize (catL F (altD F d) F [] l s).1 = L at *
  dsimp only
  match L, h1 with
  | [], _ =>
    unfold IS
    rw [if_neg (by show ¬ rnd 4 1 = true; decide)]
    unfold wrapC
    rw [RT]
    exact ⟨.inl ⟨rfl, rfl, rfl, rfl, rfl⟩, ST.none_ok, by rw [RL]; trivial⟩
  | [t], h1 => exact (h1 t (by simp)).2
  | a :: b :: L, h1 =>
    unfold IS
    rw [if_neg (by show ¬ rnd 4 3 = true; decide)]
    unfold wrapC
    rw [RT]
    exact ⟨.inr (.inr (.inl ⟨.inl rfl, rfl, rfl, rfl, by simp⟩)), ST.none_ok, RL_all _ fun t ht => (h1 t ht).1⟩
theorem altL_gives {F d o : Nat} (hdo : d + o = 12) (ih : ∀ e, d = e + 1 → AG F e) : ∀ f acc, acc ≠ [] → (∀ t, t ∈ acc → IS d 4 t) → Gives (altL F (altD F d) f acc) o (fun L => L ≠ [] ∧ ∀ t, t ∈ L → IS d 4 t)
  | 0, acc, hn, ha => fun l s ho hb h => ⟨⟨hn, ha⟩, ho⟩
  | f + 1, acc, hn, ha => fun l s ho hb h => by
    rw [altL] at h ⊢
    split at h
    · rename_i hg
      rw [if_pos hg]
      have h0 := before (altL_tame F (altD_tame F d) f _) h
      obtain ⟨h1, h2⟩ := cat_gives hdo ih l s.adv ho hb h0
      refine altL_gives hdo ih f _ (by simp) (fun t ht => ?_) l _ h2 h0 h
      rcases List.mem_append.1 ht with ht | ht
      · exact ha t ht
      · rw [List.mem_singleton.1 ht]
        exact h1
    · rename_i hg
      rw [if_neg hg]
      exact ⟨⟨hn, ha⟩, ho⟩
theorem alt_gives {F d : Nat} (ih : ∀ e, d = e + 1 → AG F e) : AG F d := fun o hdo l s ho hb h => by
  change (altP F (altD F d) l s).2.bad = none at h
  show RT d (altP F (altD F d) l s).1 ∧ (altP F (altD F d) l s).2.opn = o
  unfold altP at h ⊢
  dsimp only at h ⊢
  have h0 := before (altL_tame F (altD_tame F d) F _) h
  obtain ⟨h1, h2⟩ := cat_gives hdo ih l s ho hb h0
  obtain ⟨⟨h3, h4⟩, h5⟩ := altL_gives hdo ih F [(catP F (altD F d) l s).1] (by simp) (fun t ht => by rw [List.mem_singleton.1 ht]; exact h1) l _ h2 h0 h
  refine ⟨?_, h5⟩
  generalize (altL F (altD F d) F [(catP F (altD F d) l s).1] l (catP F (altD F d) l s).2).1 = L at *
  match L, h3, h4 with
  | [t], _, h4 => exact (h4 t (by simp)).rt
  | a :: b :: L, _, h4 =>
    unfold wrapA
    rw [RT]
    exact ⟨.inr (.inr (.inl ⟨.inr rfl, rfl, rfl, rfl, by simp⟩)), ST.none_ok, RL_all _ h4⟩
theorem ag_all {F : Nat} : ∀ d, AG F d
  | 0 => alt_gives fun e he => by omega
  | d + 1 => alt_gives fun e he => by
    rw [show e = d from by omega]
    exact ag_all d

/-- WHAT IS READ IS RIGHT. -/
theorem read_right {F : Nat} {l : List UInt8} {t : T} (h : parse F l = .inr t) : RT 12 t := by
  obtain ⟨h1, h2, -⟩ := right_run h
  have := (ag_all (F := F) 12 0 rfl l s0 rfl rfl h2).1
  change RT 12 (altD F 13 l s0).1 at this
  rw [h1] at this
  exact this

theorem sub_right {d : Nat} {k : Int} : ∀ {L : List T}, RL d k L → ∀ t, t ∈ L → RT d t
  | [], _, t, h => by simp at h
  | a :: L, hR, t, h => by
    obtain ⟨h1, h2⟩ := RL_cons hR
    rcases List.mem_cons.1 h with rfl | h
    · exact IS.rt (k := k) h1
    · exact sub_right h2 t h
end Go.Proofs.Ythcjfgfbeollpaa.P08
