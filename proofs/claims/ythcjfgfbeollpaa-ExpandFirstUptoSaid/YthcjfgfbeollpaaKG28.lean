/- Layer 9 (measure), plain. Part 1: how wide, nothing, the shortest and the longest length, as the document counts them; and what bounds them. -/
import Derived.Test.YthcjfgfbeollpaaKG26
import Derived.Test.YthcjfgfbeollpaaKG27
namespace Go.Proofs.Ythcjfgfbeollpaa.P09
open Go.Proofs.Ythcjfgfbeollpaa.P07 Go.Proofs.Ythcjfgfbeollpaa.P08 Go.Proofs.Ythcjfgfbeollpaa.Bytes
open Go.Proofs.Ythcjfgfbeollpaa.Sets (ST)

/-- How wide one part makes it. -/
def wstep (k mn mx : Int) (w : Int) : Int := if k = 5 ∧ mx = -1 then w * (mn + 1) + 1 else if k = 5 then (w + 2) * mx else w
mutual
/-- How wide. -/
def wd : T → Int
  | .nd k _ mn mx l => wdL k mn mx 1 l
def wdL : Int → Int → Int → Int → List T → Int
  | _, _, _, acc, [] => acc
  | k, mn, mx, acc, t :: l => wdL k mn mx (min (acc + wstep k mn mx (wd t)) 1073741824) l
end
theorem wd_eq (t : T) : wd t = wdL t.kind t.mn t.mx 1 t.subs := by
  cases t
  rw [wd]
  rfl
theorem wdL_append (k mn mx : Int) : ∀ (L : List T) (acc : Int) (t : T), wdL k mn mx acc (L ++ [t]) = min (wdL k mn mx acc L + wstep k mn mx (wd t)) 1073741824
  | [], acc, t => by rw [List.nil_append, wdL, wdL, wdL]
  | s :: L, acc, t => by rw [List.cons_append, wdL, wdL, wdL_append k mn mx L]
theorem wstep_ge {k mn mx w : Int} (hw : 0 ≤ w) (hmn : 0 ≤ mn) (hmx : -1 ≤ mx) : 0 ≤ wstep k mn mx w := by
  unfold wstep
  split
  · have := Int.mul_nonneg hw (show (0 : Int) ≤ mn + 1 by omega)
    omega
  · rename_i h
    split
    · rename_i h5
      have : mx ≠ -1 := fun e => h ⟨h5, e⟩
      exact Int.mul_nonneg (by omega) (by omega)
    · exact hw
theorem wstep_le {k mn mx w : Int} (h0 : 0 ≤ w) (hw : w ≤ 1073741824) (hmn : 0 ≤ mn) (h20 : mn ≤ 20) (hx20 : mx ≤ 20) : wstep k mn mx w ≤ 30000000000 := by
  unfold wstep
  split
  · have := Int.mul_le_mul_of_nonneg_left (show mn + 1 ≤ 21 by omega) h0
    omega
  · split
    · have := Int.mul_le_mul_of_nonneg_left hx20 (show (0 : Int) ≤ w + 2 by omega)
      omega
    · omega

mutual
/-- Does it match nothing? -/
def noneB : T → Bool
  | .nd k s mn _ l => if k = 2 then eqB s ST.none else if k = 3 then anyN l else if k = 4 then allN l else if k = 5 then decide (0 < mn) && headN l else false
def anyN : List T → Bool
  | [] => false
  | t :: l => noneB t || anyN l
def allN : List T → Bool
  | [] => true
  | t :: l => noneB t && allN l
def headN : List T → Bool
  | [] => false
  | t :: _ => noneB t
end
theorem noneB_eq (t : T) : noneB t = if t.kind = 2 then eqB t.set ST.none else if t.kind = 3 then anyN t.subs else if t.kind = 4 then allN t.subs else if t.kind = 5 then decide (0 < t.mn) && headN t.subs else false := by
  cases t
  rw [noneB]
  rfl
theorem anyN_take {L : List T} {i : Nat} {s : T} (h : L[i]? = some s) : anyN (L.take (i + 1)) = (anyN (L.take i) || noneB s) := by
  have key : ∀ M : List T, anyN (M ++ [s]) = (anyN M || noneB s) := fun M => by
    induction M with
    | nil => rw [List.nil_append, anyN, anyN, anyN]; simp
    | cons t M ih => rw [List.cons_append, anyN, anyN, ih, Bool.or_assoc]
  rw [List.take_add_one, h]
  exact key _
theorem anyN_get : ∀ {L : List T} {i : Nat} {s : T}, L[i]? = some s → noneB s = true → anyN L = true
  | [], i, s, h, _ => by simp at h
  | t :: L, 0, s, h, hn => by
    simp at h
    subst h
    rw [anyN, hn]
    rfl
  | t :: L, i + 1, s, h, hn => by
    rw [anyN, anyN_get (L := L) (i := i) (by simpa using h) hn, Bool.or_true]
theorem allN_take {L : List T} {i : Nat} {s : T} (h : L[i]? = some s) : allN (L.take (i + 1)) = (allN (L.take i) && noneB s) := by
  have key : ∀ M : List T, allN (M ++ [s]) = (allN M && noneB s) := fun M => by
    induction M with
    | nil => rw [List.nil_append, allN, allN, allN]; simp
    | cons t M ih => rw [List.cons_append, allN, allN, ih, Bool.and_assoc]
  rw [List.take_add_one, h]
  exact key _
theorem allN_get : ∀ {L : List T} {i : Nat} {s : T}, L[i]? = some s → noneB s = false → allN L = false
  | [], i, s, h, _ => by simp at h
  | t :: L, 0, s, h, hn => by
    simp at h
    subst h
    rw [allN, hn]
    rfl
  | t :: L, i + 1, s, h, hn => by
    rw [allN, allN_get (L := L) (i := i) (by simpa using h) hn, Bool.and_false]
end Go.Proofs.Ythcjfgfbeollpaa.P09
/- Plain (layer 8): the sets of a right expression are sets; its parts are right. -/
namespace Go.Proofs.Ythcjfgfbeollpaa.P08
open Go.Proofs.Ythcjfgfbeollpaa.P07
open Go.Proofs.Ythcjfgfbeollpaa.Sets (ST)

mutual
theorem RT_sok : ∀ (t : T) (d : Nat), RT d t → SOk t
  | .nd k s mn mx l, d, h => by
    have := h.bare
    rw [SOk]
    exact ⟨this.2.1, RL_sok l d k this.2.2⟩
theorem RL_sok : ∀ (l : List T) (d : Nat) (k : Int), RL d k l → SOkL l
  | [], d, k, h => by rw [SOkL]; trivial
  | t :: l, d, k, h => by
    obtain ⟨h1, h2⟩ := RL_cons h
    rw [SOkL]
    exact ⟨RT_sok t d (IS.rt (k := k) h1), RL_sok l d k h2⟩
end
theorem RL_get {d : Nat} {k : Int} : ∀ {L : List T} {i : Nat} {s : T}, RL d k L → L[i]? = some s → RT d s := fun hR h => sub_right hR _ (List.mem_of_getElem? h)
theorem RT.subs {d : Nat} {t : T} (h : RT d t) : RL d t.kind t.subs := by
  cases t
  exact h.bare.2.2
end Go.Proofs.Ythcjfgfbeollpaa.P08
/- Layer 9 (measure), plain. Part 2: the shortest and the longest length, and what bounds them. -/
namespace Go.Proofs.Ythcjfgfbeollpaa.P09
open Go.Proofs.Ythcjfgfbeollpaa.P07 Go.Proofs.Ythcjfgfbeollpaa.P08 Go.Proofs.Ythcjfgfbeollpaa.Bytes
open Go.Proofs.Ythcjfgfbeollpaa.Sets (ST)

mutual
/-- The shortest length; -1: none. -/
def leastI : T → Int
  | .nd k s mn mx l => if noneB (.nd k s mn mx l) = true then -1 else if k = 2 then 1 else if k = 3 then sumLe 0 l else if k = 4 then minLe (-1) l else if k = 5 ∧ 0 < mn then mn * headLe l else 0
def sumLe : Int → List T → Int
  | acc, [] => acc
  | acc, t :: l => sumLe (acc + leastI t) l
def minLe : Int → List T → Int
  | acc, [] => acc
  | acc, t :: l => minLe (if 0 ≤ leastI t ∧ (acc < 0 ∨ leastI t < acc) then leastI t else acc) l
def headLe : List T → Int
  | [] => 0
  | t :: _ => leastI t
end
mutual
/-- The longest length; -1: none, or there is no longest one. -/
def mostI : T → Int
  | .nd k s mn mx l => if noneB (.nd k s mn mx l) = true then -1 else if k = 2 then 1 else if k = 3 ∨ k = 4 then mostL k 0 l else if k = 5 then (if headN l = true ∨ mx = 0 then 0 else if headM l = 0 then 0 else if headM l < 0 ∨ mx < 0 then -1 else headM l * mx) else 0
def mostL : Int → Int → List T → Int
  | _, acc, [] => acc
  | k, acc, t :: l => if noneB t = true then mostL k acc l else if mostI t < 0 then -1 else mostL k (if k = 3 then acc + mostI t else max acc (mostI t)) l
def headM : List T → Int
  | [] => 0
  | t :: _ => mostI t
end
theorem leastI_eq (t : T) : leastI t = if noneB t = true then -1 else if t.kind = 2 then 1 else if t.kind = 3 then sumLe 0 t.subs else if t.kind = 4 then minLe (-1) t.subs else if t.kind = 5 ∧ 0 < t.mn then t.mn * headLe t.subs else 0 := by
  cases t
  rw [leastI]
  rfl
theorem mostI_eq (t : T) : mostI t = if noneB t = true then -1 else if t.kind = 2 then 1 else if t.kind = 3 ∨ t.kind = 4 then mostL t.kind 0 t.subs else if t.kind = 5 then (if headN t.subs = true ∨ t.mx = 0 then 0 else if headM t.subs = 0 then 0 else if headM t.subs < 0 ∨ t.mx < 0 then -1 else headM t.subs * t.mx) else 0 := by
  cases t
  rw [mostI]
  rfl

/-- A bound: ten times its nodes, twenty times as much for each bracket. -/
def bnd (d n : Nat) : Nat := 10 * 20 ^ d * n
theorem bnd_mono {d e n m : Nat} (h : d ≤ e) (h2 : n ≤ m) : bnd d n ≤ bnd e m := by
  unfold bnd
  exact Nat.mul_le_mul (Nat.mul_le_mul (Nat.le_refl 10) (Nat.pow_le_pow_right (by decide) h)) h2
theorem bnd_add (d n m : Nat) : bnd d n + bnd d m = bnd d (n + m) := by
  unfold bnd
  rw [Nat.mul_add]
theorem bnd_ge (d n : Nat) : 10 * n ≤ bnd d n := by
  unfold bnd
  have h : 1 ≤ 20 ^ d := Nat.pos_of_ne_zero (by simp)
  have := Nat.mul_le_mul_right n (Nat.mul_le_mul_left 10 h)
  omega
theorem bnd_succ (d n : Nat) : 20 * bnd d n = bnd (d + 1) n := by
  unfold bnd
  rw [Nat.pow_succ]
  rw [← Nat.mul_assoc, ← Nat.mul_assoc, ← Nat.mul_assoc]
  congr 1
  omega
theorem bnd_small {n : Nat} (h : n ≤ 200) : bnd 12 n ≤ 8192000000000000000 := by
  have := bnd_mono (Nat.le_refl 12) h
  have e : bnd 12 200 = 8192000000000000000 := by decide +kernel
  omega
/-- One repetition of what stands in it. -/
theorem rep_bnd {d : Nat} {a : T} (h : if rnd 5 a.kind then 1 ≤ d ∧ RT (d - 1) a else RT d a) {m x : Int} (h0 : 0 ≤ m) (hm : ∀ e, RT e a → m ≤ bnd e (cnt a)) (h1 : a.kind = 2 → m ≤ 1) (hx : x ≤ 20) : m * x ≤ bnd d (cnt a + 1) := by
  have h20 : m * x ≤ m * 20 := Int.mul_le_mul_of_nonneg_left hx h0
  cases e : rnd 5 a.kind with
  | true =>
    rw [e, if_pos rfl] at h
    obtain ⟨f, rfl⟩ : ∃ f, d = f + 1 := ⟨d - 1, by omega⟩
    have h2 := hm f h.2
    have h3 := bnd_succ f (cnt a)
    have h4 := bnd_mono (Nat.le_refl (f + 1)) (show cnt a ≤ cnt a + 1 by omega)
    omega
  | false =>
    have hk : a.kind = 2 := by unfold rnd at e; simp at e; exact e
    have h2 := h1 hk
    have h3 := bnd_ge d (cnt a + 1)
    have h4 : 1 ≤ cnt a := by rw [cnt_eq]; omega
    omega
theorem cnt_pos (t : T) : 1 ≤ cnt t := by rw [cnt_eq]; omega
theorem one_sub {k : Int} {s : ST} {mn mx : Int} {l : List T} {d : Nat} (h : RT d (.nd k s mn mx l)) (hk : k = 5) : ∃ a, l = [a] ∧ 0 ≤ mn ∧ mn ≤ 20 ∧ (mx = -1 ∨ mn ≤ mx ∧ mx ≤ 20) ∧ (if rnd 5 a.kind then 1 ≤ d ∧ RT (d - 1) a else RT d a) := by
  obtain ⟨hb, -, hl⟩ := h.bare
  subst hk
  unfold Bare at hb
  have hb5 : l.length = 1 ∧ 0 ≤ mn ∧ mn ≤ 20 ∧ (mx = -1 ∨ mn ≤ mx ∧ mx ≤ 20) := by omega
  match l, hb5.1, hl with
  | [a], _, hl => exact ⟨a, rfl, hb5.2.1, hb5.2.2.1, hb5.2.2.2, (RL_cons hl).1⟩

mutual
theorem least_bnd : ∀ (t : T) (d : Nat), RT d t → (noneB t = true → leastI t = -1) ∧ (noneB t = false → 0 ≤ leastI t) ∧ leastI t ≤ bnd d (cnt t)
  | .nd k s mn mx l, d, h => by
    obtain ⟨hb, -, hl⟩ := h.bare
    have hg := bnd_ge d (1 + cntL l)
    have hm := bnd_mono (Nat.le_refl d) (show cntL l ≤ 1 + cntL l by omega)
    rw [leastI, cnt]
    cases hn : noneB (.nd k s mn mx l) with
    | true =>
      rw [if_pos rfl]
      exact ⟨fun _ => rfl, (fun h => by cases h), by omega⟩
    | false =>
      rw [if_neg (by decide)]
      refine ⟨(fun h => by cases h), fun _ => ?_, ?_⟩
      all_goals
        rw [noneB] at hn
        by_cases h2 : k = 2
        · rw [if_pos h2]
          omega
        · rw [if_neg h2] at hn ⊢
          by_cases h3 : k = 3
          · rw [if_pos h3] at hn ⊢
            have := sum_bnd l d k hl hn 0 (by omega)
            omega
          · rw [if_neg h3] at hn ⊢
            by_cases h4 : k = 4
            · rw [if_pos h4] at hn ⊢
              have := min_bnd l d k hl (-1) (by omega) (bnd d (cntL l)) (by omega) (fun n hn => bnd_mono (Nat.le_refl d) hn)
              have h1 := this.2.1 (.inr hn)
              omega
            · rw [if_neg h4] at hn ⊢
              by_cases h5 : k = 5 ∧ 0 < mn
              · rw [if_pos h5]
                rw [if_pos h5.1] at hn
                obtain ⟨a, rfl, b0, b1, -, ha⟩ := one_sub h h5.1
                rw [headLe]
                rw [headN, decide_eq_true h5.2, Bool.true_and] at hn
                have h1 := fun e he => least_bnd a e he
                have hra : RT d a := IS.rt (k := 5) ha
                have h0 := (h1 d hra).2.1 hn
                have h9 := rep_bnd ha h0 (fun e he => (h1 e he).2.2) (fun hk => by rw [leastI_eq, hn, if_neg (by decide), if_pos hk]; omega) b1
                have ec : 1 + cntL [a] = cnt a + 1 := by rw [cntL, cntL]; omega
                try rw [ec]
                rw [Int.mul_comm]
                have h10 := Int.mul_nonneg h0 b0
                omega
              · rw [if_neg h5]
                omega
theorem sum_bnd : ∀ (l : List T) (d : Nat) (k : Int), RL d k l → anyN l = false → ∀ acc : Int, 0 ≤ acc → acc ≤ sumLe acc l ∧ sumLe acc l ≤ acc + bnd d (cntL l)
  | [], d, k, _, _, acc, h0 => by rw [sumLe]; omega
  | t :: l, d, k, h, hn, acc, h0 => by
    obtain ⟨h1, h2⟩ := RL_cons h
    rw [anyN, Bool.or_eq_false_iff] at hn
    rw [sumLe, cntL]
    have h3 := least_bnd t d (IS.rt (k := k) h1)
    have h4 := h3.2.1 hn.1
    have h5 := sum_bnd l d k h2 hn.2 (acc + leastI t) (by omega)
    have h6 := bnd_add d (cnt t) (cntL l)
    omega
theorem min_bnd : ∀ (l : List T) (d : Nat) (k : Int), RL d k l → ∀ acc : Int, -1 ≤ acc → ∀ B : Nat, acc ≤ B → (∀ n, n ≤ cntL l → bnd d n ≤ B) → -1 ≤ minLe acc l ∧ (0 ≤ acc ∨ allN l = false → 0 ≤ minLe acc l) ∧ minLe acc l ≤ B
  | [], d, k, _, acc, h0, B, hB, _ => by
    rw [minLe, allN]
    refine ⟨h0, fun h => ?_, hB⟩
    rcases h with h | h
    · exact h
    · cases h
  | t :: l, d, k, h, acc, h0, B, hB, hn => by
    obtain ⟨h1, h2⟩ := RL_cons h
    rw [minLe, allN]
    have h3 := least_bnd t d (IS.rt (k := k) h1)
    have h4 := hn (cnt t) (by rw [cntL]; omega)
    have h5 := min_bnd l d k h2 (if 0 ≤ leastI t ∧ (acc < 0 ∨ leastI t < acc) then leastI t else acc) (by split <;> omega) B (by split <;> omega) (fun n h => hn n (by rw [cntL]; omega))
    refine ⟨h5.1, fun h => h5.2.1 ?_, h5.2.2⟩
    rcases h with h | h
    · left
      split <;> omega
    · cases e : noneB t with
      | true =>
        rw [e, Bool.true_and] at h
        exact .inr h
      | false =>
        left
        have := h3.2.1 e
        split <;> omega
end
mutual
theorem most_bnd : ∀ (t : T) (d : Nat), RT d t → -1 ≤ mostI t ∧ mostI t ≤ bnd d (cnt t)
  | .nd k s mn mx l, d, h => by
    obtain ⟨hb, -, hl⟩ := h.bare
    have hg := bnd_ge d (1 + cntL l)
    have hm := bnd_mono (Nat.le_refl d) (show cntL l ≤ 1 + cntL l by omega)
    rw [mostI, cnt]
    split
    · omega
    · split
      · omega
      · split
        · have := mostL_bnd l d k hl 0 (by omega)
          omega
        · split
          · rename_i h5
            obtain ⟨a, rfl, b0, b1, bx, ha⟩ := one_sub h h5
            have ec : 1 + cntL [a] = cnt a + 1 := by rw [cntL, cntL]; omega
            rw [headM, headN, ec]
            rw [ec] at hg
            have h1 := fun e he => most_bnd a e he
            split
            · omega
            · split
              · omega
              · split
                · omega
                · rename_i hx
                  have h0 : 0 ≤ mostI a := by omega
                  have h9 := rep_bnd ha h0 (fun e he => (h1 e he).2) (fun hk => by rw [mostI_eq]; split <;> first | omega | (rw [if_pos hk]; omega)) (show mx ≤ 20 by omega)
                  have h10 := Int.mul_nonneg h0 (show 0 ≤ mx by omega)
                  omega
          · omega
theorem mostL_bnd : ∀ (l : List T) (d : Nat) (k : Int), RL d k l → ∀ acc : Int, 0 ≤ acc → -1 ≤ mostL k acc l ∧ mostL k acc l ≤ acc + bnd d (cntL l)
  | [], d, k, _, acc, h0 => by rw [mostL]; omega
  | t :: l, d, k, h, acc, h0 => by
    obtain ⟨h1, h2⟩ := RL_cons h
    rw [mostL, cntL]
    have h3 := most_bnd t d (IS.rt (k := k) h1)
    have h6 := bnd_add d (cnt t) (cntL l)
    split
    · have := mostL_bnd l d k h2 acc h0
      omega
    · split
      · omega
      · obtain ⟨X, hX⟩ : ∃ X, (if k = 3 then acc + mostI t else max acc (mostI t)) = X := ⟨_, rfl⟩
        rw [hX]
        have hx : 0 ≤ X ∧ X ≤ acc + mostI t := by
          rw [← hX]
          split <;> omega
        have := mostL_bnd l d k h2 X hx.1
        omega
end
end Go.Proofs.Ythcjfgfbeollpaa.P09
/- A node in a box of its own (layer 9): its cells, its parts' cells. -/
namespace Go.Proofs.Ythcjfgfbeollpaa.P09
open Go.RowKit Go.Proofs.Ythcjfgfbeollpaa.Base Go.Proofs.Ythcjfgfbeollpaa.Bytes Go.Proofs.Ythcjfgfbeollpaa.P07 Go.Proofs.Ythcjfgfbeollpaa.P08
open Go.Proofs.Ythcjfgfbeollpaa.Sets (ST)

structure Bx (W : World) (n : Nat) (t : T) (a : Option Addr) (c : Nat) : Prop where
  cell : At W n 27 (ncells t a c)
  lie : Lie W (fun _ => True) a t.subs
theorem Bx.keep {W W' : World} {n : Nat} {t : T} {a : Option Addr} {c : Nat} (h : Bx W n t a c) (q : Keep (fun _ => False) W W') : Bx W' n t a c := ⟨h.cell.keep q (fun h => h), h.lie.keepF q⟩
theorem Bx.new {W : World} {t : T} {a : Option Addr} {c : Nat} (hL : Lie W (fun _ => True) a t.subs) : Bx (W.alloc (.cells (ncells t a c) 27)) W.heap.size t a c :=
  ⟨At.new W _ _, hL.keepF ((Keep.refl (fun _ => False) W).alloc _)⟩
theorem Bx.eight {W : World} {n : Nat} {t : T} {a : Option Addr} {c : Nat} (h : Bx W n t a c) :
    W.cell? ⟨n, 0, none⟩ = some (.int .i64 t.kind) ∧ W.cell? ⟨n, 1, none⟩ = some (.int .u64 t.set.x0) ∧ W.cell? ⟨n, 2, none⟩ = some (.int .u64 t.set.x1) ∧ W.cell? ⟨n, 3, none⟩ = some (.int .u64 t.set.x2) ∧ W.cell? ⟨n, 4, none⟩ = some (.int .u64 t.set.x3) ∧ W.cell? ⟨n, 5, none⟩ = some (.int .i64 t.mn) ∧ W.cell? ⟨n, 6, none⟩ = some (.int .i64 t.mx) ∧ W.cell? ⟨n, 7, none⟩ = some (.slice a t.subs.length c) :=
  ⟨h.cell.cell (o := 0) rfl, h.cell.cell (o := 1) rfl, h.cell.cell (o := 2) rfl, h.cell.cell (o := 3) rfl, h.cell.cell (o := 4) rfl, h.cell.cell (o := 5) rfl, h.cell.cell (o := 6) rfl, h.cell.cell (o := 7) rfl⟩
/-- The k-th part. -/
theorem Bx.sub {W : World} {n : Nat} {t : T} {a : Option Addr} {c : Nat} (h : Bx W n t a c) {k : Nat} {s : T} (hs : t.subs[k]? = some s) :
    ∃ bl off a1 e1, a = some ⟨bl, off, none⟩ ∧ Lie W (fun _ => True) a1 s.subs ∧ W.cell? ⟨bl, off + k * 8, none⟩ = some (.int .i64 s.kind) ∧ W.cell? ⟨bl, off + k * 8 + 1, none⟩ = some (.int .u64 s.set.x0) ∧ W.cell? ⟨bl, off + k * 8 + 2, none⟩ = some (.int .u64 s.set.x1) ∧ W.cell? ⟨bl, off + k * 8 + 3, none⟩ = some (.int .u64 s.set.x2) ∧ W.cell? ⟨bl, off + k * 8 + 4, none⟩ = some (.int .u64 s.set.x3) ∧ W.cell? ⟨bl, off + k * 8 + 5, none⟩ = some (.int .i64 s.mn) ∧ W.cell? ⟨bl, off + k * 8 + 6, none⟩ = some (.int .i64 s.mx) ∧ W.cell? ⟨bl, off + k * 8 + 7, none⟩ = some (.slice a1 s.subs.length e1) := by
  obtain ⟨bl, off, a1, e1, rfl, -, hbl, -, L1, C1⟩ := h.lie.get hs
  exact ⟨bl, off, a1, e1, rfl, L1, (show NodeP W bl (off + k * 8) s a1 e1 from ⟨hbl, C1⟩).eight⟩
/-- The first part, at its address. -/
theorem Bx.first {W : World} {n : Nat} {t : T} {a : Option Addr} {c : Nat} (h : Bx W n t a c) {s : T} (hs : t.subs[0]? = some s) :
    ∃ bl off a1 e1, a = some ⟨bl, off, none⟩ ∧ Lie W (fun _ => True) a1 s.subs ∧ W.cell? ⟨bl, off, none⟩ = some (.int .i64 s.kind) ∧ W.cell? ⟨bl, off + 1, none⟩ = some (.int .u64 s.set.x0) ∧ W.cell? ⟨bl, off + 2, none⟩ = some (.int .u64 s.set.x1) ∧ W.cell? ⟨bl, off + 3, none⟩ = some (.int .u64 s.set.x2) ∧ W.cell? ⟨bl, off + 4, none⟩ = some (.int .u64 s.set.x3) ∧ W.cell? ⟨bl, off + 5, none⟩ = some (.int .i64 s.mn) ∧ W.cell? ⟨bl, off + 6, none⟩ = some (.int .i64 s.mx) ∧ W.cell? ⟨bl, off + 7, none⟩ = some (.slice a1 s.subs.length e1) := by
  obtain ⟨bl, off, a1, e1, h1, h2, h3⟩ := h.sub hs
  rw [Nat.zero_mul, Nat.add_zero] at h3
  exact ⟨bl, off, a1, e1, h1, h2, h3⟩
theorem cntL_pre (L : List T) (i : Nat) : cntL (L.take i) ≤ cntL L := by
  have := cntL_append (L.take i) (L.drop i)
  rw [List.take_append_drop] at this
  omega
end Go.Proofs.Ythcjfgfbeollpaa.P09
