/- Layer 9 (measure), plain. Part 1: how wide, nothing, the shortest and the longest length, as the document counts them; and what bounds them. -/
import Derived.Test.YtmohpjpodkbgkaaKK25
import Derived.Test.YtmohpjpodkbgkaaKK26
import Derived.Lib.AppendZeros
import Derived.Maps.AppendAt
namespace Go.Proofs.Ytmohpjpodkbgkaa.P09
open Go.Proofs.Ytmohpjpodkbgkaa.P07 Go.Proofs.Ytmohpjpodkbgkaa.P08 Go.Proofs.Ytmohpjpodkbgkaa.Bytes
open Go.Proofs.Ytmohpjpodkbgkaa.Sets (ST)

/-- How wide one part makes it. -/
def wstep (k mn mx : Int) (w : Int) : Int := if k = 5 ∧ mx = -1 then w * (mn + 1) + 1 else if k = 5 then (w + 2) * mx else w
mutual
/-- How wide. -/
def wd : T → Int
  | .nd k _ mn mx l => wdL k mn mx 1 l
def wdL : Int → Int → Int → Int → List T → Int
  | _, _, _, acc, [] => acc
  | k, mn, mx, acc, t :: l => wdL k mn mx (min (acc + wstep k mn mx (wd t)) 1073741824) l
end
theorem wd_eq (t : T) : wd t = wdL t.kind t.mn t.mx 1 t.subs := by
  cases t
  rw [wd]
  rfl
theorem wdL_append (k mn mx : Int) : ∀ (L : List T) (acc : Int) (t : T), wdL k mn mx acc (L ++ [t]) = min (wdL k mn mx acc L + wstep k mn mx (wd t)) 1073741824
  | [], acc, t => by rw [List.nil_append, wdL, wdL, wdL]
  | s :: L, acc, t => by rw [List.cons_append, wdL, wdL, wdL_append k mn mx L]
theorem wstep_ge {k mn mx w : Int} (hw : 0 ≤ w) (hmn : 0 ≤ mn) (hmx : -1 ≤ mx) : 0 ≤ wstep k mn mx w := by
  unfold wstep
  split
  · have := Int.mul_nonneg hw (show (0 : Int) ≤ mn + 1 by omega)
    omega
  · rename_i h
    split
    · rename_i h5
      have : mx ≠ -1 := fun e => h ⟨h5, e⟩
      exact Int.mul_nonneg (by omega) (by omega)
    · exact hw
theorem wstep_le {k mn mx w : Int} (h0 : 0 ≤ w) (hw : w ≤ 1073741824) (hmn : 0 ≤ mn) (h20 : mn ≤ 20) (hx20 : mx ≤ 20) : wstep k mn mx w ≤ 30000000000 := by
  unfold wstep
  split
  · have := Int.mul_le_mul_of_nonneg_left (show mn + 1 ≤ 21 by omega) h0
    omega
  · split
    · have := Int.mul_le_mul_of_nonneg_left hx20 (show (0 : Int) ≤ w + 2 by omega)
      omega
    · omega

mutual
/-- Does it match nothing? -/
def noneB : T → Bool
  | .nd k s mn _ l => if k = 2 then eqB s ST.none else if k = 3 then anyN l else if k = 4 then allN l else if k = 5 then decide (0 < mn) && headN l else false
def anyN : List T → Bool
  | [] => false
  | t :: l => noneB t || anyN l
def allN : List T → Bool
  | [] => true
  | t :: l => noneB t && allN l
def headN : List T → Bool
  | [] => false
  | t :: _ => noneB t
end
theorem noneB_eq (t : T) : noneB t = if t.kind = 2 then eqB t.set ST.none else if t.kind = 3 then anyN t.subs else if t.kind = 4 then allN t.subs else if t.kind = 5 then decide (0 < t.mn) && headN t.subs else false := by
  cases t
  rw [noneB]
  rfl
theorem anyN_take {L : List T} {i : Nat} {s : T} (h : L[i]? = some s) : anyN (L.take (i + 1)) = (anyN (L.take i) || noneB s) := by
  have key : ∀ M : List T, anyN (M ++ [s]) = (anyN M || noneB s) := fun M => by
    induction M with
    | nil => rw [List.nil_append, anyN, anyN, anyN]; simp
    | cons t M ih => rw [List.cons_append, anyN, anyN, ih, Bool.or_assoc]
  rw [List.take_add_one, h]
  exact key _
theorem anyN_get : ∀ {L : List T} {i : Nat} {s : T}, L[i]? = some s → noneB s = true → anyN L = true
  | [], i, s, h, _ => by simp at h
  | t :: L, 0, s, h, hn => by
    simp at h
    subst h
    rw [anyN, hn]
    rfl
  | t :: L, i + 1, s, h, hn => by
    rw [anyN, anyN_get (L := L) (i := i) (by simpa using h) hn, Bool.or_true]
theorem allN_take {L : List T} {i : Nat} {s : T} (h : L[i]? = some s) : allN (L.take (i + 1)) = (allN (L.take i) && noneB s) := by
  have key : ∀ M : List T, allN (M ++ [s]) = (allN M && noneB s) := fun M => by
    induction M with
    | nil => rw [List.nil_append, allN, allN, allN]; simp
    | cons t M ih => rw [List.cons_append, allN, allN, ih, Bool.and_assoc]
  rw [List.take_add_one, h]
  exact key _
theorem allN_get : ∀ {L : List T} {i : Nat} {s : T}, L[i]? = some s → noneB s = false → allN L = false
  | [], i, s, h, _ => by simp at h
  | t :: L, 0, s, h, hn => by
    simp at h
    subst h
    rw [allN, hn]
    rfl
  | t :: L, i + 1, s, h, hn => by
    rw [allN, allN_get (L := L) (i := i) (by simpa using h) hn, Bool.and_false]
end Go.Proofs.Ytmohpjpodkbgkaa.P09
/- Plain (layer 8): the sets of a right expression are sets; its parts are right. -/
namespace Go.Proofs.Ytmohpjpodkbgkaa.P08
open Go.Proofs.Ytmohpjpodkbgkaa.P07
open Go.Proofs.Ytmohpjpodkbgkaa.Sets (ST)

mutual
theorem RT_sok : ∀ (t : T) (d : Nat), RT d t → SOk t
  | .nd k s mn mx l, d, h => by
    have := h.bare
    rw [SOk]
    exact ⟨this.2.1, RL_sok l d k this.2.2⟩
theorem RL_sok : ∀ (l : List T) (d : Nat) (k : Int), RL d k l → SOkL l
  | [], d, k, h => by rw [SOkL]; trivial
  | t :: l, d, k, h => by
    obtain ⟨h1, h2⟩ := RL_cons h
    rw [SOkL]
    exact ⟨RT_sok t d (IS.rt (k := k) h1), RL_sok l d k h2⟩
end
theorem RL_get {d : Nat} {k : Int} : ∀ {L : List T} {i : Nat} {s : T}, RL d k L → L[i]? = some s → RT d s := fun hR h => sub_right hR _ (List.mem_of_getElem? h)
theorem RT.subs {d : Nat} {t : T} (h : RT d t) : RL d t.kind t.subs := by
  cases t
  exact h.bare.2.2
end Go.Proofs.Ytmohpjpodkbgkaa.P08
/- Layer 9 (measure), plain. Part 2: the shortest and the longest length, and what bounds them. -/
namespace Go.Proofs.Ytmohpjpodkbgkaa.P09
open Go.Proofs.Ytmohpjpodkbgkaa.P07 Go.Proofs.Ytmohpjpodkbgkaa.P08 Go.Proofs.Ytmohpjpodkbgkaa.Bytes
open Go.Proofs.Ytmohpjpodkbgkaa.Sets (ST)

mutual
/-- The shortest length; -1: none. -/
def leastI : T → Int
  | .nd k s mn mx l => if noneB (.nd k s mn mx l) = true then -1 else if k = 2 then 1 else if k = 3 then sumLe 0 l else if k = 4 then minLe (-1) l else if k = 5 ∧ 0 < mn then mn * headLe l else 0
def sumLe : Int → List T → Int
  | acc, [] => acc
  | acc, t :: l => sumLe (acc + leastI t) l
def minLe : Int → List T → Int
  | acc, [] => acc
  | acc, t :: l => minLe (if 0 ≤ leastI t ∧ (acc < 0 ∨ leastI t < acc) then leastI t else acc) l
def headLe : List T → Int
  | [] => 0
  | t :: _ => leastI t
end
mutual
/-- The longest length; -1: none, or there is no longest one. -/
def mostI : T → Int
  | .nd k s mn mx l => if noneB (.nd k s mn mx l) = true then -1 else if k = 2 then 1 else if k = 3 ∨ k = 4 then mostL k 0 l else if k = 5 then (if headN l = true ∨ mx = 0 then 0 else if headM l = 0 then 0 else if headM l < 0 ∨ mx < 0 then -1 else headM l * mx) else 0
def mostL : Int → Int → List T → Int
  | _, acc, [] => acc
  | k, acc, t :: l => if noneB t = true then mostL k acc l else if mostI t < 0 then -1 else mostL k (if k = 3 then acc + mostI t else max acc (mostI t)) l
def headM : List T → Int
  | [] => 0
  | t :: _ => mostI t
end
theorem leastI_eq (t : T) : leastI t = if noneB t = true then -1 else if t.kind = 2 then 1 else if t.kind = 3 then sumLe 0 t.subs else if t.kind = 4 then minLe (-1) t.subs else if t.kind = 5 ∧ 0 < t.mn then t.mn * headLe t.subs else 0 := by
  cases t
  rw [leastI]
  rfl
theorem mostI_eq (t : T) : mostI t = if noneB t = true then -1 else if t.kind = 2 then 1 else if t.kind = 3 ∨ t.kind = 4 then mostL t.kind 0 t.subs else if t.kind = 5 then (if headN t.subs = true ∨ t.mx = 0 then 0 else if headM t.subs = 0 then 0 else if headM t.subs < 0 ∨ t.mx < 0 then -1 else headM t.subs * t.mx) else 0 := by
  cases t
  rw [mostI]
  rfl

/-- A bound: ten times its nodes, twenty times as much for each bracket. -/
def bnd (d n : Nat) : Nat := 10 * 20 ^ d * n
theorem bnd_mono {d e n m : Nat} (h : d ≤ e) (h2 : n ≤ m) : bnd d n ≤ bnd e m := by
  unfold bnd
  exact Nat.mul_le_mul (Nat.mul_le_mul (Nat.le_refl 10) (Nat.pow_le_pow_right (by decide) h)) h2
theorem bnd_add (d n m : Nat) : bnd d n + bnd d m = bnd d (n + m) := by
  unfold bnd
  rw [Nat.mul_add]
theorem bnd_ge (d n : Nat) : 10 * n ≤ bnd d n := by
  unfold bnd
  have h : 1 ≤ 20 ^ d := Nat.pos_of_ne_zero (by simp)
  have := Nat.mul_le_mul_right n (Nat.mul_le_mul_left 10 h)
  omega
theorem bnd_succ (d n : Nat) : 20 * bnd d n = bnd (d + 1) n := by
  unfold bnd
  rw [Nat.pow_succ]
  rw [← Nat.mul_assoc, ← Nat.mul_assoc, ← Nat.mul_assoc]
  congr 1
  omega
theorem bnd_small {n : Nat} (h : n ≤ 200) : bnd 12 n ≤ 8192000000000000000 := by
  have := bnd_mono (Nat.le_refl 12) h
  have e : bnd 12 200 = 8192000000000000000 := by decide +kernel
  omega
/-- One repetition of what stands in it. -/
theorem rep_bnd {d : Nat} {a : T} (h : if rnd 5 a.kind then 1 ≤ d ∧ RT (d - 1) a else RT d a) {m x : Int} (h0 : 0 ≤ m) (hm : ∀ e, RT e a → m ≤ bnd e (cnt a)) (h1 : a.kind = 2 → m ≤ 1) (hx : x ≤ 20) : m * x ≤ bnd d (cnt a + 1) := by
  have h20 : m * x ≤ m * 20 := Int.mul_le_mul_of_nonneg_left hx h0
  cases e : rnd 5 a.kind with
  | true =>
    rw [e, if_pos rfl] at h
    obtain ⟨f, rfl⟩ : ∃ f, d = f + 1 := ⟨d - 1, by omega⟩
    have h2 := hm f h.2
    have h3 := bnd_succ f (cnt a)
    have h4 := bnd_mono (Nat.le_refl (f + 1)) (show cnt a ≤ cnt a + 1 by omega)
    omega
  | false =>
    have hk : a.kind = 2 := by unfold rnd at e; simp at e; exact e
    have h2 := h1 hk
    have h3 := bnd_ge d (cnt a + 1)
    have h4 : 1 ≤ cnt a := by rw [cnt_eq]; omega
    omega
theorem cnt_pos (t : T) : 1 ≤ cnt t := by rw [cnt_eq]; omega
theorem one_sub {k : Int} {s : ST} {mn mx : Int} {l : List T} {d : Nat} (h : RT d (.nd k s mn mx l)) (hk : k = 5) : ∃ a, l = [a] ∧ 0 ≤ mn ∧ mn ≤ 20 ∧ (mx = -1 ∨ mn ≤ mx ∧ mx ≤ 20) ∧ (if rnd 5 a.kind then 1 ≤ d ∧ RT (d - 1) a else RT d a) := by
  obtain ⟨hb, -, hl⟩ := h.bare
  subst hk
  unfold Bare at hb
  have hb5 : l.length = 1 ∧ 0 ≤ mn ∧ mn ≤ 20 ∧ (mx = -1 ∨ mn ≤ mx ∧ mx ≤ 20) := by omega
  match l, hb5.1, hl with
  | [a], _, hl => exact ⟨a, rfl, hb5.2.1, hb5.2.2.1, hb5.2.2.2, (RL_cons hl).1⟩

mutual
theorem least_bnd : ∀ (t : T) (d : Nat), RT d t → (noneB t = true → leastI t = -1) ∧ (noneB t = false → 0 ≤ leastI t) ∧ leastI t ≤ bnd d (cnt t)
  | .nd k s mn mx l, d, h => by
    obtain ⟨hb, -, hl⟩ := h.bare
    have hg := bnd_ge d (1 + cntL l)
    have hm := bnd_mono (Nat.le_refl d) (show cntL l ≤ 1 + cntL l by omega)
    rw [leastI, cnt]
    cases hn : noneB (.nd k s mn mx l) with
    | true =>
      rw [if_pos rfl]
      exact ⟨fun _ => rfl, (fun h => by cases h), by omega⟩
    | false =>
      rw [if_neg (by decide)]
      refine ⟨(fun h => by cases h), fun _ => ?_, ?_⟩
      all_goals
        rw [noneB] at hn
        by_cases h2 : k = 2
        · rw [if_pos h2]
          omega
        · rw [if_neg h2] at hn ⊢
          by_cases h3 : k = 3
          · rw [if_pos h3] at hn ⊢
            have := sum_bnd l d k hl hn 0 (by omega)
            omega
          · rw [if_neg h3] at hn ⊢
            by_cases h4 : k = 4
            · rw [if_pos h4] at hn ⊢
              have := min_bnd l d k hl (-1) (by omega) (bnd d (cntL l)) (by omega) (fun n hn => bnd_mono (Nat.le_refl d) hn)
              have h1 := this.2.1 (.inr hn)
              omega
            · rw [if_neg h4] at hn ⊢
              by_cases h5 : k = 5 ∧ 0 < mn
              · rw [if_pos h5]
                rw [if_pos h5.1] at hn
                obtain ⟨a, rfl, b0, b1, -, ha⟩ := one_sub h h5.1
                rw [headLe]
                rw [headN, decide_eq_true h5.2, Bool.true_and] at hn
                have h1 := fun e he => least_bnd a e he
                have hra : RT d a := IS.rt (k := 5) ha
                have h0 := (h1 d hra).2.1 hn
                have h9 := rep_bnd ha h0 (fun e he => (h1 e he).2.2) (fun hk => by rw [leastI_eq, hn, if_neg (by decide), if_pos hk]; omega) b1
                have ec : 1 + cntL [a] = cnt a + 1 := by rw [cntL, cntL]; omega
                try rw [ec]
                rw [Int.mul_comm]
                have h10 := Int.mul_nonneg h0 b0
                omega
              · rw [if_neg h5]
                omega
theorem sum_bnd : ∀ (l : List T) (d : Nat) (k : Int), RL d k l → anyN l = false → ∀ acc : Int, 0 ≤ acc → acc ≤ sumLe acc l ∧ sumLe acc l ≤ acc + bnd d (cntL l)
  | [], d, k, _, _, acc, h0 => by rw [sumLe]; omega
  | t :: l, d, k, h, hn, acc, h0 => by
    obtain ⟨h1, h2⟩ := RL_cons h
    rw [anyN, Bool.or_eq_false_iff] at hn
    rw [sumLe, cntL]
    have h3 := least_bnd t d (IS.rt (k := k) h1)
    have h4 := h3.2.1 hn.1
    have h5 := sum_bnd l d k h2 hn.2 (acc + leastI t) (by omega)
    have h6 := bnd_add d (cnt t) (cntL l)
    omega
theorem min_bnd : ∀ (l : List T) (d : Nat) (k : Int), RL d k l → ∀ acc : Int, -1 ≤ acc → ∀ B : Nat, acc ≤ B → (∀ n, n ≤ cntL l → bnd d n ≤ B) → -1 ≤ minLe acc l ∧ (0 ≤ acc ∨ allN l = false → 0 ≤ minLe acc l) ∧ minLe acc l ≤ B
  | [], d, k, _, acc, h0, B, hB, _ => by
    rw [minLe, allN]
    refine ⟨h0, fun h => ?_, hB⟩
    rcases h with h | h
    · exact h
    · cases h
  | t :: l, d, k, h, acc, h0, B, hB, hn => by
    obtain ⟨h1, h2⟩ := RL_cons h
    rw [minLe, allN]
    have h3 := least_bnd t d (IS.rt (k := k) h1)
    have h4 := hn (cnt t) (by rw [cntL]; omega)
    have h5 := min_bnd l d k h2 (if 0 ≤ leastI t ∧ (acc < 0 ∨ leastI t < acc) then leastI t else acc) (by split <;> omega) B (by split <;> omega) (fun n h => hn n (by rw [cntL]; omega))
    refine ⟨h5.1, fun h => h5.2.1 ?_, h5.2.2⟩
    rcases h with h | h
    · left
      split <;> omega
    · cases e : noneB t with
      | true =>
        rw [e, Bool.true_and] at h
        exact .inr h
      | false =>
        left
        have := h3.2.1 e
        split <;> omega
end
mutual
theorem most_bnd : ∀ (t : T) (d : Nat), RT d t → -1 ≤ mostI t ∧ mostI t ≤ bnd d (cnt t)
  | .nd k s mn mx l, d, h => by
    obtain ⟨hb, -, hl⟩ := h.bare
    have hg := bnd_ge d (1 + cntL l)
    have hm := bnd_mono (Nat.le_refl d) (show cntL l ≤ 1 + cntL l by omega)
    rw [mostI, cnt]
    split
    · omega
    · split
      · omega
      · split
        · have := mostL_bnd l d k hl 0 (by omega)
          omega
        · split
          · rename_i h5
            obtain ⟨a, rfl, b0, b1, bx, ha⟩ := one_sub h h5
            have ec : 1 + cntL [a] = cnt a + 1 := by rw [cntL, cntL]; omega
            rw [headM, headN, ec]
            rw [ec] at hg
            have h1 := fun e he => most_bnd a e he
            split
            · omega
            · split
              · omega
              · split
                · omega
                · rename_i hx
                  have h0 : 0 ≤ mostI a := by omega
                  have h9 := rep_bnd ha h0 (fun e he => (h1 e he).2) (fun hk => by rw [mostI_eq]; split <;> first | omega | (rw [if_pos hk]; omega)) (show mx ≤ 20 by omega)
                  have h10 := Int.mul_nonneg h0 (show 0 ≤ mx by omega)
                  omega
          · omega
theorem mostL_bnd : ∀ (l : List T) (d : Nat) (k : Int), RL d k l → ∀ acc : Int, 0 ≤ acc → -1 ≤ mostL k acc l ∧ mostL k acc l ≤ acc + bnd d (cntL l)
  | [], d, k, _, acc, h0 => by rw [mostL]; omega
  | t :: l, d, k, h, acc, h0 => by
    obtain ⟨h1, h2⟩ := RL_cons h
    rw [mostL, cntL]
    have h3 := most_bnd t d (IS.rt (k := k) h1)
    have h6 := bnd_add d (cnt t) (cntL l)
    split
    · have := mostL_bnd l d k h2 acc h0
      omega
    · split
      · omega
      · obtain ⟨X, hX⟩ : ∃ X, (if k = 3 then acc + mostI t else max acc (mostI t)) = X := ⟨_, rfl⟩
        rw [hX]
        have hx : 0 ≤ X ∧ X ≤ acc + mostI t := by
          rw [← hX]
          split <;> omega
        have := mostL_bnd l d k h2 X hx.1
        omega
end
end Go.Proofs.Ytmohpjpodkbgkaa.P09
/- A node in a box of its own (layer 9): its cells, its parts' cells. -/
namespace Go.Proofs.Ytmohpjpodkbgkaa.P09
open Go.RowKit Go.Proofs.Ytmohpjpodkbgkaa.Base Go.Proofs.Ytmohpjpodkbgkaa.Bytes Go.Proofs.Ytmohpjpodkbgkaa.P07 Go.Proofs.Ytmohpjpodkbgkaa.P08
open Go.Proofs.Ytmohpjpodkbgkaa.Sets (ST)

structure Bx (W : World) (n : Nat) (t : T) (a : Option Addr) (c : Nat) : Prop where
  cell : At W n 27 (ncells t a c)
  lie : Lie W (fun _ => True) a t.subs
theorem Bx.keep {W W' : World} {n : Nat} {t : T} {a : Option Addr} {c : Nat} (h : Bx W n t a c) (q : Keep (fun _ => False) W W') : Bx W' n t a c := ⟨h.cell.keep q (fun h => h), h.lie.keepF q⟩
theorem Bx.new {W : World} {t : T} {a : Option Addr} {c : Nat} (hL : Lie W (fun _ => True) a t.subs) : Bx (W.alloc (.cells (ncells t a c) 27)) W.heap.size t a c :=
  ⟨At.new W _ _, hL.keepF ((Keep.refl (fun _ => False) W).alloc _)⟩
theorem Bx.eight {W : World} {n : Nat} {t : T} {a : Option Addr} {c : Nat} (h : Bx W n t a c) :
    W.cell? ⟨n, 0, none⟩ = some (.int .i64 t.kind) ∧ W.cell? ⟨n, 1, none⟩ = some (.int .u64 t.set.x0) ∧ W.cell? ⟨n, 2, none⟩ = some (.int .u64 t.set.x1) ∧ W.cell? ⟨n, 3, none⟩ = some (.int .u64 t.set.x2) ∧ W.cell? ⟨n, 4, none⟩ = some (.int .u64 t.set.x3) ∧ W.cell? ⟨n, 5, none⟩ = some (.int .i64 t.mn) ∧ W.cell? ⟨n, 6, none⟩ = some (.int .i64 t.mx) ∧ W.cell? ⟨n, 7, none⟩ = some (.slice a t.subs.length c) :=
  ⟨h.cell.cell (o := 0) rfl, h.cell.cell (o := 1) rfl, h.cell.cell (o := 2) rfl, h.cell.cell (o := 3) rfl, h.cell.cell (o := 4) rfl, h.cell.cell (o := 5) rfl, h.cell.cell (o := 6) rfl, h.cell.cell (o := 7) rfl⟩
/-- The k-th part. -/
theorem Bx.sub {W : World} {n : Nat} {t : T} {a : Option Addr} {c : Nat} (h : Bx W n t a c) {k : Nat} {s : T} (hs : t.subs[k]? = some s) :
    ∃ bl off a1 e1, a = some ⟨bl, off, none⟩ ∧ Lie W (fun _ => True) a1 s.subs ∧ W.cell? ⟨bl, off + k * 8, none⟩ = some (.int .i64 s.kind) ∧ W.cell? ⟨bl, off + k * 8 + 1, none⟩ = some (.int .u64 s.set.x0) ∧ W.cell? ⟨bl, off + k * 8 + 2, none⟩ = some (.int .u64 s.set.x1) ∧ W.cell? ⟨bl, off + k * 8 + 3, none⟩ = some (.int .u64 s.set.x2) ∧ W.cell? ⟨bl, off + k * 8 + 4, none⟩ = some (.int .u64 s.set.x3) ∧ W.cell? ⟨bl, off + k * 8 + 5, none⟩ = some (.int .i64 s.mn) ∧ W.cell? ⟨bl, off + k * 8 + 6, none⟩ = some (.int .i64 s.mx) ∧ W.cell? ⟨bl, off + k * 8 + 7, none⟩ = some (.slice a1 s.subs.length e1) := by
  obtain ⟨bl, off, a1, e1, rfl, -, hbl, -, L1, C1⟩ := h.lie.get hs
  exact ⟨bl, off, a1, e1, rfl, L1, (show NodeP W bl (off + k * 8) s a1 e1 from ⟨hbl, C1⟩).eight⟩
/-- The first part, at its address. -/
theorem Bx.first {W : World} {n : Nat} {t : T} {a : Option Addr} {c : Nat} (h : Bx W n t a c) {s : T} (hs : t.subs[0]? = some s) :
    ∃ bl off a1 e1, a = some ⟨bl, off, none⟩ ∧ Lie W (fun _ => True) a1 s.subs ∧ W.cell? ⟨bl, off, none⟩ = some (.int .i64 s.kind) ∧ W.cell? ⟨bl, off + 1, none⟩ = some (.int .u64 s.set.x0) ∧ W.cell? ⟨bl, off + 2, none⟩ = some (.int .u64 s.set.x1) ∧ W.cell? ⟨bl, off + 3, none⟩ = some (.int .u64 s.set.x2) ∧ W.cell? ⟨bl, off + 4, none⟩ = some (.int .u64 s.set.x3) ∧ W.cell? ⟨bl, off + 5, none⟩ = some (.int .i64 s.mn) ∧ W.cell? ⟨bl, off + 6, none⟩ = some (.int .i64 s.mx) ∧ W.cell? ⟨bl, off + 7, none⟩ = some (.slice a1 s.subs.length e1) := by
  obtain ⟨bl, off, a1, e1, h1, h2, h3⟩ := h.sub hs
  rw [Nat.zero_mul, Nat.add_zero] at h3
  exact ⟨bl, off, a1, e1, h1, h2, h3⟩
theorem cntL_take {L : List T} {i : Nat} {s : T} (h : L[i]? = some s) : cntL (L.take (i + 1)) = cntL (L.take i) + cnt s := by
  rw [List.take_add_one, h]
  show cntL (L.take i ++ [s]) = _
  rw [cntL_append, cntL, cntL]
  omega
theorem cntL_pre (L : List T) (i : Nat) : cntL (L.take i) ≤ cntL L := by
  have := cntL_append (L.take i) (L.drop i)
  rw [List.take_append_drop] at this
  omega
end Go.Proofs.Ytmohpjpodkbgkaa.P09
/- The document's Size and Wide (layer 9). -/
namespace Go.Proofs.Ytmohpjpodkbgkaa.P09
open Go.RowKit Go.Proofs.Ytmohpjpodkbgkaa.Base Go.Proofs.Ytmohpjpodkbgkaa.Bytes Go.Proofs.Ytmohpjpodkbgkaa.P07 Go.Proofs.Ytmohpjpodkbgkaa.P08
open Go.Proofs.Ytmohpjpodkbgkaa.Sets (ST)

set_option maxRecDepth 100000 in
set_option maxHeartbeats 2000000 in
theorem fsize_all : ∀ (n : Nat) (t : T), SizeOf.sizeOf t < n → cnt t ≤ 1000000000 → ∀ (a : Option Addr) (c : Nat) (w : World), Lie w (fun _ => True) a t.subs →
    Calls Try.prog 13 #[nodeV t a c] w fun e w' => e = .returned (.int .i64 (cnt t)) ∧ Keep (fun _ => False) w w'
  | 0, _, h, _, _, _, _, _ => absurd h (Nat.not_lt_zero _)
  | n + 1, t, h, hc, a, c, w, hL => by
    have hlen := hL.len
    have H0 := Lib.hid (And.intro ((Keep.refl (fun _ => False) w).alloc (.cells (ncells t a c) 27)) (And.intro (Bx.new (c := c) hL) (fsize_all n)))
    have e : cnt t = 1 + cntL t.subs := cnt_eq t
    obtain ⟨C, hC⟩ : ∃ C, cnt t = C := ⟨_, rfl⟩
    rw [hC] at e hc ⊢
    have HE := Lib.hid (And.intro e (cntL_pre t.subs))
    have HN := Lib.hid h
    clear hL e hC h
    go_enter Try.func13, Try.ntmps13
    go_upto_region 1 with fail
    generalize (w.alloc (.cells (ncells t a c) 27)) = W at *
    generalize w.heap.size = n0 at *
    go_wp2_with fail
    go_loopg [3, 4] t.subs.length (fun gg m i wr => ∃ (k : Nat) (M : Nat), i = .int .i64 k ∧ k + gg = t.subs.length ∧ m = .int .i64 M ∧ M = 1 + cntL (t.subs.take k) ∧ Keep (fun _ => False) W wr)
    case atStart => exact ⟨0, 1, rfl, by omega, rfl, by rw [List.take_zero, cntL], Keep.refl _ _⟩
    case round =>
      obtain ⟨k, M, rfl, hk, rfl, hM, hq⟩ := hrel
      have B1 := H0.out.2.1.keep hq
      obtain ⟨-, -, -, -, -, -, -, c7⟩ := B1.eight
      by_cases hlt : k < t.subs.length
      · have hlt' : (k : Int) < t.subs.length := by omega
        have i0 : (0 : Int) ≤ k := by omega
        obtain ⟨s, hs⟩ : ∃ s, t.subs[k]? = some s := ⟨t.subs[k], List.getElem?_eq_getElem hlt⟩
        obtain ⟨bl, off, a1, e1, rfl, L1, d0, d1, d2, d3, d4, d5, d6, d7⟩ := B1.sub hs
        have hsl := sub_less hs
        have hcs := cntL_le hs
        have ht := cntL_take hs
        have hpre := HE.out.2 (k + 1)
        have he := HE.out.1
        have hcall := H0.out.2.2 s (by have := HN.out; omega) (by omega) a1 e1 wr L1
        obtain ⟨Y, hY⟩ : ∃ Y, cnt s = Y := ⟨_, rfl⟩
        rw [hY] at hcall ht
        have hMb : M + Y ≤ 1000000000 := by omega
        have HQ := Lib.hid (And.intro hq (And.intro hcall (And.intro ht hM)))
        clear hq hcall ht hM B1 hs hcs hpre he hY
        go_wp2_with fail
        refine HQ.out.2.1.mono ?_
        rintro e w2 ⟨rfl, q2⟩
        have Q2 := Lib.hid (HQ.out.1.trans q2)
        clear q2 c7 d0 d1 d2 d3 d4 d5 d6 d7
        go_wp2_with fail
        go_roundg (t.subs.length - (k + 1))
        case measure => omega
        case rel => exact ⟨k + 1, M + Y, by go_num, by omega, by go_num, by have := HQ.out.2.2; omega, Q2.out⟩
      · have hke : k = t.subs.length := by omega
        subst hke
        rw [List.take_length] at hM
        have HQ := Lib.hid (And.intro hq hM)
        clear hq hM B1
        go_wp2_with fail
        go_ret
        exact ⟨by rw [HE.out.1, HQ.out.2]; rfl, H0.out.1.trans HQ.out.1⟩
theorem fsize_any (t : T) (hc : cnt t ≤ 1000000000) (a : Option Addr) (c : Nat) (w : World) (hL : Lie w (fun _ => True) a t.subs) : Calls Try.prog 13 #[nodeV t a c] w fun e w' => e = .returned (.int .i64 (cnt t)) ∧ Keep (fun _ => False) w w' :=
  fsize_all _ t (Nat.lt_succ_self _) hc a c w hL
end Go.Proofs.Ytmohpjpodkbgkaa.P09
/- The document's None (layer 9), of right expressions. -/
namespace Go.Proofs.Ytmohpjpodkbgkaa.P09
open Go.RowKit Go.Proofs.Ytmohpjpodkbgkaa.Base Go.Proofs.Ytmohpjpodkbgkaa.Bytes Go.Proofs.Ytmohpjpodkbgkaa.P07 Go.Proofs.Ytmohpjpodkbgkaa.P08
open Go.Proofs.Ytmohpjpodkbgkaa.Sets (ST)

theorem sub_RT {d : Nat} {t : T} (h : RT d t) {i : Nat} {s : T} (hs : t.subs[i]? = some s) : RT d s := RL_get h.subs hs
theorem kind5_one {d : Nat} {t : T} (h : RT d t) (hk : t.kind = 5) : ∃ s, t.subs = [s] ∧ 0 ≤ t.mn ∧ t.mn ≤ 20 ∧ (t.mx = -1 ∨ t.mn ≤ t.mx ∧ t.mx ≤ 20) ∧ (if rnd 5 s.kind then 1 ≤ d ∧ RT (d - 1) s else RT d s) := by
  cases t
  exact one_sub h hk
/-- What f says of every right expression smaller than n. -/
def NoneOk (t : T) : Prop := ∀ (d : Nat), RT d t → ∀ (a : Option Addr) (c : Nat) (w : World), Lie w (fun _ => True) a t.subs → Calls Try.prog 16 #[nodeV t a c] w fun e w' => e = .returned (.bool (noneB t)) ∧ Keep (fun _ => False) w w'

set_option maxRecDepth 100000 in
set_option maxHeartbeats 2000000 in
theorem fnone_all : ∀ (n : Nat) (t : T), SizeOf.sizeOf t < n → NoneOk t
  | 0, _, h => absurd h (Nat.not_lt_zero _)
  | n + 1, t, h => fun d hR a c w hL => by
    have hlen := hL.len
    have H0 := Lib.hid (And.intro ((Keep.refl (fun _ => False) w).alloc (.cells (ncells t a c) 27)) (And.intro (Bx.new (c := c) hL) (fnone_all n)))
    have hsub := fun (s : T) (i : Nat) (h : t.subs[i]? = some s) => sub_RT hR h
    have h5 := fun hk => kind5_one hR hk
    have e := noneB_eq t
    obtain ⟨A, hA⟩ : ∃ A, noneB t = A := ⟨_, rfl⟩
    rw [hA] at e ⊢
    have HE := Lib.hid (And.intro e (And.intro hsub h5))
    have HN := Lib.hid h
    clear hL e hA h hsub h5 hR
    by_cases k2 : t.kind = 2
    · obtain ⟨E, hE⟩ : ∃ E, eqB t.set ST.none = E := ⟨_, rfl⟩
      have es : ∀ W, (Op.equalIn 10000 24 (.agg #[.int .u64 (t.set.x0 : Int), .int .u64 (t.set.x1 : Int), .int .u64 (t.set.x2 : Int), .int .u64 (t.set.x3 : Int)]) (.agg #[.int .u64 0, .int .u64 0, .int .u64 0, .int .u64 0])).run Try.prog W = .ok E W := fun W => by
        rw [← hE]
        exact eq_set t.set ST.none W
      have hAE := HE.out.1
      rw [if_pos k2, hE] at hAE
      subst hAE
      have b2 : (t.kind == 2) = true := by simp [k2]
      clear k2 hE
      go_enter Try.func16, Try.ntmps16
      go_upto_region 1 with fail
      generalize (w.alloc (.cells (ncells t a c) 27)) = W at *
      generalize w.heap.size = n0 at *
      obtain ⟨c0, c1, c2, c3, c4, -, -, -⟩ := H0.out.2.1.eight
      go_wp2_with fail
      go_ret
      exact ⟨rfl, H0.out.1⟩
    have b2 : (t.kind == 2) = false := by simp [k2]
    by_cases k3 : t.kind = 3
    · have hA := HE.out.1
      rw [if_neg k2, if_pos k3] at hA
      have HA := Lib.hid hA
      have b3 : (t.kind == 3) = true := by simp [k3]
      have b4 : (t.kind == 4) = false := by simp [k3]
      have b5 : (t.kind == 5) = false := by simp [k3]
      clear k2 k3 hA
      go_enter Try.func16, Try.ntmps16
      go_upto_region 1 with fail
      generalize (w.alloc (.cells (ncells t a c) 27)) = W at *
      generalize w.heap.size = n0 at *
      obtain ⟨c0, -, -, -, -, -, -, -⟩ := H0.out.2.1.eight
      go_wp2_with fail
      clear c0
      go_loopg [3] t.subs.length (fun gg i wr => ∃ (k : Nat), i = .int .i64 k ∧ k + gg = t.subs.length ∧ anyN (t.subs.take k) = false ∧ Keep (fun _ => False) W wr)
      case atStart => exact ⟨0, rfl, by omega, by rw [List.take_zero, anyN], Keep.refl _ _⟩
      case round =>
        obtain ⟨k, rfl, hk, hM, hq⟩ := hrel
        have B1 := H0.out.2.1.keep hq
        obtain ⟨-, -, -, -, -, -, -, c7⟩ := B1.eight
        by_cases hlt : k < t.subs.length
        · have hlt' : (k : Int) < t.subs.length := by omega
          have i0 : (0 : Int) ≤ k := by omega
          obtain ⟨s, hs⟩ : ∃ s, t.subs[k]? = some s := ⟨t.subs[k], List.getElem?_eq_getElem hlt⟩
          obtain ⟨bl, off, a1, e1, rfl, L1, d0, d1, d2, d3, d4, d5, d6, d7⟩ := B1.sub hs
          have hsl := sub_less hs
          have ht := anyN_take hs
          have hget := anyN_get hs
          have hcall := H0.out.2.2 s (by have := HN.out; omega) d (HE.out.2.1 s k hs) a1 e1 wr L1
          obtain ⟨Y, hY⟩ : ∃ Y, noneB s = Y := ⟨_, rfl⟩
          rw [hY] at hcall ht hget
          rw [hM, Bool.false_or] at ht
          have HQ := Lib.hid (And.intro hq (And.intro hcall (And.intro ht hget)))
          clear hq hcall ht hM B1 hs hY hget
          go_wp2_with fail
          refine HQ.out.2.1.mono ?_
          rintro e w2 ⟨rfl, q2⟩
          have Q2 := Lib.hid (HQ.out.1.trans q2)
          clear q2 c7 d0 d1 d2 d3 d4 d5 d6 d7
          cases Y with
          | true =>
            go_wp2_with fail
            go_ret
            exact ⟨by rw [HA.out, HQ.out.2.2.2 (by simp)]; rfl, H0.out.1.trans Q2.out⟩
          | false =>
            go_wp2_with fail
            go_roundg (t.subs.length - (k + 1))
            case measure => omega
            case rel => exact ⟨k + 1, by go_num, by omega, HQ.out.2.2.1, Q2.out⟩
        · have hke : k = t.subs.length := by omega
          subst hke
          rw [List.take_length] at hM
          have HQ := Lib.hid (And.intro hq hM)
          clear hq hM B1
          go_wp2_with fail
          go_ret
          exact ⟨by rw [HA.out, HQ.out.2]; rfl, H0.out.1.trans HQ.out.1⟩
    have b3 : (t.kind == 3) = false := by simp [k3]
    by_cases k4 : t.kind = 4
    · have hA := HE.out.1
      rw [if_neg k2, if_neg k3, if_pos k4] at hA
      have HA := Lib.hid hA
      have b4 : (t.kind == 4) = true := by simp [k4]
      have b5 : (t.kind == 5) = false := by simp [k4]
      clear k2 k3 hA k4
      go_enter Try.func16, Try.ntmps16
      go_upto_region 1 with fail
      generalize (w.alloc (.cells (ncells t a c) 27)) = W at *
      generalize w.heap.size = n0 at *
      obtain ⟨c0, -, -, -, -, -, -, -⟩ := H0.out.2.1.eight
      go_wp2_with fail
      clear c0
      go_loopg [4] t.subs.length (fun gg i wr => ∃ (k : Nat), i = .int .i64 k ∧ k + gg = t.subs.length ∧ allN (t.subs.take k) = true ∧ Keep (fun _ => False) W wr)
      case atStart => exact ⟨0, rfl, by omega, by rw [List.take_zero, allN], Keep.refl _ _⟩
      case round =>
        obtain ⟨k, rfl, hk, hM, hq⟩ := hrel
        have B1 := H0.out.2.1.keep hq
        obtain ⟨-, -, -, -, -, -, -, c7⟩ := B1.eight
        by_cases hlt : k < t.subs.length
        · have hlt' : (k : Int) < t.subs.length := by omega
          have i0 : (0 : Int) ≤ k := by omega
          obtain ⟨s, hs⟩ : ∃ s, t.subs[k]? = some s := ⟨t.subs[k], List.getElem?_eq_getElem hlt⟩
          obtain ⟨bl, off, a1, e1, rfl, L1, d0, d1, d2, d3, d4, d5, d6, d7⟩ := B1.sub hs
          have hsl := sub_less hs
          have ht := allN_take hs
          have hget := allN_get hs
          have hcall := H0.out.2.2 s (by have := HN.out; omega) d (HE.out.2.1 s k hs) a1 e1 wr L1
          obtain ⟨Y, hY⟩ : ∃ Y, noneB s = Y := ⟨_, rfl⟩
          rw [hY] at hcall ht hget
          rw [hM, Bool.true_and] at ht
          have HQ := Lib.hid (And.intro hq (And.intro hcall (And.intro ht hget)))
          clear hq hcall ht hM B1 hs hY hget
          go_wp2_with fail
          refine HQ.out.2.1.mono ?_
          rintro e w2 ⟨rfl, q2⟩
          have Q2 := Lib.hid (HQ.out.1.trans q2)
          clear q2 c7 d0 d1 d2 d3 d4 d5 d6 d7
          cases Y with
          | false =>
            go_wp2_with fail
            go_ret
            exact ⟨by rw [HA.out, HQ.out.2.2.2 (by simp)]; rfl, H0.out.1.trans Q2.out⟩
          | true =>
            go_wp2_with fail
            go_roundg (t.subs.length - (k + 1))
            case measure => omega
            case rel => exact ⟨k + 1, by go_num, by omega, HQ.out.2.2.1, Q2.out⟩
        · have hke : k = t.subs.length := by omega
          subst hke
          rw [List.take_length] at hM
          have HQ := Lib.hid (And.intro hq hM)
          clear hq hM B1
          go_wp2_with fail
          go_ret
          exact ⟨by rw [HA.out, HQ.out.2]; rfl, H0.out.1.trans HQ.out.1⟩
    have b4 : (t.kind == 4) = false := by simp [k4]
    by_cases k5 : t.kind = 5
    · have hA := HE.out.1
      rw [if_neg k2, if_neg k3, if_neg k4, if_pos k5] at hA
      obtain ⟨s, hsub, m0, m1, -, -⟩ := HE.out.2.2 k5
      have hs : t.subs[0]? = some s := by rw [hsub]; rfl
      have hsl := sub_less hs
      have hl1 : t.subs.length = 1 := by rw [hsub]; rfl
      rw [show headN t.subs = noneB s from by rw [hsub, headN]] at hA
      have hcall := H0.out.2.2 s (by have := HN.out; omega) d (HE.out.2.1 s 0 hs)
      unfold NoneOk at hcall
      obtain ⟨Y, hY⟩ : ∃ Y, noneB s = Y := ⟨_, rfl⟩
      rw [hY] at hA
      have hcall2 := fun a c w hL => H0.out.2.2 s (by have := HN.out; omega) d (HE.out.2.1 s 0 hs) a c w hL
      rw [hY] at hcall2
      have b5 : (t.kind == 5) = true := by simp [k5]
      have HQ := Lib.hid (And.intro hA (And.intro hcall2 hs))
      clear k2 k3 hA k4 k5 hcall hcall2 hY hs hsub hlen
      go_enter Try.func16, Try.ntmps16
      go_upto_region 1 with fail
      generalize (w.alloc (.cells (ncells t a c) 27)) = W at *
      generalize w.heap.size = n0 at *
      obtain ⟨c0, -, -, -, -, c5, -, c7⟩ := H0.out.2.1.eight
      rw [hl1] at c7
      obtain ⟨bl, off, a1, e1, rfl, L1, d0, d1, d2, d3, d4, d5, d6, d7⟩ := H0.out.2.1.first HQ.out.2.2
      by_cases hm : 0 < t.mn
      · have hcl := Lib.hid (HQ.out.2.1 a1 e1 W L1)
        clear L1
        go_wp2_with fail
        refine hcl.out.mono ?_
        rintro e w2 ⟨rfl, q2⟩
        have Q2 := Lib.hid q2
        clear q2
        go_wp2_with fail
        go_ret
        exact ⟨by rw [HQ.out.1, decide_eq_true hm, Bool.true_and]; rfl, H0.out.1.trans Q2.out⟩
      · have hm' : t.mn ≤ 0 := by omega
        clear L1
        go_wp2_with fail
        go_ret
        exact ⟨by rw [HQ.out.1, decide_eq_false (show ¬ 0 < t.mn by omega), Bool.false_and]; rfl, H0.out.1⟩
    have b5 : (t.kind == 5) = false := by simp [k5]
    have hA := HE.out.1
    rw [if_neg k2, if_neg k3, if_neg k4, if_neg k5] at hA
    subst hA
    clear k2 k3 k4 k5
    go_enter Try.func16, Try.ntmps16
    go_upto_region 1 with fail
    generalize (w.alloc (.cells (ncells t a c) 27)) = W at *
    generalize w.heap.size = n0 at *
    obtain ⟨c0, -, -, -, -, -, -, -⟩ := H0.out.2.1.eight
    go_wp2_with fail
    go_ret
    exact ⟨rfl, H0.out.1⟩
theorem fnone_any (t : T) (d : Nat) (hR : RT d t) (a : Option Addr) (c : Nat) (w : World) (hL : Lie w (fun _ => True) a t.subs) : Calls Try.prog 16 #[nodeV t a c] w fun e w' => e = .returned (.bool (noneB t)) ∧ Keep (fun _ => False) w w' :=
  fnone_all _ t (Nat.lt_succ_self _) d hR a c w hL
end Go.Proofs.Ytmohpjpodkbgkaa.P09
/- The document's Wide (layer 9), of right expressions. -/
namespace Go.Proofs.Ytmohpjpodkbgkaa.P09
open Go.RowKit Go.Proofs.Ytmohpjpodkbgkaa.Base Go.Proofs.Ytmohpjpodkbgkaa.Bytes Go.Proofs.Ytmohpjpodkbgkaa.P07 Go.Proofs.Ytmohpjpodkbgkaa.P08
open Go.Proofs.Ytmohpjpodkbgkaa.Sets (ST)

theorem times_bare {d : Nat} {t : T} (h : RT d t) : 0 ≤ t.mn ∧ t.mn ≤ 20 ∧ -1 ≤ t.mx ∧ t.mx ≤ 20 := by
  cases t
  have hb := h.bare.1
  unfold Bare at hb
  show 0 ≤ _ ∧ _ ≤ 20 ∧ -1 ≤ _ ∧ _ ≤ 20
  dsimp only [T.mn, T.mx]
  omega
mutual
theorem wd_bnd : ∀ (t : T) (d : Nat), RT d t → 0 ≤ wd t ∧ wd t ≤ 1073741824
  | .nd k s mn mx l, d, h => by
    have hm := times_bare h
    rw [wd]
    exact wdL_bnd l d k h.bare.2.2 mn mx hm.1 hm.2.2.1 1 (by omega) (by omega)
theorem wdL_bnd : ∀ (l : List T) (d : Nat) (k : Int), RL d k l → ∀ mn mx : Int, 0 ≤ mn → -1 ≤ mx → ∀ acc : Int, 0 ≤ acc → acc ≤ 1073741824 → 0 ≤ wdL k mn mx acc l ∧ wdL k mn mx acc l ≤ 1073741824
  | [], d, k, _, mn, mx, _, _, acc, h0, h1 => by rw [wdL]; exact ⟨h0, h1⟩
  | t :: l, d, k, h, mn, mx, hm, hx, acc, h0, h1 => by
    obtain ⟨ha, hb⟩ := RL_cons h
    rw [wdL]
    have h3 := wd_bnd t d (IS.rt (k := k) ha)
    have h4 := wstep_ge (k := k) h3.1 hm hx
    exact wdL_bnd l d k hb mn mx hm hx _ (by omega) (by omega)
end
theorem wdL_take {k mn mx acc : Int} {L : List T} {i : Nat} {s : T} (h : L[i]? = some s) : wdL k mn mx acc (L.take (i + 1)) = min (wdL k mn mx acc (L.take i) + wstep k mn mx (wd s)) 1073741824 := by
  rw [List.take_add_one, h]
  exact wdL_append k mn mx _ acc s
theorem RL_take {d : Nat} {k : Int} : ∀ (L : List T) (i : Nat), RL d k L → RL d k (L.take i)
  | [], i, h => by rw [List.take_nil]; exact h
  | t :: L, 0, h => by rw [List.take_zero, RL]; trivial
  | t :: L, i + 1, h => by
    obtain ⟨h1, h2⟩ := RL_cons h
    rw [List.take_succ_cons, RL]
    exact ⟨h1, RL_take L i h2⟩

end Go.Proofs.Ytmohpjpodkbgkaa.P09
/- The document's Least (layer 9), of right expressions. -/
namespace Go.Proofs.Ytmohpjpodkbgkaa.P09
open Go.RowKit Go.Proofs.Ytmohpjpodkbgkaa.Base Go.Proofs.Ytmohpjpodkbgkaa.Bytes Go.Proofs.Ytmohpjpodkbgkaa.P07 Go.Proofs.Ytmohpjpodkbgkaa.P08
open Go.Proofs.Ytmohpjpodkbgkaa.Sets (ST)

theorem sumLe_append : ∀ (L : List T) (acc : Int) (t : T), sumLe acc (L ++ [t]) = sumLe acc L + leastI t
  | [], acc, t => by rw [List.nil_append, sumLe, sumLe, sumLe]
  | s :: L, acc, t => by rw [List.cons_append, sumLe, sumLe, sumLe_append L]
theorem sumLe_take {acc : Int} {L : List T} {i : Nat} {s : T} (h : L[i]? = some s) : sumLe acc (L.take (i + 1)) = sumLe acc (L.take i) + leastI s := by
  rw [List.take_add_one, h]
  exact sumLe_append _ acc s
theorem minLe_append : ∀ (L : List T) (acc : Int) (t : T), minLe acc (L ++ [t]) = if 0 ≤ leastI t ∧ (minLe acc L < 0 ∨ leastI t < minLe acc L) then leastI t else minLe acc L
  | [], acc, t => by rw [List.nil_append, minLe, minLe, minLe]
  | s :: L, acc, t => by rw [List.cons_append, minLe, minLe, minLe_append L]
theorem minLe_take {acc : Int} {L : List T} {i : Nat} {s : T} (h : L[i]? = some s) : minLe acc (L.take (i + 1)) = if 0 ≤ leastI s ∧ (minLe acc (L.take i) < 0 ∨ leastI s < minLe acc (L.take i)) then leastI s else minLe acc (L.take i) := by
  rw [List.take_add_one, h]
  exact minLe_append _ acc s
theorem anyN_pre : ∀ {L : List T} (i : Nat), anyN L = false → anyN (L.take i) = false
  | [], i, h => by rw [List.take_nil]; exact h
  | t :: L, 0, h => by rw [List.take_zero, anyN]
  | t :: L, i + 1, h => by
    rw [anyN, Bool.or_eq_false_iff] at h
    rw [List.take_succ_cons, anyN, h.1, anyN_pre i h.2]
    rfl
theorem anyN_sub {L : List T} {i : Nat} {s : T} (h : L[i]? = some s) (hn : anyN L = false) : noneB s = false := by
  cases e : noneB s with
  | false => rfl
  | true => rw [anyN_get h e] at hn; cases hn
end Go.Proofs.Ytmohpjpodkbgkaa.P09
/- The document's Most (layer 9), of right expressions. -/
namespace Go.Proofs.Ytmohpjpodkbgkaa.P09
open Go.RowKit Go.Proofs.Ytmohpjpodkbgkaa.Base Go.Proofs.Ytmohpjpodkbgkaa.Bytes Go.Proofs.Ytmohpjpodkbgkaa.P07 Go.Proofs.Ytmohpjpodkbgkaa.P08
open Go.Proofs.Ytmohpjpodkbgkaa.Sets (ST)

theorem mostL_append (k : Int) : ∀ (L R : List T) (acc : Int), 0 ≤ acc → mostL k acc (L ++ R) = if mostL k acc L < 0 then -1 else mostL k (mostL k acc L) R
  | [], R, acc, h => by
    rw [List.nil_append, mostL, if_neg (by omega)]
  | t :: L, R, acc, h => by
    rw [List.cons_append, mostL, mostL]
    by_cases hn : noneB t = true
    · rw [if_pos hn, if_pos hn]
      exact mostL_append k L R acc h
    · rw [if_neg hn, if_neg hn]
      by_cases hm : mostI t < 0
      · rw [if_pos hm, if_pos hm]
        rfl
      · rw [if_neg hm, if_neg hm]
        exact mostL_append k L R _ (by split <;> omega)
/-- One part more; and where it has no longest one, the whole has none. -/
theorem mostL_take {k : Int} {L : List T} {i : Nat} {s : T} {M : Int} (h : L[i]? = some s) (hM : mostL k 0 (L.take i) = M) (h0 : 0 ≤ M) : mostL k 0 (L.take (i + 1)) = if noneB s = true then M else if mostI s < 0 then -1 else (if k = 3 then M + mostI s else max M (mostI s)) := by
  rw [List.take_add_one, h]
  show mostL k 0 (L.take i ++ [s]) = _
  rw [mostL_append k _ _ 0 (by omega), hM, if_neg (by omega), mostL, mostL, mostL]
theorem mostL_stop {k : Int} {L : List T} {i : Nat} {s : T} {M : Int} (h : L[i]? = some s) (hM : mostL k 0 (L.take i) = M) (h0 : 0 ≤ M) (hn : noneB s = false) (hm : mostI s < 0) : mostL k 0 L = -1 := by
  have hk : i < L.length := (List.getElem?_eq_some_iff.1 h).1
  have e : L[i] = s := (List.getElem?_eq_some_iff.1 h).2
  have e2 : L = L.take i ++ (s :: L.drop (i + 1)) := by
    rw [← e, ← List.drop_eq_getElem_cons hk, List.take_append_drop]
  rw [e2, mostL_append k _ _ 0 (by omega), hM, if_neg (by omega), mostL, if_neg (by rw [hn]; decide), if_pos hm]
end Go.Proofs.Ytmohpjpodkbgkaa.P09
/- Rows of truth values (layer 9): a slice of bools of the program's own; the document's join. -/
namespace Go.Proofs.Ytmohpjpodkbgkaa.P09
open Go.RowKit Go.Proofs.Ytmohpjpodkbgkaa.Base Go.Proofs.Ytmohpjpodkbgkaa.Bytes Go.Proofs.Ytmohpjpodkbgkaa.P07 Go.Proofs.Ytmohpjpodkbgkaa.P08
open Go.Proofs.Ytmohpjpodkbgkaa.Sets (ST)

/-- The cells of a row of truth values. -/
def bcells (L : List Bool) : Array Value := (L.map Value.bool).toArray
theorem bcells_get {L : List Bool} {k : Nat} {b : Bool} (h : L[k]? = some b) : (bcells L)[k]? = some (.bool b) := by
  unfold bcells
  simp [h]
theorem bcells_set (L : List Bool) (k : Nat) (b : Bool) : (bcells L).setIfInBounds k (.bool b) = bcells (L.set k b) := by
  unfold bcells
  apply Array.ext'
  simp [List.map_set]
theorem infoB : (Try.prog.info? 4).map (fun i => (i.zero, i.size, i.bytes)) = some (some (.bool false), 1, 1) := by kernel_rfl
set_option maxRecDepth 100000 in
theorem make_bools (n : Nat) (hn : n ≤ 1048576) (w : World) :
    (Instr.makeSlice 36 (.int .i64 (n : Int)) (.int .i64 (n : Int))).run Try.prog w = .ok (.slice (some ⟨w.heap.size, 0, none⟩) n n) (w.alloc (.cells (bcells (List.replicate n false)) 4)) := by
  obtain ⟨i0, hi0, hz0, hz1, hz2⟩ := info_parts infoB
  have hr := run_make (P := Try.prog) w 36 4 i0 (.bool false) Try.underlying36 hi0 hz0 .i64 .i64 (n : Int) (n : Int) (by omega) (Int.le_refl _) (by rw [hz2]; omega) (by omega)
  rw [Int.toNat_natCast, hz1, Nat.mul_one] at hr
  rw [hr]
  congr 3
  apply Array.ext
  · simp [madeCells, bcells]
  · intro j h1 h2
    simp [madeCells, Value.cells, Nat.mod_one, bcells]

/-- The lengths so far: all pairs of the first i, and k of the next one. -/
def jrow (a b : List Bool) (i m : Nat) : Bool := (List.range i).any fun j => decide (j ≤ m) && (a.getD j false && b.getD (m - j) false)
def JB (a b : List Bool) (n i k : Nat) : List Bool := (List.range n).map fun m => jrow a b i m || (decide (i ≤ m ∧ m < i + k) && (a.getD i false && b.getD (m - i) false))
theorem JB_length (a b : List Bool) (n i k : Nat) : (JB a b n i k).length = n := by simp [JB]
theorem JB_get (a b : List Bool) {n i k m : Nat} (h : m < n) : (JB a b n i k)[m]? = some (jrow a b i m || (decide (i ≤ m ∧ m < i + k) && (a.getD i false && b.getD (m - i) false))) := by
  simp [JB, h]
theorem JB_start (a b : List Bool) (n : Nat) : JB a b n 0 0 = List.replicate n false := by
  apply List.ext_getElem?
  intro m
  by_cases h : m < n
  · rw [JB_get a b h]
    simp [jrow, h]
  · rw [List.getElem?_eq_none (by rw [JB_length]; omega), List.getElem?_eq_none (by simp; omega)]
theorem JB_step (a b : List Bool) {n i k : Nat} (_h : i + k < n) : JB a b n i (k + 1) = (JB a b n i k).set (i + k) (jrow a b i (i + k) || (a.getD i false && b.getD k false)) := by
  apply List.ext_getElem?
  intro m
  by_cases hm : m < n
  · rw [JB_get a b hm, List.getElem?_set]
    by_cases e : i + k = m
    · subst e
      rw [if_pos rfl, if_pos (by rw [JB_length]; omega)]
      have e1 : decide (i ≤ i + k ∧ i + k < i + (k + 1)) = true := decide_eq_true (by omega)
      rw [e1, Nat.add_sub_cancel_left, Bool.true_and]
    · rw [if_neg e, JB_get a b hm]
      have e1 : decide (i ≤ m ∧ m < i + (k + 1)) = decide (i ≤ m ∧ m < i + k) := by
        rw [decide_eq_decide]
        omega
      rw [e1]
  · rw [List.getElem?_eq_none (by rw [JB_length]; omega), List.getElem?_eq_none (by rw [List.length_set, JB_length]; omega)]
theorem JB_at (a b : List Bool) {n i k : Nat} (h : i + k < n) : (JB a b n i k)[i + k]? = some (jrow a b i (i + k)) := by
  rw [JB_get a b h]
  have e1 : decide (i ≤ i + k ∧ i + k < i + k) = false := decide_eq_false (by omega)
  rw [e1, Bool.false_and, Bool.or_false]
theorem JB_next (a b : List Bool) {n i k : Nat} (h : n ≤ i + k) : JB a b n (i + 1) 0 = JB a b n i k := by
  apply List.ext_getElem?
  intro m
  by_cases hm : m < n
  · rw [JB_get a b hm, JB_get a b hm]
    have e1 : decide (i + 1 ≤ m ∧ m < i + 1 + 0) = false := decide_eq_false (by omega)
    have e2 : decide (i ≤ m ∧ m < i + k) = decide (i ≤ m) := by
      rw [decide_eq_decide]
      omega
    rw [e1, e2, Bool.false_and, Bool.or_false]
    unfold jrow
    rw [List.range_succ, List.any_append]
    simp
  · rw [List.getElem?_eq_none (by rw [JB_length]; omega), List.getElem?_eq_none (by rw [JB_length]; omega)]
/-- Lengths of one behind the other. -/
def joinB (a b : List Bool) : List Bool := JB a b a.length a.length 0
theorem getD_get {L : List Bool} {k : Nat} (h : k < L.length) : L[k]? = some (L.getD k false) := by
  rw [List.getD_eq_getElem?_getD, List.getElem?_eq_getElem h]
  rfl

set_option maxRecDepth 100000 in
set_option maxHeartbeats 4000000 in
theorem fjoin_any (A B : List Bool) (n : Nat) (hA : A.length = n) (hB : B.length = n) (hn : n ≤ 1000) (ga gb : Nat) (w : World) (ha : At w ga 4 (bcells A)) (hb : At w gb 4 (bcells B)) :
    Calls Try.prog 29 #[.slice (some ⟨ga, 0, none⟩) n n, .slice (some ⟨gb, 0, none⟩) n n] w fun e w' => ∃ g, e = .returned (.slice (some ⟨g, 0, none⟩) n n) ∧ w.heap.size ≤ g ∧ At w' g 4 (bcells (joinB A B)) ∧ Keep (fun _ => False) w w' := by
  have hmk := make_bools n (by omega) w
  have q0 := (Keep.refl (fun _ => False) w).alloc (.cells (bcells (List.replicate n false)) 4)
  have c0 := At.new w (bcells (List.replicate n false)) 4
  have hJ : joinB A B = JB A B n n 0 := by unfold joinB; rw [hA]
  rw [← JB_start A B n] at hmk q0 c0
  have hga := ha.lt
  have hgb := hb.lt
  have H0 := Lib.hid (And.intro (ha.keep q0 (fun h => h)) (And.intro (hb.keep q0 (fun h => h)) (And.intro c0 (And.intro q0 hJ))))
  have HL := Lib.hid (And.intro hA hB)
  clear ha hb c0 q0 hJ hA hB
  go_enter Try.func29, Try.ntmps29
  go_wp2_with fail
  clear hmk
  generalize (w.alloc (.cells (bcells (JB A B n 0 0)) 4)) = W at *
  go_loopg [6, 7] n (fun gg i s7 wr => ∃ k : Nat, i = .int .i64 k ∧ k + gg = n ∧ At wr w.heap.size 4 (bcells (JB A B n k 0)) ∧ Keep (fun b => b = w.heap.size) W wr)
  case atStart => exact ⟨0, rfl, by omega, H0.out.2.2.1, Keep.refl _ _⟩
  case round =>
    obtain ⟨i, rfl, hi, hrow, hq⟩ := hrel
    by_cases hlt : i < n
    · have hlt' : (i : Int) < n := by omega
      have HR := Lib.hid (And.intro hrow hq)
      clear hrow hq
      go_wp2_with fail
      go_loopg [7] (n + 1) (fun gg s7 wx => ∃ k : Nat, s7 = .int .i64 k ∧ k + gg = n + 1 ∧ At wx w.heap.size 4 (bcells (JB A B n i k)) ∧ Keep (fun b => b = w.heap.size) W wx)
      case atStart => exact ⟨0, rfl, by omega, HR.out.1, HR.out.2⟩
      case round =>
        obtain ⟨k, rfl, hk, hrow, hq⟩ := hrel
        by_cases hin : i + k < n
        · have hin' : (i : Int) + k < n := by omega
          have i0 : (0 : Int) ≤ i := by omega
          have k0 : (0 : Int) ≤ k := by omega
          have e0 := hrow.cell (bcells_get (JB_at A B hin))
          have f0 := hrow.frozen (i + k)
          have e1 := (H0.out.1.keep hq (by omega)).cell (bcells_get (getD_get (L := A) (k := i) (by rw [HL.out.1]; omega)))
          have e2 := (H0.out.2.1.keep hq (by omega)).cell (bcells_get (getD_get (L := B) (k := k) (by rw [HL.out.2]; omega)))
          have hset := hrow.set (i + k) (.bool (jrow A B i (i + k) || (A.getD i false && B.getD k false)))
          rw [bcells_set, ← JB_step A B hin] at hset
          have hqs := hq.setCell (p := ⟨w.heap.size, i + k, none⟩) (fun _ => rfl) (.bool (jrow A B i (i + k) || (A.getD i false && B.getD k false)))
          obtain ⟨x, hx⟩ : ∃ x, jrow A B i (i + k) = x := ⟨_, rfl⟩
          obtain ⟨y, hy⟩ : ∃ y, A.getD i false = y := ⟨_, rfl⟩
          obtain ⟨z, hz⟩ : ∃ z, B.getD k false = z := ⟨_, rfl⟩
          rw [hx, hy, hz] at hset hqs
          rw [hx] at e0
          rw [hy] at e1
          rw [hz] at e2
          have HS := Lib.hid (And.intro hset hqs)
          clear hset hqs hx hy hz hrow hq
          cases x <;> cases y <;> cases z
          all_goals
            go_wp2_with fail
            go_roundg (n + 1 - (k + 1))
            case measure => omega
            case rel => exact ⟨k + 1, by go_num, by omega, HS.out.1, HS.out.2⟩
        · have hin' : ¬ (i : Int) + k < n := by omega
          rw [← JB_next A B (show n ≤ i + k by omega)] at hrow
          have HS := Lib.hid (And.intro hrow hq)
          clear hrow hq
          go_wp2_with fail
          go_roundg (n - (i + 1))
          case measure => omega
          case rel => exact ⟨i + 1, by go_num, by omega, HS.out.1, HS.out.2⟩
    · have hke : i = n := by omega
      subst hke
      have HS := Lib.hid (And.intro hrow hq)
      clear hrow hq
      go_wp2_with fail
      go_ret
      exact ⟨w.heap.size, rfl, Nat.le_refl _, by rw [H0.out.2.2.2.2]; exact HS.out.1, H0.out.2.2.2.1.next HS.out.2 (fun b hb hl => by omega)⟩
end Go.Proofs.Ytmohpjpodkbgkaa.P09
