/- Layer 11: EndsParts. -/
import Derived.Test.YthcjfgfbeollpaaDoorKB53
import Derived.Test.YthcjfgfbeollpaaDoorKB32
import Derived.Test.YthcjfgfbeollpaaDoorKB35
import Derived.Deep.DeepCutAuto
import Derived.Deep.CutBlock
import Derived.Deep.RegionHeld3
import Derived.Great.BuildSlice
import Derived.Test.YthcjfgfbeollpaaDoorKB48
import Derived.Test.YthcjfgfbeollpaaDoorKB09
import Derived.Test.YthcjfgfbeollpaaDoorRows
import Derived.Test.YthcjfgfbeollpaaDoorCards
import Derived.Test.YthcjfgfbeollpaaDoorTie
import Derived.Test.YthcjfgfbeollpaaDoorKB24
import Derived.SevenTiedAt
import Derived.JoinedCond
import Derived.Deep.DeepHandedRow
import Derived.Deep.DeepWitnessRowRef
namespace Go.Proofs.YthcjfgfbeollpaaDoor.P11
open Go.RowKit Go.Proofs.YthcjfgfbeollpaaDoor.Base Go.Proofs.YthcjfgfbeollpaaDoor.Bytes Go.Proofs.YthcjfgfbeollpaaDoor.P07 Go.Proofs.YthcjfgfbeollpaaDoor.P08 Go.Proofs.YthcjfgfbeollpaaDoor.P09 Go.Proofs.YthcjfgfbeollpaaDoor.P10 Go.Proofs.YthcjfgfbeollpaaDoor.IL
open Go.Proofs.YthcjfgfbeollpaaDoor.Sets (ST)

/-- The cells of a row of two. -/
@[reducible] def twoC (t : T) (a : Option Addr) (c : Nat) (u : T) (b : Option Addr) (d : Nat) : Array Value :=
  #[.int .i64 t.kind, .int .u64 t.set.x0, .int .u64 t.set.x1, .int .u64 t.set.x2, .int .u64 t.set.x3, .int .i64 t.mn, .int .i64 t.mx, .slice a t.subs.length c, .int .i64 u.kind, .int .u64 u.set.x0, .int .u64 u.set.x1, .int .u64 u.set.x2, .int .u64 u.set.x3, .int .i64 u.mn, .int .i64 u.mx, .slice b u.subs.length d]
theorem lie_row {W : World} {n : Nat} {t u : T} {a b : Option Addr} {c d : Nat} (h : At W n 27 (twoC t a c u b d)) (ht : Lie W (fun _ => True) a t.subs) (hu : Lie W (fun _ => True) b u.subs) (hc : t.subs.length ≤ c) (hd : u.subs.length ≤ d) :
    Lie W (fun _ => True) (some ⟨n, 0, none⟩) [t, u] := by
  have e : twoC t a c u b d = ncells t a c ++ ncells u b d := by simp [ncells]
  rw [e] at h
  refine .cons n 0 [t, u] (fun i => if i = 0 then a else b) (fun i => if i = 0 then c else d) (by simp) h.lt trivial (fun i s hs => ?_) (fun i s hs j v hv => ?_) (fun i s hs => ?_)
  · match i, hs with
    | 0, hs => simp at hs; subst hs; exact hc
    | 1, hs => simp at hs; subst hs; exact hd
    | i + 2, hs => simp at hs
  · match i, hs with
    | 0, hs =>
      simp at hs
      subst hs
      have hj : j < 8 := (Array.getElem?_eq_some_iff.1 hv).1
      have := h.cell (o := j) (v := v) (by rw [Array.getElem?_append_left (by simpa using hj)]; exact hv)
      simpa using this
    | 1, hs =>
      simp at hs
      subst hs
      have hj : j < 8 := (Array.getElem?_eq_some_iff.1 hv).1
      have := h.cell (o := 8 + j) (v := v) (by rw [Array.getElem?_append_right (by simp)]; simpa using hv)
      simpa using this
    | i + 2, hs => simp at hs
  · match i, hs with
    | 0, hs => simp at hs; subst hs; exact ht
    | 1, hs => simp at hs; subst hs; exact hu
    | i + 2, hs => simp at hs
@[reducible] def kC (k : Int) (s : Nat) : Array Value := #[.int .i64 k, .int .u64 0, .int .u64 0, .int .u64 0, .int .u64 0, .int .i64 0, .int .i64 0, .slice (some ⟨s, 0, none⟩) 2 2]
@[reducible] def zC : Array Value := #[.int .i64 0, .int .u64 0, .int .u64 0, .int .u64 0, .int .u64 0, .int .i64 0, .int .i64 0, .slice none 0 0]
def kput (w : World) (p : Nat) (k : Int) (s : Nat) : World := w.setRow p (kC k s)
theorem kput_at {w : World} {p : Nat} (h : At w p 27 zC) (k : Int) (s : Nat) : At (kput w p k s) p 27 (kC k s) := setRow_heap w p zC (kC k s) _ _ h
theorem kput_other {w : World} {a p : Nat} {vs : Array Value} (h : At w a 27 vs) (hb : a ≠ p) (k : Int) (s : Nat) : At (kput w p k s) a 27 vs := (setRow_other w p a (kC k s) hb).trans h
theorem kput_keep {W w : World} (h : Keep (fun _ => False) W w) {p : Nat} (hp : W.heap.size ≤ p) (k : Int) (s : Nat) : Keep (fun _ => False) W (kput w p k s) :=
  ⟨h.os, h.tape, h.output, by have := h.size; unfold kput World.setRow; simpa using this, fun i hi hn => (setRow_other w p i (kC k s) (by omega)).trans (h.block i hi hn)⟩
theorem step_two {ops : Array Oper} {o : Oper} {a1 : Act} {w : World} {K : Act → World → Prop} {Q : Exit → Act → World → Prop} {E : Prop} (t : T) (a : Option Addr) (c : Nat) (u : T) (b : Option Addr) (d : Nat) (p q : Nat) (hw : Region.wanted o (yielded ops a1.tmps) = true)
    (ho : o.op = .buildSlice 25 2 #[(0, .tmp p), (1, .tmp q)]) (hp : a1.eval (.tmp p) = nodeV t a c) (hq : a1.eval (.tmp q) = nodeV u b d)
    (h : K (a1.put o.dst (.slice (some ⟨w.heap.size, 0, none⟩) 2 2)) (w.alloc (.cells (twoC t a c u b d) 27))) : if Region.wanted o (yielded ops a1.tmps) = true then Oper.wp Tryd.prog o a1 w K Q else E := by
  rw [if_pos hw]
  obtain ⟨i0, hi0, hz0, hz1, hz2⟩ := info_parts infoN
  refine wp_buildSlice 25 27 2 #[(0, .tmp p), (1, .tmp q)] ho (twoC t a c u b d) i0 _ Tryd.underlying25 hi0 hz0 (by rw [hz1]; decide) (by rw [hz1]; decide) ?_ h
  rw [hz1]
  simp only [List.map_toArray, List.map_cons, List.map_nil, hp, hq]
  kernel_rfl
theorem step_put {ops : Array Oper} {o : Oper} {a1 : Act} {w : World} {K : Act → World → Prop} {Q : Exit → Act → World → Prop} {E : Prop} (k : Int) (s g p q : Nat) (hg : At w g 27 zC) (hw : Region.wanted o (yielded ops a1.tmps) = true)
    (ho : o.op = .store 27 (.tmp p) (.tmp q)) (hp : a1.eval (.tmp p) = .pointer (some ⟨g, 0, none⟩)) (hq : a1.eval (.tmp q) = .agg (kC k s))
    (h : K (a1.put o.dst undef) (kput w g k s)) : if Region.wanted o (yielded ops a1.tmps) = true then Oper.wp Tryd.prog o a1 w K Q else E := by
  rw [if_pos hw]
  exact wp_store_row 27 (.tmp p) (.tmp q) ho g (kC k s) hp hq 27 zC hg (by kernel_rfl) rfl (by kernel_rfl) h
/-- The two rows, the two boxes. -/
structure Par (W w : World) (t : T) (a : Option Addr) (c : Nat) (u : T) (b : Option Addr) (d : Nat) (p5 p6 s1 s2 : Nat) : Prop where
  q : Keep (fun _ => False) W w
  r1 : At w s1 27 (twoC t a c u b d)
  r2 : At w s2 27 (twoC t a c u b d)
  b5 : At w p5 27 (kC 4 s1)
  b6 : At w p6 27 (kC 3 s2)
/-- The rows in the blocks e2, e6; the boxes in e8, e9, with the cells c8, c9. -/
structure Lg (W w : World) (V : Array Value) (e2 e6 e8 e9 : Option Nat) (c8 c9 : Array Value) : Prop where
  q : Keep (fun _ => False) W w
  b2 : ∀ m, e2 = some m → At w m 27 V ∧ W.heap.size ≤ m
  b6 : ∀ m, e6 = some m → At w m 27 V ∧ W.heap.size ≤ m
  b8 : ∀ m, e8 = some m → At w m 27 c8 ∧ W.heap.size ≤ m
  b9 : ∀ m, e9 = some m → At w m 27 c9 ∧ W.heap.size ≤ m
  n82 : ∀ m k, e8 = some m → e2 = some k → k ≠ m
  n86 : ∀ m k, e8 = some m → e6 = some k → k ≠ m
  n89 : ∀ m k, e8 = some m → e9 = some k → k ≠ m
  n92 : ∀ m k, e9 = some m → e2 = some k → k ≠ m
  n96 : ∀ m k, e9 = some m → e6 = some k → k ≠ m
theorem Lg.start {W w : World} (h : Keep (fun _ => False) W w) (V : Array Value) : Lg W w V none none none none zC zC :=
  ⟨h, fun _ h => (by cases h), fun _ h => (by cases h), fun _ h => (by cases h), fun _ h => (by cases h), fun _ _ h => (by cases h), fun _ _ h => (by cases h), fun _ _ h => (by cases h), fun _ _ h => (by cases h), fun _ _ h => (by cases h)⟩
theorem Lg.alloc2 {W w : World} {V : Array Value} {e6 e8 e9 : Option Nat} {c8 c9 : Array Value} (h : Lg W w V none e6 e8 e9 c8 c9) : Lg W (w.alloc (.cells V 27)) V (some w.heap.size) e6 e8 e9 c8 c9 :=
  ⟨h.q.alloc _, fun m e => by cases e; exact ⟨At.new w _ _, h.q.size⟩, fun m e => ⟨(h.b6 m e).1.alloc _, (h.b6 m e).2⟩, fun m e => ⟨(h.b8 m e).1.alloc _, (h.b8 m e).2⟩, fun m e => ⟨(h.b9 m e).1.alloc _, (h.b9 m e).2⟩,
    fun m k e e' => by cases e'; have := (h.b8 m e).1.lt; omega, h.n86, h.n89, fun m k e e' => by cases e'; have := (h.b9 m e).1.lt; omega, h.n96⟩
theorem Lg.alloc6 {W w : World} {V : Array Value} {e2 e8 e9 : Option Nat} {c8 c9 : Array Value} (h : Lg W w V e2 none e8 e9 c8 c9) : Lg W (w.alloc (.cells V 27)) V e2 (some w.heap.size) e8 e9 c8 c9 :=
  ⟨h.q.alloc _, fun m e => ⟨(h.b2 m e).1.alloc _, (h.b2 m e).2⟩, fun m e => by cases e; exact ⟨At.new w _ _, h.q.size⟩, fun m e => ⟨(h.b8 m e).1.alloc _, (h.b8 m e).2⟩, fun m e => ⟨(h.b9 m e).1.alloc _, (h.b9 m e).2⟩,
    h.n82, fun m k e e' => by cases e'; have := (h.b8 m e).1.lt; omega, h.n89, h.n92, fun m k e e' => by cases e'; have := (h.b9 m e).1.lt; omega⟩
theorem Lg.alloc8 {W w : World} {V : Array Value} {e2 e6 e9 : Option Nat} {c8 c9 : Array Value} (h : Lg W w V e2 e6 none e9 c8 c9) : Lg W (w.alloc (.cells zC 27)) V e2 e6 (some w.heap.size) e9 zC c9 :=
  ⟨h.q.alloc _, fun m e => ⟨(h.b2 m e).1.alloc _, (h.b2 m e).2⟩, fun m e => ⟨(h.b6 m e).1.alloc _, (h.b6 m e).2⟩, fun m e => by cases e; exact ⟨At.new w _ _, h.q.size⟩, fun m e => ⟨(h.b9 m e).1.alloc _, (h.b9 m e).2⟩,
    fun m k e e' => by cases e; have := (h.b2 k e').1.lt; omega, fun m k e e' => by cases e; have := (h.b6 k e').1.lt; omega, fun m k e e' => by cases e; have := (h.b9 k e').1.lt; omega, h.n92, h.n96⟩
theorem Lg.alloc9 {W w : World} {V : Array Value} {e2 e6 e8 : Option Nat} {c8 c9 : Array Value} (h : Lg W w V e2 e6 e8 none c8 c9) : Lg W (w.alloc (.cells zC 27)) V e2 e6 e8 (some w.heap.size) c8 zC :=
  ⟨h.q.alloc _, fun m e => ⟨(h.b2 m e).1.alloc _, (h.b2 m e).2⟩, fun m e => ⟨(h.b6 m e).1.alloc _, (h.b6 m e).2⟩, fun m e => ⟨(h.b8 m e).1.alloc _, (h.b8 m e).2⟩, fun m e => by cases e; exact ⟨At.new w _ _, h.q.size⟩,
    h.n82, h.n86, fun m k e e' => by cases e'; have := (h.b8 m e).1.lt; omega, fun m k e e' => by cases e; have := (h.b2 k e').1.lt; omega, fun m k e e' => by cases e; have := (h.b6 k e').1.lt; omega⟩
theorem Lg.put8_ {W w : World} {V : Array Value} {m2 m8 : Nat} {e6 e9 : Option Nat} {c9 : Array Value} (h : Lg W w V (some m2) e6 (some m8) e9 zC c9) : Lg W (kput w m8 4 m2) V (some m2) e6 (some m8) e9 (kC 4 m2) c9 :=
  ⟨kput_keep h.q (h.b8 m8 rfl).2 4 m2, fun m e => ⟨kput_other (h.b2 m e).1 (h.n82 m8 m rfl e) 4 m2, (h.b2 m e).2⟩, fun m e => ⟨kput_other (h.b6 m e).1 (h.n86 m8 m rfl e) 4 m2, (h.b6 m e).2⟩, fun m e => by cases e; exact ⟨kput_at (h.b8 m8 rfl).1 4 m2, (h.b8 m8 rfl).2⟩, fun m e => ⟨kput_other (h.b9 m e).1 (h.n89 m8 m rfl e) 4 m2, (h.b9 m e).2⟩,
    h.n82, h.n86, h.n89, h.n92, h.n96⟩
theorem Lg.put9_ {W w : World} {V : Array Value} {m6 m8 m9 : Nat} {e2 : Option Nat} {c8 : Array Value} (h : Lg W w V e2 (some m6) (some m8) (some m9) c8 zC) : Lg W (kput w m9 3 m6) V e2 (some m6) (some m8) (some m9) c8 (kC 3 m6) :=
  ⟨kput_keep h.q (h.b9 m9 rfl).2 3 m6, fun m e => ⟨kput_other (h.b2 m e).1 (h.n92 m9 m rfl e) 3 m6, (h.b2 m e).2⟩, fun m e => ⟨kput_other (h.b6 m e).1 (h.n96 m9 m rfl e) 3 m6, (h.b6 m e).2⟩, fun m e => by cases e; exact ⟨kput_other (h.b8 m8 rfl).1 (fun e => h.n89 m8 m9 rfl rfl e.symm) 3 m6, (h.b8 m8 rfl).2⟩, fun m e => by cases e; exact ⟨kput_at (h.b9 m9 rfl).1 3 m6, (h.b9 m9 rfl).2⟩,
    h.n82, h.n86, h.n89, h.n92, h.n96⟩
theorem Lg.par {W w : World} {t u : T} {a b : Option Addr} {c d : Nat} {m2 m6 m8 m9 : Nat} (h : Lg W w (twoC t a c u b d) (some m2) (some m6) (some m8) (some m9) (kC 4 m2) (kC 3 m6)) : Par W w t a c u b d m8 m9 m2 m6 :=
  ⟨h.q, (h.b2 m2 rfl).1, (h.b6 m6 rfl).1, (h.b8 m8 rfl).1, (h.b9 m9 rfl).1⟩
/-- What All answers of an expression that is right, at a place of the text. -/
theorem call_in (t : T) (hs : SOk t) (hr : rightB t = true) (s : List UInt8) (hsl : s.length ≤ 59) (F : Nat) (hF : F ≤ s.length) (a : Option Addr) (c : Nat) (w : World) (hL : Lie w (fun _ => True) a t.subs) (hT : Tab w) (hc : cnt t ≤ 1000000) :
    Calls Tryd.prog 7 #[nodeV t a c, .string ⟨s.toArray⟩, .int .i64 (F : Int)] w fun e w' => ∃ v, e = .returned (.tuple #[v, .int .i64 0]) ∧ IL w' v (endsI s t F) ∧ (∀ g, v.ownBlock = some g → w.heap.size ≤ g) ∧ Keep (fun _ => False) w w' := by
  have h := call_any t hs s hsl (F : Int) a c w hL hT hc
  unfold IsAll at h
  rw [allA_in hr hF, allE_in hr hF] at h
  exact h
theorem plc_at {X : List Bool} : ∀ {k : Nat} {x : Int}, x ∈ plc X k ↔ ∃ j : Nat, j < k ∧ x = j ∧ On X j
  | 0, x => by simp [plc, lst]
  | k + 1, x => by
    have ih := plc_at (X := X) (k := k) (x := x)
    rw [plc_succ]
    constructor
    · intro h
      split at h
      · rename_i hk
        rcases List.mem_append.1 h with h | h
        · obtain ⟨j, h1, h2⟩ := ih.1 h
          exact ⟨j, by omega, h2⟩
        · rw [List.mem_singleton] at h
          exact ⟨k, by omega, h, hk⟩
      · obtain ⟨j, h1, h2⟩ := ih.1 h
        exact ⟨j, by omega, h2⟩
    · rintro ⟨j, h1, h2, h3⟩
      by_cases hj : j = k
      · subst hj
        rw [if_pos (show X.getD j false = true from h3)]
        exact List.mem_append.2 (.inr (List.mem_singleton.2 h2))
      · have := ih.2 ⟨j, by omega, h2, h3⟩
        split
        · exact List.mem_append.2 (.inl this)
        · exact this
theorem On.set {X : List Bool} {k : Nat} (hk : k < X.length) (j : Nat) : On (X.set k true) j ↔ On X j ∨ j = k := by
  unfold On
  rw [List.getD_eq_getElem?_getD, List.getD_eq_getElem?_getD, List.getElem?_set]
  by_cases e : k = j
  · subst e
    rw [if_pos rfl, if_pos hk]
    simp
  · rw [if_neg e]
    constructor
    · exact fun h => .inl h
    · rintro (h | h)
      · exact h
      · exact absurd h.symm e
/-- What is marked: what A says, and the first k of L. -/
def OnK (X : List Bool) (A : Nat → Prop) (L : List Int) (k : Nat) : Prop := ∀ j, On X j ↔ A j ∨ ∃ i, i < k ∧ L[i]? = some (j : Int)
theorem OnK.start {X : List Bool} {A : Nat → Prop} {L : List Int} (h : ∀ j, On X j ↔ A j) : OnK X A L 0 := fun j => by
  rw [h j]
  constructor
  · exact .inl
  · rintro (h | ⟨i, h, -⟩)
    · exact h
    · omega
theorem OnK.step {X : List Bool} {A : Nat → Prop} {L : List Int} {k m : Nat} (h : OnK X A L k) (hx : L[k]? = some (m : Int)) (hm : m < X.length) : OnK (X.set m true) A L (k + 1) := fun j => by
  rw [On.set hm, h j]
  constructor
  · rintro ((h | ⟨i, h1, h2⟩) | h)
    · exact .inl h
    · exact .inr ⟨i, by omega, h2⟩
    · subst h
      exact .inr ⟨k, by omega, hx⟩
  · rintro (h | ⟨i, h1, h2⟩)
    · exact .inl (.inl h)
    · by_cases e : i = k
      · subst e
        rw [hx] at h2
        injection h2 with h2
        exact .inr (by omega)
      · exact .inl (.inr ⟨i, by omega, h2⟩)
theorem OnK.stop {X : List Bool} {A : Nat → Prop} {L : List Int} (h : OnK X A L L.length) (j : Nat) : On X j ↔ A j ∨ (j : Int) ∈ L := by
  rw [h j, List.mem_iff_getElem?]
  constructor
  · rintro (h | ⟨i, -, h⟩)
    · exact .inl h
    · exact .inr ⟨i, h⟩
  · rintro (h | ⟨i, h⟩)
    · exact .inl h
    · exact .inr ⟨i, (List.getElem?_eq_some_iff.1 h).1, h⟩
/-- What is marked: the rows R of the first k places of L. -/
def OnB (Y : List Bool) (R : Nat → List Bool) (L : List Int) (k : Nat) : Prop := ∀ j, On Y j ↔ ∃ i m : Nat, i < k ∧ L[i]? = some (m : Int) ∧ On (R m) j
theorem OnB.start {Y : List Bool} {R : Nat → List Bool} {L : List Int} (h : ∀ j, ¬ On Y j) : OnB Y R L 0 := fun j => by
  constructor
  · exact fun h' => absurd h' (h j)
  · rintro ⟨i, m, h, -⟩
    omega
theorem OnB.step {Y Y' : List Bool} {R : Nat → List Bool} {L : List Int} {k m n : Nat} (h : OnB Y R L k) (hx : L[k]? = some (m : Int)) (hR : (R m).length = n) (h' : ∀ j, On Y' j ↔ On Y j ∨ (j : Int) ∈ plc (R m) n) : OnB Y' R L (k + 1) := fun j => by
  rw [h' j, h j, plc_at]
  constructor
  · rintro (⟨i, m', h1, h2, h3⟩ | ⟨j', h1, h2, h3⟩)
    · exact ⟨i, m', by omega, h2, h3⟩
    · have e : j = j' := by omega
      subst e
      exact ⟨k, m, by omega, hx, h3⟩
  · rintro ⟨i, m', h1, h2, h3⟩
    by_cases e : i = k
    · subst e
      rw [hx] at h2
      injection h2 with h2
      have e2 : m = m' := by omega
      subst e2
      exact .inr ⟨j, by have := h3.lt; omega, rfl, h3⟩
    · exact .inl ⟨i, m', by omega, h2, h3⟩
theorem parts_alt {s : List UInt8} {t u : T} (hP : RT 12 (altP t u)) (hA : RT 12 t) (hB : RT 12 u) {F : Nat} (hf : F ≤ s.length) {X : List Bool} (hl : X.length = s.length + 1) (h : ∀ j, On X j ↔ (j : Int) ∈ endsI s u F ∨ (j : Int) ∈ endsI s t F) : X = rowT s (altP t u) F :=
  On.ext (hl.trans (rowT_ok hP hf).1.symm) fun j => by
    rw [h j, alt_on hP hA hB hf j]
    unfold endsI
    rw [plc_at, plc_at]
    constructor
    · rintro (⟨j', h1, h2, h3⟩ | ⟨j', h1, h2, h3⟩)
      · have e : j = j' := by omega
        subst e
        exact .inr h3
      · have e : j = j' := by omega
        subst e
        exact .inl h3
    · rintro (h | h)
      · exact .inr ⟨j, by have := h.lt; rw [(rowT_ok hA hf).1] at this; exact this, rfl, h⟩
      · exact .inl ⟨j, by have := h.lt; rw [(rowT_ok hB hf).1] at this; exact this, rfl, h⟩
theorem parts_cat {s : List UInt8} {t u : T} (hP : RT 12 (catP t u)) (hA : RT 12 t) (hB : RT 12 u) {F : Nat} (hf : F ≤ s.length) {Y : List Bool} (hl : Y.length = s.length + 1) (h : OnB Y (rowT s u) (endsI s t F) (endsI s t F).length) : Y = rowT s (catP t u) F :=
  On.ext (hl.trans (rowT_ok hP hf).1.symm) fun j => by
    rw [h j, cat_on hP hA hB hf j]
    constructor
    · rintro ⟨i, m, -, h2, h3⟩
      obtain ⟨m', h4, h5, h6⟩ := plc_at.1 (List.mem_of_getElem? h2)
      have e : m = m' := by omega
      subst e
      exact ⟨m, by omega, h6, h3⟩
    · rintro ⟨m, h1, h2, h3⟩
      have hm : (m : Int) ∈ endsI s t F := plc_at.2 ⟨m, by omega, rfl, h2⟩
      obtain ⟨i, hi⟩ := List.mem_iff_getElem?.1 hm
      exact ⟨i, m, (List.getElem?_eq_some_iff.1 hi).1, hi, h3⟩
theorem cntP_le (X : List Bool) : ∀ k, cntP X k ≤ k
  | 0 => Nat.le_refl 0
  | k + 1 => by
    have := cntP_le X k
    rw [cntP]
    split <;> omega

set_option maxRecDepth 100000 in
set_option maxHeartbeats 400000000 in
theorem law_parts (t u : T) (a : Option Addr) (c : Nat) (b : Option Addr) (d : Nat) (w : World) (hta : Lie w (fun _ => True) a t.subs) (hcl : t.subs.length ≤ c) (ht : cnt t ≤ 400000000) (hst : SOk t) (hub : Lie w (fun _ => True) b u.subs) (hdl : u.subs.length ≤ d) (hu : cnt u ≤ 400000000) (hsu : SOk u) (hTab : Tab w) (s : List UInt8) (f : Int) :
    Calls Tryd.prog 3 #[nodeV t a c, nodeV u b d, .string ⟨s.toArray⟩, .int .i64 f] w fun e w' => e = .returned (.bool true) ∧ Keep (fun _ => False) w w' := by
  have HTab := Lib.hid hTab
  clear hTab
  have hsz := P07.size_str s
  have q := ((Keep.refl (fun _ => False) w).alloc (.cells (ncells t a c) 27)).alloc (.cells (ncells u b d) 27)
  have a1 := (At.new w (ncells t a c) 27).alloc (.cells (ncells u b d) 27)
  have a2 := At.new (w.alloc (.cells (ncells t a c) 27)) (ncells u b d) 27
  rw [show (w.alloc (.cells (ncells t a c) 27)).heap.size = w.heap.size + 1 from by simp] at a2
  have H0 := Lib.hid (And.intro q (And.intro (hta.keepF q) (And.intro (hub.keepF q) (And.intro a1 a2))))
  have hsA : SOk (.nd 4 ST.none 0 0 [t, u]) := by rw [SOk, SOkL, SOkL, SOkL]; exact ⟨ST.none_ok, hst, hsu, trivial⟩
  have hsC : SOk (.nd 3 ST.none 0 0 [t, u]) := by rw [SOk, SOkL, SOkL, SOkL]; exact ⟨ST.none_ok, hst, hsu, trivial⟩
  have hcA : cnt (.nd 4 ST.none 0 0 [t, u]) ≤ 1000000000 := by rw [cnt, cntL, cntL, cntL]; omega
  have hcC : cnt (.nd 3 ST.none 0 0 [t, u]) ≤ 1000000000 := by rw [cnt, cntL, cntL, cntL]; omega
  have HCT := Lib.hid (And.intro hsA (And.intro hsC (And.intro hcA (And.intro hcC (And.intro hcl hdl)))))
  have HSO := Lib.hid (And.intro hst hsu)
  clear q hta hcl ht hst hub hdl hu hsu a1 a2 hsA hsC hcA hcC
  go_enter Tryd.func3, Tryd.ntmps3
  go_upto_region 1 with fail
  have hszW : ((w.alloc (.cells (ncells t a c) 27)).alloc (.cells (ncells u b d) 27)).heap.size = w.heap.size + 2 := by simp
  generalize ((w.alloc (.cells (ncells t a c) 27)).alloc (.cells (ncells u b d) 27)) = W at *
  have hS : ∀ w', Keep (fun _ => False) W w' → Keep (fun _ => False) W w' ∧ w'.cell? ⟨w.heap.size, 0, none⟩ = some (.int .i64 t.kind) ∧ w'.cell? ⟨w.heap.size, 1, none⟩ = some (.int .u64 t.set.x0) ∧ w'.cell? ⟨w.heap.size, 2, none⟩ = some (.int .u64 t.set.x1) ∧ w'.cell? ⟨w.heap.size, 3, none⟩ = some (.int .u64 t.set.x2) ∧ w'.cell? ⟨w.heap.size, 4, none⟩ = some (.int .u64 t.set.x3) ∧ w'.cell? ⟨w.heap.size, 5, none⟩ = some (.int .i64 t.mn) ∧ w'.cell? ⟨w.heap.size, 6, none⟩ = some (.int .i64 t.mx) ∧ w'.cell? ⟨w.heap.size, 7, none⟩ = some (.slice a t.subs.length c) ∧ w'.cell? ⟨(w.heap.size + 1), 0, none⟩ = some (.int .i64 u.kind) ∧ w'.cell? ⟨(w.heap.size + 1), 1, none⟩ = some (.int .u64 u.set.x0) ∧ w'.cell? ⟨(w.heap.size + 1), 2, none⟩ = some (.int .u64 u.set.x1) ∧ w'.cell? ⟨(w.heap.size + 1), 3, none⟩ = some (.int .u64 u.set.x2) ∧ w'.cell? ⟨(w.heap.size + 1), 4, none⟩ = some (.int .u64 u.set.x3) ∧ w'.cell? ⟨(w.heap.size + 1), 5, none⟩ = some (.int .i64 u.mn) ∧ w'.cell? ⟨(w.heap.size + 1), 6, none⟩ = some (.int .i64 u.mx) ∧ w'.cell? ⟨(w.heap.size + 1), 7, none⟩ = some (.slice b u.subs.length d) := fun w' q' => by
    obtain ⟨⟨x0, x1, x2, x3, x4, x5, x6, x7⟩, -⟩ := cells8 (H0.out.2.2.2.1.keep q' (fun h => h))
    obtain ⟨⟨y0, y1, y2, y3, y4, y5, y6, y7⟩, -⟩ := cells8 (H0.out.2.2.2.2.keep q' (fun h => h))
    exact ⟨q', x0, x1, x2, x3, x4, x5, x6, x7, y0, y1, y2, y3, y4, y5, y6, y7⟩
  have HS := Lib.hid hS
  clear hS
  go_wp2_with fail
  go_cut [9, 10] (fun v5 v6 wx => ∃ p5 p6 s1 s2, v5 = .pointer (some ⟨p5, 0, none⟩) ∧ v6 = .pointer (some ⟨p6, 0, none⟩) ∧ Par W wx t a c u b d p5 p6 s1 s2)
  case first => as_aux_lemma =>
    refine wp_region_noPanic ?_
    refine wp_region_held_drew (S := (fun w' => Keep (fun _ => False) W w' ∧ w'.cell? ⟨w.heap.size, 0, none⟩ = some (.int .i64 t.kind) ∧ w'.cell? ⟨w.heap.size, 1, none⟩ = some (.int .u64 t.set.x0) ∧ w'.cell? ⟨w.heap.size, 2, none⟩ = some (.int .u64 t.set.x1) ∧ w'.cell? ⟨w.heap.size, 3, none⟩ = some (.int .u64 t.set.x2) ∧ w'.cell? ⟨w.heap.size, 4, none⟩ = some (.int .u64 t.set.x3) ∧ w'.cell? ⟨w.heap.size, 5, none⟩ = some (.int .i64 t.mn) ∧ w'.cell? ⟨w.heap.size, 6, none⟩ = some (.int .i64 t.mx) ∧ w'.cell? ⟨w.heap.size, 7, none⟩ = some (.slice a t.subs.length c) ∧ w'.cell? ⟨(w.heap.size + 1), 0, none⟩ = some (.int .i64 u.kind) ∧ w'.cell? ⟨(w.heap.size + 1), 1, none⟩ = some (.int .u64 u.set.x0) ∧ w'.cell? ⟨(w.heap.size + 1), 2, none⟩ = some (.int .u64 u.set.x1) ∧ w'.cell? ⟨(w.heap.size + 1), 3, none⟩ = some (.int .u64 u.set.x2) ∧ w'.cell? ⟨(w.heap.size + 1), 4, none⟩ = some (.int .u64 u.set.x3) ∧ w'.cell? ⟨(w.heap.size + 1), 5, none⟩ = some (.int .i64 u.mn) ∧ w'.cell? ⟨(w.heap.size + 1), 6, none⟩ = some (.int .i64 u.mx) ∧ w'.cell? ⟨(w.heap.size + 1), 7, none⟩ = some (.slice b u.subs.length d))) (by kernel_rfl) ?_ (fun hHeld => ?_)
    · exact HS.out _ ((Keep.refl _ _).drew)
    have HL := Lib.hid (Lg.start ((Keep.refl (fun _ => False) W).drew) (twoC t a c u b d))
    generalize W.drew = X0 at *
    refine wpAnyH_take (i := 0) (oi := ⟨_,_,_,_,_,_⟩) (v := ?_) rfl (by kernel_rfl) (by kernel_rfl) (by kernel_rfl) (fun _ _ _ h => h) (Or.inl ⟨by rfl, ?_⟩) (by assumption) ?_
    rotate_left 1
    · (intro w hSw; (try dsimp only at hSw); go_simp; first | done | with_reducible rfl)
    try simp only [Act.put, List.setIfInBounds_toArray, List.set_cons_zero, List.set_cons_succ]
    refine wpAnyH_take (i := 1) (oi := ⟨_,_,_,_,_,_⟩) (v := ?_) rfl (by kernel_rfl) (by kernel_rfl) (by kernel_rfl) (fun _ _ _ h => h) (Or.inl ⟨by rfl, ?_⟩) (by assumption) ?_
    rotate_left 1
    · (intro w hSw; (try dsimp only at hSw); go_simp; first | done | with_reducible rfl)
    try simp only [Act.put, List.setIfInBounds_toArray, List.set_cons_zero, List.set_cons_succ]
    refine wpAnyH_take (i := 4) (oi := ⟨_,_,_,_,_,_⟩) (v := ?_) rfl (by kernel_rfl) (by kernel_rfl) (by kernel_rfl) (fun _ _ _ h => h) (Or.inl ⟨by rfl, ?_⟩) (by assumption) ?_
    rotate_left 1
    · (intro w hSw; (try dsimp only at hSw); go_simp; first | done | with_reducible rfl)
    try simp only [Act.put, List.setIfInBounds_toArray, List.set_cons_zero, List.set_cons_succ]
    refine wpAnyH_take (i := 5) (oi := ⟨_,_,_,_,_,_⟩) (v := ?_) rfl (by kernel_rfl) (by kernel_rfl) (by kernel_rfl) (fun _ _ _ h => h) (Or.inl ⟨by rfl, ?_⟩) (by assumption) ?_
    rotate_left 1
    · (intro w hSw; (try dsimp only at hSw); go_simp; first | done | with_reducible rfl)
    try simp only [Act.put, List.setIfInBounds_toArray, List.set_cons_zero, List.set_cons_succ]
    refine wpAnyH_ready (rs := [2, 6, 8, 9]) (by kernel_rfl) (by simp) ?_
    refine (AllReadyH.cons (o := { dst := some 38, op := Go.Op.buildSlice 25 2 #[(0, Go.Operand.tmp 36), (1, Go.Operand.tmp 37)], type := 25, pos := "law.go:113", after := #[{ on := 0, ground := Go.Ground.data }, { on := 1, ground := Go.Ground.data }], guard := none }) rfl (fun K hK => ?_) (AllReadyH.cons (o := { dst := some 42, op := Go.Op.buildSlice 25 2 #[(0, Go.Operand.tmp 40), (1, Go.Operand.tmp 41)], type := 25, pos := "law.go:113", after := #[{ on := 4, ground := Go.Ground.data }, { on := 5, ground := Go.Ground.data }, { on := 10, ground := Go.Ground.gcOnly Go.Departure.lateStores }], guard := none }) rfl (fun K hK => ?_) (AllReadyH.cons (o := { dst := some 9, op := Go.Op.alloc 27, type := 0, pos := "law.go:113", after := #[], guard := none }) rfl (fun K hK => ?_) (AllReadyH.cons (o := { dst := some 10, op := Go.Op.alloc 27, type := 0, pos := "law.go:113", after := #[], guard := none }) rfl (fun K hK => ?_) AllReadyH.nil))))
    · as_aux_lemma =>
        refine step_two t a c u b d 36 37 (by kernel_rfl) rfl rfl rfl ?_
        refine hK.out _ _ ?_ (fun hHeld' => ?_)
        · exact HS.out _ (Keep.alloc (And.left hHeld) _)
        clear hK K hHeld
        have hHeld := hHeld'
        clear hHeld'
        have HL' := Lib.hid HL.out.alloc2
        clear HL
        have HL := HL'
        clear HL'
        generalize World.alloc X0 _ = X1 at *
        generalize X0.heap.size = m2 at *
        try simp only [Act.put, List.setIfInBounds_toArray, List.set_cons_zero, List.set_cons_succ]
        refine wpAnyH_take (i := 3) (oi := ⟨_,_,_,_,_,_⟩) (v := ?_) rfl (by kernel_rfl) (by kernel_rfl) (by kernel_rfl) (fun _ _ _ h => h) (Or.inl ⟨by rfl, ?_⟩) (by assumption) ?_
        rotate_left 1
        · (intro w hSw; (try dsimp only at hSw); go_simp; first | done | with_reducible rfl)
        try simp only [Act.put, List.setIfInBounds_toArray, List.set_cons_zero, List.set_cons_succ]
        refine wpAnyH_ready (rs := [6, 8, 9]) (by kernel_rfl) (by simp) ?_
        refine (AllReadyH.cons (o := { dst := some 42, op := Go.Op.buildSlice 25 2 #[(0, Go.Operand.tmp 40), (1, Go.Operand.tmp 41)], type := 25, pos := "law.go:113", after := #[{ on := 4, ground := Go.Ground.data }, { on := 5, ground := Go.Ground.data }, { on := 10, ground := Go.Ground.gcOnly Go.Departure.lateStores }], guard := none }) rfl (fun K hK => ?_) (AllReadyH.cons (o := { dst := some 9, op := Go.Op.alloc 27, type := 0, pos := "law.go:113", after := #[], guard := none }) rfl (fun K hK => ?_) (AllReadyH.cons (o := { dst := some 10, op := Go.Op.alloc 27, type := 0, pos := "law.go:113", after := #[], guard := none }) rfl (fun K hK => ?_) AllReadyH.nil)))
        · as_aux_lemma =>
            refine step_two t a c u b d 40 41 (by kernel_rfl) rfl rfl rfl ?_
            refine hK.out _ _ ?_ (fun hHeld' => ?_)
            · exact HS.out _ (Keep.alloc (And.left hHeld) _)
            clear hK K hHeld
            have hHeld := hHeld'
            clear hHeld'
            have HL' := Lib.hid HL.out.alloc6
            clear HL
            have HL := HL'
            clear HL'
            generalize World.alloc X1 _ = X2 at *
            generalize X1.heap.size = m6 at *
            try simp only [Act.put, List.setIfInBounds_toArray, List.set_cons_zero, List.set_cons_succ]
            refine wpAnyH_take (i := 7) (oi := ⟨_,_,_,_,_,_⟩) (v := ?_) rfl (by kernel_rfl) (by kernel_rfl) (by kernel_rfl) (fun _ _ _ h => h) (Or.inl ⟨by rfl, ?_⟩) (by assumption) ?_
            rotate_left 1
            · (intro w hSw; (try dsimp only at hSw); go_simp; first | done | with_reducible rfl)
            try simp only [Act.put, List.setIfInBounds_toArray, List.set_cons_zero, List.set_cons_succ]
            refine wpAnyH_ready (rs := [8, 9]) (by kernel_rfl) (by simp) ?_
            refine (AllReadyH.cons (o := { dst := some 9, op := Go.Op.alloc 27, type := 0, pos := "law.go:113", after := #[], guard := none }) rfl (fun K hK => ?_) (AllReadyH.cons (o := { dst := some 10, op := Go.Op.alloc 27, type := 0, pos := "law.go:113", after := #[], guard := none }) rfl (fun K hK => ?_) AllReadyH.nil))
            · go_simp
              refine hK.out _ _ ?_ (fun hHeld' => ?_)
              · exact HS.out _ (Keep.alloc (And.left hHeld) _)
              clear hK K hHeld
              have hHeld := hHeld'
              clear hHeld'
              have HL' := Lib.hid HL.out.alloc8
              clear HL
              have HL := HL'
              clear HL'
              generalize World.alloc X2 _ = X3 at *
              generalize X2.heap.size = m8 at *
              try simp only [Act.put, List.setIfInBounds_toArray, List.set_cons_zero, List.set_cons_succ]
              refine wpAnyH_ready (rs := [9]) (by kernel_rfl) (by simp) ?_
              refine (AllReadyH.cons (o := { dst := some 10, op := Go.Op.alloc 27, type := 0, pos := "law.go:113", after := #[], guard := none }) rfl (fun K hK => ?_) AllReadyH.nil)
              go_simp
              refine hK.out _ _ ?_ (fun hHeld' => ?_)
              · exact HS.out _ (Keep.alloc (And.left hHeld) _)
              clear hK K hHeld
              have hHeld := hHeld'
              clear hHeld'
              have HL' := Lib.hid HL.out.alloc9
              clear HL
              have HL := HL'
              clear HL'
              generalize World.alloc X3 _ = X4 at *
              generalize X3.heap.size = m9 at *
              try simp only [Act.put, List.setIfInBounds_toArray, List.set_cons_zero, List.set_cons_succ]
              refine wpAnyH_ready (rs := [10]) (by kernel_rfl) (by simp) ?_
              refine (AllReadyH.cons (o := { dst := none, op := Go.Op.store 27 (Go.Operand.tmp 9) (Go.Operand.tmp 39), type := 0, pos := "law.go:113", after := #[{ on := 8, ground := Go.Ground.data }, { on := 3, ground := Go.Ground.data }, { on := 0, ground := Go.Ground.phase }, { on := 1, ground := Go.Ground.phase }, { on := 2, ground := Go.Ground.phase }, { on := 3, ground := Go.Ground.phase }, { on := 4, ground := Go.Ground.textOnly Go.Departure.lateStores }, { on := 5, ground := Go.Ground.textOnly Go.Departure.lateStores }, { on := 6, ground := Go.Ground.textOnly Go.Departure.lateStores }, { on := 7, ground := Go.Ground.textOnly Go.Departure.lateStores }, { on := 8, ground := Go.Ground.phase }, { on := 9, ground := Go.Ground.phase }], guard := none }) rfl (fun K hK => ?_) AllReadyH.nil)
              refine step_put 4 m2 m8 9 39 (HL.out.b8 m8 rfl).1 (by kernel_rfl) rfl rfl rfl ?_
              refine hK.out _ _ ?_ (fun hHeld' => ?_)
              · exact HS.out _ (kput_keep (And.left hHeld) (HL.out.b8 m8 rfl).2 4 m2)
              clear hK K hHeld
              have hHeld := hHeld'
              clear hHeld'
              have HL' := Lib.hid HL.out.put8_
              clear HL
              have HL := HL'
              clear HL'
              generalize kput X4 m8 4 m2 = X5 at *
              try simp only [Act.put]
              refine wpAnyH_ready (rs := [11]) (by kernel_rfl) (by simp) ?_
              refine (AllReadyH.cons (o := { dst := none, op := Go.Op.store 27 (Go.Operand.tmp 10) (Go.Operand.tmp 43), type := 0, pos := "law.go:113", after := #[{ on := 9, ground := Go.Ground.data }, { on := 7, ground := Go.Ground.data }, { on := 10, ground := Go.Ground.chain }, { on := 0, ground := Go.Ground.phase }, { on := 1, ground := Go.Ground.phase }, { on := 2, ground := Go.Ground.phase }, { on := 3, ground := Go.Ground.phase }, { on := 4, ground := Go.Ground.phase }, { on := 5, ground := Go.Ground.phase }, { on := 6, ground := Go.Ground.phase }, { on := 7, ground := Go.Ground.phase }, { on := 8, ground := Go.Ground.phase }, { on := 9, ground := Go.Ground.phase }, { on := 10, ground := Go.Ground.phase }], guard := none }) rfl (fun K hK => ?_) AllReadyH.nil)
              refine step_put 3 m6 m9 10 43 (HL.out.b9 m9 rfl).1 (by kernel_rfl) rfl rfl rfl ?_
              refine hK.out _ _ ?_ (fun hHeld' => ?_)
              · exact HS.out _ (kput_keep (And.left hHeld) (HL.out.b9 m9 rfl).2 3 m6)
              clear hK K hHeld
              have hHeld := hHeld'
              clear hHeld'
              have HL' := Lib.hid HL.out.put9_
              clear HL
              have HL := HL'
              clear HL'
              generalize kput X5 m9 3 m6 = X6 at *
              try simp only [Act.put]
              refine wpAnyH_done (by kernel_rfl) ?_ _
              refine NoPanic.normal ?_
              have HPR := Lib.hid (HL.out.par)
              clear hHeld HL
              go_wp2_with fail
              go_meet
              case rel => exact ⟨m8, m9, m2, m6, rfl, rfl, HPR.out⟩
            · go_simp
              refine hK.out _ _ ?_ (fun hHeld' => ?_)
              · exact HS.out _ (Keep.alloc (And.left hHeld) _)
              clear hK K hHeld
              have hHeld := hHeld'
              clear hHeld'
              have HL' := Lib.hid HL.out.alloc9
              clear HL
              have HL := HL'
              clear HL'
              generalize World.alloc X2 _ = X3 at *
              generalize X2.heap.size = m9 at *
              try simp only [Act.put, List.setIfInBounds_toArray, List.set_cons_zero, List.set_cons_succ]
              refine wpAnyH_ready (rs := [8]) (by kernel_rfl) (by simp) ?_
              refine (AllReadyH.cons (o := { dst := some 9, op := Go.Op.alloc 27, type := 0, pos := "law.go:113", after := #[], guard := none }) rfl (fun K hK => ?_) AllReadyH.nil)
              go_simp
              refine hK.out _ _ ?_ (fun hHeld' => ?_)
              · exact HS.out _ (Keep.alloc (And.left hHeld) _)
              clear hK K hHeld
              have hHeld := hHeld'
              clear hHeld'
              have HL' := Lib.hid HL.out.alloc8
              clear HL
              have HL := HL'
              clear HL'
              generalize World.alloc X3 _ = X4 at *
              generalize X3.heap.size = m8 at *
              try simp only [Act.put, List.setIfInBounds_toArray, List.set_cons_zero, List.set_cons_succ]
              refine wpAnyH_ready (rs := [10]) (by kernel_rfl) (by simp) ?_
              refine (AllReadyH.cons (o := { dst := none, op := Go.Op.store 27 (Go.Operand.tmp 9) (Go.Operand.tmp 39), type := 0, pos := "law.go:113", after := #[{ on := 8, ground := Go.Ground.data }, { on := 3, ground := Go.Ground.data }, { on := 0, ground := Go.Ground.phase }, { on := 1, ground := Go.Ground.phase }, { on := 2, ground := Go.Ground.phase }, { on := 3, ground := Go.Ground.phase }, { on := 4, ground := Go.Ground.textOnly Go.Departure.lateStores }, { on := 5, ground := Go.Ground.textOnly Go.Departure.lateStores }, { on := 6, ground := Go.Ground.textOnly Go.Departure.lateStores }, { on := 7, ground := Go.Ground.textOnly Go.Departure.lateStores }, { on := 8, ground := Go.Ground.phase }, { on := 9, ground := Go.Ground.phase }], guard := none }) rfl (fun K hK => ?_) AllReadyH.nil)
              refine step_put 4 m2 m8 9 39 (HL.out.b8 m8 rfl).1 (by kernel_rfl) rfl rfl rfl ?_
              refine hK.out _ _ ?_ (fun hHeld' => ?_)
              · exact HS.out _ (kput_keep (And.left hHeld) (HL.out.b8 m8 rfl).2 4 m2)
              clear hK K hHeld
              have hHeld := hHeld'
              clear hHeld'
              have HL' := Lib.hid HL.out.put8_
              clear HL
              have HL := HL'
              clear HL'
              generalize kput X4 m8 4 m2 = X5 at *
              try simp only [Act.put]
              refine wpAnyH_ready (rs := [11]) (by kernel_rfl) (by simp) ?_
              refine (AllReadyH.cons (o := { dst := none, op := Go.Op.store 27 (Go.Operand.tmp 10) (Go.Operand.tmp 43), type := 0, pos := "law.go:113", after := #[{ on := 9, ground := Go.Ground.data }, { on := 7, ground := Go.Ground.data }, { on := 10, ground := Go.Ground.chain }, { on := 0, ground := Go.Ground.phase }, { on := 1, ground := Go.Ground.phase }, { on := 2, ground := Go.Ground.phase }, { on := 3, ground := Go.Ground.phase }, { on := 4, ground := Go.Ground.phase }, { on := 5, ground := Go.Ground.phase }, { on := 6, ground := Go.Ground.phase }, { on := 7, ground := Go.Ground.phase }, { on := 8, ground := Go.Ground.phase }, { on := 9, ground := Go.Ground.phase }, { on := 10, ground := Go.Ground.phase }], guard := none }) rfl (fun K hK => ?_) AllReadyH.nil)
              refine step_put 3 m6 m9 10 43 (HL.out.b9 m9 rfl).1 (by kernel_rfl) rfl rfl rfl ?_
              refine hK.out _ _ ?_ (fun hHeld' => ?_)
              · exact HS.out _ (kput_keep (And.left hHeld) (HL.out.b9 m9 rfl).2 3 m6)
              clear hK K hHeld
              have hHeld := hHeld'
              clear hHeld'
              have HL' := Lib.hid HL.out.put9_
              clear HL
              have HL := HL'
              clear HL'
              generalize kput X5 m9 3 m6 = X6 at *
              try simp only [Act.put]
              refine wpAnyH_done (by kernel_rfl) ?_ _
              refine NoPanic.normal ?_
              have HPR := Lib.hid (HL.out.par)
              clear hHeld HL
              go_wp2_with fail
              go_meet
              case rel => exact ⟨m8, m9, m2, m6, rfl, rfl, HPR.out⟩
        · as_aux_lemma =>
            go_simp
            refine hK.out _ _ ?_ (fun hHeld' => ?_)
            · exact HS.out _ (Keep.alloc (And.left hHeld) _)
            clear hK K hHeld
            have hHeld := hHeld'
            clear hHeld'
            have HL' := Lib.hid HL.out.alloc8
            clear HL
            have HL := HL'
            clear HL'
            generalize World.alloc X1 _ = X2 at *
            generalize X1.heap.size = m8 at *
            try simp only [Act.put, List.setIfInBounds_toArray, List.set_cons_zero, List.set_cons_succ]
            refine wpAnyH_ready (rs := [6, 9]) (by kernel_rfl) (by simp) ?_
            refine (AllReadyH.cons (o := { dst := some 42, op := Go.Op.buildSlice 25 2 #[(0, Go.Operand.tmp 40), (1, Go.Operand.tmp 41)], type := 25, pos := "law.go:113", after := #[{ on := 4, ground := Go.Ground.data }, { on := 5, ground := Go.Ground.data }, { on := 10, ground := Go.Ground.gcOnly Go.Departure.lateStores }], guard := none }) rfl (fun K hK => ?_) (AllReadyH.cons (o := { dst := some 10, op := Go.Op.alloc 27, type := 0, pos := "law.go:113", after := #[], guard := none }) rfl (fun K hK => ?_) AllReadyH.nil))
            · refine step_two t a c u b d 40 41 (by kernel_rfl) rfl rfl rfl ?_
              refine hK.out _ _ ?_ (fun hHeld' => ?_)
              · exact HS.out _ (Keep.alloc (And.left hHeld) _)
              clear hK K hHeld
              have hHeld := hHeld'
              clear hHeld'
              have HL' := Lib.hid HL.out.alloc6
              clear HL
              have HL := HL'
              clear HL'
              generalize World.alloc X2 _ = X3 at *
              generalize X2.heap.size = m6 at *
              try simp only [Act.put, List.setIfInBounds_toArray, List.set_cons_zero, List.set_cons_succ]
              refine wpAnyH_take (i := 7) (oi := ⟨_,_,_,_,_,_⟩) (v := ?_) rfl (by kernel_rfl) (by kernel_rfl) (by kernel_rfl) (fun _ _ _ h => h) (Or.inl ⟨by rfl, ?_⟩) (by assumption) ?_
              rotate_left 1
              · (intro w hSw; (try dsimp only at hSw); go_simp; first | done | with_reducible rfl)
              try simp only [Act.put, List.setIfInBounds_toArray, List.set_cons_zero, List.set_cons_succ]
              refine wpAnyH_ready (rs := [9]) (by kernel_rfl) (by simp) ?_
              refine (AllReadyH.cons (o := { dst := some 10, op := Go.Op.alloc 27, type := 0, pos := "law.go:113", after := #[], guard := none }) rfl (fun K hK => ?_) AllReadyH.nil)
              go_simp
              refine hK.out _ _ ?_ (fun hHeld' => ?_)
              · exact HS.out _ (Keep.alloc (And.left hHeld) _)
              clear hK K hHeld
              have hHeld := hHeld'
              clear hHeld'
              have HL' := Lib.hid HL.out.alloc9
              clear HL
              have HL := HL'
              clear HL'
              generalize World.alloc X3 _ = X4 at *
              generalize X3.heap.size = m9 at *
              try simp only [Act.put, List.setIfInBounds_toArray, List.set_cons_zero, List.set_cons_succ]
              refine wpAnyH_ready (rs := [10]) (by kernel_rfl) (by simp) ?_
              refine (AllReadyH.cons (o := { dst := none, op := Go.Op.store 27 (Go.Operand.tmp 9) (Go.Operand.tmp 39), type := 0, pos := "law.go:113", after := #[{ on := 8, ground := Go.Ground.data }, { on := 3, ground := Go.Ground.data }, { on := 0, ground := Go.Ground.phase }, { on := 1, ground := Go.Ground.phase }, { on := 2, ground := Go.Ground.phase }, { on := 3, ground := Go.Ground.phase }, { on := 4, ground := Go.Ground.textOnly Go.Departure.lateStores }, { on := 5, ground := Go.Ground.textOnly Go.Departure.lateStores }, { on := 6, ground := Go.Ground.textOnly Go.Departure.lateStores }, { on := 7, ground := Go.Ground.textOnly Go.Departure.lateStores }, { on := 8, ground := Go.Ground.phase }, { on := 9, ground := Go.Ground.phase }], guard := none }) rfl (fun K hK => ?_) AllReadyH.nil)
              refine step_put 4 m2 m8 9 39 (HL.out.b8 m8 rfl).1 (by kernel_rfl) rfl rfl rfl ?_
              refine hK.out _ _ ?_ (fun hHeld' => ?_)
              · exact HS.out _ (kput_keep (And.left hHeld) (HL.out.b8 m8 rfl).2 4 m2)
              clear hK K hHeld
              have hHeld := hHeld'
              clear hHeld'
              have HL' := Lib.hid HL.out.put8_
              clear HL
              have HL := HL'
              clear HL'
              generalize kput X4 m8 4 m2 = X5 at *
              try simp only [Act.put]
              refine wpAnyH_ready (rs := [11]) (by kernel_rfl) (by simp) ?_
              refine (AllReadyH.cons (o := { dst := none, op := Go.Op.store 27 (Go.Operand.tmp 10) (Go.Operand.tmp 43), type := 0, pos := "law.go:113", after := #[{ on := 9, ground := Go.Ground.data }, { on := 7, ground := Go.Ground.data }, { on := 10, ground := Go.Ground.chain }, { on := 0, ground := Go.Ground.phase }, { on := 1, ground := Go.Ground.phase }, { on := 2, ground := Go.Ground.phase }, { on := 3, ground := Go.Ground.phase }, { on := 4, ground := Go.Ground.phase }, { on := 5, ground := Go.Ground.phase }, { on := 6, ground := Go.Ground.phase }, { on := 7, ground := Go.Ground.phase }, { on := 8, ground := Go.Ground.phase }, { on := 9, ground := Go.Ground.phase }, { on := 10, ground := Go.Ground.phase }], guard := none }) rfl (fun K hK => ?_) AllReadyH.nil)
              refine step_put 3 m6 m9 10 43 (HL.out.b9 m9 rfl).1 (by kernel_rfl) rfl rfl rfl ?_
              refine hK.out _ _ ?_ (fun hHeld' => ?_)
              · exact HS.out _ (kput_keep (And.left hHeld) (HL.out.b9 m9 rfl).2 3 m6)
              clear hK K hHeld
              have hHeld := hHeld'
              clear hHeld'
              have HL' := Lib.hid HL.out.put9_
              clear HL
              have HL := HL'
              clear HL'
              generalize kput X5 m9 3 m6 = X6 at *
              try simp only [Act.put]
              refine wpAnyH_done (by kernel_rfl) ?_ _
              refine NoPanic.normal ?_
              have HPR := Lib.hid (HL.out.par)
              clear hHeld HL
              go_wp2_with fail
              go_meet
              case rel => exact ⟨m8, m9, m2, m6, rfl, rfl, HPR.out⟩
            · go_simp
              refine hK.out _ _ ?_ (fun hHeld' => ?_)
              · exact HS.out _ (Keep.alloc (And.left hHeld) _)
              clear hK K hHeld
              have hHeld := hHeld'
              clear hHeld'
              have HL' := Lib.hid HL.out.alloc9
              clear HL
              have HL := HL'
              clear HL'
              generalize World.alloc X2 _ = X3 at *
              generalize X2.heap.size = m9 at *
              try simp only [Act.put, List.setIfInBounds_toArray, List.set_cons_zero, List.set_cons_succ]
              refine wpAnyH_ready (rs := [6, 10]) (by kernel_rfl) (by simp) ?_
              refine (AllReadyH.cons (o := { dst := some 42, op := Go.Op.buildSlice 25 2 #[(0, Go.Operand.tmp 40), (1, Go.Operand.tmp 41)], type := 25, pos := "law.go:113", after := #[{ on := 4, ground := Go.Ground.data }, { on := 5, ground := Go.Ground.data }, { on := 10, ground := Go.Ground.gcOnly Go.Departure.lateStores }], guard := none }) rfl (fun K hK => ?_) (AllReadyH.cons (o := { dst := none, op := Go.Op.store 27 (Go.Operand.tmp 9) (Go.Operand.tmp 39), type := 0, pos := "law.go:113", after := #[{ on := 8, ground := Go.Ground.data }, { on := 3, ground := Go.Ground.data }, { on := 0, ground := Go.Ground.phase }, { on := 1, ground := Go.Ground.phase }, { on := 2, ground := Go.Ground.phase }, { on := 3, ground := Go.Ground.phase }, { on := 4, ground := Go.Ground.textOnly Go.Departure.lateStores }, { on := 5, ground := Go.Ground.textOnly Go.Departure.lateStores }, { on := 6, ground := Go.Ground.textOnly Go.Departure.lateStores }, { on := 7, ground := Go.Ground.textOnly Go.Departure.lateStores }, { on := 8, ground := Go.Ground.phase }, { on := 9, ground := Go.Ground.phase }], guard := none }) rfl (fun K hK => ?_) AllReadyH.nil))
              · refine step_two t a c u b d 40 41 (by kernel_rfl) rfl rfl rfl ?_
                refine hK.out _ _ ?_ (fun hHeld' => ?_)
                · exact HS.out _ (Keep.alloc (And.left hHeld) _)
                clear hK K hHeld
                have hHeld := hHeld'
                clear hHeld'
                have HL' := Lib.hid HL.out.alloc6
                clear HL
                have HL := HL'
                clear HL'
                generalize World.alloc X3 _ = X4 at *
                generalize X3.heap.size = m6 at *
                try simp only [Act.put, List.setIfInBounds_toArray, List.set_cons_zero, List.set_cons_succ]
                refine wpAnyH_take (i := 7) (oi := ⟨_,_,_,_,_,_⟩) (v := ?_) rfl (by kernel_rfl) (by kernel_rfl) (by kernel_rfl) (fun _ _ _ h => h) (Or.inl ⟨by rfl, ?_⟩) (by assumption) ?_
                rotate_left 1
                · (intro w hSw; (try dsimp only at hSw); go_simp; first | done | with_reducible rfl)
                try simp only [Act.put, List.setIfInBounds_toArray, List.set_cons_zero, List.set_cons_succ]
                refine wpAnyH_ready (rs := [10]) (by kernel_rfl) (by simp) ?_
                refine (AllReadyH.cons (o := { dst := none, op := Go.Op.store 27 (Go.Operand.tmp 9) (Go.Operand.tmp 39), type := 0, pos := "law.go:113", after := #[{ on := 8, ground := Go.Ground.data }, { on := 3, ground := Go.Ground.data }, { on := 0, ground := Go.Ground.phase }, { on := 1, ground := Go.Ground.phase }, { on := 2, ground := Go.Ground.phase }, { on := 3, ground := Go.Ground.phase }, { on := 4, ground := Go.Ground.textOnly Go.Departure.lateStores }, { on := 5, ground := Go.Ground.textOnly Go.Departure.lateStores }, { on := 6, ground := Go.Ground.textOnly Go.Departure.lateStores }, { on := 7, ground := Go.Ground.textOnly Go.Departure.lateStores }, { on := 8, ground := Go.Ground.phase }, { on := 9, ground := Go.Ground.phase }], guard := none }) rfl (fun K hK => ?_) AllReadyH.nil)
                refine step_put 4 m2 m8 9 39 (HL.out.b8 m8 rfl).1 (by kernel_rfl) rfl rfl rfl ?_
                refine hK.out _ _ ?_ (fun hHeld' => ?_)
                · exact HS.out _ (kput_keep (And.left hHeld) (HL.out.b8 m8 rfl).2 4 m2)
                clear hK K hHeld
                have hHeld := hHeld'
                clear hHeld'
                have HL' := Lib.hid HL.out.put8_
                clear HL
                have HL := HL'
                clear HL'
                generalize kput X4 m8 4 m2 = X5 at *
                try simp only [Act.put]
                refine wpAnyH_ready (rs := [11]) (by kernel_rfl) (by simp) ?_
                refine (AllReadyH.cons (o := { dst := none, op := Go.Op.store 27 (Go.Operand.tmp 10) (Go.Operand.tmp 43), type := 0, pos := "law.go:113", after := #[{ on := 9, ground := Go.Ground.data }, { on := 7, ground := Go.Ground.data }, { on := 10, ground := Go.Ground.chain }, { on := 0, ground := Go.Ground.phase }, { on := 1, ground := Go.Ground.phase }, { on := 2, ground := Go.Ground.phase }, { on := 3, ground := Go.Ground.phase }, { on := 4, ground := Go.Ground.phase }, { on := 5, ground := Go.Ground.phase }, { on := 6, ground := Go.Ground.phase }, { on := 7, ground := Go.Ground.phase }, { on := 8, ground := Go.Ground.phase }, { on := 9, ground := Go.Ground.phase }, { on := 10, ground := Go.Ground.phase }], guard := none }) rfl (fun K hK => ?_) AllReadyH.nil)
                refine step_put 3 m6 m9 10 43 (HL.out.b9 m9 rfl).1 (by kernel_rfl) rfl rfl rfl ?_
                refine hK.out _ _ ?_ (fun hHeld' => ?_)
                · exact HS.out _ (kput_keep (And.left hHeld) (HL.out.b9 m9 rfl).2 3 m6)
                clear hK K hHeld
                have hHeld := hHeld'
                clear hHeld'
                have HL' := Lib.hid HL.out.put9_
                clear HL
                have HL := HL'
                clear HL'
                generalize kput X5 m9 3 m6 = X6 at *
                try simp only [Act.put]
                refine wpAnyH_done (by kernel_rfl) ?_ _
                refine NoPanic.normal ?_
                have HPR := Lib.hid (HL.out.par)
                clear hHeld HL
                go_wp2_with fail
                go_meet
                case rel => exact ⟨m8, m9, m2, m6, rfl, rfl, HPR.out⟩
              · refine step_put 4 m2 m8 9 39 (HL.out.b8 m8 rfl).1 (by kernel_rfl) rfl rfl rfl ?_
                refine hK.out _ _ ?_ (fun hHeld' => ?_)
                · exact HS.out _ (kput_keep (And.left hHeld) (HL.out.b8 m8 rfl).2 4 m2)
                clear hK K hHeld
                have hHeld := hHeld'
                clear hHeld'
                have HL' := Lib.hid HL.out.put8_
                clear HL
                have HL := HL'
                clear HL'
                generalize kput X3 m8 4 m2 = X4 at *
                try simp only [Act.put]
                refine wpAnyH_ready (rs := [6]) (by kernel_rfl) (by simp) ?_
                refine (AllReadyH.cons (o := { dst := some 42, op := Go.Op.buildSlice 25 2 #[(0, Go.Operand.tmp 40), (1, Go.Operand.tmp 41)], type := 25, pos := "law.go:113", after := #[{ on := 4, ground := Go.Ground.data }, { on := 5, ground := Go.Ground.data }, { on := 10, ground := Go.Ground.gcOnly Go.Departure.lateStores }], guard := none }) rfl (fun K hK => ?_) AllReadyH.nil)
                refine step_two t a c u b d 40 41 (by kernel_rfl) rfl rfl rfl ?_
                refine hK.out _ _ ?_ (fun hHeld' => ?_)
                · exact HS.out _ (Keep.alloc (And.left hHeld) _)
                clear hK K hHeld
                have hHeld := hHeld'
                clear hHeld'
                have HL' := Lib.hid HL.out.alloc6
                clear HL
                have HL := HL'
                clear HL'
                generalize World.alloc X4 _ = X5 at *
                generalize X4.heap.size = m6 at *
                try simp only [Act.put, List.setIfInBounds_toArray, List.set_cons_zero, List.set_cons_succ]
                refine wpAnyH_take (i := 7) (oi := ⟨_,_,_,_,_,_⟩) (v := ?_) rfl (by kernel_rfl) (by kernel_rfl) (by kernel_rfl) (fun _ _ _ h => h) (Or.inl ⟨by rfl, ?_⟩) (by assumption) ?_
                rotate_left 1
                · (intro w hSw; (try dsimp only at hSw); go_simp; first | done | with_reducible rfl)
                try simp only [Act.put, List.setIfInBounds_toArray, List.set_cons_zero, List.set_cons_succ]
                refine wpAnyH_ready (rs := [11]) (by kernel_rfl) (by simp) ?_
                refine (AllReadyH.cons (o := { dst := none, op := Go.Op.store 27 (Go.Operand.tmp 10) (Go.Operand.tmp 43), type := 0, pos := "law.go:113", after := #[{ on := 9, ground := Go.Ground.data }, { on := 7, ground := Go.Ground.data }, { on := 10, ground := Go.Ground.chain }, { on := 0, ground := Go.Ground.phase }, { on := 1, ground := Go.Ground.phase }, { on := 2, ground := Go.Ground.phase }, { on := 3, ground := Go.Ground.phase }, { on := 4, ground := Go.Ground.phase }, { on := 5, ground := Go.Ground.phase }, { on := 6, ground := Go.Ground.phase }, { on := 7, ground := Go.Ground.phase }, { on := 8, ground := Go.Ground.phase }, { on := 9, ground := Go.Ground.phase }, { on := 10, ground := Go.Ground.phase }], guard := none }) rfl (fun K hK => ?_) AllReadyH.nil)
                refine step_put 3 m6 m9 10 43 (HL.out.b9 m9 rfl).1 (by kernel_rfl) rfl rfl rfl ?_
                refine hK.out _ _ ?_ (fun hHeld' => ?_)
                · exact HS.out _ (kput_keep (And.left hHeld) (HL.out.b9 m9 rfl).2 3 m6)
                clear hK K hHeld
                have hHeld := hHeld'
                clear hHeld'
                have HL' := Lib.hid HL.out.put9_
                clear HL
                have HL := HL'
                clear HL'
                generalize kput X5 m9 3 m6 = X6 at *
                try simp only [Act.put]
                refine wpAnyH_done (by kernel_rfl) ?_ _
                refine NoPanic.normal ?_
                have HPR := Lib.hid (HL.out.par)
                clear hHeld HL
                go_wp2_with fail
                go_meet
                case rel => exact ⟨m8, m9, m2, m6, rfl, rfl, HPR.out⟩
        · as_aux_lemma =>
            go_simp
            refine hK.out _ _ ?_ (fun hHeld' => ?_)
            · exact HS.out _ (Keep.alloc (And.left hHeld) _)
            clear hK K hHeld
            have hHeld := hHeld'
            clear hHeld'
            have HL' := Lib.hid HL.out.alloc9
            clear HL
            have HL := HL'
            clear HL'
            generalize World.alloc X1 _ = X2 at *
            generalize X1.heap.size = m9 at *
            try simp only [Act.put, List.setIfInBounds_toArray, List.set_cons_zero, List.set_cons_succ]
            refine wpAnyH_ready (rs := [6, 8]) (by kernel_rfl) (by simp) ?_
            refine (AllReadyH.cons (o := { dst := some 42, op := Go.Op.buildSlice 25 2 #[(0, Go.Operand.tmp 40), (1, Go.Operand.tmp 41)], type := 25, pos := "law.go:113", after := #[{ on := 4, ground := Go.Ground.data }, { on := 5, ground := Go.Ground.data }, { on := 10, ground := Go.Ground.gcOnly Go.Departure.lateStores }], guard := none }) rfl (fun K hK => ?_) (AllReadyH.cons (o := { dst := some 9, op := Go.Op.alloc 27, type := 0, pos := "law.go:113", after := #[], guard := none }) rfl (fun K hK => ?_) AllReadyH.nil))
            · refine step_two t a c u b d 40 41 (by kernel_rfl) rfl rfl rfl ?_
              refine hK.out _ _ ?_ (fun hHeld' => ?_)
              · exact HS.out _ (Keep.alloc (And.left hHeld) _)
              clear hK K hHeld
              have hHeld := hHeld'
              clear hHeld'
              have HL' := Lib.hid HL.out.alloc6
              clear HL
              have HL := HL'
              clear HL'
              generalize World.alloc X2 _ = X3 at *
              generalize X2.heap.size = m6 at *
              try simp only [Act.put, List.setIfInBounds_toArray, List.set_cons_zero, List.set_cons_succ]
              refine wpAnyH_take (i := 7) (oi := ⟨_,_,_,_,_,_⟩) (v := ?_) rfl (by kernel_rfl) (by kernel_rfl) (by kernel_rfl) (fun _ _ _ h => h) (Or.inl ⟨by rfl, ?_⟩) (by assumption) ?_
              rotate_left 1
              · (intro w hSw; (try dsimp only at hSw); go_simp; first | done | with_reducible rfl)
              try simp only [Act.put, List.setIfInBounds_toArray, List.set_cons_zero, List.set_cons_succ]
              refine wpAnyH_ready (rs := [8]) (by kernel_rfl) (by simp) ?_
              refine (AllReadyH.cons (o := { dst := some 9, op := Go.Op.alloc 27, type := 0, pos := "law.go:113", after := #[], guard := none }) rfl (fun K hK => ?_) AllReadyH.nil)
              go_simp
              refine hK.out _ _ ?_ (fun hHeld' => ?_)
              · exact HS.out _ (Keep.alloc (And.left hHeld) _)
              clear hK K hHeld
              have hHeld := hHeld'
              clear hHeld'
              have HL' := Lib.hid HL.out.alloc8
              clear HL
              have HL := HL'
              clear HL'
              generalize World.alloc X3 _ = X4 at *
              generalize X3.heap.size = m8 at *
              try simp only [Act.put, List.setIfInBounds_toArray, List.set_cons_zero, List.set_cons_succ]
              refine wpAnyH_ready (rs := [10]) (by kernel_rfl) (by simp) ?_
              refine (AllReadyH.cons (o := { dst := none, op := Go.Op.store 27 (Go.Operand.tmp 9) (Go.Operand.tmp 39), type := 0, pos := "law.go:113", after := #[{ on := 8, ground := Go.Ground.data }, { on := 3, ground := Go.Ground.data }, { on := 0, ground := Go.Ground.phase }, { on := 1, ground := Go.Ground.phase }, { on := 2, ground := Go.Ground.phase }, { on := 3, ground := Go.Ground.phase }, { on := 4, ground := Go.Ground.textOnly Go.Departure.lateStores }, { on := 5, ground := Go.Ground.textOnly Go.Departure.lateStores }, { on := 6, ground := Go.Ground.textOnly Go.Departure.lateStores }, { on := 7, ground := Go.Ground.textOnly Go.Departure.lateStores }, { on := 8, ground := Go.Ground.phase }, { on := 9, ground := Go.Ground.phase }], guard := none }) rfl (fun K hK => ?_) AllReadyH.nil)
              refine step_put 4 m2 m8 9 39 (HL.out.b8 m8 rfl).1 (by kernel_rfl) rfl rfl rfl ?_
              refine hK.out _ _ ?_ (fun hHeld' => ?_)
              · exact HS.out _ (kput_keep (And.left hHeld) (HL.out.b8 m8 rfl).2 4 m2)
              clear hK K hHeld
              have hHeld := hHeld'
              clear hHeld'
              have HL' := Lib.hid HL.out.put8_
              clear HL
              have HL := HL'
              clear HL'
              generalize kput X4 m8 4 m2 = X5 at *
              try simp only [Act.put]
              refine wpAnyH_ready (rs := [11]) (by kernel_rfl) (by simp) ?_
              refine (AllReadyH.cons (o := { dst := none, op := Go.Op.store 27 (Go.Operand.tmp 10) (Go.Operand.tmp 43), type := 0, pos := "law.go:113", after := #[{ on := 9, ground := Go.Ground.data }, { on := 7, ground := Go.Ground.data }, { on := 10, ground := Go.Ground.chain }, { on := 0, ground := Go.Ground.phase }, { on := 1, ground := Go.Ground.phase }, { on := 2, ground := Go.Ground.phase }, { on := 3, ground := Go.Ground.phase }, { on := 4, ground := Go.Ground.phase }, { on := 5, ground := Go.Ground.phase }, { on := 6, ground := Go.Ground.phase }, { on := 7, ground := Go.Ground.phase }, { on := 8, ground := Go.Ground.phase }, { on := 9, ground := Go.Ground.phase }, { on := 10, ground := Go.Ground.phase }], guard := none }) rfl (fun K hK => ?_) AllReadyH.nil)
              refine step_put 3 m6 m9 10 43 (HL.out.b9 m9 rfl).1 (by kernel_rfl) rfl rfl rfl ?_
              refine hK.out _ _ ?_ (fun hHeld' => ?_)
              · exact HS.out _ (kput_keep (And.left hHeld) (HL.out.b9 m9 rfl).2 3 m6)
              clear hK K hHeld
              have hHeld := hHeld'
              clear hHeld'
              have HL' := Lib.hid HL.out.put9_
              clear HL
              have HL := HL'
              clear HL'
              generalize kput X5 m9 3 m6 = X6 at *
              try simp only [Act.put]
              refine wpAnyH_done (by kernel_rfl) ?_ _
              refine NoPanic.normal ?_
              have HPR := Lib.hid (HL.out.par)
              clear hHeld HL
              go_wp2_with fail
              go_meet
              case rel => exact ⟨m8, m9, m2, m6, rfl, rfl, HPR.out⟩
            · go_simp
              refine hK.out _ _ ?_ (fun hHeld' => ?_)
              · exact HS.out _ (Keep.alloc (And.left hHeld) _)
              clear hK K hHeld
              have hHeld := hHeld'
              clear hHeld'
              have HL' := Lib.hid HL.out.alloc8
              clear HL
              have HL := HL'
              clear HL'
              generalize World.alloc X2 _ = X3 at *
              generalize X2.heap.size = m8 at *
              try simp only [Act.put, List.setIfInBounds_toArray, List.set_cons_zero, List.set_cons_succ]
              refine wpAnyH_ready (rs := [6, 10]) (by kernel_rfl) (by simp) ?_
              refine (AllReadyH.cons (o := { dst := some 42, op := Go.Op.buildSlice 25 2 #[(0, Go.Operand.tmp 40), (1, Go.Operand.tmp 41)], type := 25, pos := "law.go:113", after := #[{ on := 4, ground := Go.Ground.data }, { on := 5, ground := Go.Ground.data }, { on := 10, ground := Go.Ground.gcOnly Go.Departure.lateStores }], guard := none }) rfl (fun K hK => ?_) (AllReadyH.cons (o := { dst := none, op := Go.Op.store 27 (Go.Operand.tmp 9) (Go.Operand.tmp 39), type := 0, pos := "law.go:113", after := #[{ on := 8, ground := Go.Ground.data }, { on := 3, ground := Go.Ground.data }, { on := 0, ground := Go.Ground.phase }, { on := 1, ground := Go.Ground.phase }, { on := 2, ground := Go.Ground.phase }, { on := 3, ground := Go.Ground.phase }, { on := 4, ground := Go.Ground.textOnly Go.Departure.lateStores }, { on := 5, ground := Go.Ground.textOnly Go.Departure.lateStores }, { on := 6, ground := Go.Ground.textOnly Go.Departure.lateStores }, { on := 7, ground := Go.Ground.textOnly Go.Departure.lateStores }, { on := 8, ground := Go.Ground.phase }, { on := 9, ground := Go.Ground.phase }], guard := none }) rfl (fun K hK => ?_) AllReadyH.nil))
              · refine step_two t a c u b d 40 41 (by kernel_rfl) rfl rfl rfl ?_
                refine hK.out _ _ ?_ (fun hHeld' => ?_)
                · exact HS.out _ (Keep.alloc (And.left hHeld) _)
                clear hK K hHeld
                have hHeld := hHeld'
                clear hHeld'
                have HL' := Lib.hid HL.out.alloc6
                clear HL
                have HL := HL'
                clear HL'
                generalize World.alloc X3 _ = X4 at *
                generalize X3.heap.size = m6 at *
                try simp only [Act.put, List.setIfInBounds_toArray, List.set_cons_zero, List.set_cons_succ]
                refine wpAnyH_take (i := 7) (oi := ⟨_,_,_,_,_,_⟩) (v := ?_) rfl (by kernel_rfl) (by kernel_rfl) (by kernel_rfl) (fun _ _ _ h => h) (Or.inl ⟨by rfl, ?_⟩) (by assumption) ?_
                rotate_left 1
                · (intro w hSw; (try dsimp only at hSw); go_simp; first | done | with_reducible rfl)
                try simp only [Act.put, List.setIfInBounds_toArray, List.set_cons_zero, List.set_cons_succ]
                refine wpAnyH_ready (rs := [10]) (by kernel_rfl) (by simp) ?_
                refine (AllReadyH.cons (o := { dst := none, op := Go.Op.store 27 (Go.Operand.tmp 9) (Go.Operand.tmp 39), type := 0, pos := "law.go:113", after := #[{ on := 8, ground := Go.Ground.data }, { on := 3, ground := Go.Ground.data }, { on := 0, ground := Go.Ground.phase }, { on := 1, ground := Go.Ground.phase }, { on := 2, ground := Go.Ground.phase }, { on := 3, ground := Go.Ground.phase }, { on := 4, ground := Go.Ground.textOnly Go.Departure.lateStores }, { on := 5, ground := Go.Ground.textOnly Go.Departure.lateStores }, { on := 6, ground := Go.Ground.textOnly Go.Departure.lateStores }, { on := 7, ground := Go.Ground.textOnly Go.Departure.lateStores }, { on := 8, ground := Go.Ground.phase }, { on := 9, ground := Go.Ground.phase }], guard := none }) rfl (fun K hK => ?_) AllReadyH.nil)
                refine step_put 4 m2 m8 9 39 (HL.out.b8 m8 rfl).1 (by kernel_rfl) rfl rfl rfl ?_
                refine hK.out _ _ ?_ (fun hHeld' => ?_)
                · exact HS.out _ (kput_keep (And.left hHeld) (HL.out.b8 m8 rfl).2 4 m2)
                clear hK K hHeld
                have hHeld := hHeld'
                clear hHeld'
                have HL' := Lib.hid HL.out.put8_
                clear HL
                have HL := HL'
                clear HL'
                generalize kput X4 m8 4 m2 = X5 at *
                try simp only [Act.put]
                refine wpAnyH_ready (rs := [11]) (by kernel_rfl) (by simp) ?_
                refine (AllReadyH.cons (o := { dst := none, op := Go.Op.store 27 (Go.Operand.tmp 10) (Go.Operand.tmp 43), type := 0, pos := "law.go:113", after := #[{ on := 9, ground := Go.Ground.data }, { on := 7, ground := Go.Ground.data }, { on := 10, ground := Go.Ground.chain }, { on := 0, ground := Go.Ground.phase }, { on := 1, ground := Go.Ground.phase }, { on := 2, ground := Go.Ground.phase }, { on := 3, ground := Go.Ground.phase }, { on := 4, ground := Go.Ground.phase }, { on := 5, ground := Go.Ground.phase }, { on := 6, ground := Go.Ground.phase }, { on := 7, ground := Go.Ground.phase }, { on := 8, ground := Go.Ground.phase }, { on := 9, ground := Go.Ground.phase }, { on := 10, ground := Go.Ground.phase }], guard := none }) rfl (fun K hK => ?_) AllReadyH.nil)
                refine step_put 3 m6 m9 10 43 (HL.out.b9 m9 rfl).1 (by kernel_rfl) rfl rfl rfl ?_
                refine hK.out _ _ ?_ (fun hHeld' => ?_)
                · exact HS.out _ (kput_keep (And.left hHeld) (HL.out.b9 m9 rfl).2 3 m6)
                clear hK K hHeld
                have hHeld := hHeld'
                clear hHeld'
                have HL' := Lib.hid HL.out.put9_
                clear HL
                have HL := HL'
                clear HL'
                generalize kput X5 m9 3 m6 = X6 at *
                try simp only [Act.put]
                refine wpAnyH_done (by kernel_rfl) ?_ _
                refine NoPanic.normal ?_
                have HPR := Lib.hid (HL.out.par)
                clear hHeld HL
                go_wp2_with fail
                go_meet
                case rel => exact ⟨m8, m9, m2, m6, rfl, rfl, HPR.out⟩
              · refine step_put 4 m2 m8 9 39 (HL.out.b8 m8 rfl).1 (by kernel_rfl) rfl rfl rfl ?_
                refine hK.out _ _ ?_ (fun hHeld' => ?_)
                · exact HS.out _ (kput_keep (And.left hHeld) (HL.out.b8 m8 rfl).2 4 m2)
                clear hK K hHeld
                have hHeld := hHeld'
                clear hHeld'
                have HL' := Lib.hid HL.out.put8_
                clear HL
                have HL := HL'
                clear HL'
                generalize kput X3 m8 4 m2 = X4 at *
                try simp only [Act.put]
                refine wpAnyH_ready (rs := [6]) (by kernel_rfl) (by simp) ?_
                refine (AllReadyH.cons (o := { dst := some 42, op := Go.Op.buildSlice 25 2 #[(0, Go.Operand.tmp 40), (1, Go.Operand.tmp 41)], type := 25, pos := "law.go:113", after := #[{ on := 4, ground := Go.Ground.data }, { on := 5, ground := Go.Ground.data }, { on := 10, ground := Go.Ground.gcOnly Go.Departure.lateStores }], guard := none }) rfl (fun K hK => ?_) AllReadyH.nil)
                refine step_two t a c u b d 40 41 (by kernel_rfl) rfl rfl rfl ?_
                refine hK.out _ _ ?_ (fun hHeld' => ?_)
                · exact HS.out _ (Keep.alloc (And.left hHeld) _)
                clear hK K hHeld
                have hHeld := hHeld'
                clear hHeld'
                have HL' := Lib.hid HL.out.alloc6
                clear HL
                have HL := HL'
                clear HL'
                generalize World.alloc X4 _ = X5 at *
                generalize X4.heap.size = m6 at *
                try simp only [Act.put, List.setIfInBounds_toArray, List.set_cons_zero, List.set_cons_succ]
                refine wpAnyH_take (i := 7) (oi := ⟨_,_,_,_,_,_⟩) (v := ?_) rfl (by kernel_rfl) (by kernel_rfl) (by kernel_rfl) (fun _ _ _ h => h) (Or.inl ⟨by rfl, ?_⟩) (by assumption) ?_
                rotate_left 1
                · (intro w hSw; (try dsimp only at hSw); go_simp; first | done | with_reducible rfl)
                try simp only [Act.put, List.setIfInBounds_toArray, List.set_cons_zero, List.set_cons_succ]
                refine wpAnyH_ready (rs := [11]) (by kernel_rfl) (by simp) ?_
                refine (AllReadyH.cons (o := { dst := none, op := Go.Op.store 27 (Go.Operand.tmp 10) (Go.Operand.tmp 43), type := 0, pos := "law.go:113", after := #[{ on := 9, ground := Go.Ground.data }, { on := 7, ground := Go.Ground.data }, { on := 10, ground := Go.Ground.chain }, { on := 0, ground := Go.Ground.phase }, { on := 1, ground := Go.Ground.phase }, { on := 2, ground := Go.Ground.phase }, { on := 3, ground := Go.Ground.phase }, { on := 4, ground := Go.Ground.phase }, { on := 5, ground := Go.Ground.phase }, { on := 6, ground := Go.Ground.phase }, { on := 7, ground := Go.Ground.phase }, { on := 8, ground := Go.Ground.phase }, { on := 9, ground := Go.Ground.phase }, { on := 10, ground := Go.Ground.phase }], guard := none }) rfl (fun K hK => ?_) AllReadyH.nil)
                refine step_put 3 m6 m9 10 43 (HL.out.b9 m9 rfl).1 (by kernel_rfl) rfl rfl rfl ?_
                refine hK.out _ _ ?_ (fun hHeld' => ?_)
                · exact HS.out _ (kput_keep (And.left hHeld) (HL.out.b9 m9 rfl).2 3 m6)
                clear hK K hHeld
                have hHeld := hHeld'
                clear hHeld'
                have HL' := Lib.hid HL.out.put9_
                clear HL
                have HL := HL'
                clear HL'
                generalize kput X5 m9 3 m6 = X6 at *
                try simp only [Act.put]
                refine wpAnyH_done (by kernel_rfl) ?_ _
                refine NoPanic.normal ?_
                have HPR := Lib.hid (HL.out.par)
                clear hHeld HL
                go_wp2_with fail
                go_meet
                case rel => exact ⟨m8, m9, m2, m6, rfl, rfl, HPR.out⟩
    · as_aux_lemma =>
        refine step_two t a c u b d 40 41 (by kernel_rfl) rfl rfl rfl ?_
        refine hK.out _ _ ?_ (fun hHeld' => ?_)
        · exact HS.out _ (Keep.alloc (And.left hHeld) _)
        clear hK K hHeld
        have hHeld := hHeld'
        clear hHeld'
        have HL' := Lib.hid HL.out.alloc6
        clear HL
        have HL := HL'
        clear HL'
        generalize World.alloc X0 _ = X1 at *
        generalize X0.heap.size = m6 at *
        try simp only [Act.put, List.setIfInBounds_toArray, List.set_cons_zero, List.set_cons_succ]
        refine wpAnyH_take (i := 7) (oi := ⟨_,_,_,_,_,_⟩) (v := ?_) rfl (by kernel_rfl) (by kernel_rfl) (by kernel_rfl) (fun _ _ _ h => h) (Or.inl ⟨by rfl, ?_⟩) (by assumption) ?_
        rotate_left 1
        · (intro w hSw; (try dsimp only at hSw); go_simp; first | done | with_reducible rfl)
        try simp only [Act.put, List.setIfInBounds_toArray, List.set_cons_zero, List.set_cons_succ]
        refine wpAnyH_ready (rs := [2, 8, 9]) (by kernel_rfl) (by simp) ?_
        refine (AllReadyH.cons (o := { dst := some 38, op := Go.Op.buildSlice 25 2 #[(0, Go.Operand.tmp 36), (1, Go.Operand.tmp 37)], type := 25, pos := "law.go:113", after := #[{ on := 0, ground := Go.Ground.data }, { on := 1, ground := Go.Ground.data }], guard := none }) rfl (fun K hK => ?_) (AllReadyH.cons (o := { dst := some 9, op := Go.Op.alloc 27, type := 0, pos := "law.go:113", after := #[], guard := none }) rfl (fun K hK => ?_) (AllReadyH.cons (o := { dst := some 10, op := Go.Op.alloc 27, type := 0, pos := "law.go:113", after := #[], guard := none }) rfl (fun K hK => ?_) AllReadyH.nil)))
        · as_aux_lemma =>
            refine step_two t a c u b d 36 37 (by kernel_rfl) rfl rfl rfl ?_
            refine hK.out _ _ ?_ (fun hHeld' => ?_)
            · exact HS.out _ (Keep.alloc (And.left hHeld) _)
            clear hK K hHeld
            have hHeld := hHeld'
            clear hHeld'
            have HL' := Lib.hid HL.out.alloc2
            clear HL
            have HL := HL'
            clear HL'
            generalize World.alloc X1 _ = X2 at *
            generalize X1.heap.size = m2 at *
            try simp only [Act.put, List.setIfInBounds_toArray, List.set_cons_zero, List.set_cons_succ]
            refine wpAnyH_take (i := 3) (oi := ⟨_,_,_,_,_,_⟩) (v := ?_) rfl (by kernel_rfl) (by kernel_rfl) (by kernel_rfl) (fun _ _ _ h => h) (Or.inl ⟨by rfl, ?_⟩) (by assumption) ?_
            rotate_left 1
            · (intro w hSw; (try dsimp only at hSw); go_simp; first | done | with_reducible rfl)
            try simp only [Act.put, List.setIfInBounds_toArray, List.set_cons_zero, List.set_cons_succ]
            refine wpAnyH_ready (rs := [8, 9]) (by kernel_rfl) (by simp) ?_
            refine (AllReadyH.cons (o := { dst := some 9, op := Go.Op.alloc 27, type := 0, pos := "law.go:113", after := #[], guard := none }) rfl (fun K hK => ?_) (AllReadyH.cons (o := { dst := some 10, op := Go.Op.alloc 27, type := 0, pos := "law.go:113", after := #[], guard := none }) rfl (fun K hK => ?_) AllReadyH.nil))
            · go_simp
              refine hK.out _ _ ?_ (fun hHeld' => ?_)
              · exact HS.out _ (Keep.alloc (And.left hHeld) _)
              clear hK K hHeld
              have hHeld := hHeld'
              clear hHeld'
              have HL' := Lib.hid HL.out.alloc8
              clear HL
              have HL := HL'
              clear HL'
              generalize World.alloc X2 _ = X3 at *
              generalize X2.heap.size = m8 at *
              try simp only [Act.put, List.setIfInBounds_toArray, List.set_cons_zero, List.set_cons_succ]
              refine wpAnyH_ready (rs := [9]) (by kernel_rfl) (by simp) ?_
              refine (AllReadyH.cons (o := { dst := some 10, op := Go.Op.alloc 27, type := 0, pos := "law.go:113", after := #[], guard := none }) rfl (fun K hK => ?_) AllReadyH.nil)
              go_simp
              refine hK.out _ _ ?_ (fun hHeld' => ?_)
              · exact HS.out _ (Keep.alloc (And.left hHeld) _)
              clear hK K hHeld
              have hHeld := hHeld'
              clear hHeld'
              have HL' := Lib.hid HL.out.alloc9
              clear HL
              have HL := HL'
              clear HL'
              generalize World.alloc X3 _ = X4 at *
              generalize X3.heap.size = m9 at *
              try simp only [Act.put, List.setIfInBounds_toArray, List.set_cons_zero, List.set_cons_succ]
              refine wpAnyH_ready (rs := [10]) (by kernel_rfl) (by simp) ?_
              refine (AllReadyH.cons (o := { dst := none, op := Go.Op.store 27 (Go.Operand.tmp 9) (Go.Operand.tmp 39), type := 0, pos := "law.go:113", after := #[{ on := 8, ground := Go.Ground.data }, { on := 3, ground := Go.Ground.data }, { on := 0, ground := Go.Ground.phase }, { on := 1, ground := Go.Ground.phase }, { on := 2, ground := Go.Ground.phase }, { on := 3, ground := Go.Ground.phase }, { on := 4, ground := Go.Ground.textOnly Go.Departure.lateStores }, { on := 5, ground := Go.Ground.textOnly Go.Departure.lateStores }, { on := 6, ground := Go.Ground.textOnly Go.Departure.lateStores }, { on := 7, ground := Go.Ground.textOnly Go.Departure.lateStores }, { on := 8, ground := Go.Ground.phase }, { on := 9, ground := Go.Ground.phase }], guard := none }) rfl (fun K hK => ?_) AllReadyH.nil)
              refine step_put 4 m2 m8 9 39 (HL.out.b8 m8 rfl).1 (by kernel_rfl) rfl rfl rfl ?_
              refine hK.out _ _ ?_ (fun hHeld' => ?_)
              · exact HS.out _ (kput_keep (And.left hHeld) (HL.out.b8 m8 rfl).2 4 m2)
              clear hK K hHeld
              have hHeld := hHeld'
              clear hHeld'
              have HL' := Lib.hid HL.out.put8_
              clear HL
              have HL := HL'
              clear HL'
              generalize kput X4 m8 4 m2 = X5 at *
              try simp only [Act.put]
              refine wpAnyH_ready (rs := [11]) (by kernel_rfl) (by simp) ?_
              refine (AllReadyH.cons (o := { dst := none, op := Go.Op.store 27 (Go.Operand.tmp 10) (Go.Operand.tmp 43), type := 0, pos := "law.go:113", after := #[{ on := 9, ground := Go.Ground.data }, { on := 7, ground := Go.Ground.data }, { on := 10, ground := Go.Ground.chain }, { on := 0, ground := Go.Ground.phase }, { on := 1, ground := Go.Ground.phase }, { on := 2, ground := Go.Ground.phase }, { on := 3, ground := Go.Ground.phase }, { on := 4, ground := Go.Ground.phase }, { on := 5, ground := Go.Ground.phase }, { on := 6, ground := Go.Ground.phase }, { on := 7, ground := Go.Ground.phase }, { on := 8, ground := Go.Ground.phase }, { on := 9, ground := Go.Ground.phase }, { on := 10, ground := Go.Ground.phase }], guard := none }) rfl (fun K hK => ?_) AllReadyH.nil)
              refine step_put 3 m6 m9 10 43 (HL.out.b9 m9 rfl).1 (by kernel_rfl) rfl rfl rfl ?_
              refine hK.out _ _ ?_ (fun hHeld' => ?_)
              · exact HS.out _ (kput_keep (And.left hHeld) (HL.out.b9 m9 rfl).2 3 m6)
              clear hK K hHeld
              have hHeld := hHeld'
              clear hHeld'
              have HL' := Lib.hid HL.out.put9_
              clear HL
              have HL := HL'
              clear HL'
              generalize kput X5 m9 3 m6 = X6 at *
              try simp only [Act.put]
              refine wpAnyH_done (by kernel_rfl) ?_ _
              refine NoPanic.normal ?_
              have HPR := Lib.hid (HL.out.par)
              clear hHeld HL
              go_wp2_with fail
              go_meet
              case rel => exact ⟨m8, m9, m2, m6, rfl, rfl, HPR.out⟩
            · go_simp
              refine hK.out _ _ ?_ (fun hHeld' => ?_)
              · exact HS.out _ (Keep.alloc (And.left hHeld) _)
              clear hK K hHeld
              have hHeld := hHeld'
              clear hHeld'
              have HL' := Lib.hid HL.out.alloc9
              clear HL
              have HL := HL'
              clear HL'
              generalize World.alloc X2 _ = X3 at *
              generalize X2.heap.size = m9 at *
              try simp only [Act.put, List.setIfInBounds_toArray, List.set_cons_zero, List.set_cons_succ]
              refine wpAnyH_ready (rs := [8]) (by kernel_rfl) (by simp) ?_
              refine (AllReadyH.cons (o := { dst := some 9, op := Go.Op.alloc 27, type := 0, pos := "law.go:113", after := #[], guard := none }) rfl (fun K hK => ?_) AllReadyH.nil)
              go_simp
              refine hK.out _ _ ?_ (fun hHeld' => ?_)
              · exact HS.out _ (Keep.alloc (And.left hHeld) _)
              clear hK K hHeld
              have hHeld := hHeld'
              clear hHeld'
              have HL' := Lib.hid HL.out.alloc8
              clear HL
              have HL := HL'
              clear HL'
              generalize World.alloc X3 _ = X4 at *
              generalize X3.heap.size = m8 at *
              try simp only [Act.put, List.setIfInBounds_toArray, List.set_cons_zero, List.set_cons_succ]
              refine wpAnyH_ready (rs := [10]) (by kernel_rfl) (by simp) ?_
              refine (AllReadyH.cons (o := { dst := none, op := Go.Op.store 27 (Go.Operand.tmp 9) (Go.Operand.tmp 39), type := 0, pos := "law.go:113", after := #[{ on := 8, ground := Go.Ground.data }, { on := 3, ground := Go.Ground.data }, { on := 0, ground := Go.Ground.phase }, { on := 1, ground := Go.Ground.phase }, { on := 2, ground := Go.Ground.phase }, { on := 3, ground := Go.Ground.phase }, { on := 4, ground := Go.Ground.textOnly Go.Departure.lateStores }, { on := 5, ground := Go.Ground.textOnly Go.Departure.lateStores }, { on := 6, ground := Go.Ground.textOnly Go.Departure.lateStores }, { on := 7, ground := Go.Ground.textOnly Go.Departure.lateStores }, { on := 8, ground := Go.Ground.phase }, { on := 9, ground := Go.Ground.phase }], guard := none }) rfl (fun K hK => ?_) AllReadyH.nil)
              refine step_put 4 m2 m8 9 39 (HL.out.b8 m8 rfl).1 (by kernel_rfl) rfl rfl rfl ?_
              refine hK.out _ _ ?_ (fun hHeld' => ?_)
              · exact HS.out _ (kput_keep (And.left hHeld) (HL.out.b8 m8 rfl).2 4 m2)
              clear hK K hHeld
              have hHeld := hHeld'
              clear hHeld'
              have HL' := Lib.hid HL.out.put8_
              clear HL
              have HL := HL'
              clear HL'
              generalize kput X4 m8 4 m2 = X5 at *
              try simp only [Act.put]
              refine wpAnyH_ready (rs := [11]) (by kernel_rfl) (by simp) ?_
              refine (AllReadyH.cons (o := { dst := none, op := Go.Op.store 27 (Go.Operand.tmp 10) (Go.Operand.tmp 43), type := 0, pos := "law.go:113", after := #[{ on := 9, ground := Go.Ground.data }, { on := 7, ground := Go.Ground.data }, { on := 10, ground := Go.Ground.chain }, { on := 0, ground := Go.Ground.phase }, { on := 1, ground := Go.Ground.phase }, { on := 2, ground := Go.Ground.phase }, { on := 3, ground := Go.Ground.phase }, { on := 4, ground := Go.Ground.phase }, { on := 5, ground := Go.Ground.phase }, { on := 6, ground := Go.Ground.phase }, { on := 7, ground := Go.Ground.phase }, { on := 8, ground := Go.Ground.phase }, { on := 9, ground := Go.Ground.phase }, { on := 10, ground := Go.Ground.phase }], guard := none }) rfl (fun K hK => ?_) AllReadyH.nil)
              refine step_put 3 m6 m9 10 43 (HL.out.b9 m9 rfl).1 (by kernel_rfl) rfl rfl rfl ?_
              refine hK.out _ _ ?_ (fun hHeld' => ?_)
              · exact HS.out _ (kput_keep (And.left hHeld) (HL.out.b9 m9 rfl).2 3 m6)
              clear hK K hHeld
              have hHeld := hHeld'
              clear hHeld'
              have HL' := Lib.hid HL.out.put9_
              clear HL
              have HL := HL'
              clear HL'
              generalize kput X5 m9 3 m6 = X6 at *
              try simp only [Act.put]
              refine wpAnyH_done (by kernel_rfl) ?_ _
              refine NoPanic.normal ?_
              have HPR := Lib.hid (HL.out.par)
              clear hHeld HL
              go_wp2_with fail
              go_meet
              case rel => exact ⟨m8, m9, m2, m6, rfl, rfl, HPR.out⟩
        · as_aux_lemma =>
            go_simp
            refine hK.out _ _ ?_ (fun hHeld' => ?_)
            · exact HS.out _ (Keep.alloc (And.left hHeld) _)
            clear hK K hHeld
            have hHeld := hHeld'
            clear hHeld'
            have HL' := Lib.hid HL.out.alloc8
            clear HL
            have HL := HL'
            clear HL'
            generalize World.alloc X1 _ = X2 at *
            generalize X1.heap.size = m8 at *
            try simp only [Act.put, List.setIfInBounds_toArray, List.set_cons_zero, List.set_cons_succ]
            refine wpAnyH_ready (rs := [2, 9]) (by kernel_rfl) (by simp) ?_
            refine (AllReadyH.cons (o := { dst := some 38, op := Go.Op.buildSlice 25 2 #[(0, Go.Operand.tmp 36), (1, Go.Operand.tmp 37)], type := 25, pos := "law.go:113", after := #[{ on := 0, ground := Go.Ground.data }, { on := 1, ground := Go.Ground.data }], guard := none }) rfl (fun K hK => ?_) (AllReadyH.cons (o := { dst := some 10, op := Go.Op.alloc 27, type := 0, pos := "law.go:113", after := #[], guard := none }) rfl (fun K hK => ?_) AllReadyH.nil))
            · refine step_two t a c u b d 36 37 (by kernel_rfl) rfl rfl rfl ?_
              refine hK.out _ _ ?_ (fun hHeld' => ?_)
              · exact HS.out _ (Keep.alloc (And.left hHeld) _)
              clear hK K hHeld
              have hHeld := hHeld'
              clear hHeld'
              have HL' := Lib.hid HL.out.alloc2
              clear HL
              have HL := HL'
              clear HL'
              generalize World.alloc X2 _ = X3 at *
              generalize X2.heap.size = m2 at *
              try simp only [Act.put, List.setIfInBounds_toArray, List.set_cons_zero, List.set_cons_succ]
              refine wpAnyH_take (i := 3) (oi := ⟨_,_,_,_,_,_⟩) (v := ?_) rfl (by kernel_rfl) (by kernel_rfl) (by kernel_rfl) (fun _ _ _ h => h) (Or.inl ⟨by rfl, ?_⟩) (by assumption) ?_
              rotate_left 1
              · (intro w hSw; (try dsimp only at hSw); go_simp; first | done | with_reducible rfl)
              try simp only [Act.put, List.setIfInBounds_toArray, List.set_cons_zero, List.set_cons_succ]
              refine wpAnyH_ready (rs := [9]) (by kernel_rfl) (by simp) ?_
              refine (AllReadyH.cons (o := { dst := some 10, op := Go.Op.alloc 27, type := 0, pos := "law.go:113", after := #[], guard := none }) rfl (fun K hK => ?_) AllReadyH.nil)
              go_simp
              refine hK.out _ _ ?_ (fun hHeld' => ?_)
              · exact HS.out _ (Keep.alloc (And.left hHeld) _)
              clear hK K hHeld
              have hHeld := hHeld'
              clear hHeld'
              have HL' := Lib.hid HL.out.alloc9
              clear HL
              have HL := HL'
              clear HL'
              generalize World.alloc X3 _ = X4 at *
              generalize X3.heap.size = m9 at *
              try simp only [Act.put, List.setIfInBounds_toArray, List.set_cons_zero, List.set_cons_succ]
              refine wpAnyH_ready (rs := [10]) (by kernel_rfl) (by simp) ?_
              refine (AllReadyH.cons (o := { dst := none, op := Go.Op.store 27 (Go.Operand.tmp 9) (Go.Operand.tmp 39), type := 0, pos := "law.go:113", after := #[{ on := 8, ground := Go.Ground.data }, { on := 3, ground := Go.Ground.data }, { on := 0, ground := Go.Ground.phase }, { on := 1, ground := Go.Ground.phase }, { on := 2, ground := Go.Ground.phase }, { on := 3, ground := Go.Ground.phase }, { on := 4, ground := Go.Ground.textOnly Go.Departure.lateStores }, { on := 5, ground := Go.Ground.textOnly Go.Departure.lateStores }, { on := 6, ground := Go.Ground.textOnly Go.Departure.lateStores }, { on := 7, ground := Go.Ground.textOnly Go.Departure.lateStores }, { on := 8, ground := Go.Ground.phase }, { on := 9, ground := Go.Ground.phase }], guard := none }) rfl (fun K hK => ?_) AllReadyH.nil)
              refine step_put 4 m2 m8 9 39 (HL.out.b8 m8 rfl).1 (by kernel_rfl) rfl rfl rfl ?_
              refine hK.out _ _ ?_ (fun hHeld' => ?_)
              · exact HS.out _ (kput_keep (And.left hHeld) (HL.out.b8 m8 rfl).2 4 m2)
              clear hK K hHeld
              have hHeld := hHeld'
              clear hHeld'
              have HL' := Lib.hid HL.out.put8_
              clear HL
              have HL := HL'
              clear HL'
              generalize kput X4 m8 4 m2 = X5 at *
              try simp only [Act.put]
              refine wpAnyH_ready (rs := [11]) (by kernel_rfl) (by simp) ?_
              refine (AllReadyH.cons (o := { dst := none, op := Go.Op.store 27 (Go.Operand.tmp 10) (Go.Operand.tmp 43), type := 0, pos := "law.go:113", after := #[{ on := 9, ground := Go.Ground.data }, { on := 7, ground := Go.Ground.data }, { on := 10, ground := Go.Ground.chain }, { on := 0, ground := Go.Ground.phase }, { on := 1, ground := Go.Ground.phase }, { on := 2, ground := Go.Ground.phase }, { on := 3, ground := Go.Ground.phase }, { on := 4, ground := Go.Ground.phase }, { on := 5, ground := Go.Ground.phase }, { on := 6, ground := Go.Ground.phase }, { on := 7, ground := Go.Ground.phase }, { on := 8, ground := Go.Ground.phase }, { on := 9, ground := Go.Ground.phase }, { on := 10, ground := Go.Ground.phase }], guard := none }) rfl (fun K hK => ?_) AllReadyH.nil)
              refine step_put 3 m6 m9 10 43 (HL.out.b9 m9 rfl).1 (by kernel_rfl) rfl rfl rfl ?_
              refine hK.out _ _ ?_ (fun hHeld' => ?_)
              · exact HS.out _ (kput_keep (And.left hHeld) (HL.out.b9 m9 rfl).2 3 m6)
              clear hK K hHeld
              have hHeld := hHeld'
              clear hHeld'
              have HL' := Lib.hid HL.out.put9_
              clear HL
              have HL := HL'
              clear HL'
              generalize kput X5 m9 3 m6 = X6 at *
              try simp only [Act.put]
              refine wpAnyH_done (by kernel_rfl) ?_ _
              refine NoPanic.normal ?_
              have HPR := Lib.hid (HL.out.par)
              clear hHeld HL
              go_wp2_with fail
              go_meet
              case rel => exact ⟨m8, m9, m2, m6, rfl, rfl, HPR.out⟩
            · go_simp
              refine hK.out _ _ ?_ (fun hHeld' => ?_)
              · exact HS.out _ (Keep.alloc (And.left hHeld) _)
              clear hK K hHeld
              have hHeld := hHeld'
              clear hHeld'
              have HL' := Lib.hid HL.out.alloc9
              clear HL
              have HL := HL'
              clear HL'
              generalize World.alloc X2 _ = X3 at *
              generalize X2.heap.size = m9 at *
              try simp only [Act.put, List.setIfInBounds_toArray, List.set_cons_zero, List.set_cons_succ]
              refine wpAnyH_ready (rs := [2]) (by kernel_rfl) (by simp) ?_
              refine (AllReadyH.cons (o := { dst := some 38, op := Go.Op.buildSlice 25 2 #[(0, Go.Operand.tmp 36), (1, Go.Operand.tmp 37)], type := 25, pos := "law.go:113", after := #[{ on := 0, ground := Go.Ground.data }, { on := 1, ground := Go.Ground.data }], guard := none }) rfl (fun K hK => ?_) AllReadyH.nil)
              refine step_two t a c u b d 36 37 (by kernel_rfl) rfl rfl rfl ?_
              refine hK.out _ _ ?_ (fun hHeld' => ?_)
              · exact HS.out _ (Keep.alloc (And.left hHeld) _)
              clear hK K hHeld
              have hHeld := hHeld'
              clear hHeld'
              have HL' := Lib.hid HL.out.alloc2
              clear HL
              have HL := HL'
              clear HL'
              generalize World.alloc X3 _ = X4 at *
              generalize X3.heap.size = m2 at *
              try simp only [Act.put, List.setIfInBounds_toArray, List.set_cons_zero, List.set_cons_succ]
              refine wpAnyH_take (i := 3) (oi := ⟨_,_,_,_,_,_⟩) (v := ?_) rfl (by kernel_rfl) (by kernel_rfl) (by kernel_rfl) (fun _ _ _ h => h) (Or.inl ⟨by rfl, ?_⟩) (by assumption) ?_
              rotate_left 1
              · (intro w hSw; (try dsimp only at hSw); go_simp; first | done | with_reducible rfl)
              try simp only [Act.put, List.setIfInBounds_toArray, List.set_cons_zero, List.set_cons_succ]
              refine wpAnyH_ready (rs := [10]) (by kernel_rfl) (by simp) ?_
              refine (AllReadyH.cons (o := { dst := none, op := Go.Op.store 27 (Go.Operand.tmp 9) (Go.Operand.tmp 39), type := 0, pos := "law.go:113", after := #[{ on := 8, ground := Go.Ground.data }, { on := 3, ground := Go.Ground.data }, { on := 0, ground := Go.Ground.phase }, { on := 1, ground := Go.Ground.phase }, { on := 2, ground := Go.Ground.phase }, { on := 3, ground := Go.Ground.phase }, { on := 4, ground := Go.Ground.textOnly Go.Departure.lateStores }, { on := 5, ground := Go.Ground.textOnly Go.Departure.lateStores }, { on := 6, ground := Go.Ground.textOnly Go.Departure.lateStores }, { on := 7, ground := Go.Ground.textOnly Go.Departure.lateStores }, { on := 8, ground := Go.Ground.phase }, { on := 9, ground := Go.Ground.phase }], guard := none }) rfl (fun K hK => ?_) AllReadyH.nil)
              refine step_put 4 m2 m8 9 39 (HL.out.b8 m8 rfl).1 (by kernel_rfl) rfl rfl rfl ?_
              refine hK.out _ _ ?_ (fun hHeld' => ?_)
              · exact HS.out _ (kput_keep (And.left hHeld) (HL.out.b8 m8 rfl).2 4 m2)
              clear hK K hHeld
              have hHeld := hHeld'
              clear hHeld'
              have HL' := Lib.hid HL.out.put8_
              clear HL
              have HL := HL'
              clear HL'
              generalize kput X4 m8 4 m2 = X5 at *
              try simp only [Act.put]
              refine wpAnyH_ready (rs := [11]) (by kernel_rfl) (by simp) ?_
              refine (AllReadyH.cons (o := { dst := none, op := Go.Op.store 27 (Go.Operand.tmp 10) (Go.Operand.tmp 43), type := 0, pos := "law.go:113", after := #[{ on := 9, ground := Go.Ground.data }, { on := 7, ground := Go.Ground.data }, { on := 10, ground := Go.Ground.chain }, { on := 0, ground := Go.Ground.phase }, { on := 1, ground := Go.Ground.phase }, { on := 2, ground := Go.Ground.phase }, { on := 3, ground := Go.Ground.phase }, { on := 4, ground := Go.Ground.phase }, { on := 5, ground := Go.Ground.phase }, { on := 6, ground := Go.Ground.phase }, { on := 7, ground := Go.Ground.phase }, { on := 8, ground := Go.Ground.phase }, { on := 9, ground := Go.Ground.phase }, { on := 10, ground := Go.Ground.phase }], guard := none }) rfl (fun K hK => ?_) AllReadyH.nil)
              refine step_put 3 m6 m9 10 43 (HL.out.b9 m9 rfl).1 (by kernel_rfl) rfl rfl rfl ?_
              refine hK.out _ _ ?_ (fun hHeld' => ?_)
              · exact HS.out _ (kput_keep (And.left hHeld) (HL.out.b9 m9 rfl).2 3 m6)
              clear hK K hHeld
              have hHeld := hHeld'
              clear hHeld'
              have HL' := Lib.hid HL.out.put9_
              clear HL
              have HL := HL'
              clear HL'
              generalize kput X5 m9 3 m6 = X6 at *
              try simp only [Act.put]
              refine wpAnyH_done (by kernel_rfl) ?_ _
              refine NoPanic.normal ?_
              have HPR := Lib.hid (HL.out.par)
              clear hHeld HL
              go_wp2_with fail
              go_meet
              case rel => exact ⟨m8, m9, m2, m6, rfl, rfl, HPR.out⟩
        · as_aux_lemma =>
            go_simp
            refine hK.out _ _ ?_ (fun hHeld' => ?_)
            · exact HS.out _ (Keep.alloc (And.left hHeld) _)
            clear hK K hHeld
            have hHeld := hHeld'
            clear hHeld'
            have HL' := Lib.hid HL.out.alloc9
            clear HL
            have HL := HL'
            clear HL'
            generalize World.alloc X1 _ = X2 at *
            generalize X1.heap.size = m9 at *
            try simp only [Act.put, List.setIfInBounds_toArray, List.set_cons_zero, List.set_cons_succ]
            refine wpAnyH_ready (rs := [2, 8]) (by kernel_rfl) (by simp) ?_
            refine (AllReadyH.cons (o := { dst := some 38, op := Go.Op.buildSlice 25 2 #[(0, Go.Operand.tmp 36), (1, Go.Operand.tmp 37)], type := 25, pos := "law.go:113", after := #[{ on := 0, ground := Go.Ground.data }, { on := 1, ground := Go.Ground.data }], guard := none }) rfl (fun K hK => ?_) (AllReadyH.cons (o := { dst := some 9, op := Go.Op.alloc 27, type := 0, pos := "law.go:113", after := #[], guard := none }) rfl (fun K hK => ?_) AllReadyH.nil))
            · refine step_two t a c u b d 36 37 (by kernel_rfl) rfl rfl rfl ?_
              refine hK.out _ _ ?_ (fun hHeld' => ?_)
              · exact HS.out _ (Keep.alloc (And.left hHeld) _)
              clear hK K hHeld
              have hHeld := hHeld'
              clear hHeld'
              have HL' := Lib.hid HL.out.alloc2
              clear HL
              have HL := HL'
              clear HL'
              generalize World.alloc X2 _ = X3 at *
              generalize X2.heap.size = m2 at *
              try simp only [Act.put, List.setIfInBounds_toArray, List.set_cons_zero, List.set_cons_succ]
              refine wpAnyH_take (i := 3) (oi := ⟨_,_,_,_,_,_⟩) (v := ?_) rfl (by kernel_rfl) (by kernel_rfl) (by kernel_rfl) (fun _ _ _ h => h) (Or.inl ⟨by rfl, ?_⟩) (by assumption) ?_
              rotate_left 1
              · (intro w hSw; (try dsimp only at hSw); go_simp; first | done | with_reducible rfl)
              try simp only [Act.put, List.setIfInBounds_toArray, List.set_cons_zero, List.set_cons_succ]
              refine wpAnyH_ready (rs := [8]) (by kernel_rfl) (by simp) ?_
              refine (AllReadyH.cons (o := { dst := some 9, op := Go.Op.alloc 27, type := 0, pos := "law.go:113", after := #[], guard := none }) rfl (fun K hK => ?_) AllReadyH.nil)
              go_simp
              refine hK.out _ _ ?_ (fun hHeld' => ?_)
              · exact HS.out _ (Keep.alloc (And.left hHeld) _)
              clear hK K hHeld
              have hHeld := hHeld'
              clear hHeld'
              have HL' := Lib.hid HL.out.alloc8
              clear HL
              have HL := HL'
              clear HL'
              generalize World.alloc X3 _ = X4 at *
              generalize X3.heap.size = m8 at *
              try simp only [Act.put, List.setIfInBounds_toArray, List.set_cons_zero, List.set_cons_succ]
              refine wpAnyH_ready (rs := [10]) (by kernel_rfl) (by simp) ?_
              refine (AllReadyH.cons (o := { dst := none, op := Go.Op.store 27 (Go.Operand.tmp 9) (Go.Operand.tmp 39), type := 0, pos := "law.go:113", after := #[{ on := 8, ground := Go.Ground.data }, { on := 3, ground := Go.Ground.data }, { on := 0, ground := Go.Ground.phase }, { on := 1, ground := Go.Ground.phase }, { on := 2, ground := Go.Ground.phase }, { on := 3, ground := Go.Ground.phase }, { on := 4, ground := Go.Ground.textOnly Go.Departure.lateStores }, { on := 5, ground := Go.Ground.textOnly Go.Departure.lateStores }, { on := 6, ground := Go.Ground.textOnly Go.Departure.lateStores }, { on := 7, ground := Go.Ground.textOnly Go.Departure.lateStores }, { on := 8, ground := Go.Ground.phase }, { on := 9, ground := Go.Ground.phase }], guard := none }) rfl (fun K hK => ?_) AllReadyH.nil)
              refine step_put 4 m2 m8 9 39 (HL.out.b8 m8 rfl).1 (by kernel_rfl) rfl rfl rfl ?_
              refine hK.out _ _ ?_ (fun hHeld' => ?_)
              · exact HS.out _ (kput_keep (And.left hHeld) (HL.out.b8 m8 rfl).2 4 m2)
              clear hK K hHeld
              have hHeld := hHeld'
              clear hHeld'
              have HL' := Lib.hid HL.out.put8_
              clear HL
              have HL := HL'
              clear HL'
              generalize kput X4 m8 4 m2 = X5 at *
              try simp only [Act.put]
              refine wpAnyH_ready (rs := [11]) (by kernel_rfl) (by simp) ?_
              refine (AllReadyH.cons (o := { dst := none, op := Go.Op.store 27 (Go.Operand.tmp 10) (Go.Operand.tmp 43), type := 0, pos := "law.go:113", after := #[{ on := 9, ground := Go.Ground.data }, { on := 7, ground := Go.Ground.data }, { on := 10, ground := Go.Ground.chain }, { on := 0, ground := Go.Ground.phase }, { on := 1, ground := Go.Ground.phase }, { on := 2, ground := Go.Ground.phase }, { on := 3, ground := Go.Ground.phase }, { on := 4, ground := Go.Ground.phase }, { on := 5, ground := Go.Ground.phase }, { on := 6, ground := Go.Ground.phase }, { on := 7, ground := Go.Ground.phase }, { on := 8, ground := Go.Ground.phase }, { on := 9, ground := Go.Ground.phase }, { on := 10, ground := Go.Ground.phase }], guard := none }) rfl (fun K hK => ?_) AllReadyH.nil)
              refine step_put 3 m6 m9 10 43 (HL.out.b9 m9 rfl).1 (by kernel_rfl) rfl rfl rfl ?_
              refine hK.out _ _ ?_ (fun hHeld' => ?_)
              · exact HS.out _ (kput_keep (And.left hHeld) (HL.out.b9 m9 rfl).2 3 m6)
              clear hK K hHeld
              have hHeld := hHeld'
              clear hHeld'
              have HL' := Lib.hid HL.out.put9_
              clear HL
              have HL := HL'
              clear HL'
              generalize kput X5 m9 3 m6 = X6 at *
              try simp only [Act.put]
              refine wpAnyH_done (by kernel_rfl) ?_ _
              refine NoPanic.normal ?_
              have HPR := Lib.hid (HL.out.par)
              clear hHeld HL
              go_wp2_with fail
              go_meet
              case rel => exact ⟨m8, m9, m2, m6, rfl, rfl, HPR.out⟩
            · go_simp
              refine hK.out _ _ ?_ (fun hHeld' => ?_)
              · exact HS.out _ (Keep.alloc (And.left hHeld) _)
              clear hK K hHeld
              have hHeld := hHeld'
              clear hHeld'
              have HL' := Lib.hid HL.out.alloc8
              clear HL
              have HL := HL'
              clear HL'
              generalize World.alloc X2 _ = X3 at *
              generalize X2.heap.size = m8 at *
              try simp only [Act.put, List.setIfInBounds_toArray, List.set_cons_zero, List.set_cons_succ]
              refine wpAnyH_ready (rs := [2]) (by kernel_rfl) (by simp) ?_
              refine (AllReadyH.cons (o := { dst := some 38, op := Go.Op.buildSlice 25 2 #[(0, Go.Operand.tmp 36), (1, Go.Operand.tmp 37)], type := 25, pos := "law.go:113", after := #[{ on := 0, ground := Go.Ground.data }, { on := 1, ground := Go.Ground.data }], guard := none }) rfl (fun K hK => ?_) AllReadyH.nil)
              refine step_two t a c u b d 36 37 (by kernel_rfl) rfl rfl rfl ?_
              refine hK.out _ _ ?_ (fun hHeld' => ?_)
              · exact HS.out _ (Keep.alloc (And.left hHeld) _)
              clear hK K hHeld
              have hHeld := hHeld'
              clear hHeld'
              have HL' := Lib.hid HL.out.alloc2
              clear HL
              have HL := HL'
              clear HL'
              generalize World.alloc X3 _ = X4 at *
              generalize X3.heap.size = m2 at *
              try simp only [Act.put, List.setIfInBounds_toArray, List.set_cons_zero, List.set_cons_succ]
              refine wpAnyH_take (i := 3) (oi := ⟨_,_,_,_,_,_⟩) (v := ?_) rfl (by kernel_rfl) (by kernel_rfl) (by kernel_rfl) (fun _ _ _ h => h) (Or.inl ⟨by rfl, ?_⟩) (by assumption) ?_
              rotate_left 1
              · (intro w hSw; (try dsimp only at hSw); go_simp; first | done | with_reducible rfl)
              try simp only [Act.put, List.setIfInBounds_toArray, List.set_cons_zero, List.set_cons_succ]
              refine wpAnyH_ready (rs := [10]) (by kernel_rfl) (by simp) ?_
              refine (AllReadyH.cons (o := { dst := none, op := Go.Op.store 27 (Go.Operand.tmp 9) (Go.Operand.tmp 39), type := 0, pos := "law.go:113", after := #[{ on := 8, ground := Go.Ground.data }, { on := 3, ground := Go.Ground.data }, { on := 0, ground := Go.Ground.phase }, { on := 1, ground := Go.Ground.phase }, { on := 2, ground := Go.Ground.phase }, { on := 3, ground := Go.Ground.phase }, { on := 4, ground := Go.Ground.textOnly Go.Departure.lateStores }, { on := 5, ground := Go.Ground.textOnly Go.Departure.lateStores }, { on := 6, ground := Go.Ground.textOnly Go.Departure.lateStores }, { on := 7, ground := Go.Ground.textOnly Go.Departure.lateStores }, { on := 8, ground := Go.Ground.phase }, { on := 9, ground := Go.Ground.phase }], guard := none }) rfl (fun K hK => ?_) AllReadyH.nil)
              refine step_put 4 m2 m8 9 39 (HL.out.b8 m8 rfl).1 (by kernel_rfl) rfl rfl rfl ?_
              refine hK.out _ _ ?_ (fun hHeld' => ?_)
              · exact HS.out _ (kput_keep (And.left hHeld) (HL.out.b8 m8 rfl).2 4 m2)
              clear hK K hHeld
              have hHeld := hHeld'
              clear hHeld'
              have HL' := Lib.hid HL.out.put8_
              clear HL
              have HL := HL'
              clear HL'
              generalize kput X4 m8 4 m2 = X5 at *
              try simp only [Act.put]
              refine wpAnyH_ready (rs := [11]) (by kernel_rfl) (by simp) ?_
              refine (AllReadyH.cons (o := { dst := none, op := Go.Op.store 27 (Go.Operand.tmp 10) (Go.Operand.tmp 43), type := 0, pos := "law.go:113", after := #[{ on := 9, ground := Go.Ground.data }, { on := 7, ground := Go.Ground.data }, { on := 10, ground := Go.Ground.chain }, { on := 0, ground := Go.Ground.phase }, { on := 1, ground := Go.Ground.phase }, { on := 2, ground := Go.Ground.phase }, { on := 3, ground := Go.Ground.phase }, { on := 4, ground := Go.Ground.phase }, { on := 5, ground := Go.Ground.phase }, { on := 6, ground := Go.Ground.phase }, { on := 7, ground := Go.Ground.phase }, { on := 8, ground := Go.Ground.phase }, { on := 9, ground := Go.Ground.phase }, { on := 10, ground := Go.Ground.phase }], guard := none }) rfl (fun K hK => ?_) AllReadyH.nil)
              refine step_put 3 m6 m9 10 43 (HL.out.b9 m9 rfl).1 (by kernel_rfl) rfl rfl rfl ?_
              refine hK.out _ _ ?_ (fun hHeld' => ?_)
              · exact HS.out _ (kput_keep (And.left hHeld) (HL.out.b9 m9 rfl).2 3 m6)
              clear hK K hHeld
              have hHeld := hHeld'
              clear hHeld'
              have HL' := Lib.hid HL.out.put9_
              clear HL
              have HL := HL'
              clear HL'
              generalize kput X5 m9 3 m6 = X6 at *
              try simp only [Act.put]
              refine wpAnyH_done (by kernel_rfl) ?_ _
              refine NoPanic.normal ?_
              have HPR := Lib.hid (HL.out.par)
              clear hHeld HL
              go_wp2_with fail
              go_meet
              case rel => exact ⟨m8, m9, m2, m6, rfl, rfl, HPR.out⟩
    · as_aux_lemma =>
        go_simp
        refine hK.out _ _ ?_ (fun hHeld' => ?_)
        · exact HS.out _ (Keep.alloc (And.left hHeld) _)
        clear hK K hHeld
        have hHeld := hHeld'
        clear hHeld'
        have HL' := Lib.hid HL.out.alloc8
        clear HL
        have HL := HL'
        clear HL'
        generalize World.alloc X0 _ = X1 at *
        generalize X0.heap.size = m8 at *
        try simp only [Act.put, List.setIfInBounds_toArray, List.set_cons_zero, List.set_cons_succ]
        refine wpAnyH_ready (rs := [2, 6, 9]) (by kernel_rfl) (by simp) ?_
        refine (AllReadyH.cons (o := { dst := some 38, op := Go.Op.buildSlice 25 2 #[(0, Go.Operand.tmp 36), (1, Go.Operand.tmp 37)], type := 25, pos := "law.go:113", after := #[{ on := 0, ground := Go.Ground.data }, { on := 1, ground := Go.Ground.data }], guard := none }) rfl (fun K hK => ?_) (AllReadyH.cons (o := { dst := some 42, op := Go.Op.buildSlice 25 2 #[(0, Go.Operand.tmp 40), (1, Go.Operand.tmp 41)], type := 25, pos := "law.go:113", after := #[{ on := 4, ground := Go.Ground.data }, { on := 5, ground := Go.Ground.data }, { on := 10, ground := Go.Ground.gcOnly Go.Departure.lateStores }], guard := none }) rfl (fun K hK => ?_) (AllReadyH.cons (o := { dst := some 10, op := Go.Op.alloc 27, type := 0, pos := "law.go:113", after := #[], guard := none }) rfl (fun K hK => ?_) AllReadyH.nil)))
        · as_aux_lemma =>
            refine step_two t a c u b d 36 37 (by kernel_rfl) rfl rfl rfl ?_
            refine hK.out _ _ ?_ (fun hHeld' => ?_)
            · exact HS.out _ (Keep.alloc (And.left hHeld) _)
            clear hK K hHeld
            have hHeld := hHeld'
            clear hHeld'
            have HL' := Lib.hid HL.out.alloc2
            clear HL
            have HL := HL'
            clear HL'
            generalize World.alloc X1 _ = X2 at *
            generalize X1.heap.size = m2 at *
            try simp only [Act.put, List.setIfInBounds_toArray, List.set_cons_zero, List.set_cons_succ]
            refine wpAnyH_take (i := 3) (oi := ⟨_,_,_,_,_,_⟩) (v := ?_) rfl (by kernel_rfl) (by kernel_rfl) (by kernel_rfl) (fun _ _ _ h => h) (Or.inl ⟨by rfl, ?_⟩) (by assumption) ?_
            rotate_left 1
            · (intro w hSw; (try dsimp only at hSw); go_simp; first | done | with_reducible rfl)
            try simp only [Act.put, List.setIfInBounds_toArray, List.set_cons_zero, List.set_cons_succ]
            refine wpAnyH_ready (rs := [6, 9]) (by kernel_rfl) (by simp) ?_
            refine (AllReadyH.cons (o := { dst := some 42, op := Go.Op.buildSlice 25 2 #[(0, Go.Operand.tmp 40), (1, Go.Operand.tmp 41)], type := 25, pos := "law.go:113", after := #[{ on := 4, ground := Go.Ground.data }, { on := 5, ground := Go.Ground.data }, { on := 10, ground := Go.Ground.gcOnly Go.Departure.lateStores }], guard := none }) rfl (fun K hK => ?_) (AllReadyH.cons (o := { dst := some 10, op := Go.Op.alloc 27, type := 0, pos := "law.go:113", after := #[], guard := none }) rfl (fun K hK => ?_) AllReadyH.nil))
            · refine step_two t a c u b d 40 41 (by kernel_rfl) rfl rfl rfl ?_
              refine hK.out _ _ ?_ (fun hHeld' => ?_)
              · exact HS.out _ (Keep.alloc (And.left hHeld) _)
              clear hK K hHeld
              have hHeld := hHeld'
              clear hHeld'
              have HL' := Lib.hid HL.out.alloc6
              clear HL
              have HL := HL'
              clear HL'
              generalize World.alloc X2 _ = X3 at *
              generalize X2.heap.size = m6 at *
              try simp only [Act.put, List.setIfInBounds_toArray, List.set_cons_zero, List.set_cons_succ]
              refine wpAnyH_take (i := 7) (oi := ⟨_,_,_,_,_,_⟩) (v := ?_) rfl (by kernel_rfl) (by kernel_rfl) (by kernel_rfl) (fun _ _ _ h => h) (Or.inl ⟨by rfl, ?_⟩) (by assumption) ?_
              rotate_left 1
              · (intro w hSw; (try dsimp only at hSw); go_simp; first | done | with_reducible rfl)
              try simp only [Act.put, List.setIfInBounds_toArray, List.set_cons_zero, List.set_cons_succ]
              refine wpAnyH_ready (rs := [9]) (by kernel_rfl) (by simp) ?_
              refine (AllReadyH.cons (o := { dst := some 10, op := Go.Op.alloc 27, type := 0, pos := "law.go:113", after := #[], guard := none }) rfl (fun K hK => ?_) AllReadyH.nil)
              go_simp
              refine hK.out _ _ ?_ (fun hHeld' => ?_)
              · exact HS.out _ (Keep.alloc (And.left hHeld) _)
              clear hK K hHeld
              have hHeld := hHeld'
              clear hHeld'
              have HL' := Lib.hid HL.out.alloc9
              clear HL
              have HL := HL'
              clear HL'
              generalize World.alloc X3 _ = X4 at *
              generalize X3.heap.size = m9 at *
              try simp only [Act.put, List.setIfInBounds_toArray, List.set_cons_zero, List.set_cons_succ]
              refine wpAnyH_ready (rs := [10]) (by kernel_rfl) (by simp) ?_
              refine (AllReadyH.cons (o := { dst := none, op := Go.Op.store 27 (Go.Operand.tmp 9) (Go.Operand.tmp 39), type := 0, pos := "law.go:113", after := #[{ on := 8, ground := Go.Ground.data }, { on := 3, ground := Go.Ground.data }, { on := 0, ground := Go.Ground.phase }, { on := 1, ground := Go.Ground.phase }, { on := 2, ground := Go.Ground.phase }, { on := 3, ground := Go.Ground.phase }, { on := 4, ground := Go.Ground.textOnly Go.Departure.lateStores }, { on := 5, ground := Go.Ground.textOnly Go.Departure.lateStores }, { on := 6, ground := Go.Ground.textOnly Go.Departure.lateStores }, { on := 7, ground := Go.Ground.textOnly Go.Departure.lateStores }, { on := 8, ground := Go.Ground.phase }, { on := 9, ground := Go.Ground.phase }], guard := none }) rfl (fun K hK => ?_) AllReadyH.nil)
              refine step_put 4 m2 m8 9 39 (HL.out.b8 m8 rfl).1 (by kernel_rfl) rfl rfl rfl ?_
              refine hK.out _ _ ?_ (fun hHeld' => ?_)
              · exact HS.out _ (kput_keep (And.left hHeld) (HL.out.b8 m8 rfl).2 4 m2)
              clear hK K hHeld
              have hHeld := hHeld'
              clear hHeld'
              have HL' := Lib.hid HL.out.put8_
              clear HL
              have HL := HL'
              clear HL'
              generalize kput X4 m8 4 m2 = X5 at *
              try simp only [Act.put]
              refine wpAnyH_ready (rs := [11]) (by kernel_rfl) (by simp) ?_
              refine (AllReadyH.cons (o := { dst := none, op := Go.Op.store 27 (Go.Operand.tmp 10) (Go.Operand.tmp 43), type := 0, pos := "law.go:113", after := #[{ on := 9, ground := Go.Ground.data }, { on := 7, ground := Go.Ground.data }, { on := 10, ground := Go.Ground.chain }, { on := 0, ground := Go.Ground.phase }, { on := 1, ground := Go.Ground.phase }, { on := 2, ground := Go.Ground.phase }, { on := 3, ground := Go.Ground.phase }, { on := 4, ground := Go.Ground.phase }, { on := 5, ground := Go.Ground.phase }, { on := 6, ground := Go.Ground.phase }, { on := 7, ground := Go.Ground.phase }, { on := 8, ground := Go.Ground.phase }, { on := 9, ground := Go.Ground.phase }, { on := 10, ground := Go.Ground.phase }], guard := none }) rfl (fun K hK => ?_) AllReadyH.nil)
              refine step_put 3 m6 m9 10 43 (HL.out.b9 m9 rfl).1 (by kernel_rfl) rfl rfl rfl ?_
              refine hK.out _ _ ?_ (fun hHeld' => ?_)
              · exact HS.out _ (kput_keep (And.left hHeld) (HL.out.b9 m9 rfl).2 3 m6)
              clear hK K hHeld
              have hHeld := hHeld'
              clear hHeld'
              have HL' := Lib.hid HL.out.put9_
              clear HL
              have HL := HL'
              clear HL'
              generalize kput X5 m9 3 m6 = X6 at *
              try simp only [Act.put]
              refine wpAnyH_done (by kernel_rfl) ?_ _
              refine NoPanic.normal ?_
              have HPR := Lib.hid (HL.out.par)
              clear hHeld HL
              go_wp2_with fail
              go_meet
              case rel => exact ⟨m8, m9, m2, m6, rfl, rfl, HPR.out⟩
            · go_simp
              refine hK.out _ _ ?_ (fun hHeld' => ?_)
              · exact HS.out _ (Keep.alloc (And.left hHeld) _)
              clear hK K hHeld
              have hHeld := hHeld'
              clear hHeld'
              have HL' := Lib.hid HL.out.alloc9
              clear HL
              have HL := HL'
              clear HL'
              generalize World.alloc X2 _ = X3 at *
              generalize X2.heap.size = m9 at *
              try simp only [Act.put, List.setIfInBounds_toArray, List.set_cons_zero, List.set_cons_succ]
              refine wpAnyH_ready (rs := [6, 10]) (by kernel_rfl) (by simp) ?_
              refine (AllReadyH.cons (o := { dst := some 42, op := Go.Op.buildSlice 25 2 #[(0, Go.Operand.tmp 40), (1, Go.Operand.tmp 41)], type := 25, pos := "law.go:113", after := #[{ on := 4, ground := Go.Ground.data }, { on := 5, ground := Go.Ground.data }, { on := 10, ground := Go.Ground.gcOnly Go.Departure.lateStores }], guard := none }) rfl (fun K hK => ?_) (AllReadyH.cons (o := { dst := none, op := Go.Op.store 27 (Go.Operand.tmp 9) (Go.Operand.tmp 39), type := 0, pos := "law.go:113", after := #[{ on := 8, ground := Go.Ground.data }, { on := 3, ground := Go.Ground.data }, { on := 0, ground := Go.Ground.phase }, { on := 1, ground := Go.Ground.phase }, { on := 2, ground := Go.Ground.phase }, { on := 3, ground := Go.Ground.phase }, { on := 4, ground := Go.Ground.textOnly Go.Departure.lateStores }, { on := 5, ground := Go.Ground.textOnly Go.Departure.lateStores }, { on := 6, ground := Go.Ground.textOnly Go.Departure.lateStores }, { on := 7, ground := Go.Ground.textOnly Go.Departure.lateStores }, { on := 8, ground := Go.Ground.phase }, { on := 9, ground := Go.Ground.phase }], guard := none }) rfl (fun K hK => ?_) AllReadyH.nil))
              · refine step_two t a c u b d 40 41 (by kernel_rfl) rfl rfl rfl ?_
                refine hK.out _ _ ?_ (fun hHeld' => ?_)
                · exact HS.out _ (Keep.alloc (And.left hHeld) _)
                clear hK K hHeld
                have hHeld := hHeld'
                clear hHeld'
                have HL' := Lib.hid HL.out.alloc6
                clear HL
                have HL := HL'
                clear HL'
                generalize World.alloc X3 _ = X4 at *
                generalize X3.heap.size = m6 at *
                try simp only [Act.put, List.setIfInBounds_toArray, List.set_cons_zero, List.set_cons_succ]
                refine wpAnyH_take (i := 7) (oi := ⟨_,_,_,_,_,_⟩) (v := ?_) rfl (by kernel_rfl) (by kernel_rfl) (by kernel_rfl) (fun _ _ _ h => h) (Or.inl ⟨by rfl, ?_⟩) (by assumption) ?_
                rotate_left 1
                · (intro w hSw; (try dsimp only at hSw); go_simp; first | done | with_reducible rfl)
                try simp only [Act.put, List.setIfInBounds_toArray, List.set_cons_zero, List.set_cons_succ]
                refine wpAnyH_ready (rs := [10]) (by kernel_rfl) (by simp) ?_
                refine (AllReadyH.cons (o := { dst := none, op := Go.Op.store 27 (Go.Operand.tmp 9) (Go.Operand.tmp 39), type := 0, pos := "law.go:113", after := #[{ on := 8, ground := Go.Ground.data }, { on := 3, ground := Go.Ground.data }, { on := 0, ground := Go.Ground.phase }, { on := 1, ground := Go.Ground.phase }, { on := 2, ground := Go.Ground.phase }, { on := 3, ground := Go.Ground.phase }, { on := 4, ground := Go.Ground.textOnly Go.Departure.lateStores }, { on := 5, ground := Go.Ground.textOnly Go.Departure.lateStores }, { on := 6, ground := Go.Ground.textOnly Go.Departure.lateStores }, { on := 7, ground := Go.Ground.textOnly Go.Departure.lateStores }, { on := 8, ground := Go.Ground.phase }, { on := 9, ground := Go.Ground.phase }], guard := none }) rfl (fun K hK => ?_) AllReadyH.nil)
                refine step_put 4 m2 m8 9 39 (HL.out.b8 m8 rfl).1 (by kernel_rfl) rfl rfl rfl ?_
                refine hK.out _ _ ?_ (fun hHeld' => ?_)
                · exact HS.out _ (kput_keep (And.left hHeld) (HL.out.b8 m8 rfl).2 4 m2)
                clear hK K hHeld
                have hHeld := hHeld'
                clear hHeld'
                have HL' := Lib.hid HL.out.put8_
                clear HL
                have HL := HL'
                clear HL'
                generalize kput X4 m8 4 m2 = X5 at *
                try simp only [Act.put]
                refine wpAnyH_ready (rs := [11]) (by kernel_rfl) (by simp) ?_
                refine (AllReadyH.cons (o := { dst := none, op := Go.Op.store 27 (Go.Operand.tmp 10) (Go.Operand.tmp 43), type := 0, pos := "law.go:113", after := #[{ on := 9, ground := Go.Ground.data }, { on := 7, ground := Go.Ground.data }, { on := 10, ground := Go.Ground.chain }, { on := 0, ground := Go.Ground.phase }, { on := 1, ground := Go.Ground.phase }, { on := 2, ground := Go.Ground.phase }, { on := 3, ground := Go.Ground.phase }, { on := 4, ground := Go.Ground.phase }, { on := 5, ground := Go.Ground.phase }, { on := 6, ground := Go.Ground.phase }, { on := 7, ground := Go.Ground.phase }, { on := 8, ground := Go.Ground.phase }, { on := 9, ground := Go.Ground.phase }, { on := 10, ground := Go.Ground.phase }], guard := none }) rfl (fun K hK => ?_) AllReadyH.nil)
                refine step_put 3 m6 m9 10 43 (HL.out.b9 m9 rfl).1 (by kernel_rfl) rfl rfl rfl ?_
                refine hK.out _ _ ?_ (fun hHeld' => ?_)
                · exact HS.out _ (kput_keep (And.left hHeld) (HL.out.b9 m9 rfl).2 3 m6)
                clear hK K hHeld
                have hHeld := hHeld'
                clear hHeld'
                have HL' := Lib.hid HL.out.put9_
                clear HL
                have HL := HL'
                clear HL'
                generalize kput X5 m9 3 m6 = X6 at *
                try simp only [Act.put]
                refine wpAnyH_done (by kernel_rfl) ?_ _
                refine NoPanic.normal ?_
                have HPR := Lib.hid (HL.out.par)
                clear hHeld HL
                go_wp2_with fail
                go_meet
                case rel => exact ⟨m8, m9, m2, m6, rfl, rfl, HPR.out⟩
              · refine step_put 4 m2 m8 9 39 (HL.out.b8 m8 rfl).1 (by kernel_rfl) rfl rfl rfl ?_
                refine hK.out _ _ ?_ (fun hHeld' => ?_)
                · exact HS.out _ (kput_keep (And.left hHeld) (HL.out.b8 m8 rfl).2 4 m2)
                clear hK K hHeld
                have hHeld := hHeld'
                clear hHeld'
                have HL' := Lib.hid HL.out.put8_
                clear HL
                have HL := HL'
                clear HL'
                generalize kput X3 m8 4 m2 = X4 at *
                try simp only [Act.put]
                refine wpAnyH_ready (rs := [6]) (by kernel_rfl) (by simp) ?_
                refine (AllReadyH.cons (o := { dst := some 42, op := Go.Op.buildSlice 25 2 #[(0, Go.Operand.tmp 40), (1, Go.Operand.tmp 41)], type := 25, pos := "law.go:113", after := #[{ on := 4, ground := Go.Ground.data }, { on := 5, ground := Go.Ground.data }, { on := 10, ground := Go.Ground.gcOnly Go.Departure.lateStores }], guard := none }) rfl (fun K hK => ?_) AllReadyH.nil)
                refine step_two t a c u b d 40 41 (by kernel_rfl) rfl rfl rfl ?_
                refine hK.out _ _ ?_ (fun hHeld' => ?_)
                · exact HS.out _ (Keep.alloc (And.left hHeld) _)
                clear hK K hHeld
                have hHeld := hHeld'
                clear hHeld'
                have HL' := Lib.hid HL.out.alloc6
                clear HL
                have HL := HL'
                clear HL'
                generalize World.alloc X4 _ = X5 at *
                generalize X4.heap.size = m6 at *
                try simp only [Act.put, List.setIfInBounds_toArray, List.set_cons_zero, List.set_cons_succ]
                refine wpAnyH_take (i := 7) (oi := ⟨_,_,_,_,_,_⟩) (v := ?_) rfl (by kernel_rfl) (by kernel_rfl) (by kernel_rfl) (fun _ _ _ h => h) (Or.inl ⟨by rfl, ?_⟩) (by assumption) ?_
                rotate_left 1
                · (intro w hSw; (try dsimp only at hSw); go_simp; first | done | with_reducible rfl)
                try simp only [Act.put, List.setIfInBounds_toArray, List.set_cons_zero, List.set_cons_succ]
                refine wpAnyH_ready (rs := [11]) (by kernel_rfl) (by simp) ?_
                refine (AllReadyH.cons (o := { dst := none, op := Go.Op.store 27 (Go.Operand.tmp 10) (Go.Operand.tmp 43), type := 0, pos := "law.go:113", after := #[{ on := 9, ground := Go.Ground.data }, { on := 7, ground := Go.Ground.data }, { on := 10, ground := Go.Ground.chain }, { on := 0, ground := Go.Ground.phase }, { on := 1, ground := Go.Ground.phase }, { on := 2, ground := Go.Ground.phase }, { on := 3, ground := Go.Ground.phase }, { on := 4, ground := Go.Ground.phase }, { on := 5, ground := Go.Ground.phase }, { on := 6, ground := Go.Ground.phase }, { on := 7, ground := Go.Ground.phase }, { on := 8, ground := Go.Ground.phase }, { on := 9, ground := Go.Ground.phase }, { on := 10, ground := Go.Ground.phase }], guard := none }) rfl (fun K hK => ?_) AllReadyH.nil)
                refine step_put 3 m6 m9 10 43 (HL.out.b9 m9 rfl).1 (by kernel_rfl) rfl rfl rfl ?_
                refine hK.out _ _ ?_ (fun hHeld' => ?_)
                · exact HS.out _ (kput_keep (And.left hHeld) (HL.out.b9 m9 rfl).2 3 m6)
                clear hK K hHeld
                have hHeld := hHeld'
                clear hHeld'
                have HL' := Lib.hid HL.out.put9_
                clear HL
                have HL := HL'
                clear HL'
                generalize kput X5 m9 3 m6 = X6 at *
                try simp only [Act.put]
                refine wpAnyH_done (by kernel_rfl) ?_ _
                refine NoPanic.normal ?_
                have HPR := Lib.hid (HL.out.par)
                clear hHeld HL
                go_wp2_with fail
                go_meet
                case rel => exact ⟨m8, m9, m2, m6, rfl, rfl, HPR.out⟩
        · as_aux_lemma =>
            refine step_two t a c u b d 40 41 (by kernel_rfl) rfl rfl rfl ?_
            refine hK.out _ _ ?_ (fun hHeld' => ?_)
            · exact HS.out _ (Keep.alloc (And.left hHeld) _)
            clear hK K hHeld
            have hHeld := hHeld'
            clear hHeld'
            have HL' := Lib.hid HL.out.alloc6
            clear HL
            have HL := HL'
            clear HL'
            generalize World.alloc X1 _ = X2 at *
            generalize X1.heap.size = m6 at *
            try simp only [Act.put, List.setIfInBounds_toArray, List.set_cons_zero, List.set_cons_succ]
            refine wpAnyH_take (i := 7) (oi := ⟨_,_,_,_,_,_⟩) (v := ?_) rfl (by kernel_rfl) (by kernel_rfl) (by kernel_rfl) (fun _ _ _ h => h) (Or.inl ⟨by rfl, ?_⟩) (by assumption) ?_
            rotate_left 1
            · (intro w hSw; (try dsimp only at hSw); go_simp; first | done | with_reducible rfl)
            try simp only [Act.put, List.setIfInBounds_toArray, List.set_cons_zero, List.set_cons_succ]
            refine wpAnyH_ready (rs := [2, 9]) (by kernel_rfl) (by simp) ?_
            refine (AllReadyH.cons (o := { dst := some 38, op := Go.Op.buildSlice 25 2 #[(0, Go.Operand.tmp 36), (1, Go.Operand.tmp 37)], type := 25, pos := "law.go:113", after := #[{ on := 0, ground := Go.Ground.data }, { on := 1, ground := Go.Ground.data }], guard := none }) rfl (fun K hK => ?_) (AllReadyH.cons (o := { dst := some 10, op := Go.Op.alloc 27, type := 0, pos := "law.go:113", after := #[], guard := none }) rfl (fun K hK => ?_) AllReadyH.nil))
            · refine step_two t a c u b d 36 37 (by kernel_rfl) rfl rfl rfl ?_
              refine hK.out _ _ ?_ (fun hHeld' => ?_)
              · exact HS.out _ (Keep.alloc (And.left hHeld) _)
              clear hK K hHeld
              have hHeld := hHeld'
              clear hHeld'
              have HL' := Lib.hid HL.out.alloc2
              clear HL
              have HL := HL'
              clear HL'
              generalize World.alloc X2 _ = X3 at *
              generalize X2.heap.size = m2 at *
              try simp only [Act.put, List.setIfInBounds_toArray, List.set_cons_zero, List.set_cons_succ]
              refine wpAnyH_take (i := 3) (oi := ⟨_,_,_,_,_,_⟩) (v := ?_) rfl (by kernel_rfl) (by kernel_rfl) (by kernel_rfl) (fun _ _ _ h => h) (Or.inl ⟨by rfl, ?_⟩) (by assumption) ?_
              rotate_left 1
              · (intro w hSw; (try dsimp only at hSw); go_simp; first | done | with_reducible rfl)
              try simp only [Act.put, List.setIfInBounds_toArray, List.set_cons_zero, List.set_cons_succ]
              refine wpAnyH_ready (rs := [9]) (by kernel_rfl) (by simp) ?_
              refine (AllReadyH.cons (o := { dst := some 10, op := Go.Op.alloc 27, type := 0, pos := "law.go:113", after := #[], guard := none }) rfl (fun K hK => ?_) AllReadyH.nil)
              go_simp
              refine hK.out _ _ ?_ (fun hHeld' => ?_)
              · exact HS.out _ (Keep.alloc (And.left hHeld) _)
              clear hK K hHeld
              have hHeld := hHeld'
              clear hHeld'
              have HL' := Lib.hid HL.out.alloc9
              clear HL
              have HL := HL'
              clear HL'
              generalize World.alloc X3 _ = X4 at *
              generalize X3.heap.size = m9 at *
              try simp only [Act.put, List.setIfInBounds_toArray, List.set_cons_zero, List.set_cons_succ]
              refine wpAnyH_ready (rs := [10]) (by kernel_rfl) (by simp) ?_
              refine (AllReadyH.cons (o := { dst := none, op := Go.Op.store 27 (Go.Operand.tmp 9) (Go.Operand.tmp 39), type := 0, pos := "law.go:113", after := #[{ on := 8, ground := Go.Ground.data }, { on := 3, ground := Go.Ground.data }, { on := 0, ground := Go.Ground.phase }, { on := 1, ground := Go.Ground.phase }, { on := 2, ground := Go.Ground.phase }, { on := 3, ground := Go.Ground.phase }, { on := 4, ground := Go.Ground.textOnly Go.Departure.lateStores }, { on := 5, ground := Go.Ground.textOnly Go.Departure.lateStores }, { on := 6, ground := Go.Ground.textOnly Go.Departure.lateStores }, { on := 7, ground := Go.Ground.textOnly Go.Departure.lateStores }, { on := 8, ground := Go.Ground.phase }, { on := 9, ground := Go.Ground.phase }], guard := none }) rfl (fun K hK => ?_) AllReadyH.nil)
              refine step_put 4 m2 m8 9 39 (HL.out.b8 m8 rfl).1 (by kernel_rfl) rfl rfl rfl ?_
              refine hK.out _ _ ?_ (fun hHeld' => ?_)
              · exact HS.out _ (kput_keep (And.left hHeld) (HL.out.b8 m8 rfl).2 4 m2)
              clear hK K hHeld
              have hHeld := hHeld'
              clear hHeld'
              have HL' := Lib.hid HL.out.put8_
              clear HL
              have HL := HL'
              clear HL'
              generalize kput X4 m8 4 m2 = X5 at *
              try simp only [Act.put]
              refine wpAnyH_ready (rs := [11]) (by kernel_rfl) (by simp) ?_
              refine (AllReadyH.cons (o := { dst := none, op := Go.Op.store 27 (Go.Operand.tmp 10) (Go.Operand.tmp 43), type := 0, pos := "law.go:113", after := #[{ on := 9, ground := Go.Ground.data }, { on := 7, ground := Go.Ground.data }, { on := 10, ground := Go.Ground.chain }, { on := 0, ground := Go.Ground.phase }, { on := 1, ground := Go.Ground.phase }, { on := 2, ground := Go.Ground.phase }, { on := 3, ground := Go.Ground.phase }, { on := 4, ground := Go.Ground.phase }, { on := 5, ground := Go.Ground.phase }, { on := 6, ground := Go.Ground.phase }, { on := 7, ground := Go.Ground.phase }, { on := 8, ground := Go.Ground.phase }, { on := 9, ground := Go.Ground.phase }, { on := 10, ground := Go.Ground.phase }], guard := none }) rfl (fun K hK => ?_) AllReadyH.nil)
              refine step_put 3 m6 m9 10 43 (HL.out.b9 m9 rfl).1 (by kernel_rfl) rfl rfl rfl ?_
              refine hK.out _ _ ?_ (fun hHeld' => ?_)
              · exact HS.out _ (kput_keep (And.left hHeld) (HL.out.b9 m9 rfl).2 3 m6)
              clear hK K hHeld
              have hHeld := hHeld'
              clear hHeld'
              have HL' := Lib.hid HL.out.put9_
              clear HL
              have HL := HL'
              clear HL'
              generalize kput X5 m9 3 m6 = X6 at *
              try simp only [Act.put]
              refine wpAnyH_done (by kernel_rfl) ?_ _
              refine NoPanic.normal ?_
              have HPR := Lib.hid (HL.out.par)
              clear hHeld HL
              go_wp2_with fail
              go_meet
              case rel => exact ⟨m8, m9, m2, m6, rfl, rfl, HPR.out⟩
            · go_simp
              refine hK.out _ _ ?_ (fun hHeld' => ?_)
              · exact HS.out _ (Keep.alloc (And.left hHeld) _)
              clear hK K hHeld
              have hHeld := hHeld'
              clear hHeld'
              have HL' := Lib.hid HL.out.alloc9
              clear HL
              have HL := HL'
              clear HL'
              generalize World.alloc X2 _ = X3 at *
              generalize X2.heap.size = m9 at *
              try simp only [Act.put, List.setIfInBounds_toArray, List.set_cons_zero, List.set_cons_succ]
              refine wpAnyH_ready (rs := [2]) (by kernel_rfl) (by simp) ?_
              refine (AllReadyH.cons (o := { dst := some 38, op := Go.Op.buildSlice 25 2 #[(0, Go.Operand.tmp 36), (1, Go.Operand.tmp 37)], type := 25, pos := "law.go:113", after := #[{ on := 0, ground := Go.Ground.data }, { on := 1, ground := Go.Ground.data }], guard := none }) rfl (fun K hK => ?_) AllReadyH.nil)
              refine step_two t a c u b d 36 37 (by kernel_rfl) rfl rfl rfl ?_
              refine hK.out _ _ ?_ (fun hHeld' => ?_)
              · exact HS.out _ (Keep.alloc (And.left hHeld) _)
              clear hK K hHeld
              have hHeld := hHeld'
              clear hHeld'
              have HL' := Lib.hid HL.out.alloc2
              clear HL
              have HL := HL'
              clear HL'
              generalize World.alloc X3 _ = X4 at *
              generalize X3.heap.size = m2 at *
              try simp only [Act.put, List.setIfInBounds_toArray, List.set_cons_zero, List.set_cons_succ]
              refine wpAnyH_take (i := 3) (oi := ⟨_,_,_,_,_,_⟩) (v := ?_) rfl (by kernel_rfl) (by kernel_rfl) (by kernel_rfl) (fun _ _ _ h => h) (Or.inl ⟨by rfl, ?_⟩) (by assumption) ?_
              rotate_left 1
              · (intro w hSw; (try dsimp only at hSw); go_simp; first | done | with_reducible rfl)
              try simp only [Act.put, List.setIfInBounds_toArray, List.set_cons_zero, List.set_cons_succ]
              refine wpAnyH_ready (rs := [10]) (by kernel_rfl) (by simp) ?_
              refine (AllReadyH.cons (o := { dst := none, op := Go.Op.store 27 (Go.Operand.tmp 9) (Go.Operand.tmp 39), type := 0, pos := "law.go:113", after := #[{ on := 8, ground := Go.Ground.data }, { on := 3, ground := Go.Ground.data }, { on := 0, ground := Go.Ground.phase }, { on := 1, ground := Go.Ground.phase }, { on := 2, ground := Go.Ground.phase }, { on := 3, ground := Go.Ground.phase }, { on := 4, ground := Go.Ground.textOnly Go.Departure.lateStores }, { on := 5, ground := Go.Ground.textOnly Go.Departure.lateStores }, { on := 6, ground := Go.Ground.textOnly Go.Departure.lateStores }, { on := 7, ground := Go.Ground.textOnly Go.Departure.lateStores }, { on := 8, ground := Go.Ground.phase }, { on := 9, ground := Go.Ground.phase }], guard := none }) rfl (fun K hK => ?_) AllReadyH.nil)
              refine step_put 4 m2 m8 9 39 (HL.out.b8 m8 rfl).1 (by kernel_rfl) rfl rfl rfl ?_
              refine hK.out _ _ ?_ (fun hHeld' => ?_)
              · exact HS.out _ (kput_keep (And.left hHeld) (HL.out.b8 m8 rfl).2 4 m2)
              clear hK K hHeld
              have hHeld := hHeld'
              clear hHeld'
              have HL' := Lib.hid HL.out.put8_
              clear HL
              have HL := HL'
              clear HL'
              generalize kput X4 m8 4 m2 = X5 at *
              try simp only [Act.put]
              refine wpAnyH_ready (rs := [11]) (by kernel_rfl) (by simp) ?_
              refine (AllReadyH.cons (o := { dst := none, op := Go.Op.store 27 (Go.Operand.tmp 10) (Go.Operand.tmp 43), type := 0, pos := "law.go:113", after := #[{ on := 9, ground := Go.Ground.data }, { on := 7, ground := Go.Ground.data }, { on := 10, ground := Go.Ground.chain }, { on := 0, ground := Go.Ground.phase }, { on := 1, ground := Go.Ground.phase }, { on := 2, ground := Go.Ground.phase }, { on := 3, ground := Go.Ground.phase }, { on := 4, ground := Go.Ground.phase }, { on := 5, ground := Go.Ground.phase }, { on := 6, ground := Go.Ground.phase }, { on := 7, ground := Go.Ground.phase }, { on := 8, ground := Go.Ground.phase }, { on := 9, ground := Go.Ground.phase }, { on := 10, ground := Go.Ground.phase }], guard := none }) rfl (fun K hK => ?_) AllReadyH.nil)
              refine step_put 3 m6 m9 10 43 (HL.out.b9 m9 rfl).1 (by kernel_rfl) rfl rfl rfl ?_
              refine hK.out _ _ ?_ (fun hHeld' => ?_)
              · exact HS.out _ (kput_keep (And.left hHeld) (HL.out.b9 m9 rfl).2 3 m6)
              clear hK K hHeld
              have hHeld := hHeld'
              clear hHeld'
              have HL' := Lib.hid HL.out.put9_
              clear HL
              have HL := HL'
              clear HL'
              generalize kput X5 m9 3 m6 = X6 at *
              try simp only [Act.put]
              refine wpAnyH_done (by kernel_rfl) ?_ _
              refine NoPanic.normal ?_
              have HPR := Lib.hid (HL.out.par)
              clear hHeld HL
              go_wp2_with fail
              go_meet
              case rel => exact ⟨m8, m9, m2, m6, rfl, rfl, HPR.out⟩
        · as_aux_lemma =>
            go_simp
            refine hK.out _ _ ?_ (fun hHeld' => ?_)
            · exact HS.out _ (Keep.alloc (And.left hHeld) _)
            clear hK K hHeld
            have hHeld := hHeld'
            clear hHeld'
            have HL' := Lib.hid HL.out.alloc9
            clear HL
            have HL := HL'
            clear HL'
            generalize World.alloc X1 _ = X2 at *
            generalize X1.heap.size = m9 at *
            try simp only [Act.put, List.setIfInBounds_toArray, List.set_cons_zero, List.set_cons_succ]
            refine wpAnyH_ready (rs := [2, 6]) (by kernel_rfl) (by simp) ?_
            refine (AllReadyH.cons (o := { dst := some 38, op := Go.Op.buildSlice 25 2 #[(0, Go.Operand.tmp 36), (1, Go.Operand.tmp 37)], type := 25, pos := "law.go:113", after := #[{ on := 0, ground := Go.Ground.data }, { on := 1, ground := Go.Ground.data }], guard := none }) rfl (fun K hK => ?_) (AllReadyH.cons (o := { dst := some 42, op := Go.Op.buildSlice 25 2 #[(0, Go.Operand.tmp 40), (1, Go.Operand.tmp 41)], type := 25, pos := "law.go:113", after := #[{ on := 4, ground := Go.Ground.data }, { on := 5, ground := Go.Ground.data }, { on := 10, ground := Go.Ground.gcOnly Go.Departure.lateStores }], guard := none }) rfl (fun K hK => ?_) AllReadyH.nil))
            · refine step_two t a c u b d 36 37 (by kernel_rfl) rfl rfl rfl ?_
              refine hK.out _ _ ?_ (fun hHeld' => ?_)
              · exact HS.out _ (Keep.alloc (And.left hHeld) _)
              clear hK K hHeld
              have hHeld := hHeld'
              clear hHeld'
              have HL' := Lib.hid HL.out.alloc2
              clear HL
              have HL := HL'
              clear HL'
              generalize World.alloc X2 _ = X3 at *
              generalize X2.heap.size = m2 at *
              try simp only [Act.put, List.setIfInBounds_toArray, List.set_cons_zero, List.set_cons_succ]
              refine wpAnyH_take (i := 3) (oi := ⟨_,_,_,_,_,_⟩) (v := ?_) rfl (by kernel_rfl) (by kernel_rfl) (by kernel_rfl) (fun _ _ _ h => h) (Or.inl ⟨by rfl, ?_⟩) (by assumption) ?_
              rotate_left 1
              · (intro w hSw; (try dsimp only at hSw); go_simp; first | done | with_reducible rfl)
              try simp only [Act.put, List.setIfInBounds_toArray, List.set_cons_zero, List.set_cons_succ]
              refine wpAnyH_ready (rs := [6, 10]) (by kernel_rfl) (by simp) ?_
              refine (AllReadyH.cons (o := { dst := some 42, op := Go.Op.buildSlice 25 2 #[(0, Go.Operand.tmp 40), (1, Go.Operand.tmp 41)], type := 25, pos := "law.go:113", after := #[{ on := 4, ground := Go.Ground.data }, { on := 5, ground := Go.Ground.data }, { on := 10, ground := Go.Ground.gcOnly Go.Departure.lateStores }], guard := none }) rfl (fun K hK => ?_) (AllReadyH.cons (o := { dst := none, op := Go.Op.store 27 (Go.Operand.tmp 9) (Go.Operand.tmp 39), type := 0, pos := "law.go:113", after := #[{ on := 8, ground := Go.Ground.data }, { on := 3, ground := Go.Ground.data }, { on := 0, ground := Go.Ground.phase }, { on := 1, ground := Go.Ground.phase }, { on := 2, ground := Go.Ground.phase }, { on := 3, ground := Go.Ground.phase }, { on := 4, ground := Go.Ground.textOnly Go.Departure.lateStores }, { on := 5, ground := Go.Ground.textOnly Go.Departure.lateStores }, { on := 6, ground := Go.Ground.textOnly Go.Departure.lateStores }, { on := 7, ground := Go.Ground.textOnly Go.Departure.lateStores }, { on := 8, ground := Go.Ground.phase }, { on := 9, ground := Go.Ground.phase }], guard := none }) rfl (fun K hK => ?_) AllReadyH.nil))
              · refine step_two t a c u b d 40 41 (by kernel_rfl) rfl rfl rfl ?_
                refine hK.out _ _ ?_ (fun hHeld' => ?_)
                · exact HS.out _ (Keep.alloc (And.left hHeld) _)
                clear hK K hHeld
                have hHeld := hHeld'
                clear hHeld'
                have HL' := Lib.hid HL.out.alloc6
                clear HL
                have HL := HL'
                clear HL'
                generalize World.alloc X3 _ = X4 at *
                generalize X3.heap.size = m6 at *
                try simp only [Act.put, List.setIfInBounds_toArray, List.set_cons_zero, List.set_cons_succ]
                refine wpAnyH_take (i := 7) (oi := ⟨_,_,_,_,_,_⟩) (v := ?_) rfl (by kernel_rfl) (by kernel_rfl) (by kernel_rfl) (fun _ _ _ h => h) (Or.inl ⟨by rfl, ?_⟩) (by assumption) ?_
                rotate_left 1
                · (intro w hSw; (try dsimp only at hSw); go_simp; first | done | with_reducible rfl)
                try simp only [Act.put, List.setIfInBounds_toArray, List.set_cons_zero, List.set_cons_succ]
                refine wpAnyH_ready (rs := [10]) (by kernel_rfl) (by simp) ?_
                refine (AllReadyH.cons (o := { dst := none, op := Go.Op.store 27 (Go.Operand.tmp 9) (Go.Operand.tmp 39), type := 0, pos := "law.go:113", after := #[{ on := 8, ground := Go.Ground.data }, { on := 3, ground := Go.Ground.data }, { on := 0, ground := Go.Ground.phase }, { on := 1, ground := Go.Ground.phase }, { on := 2, ground := Go.Ground.phase }, { on := 3, ground := Go.Ground.phase }, { on := 4, ground := Go.Ground.textOnly Go.Departure.lateStores }, { on := 5, ground := Go.Ground.textOnly Go.Departure.lateStores }, { on := 6, ground := Go.Ground.textOnly Go.Departure.lateStores }, { on := 7, ground := Go.Ground.textOnly Go.Departure.lateStores }, { on := 8, ground := Go.Ground.phase }, { on := 9, ground := Go.Ground.phase }], guard := none }) rfl (fun K hK => ?_) AllReadyH.nil)
                refine step_put 4 m2 m8 9 39 (HL.out.b8 m8 rfl).1 (by kernel_rfl) rfl rfl rfl ?_
                refine hK.out _ _ ?_ (fun hHeld' => ?_)
                · exact HS.out _ (kput_keep (And.left hHeld) (HL.out.b8 m8 rfl).2 4 m2)
                clear hK K hHeld
                have hHeld := hHeld'
                clear hHeld'
                have HL' := Lib.hid HL.out.put8_
                clear HL
                have HL := HL'
                clear HL'
                generalize kput X4 m8 4 m2 = X5 at *
                try simp only [Act.put]
                refine wpAnyH_ready (rs := [11]) (by kernel_rfl) (by simp) ?_
                refine (AllReadyH.cons (o := { dst := none, op := Go.Op.store 27 (Go.Operand.tmp 10) (Go.Operand.tmp 43), type := 0, pos := "law.go:113", after := #[{ on := 9, ground := Go.Ground.data }, { on := 7, ground := Go.Ground.data }, { on := 10, ground := Go.Ground.chain }, { on := 0, ground := Go.Ground.phase }, { on := 1, ground := Go.Ground.phase }, { on := 2, ground := Go.Ground.phase }, { on := 3, ground := Go.Ground.phase }, { on := 4, ground := Go.Ground.phase }, { on := 5, ground := Go.Ground.phase }, { on := 6, ground := Go.Ground.phase }, { on := 7, ground := Go.Ground.phase }, { on := 8, ground := Go.Ground.phase }, { on := 9, ground := Go.Ground.phase }, { on := 10, ground := Go.Ground.phase }], guard := none }) rfl (fun K hK => ?_) AllReadyH.nil)
                refine step_put 3 m6 m9 10 43 (HL.out.b9 m9 rfl).1 (by kernel_rfl) rfl rfl rfl ?_
                refine hK.out _ _ ?_ (fun hHeld' => ?_)
                · exact HS.out _ (kput_keep (And.left hHeld) (HL.out.b9 m9 rfl).2 3 m6)
                clear hK K hHeld
                have hHeld := hHeld'
                clear hHeld'
                have HL' := Lib.hid HL.out.put9_
                clear HL
                have HL := HL'
                clear HL'
                generalize kput X5 m9 3 m6 = X6 at *
                try simp only [Act.put]
                refine wpAnyH_done (by kernel_rfl) ?_ _
                refine NoPanic.normal ?_
                have HPR := Lib.hid (HL.out.par)
                clear hHeld HL
                go_wp2_with fail
                go_meet
                case rel => exact ⟨m8, m9, m2, m6, rfl, rfl, HPR.out⟩
              · refine step_put 4 m2 m8 9 39 (HL.out.b8 m8 rfl).1 (by kernel_rfl) rfl rfl rfl ?_
                refine hK.out _ _ ?_ (fun hHeld' => ?_)
                · exact HS.out _ (kput_keep (And.left hHeld) (HL.out.b8 m8 rfl).2 4 m2)
                clear hK K hHeld
                have hHeld := hHeld'
                clear hHeld'
                have HL' := Lib.hid HL.out.put8_
                clear HL
                have HL := HL'
                clear HL'
                generalize kput X3 m8 4 m2 = X4 at *
                try simp only [Act.put]
                refine wpAnyH_ready (rs := [6]) (by kernel_rfl) (by simp) ?_
                refine (AllReadyH.cons (o := { dst := some 42, op := Go.Op.buildSlice 25 2 #[(0, Go.Operand.tmp 40), (1, Go.Operand.tmp 41)], type := 25, pos := "law.go:113", after := #[{ on := 4, ground := Go.Ground.data }, { on := 5, ground := Go.Ground.data }, { on := 10, ground := Go.Ground.gcOnly Go.Departure.lateStores }], guard := none }) rfl (fun K hK => ?_) AllReadyH.nil)
                refine step_two t a c u b d 40 41 (by kernel_rfl) rfl rfl rfl ?_
                refine hK.out _ _ ?_ (fun hHeld' => ?_)
                · exact HS.out _ (Keep.alloc (And.left hHeld) _)
                clear hK K hHeld
                have hHeld := hHeld'
                clear hHeld'
                have HL' := Lib.hid HL.out.alloc6
                clear HL
                have HL := HL'
                clear HL'
                generalize World.alloc X4 _ = X5 at *
                generalize X4.heap.size = m6 at *
                try simp only [Act.put, List.setIfInBounds_toArray, List.set_cons_zero, List.set_cons_succ]
                refine wpAnyH_take (i := 7) (oi := ⟨_,_,_,_,_,_⟩) (v := ?_) rfl (by kernel_rfl) (by kernel_rfl) (by kernel_rfl) (fun _ _ _ h => h) (Or.inl ⟨by rfl, ?_⟩) (by assumption) ?_
                rotate_left 1
                · (intro w hSw; (try dsimp only at hSw); go_simp; first | done | with_reducible rfl)
                try simp only [Act.put, List.setIfInBounds_toArray, List.set_cons_zero, List.set_cons_succ]
                refine wpAnyH_ready (rs := [11]) (by kernel_rfl) (by simp) ?_
                refine (AllReadyH.cons (o := { dst := none, op := Go.Op.store 27 (Go.Operand.tmp 10) (Go.Operand.tmp 43), type := 0, pos := "law.go:113", after := #[{ on := 9, ground := Go.Ground.data }, { on := 7, ground := Go.Ground.data }, { on := 10, ground := Go.Ground.chain }, { on := 0, ground := Go.Ground.phase }, { on := 1, ground := Go.Ground.phase }, { on := 2, ground := Go.Ground.phase }, { on := 3, ground := Go.Ground.phase }, { on := 4, ground := Go.Ground.phase }, { on := 5, ground := Go.Ground.phase }, { on := 6, ground := Go.Ground.phase }, { on := 7, ground := Go.Ground.phase }, { on := 8, ground := Go.Ground.phase }, { on := 9, ground := Go.Ground.phase }, { on := 10, ground := Go.Ground.phase }], guard := none }) rfl (fun K hK => ?_) AllReadyH.nil)
                refine step_put 3 m6 m9 10 43 (HL.out.b9 m9 rfl).1 (by kernel_rfl) rfl rfl rfl ?_
                refine hK.out _ _ ?_ (fun hHeld' => ?_)
                · exact HS.out _ (kput_keep (And.left hHeld) (HL.out.b9 m9 rfl).2 3 m6)
                clear hK K hHeld
                have hHeld := hHeld'
                clear hHeld'
                have HL' := Lib.hid HL.out.put9_
                clear HL
                have HL := HL'
                clear HL'
                generalize kput X5 m9 3 m6 = X6 at *
                try simp only [Act.put]
                refine wpAnyH_done (by kernel_rfl) ?_ _
                refine NoPanic.normal ?_
                have HPR := Lib.hid (HL.out.par)
                clear hHeld HL
                go_wp2_with fail
                go_meet
                case rel => exact ⟨m8, m9, m2, m6, rfl, rfl, HPR.out⟩
            · refine step_two t a c u b d 40 41 (by kernel_rfl) rfl rfl rfl ?_
              refine hK.out _ _ ?_ (fun hHeld' => ?_)
              · exact HS.out _ (Keep.alloc (And.left hHeld) _)
              clear hK K hHeld
              have hHeld := hHeld'
              clear hHeld'
              have HL' := Lib.hid HL.out.alloc6
              clear HL
              have HL := HL'
              clear HL'
              generalize World.alloc X2 _ = X3 at *
              generalize X2.heap.size = m6 at *
              try simp only [Act.put, List.setIfInBounds_toArray, List.set_cons_zero, List.set_cons_succ]
              refine wpAnyH_take (i := 7) (oi := ⟨_,_,_,_,_,_⟩) (v := ?_) rfl (by kernel_rfl) (by kernel_rfl) (by kernel_rfl) (fun _ _ _ h => h) (Or.inl ⟨by rfl, ?_⟩) (by assumption) ?_
              rotate_left 1
              · (intro w hSw; (try dsimp only at hSw); go_simp; first | done | with_reducible rfl)
              try simp only [Act.put, List.setIfInBounds_toArray, List.set_cons_zero, List.set_cons_succ]
              refine wpAnyH_ready (rs := [2]) (by kernel_rfl) (by simp) ?_
              refine (AllReadyH.cons (o := { dst := some 38, op := Go.Op.buildSlice 25 2 #[(0, Go.Operand.tmp 36), (1, Go.Operand.tmp 37)], type := 25, pos := "law.go:113", after := #[{ on := 0, ground := Go.Ground.data }, { on := 1, ground := Go.Ground.data }], guard := none }) rfl (fun K hK => ?_) AllReadyH.nil)
              refine step_two t a c u b d 36 37 (by kernel_rfl) rfl rfl rfl ?_
              refine hK.out _ _ ?_ (fun hHeld' => ?_)
              · exact HS.out _ (Keep.alloc (And.left hHeld) _)
              clear hK K hHeld
              have hHeld := hHeld'
              clear hHeld'
              have HL' := Lib.hid HL.out.alloc2
              clear HL
              have HL := HL'
              clear HL'
              generalize World.alloc X3 _ = X4 at *
              generalize X3.heap.size = m2 at *
              try simp only [Act.put, List.setIfInBounds_toArray, List.set_cons_zero, List.set_cons_succ]
              refine wpAnyH_take (i := 3) (oi := ⟨_,_,_,_,_,_⟩) (v := ?_) rfl (by kernel_rfl) (by kernel_rfl) (by kernel_rfl) (fun _ _ _ h => h) (Or.inl ⟨by rfl, ?_⟩) (by assumption) ?_
              rotate_left 1
              · (intro w hSw; (try dsimp only at hSw); go_simp; first | done | with_reducible rfl)
              try simp only [Act.put, List.setIfInBounds_toArray, List.set_cons_zero, List.set_cons_succ]
              refine wpAnyH_ready (rs := [10]) (by kernel_rfl) (by simp) ?_
              refine (AllReadyH.cons (o := { dst := none, op := Go.Op.store 27 (Go.Operand.tmp 9) (Go.Operand.tmp 39), type := 0, pos := "law.go:113", after := #[{ on := 8, ground := Go.Ground.data }, { on := 3, ground := Go.Ground.data }, { on := 0, ground := Go.Ground.phase }, { on := 1, ground := Go.Ground.phase }, { on := 2, ground := Go.Ground.phase }, { on := 3, ground := Go.Ground.phase }, { on := 4, ground := Go.Ground.textOnly Go.Departure.lateStores }, { on := 5, ground := Go.Ground.textOnly Go.Departure.lateStores }, { on := 6, ground := Go.Ground.textOnly Go.Departure.lateStores }, { on := 7, ground := Go.Ground.textOnly Go.Departure.lateStores }, { on := 8, ground := Go.Ground.phase }, { on := 9, ground := Go.Ground.phase }], guard := none }) rfl (fun K hK => ?_) AllReadyH.nil)
              refine step_put 4 m2 m8 9 39 (HL.out.b8 m8 rfl).1 (by kernel_rfl) rfl rfl rfl ?_
              refine hK.out _ _ ?_ (fun hHeld' => ?_)
              · exact HS.out _ (kput_keep (And.left hHeld) (HL.out.b8 m8 rfl).2 4 m2)
              clear hK K hHeld
              have hHeld := hHeld'
              clear hHeld'
              have HL' := Lib.hid HL.out.put8_
              clear HL
              have HL := HL'
              clear HL'
              generalize kput X4 m8 4 m2 = X5 at *
              try simp only [Act.put]
              refine wpAnyH_ready (rs := [11]) (by kernel_rfl) (by simp) ?_
              refine (AllReadyH.cons (o := { dst := none, op := Go.Op.store 27 (Go.Operand.tmp 10) (Go.Operand.tmp 43), type := 0, pos := "law.go:113", after := #[{ on := 9, ground := Go.Ground.data }, { on := 7, ground := Go.Ground.data }, { on := 10, ground := Go.Ground.chain }, { on := 0, ground := Go.Ground.phase }, { on := 1, ground := Go.Ground.phase }, { on := 2, ground := Go.Ground.phase }, { on := 3, ground := Go.Ground.phase }, { on := 4, ground := Go.Ground.phase }, { on := 5, ground := Go.Ground.phase }, { on := 6, ground := Go.Ground.phase }, { on := 7, ground := Go.Ground.phase }, { on := 8, ground := Go.Ground.phase }, { on := 9, ground := Go.Ground.phase }, { on := 10, ground := Go.Ground.phase }], guard := none }) rfl (fun K hK => ?_) AllReadyH.nil)
              refine step_put 3 m6 m9 10 43 (HL.out.b9 m9 rfl).1 (by kernel_rfl) rfl rfl rfl ?_
              refine hK.out _ _ ?_ (fun hHeld' => ?_)
              · exact HS.out _ (kput_keep (And.left hHeld) (HL.out.b9 m9 rfl).2 3 m6)
              clear hK K hHeld
              have hHeld := hHeld'
              clear hHeld'
              have HL' := Lib.hid HL.out.put9_
              clear HL
              have HL := HL'
              clear HL'
              generalize kput X5 m9 3 m6 = X6 at *
              try simp only [Act.put]
              refine wpAnyH_done (by kernel_rfl) ?_ _
              refine NoPanic.normal ?_
              have HPR := Lib.hid (HL.out.par)
              clear hHeld HL
              go_wp2_with fail
              go_meet
              case rel => exact ⟨m8, m9, m2, m6, rfl, rfl, HPR.out⟩
    · as_aux_lemma =>
        go_simp
        refine hK.out _ _ ?_ (fun hHeld' => ?_)
        · exact HS.out _ (Keep.alloc (And.left hHeld) _)
        clear hK K hHeld
        have hHeld := hHeld'
        clear hHeld'
        have HL' := Lib.hid HL.out.alloc9
        clear HL
        have HL := HL'
        clear HL'
        generalize World.alloc X0 _ = X1 at *
        generalize X0.heap.size = m9 at *
        try simp only [Act.put, List.setIfInBounds_toArray, List.set_cons_zero, List.set_cons_succ]
        refine wpAnyH_ready (rs := [2, 6, 8]) (by kernel_rfl) (by simp) ?_
        refine (AllReadyH.cons (o := { dst := some 38, op := Go.Op.buildSlice 25 2 #[(0, Go.Operand.tmp 36), (1, Go.Operand.tmp 37)], type := 25, pos := "law.go:113", after := #[{ on := 0, ground := Go.Ground.data }, { on := 1, ground := Go.Ground.data }], guard := none }) rfl (fun K hK => ?_) (AllReadyH.cons (o := { dst := some 42, op := Go.Op.buildSlice 25 2 #[(0, Go.Operand.tmp 40), (1, Go.Operand.tmp 41)], type := 25, pos := "law.go:113", after := #[{ on := 4, ground := Go.Ground.data }, { on := 5, ground := Go.Ground.data }, { on := 10, ground := Go.Ground.gcOnly Go.Departure.lateStores }], guard := none }) rfl (fun K hK => ?_) (AllReadyH.cons (o := { dst := some 9, op := Go.Op.alloc 27, type := 0, pos := "law.go:113", after := #[], guard := none }) rfl (fun K hK => ?_) AllReadyH.nil)))
        · as_aux_lemma =>
            refine step_two t a c u b d 36 37 (by kernel_rfl) rfl rfl rfl ?_
            refine hK.out _ _ ?_ (fun hHeld' => ?_)
            · exact HS.out _ (Keep.alloc (And.left hHeld) _)
            clear hK K hHeld
            have hHeld := hHeld'
            clear hHeld'
            have HL' := Lib.hid HL.out.alloc2
            clear HL
            have HL := HL'
            clear HL'
            generalize World.alloc X1 _ = X2 at *
            generalize X1.heap.size = m2 at *
            try simp only [Act.put, List.setIfInBounds_toArray, List.set_cons_zero, List.set_cons_succ]
            refine wpAnyH_take (i := 3) (oi := ⟨_,_,_,_,_,_⟩) (v := ?_) rfl (by kernel_rfl) (by kernel_rfl) (by kernel_rfl) (fun _ _ _ h => h) (Or.inl ⟨by rfl, ?_⟩) (by assumption) ?_
            rotate_left 1
            · (intro w hSw; (try dsimp only at hSw); go_simp; first | done | with_reducible rfl)
            try simp only [Act.put, List.setIfInBounds_toArray, List.set_cons_zero, List.set_cons_succ]
            refine wpAnyH_ready (rs := [6, 8]) (by kernel_rfl) (by simp) ?_
            refine (AllReadyH.cons (o := { dst := some 42, op := Go.Op.buildSlice 25 2 #[(0, Go.Operand.tmp 40), (1, Go.Operand.tmp 41)], type := 25, pos := "law.go:113", after := #[{ on := 4, ground := Go.Ground.data }, { on := 5, ground := Go.Ground.data }, { on := 10, ground := Go.Ground.gcOnly Go.Departure.lateStores }], guard := none }) rfl (fun K hK => ?_) (AllReadyH.cons (o := { dst := some 9, op := Go.Op.alloc 27, type := 0, pos := "law.go:113", after := #[], guard := none }) rfl (fun K hK => ?_) AllReadyH.nil))
            · refine step_two t a c u b d 40 41 (by kernel_rfl) rfl rfl rfl ?_
              refine hK.out _ _ ?_ (fun hHeld' => ?_)
              · exact HS.out _ (Keep.alloc (And.left hHeld) _)
              clear hK K hHeld
              have hHeld := hHeld'
              clear hHeld'
              have HL' := Lib.hid HL.out.alloc6
              clear HL
              have HL := HL'
              clear HL'
              generalize World.alloc X2 _ = X3 at *
              generalize X2.heap.size = m6 at *
              try simp only [Act.put, List.setIfInBounds_toArray, List.set_cons_zero, List.set_cons_succ]
              refine wpAnyH_take (i := 7) (oi := ⟨_,_,_,_,_,_⟩) (v := ?_) rfl (by kernel_rfl) (by kernel_rfl) (by kernel_rfl) (fun _ _ _ h => h) (Or.inl ⟨by rfl, ?_⟩) (by assumption) ?_
              rotate_left 1
              · (intro w hSw; (try dsimp only at hSw); go_simp; first | done | with_reducible rfl)
              try simp only [Act.put, List.setIfInBounds_toArray, List.set_cons_zero, List.set_cons_succ]
              refine wpAnyH_ready (rs := [8]) (by kernel_rfl) (by simp) ?_
              refine (AllReadyH.cons (o := { dst := some 9, op := Go.Op.alloc 27, type := 0, pos := "law.go:113", after := #[], guard := none }) rfl (fun K hK => ?_) AllReadyH.nil)
              go_simp
              refine hK.out _ _ ?_ (fun hHeld' => ?_)
              · exact HS.out _ (Keep.alloc (And.left hHeld) _)
              clear hK K hHeld
              have hHeld := hHeld'
              clear hHeld'
              have HL' := Lib.hid HL.out.alloc8
              clear HL
              have HL := HL'
              clear HL'
              generalize World.alloc X3 _ = X4 at *
              generalize X3.heap.size = m8 at *
              try simp only [Act.put, List.setIfInBounds_toArray, List.set_cons_zero, List.set_cons_succ]
              refine wpAnyH_ready (rs := [10]) (by kernel_rfl) (by simp) ?_
              refine (AllReadyH.cons (o := { dst := none, op := Go.Op.store 27 (Go.Operand.tmp 9) (Go.Operand.tmp 39), type := 0, pos := "law.go:113", after := #[{ on := 8, ground := Go.Ground.data }, { on := 3, ground := Go.Ground.data }, { on := 0, ground := Go.Ground.phase }, { on := 1, ground := Go.Ground.phase }, { on := 2, ground := Go.Ground.phase }, { on := 3, ground := Go.Ground.phase }, { on := 4, ground := Go.Ground.textOnly Go.Departure.lateStores }, { on := 5, ground := Go.Ground.textOnly Go.Departure.lateStores }, { on := 6, ground := Go.Ground.textOnly Go.Departure.lateStores }, { on := 7, ground := Go.Ground.textOnly Go.Departure.lateStores }, { on := 8, ground := Go.Ground.phase }, { on := 9, ground := Go.Ground.phase }], guard := none }) rfl (fun K hK => ?_) AllReadyH.nil)
              refine step_put 4 m2 m8 9 39 (HL.out.b8 m8 rfl).1 (by kernel_rfl) rfl rfl rfl ?_
              refine hK.out _ _ ?_ (fun hHeld' => ?_)
              · exact HS.out _ (kput_keep (And.left hHeld) (HL.out.b8 m8 rfl).2 4 m2)
              clear hK K hHeld
              have hHeld := hHeld'
              clear hHeld'
              have HL' := Lib.hid HL.out.put8_
              clear HL
              have HL := HL'
              clear HL'
              generalize kput X4 m8 4 m2 = X5 at *
              try simp only [Act.put]
              refine wpAnyH_ready (rs := [11]) (by kernel_rfl) (by simp) ?_
              refine (AllReadyH.cons (o := { dst := none, op := Go.Op.store 27 (Go.Operand.tmp 10) (Go.Operand.tmp 43), type := 0, pos := "law.go:113", after := #[{ on := 9, ground := Go.Ground.data }, { on := 7, ground := Go.Ground.data }, { on := 10, ground := Go.Ground.chain }, { on := 0, ground := Go.Ground.phase }, { on := 1, ground := Go.Ground.phase }, { on := 2, ground := Go.Ground.phase }, { on := 3, ground := Go.Ground.phase }, { on := 4, ground := Go.Ground.phase }, { on := 5, ground := Go.Ground.phase }, { on := 6, ground := Go.Ground.phase }, { on := 7, ground := Go.Ground.phase }, { on := 8, ground := Go.Ground.phase }, { on := 9, ground := Go.Ground.phase }, { on := 10, ground := Go.Ground.phase }], guard := none }) rfl (fun K hK => ?_) AllReadyH.nil)
              refine step_put 3 m6 m9 10 43 (HL.out.b9 m9 rfl).1 (by kernel_rfl) rfl rfl rfl ?_
              refine hK.out _ _ ?_ (fun hHeld' => ?_)
              · exact HS.out _ (kput_keep (And.left hHeld) (HL.out.b9 m9 rfl).2 3 m6)
              clear hK K hHeld
              have hHeld := hHeld'
              clear hHeld'
              have HL' := Lib.hid HL.out.put9_
              clear HL
              have HL := HL'
              clear HL'
              generalize kput X5 m9 3 m6 = X6 at *
              try simp only [Act.put]
              refine wpAnyH_done (by kernel_rfl) ?_ _
              refine NoPanic.normal ?_
              have HPR := Lib.hid (HL.out.par)
              clear hHeld HL
              go_wp2_with fail
              go_meet
              case rel => exact ⟨m8, m9, m2, m6, rfl, rfl, HPR.out⟩
            · go_simp
              refine hK.out _ _ ?_ (fun hHeld' => ?_)
              · exact HS.out _ (Keep.alloc (And.left hHeld) _)
              clear hK K hHeld
              have hHeld := hHeld'
              clear hHeld'
              have HL' := Lib.hid HL.out.alloc8
              clear HL
              have HL := HL'
              clear HL'
              generalize World.alloc X2 _ = X3 at *
              generalize X2.heap.size = m8 at *
              try simp only [Act.put, List.setIfInBounds_toArray, List.set_cons_zero, List.set_cons_succ]
              refine wpAnyH_ready (rs := [6, 10]) (by kernel_rfl) (by simp) ?_
              refine (AllReadyH.cons (o := { dst := some 42, op := Go.Op.buildSlice 25 2 #[(0, Go.Operand.tmp 40), (1, Go.Operand.tmp 41)], type := 25, pos := "law.go:113", after := #[{ on := 4, ground := Go.Ground.data }, { on := 5, ground := Go.Ground.data }, { on := 10, ground := Go.Ground.gcOnly Go.Departure.lateStores }], guard := none }) rfl (fun K hK => ?_) (AllReadyH.cons (o := { dst := none, op := Go.Op.store 27 (Go.Operand.tmp 9) (Go.Operand.tmp 39), type := 0, pos := "law.go:113", after := #[{ on := 8, ground := Go.Ground.data }, { on := 3, ground := Go.Ground.data }, { on := 0, ground := Go.Ground.phase }, { on := 1, ground := Go.Ground.phase }, { on := 2, ground := Go.Ground.phase }, { on := 3, ground := Go.Ground.phase }, { on := 4, ground := Go.Ground.textOnly Go.Departure.lateStores }, { on := 5, ground := Go.Ground.textOnly Go.Departure.lateStores }, { on := 6, ground := Go.Ground.textOnly Go.Departure.lateStores }, { on := 7, ground := Go.Ground.textOnly Go.Departure.lateStores }, { on := 8, ground := Go.Ground.phase }, { on := 9, ground := Go.Ground.phase }], guard := none }) rfl (fun K hK => ?_) AllReadyH.nil))
              · refine step_two t a c u b d 40 41 (by kernel_rfl) rfl rfl rfl ?_
                refine hK.out _ _ ?_ (fun hHeld' => ?_)
                · exact HS.out _ (Keep.alloc (And.left hHeld) _)
                clear hK K hHeld
                have hHeld := hHeld'
                clear hHeld'
                have HL' := Lib.hid HL.out.alloc6
                clear HL
                have HL := HL'
                clear HL'
                generalize World.alloc X3 _ = X4 at *
                generalize X3.heap.size = m6 at *
                try simp only [Act.put, List.setIfInBounds_toArray, List.set_cons_zero, List.set_cons_succ]
                refine wpAnyH_take (i := 7) (oi := ⟨_,_,_,_,_,_⟩) (v := ?_) rfl (by kernel_rfl) (by kernel_rfl) (by kernel_rfl) (fun _ _ _ h => h) (Or.inl ⟨by rfl, ?_⟩) (by assumption) ?_
                rotate_left 1
                · (intro w hSw; (try dsimp only at hSw); go_simp; first | done | with_reducible rfl)
                try simp only [Act.put, List.setIfInBounds_toArray, List.set_cons_zero, List.set_cons_succ]
                refine wpAnyH_ready (rs := [10]) (by kernel_rfl) (by simp) ?_
                refine (AllReadyH.cons (o := { dst := none, op := Go.Op.store 27 (Go.Operand.tmp 9) (Go.Operand.tmp 39), type := 0, pos := "law.go:113", after := #[{ on := 8, ground := Go.Ground.data }, { on := 3, ground := Go.Ground.data }, { on := 0, ground := Go.Ground.phase }, { on := 1, ground := Go.Ground.phase }, { on := 2, ground := Go.Ground.phase }, { on := 3, ground := Go.Ground.phase }, { on := 4, ground := Go.Ground.textOnly Go.Departure.lateStores }, { on := 5, ground := Go.Ground.textOnly Go.Departure.lateStores }, { on := 6, ground := Go.Ground.textOnly Go.Departure.lateStores }, { on := 7, ground := Go.Ground.textOnly Go.Departure.lateStores }, { on := 8, ground := Go.Ground.phase }, { on := 9, ground := Go.Ground.phase }], guard := none }) rfl (fun K hK => ?_) AllReadyH.nil)
                refine step_put 4 m2 m8 9 39 (HL.out.b8 m8 rfl).1 (by kernel_rfl) rfl rfl rfl ?_
                refine hK.out _ _ ?_ (fun hHeld' => ?_)
                · exact HS.out _ (kput_keep (And.left hHeld) (HL.out.b8 m8 rfl).2 4 m2)
                clear hK K hHeld
                have hHeld := hHeld'
                clear hHeld'
                have HL' := Lib.hid HL.out.put8_
                clear HL
                have HL := HL'
                clear HL'
                generalize kput X4 m8 4 m2 = X5 at *
                try simp only [Act.put]
                refine wpAnyH_ready (rs := [11]) (by kernel_rfl) (by simp) ?_
                refine (AllReadyH.cons (o := { dst := none, op := Go.Op.store 27 (Go.Operand.tmp 10) (Go.Operand.tmp 43), type := 0, pos := "law.go:113", after := #[{ on := 9, ground := Go.Ground.data }, { on := 7, ground := Go.Ground.data }, { on := 10, ground := Go.Ground.chain }, { on := 0, ground := Go.Ground.phase }, { on := 1, ground := Go.Ground.phase }, { on := 2, ground := Go.Ground.phase }, { on := 3, ground := Go.Ground.phase }, { on := 4, ground := Go.Ground.phase }, { on := 5, ground := Go.Ground.phase }, { on := 6, ground := Go.Ground.phase }, { on := 7, ground := Go.Ground.phase }, { on := 8, ground := Go.Ground.phase }, { on := 9, ground := Go.Ground.phase }, { on := 10, ground := Go.Ground.phase }], guard := none }) rfl (fun K hK => ?_) AllReadyH.nil)
                refine step_put 3 m6 m9 10 43 (HL.out.b9 m9 rfl).1 (by kernel_rfl) rfl rfl rfl ?_
                refine hK.out _ _ ?_ (fun hHeld' => ?_)
                · exact HS.out _ (kput_keep (And.left hHeld) (HL.out.b9 m9 rfl).2 3 m6)
                clear hK K hHeld
                have hHeld := hHeld'
                clear hHeld'
                have HL' := Lib.hid HL.out.put9_
                clear HL
                have HL := HL'
                clear HL'
                generalize kput X5 m9 3 m6 = X6 at *
                try simp only [Act.put]
                refine wpAnyH_done (by kernel_rfl) ?_ _
                refine NoPanic.normal ?_
                have HPR := Lib.hid (HL.out.par)
                clear hHeld HL
                go_wp2_with fail
                go_meet
                case rel => exact ⟨m8, m9, m2, m6, rfl, rfl, HPR.out⟩
              · refine step_put 4 m2 m8 9 39 (HL.out.b8 m8 rfl).1 (by kernel_rfl) rfl rfl rfl ?_
                refine hK.out _ _ ?_ (fun hHeld' => ?_)
                · exact HS.out _ (kput_keep (And.left hHeld) (HL.out.b8 m8 rfl).2 4 m2)
                clear hK K hHeld
                have hHeld := hHeld'
                clear hHeld'
                have HL' := Lib.hid HL.out.put8_
                clear HL
                have HL := HL'
                clear HL'
                generalize kput X3 m8 4 m2 = X4 at *
                try simp only [Act.put]
                refine wpAnyH_ready (rs := [6]) (by kernel_rfl) (by simp) ?_
                refine (AllReadyH.cons (o := { dst := some 42, op := Go.Op.buildSlice 25 2 #[(0, Go.Operand.tmp 40), (1, Go.Operand.tmp 41)], type := 25, pos := "law.go:113", after := #[{ on := 4, ground := Go.Ground.data }, { on := 5, ground := Go.Ground.data }, { on := 10, ground := Go.Ground.gcOnly Go.Departure.lateStores }], guard := none }) rfl (fun K hK => ?_) AllReadyH.nil)
                refine step_two t a c u b d 40 41 (by kernel_rfl) rfl rfl rfl ?_
                refine hK.out _ _ ?_ (fun hHeld' => ?_)
                · exact HS.out _ (Keep.alloc (And.left hHeld) _)
                clear hK K hHeld
                have hHeld := hHeld'
                clear hHeld'
                have HL' := Lib.hid HL.out.alloc6
                clear HL
                have HL := HL'
                clear HL'
                generalize World.alloc X4 _ = X5 at *
                generalize X4.heap.size = m6 at *
                try simp only [Act.put, List.setIfInBounds_toArray, List.set_cons_zero, List.set_cons_succ]
                refine wpAnyH_take (i := 7) (oi := ⟨_,_,_,_,_,_⟩) (v := ?_) rfl (by kernel_rfl) (by kernel_rfl) (by kernel_rfl) (fun _ _ _ h => h) (Or.inl ⟨by rfl, ?_⟩) (by assumption) ?_
                rotate_left 1
                · (intro w hSw; (try dsimp only at hSw); go_simp; first | done | with_reducible rfl)
                try simp only [Act.put, List.setIfInBounds_toArray, List.set_cons_zero, List.set_cons_succ]
                refine wpAnyH_ready (rs := [11]) (by kernel_rfl) (by simp) ?_
                refine (AllReadyH.cons (o := { dst := none, op := Go.Op.store 27 (Go.Operand.tmp 10) (Go.Operand.tmp 43), type := 0, pos := "law.go:113", after := #[{ on := 9, ground := Go.Ground.data }, { on := 7, ground := Go.Ground.data }, { on := 10, ground := Go.Ground.chain }, { on := 0, ground := Go.Ground.phase }, { on := 1, ground := Go.Ground.phase }, { on := 2, ground := Go.Ground.phase }, { on := 3, ground := Go.Ground.phase }, { on := 4, ground := Go.Ground.phase }, { on := 5, ground := Go.Ground.phase }, { on := 6, ground := Go.Ground.phase }, { on := 7, ground := Go.Ground.phase }, { on := 8, ground := Go.Ground.phase }, { on := 9, ground := Go.Ground.phase }, { on := 10, ground := Go.Ground.phase }], guard := none }) rfl (fun K hK => ?_) AllReadyH.nil)
                refine step_put 3 m6 m9 10 43 (HL.out.b9 m9 rfl).1 (by kernel_rfl) rfl rfl rfl ?_
                refine hK.out _ _ ?_ (fun hHeld' => ?_)
                · exact HS.out _ (kput_keep (And.left hHeld) (HL.out.b9 m9 rfl).2 3 m6)
                clear hK K hHeld
                have hHeld := hHeld'
                clear hHeld'
                have HL' := Lib.hid HL.out.put9_
                clear HL
                have HL := HL'
                clear HL'
                generalize kput X5 m9 3 m6 = X6 at *
                try simp only [Act.put]
                refine wpAnyH_done (by kernel_rfl) ?_ _
                refine NoPanic.normal ?_
                have HPR := Lib.hid (HL.out.par)
                clear hHeld HL
                go_wp2_with fail
                go_meet
                case rel => exact ⟨m8, m9, m2, m6, rfl, rfl, HPR.out⟩
        · as_aux_lemma =>
            refine step_two t a c u b d 40 41 (by kernel_rfl) rfl rfl rfl ?_
            refine hK.out _ _ ?_ (fun hHeld' => ?_)
            · exact HS.out _ (Keep.alloc (And.left hHeld) _)
            clear hK K hHeld
            have hHeld := hHeld'
            clear hHeld'
            have HL' := Lib.hid HL.out.alloc6
            clear HL
            have HL := HL'
            clear HL'
            generalize World.alloc X1 _ = X2 at *
            generalize X1.heap.size = m6 at *
            try simp only [Act.put, List.setIfInBounds_toArray, List.set_cons_zero, List.set_cons_succ]
            refine wpAnyH_take (i := 7) (oi := ⟨_,_,_,_,_,_⟩) (v := ?_) rfl (by kernel_rfl) (by kernel_rfl) (by kernel_rfl) (fun _ _ _ h => h) (Or.inl ⟨by rfl, ?_⟩) (by assumption) ?_
            rotate_left 1
            · (intro w hSw; (try dsimp only at hSw); go_simp; first | done | with_reducible rfl)
            try simp only [Act.put, List.setIfInBounds_toArray, List.set_cons_zero, List.set_cons_succ]
            refine wpAnyH_ready (rs := [2, 8]) (by kernel_rfl) (by simp) ?_
            refine (AllReadyH.cons (o := { dst := some 38, op := Go.Op.buildSlice 25 2 #[(0, Go.Operand.tmp 36), (1, Go.Operand.tmp 37)], type := 25, pos := "law.go:113", after := #[{ on := 0, ground := Go.Ground.data }, { on := 1, ground := Go.Ground.data }], guard := none }) rfl (fun K hK => ?_) (AllReadyH.cons (o := { dst := some 9, op := Go.Op.alloc 27, type := 0, pos := "law.go:113", after := #[], guard := none }) rfl (fun K hK => ?_) AllReadyH.nil))
            · refine step_two t a c u b d 36 37 (by kernel_rfl) rfl rfl rfl ?_
              refine hK.out _ _ ?_ (fun hHeld' => ?_)
              · exact HS.out _ (Keep.alloc (And.left hHeld) _)
              clear hK K hHeld
              have hHeld := hHeld'
              clear hHeld'
              have HL' := Lib.hid HL.out.alloc2
              clear HL
              have HL := HL'
              clear HL'
              generalize World.alloc X2 _ = X3 at *
              generalize X2.heap.size = m2 at *
              try simp only [Act.put, List.setIfInBounds_toArray, List.set_cons_zero, List.set_cons_succ]
              refine wpAnyH_take (i := 3) (oi := ⟨_,_,_,_,_,_⟩) (v := ?_) rfl (by kernel_rfl) (by kernel_rfl) (by kernel_rfl) (fun _ _ _ h => h) (Or.inl ⟨by rfl, ?_⟩) (by assumption) ?_
              rotate_left 1
              · (intro w hSw; (try dsimp only at hSw); go_simp; first | done | with_reducible rfl)
              try simp only [Act.put, List.setIfInBounds_toArray, List.set_cons_zero, List.set_cons_succ]
              refine wpAnyH_ready (rs := [8]) (by kernel_rfl) (by simp) ?_
              refine (AllReadyH.cons (o := { dst := some 9, op := Go.Op.alloc 27, type := 0, pos := "law.go:113", after := #[], guard := none }) rfl (fun K hK => ?_) AllReadyH.nil)
              go_simp
              refine hK.out _ _ ?_ (fun hHeld' => ?_)
              · exact HS.out _ (Keep.alloc (And.left hHeld) _)
              clear hK K hHeld
              have hHeld := hHeld'
              clear hHeld'
              have HL' := Lib.hid HL.out.alloc8
              clear HL
              have HL := HL'
              clear HL'
              generalize World.alloc X3 _ = X4 at *
              generalize X3.heap.size = m8 at *
              try simp only [Act.put, List.setIfInBounds_toArray, List.set_cons_zero, List.set_cons_succ]
              refine wpAnyH_ready (rs := [10]) (by kernel_rfl) (by simp) ?_
              refine (AllReadyH.cons (o := { dst := none, op := Go.Op.store 27 (Go.Operand.tmp 9) (Go.Operand.tmp 39), type := 0, pos := "law.go:113", after := #[{ on := 8, ground := Go.Ground.data }, { on := 3, ground := Go.Ground.data }, { on := 0, ground := Go.Ground.phase }, { on := 1, ground := Go.Ground.phase }, { on := 2, ground := Go.Ground.phase }, { on := 3, ground := Go.Ground.phase }, { on := 4, ground := Go.Ground.textOnly Go.Departure.lateStores }, { on := 5, ground := Go.Ground.textOnly Go.Departure.lateStores }, { on := 6, ground := Go.Ground.textOnly Go.Departure.lateStores }, { on := 7, ground := Go.Ground.textOnly Go.Departure.lateStores }, { on := 8, ground := Go.Ground.phase }, { on := 9, ground := Go.Ground.phase }], guard := none }) rfl (fun K hK => ?_) AllReadyH.nil)
              refine step_put 4 m2 m8 9 39 (HL.out.b8 m8 rfl).1 (by kernel_rfl) rfl rfl rfl ?_
              refine hK.out _ _ ?_ (fun hHeld' => ?_)
              · exact HS.out _ (kput_keep (And.left hHeld) (HL.out.b8 m8 rfl).2 4 m2)
              clear hK K hHeld
              have hHeld := hHeld'
              clear hHeld'
              have HL' := Lib.hid HL.out.put8_
              clear HL
              have HL := HL'
              clear HL'
              generalize kput X4 m8 4 m2 = X5 at *
              try simp only [Act.put]
              refine wpAnyH_ready (rs := [11]) (by kernel_rfl) (by simp) ?_
              refine (AllReadyH.cons (o := { dst := none, op := Go.Op.store 27 (Go.Operand.tmp 10) (Go.Operand.tmp 43), type := 0, pos := "law.go:113", after := #[{ on := 9, ground := Go.Ground.data }, { on := 7, ground := Go.Ground.data }, { on := 10, ground := Go.Ground.chain }, { on := 0, ground := Go.Ground.phase }, { on := 1, ground := Go.Ground.phase }, { on := 2, ground := Go.Ground.phase }, { on := 3, ground := Go.Ground.phase }, { on := 4, ground := Go.Ground.phase }, { on := 5, ground := Go.Ground.phase }, { on := 6, ground := Go.Ground.phase }, { on := 7, ground := Go.Ground.phase }, { on := 8, ground := Go.Ground.phase }, { on := 9, ground := Go.Ground.phase }, { on := 10, ground := Go.Ground.phase }], guard := none }) rfl (fun K hK => ?_) AllReadyH.nil)
              refine step_put 3 m6 m9 10 43 (HL.out.b9 m9 rfl).1 (by kernel_rfl) rfl rfl rfl ?_
              refine hK.out _ _ ?_ (fun hHeld' => ?_)
              · exact HS.out _ (kput_keep (And.left hHeld) (HL.out.b9 m9 rfl).2 3 m6)
              clear hK K hHeld
              have hHeld := hHeld'
              clear hHeld'
              have HL' := Lib.hid HL.out.put9_
              clear HL
              have HL := HL'
              clear HL'
              generalize kput X5 m9 3 m6 = X6 at *
              try simp only [Act.put]
              refine wpAnyH_done (by kernel_rfl) ?_ _
              refine NoPanic.normal ?_
              have HPR := Lib.hid (HL.out.par)
              clear hHeld HL
              go_wp2_with fail
              go_meet
              case rel => exact ⟨m8, m9, m2, m6, rfl, rfl, HPR.out⟩
            · go_simp
              refine hK.out _ _ ?_ (fun hHeld' => ?_)
              · exact HS.out _ (Keep.alloc (And.left hHeld) _)
              clear hK K hHeld
              have hHeld := hHeld'
              clear hHeld'
              have HL' := Lib.hid HL.out.alloc8
              clear HL
              have HL := HL'
              clear HL'
              generalize World.alloc X2 _ = X3 at *
              generalize X2.heap.size = m8 at *
              try simp only [Act.put, List.setIfInBounds_toArray, List.set_cons_zero, List.set_cons_succ]
              refine wpAnyH_ready (rs := [2]) (by kernel_rfl) (by simp) ?_
              refine (AllReadyH.cons (o := { dst := some 38, op := Go.Op.buildSlice 25 2 #[(0, Go.Operand.tmp 36), (1, Go.Operand.tmp 37)], type := 25, pos := "law.go:113", after := #[{ on := 0, ground := Go.Ground.data }, { on := 1, ground := Go.Ground.data }], guard := none }) rfl (fun K hK => ?_) AllReadyH.nil)
              refine step_two t a c u b d 36 37 (by kernel_rfl) rfl rfl rfl ?_
              refine hK.out _ _ ?_ (fun hHeld' => ?_)
              · exact HS.out _ (Keep.alloc (And.left hHeld) _)
              clear hK K hHeld
              have hHeld := hHeld'
              clear hHeld'
              have HL' := Lib.hid HL.out.alloc2
              clear HL
              have HL := HL'
              clear HL'
              generalize World.alloc X3 _ = X4 at *
              generalize X3.heap.size = m2 at *
              try simp only [Act.put, List.setIfInBounds_toArray, List.set_cons_zero, List.set_cons_succ]
              refine wpAnyH_take (i := 3) (oi := ⟨_,_,_,_,_,_⟩) (v := ?_) rfl (by kernel_rfl) (by kernel_rfl) (by kernel_rfl) (fun _ _ _ h => h) (Or.inl ⟨by rfl, ?_⟩) (by assumption) ?_
              rotate_left 1
              · (intro w hSw; (try dsimp only at hSw); go_simp; first | done | with_reducible rfl)
              try simp only [Act.put, List.setIfInBounds_toArray, List.set_cons_zero, List.set_cons_succ]
              refine wpAnyH_ready (rs := [10]) (by kernel_rfl) (by simp) ?_
              refine (AllReadyH.cons (o := { dst := none, op := Go.Op.store 27 (Go.Operand.tmp 9) (Go.Operand.tmp 39), type := 0, pos := "law.go:113", after := #[{ on := 8, ground := Go.Ground.data }, { on := 3, ground := Go.Ground.data }, { on := 0, ground := Go.Ground.phase }, { on := 1, ground := Go.Ground.phase }, { on := 2, ground := Go.Ground.phase }, { on := 3, ground := Go.Ground.phase }, { on := 4, ground := Go.Ground.textOnly Go.Departure.lateStores }, { on := 5, ground := Go.Ground.textOnly Go.Departure.lateStores }, { on := 6, ground := Go.Ground.textOnly Go.Departure.lateStores }, { on := 7, ground := Go.Ground.textOnly Go.Departure.lateStores }, { on := 8, ground := Go.Ground.phase }, { on := 9, ground := Go.Ground.phase }], guard := none }) rfl (fun K hK => ?_) AllReadyH.nil)
              refine step_put 4 m2 m8 9 39 (HL.out.b8 m8 rfl).1 (by kernel_rfl) rfl rfl rfl ?_
              refine hK.out _ _ ?_ (fun hHeld' => ?_)
              · exact HS.out _ (kput_keep (And.left hHeld) (HL.out.b8 m8 rfl).2 4 m2)
              clear hK K hHeld
              have hHeld := hHeld'
              clear hHeld'
              have HL' := Lib.hid HL.out.put8_
              clear HL
              have HL := HL'
              clear HL'
              generalize kput X4 m8 4 m2 = X5 at *
              try simp only [Act.put]
              refine wpAnyH_ready (rs := [11]) (by kernel_rfl) (by simp) ?_
              refine (AllReadyH.cons (o := { dst := none, op := Go.Op.store 27 (Go.Operand.tmp 10) (Go.Operand.tmp 43), type := 0, pos := "law.go:113", after := #[{ on := 9, ground := Go.Ground.data }, { on := 7, ground := Go.Ground.data }, { on := 10, ground := Go.Ground.chain }, { on := 0, ground := Go.Ground.phase }, { on := 1, ground := Go.Ground.phase }, { on := 2, ground := Go.Ground.phase }, { on := 3, ground := Go.Ground.phase }, { on := 4, ground := Go.Ground.phase }, { on := 5, ground := Go.Ground.phase }, { on := 6, ground := Go.Ground.phase }, { on := 7, ground := Go.Ground.phase }, { on := 8, ground := Go.Ground.phase }, { on := 9, ground := Go.Ground.phase }, { on := 10, ground := Go.Ground.phase }], guard := none }) rfl (fun K hK => ?_) AllReadyH.nil)
              refine step_put 3 m6 m9 10 43 (HL.out.b9 m9 rfl).1 (by kernel_rfl) rfl rfl rfl ?_
              refine hK.out _ _ ?_ (fun hHeld' => ?_)
              · exact HS.out _ (kput_keep (And.left hHeld) (HL.out.b9 m9 rfl).2 3 m6)
              clear hK K hHeld
              have hHeld := hHeld'
              clear hHeld'
              have HL' := Lib.hid HL.out.put9_
              clear HL
              have HL := HL'
              clear HL'
              generalize kput X5 m9 3 m6 = X6 at *
              try simp only [Act.put]
              refine wpAnyH_done (by kernel_rfl) ?_ _
              refine NoPanic.normal ?_
              have HPR := Lib.hid (HL.out.par)
              clear hHeld HL
              go_wp2_with fail
              go_meet
              case rel => exact ⟨m8, m9, m2, m6, rfl, rfl, HPR.out⟩
        · as_aux_lemma =>
            go_simp
            refine hK.out _ _ ?_ (fun hHeld' => ?_)
            · exact HS.out _ (Keep.alloc (And.left hHeld) _)
            clear hK K hHeld
            have hHeld := hHeld'
            clear hHeld'
            have HL' := Lib.hid HL.out.alloc8
            clear HL
            have HL := HL'
            clear HL'
            generalize World.alloc X1 _ = X2 at *
            generalize X1.heap.size = m8 at *
            try simp only [Act.put, List.setIfInBounds_toArray, List.set_cons_zero, List.set_cons_succ]
            refine wpAnyH_ready (rs := [2, 6]) (by kernel_rfl) (by simp) ?_
            refine (AllReadyH.cons (o := { dst := some 38, op := Go.Op.buildSlice 25 2 #[(0, Go.Operand.tmp 36), (1, Go.Operand.tmp 37)], type := 25, pos := "law.go:113", after := #[{ on := 0, ground := Go.Ground.data }, { on := 1, ground := Go.Ground.data }], guard := none }) rfl (fun K hK => ?_) (AllReadyH.cons (o := { dst := some 42, op := Go.Op.buildSlice 25 2 #[(0, Go.Operand.tmp 40), (1, Go.Operand.tmp 41)], type := 25, pos := "law.go:113", after := #[{ on := 4, ground := Go.Ground.data }, { on := 5, ground := Go.Ground.data }, { on := 10, ground := Go.Ground.gcOnly Go.Departure.lateStores }], guard := none }) rfl (fun K hK => ?_) AllReadyH.nil))
            · refine step_two t a c u b d 36 37 (by kernel_rfl) rfl rfl rfl ?_
              refine hK.out _ _ ?_ (fun hHeld' => ?_)
              · exact HS.out _ (Keep.alloc (And.left hHeld) _)
              clear hK K hHeld
              have hHeld := hHeld'
              clear hHeld'
              have HL' := Lib.hid HL.out.alloc2
              clear HL
              have HL := HL'
              clear HL'
              generalize World.alloc X2 _ = X3 at *
              generalize X2.heap.size = m2 at *
              try simp only [Act.put, List.setIfInBounds_toArray, List.set_cons_zero, List.set_cons_succ]
              refine wpAnyH_take (i := 3) (oi := ⟨_,_,_,_,_,_⟩) (v := ?_) rfl (by kernel_rfl) (by kernel_rfl) (by kernel_rfl) (fun _ _ _ h => h) (Or.inl ⟨by rfl, ?_⟩) (by assumption) ?_
              rotate_left 1
              · (intro w hSw; (try dsimp only at hSw); go_simp; first | done | with_reducible rfl)
              try simp only [Act.put, List.setIfInBounds_toArray, List.set_cons_zero, List.set_cons_succ]
              refine wpAnyH_ready (rs := [6, 10]) (by kernel_rfl) (by simp) ?_
              refine (AllReadyH.cons (o := { dst := some 42, op := Go.Op.buildSlice 25 2 #[(0, Go.Operand.tmp 40), (1, Go.Operand.tmp 41)], type := 25, pos := "law.go:113", after := #[{ on := 4, ground := Go.Ground.data }, { on := 5, ground := Go.Ground.data }, { on := 10, ground := Go.Ground.gcOnly Go.Departure.lateStores }], guard := none }) rfl (fun K hK => ?_) (AllReadyH.cons (o := { dst := none, op := Go.Op.store 27 (Go.Operand.tmp 9) (Go.Operand.tmp 39), type := 0, pos := "law.go:113", after := #[{ on := 8, ground := Go.Ground.data }, { on := 3, ground := Go.Ground.data }, { on := 0, ground := Go.Ground.phase }, { on := 1, ground := Go.Ground.phase }, { on := 2, ground := Go.Ground.phase }, { on := 3, ground := Go.Ground.phase }, { on := 4, ground := Go.Ground.textOnly Go.Departure.lateStores }, { on := 5, ground := Go.Ground.textOnly Go.Departure.lateStores }, { on := 6, ground := Go.Ground.textOnly Go.Departure.lateStores }, { on := 7, ground := Go.Ground.textOnly Go.Departure.lateStores }, { on := 8, ground := Go.Ground.phase }, { on := 9, ground := Go.Ground.phase }], guard := none }) rfl (fun K hK => ?_) AllReadyH.nil))
              · refine step_two t a c u b d 40 41 (by kernel_rfl) rfl rfl rfl ?_
                refine hK.out _ _ ?_ (fun hHeld' => ?_)
                · exact HS.out _ (Keep.alloc (And.left hHeld) _)
                clear hK K hHeld
                have hHeld := hHeld'
                clear hHeld'
                have HL' := Lib.hid HL.out.alloc6
                clear HL
                have HL := HL'
                clear HL'
                generalize World.alloc X3 _ = X4 at *
                generalize X3.heap.size = m6 at *
                try simp only [Act.put, List.setIfInBounds_toArray, List.set_cons_zero, List.set_cons_succ]
                refine wpAnyH_take (i := 7) (oi := ⟨_,_,_,_,_,_⟩) (v := ?_) rfl (by kernel_rfl) (by kernel_rfl) (by kernel_rfl) (fun _ _ _ h => h) (Or.inl ⟨by rfl, ?_⟩) (by assumption) ?_
                rotate_left 1
                · (intro w hSw; (try dsimp only at hSw); go_simp; first | done | with_reducible rfl)
                try simp only [Act.put, List.setIfInBounds_toArray, List.set_cons_zero, List.set_cons_succ]
                refine wpAnyH_ready (rs := [10]) (by kernel_rfl) (by simp) ?_
                refine (AllReadyH.cons (o := { dst := none, op := Go.Op.store 27 (Go.Operand.tmp 9) (Go.Operand.tmp 39), type := 0, pos := "law.go:113", after := #[{ on := 8, ground := Go.Ground.data }, { on := 3, ground := Go.Ground.data }, { on := 0, ground := Go.Ground.phase }, { on := 1, ground := Go.Ground.phase }, { on := 2, ground := Go.Ground.phase }, { on := 3, ground := Go.Ground.phase }, { on := 4, ground := Go.Ground.textOnly Go.Departure.lateStores }, { on := 5, ground := Go.Ground.textOnly Go.Departure.lateStores }, { on := 6, ground := Go.Ground.textOnly Go.Departure.lateStores }, { on := 7, ground := Go.Ground.textOnly Go.Departure.lateStores }, { on := 8, ground := Go.Ground.phase }, { on := 9, ground := Go.Ground.phase }], guard := none }) rfl (fun K hK => ?_) AllReadyH.nil)
                refine step_put 4 m2 m8 9 39 (HL.out.b8 m8 rfl).1 (by kernel_rfl) rfl rfl rfl ?_
                refine hK.out _ _ ?_ (fun hHeld' => ?_)
                · exact HS.out _ (kput_keep (And.left hHeld) (HL.out.b8 m8 rfl).2 4 m2)
                clear hK K hHeld
                have hHeld := hHeld'
                clear hHeld'
                have HL' := Lib.hid HL.out.put8_
                clear HL
                have HL := HL'
                clear HL'
                generalize kput X4 m8 4 m2 = X5 at *
                try simp only [Act.put]
                refine wpAnyH_ready (rs := [11]) (by kernel_rfl) (by simp) ?_
                refine (AllReadyH.cons (o := { dst := none, op := Go.Op.store 27 (Go.Operand.tmp 10) (Go.Operand.tmp 43), type := 0, pos := "law.go:113", after := #[{ on := 9, ground := Go.Ground.data }, { on := 7, ground := Go.Ground.data }, { on := 10, ground := Go.Ground.chain }, { on := 0, ground := Go.Ground.phase }, { on := 1, ground := Go.Ground.phase }, { on := 2, ground := Go.Ground.phase }, { on := 3, ground := Go.Ground.phase }, { on := 4, ground := Go.Ground.phase }, { on := 5, ground := Go.Ground.phase }, { on := 6, ground := Go.Ground.phase }, { on := 7, ground := Go.Ground.phase }, { on := 8, ground := Go.Ground.phase }, { on := 9, ground := Go.Ground.phase }, { on := 10, ground := Go.Ground.phase }], guard := none }) rfl (fun K hK => ?_) AllReadyH.nil)
                refine step_put 3 m6 m9 10 43 (HL.out.b9 m9 rfl).1 (by kernel_rfl) rfl rfl rfl ?_
                refine hK.out _ _ ?_ (fun hHeld' => ?_)
                · exact HS.out _ (kput_keep (And.left hHeld) (HL.out.b9 m9 rfl).2 3 m6)
                clear hK K hHeld
                have hHeld := hHeld'
                clear hHeld'
                have HL' := Lib.hid HL.out.put9_
                clear HL
                have HL := HL'
                clear HL'
                generalize kput X5 m9 3 m6 = X6 at *
                try simp only [Act.put]
                refine wpAnyH_done (by kernel_rfl) ?_ _
                refine NoPanic.normal ?_
                have HPR := Lib.hid (HL.out.par)
                clear hHeld HL
                go_wp2_with fail
                go_meet
                case rel => exact ⟨m8, m9, m2, m6, rfl, rfl, HPR.out⟩
              · refine step_put 4 m2 m8 9 39 (HL.out.b8 m8 rfl).1 (by kernel_rfl) rfl rfl rfl ?_
                refine hK.out _ _ ?_ (fun hHeld' => ?_)
                · exact HS.out _ (kput_keep (And.left hHeld) (HL.out.b8 m8 rfl).2 4 m2)
                clear hK K hHeld
                have hHeld := hHeld'
                clear hHeld'
                have HL' := Lib.hid HL.out.put8_
                clear HL
                have HL := HL'
                clear HL'
                generalize kput X3 m8 4 m2 = X4 at *
                try simp only [Act.put]
                refine wpAnyH_ready (rs := [6]) (by kernel_rfl) (by simp) ?_
                refine (AllReadyH.cons (o := { dst := some 42, op := Go.Op.buildSlice 25 2 #[(0, Go.Operand.tmp 40), (1, Go.Operand.tmp 41)], type := 25, pos := "law.go:113", after := #[{ on := 4, ground := Go.Ground.data }, { on := 5, ground := Go.Ground.data }, { on := 10, ground := Go.Ground.gcOnly Go.Departure.lateStores }], guard := none }) rfl (fun K hK => ?_) AllReadyH.nil)
                refine step_two t a c u b d 40 41 (by kernel_rfl) rfl rfl rfl ?_
                refine hK.out _ _ ?_ (fun hHeld' => ?_)
                · exact HS.out _ (Keep.alloc (And.left hHeld) _)
                clear hK K hHeld
                have hHeld := hHeld'
                clear hHeld'
                have HL' := Lib.hid HL.out.alloc6
                clear HL
                have HL := HL'
                clear HL'
                generalize World.alloc X4 _ = X5 at *
                generalize X4.heap.size = m6 at *
                try simp only [Act.put, List.setIfInBounds_toArray, List.set_cons_zero, List.set_cons_succ]
                refine wpAnyH_take (i := 7) (oi := ⟨_,_,_,_,_,_⟩) (v := ?_) rfl (by kernel_rfl) (by kernel_rfl) (by kernel_rfl) (fun _ _ _ h => h) (Or.inl ⟨by rfl, ?_⟩) (by assumption) ?_
                rotate_left 1
                · (intro w hSw; (try dsimp only at hSw); go_simp; first | done | with_reducible rfl)
                try simp only [Act.put, List.setIfInBounds_toArray, List.set_cons_zero, List.set_cons_succ]
                refine wpAnyH_ready (rs := [11]) (by kernel_rfl) (by simp) ?_
                refine (AllReadyH.cons (o := { dst := none, op := Go.Op.store 27 (Go.Operand.tmp 10) (Go.Operand.tmp 43), type := 0, pos := "law.go:113", after := #[{ on := 9, ground := Go.Ground.data }, { on := 7, ground := Go.Ground.data }, { on := 10, ground := Go.Ground.chain }, { on := 0, ground := Go.Ground.phase }, { on := 1, ground := Go.Ground.phase }, { on := 2, ground := Go.Ground.phase }, { on := 3, ground := Go.Ground.phase }, { on := 4, ground := Go.Ground.phase }, { on := 5, ground := Go.Ground.phase }, { on := 6, ground := Go.Ground.phase }, { on := 7, ground := Go.Ground.phase }, { on := 8, ground := Go.Ground.phase }, { on := 9, ground := Go.Ground.phase }, { on := 10, ground := Go.Ground.phase }], guard := none }) rfl (fun K hK => ?_) AllReadyH.nil)
                refine step_put 3 m6 m9 10 43 (HL.out.b9 m9 rfl).1 (by kernel_rfl) rfl rfl rfl ?_
                refine hK.out _ _ ?_ (fun hHeld' => ?_)
                · exact HS.out _ (kput_keep (And.left hHeld) (HL.out.b9 m9 rfl).2 3 m6)
                clear hK K hHeld
                have hHeld := hHeld'
                clear hHeld'
                have HL' := Lib.hid HL.out.put9_
                clear HL
                have HL := HL'
                clear HL'
                generalize kput X5 m9 3 m6 = X6 at *
                try simp only [Act.put]
                refine wpAnyH_done (by kernel_rfl) ?_ _
                refine NoPanic.normal ?_
                have HPR := Lib.hid (HL.out.par)
                clear hHeld HL
                go_wp2_with fail
                go_meet
                case rel => exact ⟨m8, m9, m2, m6, rfl, rfl, HPR.out⟩
            · refine step_two t a c u b d 40 41 (by kernel_rfl) rfl rfl rfl ?_
              refine hK.out _ _ ?_ (fun hHeld' => ?_)
              · exact HS.out _ (Keep.alloc (And.left hHeld) _)
              clear hK K hHeld
              have hHeld := hHeld'
              clear hHeld'
              have HL' := Lib.hid HL.out.alloc6
              clear HL
              have HL := HL'
              clear HL'
              generalize World.alloc X2 _ = X3 at *
              generalize X2.heap.size = m6 at *
              try simp only [Act.put, List.setIfInBounds_toArray, List.set_cons_zero, List.set_cons_succ]
              refine wpAnyH_take (i := 7) (oi := ⟨_,_,_,_,_,_⟩) (v := ?_) rfl (by kernel_rfl) (by kernel_rfl) (by kernel_rfl) (fun _ _ _ h => h) (Or.inl ⟨by rfl, ?_⟩) (by assumption) ?_
              rotate_left 1
              · (intro w hSw; (try dsimp only at hSw); go_simp; first | done | with_reducible rfl)
              try simp only [Act.put, List.setIfInBounds_toArray, List.set_cons_zero, List.set_cons_succ]
              refine wpAnyH_ready (rs := [2]) (by kernel_rfl) (by simp) ?_
              refine (AllReadyH.cons (o := { dst := some 38, op := Go.Op.buildSlice 25 2 #[(0, Go.Operand.tmp 36), (1, Go.Operand.tmp 37)], type := 25, pos := "law.go:113", after := #[{ on := 0, ground := Go.Ground.data }, { on := 1, ground := Go.Ground.data }], guard := none }) rfl (fun K hK => ?_) AllReadyH.nil)
              refine step_two t a c u b d 36 37 (by kernel_rfl) rfl rfl rfl ?_
              refine hK.out _ _ ?_ (fun hHeld' => ?_)
              · exact HS.out _ (Keep.alloc (And.left hHeld) _)
              clear hK K hHeld
              have hHeld := hHeld'
              clear hHeld'
              have HL' := Lib.hid HL.out.alloc2
              clear HL
              have HL := HL'
              clear HL'
              generalize World.alloc X3 _ = X4 at *
              generalize X3.heap.size = m2 at *
              try simp only [Act.put, List.setIfInBounds_toArray, List.set_cons_zero, List.set_cons_succ]
              refine wpAnyH_take (i := 3) (oi := ⟨_,_,_,_,_,_⟩) (v := ?_) rfl (by kernel_rfl) (by kernel_rfl) (by kernel_rfl) (fun _ _ _ h => h) (Or.inl ⟨by rfl, ?_⟩) (by assumption) ?_
              rotate_left 1
              · (intro w hSw; (try dsimp only at hSw); go_simp; first | done | with_reducible rfl)
              try simp only [Act.put, List.setIfInBounds_toArray, List.set_cons_zero, List.set_cons_succ]
              refine wpAnyH_ready (rs := [10]) (by kernel_rfl) (by simp) ?_
              refine (AllReadyH.cons (o := { dst := none, op := Go.Op.store 27 (Go.Operand.tmp 9) (Go.Operand.tmp 39), type := 0, pos := "law.go:113", after := #[{ on := 8, ground := Go.Ground.data }, { on := 3, ground := Go.Ground.data }, { on := 0, ground := Go.Ground.phase }, { on := 1, ground := Go.Ground.phase }, { on := 2, ground := Go.Ground.phase }, { on := 3, ground := Go.Ground.phase }, { on := 4, ground := Go.Ground.textOnly Go.Departure.lateStores }, { on := 5, ground := Go.Ground.textOnly Go.Departure.lateStores }, { on := 6, ground := Go.Ground.textOnly Go.Departure.lateStores }, { on := 7, ground := Go.Ground.textOnly Go.Departure.lateStores }, { on := 8, ground := Go.Ground.phase }, { on := 9, ground := Go.Ground.phase }], guard := none }) rfl (fun K hK => ?_) AllReadyH.nil)
              refine step_put 4 m2 m8 9 39 (HL.out.b8 m8 rfl).1 (by kernel_rfl) rfl rfl rfl ?_
              refine hK.out _ _ ?_ (fun hHeld' => ?_)
              · exact HS.out _ (kput_keep (And.left hHeld) (HL.out.b8 m8 rfl).2 4 m2)
              clear hK K hHeld
              have hHeld := hHeld'
              clear hHeld'
              have HL' := Lib.hid HL.out.put8_
              clear HL
              have HL := HL'
              clear HL'
              generalize kput X4 m8 4 m2 = X5 at *
              try simp only [Act.put]
              refine wpAnyH_ready (rs := [11]) (by kernel_rfl) (by simp) ?_
              refine (AllReadyH.cons (o := { dst := none, op := Go.Op.store 27 (Go.Operand.tmp 10) (Go.Operand.tmp 43), type := 0, pos := "law.go:113", after := #[{ on := 9, ground := Go.Ground.data }, { on := 7, ground := Go.Ground.data }, { on := 10, ground := Go.Ground.chain }, { on := 0, ground := Go.Ground.phase }, { on := 1, ground := Go.Ground.phase }, { on := 2, ground := Go.Ground.phase }, { on := 3, ground := Go.Ground.phase }, { on := 4, ground := Go.Ground.phase }, { on := 5, ground := Go.Ground.phase }, { on := 6, ground := Go.Ground.phase }, { on := 7, ground := Go.Ground.phase }, { on := 8, ground := Go.Ground.phase }, { on := 9, ground := Go.Ground.phase }, { on := 10, ground := Go.Ground.phase }], guard := none }) rfl (fun K hK => ?_) AllReadyH.nil)
              refine step_put 3 m6 m9 10 43 (HL.out.b9 m9 rfl).1 (by kernel_rfl) rfl rfl rfl ?_
              refine hK.out _ _ ?_ (fun hHeld' => ?_)
              · exact HS.out _ (kput_keep (And.left hHeld) (HL.out.b9 m9 rfl).2 3 m6)
              clear hK K hHeld
              have hHeld := hHeld'
              clear hHeld'
              have HL' := Lib.hid HL.out.put9_
              clear HL
              have HL := HL'
              clear HL'
              generalize kput X5 m9 3 m6 = X6 at *
              try simp only [Act.put]
              refine wpAnyH_done (by kernel_rfl) ?_ _
              refine NoPanic.normal ?_
              have HPR := Lib.hid (HL.out.par)
              clear hHeld HL
              go_wp2_with fail
              go_meet
              case rel => exact ⟨m8, m9, m2, m6, rfl, rfl, HPR.out⟩
  case rest => as_aux_lemma =>
    obtain ⟨p5, p6, s1, s2, rfl, rfl, hpar⟩ := hcut
    generalize wc = V0 at *
    have hLT : ∀ w', Keep (fun _ => False) V0 w' → Lie w' (fun _ => True) a t.subs := fun w' q' => H0.out.2.1.keepF (hpar.q.trans q')
    have hLU : ∀ w', Keep (fun _ => False) V0 w' → Lie w' (fun _ => True) b u.subs := fun w' q' => H0.out.2.2.1.keepF (hpar.q.trans q')
    have hLA : ∀ w', Keep (fun _ => False) V0 w' → Lie w' (fun _ => True) (some ⟨s1, 0, none⟩) [t, u] := fun w' q' => lie_row (hpar.r1.keep q' (fun h => h)) (hLT w' q') (hLU w' q') HCT.out.2.2.2.2.1 HCT.out.2.2.2.2.2
    have hLC : ∀ w', Keep (fun _ => False) V0 w' → Lie w' (fun _ => True) (some ⟨s2, 0, none⟩) [t, u] := fun w' q' => lie_row (hpar.r2.keep q' (fun h => h)) (hLT w' q') (hLU w' q') HCT.out.2.2.2.2.1 HCT.out.2.2.2.2.2
    have hS3 : ∀ w', Keep (fun _ => False) V0 w' → Keep (fun _ => False) V0 w' ∧ w'.cell? ⟨w.heap.size, 0, none⟩ = some (.int .i64 t.kind) ∧ w'.cell? ⟨w.heap.size, 1, none⟩ = some (.int .u64 t.set.x0) ∧ w'.cell? ⟨w.heap.size, 2, none⟩ = some (.int .u64 t.set.x1) ∧ w'.cell? ⟨w.heap.size, 3, none⟩ = some (.int .u64 t.set.x2) ∧ w'.cell? ⟨w.heap.size, 4, none⟩ = some (.int .u64 t.set.x3) ∧ w'.cell? ⟨w.heap.size, 5, none⟩ = some (.int .i64 t.mn) ∧ w'.cell? ⟨w.heap.size, 6, none⟩ = some (.int .i64 t.mx) ∧ w'.cell? ⟨w.heap.size, 7, none⟩ = some (.slice a t.subs.length c) ∧ w'.cell? ⟨(w.heap.size + 1), 0, none⟩ = some (.int .i64 u.kind) ∧ w'.cell? ⟨(w.heap.size + 1), 1, none⟩ = some (.int .u64 u.set.x0) ∧ w'.cell? ⟨(w.heap.size + 1), 2, none⟩ = some (.int .u64 u.set.x1) ∧ w'.cell? ⟨(w.heap.size + 1), 3, none⟩ = some (.int .u64 u.set.x2) ∧ w'.cell? ⟨(w.heap.size + 1), 4, none⟩ = some (.int .u64 u.set.x3) ∧ w'.cell? ⟨(w.heap.size + 1), 5, none⟩ = some (.int .i64 u.mn) ∧ w'.cell? ⟨(w.heap.size + 1), 6, none⟩ = some (.int .i64 u.mx) ∧ w'.cell? ⟨(w.heap.size + 1), 7, none⟩ = some (.slice b u.subs.length d) ∧ w'.cell? ⟨p5, 0, none⟩ = some (.int .i64 4) ∧ w'.cell? ⟨p5, 1, none⟩ = some (.int .u64 0) ∧ w'.cell? ⟨p5, 2, none⟩ = some (.int .u64 0) ∧ w'.cell? ⟨p5, 3, none⟩ = some (.int .u64 0) ∧ w'.cell? ⟨p5, 4, none⟩ = some (.int .u64 0) ∧ w'.cell? ⟨p5, 5, none⟩ = some (.int .i64 0) ∧ w'.cell? ⟨p5, 6, none⟩ = some (.int .i64 0) ∧ w'.cell? ⟨p5, 7, none⟩ = some (.slice (some ⟨s1, 0, none⟩) 2 2) ∧ w'.cell? ⟨p6, 0, none⟩ = some (.int .i64 3) ∧ w'.cell? ⟨p6, 1, none⟩ = some (.int .u64 0) ∧ w'.cell? ⟨p6, 2, none⟩ = some (.int .u64 0) ∧ w'.cell? ⟨p6, 3, none⟩ = some (.int .u64 0) ∧ w'.cell? ⟨p6, 4, none⟩ = some (.int .u64 0) ∧ w'.cell? ⟨p6, 5, none⟩ = some (.int .i64 0) ∧ w'.cell? ⟨p6, 6, none⟩ = some (.int .i64 0) ∧ w'.cell? ⟨p6, 7, none⟩ = some (.slice (some ⟨s2, 0, none⟩) 2 2) := fun w' q' => by
      obtain ⟨-, x0, x1, x2, x3, x4, x5, x6, x7, y0, y1, y2, y3, y4, y5, y6, y7⟩ := HS.out w' (hpar.q.trans q')
      obtain ⟨⟨v0, v1, v2, v3, v4, v5, v6, v7⟩, -⟩ := cells8 (hpar.b5.keep q' (fun h => h))
      obtain ⟨⟨k0, k1, k2, k3, k4, k5, k6, k7⟩, -⟩ := cells8 (hpar.b6.keep q' (fun h => h))
      exact ⟨q', x0, x1, x2, x3, x4, x5, x6, x7, y0, y1, y2, y3, y4, y5, y6, y7, v0, v1, v2, v3, v4, v5, v6, v7, k0, k1, k2, k3, k4, k5, k6, k7⟩
    have HL := Lib.hid (And.intro hLT (And.intro hLU (And.intro hLA hLC)))
    have HP := Lib.hid (H0.out.1.trans hpar.q)
    have H3 := Lib.hid hS3
    have HT := Lib.hid (fun w' (q' : Keep (fun _ => False) V0 w') => HTab.out.keep ((H0.out.1.trans hpar.q).trans q'))
    clear hLT hLU hLA hLC hS3 hpar hszW
    go_wp2_with fail
    refine (awake11 V0 (HT.out _ (Keep.refl _ _))).mono ?_
    rintro e w1 ⟨rfl, q1⟩
    have K1 := Lib.hid q1
    clear q1
    obtain ⟨-, x0, x1, x2, x3, x4, x5, x6, x7, y0, y1, y2, y3, y4, y5, y6, y7, v0, v1, v2, v3, v4, v5, v6, v7, k0, k1, k2, k3, k4, k5, k6, k7⟩ := H3.out _ K1.out
    go_wp2_with fail
    refine (few11_any (.nd 4 ST.none 0 0 [t, u]) HCT.out.1 HCT.out.2.2.1 s _ 2 w1 (HL.out.2.2.1 _ K1.out)).mono ?_
    rintro e w2 ⟨rfl, q2⟩
    have K2 := Lib.hid (K1.out.trans q2)
    clear q2 x0 x1 x2 x3 x4 x5 x6 x7 y0 y1 y2 y3 y4 y5 y6 y7 v0 v1 v2 v3 v4 v5 v6 v7 k0 k1 k2 k3 k4 k5 k6 k7
    cases hf : fewL s (.nd 4 ST.none 0 0 [t, u]) with
    | false =>
      go_wp2_with fail
      refine (awake11 _ (HT.out _ K2.out)).mono ?_
      rintro e w9 ⟨rfl, q9⟩
      have Q9 := Lib.hid (HP.out.trans (K2.out.trans q9))
      clear q9
      go_wp2_with fail
      go_ret
      exact ⟨rfl, Q9.out⟩
    | true =>
    unfold fewL at hf
    simp only [Bool.and_eq_true, decide_eq_true_eq] at hf
    have hs40 := hf.2.1
    have hcn := few_cnt hf.1
    have hcn2 : cnt t ≤ 1000000 ∧ cnt u ≤ 1000000 ∧ cnt (.nd 4 ST.none 0 0 [t, u]) ≤ 1000000 ∧ cnt (.nd 3 ST.none 0 0 [t, u]) ≤ 1000000 := by
      rw [cnt, cntL, cntL, cntL] at hcn ⊢
      rw [cnt, cntL, cntL, cntL]
      omega
    have HN := Lib.hid hcn2
    clear hf hcn hcn2
    obtain ⟨-, x0, x1, x2, x3, x4, x5, x6, x7, y0, y1, y2, y3, y4, y5, y6, y7, v0, v1, v2, v3, v4, v5, v6, v7, k0, k1, k2, k3, k4, k5, k6, k7⟩ := H3.out _ K2.out
    go_wp2_with fail
    refine (fright_any (.nd 4 ST.none 0 0 [t, u]) HCT.out.2.2.1 _ 2 w2 (HL.out.2.2.1 _ K2.out)).mono ?_
    rintro e w3 ⟨rfl, q3⟩
    have K3 := Lib.hid (K2.out.trans q3)
    clear q3 x0 x1 x2 x3 x4 x5 x6 x7 y0 y1 y2 y3 y4 y5 y6 y7 v0 v1 v2 v3 v4 v5 v6 v7 k0 k1 k2 k3 k4 k5 k6 k7
    cases hra : rightB (.nd 4 ST.none 0 0 [t, u]) with
    | false =>
      go_wp2_with fail
      refine (awake11 _ (HT.out _ K3.out)).mono ?_
      rintro e w9 ⟨rfl, q9⟩
      have Q9 := Lib.hid (HP.out.trans (K3.out.trans q9))
      clear q9
      go_wp2_with fail
      go_ret
      exact ⟨rfl, Q9.out⟩
    | true =>
    obtain ⟨-, x0, x1, x2, x3, x4, x5, x6, x7, y0, y1, y2, y3, y4, y5, y6, y7, v0, v1, v2, v3, v4, v5, v6, v7, k0, k1, k2, k3, k4, k5, k6, k7⟩ := H3.out _ K3.out
    go_wp2_with fail
    refine (fright_any (.nd 3 ST.none 0 0 [t, u]) HCT.out.2.2.2.1 _ 2 w3 (HL.out.2.2.2 _ K3.out)).mono ?_
    rintro e w4 ⟨rfl, q4⟩
    have K4 := Lib.hid (K3.out.trans q4)
    clear q4 x0 x1 x2 x3 x4 x5 x6 x7 y0 y1 y2 y3 y4 y5 y6 y7 v0 v1 v2 v3 v4 v5 v6 v7 k0 k1 k2 k3 k4 k5 k6 k7
    cases hrc : rightB (.nd 3 ST.none 0 0 [t, u]) with
    | false =>
      go_wp2_with fail
      refine (awake11 _ (HT.out _ K4.out)).mono ?_
      rintro e w9 ⟨rfl, q9⟩
      have Q9 := Lib.hid (HP.out.trans (K4.out.trans q9))
      clear q9
      go_wp2_with fail
      go_ret
      exact ⟨rfl, Q9.out⟩
    | true =>
    by_cases hf : 0 ≤ f ∧ f ≤ s.length
    case neg =>
      have hc : f < 0 ∨ (0 ≤ f ∧ (s.length : Int) < f) := by omega
      clear hf hra hrc
      rcases hc with h | ⟨h0, h⟩
      all_goals
        go_wp2_with fail
        refine (awake11 _ (HT.out _ K4.out)).mono ?_
        rintro e w9 ⟨rfl, q9⟩
        have Q9 := Lib.hid (HP.out.trans (K4.out.trans q9))
        clear q9
        go_wp2_with fail
        go_ret
        exact ⟨rfl, Q9.out⟩
    obtain ⟨F, rfl⟩ : ∃ F : Nat, f = F := ⟨f.toNat, by omega⟩
    have hF : F ≤ s.length := by omega
    have hRA := (rightB_iff HCT.out.1).1 hra
    have hRC := (rightB_iff HCT.out.2.1).1 hrc
    have hRt : RT 12 t := sub_RT (t := .nd 4 ST.none 0 0 [t, u]) (i := 0) hRA rfl
    have hRu : RT 12 u := sub_RT (t := .nd 4 ST.none 0 0 [t, u]) (i := 1) hRA rfl
    have hrt := (rightB_iff HSO.out.1).2 hRt
    have hru := (rightB_iff HSO.out.2).2 hRu
    have x1 := fun w' (q : Keep (fun _ => False) V0 w') => call_in t HSO.out.1 hrt s (by omega) F hF a c w' (HL.out.1 w' q) (HT.out w' q) HN.out.1
    have x2 := fun (m : Nat) (hm : m ≤ s.length) w' (q : Keep (fun _ => False) V0 w') => call_in u HSO.out.2 hru s (by omega) m hm b d w' (HL.out.2.1 w' q) (HT.out w' q) HN.out.2.1
    have x3 := fun w' (q : Keep (fun _ => False) V0 w') => call_in (.nd 4 ST.none 0 0 [t, u]) HCT.out.1 hra s (by omega) F hF (some ⟨s1, 0, none⟩) 2 w' (HL.out.2.2.1 w' q) (HT.out w' q) HN.out.2.2.1
    have x4 := fun w' (q : Keep (fun _ => False) V0 w') => call_in (.nd 3 ST.none 0 0 [t, u]) HCT.out.2.1 hrc s (by omega) F hF (some ⟨s2, 0, none⟩) 2 w' (HL.out.2.2.2 w' q) (HT.out w' q) HN.out.2.2.2
    have pA := fun X (hl : X.length = s.length + 1) => parts_alt (X := X) hRA hRt hRu hF hl
    have pC := fun Y (hl : Y.length = s.length + 1) => parts_cat (Y := Y) hRC hRt hRu hF hl
    have l1 : ∀ x ∈ endsI s t F, ∃ m : Nat, x = m ∧ m ≤ s.length := fun x hx => by
      obtain ⟨j, h1, h2, -⟩ := plc_at.1 hx
      exact ⟨j, h2, by omega⟩
    have l2 : ∀ m, m ≤ s.length → ∀ x ∈ endsI s u m, ∃ k : Nat, x = k ∧ k ≤ s.length := fun m _ x hx => by
      obtain ⟨j, h1, h2, -⟩ := plc_at.1 hx
      exact ⟨j, h2, by omega⟩
    have l3 := fun m (hm : m ≤ s.length) => (rowT_ok (s := s) hRu hm).1
    have l4 : (endsI s t F).length ≤ s.length + 1 ∧ (∀ m, (endsI s u m).length ≤ s.length + 1) ∧ (endsI s (.nd 4 ST.none 0 0 [t, u]) F).length = cntP (rowT s (.nd 4 ST.none 0 0 [t, u]) F) (s.length + 1) ∧ (endsI s (.nd 3 ST.none 0 0 [t, u]) F).length = cntP (rowT s (.nd 3 ST.none 0 0 [t, u]) F) (s.length + 1) := ⟨plc_length _ _, fun m => plc_length _ _, plc_count _ _, plc_count _ _⟩
    have HX := Lib.hid (And.intro x1 (And.intro x2 (And.intro x3 x4)))
    have HR := Lib.hid (And.intro pA (And.intro pC (And.intro l1 (And.intro l2 (And.intro l3 l4)))))
    clear x1 x2 x3 x4 pA pC l1 l2 l3 l4 hRA hRC hRt hRu hrt hru hra hrc
    have hlo : ¬ (F : Int) < 0 := by omega
    have hhi : ¬ (s.length : Int) < F := by omega
    obtain ⟨-, x0, x1, x2, x3, x4, x5, x6, x7, y0, y1, y2, y3, y4, y5, y6, y7, v0, v1, v2, v3, v4, v5, v6, v7, k0, k1, k2, k3, k4, k5, k6, k7⟩ := H3.out _ K4.out
    go_wp2_with fail
    refine (HX.out.1 w4 K4.out).mono ?_
    rintro e w5 ⟨v1, rfl, hil1, -, q5⟩
    obtain ⟨ad1, cp1, rfl, -⟩ := hil1.form
    have K5 := Lib.hid (And.intro (K4.out.trans q5) hil1)
    clear q5 hil1 x0 x1 x2 x3 x4 x5 x6 x7 y0 y1 y2 y3 y4 y5 y6 y7 v0 v1 v2 v3 v4 v5 v6 v7 k0 k1 k2 k3 k4 k5 k6 k7
    obtain ⟨-, x0, x1, x2, x3, x4, x5, x6, x7, y0, y1, y2, y3, y4, y5, y6, y7, v0, v1, v2, v3, v4, v5, v6, v7, k0, k1, k2, k3, k4, k5, k6, k7⟩ := H3.out _ K5.out.1
    go_wp2_with fail
    refine (HX.out.2.1 F hF w5 K5.out.1).mono ?_
    rintro e w6 ⟨v2, rfl, hil2, -, q6⟩
    obtain ⟨ad2, cp2, rfl, -⟩ := hil2.form
    have K6 := Lib.hid (And.intro (K5.out.1.trans q6) (And.intro (K5.out.2.keep q6 (fun _ _ h => h)) hil2))
    clear q6 hil2 x0 x1 x2 x3 x4 x5 x6 x7 y0 y1 y2 y3 y4 y5 y6 y7 v0 v1 v2 v3 v4 v5 v6 v7 k0 k1 k2 k3 k4 k5 k6 k7
    have hmk := fun W => make_bools (s.length + 1) (by omega) W
    rw [show ((s.length + 1 : Nat) : Int) = (s.length : Int) + 1 from by omega, show List.replicate (s.length + 1) false = noB s.length from rfl] at hmk
    have hwr : Value.int .i64 (IntKind.i64.wrap ((s.length : Int) + 1)) = .int .i64 ((s.length : Int) + 1) := by
      rw [show IntKind.i64.wrap ((s.length : Int) + 1) = (s.length : Int) + 1 from by rw [IntKind.wrap_i64]; omega]
    go_wp2_with fail
    go_cut [15, 16] (fun v15 v16 wx => ∃ g1 g2, v15 = .slice (some ⟨g1, 0, none⟩) (s.length + 1) (s.length + 1) ∧ v16 = .slice (some ⟨g2, 0, none⟩) (s.length + 1) (s.length + 1) ∧ Keep (fun _ => False) w6 wx ∧ At wx g1 4 (bcells (noB s.length)) ∧ At wx g2 4 (bcells (noB s.length)) ∧ g1 ≠ g2 ∧ w6.heap.size ≤ g1 ∧ w6.heap.size ≤ g2)
    case first => as_aux_lemma =>
      refine wp_region_noPanic ?_
      refine wp_region_held_drew (S := (fun w' => Keep (fun _ => False) w6 w')) (by kernel_rfl) ?_ (fun hHeld => ?_)
      · exact (Keep.refl _ _).drew
      have hQ := (Keep.refl (fun _ => False) w6).drew
      generalize w6.drew = X0 at *
      refine wpAnyH_take (i := 0) (oi := { dst := some 87, op := Go.Op.move (Go.Operand.tmp 2), type := 9, pos := "law.go:119", after := #[], guard := none }) (v := ?_) rfl (by kernel_rfl) (by kernel_rfl) (by kernel_rfl) (fun _ _ _ h => h) (Or.inl ⟨by rfl, ?_⟩) (by assumption) ?_
      rotate_left 1
      · (intro w hSw; (try dsimp only at hSw); go_simp; first | done | with_reducible rfl)
      try simp only [Act.put, List.setIfInBounds_toArray, List.set_cons_zero, List.set_cons_succ]
      refine wpAnyH_take (i := 1) (oi := { dst := some 88, op := Go.Op.call { callee := Go.Callee.builtin Go.Builtin.len, args := #[Go.Operand.tmp 87], argTypes := #[9] }, type := 3, pos := "law.go:119", after := #[{ on := 0, ground := Go.Ground.data }], guard := none }) (v := ?_) rfl (by kernel_rfl) (by kernel_rfl) (by kernel_rfl) (fun _ _ _ h => h) (Or.inl ⟨by rfl, ?_⟩) (by assumption) ?_
      rotate_left 1
      · (intro w hSw; (try dsimp only at hSw); go_simp; first | done | with_reducible rfl)
      try simp only [Act.put, List.setIfInBounds_toArray, List.set_cons_zero, List.set_cons_succ]
      refine wpAnyH_take (i := 2) (oi := { dst := some 89, op := Go.Op.binOp Go.BinOp.add 3 (Go.Operand.tmp 88) (Go.Operand.const (Go.Value.int Go.IntKind.i64 1)) 3, type := 3, pos := "law.go:119", after := #[{ on := 1, ground := Go.Ground.data }], guard := none }) (v := ?_) rfl (by kernel_rfl) (by kernel_rfl) (by kernel_rfl) (fun _ _ _ h => h) (Or.inl ⟨by rfl, ?_⟩) (by assumption) ?_
      rotate_left 1
      · (intro w hSw; (try dsimp only at hSw); go_simp; first | done | with_reducible rfl)
      try simp only [Act.put, List.setIfInBounds_toArray, List.set_cons_zero, List.set_cons_succ]
      refine wpAnyH_take (i := 4) (oi := { dst := some 91, op := Go.Op.move (Go.Operand.tmp 2), type := 9, pos := "law.go:119", after := #[], guard := none }) (v := ?_) rfl (by kernel_rfl) (by kernel_rfl) (by kernel_rfl) (fun _ _ _ h => h) (Or.inl ⟨by rfl, ?_⟩) (by assumption) ?_
      rotate_left 1
      · (intro w hSw; (try dsimp only at hSw); go_simp; first | done | with_reducible rfl)
      try simp only [Act.put, List.setIfInBounds_toArray, List.set_cons_zero, List.set_cons_succ]
      refine wpAnyH_take (i := 5) (oi := { dst := some 92, op := Go.Op.call { callee := Go.Callee.builtin Go.Builtin.len, args := #[Go.Operand.tmp 91], argTypes := #[9] }, type := 3, pos := "law.go:119", after := #[{ on := 4, ground := Go.Ground.data }], guard := none }) (v := ?_) rfl (by kernel_rfl) (by kernel_rfl) (by kernel_rfl) (fun _ _ _ h => h) (Or.inl ⟨by rfl, ?_⟩) (by assumption) ?_
      rotate_left 1
      · (intro w hSw; (try dsimp only at hSw); go_simp; first | done | with_reducible rfl)
      try simp only [Act.put, List.setIfInBounds_toArray, List.set_cons_zero, List.set_cons_succ]
      refine wpAnyH_take (i := 6) (oi := { dst := some 93, op := Go.Op.binOp Go.BinOp.add 3 (Go.Operand.tmp 92) (Go.Operand.const (Go.Value.int Go.IntKind.i64 1)) 3, type := 3, pos := "law.go:119", after := #[{ on := 5, ground := Go.Ground.data }], guard := none }) (v := ?_) rfl (by kernel_rfl) (by kernel_rfl) (by kernel_rfl) (fun _ _ _ h => h) (Or.inl ⟨by rfl, ?_⟩) (by assumption) ?_
      rotate_left 1
      · (intro w hSw; (try dsimp only at hSw); go_simp; first | done | with_reducible rfl)
      try simp only [Act.put, List.setIfInBounds_toArray, List.set_cons_zero, List.set_cons_succ]
      refine wpAnyH_ready (rs := [3, 7]) (by kernel_rfl) (by simp) ?_
      refine (AllReadyH.cons (o := { dst := some 90, op := Go.Op.makeSlice 35 (Go.Operand.tmp 89) (Go.Operand.tmp 89), type := 35, pos := "law.go:119", after := #[{ on := 2, ground := Go.Ground.data }, { on := 2, ground := Go.Ground.data }], guard := none }) rfl (fun K hK => ?_) (AllReadyH.cons (o := { dst := some 94, op := Go.Op.makeSlice 35 (Go.Operand.tmp 93) (Go.Operand.tmp 93), type := 35, pos := "law.go:119", after := #[{ on := 6, ground := Go.Ground.data }, { on := 6, ground := Go.Ground.data }], guard := none }) rfl (fun K hK => ?_) AllReadyH.nil))
      · go_simp
        refine hK.out _ _ ?_ (fun hHeld' => ?_)
        · exact Keep.alloc hHeld _
        clear hK K hHeld
        have hHeld := hHeld'
        clear hHeld'
        have hA3 := At.new X0 (bcells (noB s.length)) 4
        have hG3 := hQ.size
        have hQ' := hQ.alloc (.cells (bcells (noB s.length)) 4)
        generalize World.alloc X0 _ = X1 at *
        generalize X0.heap.size = m3 at *
        try simp only [Act.put, List.setIfInBounds_toArray, List.set_cons_zero, List.set_cons_succ]
        refine wpAnyH_take (i := 8) (oi := { dst := some 15, op := Go.Op.assign (Go.Operand.tmp 90), type := 35, pos := "law.go:119", after := #[{ on := 3, ground := Go.Ground.data }, { on := 0, ground := Go.Ground.phase }, { on := 1, ground := Go.Ground.phase }, { on := 2, ground := Go.Ground.phase }, { on := 3, ground := Go.Ground.phase }, { on := 4, ground := Go.Ground.textOnly Go.Departure.lateStores }, { on := 5, ground := Go.Ground.textOnly Go.Departure.lateStoresUnsure }, { on := 6, ground := Go.Ground.textOnly Go.Departure.lateStores }, { on := 7, ground := Go.Ground.textOnly Go.Departure.lateStoresUnsure }], guard := none }) (v := ?_) rfl (by kernel_rfl) (by kernel_rfl) (by kernel_rfl) (fun _ _ _ h => h) (Or.inl ⟨by rfl, ?_⟩) (by assumption) ?_
        rotate_left 1
        · (intro w hSw; (try dsimp only at hSw); go_simp; first | done | with_reducible rfl)
        try simp only [Act.put, List.setIfInBounds_toArray, List.set_cons_zero, List.set_cons_succ]
        refine wpAnyH_ready (rs := [7]) (by kernel_rfl) (by simp) ?_
        refine (AllReadyH.cons (o := { dst := some 94, op := Go.Op.makeSlice 35 (Go.Operand.tmp 93) (Go.Operand.tmp 93), type := 35, pos := "law.go:119", after := #[{ on := 6, ground := Go.Ground.data }, { on := 6, ground := Go.Ground.data }], guard := none }) rfl (fun K hK => ?_) AllReadyH.nil)
        go_simp
        refine hK.out _ _ ?_ (fun hHeld' => ?_)
        · exact Keep.alloc hHeld _
        clear hK K hHeld
        have hHeld := hHeld'
        clear hHeld'
        have hA7 := At.new X1 (bcells (noB s.length)) 4
        have hG7 := hQ'.size
        have hlt := hA3.lt
        have HB := Lib.hid (show Keep (fun _ => False) w6 (X1.alloc (.cells (bcells (noB s.length)) 4)) ∧ At (X1.alloc (.cells (bcells (noB s.length)) 4)) m3 4 (bcells (noB s.length)) ∧ At (X1.alloc (.cells (bcells (noB s.length)) 4)) X1.heap.size 4 (bcells (noB s.length)) ∧ m3 ≠ X1.heap.size ∧ w6.heap.size ≤ m3 ∧ w6.heap.size ≤ X1.heap.size from ⟨hQ'.alloc _, hA3.alloc _, hA7, by omega, hG3, hG7⟩)
        clear hA3 hA7 hG3 hG7 hlt hQ hQ'
        generalize World.alloc X1 _ = X2 at *
        generalize X1.heap.size = m7 at *
        try simp only [Act.put, List.setIfInBounds_toArray, List.set_cons_zero, List.set_cons_succ]
        refine wpAnyH_take (i := 9) (oi := { dst := some 16, op := Go.Op.assign (Go.Operand.tmp 94), type := 35, pos := "law.go:119", after := #[{ on := 7, ground := Go.Ground.data }, { on := 8, ground := Go.Ground.chain }, { on := 0, ground := Go.Ground.phase }, { on := 1, ground := Go.Ground.phase }, { on := 2, ground := Go.Ground.phase }, { on := 3, ground := Go.Ground.phase }, { on := 4, ground := Go.Ground.phase }, { on := 5, ground := Go.Ground.phase }, { on := 6, ground := Go.Ground.phase }, { on := 7, ground := Go.Ground.phase }, { on := 8, ground := Go.Ground.phase }], guard := none }) (v := ?_) rfl (by kernel_rfl) (by kernel_rfl) (by kernel_rfl) (fun _ _ _ h => h) (Or.inl ⟨by rfl, ?_⟩) (by assumption) ?_
        rotate_left 1
        · (intro w hSw; (try dsimp only at hSw); go_simp; first | done | with_reducible rfl)
        try simp only [Act.put, List.setIfInBounds_toArray, List.set_cons_zero, List.set_cons_succ]
        refine wpAnyH_done (by kernel_rfl) ?_ _
        refine NoPanic.normal ?_
        clear hHeld
        go_wp2_with fail
        go_meet
        case rel => exact ⟨m3, m7, rfl, rfl, HB.out⟩
      · go_simp
        refine hK.out _ _ ?_ (fun hHeld' => ?_)
        · exact Keep.alloc hHeld _
        clear hK K hHeld
        have hHeld := hHeld'
        clear hHeld'
        have hA7 := At.new X0 (bcells (noB s.length)) 4
        have hG7 := hQ.size
        have hQ' := hQ.alloc (.cells (bcells (noB s.length)) 4)
        generalize World.alloc X0 _ = X1 at *
        generalize X0.heap.size = m7 at *
        try simp only [Act.put, List.setIfInBounds_toArray, List.set_cons_zero, List.set_cons_succ]
        refine wpAnyH_ready (rs := [3]) (by kernel_rfl) (by simp) ?_
        refine (AllReadyH.cons (o := { dst := some 90, op := Go.Op.makeSlice 35 (Go.Operand.tmp 89) (Go.Operand.tmp 89), type := 35, pos := "law.go:119", after := #[{ on := 2, ground := Go.Ground.data }, { on := 2, ground := Go.Ground.data }], guard := none }) rfl (fun K hK => ?_) AllReadyH.nil)
        go_simp
        refine hK.out _ _ ?_ (fun hHeld' => ?_)
        · exact Keep.alloc hHeld _
        clear hK K hHeld
        have hHeld := hHeld'
        clear hHeld'
        have hA3 := At.new X1 (bcells (noB s.length)) 4
        have hG3 := hQ'.size
        have hlt := hA7.lt
        have HB := Lib.hid (show Keep (fun _ => False) w6 (X1.alloc (.cells (bcells (noB s.length)) 4)) ∧ At (X1.alloc (.cells (bcells (noB s.length)) 4)) X1.heap.size 4 (bcells (noB s.length)) ∧ At (X1.alloc (.cells (bcells (noB s.length)) 4)) m7 4 (bcells (noB s.length)) ∧ X1.heap.size ≠ m7 ∧ w6.heap.size ≤ X1.heap.size ∧ w6.heap.size ≤ m7 from ⟨hQ'.alloc _, hA3, hA7.alloc _, by omega, hG3, hG7⟩)
        clear hA3 hA7 hG3 hG7 hlt hQ hQ'
        generalize World.alloc X1 _ = X2 at *
        generalize X1.heap.size = m3 at *
        try simp only [Act.put, List.setIfInBounds_toArray, List.set_cons_zero, List.set_cons_succ]
        refine wpAnyH_take (i := 8) (oi := { dst := some 15, op := Go.Op.assign (Go.Operand.tmp 90), type := 35, pos := "law.go:119", after := #[{ on := 3, ground := Go.Ground.data }, { on := 0, ground := Go.Ground.phase }, { on := 1, ground := Go.Ground.phase }, { on := 2, ground := Go.Ground.phase }, { on := 3, ground := Go.Ground.phase }, { on := 4, ground := Go.Ground.textOnly Go.Departure.lateStores }, { on := 5, ground := Go.Ground.textOnly Go.Departure.lateStoresUnsure }, { on := 6, ground := Go.Ground.textOnly Go.Departure.lateStores }, { on := 7, ground := Go.Ground.textOnly Go.Departure.lateStoresUnsure }], guard := none }) (v := ?_) rfl (by kernel_rfl) (by kernel_rfl) (by kernel_rfl) (fun _ _ _ h => h) (Or.inl ⟨by rfl, ?_⟩) (by assumption) ?_
        rotate_left 1
        · (intro w hSw; (try dsimp only at hSw); go_simp; first | done | with_reducible rfl)
        try simp only [Act.put, List.setIfInBounds_toArray, List.set_cons_zero, List.set_cons_succ]
        refine wpAnyH_take (i := 9) (oi := { dst := some 16, op := Go.Op.assign (Go.Operand.tmp 94), type := 35, pos := "law.go:119", after := #[{ on := 7, ground := Go.Ground.data }, { on := 8, ground := Go.Ground.chain }, { on := 0, ground := Go.Ground.phase }, { on := 1, ground := Go.Ground.phase }, { on := 2, ground := Go.Ground.phase }, { on := 3, ground := Go.Ground.phase }, { on := 4, ground := Go.Ground.phase }, { on := 5, ground := Go.Ground.phase }, { on := 6, ground := Go.Ground.phase }, { on := 7, ground := Go.Ground.phase }, { on := 8, ground := Go.Ground.phase }], guard := none }) (v := ?_) rfl (by kernel_rfl) (by kernel_rfl) (by kernel_rfl) (fun _ _ _ h => h) (Or.inl ⟨by rfl, ?_⟩) (by assumption) ?_
        rotate_left 1
        · (intro w hSw; (try dsimp only at hSw); go_simp; first | done | with_reducible rfl)
        try simp only [Act.put, List.setIfInBounds_toArray, List.set_cons_zero, List.set_cons_succ]
        refine wpAnyH_done (by kernel_rfl) ?_ _
        refine NoPanic.normal ?_
        clear hHeld
        go_wp2_with fail
        go_meet
        case rel => exact ⟨m3, m7, rfl, rfl, HB.out⟩
    case rest => as_aux_lemma =>
    obtain ⟨g1, g2, rfl, rfl, hqV, hA1, hA2, hne, hs1, hs2⟩ := hcut
    generalize wc = V6 at *
    have hfr : ∀ i, (i = g1 ∨ i = g2) → i < V0.heap.size → False := fun i hi hl => by
      have := K6.out.1.size
      rcases hi with rfl | rfl <;> omega
    have hN1 : ∀ g, (Value.slice ad1 (endsI s t F).length cp1).ownBlock = some g → ¬ (g = g1 ∨ g = g2) := fun g hg h => by
      have := K6.out.2.1.lt hg
      rcases h with rfl | rfl <;> omega
    have hN2 : ∀ g, (Value.slice ad2 (endsI s u F).length cp2).ownBlock = some g → ¬ (g = g1 ∨ g = g2) := fun g hg h => by
      have := K6.out.2.2.lt hg
      rcases h with rfl | rfl <;> omega
    have KV := Lib.hid (And.intro (K6.out.1.trans hqV) (And.intro (K6.out.2.1.keep hqV (fun _ _ h => h)) (K6.out.2.2.keep hqV (fun _ _ h => h))))
    have HN6 := Lib.hid (And.intro hfr (And.intro hN1 (And.intro hN2 hne)))
    have HA2 := Lib.hid hA2
    have hb1 := HR.out.2.2.2.2.2.1
    have hb2 := HR.out.2.2.2.2.2.2.1 F
    clear hfr hN1 hN2 hqV hA2 hs1 hs2 hmk
    go_wp2_with fail
    go_loopg [97] (endsI s u F).length (fun gg i wr => ∃ (k : Nat) (X : List Bool), i = .int .i64 k ∧ k + gg = (endsI s u F).length ∧ X.length = s.length + 1 ∧ At wr g1 4 (bcells X) ∧ OnK X (fun _ => False) (endsI s u F) k ∧ Keep (fun b => b = g1) V6 wr)
    case atStart => exact ⟨0, noB s.length, rfl, by omega, noB_length _, hA1, OnK.start (fun j => ⟨fun h => absurd h (On.no _ j), fun h => h.elim⟩), Keep.refl _ _⟩
    case round =>
      clear hA1
      obtain ⟨k, X, rfl, hk, hXl, hXA, hXO, hXq⟩ := hrel
      by_cases hlt : k < (endsI s u F).length
      · have hlt' : (k : Int) < (endsI s u F).length := by omega
        have i0 : (0 : Int) ≤ k := by omega
        obtain ⟨x, hx⟩ : ∃ x, (endsI s u F)[k]? = some x := ⟨(endsI s u F)[k], List.getElem?_eq_getElem hlt⟩
        obtain ⟨m, rfl, hm⟩ := HR.out.2.2.2.1 F hF x (List.mem_of_getElem? hx)
        obtain ⟨ad, cp, hev, hc⟩ := (KV.out.2.2.keep hXq (fun g hg h => HN6.out.2.2.1 g hg (.inl h))).form
        injection hev with hev1 _ hev2
        subst hev1
        obtain ⟨g, -, rfl, hcell⟩ := hc k (m : Int) hx
        have z1 := hXA.cell (bcells_get (getD_get (L := X) (k := m) (by rw [hXl]; omega)))
        have fz := hXA.frozen m
        have m0 : (0 : Int) ≤ m := by omega
        have m1 : (m : Int) < (s.length : Int) + 1 := by omega
        have hA' := hXA.set m (.bool true)
        rw [bcells_set] at hA'
        have H1 := Lib.hid (And.intro hA' (And.intro (hXq.setCell (p := ⟨g1, m, none⟩) (fun _ => rfl) (.bool true)) (hXO.step hx (by rw [hXl]; omega))))
        clear hA' hXA hXq hXO hc hx hev2
        go_wp2_with fail
        go_roundg ((endsI s u F).length - (k + 1))
        case measure => omega
        case rel => exact ⟨k + 1, X.set m true, by go_num, by omega, by rw [List.length_set]; exact hXl, H1.out.1, H1.out.2.2, H1.out.2.1⟩
      · have hke : k = (endsI s u F).length := by omega
        subst hke
        have HX0 := Lib.hid (And.intro hXl (And.intro hXA (And.intro hXO.stop hXq)))
        clear hXl hXA hXO hXq
        go_wp2_with fail
        go_loopg [107] (endsI s t F).length (fun gg i wr => ∃ (k : Nat) (X' Y : List Bool), i = .int .i64 k ∧ k + gg = (endsI s t F).length ∧ X'.length = s.length + 1 ∧ Y.length = s.length + 1 ∧ At wr g1 4 (bcells X') ∧ At wr g2 4 (bcells Y) ∧ OnK X' (fun j => (j : Int) ∈ endsI s u F) (endsI s t F) k ∧ OnB Y (rowT s u) (endsI s t F) k ∧ Keep (fun b => b = g1 ∨ b = g2) V6 wr)
        case atStart => exact ⟨0, X, noB s.length, rfl, by omega, HX0.out.1, noB_length _, HX0.out.2.1, HA2.out.keep HX0.out.2.2.2 (fun h => HN6.out.2.2.2 h.symm), OnK.start (fun j => by rw [HX0.out.2.2.1 j]; simp), OnB.start (fun j => On.no _ j), HX0.out.2.2.2.mono (fun _ h => .inl h)⟩
        case round =>
          clear HX0 HA2
          obtain ⟨k, X', Y, rfl, hk, hl1, hl2, hB1, hB2, hO1, hO2, hq⟩ := hrel
          by_cases hlt : k < (endsI s t F).length
          · have hlt' : (k : Int) < (endsI s t F).length := by omega
            have i0 : (0 : Int) ≤ k := by omega
            obtain ⟨x, hx⟩ : ∃ x, (endsI s t F)[k]? = some x := ⟨(endsI s t F)[k], List.getElem?_eq_getElem hlt⟩
            obtain ⟨m, rfl, hm⟩ := HR.out.2.2.1 x (List.mem_of_getElem? hx)
            obtain ⟨ad, cp, hev, hc⟩ := (KV.out.2.1.keep hq HN6.out.2.1).form
            injection hev with hev1 _ hev2
            subst hev1
            obtain ⟨g, -, rfl, hcell⟩ := hc k (m : Int) hx
            have z1 := hB1.cell (bcells_get (getD_get (L := X') (k := m) (by rw [hl1]; omega)))
            have fz := hB1.frozen m
            have m0 : (0 : Int) ≤ m := by omega
            have m1 : (m : Int) < (s.length : Int) + 1 := by omega
            have hA' := hB1.set m (.bool true)
            rw [bcells_set] at hA'
            have hq' := hq.setCell (p := ⟨g1, m, none⟩) (fun _ => .inl rfl) (.bool true)
            have H1 := Lib.hid (And.intro hA' (And.intro (hB2.setOther (p := ⟨g1, m, none⟩) (fun h => HN6.out.2.2.2 h.symm) (.bool true)) (And.intro (hO1.step hx (by rw [hl1]; omega)) (And.intro hq' (KV.out.1.next hq' (fun i hi hl => HN6.out.1 i hi hl))))))
            have HO2 := Lib.hid (And.intro hO2 hx)
            clear hA' hB1 hB2 hO1 hO2 hq hq' hc hx hev2
            go_upto_region 16 with fail
            clear z1 fz hcell
            generalize World.setCell _ _ _ = W1 at *
            obtain ⟨-, x0, x1, x2, x3, x4, x5, x6, x7, y0, y1, y2, y3, y4, y5, y6, y7, v0, v1, v2, v3, v4, v5, v6, v7, k0, k1, k2, k3, k4, k5, k6, k7⟩ := H3.out _ H1.out.2.2.2.2
            go_wp2_with fail
            refine (HX.out.2.1 m hm W1 H1.out.2.2.2.2).mono ?_
            rintro e w7 ⟨v3, rfl, hil3, hown3, q7⟩
            obtain ⟨ad3, cp3, rfl, -⟩ := hil3.form
            have hN3 : ∀ g, (Value.slice ad3 (endsI s u m).length cp3).ownBlock = some g → ¬ (g = g1 ∨ g = g2) := fun g hg h => by
              have h1 := hown3 g hg
              have h2 := H1.out.1.lt
              have h3 := H1.out.2.1.lt
              rcases h with rfl | rfl <;> omega
            have H2 := Lib.hid (And.intro (H1.out.1.keep q7 (fun h => h)) (And.intro (H1.out.2.1.keep q7 (fun h => h)) (And.intro (H1.out.2.2.2.1.trans (q7.mono (fun _ h => h.elim))) (And.intro hil3 hN3))))
            have hl1' : (X'.set m true).length = s.length + 1 := by rw [List.length_set]; exact hl1
            clear q7 hil3 hown3 hN3 x0 x1 x2 x3 x4 x5 x6 x7 y0 y1 y2 y3 y4 y5 y6 y7 v0 v1 v2 v3 v4 v5 v6 v7 k0 k1 k2 k3 k4 k5 k6 k7
            generalize X'.set m true = X'' at *
            have hb3 := HR.out.2.2.2.2.2.2.1 m
            go_wp2_with fail
            go_loopg [123] (endsI s u m).length (fun gg i wz => ∃ (k2 : Nat) (Y' : List Bool), i = .int .i64 k2 ∧ k2 + gg = (endsI s u m).length ∧ Y'.length = s.length + 1 ∧ At wz g2 4 (bcells Y') ∧ OnK Y' (On Y) (endsI s u m) k2 ∧ Keep (fun b => b = g2) w7 wz)
            case atStart => exact ⟨0, Y, rfl, by omega, hl2, H2.out.2.1, OnK.start (fun j => Iff.rfl), Keep.refl _ _⟩
            case round =>
              obtain ⟨k2, Y', rfl, hk2, hl3, hB3, hO3, hq3⟩ := hrel
              by_cases hlt2 : k2 < (endsI s u m).length
              · have hlt2' : (k2 : Int) < (endsI s u m).length := by omega
                have i2 : (0 : Int) ≤ k2 := by omega
                obtain ⟨x, hx2⟩ : ∃ x, (endsI s u m)[k2]? = some x := ⟨(endsI s u m)[k2], List.getElem?_eq_getElem hlt2⟩
                obtain ⟨m2, rfl, hm2⟩ := HR.out.2.2.2.1 m hm x (List.mem_of_getElem? hx2)
                obtain ⟨ad, cp, hev, hc⟩ := (H2.out.2.2.2.1.keep hq3 (fun g hg h => H2.out.2.2.2.2 g hg (.inr h))).form
                injection hev with hev1 _ hev2
                subst hev1
                obtain ⟨g', -, rfl, hcell⟩ := hc k2 (m2 : Int) hx2
                have z1 := hB3.cell (bcells_get (getD_get (L := Y') (k := m2) (by rw [hl3]; omega)))
                have fz := hB3.frozen m2
                have m20 : (0 : Int) ≤ m2 := by omega
                have m21 : (m2 : Int) < (s.length : Int) + 1 := by omega
                have hA' := hB3.set m2 (.bool true)
                rw [bcells_set] at hA'
                have H4 := Lib.hid (And.intro hA' (And.intro (hq3.setCell (p := ⟨g2, m2, none⟩) (fun _ => rfl) (.bool true)) (hO3.step hx2 (by rw [hl3]; omega))))
                clear hA' hB3 hq3 hO3 hc hx2 hev2
                go_wp2_with fail
                go_roundg ((endsI s u m).length - (k2 + 1))
                case measure => omega
                case rel => exact ⟨k2 + 1, Y'.set m2 true, by go_num, by omega, by rw [List.length_set]; exact hl3, H4.out.1, H4.out.2.2, H4.out.2.1⟩
              · have hke : k2 = (endsI s u m).length := by omega
                subst hke
                have H4 := Lib.hid (And.intro (H2.out.1.keep hq3 (fun h => HN6.out.2.2.2 h)) (And.intro hB3 (And.intro (HO2.out.1.step HO2.out.2 (HR.out.2.2.2.2.1 m hm) hO3.stop) (H2.out.2.2.1.trans (hq3.mono (fun _ h => .inr h))))))
                clear hB3 hO3 hq3
                go_wp2_with fail
                go_roundg ((endsI s t F).length - (k + 1))
                case measure => omega
                case rel => exact ⟨k + 1, X'', Y', by go_num, by omega, hl1', hl3, H4.out.1, H4.out.2.1, H1.out.2.2.1, H4.out.2.2.1, H4.out.2.2.2⟩
          · have hke : k = (endsI s t F).length := by omega
            subst hke
            have e1 : X' = rowT s (.nd 4 ST.none 0 0 [t, u]) F := HR.out.1 X' hl1 hO1.stop
            have e2 : Y = rowT s (.nd 3 ST.none 0 0 [t, u]) F := HR.out.2.1 Y hl2 hO2
            have hmA : ∀ x ∈ endsI s (.nd 4 ST.none 0 0 [t, u]) F, ∃ m : Nat, x = m ∧ m ≤ s.length ∧ X'[m]? = some true := fun x hx => by
              obtain ⟨j, h1, h2, h3⟩ := plc_at.1 hx
              rw [← e1] at h3
              have h4 := getD_get (L := X') (k := j) (by rw [hl1]; exact h1)
              rw [show X'.getD j false = true from h3] at h4
              exact ⟨j, h2, by omega, h4⟩
            have hmC : ∀ x ∈ endsI s (.nd 3 ST.none 0 0 [t, u]) F, ∃ m : Nat, x = m ∧ m ≤ s.length ∧ Y[m]? = some true := fun x hx => by
              obtain ⟨j, h1, h2, h3⟩ := plc_at.1 hx
              rw [← e2] at h3
              have h4 := getD_get (L := Y) (k := j) (by rw [hl2]; exact h1)
              rw [show Y.getD j false = true from h3] at h4
              exact ⟨j, h2, by omega, h4⟩
            have hnA := HR.out.2.2.2.2.2.2.2.1
            have hnC := HR.out.2.2.2.2.2.2.2.2
            rw [← e1] at hnA
            rw [← e2] at hnC
            have x3 := HX.out.2.2.1
            have x4 := HX.out.2.2.2
            generalize endsI s (.nd 4 ST.none 0 0 [t, u]) F = PA at *
            generalize endsI s (.nd 3 ST.none 0 0 [t, u]) F = PC at *
            have KW := Lib.hid (And.intro (KV.out.1.next hq (fun i hi hl => HN6.out.1 i hi hl)) (And.intro hB1 hB2))
            have HM := Lib.hid (And.intro hmA (And.intro hmC (And.intro hnA (And.intro hnC (And.intro x3 x4)))))
            have hbA : PA.length ≤ s.length + 1 := by rw [hnA]; exact cntP_le _ _
            have hbC : PC.length ≤ s.length + 1 := by rw [hnC]; exact cntP_le _ _
            clear e1 e2 hmA hmC hnA hnC x3 x4 hB1 hB2 hO1 hO2 hq HX HR
            obtain ⟨-, x0, x1, x2, x3, x4, x5, x6, x7, y0, y1, y2, y3, y4, y5, y6, y7, v0, v1, v2, v3, v4, v5, v6, v7, k0, k1, k2, k3, k4, k5, k6, k7⟩ := H3.out _ KW.out.1
            go_wp2_with fail
            refine (HM.out.2.2.2.2.1 _ KW.out.1).mono ?_
            rintro e w8 ⟨v4, rfl, hil4, hown4, q8⟩
            obtain ⟨ad4, cp4, rfl, -⟩ := hil4.form
            have K8 := Lib.hid (And.intro (KW.out.1.trans q8) (And.intro hil4 (And.intro (KW.out.2.1.keep q8 (fun h => h)) (KW.out.2.2.keep q8 (fun h => h)))))
            clear hil4 hown4 q8 x0 x1 x2 x3 x4 x5 x6 x7 y0 y1 y2 y3 y4 y5 y6 y7 v0 v1 v2 v3 v4 v5 v6 v7 k0 k1 k2 k3 k4 k5 k6 k7
            obtain ⟨-, x0, x1, x2, x3, x4, x5, x6, x7, y0, y1, y2, y3, y4, y5, y6, y7, v0, v1, v2, v3, v4, v5, v6, v7, k0, k1, k2, k3, k4, k5, k6, k7⟩ := H3.out _ K8.out.1
            go_wp2_with fail
            refine (HM.out.2.2.2.2.2 w8 K8.out.1).mono ?_
            rintro e w9 ⟨v5, rfl, hil5, hown5, q9⟩
            obtain ⟨ad5, cp5, rfl, -⟩ := hil5.form
            have K9 := Lib.hid (And.intro (K8.out.1.trans q9) (And.intro (K8.out.2.1.keep q9 (fun _ _ h => h)) (And.intro hil5 (And.intro (K8.out.2.2.1.keep q9 (fun h => h)) (K8.out.2.2.2.keep q9 (fun h => h))))))
            clear hil5 hown5 q9 x0 x1 x2 x3 x4 x5 x6 x7 y0 y1 y2 y3 y4 y5 y6 y7 v0 v1 v2 v3 v4 v5 v6 v7 k0 k1 k2 k3 k4 k5 k6 k7
            go_wp2_with fail
            go_loopg [29, 30, 148] (s.length + 1) (fun gg va vb i wr => ∃ k : Nat, va = .int .i64 (cntP X' k) ∧ vb = .int .i64 (cntP Y k) ∧ i = .int .i64 k ∧ k + gg = s.length + 1 ∧ Keep (fun _ => False) w9 wr)
            case atStart => exact ⟨0, rfl, rfl, rfl, by omega, Keep.refl _ _⟩
            case round =>
              obtain ⟨k, rfl, rfl, rfl, hk, hq⟩ := hrel
              by_cases hlt : k < s.length + 1
              · have hlt' : (k : Int) < (s.length : Int) + 1 := by omega
                have i0 : (0 : Int) ≤ k := by omega
                have z1 := (K9.out.2.2.2.1.keep hq (fun h => h)).cell (bcells_get (getD_get (L := X') (k := k) (by rw [hl1]; omega)))
                have z2 := (K9.out.2.2.2.2.keep hq (fun h => h)).cell (bcells_get (getD_get (L := Y) (k := k) (by rw [hl2]; omega)))
                have b1 := cntP_le X' k
                have b2 := cntP_le Y k
                have c1 : cntP X' (k + 1) = if X'.getD k false = true then cntP X' k + 1 else cntP X' k := rfl
                have c2 : cntP Y (k + 1) = if Y.getD k false = true then cntP Y k + 1 else cntP Y k := rfl
                obtain ⟨bx, hbx⟩ : ∃ x, X'.getD k false = x := ⟨_, rfl⟩
                obtain ⟨by', hby⟩ : ∃ x, Y.getD k false = x := ⟨_, rfl⟩
                rw [hbx] at z1 c1
                rw [hby] at z2 c2
                have HC := Lib.hid (And.intro c1 (And.intro c2 hq))
                clear c1 c2 hq hbx hby
                cases bx <;> cases by'
                all_goals
                  go_wp2_with fail
                  go_roundg (s.length + 1 - (k + 1))
                  case measure => omega
                  case rel =>
                    have c1 := HC.out.1
                    have c2 := HC.out.2.1
                    simp only [if_true, if_false, reduceCtorEq] at c1 c2
                    exact ⟨k + 1, by rw [c1] <;> go_num, by rw [c2] <;> go_num, by go_num, by omega, HC.out.2.2⟩
              · have hke : k = s.length + 1 := by omega
                subst hke
                rw [← HM.out.2.2.1, ← HM.out.2.2.2.1]
                have HQ0 := Lib.hid hq
                clear hq
                go_wp2_with fail
                go_loopg [184] PA.length (fun gg i wr => ∃ k : Nat, i = .int .i64 k ∧ k + gg = PA.length ∧ Keep (fun _ => False) w9 wr)
                case atStart => exact ⟨0, rfl, by omega, HQ0.out⟩
                case round =>
                  obtain ⟨k, rfl, hk, hq⟩ := hrel
                  by_cases hlt : k < PA.length
                  · have hlt' : (k : Int) < PA.length := by omega
                    have i0 : (0 : Int) ≤ k := by omega
                    obtain ⟨x, hx⟩ : ∃ x, PA[k]? = some x := ⟨PA[k], List.getElem?_eq_getElem hlt⟩
                    obtain ⟨m, rfl, hm, hmt⟩ := HM.out.1 x (List.mem_of_getElem? hx)
                    obtain ⟨ad, cp, hev, hc⟩ := (K9.out.2.1.keep hq (fun _ _ h => h)).form
                    injection hev with hev1 _ hev2
                    subst hev1
                    obtain ⟨g, -, rfl, hcell⟩ := hc k (m : Int) hx
                    have z1 := (K9.out.2.2.2.1.keep hq (fun h => h)).cell (bcells_get hmt)
                    have m0 : (0 : Int) ≤ m := by omega
                    have m1 : (m : Int) < (s.length : Int) + 1 := by omega
                    have HQ := Lib.hid hq
                    clear hc hx hev2 hmt hq
                    go_wp2_with fail
                    go_roundg (PA.length - (k + 1))
                    case measure => omega
                    case rel => exact ⟨k + 1, by go_num, by omega, HQ.out⟩
                  · have hke : k = PA.length := by omega
                    subst hke
                    have HQ := Lib.hid hq
                    clear hq
                    go_wp2_with fail
                    go_loopg [196] PC.length (fun gg i wr => ∃ k : Nat, i = .int .i64 k ∧ k + gg = PC.length ∧ Keep (fun _ => False) w9 wr)
                    case atStart => exact ⟨0, rfl, by omega, HQ.out⟩
                    case round =>
                      obtain ⟨k, rfl, hk, hq⟩ := hrel
                      by_cases hlt : k < PC.length
                      · have hlt' : (k : Int) < PC.length := by omega
                        have i0 : (0 : Int) ≤ k := by omega
                        obtain ⟨x, hx⟩ : ∃ x, PC[k]? = some x := ⟨PC[k], List.getElem?_eq_getElem hlt⟩
                        obtain ⟨m, rfl, hm, hmt⟩ := HM.out.2.1 x (List.mem_of_getElem? hx)
                        obtain ⟨ad, cp, hev, hc⟩ := (K9.out.2.2.1.keep hq (fun _ _ h => h)).form
                        injection hev with hev1 _ hev2
                        subst hev1
                        obtain ⟨g, -, rfl, hcell⟩ := hc k (m : Int) hx
                        have z1 := (K9.out.2.2.2.2.keep hq (fun h => h)).cell (bcells_get hmt)
                        have m0 : (0 : Int) ≤ m := by omega
                        have m1 : (m : Int) < (s.length : Int) + 1 := by omega
                        have HQ2 := Lib.hid hq
                        clear hc hx hev2 hmt hq
                        go_wp2_with fail
                        go_roundg (PC.length - (k + 1))
                        case measure => omega
                        case rel => exact ⟨k + 1, by go_num, by omega, HQ2.out⟩
                      · have hke : k = PC.length := by omega
                        subst hke
                        have HQ2 := Lib.hid hq
                        clear hq
                        go_wp2_with fail
                        go_ret
                        exact ⟨rfl, HP.out.trans (K9.out.1.trans HQ2.out)⟩
end Go.Proofs.YthcjfgfbeollpaaDoor.P11
/- EndsParts: the arguments opened. -/
namespace Go.Proofs.YthcjfgfbeollpaaDoor.EndsParts
open Go.RowKit Go.Proofs.YthcjfgfbeollpaaDoor.Base Go.Proofs.YthcjfgfbeollpaaDoor.P08 Go.Proofs.YthcjfgfbeollpaaDoor.P11
open Go.ChangeShapes Go.WideShapes Go.ChangeAt
open Go.Proofs.YthcjfgfbeollpaaDoor.Bytes (Tab)

set_option maxRecDepth 100000 in
theorem walk {H : Type} {enc : TypeId × Value → H} (v0 v1 v2 v3 : Value) {d0 d1 d2 d3 : DataW H} {p0 p1 p2 p3 : List MemPlace} (W : World) (hT : Tab W)
    (k0 : Value.okWide Tryd.prog W .any 0 27 v0) (k1 : Value.okWide Tryd.prog W .any 0 27 v1) (k2 : Value.okWide Tryd.prog W .any 0 9 v2) (k3 : Value.okWide Tryd.prog W .any 0 3 v3)
    (h0 : DataW.Trod enc Tryd.prog W 0 (fun _ => true) true 27 v0 d0 p0) (h1 : DataW.Trod enc Tryd.prog W 0 (fun _ => true) true 27 v1 d1 p1) (h2 : DataW.Trod enc Tryd.prog W 0 (fun _ => true) true 9 v2 d2 p2) (h3 : DataW.Trod enc Tryd.prog W 0 (fun _ => true) true 3 v3 d3 p3)
    (hk : Rows.uptoSmall H [d0, d1, d2, d3] = true) :
    Calls Tryd.prog 3 #[v0, v1, v2, v3] W fun e w' => e = .returned (.bool true) ∧ Below W.heap.size W w' := by
  have hb := of_decide_eq_true hk
  obtain ⟨t0, a0, c0, rfl, hc0, hL0, hn0, hs0⟩ := node_arg k0 h0
  obtain ⟨t1, a1, c1, rfl, hc1, hL1, hn1, hs1⟩ := node_arg k1 h1
  obtain ⟨l2, rfl, rfl, -⟩ := str_arg11 k2 h2
  obtain ⟨f3, rfl, -, -⟩ := int_arg Tryd.underlying3 k3 h3
  simp only [Rows.uptoBulkAll, Rows.uptoBulk] at hb
  exact (law_parts t0 t1 a0 c0 a1 c1 W hL0 hc0 (by omega) hs0 hL1 hc1 (by omega) hs1 hT l2 f3).mono fun e w' ⟨he, q⟩ => ⟨he, q.below (Nat.le_refl _) (fun _ _ h => h)⟩
end Go.Proofs.YthcjfgfbeollpaaDoor.EndsParts
/- THE STATEMENT 'EndsParts' OF LAYER 11, SECOND FORM: for every input that holds no more values than the given bound (uptoSmall) the law answers true, and each argument reads as it did. Condition: the library's table math/bits.deBruijn64tab reads as the program's text lays them (the card ties them). The walk is in XW11Parts. -/
namespace Go.Proofs.YthcjfgfbeollpaaDoor.EndsParts
open Go.ChangeShapes Go.WideShapes Go.ChangeAt Go.RowKit Go.Proofs.YthcjfgfbeollpaaDoor.Tied
set_option linter.unusedVariables false

theorem own : ownKnob Tryd.prog.godebug = none := by kernel_rfl
theorem laidOut : laidOutB Tryd.prog = true := by kernel_rfl

set_option maxRecDepth 100000 in
theorem contract (H : Type) (enc : TypeId × Value → H) (W : World) (base : Nat) (args : Array Value) (ds gs : List (DataW H)) (before : List MemPlace)
    (hval0 : ∀ (j : Nat) t v, Tryd.f3.params[j]? = some t → args[j]? = some v → Value.okWide Tryd.prog W .any base t v)
    (hW : DataW.Whole enc Tryd.prog Tryd.f3.params.toList Rows.endsPartsSpec.vars false W args.toList ds gs before) (hL : laidMetH Tryd.prog laid W) (hk : Rows.uptoSmall H (ds ++ gs) = true) :
    Calls Tryd.prog 3 args W fun e W' => ∃ v, e = .returned v ∧ Rows.endsPartsSpec.post enc Tryd.prog Tryd.f3 false true false false W args v W' := by
  have hval : ∀ (j : Nat) t v, Tryd.f3.params[j]? = some t → args[j]? = some v → Value.okWide Tryd.prog W .any base t v := hval0
  have hW' := hW
  have hT := of_laid hL
  obtain ⟨p, q, hA0, hV, rfl, hfz, hnd⟩ := hW
  have hA : DataW.TrodAll enc Tryd.prog W 0 (fun _ => true) true Tryd.f3.params.toList args.toList ds p := hA0
  rw [Tryd.params3] at hA hval
  obtain ⟨v0, vs0, d0, ds0, p0, q0, hargs, rfl, rfl, h0, r0⟩ := trodAll_cons hA
  obtain ⟨v1, vs1, d1, ds1, p1, q1, rfl, rfl, rfl, h1, r1⟩ := trodAll_cons r0
  obtain ⟨v2, vs2, d2, ds2, p2, q2, rfl, rfl, rfl, h2, r2⟩ := trodAll_cons r1
  obtain ⟨v3, vs3, d3, ds3, p3, q3, rfl, rfl, rfl, h3, r3⟩ := trodAll_cons r2
  obtain ⟨rfl, rfl, rfl⟩ := trodAll_nil r3
  obtain rfl : args = #[v0, v1, v2, v3] := by cases args; simp_all
  obtain ⟨rfl, rfl⟩ := trodVars_none hV
  have lt0 : ∀ x ∈ p0, x.block < W.heap.size := by obtain ⟨m, hm⟩ := h0; exact DataW.trod_lt m _ _ _ hm
  have lt1 : ∀ x ∈ p1, x.block < W.heap.size := by obtain ⟨m, hm⟩ := h1; exact DataW.trod_lt m _ _ _ hm
  have lt2 : ∀ x ∈ p2, x.block < W.heap.size := by obtain ⟨m, hm⟩ := h2; exact DataW.trod_lt m _ _ _ hm
  have lt3 : ∀ x ∈ p3, x.block < W.heap.size := by obtain ⟨m, hm⟩ := h3; exact DataW.trod_lt m _ _ _ hm
  have hk1 : Rows.uptoSmall H [d0, d1, d2, d3] = true := hk
  refine (walk v0 v1 v2 v3 W hT (hval 0 27 v0 rfl rfl) (hval 1 27 v1 rfl rfl) (hval 2 9 v2 rfl rfl) (hval 3 3 v3 rfl rfl) h0 h1 h2 h3 hk1).mono fun e W' ⟨he, bel⟩ => ?_
  subst he
  exact ⟨_, rfl, _, _, _, [], _, [], hW', trodAll_mk1 (shut_bool Tryd.underlying4 _), (trodAll_cons_mk (Below.trod laidOut (by kernel_rfl) (of_decide_eq_true (by kernel_rfl)) h0 bel lt0) (trodAll_cons_mk (Below.trod laidOut (by kernel_rfl) (of_decide_eq_true (by kernel_rfl)) h1 bel lt1) (trodAll_cons_mk (Below.trod laidOut (by kernel_rfl) (of_decide_eq_true (by kernel_rfl)) h2 bel lt2) (trodAll_cons_mk (Below.trod laidOut (by kernel_rfl) (of_decide_eq_true (by kernel_rfl)) h3 bel lt3) trodAll_mk0)))), rfl, bel.frame _, fun h => by cases h⟩

theorem reads (os : Os) {H : Type} (enc : TypeId × Value → H) : ∃ places, DataW.whole enc Tryd.prog ((World.doorLaid Tryd.prog 400 os).forCall (fun _ _ => 0) ⟨#[], #[.agg #[.int .i64 0, .int .u64 0, .int .u64 0, .int .u64 0, .int .u64 0, .int .i64 0, .int .i64 0, .slice none 0 0], .agg #[.int .i64 0, .int .u64 0, .int .u64 0, .int .u64 0, .int .u64 0, .int .i64 0, .int .i64 0, .slice none 0 0], .string ⟨#[]⟩, .int .i64 0], []⟩).memory Tryd.f3.params.toList Rows.endsPartsSpec.vars false (#[.agg #[.int .i64 0, .int .u64 0, .int .u64 0, .int .u64 0, .int .u64 0, .int .i64 0, .int .i64 0, .slice none 0 0], .agg #[.int .i64 0, .int .u64 0, .int .u64 0, .int .u64 0, .int .u64 0, .int .i64 0, .int .i64 0, .slice none 0 0], .string ⟨#[]⟩, .int .i64 0] : Array Value).toList 8 = some ([.agg [.lit (.int .i64 0), .agg [.lit (.int .u64 0), .lit (.int .u64 0), .lit (.int .u64 0), .lit (.int .u64 0)], .lit (.int .i64 0), .lit (.int .i64 0), .nil], .agg [.lit (.int .i64 0), .agg [.lit (.int .u64 0), .lit (.int .u64 0), .lit (.int .u64 0), .lit (.int .u64 0)], .lit (.int .i64 0), .lit (.int .i64 0), .nil], .lit (.string []), .lit (.int .i64 0)], [], places) :=
  ⟨[], by kernel_rfl⟩

set_option maxRecDepth 100000 in
theorem lifted (os : Os) (started : os.Started) (H : Type) (enc : TypeId × Value → H) (F : Stop.Interp) :
    ReturnsInHanded {} Tryd.checked os 3 .any ((Rows.OpenSpec.upto Rows.endsPartsSpec).preRow enc Tryd.prog Tryd.f3 Rows.endsPartsUptoRow.domain false Rows.endsPartsUptoRow.laid) (((Rows.OpenSpec.upto Rows.endsPartsSpec).at F).post enc Tryd.prog Tryd.f3 false true false false) := by
  obtain ⟨places, hx⟩ := reads os enc
  refine returnsInHanded_of_row (C := Tryd.checked) (s := (Rows.OpenSpec.upto Rows.endsPartsSpec)) own started (by kernel_rfl) Tryd.func3
    (witness_row_atRef (enc := enc) (C := Tryd.checked) false (World.doorLaid Tryd.prog 400 os) #[.agg #[.int .i64 0, .int .u64 0, .int .u64 0, .int .u64 0, .int .u64 0, .int .i64 0, .int .i64 0, .slice none 0 0], .agg #[.int .i64 0, .int .u64 0, .int .u64 0, .int .u64 0, .int .u64 0, .int .i64 0, .int .i64 0, .slice none 0 0], .string ⟨#[]⟩, .int .i64 0] rfl (by kernel_rfl) (by kernel_rfl) (by kernel_rfl)
      (OpenSpec.preRow_of_cond 8 hx (by kernel_rfl) (fun k hk => by cases hk; kernel_rfl) (by kernel_rfl) (laid_met os _))) ?_
  intro W base args ds gs before hval hW _ hcond _ hL _ _
  exact contract H enc W base args ds gs before hval hW hL (hcond _ rfl)

theorem over : Rows.endsPartsUptoRow.holds Tryd.pinned (Rows.OpenSpec.upto Rows.endsPartsSpec) :=
  OpenClaim.holds_of_cond 3 Tryd.f3 rfl rfl rfl rfl rfl rfl rfl ⟨rfl, rfl, rfl, rfl, rfl⟩ rfl rfl rfl rfl rfl (by kernel_rfl) Tryd.func3 (by kernel_rfl)
    (of_decide_eq_true (by kernel_rfl)) (by unfold Func.isWrapper; first | (rw [if_pos (by decide +kernel)]; kernel_rfl) | (rw [if_neg (by decide +kernel)]; exact ⟨rfl, rfl⟩))
    (fun os started H enc _ F => by rw [OpenClaim.pre_eq_preRow]; exact lifted os started H enc F)

/-- No parameter wants a stand-in; the program's own looks are off. -/
theorem bare (f : FuncId) (fn : Func) (hf : Tryd.pinned.checked.prog.funcNamed "sieve/sievelaw11.EndsParts" = some f) (hfn : Tryd.pinned.checked.prog.funcs[f]? = some fn) :
    true = Tryd.pinned.checked.prog.looks [] ∧ ∀ (j : Nat) t, fn.params[j]? = some t → Tryd.pinned.checked.prog.wantsStandIn t = false := by
  obtain rfl : f = 3 := Option.some.inj ((show Tryd.prog.funcNamed "sieve/sievelaw11.EndsParts" = some 3 by kernel_rfl).symm.trans hf) |>.symm
  obtain rfl : fn = Tryd.f3 := (Option.some.inj (Tryd.func3.symm.trans hfn)).symm
  refine ⟨by kernel_rfl, fun j t ht => ?_⟩
  rw [Tryd.params3] at ht
  have hm : t ∈ [27, 27, 9, 3] := by simpa using Array.mem_of_getElem? ht
  have hall : ([27, 27, 9, 3].all fun u => !Tryd.prog.wantsStandIn u) = true := by kernel_rfl
  exact (show Tryd.prog.wantsStandIn t = false by simpa using List.all_eq_true.1 hall t hm)

theorem proved : Rows.EndsPartsUptoCardSaid :=
  Claim7.holds_tied_plain_at .later [] _ _ _ _ over (fun _ h => by cases h) (by kernel_rfl) (fun _ h => by cases h) endsPartsUpto_row_tie rfl ⟨rfl, rfl⟩ (by kernel_rfl) rfl bare (by kernel_rfl)
#print axioms proved
end Go.Proofs.YthcjfgfbeollpaaDoor.EndsParts
