/- The document's parser (layer 7): a list of bytes as a set; the loop over a class's ranges. -/
import Derived.Test.YthcjfgfbeollpaaKG08
import Derived.Test.YthcjfgfbeollpaaKG14
import Derived.Maps.AppendAt
import Derived.Lib.AppendZeros
namespace Go.Proofs.Ythcjfgfbeollpaa.P07
open Go.RowKit Go.Proofs.Ythcjfgfbeollpaa.Base Go.Proofs.Ythcjfgfbeollpaa.IL Go.Proofs.Ythcjfgfbeollpaa.Bytes Go.Proofs.Ythcjfgfbeollpaa.RSet
open Go.Proofs.Ythcjfgfbeollpaa.Sets (ST)

/-- Bytes as ints. -/
def ints (L : List Nat) : List Int := L.map fun (b : Nat) => (b : Int)

theorem mk_snoc (L : List Nat) (b : Nat) : mkS (L ++ [b]) = ST.or (mkS L) (ST.one b) := by
  unfold mkS
  rw [List.foldl_append]
  rfl
theorem mk_ok : ∀ n (L : List Nat), L.length = n → (mkS L).Ok
  | 0, L, h => by
    rw [List.eq_nil_of_length_eq_zero h]
    exact ST.none_ok
  | n + 1, L, h => by
    obtain ⟨M, b, rfl⟩ : ∃ M b, L = M ++ [b] := ⟨L.dropLast, L.getLast (by intro e; rw [e] at h; cases h), (List.dropLast_concat_getLast _).symm⟩
    rw [mk_snoc]
    exact ST.or_ok (mk_ok n M (by simpa using h)) (ST.and_ok (ST.below_ok _))
theorem mk_has (b : Nat) (hb : b < 256) : ∀ n (L : List Nat), L.length = n → (mkS L).has b = decide (b ∈ L)
  | 0, L, h => by
    rw [List.eq_nil_of_length_eq_zero h]
    exact ST.has_none b
  | n + 1, L, h => by
    obtain ⟨M, x, rfl⟩ : ∃ M x, L = M ++ [x] := ⟨L.dropLast, L.getLast (by intro e; rw [e] at h; cases h), (List.dropLast_concat_getLast _).symm⟩
    rw [mk_snoc, ST.has_or _ _ _ hb, ST.has_one _ _ hb, mk_has b hb n M (by simpa using h)]
    rw [Bool.eq_iff_iff]
    simp [List.mem_append]
theorem mk_add (L : List Nat) : addAll .none (ints L) = mkS L := by
  refine ST.ext (addAll_ok ST.none_ok _) (mk_ok _ L rfl) (fun b hb => ?_)
  rw [has_addAll b hb .none ST.none_ok (ints L) (fun x hx => by
    obtain ⟨y, -, rfl⟩ := List.mem_map.1 hx
    exact Int.natCast_nonneg y), mk_has b hb _ L rfl, ST.has_none, Bool.false_or]
  rw [Bool.eq_iff_iff, decide_eq_true_iff, decide_eq_true_iff]
  unfold ints
  rw [List.mem_map]
  constructor
  · rintro ⟨a, h1, h2⟩
    have : a = b := by omega
    rw [← this]
    exact h1
  · exact fun h => ⟨b, h, rfl⟩

theorem set_is (L : List Nat) (hL : ∀ x ∈ L, x < 256) (hlen : L.length ≤ 2097152) (v : Value) (w : World) (h : IL w v (ints L)) : Calls Try.prog 62 #[v] w fun e w' => e = .returned (val (mkS L)) ∧ Keep (fun _ => False) w w' := by
  rw [← mk_add L]
  exact set_any (ints L) (fun x hx => by
    obtain ⟨y, hy, rfl⟩ := List.mem_map.1 hx
    have := hL y hy
    omega) (by unfold ints; rw [List.length_map]; exact hlen) v w h
end Go.Proofs.Ythcjfgfbeollpaa.P07
/- Expressions in memory (layer 7): a node by value, its parts at an address; a list of nodes of the program's own. -/
namespace Go.Proofs.Ythcjfgfbeollpaa.P07
open Go.RowKit Go.Proofs.Ythcjfgfbeollpaa.Base Go.Proofs.Ythcjfgfbeollpaa.IL Go.Proofs.Ythcjfgfbeollpaa.Bytes
open Go.Proofs.Ythcjfgfbeollpaa.Sets (ST)

def T.kind : T → Int | .nd k _ _ _ _ => k
def T.set : T → ST | .nd _ s _ _ _ => s
def T.mn : T → Int | .nd _ _ m _ _ => m
def T.mx : T → Int | .nd _ _ _ m _ => m
def T.subs : T → List T | .nd _ _ _ _ l => l

/-- The eight cells of a node whose parts lie at a. -/
@[reducible] def ncells (t : T) (a : Option Addr) (c : Nat) : Array Value := #[.int .i64 t.kind, .int .u64 t.set.x0, .int .u64 t.set.x1, .int .u64 t.set.x2, .int .u64 t.set.x3, .int .i64 t.mn, .int .i64 t.mx, .slice a t.subs.length c]
@[reducible] def nodeV (t : T) (a : Option Addr) (c : Nat) : Value := .agg (ncells t a c)
theorem infoN : (Try.prog.info? 27).map (fun i => (i.zero, i.size, i.bytes)) = some (some (.agg #[.int .i64 0, .int .u64 0, .int .u64 0, .int .u64 0, .int .u64 0, .int .i64 0, .int .i64 0, .slice none 0 0]), 8, 80) := by kernel_rfl

/-- The parts lie at an address, in blocks that ok lets by. -/
inductive Lie (w : World) (ok : Nat → Prop) : Option Addr → List T → Prop
  | nil (a : Option Addr) : Lie w ok a []
  | cons (bl off : Nat) (L : List T) (A : Nat → Option Addr) (C : Nat → Nat) (hL : L.length ≤ 9223372036854775807) (hb : bl < w.heap.size) (hok : ok bl) (hC : ∀ i t, L[i]? = some t → t.subs.length ≤ C i)
      (hc : ∀ i t, L[i]? = some t → ∀ j v, (ncells t (A i) (C i))[j]? = some v → w.cell? ⟨bl, off + i * 8 + j, none⟩ = some v)
      (hs : ∀ i t, L[i]? = some t → Lie w ok (A i) t.subs) : Lie w ok (some ⟨bl, off, none⟩) L

theorem Lie.keep {S : Nat → Prop} {w w' : World} {ok : Nat → Prop} (q : Keep S w w') (hS : ∀ b, ok b → ¬ S b) {a : Option Addr} {L : List T} (h : Lie w ok a L) : Lie w' ok a L := by
  induction h with
  | nil a => exact .nil a
  | cons bl off L A C hL hb hok hC hc _ ih =>
    exact .cons bl off L A C hL (Nat.lt_of_lt_of_le hb q.size) hok hC (fun i t ht j v hv => (q.cell (a := ⟨bl, off + i * 8 + j, none⟩) hb (hS bl hok)).trans (hc i t ht j v hv)) ih
theorem Lie.len {w : World} {ok : Nat → Prop} {a : Option Addr} {L : List T} (h : Lie w ok a L) : L.length ≤ 9223372036854775807 := by
  cases h with
  | nil a => simp
  | cons bl off L A C hL hb hok hC hc hs => exact hL
theorem Lie.mono {w : World} {ok ok' : Nat → Prop} (hk : ∀ b, ok b → ok' b) {a : Option Addr} {L : List T} (h : Lie w ok a L) : Lie w ok' a L := by
  induction h with
  | nil a => exact .nil a
  | cons bl off L A C hL hb hok hC hc _ ih => exact .cons bl off L A C hL hb (hk bl hok) hC hc ih
theorem Lie.keepF {w w' : World} {ok : Nat → Prop} (q : Keep (fun _ => False) w w') {a : Option Addr} {L : List T} (h : Lie w ok a L) : Lie w' ok a L := h.keep q (fun _ _ h => h)

/-- A node by value. -/
def NodeV (w : World) (ok : Nat → Prop) (v : Value) (t : T) : Prop := ∃ a c, v = nodeV t a c ∧ t.subs.length ≤ c ∧ Lie w ok a t.subs
theorem NodeV.keep {S : Nat → Prop} {w w' : World} {ok : Nat → Prop} {v : Value} {t : T} (h : NodeV w ok v t) (q : Keep S w w') (hS : ∀ b, ok b → ¬ S b) : NodeV w' ok v t := by
  obtain ⟨a, c, h1, h2, h3⟩ := h
  exact ⟨a, c, h1, h2, h3.keep q hS⟩
theorem NodeV.mono {w : World} {ok ok' : Nat → Prop} {v : Value} {t : T} (h : NodeV w ok v t) (hk : ∀ b, ok b → ok' b) : NodeV w ok' v t := by
  obtain ⟨a, c, h1, h2, h3⟩ := h
  exact ⟨a, c, h1, h2, h3.mono hk⟩

/-- The i-th part. -/
theorem Lie.get {w : World} {ok : Nat → Prop} {a : Option Addr} {L : List T} (h : Lie w ok a L) {i : Nat} {t : T} (ht : L[i]? = some t) :
    ∃ bl off a' c', a = some ⟨bl, off, none⟩ ∧ ok bl ∧ bl < w.heap.size ∧ t.subs.length ≤ c' ∧ Lie w ok a' t.subs ∧ ∀ j v, (ncells t a' c')[j]? = some v → w.cell? ⟨bl, off + i * 8 + j, none⟩ = some v := by
  cases h with
  | nil a => simp at ht
  | cons bl off L A C hL hb hok hC hc hs => exact ⟨bl, off, A i, C i, rfl, hok, hb, hC i t ht, hs i t ht, hc i t ht⟩

/-- What a list of nodes of one's own holds: each node's cells, and where its parts lie. -/
@[reducible] def flatN (X : List (T × Option Addr × Nat)) : List Value := X.flatMap fun x => (ncells x.1 x.2.1 x.2.2).toList
theorem flatN_length (X : List (T × Option Addr × Nat)) : (flatN X).length = X.length * 8 := by
  induction X with
  | nil => rfl
  | cons x X ih =>
    unfold flatN at *
    rw [List.flatMap_cons, List.length_append, ih, List.length_cons]
    simp
    omega
theorem flatN_at : ∀ (X : List (T × Option Addr × Nat)) (i : Nat) (x : T × Option Addr × Nat), X[i]? = some x → ∀ j v, (ncells x.1 x.2.1 x.2.2)[j]? = some v → (flatN X)[i * 8 + j]? = some v
  | [], i, x, h, _, _, _ => by simp at h
  | y :: X, 0, x, h, j, v, hv => by
    simp at h
    subst h
    have e : flatN (y :: X) = (ncells y.1 y.2.1 y.2.2).toList ++ flatN X := rfl
    have hj : j < 8 := (Array.getElem?_eq_some_iff.1 hv).1
    rw [e, Nat.zero_mul, Nat.zero_add, List.getElem?_append_left (by simpa using hj)]
    simpa using hv
  | y :: X, i + 1, x, h, j, v, hv => by
    have ih := flatN_at X i x (by simpa using h) j v hv
    have e : flatN (y :: X) = (ncells y.1 y.2.1 y.2.2).toList ++ flatN X := rfl
    rw [e, List.getElem?_append_right (by simp; omega), ← ih]
    congr 1
    simp
    omega

/-- The slice v is a list of the nodes X, of the program's own, in a block that ok lets by; their parts lie in other blocks. -/
def OX (w : World) (ok : Nat → Prop) (v : Value) (X : List (T × Option Addr × Nat)) : Prop :=
  w.ownsRow 0 27 8 v X.length (flatN X) ∧ (∀ g, v.ownBlock = some g → ok g) ∧ ∀ x ∈ X, x.1.subs.length ≤ x.2.2 ∧ Lie w (fun k => ok k ∧ v.ownBlock ≠ some k) x.2.1 x.1.subs
/-- .. of these expressions. -/
def OT (w : World) (ok : Nat → Prop) (v : Value) (L : List T) : Prop := ∃ X, OX w ok v X ∧ X.map (·.1) = L

theorem OT.nil (w : World) (ok : Nat → Prop) : OT w ok (.slice none 0 0) [] := ⟨[], ⟨⟨rfl, .inl ⟨rfl, rfl⟩⟩, fun g hg => (by cases hg), by simp⟩, rfl⟩
theorem OT.keep {S : Nat → Prop} {w w' : World} {ok : Nat → Prop} {v : Value} {L : List T} (h : OT w ok v L) (q : Keep S w w') (hS : ∀ b, ok b → ¬ S b) : OT w' ok v L := by
  obtain ⟨X, ⟨h1, h2, h3⟩, h4⟩ := h
  refine ⟨X, ⟨⟨h1.1, ?_⟩, h2, fun x hx => ⟨(h3 x hx).1, (h3 x hx).2.keep q (fun b hb => hS b hb.1)⟩⟩, h4⟩
  rcases h1.2 with h | ⟨g, cap, cur, rfl, hb, hg, r⟩
  · exact .inl h
  · refine .inr ⟨g, cap, cur, rfl, hb, ?_, r⟩
    have : At w g 27 cur := hg
    exact this.keep q (hS g (h2 g rfl))

/-- As an argument, or a node's parts. -/
theorem OT.form {w : World} {ok : Nat → Prop} {v : Value} {L : List T} (h : OT w ok v L) : ∃ a cap, v = .slice a L.length cap ∧ L.length ≤ cap ∧ Lie w ok a L := by
  obtain ⟨X, ⟨h1, h2, h3⟩, rfl⟩ := h
  rcases h1.2 with ⟨rfl, h0⟩ | ⟨g, cap, cur, rfl, _, hg, h5, h6, h7, h8⟩
  · have e : X = [] := List.eq_nil_of_length_eq_zero h0
    subst e
    exact ⟨none, 0, rfl, Nat.zero_le _, .nil _⟩
  · have ha : At w g 27 cur := hg
    refine ⟨_, cap, by rw [List.length_map], by rw [List.length_map]; exact h5, .cons g 0 _ (fun i => (X[i]?.map (·.2.1)).getD none) (fun i => (X[i]?.map (·.2.2)).getD 0) (by rw [List.length_map]; unfold maxLen at h6; omega) ha.lt (h2 g rfl) (fun i t ht => ?_) (fun i t ht j v hv => ?_) (fun i t ht => ?_)⟩
    · rw [List.getElem?_map] at ht
      obtain ⟨x, hx, rfl⟩ := Option.map_eq_some_iff.1 ht
      simp only [hx, Option.map_some, Option.getD_some]
      exact (h3 x (List.mem_of_getElem? hx)).1
    · rw [List.getElem?_map] at ht
      obtain ⟨x, hx, rfl⟩ := Option.map_eq_some_iff.1 ht
      simp only [hx, Option.map_some, Option.getD_some] at hv
      have hj : j < 8 := (Array.getElem?_eq_some_iff.1 hv).1
      have hi : i < X.length := (List.getElem?_eq_some_iff.1 hx).1
      refine ha.cell ?_
      have h9 := flatN_at X i x hx j v hv
      have h10 : (cur.toList.take (X.length * 8))[i * 8 + j]? = (flatN X)[i * 8 + j]? := by rw [h8]
      rw [List.getElem?_take_of_lt (by omega), h9] at h10
      rw [Nat.zero_add]
      simpa using h10
    · rw [List.getElem?_map] at ht
      obtain ⟨x, hx, rfl⟩ := Option.map_eq_some_iff.1 ht
      simp only [hx, Option.map_some, Option.getD_some]
      exact (h3 x (List.mem_of_getElem? hx)).2.mono (fun _ h => h.1)

theorem nkeep_grown {w w' : World} {r : Option Nat} (h : w.grownBy w' r) : Keep (fun b => r = some b) w w' :=
  ⟨h.os, h.tape, h.output, h.size, fun k hk hn => h.block k hk (fun e => hn e.symm)⟩

/-- append of one node, laid by the call itself. -/
theorem OT.push {w : World} {ok : Nat → Prop} {v : Value} {L : List T} (h : OT w ok v L) (t : T) (a : Option Addr) (c : Nat) (hc : t.subs.length ≤ c) (hl : Lie w (fun k => ok k ∧ v.ownBlock ≠ some k) a t.subs)
    (hlen : (L.length + 1) * 80 ≤ 140737488355328) (hok : ∀ g, w.heap.size ≤ g → ok g) (ty : TypeId) :
    ∃ v' w', (Builtin.append_ #[25, 25] ty #[v, .slice (some ⟨w.heap.size, 0, none⟩) 1 1]).run Try.prog (w.alloc (.cells (ncells t a c) 27)) = .ok v' w' ∧ OT w' ok v' (L ++ [t]) ∧ Keep (fun b => v.ownBlock = some b) w w' ∧ (∀ g, v'.ownBlock = some g → v.ownBlock = some g ∨ w.heap.size ≤ g) := by
  obtain ⟨X, ⟨h1, h2, h3⟩, rfl⟩ := h
  have qa := (Keep.refl (fun _ => False) w).alloc (.cells (ncells t a c) 27)
  have ha := At.new w (ncells t a c) 27
  have hown : (w.alloc (.cells (ncells t a c) 27)).ownsRow 0 27 8 v X.length (flatN X) := by
    refine ⟨h1.1, ?_⟩
    rcases h1.2 with h | ⟨g, cap, cur, rfl, hb, hg, r⟩
    · exact .inl h
    · refine .inr ⟨g, cap, cur, rfl, hb, ?_, r⟩
      have : At w g 27 cur := hg
      exact this.keep qa (fun h => h)
  obtain ⟨i0, hi0, hz0, hz1, hz2⟩ := info_parts infoN
  rw [List.length_map] at hlen
  obtain ⟨v', w', hrun, g2, g3, _, g5⟩ := run_append_own_at (P := Try.prog) (w.alloc (.cells (ncells t a c) 27)) 0 25 ty 27 i0 (.agg #[.int .i64 0, .int .u64 0, .int .u64 0, .int .u64 0, .int .u64 0, .int .i64 0, .int .i64 0, .slice none 0 0]) 8 80 Try.underlying25 hi0 hz0 hz1 hz2 rfl (by omega) v X.length (flatN X) hown ⟨w.heap.size, 0, none⟩ 1 1 (ncells t a c).toList rfl
    (fun j u hu => by
      have := ha.cell (o := j) (v := u) (by simpa using hu)
      have e : (⟨w.heap.size, 0, none⟩ : Addr).add j = ⟨w.heap.size, j, none⟩ := by
        unfold Addr.add
        split
        · rename_i hz
          rw [hz]
        · simp
      rw [e]
      exact this)
    (by intro u hu; simp at hu; rcases hu with rfl | rfl | rfl | rfl | rfl | rfl | rfl | rfl <;> rfl) (by simp only [maxLen]; omega) (by omega) (Nat.zero_le _)
  have q : Keep (fun b => v.ownBlock = some b) w w' := (qa.mono (fun _ h => h.elim)).trans (nkeep_grown g3)
  have hbl : ∀ g, v'.ownBlock = some g → v.ownBlock = some g ∨ w.heap.size ≤ g := fun g hg => by
    rcases g5 with g5 | g5
    · exact .inl (by rw [← g5]; exact hg)
    · rw [g5] at hg
      injection hg with hg
      simp at hg
      exact .inr (by omega)
  have hlie : ∀ {a : Option Addr} {M : List T}, Lie w (fun k => ok k ∧ v.ownBlock ≠ some k) a M → Lie w' (fun k => ok k ∧ v'.ownBlock ≠ some k) a M := fun {a M} h => by
    have h1 : Lie w (fun k => (ok k ∧ v.ownBlock ≠ some k) ∧ k < w.heap.size) a M := by
      induction h with
      | nil a => exact .nil a
      | cons bl off L A C hL hb hok hC hc _ ih => exact .cons bl off L A C hL hb ⟨hok, hb⟩ hC hc ih
    refine (h1.keep q (fun b hb e => hb.1.2 e)).mono (fun k hk => ⟨hk.1.1, fun e => ?_⟩)
    rcases hbl k e with h | h
    · exact hk.1.2 h
    · have := hk.2
      omega
  refine ⟨v', w', hrun, ⟨X ++ [(t, a, c)], ⟨?_, fun g hg => ?_, fun x hx => ?_⟩, by simp⟩, q, hbl⟩
  · rw [List.length_append]
    have e : flatN (X ++ [(t, a, c)]) = flatN X ++ (ncells t a c).toList := by
      unfold flatN
      rw [List.flatMap_append]
      simp
    rw [e]
    exact g2
  · rcases hbl g hg with h | h
    · exact h2 g h
    · exact hok g h
  · rcases List.mem_append.1 hx with hx | hx
    · exact ⟨(h3 x hx).1, hlie (h3 x hx).2⟩
    · rw [List.mem_singleton.1 hx]
      exact ⟨hc, hlie hl⟩
end Go.Proofs.Ythcjfgfbeollpaa.P07
