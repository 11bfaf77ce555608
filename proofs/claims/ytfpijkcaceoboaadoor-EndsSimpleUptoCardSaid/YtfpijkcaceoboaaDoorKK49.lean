/- The code's alt (layer 10). -/
import Derived.Test.YtfpijkcaceoboaaDoorKK48
import Derived.Test.YtfpijkcaceoboaaDoorKK34
import Derived.Test.YtfpijkcaceoboaaDoorKK40
import Derived.Test.YtfpijkcaceoboaaDoorKK31
namespace Go.Proofs.YtfpijkcaceoboaaDoor.P10
open Go.RowKit Go.Proofs.YtfpijkcaceoboaaDoor.Base Go.Proofs.YtfpijkcaceoboaaDoor.Bytes Go.Proofs.YtfpijkcaceoboaaDoor.P07 Go.Proofs.YtfpijkcaceoboaaDoor.P08
open Go.Proofs.YtfpijkcaceoboaaDoor.Sets (ST)

def cI : Option Nat → Int
  | none => -1
  | some i => i
theorem altS_len (A : List T × Option Nat) (t : T) : (altS A t).1.length ≤ A.1.length + 1 := by
  unfold altS
  split
  · omega
  · split
    · split
      · simp
      · simp
    · split
      · omega
      · simp
theorem fold_len : ∀ (L : List T) (A : List T × Option Nat), (L.foldl altS A).1.length ≤ A.1.length + L.length
  | [], A => Nat.le_refl _
  | t :: L, A => by
    have h1 := fold_len L (altS A t)
    have h2 := altS_len A t
    rw [List.foldl_cons, List.length_cons]
    omega
theorem fold_take {L : List T} {i : Nat} {t : T} (h : L[i]? = some t) (A : List T × Option Nat) : (L.take (i + 1)).foldl altS A = altS ((L.take i).foldl altS A) t := by
  rw [List.take_add_one, h, List.foldl_append]
  rfl
theorem same_cls {t : T} (h : t.kind ≠ 2) (s : ST) : sameB t (clsT s) = false := by
  cases e : sameB t (clsT s) with
  | false => rfl
  | true =>
    rw [(sameB_iff _ _).1 e] at h
    exact absurd rfl h
theorem any_set {L : List T} {i : Nat} {s s' : ST} (hi : L[i]? = some (clsT s)) {t : T} (h : t.kind ≠ 2) : (L.set i (clsT s')).any (sameB t) = L.any (sameB t) := by
  rw [Bool.eq_iff_iff, any_same, any_same]
  have hil := (List.getElem?_eq_some_iff.1 hi).1
  constructor
  · intro hm
    rcases List.mem_or_eq_of_mem_set hm with hm | hm
    · exact hm
    · rw [hm] at h
      exact absurd rfl h
  · intro hm
    obtain ⟨j, hj⟩ := List.mem_iff_getElem?.1 hm
    have hji : j ≠ i := fun e => by
      rw [e, hi] at hj
      injection hj with hj
      rw [← hj] at h
      exact absurd rfl h
    exact List.mem_iff_getElem?.2 ⟨j, by rw [List.getElem?_set_ne (fun e => hji e.symm)]; exact hj⟩
/-- Of those that are no Class both lists know the same. -/
def Sm (N L : List T) : Prop := ∀ t, t.kind ≠ 2 → N.any (sameB t) = L.any (sameB t)
theorem Sm.cls {N L : List T} (h : Sm N L) (s : ST) : Sm N (L ++ [clsT s]) := fun t ht => by
  rw [h t ht, List.any_append]
  show _ = (L.any (sameB t) || (sameB t (clsT s) || false))
  rw [same_cls ht]
  simp
theorem Sm.set {N L : List T} (h : Sm N L) {i : Nat} {s s' : ST} (hi : L[i]? = some (clsT s)) : Sm N (L.set i (clsT s')) := fun t ht => by
  rw [h t ht, any_set hi ht]
theorem Sm.push {N L : List T} (h : Sm N L) (u : T) : Sm (N ++ [u]) (L ++ [u]) := fun t ht => by
  rw [List.any_append, List.any_append, h t ht]

/-- What holds in the loop: the row so far, what is known, the list that is gone over. -/
structure Al (w : World) (ok : Nat → Prop) (base : Nat) (v : Value) (M : List T) (A : List T × Option Nat) (N : List T) (Z : Nat → Prop) (u : Value) (W : World) : Prop where
  row : OE W (fun b => ok b ∧ b < w.heap.size) u A.1
  own : Own base u
  kn : Kn (w.heap.size + 1) (fun b => ok b ∧ b < w.heap.size) (w.heap.size + 1) Z N W
  z1 : ∀ b, Z b → b = w.heap.size + 1 ∨ base ≤ b
  z2 : ∀ b, Z b → u.ownBlock ≠ some b
  rb : Rb w w.heap.size W
  lv : OE W (fun b => ok b ∧ b < w.heap.size) v M
  lo : ∀ g, v.ownBlock = some g → w.heap.size + 2 ≤ g ∧ g < base
  bs : w.heap.size + 2 ≤ base ∧ base ≤ W.heap.size
  cls : ∀ i, A.2 = some i → ∃ s : ST, s.Ok ∧ A.1[i]? = some (clsT s)
theorem Al.quiet {w : World} {ok : Nat → Prop} {base : Nat} {v : Value} {M : List T} {A : List T × Option Nat} {N : List T} {Z : Nat → Prop} {u : Value} {W W' : World} (h : Al w ok base v M A N Z u W) (q : Keep (fun _ => False) W W') : Al w ok base v M A N Z u W' :=
  ⟨h.row.keep q (fun _ _ h => h) (fun _ _ h => h), h.own, h.kn.keepF q, h.z1, h.z2, h.rb.next q, h.lv.keep q (fun _ _ h => h) (fun _ _ h => h), h.lo, ⟨h.bs.1, Nat.le_trans h.bs.2 q.size⟩, h.cls⟩
/-- Only rows and the map turn. -/
theorem Al.turn {w : World} {ok : Nat → Prop} {base : Nat} {v : Value} {M : List T} {A : List T × Option Nat} {N : List T} {Z : Nat → Prop} {u : Value} {W W' : World} (h : Al w ok base v M A N Z u W) {S : Nat → Prop} (q : Keep S W W') (hS : ∀ b, S b → b = w.heap.size + 1 ∨ base ≤ b) : Rb w w.heap.size W' ∧ OE W' (fun b => ok b ∧ b < w.heap.size) v M ∧ (w.heap.size + 2 ≤ base ∧ base ≤ W'.heap.size) := by
  have hb := h.bs
  have hn : ¬ S w.heap.size := fun e => by have := hS _ e; omega
  refine ⟨⟨h.rb.out.keep q hn, h.rb.keep.next q (fun i hi e => by have := hS i hi; omega), h.rb.lt⟩, h.lv.keep q (fun g hg e => by have := h.lo g hg; have := hS g e; omega) (fun b hb e => by have := hS b e; omega), hb.1, Nat.le_trans hb.2 q.size⟩
theorem Al.push {w : World} {ok : Nat → Prop} {base : Nat} {v : Value} {M : List T} {A : List T × Option Nat} {N : List T} {Z : Nat → Prop} {u : Value} {W : World} (h : Al w ok base v M A N Z u W) (t : T) (a : Option Addr) (c : Nat) (hc : t.subs.length ≤ c) (hl : Lie W (fun b => ok b ∧ b < w.heap.size) a t.subs) (hlen : A.1.length ≤ 1000000) (c' : Option Nat) (hcl : ∀ i, c' = some i → ∃ s : ST, s.Ok ∧ (A.1 ++ [t])[i]? = some (clsT s)) (ty : TypeId) :
    ∃ v' w', (Builtin.append_ #[25, 25] ty #[u, .slice (some ⟨W.heap.size, 0, none⟩) 1 1]).run Tryd.prog (W.alloc (.cells (ncells t a c) 27)) = .ok v' w' ∧ Al w ok base v M (A.1 ++ [t], c') N Z v' w' := by
  have hb := h.bs
  obtain ⟨v', w', hrun, g1, g2, g3⟩ := h.row.push (fun g hg e => by have := h.own g hg; omega) t a c hc hl (by omega) ty
  have hS : ∀ b, u.ownBlock = some b → b = w.heap.size + 1 ∨ base ≤ b := fun b hb => .inr (h.own b hb)
  obtain ⟨r1, r2, r3⟩ := h.turn g2 hS
  refine ⟨v', w', hrun, g1, fun g hg => ?_, h.kn.keep g2 (fun b hb e => h.z2 b hb e) (fun b hb e => by have := h.own b e; omega), h.z1, fun b hb e => ?_, r1, r2, h.lo, r3, hcl⟩
  · rcases g3 g hg with h1 | h1
    · exact h.own g h1
    · omega
  · rcases g3 b e with h1 | h1
    · exact h.z2 b hb h1
    · have := (h.kn.zlt b hb).2
      omega
theorem OE.set4 {w : World} {E : Nat → Prop} {g n cap : Nat} {L : List T} (h : OE w E (.slice (some ⟨g, 0, none⟩) n cap) L) {i : Nat} {s : ST} (hi : L[i]? = some (clsT s)) :
    (w.cell? ⟨g, i * 8 + 1, none⟩ = some (.int .u64 s.x0) ∧ w.cell? ⟨g, i * 8 + 2, none⟩ = some (.int .u64 s.x1) ∧ w.cell? ⟨g, i * 8 + 3, none⟩ = some (.int .u64 s.x2) ∧ w.cell? ⟨g, i * 8 + 4, none⟩ = some (.int .u64 s.x3)) ∧ (w.frozen? ⟨g, i * 8 + 1, none⟩ = false ∧ w.frozen? ⟨g, i * 8 + 2, none⟩ = false ∧ w.frozen? ⟨g, i * 8 + 3, none⟩ = false ∧ w.frozen? ⟨g, i * 8 + 4, none⟩ = false) ∧ g < w.heap.size ∧ n = L.length := by
  obtain ⟨g', cap', a, c, e, -, hg, -, -, C, hf⟩ := h.get hi
  injection e with e1 e2 e3
  injection e1 with e1
  injection e1 with e1
  subst e1
  exact ⟨⟨C 1 _ rfl, C 2 _ rfl, C 3 _ rfl, C 4 _ rfl⟩, ⟨hf _, hf _, hf _, hf _⟩, hg, e2⟩
end Go.Proofs.YtfpijkcaceoboaaDoor.P10
/- The code's simple (layer 10). -/
namespace Go.Proofs.YtfpijkcaceoboaaDoor.P10
open Go.RowKit Go.Proofs.YtfpijkcaceoboaaDoor.Base Go.Proofs.YtfpijkcaceoboaaDoor.Bytes Go.Proofs.YtfpijkcaceoboaaDoor.P07 Go.Proofs.YtfpijkcaceoboaaDoor.P08
open Go.Proofs.YtfpijkcaceoboaaDoor.Sets (ST)

/-- A store of one node. -/
theorem OE.setN {w : World} {E : Nat → Prop} {g n cap : Nat} {L : List T} (h : OE w E (.slice (some ⟨g, 0, none⟩) n cap) L) (hE : ¬ E g) {i : Nat} (hi : i < L.length) (t : T) (a : Option Addr) (c : Nat) (hc : t.subs.length ≤ c) (hl : Lie w E a t.subs) :
    OE (putNd w g (i * 8) t a c) E (.slice (some ⟨g, 0, none⟩) n cap) (L.set i t) := by
  obtain ⟨X, h1, h3, rfl⟩ := h
  rw [List.length_map] at hi
  have hn : n = X.length := by
    rcases h1.2 with ⟨e, h0⟩ | ⟨g', cap', cur, e, -⟩
    · cases e
    · injection e
  subst hn
  have hlie : ∀ {a' : Option Addr} {M : List T}, Lie w E a' M → Lie (putNd w g (i * 8) t a c) E a' M := fun {a' M} h => h.keep (putNd_keep w g (i * 8) t a c) (fun k hk e => hE (by rw [← e]; exact hk))
  refine ⟨X.set i (t, a, c), ?_, fun x hx => ?_, by rw [List.map_set]⟩
  · rw [List.length_set]
    exact rowN_set h1 hi t a c
  · rcases List.mem_or_eq_of_mem_set hx with hx | rfl
    · exact ⟨(h3 x hx).1, hlie (h3 x hx).2⟩
    · exact ⟨hc, hlie hl⟩
theorem sets_ok {k : Int} {d : Nat} {L : List T} (h : ∀ t ∈ L, RT d t) : ∀ t ∈ unf k L, t.set.Ok := fun t ht => by
  have : RT d t := by
    rcases mem_unf ht with ⟨h1, -⟩ | ⟨u, hu, -, h1⟩
    · exact h t h1
    · exact sub_right (h u hu).subs t h1
  have := RT_sok t d this
  cases t
  rw [SOk] at this
  exact this.1

theorem Gives.drew {w : World} {ok : Nat → Prop} {t : T} {e : Ending} {W : World} (h : Gives w ok t e W) : Gives w ok t e W.drew := by
  obtain ⟨⟨v, h1, h2⟩, h3⟩ := h
  exact ⟨⟨v, h1, h2.keep ((Keep.refl (fun _ => False) W).drew) (fun _ _ h => h)⟩, h3.drew⟩
end Go.Proofs.YtfpijkcaceoboaaDoor.P10
/- The document's Alt (layer 10). -/
namespace Go.Proofs.YtfpijkcaceoboaaDoor.P10
open Go.RowKit Go.Proofs.YtfpijkcaceoboaaDoor.Base Go.Proofs.YtfpijkcaceoboaaDoor.Bytes Go.Proofs.YtfpijkcaceoboaaDoor.P07 Go.Proofs.YtfpijkcaceoboaaDoor.P08 Go.Proofs.YtfpijkcaceoboaaDoor.P09 Go.Proofs.YtfpijkcaceoboaaDoor.IL
open Go.Proofs.YtfpijkcaceoboaaDoor.Sets (ST)

theorem fb_apart {b w : World} {v : Value} {S : ST} {n : Nat} (h : Fb b w v S n) {E : Nat → Prop} {u : Value} {L : List T} (hu : OE w E u L) : ∀ g, v.ownBlock = some g → u.ownBlock ≠ some g := fun g hg hug => by
  obtain ⟨M, h1, -⟩ := h.il
  obtain ⟨X, k1, -⟩ := hu
  rcases h1.2 with ⟨rfl, -⟩ | ⟨g1, cap, cur, rfl, _, hc, -⟩
  · cases hg
  · rcases k1.2 with ⟨rfl, -⟩ | ⟨g2, cap2, cur2, rfl, _, hc2, -⟩
    · cases hug
    · injection hg with hg
      injection hug with hug
      have e1 : g1 = g := hg
      have e2 : g2 = g := hug
      rw [e1] at hc
      rw [e2, hc] at hc2
      injection hc2 with hc2
      injection hc2 with _ hc2
      exact absurd hc2 (by decide)
theorem fb_keepS {b w w' : World} {v : Value} {S : ST} {n : Nat} (h : Fb b w v S n) {Q : Nat → Prop} (k : Keep Q w w') (h1 : ∀ g, v.ownBlock = some g → ¬ Q g) (h2 : ∀ i, Q i → b.heap.size ≤ i) : Fb b w' v S n := by
  obtain ⟨L, g1, g2⟩ := h.il
  exact ⟨h.q.next k (fun i hi hl => by have := h2 i hi; omega), h.far, L, g1.keep k h1, g2⟩
/-- How the document's row is the other one: a Class that stands for all of them, and their bytes. -/
def Rl (L' L : List T) : Option Nat → ST → Prop
  | none, S => L' = L ∧ S = ST.none
  | some i, S => ∃ (r : T), r.kind = 2 ∧ S.Ok ∧ L[i]? = some (clsT S) ∧ L' = L.set i r
theorem Rl.len {L' L : List T} {c : Option Nat} {S : ST} (h : Rl L' L c S) : L'.length = L.length := by
  cases c with
  | none => rw [h.1]
  | some i =>
    obtain ⟨r, -, -, -, e⟩ := h
    rw [e, List.length_set]
theorem Rl.any {L' L : List T} {c : Option Nat} {S : ST} (h : Rl L' L c S) {t : T} (ht : t.kind ≠ 2) : L'.any (sameB t) = L.any (sameB t) := by
  cases c with
  | none => rw [h.1]
  | some i =>
    obtain ⟨r, hr, -, hi, e⟩ := h
    rw [e, Bool.eq_iff_iff, any_same, any_same]
    have hil := (List.getElem?_eq_some_iff.1 hi).1
    constructor
    · intro hm
      rcases List.mem_or_eq_of_mem_set hm with hm | hm
      · exact hm
      · rw [hm] at ht
        exact absurd hr ht
    · intro hm
      obtain ⟨j, hj⟩ := List.mem_iff_getElem?.1 hm
      have hji : j ≠ i := fun e => by
        rw [e, hi] at hj
        injection hj with hj
        rw [← hj] at ht
        exact absurd rfl ht
      exact List.mem_iff_getElem?.2 ⟨j, by rw [List.getElem?_set_ne (fun e => hji e.symm)]; exact hj⟩
theorem Rl.push {L' L : List T} {c : Option Nat} {S : ST} (h : Rl L' L c S) (t : T) : Rl (L' ++ [t]) (L ++ [t]) c S := by
  cases c with
  | none => exact ⟨by rw [h.1], h.2⟩
  | some i =>
    obtain ⟨r, h1, h2, h3, h4⟩ := h
    have hil := (List.getElem?_eq_some_iff.1 h3).1
    exact ⟨r, h1, h2, by rw [List.getElem?_append_left hil]; exact h3, by rw [h4, List.set_append_left _ _ hil]⟩
theorem Rl.first {L' L : List T} {S : ST} (h : Rl L' L none S) {t : T} (hk : t.kind = 2) (hs : t.set.Ok) : Rl (L' ++ [t]) (L ++ [clsT t.set]) (some L.length) (S.or t.set) := by
  obtain ⟨rfl, rfl⟩ := h
  refine ⟨t, hk, ST.or_ok ST.none_ok hs, by rw [none_or hs]; simp, ?_⟩
  rw [List.set_append_right _ _ (Nat.le_refl _), Nat.sub_self]
  rfl
theorem Rl.more {L' L : List T} {i : Nat} {S : ST} (h : Rl L' L (some i) S) {s : ST} (hs : s.Ok) : Rl L' (L.set i (clsT (S.or s))) (some i) (S.or s) := by
  obtain ⟨r, h1, h2, h3, h4⟩ := h
  have hil := (List.getElem?_eq_some_iff.1 h3).1
  exact ⟨r, h1, ST.or_ok h2 hs, by rw [List.getElem?_set_self hil], by rw [h4, List.set_set]⟩

/-- In the document's loop. -/
structure Fl (w b : World) (ok : Nat → Prop) (v : Value) (M : List T) (L' : List T) (S : ST) (n : Nat) (u vb : Value) (W : World) : Prop where
  row : OE W (fun j => ok j ∧ j < w.heap.size) u L'
  own : Own b.heap.size u
  fb : Fb b W vb S n
  rb : Rb w w.heap.size W
  lv : OE W (fun j => ok j ∧ j < w.heap.size) v M
  lo : ∀ g, v.ownBlock = some g → w.heap.size + 1 ≤ g ∧ g < b.heap.size
  bs : w.heap.size + 1 ≤ b.heap.size ∧ b.heap.size ≤ W.heap.size
theorem Fl.quiet {w b : World} {ok : Nat → Prop} {v : Value} {M : List T} {L' : List T} {S : ST} {n : Nat} {u vb : Value} {W W' : World} (h : Fl w b ok v M L' S n u vb W) (q : Keep (fun _ => False) W W') : Fl w b ok v M L' S n u vb W' :=
  ⟨h.row.keep q (fun _ _ h => h) (fun _ _ h => h), h.own, h.fb.keep q, h.rb.next q, h.lv.keep q (fun _ _ h => h) (fun _ _ h => h), h.lo, ⟨h.bs.1, Nat.le_trans h.bs.2 q.size⟩⟩
theorem Fl.turn {w b : World} {ok : Nat → Prop} {v : Value} {M : List T} {L' : List T} {S : ST} {n : Nat} {u vb : Value} {W W' : World} (h : Fl w b ok v M L' S n u vb W) {Q : Nat → Prop} (q : Keep Q W W') (hQ : ∀ i, Q i → b.heap.size ≤ i) : Rb w w.heap.size W' ∧ OE W' (fun j => ok j ∧ j < w.heap.size) v M ∧ (w.heap.size + 1 ≤ b.heap.size ∧ b.heap.size ≤ W'.heap.size) := by
  have hb := h.bs
  exact ⟨⟨h.rb.out.keep q (fun e => by have := hQ _ e; omega), h.rb.keep.next q (fun i hi e => by have := hQ i hi; omega), h.rb.lt⟩, h.lv.keep q (fun g hg e => by have := h.lo g hg; have := hQ g e; omega) (fun j hj e => by have := hQ j e; omega), hb.1, Nat.le_trans hb.2 q.size⟩
theorem Fl.push {w b : World} {ok : Nat → Prop} {v : Value} {M : List T} {L' : List T} {S : ST} {n : Nat} {u vb : Value} {W : World} (h : Fl w b ok v M L' S n u vb W) (t : T) (a : Option Addr) (c : Nat) (hc : t.subs.length ≤ c) (hl : Lie W (fun j => ok j ∧ j < w.heap.size) a t.subs) (hlen : L'.length ≤ 1000000) (ty : TypeId) :
    ∃ v' w', (Builtin.append_ #[25, 25] ty #[u, .slice (some ⟨W.heap.size, 0, none⟩) 1 1]).run Tryd.prog (W.alloc (.cells (ncells t a c) 27)) = .ok v' w' ∧ Fl w b ok v M (L' ++ [t]) S n v' vb w' := by
  have hb := h.bs
  obtain ⟨v', w', hrun, g1, g2, g3⟩ := h.row.push (fun g hg e => by have := h.own g hg; omega) t a c hc hl (by omega) ty
  obtain ⟨r1, r2, r3⟩ := h.turn g2 (fun i hi => h.own i hi)
  refine ⟨v', w', hrun, g1, fun g hg => ?_, fb_keepS h.fb g2 (fun g hg e => fb_apart h.fb h.row g hg e) (fun i hi => h.own i hi), r1, r2, h.lo, r3⟩
  rcases g3 g hg with h1 | h1
  · exact h.own g h1
  · omega
theorem fb_append {b w : World} {v : Value} {S : ST} {n : Nat} (h : Fb b w v S n) {s : ST} (hs : s.Ok) (hn : n ≤ 1000) {v2 : Value} (hi : IL w v2 (Bytes.lst s.has 256)) (ty : TypeId) :
    ∃ v' w', (Builtin.append_ #[30, 30] ty #[v, v2]).run Tryd.prog w = .ok v' w' ∧ Fb b w' v' (S.or s) (n + 1) ∧ Keep (fun g => v.ownBlock = some g) w w' := by
  obtain ⟨L, h1, h2, h3, h4⟩ := h.il
  obtain ⟨a2, cap2, rfl, hc⟩ := hi.form
  have hlN := lstN_length s.has 256
  have hlen : (Bytes.lst s.has 256).length = (lstN s.has 256).length := by rw [lstN_ints]; unfold ints; rw [List.length_map]
  obtain ⟨v', w', hrun, g1, g2, g3⟩ := h1.append (Bytes.lst s.has 256) a2 cap2 (fun j x hx => by
    obtain ⟨g, -, e, hcell⟩ := hc j x hx
    refine ⟨⟨g, 0, none⟩, e, ?_⟩
    rw [show (⟨g, 0, none⟩ : Addr).add j = ⟨g, j, none⟩ from by
      unfold Addr.add
      split
      · rename_i hz
        rw [hz]
      · simp]
    exact hcell) (by unfold ints; rw [List.length_map, hlen]; omega) ty
  refine ⟨v', w', hrun, ⟨h.q.next g2 (fun i hh hi => by have := h.far i hh; omega), fun g hg => ?_, L ++ lstN s.has 256, ?_, ?_, ?_, ?_⟩, g2⟩
  · rcases g3 g hg with h5 | h5
    · exact h.far g h5
    · exact Nat.le_trans h.q.size h5
  · rw [lstN_ints] at g1
    unfold ints at g1 ⊢
    rw [List.map_append]
    exact g1
  · intro x hx
    rcases List.mem_append.1 hx with h5 | h5
    · exact h2 x h5
    · exact ((lstN_mem _ _ _).1 h5).1
  · rw [List.length_append]
    omega
  · rw [mk_append, h4, mk_lstN hs]
theorem Fl.bytes {w b : World} {ok : Nat → Prop} {v : Value} {M : List T} {L' : List T} {S : ST} {n : Nat} {u vb : Value} {W : World} (h : Fl w b ok v M L' S n u vb W) {s : ST} (hs : s.Ok) (hn : n ≤ 1000) {v2 : Value} (hi : IL W v2 (Bytes.lst s.has 256)) (ty : TypeId) :
    ∃ v' w', (Builtin.append_ #[30, 30] ty #[vb, v2]).run Tryd.prog W = .ok v' w' ∧ Fl w b ok v M L' (S.or s) (n + 1) u v' w' ∧ Keep (fun g => vb.ownBlock = some g) W w' := by
  obtain ⟨v', w', hrun, g1, g2⟩ := fb_append h.fb hs hn hi ty
  have hb := h.bs
  obtain ⟨r1, r2, r3⟩ := h.turn g2 (fun i hi => h.fb.far i hi)
  exact ⟨v', w', hrun, ⟨h.row.keep g2 (fun g hg e => fb_apart h.fb h.row g e hg) (fun j hj e => by have := h.fb.far j e; omega), h.own, g1, r1, r2, h.lo, r3⟩, g2⟩

set_option maxRecDepth 100000 in
set_option maxHeartbeats 16000000 in
theorem falt_any (L : List T) (a : Option Addr) (cap : Nat) (ok : Nat → Prop) (w : World) (hL : Lie w ok a L) (hcnt : cntL L ≤ 900) (hsets : ∀ t ∈ unf 4 L, t.set.Ok) :
    Calls Tryd.prog 36 #[.slice a L.length cap] w (Gives w ok (altT L)) := by
  have r0 : Rb w w.heap.size (w.alloc (.cells nzeros 27)) := ⟨At.new w nzeros 27, (Keep.refl (fun _ => False) w).alloc _, Nat.le_refl _⟩
  have hM := unf_len 4 L L.length
  rw [List.take_length] at hM
  have hlen := P10.len_cntL L
  have hL1 := hL.under.keepF r0.keep
  obtain ⟨M, hMe⟩ : ∃ M, unf 4 L = M := ⟨_, rfl⟩
  obtain ⟨tt, htt⟩ : ∃ tt, altT L = tt := ⟨_, rfl⟩
  rw [hMe] at hM hsets
  rw [htt]
  unfold altT at htt
  rw [hMe] at htt
  have hLl : (L.length : Int) ≤ 500000 := by omega
  have HH := Lib.hid (And.intro htt hMe)
  have HM := Lib.hid (And.intro (show M.length ≤ 900 by omega) (show cntL L ≤ 500000 by omega))
  have HSo := Lib.hid hsets
  have HR := Lib.hid r0
  have HL := Lib.hid hL1
  have hs0 : (w.alloc (.cells nzeros 27)).heap.size = w.heap.size + 1 := by simp
  clear hL r0 hM hL1 hMe htt hcnt hlen hsets
  go_enter Tryd.func36, Tryd.ntmps36
  go_upto_region 1 with fail
  generalize (w.alloc (.cells nzeros 27)) = W0 at *
  go_wp2_with fail
  go_loopg [3, 4] L.length (fun gg u i wr => ∃ j : Nat, i = .int .i64 j ∧ j + gg = L.length ∧ InU W0 (fun k => ok k ∧ k < w.heap.size) u (unf 4 (L.take j)) wr)
  case atStart => exact ⟨0, rfl, by omega, InU.start _ _⟩
  case round =>
    obtain ⟨j, rfl, hj, I⟩ := hrel
    have j0 : (0 : Int) ≤ j := by omega
    by_cases hlt : j < L.length
    · have hlt' : (j : Int) < L.length := by omega
      obtain ⟨t, ht⟩ : ∃ t, L[j]? = some t := ⟨L[j], List.getElem?_eq_getElem hlt⟩
      obtain ⟨bl, off, a1, c1, rfl, -, -, le1, L1, C1⟩ := (I.lie HL.out).get ht
      obtain ⟨x0, x1, x2, x3, x4, x5, x6, x7⟩ := ncell C1
      have L2 := L1.mono (ok' := fun j => (ok j ∧ j < w.heap.size) ∧ j < W0.heap.size) (fun k hk => hk)
      have II := Lib.hid (And.intro I (And.intro ht (And.intro L2 le1)))
      have hM := unf_len 4 L j
      have hts : t.subs.length ≤ 500000 := by
        have h1 := len_cntL t.subs
        have h2 := cntL_le ht
        have h3 := cnt_eq t
        have := HM.out.2
        omega
      have HS := Lib.hid (And.intro hM hts)
      clear I L1 L2 C1 ht hM hts
      by_cases hk : t.kind = 4
      · have hk' : (t.kind == 4) = true := by simpa using hk
        obtain ⟨v', w9, hrun, hI⟩ := II.out.1.append t.subs a1 c1 II.out.2.2.1 (by have := HS.out; have := HM.out.2; omega) 25
        have H9 := Lib.hid (show InU W0 (fun k => ok k ∧ k < w.heap.size) v' (unf 4 (L.take (j + 1))) w9 from by
          rw [unf_take II.out.2.1, if_pos hk]
          exact hI)
        clear hI hk
        go_wp2_with (at_builtin; refine Lib.wpList_append_run _ rfl _ _ _ _ rfl _ _ rfl rfl _ _ hrun ?_)
        clear hrun
        go_wp2_with fail
        go_roundg (L.length - (j + 1))
        case measure => omega
        case rel => exact ⟨j + 1, by go_num, by omega, H9.out⟩
      · have hk' : (t.kind == 4) = false := by simpa using hk
        obtain ⟨v', w9, hrun, hI⟩ := II.out.1.push t a1 c1 II.out.2.2.2 II.out.2.2.1 (by have := HS.out; have := HM.out.2; omega) 25
        have H9 := Lib.hid (show InU W0 (fun k => ok k ∧ k < w.heap.size) v' (unf 4 (L.take (j + 1))) w9 from by
          rw [unf_take II.out.2.1, if_neg hk]
          exact hI)
        clear hI hk
        go_wp2_with (at_builtin; refine Lib.wpList_append_run _ rfl _ _ _ _ rfl _ _ rfl rfl _ _ hrun ?_)
        clear hrun
        go_wp2_with fail
        go_roundg (L.length - (j + 1))
        case measure => omega
        case rel => exact ⟨j + 1, by go_num, by omega, H9.out⟩
    · have hje : j = L.length := by omega
      rw [hje, List.take_length, HH.out.2] at I
      obtain ⟨ra, rc, rfl, -, -⟩ := I.form
      have hsz := I.keep.size
      have hI0 : Fl w wr ok (.slice ra M.length rc) M [] ST.none 0 (.slice none 0 0) (.slice none 0 0) wr :=
        ⟨OE.nil _ _, Own.nil _, Fb.nil wr, HR.out.next I.keep, I.row.sub (fun j hj => hj.1), (fun g hg => ⟨by have := I.own g hg; omega, I.row.lt hg⟩), ⟨by omega, Nat.le_refl _⟩⟩
      have HI0 := Lib.hid hI0
      have hMl : (M.length : Int) ≤ 900 := by have := HM.out.1; omega
      generalize wr = W1 at *
      clear I hI0 hsz hje
      go_wp2_with fail
      go_loopg [5, 6, 7, 8] M.length (fun gg u vb cc i wr => ∃ (j : Nat) (A : List T × Option Nat) (L' : List T) (S : ST) (n : Nat), i = .int .i64 j ∧ j + gg = M.length ∧ cc = .int .i64 (cI A.2) ∧ Fl w W1 ok (.slice ra M.length rc) M L' S n u vb wr ∧ (M.take j).foldl altS ([], none) = A ∧ n ≤ j ∧ Rl L' A.1 A.2 S)
      case atStart => exact ⟨0, ([], none), [], ST.none, 0, rfl, by omega, rfl, HI0.out, rfl, Nat.le_refl 0, rfl, rfl⟩
      case round =>
        obtain ⟨j, A, L', S, n, rfl, hj, hcc, I, hA, hnj, hRl⟩ := hrel
        have HRl := Lib.hid hRl
        obtain ⟨x, hx⟩ : ∃ x, cI A.2 = x := ⟨_, rfl⟩
        rw [hx] at hcc
        subst hcc
        have HX := Lib.hid hx
        clear hx
        have j0 : (0 : Int) ≤ j := by omega
        by_cases hlt : j < M.length
        · have hlt' : (j : Int) < M.length := by omega
          obtain ⟨t, ht⟩ : ∃ t, M[j]? = some t := ⟨M[j], List.getElem?_eq_getElem hlt⟩
          obtain ⟨bl, cap', a1, c1, ev, -, -, le1, L1, C1, -⟩ := I.lv.get ht
          injection ev with ev1 ev2 ev3
          subst ev1 ev3
          clear ev2
          obtain ⟨x0, x1, x2, x3, x4, x5, x6, x7⟩ := ncell (o := j * 8) C1
          have hLen : L'.length ≤ 900 := by
            rw [hRl.len]
            have h1 := fold_len (M.take j) ([], none)
            rw [hA, List.length_take] at h1
            have h2 := HM.out.1
            simp at h1
            omega
          have hstp := fold_take ht ([], none)
          rw [hA] at hstp
          have II := Lib.hid (And.intro I (And.intro ht (And.intro L1 (And.intro le1 (And.intro C1 (And.intro hstp (And.intro hLen hnj)))))))
          have hbl : bl < wr.heap.size := I.lv.lt rfl
          have HBL := Lib.hid hbl
          clear I L1 C1 ht hA hstp hLen hnj hbl hRl
          go_wp2_with fail
          refine (fno_any t a1 c1 wr).mono ?_
          rintro e w2 ⟨rfl, q2⟩
          have J := Lib.hid (And.intro (II.out.1.quiet q2) (And.intro II.out.2.1 (And.intro (II.out.2.2.1.keepF q2) (And.intro II.out.2.2.2.1 (And.intro (ncells_keep II.out.2.2.2.2.1 q2 HBL.out) (And.intro II.out.2.2.2.2.2.1 (And.intro II.out.2.2.2.2.2.2.1 II.out.2.2.2.2.2.2.2)))))))
          clear q2 x0 x1 x2 x3 x4 x5 x6 x7
          cases hno : isNo t with
          | true =>
            have HN := Lib.hid (show altS A t = A by unfold altS; rw [if_pos hno])
            clear hno
            go_wp2_with fail
            go_roundg (M.length - (j + 1))
            case measure => omega
            case rel => exact ⟨j + 1, A, L', S, n, by go_num, by omega, by rw [HX.out], J.out.1, by rw [J.out.2.2.2.2.2.1, HN.out], by have := J.out.2.2.2.2.2.2.2; omega, HRl.out⟩
          | false =>
            have HNo := Lib.hid hno
            clear hno
            obtain ⟨y0, y1, y2, y3, y4, y5, y6, y7⟩ := ncell (o := j * 8) J.out.2.2.2.2.1
            by_cases hk : t.kind = 2
            · have hk' : (t.kind == 2) = true := by simpa using hk
              have HK := Lib.hid hk
              clear hk
              have hso := HSo.out t (List.mem_of_getElem? J.out.2.1)
              have HO := Lib.hid hso
              clear hso
              go_wp2_with fail
              refine (list_any t.set w2).mono ?_
              rintro e w3 ⟨v2, rfl, hil, hfar, q3⟩
              obtain ⟨v', w4, hrun, hF, hq4⟩ := (J.out.1.quiet q3).bytes HO.out (by have := J.out.2.2.2.2.2.2.2; have := HM.out.1; omega) hil 30
              have hbl4 : bl < W1.heap.size := (HI0.out.lo bl rfl).2
              have hlo4 := HI0.out.lo bl rfl
              have C4 : ∀ j' v, (ncells t a1 c1)[j']? = some v → w4.cell? ⟨bl, j * 8 + j', none⟩ = some v := fun j' v hv =>
                (hq4.cell (a := ⟨bl, j * 8 + j', none⟩) (by have := q3.size; have := J.out.1.bs; show bl < _; omega) (fun e => by have := J.out.1.fb.far bl e; omega)).trans ((q3.cell (a := ⟨bl, j * 8 + j', none⟩) (by have := J.out.1.bs; show bl < _; omega) (fun h => h)).trans (J.out.2.2.2.2.1 j' v hv))
              have L4 := (J.out.2.2.1.keepF q3).keep hq4 (fun k hk e => by have := J.out.1.fb.far k e; have := J.out.1.bs; omega)
              obtain ⟨z0, z1, z2, z3, z4, z5, z6, z7⟩ := ncell (o := j * 8) C4
              have K := Lib.hid (And.intro hF L4)
              clear hil hfar q3 hF hq4 C4 L4 hbl4 hlo4 y0 y1 y2 y3 y4 y5 y6 y7
              go_upto_region 17 with (at_builtin; refine Lib.wpList_append_run _ rfl _ _ _ _ rfl _ _ rfl rfl _ _ hrun ?_)
              clear hrun
              obtain ⟨AL, Ac⟩ := A
              cases Ac with
              | none =>
                have hx1 : x = -1 := HX.out.symm
                subst hx1
                have hst : altS (AL, none) t = (AL ++ [clsT t.set], some AL.length) := by
                  unfold altS
                  rw [if_neg (by rw [HNo.out]; decide), if_pos HK.out]
                obtain ⟨g, lcap, hu, -⟩ := K.out.1.row.lie K.out.1.own
                obtain ⟨v9, w9, hrun, hI⟩ := K.out.1.push t a1 c1 J.out.2.2.2.1 K.out.2 (by have := J.out.2.2.2.2.2.2.1; omega) 25
                have hll : L'.length = AL.length := HRl.out.len
                have H9 := Lib.hid (And.intro hI (And.intro hst hll))
                subst hu
                clear hI hst hll
                go_wp2_with (at_builtin; refine Lib.wpList_append_run _ rfl _ _ _ _ rfl _ _ rfl rfl _ _ hrun ?_)
                clear hrun
                go_wp2_with fail
                go_roundg (M.length - (j + 1))
                case measure => omega
                case rel => exact ⟨j + 1, (AL ++ [clsT t.set], some AL.length), L' ++ [t], S.or t.set, n + 1, by go_num, by omega, by rw [H9.out.2.2]; rfl, H9.out.1, by rw [J.out.2.2.2.2.2.1, H9.out.2.1], by have := J.out.2.2.2.2.2.2.2; omega, HRl.out.first HK.out HO.out⟩
              | some i =>
                have hx1 : x = i := HX.out.symm
                have hn0 : ¬ x < 0 := by omega
                have hn1 : 0 ≤ x := by omega
                clear hx1
                have hst : altS (AL, some i) t = (AL.set i (clsT (S.or t.set)), some i) := by
                  unfold altS
                  rw [if_neg (by rw [HNo.out]; decide), if_pos HK.out]
                  dsimp only
                  obtain ⟨r, -, -, hi, -⟩ := HRl.out
                  rw [getD_cls hi]
                have HS := Lib.hid hst
                clear hst
                go_wp2_with fail
                go_roundg (M.length - (j + 1))
                case measure => omega
                case rel => exact ⟨j + 1, (AL.set i (clsT (S.or t.set)), some i), L', S.or t.set, n + 1, by go_num, by omega, by rw [← HX.out], K.out.1, by rw [J.out.2.2.2.2.2.1, HS.out], by have := J.out.2.2.2.2.2.2.2; omega, HRl.out.more HO.out⟩
            · have hk' : (t.kind == 2) = false := by simpa using hk
              have HK := Lib.hid hk
              clear hk
              obtain ⟨ua, uc, hu, -⟩ := J.out.1.row.lie J.out.1.own
              subst hu
              have hLi : (L'.length : Int) ≤ 900 := by have := J.out.2.2.2.2.2.2.1; omega
              clear y0 y1 y2 y3 y4 y5 y6 y7
              obtain ⟨y0, -⟩ := ncell (o := j * 8) J.out.2.2.2.2.1
              go_wp2_with fail
              clear y0
              go_loopg [9, 10] L'.length (fun gg sv i W => ∃ k : Nat, i = .int .i64 k ∧ k + gg = L'.length ∧ sv = .bool ((L'.take k).any (sameB t)) ∧ Keep (fun _ => False) w2 W)
              case atStart => exact ⟨0, rfl, by omega, rfl, Keep.refl _ _⟩
              case round =>
                obtain ⟨k, rfl, hk, hsv, hq⟩ := hrel
                have k0 : (0 : Int) ≤ k := by omega
                by_cases hkl : k < L'.length
                · have hkl' : (k : Int) < L'.length := by omega
                  obtain ⟨s, hs⟩ : ∃ s, L'[k]? = some s := ⟨L'[k], List.getElem?_eq_getElem hkl⟩
                  obtain ⟨g, gcap, a3, c3, ev, -, hgl, le3, L3, C3, -⟩ := (J.out.1.quiet hq).row.get hs
                  injection ev with ev1 ev2 ev3
                  subst ev1 ev3
                  clear ev2
                  obtain ⟨z0, z1, z2, z3, z4, z5, z6, z7⟩ := ncell (o := k * 8) C3
                  have C5 : ∀ j' v, (ncells t a1 c1)[j']? = some v → wr.cell? ⟨bl, j * 8 + j', none⟩ = some v := fun j' v hv => (hq.cell (a := ⟨bl, j * 8 + j', none⟩) (by have := J.out.1.lv.lt (g := bl) rfl; exact this) (fun h => h)).trans (J.out.2.2.2.2.1 j' v hv)
                  obtain ⟨y0, y1, y2, y3, y4, y5, y6, y7⟩ := ncell (o := j * 8) C5
                  have hnx : (L'.take (k + 1)).any (sameB t) = ((L'.take k).any (sameB t) || sameB t s) := by
                    rw [List.take_add_one, hs, List.any_append]
                    simp
                  obtain ⟨x, hx⟩ : ∃ x, (L'.take k).any (sameB t) = x := ⟨_, rfl⟩
                  rw [hx] at hsv hnx
                  subst hsv
                  obtain ⟨y, hy⟩ : ∃ y, sameB t s = y := ⟨_, rfl⟩
                  rw [hy] at hnx
                  have hcl : ∀ W' (_ : Keep (fun _ => False) wr W'), Calls Tryd.prog 53 #[nodeV s a3 c3, nodeV t a1 c1] W' fun e w' => e = .returned (.bool y) ∧ Keep (fun _ => False) W' w' := fun W' q' => by
                    refine (same_any s t a3 c3 a1 c1 W' ((L3.keepF q').mono fun _ _ => trivial) (((J.out.2.2.1.keepF hq).keepF q').mono fun _ _ => trivial)).mono ?_
                    rintro e w' ⟨v, rfl, hv, q⟩
                    refine ⟨?_, q⟩
                    rw [← hy]
                    congr 2
                    rw [Bool.eq_iff_iff, hv, sameB_iff]
                    exact eq_comm
                  have hS : ∀ w', Keep (fun _ => False) wr w' → Keep (fun _ => False) wr w' ∧ w'.cell? ⟨bl, j * 8, none⟩ = some (.int .i64 t.kind) ∧ w'.cell? ⟨bl, j * 8 + 1, none⟩ = some (.int .u64 t.set.x0) ∧ w'.cell? ⟨bl, j * 8 + 2, none⟩ = some (.int .u64 t.set.x1) ∧ w'.cell? ⟨bl, j * 8 + 3, none⟩ = some (.int .u64 t.set.x2) ∧ w'.cell? ⟨bl, j * 8 + 4, none⟩ = some (.int .u64 t.set.x3) ∧ w'.cell? ⟨bl, j * 8 + 5, none⟩ = some (.int .i64 t.mn) ∧ w'.cell? ⟨bl, j * 8 + 6, none⟩ = some (.int .i64 t.mx) ∧ w'.cell? ⟨bl, j * 8 + 7, none⟩ = some (.slice a1 t.subs.length c1) ∧ w'.cell? ⟨g, k * 8, none⟩ = some (.int .i64 s.kind) ∧ w'.cell? ⟨g, k * 8 + 1, none⟩ = some (.int .u64 s.set.x0) ∧ w'.cell? ⟨g, k * 8 + 2, none⟩ = some (.int .u64 s.set.x1) ∧ w'.cell? ⟨g, k * 8 + 3, none⟩ = some (.int .u64 s.set.x2) ∧ w'.cell? ⟨g, k * 8 + 4, none⟩ = some (.int .u64 s.set.x3) ∧ w'.cell? ⟨g, k * 8 + 5, none⟩ = some (.int .i64 s.mn) ∧ w'.cell? ⟨g, k * 8 + 6, none⟩ = some (.int .i64 s.mx) ∧ w'.cell? ⟨g, k * 8 + 7, none⟩ = some (.slice a3 s.subs.length c3) := fun w' q' => by
                    have e1 := fun j' v h => (q'.cell (a := ⟨bl, j * 8 + j', none⟩) (World.block_lt_of_cell? wr _ (C5 j' v h)) (fun h => h)).trans (C5 j' v h)
                    have e2 := fun j' v h => (q'.cell (a := ⟨g, k * 8 + j', none⟩) (World.block_lt_of_cell? wr _ (C3 j' v h)) (fun h => h)).trans (C3 j' v h)
                    exact ⟨q', e1 0 _ rfl, e1 1 _ rfl, e1 2 _ rfl, e1 3 _ rfl, e1 4 _ rfl, e1 5 _ rfl, e1 6 _ rfl, e1 7 _ rfl, e2 0 _ rfl, e2 1 _ rfl, e2 2 _ rfl, e2 3 _ rfl, e2 4 _ rfl, e2 5 _ rfl, e2 6 _ rfl, e2 7 _ rfl⟩
                  have HS := Lib.hid hS
                  have HQ := Lib.hid (And.intro hq (And.intro hnx hcl))
                  clear hq hnx hx hy hcl hS L3 C3 C5 hs le3 hgl
                  cases x with
                  | true =>
                    go_wp2_with fail
                    go_quiet (fail)
                    have Q5 := Lib.hid (HQ.out.1.trans ((Keep.refl (fun _ => False) wr).drewN nq))
                    generalize wr.drewN nq = W5 at *
                    go_wp2_with fail
                    go_roundg (L'.length - (k + 1))
                    case measure => omega
                    case rel => exact ⟨k + 1, by go_num, by omega, by rw [HQ.out.2.1]; rfl, Q5.out⟩
                  | false =>
                    go_wp2_with fail
                    go_region_held3 (fun w' => Keep (fun _ => False) wr w' ∧ w'.cell? ⟨bl, j * 8, none⟩ = some (.int .i64 t.kind) ∧ w'.cell? ⟨bl, j * 8 + 1, none⟩ = some (.int .u64 t.set.x0) ∧ w'.cell? ⟨bl, j * 8 + 2, none⟩ = some (.int .u64 t.set.x1) ∧ w'.cell? ⟨bl, j * 8 + 3, none⟩ = some (.int .u64 t.set.x2) ∧ w'.cell? ⟨bl, j * 8 + 4, none⟩ = some (.int .u64 t.set.x3) ∧ w'.cell? ⟨bl, j * 8 + 5, none⟩ = some (.int .i64 t.mn) ∧ w'.cell? ⟨bl, j * 8 + 6, none⟩ = some (.int .i64 t.mx) ∧ w'.cell? ⟨bl, j * 8 + 7, none⟩ = some (.slice a1 t.subs.length c1) ∧ w'.cell? ⟨g, k * 8, none⟩ = some (.int .i64 s.kind) ∧ w'.cell? ⟨g, k * 8 + 1, none⟩ = some (.int .u64 s.set.x0) ∧ w'.cell? ⟨g, k * 8 + 2, none⟩ = some (.int .u64 s.set.x1) ∧ w'.cell? ⟨g, k * 8 + 3, none⟩ = some (.int .u64 s.set.x2) ∧ w'.cell? ⟨g, k * 8 + 4, none⟩ = some (.int .u64 s.set.x3) ∧ w'.cell? ⟨g, k * 8 + 5, none⟩ = some (.int .i64 s.mn) ∧ w'.cell? ⟨g, k * 8 + 6, none⟩ = some (.int .i64 s.mx) ∧ w'.cell? ⟨g, k * 8 + 7, none⟩ = some (.slice a3 s.subs.length c3)) (first | exact HS.out _ ((Keep.refl _ _).drew) | exact HS.out _ (Keep.trans (And.left (by assumption)) q)) (first
                      | (go_at_call 53; refine (HQ.out.2.2 _ (And.left (by assumption))).mono ?_; rintro e w5 ⟨rfl, q⟩))
                    all_goals
                      rename_i hh
                      have Q5 := Lib.hid (HQ.out.1.trans hh.1)
                      clear hh
                      go_wp2_with fail
                      go_roundg (L'.length - (k + 1))
                      case measure => omega
                      case rel => exact ⟨k + 1, by go_num, by omega, by rw [HQ.out.2.1]; rfl, Q5.out⟩
                · have hke : k = L'.length := by omega
                  subst hke
                  rw [List.take_length, HRl.out.any HK.out] at hsv
                  have J2 := Lib.hid (J.out.1.quiet hq)
                  have L2 := J.out.2.2.1.keepF hq
                  have C5 : ∀ j' v, (ncells t a1 c1)[j']? = some v → wr.cell? ⟨bl, j * 8 + j', none⟩ = some v := fun j' v hv => (hq.cell (a := ⟨bl, j * 8 + j', none⟩) (by have := J.out.1.lv.lt (g := bl) rfl; exact this) (fun h => h)).trans (J.out.2.2.2.2.1 j' v hv)
                  obtain ⟨y0, y1, y2, y3, y4, y5, y6, y7⟩ := ncell (o := j * 8) C5
                  cases hr : A.1.any (sameB t) with
                  | true =>
                    rw [hr] at hsv
                    subst hsv
                    have HRr := Lib.hid (show altS A t = A by unfold altS; rw [if_neg (by rw [HNo.out]; decide), if_neg HK.out, if_pos hr])
                    clear hr hq L2 C5
                    go_wp2_with fail
                    go_roundg (M.length - (j + 1))
                    case measure => omega
                    case rel => exact ⟨j + 1, A, L', S, n, by go_num, by omega, by rw [HX.out], J2.out, by rw [J.out.2.2.2.2.2.1, HRr.out], by have := J.out.2.2.2.2.2.2.2; omega, HRl.out⟩
                  | false =>
                    rw [hr] at hsv
                    subst hsv
                    have HRr := Lib.hid (show altS A t = (A.1 ++ [t], A.2) by unfold altS; rw [if_neg (by rw [HNo.out]; decide), if_neg HK.out, if_neg (by rw [hr]; decide)])
                    obtain ⟨v9, w9, hrun, hI⟩ := J2.out.push t a1 c1 J.out.2.2.2.1 L2 (by have := J.out.2.2.2.2.2.2.1; omega) 25
                    have H9 := Lib.hid hI
                    clear hr hq L2 C5 hI
                    go_wp2_with (at_builtin; refine Lib.wpList_append_run _ rfl _ _ _ _ rfl _ _ rfl rfl _ _ hrun ?_)
                    clear hrun
                    go_wp2_with fail
                    go_roundg (M.length - (j + 1))
                    case measure => omega
                    case rel => exact ⟨j + 1, (A.1 ++ [t], A.2), L' ++ [t], S, n, by go_num, by omega, by rw [← HX.out], H9.out, by rw [J.out.2.2.2.2.2.1, HRr.out], by have := J.out.2.2.2.2.2.2.2; omega, HRl.out.push t⟩
        · have hje : j = M.length := by omega
          rw [hje, List.take_length] at hA
          have hT : tt = joinT 4 A.1 noT := by
            rw [← HH.out.1]
            show joinT 4 (M.foldl altS ([], none)).1 noT = _
            rw [hA]
          have hnn : n ≤ 1000 := by have := HM.out.1; omega
          obtain ⟨AL, Ac⟩ := A
          have HT := Lib.hid (show tt = joinT 4 AL noT from hT)
          cases Ac with
          | none =>
            have hx1 : x = -1 := HX.out.symm
            subst hx1
            have he : L' = AL := HRl.out.1
            subst he
            obtain ⟨fa, fc, hu, hfc, hlf⟩ := I.row.lie I.own
            have R3 := Lib.hid I.rb
            have hn2 := I.bs
            have hn3 : 0 = 0 := rfl
            have HC := Lib.hid (fof_any 4 L' fa fc noT none 0 (fun k => (ok k ∨ w.heap.size ≤ k) ∧ k ≠ w.heap.size) wr (hlf.mono fun k hk => by
              rcases hk with hk | hk
              · exact ⟨.inl hk.1, by omega⟩
              · exact ⟨.inr (by omega), by omega⟩) hfc (.nil none) (Nat.le_refl 0))
            subst hu
            clear hlf I hje hT hA hRl hnj
            go_wp2_with fail
            refine HC.out.mono ?_
            rintro e w4 ⟨⟨v, rfl, ja, jc, rfl, hle, hlie⟩, q4⟩
            have R4 := Lib.hid (R3.out.next q4)
            have HE := Lib.hid (And.intro hle (lie_of (w := w) (ok := ok) (n := w.heap.size) hlie (by omega) (by omega) (fun k h => h)))
            clear q4 hlie hle hn2 hn3
            generalize joinT 4 L' noT = tj at *
            obtain ⟨⟨d0, d1, d2, d3, d4, d5, d6, d7⟩, f0, f1, f2, f3, f4, f5, f6, f7⟩ := cells8 R4.out.out
            have hlt := R4.out.out.lt
            go_wp2_with fail
            change bodyPost _ _ _ _ _ (putNd (w4) (w.heap.size) 0 (tj) (ja) (jc))
            have hP := R4.out.put (tj) (ja) (jc)
            have hG := (by rw [HT.out]; exact R4.out.gives (ok := ok) HE.out.1 HE.out.2 : Gives w ok tt (.returned (nodeV tj ja jc)) (putNd w4 w.heap.size 0 tj ja jc))
            generalize (putNd (w4) (w.heap.size) 0 (tj) (ja) (jc)) = W9 at hP hG ⊢
            obtain ⟨⟨e0, e1, e2, e3, e4, e5, e6, e7⟩, -⟩ := cells8 hP.1
            exact bodyPost_ret (v := nodeV (tj) (ja) (jc)) (by simp [results, Tryd.results36, go_sem, e0, e1, e2, e3, e4, e5, e6, e7]) rfl hG

          | some i =>
            have hx1 : x = i := HX.out.symm
            subst hx1
            have i0 : (0 : Int) ≤ i := by omega
            obtain ⟨r, hr2, hsk, hi, he⟩ := HRl.out
            have hil : i < AL.length := (List.getElem?_eq_some_iff.1 hi).1
            have hil2 : i < L'.length := by rw [he, List.length_set]; exact hil
            have hil' : (i : Int) < L'.length := by omega
            have HII := Lib.hid (And.intro I (And.intro hsk (And.intro hil2 (show L'.set i (clsT S) = AL by
              rw [he, List.set_set]
              apply List.ext_getElem?
              intro q
              by_cases hq : q = i
              · subst hq
                rw [List.getElem?_set_self hil, hi]
              · rw [List.getElem?_set_ne (fun e => hq e.symm)]))))
            obtain ⟨s0, hs0'⟩ : ∃ s0, L'[i]? = some s0 := ⟨L'[i], List.getElem?_eq_getElem hil2⟩
            obtain ⟨g, gcap, a3, c3, hu, -, hgl, -, -, C3, hfz⟩ := I.row.get hs0'
            subst hu
            have HS0 := Lib.hid hs0'
            have hLi : (L'.length : Int) ≤ 1000000 := by
              have h1 := fold_len M ([], none)
              rw [hA] at h1
              have h2 := HM.out.1
              have h3 := hRl.len
              simp at h1
              simp only at h3
              omega
            have HFb := Lib.hid (I.fb.set hnn)
            clear I hje hT hA hRl hnj hr2 hsk hi he hil hil2 hs0' hgl C3 hfz
            go_wp2_with fail
            refine HFb.out.mono ?_
            rintro e w3 ⟨rfl, q3⟩
            have I3 := Lib.hid (HII.out.1.quiet q3)
            obtain ⟨g', gcap', a3', c3', ev, -, hgl, -, -, C3, hfz⟩ := I3.out.row.get HS0.out
            injection ev with ev1 ev2 ev3
            injection ev1 with ev1
            injection ev1 with ev1
            subst ev1
            obtain ⟨z0, z1, z2, z3, z4, z5, z6, z7⟩ := ncell (o := i * 8) C3
            have f0 := hfz (i * 8)
            have f1 := hfz (i * 8 + 1)
            have f2 := hfz (i * 8 + 2)
            have f3 := hfz (i * 8 + 3)
            have f4 := hfz (i * 8 + 4)
            have f5 := hfz (i * 8 + 5)
            have f6 := hfz (i * 8 + 6)
            have f7 := hfz (i * 8 + 7)
            have hg1 : W1.heap.size ≤ g := I3.out.own g rfl
            have hO := OE.setN I3.out.row (fun e => by have := I3.out.bs; omega) HII.out.2.2.1 (clsT S) none 0 (Nat.le_refl 0) (.nil none)
            rw [HII.out.2.2.2] at hO
            have hR9 := (I3.out.turn (putNd_keep w3 g (i * 8) (clsT S) none 0) (fun b hb => by omega)).1
            have hB9 := I3.out.bs
            have hz9 := putNd_size w3 g (i * 8) (clsT S) none 0
            have K := Lib.hid (And.intro hO (And.intro hR9 hz9))
            clear C3 hfz ev2 ev3 q3 hO hR9 hz9
            go_upto_region 29 with fail
            change Code.wp _ _ _ _ (putNd w3 g (i * 8) (clsT S) none 0)
            generalize (putNd w3 g (i * 8) (clsT S) none 0) = W9 at K ⊢
            have hown9 : Own W1.heap.size (.slice (some ⟨g, 0, none⟩) L'.length gcap) := fun g' (hg' : some g = some g') => by injection hg' with hg'; omega
            obtain ⟨fa, fc, hu, hfc, hlf⟩ := K.out.1.lie hown9
            have R3 := Lib.hid K.out.2.1
            have hn2 : w.heap.size < W9.heap.size := K.out.2.1.out.lt
            have hn3 : w.heap.size ≤ W9.heap.size := by omega
            have HC := Lib.hid (fof_any 4 AL fa fc noT none 0 (fun k => (ok k ∨ w.heap.size ≤ k) ∧ k ≠ w.heap.size) W9 (hlf.mono fun k hk => by
              rcases hk with hk | hk
              · exact ⟨.inl hk.1, by omega⟩
              · exact ⟨.inr (by omega), by omega⟩) hfc (.nil none) (Nat.le_refl 0))
            rw [hu]
            clear hlf hown9 z0 z1 z2 z3 z4 z5 z6 z7 f0 f1 f2 f3 f4 f5 f6 f7 hgl
            go_wp2_with fail
            refine HC.out.mono ?_
            rintro e w4 ⟨⟨v, rfl, ja, jc, rfl, hle, hlie⟩, q4⟩
            have R4 := Lib.hid (R3.out.next q4)
            have HE := Lib.hid (And.intro hle (lie_of (w := w) (ok := ok) (n := w.heap.size) hlie (by omega) (by omega) (fun k h => h)))
            clear q4 hlie hle hn2 hn3
            generalize joinT 4 AL noT = tj at *
            obtain ⟨⟨d0, d1, d2, d3, d4, d5, d6, d7⟩, f0, f1, f2, f3, f4, f5, f6, f7⟩ := cells8 R4.out.out
            have hlt := R4.out.out.lt
            go_wp2_with fail
            change bodyPost _ _ _ _ _ (putNd (w4) (w.heap.size) 0 (tj) (ja) (jc))
            have hP := R4.out.put (tj) (ja) (jc)
            have hG := (by rw [HT.out]; exact R4.out.gives (ok := ok) HE.out.1 HE.out.2 : Gives w ok tt (.returned (nodeV tj ja jc)) (putNd w4 w.heap.size 0 tj ja jc))
            generalize (putNd (w4) (w.heap.size) 0 (tj) (ja) (jc)) = W9 at hP hG ⊢
            obtain ⟨⟨e0, e1, e2, e3, e4, e5, e6, e7⟩, -⟩ := cells8 hP.1
            exact bodyPost_ret (v := nodeV (tj) (ja) (jc)) (by simp [results, Tryd.results36, go_sem, e0, e1, e2, e3, e4, e5, e6, e7]) rfl hG

end Go.Proofs.YtfpijkcaceoboaaDoor.P10
/- The document's Simple (layer 10), of right expressions. -/
namespace Go.Proofs.YtfpijkcaceoboaaDoor.P10
open Go.RowKit Go.Proofs.YtfpijkcaceoboaaDoor.Base Go.Proofs.YtfpijkcaceoboaaDoor.Bytes Go.Proofs.YtfpijkcaceoboaaDoor.P07 Go.Proofs.YtfpijkcaceoboaaDoor.P08
open Go.Proofs.YtfpijkcaceoboaaDoor.Sets (ST)

def FSimpOk (t : T) : Prop := ∀ (d : Nat), RT d t → cnt t ≤ 800 → ∀ (a : Option Addr) (c : Nat) (ok : Nat → Prop) (w : World), Lie w ok a t.subs → t.subs.length ≤ c →
  Calls Tryd.prog 21 #[nodeV t a c] w (Gives w ok (simT t))

theorem end8 {w wr : World} {n : Nat} {ok : Nat → Prop} {tt t : T} {a : Option Addr} {c : Nat} (h : Rb w n wr) (hT : tt = t) (hc : t.subs.length ≤ c) (hl : Lie wr (fun k => (ok k ∨ w.heap.size ≤ k) ∧ k ≠ n) a t.subs) :
    At (put8 wr n (.int .i64 t.kind) (.int .u64 t.set.x0) (.int .u64 t.set.x1) (.int .u64 t.set.x2) (.int .u64 t.set.x3) (.int .i64 t.mn) (.int .i64 t.mx) (.slice a t.subs.length c)) n 27 (ncells t a c)
    ∧ Gives w ok tt (.returned (nodeV t a c)) (put8 wr n (.int .i64 t.kind) (.int .u64 t.set.x0) (.int .u64 t.set.x1) (.int .u64 t.set.x2) (.int .u64 t.set.x3) (.int .i64 t.mn) (.int .i64 t.mx) (.slice a t.subs.length c)) := by
  subst hT
  have h1 := (h.put tt a c).1
  have h2 := h.gives (ok := ok) (t := tt) hc hl
  have e : putNd wr n 0 tt a c = put8 wr n (.int .i64 tt.kind) (.int .u64 tt.set.x0) (.int .u64 tt.set.x1) (.int .u64 tt.set.x2) (.int .u64 tt.set.x3) (.int .i64 tt.mn) (.int .i64 tt.mx) (.slice a tt.subs.length c) := rfl
  rw [e] at h1 h2
  exact ⟨h1, h2⟩

set_option maxRecDepth 100000 in
set_option maxHeartbeats 16000000 in
theorem fsimple_step (n : Nat) (ih : ∀ t : T, SizeOf.sizeOf t < n → FSimpOk t) (t : T) (hsz : SizeOf.sizeOf t < n + 1) : FSimpOk t := by
  intro d hR hB a c ok w hL hc
  obtain ⟨tt, htt⟩ : ∃ tt, simT t = tt := ⟨_, rfl⟩
  rw [htt]
  have b0 := (At.new w (ncells t a c) 27).alloc (.cells nzeros 27)
  have r0 : Rb w (w.heap.size + 1) ((w.alloc (.cells (ncells t a c) 27)).alloc (.cells nzeros 27)) := by
    refine ⟨?_, ((Keep.refl (fun _ => False) w).alloc _).alloc _, by omega⟩
    have := At.new (w.alloc (.cells (ncells t a c) 27)) nzeros 27
    rw [show (w.alloc (.cells (ncells t a c) 27)).heap.size = w.heap.size + 1 from by simp] at this
    exact this
  have hlen : t.subs.length ≤ 800 := by
    have h1 := P10.len_cntL t.subs
    rw [cnt_eq] at hB
    omega
  have hli : (t.subs.length : Int) ≤ 800 := by omega
  have HTT := Lib.hid htt
  have H0 := Lib.hid (And.intro r0 (And.intro b0 (And.intro (hL.under.keepF r0.keep) (And.intro hR (And.intro hc (And.intro ih (And.intro hsz hB)))))))
  clear r0 b0 hL htt hR hc hsz hB hlen
  go_enter Tryd.func21, Tryd.ntmps21
  go_upto_region 1 with fail
  have hs0 : ((w.alloc (.cells (ncells t a c) 27)).alloc (.cells nzeros 27)).heap.size = w.heap.size + 2 := by simp
  generalize ((w.alloc (.cells (ncells t a c) 27)).alloc (.cells nzeros 27)) = W0 at *
  have HS0 := Lib.hid hs0
  clear hs0
  go_wp2_with fail
  go_loopg [3, 4] t.subs.length (fun gg u i wr => ∃ k : Nat, i = .int .i64 k ∧ k + gg = t.subs.length ∧ OT wr (fun b => (ok b ∧ b < w.heap.size) ∨ w.heap.size + 2 ≤ b) u ((t.subs.take k).map simT) ∧ Own (w.heap.size + 2) u ∧ Keep (fun _ => False) W0 wr)
  case atStart => exact ⟨0, rfl, by omega, OT.nil _ _, Own.nil _, Keep.refl _ _⟩
  case round =>
    obtain ⟨k, rfl, hk, hrow, hown, hq⟩ := hrel
    have k0 : (0 : Int) ≤ k := by omega
    obtain ⟨⟨y0, y1, y2, y3, y4, y5, y6, y7⟩, -⟩ := cells8 (H0.out.2.1.keep hq (fun h => h))
    by_cases hlt : k < t.subs.length
    · have hlt' : (k : Int) < t.subs.length := by omega
      obtain ⟨s, hs⟩ : ∃ s, t.subs[k]? = some s := ⟨t.subs[k], List.getElem?_eq_getElem hlt⟩
      obtain ⟨bl, off, a1, c1, ea, -, -, le1, L1, C1⟩ := (H0.out.2.2.1.keepF hq).get hs
      obtain ⟨z0, z1, z2, z3, z4, z5, z6, z7⟩ := ncell C1
      have hIH := H0.out.2.2.2.2.2.1 s (by have := sub_less hs; have := H0.out.2.2.2.2.2.2.1; omega) d (sub_right H0.out.2.2.2.1.subs s (List.mem_of_getElem? hs)) (by have := cntL_le hs; have h2 := H0.out.2.2.2.2.2.2.2; rw [cnt_eq t] at h2; omega) a1 c1 (fun b => ok b ∧ b < w.heap.size) wr L1 le1
      have hol : ∀ g, u3.ownBlock = some g → g < wr.heap.size := fun g hg => by
        obtain ⟨X, ⟨h1, -⟩, -⟩ := hrow
        rcases h1.2 with ⟨rfl, -⟩ | ⟨g', cap, cur, rfl, hb, hc, r⟩
        · cases hg
        · have h2 : At wr g' 27 cur := hc
          injection hg with hg
          rw [← hg]
          exact h2.lt
      have J := Lib.hid (And.intro hrow (And.intro hown (And.intro hq (And.intro hs (And.intro hol hIH)))))
      have ea' : a = some ⟨bl, off, none⟩ := ea
      clear hrow hown hq hs L1 C1 le1 hIH ea hol
      subst ea'
      go_wp2_with fail
      refine J.out.2.2.2.2.2.mono ?_
      rintro e w2 ⟨⟨v, rfl, ra, rc, rfl, hle, hlie⟩, q2⟩
      have hsz2 := q2.size
      have hsz3 := (J.out.2.2.1).size
      have hsz0 := HS0.out
      obtain ⟨v', w9, hrun, g1, g2, g3⟩ := (J.out.1.keep q2 (fun _ _ h => h)).push (simT s) ra rc hle (hlie.mono fun b hb => ⟨by
          rcases hb with hb | hb
          · exact .inl hb
          · exact .inr (by omega), fun e => by
          have h1 := J.out.2.1 b e
          have h2 := J.out.2.2.2.2.1 b e
          rcases hb with hb | hb
          · omega
          · omega⟩) (by rw [List.length_map, List.length_take]; omega) (fun g hg => .inr (by omega)) 25
      have H9 := Lib.hid (show OT w9 (fun b => (ok b ∧ b < w.heap.size) ∨ w.heap.size + 2 ≤ b) v' ((t.subs.take (k + 1)).map simT) ∧ Own (w.heap.size + 2) v' ∧ Keep (fun _ => False) W0 w9 from by
        refine ⟨?_, J.out.2.1.next (n1 := w2.heap.size) (by omega) g3, (J.out.2.2.1.trans q2).next g2 (fun i hi hl => by have := J.out.2.1 i hi; omega)⟩
        have e4 : (t.subs.take (k + 1)).map simT = (t.subs.take k).map simT ++ [simT s] := by
          rw [List.take_add_one, J.out.2.2.2.1, List.map_append]
          rfl
        rw [e4]
        exact g1)
      clear g1 g2 g3 hle hlie q2 hsz2 hsz3 hsz0 y0 y1 y2 y3 y4 y5 y6 y7 z0 z1 z2 z3 z4 z5 z6 z7
      obtain ⟨X, hX⟩ : ∃ X, simT s = X := ⟨_, rfl⟩
      rw [hX] at hrun ⊢
      clear hX
      go_wp2_with (at_builtin; refine Lib.wpList_append_run _ rfl _ _ _ _ rfl _ _ rfl rfl _ _ hrun ?_)
      clear hrun
      go_wp2_with fail
      go_roundg (t.subs.length - (k + 1))
      case measure => omega
      case rel => exact ⟨k + 1, by go_num, by omega, H9.out⟩
    · have hke : k = t.subs.length := by omega
      subst hke
      rw [List.take_length] at hrow
      have hall : ∀ m ∈ t.subs.map simT, RT d m := fun m hm => by
        obtain ⟨u, hu, rfl⟩ := List.mem_map.1 hm
        exact (sim_ok u d (sub_right H0.out.2.2.2.1.subs u hu)).1.rt
      have hcl : cntL (t.subs.map simT) ≤ 900 := by
        have h1 := cntL_map (f := simT) t.subs fun u hu => (sim_ok u d (sub_right H0.out.2.2.2.1.subs u hu)).1.cnt
        have h3 := H0.out.2.2.2.2.2.2.2
        rw [cnt_eq t] at h3
        omega
      obtain ⟨fa, fc, hu, hfc, hlf⟩ := hrow.form
      have hlieR := hlf.mono (ok' := fun b => (ok b ∨ w.heap.size ≤ b) ∧ b ≠ w.heap.size + 1) (fun b hb => by
        rcases hb with hb | hb
        · exact ⟨.inl hb.1, by omega⟩
        · exact ⟨.inr (by omega), by omega⟩)
      have hsets := sets_ok (k := 4) (L := t.subs.map simT) (d := d) hall
      have J := Lib.hid (And.intro (H0.out.1.next hq) (And.intro hlieR (And.intro hcl (And.intro hall (And.intro hsets (And.intro (H0.out.2.2.1.keepF hq) (H0.out.2.1.keep hq (fun h => h))))))))
      rw [List.length_map] at hu
      subst hu
      clear hrow hq hall hcl hlieR hsets hown hlf hfc
      have hfs : True := trivial
      go_upto_region 6 with fail
      by_cases h3 : t.kind = 3
      · have hb3 : (t.kind == 3) = true := by simpa using h3
        have HT := Lib.hid (show tt = catT (t.subs.map simT) by rw [← HTT.out, simT_eq, if_pos h3])
        have HC := Lib.hid (fcat_any (t.subs.map simT) fa fc (fun b => (ok b ∨ w.heap.size ≤ b) ∧ b ≠ w.heap.size + 1) wr J.out.2.1 (by have := J.out.2.2.1; omega))
        rw [List.length_map] at HC
        clear hfs
        go_wp2_with fail
        refine HC.out.mono ?_
        rintro e w4 ⟨⟨v, rfl, ja, jc, rfl, hle, hlie⟩, q4⟩
        have R4 := Lib.hid (J.out.1.next q4)
        have hn2 := J.out.1.out.lt
        have hn3 := J.out.1.keep.size
        have HE := Lib.hid (And.intro hle (lie_of (w := w) (ok := ok) (n := w.heap.size + 1) hlie (by omega) (by omega) (fun k h => h)))
        clear q4 hlie hle hn2 hn3
        generalize catT (t.subs.map simT) = tj at *
        obtain ⟨⟨d0, d1, d2, d3, d4, d5, d6, d7⟩, f0, f1, f2, f3, f4, f5, f6, f7⟩ := cells8 R4.out.out
        have hlt := R4.out.out.lt
        go_wp2_with fail
        change bodyPost _ _ _ _ _ (putNd (w4) (w.heap.size + 1) 0 (tj) (ja) (jc))
        have hP := R4.out.put (tj) (ja) (jc)
        have hG := (by rw [HT.out]; exact R4.out.gives (ok := ok) HE.out.1 HE.out.2 : Gives w ok tt (.returned (nodeV tj ja jc)) (putNd w4 (w.heap.size + 1) 0 tj ja jc))
        generalize (putNd (w4) (w.heap.size + 1) 0 (tj) (ja) (jc)) = W9 at hP hG ⊢
        obtain ⟨⟨e0, e1, e2, e3, e4, e5, e6, e7⟩, -⟩ := cells8 hP.1
        exact bodyPost_ret (v := nodeV (tj) (ja) (jc)) (by simp [results, Tryd.results21, go_sem, e0, e1, e2, e3, e4, e5, e6, e7]) rfl hG
      have hb3 : (t.kind == 3) = false := by simpa using h3
      by_cases h4 : t.kind = 4
      · have hb4 : (t.kind == 4) = true := by simpa using h4
        have HT := Lib.hid (show tt = altT (t.subs.map simT) by rw [← HTT.out, simT_eq, if_neg h3, if_pos h4])
        have HC := Lib.hid (falt_any (t.subs.map simT) fa fc (fun b => (ok b ∨ w.heap.size ≤ b) ∧ b ≠ w.heap.size + 1) wr J.out.2.1 J.out.2.2.1 J.out.2.2.2.2.1)
        rw [List.length_map] at HC
        clear hfs
        go_wp2_with fail
        refine HC.out.mono ?_
        rintro e w4 ⟨⟨v, rfl, ja, jc, rfl, hle, hlie⟩, q4⟩
        have R4 := Lib.hid (J.out.1.next q4)
        have hn2 := J.out.1.out.lt
        have hn3 := J.out.1.keep.size
        have HE := Lib.hid (And.intro hle (lie_of (w := w) (ok := ok) (n := w.heap.size + 1) hlie (by omega) (by omega) (fun k h => h)))
        clear q4 hlie hle hn2 hn3
        generalize altT (t.subs.map simT) = tj at *
        obtain ⟨⟨d0, d1, d2, d3, d4, d5, d6, d7⟩, f0, f1, f2, f3, f4, f5, f6, f7⟩ := cells8 R4.out.out
        have hlt := R4.out.out.lt
        go_wp2_with fail
        change bodyPost _ _ _ _ _ (putNd (w4) (w.heap.size + 1) 0 (tj) (ja) (jc))
        have hP := R4.out.put (tj) (ja) (jc)
        have hG := (by rw [HT.out]; exact R4.out.gives (ok := ok) HE.out.1 HE.out.2 : Gives w ok tt (.returned (nodeV tj ja jc)) (putNd w4 (w.heap.size + 1) 0 tj ja jc))
        generalize (putNd (w4) (w.heap.size + 1) 0 (tj) (ja) (jc)) = W9 at hP hG ⊢
        obtain ⟨⟨e0, e1, e2, e3, e4, e5, e6, e7⟩, -⟩ := cells8 hP.1
        exact bodyPost_ret (v := nodeV (tj) (ja) (jc)) (by simp [results, Tryd.results21, go_sem, e0, e1, e2, e3, e4, e5, e6, e7]) rfl hG
      have hb4 : (t.kind == 4) = false := by simpa using h4
      by_cases h5 : t.kind = 5
      · have hb5 : (t.kind == 5) = true := by simpa using h5
        obtain ⟨u, mn, mx, et, b0, b1, bx, hI⟩ := rep_is H0.out.2.2.2.1 h5
        have hsub : t.subs = [u] := by rw [et]; rfl
        have hl1 : t.subs.length = 1 := by rw [hsub]; rfl
        have HT := Lib.hid (show tt = repP (simT u) t.mn t.mx by rw [← HTT.out, simT_eq, if_neg h3, if_neg h4, if_pos h5, hsub, simH])
        obtain ⟨bl, off, a3, c3, rfl, -, -, le3, L3, C3⟩ := J.out.2.1.get (i := 0) (t := simT u) (by rw [hsub]; rfl)
        obtain ⟨z0, z1, z2, z3, z4, z5, z6, z7⟩ := ncell C3
        rw [Nat.zero_mul, Nat.add_zero] at z0 z1 z2 z3 z4 z5 z6 z7
        have HC := Lib.hid (fun W (q : Keep (fun _ => False) wr W) => frep_any (simT u) t.mn t.mx a3 c3 (fun b => (ok b ∨ w.heap.size ≤ b) ∧ b ≠ w.heap.size + 1) W (L3.keepF q) le3)
        obtain ⟨X, hX⟩ : ∃ X, simT u = X := ⟨_, rfl⟩
        rw [hX] at z0 z1 z2 z3 z4 z5 z6 z7 HC HT
        obtain ⟨tj, htj⟩ : ∃ tj, repP X t.mn t.mx = tj := ⟨_, rfl⟩
        rw [htj] at HC HT
        have hpos : (0 : Int) < t.subs.length := by omega
        have hpos2 : 0 < t.subs.length := by omega
        clear h3 h4 h5 et hsub b0 b1 bx hI L3 C3 hX htj le3 hl1
        go_wp2_with fail
        have HW := Lib.hid (And.intro J.out.1.out.lt J.out.1.keep.size)
        go_region_with (go_at_call 37; refine (HC.out _ (by first | exact ((Keep.refl _ _).drewN _) | exact ((Keep.refl _ _).drew) | exact Keep.refl _ _)).mono ?_; rintro e w4 ⟨⟨v, rfl, ja, jc, rfl, hle, hlie⟩, q4⟩; have R4 := Lib.hid (J.out.1.next (by first | exact ((Keep.refl _ _).drewN _).trans q4 | exact ((Keep.refl _ _).drew).trans q4 | exact q4)); have HE := Lib.hid (And.intro hle (lie_of (w := w) (ok := ok) (n := w.heap.size + 1) hlie (by first | exact HW.out.1) (by first | exact HW.out.2) (fun k h => h))); clear q4 hlie hle; obtain ⟨⟨d0, d1, d2, d3, d4, d5, d6, d7⟩, f0, f1, f2, f3, f4, f5, f6, f7⟩ := cells8 R4.out.out; have hlt := R4.out.out.lt)
        all_goals
          have hP := end8 (ok := ok) R4.out HT.out HE.out.1 HE.out.2
          unfold put8 at hP
          generalize World.setCell _ _ _ = W9 at *
          clear d0 d1 d2 d3 d4 d5 d6 d7 f0 f1 f2 f3 f4 f5 f6 f7
          obtain ⟨⟨e0, e1, e2, e3, e4, e5, e6, e7⟩, -⟩ := cells8 hP.1
          have HP := Lib.hid hP
          clear hP
          go_wp2_with fail
          exact bodyPost_ret (v := nodeV tj ja jc) (by simp [results, Tryd.results21, go_sem, e0, e1, e2, e3, e4, e5, e6, e7]) rfl HP.out.2
      · have hb5 : (t.kind == 5) = false := by simpa using h5
        have HT := Lib.hid (show tt = t by rw [← HTT.out, simT_eq, if_neg h3, if_neg h4, if_neg h5])
        have R4 := Lib.hid J.out.1
        have HE := Lib.hid (And.intro H0.out.2.2.2.2.1 (J.out.2.2.2.2.2.1.mono (ok' := fun b => (ok b ∨ w.heap.size ≤ b) ∧ b ≠ w.heap.size + 1) fun b hb => ⟨.inl hb.1, by omega⟩))
        obtain ⟨⟨d0, d1, d2, d3, d4, d5, d6, d7⟩, f0, f1, f2, f3, f4, f5, f6, f7⟩ := cells8 R4.out.out
        have hlt := R4.out.out.lt
        clear h3 h4 h5
        go_wp2_with fail
        change bodyPost _ _ _ _ _ (putNd (wr) (w.heap.size + 1) 0 (t) (a) (c))
        have hP := R4.out.put (t) (a) (c)
        have hG := (by rw [HT.out]; exact R4.out.gives (ok := ok) HE.out.1 HE.out.2 : Gives w ok tt (.returned (nodeV t a c)) (putNd wr (w.heap.size + 1) 0 t a c))
        generalize (putNd (wr) (w.heap.size + 1) 0 (t) (a) (c)) = W9 at hP hG ⊢
        obtain ⟨⟨e0, e1, e2, e3, e4, e5, e6, e7⟩, -⟩ := cells8 hP.1
        exact bodyPost_ret (v := nodeV (t) (a) (c)) (by simp [results, Tryd.results21, go_sem, e0, e1, e2, e3, e4, e5, e6, e7]) rfl hG
theorem fsimple_all : ∀ (n : Nat) (t : T), SizeOf.sizeOf t < n → FSimpOk t
  | 0, _, h => absurd h (Nat.not_lt_zero _)
  | n + 1, t, h => fsimple_step n (fsimple_all n) t h
theorem fsimple_any (t : T) : FSimpOk t := fsimple_all _ t (Nat.lt_succ_self _)
end Go.Proofs.YtfpijkcaceoboaaDoor.P10
