/- Lists of nodes of the program's own, all of whose blocks are new and hold plain cells (layer 13). -/
import Derived.Test.YthcjfgfbeollpaaKG24
import Derived.Test.YthcjfgfbeollpaaKG23
import Derived.Test.YthcjfgfbeollpaaKG38
import Derived.Test.YthcjfgfbeollpaaKG33
import Derived.Test.YthcjfgfbeollpaaKG27
namespace Go.Proofs.Ythcjfgfbeollpaa.P13
open Go.RowKit Go.Proofs.Ythcjfgfbeollpaa.Base Go.Proofs.Ythcjfgfbeollpaa.IL Go.Proofs.Ythcjfgfbeollpaa.Bytes Go.Proofs.Ythcjfgfbeollpaa.P07
open Go.Proofs.Ythcjfgfbeollpaa.Sets (ST)

/-- The list lies from n0 on, in plain cells. -/
def NZ (w : World) (n0 : Nat) (v : Value) (L : List T) : Prop := OT w (fun k => n0 ≤ k ∧ Zb w k) v L
theorem NZ.nil (w : World) (n0 : Nat) : NZ w n0 (.slice none 0 0) [] := OT.nil w _
theorem NZ.next {w w' : World} {n0 : Nat} {v : Value} {L : List T} (h : NZ w n0 v L) (q : Keep (fun _ => False) w w') : NZ w' n0 v L :=
  (OT.keep h q (fun _ _ h => h)).sub fun _ hk => ⟨hk.1, hk.2.keep q (fun h => h)⟩
theorem NZ.own {w : World} {n0 : Nat} {v : Value} {L : List T} (h : NZ w n0 v L) : Own n0 v := by
  obtain ⟨X, ⟨-, h2, -⟩, -⟩ := h
  exact fun g hg => (h2 g hg).1
theorem NZ.lt {w : World} {n0 : Nat} {v : Value} {L : List T} (h : NZ w n0 v L) {g : Nat} (hg : v.ownBlock = some g) : g < w.heap.size := by
  obtain ⟨X, ⟨-, h2, -⟩, -⟩ := h
  exact (h2 g hg).2.lt
theorem NZ.form {w : World} {n0 : Nat} {v : Value} {L : List T} (h : NZ w n0 v L) : ∃ a cap, v = .slice a L.length cap ∧ L.length ≤ cap ∧ Lie w (fun k => n0 ≤ k ∧ Zb w k) a L := OT.form h
/-- What lies in new plain cells goes on to. -/
theorem zkeep {w w' : World} {n0 : Nat} {a : Option Addr} {L : List T} (h : Lie w (fun k => n0 ≤ k ∧ Zb w k) a L) (q : Keep (fun _ => False) w w') : Lie w' (fun k => n0 ≤ k ∧ Zb w' k) a L :=
  (h.keepF q).mono fun _ hk => ⟨hk.1, hk.2.keep q (fun h => h)⟩
/-- append of one node. -/
theorem NZ.push {w : World} {n0 : Nat} {v : Value} {L : List T} (h : NZ w n0 v L) (t : T) (a : Option Addr) (c : Nat) (hc : t.subs.length ≤ c) (hl : Lie w (fun k => (n0 ≤ k ∧ Zb w k) ∧ v.ownBlock ≠ some k) a t.subs)
    (hlen : (L.length + 1) * 80 ≤ 140737488355328) (hn : n0 ≤ w.heap.size) (ty : TypeId) :
    ∃ v' w', (Builtin.append_ #[25, 25] ty #[v, .slice (some ⟨w.heap.size, 0, none⟩) 1 1]).run Try.prog (w.alloc (.cells (ncells t a c) 27)) = .ok v' w' ∧ NZ w' n0 v' (L ++ [t]) ∧ Keep (fun b => v.ownBlock = some b) w w' ∧ (∀ g, v'.ownBlock = some g → v.ownBlock = some g ∨ w.heap.size ≤ g) := by
  obtain ⟨X, ⟨h1, h2, h3⟩, rfl⟩ := h
  have qa := (Keep.refl (fun _ => False) w).alloc (.cells (ncells t a c) 27)
  have ha := At.new w (ncells t a c) 27
  have hown : (w.alloc (.cells (ncells t a c) 27)).ownsRow 0 27 8 v X.length (flatN X) := by
    refine ⟨h1.1, ?_⟩
    rcases h1.2 with h | ⟨g, cap, cur, rfl, hb, hg, r⟩
    · exact .inl h
    · refine .inr ⟨g, cap, cur, rfl, hb, ?_, r⟩
      have : At w g 27 cur := hg
      exact this.keep qa (fun h => h)
  obtain ⟨i0, hi0, hz0, hz1, hz2⟩ := info_parts infoN
  rw [List.length_map] at hlen
  obtain ⟨v', w', hrun, g2, g3, _, g5⟩ := run_append_own_at (P := Try.prog) (w.alloc (.cells (ncells t a c) 27)) 0 25 ty 27 i0 (.agg #[.int .i64 0, .int .u64 0, .int .u64 0, .int .u64 0, .int .u64 0, .int .i64 0, .int .i64 0, .slice none 0 0]) 8 80 Try.underlying25 hi0 hz0 hz1 hz2 rfl (by omega) v X.length (flatN X) hown ⟨w.heap.size, 0, none⟩ 1 1 (ncells t a c).toList rfl
    (fun j u hu => by
      have := ha.cell (o := j) (v := u) (by simpa using hu)
      have e : (⟨w.heap.size, 0, none⟩ : Addr).add j = ⟨w.heap.size, j, none⟩ := by
        unfold Addr.add
        split
        · rename_i hz
          rw [hz]
        · simp
      rw [e]
      exact this)
    (by intro u hu; simp at hu; rcases hu with rfl | rfl | rfl | rfl | rfl | rfl | rfl | rfl <;> rfl) (by simp only [maxLen]; omega) (by omega) (Nat.zero_le _)
  have q : Keep (fun b => v.ownBlock = some b) w w' := (qa.mono (fun _ h => h.elim)).trans (nkeep_grown g3)
  have hbl : ∀ g, v'.ownBlock = some g → v.ownBlock = some g ∨ w.heap.size ≤ g := fun g hg => by
    rcases g5 with g5 | g5
    · exact .inl (by rw [← g5]; exact hg)
    · rw [g5] at hg
      injection hg with hg
      simp at hg
      exact .inr (by omega)
  have hlie : ∀ {a : Option Addr} {M : List T}, Lie w (fun k => (n0 ≤ k ∧ Zb w k) ∧ v.ownBlock ≠ some k) a M → Lie w' (fun k => (n0 ≤ k ∧ Zb w' k) ∧ v'.ownBlock ≠ some k) a M := fun {a M} h => by
    have h1 : Lie w (fun k => ((n0 ≤ k ∧ Zb w k) ∧ v.ownBlock ≠ some k) ∧ k < w.heap.size) a M := by
      induction h with
      | nil a => exact .nil a
      | cons bl off L A C hL hb hok hC hc _ ih => exact .cons bl off L A C hL hb ⟨hok, hb⟩ hC hc ih
    refine (h1.keep q (fun b hb e => hb.1.2 e)).mono (fun k hk => ⟨⟨hk.1.1.1, hk.1.1.2.keep q (fun e => hk.1.2 e)⟩, fun e => ?_⟩)
    rcases hbl k e with h | h
    · exact hk.1.2 h
    · have := hk.2
      omega
  refine ⟨v', w', hrun, ⟨X ++ [(t, a, c)], ⟨?_, fun g hg => ?_, fun x hx => ?_⟩, by simp⟩, q, hbl⟩
  · rw [List.length_append]
    have e : flatN (X ++ [(t, a, c)]) = flatN X ++ (ncells t a c).toList := by
      unfold flatN
      rw [List.flatMap_append]
      simp
    rw [e]
    exact g2
  · refine ⟨?_, ?_⟩
    · rcases hbl g hg with h | h
      · exact (h2 g h).1
      · omega
    · rcases g2.2 with ⟨rfl, -⟩ | ⟨g', cap', cur', rfl, -, hg', -⟩
      · cases hg
      · injection hg with hg
        have e : g' = g := hg
        rw [e] at hg'
        exact ⟨_, _, hg'⟩
  · rcases List.mem_append.1 hx with hx | hx
    · exact ⟨(h3 x hx).1, hlie (h3 x hx).2⟩
    · rw [List.mem_singleton.1 hx]
      exact ⟨hc, hlie hl⟩
end Go.Proofs.Ythcjfgfbeollpaa.P13
/- The code's inARow (layer 13). -/
namespace Go.Proofs.Ythcjfgfbeollpaa.P13
open Go.RowKit Go.Proofs.Ythcjfgfbeollpaa.Base Go.Proofs.Ythcjfgfbeollpaa.Bytes Go.Proofs.Ythcjfgfbeollpaa.P07 Go.Proofs.Ythcjfgfbeollpaa.P08 Go.Proofs.Ythcjfgfbeollpaa.P10
open Go.Proofs.Ythcjfgfbeollpaa.Sets (ST)

/-- A node by value is handed back; its lists lie from n0 on, in plain cells. -/
def GivesN (n0 : Nat) (w : World) (t : T) (e : Ending) (w' : World) : Prop := (∃ a c, e = .returned (nodeV t a c) ∧ t.subs.length ≤ c ∧ Lie w' (fun k => n0 ≤ k ∧ Zb w' k) a t.subs) ∧ Keep (fun _ => False) w w'
theorem rb_gives {w : World} {n : Nat} {W : World} (h : Rb w n W) {n0 : Nat} {t : T} {a : Option Addr} {c : Nat} (hc : t.subs.length ≤ c) (hl : Lie W (fun k => (n0 ≤ k ∧ Zb W k) ∧ k ≠ n) a t.subs) : GivesN n0 w t (.returned (nodeV t a c)) (putNd W n 0 t a c) := by
  have k := h.put t a c
  exact ⟨⟨a, c, rfl, hc, (hl.keep k.2.2 (fun k hk e => hk.2 e)).mono fun j hk => ⟨hk.1.1, hk.1.2.keep k.2.2 hk.2⟩⟩, k.2.1⟩
theorem GivesN.wider {n0 n1 : Nat} {w : World} {t : T} {e : Ending} {w' : World} (h : GivesN n0 w t e w') (hn : n1 ≤ n0) : GivesN n1 w t e w' := by
  obtain ⟨⟨a, c, h1, h2, h3⟩, h4⟩ := h
  exact ⟨⟨a, c, h1, h2, h3.mono fun k hk => ⟨by omega, hk.2⟩⟩, h4⟩

set_option maxRecDepth 100000 in
set_option maxHeartbeats 8000000 in
theorem inrow_any (L : List T) (a : Option Addr) (cap : Nat) (n0 : Nat) (w : World) (hL : Lie w (fun k => n0 ≤ k ∧ Zb w k) a L) (hcap : L.length ≤ cap) :
    Calls Try.prog 77 #[.slice a L.length cap] w (GivesN n0 w (rowP L)) := by
  have hlen := hL.len
  have r0 : Rb w w.heap.size (w.alloc (.cells nzeros 27)) := ⟨At.new w _ _, (Keep.refl (fun _ => False) w).alloc _, Nat.le_refl _⟩
  have hl1 : Lie (w.alloc (.cells nzeros 27)) (fun k => (n0 ≤ k ∧ Zb (w.alloc (.cells nzeros 27)) k) ∧ k ≠ w.heap.size) a L := (hL.under.keepF r0.keep).mono fun k hk => ⟨⟨hk.1.1, hk.1.2.keep r0.keep (fun h => h)⟩, by omega⟩
  have HR := Lib.hid r0
  have HL := Lib.hid hl1
  clear r0 hl1 hL
  match L, HL, hcap, hlen with
  | [], HL, hcap, hlen =>
    clear hcap hlen
    show Calls Try.prog 77 #[.slice a 0 cap] w _
    go_enter Try.func77, Try.ntmps77
    go_upto_region 1 with fail
    generalize (w.alloc (.cells nzeros 27)) = W at *
    obtain ⟨⟨d0, d1, d2, d3, d4, d5, d6, d7⟩, f0, f1, f2, f3, f4, f5, f6, f7⟩ := cells8 HR.out.out
    have hlt := HR.out.out.lt
    go_wp2_with fail
    change bodyPost _ _ _ _ _ (putNd W w.heap.size 0 epsT none 0)
    have hP := HR.out.put epsT none 0
    have hG := rb_gives HR.out (n0 := n0) (t := epsT) (a := none) (c := 0) (Nat.le_refl 0) (.nil _)
    generalize (putNd W w.heap.size 0 epsT none 0) = W9 at hP hG ⊢
    obtain ⟨⟨e0, e1, e2, e3, e4, e5, e6, e7⟩, -⟩ := cells8 hP.1
    exact bodyPost_ret (v := nodeV epsT none 0) (by simp [results, Try.results77, go_sem, e0, e1, e2, e3, e4, e5, e6, e7]) rfl hG
  | [x], HL, hcap, hlen =>
    clear hlen
    have hcap : (1 : Nat) ≤ cap := hcap
    obtain ⟨bl, off, a1, c1, rfl, hok, hbl, hc1, L1, C1⟩ := HL.out.get (i := 0) (t := x) rfl
    have L2 := Lib.hid (And.intro L1 hc1)
    obtain ⟨x0, x1, x2, x3, x4, x5, x6, x7⟩ := ncell C1
    rw [Nat.zero_mul, Nat.add_zero] at x0 x1 x2 x3 x4 x5 x6 x7
    clear C1 L1 hbl hok hc1
    show Calls Try.prog 77 #[.slice (some ⟨bl, off, none⟩) 1 cap] w (GivesN n0 w x)
    go_enter Try.func77, Try.ntmps77
    go_upto_region 1 with fail
    generalize (w.alloc (.cells nzeros 27)) = W at *
    obtain ⟨⟨d0, d1, d2, d3, d4, d5, d6, d7⟩, f0, f1, f2, f3, f4, f5, f6, f7⟩ := cells8 HR.out.out
    have hlt := HR.out.out.lt
    go_wp2_with fail
    change bodyPost _ _ _ _ _ (putNd W w.heap.size 0 x a1 c1)
    have hP := HR.out.put x a1 c1
    have hG := rb_gives HR.out (n0 := n0) L2.out.2 L2.out.1
    generalize (putNd W w.heap.size 0 x a1 c1) = W9 at hP hG ⊢
    obtain ⟨⟨e0, e1, e2, e3, e4, e5, e6, e7⟩, -⟩ := cells8 hP.1
    exact bodyPost_ret (v := nodeV x a1 c1) (by simp [results, Try.results77, go_sem, e0, e1, e2, e3, e4, e5, e6, e7]) rfl hG
  | x :: y :: M, HL, hcap, hlen =>
    show Calls Try.prog 77 #[.slice a (x :: y :: M).length cap] w (GivesN n0 w (.nd 3 ST.none 0 0 (x :: y :: M)))
    obtain ⟨K, hK⟩ : ∃ K, K = x :: y :: M := ⟨_, rfl⟩
    have h2 : 2 ≤ K.length := by rw [hK]; simp
    rw [← hK] at HL hcap hlen ⊢
    clear hK
    have hn0 : ¬ (K.length : Int) = 0 := by omega
    have hn1 : ¬ (K.length : Int) = 1 := by omega
    have HC := Lib.hid hcap
    clear hcap
    go_enter Try.func77, Try.ntmps77
    go_upto_region 1 with fail
    generalize (w.alloc (.cells nzeros 27)) = W at *
    obtain ⟨⟨d0, d1, d2, d3, d4, d5, d6, d7⟩, f0, f1, f2, f3, f4, f5, f6, f7⟩ := cells8 HR.out.out
    have hlt := HR.out.out.lt
    go_wp2_with fail
    change bodyPost _ _ _ _ _ (putNd W w.heap.size 0 (.nd 3 ST.none 0 0 K) a cap)
    have hP := HR.out.put (.nd 3 ST.none 0 0 K) a cap
    have hG := rb_gives HR.out (n0 := n0) (t := .nd 3 ST.none 0 0 K) HC.out HL.out
    generalize (putNd W w.heap.size 0 (.nd 3 ST.none 0 0 K) a cap) = W9 at hP hG ⊢
    obtain ⟨⟨e0, e1, e2, e3, e4, e5, e6, e7⟩, -⟩ := cells8 hP.1
    exact bodyPost_ret (v := nodeV (.nd 3 ST.none 0 0 K) a cap) (by simp [results, Try.results77, go_sem, e0, e1, e2, e3, e4, e5, e6, e7]) rfl hG
end Go.Proofs.Ythcjfgfbeollpaa.P13
/- The row of nodes that are open in the code's isPlain (layer 13). -/
namespace Go.Proofs.Ythcjfgfbeollpaa.P13
open Go.RowKit Go.Proofs.Ythcjfgfbeollpaa.Base Go.Proofs.Ythcjfgfbeollpaa.Bytes Go.Proofs.Ythcjfgfbeollpaa.P07 Go.Proofs.Ythcjfgfbeollpaa.P08
open Go.Proofs.Ythcjfgfbeollpaa.Sets (ST)

/-- A node that is open: where it lies, and how many of its parts have been asked. -/
structure LO where
  t : T
  bl : Nat
  off : Nat
  a : Option Addr
  c : Nat
  q : Nat
@[reducible] def ocells (x : LO) : Array Value := #[.pointer (some ⟨x.bl, x.off, none⟩), .int .i64 x.q]
@[reducible] def flatO (X : List LO) : List Value := X.flatMap fun x => (ocells x).toList
theorem infoO : (Try.prog.info? 109).map (fun i => (i.zero, i.size, i.bytes)) = some (some (.agg #[.pointer none, .int .i64 0]), 2, 16) := by kernel_rfl
theorem flatO_length : ∀ X : List LO, (flatO X).length = X.length * 2
  | [] => rfl
  | x :: X => by
    unfold flatO at *
    rw [List.flatMap_cons, List.length_append, List.length_cons]
    have := flatO_length X
    unfold flatO at this
    rw [this]
    simp
    omega
theorem flatO_append (X Y : List LO) : flatO (X ++ Y) = flatO X ++ flatO Y := List.flatMap_append ..
theorem flatO_at : ∀ (X : List LO) (i : Nat) (x : LO), X[i]? = some x → (flatO X)[i * 2]? = some (.pointer (some ⟨x.bl, x.off, none⟩)) ∧ (flatO X)[i * 2 + 1]? = some (.int .i64 x.q)
  | [], i, x, h => by simp at h
  | y :: X, 0, x, h => by
    simp at h
    subst h
    exact ⟨rfl, rfl⟩
  | y :: X, i + 1, x, h => by
    have ih := flatO_at X i x (by simpa using h)
    have e : flatO (y :: X) = (ocells y).toList ++ flatO X := rfl
    rw [e]
    refine ⟨?_, ?_⟩
    · rw [List.getElem?_append_right (by simp; omega), ← ih.1]
      congr 1
      simp
      omega
    · rw [List.getElem?_append_right (by simp; omega), ← ih.2]
      congr 1
      simp
      omega

/-- The slice u is a row of such nodes, of the program's own. -/
structure RO (W : World) (n0 : Nat) (u : Value) (X : List LO) : Prop where
  row : W.ownsRow 0 109 2 u X.length (flatO X)
  own : Own n0 u
theorem RO.keep {S : Nat → Prop} {W W' : World} {n0 : Nat} {u : Value} {X : List LO} (h : RO W n0 u X) (q : Keep S W W') (h1 : ∀ g, u.ownBlock = some g → ¬ S g) : RO W' n0 u X := by
  refine ⟨⟨h.row.1, ?_⟩, h.own⟩
  rcases h.row.2 with h0 | ⟨g, cap, cur, rfl, hb, hg, r⟩
  · exact .inl h0
  · refine .inr ⟨g, cap, cur, rfl, hb, ?_, r⟩
    have : At W g 109 cur := hg
    exact this.keep q (h1 g rfl)
theorem RO.keepF {W W' : World} {n0 : Nat} {u : Value} {X : List LO} (h : RO W n0 u X) (q : Keep (fun _ => False) W W') : RO W' n0 u X := h.keep q (fun _ _ h => h)
theorem RO.one {W : World} {n0 : Nat} (x : LO) (hn : n0 ≤ W.heap.size) : RO (W.alloc (.cells (ocells x) 109)) n0 (.slice (some ⟨W.heap.size, 0, none⟩) 1 1) [x] := by
  refine ⟨⟨by rw [flatO_length], .inr ⟨W.heap.size, 1, ocells x, rfl, Nat.zero_le _, At.new W _ _, Nat.le_refl 1, by decide, rfl, by simp⟩⟩, fun g hg => ?_⟩
  injection hg with hg
  rw [← hg]
  exact hn
theorem RO.push {W : World} {n0 : Nat} {u : Value} {X : List LO} (h : RO W n0 u X) (x : LO) (hn : n0 ≤ W.heap.size) (hlen : X.length ≤ 1000000000) (ty : TypeId) :
    ∃ v' w', (Builtin.append_ #[110, 110] ty #[u, .slice (some ⟨W.heap.size, 0, none⟩) 1 1]).run Try.prog (W.alloc (.cells (ocells x) 109)) = .ok v' w' ∧ RO w' n0 v' (X ++ [x]) ∧ Keep (fun b => u.ownBlock = some b) W w' ∧ (∀ g, v'.ownBlock = some g → u.ownBlock = some g ∨ W.heap.size ≤ g) := by
  have qa := (Keep.refl (fun _ => False) W).alloc (.cells (ocells x) 109)
  have ha := At.new W (ocells x) 109
  have h1 := (h.keepF qa).row
  obtain ⟨i0, hi0, hz0, hz1, hz2⟩ := info_parts infoO
  obtain ⟨v', w', hrun, g2, g3, _, g5⟩ := run_append_own_at (P := Try.prog) (W.alloc (.cells (ocells x) 109)) 0 110 ty 109 i0 (.agg #[.pointer none, .int .i64 0]) 2 16 Try.underlying110 hi0 hz0 hz1 hz2 rfl (by omega) u X.length (flatO X) h1 ⟨W.heap.size, 0, none⟩ 1 1 (ocells x).toList rfl
    (fun j v hv => by
      have := ha.cell (o := j) (v := v) (by simpa using hv)
      rw [nadd, Nat.zero_add]
      exact this)
    (by intro v hv; simp at hv; rcases hv with rfl | rfl <;> rfl) (by simp only [maxLen]; omega) (by omega) (Nat.zero_le _)
  have q : Keep (fun b => u.ownBlock = some b) W w' := (qa.mono (fun _ h => h.elim)).trans (okeep_grown g3)
  have hbl : ∀ g, v'.ownBlock = some g → u.ownBlock = some g ∨ W.heap.size ≤ g := fun g hg => by
    rcases g5 with g5 | g5
    · exact .inl (by rw [← g5]; exact hg)
    · rw [g5] at hg
      injection hg with hg
      simp at hg
      exact .inr (by omega)
  refine ⟨v', w', hrun, ⟨?_, fun g hg => ?_⟩, q, hbl⟩
  · rw [List.length_append, flatO_append]
    have e : flatO [x] = (ocells x).toList := by unfold flatO; simp
    rw [e]
    exact g2
  · rcases hbl g hg with h2 | h2
    · exact h.own g h2
    · omega
/-- What the row holds. -/
theorem RO.form {W : World} {n0 : Nat} {u : Value} {X : List LO} (h : RO W n0 u X) : (X = [] ∧ ∃ a cap, u = .slice a 0 cap) ∨ ∃ g cap, u = .slice (some ⟨g, 0, none⟩) X.length cap ∧ X.length ≤ cap ∧ cap ≤ 9223372036854775807 ∧ n0 ≤ g ∧ (∃ cur, At W g 109 cur ∧ X.length * 2 ≤ cur.size) ∧ ∀ i x, X[i]? = some x → W.cell? ⟨g, i * 2, none⟩ = some (.pointer (some ⟨x.bl, x.off, none⟩)) ∧ W.cell? ⟨g, i * 2 + 1, none⟩ = some (.int .i64 x.q) := by
  rcases h.row.2 with ⟨rfl, h0⟩ | ⟨g, cap, cur, rfl, hb, hg, h5, h6, h7, h8⟩
  · exact .inl ⟨List.eq_nil_of_length_eq_zero h0, none, 0, rfl⟩
  · have ha : At W g 109 cur := hg
    refine .inr ⟨g, cap, rfl, h5, by unfold maxLen at h6; omega, h.own g rfl, ⟨cur, ha, ?_⟩, fun i x hx => ?_⟩
    · have := congrArg List.length h8
      rw [flatO_length, List.length_take, Array.length_toList] at this
      omega
    · have hi : i < X.length := (List.getElem?_eq_some_iff.1 hx).1
      obtain ⟨k1, k2⟩ := flatO_at X i x hx
      rw [← h8] at k1 k2
      rw [List.getElem?_take_of_lt (by omega)] at k1 k2
      exact ⟨ha.cell (by simpa using k1), ha.cell (by simpa using k2)⟩
/-- Without its last one. -/
theorem RO.pop {W : World} {n0 : Nat} {g cap : Nat} {Y : List LO} {x : LO} (h : RO W n0 (.slice (some ⟨g, 0, none⟩) (Y ++ [x]).length cap) (Y ++ [x])) : RO W n0 (.slice (some ⟨g, 0, none⟩) Y.length cap) Y := by
  rcases h.row.2 with ⟨e, h0⟩ | ⟨g', cap', cur, e, hb, hg, h5, h6, h7, h8⟩
  · simp at h0
  · injection e with e1 e2 e3
    injection e1 with e1
    injection e1 with e1
    subst e1 e3
    rw [List.length_append, List.length_singleton] at h5 h8
    refine ⟨⟨flatO_length Y, .inr ⟨g, cap, cur, rfl, hb, hg, by omega, h6, h7, ?_⟩⟩, h.own⟩
    have : (cur.toList.take ((Y.length + 1) * 2)).take (Y.length * 2) = flatO Y := by
      rw [h8, flatO_append]
      exact List.take_left' (flatO_length Y)
    rw [List.take_take] at this
    rw [← this]
    congr 1
    omega
/-- One more of its last one's parts is asked. -/
theorem RO.ask {W : World} {n0 : Nat} {g cap : Nat} {Y : List LO} {x : LO} (h : RO W n0 (.slice (some ⟨g, 0, none⟩) (Y ++ [x]).length cap) (Y ++ [x])) (q : Nat) :
    RO (W.setCell ⟨g, Y.length * 2 + 1, none⟩ (.int .i64 q)) n0 (.slice (some ⟨g, 0, none⟩) (Y ++ [x]).length cap) (Y ++ [{ x with q := q }]) := by
  rcases h.row.2 with ⟨e, h0⟩ | ⟨g', cap', cur, e, hb, hg, h5, h6, h7, h8⟩
  · simp at h0
  · injection e with e1 e2 e3
    injection e1 with e1
    injection e1 with e1
    subst e1 e3
    have ha : At W g 109 cur := hg
    have hl : (Y ++ [{ x with q := q }]).length = (Y ++ [x]).length := by simp
    have h9 := ha.set (Y.length * 2 + 1) (.int .i64 q)
    refine ⟨⟨flatO_length _, .inr ⟨g, cap, _, by rw [hl], hb, h9, by rw [hl]; exact h5, h6, by simpa using h7, ?_⟩⟩, h.own⟩
    rw [hl]
    apply List.ext_getElem?
    intro j
    have h10 : (cur.toList.take ((Y ++ [x]).length * 2))[j]? = (flatO (Y ++ [x]))[j]? := by rw [h8]
    rw [List.getElem?_take] at h10 ⊢
    have hlen := congrArg List.length h8
    rw [flatO_length, List.length_take] at hlen
    have hcs : cur.toList.length = cur.size := Array.length_toList
    rw [hcs] at hlen
    rw [flatO_append] at h10 ⊢
    have e1 : (flatO [{ x with q := q }]) = [.pointer (some ⟨x.bl, x.off, none⟩), .int .i64 q] := rfl
    have e2 : (flatO [x]) = [.pointer (some ⟨x.bl, x.off, none⟩), .int .i64 x.q] := rfl
    rw [e2] at h10
    rw [e1]
    simp only [List.length_append, List.length_singleton] at h10 hlen ⊢
    have hY := flatO_length Y
    by_cases hj : j < (Y.length + 1) * 2
    · rw [if_pos hj] at h10 ⊢
      rw [Array.getElem?_toList] at h10 ⊢
      rw [Array.getElem?_setIfInBounds]
      by_cases hj2 : Y.length * 2 + 1 = j
      · subst hj2
        rw [if_pos rfl, if_pos (by omega), List.getElem?_append_right (by omega), hY]
        simp
      · rw [if_neg hj2, h10]
        by_cases hj3 : j < Y.length * 2
        · rw [List.getElem?_append_left (by omega), List.getElem?_append_left (by omega)]
        · have : j = Y.length * 2 := by omega
          subst this
          rw [List.getElem?_append_right (by omega), List.getElem?_append_right (by omega), hY]
          simp
    · rw [if_neg hj]
      rw [List.getElem?_eq_none]
      rw [List.length_append, hY]
      simp only [List.length_cons, List.length_nil]
      omega
end Go.Proofs.Ythcjfgfbeollpaa.P13
/- The cells tell the nodes (as in layer 10; layer 13). -/
namespace Go.Proofs.Ythcjfgfbeollpaa.P13
open Go.RowKit Go.Proofs.Ythcjfgfbeollpaa.Base Go.Proofs.Ythcjfgfbeollpaa.Bytes Go.Proofs.Ythcjfgfbeollpaa.P07 Go.Proofs.Ythcjfgfbeollpaa.P08
open Go.Proofs.Ythcjfgfbeollpaa.Sets (ST)

theorem T.ext13 {s t : T} (hk : s.kind = t.kind) (hs : s.set = t.set) (hm : s.mn = t.mn) (hx : s.mx = t.mx) (hl : s.subs = t.subs) : s = t := by
  cases s
  cases t
  unfold T.kind at hk
  unfold T.set at hs
  unfold T.mn at hm
  unfold T.mx at hx
  unfold T.subs at hl
  simp only at hk hs hm hx hl
  subst hk hs hm hx hl
  rfl
theorem set_ext {s t : ST} (h0 : (s.x0 : Int) = t.x0) (h1 : (s.x1 : Int) = t.x1) (h2 : (s.x2 : Int) = t.x2) (h3 : (s.x3 : Int) = t.x3) : s = t := by
  obtain ⟨a0, a1, a2, a3⟩ := s
  obtain ⟨b0, b1, b2, b3⟩ := t
  simp only at h0 h1 h2 h3
  have e0 : a0 = b0 := by omega
  have e1 : a1 = b1 := by omega
  have e2 : a2 = b2 := by omega
  have e3 : a3 = b3 := by omega
  rw [e0, e1, e2, e3]
theorem cell_eq {w : World} {a : Addr} {u v : Value} (h1 : w.cell? a = some u) (h2 : w.cell? a = some v) : u = v := by
  rw [h1] at h2
  injection h2
/-- The cells tell the nodes. -/
theorem lie_det {w : World} {ok ok' : Nat → Prop} {a : Option Addr} {L : List T} (h : Lie w ok a L) : ∀ {M : List T}, Lie w ok' a M → L.length = M.length → L = M := by
  induction h with
  | nil a =>
    intro M _ hl
    exact (List.eq_nil_of_length_eq_zero hl.symm).symm
  | cons bl off L A C hL hb hok hC hc hs ih =>
    intro M hM hl
    apply List.ext_getElem?
    intro i
    by_cases hi : i < L.length
    · obtain ⟨t, ht⟩ : ∃ t, L[i]? = some t := ⟨L[i], List.getElem?_eq_getElem hi⟩
      obtain ⟨s, hsm⟩ : ∃ s, M[i]? = some s := ⟨M[i]'(by omega), List.getElem?_eq_getElem (by omega)⟩
      obtain ⟨bl', off', a', c', e, -, -, -, L', C'⟩ := hM.get hsm
      injection e with e
      injection e with e1 e2
      subst e1 e2
      have e0 := cell_eq (hc i t ht 0 _ rfl) (C' 0 _ rfl)
      have e1 := cell_eq (hc i t ht 1 _ rfl) (C' 1 _ rfl)
      have e2 := cell_eq (hc i t ht 2 _ rfl) (C' 2 _ rfl)
      have e3 := cell_eq (hc i t ht 3 _ rfl) (C' 3 _ rfl)
      have e4 := cell_eq (hc i t ht 4 _ rfl) (C' 4 _ rfl)
      have e5 := cell_eq (hc i t ht 5 _ rfl) (C' 5 _ rfl)
      have e6 := cell_eq (hc i t ht 6 _ rfl) (C' 6 _ rfl)
      have e7 := cell_eq (hc i t ht 7 _ rfl) (C' 7 _ rfl)
      injection e0 with _ e0
      injection e1 with _ e1
      injection e2 with _ e2
      injection e3 with _ e3
      injection e4 with _ e4
      injection e5 with _ e5
      injection e6 with _ e6
      injection e7 with e7 e8 _
      rw [ht, hsm]
      congr 1
      exact T.ext13 e0 (set_ext e1 e2 e3 e4) e5 e6 (ih i t ht (by rw [e7]; exact L') e8)
    · rw [List.getElem?_eq_none (by omega), List.getElem?_eq_none (by omega)]

theorem node_det {w : World} {bl o : Nat} {t u : T} {a b : Option Addr} {c d : Nat} (h : NodeP w bl o t a c) (k : NodeP w bl o u b d) {ok ok' : Nat → Prop} (hL : Lie w ok a t.subs) (kL : Lie w ok' b u.subs) : t = u := by
  obtain ⟨x0, x1, x2, x3, x4, x5, x6, x7⟩ := h.eight
  obtain ⟨y0, y1, y2, y3, y4, y5, y6, y7⟩ := k.eight
  have e0 := cell_eq x0 y0
  have e1 := cell_eq x1 y1
  have e2 := cell_eq x2 y2
  have e3 := cell_eq x3 y3
  have e4 := cell_eq x4 y4
  have e5 := cell_eq x5 y5
  have e6 := cell_eq x6 y6
  have e7 := cell_eq x7 y7
  injection e0 with _ e0
  injection e1 with _ e1
  injection e2 with _ e2
  injection e3 with _ e3
  injection e4 with _ e4
  injection e5 with _ e5
  injection e6 with _ e6
  injection e7 with e7 e8 _
  rw [← e7] at kL
  exact T.ext13 e0 (set_ext e1 e2 e3 e4) e5 e6 (lie_det hL kL e8)
end Go.Proofs.Ythcjfgfbeollpaa.P13
