/- The document's Plain (layer 13). -/
import Derived.Test.YthcjfgfbeollpaaKE40
import Derived.Test.YthcjfgfbeollpaaKE28
import Derived.Deep.RegionHeld3
namespace Go.Proofs.Ythcjfgfbeollpaa.P13
open Go.RowKit Go.Proofs.Ythcjfgfbeollpaa.Base Go.Proofs.Ythcjfgfbeollpaa.IL Go.Proofs.Ythcjfgfbeollpaa.Bytes Go.Proofs.Ythcjfgfbeollpaa.P07 Go.Proofs.Ythcjfgfbeollpaa.P08 Go.Proofs.Ythcjfgfbeollpaa.P10
open Go.Proofs.Ythcjfgfbeollpaa.Sets (ST)

theorem step_append13 {P : Program} (w : World) {ops : Array Oper} {o : Oper} {a : Act} {K : Act → World → Prop} {Q : Exit → Act → World → Prop} {E : Prop} (hw : Region.wanted o (yielded ops a.tmps) = true) (s x : Operand) (t tn : TypeId)
    (ho : o.op = .call { callee := .builtin .append, args := #[s, x], argTypes := #[t, tn] }) (vs vx : Value) (hs : a.eval s = vs) (hx : a.eval x = vx)
    (v' : Value) (w' : World) (hr : (Builtin.append_ #[t, tn] o.type #[vs, vx]).run P w = .ok v' w') (h : K (a.put o.dst v') w') :
    if Region.wanted o (yielded ops a.tmps) = true then Oper.wp P o a w K Q else E := by
  rw [if_pos hw]
  exact Lib.wp_append_run w s x t tn ho vs vx hs hx v' w' hr h
def FpOk (t : T) : Prop := ∀ (d : Nat), RT d t → cnt t ≤ 400000 → ∀ (a : Option Addr) (c : Nat) (ok : Nat → Prop) (w : World), Lie w ok a t.subs → t.subs.length ≤ c → Calls Try.prog 19 #[nodeV t a c] w (Gives w ok (plT t))
/-- The whole as it grows: the result's block, the whole's, its list. -/
structure Wf (w : World) (E : Nat → Prop) (k : Int) (L : List T) (a : Option Addr) (c : Nat) (W : World) : Prop where
  rb : Rb w (w.heap.size + 1) W
  at_ : At W (w.heap.size + 2) 27 (ncells (.nd k ST.none 0 0 L) a c)
  row : OT W (fun k => (E k ∧ k < w.heap.size) ∨ w.heap.size + 3 ≤ k) (.slice a L.length c) L
  own : Own (w.heap.size + 3) (.slice a L.length c)
theorem Wf.push {w : World} {E : Nat → Prop} {k : Int} {L : List T} {a : Option Addr} {c : Nat} {wr w2 : World} (h : Wf w E k L a c wr) (q : Keep (fun _ => False) wr w2) (x : T) (xa : Option Addr) (xc : Nat) (hxc : x.subs.length ≤ xc) (hxl : Lie w2 (fun k => (E k ∧ k < w.heap.size) ∨ wr.heap.size ≤ k) xa x.subs) (hlen : L.length ≤ 400000) (ty : TypeId) :
    ∃ v' w4, (Builtin.append_ #[25, 25] ty #[.slice a L.length c, .slice (some ⟨w2.heap.size, 0, none⟩) 1 1]).run Try.prog (w2.alloc (.cells (ncells x xa xc) 27)) = .ok v' w4 ∧ At w4 (w.heap.size + 2) 27 (ncells (.nd k ST.none 0 0 L) a c) ∧
      Keep (fun b => b = w.heap.size + 2 ∨ w.heap.size + 3 ≤ b) wr w4 ∧ ∃ a' c', v' = .slice a' (L.length + 1) c' ∧ Wf w E k (L ++ [x]) a' c' (w4.setCell ⟨w.heap.size + 2, 7, none⟩ v') := by
  have hlow := h.rb.keep.size
  have hat := h.at_.lt
  have hq := q.size
  have hown := h.own
  have hlt : ∀ k, (Value.slice a L.length c).ownBlock = some k → k < wr.heap.size := fun k hk => ot_lt h.row hk
  obtain ⟨v', w4, hrun, g1, g2, g3⟩ := (h.row.keep q (fun _ _ h => h)).push x xa xc hxc (hxl.mono fun k hk => by
    rcases hk with hk | hk
    · exact ⟨.inl hk, fun e => by have := hown k e; omega⟩
    · exact ⟨.inr (by omega), fun e => by have := hlt k e; omega⟩) (by omega) (fun g hg => .inr (by omega)) ty
  have own2 : Own (w.heap.size + 3) v' := hown.next (by omega) g3
  have a4 : At w4 (w.heap.size + 2) 27 (ncells (.nd k ST.none 0 0 L) a c) := (h.at_.keep q (fun h => h)).keep g2 (fun e => by have := hown _ e; omega)
  have q4 : Keep (fun b => b = w.heap.size + 2 ∨ w.heap.size + 3 ≤ b) wr w4 := (q.mono (fun _ h => h.elim)).trans (g2.mono fun b hb => .inr (hown b hb))
  have qs := (Keep.refl (fun b => b = w.heap.size + 2) w4).setCell (p := ⟨w.heap.size + 2, 7, none⟩) (fun _ => rfl) v'
  obtain ⟨a', c', rfl, hle, hlie⟩ := g1.form
  refine ⟨_, w4, hrun, a4, q4, a', c', by simp, ⟨⟨?_, ?_, Nat.le_add_right _ _⟩, ?_, ?_, own2⟩⟩
  · exact (h.rb.out.keep q4 (fun e => by have e : w.heap.size + 1 = w.heap.size + 2 ∨ w.heap.size + 3 ≤ w.heap.size + 1 := e; omega)).keep qs (fun e => by have e : w.heap.size + 1 = w.heap.size + 2 := e; omega)
  · exact (h.rb.keep.next q4 (fun i hi hl => by have hi : i = w.heap.size + 2 ∨ w.heap.size + 3 ≤ i := hi; omega)).next qs (fun i hi hl => by have hi : i = w.heap.size + 2 := hi; omega)
  · exact a4.set 7 (.slice a' (L ++ [x]).length c')
  · exact g1.keep qs (fun k hk e => by have e : k = w.heap.size + 2 := e; rcases hk with hk | hk <;> omega)

theorem lenG : ∀ L : List T, L.length ≤ cntL L
  | [] => Nat.zero_le _
  | t :: L => by
    have h1 := lenG L
    have h2 := cnt_eq t
    rw [cntL, List.length_cons]
    omega

set_option maxRecDepth 100000 in
set_option maxHeartbeats 32000000 in
theorem fp_leaf (t : T) (d : Nat) (hR : RT d t) (h0 : t.subs = []) (a : Option Addr) (c : Nat) (ok : Nat → Prop) (w : World) : Calls Try.prog 19 #[nodeV t a c] w (Gives w ok (plT t)) := by
  have he : plT t = t := by
    rcases P10.kinds hR with k | k | k | k | k
    · rw [eps_is hR k]; kernel_rfl
    · have hc := cls_is hR k
      rw [hc.1]
      rw [plT_not (by show (2 : Int) ≠ 5; omega)]
      rfl
    · have := (many_is hR (.inl k)).2
      rw [h0] at this
      exact absurd this (by simp)
    · have := (many_is hR (.inr k)).2
      rw [h0] at this
      exact absurd this (by simp)
    · obtain ⟨b, mn, mx, e, -⟩ := rep_is hR k
      rw [e] at h0
      cases h0
  rw [he]
  have hz : t.subs.length = 0 := by rw [h0]; rfl
  have b0 := (At.new w (ncells t a c) 27).alloc (.cells nzeros 27)
  have r0 : Rb w (w.heap.size + 1) ((w.alloc (.cells (ncells t a c) 27)).alloc (.cells nzeros 27)) := by
    refine ⟨?_, ((Keep.refl (fun _ => False) w).alloc _).alloc _, by omega⟩
    have := At.new (w.alloc (.cells (ncells t a c) 27)) nzeros 27
    rw [show (w.alloc (.cells (ncells t a c) 27)).heap.size = w.heap.size + 1 from by simp] at this
    exact this
  have H0 := Lib.hid (And.intro r0 (And.intro b0 h0))
  clear r0 b0 he hR h0
  go_enter Try.func19, Try.ntmps19
  go_upto_region 1 with fail
  generalize ((w.alloc (.cells (ncells t a c) 27)).alloc (.cells nzeros 27)) = W at *
  obtain ⟨⟨y0, y1, y2, y3, y4, y5, y6, y7⟩, -⟩ := cells8 H0.out.2.1
  obtain ⟨⟨d0, d1, d2, d3, d4, d5, d6, d7⟩, f0, f1, f2, f3, f4, f5, f6, f7⟩ := cells8 H0.out.1.out
  have hlt := H0.out.1.out.lt
  have hzi : ((t.subs.length : Int) == 0) = true := by rw [hz]; rfl
  have hP9 := Lib.hid (H0.out.1.put t a c)
  have HG := Lib.hid (H0.out.1.gives (ok := ok) (t := t) (a := a) (c := c) (by omega) (by rw [H0.out.2.2]; exact .nil _))
  clear hz
  go_wp2_with fail
  change bodyPost _ _ _ _ _ (putNd W (w.heap.size + 1) 0 t a c)
  have hP := hP9.out
  have hG := HG.out
  generalize (putNd W (w.heap.size + 1) 0 t a c) = W8 at hP hG ⊢
  obtain ⟨⟨e0, e1, e2, e3, e4, e5, e6, e7⟩, -⟩ := cells8 hP.1
  exact bodyPost_ret (v := nodeV t a c) (by simp [results, Try.results19, go_sem, e0, e1, e2, e3, e4, e5, e6, e7]) rfl hG

set_option maxRecDepth 100000 in
set_option maxHeartbeats 32000000 in
theorem fp_node (t : T) (d : Nat) (hR : RT d t) (hcnt : cnt t ≤ 400000) (hk5 : t.kind ≠ 5) (h0 : t.subs ≠ []) (ih : ∀ u ∈ t.subs, FpOk u) (a : Option Addr) (c : Nat) (ok : Nat → Prop) (w : World) (hL : Lie w ok a t.subs) :
    Calls Try.prog 19 #[nodeV t a c] w (Gives w ok (plT t)) := by
  have hset : t.set = ST.none := by
    rcases P10.kinds hR with k | k | k | k | k
    · rw [eps_is hR k]; rfl
    · have hc := cls_is hR k
      rw [hc.1] at h0
      exact absurd rfl h0
    · rw [(many_is hR (.inl k)).1]; rfl
    · rw [(many_is hR (.inr k)).1]; rfl
    · exact absurd k hk5
  rw [plT_not hk5, hset]
  have hlen : t.subs.length ≤ 400000 := by
    have h1 : t.subs.length ≤ cntL t.subs := lenG t.subs
    have h2 := cnt_eq t
    omega
  have hpos : 0 < t.subs.length := List.length_pos_iff.2 h0
  have b0 := (At.new w (ncells t a c) 27).alloc (.cells nzeros 27)
  have r0 : Rb w (w.heap.size + 1) ((w.alloc (.cells (ncells t a c) 27)).alloc (.cells nzeros 27)) := by
    refine ⟨?_, ((Keep.refl (fun _ => False) w).alloc _).alloc _, by omega⟩
    have := At.new (w.alloc (.cells (ncells t a c) 27)) nzeros 27
    rw [show (w.alloc (.cells (ncells t a c) 27)).heap.size = w.heap.size + 1 from by simp] at this
    exact this
  have hs0 : ((w.alloc (.cells (ncells t a c) 27)).alloc (.cells nzeros 27)).heap.size = w.heap.size + 2 := by simp
  have HI := Lib.hid (And.intro hR (And.intro hcnt ih))
  have HL := Lib.hid hL
  have HR := Lib.hid r0
  have HB := Lib.hid b0
  have hki : (t.kind != 5) = true := by simp [bne, hk5]
  have hzi : ((t.subs.length : Int) == 0) = false := by simp; omega
  clear ih hR hcnt hL r0 b0 hset h0 hk5
  go_enter Try.func19, Try.ntmps19
  go_upto_region 1 with fail
  generalize ((w.alloc (.cells (ncells t a c) 27)).alloc (.cells nzeros 27)) = W0 at *
  obtain ⟨⟨y0, y1, y2, y3, y4, y5, y6, y7⟩, -⟩ := cells8 HB.out
  have qa := (Keep.refl (fun _ => False) W0).alloc (.cells (ncells (.nd t.kind ST.none 0 0 []) none 0) 27)
  have A3 := At.new W0 (ncells (.nd t.kind ST.none 0 0 []) none 0) 27
  rw [hs0] at A3
  have P3 := Lib.hid A3
  have Q3 := Lib.hid qa
  clear qa A3
  go_upto_region 5 with fail
  change Code.wp _ _ _ _ (W0.alloc (.cells (ncells (.nd t.kind ST.none 0 0 []) none 0) 27))
  generalize (W0.alloc (.cells (ncells (.nd t.kind ST.none 0 0 []) none 0) 27)) = W1 at P3 Q3 ⊢
  have I0 := Lib.hid (show Wf w ok t.kind [] none 0 W1 from ⟨HR.out.next Q3.out, P3.out, OT.nil _ _, Own.nil _⟩)
  have B1 := Lib.hid (HB.out.keep Q3.out (fun h => h))
  clear y0 y1 y2 y3 y4 y5 y6 y7 hs0
  go_wp2_with fail
  go_loopg [4] t.subs.length (fun gg i wr => ∃ (j : Nat) (L : List T) (ga : Option Addr) (gc : Nat), i = .int .i64 j ∧ j + gg = t.subs.length ∧ L = (t.subs.take j).map plT ∧ Wf w ok t.kind L ga gc wr ∧ At wr w.heap.size 27 (ncells t a c))
  case atStart => exact ⟨0, [], none, 0, rfl, by omega, rfl, I0.out, B1.out⟩
  case round =>
    obtain ⟨j, L, ga, gc, rfl, hj, hLe, I, hb⟩ := hrel
    have j0 : (0 : Int) ≤ j := by omega
    have c7 := (cells8 hb).1.2.2.2.2.2.2.2
    have hbl := hb.lt
    by_cases hlt : j < t.subs.length
    · have hlt' : (j : Int) < t.subs.length := by omega
      obtain ⟨u, hu⟩ : ∃ u, t.subs[j]? = some u := ⟨t.subs[j], List.getElem?_eq_getElem hlt⟩
      obtain ⟨bl2, off2, a2, c2, ea, hok2, hb2, hle2, L2, C2⟩ := HL.out.get hu
      subst ea
      have hmem := List.mem_of_getElem? hu
      have HU := Lib.hid (fun (W : World) (q : Keep (fun _ => False) w W) => HI.out.2.2 u hmem d (sub_right HI.out.1.subs u hmem) (by have h1 := cntL_le hu; have h2 := cnt_eq t; have h3 := HI.out.2.1; omega) a2 c2 (fun k => ok k ∧ k < w.heap.size) W (L2.under.keepF q) hle2)
      have hLl : L.length = j := by rw [hLe, List.length_map, List.length_take]; omega
      have HJ := Lib.hid (show L.length ≤ 400000 by omega)
      have HLe := Lib.hid (show L ++ [plT u] = (t.subs.take (j + 1)).map plT by rw [List.take_add_one, hu, List.map_append, hLe]; rfl)
      have II := Lib.hid I
      have HSr := Lib.hid (fun (W' : World) (q : Keep (fun b => b = w.heap.size + 2 ∨ w.heap.size + 3 ≤ b) wr W') => (show W'.cell? ⟨w.heap.size, 7, none⟩ = some (.slice (some ⟨bl2, off2, none⟩) t.subs.length c) ∧ W'.cell? ⟨bl2, off2 + j * 8, none⟩ = some (.int .i64 u.kind) ∧ W'.cell? ⟨bl2, off2 + j * 8 + 1, none⟩ = some (.int .u64 u.set.x0) ∧ W'.cell? ⟨bl2, off2 + j * 8 + 2, none⟩ = some (.int .u64 u.set.x1) ∧ W'.cell? ⟨bl2, off2 + j * 8 + 3, none⟩ = some (.int .u64 u.set.x2) ∧ W'.cell? ⟨bl2, off2 + j * 8 + 4, none⟩ = some (.int .u64 u.set.x3) ∧ W'.cell? ⟨bl2, off2 + j * 8 + 5, none⟩ = some (.int .i64 u.mn) ∧ W'.cell? ⟨bl2, off2 + j * 8 + 6, none⟩ = some (.int .i64 u.mx) ∧ W'.cell? ⟨bl2, off2 + j * 8 + 7, none⟩ = some (.slice a2 u.subs.length c2) from
        ⟨(cells8 (hb.keep q (fun h => by have h : w.heap.size = w.heap.size + 2 ∨ w.heap.size + 3 ≤ w.heap.size := h; omega))).1.2.2.2.2.2.2.2, (((NodeP.mk hb2 C2).keepF I.rb.keep).keep q (fun h => by have h : bl2 = w.heap.size + 2 ∨ w.heap.size + 3 ≤ bl2 := h; omega)).eight⟩))
      have HBk := Lib.hid (fun (W' : World) (q : Keep (fun b => b = w.heap.size + 2 ∨ w.heap.size + 3 ≤ b) wr W') => (show At W' w.heap.size 27 (ncells t (some ⟨bl2, off2, none⟩) c) from hb.keep q (fun h => by have h : w.heap.size = w.heap.size + 2 ∨ w.heap.size + 3 ≤ w.heap.size := h; omega)))
      clear hLe I L2 C2 hle2 hmem hu hLl hb
      go_upto_region 8 with fail
      clear c7
      have l1 : wr.cell? ⟨w.heap.size + 2, 7, none⟩ = some (.slice ga L.length gc) := II.out.at_.cell (o := 7) rfl
      · skip
        refine wp_region_noPanic ?_
        refine wp_region_held_drew (S := (fun W => W.cell? ⟨w.heap.size, 7, none⟩ = some (.slice (some ⟨bl2, off2, none⟩) t.subs.length c) ∧ W.cell? ⟨bl2, off2 + j * 8, none⟩ = some (.int .i64 u.kind) ∧ W.cell? ⟨bl2, off2 + j * 8 + 1, none⟩ = some (.int .u64 u.set.x0) ∧ W.cell? ⟨bl2, off2 + j * 8 + 2, none⟩ = some (.int .u64 u.set.x1) ∧ W.cell? ⟨bl2, off2 + j * 8 + 3, none⟩ = some (.int .u64 u.set.x2) ∧ W.cell? ⟨bl2, off2 + j * 8 + 4, none⟩ = some (.int .u64 u.set.x3) ∧ W.cell? ⟨bl2, off2 + j * 8 + 5, none⟩ = some (.int .i64 u.mn) ∧ W.cell? ⟨bl2, off2 + j * 8 + 6, none⟩ = some (.int .i64 u.mx) ∧ W.cell? ⟨bl2, off2 + j * 8 + 7, none⟩ = some (.slice a2 u.subs.length c2))) (by kernel_rfl) ?_ (fun hHeld => ?_)
        · exact HSr.out _ (((Keep.refl (fun _ => False) wr).drew).mono (fun _ h => h.elim))
        refine wpAnyH_take (i := 0) (oi := { dst := some 27, op := Go.Op.fieldAddr 27 (Go.Operand.tmp 3) 4, type := 0, pos := "ref.go:35", after := #[], guard := none }) (v := ?_) rfl (by kernel_rfl) (by kernel_rfl) (by kernel_rfl) (fun _ _ _ h => h) (Or.inl ⟨by rfl, ?_⟩) (by assumption) ?_
        rotate_left 1
        · (intro w hSw; (try dsimp only at hSw); go_simp; first | done | with_reducible rfl)
        try simp only [Act.put, List.setIfInBounds_toArray, List.set_cons_zero, List.set_cons_succ]
        refine wpAnyH_take (i := 2) (oi := { dst := some 29, op := Go.Op.fieldAddr 27 (Go.Operand.tmp 1) 4, type := 0, pos := "ref.go:35", after := #[], guard := none }) (v := ?_) rfl (by kernel_rfl) (by kernel_rfl) (by kernel_rfl) (fun _ _ _ h => h) (Or.inl ⟨by rfl, ?_⟩) (by assumption) ?_
        rotate_left 1
        · (intro w hSw; (try dsimp only at hSw); go_simp; first | done | with_reducible rfl)
        try simp only [Act.put, List.setIfInBounds_toArray, List.set_cons_zero, List.set_cons_succ]
        refine wpAnyH_take (i := 3) (oi := { dst := some 30, op := Go.Op.load 25 (Go.Operand.tmp 29), type := 25, pos := "ref.go:35", after := #[{ on := 2, ground := Go.Ground.data }], guard := none }) (v := ?_) rfl (by kernel_rfl) (by kernel_rfl) (by kernel_rfl) (fun _ _ _ h => h) (Or.inl ⟨by rfl, ?_⟩) (by assumption) ?_
        rotate_left 1
        · (intro w hSw; (try dsimp only at hSw); go_simp; first | done | with_reducible rfl)
        try simp only [Act.put, List.setIfInBounds_toArray, List.set_cons_zero, List.set_cons_succ]
        refine wpAnyH_take (i := 4) (oi := { dst := some 31, op := Go.Op.move (Go.Operand.tmp 4), type := 3, pos := "ref.go:35", after := #[], guard := none }) (v := ?_) rfl (by kernel_rfl) (by kernel_rfl) (by kernel_rfl) (fun _ _ _ h => h) (Or.inl ⟨by rfl, ?_⟩) (by assumption) ?_
        rotate_left 1
        · (intro w hSw; (try dsimp only at hSw); go_simp; first | done | with_reducible rfl)
        try simp only [Act.put, List.setIfInBounds_toArray, List.set_cons_zero, List.set_cons_succ]
        refine wpAnyH_take (i := 5) (oi := { dst := some 32, op := Go.Op.indexAddr 25 (Go.Operand.tmp 30) (Go.Operand.tmp 31), type := 0, pos := "ref.go:35", after := #[{ on := 3, ground := Go.Ground.data }, { on := 4, ground := Go.Ground.data }], guard := none }) (v := ?_) rfl (by kernel_rfl) (by kernel_rfl) (by kernel_rfl) (fun _ _ _ h => h) (Or.inl ⟨by rfl, ?_⟩) (by assumption) ?_
        rotate_left 1
        · (intro w hSw; (try dsimp only at hSw); go_simp; first | done | with_reducible rfl)
        try simp only [Act.put, List.setIfInBounds_toArray, List.set_cons_zero, List.set_cons_succ]
        refine wpAnyH_take (i := 6) (oi := { dst := some 33, op := Go.Op.load 27 (Go.Operand.tmp 32), type := 27, pos := "ref.go:35", after := #[{ on := 5, ground := Go.Ground.data }], guard := none }) (v := ?_) rfl (by kernel_rfl) (by kernel_rfl) (by kernel_rfl) (fun _ _ _ h => h) (Or.inl ⟨by rfl, ?_⟩) (by assumption) ?_
        rotate_left 1
        · (intro w hSw; (try dsimp only at hSw); go_simp; first | done | with_reducible rfl)
        try simp only [Act.put, List.setIfInBounds_toArray, List.set_cons_zero, List.set_cons_succ]
        refine wpAnyH_ready (rs := [1, 7]) (by kernel_rfl) (by simp) ?_
        refine (AllReadyH.cons (o := { dst := some 28, op := Go.Op.load 25 (Go.Operand.tmp 27), type := 25, pos := "ref.go:35", after := #[{ on := 0, ground := Go.Ground.data }], guard := none }) rfl (fun K hK => ?_) (AllReadyH.cons (o := { dst := some 34, op := Go.Op.call { callee := Go.Callee.value (Go.Operand.func 19), args := #[Go.Operand.tmp 33], argTypes := #[27] }, type := 27, pos := "ref.go:35", after := #[{ on := 6, ground := Go.Ground.data }], guard := none }) rfl (fun K hK => ?_) AllReadyH.nil))
        go_simp
        refine hK.out _ _ ?_ (fun hHeld' => ?_)
        · first | exact HSr.out _ (((Keep.refl (fun _ => False) wr).drew).mono (fun _ h => h.elim)) | exact HSr.out _ ((((Keep.refl (fun _ => False) wr).drew).trans HC.out.2.2).mono (fun _ h => h.elim)) | exact HSr.out _ (KB.out.mono (fun _ h => h.elim))
        clear hK K hHeld
        have hHeld := hHeld'
        clear hHeld'
        try simp only [Act.put, List.setIfInBounds_toArray, List.set_cons_zero, List.set_cons_succ]
        refine wpAnyH_ready (rs := [7]) (by kernel_rfl) (by simp) ?_
        refine (AllReadyH.cons (o := { dst := some 34, op := Go.Op.call { callee := Go.Callee.value (Go.Operand.func 19), args := #[Go.Operand.tmp 33], argTypes := #[27] }, type := 27, pos := "ref.go:35", after := #[{ on := 6, ground := Go.Ground.data }], guard := none }) rfl (fun K hK => ?_) AllReadyH.nil)
        go_simp
        (go_at_call 19; refine (HU.out _ (II.out.rb.keep.trans ((Keep.refl (fun _ => False) wr).drew))).mono ?_; rintro e w2 ⟨⟨v, rfl, xa, xc, rfl, hxc, hxl⟩, q2⟩)
        have HC := Lib.hid (And.intro hxc (And.intro hxl q2))
        clear hxc hxl q2
        have l2 : w2.cell? ⟨w.heap.size + 2, 7, none⟩ = some (.slice ga L.length gc) := ((II.out.at_.keep (((Keep.refl (fun _ => False) wr).drew).trans HC.out.2.2) (fun h => h))).cell (o := 7) rfl
        refine hK.out _ _ ?_ (fun hHeld' => ?_)
        · exact HSr.out _ ((((Keep.refl (fun _ => False) wr).drew).trans HC.out.2.2).mono (fun _ h => h.elim))
        clear hK K hHeld
        have hHeld := hHeld'
        clear hHeld'
        try simp only [Act.put, List.setIfInBounds_toArray, List.set_cons_zero, List.set_cons_succ]
        refine wpAnyH_ready (rs := [8]) (by kernel_rfl) (by simp) ?_
        refine (AllReadyH.cons (o := { dst := some 35, op := Go.Op.buildSlice 25 1 #[(0, Go.Operand.tmp 34)], type := 25, pos := "ref.go:35", after := #[{ on := 7, ground := Go.Ground.data }], guard := none }) rfl (fun K hK => ?_) AllReadyH.nil)
        obtain ⟨v', w4, hrun, g1, g2, g3⟩ := II.out.push (((Keep.refl (fun _ => False) wr).drew).trans HC.out.2.2) (plT u) xa xc HC.out.1 HC.out.2.1 HJ.out 25
        have KB := Lib.hid ((((Keep.refl (fun _ => False) wr).drew).trans HC.out.2.2).alloc (.cells (ncells (plT u) xa xc) 27))
        have HG := Lib.hid (And.intro g1 (And.intro g2 g3))
        clear g1 g2 g3
        have l3 : (w2.alloc (.cells (ncells (plT u) xa xc) 27)).cell? ⟨w.heap.size + 2, 7, none⟩ = some (.slice ga L.length gc) := (II.out.at_.keep KB.out (fun h => h)).cell (o := 7) rfl
        go_simp
        refine hK.out _ (w2.alloc (.cells (ncells (plT u) xa xc) 27)) ?_ (fun hHeld' => ?_)
        · exact HSr.out _ (KB.out.mono (fun _ h => h.elim))
        clear hK K hHeld
        have hHeld := hHeld'
        clear hHeld'
        generalize (w2.alloc (.cells (ncells (plT u) xa xc) 27)) = wB at *
        try simp only [Act.put, List.setIfInBounds_toArray, List.set_cons_zero, List.set_cons_succ]
        refine wpAnyH_ready (rs := [9]) (by kernel_rfl) (by simp) ?_
        refine (AllReadyH.cons (o := { dst := some 36, op := Go.Op.call { callee := Go.Callee.builtin Go.Builtin.append, args := #[Go.Operand.tmp 28, Go.Operand.tmp 35], argTypes := #[25, 25] }, type := 25, pos := "ref.go:35", after := #[{ on := 1, ground := Go.Ground.data }, { on := 8, ground := Go.Ground.data }, { on := 7, ground := Go.Ground.chain }], guard := none }) rfl (fun K hK => ?_) AllReadyH.nil)
        obtain ⟨⟨d0, d1, d2, d3, d4, d5, d6, d7⟩, f0, f1, f2, f3, f4, f5, f6, f7⟩ := cells8 HG.out.1
        have hlt4 := HG.out.1.lt
        obtain ⟨a', c', rfl, HW9⟩ := HG.out.2.2
        have HN := Lib.hid HW9
        clear HW9
        refine step_append13 _ (by kernel_rfl) (.tmp 28) (.tmp 35) 25 25 rfl _ _ rfl rfl _ _ hrun ?_
        refine hK.out _ _ ?_ (fun hHeld' => ?_)
        · exact HSr.out _ HG.out.2.1
        clear hK K hHeld
        have hHeld := hHeld'
        clear hHeld'
        try simp only [Act.put, List.setIfInBounds_toArray, List.set_cons_zero, List.set_cons_succ]
        refine wpAnyH_take (i := 10) (oi := { dst := some 37, op := Go.Op.fieldAddr 27 (Go.Operand.tmp 3) 4, type := 0, pos := "ref.go:35", after := #[{ on := 0, ground := Go.Ground.phase }, { on := 1, ground := Go.Ground.phase }, { on := 2, ground := Go.Ground.phase }, { on := 3, ground := Go.Ground.phase }, { on := 4, ground := Go.Ground.phase }, { on := 5, ground := Go.Ground.phase }, { on := 6, ground := Go.Ground.phase }, { on := 7, ground := Go.Ground.phase }, { on := 8, ground := Go.Ground.phase }, { on := 9, ground := Go.Ground.phase }], guard := none }) (v := ?_) rfl (by kernel_rfl) (by kernel_rfl) (by kernel_rfl) (fun _ _ _ h => h) (Or.inl ⟨by rfl, ?_⟩) (by assumption) ?_
        rotate_left 1
        · (intro w hSw; (try dsimp only at hSw); go_simp; first | done | with_reducible rfl)
        try simp only [Act.put, List.setIfInBounds_toArray, List.set_cons_zero, List.set_cons_succ]
        refine wpAnyH_ready (rs := [11]) (by kernel_rfl) (by simp) ?_
        refine (AllReadyH.cons (o := { dst := none, op := Go.Op.store 25 (Go.Operand.tmp 37) (Go.Operand.tmp 36), type := 0, pos := "ref.go:35", after := #[{ on := 10, ground := Go.Ground.data }, { on := 9, ground := Go.Ground.data }, { on := 9, ground := Go.Ground.chain }, { on := 0, ground := Go.Ground.phase }, { on := 1, ground := Go.Ground.phase }, { on := 2, ground := Go.Ground.phase }, { on := 3, ground := Go.Ground.phase }, { on := 4, ground := Go.Ground.phase }, { on := 5, ground := Go.Ground.phase }, { on := 6, ground := Go.Ground.phase }, { on := 7, ground := Go.Ground.phase }, { on := 8, ground := Go.Ground.phase }, { on := 9, ground := Go.Ground.phase }], guard := none }) rfl (fun K hK => ?_) AllReadyH.nil)
        have K9 := Lib.hid (HG.out.2.1.setCell (p := ⟨w.heap.size + 2, 7, none⟩) (fun _ => .inl rfl) (.slice a' (L.length + 1) c'))
        go_simp
        refine hK.out _ (w4.setCell ⟨w.heap.size + 2, 7, none⟩ (.slice a' (L.length + 1) c')) ?_ (fun hHeld' => ?_)
        · exact HSr.out _ (HG.out.2.1.setCell (p := ⟨w.heap.size + 2, 7, none⟩) (fun _ => .inl rfl) (.slice a' (L.length + 1) c'))
        clear hK K hHeld
        have hHeld := hHeld'
        clear hHeld'
        generalize (w4.setCell ⟨w.heap.size + 2, 7, none⟩ (.slice a' (L.length + 1) c')) = W9 at *
        try simp only [Act.put, List.setIfInBounds_toArray, List.set_cons_zero, List.set_cons_succ]
        refine wpAnyH_done (by kernel_rfl) ?_ _
        refine NoPanic.normal ?_
        rotate_left 1
        go_simp
        (go_at_call 19; refine (HU.out _ (II.out.rb.keep.trans ((Keep.refl (fun _ => False) wr).drew))).mono ?_; rintro e w2 ⟨⟨v, rfl, xa, xc, rfl, hxc, hxl⟩, q2⟩)
        have HC := Lib.hid (And.intro hxc (And.intro hxl q2))
        clear hxc hxl q2
        have l2 : w2.cell? ⟨w.heap.size + 2, 7, none⟩ = some (.slice ga L.length gc) := ((II.out.at_.keep (((Keep.refl (fun _ => False) wr).drew).trans HC.out.2.2) (fun h => h))).cell (o := 7) rfl
        refine hK.out _ _ ?_ (fun hHeld' => ?_)
        · exact HSr.out _ ((((Keep.refl (fun _ => False) wr).drew).trans HC.out.2.2).mono (fun _ h => h.elim))
        clear hK K hHeld
        have hHeld := hHeld'
        clear hHeld'
        try simp only [Act.put, List.setIfInBounds_toArray, List.set_cons_zero, List.set_cons_succ]
        refine wpAnyH_ready (rs := [1, 8]) (by kernel_rfl) (by simp) ?_
        refine (AllReadyH.cons (o := { dst := some 28, op := Go.Op.load 25 (Go.Operand.tmp 27), type := 25, pos := "ref.go:35", after := #[{ on := 0, ground := Go.Ground.data }], guard := none }) rfl (fun K hK => ?_) (AllReadyH.cons (o := { dst := some 35, op := Go.Op.buildSlice 25 1 #[(0, Go.Operand.tmp 34)], type := 25, pos := "ref.go:35", after := #[{ on := 7, ground := Go.Ground.data }], guard := none }) rfl (fun K hK => ?_) AllReadyH.nil))
        go_simp
        refine hK.out _ _ ?_ (fun hHeld' => ?_)
        · first | exact HSr.out _ (((Keep.refl (fun _ => False) wr).drew).mono (fun _ h => h.elim)) | exact HSr.out _ ((((Keep.refl (fun _ => False) wr).drew).trans HC.out.2.2).mono (fun _ h => h.elim)) | exact HSr.out _ (KB.out.mono (fun _ h => h.elim))
        clear hK K hHeld
        have hHeld := hHeld'
        clear hHeld'
        try simp only [Act.put, List.setIfInBounds_toArray, List.set_cons_zero, List.set_cons_succ]
        refine wpAnyH_ready (rs := [8]) (by kernel_rfl) (by simp) ?_
        refine (AllReadyH.cons (o := { dst := some 35, op := Go.Op.buildSlice 25 1 #[(0, Go.Operand.tmp 34)], type := 25, pos := "ref.go:35", after := #[{ on := 7, ground := Go.Ground.data }], guard := none }) rfl (fun K hK => ?_) AllReadyH.nil)
        obtain ⟨v', w4, hrun, g1, g2, g3⟩ := II.out.push (((Keep.refl (fun _ => False) wr).drew).trans HC.out.2.2) (plT u) xa xc HC.out.1 HC.out.2.1 HJ.out 25
        have KB := Lib.hid ((((Keep.refl (fun _ => False) wr).drew).trans HC.out.2.2).alloc (.cells (ncells (plT u) xa xc) 27))
        have HG := Lib.hid (And.intro g1 (And.intro g2 g3))
        clear g1 g2 g3
        have l3 : (w2.alloc (.cells (ncells (plT u) xa xc) 27)).cell? ⟨w.heap.size + 2, 7, none⟩ = some (.slice ga L.length gc) := (II.out.at_.keep KB.out (fun h => h)).cell (o := 7) rfl
        go_simp
        refine hK.out _ (w2.alloc (.cells (ncells (plT u) xa xc) 27)) ?_ (fun hHeld' => ?_)
        · exact HSr.out _ (KB.out.mono (fun _ h => h.elim))
        clear hK K hHeld
        have hHeld := hHeld'
        clear hHeld'
        generalize (w2.alloc (.cells (ncells (plT u) xa xc) 27)) = wB at *
        try simp only [Act.put, List.setIfInBounds_toArray, List.set_cons_zero, List.set_cons_succ]
        refine wpAnyH_ready (rs := [9]) (by kernel_rfl) (by simp) ?_
        refine (AllReadyH.cons (o := { dst := some 36, op := Go.Op.call { callee := Go.Callee.builtin Go.Builtin.append, args := #[Go.Operand.tmp 28, Go.Operand.tmp 35], argTypes := #[25, 25] }, type := 25, pos := "ref.go:35", after := #[{ on := 1, ground := Go.Ground.data }, { on := 8, ground := Go.Ground.data }, { on := 7, ground := Go.Ground.chain }], guard := none }) rfl (fun K hK => ?_) AllReadyH.nil)
        obtain ⟨⟨d0, d1, d2, d3, d4, d5, d6, d7⟩, f0, f1, f2, f3, f4, f5, f6, f7⟩ := cells8 HG.out.1
        have hlt4 := HG.out.1.lt
        obtain ⟨a', c', rfl, HW9⟩ := HG.out.2.2
        have HN := Lib.hid HW9
        clear HW9
        refine step_append13 _ (by kernel_rfl) (.tmp 28) (.tmp 35) 25 25 rfl _ _ rfl rfl _ _ hrun ?_
        refine hK.out _ _ ?_ (fun hHeld' => ?_)
        · exact HSr.out _ HG.out.2.1
        clear hK K hHeld
        have hHeld := hHeld'
        clear hHeld'
        try simp only [Act.put, List.setIfInBounds_toArray, List.set_cons_zero, List.set_cons_succ]
        refine wpAnyH_take (i := 10) (oi := { dst := some 37, op := Go.Op.fieldAddr 27 (Go.Operand.tmp 3) 4, type := 0, pos := "ref.go:35", after := #[{ on := 0, ground := Go.Ground.phase }, { on := 1, ground := Go.Ground.phase }, { on := 2, ground := Go.Ground.phase }, { on := 3, ground := Go.Ground.phase }, { on := 4, ground := Go.Ground.phase }, { on := 5, ground := Go.Ground.phase }, { on := 6, ground := Go.Ground.phase }, { on := 7, ground := Go.Ground.phase }, { on := 8, ground := Go.Ground.phase }, { on := 9, ground := Go.Ground.phase }], guard := none }) (v := ?_) rfl (by kernel_rfl) (by kernel_rfl) (by kernel_rfl) (fun _ _ _ h => h) (Or.inl ⟨by rfl, ?_⟩) (by assumption) ?_
        rotate_left 1
        · (intro w hSw; (try dsimp only at hSw); go_simp; first | done | with_reducible rfl)
        try simp only [Act.put, List.setIfInBounds_toArray, List.set_cons_zero, List.set_cons_succ]
        refine wpAnyH_ready (rs := [11]) (by kernel_rfl) (by simp) ?_
        refine (AllReadyH.cons (o := { dst := none, op := Go.Op.store 25 (Go.Operand.tmp 37) (Go.Operand.tmp 36), type := 0, pos := "ref.go:35", after := #[{ on := 10, ground := Go.Ground.data }, { on := 9, ground := Go.Ground.data }, { on := 9, ground := Go.Ground.chain }, { on := 0, ground := Go.Ground.phase }, { on := 1, ground := Go.Ground.phase }, { on := 2, ground := Go.Ground.phase }, { on := 3, ground := Go.Ground.phase }, { on := 4, ground := Go.Ground.phase }, { on := 5, ground := Go.Ground.phase }, { on := 6, ground := Go.Ground.phase }, { on := 7, ground := Go.Ground.phase }, { on := 8, ground := Go.Ground.phase }, { on := 9, ground := Go.Ground.phase }], guard := none }) rfl (fun K hK => ?_) AllReadyH.nil)
        have K9 := Lib.hid (HG.out.2.1.setCell (p := ⟨w.heap.size + 2, 7, none⟩) (fun _ => .inl rfl) (.slice a' (L.length + 1) c'))
        go_simp
        refine hK.out _ (w4.setCell ⟨w.heap.size + 2, 7, none⟩ (.slice a' (L.length + 1) c')) ?_ (fun hHeld' => ?_)
        · exact HSr.out _ (HG.out.2.1.setCell (p := ⟨w.heap.size + 2, 7, none⟩) (fun _ => .inl rfl) (.slice a' (L.length + 1) c'))
        clear hK K hHeld
        have hHeld := hHeld'
        clear hHeld'
        generalize (w4.setCell ⟨w.heap.size + 2, 7, none⟩ (.slice a' (L.length + 1) c')) = W9 at *
        try simp only [Act.put, List.setIfInBounds_toArray, List.set_cons_zero, List.set_cons_succ]
        refine wpAnyH_done (by kernel_rfl) ?_ _
        refine NoPanic.normal ?_
        rotate_left 1
        obtain ⟨v', w4, hrun, g1, g2, g3⟩ := II.out.push (((Keep.refl (fun _ => False) wr).drew).trans HC.out.2.2) (plT u) xa xc HC.out.1 HC.out.2.1 HJ.out 25
        have KB := Lib.hid ((((Keep.refl (fun _ => False) wr).drew).trans HC.out.2.2).alloc (.cells (ncells (plT u) xa xc) 27))
        have HG := Lib.hid (And.intro g1 (And.intro g2 g3))
        clear g1 g2 g3
        have l3 : (w2.alloc (.cells (ncells (plT u) xa xc) 27)).cell? ⟨w.heap.size + 2, 7, none⟩ = some (.slice ga L.length gc) := (II.out.at_.keep KB.out (fun h => h)).cell (o := 7) rfl
        go_simp
        refine hK.out _ (w2.alloc (.cells (ncells (plT u) xa xc) 27)) ?_ (fun hHeld' => ?_)
        · exact HSr.out _ (KB.out.mono (fun _ h => h.elim))
        clear hK K hHeld
        have hHeld := hHeld'
        clear hHeld'
        generalize (w2.alloc (.cells (ncells (plT u) xa xc) 27)) = wB at *
        try simp only [Act.put, List.setIfInBounds_toArray, List.set_cons_zero, List.set_cons_succ]
        refine wpAnyH_ready (rs := [1]) (by kernel_rfl) (by simp) ?_
        refine (AllReadyH.cons (o := { dst := some 28, op := Go.Op.load 25 (Go.Operand.tmp 27), type := 25, pos := "ref.go:35", after := #[{ on := 0, ground := Go.Ground.data }], guard := none }) rfl (fun K hK => ?_) AllReadyH.nil)
        go_simp
        refine hK.out _ _ ?_ (fun hHeld' => ?_)
        · first | exact HSr.out _ (((Keep.refl (fun _ => False) wr).drew).mono (fun _ h => h.elim)) | exact HSr.out _ ((((Keep.refl (fun _ => False) wr).drew).trans HC.out.2.2).mono (fun _ h => h.elim)) | exact HSr.out _ (KB.out.mono (fun _ h => h.elim))
        clear hK K hHeld
        have hHeld := hHeld'
        clear hHeld'
        try simp only [Act.put, List.setIfInBounds_toArray, List.set_cons_zero, List.set_cons_succ]
        refine wpAnyH_ready (rs := [9]) (by kernel_rfl) (by simp) ?_
        refine (AllReadyH.cons (o := { dst := some 36, op := Go.Op.call { callee := Go.Callee.builtin Go.Builtin.append, args := #[Go.Operand.tmp 28, Go.Operand.tmp 35], argTypes := #[25, 25] }, type := 25, pos := "ref.go:35", after := #[{ on := 1, ground := Go.Ground.data }, { on := 8, ground := Go.Ground.data }, { on := 7, ground := Go.Ground.chain }], guard := none }) rfl (fun K hK => ?_) AllReadyH.nil)
        obtain ⟨⟨d0, d1, d2, d3, d4, d5, d6, d7⟩, f0, f1, f2, f3, f4, f5, f6, f7⟩ := cells8 HG.out.1
        have hlt4 := HG.out.1.lt
        obtain ⟨a', c', rfl, HW9⟩ := HG.out.2.2
        have HN := Lib.hid HW9
        clear HW9
        refine step_append13 _ (by kernel_rfl) (.tmp 28) (.tmp 35) 25 25 rfl _ _ rfl rfl _ _ hrun ?_
        refine hK.out _ _ ?_ (fun hHeld' => ?_)
        · exact HSr.out _ HG.out.2.1
        clear hK K hHeld
        have hHeld := hHeld'
        clear hHeld'
        try simp only [Act.put, List.setIfInBounds_toArray, List.set_cons_zero, List.set_cons_succ]
        refine wpAnyH_take (i := 10) (oi := { dst := some 37, op := Go.Op.fieldAddr 27 (Go.Operand.tmp 3) 4, type := 0, pos := "ref.go:35", after := #[{ on := 0, ground := Go.Ground.phase }, { on := 1, ground := Go.Ground.phase }, { on := 2, ground := Go.Ground.phase }, { on := 3, ground := Go.Ground.phase }, { on := 4, ground := Go.Ground.phase }, { on := 5, ground := Go.Ground.phase }, { on := 6, ground := Go.Ground.phase }, { on := 7, ground := Go.Ground.phase }, { on := 8, ground := Go.Ground.phase }, { on := 9, ground := Go.Ground.phase }], guard := none }) (v := ?_) rfl (by kernel_rfl) (by kernel_rfl) (by kernel_rfl) (fun _ _ _ h => h) (Or.inl ⟨by rfl, ?_⟩) (by assumption) ?_
        rotate_left 1
        · (intro w hSw; (try dsimp only at hSw); go_simp; first | done | with_reducible rfl)
        try simp only [Act.put, List.setIfInBounds_toArray, List.set_cons_zero, List.set_cons_succ]
        refine wpAnyH_ready (rs := [11]) (by kernel_rfl) (by simp) ?_
        refine (AllReadyH.cons (o := { dst := none, op := Go.Op.store 25 (Go.Operand.tmp 37) (Go.Operand.tmp 36), type := 0, pos := "ref.go:35", after := #[{ on := 10, ground := Go.Ground.data }, { on := 9, ground := Go.Ground.data }, { on := 9, ground := Go.Ground.chain }, { on := 0, ground := Go.Ground.phase }, { on := 1, ground := Go.Ground.phase }, { on := 2, ground := Go.Ground.phase }, { on := 3, ground := Go.Ground.phase }, { on := 4, ground := Go.Ground.phase }, { on := 5, ground := Go.Ground.phase }, { on := 6, ground := Go.Ground.phase }, { on := 7, ground := Go.Ground.phase }, { on := 8, ground := Go.Ground.phase }, { on := 9, ground := Go.Ground.phase }], guard := none }) rfl (fun K hK => ?_) AllReadyH.nil)
        have K9 := Lib.hid (HG.out.2.1.setCell (p := ⟨w.heap.size + 2, 7, none⟩) (fun _ => .inl rfl) (.slice a' (L.length + 1) c'))
        go_simp
        refine hK.out _ (w4.setCell ⟨w.heap.size + 2, 7, none⟩ (.slice a' (L.length + 1) c')) ?_ (fun hHeld' => ?_)
        · exact HSr.out _ (HG.out.2.1.setCell (p := ⟨w.heap.size + 2, 7, none⟩) (fun _ => .inl rfl) (.slice a' (L.length + 1) c'))
        clear hK K hHeld
        have hHeld := hHeld'
        clear hHeld'
        generalize (w4.setCell ⟨w.heap.size + 2, 7, none⟩ (.slice a' (L.length + 1) c')) = W9 at *
        try simp only [Act.put, List.setIfInBounds_toArray, List.set_cons_zero, List.set_cons_succ]
        refine wpAnyH_done (by kernel_rfl) ?_ _
        refine NoPanic.normal ?_
        rotate_left 1
        all_goals
          go_wp2_with fail
          go_roundg (t.subs.length - (j + 1))
          case measure => omega
          case rel => exact ⟨j + 1, _, a', c', by go_num, by omega, HLe.out, HN.out, HBk.out _ K9.out⟩
    · have hje : j = t.subs.length := by omega
      rw [hje, List.take_length] at hLe
      have II := Lib.hid I
      have hlt' : ¬ (j : Int) < t.subs.length := by omega
      clear I hje hlt hb
      obtain ⟨Y, hY⟩ : ∃ Y, T.nd t.kind ST.none 0 0 L = Y := ⟨_, rfl⟩
      have hA := II.out.at_
      have hYs : Y.subs = L := by rw [← hY]; rfl
      rw [hY] at hA
      have HY := Lib.hid (And.intro (hLe ▸ hY : T.nd t.kind ST.none 0 0 (t.subs.map plT) = Y) hYs)
      obtain ⟨ga', gc', er, hrc, hrl⟩ := II.out.row.form
      injection er with er1 er2 er3
      subst er1 er3
      rw [← hYs] at hrc hrl
      have HG := Lib.hid (II.out.rb.gives (ok := ok) (t := Y) hrc (hrl.mono fun k hk => by
        rcases hk with hk | hk
        · exact ⟨.inl hk.1, by omega⟩
        · exact ⟨.inr (by omega), by omega⟩))
      have hP9 := Lib.hid (II.out.rb.put Y ga gc)
      obtain ⟨⟨d0, d1, d2, d3, d4, d5, d6, d7⟩, f0, f1, f2, f3, f4, f5, f6, f7⟩ := cells8 II.out.rb.out
      obtain ⟨⟨x0, x1, x2, x3, x4, x5, x6, x7⟩, -⟩ := cells8 hA
      have hlt3 := II.out.rb.out.lt
      clear hLe hY hYs hA hrc hrl er2
      go_wp2_with fail
      change bodyPost _ _ _ _ _ (putNd wr (w.heap.size + 1) 0 Y ga gc)
      have hP := hP9.out
      have hG := HG.out
      generalize (putNd wr (w.heap.size + 1) 0 Y ga gc) = W8 at hP hG ⊢
      obtain ⟨⟨e0, e1, e2, e3, e4, e5, e6, e7⟩, -⟩ := cells8 hP.1
      exact bodyPost_ret (v := nodeV Y ga gc) (by simp [results, Try.results19, go_sem, e0, e1, e2, e3, e4, e5, e6, e7]) rfl (by rw [HY.out.1]; exact hG)

set_option maxRecDepth 100000 in
set_option maxHeartbeats 32000000 in
theorem fp_rep (d : Nat) (v : T) (mn mx : Int) (hv : RT d v) (b0 : 0 ≤ mn) (b1 : mn ≤ 20) (bx : mx = -1 ∨ mn ≤ mx ∧ mx ≤ 20) (hcv : cnt v ≤ 400000) (ih : FpOk v) (a : Option Addr) (c : Nat) (ok : Nat → Prop) (w : World) (hL : Lie w ok a [v]) :
    Calls Try.prog 19 #[nodeV (.nd 5 ST.none mn mx [v]) a c] w (Gives w ok (plT (.nd 5 ST.none mn mx [v]))) := by
  obtain ⟨bl2, off2, a2, c2, ea, hok2, hb2, hle2, L2, C2⟩ := hL.get (i := 0) (t := v) rfl
  subst ea
  obtain ⟨m, rfl⟩ : ∃ m : Nat, mn = m := ⟨mn.toNat, by omega⟩
  rw [plT_rep]
  obtain ⟨s, hs⟩ : ∃ s, plT v = s := ⟨_, rfl⟩
  have HW := Lib.hid (fun W (q : Keep (fun _ => False) w W) => ih d hv hcv a2 c2 (fun k => ok k ∧ k < w.heap.size) W (L2.under.keepF q) hle2)
  rw [hs] at HW ⊢
  have hN2 : NodeP w bl2 off2 v a2 c2 := ⟨hb2, fun j x hx => by have := C2 j x hx; rw [Nat.zero_mul, Nat.add_zero] at this; exact this⟩
  have b0' := (At.new w (ncells (.nd 5 ST.none m mx [v]) (some ⟨bl2, off2, none⟩) c) 27).alloc (.cells nzeros 27)
  have r0 : Rb w (w.heap.size + 1) ((w.alloc (.cells (ncells (.nd 5 ST.none m mx [v]) (some ⟨bl2, off2, none⟩) c) 27)).alloc (.cells nzeros 27)) := by
    refine ⟨?_, ((Keep.refl (fun _ => False) w).alloc _).alloc _, by omega⟩
    have := At.new (w.alloc (.cells (ncells (.nd 5 ST.none m mx [v]) (some ⟨bl2, off2, none⟩) c) 27)) nzeros 27
    rw [show (w.alloc (.cells (ncells (.nd 5 ST.none m mx [v]) (some ⟨bl2, off2, none⟩) c) 27)).heap.size = w.heap.size + 1 from by simp] at this
    exact this
  have HR := Lib.hid r0
  have HB := Lib.hid b0'
  have HN2 := Lib.hid (hN2.keepF r0.keep)
  have HX := Lib.hid bx
  have hm20 : m ≤ 20 := by omega
  clear r0 b0' hN2 ih hL L2 C2 hle2 hb2 hok2 hv hcv hs bx b0 b1
  go_enter Try.func19, Try.ntmps19
  go_upto_region 1 with fail
  generalize ((w.alloc (.cells (ncells (.nd 5 ST.none m mx [v]) (some ⟨bl2, off2, none⟩) c) 27)).alloc (.cells nzeros 27)) = W0 at *
  have y0 : W0.cell? ⟨w.heap.size, 0, none⟩ = some (.int .i64 5) := (cells8 HB.out).1.1
  have y7 : W0.cell? ⟨w.heap.size, 7, none⟩ = some (.slice (some ⟨bl2, off2, none⟩) 1 c) := (cells8 HB.out).1.2.2.2.2.2.2.2
  obtain ⟨x0, x1, x2, x3, x4, x5, x6, x7⟩ := HN2.out.eight
  go_wp2_with fail
  refine (HW.out _ HR.out.keep).mono ?_
  rintro e w2 ⟨⟨_, rfl, xa, xc, rfl, hxc, hxl⟩, q2⟩
  have hsz0 := HR.out.out.lt
  have hsz2 := q2.size
  have qa := (Keep.refl (fun _ => False) w2).alloc (.cells (ncells s xa xc) 27)
  have A5 := At.new w2 (ncells s xa xc) 27
  have R5 := Lib.hid (And.intro (HR.out.next (q2.trans qa)) (And.intro (HB.out.keep (q2.trans qa) (fun h => h)) (And.intro A5 (And.intro hxc ((hxl.under.keepF qa).mono (ok' := fun k => (ok k ∨ w.heap.size ≤ k) ∧ k ≠ w.heap.size + 1 ∧ k < w2.heap.size) fun k hk => by
    rcases hk with ⟨hk | hk, hl⟩
    · exact ⟨.inl hk.1, by omega, hl⟩
    · exact ⟨.inr (by omega), by omega, hl⟩)))))
  have hn5 : w.heap.size + 1 < w2.heap.size := by omega
  have hs5 : (w2.alloc (.cells (ncells s xa xc) 27)).heap.size = w2.heap.size + 1 := by simp
  clear q2 qa A5 hxc hxl hsz0 hsz2 x0 x1 x2 x3 x4 x5 x6 x7 y0 y7
  go_upto_region 11 with fail
  change Code.wp _ _ _ _ (w2.alloc (.cells (ncells s xa xc) 27))
  generalize (w2.alloc (.cells (ncells s xa xc) 27)) = W5 at *
  generalize w2.heap.size = n5 at *
  obtain ⟨E, hE⟩ : ∃ E : Nat → Prop, E = fun k => (ok k ∨ w.heap.size ≤ k) ∧ k ≠ w.heap.size + 1 := ⟨_, rfl⟩
  have H5 := Lib.hid (And.intro hE (And.intro hn5 hs5))
  have G0 := Lib.hid (Gq.start W5 E)
  have HS := Lib.hid (fun (W : World) (q : Keep (fun _ => False) W5 W) => (show Lie W (fun k => (E k ∧ k < W5.heap.size) ∨ W.heap.size ≤ k) xa s.subs from (R5.out.2.2.2.2.keepF q).mono fun k hk => .inl ⟨by rw [hE]; exact ⟨hk.1, hk.2.1⟩, by have := hk.2.2; omega⟩))
  clear hE hn5 hs5
  go_wp2_with fail
  go_loopg [6, 7] m (fun gg u i wr => ∃ j : Nat, i = .int .i64 j ∧ j + gg = m ∧ Gq W5 E u (List.replicate j s) wr)
  case atStart => exact ⟨0, rfl, by omega, G0.out⟩
  case round =>
    obtain ⟨j, rfl, hj, I⟩ := hrel
    have j0 : (0 : Int) ≤ j := by omega
    have y5 : wr.cell? ⟨w.heap.size, 5, none⟩ = some (.int .i64 m) := (cells8 (R5.out.2.1.keep I.keep (fun h => h))).1.2.2.2.2.2.1
    have y6 : wr.cell? ⟨w.heap.size, 6, none⟩ = some (.int .i64 mx) := (cells8 (R5.out.2.1.keep I.keep (fun h => h))).1.2.2.2.2.2.2.1
    obtain ⟨x0, x1, x2, x3, x4, x5, x6, x7⟩ := (cells8 (R5.out.2.2.1.keep I.keep (fun h => h))).1
    by_cases hlt : j < m
    · have hlt' : (j : Int) < m := by omega
      obtain ⟨v', w3, hrun, hG, -⟩ := I.push (Keep.refl _ wr) s xa xc R5.out.2.2.2.1 (HS.out wr I.keep) (by rw [List.length_replicate]; omega) 25
      have HG := Lib.hid hG
      clear hG I
      go_wp2_with (at_builtin; refine Lib.wpList_append_run _ rfl _ _ _ _ rfl _ _ rfl rfl _ _ hrun ?_)
      go_roundg (m - (j + 1))
      case measure => omega
      case rel => exact ⟨j + 1, by go_num, by omega, by rw [List.replicate_succ']; exact HG.out⟩
    · have hje : m = j := by omega
      subst hje
      clear hj hlt
      have II := Lib.hid I
      clear I
      go_upto_if 56 with fail
      go_cut [6] (fun u wx => Gq W5 E u (List.replicate m s ++ (if mx < 0 then [starP s] else [])) wx)
      case first =>
        rcases HX.out with hx | ⟨hx1, hx2⟩
        · subst hx
          obtain ⟨v', w3, hrun, hG, -⟩ := II.out.star (Keep.refl _ wr) s xa xc R5.out.2.2.2.1 (HS.out wr II.out.keep) (by rw [List.length_replicate]; omega) 25
          have HG := Lib.hid (show Gq W5 E v' (List.replicate m s ++ (if (-1 : Int) < 0 then [starP s] else [])) w3 from by rw [if_pos (by omega)]; exact hG)
          clear hG
          go_wp2_with (at_builtin; refine Lib.wpList_append_run _ rfl _ _ _ _ rfl _ _ rfl rfl _ _ hrun ?_)
          go_meet
          case rel => exact HG.out
        · have hx3 : ¬ mx < 0 := by omega
          have HG := Lib.hid (show Gq W5 E u6 (List.replicate m s ++ (if mx < 0 then [starP s] else [])) wr from by rw [if_neg hx3, List.append_nil]; exact II.out)
          go_wp2_with fail
          go_meet
          case rel => exact HG.out
      case rest =>
        obtain ⟨L0, hL0⟩ : ∃ L0, List.replicate m s ++ (if mx < 0 then [starP s] else []) = L0 := ⟨_, rfl⟩
        rw [hL0] at hcut
        have hl0 : L0.length ≤ 21 := by
          rw [← hL0, List.length_append, List.length_replicate]
          split <;> simp <;> omega
        obtain ⟨K, hK⟩ : ∃ K : Nat, K = (mx - m).toNat := ⟨_, rfl⟩
        have hT : tmsP (m : Int) mx s = L0 ++ List.replicate K (optP s) := by
          unfold tmsP
          rw [← hL0, Int.toNat_natCast, hK]
          by_cases hx : mx < 0
          · rw [if_pos hx, if_pos hx, show (mx - (m : Int)).toNat = 0 by omega, List.replicate_zero, List.append_nil]
          · rw [if_neg hx, if_neg hx, List.append_nil]
        have hK20 : K ≤ 20 := by rcases HX.out with h | h <;> omega
        have hKm : ∀ k : Nat, ((m : Int) + k < mx ↔ k < K) := fun k => by omega
        have IC := Lib.hid hcut
        have HT := Lib.hid hT
        have HKm := Lib.hid hKm
        have y5 : ∀ wx, Keep (fun _ => False) W5 wx → wx.cell? ⟨w.heap.size, 5, none⟩ = some (.int .i64 m) ∧ wx.cell? ⟨w.heap.size, 6, none⟩ = some (.int .i64 mx) := fun wx q => ⟨(cells8 (R5.out.2.1.keep q (fun h => h))).1.2.2.2.2.2.1, (cells8 (R5.out.2.1.keep q (fun h => h))).1.2.2.2.2.2.2.1⟩
        have HY := Lib.hid y5
        have g5 := (y5 _ hcut.keep).1
        clear hcut hT hKm y5 x0 x1 x2 x3 x4 x5 x6 x7 hK hL0 y6
        go_wp2_with fail
        clear g5
        go_loopg [6, 8] K (fun gg u i wz => ∃ k : Nat, i = .int .i64 ((m : Int) + k) ∧ k + gg = K ∧ Gq W5 E u (L0 ++ List.replicate k (optP s)) wz)
        case atStart => exact ⟨0, by simp, by omega, by rw [List.replicate_zero, List.append_nil]; exact IC.out⟩
        case round =>
          obtain ⟨k, rfl, hk, I⟩ := hrel
          have g6 := (HY.out _ I.keep).2
          obtain ⟨x0, x1, x2, x3, x4, x5, x6, x7⟩ := (cells8 (R5.out.2.2.1.keep I.keep (fun h => h))).1
          by_cases hlt : k < K
          · have hlt' : (m : Int) + k < mx := (HKm.out k).2 hlt
            obtain ⟨v', w3, hrun, hG, -⟩ := I.opt (Keep.refl _ _) s xa xc R5.out.2.2.2.1 (HS.out _ I.keep) (by rw [List.length_append, List.length_replicate]; omega) 25
            have HG := Lib.hid hG
            clear hG I
            go_wp2_with (at_builtin; refine Lib.wpList_append_run _ rfl _ _ _ _ rfl _ _ rfl rfl _ _ hrun ?_)
            go_roundg (K - (k + 1))
            case measure => omega
            case rel => exact ⟨k + 1, by go_num, by omega, by rw [List.replicate_succ', ← List.append_assoc]; exact HG.out⟩
          · have hlt' : ¬ (m : Int) + k < mx := fun h => hlt ((HKm.out k).1 h)
            have hke : k = K := by omega
            rw [hke, ← HT.out] at I
            clear hlt hk hke
            obtain ⟨M, hM⟩ : ∃ M, tmsP (m : Int) mx s = M := ⟨_, rfl⟩
            have HM := Lib.hid hM
            rw [hM] at I
            have hMl : M.length ≤ 100 := by
              rw [← hM, HT.out, List.length_append, List.length_replicate]
              omega
            obtain ⟨a', cap', rfl, hle, hlie⟩ := I.row.form
            have RZ := Lib.hid (R5.out.1.next I.keep)
            have HE := H5.out.1
            have hlie2 : Lie _ (fun k => (ok k ∨ w.heap.size ≤ k) ∧ k ≠ w.heap.size + 1) a' M := hlie.mono fun k hk => by
              have h5 := H5.out.2.1
              have h6 := H5.out.2.2
              rcases hk with hk | hk
              · have := hk.1
                rw [HE] at this
                exact this
              · exact ⟨.inr (by omega), by omega⟩
            have HLZ := Lib.hid (And.intro hle hlie2)
            clear I hlie hlie2 HE x0 x1 x2 x3 x4 x5 x6 x7 hM
            match M, HLZ, HM, hMl with
            | [], HLZ, HM, hMl =>
              obtain ⟨⟨d0, d1, d2, d3, d4, d5, d6, d7⟩, f0, f1, f2, f3, f4, f5, f6, f7⟩ := cells8 RZ.out.out
              have hltz := RZ.out.out.lt
              have hP9 := Lib.hid (RZ.out.put epsT none 0)
              have HG := Lib.hid (RZ.out.gives (ok := ok) (t := epsT) (a := none) (c := 0) (Nat.le_refl 0) (.nil _))
              clear hMl
              go_wp2_with fail
              change bodyPost _ _ _ _ _ (putNd _ (w.heap.size + 1) 0 epsT none 0)
              have hP := hP9.out
              have hG := HG.out
              generalize (putNd _ (w.heap.size + 1) 0 epsT none 0) = W8 at hP hG ⊢
              obtain ⟨⟨e0, e1, e2, e3, e4, e5, e6, e7⟩, -⟩ := cells8 hP.1
              exact bodyPost_ret (v := nodeV epsT none 0) (by simp [results, Try.results19, go_sem, e0, e1, e2, e3, e4, e5, e6, e7]) rfl (by rw [HM.out]; exact hG)
            | [x], HLZ, HM, hMl =>
              obtain ⟨bl5, off5, xa5, xc5, rfl, hok5, hbl5, hc5, L5, C5⟩ := HLZ.out.2.get (i := 0) (t := x) rfl
              have hcap1 : 1 ≤ cap' := HLZ.out.1
              obtain ⟨x0, x1, x2, x3, x4, x5, x6, x7⟩ := ncell C5
              rw [Nat.zero_mul, Nat.add_zero] at x0 x1 x2 x3 x4 x5 x6 x7
              obtain ⟨⟨d0, d1, d2, d3, d4, d5, d6, d7⟩, f0, f1, f2, f3, f4, f5, f6, f7⟩ := cells8 RZ.out.out
              have hltz := RZ.out.out.lt
              have hP9 := Lib.hid (RZ.out.put x xa5 xc5)
              have HG := Lib.hid (RZ.out.gives (ok := ok) (t := x) hc5 L5)
              clear hMl L5 C5 hc5 hok5 hbl5
              go_wp2_with fail
              change bodyPost _ _ _ _ _ (putNd _ (w.heap.size + 1) 0 x xa5 xc5)
              have hP := hP9.out
              have hG := HG.out
              generalize (putNd _ (w.heap.size + 1) 0 x xa5 xc5) = W8 at hP hG ⊢
              obtain ⟨⟨e0, e1, e2, e3, e4, e5, e6, e7⟩, -⟩ := cells8 hP.1
              exact bodyPost_ret (v := nodeV x xa5 xc5) (by simp [results, Try.results19, go_sem, e0, e1, e2, e3, e4, e5, e6, e7]) rfl (by rw [HM.out]; exact hG)
            | x :: y :: M', HLZ, HM, hMl =>
              obtain ⟨Q, hQ⟩ : ∃ Q, x :: y :: M' = Q := ⟨_, rfl⟩
              have h2 : 2 ≤ Q.length := by rw [← hQ]; simp
              have hrow : rowP Q = .nd 3 ST.none 0 0 Q := rowP_two h2
              rw [hQ] at HLZ HM hMl ⊢
              obtain ⟨⟨d0, d1, d2, d3, d4, d5, d6, d7⟩, f0, f1, f2, f3, f4, f5, f6, f7⟩ := cells8 RZ.out.out
              have hltz := RZ.out.out.lt
              have hP9 := Lib.hid (RZ.out.put (.nd 3 ST.none 0 0 Q) a' cap')
              have HG := Lib.hid (show Gives w ok (rowP Q) _ _ from by rw [hrow]; exact RZ.out.gives (ok := ok) (t := .nd 3 ST.none 0 0 Q) HLZ.out.1 HLZ.out.2)
              have hq0 : ((Q.length : Int) == 0) = false := by rw [beq_eq_false_iff_ne]; omega
              have hq1 : ((Q.length : Int) == 1) = false := by rw [beq_eq_false_iff_ne]; omega
              clear hMl hQ hrow
              go_wp2_with fail
              change bodyPost _ _ _ _ _ (putNd _ (w.heap.size + 1) 0 (.nd 3 ST.none 0 0 Q) a' cap')
              have hP := hP9.out
              have hG := HG.out
              generalize (putNd _ (w.heap.size + 1) 0 (.nd 3 ST.none 0 0 Q) a' cap') = W8 at hP hG ⊢
              obtain ⟨⟨e0, e1, e2, e3, e4, e5, e6, e7⟩, -⟩ := cells8 hP.1
              exact bodyPost_ret (v := nodeV (.nd 3 ST.none 0 0 Q) a' cap') (by simp [results, Try.results19, go_sem, e0, e1, e2, e3, e4, e5, e6, e7]) rfl (by rw [HM.out]; exact hG)

theorem fp_step (t : T) (ih : ∀ u ∈ t.subs, FpOk u) : FpOk t := by
  intro d hR hcnt a c ok w hL hc
  by_cases h0 : t.subs = []
  · exact fp_leaf t d hR h0 a c ok w
  by_cases h5 : t.kind = 5
  · obtain ⟨u, mn, mx, e, b0, b1, bx, -⟩ := rep_is hR h5
    subst e
    have hm : u ∈ (T.nd 5 ST.none mn mx [u]).subs := List.mem_singleton.2 rfl
    refine fp_rep d u mn mx (sub_right hR.subs u hm) b0 b1 bx ?_ (ih u hm) a c ok w hL
    rw [cnt, cntL] at hcnt
    omega
  · exact fp_node t d hR hcnt h5 h0 ih a c ok w hL
theorem fp_all : ∀ (n : Nat) (t : T), SizeOf.sizeOf t < n → FpOk t
  | 0, _, h => absurd h (Nat.not_lt_zero _)
  | n + 1, t, h => fp_step t fun u hu => fp_all n u (by have := subs_lt hu; omega)
theorem fplain_any (t : T) : FpOk t := fp_all _ t (Nat.lt_succ_self _)
end Go.Proofs.Ythcjfgfbeollpaa.P13
