/- PartsMore, over what package parts keeps (Holds). -/
import Derived.Test.YtidfjeliofgpmaaDoorLaw05Tell
import Derived.Test.YtidfjeliofgpmaaDoorPart
import Derived.Deep.RegionHeld3
import Derived.Deep.DeepCutAuto
import Derived.Deep.CutBlock
import Derived.BigQuiet
namespace Go.Proofs.YtidfjeliofgpmaaDoor.Parts
open Go.RowKit Go.Proofs.YtidfjeliofgpmaaDoor.Base Go.Proofs.YtidfjeliofgpmaaDoor.Sets Go.Proofs.YtidfjeliofgpmaaDoor.Bytes Go.Proofs.YtidfjeliofgpmaaDoor.SetL Go.Proofs.YtidfjeliofgpmaaDoor.OL Go.Proofs.YtidfjeliofgpmaaDoor.Cls Go.Proofs.YtidfjeliofgpmaaDoor.IL

theorem step_append_run {P : Program} (w : World) {ops : Array Oper} {o : Oper} {a : Act} {K : Act → World → Prop} {Q : Exit → Act → World → Prop} {E : Prop} (hgd : o.guard = none) (s x : Operand) (t tn : TypeId)
    (ho : o.op = .call { callee := .builtin .append, args := #[s, x], argTypes := #[t, tn] }) (vs vx : Value) (hs : a.eval s = vs) (hx : a.eval x = vx)
    (v' : Value) (w' : World) (hr : (Builtin.append_ #[t, tn] o.type #[vs, vx]).run P w = .ok v' w') (h : K (a.put o.dst v') w') :
    if Region.wanted o (yielded ops a.tmps) = true then Oper.wp P o a w K Q else E := by
  have hw : Region.wanted o (yielded ops a.tmps) = true := by simp [Region.wanted, hgd]
  rw [if_pos hw]
  exact Lib.wp_append_run w s x t tn ho vs vx hs hx v' w' hr h

/-- append of a list to an empty slice, then of one set that lies elsewhere. -/
theorem two_appends {b w0 : World} {v0 : Value} {g0 g1 : Nat} {s : ST} (h0 : OL w0 v0 []) (hg0 : v0.ownBlock = some g0) (hb0 : b.heap.size ≤ g0) (hs : OL w0 (.slice (some ⟨g1, 0, none⟩) 1 1) [s]) (hne : g1 ≠ g0) (q : Keep (fun _ => False) b w0)
    {a : Option Addr} {cap : Nat} {L : List ST} (hl : L.length ≤ 1000) (hL : SL b a L) (ty1 ty2 : TypeId) :
    ∃ v1 w1 v2 w2, (Builtin.append_ #[22, 22] ty1 #[v0, .slice a L.length cap]).run Tryd.prog w0 = .ok v1 w1 ∧ (Builtin.append_ #[22, 22] ty2 #[v1, .slice (some ⟨g1, 0, none⟩) 1 1]).run Tryd.prog w1 = .ok v2 w2 ∧
      OL w2 v2 (L ++ [s]) ∧ Keep (fun _ => False) b w1 ∧ Keep (fun _ => False) b w2 := by
  obtain ⟨v1, w1, hr1, o1, k1, f1⟩ := h0.append L a cap (hL.keep q (fun _ _ h => h)) (by simp; omega) ty1
  have hs1 := hs.keep k1 (fun g hg h => by
    have e1 : some g1 = some g := hg
    injection e1 with e1
    have e2 : v0.ownBlock = some g := h
    rw [hg0] at e2
    injection e2 with e2
    omega)
  obtain ⟨sa, sc, e, hsl, -⟩ := hs1.form
  injection e with e1 e2 e3
  subst e1 e3
  have q1 : Keep (fun _ => False) b w1 := q.next k1 (fun i hi hl => by
    have e2 : v0.ownBlock = some i := hi
    rw [hg0] at e2
    injection e2 with e2
    omega)
  obtain ⟨v2, w2, hr2, o2, k2, f2⟩ := o1.append [s] (some ⟨g1, 0, none⟩) 1 hsl (by simp; omega) ty2
  refine ⟨v1, w1, v2, w2, hr1, hr2, by simpa using o2, q1, q1.next k2 (fun i hi hl => ?_)⟩
  rcases f1 i hi with h | h
  · rw [hg0] at h
    injection h with h
    omega
  · have := q.size
    omega

/-- One set more: no fewer classes; the same in another order; each class in one of before. -/
theorem more_ncl (L : List ST) (s : ST) : ncl (key L) ≤ ncl (key (L ++ [s])) := ncl_mono fun a b _ _ h => ((Part.key_append L s a b).1 h).1
theorem more_row (L : List ST) (s : ST) : arr8 (fun i => (cls (key (s :: L)) i : Int)) = arr8 fun i => (cls (key (L ++ [s])) i : Int) := arr8_congr fun i hi => by
  rw [cls_congr (K := key (s :: L)) (J := key (L ++ [s])) (fun a b _ _ => key_same (by simp [or_comm]) a b) hi]
theorem more_in (L : List ST) (s : ST) (b : Nat) : (ofC (L ++ [s]) (cls (key (L ++ [s])) b)).and (ofC L (cls (key L) b)) = ofC (L ++ [s]) (cls (key (L ++ [s])) b) := ST.ext (ST.and_ok (Part.ofC_ok _ _)) (Part.ofC_ok _ _) fun x hx => by
  rw [ST.has_and _ _ _ hx, Part.has_ofC _ _ _ hx, Part.has_ofC _ _ _ hx]
  by_cases e : cls (key (L ++ [s])) x = cls (key (L ++ [s])) b
  · have h1 := ((Part.key_append L s x b).1 ((cls_iff _).1 e)).1
    rw [cls_eq (key L) h1, e]
    simp
  · have e' : ¬ (cls (key (L ++ [s])) x : Int) = cls (key (L ++ [s])) b := by omega
    simp [e']

set_option maxRecDepth 100000 in
set_option maxHeartbeats 4000000 in
theorem more_law {PT : World → Value → List ST → Prop} (I : Holds PT) (w : World) (hT : Tab w) (a : Option Addr) (cap : Nat) (L : List ST) (hl : L.length ≤ 9223372036854775807) (hok : ∀ s ∈ L, s.Ok) (hL : SL w a L) (s : ST) (hs : s.Ok) :
    Calls Tryd.prog 5 #[.slice a L.length cap, val s] w fun e w' => e = .returned (.bool true) ∧ Keep (fun _ => False) w w' := by
  have HI := Lib.hid I
  clear I
  have hokq : ∀ t ∈ L ++ [s], t.Ok := fun t ht => by
    rcases List.mem_append.1 ht with h | h
    · exact hok t h
    · rw [List.mem_singleton.1 h]; exact hs
  have hokt : ∀ t ∈ s :: L, t.Ok := fun t ht => by
    rcases List.mem_cons.1 ht with h | h
    · rw [h]; exact hs
    · exact hok t h
  have HT := Lib.hid (fun (w' : World) (q : Keep (fun _ => False) w w') => hT.keep q)
  have HL := Lib.hid (And.intro hok (And.intro (fun (w' : World) (q : Keep (fun _ => False) w w') => hL.keep q (fun _ _ h => h)) (And.intro hs (And.intro hokq hokt))))
  clear hT hok hL hs hokq hokt
  go_enter Tryd.func5, Tryd.ntmps5
  go_wp2_with fail
  have a1 := At.new w (cells s) 35
  have qa := (Keep.refl (fun _ => False) w).alloc (.cells (cells s) 35)
  refine (awake_any HI.out _ (HT.out _ qa)).mono ?_
  rintro e w1 ⟨rfl, q1⟩
  have P1 := Lib.hid (And.intro (qa.trans q1) (a1.keep q1 (fun h => h)))
  clear q1 qa a1
  generalize hn0 : w.heap.size = n0 at *
  have HN := Lib.hid hn0
  clear hn0
  by_cases h30 : L.length ≤ 20
  · have h30' : ¬ (20 : Int) < L.length := by omega
    obtain ⟨v', w2, hrun, hv, q2, hb⟩ := OL.onto (new_none w1) (fun g hg => by cases hg; exact Nat.le_refl _) ((Keep.refl (fun _ => False) w1).alloc _) (cap := cap) (HL.out.2.1 w1 P1.out.1) (by simp; omega) 22
    obtain ⟨va, vc, rfl, hsl, -⟩ := hv.form
    have P2 := Lib.hid (And.intro (P1.out.1.trans q2) (And.intro hsl (P1.out.2.keep q2 (fun h => h))))
    clear hv hb q2 hsl P1
    go_wp2_with (at_builtin; refine Lib.wpList_append_run _ rfl _ _ _ _ rfl _ _ rfl rfl _ _ hrun ?_)
    clear hrun
    go_wp2_with fail
    refine (HI.out.cut (L := L) vc (HT.out _ P2.out.1) (by omega) HL.out.1 P2.out.2.1).mono ?_
    rintro e w3 ⟨v, rfl, hp, q3⟩
    obtain ⟨pa, rfl⟩ := HI.out.form hp
    have P3 := Lib.hid (And.intro (P2.out.1.trans q3) (And.intro hp (P2.out.2.2.keep q3 (fun h => h))))
    clear hp q3 P2
    -- the region that draws: append(append([]api.Set{}, list...), a)
    have hS : ∀ w', Keep (fun _ => False) w3 w' → Keep (fun _ => False) w3 w' ∧ w'.cell? ⟨n0, 0, none⟩ = some (.int .u64 s.x0) ∧ w'.cell? ⟨n0, 1, none⟩ = some (.int .u64 s.x1) ∧ w'.cell? ⟨n0, 2, none⟩ = some (.int .u64 s.x2) ∧ w'.cell? ⟨n0, 3, none⟩ = some (.int .u64 s.x3) := fun w' q => by
      obtain ⟨⟨d0, d1, d2, d3⟩, -⟩ := cells4 (P3.out.2.2.keep q (fun h => h))
      exact ⟨q, d0, d1, d2, d3⟩
    have HS := Lib.hid hS
    clear hS
    have hLd := HL.out.2.1 _ P3.out.1.drew
    have hl1000 : L.length ≤ 1000 := by omega
    -- the empty slice, the list, the set
    obtain ⟨vA, wA, hrA, hvA, qA, hbA⟩ := OL.onto (new_none w3.drew) (fun g hg => by cases hg; exact Nat.le_refl _) ((Keep.refl (fun _ => False) w3.drew).alloc _) (cap := cap) hLd (by simp; omega) 22
    rw [List.nil_append] at hvA
    rw [show w3.drew.heap.size = w3.heap.size from rfl] at hrA
    obtain ⟨vA2, wA2, hrA2, hvA2, qA2, -⟩ := hvA.push_far qA hbA s (by omega) 22
    -- the empty slice, the set, the list
    have qB0 := ((Keep.refl (fun _ => False) w3.drew).alloc (.cells #[] 35)).alloc (.cells (cells s) 35)
    have nB := (new_none w3.drew).keep ((Keep.refl (fun _ => False) _).alloc (.cells (cells s) 35)) (fun _ _ h => h)
    have oB := new_one (w3.drew.alloc (.cells #[] 35)) s
    rw [show (w3.drew.alloc (.cells #[] 35)).heap.size = w3.heap.size + 1 from by simp] at oB
    obtain ⟨vB, wB, vB2, wB2, hrB, hrB2, hvB2, qB, qB2⟩ := two_appends (b := w3.drew) (v0 := .slice (some ⟨w3.heap.size, 0, none⟩) 0 0) (g0 := w3.heap.size) (g1 := w3.heap.size + 1) (cap := cap) nB rfl (Nat.le_refl _) oB (by omega) qB0 hl1000 hLd 22 22
    -- the set, the empty slice, the list
    have qC0 := ((Keep.refl (fun _ => False) w3.drew).alloc (.cells (cells s) 35)).alloc (.cells #[] 35)
    have nC := new_none (w3.drew.alloc (.cells (cells s) 35))
    rw [show (w3.drew.alloc (.cells (cells s) 35)).heap.size = w3.heap.size + 1 from by simp] at nC
    have oC := (new_one w3.drew s).keep ((Keep.refl (fun _ => False) _).alloc (.cells #[] 35)) (fun _ _ h => h)
    obtain ⟨vC, wC, vC2, wC2, hrC, hrC2, hvC2, qC, qC2⟩ := two_appends (b := w3.drew) (v0 := .slice (some ⟨w3.heap.size + 1, 0, none⟩) 0 0) (g0 := w3.heap.size + 1) (g1 := w3.heap.size) (cap := cap) nC rfl (Nat.le_succ _) oC (by omega) qC0 hl1000 hLd 22 22
    obtain ⟨LQ, hLQ⟩ : ∃ LQ, LQ = L ++ [s] := ⟨_, rfl⟩
    have hlq : LQ.length ≤ 1000 := by rw [hLQ]; simp; omega
    have hokq : ∀ t ∈ LQ, t.Ok := by rw [hLQ]; exact HL.out.2.2.2.1
    rw [← hLQ] at hvA2 hvB2 hvC2
    have HQ := Lib.hid (And.intro hLQ (And.intro hlq hokq))
    clear hLQ hlq hokq
    obtain ⟨aA, cA, rfl, sA, -⟩ := hvA2.form
    obtain ⟨aB, cB, rfl, sB, -⟩ := hvB2.form
    obtain ⟨aC, cC, rfl, sC, -⟩ := hvC2.form
    have d0 : Keep (fun _ => False) w3 w3.drew := (Keep.refl _ _).drew
    have kA := d0.trans qA
    have kA2 := d0.trans qA2
    have kB := d0.trans qB
    have kB2 := d0.trans qB2
    have kC := d0.trans qC
    have kC2 := d0.trans qC2
    have KK := Lib.hid (And.intro kA (And.intro kA2 (And.intro kB (And.intro kB2 (And.intro kC kC2)))))
    have SS := Lib.hid (And.intro sA (And.intro sB sC))
    clear nB oB nC oC hvA hbA hvA2 hvB2 hvC2 qA qA2 qB qB2 qC qC2 qB0 qC0 d0 kA kA2 kB kB2 kC kC2 sA sB sC hLd hl1000
    go_wp2_with fail
    go_cut [6] (fun v6 wx => ∃ pq, v6 = .pointer (some pq) ∧ PT wx (.pointer (some pq)) LQ ∧ Keep (fun _ => False) w3 wx)
    case first =>
      refine wp_region_noPanic ?_
      refine wp_region_held_drew (S := (fun w' => Keep (fun _ => False) w3 w' ∧ w'.cell? ⟨n0, 0, none⟩ = some (.int .u64 s.x0) ∧ w'.cell? ⟨n0, 1, none⟩ = some (.int .u64 s.x1) ∧ w'.cell? ⟨n0, 2, none⟩ = some (.int .u64 s.x2) ∧ w'.cell? ⟨n0, 3, none⟩ = some (.int .u64 s.x3))) (by kernel_rfl) ?_ (fun hHeld => ?_)
      · exact HS.out _ ((Keep.refl _ _).drew)
      refine wpAnyH_take (i := 1) (oi := { dst := some 25, op := Go.Op.move (Go.Operand.tmp 0), type := 22, pos := "law.go:85", after := #[], guard := none }) (v := ?_) rfl (by kernel_rfl) (by kernel_rfl) (by kernel_rfl) (fun _ _ _ h => h) (Or.inl ⟨by rfl, ?_⟩) (by assumption) ?_
      rotate_left 1
      · (intro w hSw; (try dsimp only at hSw); go_simp; first | done | with_reducible rfl)
      try simp only [Act.put, List.setIfInBounds_toArray, List.set_cons_zero, List.set_cons_succ]
      refine wpAnyH_take (i := 3) (oi := { dst := some 27, op := Go.Op.load 35 (Go.Operand.tmp 3), type := 35, pos := "law.go:85", after := #[], guard := none }) (v := ?_) rfl (by kernel_rfl) (by kernel_rfl) (by kernel_rfl) (fun _ _ _ h => h) (Or.inl ⟨by rfl, ?_⟩) (by assumption) ?_
      rotate_left 1
      · (intro w hSw; (try dsimp only at hSw); go_simp; first | done | with_reducible rfl)
      try simp only [Act.put, List.setIfInBounds_toArray, List.set_cons_zero, List.set_cons_succ]
      refine wpAnyH_ready (rs := [0, 4]) (by kernel_rfl) (by simp) ?_
      refine (AllReadyH.cons (o := { dst := some 24, op := Go.Op.buildSlice 22 0 #[], type := 22, pos := "law.go:85", after := #[], guard := none }) rfl (fun K hK => ?_) (AllReadyH.cons (o := { dst := some 28, op := Go.Op.buildSlice 22 1 #[(0, Go.Operand.tmp 27)], type := 22, pos := "law.go:85", after := #[{ on := 3, ground := Go.Ground.data }], guard := none }) rfl (fun K hK => ?_) AllReadyH.nil))
      go_simp
      refine hK.out _ _ ?_ (fun hHeld' => ?_)
      · exact HS.out _ (Keep.alloc (And.left hHeld) _)
      clear hK K hHeld
      have hHeld := hHeld'
      clear hHeld'
      try simp only [Act.put, List.setIfInBounds_toArray, List.set_cons_zero, List.set_cons_succ]
      refine wpAnyH_ready (rs := [2, 4]) (by kernel_rfl) (by simp) ?_
      refine (AllReadyH.cons (o := { dst := some 26, op := Go.Op.call { callee := Go.Callee.builtin Go.Builtin.append, args := #[Go.Operand.tmp 24, Go.Operand.tmp 25], argTypes := #[22, 22] }, type := 22, pos := "law.go:85", after := #[{ on := 0, ground := Go.Ground.data }, { on := 1, ground := Go.Ground.data }], guard := none }) rfl (fun K hK => ?_) (AllReadyH.cons (o := { dst := some 28, op := Go.Op.buildSlice 22 1 #[(0, Go.Operand.tmp 27)], type := 22, pos := "law.go:85", after := #[{ on := 3, ground := Go.Ground.data }], guard := none }) rfl (fun K hK => ?_) AllReadyH.nil))
      refine step_append_run _ rfl (.tmp 24) (.tmp 25) 22 22 rfl _ _ rfl rfl _ _ hrA ?_
      refine hK.out _ _ ?_ (fun hHeld' => ?_)
      · exact HS.out _ KK.out.1
      clear hK K hHeld
      have hHeld := hHeld'
      clear hHeld'
      try simp only [Act.put, List.setIfInBounds_toArray, List.set_cons_zero, List.set_cons_succ]
      refine wpAnyH_ready (rs := [4]) (by kernel_rfl) (by simp) ?_
      refine (AllReadyH.cons (o := { dst := some 28, op := Go.Op.buildSlice 22 1 #[(0, Go.Operand.tmp 27)], type := 22, pos := "law.go:85", after := #[{ on := 3, ground := Go.Ground.data }], guard := none }) rfl (fun K hK => ?_) AllReadyH.nil)
      go_simp
      refine hK.out _ _ ?_ (fun hHeld' => ?_)
      · exact HS.out _ (Keep.alloc (And.left hHeld) _)
      clear hK K hHeld
      have hHeld := hHeld'
      clear hHeld'
      try simp only [Act.put, List.setIfInBounds_toArray, List.set_cons_zero, List.set_cons_succ]
      refine wpAnyH_ready (rs := [5]) (by kernel_rfl) (by simp) ?_
      refine (AllReadyH.cons (o := { dst := some 29, op := Go.Op.call { callee := Go.Callee.builtin Go.Builtin.append, args := #[Go.Operand.tmp 26, Go.Operand.tmp 28], argTypes := #[22, 22] }, type := 22, pos := "law.go:85", after := #[{ on := 2, ground := Go.Ground.data }, { on := 4, ground := Go.Ground.data }, { on := 2, ground := Go.Ground.chain }], guard := none }) rfl (fun K hK => ?_) AllReadyH.nil)
      refine step_append_run _ rfl (.tmp 26) (.tmp 28) 22 22 rfl _ _ rfl rfl _ _ hrA2 ?_
      refine hK.out _ _ ?_ (fun hHeld' => ?_)
      · exact HS.out _ KK.out.2.1
      clear hK K hHeld
      have hHeld := hHeld'
      clear hHeld'
      try simp only [Act.put, List.setIfInBounds_toArray, List.set_cons_zero, List.set_cons_succ]
      refine wpAnyH_ready (rs := [6]) (by kernel_rfl) (by simp) ?_
      refine (AllReadyH.cons (o := { dst := some 30, op := Go.Op.call { callee := Go.Callee.value (Go.Operand.func 9), args := #[Go.Operand.tmp 29], argTypes := #[22] }, type := 24, pos := "law.go:85", after := #[{ on := 5, ground := Go.Ground.data }, { on := 5, ground := Go.Ground.chain }], guard := none }) rfl (fun K hK => ?_) AllReadyH.nil)
      go_simp
      go_at_call 9
      refine (HI.out.cut (L := LQ) _ (HT.out _ (P3.out.1.trans (And.left hHeld))) HQ.out.2.1 HQ.out.2.2 SS.out.1).mono ?_
      rintro e w6 ⟨vq, rfl, hpq, q⟩
      obtain ⟨pq, rfl⟩ := HI.out.form hpq
      refine hK.out _ _ ?_ (fun hHeld' => ?_)
      · exact HS.out _ (Keep.trans (And.left hHeld) q)
      clear hK K hHeld
      have hHeld := hHeld'
      clear hHeld'
      try simp only [Act.put, List.setIfInBounds_toArray, List.set_cons_zero, List.set_cons_succ]
      refine wpAnyH_take (i := 7) (oi := { dst := some 6, op := Go.Op.assign (Go.Operand.tmp 30), type := 24, pos := "law.go:85", after := #[{ on := 6, ground := Go.Ground.data }, { on := 6, ground := Go.Ground.chain }, { on := 0, ground := Go.Ground.phase }, { on := 1, ground := Go.Ground.phase }, { on := 2, ground := Go.Ground.phase }, { on := 3, ground := Go.Ground.phase }, { on := 4, ground := Go.Ground.phase }, { on := 5, ground := Go.Ground.phase }, { on := 6, ground := Go.Ground.phase }], guard := none }) (v := ?_) rfl (by kernel_rfl) (by kernel_rfl) (by kernel_rfl) (fun _ _ _ h => h) (Or.inl ⟨by rfl, ?_⟩) (by assumption) ?_
      rotate_left 1
      · (intro w hSw; (try dsimp only at hSw); go_simp; first | done | with_reducible rfl)
      try simp only [Act.put, List.setIfInBounds_toArray, List.set_cons_zero, List.set_cons_succ]
      refine wpAnyH_done (by kernel_rfl) ?_ _
      refine NoPanic.normal ?_
      rotate_left 1
      go_simp
      refine hK.out _ _ ?_ (fun hHeld' => ?_)
      · exact HS.out _ (Keep.alloc (And.left hHeld) _)
      clear hK K hHeld
      have hHeld := hHeld'
      clear hHeld'
      try simp only [Act.put, List.setIfInBounds_toArray, List.set_cons_zero, List.set_cons_succ]
      refine wpAnyH_ready (rs := [2]) (by kernel_rfl) (by simp) ?_
      refine (AllReadyH.cons (o := { dst := some 26, op := Go.Op.call { callee := Go.Callee.builtin Go.Builtin.append, args := #[Go.Operand.tmp 24, Go.Operand.tmp 25], argTypes := #[22, 22] }, type := 22, pos := "law.go:85", after := #[{ on := 0, ground := Go.Ground.data }, { on := 1, ground := Go.Ground.data }], guard := none }) rfl (fun K hK => ?_) AllReadyH.nil)
      refine step_append_run _ rfl (.tmp 24) (.tmp 25) 22 22 rfl _ _ rfl rfl _ _ hrB ?_
      refine hK.out _ _ ?_ (fun hHeld' => ?_)
      · exact HS.out _ KK.out.2.2.1
      clear hK K hHeld
      have hHeld := hHeld'
      clear hHeld'
      try simp only [Act.put, List.setIfInBounds_toArray, List.set_cons_zero, List.set_cons_succ]
      refine wpAnyH_ready (rs := [5]) (by kernel_rfl) (by simp) ?_
      refine (AllReadyH.cons (o := { dst := some 29, op := Go.Op.call { callee := Go.Callee.builtin Go.Builtin.append, args := #[Go.Operand.tmp 26, Go.Operand.tmp 28], argTypes := #[22, 22] }, type := 22, pos := "law.go:85", after := #[{ on := 2, ground := Go.Ground.data }, { on := 4, ground := Go.Ground.data }, { on := 2, ground := Go.Ground.chain }], guard := none }) rfl (fun K hK => ?_) AllReadyH.nil)
      refine step_append_run _ rfl (.tmp 26) (.tmp 28) 22 22 rfl _ _ rfl rfl _ _ hrB2 ?_
      refine hK.out _ _ ?_ (fun hHeld' => ?_)
      · exact HS.out _ KK.out.2.2.2.1
      clear hK K hHeld
      have hHeld := hHeld'
      clear hHeld'
      try simp only [Act.put, List.setIfInBounds_toArray, List.set_cons_zero, List.set_cons_succ]
      refine wpAnyH_ready (rs := [6]) (by kernel_rfl) (by simp) ?_
      refine (AllReadyH.cons (o := { dst := some 30, op := Go.Op.call { callee := Go.Callee.value (Go.Operand.func 9), args := #[Go.Operand.tmp 29], argTypes := #[22] }, type := 24, pos := "law.go:85", after := #[{ on := 5, ground := Go.Ground.data }, { on := 5, ground := Go.Ground.chain }], guard := none }) rfl (fun K hK => ?_) AllReadyH.nil)
      go_simp
      go_at_call 9
      refine (HI.out.cut (L := LQ) _ (HT.out _ (P3.out.1.trans (And.left hHeld))) HQ.out.2.1 HQ.out.2.2 SS.out.2.1).mono ?_
      rintro e w6 ⟨vq, rfl, hpq, q⟩
      obtain ⟨pq, rfl⟩ := HI.out.form hpq
      refine hK.out _ _ ?_ (fun hHeld' => ?_)
      · exact HS.out _ (Keep.trans (And.left hHeld) q)
      clear hK K hHeld
      have hHeld := hHeld'
      clear hHeld'
      try simp only [Act.put, List.setIfInBounds_toArray, List.set_cons_zero, List.set_cons_succ]
      refine wpAnyH_take (i := 7) (oi := { dst := some 6, op := Go.Op.assign (Go.Operand.tmp 30), type := 24, pos := "law.go:85", after := #[{ on := 6, ground := Go.Ground.data }, { on := 6, ground := Go.Ground.chain }, { on := 0, ground := Go.Ground.phase }, { on := 1, ground := Go.Ground.phase }, { on := 2, ground := Go.Ground.phase }, { on := 3, ground := Go.Ground.phase }, { on := 4, ground := Go.Ground.phase }, { on := 5, ground := Go.Ground.phase }, { on := 6, ground := Go.Ground.phase }], guard := none }) (v := ?_) rfl (by kernel_rfl) (by kernel_rfl) (by kernel_rfl) (fun _ _ _ h => h) (Or.inl ⟨by rfl, ?_⟩) (by assumption) ?_
      rotate_left 1
      · (intro w hSw; (try dsimp only at hSw); go_simp; first | done | with_reducible rfl)
      try simp only [Act.put, List.setIfInBounds_toArray, List.set_cons_zero, List.set_cons_succ]
      refine wpAnyH_done (by kernel_rfl) ?_ _
      refine NoPanic.normal ?_
      rotate_left 1
      go_simp
      refine hK.out _ _ ?_ (fun hHeld' => ?_)
      · exact HS.out _ (Keep.alloc (And.left hHeld) _)
      clear hK K hHeld
      have hHeld := hHeld'
      clear hHeld'
      try simp only [Act.put, List.setIfInBounds_toArray, List.set_cons_zero, List.set_cons_succ]
      refine wpAnyH_ready (rs := [0]) (by kernel_rfl) (by simp) ?_
      refine (AllReadyH.cons (o := { dst := some 24, op := Go.Op.buildSlice 22 0 #[], type := 22, pos := "law.go:85", after := #[], guard := none }) rfl (fun K hK => ?_) AllReadyH.nil)
      go_simp
      refine hK.out _ _ ?_ (fun hHeld' => ?_)
      · exact HS.out _ (Keep.alloc (And.left hHeld) _)
      clear hK K hHeld
      have hHeld := hHeld'
      clear hHeld'
      try simp only [Act.put, List.setIfInBounds_toArray, List.set_cons_zero, List.set_cons_succ]
      refine wpAnyH_ready (rs := [2]) (by kernel_rfl) (by simp) ?_
      refine (AllReadyH.cons (o := { dst := some 26, op := Go.Op.call { callee := Go.Callee.builtin Go.Builtin.append, args := #[Go.Operand.tmp 24, Go.Operand.tmp 25], argTypes := #[22, 22] }, type := 22, pos := "law.go:85", after := #[{ on := 0, ground := Go.Ground.data }, { on := 1, ground := Go.Ground.data }], guard := none }) rfl (fun K hK => ?_) AllReadyH.nil)
      refine step_append_run _ rfl (.tmp 24) (.tmp 25) 22 22 rfl _ _ rfl rfl _ _ hrC ?_
      refine hK.out _ _ ?_ (fun hHeld' => ?_)
      · exact HS.out _ KK.out.2.2.2.2.1
      clear hK K hHeld
      have hHeld := hHeld'
      clear hHeld'
      try simp only [Act.put, List.setIfInBounds_toArray, List.set_cons_zero, List.set_cons_succ]
      refine wpAnyH_ready (rs := [5]) (by kernel_rfl) (by simp) ?_
      refine (AllReadyH.cons (o := { dst := some 29, op := Go.Op.call { callee := Go.Callee.builtin Go.Builtin.append, args := #[Go.Operand.tmp 26, Go.Operand.tmp 28], argTypes := #[22, 22] }, type := 22, pos := "law.go:85", after := #[{ on := 2, ground := Go.Ground.data }, { on := 4, ground := Go.Ground.data }, { on := 2, ground := Go.Ground.chain }], guard := none }) rfl (fun K hK => ?_) AllReadyH.nil)
      refine step_append_run _ rfl (.tmp 26) (.tmp 28) 22 22 rfl _ _ rfl rfl _ _ hrC2 ?_
      refine hK.out _ _ ?_ (fun hHeld' => ?_)
      · exact HS.out _ KK.out.2.2.2.2.2
      clear hK K hHeld
      have hHeld := hHeld'
      clear hHeld'
      try simp only [Act.put, List.setIfInBounds_toArray, List.set_cons_zero, List.set_cons_succ]
      refine wpAnyH_ready (rs := [6]) (by kernel_rfl) (by simp) ?_
      refine (AllReadyH.cons (o := { dst := some 30, op := Go.Op.call { callee := Go.Callee.value (Go.Operand.func 9), args := #[Go.Operand.tmp 29], argTypes := #[22] }, type := 24, pos := "law.go:85", after := #[{ on := 5, ground := Go.Ground.data }, { on := 5, ground := Go.Ground.chain }], guard := none }) rfl (fun K hK => ?_) AllReadyH.nil)
      go_simp
      go_at_call 9
      refine (HI.out.cut (L := LQ) _ (HT.out _ (P3.out.1.trans (And.left hHeld))) HQ.out.2.1 HQ.out.2.2 SS.out.2.2).mono ?_
      rintro e w6 ⟨vq, rfl, hpq, q⟩
      obtain ⟨pq, rfl⟩ := HI.out.form hpq
      refine hK.out _ _ ?_ (fun hHeld' => ?_)
      · exact HS.out _ (Keep.trans (And.left hHeld) q)
      clear hK K hHeld
      have hHeld := hHeld'
      clear hHeld'
      try simp only [Act.put, List.setIfInBounds_toArray, List.set_cons_zero, List.set_cons_succ]
      refine wpAnyH_take (i := 7) (oi := { dst := some 6, op := Go.Op.assign (Go.Operand.tmp 30), type := 24, pos := "law.go:85", after := #[{ on := 6, ground := Go.Ground.data }, { on := 6, ground := Go.Ground.chain }, { on := 0, ground := Go.Ground.phase }, { on := 1, ground := Go.Ground.phase }, { on := 2, ground := Go.Ground.phase }, { on := 3, ground := Go.Ground.phase }, { on := 4, ground := Go.Ground.phase }, { on := 5, ground := Go.Ground.phase }, { on := 6, ground := Go.Ground.phase }], guard := none }) (v := ?_) rfl (by kernel_rfl) (by kernel_rfl) (by kernel_rfl) (fun _ _ _ h => h) (Or.inl ⟨by rfl, ?_⟩) (by assumption) ?_
      rotate_left 1
      · (intro w hSw; (try dsimp only at hSw); go_simp; first | done | with_reducible rfl)
      try simp only [Act.put, List.setIfInBounds_toArray, List.set_cons_zero, List.set_cons_succ]
      refine wpAnyH_done (by kernel_rfl) ?_ _
      refine NoPanic.normal ?_
      rotate_left 1
      clear hrA hrA2 hrB hrB2 hrC hrC2
      all_goals
        have HK := Lib.hid (And.intro hpq hHeld.1)
        clear hHeld hpq q
        go_wp2_with fail
        go_meet
        case rel => exact ⟨pq, rfl, HK.out.1, HK.out.2⟩
    case rest =>
      obtain ⟨pq, rfl, hpq, hk⟩ := hcut
      clear hrA hrA2 hrB hrB2 hrC hrC2
      have P6 := Lib.hid (And.intro (P3.out.1.trans hk) (And.intro (HI.out.keep P3.out.2.1 hk) (And.intro hpq (P3.out.2.2.keep hk (fun h => h)))))
      clear hk hpq
      obtain ⟨⟨c0, c1, c2, c3⟩, -⟩ := cells4 P6.out.2.2.2
      obtain ⟨v', w7, hrun, hv, q7, hb⟩ := OL.onto (new_one wc s) (fun g hg => by cases hg; exact Nat.le_refl _) ((Keep.refl (fun _ => False) wc).alloc _) (cap := cap) (HL.out.2.1 wc P6.out.1) (by simp; omega) 22
      obtain ⟨LT, hLT⟩ : ∃ LT, LT = [s] ++ L := ⟨_, rfl⟩
      have hlt : LT.length ≤ 1000 := by rw [hLT]; simp; omega
      have hokt : ∀ t ∈ LT, t.Ok := by rw [hLT]; exact HL.out.2.2.2.2
      rw [← hLT] at hv
      obtain ⟨ta, tc, rfl, hsl, -⟩ := hv.form
      have P7 := Lib.hid (And.intro (P6.out.1.trans q7) (And.intro (HI.out.keep P6.out.2.1 q7) (And.intro (HI.out.keep P6.out.2.2.1 q7) (And.intro hsl (And.intro hlt (And.intro hokt hLT))))))
      clear hv hb q7 hsl hlt hokt hLT P6
      go_wp2_with (at_builtin; refine Lib.wpList_append_run _ rfl _ _ _ _ rfl _ _ rfl rfl _ _ hrun ?_)
      clear hrun
      go_wp2_with fail
      refine (HI.out.cut (L := LT) tc (HT.out _ P7.out.1) P7.out.2.2.2.2.1 P7.out.2.2.2.2.2.1 P7.out.2.2.2.1).mono ?_
      rintro e w8 ⟨vt, rfl, hpt, q8⟩
      obtain ⟨pt, rfl⟩ := HI.out.form hpt
      have hrow : arr8 (fun i => (cls (key LT) i : Int)) = arr8 fun i => (cls (key LQ) i : Int) := by rw [P7.out.2.2.2.2.2.2, HQ.out.1]; exact more_row L s
      have hle : ncl (key L) ≤ ncl (key LQ) := by rw [HQ.out.1]; exact more_ncl L s
      have hsub : ∀ b, (ofC LQ (cls (key LQ) b)).and (ofC L (cls (key L) b)) = ofC LQ (cls (key LQ) b) := by rw [HQ.out.1]; exact more_in L s
      have P8 := Lib.hid (And.intro (P7.out.1.trans q8) (And.intro (HI.out.keep P7.out.2.1 q8) (And.intro (HI.out.keep P7.out.2.2.1 q8) (And.intro hpt (And.intro hrow hsub)))))
      clear hpt q8 P7 hrow hsub
      go_wp2_with fail
      refine (HI.out.len (HT.out _ P8.out.1) P8.out.2.2.1).mono ?_
      rintro e w9 ⟨rfl, q9⟩
      have P9 := Lib.hid (And.intro (P8.out.1.trans q9) (And.intro (HI.out.keep P8.out.2.1 q9) (And.intro (HI.out.keep P8.out.2.2.1 q9) (HI.out.keep P8.out.2.2.2.1 q9))))
      clear q9
      go_wp2_with fail
      refine (HI.out.len (HT.out _ P9.out.1) P9.out.2.1).mono ?_
      rintro e w10 ⟨rfl, q10⟩
      have P10 := Lib.hid (And.intro (P9.out.1.trans q10) (And.intro (HI.out.keep P9.out.2.1 q10) (And.intro (HI.out.keep P9.out.2.2.1 q10) (HI.out.keep P9.out.2.2.2 q10))))
      clear q10 P9
      have hnq := ncl_le (key LQ)
      obtain ⟨N, hN⟩ : ∃ N, ncl (key LQ) = N := ⟨_, rfl⟩
      obtain ⟨N0, hN0⟩ : ∃ N, ncl (key L) = N := ⟨_, rfl⟩
      rw [hN] at hnq hle ⊢
      rw [hN0] at hle ⊢
      have HN2 := Lib.hid hN
      clear hN hN0
      have hle' : ¬ (N : Int) < N0 := by omega
      go_wp2_with fail
      refine (HI.out.remap (HT.out _ P10.out.1) P10.out.2.2.1).mono ?_
      rintro e w11 ⟨rfl, q11⟩
      have E1 := fun w => eq_arr8 (fun i => (cls (key LQ) i : Int)) (fun i => (cls (key LQ) i : Int)) w
      rw [(sameTo_iff 256 _ _).2 (fun _ _ => rfl)] at E1
      obtain ⟨R, hR⟩ : ∃ R, arr8 (fun i => (cls (key LQ) i : Int)) = R := ⟨_, rfl⟩
      rw [hR] at E1 ⊢
      have P11 := Lib.hid (And.intro (P10.out.1.trans q11) (And.intro (HI.out.keep P10.out.2.1 q11) (And.intro (HI.out.keep P10.out.2.2.1 q11) (And.intro (HI.out.keep P10.out.2.2.2 q11) hR))))
      clear q11 P10 hR
      go_wp2_with fail
      refine (HI.out.remap (HT.out _ P11.out.1) P11.out.2.2.2.1).mono ?_
      rintro e w12 ⟨rfl, q12⟩
      rw [P8.out.2.2.2.2.1, P11.out.2.2.2.2]
      have P12 := Lib.hid (And.intro (P11.out.1.trans q12) (And.intro (HI.out.keep P11.out.2.1 q12) (HI.out.keep P11.out.2.2.1 q12)))
      clear q12 P11
      go_wp2_with fail
      refine (HI.out.len (HT.out _ P12.out.1) P12.out.2.2).mono ?_
      rintro e w13 ⟨rfl, q13⟩
      rw [HN2.out]
      have P13 := Lib.hid (And.intro (P12.out.1.trans q13) (And.intro (HI.out.keep P12.out.2.1 q13) (HI.out.keep P12.out.2.2 q13)))
      clear q13 P12 E1
      go_wp2_with fail
      go_loopg [50] N (fun gg i wr => ∃ c : Nat, i = .int .i64 c ∧ c + gg = N ∧ Keep (fun _ => False) w wr ∧ PT wr (.pointer (some pa)) L ∧ PT wr (.pointer (some pq)) LQ)
      case atStart => exact ⟨0, rfl, by omega, P13.out.1, P13.out.2.1, P13.out.2.2⟩
      case round =>
        obtain ⟨c, rfl, hc, hq, hp, hpq⟩ := hrel
        clear P13
        by_cases hcl : c < N
        · have hcl' : (c : Int) < N := by omega
          obtain ⟨b, hb, hfb, hcb, -⟩ := cls_onto (key LQ) (c := c) (by rw [HN2.out]; exact hcl)
          have S1 := fun (w' : World) (hT' : Tab w') (h : PT w' (.pointer (some pq)) LQ) => HI.out.sample hT' h hb hfb
          have hsub := P8.out.2.2.2.2.2 b
          rw [hcb] at S1 hsub
          have hD := cls_lt (key L) hb
          have hDn := ncl_le (key L)
          have H := Lib.hid (And.intro hc (And.intro hq (And.intro hp (And.intro hpq S1))))
          clear hc hq hp hpq S1 hfb hcb
          go_wp2_with fail
          refine (H.out.2.2.2.2 _ (HT.out _ H.out.2.1) H.out.2.2.2.1).mono ?_
          rintro e w14 ⟨rfl, q14⟩
          have Q14 := Lib.hid q14
          clear q14
          go_wp2_with fail
          refine (HI.out.class' (HT.out _ (H.out.2.1.trans Q14.out)) (HI.out.keep H.out.2.2.1 Q14.out) hb).mono ?_
          rintro e w15 ⟨rfl, q15⟩
          have Q15 := Lib.hid (Q14.out.trans q15)
          clear q15 Q14
          generalize cls (key L) b = D at *
          go_wp2_with fail
          refine (HI.out.of (c := (D : Int)) (HT.out _ (H.out.2.1.trans Q15.out)) (HI.out.keep H.out.2.2.1 Q15.out) (by omega) (by omega)).mono ?_
          rintro e w16 ⟨rfl, q16⟩
          have Q16 := Lib.hid (Q15.out.trans q16)
          clear q16 Q15
          have hXo := Part.ofC_ok LQ (c : Int)
          have hYo := Part.ofC_ok L (D : Int)
          obtain ⟨X, hX⟩ : ∃ X, ofC LQ (c : Int) = X := ⟨_, rfl⟩
          obtain ⟨Y, hY⟩ : ∃ Y, ofC L (D : Int) = Y := ⟨_, rfl⟩
          rw [hX] at hsub hXo
          rw [hY] at hsub hYo ⊢
          have HX := Lib.hid (And.intro hX (And.intro hXo hYo))
          have E2 := fun w => eq_yes hsub w
          clear hX hXo hYo hY hsub
          go_wp2_with fail
          have a17 := At.new w16 (cells Y) 35
          have q17 := (Keep.refl (fun _ => False) w16).alloc (.cells (cells Y) 35)
          have P17 := Lib.hid (And.intro (Q16.out.trans q17) a17)
          clear a17 q17 Q16
          generalize (w16.alloc (.cells (cells Y) 35)) = w17 at *
          generalize w16.heap.size = n17 at *
          have hS : ∀ w', Keep (fun _ => False) w17 w' → Keep (fun _ => False) w17 w' ∧ w'.cell? ⟨n17, 0, none⟩ = some (.int .u64 Y.x0) ∧ w'.cell? ⟨n17, 1, none⟩ = some (.int .u64 Y.x1) ∧ w'.cell? ⟨n17, 2, none⟩ = some (.int .u64 Y.x2) ∧ w'.cell? ⟨n17, 3, none⟩ = some (.int .u64 Y.x3) := fun w' q => by
            obtain ⟨⟨d0, d1, d2, d3⟩, -⟩ := cells4 (P17.out.2.keep q (fun h => h))
            exact ⟨q, d0, d1, d2, d3⟩
          have HS2 := Lib.hid hS
          have HP17 := Lib.hid (fun (w' : World) (q : Keep (fun _ => False) w17 w') => And.intro (HT.out _ (H.out.2.1.trans (P17.out.1.trans q))) (HI.out.keep H.out.2.2.2.1 (P17.out.1.trans q)))
          clear hS
          go_region_held3 (fun w' => Keep (fun _ => False) w17 w' ∧ w'.cell? ⟨n17, 0, none⟩ = some (.int .u64 Y.x0) ∧ w'.cell? ⟨n17, 1, none⟩ = some (.int .u64 Y.x1) ∧ w'.cell? ⟨n17, 2, none⟩ = some (.int .u64 Y.x2) ∧ w'.cell? ⟨n17, 3, none⟩ = some (.int .u64 Y.x3)) (first | exact HS2.out _ ((Keep.refl _ _).drew) | exact HS2.out _ (Keep.trans (And.left (by assumption)) q)) (first
            | (go_at_call 14; refine (HI.out.of (c := (c : Int)) (by first | exact (HP17.out _ (And.left (by assumption))).1 | exact (HP17.out _ (Keep.refl _ _).drew).1) (by first | exact (HP17.out _ (And.left (by assumption))).2 | exact (HP17.out _ (Keep.refl _ _).drew).2) (by omega) (by omega)).mono ?_; rintro e w18 ⟨rfl, q⟩; rw [HX.out.1])
            | (go_at_call 21; refine (and_any X Y HX.out.2.1 HX.out.2.2 _).mono ?_; rintro e w18 ⟨rfl, q⟩))
          all_goals
            rename_i hh
            have HK := Lib.hid (P17.out.1.trans hh.1)
            clear hh q
            go_wp2_with fail
            go_roundg (N - (c + 1))
            case measure => have := H.out.1; omega
            case rel => exact ⟨c + 1, by go_num, by have := H.out.1; omega, H.out.2.1.trans HK.out, HI.out.keep H.out.2.2.1 HK.out, HI.out.keep H.out.2.2.2.1 HK.out⟩
        · have hce : c = N := by omega
          subst hce
          have H := Lib.hid hq
          clear hq hp hpq hc
          go_wp2_with fail
          go_ret
          exact ⟨rfl, H.out⟩
  · have h30' : (20 : Int) < L.length := by omega
    clear h30
    go_wp2_with fail
    refine (awake_any HI.out w1 (HT.out _ P1.out.1)).mono ?_
    rintro e w2 ⟨rfl, q2⟩
    have P2 := Lib.hid (P1.out.1.trans q2)
    clear q2 P1
    go_wp2_with fail
    go_ret
    exact ⟨rfl, P2.out⟩
end Go.Proofs.YtidfjeliofgpmaaDoor.Parts
