/- Layer 11: rows of places in memory; the document's in and or. -/
import Derived.Test.YthcjfgfbeollpaaKE33
import Derived.Test.YthcjfgfbeollpaaKE30
import Derived.Test.YthcjfgfbeollpaaKE05
import Derived.Test.YthcjfgfbeollpaaKE08
import Derived.Laws.CopyOwn
import Derived.Maps.AppendAt
namespace Go.Proofs.Ythcjfgfbeollpaa.P11
open Go.RowKit Go.Proofs.Ythcjfgfbeollpaa.Base Go.Proofs.Ythcjfgfbeollpaa.Bytes Go.Proofs.Ythcjfgfbeollpaa.P07 Go.Proofs.Ythcjfgfbeollpaa.P08 Go.Proofs.Ythcjfgfbeollpaa.P09
open Go.Proofs.Ythcjfgfbeollpaa.Sets (ST)

/-- The block g holds the places X, from its head. -/
def RB (w : World) (g : Nat) (X : List Bool) : Prop := g < w.heap.size ∧ ∀ j b, X[j]? = some b → w.cell? ⟨g, j, none⟩ = some (.bool b)
theorem RB.keep {S : Nat → Prop} {w w' : World} {g : Nat} {X : List Bool} (h : RB w g X) (q : Keep S w w') (hg : ¬ S g) : RB w' g X :=
  ⟨Nat.lt_of_lt_of_le h.1 q.size, fun j b hj => (q.cell (a := ⟨g, j, none⟩) h.1 hg).trans (h.2 j b hj)⟩
theorem RB.of {w : World} {g : Nat} {X : List Bool} (h : At w g 4 (bcells X)) : RB w g X := ⟨h.lt, fun _ _ hj => h.cell (bcells_get hj)⟩

/-- copy of a row of places over one of the same length. -/
theorem wpList_copy_places {w : World} {ops : Array Oper} {rest : List Oper} {o : Oper} {a : Act} {Q : Exit → Act → World → Prop} (hgd : o.guard = none) (d s : Operand) (dT sT : TypeId)
    (ho : o.op = .call { callee := .builtin .copy, args := #[d, s], argTypes := #[dT, sT] }) (hu : Try.prog.underlying dT = some (.slice 4))
    (g gs n c cap : Nat) (hd : a.eval d = .slice (some ⟨g, 0, none⟩) n c) (hs : a.eval s = .slice (some ⟨gs, 0, none⟩) n cap) (Y X : List Bool) (hY : Y.length = n) (hX : X.length = n)
    (hg : At w g 4 (bcells Y)) (hr : RB w gs X)
    (h : ∀ w', At w' g 4 (bcells X) → Keep (fun b => b = g) w w' → wpList Try.prog ops Q rest (a.put o.dst (goInt n)) w') : wpList Try.prog ops Q (o :: rest) a w := by
  have hl : (X.map Value.bool).length = n := by rw [List.length_map, hX]
  have hcur : (bcells Y).size = n := by unfold bcells; simp [hY]
  refine wpList_copy_own hgd d s dT sT ho 4 hu (by kernel_rfl) g 0 n c ⟨gs, 0, none⟩ n cap hd hs (bcells Y) 4 hg (X.map Value.bool) (by rw [hl]; simp) (fun j v hj => ?_) (by rw [hl, hcur]; omega) (by intro v hv; obtain ⟨x, _, rfl⟩ := List.mem_map.1 hv; rfl) ?_
  · rw [List.getElem?_map] at hj
    cases e : X[j]? with
    | none => rw [e] at hj; cases hj
    | some x =>
      rw [e] at hj
      cases hj
      rw [Addr.add_lit, Nat.zero_add]
      exact hr.2 j x e
  · rw [hl]
    have e : ((bcells Y).toList.take 0 ++ (X.map Value.bool ++ (bcells Y).toList.drop (0 + n))).toArray = bcells X := by
      rw [List.take_zero, List.nil_append, List.drop_eq_nil_of_le (by simp [hcur]), List.append_nil]
      rfl
    rw [e]
    refine h _ (setRow_heap w g _ _ _ _ hg) ⟨rfl, rfl, rfl, by simp [World.setRow], fun k hk hn => setRow_other w g k _ hn⟩

theorem infoBool : (Try.prog.info? 4).map (fun i => (i.zero, i.size, i.bytes)) = some (some (.bool false), 1, 1) := by kernel_rfl
/-- append of a whole row of places to a new one that the call has laid. -/
theorem RB.copy {w : World} {g n cap : Nat} {X : List Bool} (h : RB w g X) (hX : X.length = n) (h0 : 0 < n) (hn : n ≤ 100000) (ty : TypeId) :
    ∃ g' cap' w', (Builtin.append_ #[72, 72] ty #[.slice (some ⟨w.heap.size, 0, none⟩) 0 0, .slice (some ⟨g, 0, none⟩) n cap]).run Try.prog (w.alloc (.cells #[] 4)) = .ok (.slice (some ⟨g', 0, none⟩) n cap') w' ∧ w.heap.size ≤ g' ∧ RB w' g' X ∧ Keep (fun _ => False) w w' := by
  obtain ⟨i0, hi0, hz0, hz1, hz2⟩ := info_parts infoBool
  have q := (Keep.refl (fun _ => False) w).alloc (.cells #[] 4)
  have h1 := h.keep q (fun h => h)
  have hl : (X.map Value.bool).length = n := by rw [List.length_map, hX]
  obtain ⟨v', w', hrun, h2, h3, _, h5⟩ := run_append_own_at (P := Try.prog) (w.alloc (.cells #[] 4)) 0 72 ty 4 i0 (.bool false) 1 1 Try.underlying72 hi0 hz0 hz1 hz2 rfl (by omega) (.slice (some ⟨w.heap.size, 0, none⟩) 0 0) 0 []
    ⟨rfl, .inr ⟨_, 0, #[], rfl, Nat.zero_le _, At.new w #[] 4, Nat.le_refl _, Nat.zero_le _, rfl, rfl⟩⟩ ⟨g, 0, none⟩ n cap (X.map Value.bool) (by rw [hl]; omega)
    (fun j u hu => by
      rw [List.getElem?_map] at hu
      cases e : X[j]? with
      | none => rw [e] at hu; cases hu
      | some x =>
        rw [e] at hu
        cases hu
        rw [Addr.add_lit, Nat.zero_add]
        exact h1.2 j x e) (by intro v hv; obtain ⟨x, _, rfl⟩ := List.mem_map.1 hv; rfl) (by simp only [maxLen]; omega) (by omega) (Nat.zero_le _)
  rw [Nat.zero_add, List.nil_append] at h2
  rcases h2.2 with ⟨rfl, hc⟩ | ⟨g', cap', cur, rfl, _, hg, a1, a2, a3, a4⟩
  · omega
  · refine ⟨g', cap', w', hrun, ?_, ⟨?_, fun j b hj => ?_⟩, q.next (IL.Keep.of_grown h3) (fun i hh _ => ?_)⟩
    · rcases h5 with h5 | h5
      · have h5' : some g' = some w.heap.size := h5
        injection h5' with h5'
        omega
      · have h5' : some g' = some _ := h5
        injection h5' with h5'
        simp at h5'
        omega
    · have ha : At w' g' 4 cur := hg
      exact ha.lt
    · have ha : At w' g' 4 cur := hg
      refine ha.cell ?_
      have hi : j < X.length := (List.getElem?_eq_some_iff.1 hj).1
      have h6 : (cur.toList.take (n * 1))[j]? = (X.map Value.bool)[j]? := by rw [a4]
      rw [List.getElem?_take_of_lt (by omega), List.getElem?_map, hj] at h6
      simpa using h6
    · have hh' : some w.heap.size = some i := hh
      injection hh' with hh'
      omega

theorem byteAt_getD (s : List UInt8) (i : Nat) : byteAt s i = (s.getD i 0).toNat := rfl

theorem fin_any (s : ST) (b : Nat) (hb : b < 256) (w : World) : Calls Try.prog 82 #[val s, .int .u8 b] w fun e w' => e = .returned (.bool (s.has b)) ∧ Keep (fun _ => False) w w' := by
  have hc := (At.new w (cells s) 24).cell (cells_at s (b / 64) (by omega))
  have hx := bit_mod (s.w (b / 64)) (b % 64)
  have HX := Lib.hid hx
  clear hx
  unfold ST.has
  generalize s.w (b / 64) = x at *
  go_enter Try.func82, Try.ntmps82
  go_wp2
  go_ret
  exact ⟨Bytes.ret_bool HX.out, (Keep.refl _ _).alloc _⟩

/-- Did anything come, of the first i? -/
def cameK (X Y : List Bool) (i : Nat) : Bool := (List.range i).any fun j => Y.getD j false && !X.getD j false
theorem cameK_next (X Y : List Bool) (i : Nat) : cameK X Y (i + 1) = (cameK X Y i || (Y.getD i false && !X.getD i false)) := by
  unfold cameK
  rw [List.range_succ, List.any_append]
  simp

set_option maxRecDepth 100000 in
set_option maxHeartbeats 4000000 in
theorem for_any (A B : List Bool) (n : Nat) (hA : A.length = n) (hB : B.length = n) (hn : n ≤ 1000) (ga gb ca cb : Nat) (w : World) (ha : At w ga 4 (bcells A)) (hb : RB w gb B) (hne : ga ≠ gb) :
    Calls Try.prog 83 #[.slice (some ⟨ga, 0, none⟩) n ca, .slice (some ⟨gb, 0, none⟩) n cb] w fun e w' => e = .returned (.bool (cameB A B)) ∧ At w' ga 4 (bcells (orB A B)) ∧ Keep (fun b => b = ga) w w' := by
  have hC : cameB A B = cameK A B n := by unfold cameB cameK; rw [hA]
  have hO : orB A B = OP A B n := by unfold orB; rw [hA]
  have H0 := Lib.hid (And.intro ha (And.intro hb (And.intro hC hO)))
  have HL := Lib.hid (And.intro hA hB)
  clear ha hb hC hO hA hB
  go_enter Try.func83, Try.ntmps83
  go_wp2_with fail
  go_loopg [5, 6] n (fun gg c i wr => ∃ k : Nat, i = .int .i64 k ∧ k + gg = n ∧ c = .bool (cameK A B k) ∧ At wr ga 4 (bcells (OP A B k)) ∧ Keep (fun b => b = ga) w wr)
  case atStart => exact ⟨0, rfl, by omega, rfl, by rw [OP_start]; exact H0.out.1, Keep.refl _ _⟩
  case round =>
    obtain ⟨i, rfl, hi, rfl, hrow, hq⟩ := hrel
    by_cases hlt : i < n
    · have hlt' : (i : Int) < n := by omega
      have i0 : (0 : Int) ≤ i := by omega
      have e0 := hrow.cell (bcells_get (OP_at A B (i := i) (by rw [HL.out.1]; omega)))
      have f0 := hrow.frozen i
      have e2 := (H0.out.2.1.keep hq (by omega)).2 i _ (getD_get (L := B) (k := i) (by rw [HL.out.2]; omega))
      have hset := hrow.set i (.bool (A.getD i false || B.getD i false))
      rw [bcells_set, ← OP_step A B (i := i) (by rw [HL.out.1]; omega)] at hset
      have hqs := hq.setCell (p := ⟨ga, i, none⟩) (fun _ => rfl) (.bool (A.getD i false || B.getD i false))
      have hcn := cameK_next A B i
      obtain ⟨x, hx⟩ : ∃ x, A.getD i false = x := ⟨_, rfl⟩
      obtain ⟨y, hy⟩ : ∃ y, B.getD i false = y := ⟨_, rfl⟩
      obtain ⟨z, hz⟩ : ∃ z, cameK A B i = z := ⟨_, rfl⟩
      rw [hx, hy] at hset hqs
      rw [hx, hy, hz] at hcn
      rw [hx] at e0
      rw [hy] at e2
      rw [hz]
      have HS := Lib.hid (And.intro hset (And.intro hqs hcn))
      clear hset hqs hcn hx hy hz hrow hq
      cases x <;> cases y <;> cases z
      all_goals
        go_wp2_with fail
        go_roundg (n - (i + 1))
        case measure => omega
        case rel => exact ⟨i + 1, by go_num, by omega, by rw [HS.out.2.2]; rfl, HS.out.1, HS.out.2.1⟩
    · have hke : i = n := by omega
      subst hke
      have HS := Lib.hid (And.intro hrow hq)
      clear hrow hq
      go_wp2_with fail
      go_ret
      exact ⟨by rw [H0.out.2.2.1]; rfl, by rw [H0.out.2.2.2]; exact HS.out.1, HS.out.2⟩
end Go.Proofs.Ythcjfgfbeollpaa.P11
/- The document's Step (layer 11), of right expressions: all but repetitions. -/
namespace Go.Proofs.Ythcjfgfbeollpaa.P11
open Go.RowKit Go.Proofs.Ythcjfgfbeollpaa.Base Go.Proofs.Ythcjfgfbeollpaa.Bytes Go.Proofs.Ythcjfgfbeollpaa.P07 Go.Proofs.Ythcjfgfbeollpaa.P08 Go.Proofs.Ythcjfgfbeollpaa.P09
open Go.Proofs.Ythcjfgfbeollpaa.Sets (ST)

/-- What Step answers. -/
def IsStep (s : List UInt8) (t : T) (X : List Bool) (w : World) (e : Ending) (w' : World) : Prop := ∃ g, e = .returned (.slice (some ⟨g, 0, none⟩) (s.length + 1) (s.length + 1)) ∧ w.heap.size ≤ g ∧ At w' g 4 (bcells (stepB s t X)) ∧ Keep (fun _ => False) w w'
def FStepOk (t : T) : Prop := ∀ (d : Nat), RT d t → ∀ s : List UInt8, s.length ≤ 100 → ∀ X : List Bool, X.length = s.length + 1 → ∀ (a : Option Addr) (c : Nat) (w : World), Lie w (fun _ => True) a t.subs → ∀ (g cap : Nat), RB w g X → Calls Try.prog 58 #[nodeV t a c, .string ⟨s.toArray⟩, .slice (some ⟨g, 0, none⟩) (s.length + 1) cap] w (IsStep s t X w)

set_option maxRecDepth 100000 in
set_option maxHeartbeats 16000000 in
theorem fstep_low (n : Nat) (ih : ∀ t : T, SizeOf.sizeOf t < n → FStepOk t) (t : T) (h : SizeOf.sizeOf t < n + 1) (hk : ¬ t.kind = 5) : FStepOk t := fun d hR s hsl X hX a c w hL gx cap hB => by
    have HK := Lib.hid hk
    clear hk
    have hsz := P07.size_str s
    have hlen := hL.len
    have hgx := hB.1
    have hmk := make_bools (s.length + 1) (by omega) (w.alloc (.cells (ncells t a c) 27))
    have c0 := At.new (w.alloc (.cells (ncells t a c) 27)) (bcells (noB s.length)) 4
    rw [show ((s.length + 1 : Nat) : Int) = (s.length : Int) + 1 from by omega, show List.replicate (s.length + 1) false = noB s.length from rfl] at hmk
    rw [show (w.alloc (.cells (ncells t a c) 27)).heap.size = w.heap.size + 1 from by simp] at hmk c0
    have qb := (Keep.refl (fun _ => False) (w.alloc (.cells (ncells t a c) 27))).alloc (.cells (bcells (noB s.length)) 4)
    have qw := ((Keep.refl (fun _ => False) w).alloc (.cells (ncells t a c) 27)).trans qb
    have H0 := Lib.hid (And.intro qw (And.intro ((Bz.new (c := c) hL).keep qb (fun _ _ h => h)) (And.intro (ih) (And.intro c0 (hB.keep qw (fun h => h))))))
    have hsub := fun (u : T) (i : Nat) (h : t.subs[i]? = some u) => sub_RT hR h
    have e := stepB_eq s t X
    obtain ⟨A, hA⟩ : ∃ A, stepB s t X = A := ⟨_, rfl⟩
    rw [hA] at e
    obtain ⟨n0, hn0⟩ : ∃ n0, w.heap.size = n0 := ⟨_, rfl⟩
    have hIs : IsStep s t X w = fun e w' => ∃ g, e = .returned (.slice (some ⟨g, 0, none⟩) (s.length + 1) (s.length + 1)) ∧ n0 ≤ g ∧ At w' g 4 (bcells A) ∧ Keep (fun _ => False) w w' := by rw [← hA, ← hn0]; rfl
    rw [hIs]
    have hw : ∀ b, n0 ≤ b → ¬ b < w.heap.size := fun b hb => by omega
    have hok : ∀ u ∈ t.subs, StepOk s u := fun u hu => by
      obtain ⟨i, hi⟩ := List.mem_iff_getElem?.1 hu
      exact step_ok s _ u (Nat.lt_succ_self _) d (sub_RT hR hi)
    have hlC : ∀ k, (stepC s (t.subs.take k) X).length = s.length + 1 := fun k => (stepC_ok s _ (fun u hu => hok u (List.mem_of_mem_take hu)) X hX).1
    have hlA : ∀ k, (stepA s (t.subs.take k) (noB s.length) X).length = s.length + 1 := fun k => (stepA_ok s _ (fun u hu => hok u (List.mem_of_mem_take hu)) (noB s.length) X (noB_length _) hX).1
    have HLN := Lib.hid (And.intro hlC (And.intro hlA (fun u hu => (hok u hu X hX).1)))
    clear hok hlC hlA
    have HE := Lib.hid (And.intro hsub (And.intro hX hw))
    have HN := Lib.hid h
    have HA := Lib.hid e
    have hks := Lib.hid (P08.kinds hR)
    rw [hn0] at hgx
    clear hL e hA h hsub hR c0 qb qw hIs hw hB hX
    go_enter Try.func58, Try.ntmps58
    go_upto_region 2 with fail
    clear hmk
    generalize ((w.alloc (.cells (ncells t a c) 27)).alloc (.cells (bcells (noB s.length)) 4)) = W at *
    rw [hn0] at H0
    try rw [hn0]
    clear hn0
    have R0 := Lib.hid H0.out.2.2.2.1
    have B0 := Lib.hid H0.out.2.2.2.2
    have hm0 : (0 : Int) ≤ s.length := by omega
    obtain ⟨c0, c1, c2, c3, c4, c5, c6, c7⟩ := H0.out.2.1.box.eight
    have hstep : ∀ (u : T) (k : Nat), t.subs[k]? = some u → SizeOf.sizeOf u < n := fun u k hs => by have := sub_less hs; have := HN.out; omega
    have HST := Lib.hid hstep
    clear hstep
    by_cases k1 : t.kind = 1
    · have hA := HA.out
      rw [if_pos k1] at hA
      have b1 : (t.kind == 1) = true := by simp [k1]
      have HF := Lib.hid hA
      clear k1 hA
      go_wp2_with (refine wpList_copy_places rfl _ _ _ _ rfl Try.underlying72 (n0 + 1) gx (s.length + 1) (s.length + 1) cap rfl rfl (noB s.length) X (noB_length _) HE.out.2.1 R0.out B0.out ?_; intro w1 ha1 q1)
      go_ret
      exact ⟨n0 + 1, rfl, by omega, by rw [HF.out]; exact ha1, H0.out.1.next q1 (fun b hb hl => HE.out.2.2 b (by omega) hl)⟩
    have b1 : (t.kind == 1) = false := by simp [k1]
    by_cases k2 : t.kind = 2
    · have hA := HA.out
      rw [if_neg k1, if_pos k2] at hA
      have b2 : (t.kind == 2) = true := by simp [k2]
      have HF := Lib.hid hA
      clear k1 k2 hA
      go_wp2_with fail
      clear c0 c1 c2 c3 c4 c5 c6 c7
      go_loopg [8] s.length (fun gg i wr => ∃ k : Nat, i = .int .i64 k ∧ k + gg = s.length ∧ At wr (n0 + 1) 4 (bcells (CL s t.set X k)) ∧ Keep (fun b => b = n0 + 1) W wr)
      case atStart => exact ⟨0, rfl, by omega, by rw [CL_start]; exact R0.out, Keep.refl _ _⟩
      case round =>
        obtain ⟨i, rfl, hi, hrow, hq⟩ := hrel
        by_cases hlt : i < s.length
        · have hlt' : (i : Int) < s.length := by omega
          have i0 : (0 : Int) ≤ i := by omega
          have e1 := (B0.out.keep hq (by omega)).2 i _ (getD_get (L := X) (k := i) (by rw [HE.out.2.1]; omega))
          have e0 := hrow.cell (bcells_get (CL_get s t.set X (i := i) (j := i + 1) (by omega)))
          have f0 := hrow.frozen (i + 1)
          have hix : ∀ W, _ := fun W => P07.index_run s i hlt W
          unfold P07.str at hix
          have hb := P07.byteAt_lt s i
          obtain ⟨c0, c1, c2, c3, c4, c5, c6, c7⟩ := (H0.out.2.1.keep hq (fun b hb h => by omega)).box.eight
          have hin := fun W => fin_any t.set (byteAt s i) hb W
          have hCL := CL_step s t.set X i
          rw [← byteAt_getD] at hCL
          obtain ⟨x, hx⟩ : ∃ x, X.getD i false = x := ⟨_, rfl⟩
          obtain ⟨bt, hbt⟩ : ∃ bt, byteAt s i = bt := ⟨_, rfl⟩
          obtain ⟨y, hy⟩ : ∃ y, t.set.has bt = y := ⟨_, rfl⟩
          rw [hbt] at hix hin hb
          rw [hx] at e1
          rw [hx, hbt, hy] at hCL
          rw [hy] at hin
          have HS := Lib.hid (fun (w1 : World) (q : Keep (fun _ => False) wr w1) => show At (w1.setCell ⟨n0 + 1, i + 1, none⟩ (.bool (x && y))) (n0 + 1) 4 (bcells (CL s t.set X (i + 1))) ∧ Keep (fun b => b = n0 + 1) W (w1.setCell ⟨n0 + 1, i + 1, none⟩ (.bool (x && y))) from by
            rw [hCL, ← bcells_set]
            exact ⟨(hrow.keep q (fun h => h)).set (i + 1) (.bool (x && y)), (hq.trans (q.mono (fun _ h => h.elim))).setCell (p := ⟨n0 + 1, i + 1, none⟩) (fun _ => rfl) (.bool (x && y))⟩)
          have HI := Lib.hid hin
          have HR := Lib.hid (fun (w1 : World) (q : Keep (fun _ => False) wr w1) => And.intro ((hrow.keep q (fun h => h)).cell (bcells_get (CL_get s t.set X (i := i) (j := i + 1) (by omega)))) ((hrow.keep q (fun h => h)).frozen (i + 1)))
          clear hin hrow hq hx hbt hy hCL
          cases x with
          | false =>
            go_wp2_with fail
            go_region
            go_wp2_with fail
            go_roundg (s.length - (i + 1))
            case measure => omega
            case rel => exact ⟨i + 1, by go_num, by omega, (HS.out wr (Keep.refl _ _)).1, (HS.out wr (Keep.refl _ _)).2.drew⟩
          | true =>
            go_wp2_with fail
            go_region_with (go_at_call 82; refine (HI.out _).mono ?_; rintro e w1 ⟨rfl, q1⟩; obtain ⟨g2, g3⟩ := HR.out _ ((Keep.refl _ _).drew.trans q1); have Q1 := Lib.hid (HS.out _ ((Keep.refl _ _).drew.trans q1)); clear q1)
            all_goals
              go_wp2_with fail
              go_roundg (s.length - (i + 1))
              case measure => omega
              case rel => exact ⟨i + 1, by go_num, by omega, Q1.out.1, Q1.out.2⟩
        · have hke : i = s.length := by omega
          subst hke
          have HS := Lib.hid (And.intro hrow hq)
          clear hrow hq
          go_wp2_with fail
          go_ret
          exact ⟨n0 + 1, rfl, by omega, by rw [HF.out]; exact HS.out.1, H0.out.1.next HS.out.2 (fun b hb hl => HE.out.2.2 b (by omega) hl)⟩
    have b2 : (t.kind == 2) = false := by simp [k2]
    by_cases k3 : t.kind = 3
    · have hA := HA.out
      rw [if_neg k1, if_neg k2, if_pos k3] at hA
      have HF := Lib.hid hA
      have b3 : (t.kind == 3) = true := by simp [k3]
      have b4 : (t.kind == 4) = false := by simp [k3]
      have b5 : (t.kind == 5) = false := by simp [k3]
      clear k1 k2 k3 hA c1 c2 c3 c4 c5 c6
      go_wp2_with (refine wpList_copy_places rfl _ _ _ _ rfl Try.underlying72 (n0 + 1) gx (s.length + 1) (s.length + 1) cap rfl rfl (noB s.length) X (noB_length _) HE.out.2.1 R0.out B0.out ?_; intro w1 ha1 q1; have H1 := Lib.hid (And.intro ha1 (And.intro (H0.out.2.1.keep q1 (fun b hb h => by omega)) (H0.out.1.next q1 (fun b hb hl => HE.out.2.2 b (by omega) hl)))); clear ha1 q1 c0 c7)
      go_loopg [7, 9] t.subs.length (fun gg u7 i wr => ∃ (k g : Nat), i = .int .i64 k ∧ k + gg = t.subs.length ∧ u7 = .slice (some ⟨g, 0, none⟩) (s.length + 1) (s.length + 1) ∧ n0 < g ∧ At wr g 4 (bcells (stepC s (t.subs.take k) X)) ∧ Keep (fun _ => False) w1 wr)
      case atStart => exact ⟨0, n0 + 1, rfl, by omega, rfl, by omega, by rw [List.take_zero, stepC_nil]; exact H1.out.1, Keep.refl _ _⟩
      case round =>
        obtain ⟨k, g, rfl, hk, rfl, hg, hrow, hq⟩ := hrel
        have B2 := (H1.out.2.1.keep hq (fun _ _ h => h)).box
        obtain ⟨-, -, -, -, -, -, -, c7⟩ := B2.eight
        by_cases hlt : k < t.subs.length
        · have hlt' : (k : Int) < t.subs.length := by omega
          have i0 : (0 : Int) ≤ k := by omega
          obtain ⟨u, hs⟩ : ∃ u, t.subs[k]? = some u := ⟨t.subs[k], List.getElem?_eq_getElem hlt⟩
          obtain ⟨bl, off, a1, e1, rfl, L1, d0, d1, d2, d3, d4, d5, d6, d7⟩ := B2.sub hs
          have ht := stepC_at s X hs
          have hl1 := HLN.out.1 k
          obtain ⟨Y, hY⟩ : ∃ Y, stepC s (t.subs.take k) X = Y := ⟨_, rfl⟩
          rw [hY] at ht hl1 hrow
          have hcall := H0.out.2.2.1 u (HST.out u k hs) d (HE.out.1 u k hs) s hsl Y hl1 a1 e1 wr L1 g (s.length + 1) (RB.of hrow)
          have hgn : g < wr.heap.size := hrow.lt
          unfold IsStep at hcall
          rw [← ht] at hcall
          have HQ := Lib.hid (And.intro hq hcall)
          clear hq hcall ht hrow B2 hs hl1 hY L1
          go_wp2_with fail
          refine HQ.out.2.mono ?_
          rintro e w2 ⟨g2, rfl, hg2, hr2, q2⟩
          have Q2 := Lib.hid (And.intro (HQ.out.1.trans q2) hr2)
          clear q2 hr2 c7 d0 d1 d2 d3 d4 d5 d6 d7
          go_wp2_with fail
          go_roundg (t.subs.length - (k + 1))
          case measure => omega
          case rel => exact ⟨k + 1, g2, by go_num, by omega, rfl, by omega, Q2.out.2, Q2.out.1⟩
        · have hke : k = t.subs.length := by omega
          subst hke
          rw [List.take_length, ← HF.out] at hrow
          have HQ := Lib.hid (And.intro hq hrow)
          clear hq hrow B2
          go_wp2_with fail
          go_ret
          exact ⟨g, rfl, by omega, HQ.out.2, H1.out.2.2.trans HQ.out.1⟩
    have b3 : (t.kind == 3) = false := by simp [k3]
    by_cases k4 : t.kind = 4
    · have hA := HA.out
      rw [if_neg k1, if_neg k2, if_neg k3, if_pos k4] at hA
      have HF := Lib.hid hA
      have b4 : (t.kind == 4) = true := by simp [k4]
      have b5 : (t.kind == 5) = false := by simp [k4]
      clear k1 k2 k3 k4 hA c1 c2 c3 c4 c5 c6
      go_wp2_with fail
      clear c0 c7
      go_loopg [10] t.subs.length (fun gg i wr => ∃ (k : Nat), i = .int .i64 k ∧ k + gg = t.subs.length ∧ At wr (n0 + 1) 4 (bcells (stepA s (t.subs.take k) (noB s.length) X)) ∧ Keep (fun b => b = n0 + 1) W wr)
      case atStart => exact ⟨0, rfl, by omega, by rw [List.take_zero, stepA_nil]; exact R0.out, Keep.refl _ _⟩
      case round =>
        obtain ⟨k, rfl, hk, hrow, hq⟩ := hrel
        have B2 := (H0.out.2.1.keep hq (fun b hb h => by omega)).box
        obtain ⟨-, -, -, -, -, -, -, c7⟩ := B2.eight
        by_cases hlt : k < t.subs.length
        · have hlt' : (k : Int) < t.subs.length := by omega
          have i0 : (0 : Int) ≤ k := by omega
          obtain ⟨u, hs⟩ : ∃ u, t.subs[k]? = some u := ⟨t.subs[k], List.getElem?_eq_getElem hlt⟩
          obtain ⟨bl, off, a1, e1, rfl, L1, d0, d1, d2, d3, d4, d5, d6, d7⟩ := B2.sub hs
          have ht := stepA_at s (noB s.length) X hs
          have hl1 := HLN.out.2.1 k
          have hl2 := HLN.out.2.2 u (List.mem_of_getElem? hs)
          have hcall := H0.out.2.2.1 u (HST.out u k hs) d (HE.out.1 u k hs) s hsl X HE.out.2.1 a1 e1 wr L1 gx cap (B0.out.keep hq (by omega))
          obtain ⟨Y, hY⟩ : ∃ Y, stepA s (t.subs.take k) (noB s.length) X = Y := ⟨_, rfl⟩
          unfold IsStep at hcall
          obtain ⟨Z, hZ⟩ : ∃ Z, stepB s u X = Z := ⟨_, rfl⟩
          rw [hY] at ht hrow hl1
          rw [hZ] at ht hcall hl2
          have hgn : n0 + 1 < wr.heap.size := hrow.lt
          have HQ := Lib.hid (And.intro hq (And.intro hcall (And.intro ht (And.intro hrow (And.intro hl1 hl2)))))
          clear hq hcall ht hrow B2 hs hl1 hl2 L1 hY hZ
          go_wp2_with fail
          refine HQ.out.2.1.mono ?_
          rintro e w2 ⟨g2, rfl, hg2, hr2, q2⟩
          have hor := for_any Y Z (s.length + 1) HQ.out.2.2.2.2.1 HQ.out.2.2.2.2.2 (by omega) (n0 + 1) g2 (s.length + 1) (s.length + 1) w2 (HQ.out.2.2.2.1.keep q2 (fun h => h)) (RB.of hr2) (by omega)
          rw [← HQ.out.2.2.1] at hor
          have Q2 := Lib.hid (And.intro (HQ.out.1.trans (q2.mono (fun _ h => h.elim))) hor)
          clear q2 hr2 hor c7 d0 d1 d2 d3 d4 d5 d6 d7
          go_wp2_with fail
          refine Q2.out.2.mono ?_
          rintro e w3 ⟨rfl, hr3, q3⟩
          have Q3 := Lib.hid (And.intro hr3 (Q2.out.1.trans q3))
          clear hr3 q3
          go_wp2_with fail
          go_roundg (t.subs.length - (k + 1))
          case measure => omega
          case rel => exact ⟨k + 1, by go_num, by omega, Q3.out.1, Q3.out.2⟩
        · have hke : k = t.subs.length := by omega
          subst hke
          rw [List.take_length, ← HF.out] at hrow
          have HQ := Lib.hid (And.intro hq hrow)
          clear hq hrow B2
          go_wp2_with fail
          go_ret
          exact ⟨n0 + 1, rfl, by omega, HQ.out.2, H0.out.1.next HQ.out.1 (fun b hb hl => HE.out.2.2 b (by omega) hl)⟩
    have k5 : ¬ t.kind = 5 := HK.out
    exact absurd hks.out (by omega)
end Go.Proofs.Ythcjfgfbeollpaa.P11
/- The document's Step (layer 11), of right expressions: repetitions; the whole. -/
namespace Go.Proofs.Ythcjfgfbeollpaa.P11
open Go.RowKit Go.Proofs.Ythcjfgfbeollpaa.Base Go.Proofs.Ythcjfgfbeollpaa.Bytes Go.Proofs.Ythcjfgfbeollpaa.P07 Go.Proofs.Ythcjfgfbeollpaa.P08 Go.Proofs.Ythcjfgfbeollpaa.P09
open Go.Proofs.Ythcjfgfbeollpaa.Sets (ST)

set_option maxRecDepth 100000 in
set_option maxHeartbeats 16000000 in
theorem fstep_five (n : Nat) (ih : ∀ t : T, SizeOf.sizeOf t < n → FStepOk t) (t : T) (h : SizeOf.sizeOf t < n + 1) (hk : t.kind = 5) : FStepOk t := fun d hR s hsl X hX a c w hL gx cap hB => by
    have HK := Lib.hid hk
    clear hk
    have hsz := P07.size_str s
    have hlen := hL.len
    have hgx := hB.1
    have hmk := make_bools (s.length + 1) (by omega) (w.alloc (.cells (ncells t a c) 27))
    have c0 := At.new (w.alloc (.cells (ncells t a c) 27)) (bcells (noB s.length)) 4
    rw [show ((s.length + 1 : Nat) : Int) = (s.length : Int) + 1 from by omega, show List.replicate (s.length + 1) false = noB s.length from rfl] at hmk
    rw [show (w.alloc (.cells (ncells t a c) 27)).heap.size = w.heap.size + 1 from by simp] at hmk c0
    have qb := (Keep.refl (fun _ => False) (w.alloc (.cells (ncells t a c) 27))).alloc (.cells (bcells (noB s.length)) 4)
    have qw := ((Keep.refl (fun _ => False) w).alloc (.cells (ncells t a c) 27)).trans qb
    have H0 := Lib.hid (And.intro qw (And.intro ((Bz.new (c := c) hL).keep qb (fun _ _ h => h)) (And.intro (ih) (And.intro c0 (hB.keep qw (fun h => h))))))
    have hsub := fun (u : T) (i : Nat) (h : t.subs[i]? = some u) => sub_RT hR h
    have e := stepB_eq s t X
    obtain ⟨A, hA⟩ : ∃ A, stepB s t X = A := ⟨_, rfl⟩
    rw [hA] at e
    obtain ⟨n0, hn0⟩ : ∃ n0, w.heap.size = n0 := ⟨_, rfl⟩
    have hIs : IsStep s t X w = fun e w' => ∃ g, e = .returned (.slice (some ⟨g, 0, none⟩) (s.length + 1) (s.length + 1)) ∧ n0 ≤ g ∧ At w' g 4 (bcells A) ∧ Keep (fun _ => False) w w' := by rw [← hA, ← hn0]; rfl
    rw [hIs]
    have hw : ∀ b, n0 ≤ b → ¬ b < w.heap.size := fun b hb => by omega
    have hok : ∀ u ∈ t.subs, StepOk s u := fun u hu => by
      obtain ⟨i, hi⟩ := List.mem_iff_getElem?.1 hu
      exact step_ok s _ u (Nat.lt_succ_self _) d (sub_RT hR hi)
    have hok := Lib.hid hok
    have HE := Lib.hid (And.intro hsub (And.intro hX hw))
    have HN := Lib.hid h
    have HA := Lib.hid e
    have HF5 := Lib.hid (fun (hk : t.kind = 5) => show ∃ u, t.subs = [u] ∧ 0 ≤ t.mn ∧ t.mn ≤ 20 ∧ (t.mx = -1 ∨ t.mn ≤ t.mx ∧ t.mx ≤ 20) from by
      obtain ⟨u, h1, h2, h3, h4, -⟩ := kind5_one hR hk
      exact ⟨u, h1, h2, h3, h4⟩)
    rw [hn0] at hgx
    clear hL e hA h hsub hR c0 qb qw hIs hw hB hX
    go_enter Try.func58, Try.ntmps58
    go_upto_region 2 with fail
    clear hmk
    generalize ((w.alloc (.cells (ncells t a c) 27)).alloc (.cells (bcells (noB s.length)) 4)) = W at *
    rw [hn0] at H0
    try rw [hn0]
    clear hn0
    have R0 := Lib.hid H0.out.2.2.2.1
    have B0 := Lib.hid H0.out.2.2.2.2
    have hm0 : (0 : Int) ≤ s.length := by omega
    obtain ⟨c0, c1, c2, c3, c4, c5, c6, c7⟩ := H0.out.2.1.box.eight
    have hstep : ∀ (u : T) (k : Nat), t.subs[k]? = some u → SizeOf.sizeOf u < n := fun u k hs => by have := sub_less hs; have := HN.out; omega
    have HST := Lib.hid hstep
    clear hstep
    have hn5 : s.length + 1 ≤ 100000 := by omega
    have hcp := B0.out.copy (n := s.length + 1) (cap := cap) HE.out.2.1 (Nat.succ_pos _) hn5 72
    obtain ⟨g1, cap1, w1, hrun, hg1, hr1, q1⟩ := hcp
    have k5 : t.kind = 5 := HK.out
    have k1 : ¬ t.kind = 1 := by omega
    have k2 : ¬ t.kind = 2 := by omega
    have k3 : ¬ t.kind = 3 := by omega
    have k4 : ¬ t.kind = 4 := by omega
    have b1 : (t.kind == 1) = false := by simp [k1]
    have b2 : (t.kind == 2) = false := by simp [k2]
    have b3 : (t.kind == 3) = false := by simp [k3]
    have b4 : (t.kind == 4) = false := by simp [k4]
    have b5 : (t.kind == 5) = true := by simp [k5]
    have hA := HA.out
    rw [if_neg k1, if_neg k2, if_neg k3, if_neg k4, if_pos k5] at hA
    obtain ⟨u, hsub, m0, m1, hxx⟩ := HF5.out k5
    have hs : t.subs[0]? = some u := by rw [hsub]; rfl
    have hl1 : t.subs.length = 1 := by rw [hsub]; rfl
    have hH : stepH s t.subs = stepB s u := by
      rw [hsub]
      funext X
      exact stepH_cons s u [] X
    rw [hH] at hA
    have hLN : lastN (s.length + 1) t.mn t.mx = if t.mx < 0 then t.mn + ((s.length + 1 : Nat) : Int) else t.mx := rfl
    obtain ⟨NL, hNL⟩ : ∃ NL, (lastN (s.length + 1) t.mn t.mx + 1).toNat = NL := ⟨_, rfl⟩
    rw [hNL] at hA
    have hcs : (t.mx < 0 ∧ (NL : Int) = t.mn + s.length + 2) ∨ (¬ t.mx < 0 ∧ (NL : Int) = t.mx + 1) := by
      by_cases h : t.mx < 0
      · rw [if_pos h] at hLN
        exact .inl ⟨h, by omega⟩
      · rw [if_neg h] at hLN
        exact .inr ⟨h, by omega⟩
    have hNb : (NL : Int) ≤ 200 := by omega
    have hlu := fun Y hY => (hok.out u (by rw [hsub]; exact List.mem_cons_self ..) Y hY).1
    have hcall := fun Y hY a1 e1 W L g cap hr => H0.out.2.2.1 u (HST.out u 0 hs) d (HE.out.1 u 0 hs) s hsl Y hY a1 e1 W L g cap hr
    unfold IsStep at hcall
    have HQ := Lib.hid (And.intro hA (And.intro hcall (And.intro hs hlu)))
    have hgW : n0 + 1 < W.heap.size := R0.out.lt
    have hmx : -1 ≤ t.mx ∧ t.mx ≤ 20 := by omega
    rw [hl1] at c7
    have H1 := Lib.hid (And.intro hr1 (And.intro (R0.out.keep q1 (fun h => h)) (And.intro (H0.out.2.1.keep q1 (fun _ _ h => h)) (H0.out.1.trans q1))))
    clear k1 k2 k3 k4 k5 hA hcall hs hsub hlu hLN hNL hH hxx c1 c2 c3 c4 c7 hr1 q1
    go_upto_region 23 with (at_builtin; refine Lib.wpList_append_run _ rfl _ _ _ _ rfl _ _ rfl rfl _ _ hrun ?_)
    obtain ⟨-, -, -, -, -, c5, c6, -⟩ := H1.out.2.2.1.box.eight
    go_upto_if 96 with fail
    go_cut [12] from 96 to 102 (fun x12 wx => x12 = .int .i64 ((NL : Int) - 1) ∧ wx = w1)
    case first =>
      rcases hcs with ⟨hx, hN⟩ | ⟨hx, hN⟩
      · have hv : t.mn + s.length + 1 = (NL : Int) - 1 := by omega
        have HV := Lib.hid hv
        clear hv hN
        go_wp2_with fail
        go_meet
        case rel => exact ⟨by rw [HV.out], rfl⟩
      · have hv : t.mx = (NL : Int) - 1 := by omega
        have HV := Lib.hid hv
        clear hv hN
        go_wp2_with fail
        go_meet
        case rel => exact ⟨by rw [HV.out], rfl⟩
    case rest =>
    obtain ⟨rfl, hwc⟩ := hcut
    have hwc' := hwc.symm
    subst hwc'
    clear hcs c6 hwc
    go_wp2_with fail
    go_loopg [11, 13] NL (fun gg u11 i wr => ∃ (k g cp : Nat) (O Y : List Bool), i = .int .i64 k ∧ k + gg = NL ∧ u11 = .slice (some ⟨g, 0, none⟩) (s.length + 1) cp ∧ n0 + 1 < g ∧ O.length = s.length + 1 ∧ Y.length = s.length + 1 ∧ RB wr g Y ∧ At wr (n0 + 1) 4 (bcells O) ∧ Keep (fun b => b = n0 + 1) w1 wr ∧ repE t.mn (stepB s u) (NL - k) k O Y = A)
    case atStart => exact ⟨0, g1, cap1, noB s.length, X, rfl, by omega, rfl, by omega, noB_length _, HE.out.2.1, H1.out.1, H1.out.2.1, Keep.refl _ _, HQ.out.1.symm⟩
    case round =>
      obtain ⟨k, g, cp, O, Y, rfl, hk, rfl, hg, hO, hY, hnow, hrow, hq, hrep⟩ := hrel
      by_cases hlt : k < NL
      · have hlt' : (k : Int) ≤ (NL : Int) - 1 := by omega
        have i0 : (0 : Int) ≤ k := by omega
        obtain ⟨-, -, -, -, -, c5, -, c7⟩ := (H1.out.2.2.1.keep hq (fun b hb h => by omega)).box.eight
        rw [hl1] at c7
        rw [show NL - k = (NL - (k + 1)) + 1 by omega, repE] at hrep
        have hor := for_any O Y (s.length + 1) hO hY (by omega) (n0 + 1) g (s.length + 1) cp wr hrow hnow (by omega)
        have HS := Lib.hid (And.intro hrep (And.intro hnow (And.intro hrow (And.intro hq (And.intro hor (And.intro hO hY))))))
        clear hrep hnow hrow hq hor hO hY
        by_cases hmk : t.mn ≤ k
        · have hrep := HS.out.1
          rw [if_pos hmk] at hrep
          obtain ⟨C, hC⟩ : ∃ C, cameB O Y = C := ⟨_, rfl⟩
          have hor := HS.out.2.2.2.2.1
          rw [hC] at hrep hor
          have HT := Lib.hid (And.intro hrep hor)
          clear hrep hor hC c7
          go_wp2_with fail
          refine HT.out.2.mono ?_
          rintro e w2 ⟨rfl, hr2, q2⟩
          have H2 := Lib.hid (And.intro (HS.out.2.1.keep q2 (by omega)) (And.intro hr2 (HS.out.2.2.2.1.trans q2)))
          clear hr2 q2 c5
          cases C with
          | true =>
            have hrep := HT.out.1
            rw [if_pos rfl] at hrep
            have B2 := (H1.out.2.2.1.keep H2.out.2.2 (fun b hb h => by omega)).box
            obtain ⟨-, -, -, -, -, -, -, c7⟩ := B2.eight
            rw [hl1] at c7
            obtain ⟨bl, off, a1, e1, rfl, L1, d0, d1, d2, d3, d4, d5, d6, d7⟩ := B2.first HQ.out.2.2.1
            have hgn : n0 + 1 < w2.heap.size := H2.out.2.1.lt
            have hcall := HQ.out.2.1 Y HS.out.2.2.2.2.2.2 a1 e1 w2 L1 g cp H2.out.1
            have HR := Lib.hid (And.intro hrep (And.intro hcall (HQ.out.2.2.2 Y HS.out.2.2.2.2.2.2)))
            clear hrep hcall B2 L1
            go_wp2_with fail
            refine HR.out.2.1.mono ?_
            rintro e w3 ⟨g3, rfl, hg3, hr3, q3⟩
            have H3 := Lib.hid (And.intro (RB.of hr3) (And.intro (H2.out.2.1.keep q3 (fun h => h)) (H2.out.2.2.trans (q3.mono (fun _ h => h.elim)))))
            clear hr3 q3 c7 d0 d1 d2 d3 d4 d5 d6 d7
            go_wp2_with fail
            go_roundg (NL - (k + 1))
            case measure => omega
            case rel => exact ⟨k + 1, g3, s.length + 1, orB O Y, stepB s u Y, by go_num, by omega, rfl, by omega, by rw [orB_length]; exact HS.out.2.2.2.2.2.1, HR.out.2.2, H3.out.1, H3.out.2.1, H3.out.2.2, HR.out.1⟩
          | false =>
            have hrep := HT.out.1
            rw [if_neg (by decide)] at hrep
            have HR := Lib.hid hrep
            clear hrep
            go_wp2_with fail
            go_ret
            exact ⟨n0 + 1, rfl, by omega, by rw [← HR.out]; exact H2.out.2.1, H1.out.2.2.2.next H2.out.2.2 (fun b hb hl => HE.out.2.2 b (by omega) hl)⟩
        · have hrep := HS.out.1
          rw [if_neg hmk] at hrep
          have hmk' : (k : Int) < t.mn := by omega
          have B2 := (H1.out.2.2.1.keep HS.out.2.2.2.1 (fun b hb h => by omega)).box
          obtain ⟨bl, off, a1, e1, rfl, L1, d0, d1, d2, d3, d4, d5, d6, d7⟩ := B2.first HQ.out.2.2.1
          have hgn : n0 + 1 < wr.heap.size := HS.out.2.2.1.lt
          have hcall := HQ.out.2.1 Y HS.out.2.2.2.2.2.2 a1 e1 wr L1 g cp HS.out.2.1
          have HR := Lib.hid (And.intro hrep (And.intro hcall (HQ.out.2.2.2 Y HS.out.2.2.2.2.2.2)))
          clear hrep hcall B2 L1
          go_wp2_with fail
          refine HR.out.2.1.mono ?_
          rintro e w3 ⟨g3, rfl, hg3, hr3, q3⟩
          have H3 := Lib.hid (And.intro (RB.of hr3) (And.intro (HS.out.2.2.1.keep q3 (fun h => h)) (HS.out.2.2.2.1.trans (q3.mono (fun _ h => h.elim)))))
          clear hr3 q3 c5 c7 d0 d1 d2 d3 d4 d5 d6 d7
          go_wp2_with fail
          go_roundg (NL - (k + 1))
          case measure => omega
          case rel => exact ⟨k + 1, g3, s.length + 1, O, stepB s u Y, by go_num, by omega, rfl, by omega, HS.out.2.2.2.2.2.1, HR.out.2.2, H3.out.1, H3.out.2.1, H3.out.2.2, HR.out.1⟩
      · have hke : k = NL := by omega
        subst hke
        rw [Nat.sub_self, repE] at hrep
        subst hrep
        have HS := Lib.hid (And.intro hrow hq)
        clear hrow hq hnow
        go_wp2_with fail
        go_ret
        exact ⟨n0 + 1, rfl, by omega, HS.out.1, H1.out.2.2.2.next HS.out.2 (fun b hb hl => HE.out.2.2 b (by omega) hl)⟩
theorem fstep_all : ∀ (n : Nat) (t : T), SizeOf.sizeOf t < n → FStepOk t
  | 0, _, h => absurd h (Nat.not_lt_zero _)
  | n + 1, t, h => by
    by_cases hk : t.kind = 5
    · exact fstep_five n (fstep_all n) t h hk
    · exact fstep_low n (fstep_all n) t h hk
end Go.Proofs.Ythcjfgfbeollpaa.P11
