/- The document's own arena of layer 2: lists of regions appended, and Alloc. -/
import Derived.Test.YtklknkeanmjhnaaRef02b
import Derived.Maps.AppendAt
import Derived.Lib.AppendZeros
import Derived.Deep.RegionLaw
namespace Go.Proofs.Ytklknkeanmjhnaa.Ref02
open Go.RowKit Go.Proofs.Ytklknkeanmjhnaa.Base Go.Proofs.Ytklknkeanmjhnaa.Arena Go.Proofs.Ytklknkeanmjhnaa.Stretch Go.Proofs.Ytklknkeanmjhnaa.Regs Go.Proofs.Ytklknkeanmjhnaa.Law02 Go.Proofs.Ytklknkeanmjhnaa.Meter

theorem infoR : (Try.prog.info? 49).map (fun i => (i.zero, i.size, i.bytes)) = some (some (.agg #[.int .i64 0, .int .i64 0, .int .i64 0]), 3, 24) := by kernel_rfl

theorem keepG {w w' : World} {r : Option Nat} (h : w.grownBy w' r) : Keep (fun b => r = some b) w w' :=
  ⟨h.os, h.tape, h.output, h.size, fun k hk hn => h.block k hk (fun e => hn e.symm)⟩

/-- append of regions, from an address. -/
theorem RL.append {w : World} {v : Value} {L : List Reg} (h : RL w v L) (M : List Reg) (ad : Addr) (c : Nat) (hs : ∀ (j : Nat) (u : Value), (M.flatMap rcells)[j]? = some u → w.cell? (ad.add j) = some u) (hl : L.length + M.length ≤ 2097152) (ty : TypeId) :
    ∃ v' w', (Builtin.append_ #[31, 31] ty #[v, .slice (some ad) M.length c]).run Try.prog w = .ok v' w' ∧ RL w' v' (L ++ M) ∧ Keep (fun b => v.ownBlock = some b) w w' ∧ (∀ g, v'.ownBlock = some g → v.ownBlock = some g ∨ w.heap.size ≤ g) := by
  obtain ⟨i0, hi0, hz0, hz1, hz2⟩ := info_parts infoR
  obtain ⟨v', w', hrun, h2, h3, _, h5⟩ := run_append_own_at (P := Try.prog) w 0 31 ty 49 i0 (.agg #[.int .i64 0, .int .i64 0, .int .i64 0]) 3 24 Try.underlying31 hi0 hz0 hz1 hz2 (by rfl) (by omega) v L.length (L.flatMap rcells) h ad M.length c (M.flatMap rcells) (flat_len M) hs
    (by intro u hu; obtain ⟨r, _, hr⟩ := List.mem_flatMap.1 hu; simp only [rcells, List.mem_cons, List.not_mem_nil, or_false] at hr; rcases hr with rfl | rfl | rfl <;> rfl) (by simp only [maxLen]; omega) (by omega) (Nat.zero_le _)
  refine ⟨v', w', hrun, by unfold RL; rw [List.length_append, List.flatMap_append]; exact h2, keepG h3, fun g hg => ?_⟩
  rcases h5 with h5 | h5
  · exact .inl (by rw [← h5]; exact hg)
  · rw [h5] at hg
    injection hg with hg
    exact .inr (by omega)

/-- append of one region, laid by the call itself. -/
theorem RL.push {w : World} {v : Value} {L : List Reg} (h : RL w v L) (r : Reg) (hl : L.length < 2097152) (ty : TypeId) :
    ∃ v' w', (Builtin.append_ #[31, 31] ty #[v, .slice (some ⟨w.heap.size, 0, none⟩) 1 1]).run Try.prog (w.alloc (.cells #[.int .i64 r.id, .int .i64 r.base, .int .i64 r.n] 49)) = .ok v' w' ∧ RL w' v' (L ++ [r]) ∧ Keep (fun b => v.ownBlock = some b) w w' ∧ (∀ g, v'.ownBlock = some g → v.ownBlock = some g ∨ w.heap.size ≤ g) := by
  have h1 : RL (w.alloc (.cells #[.int .i64 r.id, .int .i64 r.base, .int .i64 r.n] 49)) v L := h.keep ((Keep.refl (fun _ => False) w).alloc _) (fun _ _ h => h)
  have a1 := At.new w #[.int .i64 r.id, .int .i64 r.base, .int .i64 r.n] 49
  obtain ⟨v', w', hr, g1, g2, g3⟩ := h1.append [r] ⟨w.heap.size, 0, none⟩ 1 (fun j u hu => by
    rw [Addr.add_lit, Nat.zero_add]
    refine a1.cell ?_
    simpa [rcells] using hu) (by simp; omega) ty
  refine ⟨v', w', hr, g1, ((Keep.refl _ w).alloc _).trans g2, fun g hg => ?_⟩
  rcases g3 g hg with h | h
  · exact .inl h
  · right
    simp at h
    omega

/-- What the document's Alloc does. -/
def refAlloc (s : AS) (q n : Int) : (Int × Int) × AS :=
  if n < 1 then ((0, 1), s) else match s.fit n.toNat with
    | none => ((0, 3), s)
    | some x => if n ≤ q - s.used then ((s.last + 1, 0), s.add x n.toNat) else ((0, 3), s)

/-- It is what Alloc does with a meter that has used as much. -/
theorem refAlloc_eq (s : AS) (mb : Nat) (m : MS) (n : Int) (hu : m.used = s.used) : (allocV s (some mb) m n).1 = (refAlloc s m.cells n).1 ∧ (allocV s (some mb) m n).2.1 = (refAlloc s m.cells n).2 := by
  unfold allocV refAlloc takeO MS.take
  by_cases h1 : n < 1
  · simp [h1]
  · simp only [if_neg h1]
    cases s.fit n.toNat with
    | none => exact ⟨rfl, rfl⟩
    | some x =>
      have h0 : ¬ n < 0 := by omega
      by_cases h2 : m.cells - m.used < n
      · have h3 : ¬ n ≤ m.cells - s.used := by omega
        simp [h0, h2, h3]
      · have h3 : n ≤ m.cells - s.used := by omega
        simp [h0, h2, h3]

theorem step_append_run {P : Program} (w : World) {ops : Array Oper} {o : Oper} {a : Act} {K : Act → World → Prop} {Q : Exit → Act → World → Prop} {E : Prop} (hgd : o.guard = none) (s x : Operand) (t tn : TypeId)
    (ho : o.op = .call { callee := .builtin .append, args := #[s, x], argTypes := #[t, tn] }) (vs vx : Value) (hs : a.eval s = vs) (hx : a.eval x = vx)
    (v' : Value) (w' : World) (hr : (Builtin.append_ #[t, tn] o.type #[vs, vx]).run P w = .ok v' w') (h : K (a.put o.dst v') w') :
    if Region.wanted o (yielded ops a.tmps) = true then Oper.wp P o a w K Q else E := by
  have hw : Region.wanted o (yielded ops a.tmps) = true := by simp [Region.wanted, hgd]
  rw [if_pos hw]
  exact Lib.wp_append_run w s x t tn ho vs vx hs hx v' w' hr h

/-- What a call that turns the arena says: its blocks may turn, the list's block may be another one. -/
def Did2 (w : World) (b g : Nat) (lv : Value) (s' : AS) (q : Int) (w' : World) : Prop :=
  ∃ lv', RA w' b g lv' s' q ∧ (∀ k, lv'.ownBlock = some k → lv.ownBlock = some k ∨ w.heap.size ≤ k) ∧ Keep (fun k => k = b ∨ k = g ∨ lv.ownBlock = some k) w w'

theorem Did2.drawn {w w1 w' : World} {b g : Nat} {lv : Value} {s' : AS} {q : Int} (d : Drawn w w1) (h : Did2 w1 b g lv s' q w') : Did2 w b g lv s' q w' := by
  obtain ⟨lv', h1, h2, h3⟩ := h
  exact ⟨lv', h1, fun k hk => by rw [← d.heap]; exact h2 k hk, (d.keep _).trans h3⟩

theorem Did2.same {w w' : World} {b g : Nat} {lv : Value} {s : AS} {q : Int} (h : RA w b g lv s q) (d : Drawn w w') : Did2 w b g lv s q w' :=
  ⟨lv, h.quiet (d.keep _), fun _ h => .inl h, d.keep _⟩

theorem dtrans {a b c : World} (h : Drawn a b) (k : Drawn b c) : Drawn a c := by
  obtain ⟨i, rfl⟩ := h
  obtain ⟨j, rfl⟩ := k
  exact ⟨i + j, by rw [World.drewN_drewN]⟩

set_option maxRecDepth 100000 in
set_option maxHeartbeats 1000000 in
/-- From the place where the first run that is long enough ends. -/
theorem alloc_ref (b g : Nat) (lv : Value) (s : AS) (q n : Int) (w : World) (h : RA w b g lv s q) (ho : s.Ok) (q0 : 0 ≤ q) (q1 : q ≤ 1048576) (n1 : -9223372036854775808 ≤ n) (n2 : n ≤ 9223372036854775807) (hla : s.last ≤ 1000000) :
    Calls Try.prog 20 #[Arena.ptr b, .int .i64 n] w fun e w' => e = .returned (.tuple #[.int .i64 (refAlloc s q n).1.1, .int .i64 (refAlloc s q n).1.2]) ∧ Did2 w b g lv (refAlloc s q n).2 q w' := by
  by_cases h1 : n < 1
  · rw [show refAlloc s q n = ((0, 1), s) from by unfold refAlloc; rw [if_pos h1]]
    have H := Lib.hid (Did2.same h ⟨0, rfl⟩)
    clear h
    go_enter Try.func20, Try.ntmps20
    go_wp2
    go_ret2
    exact ⟨rfl, H.out⟩
  · obtain ⟨n, rfl⟩ : ∃ k : Nat, n = k := ⟨n.toNat, by omega⟩
    have hn : 1 ≤ n := by omega
    have hsz := ho.sz
    have hus := ho.used_le
    have hfr := fun (p : Nat) (w' : World) (hp : p < s.size) (d : Drawn w w') => free_any b g lv s q p w' (h.quiet (d.keep _)) ho hp
    have k0 : w.cell? ⟨b, 0, none⟩ = some (.int .i64 s.size) := h.at_.cell rfl
    have H := Lib.hid (And.intro h (And.intro ho (And.intro hfr k0)))
    have h1' : decide ((n : Int) < 1) = false := by simp; omega
    clear h ho hfr k0 h1
    go_enter Try.func20, Try.ntmps20
    go_wp2_with fail
    go_loopw [6, 7] (fun r i wr => ∃ p c : Nat, p ≤ s.size ∧ i = .int .i64 p ∧ r = .int .i64 c ∧ c < n ∧ c ≤ p ∧ Drawn w wr ∧ (∀ j, p - c ≤ j → j < p → s.fr j = true) ∧ (c < p → s.fr (p - c - 1) = false) ∧ ∀ y, y + n ≤ p → ¬ Run s.fr y n) (fun _ i _ => s.size - (intOf i).toNat)
    case atStart => exact ⟨0, 0, Nat.zero_le _, rfl, rfl, by omega, Nat.le_refl _, ⟨0, rfl⟩, fun j h1 h2 => by omega, fun h => by omega, fun y hy => by omega⟩
    case round =>
      obtain ⟨p, c, hp, rfl, rfl, hc, hcp, hd, hrun, hmax, hno⟩ := hrel
      have k0 := drawn_cell hd H.out.2.2.2
      by_cases hlt : p < s.size
      · have hcall := Lib.hid (H.out.2.2.1 p wr hlt hd)
        have hlt' : (p : Int) < s.size := by omega
        have HV := Lib.hid (And.intro hrun (And.intro hmax (And.intro hno hd)))
        clear hrun hmax hno hd
        by_cases hf : s.fr p = true
        · rw [hf] at hcall
          by_cases hcn : c + 1 = n
          · have hcn' : ((c : Int) + 1 == n) = true := by simp; omega
            have hfit : s.fit n = some (p - c) := fit_some (by omega) (fun i h1 h2 => by
              by_cases e : i = p
              · subst e; exact hf
              · exact HV.out.1 i (by omega) (by omega)) (fun y hy => HV.out.2.2.1 y (by omega))
            have hra : refAlloc s q n = if (n : Int) ≤ q - s.used then (((s.last : Int) + 1, 0), s.add (p - c) n) else ((0, 3), s) := by
              unfold refAlloc
              rw [if_neg (by omega), Int.toNat_natCast, hfit]
            have HRA := Lib.hid hra
            go_wp2_with fail
            refine hcall.out.mono ?_
            rintro e w1 ⟨rfl, d1⟩
            have d01 : Drawn w w1 := by
              obtain ⟨k1, rfl⟩ := HV.out.2.2.2
              obtain ⟨k2, rfl⟩ := d1
              exact ⟨k1 + k2, by rw [World.drewN_drewN]⟩
            have R1 := H.out.1.quiet (d01.keep _)
            have b4 : w1.cell? ⟨b, 4, none⟩ = some (.int .i64 s.used) := R1.at_.cell rfl
            have b5 : w1.cell? ⟨b, 5, none⟩ = some (.int .i64 q) := R1.at_.cell rfl
            have HR := Lib.hid (And.intro R1 d01)
            have hq0 : decide (0 ≤ q) = true := by simpa using q0
            have hw : IntKind.i64.wrap (q - s.used) = q - s.used := by rw [IntKind.wrap_i64]; omega
            have HX := Lib.hid (And.intro hfit hf)
            clear R1 d01 d1 k0 hra hfit hf
            by_cases hq : (n : Int) ≤ q - s.used
            · have HRA2 := Lib.hid (show refAlloc s q n = (((s.last : Int) + 1, 0), s.add (p - c) n) from by rw [HRA.out, if_pos hq])
              have hq' : decide (q - (s.used : Int) < n) = false := by simp; omega
              go_wp2_with fail
              go_quiet (fail)
              have R2 := HR.out.1.quiet ((show Drawn w1 (w1.drewN nq) from ⟨nq, rfl⟩).keep _)
              have D2 := Lib.hid (drawn_trans HR.out.2 nq)
              clear b4 b5
              generalize w1.drewN nq = W2 at *
              have b3 : W2.cell? ⟨b, 3, none⟩ = some (.int .i64 s.last) := R2.at_.cell rfl
              have b4 : W2.cell? ⟨b, 4, none⟩ = some (.int .i64 s.used) := R2.at_.cell rfl
              have f3 := R2.at_.frozen 3
              have f4 := R2.at_.frozen 4
              have R2 := Lib.hid R2
              clear hq0 hw hq'
              go_upto_region 15 with fail
              have A3 := (R2.out.at_.set 3 (.int .i64 ((s.last : Int) + 1))).set 4 (.int .i64 ((s.used : Int) + n))
              have q3 : Keep (fun k => k = b) W2 ((W2.setCell ⟨b, 3, none⟩ (.int .i64 ((s.last : Int) + 1))).setCell ⟨b, 4, none⟩ (.int .i64 ((s.used : Int) + n))) := ((Keep.refl (fun k => k = b) W2).setCell (fun _ => rfl) _).setCell (fun _ => rfl) _
              have hz3 : ((W2.setCell ⟨b, 3, none⟩ (.int .i64 ((s.last : Int) + 1))).setCell ⟨b, 4, none⟩ (.int .i64 ((s.used : Int) + n))).heap.size = W2.heap.size := by simp
              clear b3 b4 f3 f4
              generalize (W2.setCell ⟨b, 3, none⟩ (.int .i64 ((s.last : Int) + 1))).setCell ⟨b, 4, none⟩ (.int .i64 ((s.used : Int) + n)) = W3 at *
              simp only [List.setIfInBounds_toArray, List.set_cons_zero, List.set_cons_succ] at A3
              obtain ⟨cc, g1, g2, g3⟩ := R2.out.cr
              have G3 := g1.keep q3 (fun e => R2.out.bg e.symm)
              have L3 := R2.out.rl.keep q3 (fun k hk e => (R2.out.ne k hk).1 e)
              have L3d : RL W3.drew lv s.L := L3
              have hx1 : s.last + 1 = (⟨s.last + 1, p - c, n⟩ : Reg).id := rfl
              obtain ⟨lv', W5, hrun, L5, q5, f5⟩ := L3d.push ⟨s.last + 1, p - c, n⟩ (by have := H.out.2.1.len_le; omega) 31
              obtain ⟨la5, len5, cap5, rfl⟩ : ∃ a m c, lv' = .slice a m c := by obtain ⟨a, c, e, -⟩ := L5.form; exact ⟨a, _, c, e⟩
              simp only [show (((s.last + 1 : Nat) : Int)) = (s.last : Int) + 1 from by omega, show (((p - c : Nat) : Int)) = (p : Int) - n + 1 from by omega] at hrun
              have hrun : (Builtin.append_ #[31, 31] 31 #[lv, .slice (some ⟨W3.heap.size, 0, none⟩) 1 1]).run Try.prog (W3.alloc (.cells #[.int .i64 ((s.last : Int) + 1), .int .i64 ((p : Int) - n + 1), .int .i64 n] 49)).drew = .ok (Value.slice la5 len5 cap5) W5 := hrun
              have b1 : W3.cell? ⟨b, 1, none⟩ = some lv := A3.cell rfl
              have b3 : W3.cell? ⟨b, 3, none⟩ = some (.int .i64 ((s.last : Int) + 1)) := A3.cell rfl
              have b1a : (W3.alloc (.cells #[.int .i64 ((s.last : Int) + 1), .int .i64 ((p : Int) - n + 1), .int .i64 n] 49)).cell? ⟨b, 1, none⟩ = some lv := (A3.alloc _).cell rfl
              have hw1 : IntKind.i64.wrap ((p : Int) - n) = (p : Int) - n := by rw [IntKind.wrap_i64]; omega
              have hw2 : IntKind.i64.wrap ((p : Int) - n + 1) = (p : Int) - n + 1 := by rw [IntKind.wrap_i64]; omega
              have A5 := (A3.drew).keep q5 (fun e => (R2.out.ne b e).1 rfl)
              have G5 := (G3.drew).keep q5 (fun e => (R2.out.ne g e).2 rfl)
              have b15 : W5.cell? ⟨b, 1, none⟩ = some lv := A5.cell rfl
              have f15 := A5.frozen 1
              have FIN : RA (W5.setCell ⟨b, 1, none⟩ (Value.slice la5 len5 cap5)) b g (Value.slice la5 len5 cap5) (s.add (p - c) n) q := by
                have hbl := A5.lt
                have hnb : ∀ k, (Value.slice la5 len5 cap5).ownBlock = some k → k ≠ b ∧ k ≠ g := fun k hk => by
                  rcases f5 k hk with e | e
                  · exact R2.out.ne k e
                  · have h7 := A3.lt
                    have h8 := G3.lt
                    have h9 : W3.heap.size ≤ k := e
                    omega
                refine ⟨?_, L5.keep (S := (· = b)) ((Keep.refl (· = b) W5).setCell (fun _ => rfl) _) (fun k hk e => (hnb k hk).1 e), ⟨cc, G5.setOther (p := ⟨b, 1, none⟩) (fun e => R2.out.bg e.symm) _, g2, g3⟩, R2.out.bg, hnb⟩
                have h6 := A5.set 1 (Value.slice la5 len5 cap5)
                simp only [List.setIfInBounds_toArray, List.set_cons_zero, List.set_cons_succ] at h6
                have hu : (((s.add (p - c) n).used : Nat) : Int) = (s.used : Int) + n := by rw [AS.add_used]; omega
                rw [hu]
                exact h6
              have KK : Keep (fun k => k = b ∨ k = g ∨ lv.ownBlock = some k) W2 (W5.setCell ⟨b, 1, none⟩ (Value.slice la5 len5 cap5)) :=
                (((q3.mono (T := fun k => k = b ∨ k = g ∨ lv.ownBlock = some k) fun _ e => .inl e).trans ((Keep.refl _ W3).drew)).trans (q5.mono fun _ e => .inr (.inr e))).setCell (fun _ => .inl rfl) _
              have F5 : ∀ k, (Value.slice la5 len5 cap5).ownBlock = some k → lv.ownBlock = some k ∨ W2.heap.size ≤ k := fun k hk => (f5 k hk).imp id (fun e => by have h9 : W3.heap.size ≤ k := e; omega)
              have HN := Lib.hid (And.intro FIN (And.intro KK F5))
              clear FIN KK F5 L3 L3d L5 q5 f5 A5 G5 G3 g1 g2 g3 q3 A3 hx1
              go_region_law (refine step_append_run _ rfl (.tmp 64) (.tmp 75) 31 31 rfl lv (.slice (some ⟨W3.heap.size, 0, none⟩) 1 1) (by simp [Act.eval]) (by simp [Act.eval]) (Value.slice la5 len5 cap5) W5 hrun ?_)
              all_goals
                have HD := Lib.hid (Did2.drawn D2.out (show Did2 W2 b g lv (s.add (p - c) n) q (W5.setCell ⟨b, 1, none⟩ (Value.slice la5 len5 cap5)) from ⟨_, HN.out.1, HN.out.2.2, HN.out.2.1⟩))
                have c3 : (W5.setCell ⟨b, 1, none⟩ (Value.slice la5 len5 cap5)).cell? ⟨b, 3, none⟩ = some (.int .i64 ((s.last : Int) + 1)) := HN.out.1.at_.cell rfl
                generalize W5.setCell ⟨b, 1, none⟩ (Value.slice la5 len5 cap5) = W6 at *
                go_wp2
                go_ret2
                rw [HRA2.out]
                exact ⟨rfl, HD.out⟩
            · have HRA2 := Lib.hid (show refAlloc s q n = ((0, 3), s) from by rw [HRA.out, if_neg hq])
              have hq' : decide (q - (s.used : Int) < n) = true := by simp; omega
              go_wp2_with fail
              go_quiet (fail)
              have HF := Lib.hid (Did2.same H.out.1 (drawn_trans HR.out.2 nq))
              go_wp2
              go_ret2
              rw [HRA2.out]
              exact ⟨rfl, HF.out⟩
          · have hcn' : ((c : Int) + 1 == n) = false := by simp; omega
            go_wp2_with fail
            refine hcall.out.mono ?_
            rintro e w1 ⟨rfl, d1⟩
            have HD := Lib.hid d1
            clear d1 k0
            go_wp2
            go_roundw
            case rel => exact ⟨p + 1, c + 1, by omega, by go_num, by go_num, by omega, by omega, dtrans HV.out.2.2.2 HD.out, fun j h1 h2 => (by
              by_cases e : j = p
              · subst e; exact hf
              · exact HV.out.1 j (by omega) (by omega)), fun h => (by rw [show p + 1 - (c + 1) - 1 = p - c - 1 from by omega]; exact HV.out.2.1 (by omega)), fun y hy hr => (by
              by_cases e : y + n ≤ p
              · exact HV.out.2.2.1 y e hr
              · have h5 := HV.out.2.1 (by omega)
                rw [hr (p - c - 1) (by omega) (by omega)] at h5
                cases h5)⟩
            case measure => simp [intOf]; omega
        · rw [show s.fr p = false from by simpa using hf] at hcall
          go_wp2_with fail
          refine hcall.out.mono ?_
          rintro e w1 ⟨rfl, d1⟩
          have HD := Lib.hid d1
          clear d1 k0
          go_wp2
          go_roundw
          case rel => exact ⟨p + 1, 0, by omega, by go_num, rfl, by omega, by omega, dtrans HV.out.2.2.2 HD.out, fun j h1 h2 => (by omega), fun _ => (by rw [show p + 1 - 0 - 1 = p from by omega]; simpa using hf), fun y hy hr => (by
            by_cases e : y + n ≤ p
            · exact HV.out.2.2.1 y e hr
            · exact hf (hr p (by omega) (by omega)))⟩
          case measure => simp [intOf]; omega
      · obtain rfl : p = s.size := by omega
        have hf : ¬ ((s.size : Int) < s.size) := by omega
        have hra : refAlloc s q n = ((0, 3), s) := by
          unfold refAlloc
          rw [if_neg (by omega), Int.toNat_natCast, fit_none (fun y hr => ?_)]
          by_cases e : y + n ≤ s.size
          · exact hno y e hr
          · have h5 := hr (y + n - 1) (by omega) (by omega)
            unfold AS.fr at h5
            simp only [Bool.and_eq_true, decide_eq_true_eq] at h5
            omega
        have HRA := Lib.hid hra
        have HF := Lib.hid (Did2.same H.out.1 hd)
        clear hrun hmax hno hd hra
        go_wp2
        go_ret2
        rw [HRA.out]
        exact ⟨rfl, HF.out⟩

end Go.Proofs.Ytklknkeanmjhnaa.Ref02
