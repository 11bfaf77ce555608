/- ArenaFresh, walked: a region that is handed out holds noughts alone, and what is set in it is read in it alone. -/
import Derived.Test.YtklknkeanmjhnaaFresh2
import Derived.Deep.RegionHeld3
import Derived.Deep.DeepCutAuto
import Derived.Deep.CutBlock
import Derived.Deep.LoopGhost
namespace Go.Proofs.Ytklknkeanmjhnaa.ArenaFresh
open Go.RowKit Go.Maps Go.Proofs.Ytklknkeanmjhnaa.Base Go.Proofs.Ytklknkeanmjhnaa.Arena Go.Proofs.Ytklknkeanmjhnaa.Stretch Go.Proofs.Ytklknkeanmjhnaa.Regs Go.Proofs.Ytklknkeanmjhnaa.Law02

theorem give_none (L : List Reg) : giveAll none mm L = mm := by
  unfold giveAll
  induction L with
  | nil => rfl
  | cons r L ih => exact ih

theorem fit_zero {s : AS} (h : s.Ok) {n x : Nat} (hx : s.fit n = some x) (p : Nat) (h1 : x ≤ p) (h2 : p < x + n) : s.C p = 0 := by
  unfold AS.fit at hx
  have := List.find?_some hx
  exact h.zero p ((fit_run.1 this) p h1 h2)

/-- What Get answers of a cell of a region. -/
theorem get_in {s : AS} (h : s.Ok) {r : Reg} (hr : r ∈ s.L) {p : Nat} (hp : p < r.n) : getV s r.id p = (s.C (r.base + p), 0) := by
  have hv : placeV s r.id p = ((r.base : Int) + p, 0) := by
    unfold placeV
    rw [look_self h.ids hr]
    simp only
    rw [if_pos (by omega)]
  unfold getV
  rw [hv]
  simp only [if_pos]
  rw [show ((r.base : Int) + p).toNat = r.base + p from by omega]

theorem get_is {w0 : World} {B : Nat → Prop} (b : Nat) (s : AS) (id i v e : Int) (hv : getV s id i = (v, e)) (w : World) (h : One w0 w B b none s mm) (i1 : -9223372036854775808 ≤ id) (i2 : id ≤ 9223372036854775807) :
    Calls Try.prog 25 #[Arena.ptr b, .int .i64 id, .int .i64 i] w fun x w' => x = .returned (.tuple #[.int .i64 v, .int .i64 e]) ∧ Keep (fun _ => False) w w' := by
  have := one_get b none s mm id i w h i1 i2
  rw [hv] at this
  exact this.mono fun _ _ r => ⟨r.1, r.2.2⟩

theorem len_is {w0 : World} {B : Nat → Prop} (b : Nat) (s : AS) (id v : Int) (hv : (match Regs.look s.L id with | some r => (r.n : Int) | none => -1) = v) (w : World) (h : One w0 w B b none s mm) (i1 : -9223372036854775808 ≤ id) (i2 : id ≤ 9223372036854775807) :
    Calls Try.prog 30 #[Arena.ptr b, .int .i64 id] w fun x w' => x = .returned (.int .i64 v) ∧ Keep (fun _ => False) w w' := by
  subst hv
  exact (one_len b none s mm id w h i1 i2).mono fun _ _ r => ⟨r.1, r.2.2⟩

theorem keepF {w w' : World} (h : w.grownBy w' none) : Keep (fun _ => False) w w' := ⟨h.os, h.tape, h.output, h.size, fun k hk _ => h.block k hk (by simp)⟩

theorem grown_of {w w' : World} (q : Keep (fun _ => False) w w') : w.grownBy w' none := ⟨q.os, q.tape, q.output, q.size, fun k hk _ => q.block k hk id⟩

set_option maxRecDepth 100000 in
set_option maxHeartbeats 4000000 in
theorem walk {H : Type} {enc : TypeId × Value → H} (v0 v1 : Value) {d0 d1 : DataW H} {p0 p1 : List MemPlace} (W : World)
    (k0 : Value.okWide Try.prog W .any 0 3 v0) (k1 : Value.okWide Try.prog W .any 0 22 v1)
    (h0 : DataW.Trod enc Try.prog W 0 (fun _ => true) true 3 v0 d0 p0) (h1 : DataW.Trod enc Try.prog W 0 (fun _ => true) true 22 v1 d1 p1) :
    Calls Try.prog 4 #[v0, v1] W fun e w' => e = .returned (.bool true) ∧ Below W.heap.size W w' := by
  obtain ⟨size, rfl, -, -⟩ := int_arg Try.underlying3 k0 h0
  obtain ⟨la, len, cap, bl, off, rfl, hlen, hla, hrow⟩ := ops_arg k1 h1
  clear k0 k1 h0 h1
  have g1 := fun w => long_any size la len cap w hlen
  by_cases hb1 : (decide (300 < size) || decide (200 < len)) = true
  · rw [hb1] at g1
    have G1 := Lib.hid g1
    clear g1 hb1 hrow hla
    go_enter Try.func4, Try.ntmps4
    go_wp2_with fail
    refine (awake_any _).mono ?_
    rintro e w1 ⟨rfl, q1⟩
    go_wp2_with fail
    refine (G1.out _).mono ?_
    rintro e w2 ⟨rfl, rfl⟩
    go_wp2_with fail
    refine (awake_any _).mono ?_
    rintro e w4 ⟨rfl, q3⟩
    have Q := Lib.hid (q1.trans q3)
    clear q1 q3
    go_wp2
    go_ret
    exact ⟨rfl, Q.out.below (Nat.le_refl _) (fun _ _ h => h)⟩
  · have hl200 : len ≤ 200 := by simp at hb1; omega
    rw [Bool.not_eq_true] at hb1
    rw [hb1] at g1
    have G1 := Lib.hid g1
    have HR := Lib.hid hrow
    have HA := Lib.hid hla
    clear g1 hb1 hrow hla
    have hmm := @run_makeMap Try.prog
    go_enter Try.func4, Try.ntmps4
    go_wp2_with fail
    refine (awake_any _).mono ?_
    rintro e w1 ⟨rfl, q1⟩
    go_wp2_with fail
    refine (G1.out _).mono ?_
    rintro e w2 ⟨rfl, rfl⟩
    go_wp2_with fail
    refine (one_new (w0 := W) none size mm _ q1 trivial (fun k hk => by cases hk)).mono ?_
    rintro e w3 ⟨b, rfl, O1, -⟩
    have T0 := Fr.made O1 rfl
    clear O1 q1
    go_wp2_with fail
    generalize w3.alloc (.map #[] 0) = w4 at *
    generalize w3.heap.size = hm0 at *
    go_loopg [6, 32] len (fun gg hv i wr => ∃ (k : Nat) (s : AS) (hm kk : Nat) (hb : Nat → Nat) (D : DataW Unit), k + gg = len ∧ i = .int .i64 k ∧ hv = .map (some hm) ∧ Fr W wr [] b s s.L s.C hm kk hb D ∧ s.last ≤ k ∧ kk ≤ k)
    case atStart => exact ⟨0, AS.new size, hm0, 0, _, _, Nat.zero_add _, rfl, rfl, T0, Nat.le_refl _, Nat.le_refl _⟩
    case round =>
      obtain ⟨k, s, hm, kk, hb, D, hk, rfl, rfl, hT, hl1, hkk⟩ := hrel
      by_cases hlt : k < len
      · obtain ⟨hla, hbl⟩ := HA.out (by omega)
        subst hla
        have hc : ∀ j, j < 4 → ∃ q : Int, wr.cell? ⟨bl, off + (k * 4 + j), none⟩ = some (.int .i64 q) ∧ -9223372036854775808 ≤ q ∧ q ≤ 9223372036854775807 := fun j hj => by
          obtain ⟨q, h1, h2⟩ := HR.out k j hlt hj
          exact ⟨q, (hT.o.keep.cell hbl (fun h => h)).trans h1, h2⟩
        obtain ⟨x0, c0, -, -⟩ := hc 0 (by omega)
        obtain ⟨x1, c1, y1, z1⟩ := hc 1 (by omega)
        obtain ⟨x2, c2, y2, z2⟩ := hc 2 (by omega)
        obtain ⟨x3, c3, y3, z3⟩ := hc 3 (by omega)
        rw [Nat.add_zero] at c0
        simp only [← Nat.add_assoc] at c1 c2 c3
        have hlt' : (k : Int) < len := by omega
        have T1 := hT.more (.cells #[.int .i64 x0, .int .i64 x1, .int .i64 x2, .int .i64 x3] 37)
        have a1 := At.new wr #[.int .i64 x0, .int .i64 x1, .int .i64 x2, .int .i64 x3] 37
        have T1 := Lib.hid (And.intro T1 a1)
        clear hc hT a1 T0
        go_upto_block 2 with fail
        go_cut [6] (fun hv wx => ∃ (s' : AS) (hm' kk' : Nat) (hb' : Nat → Nat) (D' : DataW Unit), hv = .map (some hm') ∧ Fr W wx [wr.heap.size] b s' s'.L s'.C hm' kk' hb' D' ∧ s'.last ≤ k + 1 ∧ kk' ≤ k + 1)
        case first =>
          obtain ⟨U1, a1⟩ := T1.out
          have ok1 := Lib.hid U1.o.ok
          have b0 : (wr.alloc (.cells #[.int .i64 x0, .int .i64 x1, .int .i64 x2, .int .i64 x3] 37)).cell? ⟨wr.heap.size, 0, none⟩ = some (.int .i64 x0) := a1.cell rfl
          have b1 : (wr.alloc (.cells #[.int .i64 x0, .int .i64 x1, .int .i64 x2, .int .i64 x3] 37)).cell? ⟨wr.heap.size, 1, none⟩ = some (.int .i64 x1) := a1.cell rfl
          have b2 : (wr.alloc (.cells #[.int .i64 x0, .int .i64 x1, .int .i64 x2, .int .i64 x3] 37)).cell? ⟨wr.heap.size, 2, none⟩ = some (.int .i64 x2) := a1.cell rfl
          have b3 : (wr.alloc (.cells #[.int .i64 x0, .int .i64 x1, .int .i64 x2, .int .i64 x3] 37)).cell? ⟨wr.heap.size, 3, none⟩ = some (.int .i64 x3) := a1.cell rfl
          have hobB : Bl [wr.heap.size] s.L hm hb wr.heap.size := .inr (.inl (by simp))
          clear U1 a1
          generalize hW1 : wr.alloc (.cells #[.int .i64 x0, .int .i64 x1, .int .i64 x2, .int .i64 x3] 37) = W1 at *
          have hW1 := Lib.hid hW1
          have HOB := Lib.hid hobB
          clear c0 c1 c2 c3 hobB
          by_cases e1 : x0 = 1
          · subst e1
            go_wp2_with fail
            refine (one_alloc b none s mm x2 _ T1.out.1.o (by omega)).mono ?_
            rintro e w5 ⟨rfl, O2, q2⟩
            have T2 := T1.out.1.did (s' := (allocV s none mm x2).2.1) (by exact O2) q2
            have a2 := T1.out.2.keep q2 (fun hn => hn HOB.out)
            rcases alloc_cases s none mm x2 with ⟨x, e5, e6, hn1, hfit⟩ | ⟨e4, e5, e6⟩
            · rw [e6] at T2
              rw [e5]
              obtain ⟨n, rfl⟩ : ∃ n : Nat, x2 = n := ⟨x2.toNat, by omega⟩
              rw [Int.toNat_natCast] at T2 hfit
              have T3 := T2
              obtain ⟨w6, D', hrun, T4, q6⟩ := T2.add ⟨s.last + 1, x, n⟩ (fun y hy => by have := (ok1.out.idr y hy).2; simp only; omega) (by simp only; omega) (by unfold maxLen; omega) (fun p h1 h2 => fit_zero ok1.out hfit p h1 h2)
              have hC0 := fit_zero ok1.out hfit
              rw [show (((⟨s.last + 1, x, n⟩ : Reg).id : Nat) : Int) = (s.last : Int) + 1 from by simp only; omega] at hrun
              have okA := T4.o.ok
              have hob2 : wr.heap.size ≠ hm := fun e => T2.hx.1 (by rw [← e]; simp)
              have a3 := a2.keep q6 hob2
              have HC0 := Lib.hid (And.intro hC0 okA)
              have T4 := Lib.hid T4
              have b2' : w6.cell? ⟨wr.heap.size, 2, none⟩ = some (.int .i64 n) := a3.cell rfl
              have hn' : n ≤ 1048576 := by have h1 := (okA.reg ⟨s.last + 1, x, n⟩ (by simp [AS.add])).2; have h2 := okA.sz; simp only at h1; omega
              clear T2 T3 a2 a3 q6 hC0 okA O2 q2 e5 e6 T1 hob2 b0 b1 b2 b3 hfit
              simp only
              go_wp2_with fail
              go_loopg [54] n (fun gg i wr2 => ∃ p : Nat, p + gg = n ∧ i = .int .i64 p ∧ Fr W wr2 [wr.heap.size] b (s.add x n) (s.L ++ [⟨s.last + 1, x, n⟩]) s.C hm (kk + 1) (fun i => if i = s.last + 1 then w5.heap.size else hb i) D')
              case atStart => exact ⟨0, Nat.zero_add _, rfl, T4.out⟩
              case round =>
                obtain ⟨p, hp, rfl, hF⟩ := hrel
                by_cases hpl : p < n
                · have hg : getV (s.add x n) ((s.last : Int) + 1) p = (0, 0) := by
                    have h5 := get_in HC0.out.2 (r := ⟨s.last + 1, x, n⟩) (by simp [AS.add]) hpl
                    rw [show ((s.last : Int) + 1) = (((⟨s.last + 1, x, n⟩ : Reg).id : Nat) : Int) from by simp only; omega, h5]
                    simp only [AS.add, HC0.out.1 (x + p) (by omega) (by omega)]
                  have hpl' : (p : Int) < n := by omega
                  have HF := Lib.hid (And.intro hF hg)
                  clear hF hg b2'
                  go_wp2_with fail
                  refine (get_is b (s.add x n) ((s.last : Int) + 1) p 0 0 HF.out.2 _ HF.out.1.o (by omega) (by omega)).mono ?_
                  rintro e w7 ⟨rfl, q7⟩
                  have HF2 := Lib.hid (HF.out.1.quiet q7)
                  clear HF q7
                  go_wp2_with fail
                  go_roundg (n - (p + 1))
                  case measure => omega
                  case rel => exact ⟨p + 1, by omega, by go_num, HF2.out⟩
                · obtain rfl : p = n := by omega
                  have hf3 : ¬ ((p : Int) < p) := by omega
                  have HF := Lib.hid hF
                  clear hF b2'
                  go_wp2_with fail
                  go_meet
                  case rel => exact ⟨s.add x p, hm, kk + 1, _, D', rfl, HF.out, by simp only [AS.add]; omega, by omega⟩
            · rw [e6] at T2
              have e5' : ((allocV s none mm x2).1.2 != 0) = true := by simpa using e5
              have HN := Lib.hid (T2.less (X' := []) (by simp))
              clear T2 O2 q2 e5 e6 T1 a2 b0 b1 b2 b3
              generalize (allocV s none mm x2).1.2 = ee at *
              generalize (allocV s none mm x2).1.1 = ii at *
              go_wp2_with fail
              go_roundg (len - (k + 1))
              case measure => omega
              case rel => exact ⟨k + 1, s, hm, kk, hb, D, by omega, by go_num, rfl, HN.out, by omega, by omega⟩
          · have e1' : (x0 == 1) = false := by simpa using e1
            by_cases e2 : x0 = 2
            · subst e2
              go_wp2_with fail
              refine (one_free b none s mm x1 _ T1.out.1.o y1 z1).mono ?_
              rintro e w5 ⟨rfl, O2, q2⟩
              have T2 := T1.out.1.did (s' := (freeV s none mm x1).2.1) (by exact O2) q2
              have a2 := T1.out.2.keep q2 (fun hn => hn HOB.out)
              have b1' : w5.cell? ⟨wr.heap.size, 1, none⟩ = some (.int .i64 x1) := a2.cell rfl
              cases hlk : Regs.look s.L x1 with
              | none =>
                have hfv : freeV s none mm x1 = (7, s, mm) := by unfold freeV; rw [hlk]
                rw [hfv] at T2 ⊢
                have HN := Lib.hid T2
                clear T2 O2 q2 hlk hfv T1 a2 b0 b1 b2 b3 b1'
                simp only
                go_wp2_with fail
                go_meet
                case rel => exact ⟨s, hm, kk, hb, D, rfl, HN.out, by omega, by omega⟩
              | some r =>
                obtain ⟨hr1, hr2⟩ := look_mem hlk
                have hfv : freeV s none mm x1 = (0, s.del r, giveO none mm r.n) := by unfold freeV; rw [hlk]
                rw [hfv] at T2 ⊢
                subst hr2
                obtain ⟨w6, D', hrun, T3⟩ := T2.del r (by omega) 0
                have T4 : Fr W w6 [wr.heap.size] b (s.del r) (s.del r).L (s.del r).C hm kk hb D' := T3.recf (fun y hy p h1 h2 => by
                  have hy2 : y ∈ (s.del r).L := hy
                  obtain ⟨m1, m2⟩ := mem_del.1 hy2
                  have := apart_of ok1.out.ids ok1.out.apart m1 hr1 m2
                  simp only [AS.del]
                  rw [if_neg (by omega)])
                have HN := Lib.hid T4
                clear T2 T3 T4 O2 q2 hlk hfv T1 a2 b0 b1 b2 b3 hr1
                simp only
                go_wp2_with fail
                go_meet
                case rel => exact ⟨s.del r, hm, kk, hb, D', rfl, HN.out, by simp only [AS.del]; omega, by omega⟩
            · have e2' : (x0 == 2) = false := by simpa using e2
              by_cases e3 : x0 = 3
              · subst e3
                go_wp2_with fail
                refine (Arena.one_set b none s mm x1 x2 x3 _ T1.out.1.o y1 z1).mono ?_
                rintro e w5 ⟨rfl, O2, q2⟩
                have T2 := T1.out.1.did (s' := s.set x1 x2 x3) O2 q2
                have a2 := T1.out.2.keep q2 (fun hn => hn HOB.out)
                by_cases hpv : (placeV s x1 x2).2 = 0
                · obtain ⟨r, hr1, hr2, hi1, hi2, hpl⟩ : ∃ r, r ∈ s.L ∧ (r.id : Int) = x1 ∧ 0 ≤ x2 ∧ x2 < r.n ∧ placeV s x1 x2 = ((r.base : Int) + x2, 0) := by
                    unfold placeV at hpv ⊢
                    cases hlk : Regs.look s.L x1 with
                    | none => rw [hlk] at hpv; simp at hpv
                    | some r =>
                      rw [hlk] at hpv
                      simp only at hpv ⊢
                      by_cases hi : 0 ≤ x2 ∧ x2 < r.n
                      · exact ⟨r, (look_mem hlk).1, (look_mem hlk).2, hi.1, hi.2, by rw [if_pos hi]⟩
                      · rw [if_neg hi] at hpv; simp at hpv
                  subst hr2
                  obtain ⟨i, rfl⟩ : ∃ i : Nat, x2 = i := ⟨x2.toNat, by omega⟩
                  obtain ⟨n1, n2⟩ := ok1.out.reg r hr1
                  have hsz := ok1.out.sz
                  have hid := (ok1.out.idr r hr1).2
                  obtain ⟨hlo, w6, hup, T3⟩ := T2.put ok1.out.ids ok1.out.apart hr1 i (by omega) (by omega) x3 (by omega) (by unfold maxLen; omega)
                  have hsl : (s.set r.id i x3).L = s.L := by unfold AS.set; split <;> rfl
                  have hsla := set_last s r.id i x3
                  have hsc : (s.set r.id i x3).C = fun p => if p = r.base + i then x3 else s.C p := by
                    unfold AS.set
                    rw [hpl]
                    simp only [if_pos]
                    rw [show ((r.base : Int) + i).toNat = r.base + i from by omega]
                  have T4 : Fr W w6 [wr.heap.size] b (s.set r.id i x3) (s.set r.id i x3).L (s.set r.id i x3).C hm (kk + 1) hb D := by
                    rw [hsl, hsc]
                    exact T3
                  rw [hpv]
                  have b1' : w5.cell? ⟨wr.heap.size, 1, none⟩ = some (.int .i64 r.id) := a2.cell rfl
                  have b2' : w5.cell? ⟨wr.heap.size, 2, none⟩ = some (.int .i64 i) := a2.cell rfl
                  have b3' : w5.cell? ⟨wr.heap.size, 3, none⟩ = some (.int .i64 x3) := a2.cell rfl
                  have HN := Lib.hid (And.intro T4 hsla)
                  clear T2 T3 T4 O2 q2 T1 a2 b0 b1 b2 b3 hr1 hsl hsc hsla hpv hpl hid hsz n1 n2
                  go_wp2_with fail
                  go_meet
                  case rel => exact ⟨_, hm, kk + 1, hb, D, rfl, HN.out.1, by rw [HN.out.2]; omega, by omega⟩
                · have hss : s.set x1 x2 x3 = s := by unfold AS.set; rw [if_neg hpv]
                  have hpv' : ((placeV s x1 x2).2 == 0) = false := by simpa using hpv
                  rw [hss] at T2
                  have HN := Lib.hid T2
                  clear T2 O2 q2 T1 a2 b0 b1 b2 b3 hss hpv
                  generalize (placeV s x1 x2).2 = ee at *
                  go_wp2_with fail
                  go_meet
                  case rel => exact ⟨s, hm, kk, hb, D, rfl, HN.out, by omega, by omega⟩
              · have e3' : (x0 == 3) = false := by simpa using e3
                by_cases e5 : x0 = 5
                · subst e5
                  go_wp2_with fail
                  refine (one_wipe b none s mm _ T1.out.1.o).mono ?_
                  rintro e w5 ⟨rfl, O2, q2⟩
                  rw [give_none] at O2
                  have T2 := (T1.out.1.did O2 q2).anew (fun _ => 0)
                  have HN := Lib.hid T2
                  clear T2 O2 q2 T1 b0 b1 b2 b3
                  go_wp2_with fail
                  go_meet
                  case rel => exact ⟨s.wipe, w5.heap.size, 0, hb, _, rfl, HN.out, by simp only [AS.wipe]; omega, by omega⟩
                · have e5' : (x0 == 5) = false := by simpa using e5
                  go_wp2_with fail
                  go_meet
                  case rel => exact ⟨s, hm, kk, hb, D, rfl, T1.out.1, by omega, by omega⟩
        case rest =>
          obtain ⟨s', hm', kk', hb', D', rfl, T2, hl2, hkk2⟩ := hcut
          clear T1 c0 c1 c2 c3
          have T2 := T2.less (X' := []) (by simp)
          have hown := T2.own.own
          have hok := Lib.hid T2.o.ok
          have HT := Lib.hid T2
          have hhas := Lib.hid T2.own.has
          clear T2
          go_wp2_with (at_range; refine wpList_range_own _ rfl _ 52 rfl 3 53 Seen.law Try.underlying52 outR hm' kk' D' rfl hown ?_; intro w0 hrg0 hg0 hs0)
          have T3 := HT.out.grow (keepF hg0) hs0
          generalize wc.heap.size = rr at *
          clear HT hg0 hs0 hown
          go_loopg [] (Maps.size D') (fun gg wr2 => ∃ (left : Lit → Bool) (cnt : Nat), cnt ≤ gg ∧ wr2.ranges Try.prog 3 outR hm' rr kk' D' left cnt ∧ (∀ kl, left kl = true → Maps.has D' kl = true) ∧ Fr W wr2 [rr] b s' s'.L s'.C hm' kk' hb' D')
          case atStart => exact ⟨_, _, Nat.le_refl _, hrg0, fun _ h => h, T3⟩
          case round =>
            obtain ⟨left, cnt, hcnt, hrg, hlf, hF⟩ := hrel
            have HF := Lib.hid (And.intro hF hlf)
            clear hF hlf T3 hrg0
            go_wp2_with (at_next; refine wpList_next_ranges _ rfl _ rfl 3 Seen.law outR (Value.int .i64) Value.map (fun key kl hkey => (by obtain ⟨x, rfl, _⟩ := Maps.keyOf_int_inv Try.underlying3 hkey; exact ⟨x, rfl⟩)) (fun v y hv => outR_map hv) hm' rr kk' D' left cnt rfl hrg ?_ ?_)
            · intro hc0 hl0
              have HF2 := Lib.hid (HF.out.1.less (X' := []) (by simp))
              clear HF hl0
              go_wp2_with fail
              go_roundg (len - (k + 1))
              case measure => omega
              case rel => exact ⟨k + 1, s', hm', kk', hb', D', by omega, by go_num, rfl, HF2.out, hl2, hkk2⟩
            · intro x c kl ya yb w5 cnt' hkey hlk hv hat hrg5 hlt5 hg5 hs5 hen
              obtain ⟨x', ex, rfl, hwx⟩ := Maps.keyOf_int_inv Try.underlying3 hkey
              cases ex
              have hh := HF.out.2 _ hlk
              rw [hhas.out] at hh
              obtain ⟨r, hr⟩ := Option.isSome_iff_exists.1 hh
              obtain ⟨hr1, hr2⟩ := look_mem hr
              subst hr2
              have hat2 := HF.out.1.own.at_ r hr1 ya
              rw [hat ya] at hat2
              subst hat2
              have hcb := outR_inv hv
              subst hcb
              have F5 := HF.out.1.turn (m := rr) (by simp) (Seen.keep_grown hg5)
              have hlf5 : ∀ kl, (left kl && !kl.sameKey (.int .i64 r.id)) = true → Maps.has D' kl = true := fun kl h => HF.out.2 kl (by simp only [Bool.and_eq_true] at h; exact h.1)
              have hle : r.id ≤ 1000 := by have := (hok.out.idr r hr1).2; omega
              obtain ⟨n1, n2⟩ := hok.out.reg r hr1
              have hsz := hok.out.sz
              have HR5 := Lib.hid (And.intro hr1 (And.intro hr (And.intro hlf5 hrg5)))
              have F5 := Lib.hid F5
              clear HF hh hr hr1 hat hv hlf5 hrg5 hg5 hkey hwx hlk hrg hs5
              go_wp2_with fail
              refine (len_is b s' r.id r.n (by rw [HR5.out.2.1]) _ F5.out.o (by omega) (by omega)).mono ?_
              rintro e w6 ⟨rfl, q6⟩
              have F6 := F5.out.quiet q6
              have R6 := HR5.out.2.2.2.kept (grown_of q6) (by simp) (by simp)
              clear F5 q6 hen
              go_wp2_with fail
              go_loopg [115] r.n (fun gg i wr3 => ∃ p : Nat, p + gg = r.n ∧ i = .int .i64 p ∧ wr3.ranges Try.prog 3 outR hm' rr kk' D' (fun z => left z && !z.sameKey (.int .i64 r.id)) cnt' ∧ Fr W wr3 [rr] b s' s'.L s'.C hm' kk' hb' D')
              case atStart => exact ⟨0, Nat.zero_add _, rfl, R6, F6⟩
              case round =>
                obtain ⟨p, hp, rfl, hrg7, hF7⟩ := hrel
                by_cases hpl : p < r.n
                · have hg := get_in hok.out HR5.out.1 hpl
                  have hpl' : (p : Int) < r.n := by omega
                  have F7 := Lib.hid (And.intro hF7 (And.intro hg hrg7))
                  clear hF7 hg hrg7 F6 R6
                  go_wp2_with fail
                  refine (get_is b s' r.id p _ 0 F7.out.2.1 _ F7.out.1.o (by omega) (by omega)).mono ?_
                  rintro e w8 ⟨rfl, q8⟩
                  have F8 := F7.out.1.quiet q8
                  have R8 := F7.out.2.2.kept (grown_of q8) (by simp) (by simp)
                  have hlo := (F8.inn r HR5.out.1).look (x := p) (by omega) (by omega)
                  have hce : cellF s'.C r (p : Int) = s'.C (r.base + p) := by
                    unfold cellF
                    rw [if_pos (by omega), Int.toNat_natCast]
                  rw [hce] at hlo
                  have F9 := Lib.hid (And.intro F8 R8)
                  clear F7 F8 R8 q8 hce
                  generalize s'.C (r.base + p) = y at *
                  have hyy : (y != y) = false := by simp
                  go_wp2_with fail
                  go_roundg (r.n - (p + 1))
                  case measure => omega
                  case rel => exact ⟨p + 1, by omega, by go_num, F9.out.2, F9.out.1⟩
                · obtain rfl : p = r.n := by omega
                  have hf3 : ¬ ((r.n : Int) < r.n) := by omega
                  have F9 := Lib.hid (And.intro hF7 hrg7)
                  clear hF7 hrg7 F6 R6
                  go_wp2_with fail
                  go_roundg cnt'
                  case measure => omega
                  case rel => exact ⟨_, cnt', Nat.le_refl _, F9.out.2, HR5.out.2.2.1, F9.out.1⟩
      · obtain rfl : k = len := by omega
        have hf : ¬ ((k : Int) < k) := by omega
        have Q := Lib.hid hT.o.keep
        clear hT T0
        go_wp2
        go_ret
        exact ⟨rfl, Q.out.below (Nat.le_refl _) (fun _ _ h => h)⟩

end Go.Proofs.Ytklknkeanmjhnaa.ArenaFresh
