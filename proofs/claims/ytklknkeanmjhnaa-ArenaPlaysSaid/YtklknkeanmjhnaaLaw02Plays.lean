/- ArenaPlays, walked: in every order of calls the arena answers as the document's own. -/
import Derived.Test.YtklknkeanmjhnaaPlays02
import Derived.Deep.RegionHeld3
import Derived.Deep.DeepCutAuto
import Derived.Deep.CutBlock
import Derived.Deep.LoopGhost
namespace Go.Proofs.Ytklknkeanmjhnaa.ArenaPlays
open Go.RowKit Go.Proofs.Ytklknkeanmjhnaa.Base Go.Proofs.Ytklknkeanmjhnaa.Arena Go.Proofs.Ytklknkeanmjhnaa.Stretch Go.Proofs.Ytklknkeanmjhnaa.Regs Go.Proofs.Ytklknkeanmjhnaa.Law02 Go.Proofs.Ytklknkeanmjhnaa.Meter Go.Proofs.Ytklknkeanmjhnaa.Ref02

theorem del_len {s : AS} (h : s.Ok) {r : Reg} (hr : s.L[0]? = some r) : (s.del r).L.length + 1 = s.L.length := by
  have h1 := cut_at h.ids hr
  have h2 : 0 < s.L.length := (List.getElem?_eq_some_iff.1 hr).1
  have h3 : (s.del r).L = s.L.drop 1 := by
    simp only [List.take_zero, List.nil_append, Nat.zero_add] at h1
    exact h1.symm
  rw [h3, List.length_drop]
  omega

set_option maxRecDepth 100000 in
set_option maxHeartbeats 4000000 in
theorem walk {H : Type} {enc : TypeId × Value → H} (v0 v1 v2 : Value) {d0 d1 d2 : DataW H} {p0 p1 p2 : List MemPlace} (W : World)
    (k0 : Value.okWide Try.prog W .any 0 3 v0) (k1 : Value.okWide Try.prog W .any 0 3 v1) (k2 : Value.okWide Try.prog W .any 0 22 v2)
    (h0 : DataW.Trod enc Try.prog W 0 (fun _ => true) true 3 v0 d0 p0) (h1 : DataW.Trod enc Try.prog W 0 (fun _ => true) true 3 v1 d1 p1) (h2 : DataW.Trod enc Try.prog W 0 (fun _ => true) true 22 v2 d2 p2) :
    Calls Try.prog 3 #[v0, v1, v2] W fun e w' => e = .returned (.bool true) ∧ Below W.heap.size W w' := by
  obtain ⟨size, rfl, -, -⟩ := int_arg Try.underlying3 k0 h0
  obtain ⟨cells, rfl, -, -⟩ := int_arg Try.underlying3 k1 h1
  obtain ⟨la, len, cap, bl, off, rfl, hlen, hla, hrow⟩ := ops_arg k2 h2
  clear k0 k1 k2 h0 h1 h2
  have g1 := fun w => long_any size la len cap w hlen
  by_cases hb1 : (decide (300 < size) || decide (200 < len)) = true
  · rw [hb1] at g1
    have G1 := Lib.hid g1
    clear g1 hb1 hrow hla
    go_enter Try.func3, Try.ntmps3
    go_wp2_with fail
    refine (awake_any _).mono ?_
    rintro e w1 ⟨rfl, q1⟩
    go_wp2_with fail
    refine (G1.out _).mono ?_
    rintro e w2 ⟨rfl, rfl⟩
    go_wp2_with fail
    refine (awake_any _).mono ?_
    rintro e w4 ⟨rfl, q3⟩
    have Q := Lib.hid (q1.trans q3)
    clear q1 q3
    go_wp2
    go_ret
    exact ⟨rfl, Q.out.below (Nat.le_refl _) (fun _ _ h => h)⟩
  · have hl200 : len ≤ 200 := by simp at hb1; omega
    have hs300 : size ≤ 300 := by simp at hb1; omega
    rw [Bool.not_eq_true] at hb1
    rw [hb1] at g1
    have G1 := Lib.hid g1
    have HR := Lib.hid hrow
    have HA := Lib.hid hla
    have hok0 := MS.new_ok cells 0
    have hu0 : (MS.new cells 0).used = ((AS.new size).used : Int) := rfl
    have hz1 : (size < 0 ∧ (AS.new size).size = 0) ∨ size = (AS.new size).size := by simp only [AS.new, clipN]; omega
    have hz2 : (AS.new size).size ≤ 1048576 := (AS.new_ok size).sz
    have Z0 := Lib.hid (And.intro hok0 (And.intro hu0 (And.intro hz1 hz2)))
    clear g1 hb1 hrow hla hok0 hu0 hz1 hz2
    go_enter Try.func3, Try.ntmps3
    go_wp2_with fail
    refine (awake_any _).mono ?_
    rintro e w1 ⟨rfl, q1⟩
    go_wp2_with fail
    refine (G1.out _).mono ?_
    rintro e w2 ⟨rfl, rfl⟩
    go_wp2_with fail
    refine (Meter.new_any _ _ _).mono ?_
    rintro e w3 ⟨mb, rfl, hmb, i0, q2⟩
    have Q2 := Lib.hid (And.intro (q1.trans q2) (And.intro i0 (And.intro hmb q1.size)))
    clear q1 q2 i0 hmb
    generalize hm0 : MS.new cells 0 = m0 at *
    clear hm0
    go_wp2_with fail
    refine (cells_any mb m0 _ Q2.out.2.1).mono ?_
    rintro e w4 ⟨rfl, d4⟩
    have Q3 := Lib.hid (And.intro (Q2.out.1.trans (d4.keep _)) (And.intro (Q2.out.2.1.keep (S := fun _ => False) (d4.keep _) (fun h => h)) d4.heap))
    clear d4
    go_wp2_with fail
    refine (one_new (w0 := W) (some mb) size m0 _ Q3.out.1 ⟨Q3.out.2.1, Z0.out.1⟩ (fun k hk => by
      cases hk
      have h1 := Q3.out.2.1.lt
      have h2 := Q2.out.2.2
      exact ⟨by omega, h1⟩)).mono ?_
    rintro e w5 ⟨b, rfl, O1, -⟩
    have O1 := Lib.hid O1
    go_wp2_with fail
    refine (new_at (AS.new size).size Z0.out.2.2.2 m0.cells size Z0.out.2.2.1 _).mono ?_
    rintro e w6 ⟨gb, rfl, hg, hcc, k6⟩
    have T0 := Pw.made O1.out hg hcc k6
    obtain ⟨q, hq0⟩ : ∃ q, m0.cells = q := ⟨_, rfl⟩
    have q0 : 0 ≤ q := by have h1 := Z0.out.1.mc; have h2 := Z0.out.1.um; have h3 := Z0.out.1.u0; omega
    have q1 : q ≤ 1048576 := by have h1 := Z0.out.1.c1; omega
    rw [hq0] at T0 ⊢
    have T0 := Lib.hid T0
    clear hg hcc k6 O1 Q3 Q2
    go_wp2_with fail
    replace T0 := T0.out
    generalize w6.alloc (.cells #[.int .i64 (AS.new size).size, .slice none 0 0, .slice (some ⟨gb, 0, none⟩) (AS.new size).size (AS.new size).size, .int .i64 0, .int .i64 0, .int .i64 q] 34) = w7 at *
    generalize w6.heap.size = cb at *
    go_loopg [54] len (fun gg i wr => ∃ (k : Nat) (s : AS) (m : MS) (lv : Value), k + gg = len ∧ i = .int .i64 k ∧ Pw W wr [] b mb cb gb s s m lv q ∧ m.used = s.used ∧ m.cells = q ∧ s.last ≤ k)
    case atStart => exact ⟨0, AS.new size, m0, _, Nat.zero_add _, rfl, T0, Z0.out.2.1, hq0, Nat.le_refl _⟩
    case round =>
      obtain ⟨k, s, m, lv, hk, rfl, hT, hu, hq, hl1⟩ := hrel
      by_cases hlt : k < len
      · obtain ⟨hla, hbl⟩ := HA.out (by omega)
        subst hla
        have hc : ∀ j, j < 4 → ∃ q : Int, wr.cell? ⟨bl, off + (k * 4 + j), none⟩ = some (.int .i64 q) ∧ -9223372036854775808 ≤ q ∧ q ≤ 9223372036854775807 := fun j hj => by
          obtain ⟨q, h1, h2⟩ := HR.out k j hlt hj
          exact ⟨q, (hT.o.keep.cell hbl (fun h => h)).trans h1, h2⟩
        obtain ⟨x0, c0, -, -⟩ := hc 0 (by omega)
        obtain ⟨x1, c1, y1, z1⟩ := hc 1 (by omega)
        obtain ⟨x2, c2, y2, z2⟩ := hc 2 (by omega)
        obtain ⟨x3, c3, y3, z3⟩ := hc 3 (by omega)
        rw [Nat.add_zero] at c0
        simp only [← Nat.add_assoc] at c1 c2 c3
        have hlt' : (k : Int) < len := by omega
        have T1 := hT.more #[.int .i64 x0, .int .i64 x1, .int .i64 x2, .int .i64 x3] 37
        have hob : ∀ w' s s2 m lv, Pw W w' [(wr.heap.size, 37, #[.int .i64 x0, .int .i64 x1, .int .i64 x2, .int .i64 x3])] b mb cb gb s s2 m lv q → w'.cell? ⟨wr.heap.size, 0, none⟩ = some (.int .i64 x0) ∧ w'.cell? ⟨wr.heap.size, 1, none⟩ = some (.int .i64 x1) ∧ w'.cell? ⟨wr.heap.size, 2, none⟩ = some (.int .i64 x2) ∧ w'.cell? ⟨wr.heap.size, 3, none⟩ = some (.int .i64 x3) := fun w' s s2 m lv h => ⟨(h.at_ (List.mem_singleton.2 rfl)).cell rfl, (h.at_ (List.mem_singleton.2 rfl)).cell rfl, (h.at_ (List.mem_singleton.2 rfl)).cell rfl, (h.at_ (List.mem_singleton.2 rfl)).cell rfl⟩
        have OB := Lib.hid hob
        have T1 := Lib.hid T1
        have ok1 := Lib.hid hT.o.ok
        clear hc hT hob T0
        go_upto_block 2 with fail
        go_cut [] (fun wx => ∃ (s' : AS) (m' : MS) (lv' : Value), Pw W wx [(wr.heap.size, 37, #[.int .i64 x0, .int .i64 x1, .int .i64 x2, .int .i64 x3])] b mb cb gb s' s' m' lv' q ∧ m'.used = s'.used ∧ m'.cells = q ∧ s'.last ≤ k + 1)
        case first =>
          obtain ⟨b0, b1, b2, b3⟩ := OB.out _ _ _ _ _ T1.out
          generalize hW1 : wr.alloc (.cells #[.int .i64 x0, .int .i64 x1, .int .i64 x2, .int .i64 x3] 37) = W1 at *
          have hW1 := Lib.hid hW1
          clear c0 c1 c2 c3
          by_cases e1 : x0 = 1
          · as_aux_lemma =>
              subst e1
              go_wp2_with fail
              refine (pw_alloc b mb cb gb s s m lv q x2 _ T1.out (by omega)).mono ?_
              rintro e w5 ⟨rfl, T2⟩
              obtain ⟨-, -, d2, -⟩ := OB.out _ _ _ _ _ T2
              have T2 := Lib.hid T2
              clear T1 b0 b1 b2 b3
              go_wp2_with fail
              refine (pw_ref_alloc b mb cb gb _ s _ m lv q x2 _ T2.out ok1.out hu hq q0 q1 y2 z2 (by omega)).mono ?_
              rintro e w6 ⟨rfl, lv', T3⟩
              have T3 := Lib.hid T3
              have I := Lib.hid (And.intro (alloc_inv (mb := mb) x2 hu) (alloc_last s (some mb) m x2))
              clear T2 d2
              generalize (allocV s (some mb) m x2).1.1 = i1 at *
              generalize (allocV s (some mb) m x2).1.2 = i2 at *
              have hb1 : (i1 != i1) = false := by simp
              have hb2 : (i2 != i2) = false := by simp
              go_wp2_with fail
              go_meet
              case rel => exact ⟨_, _, lv', T3.out, I.out.1.1, I.out.1.2.trans hq, by have := I.out.2; omega⟩
          · have e1' : (x0 == 1) = false := by simpa using e1
            by_cases e2 : x0 = 2
            · as_aux_lemma =>
                subst e2
                obtain ⟨v, hv⟩ : ∃ v, Hid ((freeV s (some mb) m x1).1 = v) := ⟨_, rfl⟩
                have hvv : (v != v) = false := by simp
                have T3 := T1
                clear T1 b0 b2 b3
                go_upto_region 16 with fail
                go_region_held3 (fun w' => w'.cell? ⟨wr.heap.size, 1, none⟩ = some (.int .i64 x1)) (first | exact b1 | exact (OB.out _ _ _ _ _ HT2).2.1 | exact (OB.out _ _ _ _ _ HT1).2.1) (first
                  | (go_at_call 21; refine (pw_free b mb cb gb s s m lv q x1 v hv.out _ (by first | exact T3.out | exact T3.out.quiet ((Drawn.r1 _).keep _) | exact T3.out.quiet ((Drawn.r2 _).keep _) | exact T3.out.quiet ((Drawn.r3 _).keep _)) y1 z1).mono ?_; rintro e w5 ⟨rfl, HT1⟩)
                  | (go_at_call 22; refine (pw_ref_free b mb cb gb _ s _ m lv q x1 v hv.out _ (by first | exact HT1 | exact HT1.quiet ((Drawn.r1 _).keep _) | exact HT1.quiet ((Drawn.r2 _).keep _) | exact HT1.quiet ((Drawn.r3 _).keep _)) ok1.out).mono ?_; rintro e w6 ⟨rfl, lv', HT2⟩))
                all_goals
                  have I := Lib.hid (And.intro (free_inv (mb := mb) ok1.out x1 hu) (free_last s (some mb) m x1))
                  have HT2 := Lib.hid HT2
                  clear HT1
                  go_wp2_with fail
                  go_meet
                  case rel => exact ⟨_, _, lv', HT2.out, I.out.1.1, I.out.1.2.trans hq, by have := I.out.2; omega⟩
            · have e2' : (x0 == 2) = false := by simpa using e2
              by_cases e3 : x0 = 3
              · subst e3
                by_cases hpv : (placeV s x1 x2).2 = 0
                · as_aux_lemma =>
                    obtain ⟨r, hr1, -, p, hp1, hp2, hp3⟩ := placeV_ok hpv
                    have hpl : placeV s x1 x2 = ((p : Int), 0) := Prod.ext hp1 hpv
                    have hps : p < s.size := by have := (ok1.out.reg r hr1).2; omega
                    have hps' : (p : Int) < s.size := by omega
                    have hss : s.set x1 x2 x3 = { s with C := fun i => if i = p then x3 else s.C i } := by
                      unfold AS.set
                      rw [hpl]
                      simp only [if_pos]
                      rw [Int.toNat_natCast]
                    have hA := pw_at b mb cb gb s s m lv q x1 x2 _ T1.out ok1.out y2 z2
                    rw [hpl] at hA
                    have hA := Lib.hid hA
                    clear hp1 hp2 hp3 hr1 hpv
                    have HP := Lib.hid (And.intro hpl hss)
                    clear hpl hss
                    go_wp2_with fail
                    refine hA.out.mono ?_
                    rintro e w5 ⟨rfl, rfl⟩
                    clear hA
                    go_wp2_with fail
                    have hS := fun w h => pw_set (X := [(wr.heap.size, 37, #[.int .i64 3, .int .i64 x1, .int .i64 x2, .int .i64 x3])]) (W := W) b mb cb gb s s m lv q x1 x2 x3 w h y1 z1
                    rw [HP.out.1, HP.out.2] at hS
                    refine (hS _ T1.out).mono ?_
                    rintro e w6 ⟨rfl, T3⟩
                    obtain ⟨d0, d1, d2, d3⟩ := OB.out _ _ _ _ _ T3
                    have f2 : w6.cell? ⟨cb, 2, none⟩ = some (.slice (some ⟨gb, 0, none⟩) s.size s.size) := T3.r.at_.cell rfl
                    obtain ⟨cc, a1, a2, a3⟩ := T3.r.cr
                    have cg := a1.cell (a3 p hps)
                    have fg := a1.frozen p
                    have T4 := Lib.hid (T3.put hps x3)
                    clear T3 a1 a2 a3 T1 b0 b1 b2 b3 hS
                    generalize s.C p = old at *
                    go_wp2_with fail
                    go_meet
                    case rel => exact ⟨_, m, lv, T4.out, hu, hq, by simp only; omega⟩
                · as_aux_lemma =>
                    have hss : s.set x1 x2 x3 = s := by unfold AS.set; rw [if_neg hpv]
                    have hA := Lib.hid (pw_at b mb cb gb s s m lv q x1 x2 _ T1.out ok1.out y2 z2)
                    have hS := Lib.hid (pw_set b mb cb gb s s m lv q x1 x2 x3 _ T1.out y1 z1)
                    rw [hss] at hS
                    have hk0 : ((placeV s x1 x2).2 == 0) = false := by simpa using hpv
                    generalize (placeV s x1 x2).2 = ee at *
                    generalize (placeV s x1 x2).1 = ei at *
                    have hb1 : (ee != ee) = false := by simp
                    clear hss hpv
                    go_wp2_with fail
                    refine hA.out.mono ?_
                    rintro e w5 ⟨rfl, rfl⟩
                    clear hA
                    go_wp2_with fail
                    refine hS.out.mono ?_
                    rintro e w6 ⟨rfl, T3⟩
                    have T3 := Lib.hid T3
                    clear hS T1 b0 b1 b2 b3
                    go_wp2_with fail
                    go_meet
                    case rel => exact ⟨s, m, lv, T3.out, hu, hq, by omega⟩
              · have e3' : (x0 == 3) = false := by simpa using e3
                by_cases e4 : x0 = 4
                · subst e4
                  by_cases hpv : (placeV s x1 x2).2 = 0
                  · as_aux_lemma =>
                      obtain ⟨r, hr1, -, p, hp1, hp2, hp3⟩ := placeV_ok hpv
                      have hpl : placeV s x1 x2 = ((p : Int), 0) := Prod.ext hp1 hpv
                      have hps : p < s.size := by have := (ok1.out.reg r hr1).2; omega
                      have hps' : (p : Int) < s.size := by omega
                      have hgg : getV s x1 x2 = (s.C p, 0) := by
                        unfold getV
                        rw [hpl]
                        simp only [if_pos]
                        rw [Int.toNat_natCast]
                      have hA := pw_at b mb cb gb s s m lv q x1 x2 _ T1.out ok1.out y2 z2
                      rw [hpl] at hA
                      have hA := Lib.hid hA
                      have hG := pw_get b mb cb gb s s m lv q x1 x2 _ T1.out y1 z1
                      rw [hgg] at hG
                      have hG := Lib.hid hG
                      clear hp1 hp2 hp3 hr1 hpv hpl hgg
                      go_wp2_with fail
                      refine hA.out.mono ?_
                      rintro e w5 ⟨rfl, rfl⟩
                      clear hA
                      go_wp2_with fail
                      refine hG.out.mono ?_
                      rintro e w6 ⟨rfl, T3⟩
                      have f2 : w6.cell? ⟨cb, 2, none⟩ = some (.slice (some ⟨gb, 0, none⟩) s.size s.size) := T3.r.at_.cell rfl
                      obtain ⟨cc, a1, a2, a3⟩ := T3.r.cr
                      have cg := a1.cell (a3 p hps)
                      have T3 := Lib.hid T3
                      clear a1 a2 a3 T1 b0 b1 b2 b3 hG
                      generalize s.C p = old at *
                      have hb1 : (old != old) = false := by simp
                      go_wp2_with fail
                      go_meet
                      case rel => exact ⟨s, m, lv, T3.out, hu, hq, by omega⟩
                  · as_aux_lemma =>
                      have hgg : getV s x1 x2 = (0, (placeV s x1 x2).2) := by unfold getV; rw [if_neg hpv]
                      have hA := Lib.hid (pw_at b mb cb gb s s m lv q x1 x2 _ T1.out ok1.out y2 z2)
                      have hG := pw_get b mb cb gb s s m lv q x1 x2 _ T1.out y1 z1
                      rw [hgg] at hG
                      have hG := Lib.hid hG
                      have hk0 : ((placeV s x1 x2).2 == 0) = false := by simpa using hpv
                      have hk1 : ((placeV s x1 x2).2 != 0) = true := by simpa using hpv
                      generalize (placeV s x1 x2).2 = ee at *
                      generalize (placeV s x1 x2).1 = ei at *
                      have hb1 : (ee != ee) = false := by simp
                      clear hgg hpv
                      go_wp2_with fail
                      refine hA.out.mono ?_
                      rintro e w5 ⟨rfl, rfl⟩
                      clear hA
                      go_wp2_with fail
                      refine hG.out.mono ?_
                      rintro e w6 ⟨rfl, T3⟩
                      have T3 := Lib.hid T3
                      clear hG T1 b0 b1 b2 b3
                      go_wp2_with fail
                      go_meet
                      case rel => exact ⟨s, m, lv, T3.out, hu, hq, by omega⟩
                · have e4' : (x0 == 4) = false := by simpa using e4
                  by_cases e5 : x0 = 5
                  · as_aux_lemma =>
                      subst e5
                      go_wp2_with fail
                      refine (pw_wipe b mb cb gb s s m lv q _ T1.out).mono ?_
                      rintro e w5 ⟨rfl, T2⟩
                      have I := Lib.hid (wipe_inv (mb := mb) s.L m hu)
                      generalize giveAll (some mb) m s.L = m' at *
                      clear T1 b0 b1 b2 b3
                      go_wp2_with fail
                      go_loopg [] s.L.length (fun gg wr2 => ∃ (s2 : AS) (lv' : Value), Pw W wr2 [(wr.heap.size, 37, #[.int .i64 5, .int .i64 x1, .int .i64 x2, .int .i64 x3])] b mb cb gb s.wipe s2 m' lv' q ∧ s2.Ok ∧ s2.size = s.size ∧ s2.last = s.last ∧ s2.L.length = gg)
                      case atStart => exact ⟨s, lv, T2, ok1.out, rfl, rfl, rfl⟩
                      case round =>
                        obtain ⟨s2, lv2, hF, ho2, hz2, hl2, hg2⟩ := hrel
                        obtain ⟨a, cap2, rfl, hcell⟩ := hF.r.rl.form
                        have f1 : wr.cell? ⟨cb, 1, none⟩ = some (.slice a s2.L.length cap2) := hF.r.at_.cell rfl
                        cases hL : s2.L[0]? with
                        | none =>
                          have hn : s2.L.length = 0 := by have := List.getElem?_eq_none_iff.1 hL; omega
                          have hf3 : ¬ ((0 : Int) < s2.L.length) := by omega
                          have hF2 := hF.as (s' := s.wipe) hz2.symm (by rw [List.eq_nil_of_length_eq_zero hn]; rfl) hl2.symm (fun p hp => by
                            simp only [AS.wipe]
                            exact (ho2.zero p (fr_iff.2 ⟨hp, fun r hr => by rw [List.eq_nil_of_length_eq_zero hn] at hr; simp at hr⟩)).symm)
                          have HF := Lib.hid hF2
                          clear hF hF2 hcell T2
                          go_wp2_with fail
                          go_meet
                          case rel => exact ⟨s.wipe, m', _, HF.out, I.out.1, I.out.2.trans hq, by simp only [AS.wipe]; omega⟩
                        | some r =>
                          obtain ⟨u, rfl, -, e1, -, -⟩ := hcell 0 r hL
                          have hn : 0 < s2.L.length := (List.getElem?_eq_some_iff.1 hL).1
                          have hn' : (0 : Int) < s2.L.length := by omega
                          have hdl := del_len ho2 hL
                          have hlk := look_self ho2.ids (List.mem_of_getElem? hL)
                          have hfv : freeV s2 (some mb) m r.id = (0, s2.del r, giveO (some mb) m r.n) := by unfold freeV; rw [hlk]
                          have hC := pw_ref_free b mb cb gb s.wipe s2 m' m _ q r.id 0 (by rw [hfv]) _ hF ho2
                          rw [hfv] at hC
                          have HC := Lib.hid (And.intro hC (AS.del_ok ho2 (List.mem_of_getElem? hL)))
                          rw [Nat.zero_mul] at e1
                          clear hF hcell hlk hfv hC T2
                          go_wp2_with fail
                          refine HC.out.1.mono ?_
                          rintro e w6 ⟨rfl, lv3, T3⟩
                          have T3 := Lib.hid (And.intro T3 HC.out.2)
                          clear HC f1 e1
                          go_wp2_with fail
                          go_roundg ((s2.del r).L.length)
                          case measure => omega
                          case rel => exact ⟨s2.del r, lv3, T3.out.1, T3.out.2, hz2, hl2, rfl⟩
                  · have e5' : (x0 == 5) = false := by simpa using e5
                    go_wp2_with fail
                    go_meet
                    case rel => exact ⟨s, m, lv, T1.out, hu, hq, by omega⟩
        case rest => as_aux_lemma =>
            obtain ⟨s', m', lv', T2, hu2, hq2, hl2⟩ := hcut
            clear T1 c0 c1 c2 c3 ok1 OB
            have T2 := Lib.hid T2.less
            have ok2 := Lib.hid T2.out.o.ok
            have hC := cells_any mb m' _ T2.out.mt.1
            rw [hu2] at hC
            have hC := Lib.hid hC
            go_wp2_with fail
            refine hC.out.mono ?_
            rintro e w3 ⟨rfl, d3⟩
            have T3 := Lib.hid (T2.out.quiet (d3.keep _))
            have hoc : ∀ w', Pw W w' [] b mb cb gb s' s' m' lv' q → w'.cell? ⟨cb, 0, none⟩ = some (.int .i64 s'.size) ∧ w'.cell? ⟨cb, 4, none⟩ = some (.int .i64 s'.used) := fun w' h => ⟨h.r.at_.cell rfl, h.r.at_.cell rfl⟩
            have OC := Lib.hid hoc
            have hsz := ok2.out.sz
            have hus := ok2.out.used_le
            have hb1 : ((s'.used : Int) != s'.used) = false := by simp
            have hb2 : ((s'.size : Int) - s'.used != (s'.size : Int) - s'.used) = false := by simp
            have hw : IntKind.i64.wrap ((s'.size : Int) - s'.used) = (s'.size : Int) - s'.used := by rw [IntKind.wrap_i64]; omega
            have b04 := hoc _ T3.out
            clear T2 hC d3 hoc
            go_upto_region 34 with fail
            go_cut [202] (fun v wx => v = .bool false ∧ Pw W wx [] b mb cb gb s' s' m' lv' q)
            case first => as_aux_lemma =>
                go_region_held3 (fun w' => w'.cell? ⟨cb, 0, none⟩ = some (.int .i64 s'.size) ∧ w'.cell? ⟨cb, 4, none⟩ = some (.int .i64 s'.used)) (first | exact b04 | exact OC.out _ HT1) (first
                  | (go_at_call 27; refine (pw_left b mb cb gb s' s' m' lv' q _ (by first | exact T3.out | exact T3.out.quiet ((Drawn.r1 _).keep _) | exact T3.out.quiet ((Drawn.r2 _).keep _) | exact T3.out.quiet ((Drawn.r3 _).keep _))).mono ?_; rintro e w4 ⟨rfl, rfl⟩)
                  | (go_at_call 28; refine (pw_clean b mb cb gb s' s' m' lv' q _ (by first | exact T3.out | exact T3.out.quiet ((Drawn.r1 _).keep _) | exact T3.out.quiet ((Drawn.r2 _).keep _) | exact T3.out.quiet ((Drawn.r3 _).keep _))).mono ?_; rintro e w5 ⟨rfl, HT1⟩))
                all_goals
                  go_wp2_with fail
                  go_meet
                  case rel => exact ⟨rfl, HT1⟩
            case rest => as_aux_lemma =>
                obtain ⟨rfl, T4⟩ := hcut
                clear T3 b04
                obtain ⟨la2, cap2, rfl, -⟩ := T4.r.rl.form
                have f1 : wc.cell? ⟨cb, 1, none⟩ = some (.slice la2 s'.L.length cap2) := T4.r.at_.cell rfl
                have hll : s'.L.length ≤ 1048576 := Nat.le_trans ok2.out.len_le ok2.out.sz
                have T4 := Lib.hid T4
                go_wp2_with fail
                replace T4 := T4.out
                go_loopg [206] s'.L.length (fun gg i wr2 => ∃ j : Nat, j + gg = s'.L.length ∧ i = .int .i64 j ∧ Pw W wr2 [] b mb cb gb s' s' m' (.slice la2 s'.L.length cap2) q)
                case atStart => exact ⟨0, Nat.zero_add _, rfl, T4⟩
                case round =>
                  obtain ⟨j, hj, rfl, hF⟩ := hrel
                  by_cases hjl : j < s'.L.length
                  · obtain ⟨r, hr⟩ : ∃ r, s'.L[j]? = some r := ⟨_, List.getElem?_eq_getElem hjl⟩
                    have hjl' : (j : Int) < s'.L.length := by omega
                    obtain ⟨a', c', e1, hcell⟩ := hF.r.rl.form
                    injection e1 with e1 e3 e2
                    clear e3
                    subst e1
                    subst e2
                    obtain ⟨u, rfl, -, e1, e2, e3⟩ := hcell j r hr
                    have hrm := List.mem_of_getElem? hr
                    have T5 := hF.more #[.int .i64 r.id, .int .i64 r.base, .int .i64 r.n] 49
                    have hod : ∀ w', Pw W w' [(wr.heap.size, 49, #[.int .i64 r.id, .int .i64 r.base, .int .i64 r.n])] b mb cb gb s' s' m' (.slice (some ⟨u, 0, none⟩) s'.L.length cap2) q → w'.cell? ⟨wr.heap.size, 0, none⟩ = some (.int .i64 r.id) ∧ w'.cell? ⟨wr.heap.size, 1, none⟩ = some (.int .i64 r.base) ∧ w'.cell? ⟨wr.heap.size, 2, none⟩ = some (.int .i64 r.n) := fun w' h => ⟨(h.at_ (List.mem_singleton.2 rfl)).cell rfl, (h.at_ (List.mem_singleton.2 rfl)).cell rfl, (h.at_ (List.mem_singleton.2 rfl)).cell rfl⟩
                    have OD := Lib.hid hod
                    have T5 := Lib.hid T5
                    have hb3 : ((r.base : Int) != r.base) = false := by simp
                    have hb4 : ((r.n : Int) != r.n) = false := by simp
                    clear hF hcell hod T4 f1 hr
                    go_upto_region 39 with fail
                    have d := OD.out _ T5.out
                    generalize hW5 : wr.alloc (.cells #[.int .i64 r.id, .int .i64 r.base, .int .i64 r.n] 49) = W5 at *
                    have hW5 := Lib.hid hW5
                    clear e1 e2 e3
                    go_cut [225] (fun v wx => v = .bool false ∧ Pw W wx [(wr.heap.size, 49, #[.int .i64 r.id, .int .i64 r.base, .int .i64 r.n])] b mb cb gb s' s' m' (.slice (some ⟨u, 0, none⟩) s'.L.length cap2) q)
                    case first => as_aux_lemma =>
                        go_region_held3 (fun w' => w'.cell? ⟨wr.heap.size, 0, none⟩ = some (.int .i64 r.id) ∧ w'.cell? ⟨wr.heap.size, 1, none⟩ = some (.int .i64 r.base) ∧ w'.cell? ⟨wr.heap.size, 2, none⟩ = some (.int .i64 r.n)) (first | exact d | exact OD.out _ HT2 | exact OD.out _ HT1) (first
                          | (go_at_call 29; refine (pw_base b mb cb gb s' s' m' _ q r hrm _ (by first | exact T5.out | exact T5.out.quiet ((Drawn.r1 _).keep _) | exact T5.out.quiet ((Drawn.r2 _).keep _) | exact T5.out.quiet ((Drawn.r3 _).keep _))).mono ?_; rintro e w4 ⟨rfl, HT1⟩)
                          | (go_at_call 30; refine (pw_len b mb cb gb s' s' m' _ q r hrm _ (by first | exact HT1 | exact HT1.quiet ((Drawn.r1 _).keep _) | exact HT1.quiet ((Drawn.r2 _).keep _) | exact HT1.quiet ((Drawn.r3 _).keep _))).mono ?_; rintro e w5 ⟨rfl, HT2⟩))
                        all_goals
                          go_wp2_with fail
                          go_meet
                          case rel => exact ⟨rfl, HT2⟩
                    case rest => as_aux_lemma =>
                        obtain ⟨rfl, T6⟩ := hcut
                        have T6 := Lib.hid T6.less
                        clear T5 d
                        go_wp2_with fail
                        go_roundg (s'.L.length - (j + 1))
                        case measure => omega
                        case rel => exact ⟨j + 1, by omega, by go_num, T6.out⟩
                  · obtain rfl : j = s'.L.length := by omega
                    have hf3 : ¬ ((s'.L.length : Int) < s'.L.length) := by omega
                    have HF := Lib.hid hF
                    clear hF T4 f1
                    go_wp2_with fail
                    go_roundg (len - (k + 1))
                    case measure => omega
                    case rel => exact ⟨k + 1, s', m', _, by omega, by go_num, HF.out, hu2, hq2, hl2⟩
      · obtain rfl : k = len := by omega
        have hf : ¬ ((k : Int) < k) := by omega
        have Q := Lib.hid hT.o.keep
        clear hT T0
        go_wp2
        go_ret
        exact ⟨rfl, Q.out.below (Nat.le_refl _) (fun _ _ h => h)⟩

end Go.Proofs.Ytklknkeanmjhnaa.ArenaPlays
