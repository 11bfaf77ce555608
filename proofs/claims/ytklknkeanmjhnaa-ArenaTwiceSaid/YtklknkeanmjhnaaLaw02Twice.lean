/- ArenaTwice, walked: two arenas that are told the same answer the same, whatever a third one is told between. -/
import Derived.Test.YtklknkeanmjhnaaTriple
import Derived.Test.YtklknkeanmjhnaaLaw02Awake
import Derived.Test.YtklknkeanmjhnaaOpRows
import Derived.Deep.RegionHeld3
import Derived.Deep.DeepCutAuto
import Derived.Deep.CutBlock
import Derived.Deep.LoopGhost
namespace Go.Proofs.Ytklknkeanmjhnaa.ArenaTwice
open Go.RowKit Go.Proofs.Ytklknkeanmjhnaa.Base Go.Proofs.Ytklknkeanmjhnaa.Arena Go.Proofs.Ytklknkeanmjhnaa.Stretch

theorem long_any (size : Int) (a : Option Addr) (len cap : Nat) (w : World) (hl : len ≤ 9223372036854775807) :
    Calls Try.prog 14 #[.int .i64 size, .slice a len cap] w fun e w' => e = .returned (.bool (decide (300 < size) || decide (200 < len))) ∧ w = w' := by
  by_cases h : 300 < size
  · rw [show (decide (300 < size) || decide (200 < len)) = true from by simp [h]]
    go_enter Try.func14, Try.ntmps14
    go_wp2
    go_ret
    exact ⟨rfl, rfl⟩
  · by_cases h2 : 200 < len
    · have h2' : (200 : Int) < len := by omega
      rw [show (decide (300 < size) || decide (200 < len)) = true from by simp [h2]]
      go_enter Try.func14, Try.ntmps14
      go_wp2
      go_ret
      exact ⟨by simp, rfl⟩
    · have h2' : ¬ (200 : Int) < len := by omega
      rw [show (decide (300 < size) || decide (200 < len)) = false from by simp [h, h2]]
      go_enter Try.func14, Try.ntmps14
      go_wp2
      go_ret
      exact ⟨by simp, rfl⟩

set_option maxRecDepth 100000 in
/-- A list of operations, read: four numbers each. -/
theorem ops_arg {H : Type} {enc : TypeId × Value → H} {W : World} {v : Value} {d : DataW H} {p : List MemPlace}
    (k : Value.okWide Try.prog W .any 0 22 v) (h : DataW.Trod enc Try.prog W 0 (fun _ => true) true 22 v d p) :
    ∃ (a : Option Addr) (len cap bl off : Nat), v = .slice a len cap ∧ len ≤ 9223372036854775807 ∧ (0 < len → a = some ⟨bl, off, none⟩ ∧ bl < W.heap.size) ∧
      ∀ i j, i < len → j < 4 → ∃ q : Int, W.cell? ⟨bl, off + (i * 4 + j), none⟩ = some (.int .i64 q) ∧ -9223372036854775808 ≤ q ∧ q ≤ 9223372036854775807 := by
  obtain ⟨a, len, cap, rfl, hlen, hrows⟩ := rows_arg Try.underlying22 Try.underlying37 (by kernel_rfl) (by kernel_rfl) (fun j f hj => by
    match j, hj with
    | 0, hj => cases hj; exact Try.underlying3
    | 1, hj => cases hj; exact Try.underlying3
    | 2, hj => cases hj; exact Try.underlying3
    | 3, hj => cases hj; exact Try.underlying3
    | j + 4, hj => simp at hj) (by simp) k h
  rcases hrows with h0 | ⟨bl, off, rfl, hbl, hr⟩
  · exact ⟨a, len, cap, 0, 0, rfl, hlen, fun h => by omega, fun i j hi => by omega⟩
  · exact ⟨_, len, cap, bl, off, rfl, hlen, fun _ => ⟨rfl, hbl⟩, fun i j hi hj => ⟨_, hr i j hi hj⟩⟩

theorem alloc_last (s : AS) (n : Int) : (allocV s none mm n).2.1.last ≤ s.last + 1 := by
  unfold allocV
  split
  · simp
  · split
    · simp
    · split <;> simp [AS.add]

theorem alloc_range (s : AS) (n : Int) (h : s.last ≤ 1000) : 0 ≤ (allocV s none mm n).1.1 ∧ (allocV s none mm n).1.1 ≤ 1001 := by
  unfold allocV
  split
  · simp
  · split
    · simp
    · split
      · simp only; omega
      · simp

theorem set_last (s : AS) (id i v : Int) : (s.set id i v).last = s.last := by
  unfold AS.set
  split <;> rfl

theorem free_last (s : AS) (id : Int) : (freeV s none mm id).2.1.last = s.last := by
  unfold freeV
  split <;> rfl

set_option maxRecDepth 100000 in
set_option maxHeartbeats 2000000 in
theorem walk {H : Type} {enc : TypeId × Value → H} (v0 v1 v2 : Value) {d0 d1 d2 : DataW H} {p0 p1 p2 : List MemPlace} (W : World)
    (k0 : Value.okWide Try.prog W .any 0 3 v0) (k1 : Value.okWide Try.prog W .any 0 22 v1) (k2 : Value.okWide Try.prog W .any 0 22 v2)
    (h0 : DataW.Trod enc Try.prog W 0 (fun _ => true) true 3 v0 d0 p0) (h1 : DataW.Trod enc Try.prog W 0 (fun _ => true) true 22 v1 d1 p1) (h2 : DataW.Trod enc Try.prog W 0 (fun _ => true) true 22 v2 d2 p2) :
    Calls Try.prog 7 #[v0, v1, v2] W fun e w' => e = .returned (.bool true) ∧ Below W.heap.size W w' := by
  obtain ⟨size, rfl, -, -⟩ := int_arg Try.underlying3 k0 h0
  obtain ⟨la, len, cap, bl, off, rfl, hlen, hla, hrow⟩ := ops_arg k1 h1
  obtain ⟨lb, len2, cap2, bl2, off2, rfl, hlen2, hlb, hrow2⟩ := ops_arg k2 h2
  clear k0 k1 k2 h0 h1 h2
  have g1 := fun w => long_any size la len cap w hlen
  have g2 := fun w => long_any size lb len2 cap2 w hlen2
  by_cases hb1 : (decide (300 < size) || decide (200 < len)) = true
  · rw [hb1] at g1
    have G1 := Lib.hid g1
    clear g1 g2 hb1 hrow hrow2 hla hlb
    go_enter Try.func7, Try.ntmps7
    go_wp2_with fail
    refine (Law02.awake_any _).mono ?_
    rintro e w1 ⟨rfl, q1⟩
    go_wp2_with fail
    refine (G1.out _).mono ?_
    rintro e w2 ⟨rfl, rfl⟩
    go_wp2_with fail
    refine (Law02.awake_any _).mono ?_
    rintro e w3 ⟨rfl, q3⟩
    go_wp2
    go_ret
    exact ⟨rfl, (q1.trans q3).below (Nat.le_refl _) (fun _ _ h => h)⟩
  · by_cases hb2 : (decide (300 < size) || decide (200 < len2)) = true
    · rw [Bool.not_eq_true] at hb1
      rw [hb1] at g1
      rw [hb2] at g2
      have G1 := Lib.hid g1
      have G2 := Lib.hid g2
      clear g1 g2 hb1 hb2 hrow hrow2 hla hlb
      go_enter Try.func7, Try.ntmps7
      go_wp2_with fail
      refine (Law02.awake_any _).mono ?_
      rintro e w1 ⟨rfl, q1⟩
      go_wp2_with fail
      refine (G1.out _).mono ?_
      rintro e w2 ⟨rfl, rfl⟩
      go_wp2_with fail
      refine (G2.out _).mono ?_
      rintro e w3 ⟨rfl, rfl⟩
      go_wp2_with fail
      refine (Law02.awake_any _).mono ?_
      rintro e w4 ⟨rfl, q3⟩
      go_wp2
      go_ret
      exact ⟨rfl, (q1.trans q3).below (Nat.le_refl _) (fun _ _ h => h)⟩
    · have hl200 : len ≤ 200 := by simp at hb1; omega
      rw [Bool.not_eq_true] at hb1 hb2
      rw [hb1] at g1
      rw [hb2] at g2
      have G1 := Lib.hid g1
      have G2 := Lib.hid g2
      have HR := Lib.hid hrow
      have HR2 := Lib.hid hrow2
      have HA := Lib.hid hla
      have HB := Lib.hid hlb
      clear g1 g2 hb1 hb2 hrow hrow2 hla hlb
      go_enter Try.func7, Try.ntmps7
      go_wp2_with fail
      refine (Law02.awake_any _).mono ?_
      rintro e w1 ⟨rfl, q1⟩
      go_wp2_with fail
      refine (G1.out _).mono ?_
      rintro e w2 ⟨rfl, rfl⟩
      go_wp2_with fail
      refine (G2.out _).mono ?_
      rintro e w3 ⟨rfl, rfl⟩
      go_wp2_with fail
      refine (new_any none size _).mono ?_
      rintro e w4 F1
      obtain ⟨a, Fa, rfl, a1⟩ := id F1
      go_wp2_with fail
      refine (new_any none size _).mono ?_
      rintro e w5 F2
      obtain ⟨b, Fb, rfl, b1⟩ := id F2
      go_wp2_with fail
      refine (new_any none size _).mono ?_
      rintro e w6 F3
      obtain ⟨a', b', c, ea, eb, rfl, T0⟩ := Tri.made q1 F1 F2 F3
      cases ea
      cases eb
      clear F1 F2 F3 a1 b1
      go_wp2_with fail
      go_loopg [37] len (fun gg i wr => ∃ (k : Nat) (s sc : AS), k + gg = len ∧ i = .int .i64 k ∧ Tri W wr [] a b c s s sc ∧ s.last ≤ k ∧ sc.last ≤ k)
      case atStart => exact ⟨0, AS.new size, AS.new size, Nat.zero_add _, rfl, T0, Nat.le_refl _, Nat.le_refl _⟩
      case round =>
        obtain ⟨k, s, sc, hk, rfl, hT, hl1, hl2⟩ := hrel
        by_cases hlt : k < len
        · obtain ⟨hla, hbl⟩ := HA.out (by omega)
          subst hla
          have hc : ∀ j, j < 4 → ∃ q : Int, wr.cell? ⟨bl, off + (k * 4 + j), none⟩ = some (.int .i64 q) ∧ -9223372036854775808 ≤ q ∧ q ≤ 9223372036854775807 := fun j hj => by
            obtain ⟨q, h1, h2⟩ := HR.out k j hlt hj
            exact ⟨q, (hT.keep.cell hbl (fun h => h)).trans h1, h2⟩
          obtain ⟨x0, c0, -, -⟩ := hc 0 (by omega)
          obtain ⟨x1, c1, y1, z1⟩ := hc 1 (by omega)
          obtain ⟨x2, c2, y2, z2⟩ := hc 2 (by omega)
          obtain ⟨x3, c3, y3, z3⟩ := hc 3 (by omega)
          rw [Nat.add_zero] at c0
          simp only [← Nat.add_assoc] at c1 c2 c3
          have hlt' : (k : Int) < len := by omega
          have T1 := hT.more #[.int .i64 x0, .int .i64 x1, .int .i64 x2, .int .i64 x3] 37
          have T1 := Lib.hid T1
          clear hc hT
          go_upto_if 45 with fail
          go_cut [] (fun wx => ∃ sc' : AS, Tri W wx [(wr.heap.size, 37, #[.int .i64 x0, .int .i64 x1, .int .i64 x2, .int .i64 x3])] a b c s s sc' ∧ sc'.last ≤ k + 1)
          case first =>
            by_cases hlt2 : k < len2
            · obtain ⟨hlb, hbl2⟩ := HB.out (by omega)
              subst hlb
              obtain ⟨r1, d1, e1, f1⟩ := HR2.out k 1 hlt2 (by omega)
              obtain ⟨r2, d2, e2, f2⟩ := HR2.out k 2 hlt2 (by omega)
              obtain ⟨r3, d3, e3, f3⟩ := HR2.out k 3 hlt2 (by omega)
              simp only [← Nat.add_assoc] at d1 d2 d3
              have hlt2' : (k : Int) < len2 := by omega
              have u2 : (wr.alloc (.cells #[.int .i64 x0, .int .i64 x1, .int .i64 x2, .int .i64 x3] 37)).cell? ⟨bl2, off2 + k * 4 + 2, none⟩ = some (.int .i64 r2) := (T1.out.keep.cell hbl2 (fun h => h)).trans d2
              generalize wr.alloc (.cells #[.int .i64 x0, .int .i64 x1, .int .i64 x2, .int .i64 x3] 37) = wq at *
              go_wp2_with fail
              refine (tri_alloc c a b sc s s r2 _ T1.out.rot.rot (by omega)).mono ?_
              rintro e w7 ⟨rfl, T3⟩
              have D := Lib.hid (And.intro d1 (And.intro d2 d3))
              have d1' : w7.cell? ⟨bl2, off2 + k * 4 + 1, none⟩ = some (.int .i64 r1) := (T3.keep.cell hbl2 (fun h => h)).trans d1
              have d2' : w7.cell? ⟨bl2, off2 + k * 4 + 2, none⟩ = some (.int .i64 r2) := (T3.keep.cell hbl2 (fun h => h)).trans d2
              have d3' : w7.cell? ⟨bl2, off2 + k * 4 + 3, none⟩ = some (.int .i64 r3) := (T3.keep.cell hbl2 (fun h => h)).trans d3
              have hset : ∀ W', Drawn w7 W' → Calls Try.prog 24 #[Arena.ptr c, .int .i64 r1, .int .i64 r2, .int .i64 r3] W' fun x w' => x = .returned (.int .i64 (placeV (allocV sc none mm r2).2.1 r1 r2).2) ∧ Tri W w' [(wr.heap.size, 37, #[.int .i64 x0, .int .i64 x1, .int .i64 x2, .int .i64 x3])] c a b ((allocV sc none mm r2).2.1.set r1 r2 r3) s s := fun W' d =>
                tri_set c a b (allocV sc none mm r2).2.1 s s r1 r2 r3 W' (T3.noneK (d.keep _)) e1 f1
              have HS := Lib.hid hset
              have hal := Lib.hid (alloc_last sc r2)
              clear hset T3 T1 d1 d2 d3 u2
              generalize allocV sc none mm r2 = av at *
              go_upto_region 9 with fail
              go_region_with (go_at_call 24; refine (HS.out _ (by first | exact Drawn.r0 _ | exact Drawn.r1 _ | exact Drawn.r2 _ | exact Drawn.r3 _)).mono ?_; rintro e w8 ⟨rfl, T4⟩)
              all_goals
                go_wp2_with fail
                go_meet
                case rel => exact ⟨_, T4.rot, by have := set_last av.2.1 r1 r2 r3; have := hal.out; omega⟩
            · have T2 := Lib.hid (show Tri W _ _ a b c s s sc from T1.out)
              clear T1
              go_wp2_with fail
              go_meet
              case rel => exact ⟨sc, T2.out, by omega⟩
          case rest =>
            obtain ⟨sc', T2, hl3⟩ := hcut
            have hob : ∀ w' sa sb sd, Tri W w' [(wr.heap.size, 37, #[.int .i64 x0, .int .i64 x1, .int .i64 x2, .int .i64 x3])] a b c sa sb sd →
                w'.cell? ⟨wr.heap.size, 0, none⟩ = some (.int .i64 x0) ∧ w'.cell? ⟨wr.heap.size, 1, none⟩ = some (.int .i64 x1) ∧ w'.cell? ⟨wr.heap.size, 2, none⟩ = some (.int .i64 x2) ∧ w'.cell? ⟨wr.heap.size, 3, none⟩ = some (.int .i64 x3) := fun w' sa sb sd h => by
              have := h.at_ (List.mem_singleton.2 rfl)
              exact ⟨this.cell rfl, this.cell rfl, this.cell rfl, this.cell rfl⟩
            have OB := Lib.hid hob
            obtain ⟨-, -, b2, -⟩ := hob _ _ _ _ T2
            have T2 := Lib.hid T2
            clear hob T1 c0 c1 c2 c3
            go_wp2_with fail
            refine (tri_alloc a b c s s sc' x2 _ T2.out (by omega)).mono ?_
            rintro e w9 ⟨rfl, T3⟩
            clear b2 T2
            obtain ⟨-, -, b2, -⟩ := OB.out _ _ _ _ T3
            have T3 := Lib.hid T3
            go_wp2_with fail
            refine (tri_alloc b c a s sc' _ x2 _ T3.out.rot (by omega)).mono ?_
            rintro e w10 ⟨rfl, T4⟩
            clear b2 T3
            have T4 := T4.rot.rot
            have hr1 := alloc_range s x2 (by omega)
            have hal := Lib.hid (alloc_last s x2)
            generalize allocV s none mm x2 = av at *
            obtain ⟨hr1, hr2⟩ := hr1
            obtain ⟨b0, b1, b2, b3⟩ := OB.out _ _ _ _ T4
            have T4 := Lib.hid T4
            go_upto_region 12 with fail
            -- REGION 12
            go_cut [142] (fun v wx => v = .bool false ∧ ∃ s3 : AS, Tri W wx [(wr.heap.size, 37, #[.int .i64 x0, .int .i64 x1, .int .i64 x2, .int .i64 x3])] a b c s3 s3 sc' ∧ s3.last ≤ k + 1)
            case first =>
              by_cases hx : x0 = 2
              · subst hx
                go_region_held3 (fun w' => w'.cell? ⟨wr.heap.size, 0, none⟩ = some (.int .i64 2) ∧ w'.cell? ⟨wr.heap.size, 1, none⟩ = some (.int .i64 x1) ∧ w'.cell? ⟨wr.heap.size, 2, none⟩ = some (.int .i64 x2) ∧ w'.cell? ⟨wr.heap.size, 3, none⟩ = some (.int .i64 x3)) (first | exact ⟨b0, b1, b2, b3⟩ | exact OB.out _ _ _ _ HT6 | exact OB.out _ _ _ _ HT5 | exact OB.out _ _ _ _ HT4 | exact OB.out _ _ _ _ HT3 | exact OB.out _ _ _ _ HT2 | exact OB.out _ _ _ _ HT1) (first
                  | (go_at_call_of 24 (Arena.ptr a); refine (tri_set a b c _ _ _ x1 x3 x2 _ (by first | exact T4.out | exact T4.out.noneK ((Drawn.r1 _).keep _) | exact T4.out.noneK ((Drawn.r2 _).keep _)) y1 z1).mono ?_; rintro e w11 ⟨rfl, HT1⟩)
                  | (go_at_call_of 24 (Arena.ptr b); refine (tri_set b c a _ _ _ x1 x3 x2 _ (by first | exact HT1.rot | exact HT1.rot.noneK ((Drawn.r1 _).keep _) | exact HT1.rot.noneK ((Drawn.r2 _).keep _)) y1 z1).mono ?_; rintro e w12 ⟨rfl, HT2⟩; replace HT2 := HT2.rot.rot)
                  | (go_at_call_of 21 (Arena.ptr a); refine (tri_free a b c _ _ _ x1 _ (by first | exact HT2 | exact HT2.noneK ((Drawn.r1 _).keep _) | exact HT2.noneK ((Drawn.r2 _).keep _)) y1 z1).mono ?_; rintro e w13 ⟨rfl, HT3⟩)
                  | (go_at_call_of 21 (Arena.ptr b); refine (tri_free b c a _ _ _ x1 _ (by first | exact HT3.rot | exact HT3.rot.noneK ((Drawn.r1 _).keep _) | exact HT3.rot.noneK ((Drawn.r2 _).keep _)) y1 z1).mono ?_; rintro e w14 ⟨rfl, HT4⟩; replace HT4 := HT4.rot.rot)
                  | (go_at_call_of 27 (Arena.ptr a); refine (tri_left a b c _ _ _ _ (by first | exact HT4 | exact HT4.noneK ((Drawn.r1 _).keep _) | exact HT4.noneK ((Drawn.r2 _).keep _))).mono ?_; rintro e w15 ⟨rfl, rfl⟩)
                  | (go_at_call_of 27 (Arena.ptr b); refine (tri_left b c a _ _ _ _ (by first | exact HT4.rot | exact HT4.rot.noneK ((Drawn.r1 _).keep _) | exact HT4.rot.noneK ((Drawn.r2 _).keep _))).mono ?_; rintro e w16 ⟨rfl, rfl⟩)
                  | (go_at_call_of 29 (Arena.ptr a); refine (tri_base a b c _ _ _ av.1.1 _ (by first | exact HT4 | exact HT4.noneK ((Drawn.r1 _).keep _) | exact HT4.noneK ((Drawn.r2 _).keep _)) (by omega) (by omega)).mono ?_; rintro e w17 ⟨rfl, HT5⟩)
                  | (go_at_call_of 29 (Arena.ptr b); refine (tri_base b c a _ _ _ av.1.1 _ (by first | exact HT5.rot | exact HT5.rot.noneK ((Drawn.r1 _).keep _) | exact HT5.rot.noneK ((Drawn.r2 _).keep _)) (by omega) (by omega)).mono ?_; rintro e w18 ⟨rfl, HT6⟩; replace HT6 := HT6.rot.rot))
                all_goals
                  go_wp2_with fail
                  go_meet
                  case rel => exact ⟨rfl, _, HT6, by rw [free_last, set_last]; have := hal.out; omega⟩
              · have hxb : (x0 == 2) = false := by simp [hx]
                refine wp_region_noPanic ?_
                refine wp_region_held_drew (S := (fun w' => w'.cell? ⟨wr.heap.size, 0, none⟩ = some (.int .i64 x0) ∧ w'.cell? ⟨wr.heap.size, 1, none⟩ = some (.int .i64 x1) ∧ w'.cell? ⟨wr.heap.size, 2, none⟩ = some (.int .i64 x2) ∧ w'.cell? ⟨wr.heap.size, 3, none⟩ = some (.int .i64 x3))) (by kernel_rfl) ?_ (fun hHeld => ?_)
                · exact ⟨b0, b1, b2, b3⟩
                refine wpAnyH_take (i := 0) (oi := { dst := some 84, op := Go.Op.move (Go.Operand.tmp 12), type := 3, pos := "law.go:189", after := #[], guard := none }) (v := ?_) rfl (by kernel_rfl) (by kernel_rfl) (by kernel_rfl) (fun _ _ _ h => h) (Or.inl ⟨by rfl, ?_⟩) (by assumption) ?_
                rotate_left 1
                · (intro w hSw; (try dsimp only at hSw); go_simp; first | done | with_reducible rfl)
                try simp only [Act.put, List.setIfInBounds_toArray, List.set_cons_zero, List.set_cons_succ]
                refine wpAnyH_take (i := 1) (oi := { dst := some 85, op := Go.Op.move (Go.Operand.tmp 14), type := 3, pos := "law.go:189", after := #[], guard := none }) (v := ?_) rfl (by kernel_rfl) (by kernel_rfl) (by kernel_rfl) (fun _ _ _ h => h) (Or.inl ⟨by rfl, ?_⟩) (by assumption) ?_
                rotate_left 1
                · (intro w hSw; (try dsimp only at hSw); go_simp; first | done | with_reducible rfl)
                try simp only [Act.put, List.setIfInBounds_toArray, List.set_cons_zero, List.set_cons_succ]
                refine wpAnyH_take (i := 2) (oi := { dst := some 86, op := Go.Op.binOp Go.BinOp.neq 3 (Go.Operand.tmp 84) (Go.Operand.tmp 85) 3, type := 4, pos := "law.go:189", after := #[{ on := 0, ground := Go.Ground.data }, { on := 1, ground := Go.Ground.data }], guard := none }) (v := ?_) rfl (by kernel_rfl) (by kernel_rfl) (by kernel_rfl) (fun _ _ _ h => h) (Or.inl ⟨by rfl, ?_⟩) (by assumption) ?_
                rotate_left 1
                · (intro w hSw; (try dsimp only at hSw); go_simp; first | done | with_reducible rfl)
                try simp only [Act.put, List.setIfInBounds_toArray, List.set_cons_zero, List.set_cons_succ]
                refine wpAnyH_take (i := 3) (oi := { dst := some 87, op := Go.Op.move (Go.Operand.tmp 86), type := 4, pos := "law.go:189", after := #[{ on := 2, ground := Go.Ground.data }], guard := none }) (v := ?_) rfl (by kernel_rfl) (by kernel_rfl) (by kernel_rfl) (fun _ _ _ h => h) (Or.inl ⟨by rfl, ?_⟩) (by assumption) ?_
                rotate_left 1
                · (intro w hSw; (try dsimp only at hSw); go_simp; first | done | with_reducible rfl)
                try simp only [Act.put, List.setIfInBounds_toArray, List.set_cons_zero, List.set_cons_succ]
                refine wpAnyH_take (i := 4) (oi := { dst := some 88, op := Go.Op.move (Go.Operand.tmp 13), type := 38, pos := "law.go:189", after := #[{ on := 3, ground := Go.Ground.guard }], guard := some (3, false) }) (v := ?_) rfl (by kernel_rfl) (by kernel_rfl) (by kernel_rfl) (fun _ _ _ h => h) (Or.inl ⟨by rfl, ?_⟩) (by assumption) ?_
                rotate_left 1
                · (intro w hSw; (try dsimp only at hSw); go_simp; first | done | with_reducible rfl)
                try simp only [Act.put, List.setIfInBounds_toArray, List.set_cons_zero, List.set_cons_succ]
                refine wpAnyH_take (i := 5) (oi := { dst := some 89, op := Go.Op.move (Go.Operand.tmp 15), type := 38, pos := "law.go:189", after := #[{ on := 3, ground := Go.Ground.guard }], guard := some (3, false) }) (v := ?_) rfl (by kernel_rfl) (by kernel_rfl) (by kernel_rfl) (fun _ _ _ h => h) (Or.inl ⟨by rfl, ?_⟩) (by assumption) ?_
                rotate_left 1
                · (intro w hSw; (try dsimp only at hSw); go_simp; first | done | with_reducible rfl)
                try simp only [Act.put, List.setIfInBounds_toArray, List.set_cons_zero, List.set_cons_succ]
                refine wpAnyH_take (i := 6) (oi := { dst := some 90, op := Go.Op.binOp Go.BinOp.neq 38 (Go.Operand.tmp 88) (Go.Operand.tmp 89) 38, type := 4, pos := "law.go:189", after := #[{ on := 4, ground := Go.Ground.data }, { on := 5, ground := Go.Ground.data }, { on := 3, ground := Go.Ground.guard }], guard := some (3, false) }) (v := ?_) rfl (by kernel_rfl) (by kernel_rfl) (by kernel_rfl) (fun _ _ _ h => h) (Or.inl ⟨by rfl, ?_⟩) (by assumption) ?_
                rotate_left 1
                · (intro w hSw; (try dsimp only at hSw); go_simp; first | done | with_reducible rfl)
                try simp only [Act.put, List.setIfInBounds_toArray, List.set_cons_zero, List.set_cons_succ]
                refine wpAnyH_take (i := 7) (oi := { dst := some 91, op := Go.Op.pick (Go.Operand.tmp 87) (Go.Operand.const (Go.Value.bool true)) (Go.Operand.tmp 90), type := 4, pos := "law.go:189", after := #[{ on := 3, ground := Go.Ground.data }, { on := 6, ground := Go.Ground.data }], guard := none }) (v := ?_) rfl (by kernel_rfl) (by kernel_rfl) (by kernel_rfl) (fun _ _ _ h => h) (Or.inl ⟨by rfl, ?_⟩) (by assumption) ?_
                rotate_left 1
                · (intro w hSw; (try dsimp only at hSw); go_simp; first | done | with_reducible rfl)
                try simp only [Act.put, List.setIfInBounds_toArray, List.set_cons_zero, List.set_cons_succ]
                refine wpAnyH_take (i := 8) (oi := { dst := some 92, op := Go.Op.move (Go.Operand.tmp 91), type := 4, pos := "law.go:189", after := #[{ on := 7, ground := Go.Ground.data }, { on := 3, ground := Go.Ground.chain }], guard := none }) (v := ?_) rfl (by kernel_rfl) (by kernel_rfl) (by kernel_rfl) (fun _ _ _ h => h) (Or.inl ⟨by rfl, ?_⟩) (by assumption) ?_
                rotate_left 1
                · (intro w hSw; (try dsimp only at hSw); go_simp; first | done | with_reducible rfl)
                try simp only [Act.put, List.setIfInBounds_toArray, List.set_cons_zero, List.set_cons_succ]
                refine wpAnyH_take (i := 9) (oi := { dst := some 93, op := Go.Op.move (Go.Operand.tmp 7), type := 29, pos := "law.go:189", after := #[{ on := 8, ground := Go.Ground.guard }], guard := some (8, false) }) (v := ?_) rfl (by kernel_rfl) (by kernel_rfl) (by kernel_rfl) (fun _ _ _ h => h) (Or.inl ⟨by rfl, ?_⟩) (by assumption) ?_
                rotate_left 1
                · (intro w hSw; (try dsimp only at hSw); go_simp; first | done | with_reducible rfl)
                try simp only [Act.put, List.setIfInBounds_toArray, List.set_cons_zero, List.set_cons_succ]
                refine wpAnyH_take (i := 10) (oi := { dst := some 94, op := Go.Op.fieldAddr 37 (Go.Operand.tmp 11) 1, type := 0, pos := "law.go:189", after := #[{ on := 8, ground := Go.Ground.guard }], guard := some (8, false) }) (v := ?_) rfl (by kernel_rfl) (by kernel_rfl) (by kernel_rfl) (fun _ _ _ h => h) (Or.inl ⟨by rfl, ?_⟩) (by assumption) ?_
                rotate_left 1
                · (intro w hSw; (try dsimp only at hSw); go_simp; first | done | with_reducible rfl)
                try simp only [Act.put, List.setIfInBounds_toArray, List.set_cons_zero, List.set_cons_succ]
                refine wpAnyH_take (i := 11) (oi := { dst := some 95, op := Go.Op.load 3 (Go.Operand.tmp 94), type := 3, pos := "law.go:189", after := #[{ on := 10, ground := Go.Ground.data }, { on := 8, ground := Go.Ground.guard }], guard := some (8, false) }) (v := ?_) rfl (by kernel_rfl) (by kernel_rfl) (by kernel_rfl) (fun _ _ _ h => h) (Or.inl ⟨by rfl, ?_⟩) (by assumption) ?_
                rotate_left 1
                · (intro w hSw; (try dsimp only at hSw); go_simp; first | done | with_reducible rfl)
                try simp only [Act.put, List.setIfInBounds_toArray, List.set_cons_zero, List.set_cons_succ]
                refine wpAnyH_take (i := 12) (oi := { dst := some 96, op := Go.Op.fieldAddr 37 (Go.Operand.tmp 11) 3, type := 0, pos := "law.go:189", after := #[{ on := 8, ground := Go.Ground.guard }], guard := some (8, false) }) (v := ?_) rfl (by kernel_rfl) (by kernel_rfl) (by kernel_rfl) (fun _ _ _ h => h) (Or.inl ⟨by rfl, ?_⟩) (by assumption) ?_
                rotate_left 1
                · (intro w hSw; (try dsimp only at hSw); go_simp; first | done | with_reducible rfl)
                try simp only [Act.put, List.setIfInBounds_toArray, List.set_cons_zero, List.set_cons_succ]
                refine wpAnyH_take (i := 13) (oi := { dst := some 97, op := Go.Op.load 3 (Go.Operand.tmp 96), type := 3, pos := "law.go:189", after := #[{ on := 12, ground := Go.Ground.data }, { on := 8, ground := Go.Ground.guard }], guard := some (8, false) }) (v := ?_) rfl (by kernel_rfl) (by kernel_rfl) (by kernel_rfl) (fun _ _ _ h => h) (Or.inl ⟨by rfl, ?_⟩) (by assumption) ?_
                rotate_left 1
                · (intro w hSw; (try dsimp only at hSw); go_simp; first | done | with_reducible rfl)
                try simp only [Act.put, List.setIfInBounds_toArray, List.set_cons_zero, List.set_cons_succ]
                refine wpAnyH_take (i := 14) (oi := { dst := some 98, op := Go.Op.fieldAddr 37 (Go.Operand.tmp 11) 2, type := 0, pos := "law.go:189", after := #[{ on := 8, ground := Go.Ground.guard }], guard := some (8, false) }) (v := ?_) rfl (by kernel_rfl) (by kernel_rfl) (by kernel_rfl) (fun _ _ _ h => h) (Or.inl ⟨by rfl, ?_⟩) (by assumption) ?_
                rotate_left 1
                · (intro w hSw; (try dsimp only at hSw); go_simp; first | done | with_reducible rfl)
                try simp only [Act.put, List.setIfInBounds_toArray, List.set_cons_zero, List.set_cons_succ]
                refine wpAnyH_take (i := 15) (oi := { dst := some 99, op := Go.Op.load 3 (Go.Operand.tmp 98), type := 3, pos := "law.go:189", after := #[{ on := 14, ground := Go.Ground.data }, { on := 8, ground := Go.Ground.guard }], guard := some (8, false) }) (v := ?_) rfl (by kernel_rfl) (by kernel_rfl) (by kernel_rfl) (fun _ _ _ h => h) (Or.inl ⟨by rfl, ?_⟩) (by assumption) ?_
                rotate_left 1
                · (intro w hSw; (try dsimp only at hSw); go_simp; first | done | with_reducible rfl)
                try simp only [Act.put, List.setIfInBounds_toArray, List.set_cons_zero, List.set_cons_succ]
                refine wpAnyH_take (i := 17) (oi := { dst := some 101, op := Go.Op.move (Go.Operand.tmp 8), type := 29, pos := "law.go:189", after := #[{ on := 8, ground := Go.Ground.guard }], guard := some (8, false) }) (v := ?_) rfl (by kernel_rfl) (by kernel_rfl) (by kernel_rfl) (fun _ _ _ h => h) (Or.inl ⟨by rfl, ?_⟩) (by assumption) ?_
                rotate_left 1
                · (intro w hSw; (try dsimp only at hSw); go_simp; first | done | with_reducible rfl)
                try simp only [Act.put, List.setIfInBounds_toArray, List.set_cons_zero, List.set_cons_succ]
                refine wpAnyH_take (i := 18) (oi := { dst := some 102, op := Go.Op.fieldAddr 37 (Go.Operand.tmp 11) 1, type := 0, pos := "law.go:189", after := #[{ on := 8, ground := Go.Ground.guard }], guard := some (8, false) }) (v := ?_) rfl (by kernel_rfl) (by kernel_rfl) (by kernel_rfl) (fun _ _ _ h => h) (Or.inl ⟨by rfl, ?_⟩) (by assumption) ?_
                rotate_left 1
                · (intro w hSw; (try dsimp only at hSw); go_simp; first | done | with_reducible rfl)
                try simp only [Act.put, List.setIfInBounds_toArray, List.set_cons_zero, List.set_cons_succ]
                refine wpAnyH_take (i := 19) (oi := { dst := some 103, op := Go.Op.load 3 (Go.Operand.tmp 102), type := 3, pos := "law.go:189", after := #[{ on := 18, ground := Go.Ground.data }, { on := 8, ground := Go.Ground.guard }], guard := some (8, false) }) (v := ?_) rfl (by kernel_rfl) (by kernel_rfl) (by kernel_rfl) (fun _ _ _ h => h) (Or.inl ⟨by rfl, ?_⟩) (by assumption) ?_
                rotate_left 1
                · (intro w hSw; (try dsimp only at hSw); go_simp; first | done | with_reducible rfl)
                try simp only [Act.put, List.setIfInBounds_toArray, List.set_cons_zero, List.set_cons_succ]
                refine wpAnyH_take (i := 20) (oi := { dst := some 104, op := Go.Op.fieldAddr 37 (Go.Operand.tmp 11) 3, type := 0, pos := "law.go:189", after := #[{ on := 8, ground := Go.Ground.guard }], guard := some (8, false) }) (v := ?_) rfl (by kernel_rfl) (by kernel_rfl) (by kernel_rfl) (fun _ _ _ h => h) (Or.inl ⟨by rfl, ?_⟩) (by assumption) ?_
                rotate_left 1
                · (intro w hSw; (try dsimp only at hSw); go_simp; first | done | with_reducible rfl)
                try simp only [Act.put, List.setIfInBounds_toArray, List.set_cons_zero, List.set_cons_succ]
                refine wpAnyH_take (i := 21) (oi := { dst := some 105, op := Go.Op.load 3 (Go.Operand.tmp 104), type := 3, pos := "law.go:189", after := #[{ on := 20, ground := Go.Ground.data }, { on := 8, ground := Go.Ground.guard }], guard := some (8, false) }) (v := ?_) rfl (by kernel_rfl) (by kernel_rfl) (by kernel_rfl) (fun _ _ _ h => h) (Or.inl ⟨by rfl, ?_⟩) (by assumption) ?_
                rotate_left 1
                · (intro w hSw; (try dsimp only at hSw); go_simp; first | done | with_reducible rfl)
                try simp only [Act.put, List.setIfInBounds_toArray, List.set_cons_zero, List.set_cons_succ]
                refine wpAnyH_take (i := 22) (oi := { dst := some 106, op := Go.Op.fieldAddr 37 (Go.Operand.tmp 11) 2, type := 0, pos := "law.go:189", after := #[{ on := 8, ground := Go.Ground.guard }], guard := some (8, false) }) (v := ?_) rfl (by kernel_rfl) (by kernel_rfl) (by kernel_rfl) (fun _ _ _ h => h) (Or.inl ⟨by rfl, ?_⟩) (by assumption) ?_
                rotate_left 1
                · (intro w hSw; (try dsimp only at hSw); go_simp; first | done | with_reducible rfl)
                try simp only [Act.put, List.setIfInBounds_toArray, List.set_cons_zero, List.set_cons_succ]
                refine wpAnyH_take (i := 23) (oi := { dst := some 107, op := Go.Op.load 3 (Go.Operand.tmp 106), type := 3, pos := "law.go:189", after := #[{ on := 22, ground := Go.Ground.data }, { on := 8, ground := Go.Ground.guard }], guard := some (8, false) }) (v := ?_) rfl (by kernel_rfl) (by kernel_rfl) (by kernel_rfl) (fun _ _ _ h => h) (Or.inl ⟨by rfl, ?_⟩) (by assumption) ?_
                rotate_left 1
                · (intro w hSw; (try dsimp only at hSw); go_simp; first | done | with_reducible rfl)
                try simp only [Act.put, List.setIfInBounds_toArray, List.set_cons_zero, List.set_cons_succ]
                refine wpAnyH_ready (rs := [16]) (by kernel_rfl) (by simp) ?_
                refine AllReadyH.cons (o := { dst := some 100, op := Go.Op.call { callee := Go.Callee.value (Go.Operand.func 24), args := #[Go.Operand.tmp 93, Go.Operand.tmp 95, Go.Operand.tmp 97, Go.Operand.tmp 99], argTypes := #[29, 3, 3, 3] }, type := 38, pos := "law.go:189", after := #[{ on := 9, ground := Go.Ground.data }, { on := 11, ground := Go.Ground.data }, { on := 13, ground := Go.Ground.data }, { on := 15, ground := Go.Ground.data }, { on := 8, ground := Go.Ground.chain }, { on := 8, ground := Go.Ground.guard }], guard := some (8, false) }) rfl (fun K hK => ?_) AllReadyH.nil
                go_simp
                (go_at_call_of 24 (Arena.ptr a); refine (tri_set a b c _ _ _ x1 x3 x2 _ (by first | exact T4.out | exact T4.out.noneK ((Drawn.r1 _).keep _) | exact T4.out.noneK ((Drawn.r2 _).keep _)) y1 z1).mono ?_; rintro e w11 ⟨rfl, HT1⟩)
                refine hK.out _ _ ?_ (fun hHeld => ?_)
                · exact OB.out _ _ _ _ HT1
                clear hK K
                try simp only [Act.put, List.setIfInBounds_toArray, List.set_cons_zero, List.set_cons_succ]
                refine wpAnyH_ready (rs := [24]) (by kernel_rfl) (by simp) ?_
                refine AllReadyH.cons (o := { dst := some 108, op := Go.Op.call { callee := Go.Callee.value (Go.Operand.func 24), args := #[Go.Operand.tmp 101, Go.Operand.tmp 103, Go.Operand.tmp 105, Go.Operand.tmp 107], argTypes := #[29, 3, 3, 3] }, type := 38, pos := "law.go:189", after := #[{ on := 17, ground := Go.Ground.data }, { on := 19, ground := Go.Ground.data }, { on := 21, ground := Go.Ground.data }, { on := 23, ground := Go.Ground.data }, { on := 16, ground := Go.Ground.chain }, { on := 8, ground := Go.Ground.guard }], guard := some (8, false) }) rfl (fun K hK => ?_) AllReadyH.nil
                go_simp
                (go_at_call_of 24 (Arena.ptr b); refine (tri_set b c a _ _ _ x1 x3 x2 _ (by first | exact HT1.rot | exact HT1.rot.noneK ((Drawn.r1 _).keep _) | exact HT1.rot.noneK ((Drawn.r2 _).keep _)) y1 z1).mono ?_; rintro e w12 ⟨rfl, HT2⟩; replace HT2 := HT2.rot.rot)
                refine hK.out _ _ ?_ (fun hHeld => ?_)
                · exact OB.out _ _ _ _ HT2
                clear hK K
                try simp only [Act.put, List.setIfInBounds_toArray, List.set_cons_zero, List.set_cons_succ]
                refine wpAnyH_take (i := 25) (oi := { dst := some 109, op := Go.Op.binOp Go.BinOp.neq 38 (Go.Operand.tmp 100) (Go.Operand.tmp 108) 38, type := 4, pos := "law.go:189", after := #[{ on := 16, ground := Go.Ground.data }, { on := 24, ground := Go.Ground.data }, { on := 8, ground := Go.Ground.guard }], guard := some (8, false) }) (v := ?_) rfl (by kernel_rfl) (by kernel_rfl) (by kernel_rfl) (fun _ _ _ h => h) (Or.inl ⟨by rfl, ?_⟩) (by assumption) ?_
                rotate_left 1
                · (intro w hSw; (try dsimp only at hSw); go_simp; first | done | with_reducible rfl)
                try simp only [Act.put, List.setIfInBounds_toArray, List.set_cons_zero, List.set_cons_succ]
                refine wpAnyH_take (i := 26) (oi := { dst := some 110, op := Go.Op.pick (Go.Operand.tmp 92) (Go.Operand.const (Go.Value.bool true)) (Go.Operand.tmp 109), type := 4, pos := "law.go:189", after := #[{ on := 8, ground := Go.Ground.data }, { on := 25, ground := Go.Ground.data }], guard := none }) (v := ?_) rfl (by kernel_rfl) (by kernel_rfl) (by kernel_rfl) (fun _ _ _ h => h) (Or.inl ⟨by rfl, ?_⟩) (by assumption) ?_
                rotate_left 1
                · (intro w hSw; (try dsimp only at hSw); go_simp; first | done | with_reducible rfl)
                try simp only [Act.put, List.setIfInBounds_toArray, List.set_cons_zero, List.set_cons_succ]
                refine wpAnyH_take (i := 27) (oi := { dst := some 111, op := Go.Op.move (Go.Operand.tmp 110), type := 4, pos := "law.go:189", after := #[{ on := 26, ground := Go.Ground.data }, { on := 24, ground := Go.Ground.chain }], guard := none }) (v := ?_) rfl (by kernel_rfl) (by kernel_rfl) (by kernel_rfl) (fun _ _ _ h => h) (Or.inl ⟨by rfl, ?_⟩) (by assumption) ?_
                rotate_left 1
                · (intro w hSw; (try dsimp only at hSw); go_simp; first | done | with_reducible rfl)
                try simp only [Act.put, List.setIfInBounds_toArray, List.set_cons_zero, List.set_cons_succ]
                refine wpAnyH_take (i := 28) (oi := { dst := some 112, op := Go.Op.fieldAddr 37 (Go.Operand.tmp 11) 0, type := 0, pos := "law.go:189", after := #[{ on := 27, ground := Go.Ground.guard }], guard := some (27, false) }) (v := ?_) rfl (by kernel_rfl) (by kernel_rfl) (by kernel_rfl) (fun _ _ _ h => h) (Or.inl ⟨by rfl, ?_⟩) (by assumption) ?_
                rotate_left 1
                · (intro w hSw; (try dsimp only at hSw); go_simp; first | done | with_reducible rfl)
                try simp only [Act.put, List.setIfInBounds_toArray, List.set_cons_zero, List.set_cons_succ]
                refine wpAnyH_take (i := 29) (oi := { dst := some 113, op := Go.Op.load 3 (Go.Operand.tmp 112), type := 3, pos := "law.go:189", after := #[{ on := 28, ground := Go.Ground.data }, { on := 27, ground := Go.Ground.guard }], guard := some (27, false) }) (v := ?_) rfl (by kernel_rfl) (by kernel_rfl) (by kernel_rfl) (fun _ _ _ h => h) (Or.inl ⟨by rfl, ?_⟩) (by assumption) ?_
                rotate_left 1
                · (intro w hSw; (try dsimp only at hSw); go_simp; first | done | with_reducible rfl)
                try simp only [Act.put, List.setIfInBounds_toArray, List.set_cons_zero, List.set_cons_succ]
                refine wpAnyH_take (i := 30) (oi := { dst := some 114, op := Go.Op.binOp Go.BinOp.eql 3 (Go.Operand.tmp 113) (Go.Operand.const (Go.Value.int Go.IntKind.i64 2)) 3, type := 4, pos := "law.go:189", after := #[{ on := 29, ground := Go.Ground.data }, { on := 27, ground := Go.Ground.guard }], guard := some (27, false) }) (v := ?_) rfl (by kernel_rfl) (by kernel_rfl) (by kernel_rfl) (fun _ _ _ h => h) (Or.inl ⟨by rfl, ?_⟩) (by assumption) ?_
                rotate_left 1
                · (intro w hSw; (try dsimp only at hSw); go_simp; first | done | with_reducible rfl)
                try simp only [Act.put, List.setIfInBounds_toArray, List.set_cons_zero, List.set_cons_succ]
                refine wpAnyH_take (i := 31) (oi := { dst := some 115, op := Go.Op.move (Go.Operand.tmp 114), type := 4, pos := "law.go:189", after := #[{ on := 30, ground := Go.Ground.data }, { on := 27, ground := Go.Ground.chain }, { on := 27, ground := Go.Ground.guard }], guard := some (27, false) }) (v := ?_) rfl (by kernel_rfl) (by kernel_rfl) (by kernel_rfl) (fun _ _ _ h => h) (Or.inl ⟨by rfl, ?_⟩) (by assumption) ?_
                rotate_left 1
                · (intro w hSw; (try dsimp only at hSw); go_simp; first | done | with_reducible rfl)
                try simp only [Act.put, List.setIfInBounds_toArray, List.set_cons_zero, List.set_cons_succ]
                refine wpAnyH_take (i := 32) (oi := { dst := some 116, op := Go.Op.move (Go.Operand.tmp 7), type := 29, pos := "law.go:189", after := #[{ on := 31, ground := Go.Ground.guard }], guard := some (31, true) }) (v := undef) rfl (by kernel_rfl) (by kernel_rfl) (by kernel_rfl) (fun _ _ _ h => h) (Or.inr ⟨by rfl, rfl⟩) (by assumption) ?_
                try simp only [Act.put, List.setIfInBounds_toArray, List.set_cons_zero, List.set_cons_succ]
                refine wpAnyH_take (i := 33) (oi := { dst := some 117, op := Go.Op.fieldAddr 37 (Go.Operand.tmp 11) 1, type := 0, pos := "law.go:189", after := #[{ on := 31, ground := Go.Ground.guard }], guard := some (31, true) }) (v := undef) rfl (by kernel_rfl) (by kernel_rfl) (by kernel_rfl) (fun _ _ _ h => h) (Or.inr ⟨by rfl, rfl⟩) (by assumption) ?_
                try simp only [Act.put, List.setIfInBounds_toArray, List.set_cons_zero, List.set_cons_succ]
                refine wpAnyH_take (i := 34) (oi := { dst := some 118, op := Go.Op.load 3 (Go.Operand.tmp 117), type := 3, pos := "law.go:189", after := #[{ on := 33, ground := Go.Ground.data }, { on := 31, ground := Go.Ground.guard }], guard := some (31, true) }) (v := undef) rfl (by kernel_rfl) (by kernel_rfl) (by kernel_rfl) (fun _ _ _ h => h) (Or.inr ⟨by rfl, rfl⟩) (by assumption) ?_
                try simp only [Act.put, List.setIfInBounds_toArray, List.set_cons_zero, List.set_cons_succ]
                refine wpAnyH_take (i := 35) (oi := { dst := some 119, op := Go.Op.call { callee := Go.Callee.value (Go.Operand.func 21), args := #[Go.Operand.tmp 116, Go.Operand.tmp 118], argTypes := #[29, 3] }, type := 38, pos := "law.go:189", after := #[{ on := 32, ground := Go.Ground.data }, { on := 34, ground := Go.Ground.data }, { on := 31, ground := Go.Ground.chain }, { on := 31, ground := Go.Ground.guard }], guard := some (31, true) }) (v := undef) rfl (by kernel_rfl) (by kernel_rfl) (by kernel_rfl) (fun _ _ _ h => h) (Or.inr ⟨by rfl, rfl⟩) (by assumption) ?_
                try simp only [Act.put, List.setIfInBounds_toArray, List.set_cons_zero, List.set_cons_succ]
                refine wpAnyH_take (i := 36) (oi := { dst := some 120, op := Go.Op.move (Go.Operand.tmp 8), type := 29, pos := "law.go:189", after := #[{ on := 31, ground := Go.Ground.guard }], guard := some (31, true) }) (v := undef) rfl (by kernel_rfl) (by kernel_rfl) (by kernel_rfl) (fun _ _ _ h => h) (Or.inr ⟨by rfl, rfl⟩) (by assumption) ?_
                try simp only [Act.put, List.setIfInBounds_toArray, List.set_cons_zero, List.set_cons_succ]
                refine wpAnyH_take (i := 37) (oi := { dst := some 121, op := Go.Op.fieldAddr 37 (Go.Operand.tmp 11) 1, type := 0, pos := "law.go:189", after := #[{ on := 31, ground := Go.Ground.guard }], guard := some (31, true) }) (v := undef) rfl (by kernel_rfl) (by kernel_rfl) (by kernel_rfl) (fun _ _ _ h => h) (Or.inr ⟨by rfl, rfl⟩) (by assumption) ?_
                try simp only [Act.put, List.setIfInBounds_toArray, List.set_cons_zero, List.set_cons_succ]
                refine wpAnyH_take (i := 38) (oi := { dst := some 122, op := Go.Op.load 3 (Go.Operand.tmp 121), type := 3, pos := "law.go:189", after := #[{ on := 37, ground := Go.Ground.data }, { on := 31, ground := Go.Ground.guard }], guard := some (31, true) }) (v := undef) rfl (by kernel_rfl) (by kernel_rfl) (by kernel_rfl) (fun _ _ _ h => h) (Or.inr ⟨by rfl, rfl⟩) (by assumption) ?_
                try simp only [Act.put, List.setIfInBounds_toArray, List.set_cons_zero, List.set_cons_succ]
                refine wpAnyH_take (i := 39) (oi := { dst := some 123, op := Go.Op.call { callee := Go.Callee.value (Go.Operand.func 21), args := #[Go.Operand.tmp 120, Go.Operand.tmp 122], argTypes := #[29, 3] }, type := 38, pos := "law.go:189", after := #[{ on := 36, ground := Go.Ground.data }, { on := 38, ground := Go.Ground.data }, { on := 35, ground := Go.Ground.chain }, { on := 31, ground := Go.Ground.guard }], guard := some (31, true) }) (v := undef) rfl (by kernel_rfl) (by kernel_rfl) (by kernel_rfl) (fun _ _ _ h => h) (Or.inr ⟨by rfl, rfl⟩) (by assumption) ?_
                try simp only [Act.put, List.setIfInBounds_toArray, List.set_cons_zero, List.set_cons_succ]
                refine wpAnyH_take (i := 40) (oi := { dst := some 124, op := Go.Op.binOp Go.BinOp.neq 38 (Go.Operand.tmp 119) (Go.Operand.tmp 123) 38, type := 4, pos := "law.go:189", after := #[{ on := 35, ground := Go.Ground.data }, { on := 39, ground := Go.Ground.data }, { on := 31, ground := Go.Ground.guard }], guard := some (31, true) }) (v := undef) rfl (by kernel_rfl) (by kernel_rfl) (by kernel_rfl) (fun _ _ _ h => h) (Or.inr ⟨by rfl, rfl⟩) (by assumption) ?_
                try simp only [Act.put, List.setIfInBounds_toArray, List.set_cons_zero, List.set_cons_succ]
                refine wpAnyH_take (i := 41) (oi := { dst := some 125, op := Go.Op.pick (Go.Operand.tmp 115) (Go.Operand.tmp 124) (Go.Operand.const (Go.Value.bool false)), type := 4, pos := "law.go:189", after := #[{ on := 31, ground := Go.Ground.data }, { on := 40, ground := Go.Ground.data }, { on := 27, ground := Go.Ground.guard }], guard := some (27, false) }) (v := ?_) rfl (by kernel_rfl) (by kernel_rfl) (by kernel_rfl) (fun _ _ _ h => h) (Or.inl ⟨by rfl, ?_⟩) (by assumption) ?_
                rotate_left 1
                · (intro w hSw; (try dsimp only at hSw); go_simp; first | done | with_reducible rfl)
                try simp only [Act.put, List.setIfInBounds_toArray, List.set_cons_zero, List.set_cons_succ]
                refine wpAnyH_take (i := 42) (oi := { dst := some 126, op := Go.Op.pick (Go.Operand.tmp 111) (Go.Operand.const (Go.Value.bool true)) (Go.Operand.tmp 125), type := 4, pos := "law.go:189", after := #[{ on := 27, ground := Go.Ground.data }, { on := 41, ground := Go.Ground.data }], guard := none }) (v := ?_) rfl (by kernel_rfl) (by kernel_rfl) (by kernel_rfl) (fun _ _ _ h => h) (Or.inl ⟨by rfl, ?_⟩) (by assumption) ?_
                rotate_left 1
                · (intro w hSw; (try dsimp only at hSw); go_simp; first | done | with_reducible rfl)
                try simp only [Act.put, List.setIfInBounds_toArray, List.set_cons_zero, List.set_cons_succ]
                refine wpAnyH_take (i := 43) (oi := { dst := some 127, op := Go.Op.move (Go.Operand.tmp 126), type := 4, pos := "law.go:189", after := #[{ on := 42, ground := Go.Ground.data }, { on := 39, ground := Go.Ground.chain }], guard := none }) (v := ?_) rfl (by kernel_rfl) (by kernel_rfl) (by kernel_rfl) (fun _ _ _ h => h) (Or.inl ⟨by rfl, ?_⟩) (by assumption) ?_
                rotate_left 1
                · (intro w hSw; (try dsimp only at hSw); go_simp; first | done | with_reducible rfl)
                try simp only [Act.put, List.setIfInBounds_toArray, List.set_cons_zero, List.set_cons_succ]
                refine wpAnyH_take (i := 44) (oi := { dst := some 128, op := Go.Op.move (Go.Operand.tmp 7), type := 29, pos := "law.go:189", after := #[{ on := 43, ground := Go.Ground.guard }], guard := some (43, false) }) (v := ?_) rfl (by kernel_rfl) (by kernel_rfl) (by kernel_rfl) (fun _ _ _ h => h) (Or.inl ⟨by rfl, ?_⟩) (by assumption) ?_
                rotate_left 1
                · (intro w hSw; (try dsimp only at hSw); go_simp; first | done | with_reducible rfl)
                try simp only [Act.put, List.setIfInBounds_toArray, List.set_cons_zero, List.set_cons_succ]
                refine wpAnyH_take (i := 46) (oi := { dst := some 130, op := Go.Op.move (Go.Operand.tmp 8), type := 29, pos := "law.go:189", after := #[{ on := 43, ground := Go.Ground.guard }], guard := some (43, false) }) (v := ?_) rfl (by kernel_rfl) (by kernel_rfl) (by kernel_rfl) (fun _ _ _ h => h) (Or.inl ⟨by rfl, ?_⟩) (by assumption) ?_
                rotate_left 1
                · (intro w hSw; (try dsimp only at hSw); go_simp; first | done | with_reducible rfl)
                try simp only [Act.put, List.setIfInBounds_toArray, List.set_cons_zero, List.set_cons_succ]
                refine wpAnyH_ready (rs := [45]) (by kernel_rfl) (by simp) ?_
                refine AllReadyH.cons (o := { dst := some 129, op := Go.Op.call { callee := Go.Callee.value (Go.Operand.func 27), args := #[Go.Operand.tmp 128], argTypes := #[29] }, type := 3, pos := "law.go:189", after := #[{ on := 44, ground := Go.Ground.data }, { on := 43, ground := Go.Ground.chain }, { on := 43, ground := Go.Ground.guard }], guard := some (43, false) }) rfl (fun K hK => ?_) AllReadyH.nil
                go_simp
                (go_at_call_of 27 (Arena.ptr a); refine (tri_left a b c _ _ _ _ (by first | exact HT2 | exact HT2.noneK ((Drawn.r1 _).keep _) | exact HT2.noneK ((Drawn.r2 _).keep _))).mono ?_; rintro e w15 ⟨rfl, rfl⟩)
                refine hK.out _ _ ?_ (fun hHeld => ?_)
                · exact OB.out _ _ _ _ HT2
                clear hK K
                try simp only [Act.put, List.setIfInBounds_toArray, List.set_cons_zero, List.set_cons_succ]
                refine wpAnyH_ready (rs := [47]) (by kernel_rfl) (by simp) ?_
                refine AllReadyH.cons (o := { dst := some 131, op := Go.Op.call { callee := Go.Callee.value (Go.Operand.func 27), args := #[Go.Operand.tmp 130], argTypes := #[29] }, type := 3, pos := "law.go:189", after := #[{ on := 46, ground := Go.Ground.data }, { on := 45, ground := Go.Ground.chain }, { on := 43, ground := Go.Ground.guard }], guard := some (43, false) }) rfl (fun K hK => ?_) AllReadyH.nil
                go_simp
                (go_at_call_of 27 (Arena.ptr b); refine (tri_left b c a _ _ _ _ (by first | exact HT2.rot | exact HT2.rot.noneK ((Drawn.r1 _).keep _) | exact HT2.rot.noneK ((Drawn.r2 _).keep _))).mono ?_; rintro e w16 ⟨rfl, rfl⟩)
                refine hK.out _ _ ?_ (fun hHeld => ?_)
                · exact OB.out _ _ _ _ HT2
                clear hK K
                try simp only [Act.put, List.setIfInBounds_toArray, List.set_cons_zero, List.set_cons_succ]
                refine wpAnyH_take (i := 48) (oi := { dst := some 132, op := Go.Op.binOp Go.BinOp.neq 3 (Go.Operand.tmp 129) (Go.Operand.tmp 131) 3, type := 4, pos := "law.go:189", after := #[{ on := 45, ground := Go.Ground.data }, { on := 47, ground := Go.Ground.data }, { on := 43, ground := Go.Ground.guard }], guard := some (43, false) }) (v := ?_) rfl (by kernel_rfl) (by kernel_rfl) (by kernel_rfl) (fun _ _ _ h => h) (Or.inl ⟨by rfl, ?_⟩) (by assumption) ?_
                rotate_left 1
                · (intro w hSw; (try dsimp only at hSw); go_simp; first | done | with_reducible rfl)
                try simp only [Act.put, List.setIfInBounds_toArray, List.set_cons_zero, List.set_cons_succ]
                refine wpAnyH_take (i := 49) (oi := { dst := some 133, op := Go.Op.pick (Go.Operand.tmp 127) (Go.Operand.const (Go.Value.bool true)) (Go.Operand.tmp 132), type := 4, pos := "law.go:189", after := #[{ on := 43, ground := Go.Ground.data }, { on := 48, ground := Go.Ground.data }], guard := none }) (v := ?_) rfl (by kernel_rfl) (by kernel_rfl) (by kernel_rfl) (fun _ _ _ h => h) (Or.inl ⟨by rfl, ?_⟩) (by assumption) ?_
                rotate_left 1
                · (intro w hSw; (try dsimp only at hSw); go_simp; first | done | with_reducible rfl)
                try simp only [Act.put, List.setIfInBounds_toArray, List.set_cons_zero, List.set_cons_succ]
                refine wpAnyH_take (i := 50) (oi := { dst := some 134, op := Go.Op.move (Go.Operand.tmp 133), type := 4, pos := "law.go:189", after := #[{ on := 49, ground := Go.Ground.data }, { on := 47, ground := Go.Ground.chain }], guard := none }) (v := ?_) rfl (by kernel_rfl) (by kernel_rfl) (by kernel_rfl) (fun _ _ _ h => h) (Or.inl ⟨by rfl, ?_⟩) (by assumption) ?_
                rotate_left 1
                · (intro w hSw; (try dsimp only at hSw); go_simp; first | done | with_reducible rfl)
                try simp only [Act.put, List.setIfInBounds_toArray, List.set_cons_zero, List.set_cons_succ]
                refine wpAnyH_take (i := 51) (oi := { dst := some 135, op := Go.Op.move (Go.Operand.tmp 7), type := 29, pos := "law.go:189", after := #[{ on := 50, ground := Go.Ground.guard }], guard := some (50, false) }) (v := ?_) rfl (by kernel_rfl) (by kernel_rfl) (by kernel_rfl) (fun _ _ _ h => h) (Or.inl ⟨by rfl, ?_⟩) (by assumption) ?_
                rotate_left 1
                · (intro w hSw; (try dsimp only at hSw); go_simp; first | done | with_reducible rfl)
                try simp only [Act.put, List.setIfInBounds_toArray, List.set_cons_zero, List.set_cons_succ]
                refine wpAnyH_take (i := 52) (oi := { dst := some 136, op := Go.Op.move (Go.Operand.tmp 12), type := 3, pos := "law.go:189", after := #[{ on := 50, ground := Go.Ground.guard }], guard := some (50, false) }) (v := ?_) rfl (by kernel_rfl) (by kernel_rfl) (by kernel_rfl) (fun _ _ _ h => h) (Or.inl ⟨by rfl, ?_⟩) (by assumption) ?_
                rotate_left 1
                · (intro w hSw; (try dsimp only at hSw); go_simp; first | done | with_reducible rfl)
                try simp only [Act.put, List.setIfInBounds_toArray, List.set_cons_zero, List.set_cons_succ]
                refine wpAnyH_take (i := 54) (oi := { dst := some 138, op := Go.Op.move (Go.Operand.tmp 8), type := 29, pos := "law.go:189", after := #[{ on := 50, ground := Go.Ground.guard }], guard := some (50, false) }) (v := ?_) rfl (by kernel_rfl) (by kernel_rfl) (by kernel_rfl) (fun _ _ _ h => h) (Or.inl ⟨by rfl, ?_⟩) (by assumption) ?_
                rotate_left 1
                · (intro w hSw; (try dsimp only at hSw); go_simp; first | done | with_reducible rfl)
                try simp only [Act.put, List.setIfInBounds_toArray, List.set_cons_zero, List.set_cons_succ]
                refine wpAnyH_take (i := 55) (oi := { dst := some 139, op := Go.Op.move (Go.Operand.tmp 14), type := 3, pos := "law.go:189", after := #[{ on := 50, ground := Go.Ground.guard }], guard := some (50, false) }) (v := ?_) rfl (by kernel_rfl) (by kernel_rfl) (by kernel_rfl) (fun _ _ _ h => h) (Or.inl ⟨by rfl, ?_⟩) (by assumption) ?_
                rotate_left 1
                · (intro w hSw; (try dsimp only at hSw); go_simp; first | done | with_reducible rfl)
                try simp only [Act.put, List.setIfInBounds_toArray, List.set_cons_zero, List.set_cons_succ]
                refine wpAnyH_ready (rs := [53]) (by kernel_rfl) (by simp) ?_
                refine AllReadyH.cons (o := { dst := some 137, op := Go.Op.call { callee := Go.Callee.value (Go.Operand.func 29), args := #[Go.Operand.tmp 135, Go.Operand.tmp 136], argTypes := #[29, 3] }, type := 3, pos := "law.go:189", after := #[{ on := 51, ground := Go.Ground.data }, { on := 52, ground := Go.Ground.data }, { on := 50, ground := Go.Ground.chain }, { on := 50, ground := Go.Ground.guard }], guard := some (50, false) }) rfl (fun K hK => ?_) AllReadyH.nil
                go_simp
                (go_at_call_of 29 (Arena.ptr a); refine (tri_base a b c _ _ _ av.1.1 _ (by first | exact HT2 | exact HT2.noneK ((Drawn.r1 _).keep _) | exact HT2.noneK ((Drawn.r2 _).keep _)) (by omega) (by omega)).mono ?_; rintro e w17 ⟨rfl, HT5⟩)
                refine hK.out _ _ ?_ (fun hHeld => ?_)
                · exact OB.out _ _ _ _ HT5
                clear hK K
                try simp only [Act.put, List.setIfInBounds_toArray, List.set_cons_zero, List.set_cons_succ]
                refine wpAnyH_ready (rs := [56]) (by kernel_rfl) (by simp) ?_
                refine AllReadyH.cons (o := { dst := some 140, op := Go.Op.call { callee := Go.Callee.value (Go.Operand.func 29), args := #[Go.Operand.tmp 138, Go.Operand.tmp 139], argTypes := #[29, 3] }, type := 3, pos := "law.go:189", after := #[{ on := 54, ground := Go.Ground.data }, { on := 55, ground := Go.Ground.data }, { on := 53, ground := Go.Ground.chain }, { on := 50, ground := Go.Ground.guard }], guard := some (50, false) }) rfl (fun K hK => ?_) AllReadyH.nil
                go_simp
                (go_at_call_of 29 (Arena.ptr b); refine (tri_base b c a _ _ _ av.1.1 _ (by first | exact HT5.rot | exact HT5.rot.noneK ((Drawn.r1 _).keep _) | exact HT5.rot.noneK ((Drawn.r2 _).keep _)) (by omega) (by omega)).mono ?_; rintro e w18 ⟨rfl, HT6⟩; replace HT6 := HT6.rot.rot)
                refine hK.out _ _ ?_ (fun hHeld => ?_)
                · exact OB.out _ _ _ _ HT6
                clear hK K
                try simp only [Act.put, List.setIfInBounds_toArray, List.set_cons_zero, List.set_cons_succ]
                refine wpAnyH_take (i := 57) (oi := { dst := some 141, op := Go.Op.binOp Go.BinOp.neq 3 (Go.Operand.tmp 137) (Go.Operand.tmp 140) 3, type := 4, pos := "law.go:189", after := #[{ on := 53, ground := Go.Ground.data }, { on := 56, ground := Go.Ground.data }, { on := 50, ground := Go.Ground.guard }], guard := some (50, false) }) (v := ?_) rfl (by kernel_rfl) (by kernel_rfl) (by kernel_rfl) (fun _ _ _ h => h) (Or.inl ⟨by rfl, ?_⟩) (by assumption) ?_
                rotate_left 1
                · (intro w hSw; (try dsimp only at hSw); go_simp; first | done | with_reducible rfl)
                try simp only [Act.put, List.setIfInBounds_toArray, List.set_cons_zero, List.set_cons_succ]
                refine wpAnyH_take (i := 58) (oi := { dst := some 142, op := Go.Op.pick (Go.Operand.tmp 134) (Go.Operand.const (Go.Value.bool true)) (Go.Operand.tmp 141), type := 4, pos := "law.go:189", after := #[{ on := 50, ground := Go.Ground.data }, { on := 57, ground := Go.Ground.data }], guard := none }) (v := ?_) rfl (by kernel_rfl) (by kernel_rfl) (by kernel_rfl) (fun _ _ _ h => h) (Or.inl ⟨by rfl, ?_⟩) (by assumption) ?_
                rotate_left 1
                · (intro w hSw; (try dsimp only at hSw); go_simp; first | done | with_reducible rfl)
                try simp only [Act.put, List.setIfInBounds_toArray, List.set_cons_zero, List.set_cons_succ]
                refine wpAnyH_done (by kernel_rfl) ?_ _
                refine NoPanic.normal ?_
                go_wp2_with fail
                go_meet
                case rel => exact ⟨rfl, _, HT6, by rw [set_last]; have := hal.out; omega⟩
            case rest =>
              obtain ⟨rfl, s3, T5, hl4⟩ := hcut
              have T5 := Lib.hid T5.less
              clear b0 b1 b2 b3
              go_wp2_with fail
              go_roundg (gk - 1)
              case measure => omega
              case rel => exact ⟨k + 1, s3, sc', by omega, by go_num, T5.out, hl4, hl3⟩
        · obtain rfl : k = len := by omega
          have q := hT.keep
          have Q := Lib.hid q
          clear q hT
          go_wp2
          go_ret
          exact ⟨rfl, Q.out.below (Nat.le_refl _) (fun _ _ h => h)⟩

end Go.Proofs.Ytklknkeanmjhnaa.ArenaTwice
